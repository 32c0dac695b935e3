/-
  NumGets: num.Get answers what the document says.
-/
import Derived.Test.YtoockdnkjficmaaAnswers
import Derived.Test.YtoockdnkjficmaaGet
namespace Go.Proofs.Ytoockdnkjficmaa
open Go.RowKit

set_option maxHeartbeats 400000 in
theorem gets_any (A : Option Addr) (m c : Nat) (l : List UInt8) (a s : Int) (w : World) (hl : l.length = m) (hA : Row w w.heap.size A (l.map bc)) (hk : m ≤ 140737488351232) :
    Calls Try.prog 4 #[.slice A m c, .int .i64 a, .int .i64 s] w (TrueB w) := by
  obtain ⟨i0, hi0, hz0, hz1, hz2⟩ := info_parts u8_info
  have HL := Lib.hid hl
  have HA := Lib.hid hA
  clear hl hA
  have HA2 := Lib.hid (HA.out.alloc (Nat.le_refl _) (.cells #[] 5))
  go_enter Try.func4, Try.ntmps4
  go_wp2_with (
    at_builtin
    refine wpList_append_row rfl (.tmp 12) (.tmp 13) _ rfl w.heap.size 5 i0 _ 1 1 Try.underlying22 hi0 hz0 hz1 hz2 rfl (by omega) (.slice (some ⟨w.heap.size, 0, none⟩) 0 0) 0 [] rfl
      (own_lit _ _ _) A m c w.heap.size (l.map bc) rfl (by rw [List.length_map, HL.out]; omega) HA2.out (bc_one l) (by unfold maxLen; omega) (by omega) (by simp) ?_
    intro v2 w2 hown2 hg2
    simp only [Nat.zero_add, List.nil_append] at hown2
    obtain ⟨A2, c2, rfl, hc1, hc2⟩ := own_form hown2
    have HO2 := Lib.hid hown2
    have hB2 := (own_below ((Below.refl w.heap.size w).alloc (Nat.le_refl _) _) (Nat.le_refl _) (by simp) (own_lit w 5 1) hg2)
    have hz2 := hB2.size
    have HB2 := Lib.hid hB2
    clear hown2 hg2 hB2)
  refine (get_any A2 m c2 w2.heap.size l a s w2 HL.out (Row.of_own HO2.out) (by unfold maxLen; omega) hc1).mono ?_
  rintro e w' ⟨rfl, rfl⟩
  have HA3 := Lib.hid (HA.out.below HB2.out)
  go_wp2_with fail
  refine (ref_get_any A m c w.heap.size l a s w2 HL.out HA3.out (by unfold maxLen; omega)).mono ?_
  rintro e w' ⟨rfl, rfl⟩
  go_wp2_with fail
  refine (answers_any _).mono ?_
  rintro e w3 ⟨rfl, hb3⟩
  have HB3 := Lib.hid hb3
  clear hb3
  go_wp2
  go_ret
  exact ⟨rfl, HB2.out.trans (HB3.out.mono hz2)⟩

end Go.Proofs.Ytoockdnkjficmaa
