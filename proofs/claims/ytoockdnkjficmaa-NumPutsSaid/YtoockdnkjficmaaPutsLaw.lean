/-
  NumPuts: num.Fits and num.Put answer what the document says, at all arguments.
-/
import Derived.Test.YtoockdnkjficmaaAnswers
import Derived.Test.YtoockdnkjficmaaSame
namespace Go.Proofs.Ytoockdnkjficmaa
open Go.RowKit

set_option maxHeartbeats 400000 in
theorem puts_long (A : Option Addr) (m c : Nat) (n s : Int) (w : World) (hm : m ≤ maxLen) (h : 5000 < m) :
    Calls Try.prog 3 #[.slice A m c, .int .i64 n, .int .i64 s] w (TrueB w) := by
  unfold maxLen at hm
  go_enter Try.func3, Try.ntmps3
  go_wp2_with (go_at_call 8; refine (answers_any _).mono ?_; rintro e w1 ⟨rfl, hb1⟩)
  go_ret
  exact ⟨rfl, hb1⟩

set_option maxHeartbeats 400000 in
theorem puts_short (A : Option Addr) (m c : Nat) (l : List UInt8) (n s : Int) (w : World) (hl : l.length = m) (hA : Row w w.heap.size A (l.map bc)) (hn : n ≤ 9223372036854775807) (h : m ≤ 5000) :
    Calls Try.prog 3 #[.slice A m c, .int .i64 n, .int .i64 s] w (TrueB w) := by
  obtain ⟨i0, hi0, hz0, hz1, hz2⟩ := info_parts u8_info
  have HL := Lib.hid hl
  have HA := Lib.hid hA
  clear hl hA
  have heq : (fitB n s == fitB n s) = true := by simp
  go_enter Try.func3, Try.ntmps3
  go_wp2_with fail
  refine (answers_any _).mono ?_
  rintro e w1 ⟨rfl, hb1⟩
  have hz := hb1.size
  have HB1 := Lib.hid hb1
  have HA1 := Lib.hid (HA.out.below hb1)
  clear hb1
  go_wp2_with fail
  refine (fits_any _ _ _).mono ?_
  rintro e w' ⟨rfl, rfl⟩
  go_wp2_with fail
  refine (ref_fits_any _ _ _ hn).mono ?_
  rintro e w' ⟨rfl, rfl⟩
  have HA2 := Lib.hid (HA1.out.alloc hz (.cells #[] 5))
  go_wp2_with (
    at_builtin
    refine wpList_append_row rfl (.tmp 22) (.tmp 23) _ rfl w1.heap.size 5 i0 _ 1 1 Try.underlying22 hi0 hz0 hz1 hz2 rfl (by omega) (.slice (some ⟨w1.heap.size, 0, none⟩) 0 0) 0 [] rfl
      (own_lit _ _ _) A m c w.heap.size (l.map bc) rfl (by rw [List.length_map, HL.out]; omega) HA2.out (bc_one l) (by unfold maxLen; omega) (by omega) (by simp) ?_
    intro v2 w2 hown2 hg2
    simp only [Nat.zero_add, List.nil_append] at hown2
    obtain ⟨A2, c2, rfl, hc1, hc2⟩ := own_form hown2
    have HO2 := Lib.hid hown2
    have hB2 := (own_below ((Below.refl w1.heap.size w1).alloc (Nat.le_refl _) _) (Nat.le_refl _) (by simp) (own_lit w1 5 1) hg2)
    have hz2 := hB2.size
    have HB2 := Lib.hid hB2
    clear hown2 hg2 hB2)
  refine (put_any A2 m c2 w2.heap.size l n s w2 HL.out (Row.of_own HO2.out) (Nat.le_refl _) (by omega)).mono ?_
  rintro e w3 ⟨A3, c3, rfl, hown3, hB3⟩
  have hz3 := hB3.size
  have HO3 := Lib.hid hown3
  have HB3 := Lib.hid hB3
  have HA3 := Lib.hid (((HA1.out.below (HB2.out.mono hz)).below (HB3.out.mono (by omega))))
  clear hown3 hB3
  go_wp2_with fail
  refine (ref_put_any A m c w.heap.size l n s w3 HL.out HA3.out (by omega) (by omega) hn).mono ?_
  rintro e w4 ⟨A4, c4, rfl, hown4, hB4⟩
  have HR3 := Lib.hid ((Row.of_own HO3.out).below hB4)
  have HR4 := Lib.hid (Row.of_own hown4)
  have hz4 := hB4.size
  have HB4 := Lib.hid hB4
  clear hB4
  go_wp2_with fail
  refine (same_yes A3 A4 _ _ c3 c4 w4.heap.size (putL l n s) w4 rfl rfl (HR3.out.mono hz4) HR4.out ?_).mono ?_
  · exact (own_form hown4).elim fun _ h => h.elim fun _ h => Nat.le_trans h.2.1 h.2.2
  clear hown4
  rintro e w5 ⟨rfl, k5, rfl⟩
  go_wp2
  go_ret
  exact ⟨rfl, below_drewN' (((HB1.out.trans (HB2.out.mono hz)).trans (HB3.out.mono (by omega))).trans (HB4.out.mono (by omega))) _⟩

end Go.Proofs.Ytoockdnkjficmaa
