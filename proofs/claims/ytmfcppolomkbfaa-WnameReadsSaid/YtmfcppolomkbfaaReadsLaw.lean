/-
  WnameReads: which name stands at a place, and what is behind it, or why there is none.
-/
import Derived.Test.YtmfcppolomkbfaaWAnswers
import Derived.Test.YtmfcppolomkbfaaWRefGet
namespace Go.Proofs.Ytmfcppolomkbfaa
open Go.RowKit

set_option maxHeartbeats 400000 in
theorem reads_dark (A : Option Addr) (m c : Nat) (a : Int) (w : World) (hm : 70000 < m) (hm2 : m ≤ maxLen) :
    Calls Try.prog 4 #[.slice A m c, .int .i64 a] w (TrueB w) := by
  unfold maxLen at hm2
  have d1 : decide (70000 < (m : Int)) = true := by simp; omega
  have HW := Lib.hid (Below.refl w.heap.size w)
  have hz := Nat.le_refl w.heap.size
  go_enter Try.func4, Try.ntmps4
  go_wp2_with fail
  refine (wanswers_any _).mono ?_
  rintro e w1 ⟨rfl, hb⟩
  replace HW := Lib.hid (HW.out.trans (hb.mono hz))
  replace hz := Nat.le_trans hz hb.size
  clear hb
  go_wp2
  go_ret
  exact ⟨rfl, HW.out⟩

set_option maxHeartbeats 2000000 in
theorem reads_light (A : Option Addr) (m c : Nat) (b : List UInt8) (a : Int) (w : World) (hbl : b.length = m) (hrow : Row w w.heap.size A (b.map bc)) (hm : m ≤ 70000) (hc : m ≤ c) (hcm : c ≤ maxLen) (ha : a ≤ 9223372036854775807) :
    Calls Try.prog 4 #[.slice A m c, .int .i64 a] w (TrueB w) := by
  obtain ⟨i0, hi0, hz0, hz1, hz2⟩ := info_parts u8_info
  have d1 : decide (70000 < (m : Int)) = false := by simp; omega
  have HG := Lib.hid (fun W A' c' hr h1 h2 => wget_any A' m c' b a W hbl hr h1 h2 ha)
  have HF := Lib.hid (fun W hr => wref_any A m c b a W hbl hr hcm hc ha)
  generalize getW b a = r at HG HF
  obtain ⟨n, k, f⟩ := r
  have hr1 : ((k : Int) == (k : Int)) = true := by simp
  have hr2 : ((f : Int) == (f : Int)) = true := by simp
  have HEX := Lib.hid (fun hml A' B' c1' c2' (w' : World) hA' hB' => exact_any A' B' n.length n.length c1' c2' w'.heap.size n n w' rfl rfl hA' hB' hml)
  rw [show decide (n = n) = true by simp] at HEX
  have HL := Lib.hid hbl
  have HA0 := Lib.hid hrow
  have HA := Lib.hid (hrow.alloc (Nat.le_refl _) (.cells #[] 5))
  clear hbl hrow ha
  go_enter Try.func4, Try.ntmps4
  go_wp2_with (
    at_builtin
    refine wpList_append_row rfl (.tmp 16) (.tmp 17) _ rfl w.heap.size 5 i0 _ 1 1 Try.underlying26 hi0 hz0 hz1 hz2 rfl (by omega) (.slice (some ⟨w.heap.size, 0, none⟩) 0 0) 0 [] rfl
      (own_lit _ _ _) A m c w.heap.size (b.map bc) rfl (by rw [List.length_map, HL.out, Nat.mul_one]) HA.out (bc_one b) (by unfold maxLen; omega) (by omega) (by simp) ?_
    intro v2 w2 hown2 hg2
    simp only [Nat.zero_add, List.nil_append] at hown2
    obtain ⟨A2, c2, rfl, hc1, hc2⟩ := own_form hown2
    have H2 := Lib.hid (Row.of_own hown2)
    have hb2 := own_below ((Below.refl w.heap.size w).alloc (Nat.le_refl _) _) (Nat.le_refl _) (by simp) (own_lit w 5 1) hg2
    have hz := hb2.size
    have HW := Lib.hid hb2
    clear hown2 hg2 hb2)
  replace HA0 := Lib.hid ((HA0.out.below HW.out).mono hz)
  clear HA
  refine (HG.out _ _ _ H2.out hc2 hc1).mono ?_
  rintro e w3 ⟨v3, rfl, ho, hb⟩
  obtain ⟨A3, c3, rfl, hc3, hc4⟩ := own_form ho
  have H3 := Lib.hid (Row.of_own ho)
  clear ho
  replace HA0 := Lib.hid ((HA0.out.below hb).mono hb.size)
  replace HW := Lib.hid (HW.out.trans (hb.mono hz))
  replace hz := Nat.le_trans hz hb.size
  clear hb
  go_wp2_with fail
  refine (HF.out _ HA0.out).mono ?_
  rintro e w4 ⟨v4, rfl, ho, hb⟩
  obtain ⟨A4, c4, rfl, hc5, hc6⟩ := own_form ho
  have H4 := Lib.hid (Row.of_own ho)
  clear ho
  replace H3 := Lib.hid ((H3.out.below hb).mono hb.size)
  replace HW := Lib.hid (HW.out.trans (hb.mono hz))
  replace hz := Nat.le_trans hz hb.size
  clear hb
  go_wp2_with fail
  refine (wanswers_any _).mono ?_
  rintro e w5 ⟨rfl, hb⟩
  replace H3 := Lib.hid ((H3.out.below hb).mono hb.size)
  replace H4 := Lib.hid ((H4.out.below hb).mono hb.size)
  replace HW := Lib.hid (HW.out.trans (hb.mono hz))
  replace hz := Nat.le_trans hz hb.size
  clear hb
  go_wp2_with fail
  refine (HEX.out (Nat.le_trans hc3 hc4) _ _ _ _ _ H3.out H4.out).mono ?_
  rintro e w6 ⟨rfl, q, rfl⟩
  go_wp2
  go_ret
  exact ⟨rfl, below_drewN' HW.out _⟩

theorem reads_any (A : Option Addr) (m c : Nat) (b : List UInt8) (a : Int) (w : World) (hbl : b.length = m) (hrow : Row w w.heap.size A (b.map bc)) (hm : m ≤ maxLen) (hc : m ≤ c) (hcm : c ≤ maxLen) (ha : a ≤ 9223372036854775807) :
    Calls Try.prog 4 #[.slice A m c, .int .i64 a] w (TrueB w) := by
  by_cases h : m ≤ 70000
  · exact reads_light A m c b a w hbl hrow h hc hcm ha
  · exact reads_dark A m c a w (by omega) hm

end Go.Proofs.Ytmfcppolomkbfaa
