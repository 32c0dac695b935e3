/-
  NumBack: a number that fits is read as it was written, behind whatever bytes.
-/
import Derived.Test.YtoockdnkjficmaaAnswers
import Derived.Test.YtoockdnkjficmaaGet
import Derived.Test.YtoockdnkjficmaaSame
namespace Go.Proofs.Ytoockdnkjficmaa
open Go.RowKit

set_option maxHeartbeats 400000 in
theorem back_long (A : Option Addr) (m c : Nat) (n s : Int) (w : World) (hm : m ≤ maxLen) (h : 5000 < m) :
    Calls Try.prog 5 #[.slice A m c, .int .i64 n, .int .i64 s] w (TrueB w) := by
  unfold maxLen at hm
  have hd : decide ((5000 : Int) < (m : Int)) = true := by simp; omega
  go_enter Try.func5, Try.ntmps5
  go_wp2_with fail
  refine (answers_any _).mono ?_
  rintro e w1 ⟨rfl, hb1⟩
  have hz1 := hb1.size
  have HB1 := Lib.hid hb1
  clear hb1
  go_wp2_with fail
  refine (answers_any _).mono ?_
  rintro e w2 ⟨rfl, hb2⟩
  have HB2 := Lib.hid hb2
  clear hb2
  go_wp2
  go_ret
  exact ⟨rfl, HB1.out.trans (HB2.out.mono hz1)⟩

set_option maxHeartbeats 400000 in
theorem back_no (A : Option Addr) (m c : Nat) (n s : Int) (w : World) (hn : n ≤ 9223372036854775807) (h : m ≤ 5000) (hf : fitB n s = false) :
    Calls Try.prog 5 #[.slice A m c, .int .i64 n, .int .i64 s] w (TrueB w) := by
  have hd : decide ((5000 : Int) < (m : Int)) = false := by simp; omega
  have hf2 := fun W => ref_fits_any n s W hn
  rw [hf] at hf2
  have HF := Lib.hid hf2
  clear hf hf2
  go_enter Try.func5, Try.ntmps5
  go_wp2_with fail
  refine (answers_any _).mono ?_
  rintro e w1 ⟨rfl, hb1⟩
  have hz1 := hb1.size
  have HB1 := Lib.hid hb1
  clear hb1
  go_wp2_with fail
  refine (HF.out _).mono ?_
  rintro e w' ⟨rfl, rfl⟩
  go_wp2_with fail
  refine (answers_any _).mono ?_
  rintro e w2 ⟨rfl, hb2⟩
  have HB2 := Lib.hid hb2
  clear hb2
  go_wp2
  go_ret
  exact ⟨rfl, HB1.out.trans (HB2.out.mono hz1)⟩

set_option maxHeartbeats 800000 in
theorem back_yes (A : Option Addr) (m c : Nat) (l : List UInt8) (n s : Nat) (w : World) (hl : l.length = m) (hA : Row w w.heap.size A (l.map bc)) (h : m ≤ 5000) (hf : fitB n s = true) :
    Calls Try.prog 5 #[.slice A m c, .int .i64 n, .int .i64 s] w (TrueB w) := by
  obtain ⟨h1, h2, h3, h4⟩ : (1 : Int) ≤ s ∧ (s : Int) ≤ 7 ∧ (0 : Int) ≤ n ∧ (n : Int) < 2 ^ (8 * (s : Int).toNat) := by simpa [fitB] using hf
  have hs7 : s ≤ 7 := by omega
  have hs1 : 1 ≤ s := by omega
  have h4n : n < 2 ^ (8 * s) := by simp only [Int.toNat_natCast] at h4; exact_mod_cast h4
  have hn : (n : Int) ≤ 9223372036854775807 := by
    have := Nat.pow_le_pow_right (n := 2) (by omega) (show 8 * s ≤ 56 by omega)
    omega
  have hf2 := fun W => ref_fits_any n s W hn
  rw [hf] at hf2
  have hg1 : getL (l ++ digs n s) m s = ((n : Int), (0 : Int)) := by
    subst hl
    rw [getL_ok hs1 hs7 (by simp [length_digs]), cutL_behind, numN_digs h4n]
  have hg2 : getL (l ++ digs n s) ((m : Int) + 1) s = (0, 3) := getL_short (by omega) (by omega) (by omega) (by simp [length_digs, hl]; omega)
  have hlen : (l ++ digs n s).length = m + s := by simp [length_digs, hl]
  obtain ⟨i0, hi0, hz0, hz1, hz2⟩ := info_parts u8_info
  have hd : decide ((5000 : Int) < (m : Int)) = false := by simp; omega
  have HF := Lib.hid hf2
  have HL := Lib.hid hl
  have HA := Lib.hid hA
  have H4 := Lib.hid h4n
  have HF0 := Lib.hid hf
  have HG1 := Lib.hid hg1
  have HG2 := Lib.hid hg2
  have HLEN := Lib.hid hlen
  clear hf hf2 hl hA h4 h4n hg1 hg2 hlen
  go_enter Try.func5, Try.ntmps5
  go_wp2_with fail
  refine (answers_any _).mono ?_
  rintro e w1 ⟨rfl, hb1⟩
  have hw1 := hb1.size
  have HB1 := Lib.hid hb1
  have HA1 := Lib.hid (HA.out.below hb1)
  clear hb1
  go_wp2_with fail
  refine (HF.out _).mono ?_
  rintro e w' ⟨rfl, rfl⟩
  have HA2 := Lib.hid (HA1.out.alloc hw1 (.cells #[] 5))
  go_wp2_with (
    at_builtin
    refine wpList_append_row rfl (.tmp 26) (.tmp 27) _ rfl w1.heap.size 5 i0 _ 1 1 Try.underlying22 hi0 hz0 hz1 hz2 rfl (by omega) (.slice (some ⟨w1.heap.size, 0, none⟩) 0 0) 0 [] rfl
      (own_lit _ _ _) A m c w.heap.size (l.map bc) rfl (by rw [List.length_map, HL.out]; omega) HA2.out (bc_one l) (by unfold maxLen; omega) (by omega) (by simp) ?_
    intro v2 w2 hown2 hg2
    simp only [Nat.zero_add, List.nil_append] at hown2
    obtain ⟨A2, c2, rfl, hc1, hc2⟩ := own_form hown2
    have HO2 := Lib.hid hown2
    have hB2 := (own_below ((Below.refl w1.heap.size w1).alloc (Nat.le_refl _) _) (Nat.le_refl _) (by simp) (own_lit w1 5 1) hg2)
    have hw2 := hB2.size
    have HB2 := Lib.hid hB2
    clear hown2 hg2 hB2)
  refine (put_yes A2 m c2 w2.heap.size l n s w2 HL.out (Row.of_own HO2.out) (Nat.le_refl _) (by omega) HF0.out).mono ?_
  rintro e w3 ⟨A3, c3, rfl, hown3, hB3⟩
  rw [HLEN.out] at hown3 ⊢
  obtain ⟨_, _, hA3, hc3, hc4⟩ := own_form hown3
  have hc5 : m + s ≤ c3 := by injection hA3 with _ _ e; rw [e]; exact hc3
  clear hA3 hc3 hc4
  have hw3 := hB3.size
  have HO3 := Lib.hid hown3
  have HB3 := Lib.hid hB3
  have HA3 := Lib.hid (((HA1.out.below (HB2.out.mono hw1)).below (HB3.out.mono (by omega))))
  clear hown3 hB3
  go_wp2_with fail
  refine (get_any A3 (m + s) c3 w3.heap.size (l ++ digs n s) m s w3 HLEN.out (Row.of_own HO3.out) (by unfold maxLen; omega) hc5).mono ?_
  rw [HG1.out]
  rintro e w' ⟨rfl, rfl⟩
  go_wp2_with fail
  refine (get_any A3 (m + s) c3 w3.heap.size (l ++ digs n s) ((m : Int) + 1) s w3 HLEN.out (Row.of_own HO3.out) (by unfold maxLen; omega) hc5).mono ?_
  rw [HG2.out]
  rintro e w' ⟨rfl, rfl⟩
  go_wp2_with fail
  refine (same_yes A3 A m m c3 c w3.heap.size l w3 HL.out HL.out ?_ (HA3.out.mono (by omega)) (by unfold maxLen; omega)).mono ?_
  · have hr := (Row.of_own HO3.out).take m
    rwa [← List.map_take, List.take_left' HL.out] at hr
  rintro e w5 ⟨rfl, k5, rfl⟩
  go_wp2
  go_ret
  exact ⟨rfl, below_drewN' ((HB1.out.trans (HB2.out.mono hw1)).trans (HB3.out.mono (by omega))) _⟩

theorem back_any (A : Option Addr) (m c : Nat) (l : List UInt8) (n s : Int) (w : World) (hl : l.length = m) (hA : Row w w.heap.size A (l.map bc)) (hn : n ≤ 9223372036854775807) (hm : m ≤ maxLen) :
    Calls Try.prog 5 #[.slice A m c, .int .i64 n, .int .i64 s] w (TrueB w) := by
  by_cases h5 : m ≤ 5000
  · cases hf : fitB n s with
    | false => exact back_no A m c n s w hn h5 hf
    | true =>
      have h := hf
      simp only [fitB, decide_eq_true_eq] at h
      obtain ⟨n', rfl⟩ : ∃ k : Nat, n = k := ⟨n.toNat, by omega⟩
      obtain ⟨s', rfl⟩ : ∃ k : Nat, s = k := ⟨s.toNat, by omega⟩
      exact back_yes A m c l n' s' w hl hA h5 hf
  · exact back_long A m c n s w hm (by omega)

end Go.Proofs.Ytoockdnkjficmaa
