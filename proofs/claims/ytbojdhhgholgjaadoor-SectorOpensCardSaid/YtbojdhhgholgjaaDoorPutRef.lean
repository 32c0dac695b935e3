/-
  The contract of the document's Put.
-/
import Derived.Test.YtbojdhhgholgjaaDoorPut
namespace Go.Proofs.YtbojdhhgholgjaaDoor
open Go.RowKit

def RefPutRel (B g m n s : Nat) (w : World) (l : List UInt8) (v1 : Value) (N i : Value) (wr : World) : Prop :=
  ∃ k : Nat, k ≤ s ∧ i = .int .i64 ((s : Int) - 1 - k) ∧ N = .int .i64 ((n : Int) / 2 ^ (8 * k)) ∧ Whole wr g 5 (laid n s k) ∧ wr.ownsRow B 5 1 v1 m (l.map bc) ∧ Below B w wr

set_option maxHeartbeats 400000 in
theorem ref_put_no (A : Option Addr) (k c H : Nat) (l : List UInt8) (n s : Int) (w : World) (hl : l.length = k) (hA : Row w H A (l.map bc)) (hH : H ≤ w.heap.size) (hb : k ≤ 140737488355328) (hn : n ≤ 9223372036854775807) (hf : fitB n s = false) :
    Calls Tryd.prog 17 #[.slice A k c, .int .i64 n, .int .i64 s] w (Owned w l) := by
  have hf2 := fun W => ref_fits_any n s W hn
  rw [hf] at hf2
  obtain ⟨i0, hi0, hz0, hz1, hz2⟩ := info_parts u8_info
  have HF := Lib.hid hf2
  have HL := Lib.hid hl
  have HA := Lib.hid (hA.alloc hH (.cells #[] 5))
  clear hf hf2 hl hA hH
  go_enter Tryd.func17, Tryd.ntmps17
  go_wp2_with (first
    | (go_at_call 16; refine (HF.out _).mono ?_; rintro e w' ⟨rfl, rfl⟩)
    | (at_builtin
       refine wpList_append_row rfl (.tmp 10) (.tmp 11) _ rfl w.heap.size 5 i0 _ 1 1 Tryd.underlying24 hi0 hz0 hz1 hz2 rfl (by omega) (.slice (some ⟨w.heap.size, 0, none⟩) 0 0) 0 [] rfl
         (own_lit _ _ _) A k c H (l.map bc) rfl (by rw [List.length_map, HL.out]; omega) HA.out (bc_one l) (by unfold maxLen; omega) (by omega) (by simp) ?_
       intro v1 w1 hown1 hg1
       simp only [Nat.zero_add, List.nil_append] at hown1
       obtain ⟨A1, c1, rfl, hc1, hc2⟩ := own_form hown1
       have HO1 := Lib.hid hown1
       have HB1 := Lib.hid (own_below ((Below.refl w.heap.size w).alloc (Nat.le_refl _) _) (Nat.le_refl _) (by simp) (own_lit w 5 1) hg1)
       clear hown1 hg1))
  go_ret
  have hL := HL.out
  have ho := HO1.out
  rw [← hL] at ho
  exact ⟨A1, c1, by rw [hL]; rfl, ho, HB1.out⟩

set_option maxRecDepth 4000 in
set_option maxHeartbeats 400000 in
theorem ref_put_yes (A : Option Addr) (m c H : Nat) (l : List UInt8) (n s : Nat) (w : World) (hl : l.length = m) (hA : Row w H A (l.map bc)) (hH : H ≤ w.heap.size) (hb : m ≤ 140737488355000) (hf : fitB n s = true) :
    Calls Tryd.prog 17 #[.slice A m c, .int .i64 n, .int .i64 s] w (Owned w (l ++ digs n s)) := by
  obtain ⟨h1, h2, h3, h4⟩ : (1 : Int) ≤ s ∧ (s : Int) ≤ 7 ∧ (0 : Int) ≤ n ∧ (n : Int) < 2 ^ (8 * (s : Int).toNat) := by simpa [fitB] using hf
  have hn : (n : Int) ≤ 9223372036854775807 := by
    have : (2 : Int) ^ (8 * (s : Int).toNat) ≤ 2 ^ 56 := by
      have := Nat.pow_le_pow_right (n := 2) (by omega) (show 8 * (s : Int).toNat ≤ 56 by omega)
      exact_mod_cast this
    omega
  have hf2 := fun W => ref_fits_any n s W hn
  rw [hf] at hf2
  obtain ⟨i0, hi0, hz0, hz1, hz2⟩ := info_parts u8_info
  have HF := Lib.hid hf2
  have HL := Lib.hid hl
  have HA := Lib.hid (hA.alloc hH (.cells #[] 5))
  have H4 := Lib.hid h4
  clear hf hf2 hl hA h4 hH
  go_enter Tryd.func17, Tryd.ntmps17
  go_wp2_with (first
    | (go_at_call 16; refine (HF.out _).mono ?_; rintro e w' ⟨rfl, rfl⟩)
    | (at_builtin
       refine wpList_append_row rfl (.tmp 10) (.tmp 11) _ rfl w.heap.size 5 i0 _ 1 1 Tryd.underlying24 hi0 hz0 hz1 hz2 rfl (by omega) (.slice (some ⟨w.heap.size, 0, none⟩) 0 0) 0 [] rfl
         (own_lit _ _ _) A m c H (l.map bc) rfl (by rw [List.length_map, HL.out]; omega) HA.out (bc_one l) (by unfold maxLen; omega) (by omega) (by simp) ?_
       intro v1 w1 hown1 hg1
       simp only [Nat.zero_add, List.nil_append] at hown1
       obtain ⟨A1, c1, rfl, hc1, hc2⟩ := own_form hown1
       have HO1 := Lib.hid hown1
       have HB1 := Lib.hid (own_below ((Below.refl w.heap.size w).alloc (Nat.le_refl _) _) (Nat.le_refl _) (by simp) (own_lit w 5 1) hg1)
       have hw1 := HB1.out.size
       clear hown1 hg1)
    | (refine wpList_make_zeros rfl (.tmp 18) (.tmp 18) _ rfl 5 i0 _ 1 Tryd.underlying24 hi0 hz0 hz1 hz2 rfl .i64 .i64 _ _ s s rfl rfl rfl rfl (by omega) (by omega) (by unfold maxLen; omega) ?_))
  have hown2 := HO1.out.alloc (.cells (zerosL (.int .u8 0) s).toArray 5)
  have hwh := Whole.made w1 (zerosL (.int .u8 0) s) 5
  rw [show zerosL (.int .u8 0) s = laid n s 0 from by simp [laid, zerosL, List.drop_of_length_le (Nat.le_of_eq (length_digs n s))]] at hwh hown2 ⊢
  have HO2 := Lib.hid hown2
  have HW := Lib.hid hwh
  have HB2 := Lib.hid (HB1.out.alloc hw1 (.cells (laid n s 0).toArray 5))
  clear hown2 hwh
  go_loopw [1, 9] (RefPutRel w.heap.size w1.heap.size m n s w l (.slice A1 m c1)) (fun _ i _ => (intOf i + 1).toNat)
  case atStart => exact ⟨0, by omega, by simp, by simp, HW.out, HO2.out, HB2.out⟩
  case round =>
    obtain ⟨k, hk, rfl, rfl, hwh, hown, hbw⟩ := hrel
    have hlt9 := hwh.lt
    have HW1 := Lib.hid hwh
    have HO3 := Lib.hid hown
    have HB3 := Lib.hid hbw
    clear hown hbw
    have g1 := div_nonneg' h3 k
    have g2 := div_le' h3 k
    by_cases hlt : k < s
    · have hd : decide ((k : Int) ≤ (s : Int) - 1) = true := by simp; omega
      have hcel : wr.cell? ⟨w1.heap.size, s - 1 - k, none⟩ = some ((laid n s k)[s - 1 - k]'(by rw [length_laid]; omega)) := by
        rw [hwh.cell]; exact List.getElem?_eq_getElem _
      have hfr := hwh.frozen (s - 1 - k)
      clear hwh
      go_wp2
      refine ⟨⟨k + 1, by omega, by go_num, by rw [div_step], ?_, ?_, ?_⟩, by simp [intOf]; omega⟩
      · rw [← laid_set hlt]; exact HW1.out.set_ _ _
      · refine own_set_far HO3.out (fun e => ?_) _
        have := (HO1.out.lt _ e).2
        exact absurd this (Nat.lt_irrefl _)
      · exact HB3.out.setCell hw1 _
    · obtain rfl : k = s := by omega
      have hd : decide ((0 : Int) ≤ (k : Int) - 1 - k) = false := by simp; omega
      have hrow := hwh.row
      rw [laid_all] at hrow
      have HR := Lib.hid hrow
      clear hwh hrow
      go_wp2_with (
        at_builtin
        refine wpList_append_row rfl (.tmp 34) (.tmp 35) _ rfl w.heap.size 5 i0 _ 1 1 Tryd.underlying24 hi0 hz0 hz1 hz2 rfl (by omega) (.slice A1 m c1) m _ rfl HO3.out
          (some ⟨w1.heap.size, 0, none⟩) k k wr.heap.size ((digs n k).map bc) rfl (by rw [List.length_map, length_digs]; omega) HR.out (bc_one _) (by unfold maxLen; omega) (by omega) (by omega) ?_
        intro v2 w2 hown2 hg2
        obtain ⟨A2, c2, rfl, hc3, hc4⟩ := own_form hown2
        have HO4 := Lib.hid hown2
        have HB4 := Lib.hid (own_below HB3.out (Nat.le_refl _) (by omega) HO3.out hg2)
        clear hown2 hg2)
      go_ret
      have hL : m + k = (l ++ digs n k).length := by simp [length_digs, HL.out]
      have ho := HO4.out
      rw [← List.map_append, hL] at ho
      exact ⟨A2, c2, by rw [← hL]; rfl, ho, HB4.out⟩

theorem ref_put_any (A : Option Addr) (m c H : Nat) (l : List UInt8) (n s : Int) (w : World) (hl : l.length = m) (hA : Row w H A (l.map bc)) (hH : H ≤ w.heap.size) (hb : m ≤ 140737488355000) (hn : n ≤ 9223372036854775807) :
    Calls Tryd.prog 17 #[.slice A m c, .int .i64 n, .int .i64 s] w (Owned w (putL l n s)) := by
  cases hf : fitB n s with
  | false => rw [putL_no hf]; exact ref_put_no A m c H l n s w hl hA hH (by omega) hn hf
  | true =>
    have h := hf
    simp only [fitB, decide_eq_true_eq] at h
    obtain ⟨n', rfl⟩ : ∃ k : Nat, n = k := ⟨n.toNat, by omega⟩
    obtain ⟨s', rfl⟩ : ∃ k : Nat, s = k := ⟨s.toNat, by omega⟩
    rw [putL_yes hf]
    exact ref_put_yes A m c H l n' s' w hl hA hH hb hf

end Go.Proofs.YtbojdhhgholgjaaDoor
