/-
  The contract of name.Lower.
-/
import Derived.Test.YtiegneopolffoaaSmall
import Derived.Test.YtiegneopolffoaaExact
namespace Go.Proofs.Ytiegneopolffoaa
open Go.RowKit

def LowerRel (B : Nat) (w : World) (n : List (List UInt8)) (v i : Value) (wr : World) : Prop :=
  ∃ k : Nat, k ≤ n.length ∧ i = .int .i64 k ∧ wr.ownsRow B 9 1 v k (((lowN n).take k).map sv) ∧ Below B w wr ∧ B ≤ wr.heap.size

theorem low_cells {n : List (List UInt8)} {k : Nat} (h : k < n.length) : ((lowN n).take k).map sv ++ [.string ⟨(lowL n[k]).toArray⟩] = ((lowN n).take (k + 1)).map sv := by
  rw [List.take_succ_eq_append_getElem (by rw [length_lowN]; exact h), List.map_append]
  congr 1
  simp [lowN, sv]

set_option maxHeartbeats 1000000 in
theorem lower_any (A : Option Addr) (m c H : Nat) (n : List (List UInt8)) (w : World) (hl : n.length = m) (hA : Row w H A (n.map sv)) (hH : H ≤ w.heap.size) (hm : m ≤ 1000000) (hs : szN n ≤ maxLen) :
    Calls Try.prog 28 #[.slice A m c] w (OwnedS w (lowN n)) := by
  subst hl
  unfold maxLen at hs
  obtain ⟨i0, hi0, hz0, hz1, hz2⟩ := info_parts str_info
  have hlen := length_lt_szN n
  have HA := Lib.hid (hA.mono hH)
  clear hA
  go_enter Try.func28, Try.ntmps28
  go_wp2
  go_loopw [3, 8] (LowerRel w.heap.size w n) (fun _ i _ => n.length - (intOf i).toNat)
  case atStart => exact ⟨0, Nat.zero_le _, rfl, World.ownsRow_nil _ _ _ _, Below.refl _ _, Nat.le_refl _⟩
  case round =>
    obtain ⟨k, hk, rfl, hown, hbw, hz⟩ := hrel
    obtain ⟨A1, c1, rfl, hc1, hc2⟩ := own_form hown
    have HO := Lib.hid hown
    have HB := Lib.hid hbw
    have HAW := Lib.hid (HA.out.below hbw)
    clear hown hbw
    by_cases hlt : k < n.length
    · obtain ⟨b, off, rfl, _, hc⟩ := HAW.out.name_at hlt
      have hle := len_le_szN hlt
      have HC := Lib.hid (low_cells hlt)
      go_wp2_with fail
      refine (small_any n[k] wr (by unfold maxLen; omega)).mono ?_
      rintro e w1 ⟨rfl, hb1⟩
      have hs1 := hb1.size
      have HB1 := Lib.hid hb1
      have HO1 := Lib.hid (HO.out.kept (row := none) ⟨hb1.os, hb1.tape, hb1.output, hb1.size, fun j hj _ => hb1.block j hj⟩ (by cases hv : (Value.slice A1 k c1).ownBlock <;> simp))
      have HR1 := Lib.hid (Row.made w1 #[.string ⟨(lowL n[k]).toArray⟩] 9)
      clear hb1
      go_wp2_with (
        at_builtin
        refine wpList_append_row rfl (.tmp 12) (.tmp 15) _ rfl w.heap.size 9 i0 _ 1 16 Try.underlying22 hi0 hz0 hz1 hz2 rfl (by omega) (.slice A1 k c1) k _ rfl (HO1.out.alloc _)
          (some ⟨w1.heap.size, 0, none⟩) 1 1 (w1.heap.size + 1) [.string ⟨(lowL n[k]).toArray⟩] rfl rfl HR1.out (by simp [Value.oneCell']) (by unfold maxLen; omega) (by omega) (by simp; omega) ?_
        intro v2 w2 hown2 hg2
        rw [HC.out] at hown2
        have HO2 := Lib.hid hown2
        have HG2 := Lib.hid hg2
        have hs2 := hg2.size
        clear hown2 hg2)
      refine ⟨⟨k + 1, by omega, by go_num, HO2.out, ?_, ?_⟩, by simp [intOf]; omega⟩
      · exact own_below ((HB.out.trans (HB1.out.mono hz)).alloc (by omega) _) (Nat.le_refl _) (by simp; omega) (HO1.out.alloc _) HG2.out
      · simp at hs2; omega
    · obtain rfl : k = n.length := by omega
      go_wp2
      go_ret
      have ho := HO.out
      rw [List.take_of_length_le (by rw [length_lowN]; exact Nat.le_refl _)] at ho
      exact ⟨A1, c1, by rw [length_lowN]; rfl, by rw [length_lowN]; exact ho, HB.out⟩

end Go.Proofs.Ytiegneopolffoaa
