/-
  The contracts of name.small and of the document's Small.
-/
import Derived.Test.YtjjmllbkfbdcnaaOwn
import Derived.Test.YtjjmllbkfbdcnaaNames
namespace Go.Proofs.Ytjjmllbkfbdcnaa
open Go.RowKit

def SmallRel (w : World) (l : List UInt8) (Z : List Value) (i : Value) (wr : World) : Prop :=
  ∃ k : Nat, k ≤ l.length ∧ i = .int .i64 k ∧ Marked wr w.heap.size 5 (lowUpto l k Z) ∧ Below w.heap.size w wr

set_option maxHeartbeats 400000 in
theorem small_any (l : List UInt8) (w : World) (hm : l.length ≤ maxLen) :
    Calls Try.prog 116 #[.string ⟨l.toArray⟩] w (Gave w (.string ⟨(lowL l).toArray⟩)) := by
  unfold maxLen at hm
  go_enter Try.func116, Try.ntmps116
  go_wp2_with (refine wpList_bytes rfl (.tmp 6) 9 22 5 rfl Try.underlying9 Try.underlying22 Try.underlying5 l rfl ?_; intro C w1 hC hM1 hB1 hz1)
  have HM := Lib.hid hM1
  have HB := Lib.hid hB1
  have HZ := Lib.hid hz1
  clear hM1 hB1 hz1
  obtain ⟨Z, hZ⟩ : ∃ Z, Z = zerosL (.int .u8 0) (C - l.length) := ⟨_, rfl⟩
  rw [← hZ] at HM
  clear hZ
  go_loopw [10] (SmallRel w l Z) (fun i _ => l.length - (intOf i).toNat)
  case atStart => exact ⟨0, Nat.zero_le _, rfl, by rw [lowUpto_zero]; exact HM.out, HB.out⟩
  case round =>
    obtain ⟨k, hk, rfl, hmk, hbk⟩ := hrel
    have HMK := Lib.hid hmk
    have HBK := Lib.hid hbk
    clear hmk hbk
    by_cases hlt : k < l.length
    · have hc : wr.cell? ⟨w.heap.size, k, none⟩ = some (.int .u8 (l[k]).toNat) := (HMK.out.cell k).trans (lowUpto_at Z hlt)
      have hf : wr.frozen? ⟨w.heap.size, k, none⟩ = false := HMK.out.frozen (by rw [length_lowUpto]; omega)
      have hlt8 := (l[k]).toNat_lt
      by_cases h1 : 65 ≤ (l[k]).toNat
      · by_cases h2 : (l[k]).toNat ≤ 90
        · have HU := Lib.hid (lowB_up h1 h2)
          go_wp2
          refine ⟨⟨k + 1, by omega, by go_num, ?_, ?_⟩, by simp [intOf]; omega⟩
          · rw [lowUpto_succ Z hlt, bc, HU.out]
            have h := HMK.out.set_ k (.int .u8 (((l[k]).toNat + 32 : Nat) : Int))
            rw [show ((l[k]).toNat : Int) - 65 + 97 = (((l[k]).toNat + 32 : Nat) : Int) from by omega]
            exact h
          · exact HBK.out.setCell (Nat.le_refl _) _
        · have HU := Lib.hid (lowUpto_same Z hlt (lowB_no (by omega)))
          go_wp2
          exact ⟨⟨k + 1, by omega, by go_num, by rw [HU.out]; exact HMK.out, HBK.out⟩, by simp [intOf]; omega⟩
      · have HU := Lib.hid (lowUpto_same Z hlt (lowB_no (by omega)))
        go_wp2
        exact ⟨⟨k + 1, by omega, by go_num, by rw [HU.out]; exact HMK.out, HBK.out⟩, by simp [intOf]; omega⟩
    · obtain rfl : k = l.length := by omega
      have hr := HMK.out.row.take l.length
      rw [lowUpto_all] at hr
      have hcv := convert_row_run (P := Try.prog) wr 22 9 5 Try.underlying22 Try.underlying5 Try.underlying9 _ l.length C _ (lowL l) (length_lowL l) hr
      clear hr
      go_wp2
      go_ret
      exact ⟨rfl, HBK.out⟩

set_option maxHeartbeats 400000 in
theorem ref_small_any (l : List UInt8) (w : World) (hm : l.length ≤ maxLen) :
    Calls Try.prog 96 #[.string ⟨l.toArray⟩] w (Gave w (.string ⟨(lowL l).toArray⟩)) := by
  unfold maxLen at hm
  go_enter Try.func96, Try.ntmps96
  go_wp2_with (refine wpList_bytes rfl (.tmp 5) 9 22 5 rfl Try.underlying9 Try.underlying22 Try.underlying5 l rfl ?_; intro C w1 hC hM1 hB1 hz1)
  have HM := Lib.hid hM1
  have HB := Lib.hid hB1
  have HZ := Lib.hid hz1
  clear hM1 hB1 hz1
  obtain ⟨Z, hZ⟩ : ∃ Z, Z = zerosL (.int .u8 0) (C - l.length) := ⟨_, rfl⟩
  rw [← hZ] at HM
  clear hZ
  go_loopw [4] (SmallRel w l Z) (fun i _ => l.length - (intOf i).toNat)
  case atStart => exact ⟨0, Nat.zero_le _, rfl, by rw [lowUpto_zero]; exact HM.out, HB.out⟩
  case round =>
    obtain ⟨k, hk, rfl, hmk, hbk⟩ := hrel
    have HMK := Lib.hid hmk
    have HBK := Lib.hid hbk
    clear hmk hbk
    by_cases hlt : k < l.length
    · have hc : wr.cell? ⟨w.heap.size, k, none⟩ = some (.int .u8 (l[k]).toNat) := (HMK.out.cell k).trans (lowUpto_at Z hlt)
      have hf : wr.frozen? ⟨w.heap.size, k, none⟩ = false := HMK.out.frozen (by rw [length_lowUpto]; omega)
      have hlt8 := (l[k]).toNat_lt
      by_cases h1 : 65 ≤ (l[k]).toNat
      · by_cases h2 : (l[k]).toNat ≤ 90
        · have HU := Lib.hid (lowB_up h1 h2)
          go_wp2
          refine ⟨⟨k + 1, by omega, by go_num, ?_, ?_⟩, by simp [intOf]; omega⟩
          · rw [lowUpto_succ Z hlt, bc, HU.out]
            have h := HMK.out.set_ k (.int .u8 (((l[k]).toNat + 32 : Nat) : Int))
            rw [show ((l[k]).toNat : Int) + 32 = (((l[k]).toNat + 32 : Nat) : Int) from by omega]
            exact h
          · exact HBK.out.setCell (Nat.le_refl _) _
        · have HU := Lib.hid (lowUpto_same Z hlt (lowB_no (by omega)))
          go_wp2
          exact ⟨⟨k + 1, by omega, by go_num, by rw [HU.out]; exact HMK.out, HBK.out⟩, by simp [intOf]; omega⟩
      · have HU := Lib.hid (lowUpto_same Z hlt (lowB_no (by omega)))
        go_wp2
        exact ⟨⟨k + 1, by omega, by go_num, by rw [HU.out]; exact HMK.out, HBK.out⟩, by simp [intOf]; omega⟩
    · obtain rfl : k = l.length := by omega
      have hr := HMK.out.row.take l.length
      rw [lowUpto_all] at hr
      have hcv := convert_row_run (P := Try.prog) wr 22 9 5 Try.underlying22 Try.underlying5 Try.underlying9 _ l.length C _ (lowL l) (length_lowL l) hr
      clear hr
      go_wp2
      go_ret
      exact ⟨rfl, HBK.out⟩

end Go.Proofs.Ytjjmllbkfbdcnaa
