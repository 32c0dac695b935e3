/-
  The contracts of super.last, super.ready and super.Load.
-/
import Derived.Test.YthjcpficpiddaaaDoorURead
import Derived.Test.YthjcpficpiddaaaDoorVNil
namespace Go.Proofs.YthjcpficpiddaaaDoor
open Go.RowKit

/-- No block yet. -/
def bnone : Blk := ⟨-1, 0, 0, 0, 0⟩
/-- The block with the greater number, of the first k sectors. -/
def overB (f : Blk) : Option Blk → Blk
  | none => f
  | some b => if f.gen < b.gen then b else f
def lastB (x : Dv) : Nat → Blk
  | 0 => bnone
  | k + 1 => overB (lastB x k) (x.at? k)
theorem at?_nonneg {x : Dv} {k : Nat} {b : Blk} (h : x.at? k = some b) : 0 ≤ b.gen := by
  unfold Dv.at? at h
  split at h
  · injection h with h
    rw [← h]
    exact Int.natCast_nonneg _
  · cases h
theorem at?_mod {x : Dv} {k : Nat} {b : Blk} (h : x.at? k = some b) : b.gen % 2 = (k : Int) := by
  unfold Dv.at? at h
  split at h
  · rename_i hc
    injection h with h
    have := hc.2
    unfold countsB at this
    simp only [Bool.and_eq_true, decide_eq_true_eq] at this
    rw [← h]
    exact this.2
  · cases h
theorem last_pick {x : Dv} (hd : x.down = false) (hl : 2 ≤ x.sure.length) : lastB x 2 = (loadS x.now).getD bnone := by
  have h0 := Dv.at?_eq hd (show 0 < x.sure.length by omega)
  have h1 := Dv.at?_eq hd (show 1 < x.sure.length by omega)
  unfold loadS
  rw [← h0, ← h1]
  show overB (overB bnone (x.at? 0)) (x.at? 1) = _
  cases e0 : x.at? 0 with
  | none =>
    cases e1 : x.at? 1 with
    | none => rfl
    | some b =>
      have := at?_nonneg e1
      show (if bnone.gen < b.gen then b else bnone) = b
      rw [if_pos (by show (-1 : Int) < b.gen; omega)]
  | some a =>
    have ha := at?_nonneg e0
    have e : overB bnone (some a) = a := by
      show (if bnone.gen < a.gen then a else bnone) = a
      rw [if_pos (by show (-1 : Int) < a.gen; omega)]
    rw [e]
    cases e1 : x.at? 1 with
    | none => rfl
    | some b =>
      show (if a.gen < b.gen then b else a) = (if b.gen < a.gen then some a else some b).getD bnone
      by_cases h : a.gen < b.gen
      · rw [if_pos h, if_neg (by omega)]; rfl
      · rw [if_neg h]
        by_cases h2 : b.gen < a.gen
        · rw [if_pos h2]; rfl
        · have := at?_mod e0; have := at?_mod e1; omega

section
variable {w0 w : World} {D : Nat} {x : Dv}
def LastRel (x : Dv) (w : World) (i : Value) (wr : World) : Prop :=
  ∃ k : Nat, k ≤ 2 ∧ i = .int .i64 k ∧ Whole wr w.heap.size 30 bzero.cells ∧ Whole wr (w.heap.size + 1) 30 (lastB x k).cells ∧ Below w.heap.size w wr

set_option maxHeartbeats 1000000 in
theorem slast_any (h : Holds w0 w D x) (hv : VarsAt w) : Calls Tryd.prog 14 #[.pointer (some ⟨D, 0, none⟩)] w (Gave w (lastB x 2).val) := by
  have HW0 := Lib.hid ((Whole.made w bzero.cells 30).alloc (.cells bnone.cells.toArray 30))
  have hw1 := Whole.made (w.alloc (.cells bzero.cells.toArray 30)) bnone.cells 30
  rw [show (w.alloc (.cells bzero.cells.toArray 30)).heap.size = w.heap.size + 1 by simp] at hw1
  have HW1 := Lib.hid hw1
  have HH := Lib.hid h
  have HV := Lib.hid hv
  clear hw1 h hv
  go_enter Tryd.func14, Tryd.ntmps14
  go_wp2
  go_loopw [8] (LastRel x w) (fun i _ => 2 - (intOf i).toNat)
  case atStart => exact ⟨0, by omega, rfl, HW0.out, HW1.out, ((Below.refl _ _).alloc (Nat.le_refl _) _).alloc (by simp) _⟩
  case round =>
    obtain ⟨k, hk, rfl, hwr, hwf, hbr⟩ := hrel
    have HWR := Lib.hid hwr
    have HWF := Lib.hid hwf
    have HB := Lib.hid hbr
    have hz : w.heap.size + 1 < wr.heap.size := hwf.lt
    by_cases hlt : k < 2
    · have HR := Lib.hid (sread_any (HH.out.next hbr) (HV.out.next hbr) k)
      have hov : lastB x (k + 1) = overB (lastB x k) (x.at? k) := rfl
      have HOV := Lib.hid hov
      obtain ⟨f, hf⟩ : ∃ f, lastB x k = f := ⟨_, rfl⟩
      obtain ⟨o, ho⟩ : ∃ o, x.at? k = o := ⟨_, rfl⟩
      rw [hf, ho] at HOV
      rw [hf] at HWF
      rw [ho] at HR
      clear hwr hwf hbr hov hf ho
      go_wp2_with fail
      refine HR.out.mono ?_
      rintro e w1 ⟨rfl, hb1⟩
      have HB1 := Lib.hid (HB.out.trans (hb1.mono HB.out.size))
      have HWR1 := Lib.hid (HWR.out.below hb1 HWR.out.lt)
      have HWF1 := Lib.hid (HWF.out.below hb1 HWF.out.lt)
      have hz1 := hb1.size
      clear hb1
      cases o with
      | none =>
        rw [show (optB none).val = .agg #[.int .i64 0, .int .i64 0, .int .i64 0, .int .i64 0, .int .i64 0] from rfl, show (none : Option Blk).isSome = false from rfl]
        go_wp2
        refine ⟨⟨k + 1, by omega, by go_num, HWR1.out.alloc _, ?_, HB1.out.alloc HB1.out.size _⟩, by simp [intOf]; omega⟩
        rw [HOV.out]
        exact HWF1.out.alloc _
      | some b =>
        rw [show (optB (some b)).val = .agg #[.int .i64 b.gen, .int .i64 b.epoch, .int .i64 b.first, .int .i64 b.begun, .int .i64 b.count] from rfl, show (some b).isSome = true from rfl]
        have hc0 : ∀ o : Obj, (w1.alloc o).cell? ⟨w.heap.size + 1, 0, none⟩ = some (.int .i64 f.gen) := fun o => (HWF1.out.alloc o).cell 0
        have HWF2 := Lib.hid (HWF1.out.alloc (.cells b.cells.toArray 30))
        have HWR2 := Lib.hid (HWR1.out.alloc (.cells b.cells.toArray 30))
        have HB2 := Lib.hid (HB1.out.alloc HB1.out.size (.cells b.cells.toArray 30))
        by_cases hgt : f.gen < b.gen
        · have d1 : decide (f.gen < b.gen) = true := by simp [hgt]
          have HOB := Lib.hid (HOV.out.trans (show overB f (some b) = b from if_pos hgt))
          clear hgt HOV
          go_wp2_with (
            refine wpList_store_at rfl 30 (.tmp 3) (.tmp 25) rfl (w.heap.size + 1) 0 b.cells rfl rfl 30 _ HWF2.out (Blk.fit _ _) blk_info b.one ?_
            intro V hv1 hv2 hv3
            rw [Blk.splice] at hv1
            have HV1 := Lib.hid hv1
            have HG := Lib.hid hv2
            clear hv1 hv2 hv3)
          refine ⟨⟨k + 1, by omega, by go_num, HWR2.out.grew HG.out (by omega), ?_, HB2.out.trans (HG.out.below (B := w.heap.size) (fun j hj => by omega) HB2.out.size)⟩, by simp [intOf]; omega⟩
          rw [HOB.out]
          exact HV1.out
        · have d1 : decide (f.gen < b.gen) = false := by simp; omega
          have HOB := Lib.hid (HOV.out.trans (show overB f (some b) = f from if_neg hgt))
          clear hgt HOV
          go_wp2
          refine ⟨⟨k + 1, by omega, by go_num, HWR2.out, ?_, HB2.out⟩, by simp [intOf]; omega⟩
          rw [HOB.out]
          exact HWF2.out
    · obtain rfl : k = 2 := by omega
      obtain ⟨f, hf⟩ : ∃ f, lastB x 2 = f := ⟨_, rfl⟩
      rw [hf] at HWF
      have HF := Lib.hid hf
      clear hwr hwf hbr hf
      go_wp2_with (first
        | (refine wpList_load_at rfl 30 (.tmp 3) rfl (w.heap.size + 1) 0 rfl f.cells _ Tryd.underlying30 rfl blk_info 30 _ HWF.out (fun j v hj => by rwa [Nat.zero_add]) ?_)
        | (refine wpList_store_at rfl 30 (.tmp 2) (.tmp 27) rfl w.heap.size 0 f.cells rfl rfl 30 _ HWR.out (Blk.fit _ _) blk_info f.one ?_
           intro V hv1 hv2 hv3
           rw [Blk.splice] at hv1
           have v0 : V.cell? ⟨w.heap.size, 0, none⟩ = some (.int .i64 f.gen) := hv1.cell 0
           have v1 : V.cell? ⟨w.heap.size, 1, none⟩ = some (.int .i64 f.epoch) := hv1.cell 1
           have v2 : V.cell? ⟨w.heap.size, 2, none⟩ = some (.int .i64 f.first) := hv1.cell 2
           have v3 : V.cell? ⟨w.heap.size, 3, none⟩ = some (.int .i64 f.begun) := hv1.cell 3
           have v4 : V.cell? ⟨w.heap.size, 4, none⟩ = some (.int .i64 f.count) := hv1.cell 4
           have HBV := Lib.hid (HB.out.trans (hv2.below (B := w.heap.size) (fun j hj => by omega) HB.out.size))
           clear hv1 hv2 hv3))
      exact bodyPost_ret (v := f.val) (by simp [results, Tryd.results14, go_sem, v0, v1, v2, v3, v4, Blk.val]) rfl ⟨by rw [HF.out], HBV.out⟩
end
end Go.Proofs.YthjcpficpiddaaaDoor
