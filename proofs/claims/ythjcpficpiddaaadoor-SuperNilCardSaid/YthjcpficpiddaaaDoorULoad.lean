/-
  The contracts of super.ready and super.Load.
-/
import Derived.Test.YthjcpficpiddaaaDoorULast
import Derived.Test.YthjcpficpiddaaaDoorVHoldL
namespace Go.Proofs.YthjcpficpiddaaaDoor
open Go.RowKit

/-- Why there are no blocks at all. -/
def Dv.readyE (x : Dv) : Int := if x.sure.length < 2 then 1 else if x.down = true then 8 else 0
section
variable {w0 w : World} {D : Nat} {x : Dv}
set_option maxHeartbeats 400000 in
theorem sready_any (h : Holds w0 w D x) : Calls Tryd.prog 12 #[.pointer (some ⟨D, 0, none⟩)] w (Told w (.int .i64 x.readyE)) := by
  have HL := Lib.hid (h_len h)
  have HD := Lib.hid (h_down h)
  by_cases h1 : x.sure.length < 2
  · have d1 : decide ((x.sure.length : Int) < 2) = true := by simp; omega
    have HE := Lib.hid (show x.readyE = 1 from if_pos h1)
    clear h1
    go_enter Tryd.func12, Tryd.ntmps12
    go_wp2_with fail
    refine HL.out.mono ?_
    rintro e w1 ⟨rfl, rfl⟩
    go_wp2
    go_ret
    exact ⟨by rw [HE.out]; rfl, rfl⟩
  · have d1 : decide ((x.sure.length : Int) < 2) = false := by simp; omega
    obtain ⟨dn, hdn⟩ : ∃ dn, x.down = dn := ⟨_, rfl⟩
    have HE := Lib.hid (show x.readyE = if dn = true then 8 else 0 from by unfold Dv.readyE; rw [if_neg h1, hdn])
    rw [hdn] at HD
    clear h1 hdn
    go_enter Tryd.func12, Tryd.ntmps12
    go_wp2_with fail
    refine HL.out.mono ?_
    rintro e w1 ⟨rfl, rfl⟩
    go_wp2_with fail
    refine HD.out.mono ?_
    rintro e w2 ⟨rfl, rfl⟩
    cases dn with
    | true =>
      go_wp2
      go_ret
      exact ⟨by rw [HE.out]; rfl, rfl⟩
    | false =>
      go_wp2
      go_ret
      exact ⟨by rw [HE.out]; rfl, rfl⟩
theorem sready_nil : Calls Tryd.prog 12 #[.pointer none] w (Told w (.int .i64 1)) := by
  have HL := Lib.hid (nil_len (w := w))
  go_enter Tryd.func12, Tryd.ntmps12
  go_wp2_with fail
  refine HL.out.mono ?_
  rintro e w1 ⟨rfl, rfl⟩
  go_wp2
  go_ret
  exact ⟨rfl, rfl⟩
end

theorem secBlk_nonneg {s : Sec} {k : Nat} {b : Blk} (h : secBlk s k = some b) : 0 ≤ b.gen := by
  unfold secBlk at h
  split at h
  · injection h with h
    rw [← h]
    exact Int.natCast_nonneg _
  · cases h
theorem loadS_nonneg {S : List Sec} {b : Blk} (h : loadS S = some b) : 0 ≤ b.gen := by
  unfold loadS at h
  cases e0 : secBlk (S.getD 0 secZero) 0 with
  | none =>
    cases e1 : secBlk (S.getD 1 secZero) 1 with
    | none => rw [e0, e1] at h; cases h
    | some c => rw [e0, e1] at h; injection h with h; rw [← h]; exact secBlk_nonneg e1
  | some a =>
    cases e1 : secBlk (S.getD 1 secZero) 1 with
    | none => rw [e0, e1] at h; injection h with h; rw [← h]; exact secBlk_nonneg e0
    | some c =>
      rw [e0, e1] at h
      have h' : (if c.gen < a.gen then some a else some c) = some b := h
      split at h'
      · injection h' with h'; rw [← h']; exact secBlk_nonneg e0
      · injection h' with h'; rw [← h']; exact secBlk_nonneg e1
/-- Load answers an error, and nothing. -/
theorem load_bad (p : Value) (E : Int) (hE : E ≠ 0) (w : World) (hr : ∀ w', Below w.heap.size w w' → Calls Tryd.prog 12 #[p] w' (Told w' (.int .i64 E))) :
    Calls Tryd.prog 11 #[p] w (Gave w (.tuple #[bzero.val, .int .i64 E])) := by
  have d1 : (E != 0) = true := by rw [bne_iff_ne]; exact hE
  have HR := Lib.hid (hr (w.alloc (.cells bzero.cells.toArray 30)) ((Below.refl _ _).alloc (Nat.le_refl _) _))
  clear hE hr
  go_enter Tryd.func11, Tryd.ntmps11
  go_wp2_with fail
  refine HR.out.mono ?_
  rintro e w1 ⟨rfl, rfl⟩
  have HW1 := Lib.hid (Whole.made w bzero.cells 30)
  have HB1 := Lib.hid ((Below.refl w.heap.size w).alloc (Nat.le_refl _) (.cells bzero.cells.toArray 30))
  go_wp2_with (
    refine wpList_store_at rfl 30 (.tmp 2) (.tmp 10) rfl w.heap.size 0 bzero.cells rfl rfl 30 _ HW1.out (Blk.fit _ _) blk_info bzero.one ?_
    intro V hv1 hv2 hv3
    rw [Blk.splice] at hv1
    have v0 : V.cell? ⟨w.heap.size, 0, none⟩ = some (.int .i64 bzero.gen) := hv1.cell 0
    have v1 : V.cell? ⟨w.heap.size, 1, none⟩ = some (.int .i64 bzero.epoch) := hv1.cell 1
    have v2 : V.cell? ⟨w.heap.size, 2, none⟩ = some (.int .i64 bzero.first) := hv1.cell 2
    have v3 : V.cell? ⟨w.heap.size, 3, none⟩ = some (.int .i64 bzero.begun) := hv1.cell 3
    have v4 : V.cell? ⟨w.heap.size, 4, none⟩ = some (.int .i64 bzero.count) := hv1.cell 4
    have HBV := Lib.hid (HB1.out.trans (hv2.below (B := w.heap.size) (fun j hj => by omega) HB1.out.size))
    clear hv1 hv2 hv3)
  exact bodyPost_ret (v := .tuple #[bzero.val, .int .i64 E]) (by simp [results, Tryd.results11, go_sem, v0, v1, v2, v3, v4, Blk.val, bzero]) rfl ⟨rfl, HBV.out⟩

section
variable {w0 w : World} {D : Nat} {x : Dv}
set_option maxHeartbeats 400000 in
theorem load_ok (h : Holds w0 w D x) (hv : VarsAt w) (h1 : ¬ x.sure.length < 2) (h2 : x.down = false) : Calls Tryd.prog 11 #[.pointer (some ⟨D, 0, none⟩)] w (Gave w (.tuple #[x.loadB.val, .int .i64 x.loadE])) := by
  have hE : x.readyE = 0 := by unfold Dv.readyE; rw [if_neg h1, if_neg (by simp [h2])]
  have hr0 := sready_any (h.alloc (.cells bzero.cells.toArray 30))
  rw [hE] at hr0
  have HR := Lib.hid hr0
  have hl0 := slast_any (h.alloc (.cells bzero.cells.toArray 30)) (hv.alloc _)
  rw [last_pick h2 (by omega)] at hl0
  have HL := Lib.hid hl0
  have hle : x.loadE = if (loadS x.now).isNone = true then 11 else 0 := by unfold Dv.loadE; rw [if_neg h1, if_neg (by simp [h2])]
  have HW := Lib.hid (Whole.made w bzero.cells 30)
  have hlb : x.loadB = (loadS x.now).getD bzero := by
    unfold Dv.loadB
    rw [hle]
    cases loadS x.now <;> simp
  have hnn : ∀ b, loadS x.now = some b → 0 ≤ b.gen := fun b hb => loadS_nonneg hb
  have HLE := Lib.hid hle
  have HLB := Lib.hid hlb
  clear hr0 hl0 hE h1 h2 h hv hle hlb
  generalize loadS x.now = o at *
  go_enter Tryd.func11, Tryd.ntmps11
  go_wp2_with fail
  refine HR.out.mono ?_
  rintro e w1 ⟨rfl, rfl⟩
  go_wp2_with fail
  refine HL.out.mono ?_
  rintro e w1 ⟨rfl, hb1⟩
  have HW1 := Lib.hid (HW.out.below hb1 HW.out.lt)
  have HB1 := Lib.hid (((Below.refl w.heap.size w).alloc (Nat.le_refl _) _).trans (hb1.mono (by simp)))
  clear hb1
  cases o with
  | none =>
    have HE2 := Lib.hid (show x.loadE = 11 from HLE.out)
    have HB2 := Lib.hid (show x.loadB = bzero from HLB.out)
    have HWA := Lib.hid (HW1.out.alloc (.cells bnone.cells.toArray 30))
    have HBA := Lib.hid (HB1.out.alloc HB1.out.size (.cells bnone.cells.toArray 30))
    rw [show ((none : Option Blk).getD bnone).val = .agg #[.int .i64 (-1), .int .i64 0, .int .i64 0, .int .i64 0, .int .i64 0] from rfl]
    clear hnn
    go_wp2_with (
      refine wpList_store_at rfl 30 (.tmp 2) (.tmp 17) rfl w.heap.size 0 bzero.cells rfl rfl 30 _ HWA.out (Blk.fit _ _) blk_info bzero.one ?_
      intro V hv1 hv2 hv3
      rw [Blk.splice] at hv1
      have v0 : V.cell? ⟨w.heap.size, 0, none⟩ = some (.int .i64 bzero.gen) := hv1.cell 0
      have v1 : V.cell? ⟨w.heap.size, 1, none⟩ = some (.int .i64 bzero.epoch) := hv1.cell 1
      have v2 : V.cell? ⟨w.heap.size, 2, none⟩ = some (.int .i64 bzero.first) := hv1.cell 2
      have v3 : V.cell? ⟨w.heap.size, 3, none⟩ = some (.int .i64 bzero.begun) := hv1.cell 3
      have v4 : V.cell? ⟨w.heap.size, 4, none⟩ = some (.int .i64 bzero.count) := hv1.cell 4
      have HBV := Lib.hid (HBA.out.trans (hv2.below (B := w.heap.size) (fun j hj => by omega) HBA.out.size))
      clear hv1 hv2 hv3)
    exact bodyPost_ret (v := .tuple #[bzero.val, .int .i64 11]) (by simp [results, Tryd.results11, go_sem, v0, v1, v2, v3, v4, Blk.val, bzero]) rfl ⟨by rw [HE2.out, HB2.out], HBV.out⟩
  | some b =>
    have HE2 := Lib.hid (show x.loadE = 0 from HLE.out)
    have HB2 := Lib.hid (show x.loadB = b from HLB.out)
    have HWA := Lib.hid (HW1.out.alloc (.cells b.cells.toArray 30))
    have HBA := Lib.hid (HB1.out.alloc HB1.out.size (.cells b.cells.toArray 30))
    have d1 : decide (b.gen < 0) = false := by have := hnn b rfl; simp; omega
    clear hnn
    rw [show ((some b).getD bnone).val = .agg #[.int .i64 b.gen, .int .i64 b.epoch, .int .i64 b.first, .int .i64 b.begun, .int .i64 b.count] from rfl]
    go_wp2_with (
      refine wpList_store_at rfl 30 (.tmp 2) (.tmp 18) rfl w.heap.size 0 b.cells rfl rfl 30 _ HWA.out (Blk.fit _ _) blk_info b.one ?_
      intro V hv1 hv2 hv3
      rw [Blk.splice] at hv1
      have v0 : V.cell? ⟨w.heap.size, 0, none⟩ = some (.int .i64 b.gen) := hv1.cell 0
      have v1 : V.cell? ⟨w.heap.size, 1, none⟩ = some (.int .i64 b.epoch) := hv1.cell 1
      have v2 : V.cell? ⟨w.heap.size, 2, none⟩ = some (.int .i64 b.first) := hv1.cell 2
      have v3 : V.cell? ⟨w.heap.size, 3, none⟩ = some (.int .i64 b.begun) := hv1.cell 3
      have v4 : V.cell? ⟨w.heap.size, 4, none⟩ = some (.int .i64 b.count) := hv1.cell 4
      have HBV := Lib.hid (HBA.out.trans (hv2.below (B := w.heap.size) (fun j hj => by omega) HBA.out.size))
      clear hv1 hv2 hv3)
    exact bodyPost_ret (v := .tuple #[b.val, .int .i64 0]) (by simp [results, Tryd.results11, go_sem, v0, v1, v2, v3, v4, Blk.val]) rfl ⟨by rw [HE2.out, HB2.out], HBV.out⟩

theorem load_any (h : Holds w0 w D x) (hv : VarsAt w) : Calls Tryd.prog 11 #[.pointer (some ⟨D, 0, none⟩)] w (Gave w (.tuple #[x.loadB.val, .int .i64 x.loadE])) := by
  by_cases h1 : x.sure.length < 2
  · have e1 : x.loadE = 1 := if_pos h1
    have e2 : x.loadB = bzero := by unfold Dv.loadB; rw [e1]; rfl
    have e3 : x.readyE = 1 := if_pos h1
    rw [e1, e2]
    refine load_bad _ 1 (by decide) w fun w' hb => ?_
    have := sready_any (h.next hb)
    rwa [e3] at this
  · cases h2 : x.down with
    | true =>
      have e1 : x.loadE = 8 := by unfold Dv.loadE; rw [if_neg h1, if_pos h2]
      have e2 : x.loadB = bzero := by unfold Dv.loadB; rw [e1]; rfl
      have e3 : x.readyE = 8 := by unfold Dv.readyE; rw [if_neg h1, if_pos h2]
      rw [e1, e2]
      refine load_bad _ 8 (by decide) w fun w' hb => ?_
      have := sready_any (h.next hb)
      rwa [e3] at this
    | false => exact load_ok h hv h1 h2
end
theorem load_nil (w : World) : Calls Tryd.prog 11 #[.pointer none] w (Gave w (.tuple #[bzero.val, .int .i64 1])) := load_bad _ 1 (by decide) w fun _ _ => sready_nil

end Go.Proofs.YthjcpficpiddaaaDoor
