/-
  The contract of the statements' own 'answers'.
-/
import Derived.Test.YthjcpficpiddaaaDoorUSave
namespace Go.Proofs.YthjcpficpiddaaaDoor
open Go.RowKit

def bfive : Blk := ⟨0, 5, 0, 0, 0⟩
theorem bfive_fits : bfive.fits = true := by decide +kernel
theorem five_save : (newDv 2).saveE bfive = 0 ∧ Inv ((newDv 2).save bfive).sure (some bfive) ∧ (newDv 2).save bfive = ⟨((newDv 2).save bfive).sure, [], 0, false⟩ ∧ ((newDv 2).save bfive).sure.length = 2 := by
  have hl : 2 ≤ (newDv 2).sure.length := by show 2 ≤ (List.replicate 2 secZero).length; simp
  have hn : Next none bfive 0 := ⟨rfl, by decide, rfl⟩
  have h := save_whole hl (inv_new 2) hn bfive_fits 0 (.inl rfl)
  refine ⟨h.1, ?_, ?_, ?_⟩
  · rw [show (newDv 2).save bfive = _ from h.2]; exact (inv_new 2).write hl hn bfive_fits
  · rw [show (newDv 2).save bfive = _ from h.2]; rfl
  · rw [show (newDv 2).save bfive = _ from h.2]; simp [newDv]
/-- What Load answers where a device's sectors hold a block. -/
theorem load_holds {S : List Sec} {b : Blk} (h : Inv S (some b)) (hl : 2 ≤ S.length) : (Dv.mk S [] 0 false).loadE = 0 ∧ (Dv.mk S [] 0 false).loadB = b := by
  have h1 : loadS (Dv.mk S [] 0 false).now = some b := h.load
  have h2 : (Dv.mk S [] 0 false).loadE = 0 := by
    unfold Dv.loadE
    rw [if_neg (by show ¬ S.length < 2; omega), if_neg (by simp), h1]
    rfl
  refine ⟨h2, ?_⟩
  unfold Dv.loadB
  rw [h2, h1]
  rfl
theorem load_none {S : List Sec} (h : Inv S none) (hl : 2 ≤ S.length) : (Dv.mk S [] 0 false).loadE = 11 ∧ (Dv.mk S [] 0 false).loadB = bzero := by
  have h1 : loadS (Dv.mk S [] 0 false).now = none := h.load
  have h2 : (Dv.mk S [] 0 false).loadE = 11 := by
    unfold Dv.loadE
    rw [if_neg (by show ¬ S.length < 2; omega), if_neg (by simp), h1]
    rfl
  refine ⟨h2, ?_⟩
  unfold Dv.loadB
  rw [h2]
  rfl

set_option maxHeartbeats 400000 in
theorem sanswers_any (w : World) (hv : VarsAt w) : Calls Tryd.prog 6 #[] w (TrueB w) := by
  have HN := Lib.hid (h_new w w (Below.refl _ _) 2 (by decide) (by decide))
  obtain ⟨h1, h2, h3, h4⟩ := five_save
  obtain ⟨S, hS⟩ : ∃ S, ((newDv 2).save bfive).sure = S := ⟨_, rfl⟩
  rw [hS] at h2 h3 h4
  have hl := load_holds h2 (by omega)
  have HL := Lib.hid hl
  have HSV : ∀ W D, Holds w W D (newDv 2) → Calls Tryd.prog 8 #[.pointer (some ⟨D, 0, none⟩), .agg #[.int .i64 0, .int .i64 5, .int .i64 0, .int .i64 0, .int .i64 0]] W (fun e w' => e = .returned (.int .i64 0) ∧ Holds w w' D ⟨S, [], 0, false⟩ ∧ Kept W w') := fun W D hh => by
    have := save_any hh hv bfive bfive_fits (by decide)
    rwa [h1, h3] at this
  have HS2 := Lib.hid HSV
  have HV := Lib.hid hv
  clear HSV h1 h2 h3 h4 hS hl hv
  go_enter Tryd.func6, Tryd.ntmps6
  go_wp2_with fail
  refine HN.out.mono ?_
  rintro e w1 ⟨D, rfl, hh1⟩
  have HH1 := Lib.hid hh1
  clear hh1
  go_wp2_with fail
  refine (HS2.out w1 D HH1.out).mono ?_
  rintro e w2 ⟨rfl, hh2, _⟩
  have HH2 := Lib.hid hh2
  have hlo := load_any hh2 (HV.out.next hh2.below)
  rw [HL.out.1, HL.out.2] at hlo
  have HLO := Lib.hid hlo
  clear hh2 hlo
  go_wp2_with fail
  refine HLO.out.mono ?_
  rintro e w3 ⟨rfl, hb3⟩
  have HB3 := Lib.hid (HH2.out.next hb3).below
  clear hb3
  unfold Blk.val bfive
  go_wp2
  go_ret
  exact ⟨rfl, HB3.out.alloc HB3.out.size _⟩

/-- SuperNil. -/
theorem snil_any (b : Blk) (w : World) (hv : VarsAt w) : Calls Tryd.prog 4 #[b.val] w (TrueB w) := by
  have HV := Lib.hid hv
  have HSN : ∀ W, Calls Tryd.prog 8 #[.pointer none, .agg #[.int .i64 b.gen, .int .i64 b.epoch, .int .i64 b.first, .int .i64 b.begun, .int .i64 b.count]] W (Gave W (.int .i64 1)) := fun W => save_nil b W
  have HS2 := Lib.hid HSN
  have HW := Lib.hid (Whole.made w b.cells 30)
  have HB := Lib.hid ((Below.refl w.heap.size w).alloc (Nat.le_refl _) (.cells b.cells.toArray 30))
  clear HSN hv
  unfold Blk.val
  go_enter Tryd.func4, Tryd.ntmps4
  go_wp2_with fail
  refine (load_nil _).mono ?_
  rintro e w1 ⟨rfl, hb1⟩
  have HW1 := Lib.hid (HW.out.below hb1 HW.out.lt)
  have HB1 := Lib.hid (HB.out.trans (hb1.mono HB.out.size))
  have HV1 := Lib.hid ((HV.out.next HB1.out).alloc (.cells bzero.cells.toArray 30))
  clear hb1
  unfold Blk.val bzero
  go_wp2_with fail
  refine (sanswers_any _ HV1.out).mono ?_
  rintro e w2 ⟨rfl, hb2⟩
  have HW2 := Lib.hid ((HW1.out.alloc (.cells bzero.cells.toArray 30)).below hb2 (HW1.out.alloc _).lt)
  have HB2 := Lib.hid ((HB1.out.alloc HB1.out.size (.cells bzero.cells.toArray 30)).trans (hb2.mono (HB1.out.alloc HB1.out.size (.cells bzero.cells.toArray 30)).size))
  have c0 : w2.cell? ⟨w.heap.size, 0, none⟩ = some (.int .i64 b.gen) := HW2.out.cell 0
  have c1 : w2.cell? ⟨w.heap.size, 1, none⟩ = some (.int .i64 b.epoch) := HW2.out.cell 1
  have c2 : w2.cell? ⟨w.heap.size, 2, none⟩ = some (.int .i64 b.first) := HW2.out.cell 2
  have c3 : w2.cell? ⟨w.heap.size, 3, none⟩ = some (.int .i64 b.begun) := HW2.out.cell 3
  have c4 : w2.cell? ⟨w.heap.size, 4, none⟩ = some (.int .i64 b.count) := HW2.out.cell 4
  clear hb2
  go_wp2_with fail
  refine (HS2.out _).mono ?_
  rintro e w3 ⟨rfl, hb3⟩
  have HB3 := Lib.hid (HB2.out.trans (hb3.mono HB2.out.size))
  clear hb3
  go_wp2
  go_ret
  exact ⟨rfl, HB3.out⟩

end Go.Proofs.YthjcpficpiddaaaDoor
