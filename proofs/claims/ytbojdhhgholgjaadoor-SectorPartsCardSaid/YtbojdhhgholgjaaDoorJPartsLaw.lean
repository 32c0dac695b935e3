/-
  SectorParts: a sector that does not belong to its parts, or has too much in it, is none.
-/
import Derived.Test.YtbojdhhgholgjaaDoorJAns
import Derived.Deep.RegionHeld3
import Derived.IntWalk
namespace Go.Proofs.YtbojdhhgholgjaaDoor
open Go.RowKit

/-- The head of the statement. -/
def hdPP (a b : Nat) : SH := ⟨1, 0, 0, a, b⟩
theorem fit1 (n : Nat) : fitB (n : Int) 1 = decide (n < 256) := by
  unfold fitB
  rw [decide_eq_decide]
  simp
  omega
theorem headB_PP (a b : Nat) : headB (hdPP a b) = (decide (a < 256) && decide (b < 256) && decide (a < b)) := by
  have e1 : fitB 1 1 = true := by decide +kernel
  have e4 : fitB 0 4 = true := by decide +kernel
  have e7 : fitB 0 7 = true := by decide +kernel
  unfold headB
  rw [fitsTo_five]
  simp only [hdPP, e1, e4, e7, fit1]
  simp

theorem made_run {mm : Nat} (h : mm < 600) (w : World) : (Instr.makeSlice 24 (.int .i64 (mm : Int)) (.int .i64 (mm : Int))).run Tryd.prog w = .ok (.slice (some ⟨w.heap.size, 0, none⟩) mm mm) (w.alloc (.cells (zerosL (.int .u8 0) mm).toArray 5)) := by
  obtain ⟨i0, hi0, hz0, hz1, hz2⟩ := info_parts u8_info
  have hr := run_make (P := Tryd.prog) w 24 5 i0 _ Tryd.underlying24 hi0 hz0 .i64 .i64 mm mm (by omega) (Int.le_refl _) (by rw [hz2]; omega) (by omega)
  rw [hr, hz1, Int.toNat_natCast, Nat.mul_one]
  have hm : madeCells #[.int .u8 0] mm = (List.replicate mm (.int .u8 0)).toArray := Array.toList_inj.1 (by rw [toList_madeCells_one])
  rw [show (Value.int .u8 0).cells = #[.int .u8 0] from rfl, hm]
  rfl
theorem nought_cells (n : Nat) : (nought n).map bc = zerosL (.int .u8 0) n := by
  unfold nought zerosL
  rw [List.map_replicate]
  rfl

set_option maxHeartbeats 1000000 in
set_option maxRecDepth 4000 in
theorem parts_core (a b n : Nat) (w : World) (hs : SizesAt w) (ha : a < 65536) (hb : b < 65536) (hn : n < 65536) :
    Calls Tryd.prog 6 #[.int .u16 (a : Int), .int .u16 (b : Int), .int .u16 (n : Int)] w (TrueB w) := by
  obtain ⟨mm, hmm⟩ : ∃ mm, n % 600 = mm := ⟨_, rfl⟩
  have hm6 : mm < 600 := by omega
  have r0 : IntKind.i64.wrap (n : Int) = (n : Int) := IntWalk.i64_in _ (by omega)
  have r1 : (n : Int).tmod 600 = (mm : Int) := by rw [Int.tmod_eq_emod_of_nonneg (by omega)]; omega
  have r2 : (n : Int) % 600 = (mm : Int) := by omega
  have hmk := fun w => made_run hm6 w
  have HS := Lib.hid hs
  have HMM := Lib.hid hmm
  clear hs hmm
  go_enter Tryd.func6, Tryd.ntmps6
  go_wp2
  obtain ⟨W1, hW1⟩ : ∃ W1, W1 = w.alloc (.cells (hdPP a b).cells.toArray 23) := ⟨_, rfl⟩
  have hWs : SizesAt W1 := by rw [hW1]; exact HS.out.alloc _
  have hWw : Whole W1 w.heap.size 23 (hdPP a b).cells := by rw [hW1]; exact Whole.made _ _ _
  have hWb : Below w.heap.size w W1 := by rw [hW1]; exact (Below.refl _ _).alloc (Nat.le_refl _) _
  have HWS := Lib.hid hWs
  have HWB := Lib.hid hWb
  have hzW := hWb.size
  have hltW := hWw.lt
  have c0 : W1.cell? ⟨w.heap.size, 0, none⟩ = some (.int .i64 1) := hWw.cell 0
  have c1 : W1.cell? ⟨w.heap.size, 1, none⟩ = some (.int .i64 0) := hWw.cell 1
  have c2 : W1.cell? ⟨w.heap.size, 2, none⟩ = some (.int .i64 0) := hWw.cell 2
  have c3 : W1.cell? ⟨w.heap.size, 3, none⟩ = some (.int .i64 (a : Int)) := hWw.cell 3
  have c4 : W1.cell? ⟨w.heap.size, 4, none⟩ = some (.int .i64 (b : Int)) := hWw.cell 4
  change Code.wp _ _ _ _ (w.alloc (.cells (hdPP a b).cells.toArray 23))
  rw [← hW1]
  clear hW1 hWs hWw hWb
  go_region_held3 (fun X => X.cell? ⟨w.heap.size, 0, none⟩ = some (.int .i64 1) ∧ X.cell? ⟨w.heap.size, 1, none⟩ = some (.int .i64 0) ∧ X.cell? ⟨w.heap.size, 2, none⟩ = some (.int .i64 0) ∧ X.cell? ⟨w.heap.size, 3, none⟩ = some (.int .i64 (a : Int)) ∧ X.cell? ⟨w.heap.size, 4, none⟩ = some (.int .i64 (b : Int)))
    (go_keep)
    ((go_at_call 8
      refine (seal_any (some ⟨W1.heap.size, 0, none⟩) mm mm (hdPP a b) (nought mm) _ (length_nought mm) ?hr1 ?hr2 (Nat.le_refl _) (by unfold maxLen; omega)).mono ?_
      case hr1 => rw [nought_cells]; exact (Row.made W1 (zerosL (.int .u8 0) mm).toArray 5).mono (by simp)
      case hr2 => exact HWS.out.alloc _
      rintro e w2 ⟨v2, rfl, hown2, hb2⟩
      rw [length_nought]
      have HB2 := Lib.hid (HWB.out.trans ((((Below.refl W1.heap.size W1).alloc (Nat.le_refl _) (.cells (zerosL (.int .u8 0) mm).toArray 5)).drew.trans (hb2.mono (by simp))).mono hzW))
      have hcc : ∀ i u, W1.cell? ⟨w.heap.size, i, none⟩ = some u → w2.cell? ⟨w.heap.size, i, none⟩ = some u := fun i u hu =>
        (hb2.cell (p := ⟨w.heap.size, i, none⟩) (by simp; omega)).trans ((World.cell?_alloc_lt W1 _ ⟨w.heap.size, i, none⟩ hltW).trans hu)
      have k0 := hcc 0 _ c0
      have k1 := hcc 1 _ c1
      have k2 := hcc 2 _ c2
      have k3 := hcc 3 _ c3
      have k4 := hcc 4 _ c4
      have HS2 := Lib.hid (HS.out.next HB2.out)
      clear hcc
      clear hown2 hb2))
  by_cases h5 : 496 < mm
  · by_cases h1 : a < 256
    · by_cases h2 : b < 256
      · by_cases h3 : 0 < b
        · by_cases h4 : a < b
          · have e5 : decide ((496 : Int) < (mm : Int)) = true := by simp; omega
            have e1 : decide ((a : Int) < 256) = true := by simp; omega
            have e2 : decide ((b : Int) < 256) = true := by simp; omega
            have e3 : decide (0 < b) = true := by simp; omega
            have e3i : decide ((0 : Int) < (b : Int)) = true := by simp; omega
            have e4 : decide (a < b) = true := by simp; omega
            have e4i : decide ((a : Int) < (b : Int)) = true := by simp; omega
            have he : sealE (hdPP a b) mm = 4 := sealE_large (by rw [headB_PP]; simp; omega) (by omega)
            rw [he]
            clear he h5  h1 h2 h3 h4
            go_wp2_with fail
            refine (answers_any _ HS2.out).mono ?_
            rintro e w3 ⟨rfl, hb3⟩
            have HB3 := Lib.hid (HB2.out.trans (hb3.mono HB2.out.size))
            clear hb3
            go_wp2
            go_ret
            exact ⟨rfl, HB3.out⟩
          · have e5 : decide ((496 : Int) < (mm : Int)) = true := by simp; omega
            have e1 : decide ((a : Int) < 256) = true := by simp; omega
            have e2 : decide ((b : Int) < 256) = true := by simp; omega
            have e3 : decide (0 < b) = true := by simp; omega
            have e3i : decide ((0 : Int) < (b : Int)) = true := by simp; omega
            have e4 : decide (a < b) = false := by simp; omega
            have e4i : decide ((a : Int) < (b : Int)) = false := by simp; omega
            have he : sealE (hdPP a b) mm = 15 := sealE_head (by rw [headB_PP]; simp; omega)
            rw [he]
            clear he h5  h1 h2 h3 h4
            go_wp2_with fail
            refine (answers_any _ HS2.out).mono ?_
            rintro e w3 ⟨rfl, hb3⟩
            have HB3 := Lib.hid (HB2.out.trans (hb3.mono HB2.out.size))
            clear hb3
            go_wp2
            go_ret
            exact ⟨rfl, HB3.out⟩
        · have e5 : decide ((496 : Int) < (mm : Int)) = true := by simp; omega
          have e1 : decide ((a : Int) < 256) = true := by simp; omega
          have e2 : decide ((b : Int) < 256) = true := by simp; omega
          have e3 : decide (0 < b) = false := by simp; omega
          have e3i : decide ((0 : Int) < (b : Int)) = false := by simp; omega
          have he : sealE (hdPP a b) mm = 15 := sealE_head (by rw [headB_PP]; simp; omega)
          rw [he]
          clear he h5  h1 h2 h3
          go_wp2_with fail
          refine (answers_any _ HS2.out).mono ?_
          rintro e w3 ⟨rfl, hb3⟩
          have HB3 := Lib.hid (HB2.out.trans (hb3.mono HB2.out.size))
          clear hb3
          go_wp2
          go_ret
          exact ⟨rfl, HB3.out⟩
      · have e5 : decide ((496 : Int) < (mm : Int)) = true := by simp; omega
        have e1 : decide ((a : Int) < 256) = true := by simp; omega
        have e2 : decide ((b : Int) < 256) = false := by simp; omega
        have he : sealE (hdPP a b) mm = 15 := sealE_head (by rw [headB_PP]; simp; omega)
        rw [he]
        clear he h5  h1 h2
        go_wp2_with fail
        refine (answers_any _ HS2.out).mono ?_
        rintro e w3 ⟨rfl, hb3⟩
        have HB3 := Lib.hid (HB2.out.trans (hb3.mono HB2.out.size))
        clear hb3
        go_wp2
        go_ret
        exact ⟨rfl, HB3.out⟩
    · have e5 : decide ((496 : Int) < (mm : Int)) = true := by simp; omega
      have e1 : decide ((a : Int) < 256) = false := by simp; omega
      have he : sealE (hdPP a b) mm = 15 := sealE_head (by rw [headB_PP]; simp; omega)
      rw [he]
      clear he h5  h1
      go_wp2_with fail
      refine (answers_any _ HS2.out).mono ?_
      rintro e w3 ⟨rfl, hb3⟩
      have HB3 := Lib.hid (HB2.out.trans (hb3.mono HB2.out.size))
      clear hb3
      go_wp2
      go_ret
      exact ⟨rfl, HB3.out⟩
  · by_cases h1 : a < 256
    · by_cases h2 : b < 256
      · by_cases h3 : 0 < b
        · by_cases h4 : a < b
          · have e5 : decide ((496 : Int) < (mm : Int)) = false := by simp; omega
            have e1 : decide ((a : Int) < 256) = true := by simp; omega
            have e2 : decide ((b : Int) < 256) = true := by simp; omega
            have e3 : decide (0 < b) = true := by simp; omega
            have e3i : decide ((0 : Int) < (b : Int)) = true := by simp; omega
            have e4 : decide (a < b) = true := by simp; omega
            have e4i : decide ((a : Int) < (b : Int)) = true := by simp; omega
            have he : sealE (hdPP a b) mm = 0 := sealE_ok (by rw [headB_PP]; simp; omega) (by omega)
            rw [he]
            clear he h5  h1 h2 h3 h4
            go_wp2_with fail
            refine (answers_any _ HS2.out).mono ?_
            rintro e w3 ⟨rfl, hb3⟩
            have HB3 := Lib.hid (HB2.out.trans (hb3.mono HB2.out.size))
            clear hb3
            go_wp2
            go_ret
            exact ⟨rfl, HB3.out⟩
          · have e5 : decide ((496 : Int) < (mm : Int)) = false := by simp; omega
            have e1 : decide ((a : Int) < 256) = true := by simp; omega
            have e2 : decide ((b : Int) < 256) = true := by simp; omega
            have e3 : decide (0 < b) = true := by simp; omega
            have e3i : decide ((0 : Int) < (b : Int)) = true := by simp; omega
            have e4 : decide (a < b) = false := by simp; omega
            have e4i : decide ((a : Int) < (b : Int)) = false := by simp; omega
            have he : sealE (hdPP a b) mm = 15 := sealE_head (by rw [headB_PP]; simp; omega)
            rw [he]
            clear he h5  h1 h2 h3 h4
            go_wp2_with fail
            refine (answers_any _ HS2.out).mono ?_
            rintro e w3 ⟨rfl, hb3⟩
            have HB3 := Lib.hid (HB2.out.trans (hb3.mono HB2.out.size))
            clear hb3
            go_wp2
            go_ret
            exact ⟨rfl, HB3.out⟩
        · have e5 : decide ((496 : Int) < (mm : Int)) = false := by simp; omega
          have e1 : decide ((a : Int) < 256) = true := by simp; omega
          have e2 : decide ((b : Int) < 256) = true := by simp; omega
          have e3 : decide (0 < b) = false := by simp; omega
          have e3i : decide ((0 : Int) < (b : Int)) = false := by simp; omega
          have he : sealE (hdPP a b) mm = 15 := sealE_head (by rw [headB_PP]; simp; omega)
          rw [he]
          clear he h5  h1 h2 h3
          go_wp2_with fail
          refine (answers_any _ HS2.out).mono ?_
          rintro e w3 ⟨rfl, hb3⟩
          have HB3 := Lib.hid (HB2.out.trans (hb3.mono HB2.out.size))
          clear hb3
          go_wp2
          go_ret
          exact ⟨rfl, HB3.out⟩
      · have e5 : decide ((496 : Int) < (mm : Int)) = false := by simp; omega
        have e1 : decide ((a : Int) < 256) = true := by simp; omega
        have e2 : decide ((b : Int) < 256) = false := by simp; omega
        have he : sealE (hdPP a b) mm = 15 := sealE_head (by rw [headB_PP]; simp; omega)
        rw [he]
        clear he h5  h1 h2
        go_wp2_with fail
        refine (answers_any _ HS2.out).mono ?_
        rintro e w3 ⟨rfl, hb3⟩
        have HB3 := Lib.hid (HB2.out.trans (hb3.mono HB2.out.size))
        clear hb3
        go_wp2
        go_ret
        exact ⟨rfl, HB3.out⟩
    · have e5 : decide ((496 : Int) < (mm : Int)) = false := by simp; omega
      have e1 : decide ((a : Int) < 256) = false := by simp; omega
      have he : sealE (hdPP a b) mm = 15 := sealE_head (by rw [headB_PP]; simp; omega)
      rw [he]
      clear he h5  h1
      go_wp2_with fail
      refine (answers_any _ HS2.out).mono ?_
      rintro e w3 ⟨rfl, hb3⟩
      have HB3 := Lib.hid (HB2.out.trans (hb3.mono HB2.out.size))
      clear hb3
      go_wp2
      go_ret
      exact ⟨rfl, HB3.out⟩

end Go.Proofs.YtbojdhhgholgjaaDoor
