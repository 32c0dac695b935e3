/-
  SectorSeals: Seal answers the document's bytes, or its error.
-/
import Derived.Test.YtbojdhhgholgjaaDoorJAns
import Derived.Test.YtbojdhhgholgjaaDoorJRefSeal
import Derived.Test.YtbojdhhgholgjaaDoorStepA
import Derived.Test.YtbojdhhgholgjaaDoorSame
import Derived.Deep.RegionHeld3
namespace Go.Proofs.YtbojdhhgholgjaaDoor
open Go.RowKit

set_option maxHeartbeats 400000 in
theorem seals_long (x : SH) (A : Option Addr) (m c : Nat) (w : World) (hs : SizesAt w) (hm : m ≤ maxLen) (h : 5000 < m) :
    Calls Tryd.prog 3 #[x.val, .slice A m c] w (TrueB w) := by
  unfold maxLen at hm
  have hd : decide ((5000 : Int) < (m : Int)) = true := by simp; omega
  have HS := Lib.hid (hs.alloc (.cells x.cells.toArray 23))
  clear hs
  unfold SH.val
  go_enter Tryd.func3, Tryd.ntmps3
  go_wp2_with fail
  refine (answers_any _ HS.out).mono ?_
  rintro e w1 ⟨rfl, hb1⟩
  have HB1 := Lib.hid (((Below.refl w.heap.size w).alloc (Nat.le_refl _) (.cells x.cells.toArray 23)).trans (hb1.mono (by simp)))
  have HS1 := Lib.hid (HS.out.next hb1)
  clear hb1
  go_wp2_with fail
  refine (answers_any _ HS1.out).mono ?_
  rintro e w2 ⟨rfl, hb2⟩
  have HB2 := Lib.hid (HB1.out.trans (hb2.mono HB1.out.size))
  clear hb2
  go_wp2
  go_ret
  exact ⟨rfl, HB2.out⟩

set_option maxHeartbeats 1000000 in
set_option maxRecDepth 4000 in
theorem seals_short (x : SH) (A : Option Addr) (m c : Nat) (l : List UInt8) (w : World) (hs : SizesAt w) (hx : x.Wide) (hl : l.length = m) (hA : Row w w.heap.size A (l.map bc)) (h : m ≤ 5000) :
    Calls Tryd.prog 3 #[x.val, .slice A m c] w (TrueB w) := by
  have hd : decide ((5000 : Int) < (m : Int)) = false := by simp; omega
  have HS := Lib.hid (hs.alloc (.cells x.cells.toArray 23))
  have HW := Lib.hid (Whole.made w x.cells 23)
  have HL := Lib.hid hl
  have HA := Lib.hid hA
  have HX := Lib.hid hx
  obtain ⟨i0, hi0, hz0, hz1, hz2⟩ := info_parts u8_info
  clear hs hl hA hx
  unfold SH.val
  go_enter Tryd.func3, Tryd.ntmps3
  go_wp2_with fail
  refine (answers_any _ HS.out).mono ?_
  rintro e W1 ⟨rfl, hb1⟩
  have hB1 := ((Below.refl w.heap.size w).alloc (Nat.le_refl _) (.cells x.cells.toArray 23)).trans (hb1.mono (by simp))
  have hW1 := HW.out.below hb1 HW.out.lt
  have HS1 := Lib.hid (HS.out.next hb1)
  have HA1 := Lib.hid (HA.out.below hB1)
  have HB1 := Lib.hid hB1
  have HW1 := Lib.hid hW1
  have hzW := hB1.size
  have hltW := hW1.lt
  have c0 : W1.cell? ⟨w.heap.size, 0, none⟩ = some (.int .i64 x.kind) := hW1.cell 0
  have c1 : W1.cell? ⟨w.heap.size, 1, none⟩ = some (.int .i64 x.epoch) := hW1.cell 1
  have c2 : W1.cell? ⟨w.heap.size, 2, none⟩ = some (.int .i64 x.seq) := hW1.cell 2
  have c3 : W1.cell? ⟨w.heap.size, 3, none⟩ = some (.int .i64 x.part) := hW1.cell 3
  have c4 : W1.cell? ⟨w.heap.size, 4, none⟩ = some (.int .i64 x.parts) := hW1.cell 4
  clear hb1 hB1 hW1
  go_wp2
  go_region_held3 (fun X => X.cell? ⟨w.heap.size, 0, none⟩ = some (.int .i64 x.kind) ∧ X.cell? ⟨w.heap.size, 1, none⟩ = some (.int .i64 x.epoch) ∧ X.cell? ⟨w.heap.size, 2, none⟩ = some (.int .i64 x.seq) ∧ X.cell? ⟨w.heap.size, 3, none⟩ = some (.int .i64 x.part) ∧ X.cell? ⟨w.heap.size, 4, none⟩ = some (.int .i64 x.parts))
    (go_keep)
    ((first
      | (refine step_append_any (o := ⟨some 21, _, _, _, _, _⟩) rfl (.tmp 19) (.tmp 20) _ rfl W1.heap.size 5 i0 _ 1 1 Tryd.underlying24 hi0 hz0 hz1 hz2 rfl (by omega) (.slice (some ⟨W1.heap.size, 0, none⟩) 0 0) 0 [] ?hx0 ?hx1 A m c w.heap.size (l.map bc) ?hx2 (by rw [List.length_map, HL.out, Nat.mul_one]) ?hx3 (bc_one _) (by unfold maxLen; omega) (by omega) ?hx4 ?_
         case hx0 => rfl
         case hx1 => exact (own_lit W1 5 1).drew
         case hx2 => rfl
         case hx3 => exact (HA1.out.alloc hzW _).drew
         case hx4 => simp
         intro v2 w2 hown2 hg2
         simp only [Nat.zero_add, List.nil_append] at hown2
         obtain ⟨A2, c2', rfl, hc1, hc2⟩ := own_form hown2
         have HO2 := Lib.hid hown2
         have hb2 := own_below ((Below.refl W1.heap.size W1).alloc (Nat.le_refl _) _).drew (Nat.le_refl _) (by simp) (own_lit W1 5 1).drew hg2
         have HB2 := Lib.hid hb2
         have h2 := HW1.out.below hb2 HW1.out.lt
         have HW2 := Lib.hid h2
         have k0 : w2.cell? ⟨w.heap.size, 0, none⟩ = some (.int .i64 x.kind) := h2.cell 0
         have k1 : w2.cell? ⟨w.heap.size, 1, none⟩ = some (.int .i64 x.epoch) := h2.cell 1
         have k2 : w2.cell? ⟨w.heap.size, 2, none⟩ = some (.int .i64 x.seq) := h2.cell 2
         have k3 : w2.cell? ⟨w.heap.size, 3, none⟩ = some (.int .i64 x.part) := h2.cell 3
         have k4 : w2.cell? ⟨w.heap.size, 4, none⟩ = some (.int .i64 x.parts) := h2.cell 4
         have hz2 := hb2.size
         clear hown2 hg2 hb2 h2)
      | (go_at_call 8
         refine (seal_any A2 c2' m x l w2 HL.out (Row.of_own HO2.out) (HS1.out.next HB2.out) hc1 (by unfold maxLen; omega)).mono ?_
         rintro e w3 ⟨v3, rfl, hown3, hb3⟩
         have HO3 := Lib.hid hown3
         have hb3' := HB2.out.trans (hb3.mono hz2)
         have HB3 := Lib.hid (HB1.out.trans (hb3'.mono hzW))
         have h3 := HW1.out.below hb3' HW1.out.lt
         have q0 : w3.cell? ⟨w.heap.size, 0, none⟩ = some (.int .i64 x.kind) := h3.cell 0
         have q1 : w3.cell? ⟨w.heap.size, 1, none⟩ = some (.int .i64 x.epoch) := h3.cell 1
         have q2 : w3.cell? ⟨w.heap.size, 2, none⟩ = some (.int .i64 x.seq) := h3.cell 2
         have q3 : w3.cell? ⟨w.heap.size, 3, none⟩ = some (.int .i64 x.part) := h3.cell 3
         have q4 : w3.cell? ⟨w.heap.size, 4, none⟩ = some (.int .i64 x.parts) := h3.cell 4
         have HA3 := Lib.hid (HA1.out.below (hb3'.mono hzW))
         have hz3 := hb3'.size
         clear hown3 hb3 hb3' h3)))
  go_wp2_with fail
  have hz3' := Nat.le_trans hzW hz3
  refine (refseal_any A c m x l w3 HL.out (HA3.out.mono hz3') HX.out (by unfold maxLen; omega)).mono ?_
  rintro e w4 ⟨v4, rfl, hown4, hb4⟩
  have HO4 := Lib.hid hown4
  have HO3' := Lib.hid (own_keep HO3.out (fun g hg => hb4.block g (HO3.out.lt g hg).2))
  have HB4 := Lib.hid (HB3.out.trans (hb4.mono hz3'))
  clear hown4 hb4
  obtain ⟨A3, c3', rfl, hc3, hc4⟩ := own_form HO3'.out
  obtain ⟨A4, c4', rfl, hc5, hc6⟩ := own_form HO4.out
  have HR3 := Lib.hid (Row.of_own HO3'.out)
  have HR4 := Lib.hid (Row.of_own HO4.out)
  have HM := Lib.hid (Nat.le_trans hc3 hc4)
  obtain ⟨sb, hsb⟩ : ∃ sb, sealB x l = sb := ⟨_, rfl⟩
  rw [hsb] at HR3 HR4 HM ⊢
  obtain ⟨se, hse⟩ : ∃ se, sealE x l.length = se := ⟨_, rfl⟩
  rw [hse]
  have heq : (se == se) = true := by simp
  clear hsb hse hc3 hc4 hc5 hc6
  go_wp2_with fail
  refine (same_yes A3 A4 _ _ c3' c4' w4.heap.size sb w4 rfl rfl HR3.out HR4.out HM.out).mono ?_
  rintro e w5 ⟨rfl, k5, rfl⟩
  go_wp2
  go_ret
  exact ⟨rfl, below_drewN' HB4.out _⟩

theorem head_wide {x : SH} (h : (Lit.int .i64 x.kind).wf = true ∧ (Lit.int .i64 x.epoch).wf = true ∧ (Lit.int .i64 x.seq).wf = true ∧ (Lit.int .i64 x.part).wf = true ∧ (Lit.int .i64 x.parts).wf = true) : x.Wide := by
  have k : ∀ {n : Int}, (Lit.int .i64 n).wf = true → n ≤ 9223372036854775807 := fun h => by
    have h2 : IntKind.i64.max = 9223372036854775807 := rfl
    simp only [Lit.wf, Bool.and_eq_true, decide_eq_true_eq] at h
    omega
  exact ⟨k h.1, k h.2.1, k h.2.2.1, k h.2.2.2.1, k h.2.2.2.2⟩

theorem seals_any (x : SH) (A : Option Addr) (m c : Nat) (l : List UInt8) (w : World) (hs : SizesAt w)
    (hx : (Lit.int .i64 x.kind).wf = true ∧ (Lit.int .i64 x.epoch).wf = true ∧ (Lit.int .i64 x.seq).wf = true ∧ (Lit.int .i64 x.part).wf = true ∧ (Lit.int .i64 x.parts).wf = true) (hl : l.length = m) (hA : Row w w.heap.size A (l.map bc)) (_ : m ≤ c) (hm : m ≤ maxLen) :
    Calls Tryd.prog 3 #[x.val, .slice A m c] w (TrueB w) := by
  by_cases h5 : m ≤ 5000
  · exact seals_short x A m c l w hs (head_wide hx) hl hA h5
  · exact seals_long x A m c w hs hm (by omega)

end Go.Proofs.YtbojdhhgholgjaaDoor
