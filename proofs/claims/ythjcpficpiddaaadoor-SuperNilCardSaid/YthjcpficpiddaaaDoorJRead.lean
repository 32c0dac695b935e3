/-
  The contract of sector.read.
-/
import Derived.Test.YthjcpficpiddaaaDoorJNum
import Derived.Test.YthjcpficpiddaaaDoorMid
import Derived.Test.YthjcpficpiddaaaDoorGet
namespace Go.Proofs.YthjcpficpiddaaaDoor
open Go.RowKit

/-- Where the number k begins; its size. -/
def atO (k : Nat) : Nat := [0, 1, 5, 12, 13, 14].getD k 0
def szM (k : Nat) : Nat := [1, 4, 7, 1, 1].getD k 0
theorem szM_eq {k : Nat} (hk : k < 5) : (szM k : Int) = szN k := by
  have e : k = 0 ∨ k = 1 ∨ k = 2 ∨ k = 3 ∨ k = 4 := by omega
  rcases e with rfl | rfl | rfl | rfl | rfl <;> rfl
theorem szM_le {k : Nat} (hk : k < 5) : 1 ≤ szM k ∧ szM k ≤ 7 ∧ atO k + szM k = atO (k + 1) ∧ atO (k + 1) ≤ 14 := by
  have e : k = 0 ∨ k = 1 ∨ k = 2 ∨ k = 3 ∨ k = 4 := by omega
  rcases e with rfl | rfl | rfl | rfl | rfl <;> decide
/-- The number k, as it is read. -/
def numR (l : List UInt8) (k : Nat) : Nat := numN (cutL l (atO k) (szM k))
/-- The array behind k rounds. -/
def readV (l : List UInt8) (k : Nat) : List Value := [0, 1, 2, 3, 4].map fun j => if j < k then .int .i64 (numR l j : Int) else .int .i64 0
theorem length_readV (l : List UInt8) (k : Nat) : (readV l k).length = 5 := rfl
theorem readV_set (l : List UInt8) {k : Nat} (hk : k < 5) : (readV l k).set k (.int .i64 (numR l k : Int)) = readV l (k + 1) := by
  have e : k = 0 ∨ k = 1 ∨ k = 2 ∨ k = 3 ∨ k = 4 := by omega
  rcases e with rfl | rfl | rfl | rfl | rfl <;> rfl
theorem readV_five (l : List UInt8) : readV l 5 = (readH l).cells := rfl
theorem int5_cells : (Tryd.prog.info? 62).map (·.size) = some 5 := by kernel_rfl
theorem head_cells : (Tryd.prog.info? 49).map (·.size) = some 5 := by kernel_rfl

/-- What read leaves. -/
def HReadOut (w : World) (l : List UInt8) (e : Ending) (w' : World) : Prop := e = .returned (.tuple #[(readH l).val, .int .i64 (readC l : Int)]) ∧ Below w.heap.size w w'
def ReadRel (l : List UInt8) (w : World) (p i : Value) (wr : World) : Prop :=
  ∃ k : Nat, k ≤ 5 ∧ i = .int .i64 k ∧ p = .int .i64 (atO k : Int) ∧ Whole wr w.heap.size 49 hzero.cells ∧ Whole wr (w.heap.size + 1) 62 (readV l k) ∧ Below w.heap.size w wr

set_option maxHeartbeats 400000 in
set_option maxRecDepth 4000 in
theorem read_any (A : Option Addr) (c : Nat) (l : List UInt8) (w : World) (hl : l.length = 512) (hA : Row w w.heap.size A (l.map bc)) (hc : 512 ≤ c) (hs : SizesAt w) :
    Calls Tryd.prog 36 #[.slice A 512 c] w (HReadOut w l) := by
  obtain ⟨ty, fr, hfr⟩ := ((hs.alloc (.cells #[.int .i64 0, .int .i64 0, .int .i64 0, .int .i64 0, .int .i64 0] 49)).alloc (.cells #[.int .i64 0, .int .i64 0, .int .i64 0, .int .i64 0, .int .i64 0] 62))
  have HS := Lib.hid hs
  have HL := Lib.hid hl
  have HA := Lib.hid hA
  have HFR := Lib.hid hfr
  clear hs hl hA hfr
  go_enter Tryd.func36, Tryd.ntmps36
  go_wp2_with (refine wpList_load_row rfl 62 (.global 1) rfl 1 rfl ty _ fr _ HFR.out Tryd.underlying62 rfl int5_cells ?_)
  have hw1 := Whole.made w hzero.cells 49
  have hw2 := (hw1.alloc (.cells (readV l 0).toArray 62))
  have hw3 := Whole.made (w.alloc (.cells hzero.cells.toArray 49)) (readV l 0) 62
  have HW2 := Lib.hid hw2
  have HW3 := Lib.hid hw3
  clear hw1 hw2 hw3
  go_loopw [5, 9] (ReadRel l w) (fun _ i _ => 5 - (intOf i).toNat)
  case atStart =>
    refine ⟨0, by omega, rfl, rfl, HW2.out, ?_, ((Below.refl _ _).alloc (Nat.le_refl _) _).alloc (by simp) _⟩
    have h3 := HW3.out
    rwa [show (w.alloc (.cells hzero.cells.toArray 49)).heap.size = w.heap.size + 1 by simp] at h3
  case round =>
    obtain ⟨k, hk, rfl, rfl, hwh, hwa, hb⟩ := hrel
    have HWH := Lib.hid hwh
    have HWA := Lib.hid hwa
    have HB := Lib.hid hb
    have HAr := Lib.hid (HA.out.below hb)
    clear hwh hb
    by_cases hlt : k < 5
    · obtain ⟨h1, h7, ha, h14⟩ := szM_le hlt
      have hi := fun w => arr_index ⟨1, 4, 7, 1, 1⟩ hlt w
      have hi2 : ∀ w, (Instr.index 62 (.agg (List.map (fun z => Value.int IntKind.i64 z) szL).toArray) (.int .i64 (k : Int))).run Tryd.prog w = .ok (.int .i64 (szM k : Int)) w := fun w => by rw [szM_eq hlt]; exact hi w
      have HG := Lib.hid (get_ok A 512 c w.heap.size l (atO k) (szM k) wr HL.out HAr.out (by decide) hc h1 h7 (by omega))
      have hg := getL_ok (l := l) h1 h7 (show atO k + szM k ≤ l.length by have := HL.out; omega)
      have HE := Lib.hid hg
      have HATO := Lib.hid ha
      have hsum : atO k + szM k ≤ 14 := by omega
      have hcel : wr.cell? ⟨w.heap.size + 1, k, none⟩ = some ((readV l k)[k]'(by rw [length_readV]; omega)) := by rw [hwa.cell]; exact List.getElem?_eq_getElem _
      have hfr := hwa.frozen k
      clear hi hg hwa ha
      go_wp2_with fail
      refine HG.out.mono ?_
      rw [HE.out]
      rintro e w' ⟨rfl, rfl⟩
      go_wp2
      refine ⟨⟨k + 1, by omega, by go_num, ?_, ?_, ?_, ?_⟩, by simp [intOf]; omega⟩
      · rw [← HATO.out]; go_num
      · exact HWH.out.keep (Below.heap_setCell _ _ _ _ (by simp))
      · rw [← readV_set l hlt]; exact HWA.out.set_ _ _
      · exact HB.out.setCell (by simp) _
    · obtain rfl : k = 5 := by omega
      have HG := Lib.hid (get_ok A 512 c w.heap.size l (atO 5) 2 wr HL.out HAr.out (by decide) hc (by decide) (by decide) (by decide))
      have HE := Lib.hid (show getL l (atO 5 : Nat) (2 : Nat) = ((readC l : Int), (0 : Int)) from getL_ok (by decide) (by decide) (by have := HL.out; rw [this]; decide))
      have c0 : wr.cell? ⟨w.heap.size + 1, 0, none⟩ = some (.int .i64 (readH l).kind) := hwa.cell 0
      have c1 : wr.cell? ⟨w.heap.size + 1, 1, none⟩ = some (.int .i64 (readH l).epoch) := hwa.cell 1
      have c2 : wr.cell? ⟨w.heap.size + 1, 2, none⟩ = some (.int .i64 (readH l).seq) := hwa.cell 2
      have c3 : wr.cell? ⟨w.heap.size + 1, 3, none⟩ = some (.int .i64 (readH l).part) := hwa.cell 3
      have c4 : wr.cell? ⟨w.heap.size + 1, 4, none⟩ = some (.int .i64 (readH l).parts) := hwa.cell 4
      clear hwa
      obtain ⟨hx, ehx⟩ : ∃ hx, readH l = hx := ⟨_, rfl⟩
      rw [ehx] at c0 c1 c2 c3 c4
      have HX := Lib.hid ehx
      clear ehx
      go_wp2_with fail
      refine HG.out.mono ?_
      rw [HE.out]
      rintro e w' ⟨rfl, rfl⟩
      go_wp2_with (
        refine wpList_store_at rfl 49 (.tmp 2) (.tmp 42) rfl w.heap.size 0 hx.cells rfl rfl 49 _ HWH.out (SH.fit _ _) head_cells hx.one ?_
        intro V hv1 hv2 hv3
        rw [SH.splice] at hv1
        have v0 : V.cell? ⟨w.heap.size, 0, none⟩ = some (.int .i64 hx.kind) := hv1.cell 0
        have v1 : V.cell? ⟨w.heap.size, 1, none⟩ = some (.int .i64 hx.epoch) := hv1.cell 1
        have v2 : V.cell? ⟨w.heap.size, 2, none⟩ = some (.int .i64 hx.seq) := hv1.cell 2
        have v3 : V.cell? ⟨w.heap.size, 3, none⟩ = some (.int .i64 hx.part) := hv1.cell 3
        have v4 : V.cell? ⟨w.heap.size, 4, none⟩ = some (.int .i64 hx.parts) := hv1.cell 4
        have HV := Lib.hid (HB.out.trans (hv2.below (B := w.heap.size) (fun j hj => by omega) HB.out.size))
        clear hv1 hv2 hv3)
      exact bodyPost_ret (v := .tuple #[hx.val, .int .i64 (readC l : Int)]) (by simp [results, Tryd.results36, go_sem, v0, v1, v2, v3, v4, SH.val]) rfl ⟨by rw [HX.out], HV.out⟩

end Go.Proofs.YthjcpficpiddaaaDoor
