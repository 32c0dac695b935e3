/-
  What the program's variable 'head' holds; where a block's numbers stand; the contracts of super.numbers, super.fits and super.bytesOf.
-/
import Derived.Test.YthjcpficpiddaaaDoorUPlain
import Derived.Test.YthjcpficpiddaaaDoorJNum
import Derived.Test.YthjcpficpiddaaaDoorPut
import Derived.Test.YthjcpficpiddaaaDoorFrame
import Derived.Test.YthjcpficpiddaaaDoorMid
import Derived.Deep.RegionHeld3
namespace Go.Proofs.YthjcpficpiddaaaDoor
open Go.RowKit

/-- The head's five cells. -/
def HeadAt (w : World) : Prop := ∃ t fr, w.heap[0]? = some (.cells supH.cells.toArray t fr)
structure VarsAt (w : World) : Prop where
  sizes : SizesAt w
  head : HeadAt w
section
variable {w w' : World}
theorem HeadAt.lt (h : HeadAt w) : 0 < w.heap.size := by
  obtain ⟨t, fr, h⟩ := h
  rcases Nat.lt_or_ge 0 w.heap.size with h0 | h0
  · exact h0
  · rw [Array.getElem?_eq_none h0] at h
    cases h
theorem HeadAt.next (h : HeadAt w) (hb : Below w.heap.size w w') : HeadAt w' := by
  have hl := h.lt
  obtain ⟨t, fr, h⟩ := h
  exact ⟨t, fr, (hb.block _ hl).trans h⟩
theorem HeadAt.cell (h : HeadAt w) {k : Nat} {v : Value} (hk : supH.cells[k]? = some v) : w.cell? ⟨0, k, none⟩ = some v := by
  obtain ⟨t, fr, h⟩ := h
  simp only [World.cell?, h, List.getElem?_toArray]
  exact hk
theorem VarsAt.next (h : VarsAt w) (hb : Below w.heap.size w w') : VarsAt w' := ⟨h.sizes.next hb, h.head.next hb⟩
theorem VarsAt.alloc (h : VarsAt w) (o : Obj) : VarsAt (w.alloc o) := h.next ((Below.refl w.heap.size w).alloc (Nat.le_refl _) o)
theorem VarsAt.drewN (h : VarsAt w) (k : Nat) : VarsAt (w.drewN k) := ⟨h.sizes.drewN k, h.head⟩
end

/-- Where a block's five numbers stand. -/
def ptr5 (B : Nat) : Value := .agg #[.pointer (some ⟨B, 0, none⟩), .pointer (some ⟨B, 1, none⟩), .pointer (some ⟨B, 2, none⟩), .pointer (some ⟨B, 3, none⟩), .pointer (some ⟨B, 4, none⟩)]
theorem ptr_index (B : Nat) {k : Nat} (hk : k < 5) (w : World) : (Instr.index 56 (ptr5 B) (.int .i64 (k : Int))).run Tryd.prog w = .ok (.pointer (some ⟨B, k, none⟩)) w := by
  have e : k = 0 ∨ k = 1 ∨ k = 2 ∨ k = 3 ∨ k = 4 := by omega
  rcases e with rfl | rfl | rfl | rfl | rfl <;> rfl

theorem bnumbers_any (B : Nat) (w : World) : Calls Tryd.prog 22 #[.pointer (some ⟨B, 0, none⟩)] w (Gave w (ptr5 B)) := by
  go_enter Tryd.func22, Tryd.ntmps22
  go_wp2
  go_region_held3 (fun _ => True) (go_keep) (skip)
  go_wp2
  exact bodyPost_ret (v := ptr5 B) (by simp [results, Tryd.results22, go_sem, ptr5]) rfl ⟨rfl, ((Below.refl w.heap.size w).alloc (Nat.le_refl _) _).drew⟩

theorem bfits_no {b : Blk} {k : Nat} (hk : k < 5) (h : fitB (b.num k) 7 = false) : b.fits = false := by
  have e : k = 0 ∨ k = 1 ∨ k = 2 ∨ k = 3 ∨ k = 4 := by omega
  unfold Blk.fits
  rcases e with rfl | rfl | rfl | rfl | rfl <;> simp [bfitsTo, h]
theorem Blk.cell_num (b : Blk) {k : Nat} (hk : k < 5) : b.cells[k]? = some (.int .i64 (b.num k)) := by
  have e : k = 0 ∨ k = 1 ∨ k = 2 ∨ k = 3 ∨ k = 4 := by omega
  rcases e with rfl | rfl | rfl | rfl | rfl <;> rfl

def BfitsRel (b : Blk) (w : World) (i : Value) (wr : World) : Prop := ∃ k : Nat, k ≤ 5 ∧ i = .int .i64 k ∧ bfitsTo b k = true ∧ wr = w

set_option maxHeartbeats 400000 in
theorem bfits_any (b : Blk) (w : World) : Calls Tryd.prog 13 #[b.val] w (Gave w (.bool b.fits)) := by
  have HN := Lib.hid (bnumbers_any w.heap.size)
  unfold Blk.val
  go_enter Tryd.func13, Tryd.ntmps13
  go_wp2_with fail
  refine (HN.out _).mono ?_
  rintro e w1 ⟨rfl, hb1⟩
  have HB1 := Lib.hid (((Below.refl w.heap.size w).alloc (Nat.le_refl _) _).trans (hb1.mono (by simp)))
  have hc0 : ∀ j v, b.cells[j]? = some v → w1.cell? ⟨w.heap.size, j, none⟩ = some v := fun j v hj => by
    rw [hb1.cell (p := ⟨w.heap.size, j, none⟩) (by simp), World.cell?_alloc_at _ _ _ _ rfl]
    simpa [Blk.cells] using hj
  have HC0 := Lib.hid hc0
  clear hc0 hb1
  go_wp2
  go_loopw [6] (BfitsRel b w1) (fun i _ => 5 - (intOf i).toNat)
  case atStart => exact ⟨0, by omega, rfl, rfl, rfl⟩
  case round =>
    obtain ⟨k, hk, rfl, hf, rfl⟩ := hrel
    by_cases hlt : k < 5
    · have hi := fun W => ptr_index w.heap.size hlt W
      have hcel := HC0.out k _ (b.cell_num hlt)
      cases hfit : fitB (b.num k) 7 with
      | true =>
        have hc := fun W => fits_any (b.num k) 7 W
        rw [hfit] at hc
        have HC := Lib.hid hc
        have HF := Lib.hid (show bfitsTo b (k + 1) = true by simp only [bfitsTo, hf, hfit, Bool.and_self])
        clear hc hf hfit
        go_wp2_with fail
        refine (HC.out _).mono ?_
        rintro e w' ⟨rfl, rfl⟩
        go_wp2
        refine ⟨⟨k + 1, by omega, by go_num, HF.out, rfl⟩, by simp [intOf]; omega⟩
      | false =>
        have hc := fun W => fits_any (b.num k) 7 W
        rw [hfit] at hc
        have HC := Lib.hid hc
        have HF := Lib.hid (bfits_no hlt hfit)
        clear hc hf hfit
        go_wp2_with fail
        refine (HC.out _).mono ?_
        rintro e w' ⟨rfl, rfl⟩
        go_wp2
        go_ret
        exact ⟨by rw [HF.out]; rfl, HB1.out⟩
    · obtain rfl : k = 5 := by omega
      have HF := Lib.hid (show b.fits = true from hf)
      clear hf
      go_wp2
      go_ret
      exact ⟨by rw [HF.out]; rfl, HB1.out⟩

/-- What bytesOf leaves: bytes of its own. -/
def BytesOut (w : World) (l : List UInt8) (e : Ending) (w' : World) : Prop :=
  ∃ v, e = .returned v ∧ w'.ownsRow w.heap.size 5 1 v l.length (l.map bc) ∧ Below w.heap.size w w'
def BytesRel (b : Blk) (w : World) (v i : Value) (wr : World) : Prop :=
  ∃ k : Nat, k ≤ 5 ∧ i = .int .i64 k ∧ wr.ownsRow w.heap.size 5 1 v (bytesTo b k).length ((bytesTo b k).map bc) ∧ Below w.heap.size w wr

set_option maxHeartbeats 1000000 in
theorem bbytes_any (b : Blk) (w : World) : Calls Tryd.prog 16 #[b.val] w (BytesOut w (bytesTo b 5)) := by
  have HN := Lib.hid (bnumbers_any w.heap.size)
  unfold Blk.val
  go_enter Tryd.func16, Tryd.ntmps16
  go_wp2_with fail
  refine (HN.out _).mono ?_
  rintro e w1 ⟨rfl, hb1⟩
  have HB1 := Lib.hid (((Below.refl w.heap.size w).alloc (Nat.le_refl _) _).trans (hb1.mono (by simp)))
  have hc0 : ∀ j v, b.cells[j]? = some v → w1.cell? ⟨w.heap.size, j, none⟩ = some v := fun j v hj => by
    rw [hb1.cell (p := ⟨w.heap.size, j, none⟩) (by simp), World.cell?_alloc_at _ _ _ _ rfl]
    simpa [Blk.cells] using hj
  have HC0 := Lib.hid hc0
  have HZ := Lib.hid (Nat.lt_of_lt_of_le (by simp) hb1.size : w.heap.size < w1.heap.size)
  clear hc0 hb1
  go_wp2
  go_loopw [3, 7] (BytesRel b w1) (fun _ i _ => 5 - (intOf i).toNat)
  case atStart => exact ⟨0, by omega, rfl, World.ownsRow_nil _ _ _ _, Below.refl _ _⟩
  case round =>
    obtain ⟨k, hk, rfl, hown, hbr⟩ := hrel
    obtain ⟨A1, c1, rfl, hc1, hc2⟩ := own_form hown
    have hlk := length_bytesTo b k
    have HO := Lib.hid hown
    have HB := Lib.hid hbr
    by_cases hlt : k < 5
    · have hi := fun W => ptr_index w.heap.size hlt W
      have hcel : wr.cell? ⟨w.heap.size, k, none⟩ = some (.int .i64 (b.num k)) := (hbr.cell (p := ⟨w.heap.size, k, none⟩) HZ.out).trans (HC0.out k _ (b.cell_num hlt))
      have HP := Lib.hid (put_any A1 (bytesTo b k).length c1 wr.heap.size (bytesTo b k) (b.num k) 7 wr rfl (Row.of_own HO.out) (Nat.le_refl _) (by omega))
      clear hlk hc1 hc2 hown hbr
      go_wp2_with fail
      refine HP.out.mono ?_
      rintro e w3 ⟨A3, c3, rfl, hown3, hb3⟩
      have hsz := HB.out.size
      have HO3 := Lib.hid (own_mono hown3 hsz)
      have HB3 := Lib.hid (HB.out.trans (hb3.mono hsz))
      clear hown3 hb3
      go_wp2
      exact ⟨⟨k + 1, by omega, by go_num, HO3.out, HB3.out⟩, by simp [intOf]; omega⟩
    · obtain rfl : k = 5 := by omega
      clear hlk hc1 hc2 hown hbr
      go_wp2
      go_ret
      exact ⟨_, rfl, own_mono HO.out (Nat.le_of_lt HZ.out), HB1.out.trans (HB.out.mono (Nat.le_of_lt HZ.out))⟩

end Go.Proofs.YthjcpficpiddaaaDoor
