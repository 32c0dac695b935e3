/-
  What the program's variable 'sizes' holds; the contracts of sector.numbers and sector.sound.
-/
import Derived.Test.YthjcpficpiddaaaDoorJPlain
import Derived.Test.YthjcpficpiddaaaDoorOwn
import Derived.Test.YthjcpficpiddaaaDoorFits
import Derived.Lib.LaidTab
import Derived.Laws.Rows
namespace Go.Proofs.YthjcpficpiddaaaDoor
open Go.RowKit

/-- The variable's five cells. -/
def SizesAt (w : World) : Prop := ∃ t fr, w.heap[1]? = some (.cells (szL.map fun z => Value.int .i64 z).toArray t fr)
section
variable {w w' : World}
theorem SizesAt.lt (h : SizesAt w) : 1 < w.heap.size := by
  obtain ⟨t, fr, h⟩ := h
  rcases Nat.lt_or_ge 1 w.heap.size with h0 | h0
  · exact h0
  · rw [Array.getElem?_eq_none h0] at h
    cases h
theorem SizesAt.below {B : Nat} (h : SizesAt w) (hb : Below B w w') (hB : 1 < B) : SizesAt w' := by
  obtain ⟨t, fr, h⟩ := h
  exact ⟨t, fr, (hb.block _ hB).trans h⟩
theorem SizesAt.next (h : SizesAt w) (hb : Below w.heap.size w w') : SizesAt w' := h.below hb h.lt
theorem SizesAt.alloc (h : SizesAt w) (o : Obj) : SizesAt (w.alloc o) := h.below ((Below.refl w.heap.size w).alloc (Nat.le_refl _) o) h.lt
theorem SizesAt.drewN (h : SizesAt w) (k : Nat) : SizesAt (w.drewN k) := h
theorem SizesAt.cell (h : SizesAt w) {k : Nat} (hk : k < 5) : w.cell? ⟨1, k, none⟩ = some (.int .i64 (szN k)) := by
  obtain ⟨t, fr, h⟩ := h
  have hs : (szL.map fun z => Value.int .i64 z)[k]? = some (.int .i64 (szN k)) := by
    have hl : k < szL.length := hk
    rw [List.getElem?_map, List.getElem?_eq_getElem hl]
    simp [szN, List.getD_eq_getElem?_getD, List.getElem?_eq_getElem hl]
  rw [← hs]
  simp [World.cell?, h]
end

theorem arr_index0 (h : SH) (w : World) : (Instr.index 62 h.val (.int .i64 0)).run Tryd.prog w = .ok (.int .i64 h.kind) w := by rfl
theorem arr_index1 (h : SH) (w : World) : (Instr.index 62 h.val (.int .i64 1)).run Tryd.prog w = .ok (.int .i64 h.epoch) w := by rfl
theorem arr_index2 (h : SH) (w : World) : (Instr.index 62 h.val (.int .i64 2)).run Tryd.prog w = .ok (.int .i64 h.seq) w := by rfl
theorem arr_index3 (h : SH) (w : World) : (Instr.index 62 h.val (.int .i64 3)).run Tryd.prog w = .ok (.int .i64 h.part) w := by rfl
theorem arr_index4 (h : SH) (w : World) : (Instr.index 62 h.val (.int .i64 4)).run Tryd.prog w = .ok (.int .i64 h.parts) w := by rfl
theorem arr_index (h : SH) {k : Nat} (hk : k < 5) (w : World) : (Instr.index 62 h.val (.int .i64 (k : Int))).run Tryd.prog w = .ok (.int .i64 (h.num k)) w := by
  have e : k = 0 ∨ k = 1 ∨ k = 2 ∨ k = 3 ∨ k = 4 := by omega
  rcases e with rfl | rfl | rfl | rfl | rfl
  · exact arr_index0 h w
  · exact arr_index1 h w
  · exact arr_index2 h w
  · exact arr_index3 h w
  · exact arr_index4 h w

theorem numbers_any (h : SH) (w : World) : Calls Tryd.prog 26 #[h.val] w (Gave w h.val) := by
  unfold SH.val
  go_enter Tryd.func26, Tryd.ntmps26
  go_wp2
  exact bodyPost_ret (v := .agg #[.int .i64 h.kind, .int .i64 h.epoch, .int .i64 h.seq, .int .i64 h.part, .int .i64 h.parts]) (by simp [results, Tryd.results26, go_sem]) rfl ⟨rfl, ((Below.refl _ _).alloc (Nat.le_refl _) _).alloc (by simp) _⟩

def SoundRel (h : SH) (w : World) (i : Value) (wr : World) : Prop := ∃ k : Nat, k ≤ 5 ∧ i = .int .i64 k ∧ fitsTo h k = true ∧ wr = w

set_option maxHeartbeats 400000 in
theorem sound_any (h : SH) (w : World) (hs : SizesAt w) : Calls Tryd.prog 25 #[h.val] w (Gave w (.bool (headB h))) := by
  have HN := Lib.hid (numbers_any h)
  
  have HS := Lib.hid hs
  clear hs
  unfold SH.val
  go_enter Tryd.func25, Tryd.ntmps25
  go_wp2_with fail
  refine (HN.out _).mono ?_
  rintro e w1 ⟨rfl, hb1⟩
  have HS1 := Lib.hid ((HS.out.alloc _).next hb1)
  have HB1 := Lib.hid (((Below.refl w.heap.size w).alloc (Nat.le_refl _) _).trans (hb1.mono (by simp)))
  have hc0 : ∀ j v, h.cells[j]? = some v → w1.cell? ⟨w.heap.size, j, none⟩ = some v := fun j v hj => by
    rw [hb1.cell (p := ⟨w.heap.size, j, none⟩) (by simp), World.cell?_alloc_at _ _ _ _ rfl]
    simpa [SH.cells] using hj
  have c0 := hc0 0 _ rfl
  have c3 := hc0 3 _ rfl
  have c4 := hc0 4 _ rfl
  clear hc0 hb1
  go_wp2
  go_loopw [7] (SoundRel h w1) (fun i _ => 5 - (intOf i).toNat)
  case atStart => exact ⟨0, by omega, rfl, rfl, rfl⟩
  case round =>
    obtain ⟨k, hk, rfl, hf, rfl⟩ := hrel
    by_cases hlt : k < 5
    · have hi := fun w => arr_index h hlt w
      have hcel := HS1.out.cell hlt
      cases hfit : fitB (h.num k) (szN k) with
      | true =>
        have hc := fun W => fits_any (h.num k) (szN k) W
        rw [hfit] at hc
        have HC := Lib.hid hc
        have HF := Lib.hid (show fitsTo h (k + 1) = true by simp only [fitsTo, hf, hfit, Bool.and_self])
        clear hc hf hfit
        go_wp2_with fail
        refine (HC.out _).mono ?_
        rintro e w' ⟨rfl, rfl⟩
        go_wp2
        refine ⟨⟨k + 1, by omega, by go_num, HF.out, rfl⟩, by simp [intOf]; omega⟩
      | false =>
        have hc := fun W => fits_any (h.num k) (szN k) W
        rw [hfit] at hc
        have HC := Lib.hid hc
        have HF := Lib.hid (headB_no_fit hlt hfit)
        clear hc hf hfit
        go_wp2_with fail
        refine (HC.out _).mono ?_
        rintro e w' ⟨rfl, rfl⟩
        go_wp2
        go_ret
        exact ⟨by rw [HF.out]; rfl, HB1.out⟩
    · obtain rfl : k = 5 := by omega
      by_cases hk0 : h.kind = 0
      · have d1 : (h.kind != 0) = false := by simp [hk0]
        have HF := Lib.hid (show headB h = false by simp [headB, hk0])
        clear hk0 hf
        go_wp2
        go_ret
        exact ⟨by rw [HF.out]; rfl, HB1.out⟩
      · have d1 : (h.kind != 0) = true := by simp [hk0]
        by_cases hp : h.part < h.parts
        · have d2 : decide (h.part < h.parts) = true := by simp [hp]
          have HF := Lib.hid (show headB h = true by simp [headB, hk0, hp, hf])
          clear hk0 hf hp
          go_wp2
          go_ret
          exact ⟨by rw [HF.out]; rfl, HB1.out⟩
        · have d2 : decide (h.part < h.parts) = false := by simp [hp]
          have HF := Lib.hid (show headB h = false by simp [headB, hp])
          clear hk0 hf hp
          go_wp2
          go_ret
          exact ⟨by rw [HF.out]; rfl, HB1.out⟩

end Go.Proofs.YthjcpficpiddaaaDoor
