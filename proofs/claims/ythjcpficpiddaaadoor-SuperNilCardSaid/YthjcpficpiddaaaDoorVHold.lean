/-
  A device that a statement made itself: the contracts once more, in the words that a law's walk uses; the document's Zero.
-/
import Derived.Test.YthjcpficpiddaaaDoorVSync
import Derived.Test.YthjcpficpiddaaaDoorVNew
import Derived.Test.YthjcpficpiddaaaDoorSame
namespace Go.Proofs.YthjcpficpiddaaaDoor
open Go.RowKit

/-- Behind w0 a device x was made, at D; what was there at w0 is as it was. -/
def Holds (w0 w : World) (D : Nat) (x : Dv) : Prop := ∃ m : Lies, m.d = D ∧ DevAt w w0.heap.size m x ∧ Below w0.heap.size w0 w
/-- Bytes that lie in a block of bytes. -/
def BytesAt (w : World) (A : Option Addr) (b : List UInt8) : Prop :=
  b ≠ [] → ∃ g off cs fr, A = some ⟨g, off, none⟩ ∧ w.heap[g]? = some (.cells cs 5 fr) ∧ ∀ j u, (b.map bc)[j]? = some u → w.cell? ⟨g, off + j, none⟩ = some u
theorem BytesAt.src {w : World} {base : Nat} {m : Lies} {x : Dv} {A : Option Addr} {b : List UInt8} (h : BytesAt w A b) (hd : DevAt w base m x) : SrcAt w m A b := fun hb => by
  obtain ⟨g, off, cs, fr, e, hg, hc⟩ := h hb
  refine ⟨g, off, e, ?_, ?_, hc⟩
  · rcases Nat.lt_or_ge g w.heap.size with h1 | h1
    · exact h1
    · rw [Array.getElem?_eq_none h1] at hg; cases hg
  · rintro rfl
    have h1 := hd.blk
    unfold Whole at h1
    rw [hg] at h1
    simp at h1
theorem BytesAt.own {w : World} {base n c : Nat} {A : Option Addr} {b : List UInt8} (h : w.ownsRow base 5 1 (.slice A n c) n (b.map bc)) : BytesAt w A b := fun hb => by
  rcases h.2 with ⟨hv, h0⟩ | ⟨g, cap, cur, hv, _, hh, _⟩
  · have := h.1
    rw [h0, Nat.zero_mul] at this
    exact absurd (List.eq_nil_of_length_eq_zero (by simpa using this)) hb
  · have hA : A = some ⟨g, 0, none⟩ := by injection hv
    subst hA
    exact ⟨g, 0, cur, _, rfl, hh, fun j u hu => by
      have := h.cells (g := g) rfl j u hu
      rwa [addr_add] at this⟩
theorem BytesAt.lit (w : World) (b : List UInt8) : BytesAt (w.alloc (.cells (b.map bc).toArray 5)) (some ⟨w.heap.size, 0, none⟩) b := fun _ =>
  ⟨_, 0, _, _, rfl, heap_alloc_new w _, fun j u hu => by rw [Nat.zero_add, World.cell?_alloc_at _ _ _ _ rfl]; simpa using hu⟩

/-- Is it a type of a device's own? -/
def devT (t : TypeId) : Prop := t = 42 ∨ t = 68 ∨ t = 70
/-- What is no device's is as it was. -/
def Kept (w w' : World) : Prop := ∀ (g : Nat) (o : Obj), w.heap[g]? = some o → (∀ cs t fr, o = Obj.cells cs t fr → ¬ devT t) → w'.heap[g]? = w.heap[g]?
section
variable {w w' w'' : World}
theorem Kept.refl (w : World) : Kept w w := fun _ _ _ _ => rfl
theorem Kept.trans (h : Kept w w') (k : Kept w' w'') : Kept w w'' := fun g o hg ho => (k g o ((h g o hg ho).trans hg) ho).trans (h g o hg ho)
theorem Kept.below (hb : Below w.heap.size w w') : Kept w w' := fun g o hg _ => hb.block g (by
  rcases Nat.lt_or_ge g w.heap.size with h1 | h1
  · exact h1
  · rw [Array.getElem?_eq_none h1] at hg; cases hg)
theorem Kept.of_went {base : Nat} {m : Lies} {x y : Dv} (h : DevAt w base m x) (hw : Went base w m y w') : Kept w w' := fun g o hg ho => by
  obtain ⟨m', _, _, hgr, _⟩ := hw
  refine hgr.block g ?_ fun hown => ?_
  · rcases Nat.lt_or_ge g w.heap.size with h1 | h1
    · exact h1
    · rw [Array.getElem?_eq_none h1] at hg; cases hg
  · have hrow : ∀ {e : TypeId} {size n : Nat} {v : Value} {xs : List Value}, w.ownsRow base e size v n xs → v.ownBlock = some g → devT e → False := fun {e size n v xs} hr hv he => by
      rcases hr.2 with ⟨rfl, _⟩ | ⟨g', cap, cur, rfl, _, hh, _⟩
      · cases hv
      · simp [Value.ownBlock] at hv
        subst hv
        rw [hg] at hh
        injection hh with hh
        exact ho _ _ _ hh he
    rcases hown with rfl | rfl | rfl | hown
    · have h1 := h.blk
      unfold Whole at h1
      rw [hg] at h1
      injection h1 with h1
      exact ho _ _ _ h1 (.inl rfl)
    · exact hrow h.now rfl (.inr (.inl rfl))
    · exact hrow h.sure rfl (.inr (.inl rfl))
    · exact hrow h.uns hown (.inr (.inr rfl))
theorem Kept.whole (h : Kept w w') {g : Nat} {t : TypeId} {L : List Value} (hw : Whole w g t L) (ht : ¬ devT t) : Whole w' g t L :=
  (h g _ hw fun cs t' fr e => by injection e with _ e _; rw [← e]; exact ht).trans hw
theorem Kept.own (h : Kept w w') {base : Nat} {e : TypeId} {size n : Nat} {v : Value} {xs : List Value} (hr : w.ownsRow base e size v n xs) (ht : ¬ devT e) : w'.ownsRow base e size v n xs := by
  refine own_keep hr fun g hv => ?_
  rcases hr.2 with ⟨rfl, _⟩ | ⟨g', cap, cur, rfl, _, hh, _⟩
  · cases hv
  · simp [Value.ownBlock] at hv
    subst hv
    exact h _ _ hh fun cs t' fr e => by injection e with _ e _; rw [← e]; exact ht
end
theorem u8_not : ¬ devT 5 := by unfold devT; decide
section
variable {w0 w w' : World} {D : Nat} {x y : Dv}
theorem Holds.below (h : Holds w0 w D x) : Below w0.heap.size w0 w := by obtain ⟨_, _, _, h⟩ := h; exact h
theorem Holds.ok (h : Holds w0 w D x) : x.ok := by obtain ⟨_, _, h, _⟩ := h; exact h.ok
theorem Holds.next (h : Holds w0 w D x) (hb : Below w.heap.size w w') : Holds w0 w' D x := by
  obtain ⟨m, hd, h1, h2⟩ := h
  exact ⟨m, hd, h1.below hb, h2.trans (hb.mono h2.size)⟩
theorem Holds.drewN (h : Holds w0 w D x) (n : Nat) : Holds w0 (w.drewN n) D x := h.next (below_drewN' (Below.refl _ _) n)
theorem Holds.alloc (h : Holds w0 w D x) (o : Obj) : Holds w0 (w.alloc o) D x := h.next ((Below.refl _ _).alloc (Nat.le_refl _) o)
theorem Holds.went {m : Lies} (hd : m.d = D) (h : DevAt w w0.heap.size m x) (hb : Below w0.heap.size w0 w) (hw : Went w0.heap.size w m y w') : Holds w0 w' D y := by
  obtain ⟨m', e, h1, hg, _⟩ := hw
  exact ⟨m', e.trans hd, h1, hb.trans (hg.below (fun j hj => (h.own hj).1) hb.size)⟩
theorem h_new (w0 w : World) (hb : Below w0.heap.size w0 w) (n : Nat) (h1 : 1 ≤ n) (h2 : n ≤ 4096) : Calls Tryd.prog 5 #[.int .i64 n] w (fun e w' => ∃ D, e = .returned (.tuple #[.pointer (some ⟨D, 0, none⟩), .int .i64 0]) ∧ Holds w0 w' D (newDv n)) :=
  (dev_new w n h1 h2).mono fun _ _ ⟨m, he, hd, hw⟩ => ⟨m.d, he, m, rfl, hd.mono hb.size, hb.trans (hw.mono hb.size)⟩
theorem h_write (h : Holds w0 w D x) (k : Int) (A : Option Addr) (c : Nat) (b : List UInt8) (hl : b.length ≤ 9223372036854775807) (hs : BytesAt w A b) (hu : x.uns.length < 4294967296) :
    Calls Tryd.prog 18 #[.pointer (some ⟨D, 0, none⟩), .int .i64 k, .slice A b.length c] w (fun e w' => e = .returned (.int .i64 (x.writeE k b)) ∧ Holds w0 w' D (x.write k b) ∧ Kept w w') := by
  obtain ⟨m, rfl, h1, h2⟩ := h
  exact (dev_write w _ m x h1 k A c b hl (hs.src h1) hu).mono fun e w' ⟨he, hw⟩ => ⟨he, Holds.went rfl h1 h2 hw, Kept.of_went h1 hw⟩
theorem h_sync (h : Holds w0 w D x) (hu : x.uns.length < 4294967296) : Calls Tryd.prog 17 #[.pointer (some ⟨D, 0, none⟩)] w (fun e w' => e = .returned (.int .i64 x.syncE) ∧ Holds w0 w' D x.sync ∧ Kept w w') := by
  obtain ⟨m, rfl, h1, h2⟩ := h
  exact (dev_sync w _ m x h1 hu).mono fun e w' ⟨he, hw⟩ => ⟨he, Holds.went rfl h1 h2 hw, Kept.of_went h1 hw⟩
theorem h_crash (h : Holds w0 w D x) (mk t : Nat) (hm : mk < 18446744073709551616) (ht : t < 18446744073709551616) (hu : x.uns.length < 4294967296) :
    Calls Tryd.prog 10 #[.pointer (some ⟨D, 0, none⟩), .int .u64 mk, .int .u64 t] w (fun e w' => e = .returned (.int .i64 0) ∧ Holds w0 w' D (x.crash mk t) ∧ Kept w w') := by
  obtain ⟨m, rfl, h1, h2⟩ := h
  exact (dev_crash w _ m x h1 mk t hm ht hu).mono fun e w' ⟨he, hw⟩ => ⟨he, Holds.went rfl h1 h2 hw, Kept.of_went h1 hw⟩
theorem h_read (h : Holds w0 w D x) (k : Int) : Calls Tryd.prog 32 #[.pointer (some ⟨D, 0, none⟩), .int .i64 k] w
    (fun e w' => ∃ A c, e = .returned (.tuple #[.slice A (x.readB k).length c, .int .i64 (x.readE k)]) ∧ w'.ownsRow w.heap.size 5 1 (.slice A (x.readB k).length c) (x.readB k).length ((x.readB k).map bc) ∧ Below w.heap.size w w' ∧ Holds w0 w' D x) := by
  obtain ⟨m, rfl, h1, h2⟩ := h
  refine (dev_read w _ m x h1 k).mono fun e w' ⟨v, he, hv, hb⟩ => ?_
  obtain ⟨A, c, rfl, _, _⟩ := own_form hv
  exact ⟨A, c, he, hv, hb, ⟨m, rfl, h1.below hb, h2.trans (hb.mono h2.size)⟩⟩
end

theorem z512 : zerosL (.int .u8 0) 512 = zero512.map bc := by
  unfold zerosL zero512
  rw [List.map_replicate]
  rfl












end Go.Proofs.YthjcpficpiddaaaDoor
