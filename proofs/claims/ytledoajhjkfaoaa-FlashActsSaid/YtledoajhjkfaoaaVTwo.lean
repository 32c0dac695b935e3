/-
  Two devices beside each other; a store into bytes that are no device's.
-/
import Derived.Test.YtledoajhjkfaoaaVAns
import Derived.Test.YtledoajhjkfaoaaVCopy
import Derived.Test.YtledoajhjkfaoaaVUns
namespace Go.Proofs.Ytledoajhjkfaoaa
open Go.RowKit

def Holds2 (w0 w : World) (D : Nat) (x : Dv) (C : Nat) (y : Dv) : Prop := ∃ m n : Lies, m.d = D ∧ n.d = C ∧ DevAt w w0.heap.size m x ∧ DevAt w w0.heap.size n y ∧ (∀ j, m.own j → ¬ n.own j) ∧ Below w0.heap.size w0 w
section
variable {w0 w w' : World} {D C : Nat} {x y z : Dv}
theorem Holds2.next (h : Holds2 w0 w D x C y) (hb : Below w.heap.size w w') : Holds2 w0 w' D x C y := by
  obtain ⟨m, n, e1, e2, h1, h2, h3, h4⟩ := h
  exact ⟨m, n, e1, e2, h1.below hb, h2.below hb, h3, h4.trans (hb.mono h4.size)⟩
theorem Holds2.second (h : Holds2 w0 w D x C y) : Holds w0 w C y := by
  obtain ⟨m, n, e1, e2, h1, h2, h3, h4⟩ := h
  exact ⟨n, e2, h2, h4⟩
theorem Holds2.went {m n : Lies} (e1 : m.d = D) (e2 : n.d = C) (h1 : DevAt w w0.heap.size m x) (h2 : DevAt w w0.heap.size n y) (h3 : ∀ j, m.own j → ¬ n.own j) (h4 : Below w0.heap.size w0 w) (hw : Went w0.heap.size w m z w') : Holds2 w0 w' D z C y := by
  obtain ⟨m', e, h5, hg, hf⟩ := hw
  refine ⟨m', n, e.trans e1, e2, h5, h2.grew hg fun j hj hm => h3 j hm hj, fun j hj hn => ?_, h4.trans (hg.below (fun j hj => (h1.own hj).1) h4.size)⟩
  rcases hf j hj with h6 | h6
  · exact h3 j h6 hn
  · have := (h2.own hn).2; omega
theorem h_copy (h : Holds w0 w D x) (hp : 0 < x.sure.length) (hu : x.uns.length < 4294967296) : Calls Try.prog 17 #[.pointer (some ⟨D, 0, none⟩)] w (fun e w' => ∃ C, e = .returned (.pointer (some ⟨C, 0, none⟩)) ∧ Holds2 w0 w' D x C x ∧ Below w.heap.size w w') := by
  obtain ⟨m, rfl, h1, h2⟩ := h
  refine (dev_copy w _ m x h1 hp hu).mono fun e w' ⟨n, he, hn, hb⟩ => ⟨n.d, he, ⟨m, n, rfl, rfl, h1.below hb, hn.mono h2.size, fun j hm hj => ?_, h2.trans (hb.mono h2.size)⟩, hb⟩
  have h3 := (h1.own hm).2
  have h4 := (hn.own hj).1
  omega
theorem h2_write (h : Holds2 w0 w D x C y) (k : Int) (A : Option Addr) (c : Nat) (b : List UInt8) (hl : b.length ≤ 9223372036854775807) (hs : BytesAt w A b) (hu : x.uns.length < 4294967296) :
    Calls Try.prog 10 #[.pointer (some ⟨D, 0, none⟩), .int .i64 k, .slice A b.length c] w (fun e w' => e = .returned (.int .i64 (x.writeE k b)) ∧ Holds2 w0 w' D (x.write k b) C y ∧ Kept w w') := by
  obtain ⟨m, n, rfl, e2, h1, h2, h3, h4⟩ := h
  exact (dev_write w _ m x h1 k A c b hl (hs.src h1) hu).mono fun e w' ⟨he, hw⟩ => ⟨he, Holds2.went rfl e2 h1 h2 h3 h4 hw, Kept.of_went h1 hw⟩
theorem h2_sync (h : Holds2 w0 w D x C y) (hu : x.uns.length < 4294967296) : Calls Try.prog 12 #[.pointer (some ⟨D, 0, none⟩)] w (fun e w' => e = .returned (.int .i64 x.syncE) ∧ Holds2 w0 w' D x.sync C y ∧ Kept w w') := by
  obtain ⟨m, n, rfl, e2, h1, h2, h3, h4⟩ := h
  exact (dev_sync w _ m x h1 hu).mono fun e w' ⟨he, hw⟩ => ⟨he, Holds2.went rfl e2 h1 h2 h3 h4 hw, Kept.of_went h1 hw⟩
theorem h_unsure (h : Holds w0 w D x) (hu : x.uns.length < 4294967296) : Calls Try.prog 21 #[.pointer (some ⟨D, 0, none⟩)] w
    (fun e w' => ∃ v vs, e = .returned v ∧ UnsAt w' w.heap.size v x.uns vs ∧ Below w.heap.size w w' ∧ Holds w0 w' D x) := by
  obtain ⟨m, rfl, h1, h2⟩ := h
  exact (dev_unsure w _ m x h1 hu).mono fun e w' ⟨v, vs, he, hv, hb⟩ => ⟨v, vs, he, hv, hb, m, rfl, h1.below hb, h2.trans (hb.mono h2.size)⟩
/-- A store into a block of bytes of the law's own. -/
theorem Holds.set_ (h : Holds w0 w D x) {base n c g : Nat} {xs : List Value} (ho : w.ownsRow base 5 1 (.slice (some ⟨g, 0, none⟩) n c) n xs) (hb : w0.heap.size ≤ base) (i : Nat) (u : Value) : Holds w0 (w.setCell ⟨g, i, none⟩ u) D x := by
  obtain ⟨m, e, h1, h2⟩ := h
  refine ⟨m, e, h1.keep fun j hj => Below.heap_setCell w _ _ _ ?_, h2.setCell (Nat.le_trans hb (ho.lt g rfl).1) u⟩
  intro e2
  have e3 : (Value.slice (some ⟨g, 0, none⟩) n c).ownBlock = some j := by rw [e2]; rfl
  rcases hj with rfl | rfl | rfl | hj
  · exact own_not_whole ho h1.blk (by decide) e3
  · exact own_not_own ho h1.now (by decide) rfl e3
  · exact own_not_own ho h1.sure (by decide) rfl e3
  · exact own_not_own ho h1.uns (by decide) hj e3
end

end Go.Proofs.Ytledoajhjkfaoaa
