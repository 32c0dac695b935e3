/-
  The document's device as the contracts see it; its spend.
-/
import Derived.Test.YtledoajhjkfaoaaVHold
import Derived.Test.YtledoajhjkfaoaaVUns
namespace Go.Proofs.Ytledoajhjkfaoaa
open Go.RowKit

/-- Sectors of the document's as cells: a slice of bytes, torn or not. -/
def scells (P : List (Sec × Value)) : List Value := P.flatMap fun p => [p.2, .bool p.1.torn]
theorem scells_two (P : List (Sec × Value)) : ∀ p ∈ P, ([p.2, .bool p.1.torn] : List Value).length = 2 := fun _ _ => rfl
theorem length_scells (P : List (Sec × Value)) : (scells P).length = P.length * 2 := flat_length (scells_two P)
theorem scells_snoc (P : List (Sec × Value)) (s : Sec) (v : Value) : scells (P ++ [(s, v)]) = scells P ++ [v, .bool s.torn] := by simp [scells]
theorem scells_set {P : List (Sec × Value)} {k : Nat} (hk : k < P.length) (s : Sec) (v : Value) : splice (scells P) (k * 2) [v, .bool s.torn] = scells (P.set k (s, v)) := flat_set (f := fun p : Sec × Value => ([p.2, .bool p.1.torn] : List Value)) (scells_two P) hk (a := (s, v)) rfl
theorem scells_at {P : List (Sec × Value)} {k : Nat} (hk : k < P.length) : (scells P)[k * 2]? = some P[k].2 ∧ (scells P)[k * 2 + 1]? = some (.bool P[k].1.torn) :=
  ⟨flat_get (f := fun p : Sec × Value => ([p.2, .bool p.1.torn] : List Value)) (scells_two P) hk (j := 0) rfl, flat_get (f := fun p : Sec × Value => ([p.2, .bool p.1.torn] : List Value)) (scells_two P) hk (j := 1) rfl⟩
/-- The document's sectors: a row of their own, each one's bytes in a block of their own. -/
def SAt (w : World) (base : Nat) (v : Value) (S : List Sec) : Prop :=
  ∃ P : List (Sec × Value), P.map Prod.fst = S ∧ w.ownsRow base 65 2 v P.length (scells P) ∧ ∀ p ∈ P, w.ownsRow base 5 1 p.2 512 (p.1.data.map bc)
structure RLies where
  r : Nat
  s : Value
  u : Value
def refCells (m : RLies) (lim : Nat) (dn : Bool) : List Value := [m.s, m.u, .int .i64 (lim : Int), .bool dn]
structure RefAt (w : World) (base : Nat) (m : RLies) (x : Dv) : Prop where
  blk : Whole w m.r 40 (refCells m x.limit x.down)
  sure : SAt w base m.s x.sure
  uns : ∃ vs, UnsAt w base m.u x.uns vs
  lr : base ≤ m.r
  ok : x.ok
def RLies.own (m : RLies) (j : Nat) : Prop := j = m.r ∨ m.s.ownBlock = some j ∨ m.u.ownBlock = some j

section
variable {w w' : World} {base : Nat} {m : RLies} {x : Dv} {v : Value} {S : List Sec}
theorem SAt.keep (h : SAt w base v S) (hk : ∀ g, g < w.heap.size → (v.ownBlock = some g ∨ ∃ t fr cs, w.heap[g]? = some (.cells cs t fr) ∧ t = 5) → w'.heap[g]? = w.heap[g]?) : SAt w' base v S := by
  obtain ⟨P, h1, h2, h3⟩ := h
  refine ⟨P, h1, own_keep h2 fun g e => hk g (h2.lt g e).2 (.inl e), fun p hp => own_keep (h3 p hp) fun g e => hk g ((h3 p hp).lt g e).2 (.inr ?_)⟩
  rcases (h3 p hp).2 with ⟨e1, _⟩ | ⟨g', cap, cur, e1, _, hh, _⟩
  · rw [e1] at e; cases e
  · rw [e1] at e
    simp [Value.ownBlock] at e
    subst e
    exact ⟨_, _, _, hh, rfl⟩
theorem UnsAt.keep {us : List Wri} {vs : List Value} (h : UnsAt w base v us vs) (hk : ∀ g, g < w.heap.size → (v.ownBlock = some g ∨ ∃ t fr cs, w.heap[g]? = some (.cells cs t fr) ∧ t = 5) → w'.heap[g]? = w.heap[g]?) : UnsAt w' base v us vs := by
  refine ⟨h.len, own_keep h.row fun g e => hk g (h.row.lt g e).2 (.inl e), fun j hj hj' => own_keep (h.each j hj hj') fun g e => hk g ((h.each j hj hj').lt g e).2 (.inr ?_)⟩
  rcases (h.each j hj hj').2 with ⟨e1, _⟩ | ⟨g', cap, cur, e1, _, hh, _⟩
  · rw [e1] at e; cases e
  · rw [e1] at e
    simp [Value.ownBlock] at e
    subst e
    exact ⟨_, _, _, hh, rfl⟩
/-- Is it a type that the document's device is written in? -/
def refT (t : TypeId) : Prop := t = 40 ∨ t = 65 ∨ t = 48
def KeptR (w w' : World) : Prop := ∀ (g : Nat) (o : Obj), w.heap[g]? = some o → (∀ cs t fr, o = Obj.cells cs t fr → ¬ refT t) → w'.heap[g]? = w.heap[g]?
theorem KeptR.refl (w : World) : KeptR w w := fun _ _ _ _ => rfl
theorem KeptR.trans {w'' : World} (h : KeptR w w') (k : KeptR w' w'') : KeptR w w'' := fun g o hg ho => (k g o ((h g o hg ho).trans hg) ho).trans (h g o hg ho)
theorem KeptR.below (hb : Below w.heap.size w w') : KeptR w w' := fun g o hg _ => hb.block g (by
  rcases Nat.lt_or_ge g w.heap.size with h1 | h1
  · exact h1
  · rw [Array.getElem?_eq_none h1] at hg; cases hg)
theorem KeptR.of_grew (h : RefAt w base m x) (hg : Grew m.own w w') : KeptR w w' := fun g o hgo ho => by
  refine hg.block g ?_ fun hown => ?_
  · rcases Nat.lt_or_ge g w.heap.size with h1 | h1
    · exact h1
    · rw [Array.getElem?_eq_none h1] at hgo; cases hgo
  · have hrow : ∀ {e : TypeId} {size n : Nat} {v : Value} {xs : List Value}, w.ownsRow base e size v n xs → v.ownBlock = some g → refT e → False := fun {e size n v xs} hr hv he => by
      rcases hr.2 with ⟨rfl, _⟩ | ⟨g', cap, cur, rfl, _, hh, _⟩
      · cases hv
      · simp [Value.ownBlock] at hv
        subst hv
        rw [hgo] at hh
        injection hh with hh
        exact ho _ _ _ hh he
    rcases hown with rfl | hown | hown
    · have h1 := h.blk
      unfold Whole at h1
      rw [hgo] at h1
      injection h1 with h1
      exact ho _ _ _ h1 (.inl rfl)
    · obtain ⟨P, _, h2, _⟩ := h.sure
      exact hrow h2 hown (.inr (.inl rfl))
    · obtain ⟨vs, h2⟩ := h.uns
      exact hrow h2.row hown (.inr (.inr rfl))
theorem RefAt.own (h : RefAt w base m x) {j : Nat} (hj : m.own j) : base ≤ j ∧ j < w.heap.size := by
  rcases hj with rfl | hj | hj
  · exact ⟨h.lr, h.blk.lt⟩
  · obtain ⟨P, _, h2, _⟩ := h.sure
    exact h2.lt j hj
  · obtain ⟨vs, h2⟩ := h.uns
    exact h2.row.lt j hj
theorem RefAt.below (h : RefAt w base m x) (hb : Below w.heap.size w w') : RefAt w' base m x := by
  obtain ⟨vs, hu⟩ := h.uns
  exact ⟨h.blk.keep (hb.block _ h.blk.lt), h.sure.keep fun g hg _ => hb.block g hg, ⟨vs, hu.keep fun g hg _ => hb.block g hg⟩, h.lr, h.ok⟩
/-- What a flash device does keeps the document's. -/
theorem RefAt.kept (h : RefAt w base m x) (hk : Kept w w') : RefAt w' base m x := by
  obtain ⟨vs, hu⟩ := h.uns
  have hrow : ∀ {e : TypeId} {size n : Nat} {v : Value} {xs : List Value}, w.ownsRow base e size v n xs → ¬ devT e → w'.ownsRow base e size v n xs := fun hr he => hk.own hr he
  have n1 : ¬ devT 40 := by unfold devT; decide
  have n2 : ¬ devT 65 := by unfold devT; decide
  have n3 : ¬ devT 48 := by unfold devT; decide
  refine ⟨hk.whole h.blk n1, ?_, ⟨vs, hu.len, hrow hu.row n3, fun j hj hj' => hrow (hu.each j hj hj') u8_not⟩, h.lr, h.ok⟩
  obtain ⟨P, h1, h2, h3⟩ := h.sure
  exact ⟨P, h1, hrow h2 n2, fun p hp => hrow (h3 p hp) u8_not⟩
/-- What the document's does keeps a flash device. -/
theorem DevAt.keptR {m : Lies} (h : DevAt w base m x) (hk : KeptR w w') : DevAt w' base m x := by
  have hrow : ∀ {e : TypeId} {size n : Nat} {v : Value} {xs : List Value}, w.ownsRow base e size v n xs → ¬ refT e → ∀ g, v.ownBlock = some g → w'.heap[g]? = w.heap[g]? := fun {e size n v xs} hr he g hv => by
    rcases hr.2 with ⟨rfl, _⟩ | ⟨g', cap, cur, rfl, _, hh, _⟩
    · cases hv
    · simp [Value.ownBlock] at hv
      subst hv
      exact hk _ _ hh fun cs t fr e2 => by injection e2 with _ e2 _; rw [← e2]; exact he
  have n1 : ¬ refT 63 := by unfold refT; decide
  have n2 : ¬ refT 69 := by unfold refT; decide
  have n3 : ¬ refT 71 := by unfold refT; decide
  refine h.keep fun j hj => ?_
  rcases hj with rfl | rfl | rfl | hj
  · exact hk _ _ h.blk fun cs t fr e2 => by injection e2 with _ e2 _; rw [← e2]; exact n1
  · exact hrow h.now n2 _ rfl
  · exact hrow h.sure n2 _ rfl
  · exact hrow h.uns n3 _ hj
theorem KeptR.whole (h : KeptR w w') {g : Nat} {t : TypeId} {L : List Value} (hw : Whole w g t L) (ht : ¬ refT t) : Whole w' g t L :=
  (h g _ hw fun cs t' fr e => by injection e with _ e _; rw [← e]; exact ht).trans hw
theorem KeptR.own (h : KeptR w w') {e : TypeId} {size n : Nat} {v : Value} {xs : List Value} (hr : w.ownsRow base e size v n xs) (ht : ¬ refT e) : w'.ownsRow base e size v n xs := by
  refine own_keep hr fun g hv => ?_
  rcases hr.2 with ⟨rfl, _⟩ | ⟨g', cap, cur, rfl, _, hh, _⟩
  · cases hv
  · simp [Value.ownBlock] at hv
    subst hv
    exact h _ _ hh fun cs t' fr e => by injection e with _ e _; rw [← e]; exact ht
end
theorem u8_notR : ¬ refT 5 := by unfold refT; decide

def RHolds (w0 w : World) (R : Nat) (x : Dv) : Prop := ∃ m : RLies, m.r = R ∧ RefAt w w0.heap.size m x ∧ Below w0.heap.size w0 w
section
variable {w0 w w' : World} {R D : Nat} {x y : Dv}
theorem RHolds.below (h : RHolds w0 w R x) : Below w0.heap.size w0 w := by obtain ⟨_, _, _, h⟩ := h; exact h
theorem RHolds.ok (h : RHolds w0 w R x) : x.ok := by obtain ⟨_, _, h, _⟩ := h; exact h.ok
theorem RHolds.next (h : RHolds w0 w R x) (hb : Below w.heap.size w w') : RHolds w0 w' R x := by
  obtain ⟨m, hd, h1, h2⟩ := h
  exact ⟨m, hd, h1.below hb, h2.trans (hb.mono h2.size)⟩
theorem RHolds.kept (h : RHolds w0 w R x) (hk : Kept w w') (hb : Below w0.heap.size w0 w') : RHolds w0 w' R x := by
  obtain ⟨m, hd, h1, _⟩ := h
  exact ⟨m, hd, h1.kept hk, hb⟩
theorem Holds.keptR (h : Holds w0 w D x) (hk : KeptR w w') (hb : Below w0.heap.size w0 w') : Holds w0 w' D x := by
  obtain ⟨m, hd, h1, _⟩ := h
  exact ⟨m, hd, h1.keptR hk, hb⟩
/-- The document's device is y now: its own block and rows alone were written. -/
theorem RHolds.went {m m' : RLies} (hr : m.r = R) (h : RefAt w w0.heap.size m x) (hb : Below w0.heap.size w0 w) (hr' : m'.r = m.r) (h' : RefAt w' w0.heap.size m' y) (hg : Grew m.own w w') : RHolds w0 w' R y ∧ KeptR w w' :=
  ⟨⟨m', hr'.trans hr, h', hb.trans (hg.below (fun _ hj => (h.own hj).1) hb.size)⟩, KeptR.of_grew h hg⟩
end

section
variable (w : World) (base : Nat) (m : RLies) (x : Dv) (h : RefAt w base m x)
include h
set_option maxHeartbeats 400000 in
theorem spend_zero (hl : x.limit = 0) : Calls Try.prog 28 #[.pointer (some ⟨m.r, 0, none⟩)] w (Told w (.bool true)) := by
  have hb := h.blk
  unfold refCells at hb
  rw [hl] at hb
  have c2 : w.cell? ⟨m.r, 2, none⟩ = some (.int .i64 0) := hb.cell 2
  clear h hb
  go_enter Try.func28, Try.ntmps28
  go_wp2
  go_ret
  exact ⟨rfl, rfl⟩
set_option maxHeartbeats 400000 in
theorem spend_one (hl : x.limit = 1) : Calls Try.prog 28 #[.pointer (some ⟨m.r, 0, none⟩)] w (fun e w' => e = .returned (.bool false) ∧ w' = (w.setCell ⟨m.r, 2, none⟩ (.int .i64 0)).setCell ⟨m.r, 3, none⟩ (.bool true)) := by
  have hb := h.blk
  unfold refCells at hb
  rw [hl] at hb
  have c2 : w.cell? ⟨m.r, 2, none⟩ = some (.int .i64 1) := hb.cell 2
  have c3 : w.cell? ⟨m.r, 3, none⟩ = some (.bool x.down) := hb.cell 3
  have z2 : w.frozen? ⟨m.r, 2, none⟩ = false := hb.frozen 2
  have z3 : w.frozen? ⟨m.r, 3, none⟩ = false := hb.frozen 3
  clear h hb
  go_enter Try.func28, Try.ntmps28
  go_wp2
  go_ret
  exact ⟨rfl, rfl⟩
set_option maxHeartbeats 400000 in
theorem spend_more (hl : 2 ≤ x.limit) (hd : x.down = false) : Calls Try.prog 28 #[.pointer (some ⟨m.r, 0, none⟩)] w (fun e w' => e = .returned (.bool true) ∧ w' = w.setCell ⟨m.r, 2, none⟩ (.int .i64 ((x.limit - 1 : Nat) : Int))) := by
  have hb := h.blk
  have hlim := h.ok.lim
  unfold refCells at hb
  rw [hd] at hb
  obtain ⟨n, hn⟩ : ∃ n, n = x.limit := ⟨_, rfl⟩
  rw [← hn] at hb hl hlim ⊢
  have c2 : w.cell? ⟨m.r, 2, none⟩ = some (.int .i64 n) := hb.cell 2
  have c3 : w.cell? ⟨m.r, 3, none⟩ = some (.bool false) := hb.cell 3
  have z2 : w.frozen? ⟨m.r, 2, none⟩ = false := hb.frozen 2
  have e0 : ((n : Int) == 0) = false := by simp; omega
  have e1 : ((n : Int) - 1 == 0) = false := by simp; omega
  have e2 : ((n - 1 : Nat) : Int) = (n : Int) - 1 := by omega
  have E2 := Lib.hid e2
  clear h hb hn e2
  go_enter Try.func28, Try.ntmps28
  go_wp2
  go_ret
  rw [E2.out]
  exact ⟨rfl, rfl⟩
end

end Go.Proofs.Ytledoajhjkfaoaa
