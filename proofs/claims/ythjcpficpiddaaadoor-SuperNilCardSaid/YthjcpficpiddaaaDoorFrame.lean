/-
  'Grew F w w'': blocks that hold F may have turned and new ones have come; all else is as it was. Rows and blocks under it; an append that says where it lies.
-/
import Derived.Test.YthjcpficpiddaaaDoorOwn
import Derived.Maps.OwnSet
namespace Go.Proofs.YthjcpficpiddaaaDoor
open Go.RowKit

structure Grew (F : Nat → Prop) (w w' : World) : Prop where
  os : w'.os = w.os
  tape : w'.tape = w.tape
  output : w'.output = w.output
  size : w.heap.size ≤ w'.heap.size
  block : ∀ k, k < w.heap.size → ¬ F k → w'.heap[k]? = w.heap[k]?

section
variable {F G : Nat → Prop} {w w' w'' : World}
theorem Grew.refl (F : Nat → Prop) (w : World) : Grew F w w := ⟨rfl, rfl, rfl, Nat.le_refl _, fun _ _ _ => rfl⟩
theorem Grew.trans (h : Grew F w w') (k : Grew G w' w'') (hG : ∀ j, G j → F j ∨ w.heap.size ≤ j) : Grew F w w'' :=
  ⟨k.os.trans h.os, k.tape.trans h.tape, k.output.trans h.output, Nat.le_trans h.size k.size, fun j hj hF =>
    (k.block j (Nat.lt_of_lt_of_le hj h.size) (fun hg => by rcases hG j hg with h1 | h1; exact hF h1; omega)).trans (h.block j hj hF)⟩
theorem Grew.mono (h : Grew F w w') (hG : ∀ j, F j → G j ∨ w.heap.size ≤ j) : Grew G w w' :=
  ⟨h.os, h.tape, h.output, h.size, fun j hj hg => h.block j hj (fun hf => by rcases hG j hf with h1 | h1; exact hg h1; omega)⟩
theorem Grew.of_below {B : Nat} (h : Below B w w') (hF : ∀ j, B ≤ j → F j ∨ w.heap.size ≤ j) : Grew F w w' :=
  ⟨h.os, h.tape, h.output, h.size, fun j hj hf => h.block j (by rcases Nat.lt_or_ge j B with h1 | h1; exact h1; rcases hF j h1 with h2 | h2; exact absurd h2 hf; omega)⟩
theorem Grew.all (h : Below w.heap.size w w') : Grew F w w' := Grew.of_below h fun _ hj => .inr hj
theorem Grew.below (h : Grew F w w') {B : Nat} (hF : ∀ j, F j → B ≤ j) (hB : B ≤ w.heap.size) : Below B w w' :=
  ⟨h.os, h.tape, h.output, h.size, fun k hk => h.block k (Nat.lt_of_lt_of_le hk hB) (fun hf => by have := hF k hf; omega)⟩
theorem Grew.of_grown {row : Option Nat} (h : w.grownBy w' row) (hF : ∀ j, row = some j → F j ∨ w.heap.size ≤ j) : Grew F w w' :=
  ⟨h.os, h.tape, h.output, h.size, fun k hk hf => h.block k hk (fun e => by rcases hF k e.symm with h1 | h1; exact hf h1; omega)⟩
theorem Grew.alloc (h : Grew F w w') (o : Obj) : Grew F w (w'.alloc o) := h.trans (G := fun _ => False) (Grew.all ((Below.refl _ _).alloc (Nat.le_refl _) o)) (fun _ h => h.elim)
theorem Grew.drewN (h : Grew F w w') (n : Nat) : Grew F w (w'.drewN n) := ⟨h.os, h.tape, h.output, h.size, h.block⟩
theorem Grew.setCell (h : Grew F w w') {a : Addr} (ha : F a.block ∨ w.heap.size ≤ a.block) (u : Value) : Grew F w (w'.setCell a u) :=
  ⟨h.os, h.tape, h.output, by simpa using h.size, fun k hk hf => (Below.heap_setCell w' a u k (fun e => by rcases ha with h1 | h1; exact hf (e ▸ h1); omega)).trans (h.block k hk hf)⟩
theorem Grew.grown (h : Grew F w w') {row : Option Nat} (hg : w'.grownBy w'' row) (hr : ∀ j, row = some j → F j ∨ w.heap.size ≤ j) : Grew F w w'' :=
  h.trans (G := fun j => row = some j) (Grew.of_grown hg fun _ h => .inl h) hr
theorem Grew.then_below (h : Grew F w w') (hb : Below w'.heap.size w' w'') : Grew F w w'' :=
  h.trans (G := fun _ => False) (Grew.all hb) (fun _ h => h.elim)

/-- A row of the call's own stays, if its block does. -/
theorem own_keep {base : Nat} {e : TypeId} {size n : Nat} {v : Value} {xs : List Value} (h : w.ownsRow base e size v n xs) (hk : ∀ g, v.ownBlock = some g → w'.heap[g]? = w.heap[g]?) : w'.ownsRow base e size v n xs := by
  obtain ⟨h1, h2⟩ := h
  refine ⟨h1, ?_⟩
  rcases h2 with h2 | ⟨g, cap, cur, rfl, hg, hh, r⟩
  · exact .inl h2
  · exact .inr ⟨g, cap, cur, rfl, hg, (hk g rfl).trans hh, r⟩
theorem own_grew {base : Nat} {e : TypeId} {size n : Nat} {v : Value} {xs : List Value} (h : w.ownsRow base e size v n xs) (hg : Grew F w w') (hf : ∀ g, v.ownBlock = some g → ¬ F g) : w'.ownsRow base e size v n xs :=
  own_keep h fun g hv => hg.block g (h.lt g hv).2 (hf g hv)
theorem own_mono {base base' : Nat} {e : TypeId} {size n : Nat} {v : Value} {xs : List Value} (h : w.ownsRow base e size v n xs) (hb : base' ≤ base) : w.ownsRow base' e size v n xs := by
  obtain ⟨h1, h2⟩ := h
  refine ⟨h1, ?_⟩
  rcases h2 with h2 | ⟨g, cap, cur, rfl, hg, r⟩
  · exact .inl h2
  · exact .inr ⟨g, cap, cur, rfl, Nat.le_trans hb hg, r⟩
theorem Whole.keep {g : Nat} {t : TypeId} {L : List Value} (h : Whole w g t L) (hk : w'.heap[g]? = w.heap[g]?) : Whole w' g t L := hk.trans h
theorem Whole.grew {g : Nat} {t : TypeId} {L : List Value} (h : Whole w g t L) (hg : Grew F w w') (hf : ¬ F g) : Whole w' g t L := h.keep (hg.block g h.lt hf)
theorem Row.grew {H : Nat} {A : Option Addr} {xs : List Value} (h : Row w H A xs) (hg : Grew F w w') (hH : H ≤ w.heap.size) (hf : ∀ j, F j → H ≤ j) : Row w' H A xs :=
  h.below (hg.below hf hH)
/-- A row of other elements is another block. -/
theorem own_not_whole {base : Nat} {e t : TypeId} {size n g : Nat} {v : Value} {xs L : List Value} (h : w.ownsRow base e size v n xs) (hw : Whole w g t L) (ht : e ≠ t) : v.ownBlock ≠ some g := by
  intro hv
  rcases h.2 with ⟨rfl, _⟩ | ⟨g', cap, cur, rfl, _, hh, _⟩
  · cases hv
  · simp [Value.ownBlock] at hv
    subst hv
    unfold Whole at hw
    rw [hw] at hh
    simp at hh
    exact ht hh.2.symm
/-- A store into a row of the call's own. -/
theorem own_store {base g : Nat} {e : TypeId} {n c : Nat} {xs : List Value} (h : w.ownsRow base e 1 (.slice (some ⟨g, 0, none⟩) n c) n xs) {k : Nat} (_hk : k < n) (u : Value) :
    (w.setCell ⟨g, k, none⟩ u).ownsRow base e 1 (.slice (some ⟨g, 0, none⟩) n c) n (xs.set k u) := by
  obtain ⟨h1, h2⟩ := h
  refine ⟨by simpa using h1, ?_⟩
  rcases h2 with ⟨hv, _⟩ | ⟨g', cap, cur, hv, hg, hh, h3, h4, h5, h6⟩
  · cases hv
  · injection hv with hv _ hc
    injection hv with hv
    injection hv with hv
    subst hv
    subst hc
    refine .inr ⟨g, c, cur.setIfInBounds k u, rfl, hg, ?_, h3, h4, by simpa using h5, ?_⟩
    · simp [World.setCell, Array.getElem?_modify, hh]
    · rw [← h6]
      simp [List.take_set]
theorem own_cell {base g : Nat} {e : TypeId} {n c : Nat} {xs : List Value} {size : Nat} (h : w.ownsRow base e size (.slice (some ⟨g, 0, none⟩) n c) n xs) {k : Nat} (hk : k < xs.length) : w.cell? ⟨g, k, none⟩ = some xs[k] := by
  have h1 := h.cells (g := g) rfl k _ (List.getElem?_eq_getElem hk)
  rwa [addr_add, Nat.zero_add] at h1
theorem own_frozen {base g : Nat} {e : TypeId} {size n c : Nat} {xs : List Value} (h : w.ownsRow base e size (.slice (some ⟨g, 0, none⟩) n c) n xs) (k : Nat) : w.frozen? ⟨g, k, none⟩ = false := by
  rcases h.2 with ⟨hv, _⟩ | ⟨g', cap, cur, hv, hg, hh, _⟩
  · cases hv
  · injection hv with hv _ hc
    injection hv with hv
    injection hv with hv
    subst hv
    simp [World.frozen?, hh]
end

/-- append onto a row of the call's own, as wpList_append_row; it says where the new row lies. -/
theorem wpList_append_at {P : Program} {w : World} {ops : Array Oper} {rest : List Oper} {o : Oper} {a : Act} {Q : Exit → Act → World → Prop} (hgd : Region.wanted o (yielded ops a.tmps) = true) (s x : Operand) (t : TypeId)
    (ho : o.op = .call { callee := .builtin .append, args := #[s, x], argTypes := #[t, t] })
    (base : Nat) (e : TypeId) (i : TypeInfo) (z : Value) (size bytes : Nat) (ht : P.underlying t = some (.slice e)) (hi : P.info? e = some i) (hz : i.zero = some z)
    (hsize : i.size = size) (hby : i.bytes = bytes) (hzs : z.cells.size = size) (hsz : 0 < size)
    (v : Value) (n : Nat) (xs : List Value) (hs : a.eval s = v) (hown : w.ownsRow base e size v n xs)
    (A : Option Addr) (m c H : Nat) (news : List Value) (hx : a.eval x = .slice A m c) (hl : news.length = m * size) (hr : Row w H A news) (h1 : ∀ u ∈ news, u.oneCell' = true)
    (h63 : n + m ≤ maxLen) (hbytes : (n + m) * bytes ≤ 140737488355328) (hbase : base ≤ w.heap.size)
    (h : ∀ v' w', w'.ownsRow base e size v' (n + m) (xs ++ news) → w.grownBy w' v.ownBlock → (v'.ownBlock = v.ownBlock ∨ v'.ownBlock = some w.heap.size) → wpList P ops Q rest (a.put o.dst v') w') : wpList P ops Q (o :: rest) a w := by
  have key : ∃ v' w', (Builtin.append_ #[t, t] o.type #[v, .slice A m c]).run P w = .ok v' w' ∧ w'.ownsRow base e size v' (n + m) (xs ++ news) ∧ w.grownBy w' v.ownBlock ∧ (v'.ownBlock = v.ownBlock ∨ v'.ownBlock = some w.heap.size) := by
    rcases A with _ | ad
    · have hn : news = [] := by
        rcases news with _ | ⟨u, us⟩
        · rfl
        · obtain ⟨_, _, h, _⟩ := hr (by simp)
          cases h
      have hm : m = 0 := by
        subst hn
        rcases Nat.eq_zero_or_pos m with h0 | h0
        · exact h0
        · have := Nat.mul_pos h0 hsz
          simp at hl; omega
      subst hn; subst hm
      exact ⟨v, w, append_nil_run (P := P) w base t o.type e i size ht hi v n xs hown c, by simpa using hown, World.grownBy.refl w _, .inl rfl⟩
    · have hc : ∀ j u, news[j]? = some u → w.cell? (ad.add j) = some u := by
        intro j u hu
        obtain ⟨b, off, e, _, hc⟩ := hr (fun e => by rw [e] at hu; simp at hu)
        injection e with e
        subst e
        rw [addr_add]
        exact hc j u hu
      obtain ⟨v', w', h2, h3, h4, _, h6⟩ := run_append_own_at (P := P) w base t o.type e i z size bytes ht hi hz hsize hby hzs hsz v n xs hown ad m c news hl hc h1 h63 hbytes hbase
      exact ⟨v', w', h2, h3, h4, h6⟩
  obtain ⟨v', w', hrun, h2, h3, h4⟩ := key
  refine wpList_step fun K hK => ?_
  rw [if_pos hgd]
  unfold Oper.wp
  simp [execOp, ho, resolve, invoke, builtin, hs, hx, hrun, Result.andThen]
  exact hK _ _ (h v' w' h2 h3 h4)

end Go.Proofs.YthjcpficpiddaaaDoor
