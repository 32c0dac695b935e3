/-
  Rows of many cells: what is loaded and stored at once.
-/
import Derived.Test.YthjcpficpiddaaaDoorFrame
import Derived.Deep.MidRow
namespace Go.Proofs.YthjcpficpiddaaaDoor
open Go.RowKit

theorem Whole.range {w : World} {g : Nat} {t : TypeId} {L : List Value} (h : Whole w g t L) {o : Nat} {cs : List Value} (hc : ∀ j v, cs[j]? = some v → L[o + j]? = some v) : w.rangeAt g o cs := fun j v hv => by
  rw [h.cell]; exact hc j v hv
theorem Whole.there {w : World} {g : Nat} {t : TypeId} {L : List Value} (h : Whole w g t L) {o n : Nat} (hn : o + n ≤ L.length) : w.there g o n := fun j hj => by
  refine ⟨?_, h.frozen _⟩
  rw [h.cell, List.getElem?_eq_getElem (by omega)]
  rfl
theorem splice_nil {α : Type} (L : List α) (o : Nat) : splice L o [] = L := by simp [splice]
theorem splice_cons {L : List Value} {o : Nat} {v : Value} {r : List Value} (h : o < L.length) : splice (L.set o v) (o + 1) r = splice L o (v :: r) := by
  unfold splice
  rw [List.take_succ_eq_append_getElem (by simpa using h)]
  simp only [List.getElem_set_self, List.take_set_of_le (Nat.le_refl o), List.length_cons]
  rw [List.drop_set_of_lt (by omega), show o + 1 + r.length = o + (r.length + 1) by omega]
  simp
theorem Whole.setCells {g : Nat} {t : TypeId} : ∀ (vs : List Value) (o : Nat) {w : World} {L : List Value}, Whole w g t L → o + vs.length ≤ L.length → Whole (w.setCells g o vs) g t (splice L o vs)
  | [], o, w, L, h, _ => by rw [splice_nil]; exact h
  | v :: r, o, w, L, h, hl => by
    simp only [List.length_cons] at hl
    have h1 := Whole.setCells r (o + 1) (h.set_ o v) (by simp; omega)
    rw [splice_cons (by omega)] at h1
    exact h1
theorem grew_setCells {F : Nat → Prop} {g : Nat} {w0 : World} : ∀ (vs : List Value) (o : Nat) {w : World}, Grew F w0 w → (F g ∨ w0.heap.size ≤ g) → Grew F w0 (w.setCells g o vs)
  | [], _, _, h, _ => h
  | v :: r, o, _, h, hg => grew_setCells r (o + 1) (h.setCell (a := ⟨g, o, none⟩) hg v) hg
theorem size_setCells {g : Nat} : ∀ (vs : List Value) (o : Nat) (w : World), (w.setCells g o vs).heap.size = w.heap.size
  | [], _, _ => rfl
  | v :: r, o, w => by rw [World.setCells, size_setCells r (o + 1)]; simp
/-- Many cells are stored in a block that is known whole. -/
theorem wpList_store_at {P : Program} {w : World} {ops : Array Oper} {rest : List Oper} {op : Oper} {a : Act} {Q : Exit → Act → World → Prop} (hgd : op.guard = none) (ty : TypeId) (x y : Operand) (ho : op.op = .store ty x y)
    (b o : Nat) (cells : List Value) (hx : a.eval x = .pointer (some ⟨b, o, none⟩)) (hy : a.eval y = .agg cells.toArray) (t : TypeId) (L : List Value) (hw : Whole w b t L) (hfit : o + cells.length ≤ L.length)
    (hi : (P.info? ty).map (·.size) = some cells.length) (h1 : ∀ v ∈ cells, v.oneCell' = true)
    (h : ∀ V, Whole V b t (splice L o cells) → Grew (fun j => j = b) w V → V.heap.size = w.heap.size → wpList P ops Q rest (a.put op.dst undef) V) : wpList P ops Q (op :: rest) a w :=
  wpList_store_mid hgd ty x y ho b o cells.toArray hx hy (by simpa using hw.there hfit) (by simpa using hi) (all_oneCell_toArray h1)
    (h _ (hw.setCells cells o hfit) (grew_setCells cells o (Grew.refl _ _) (.inl rfl)) (size_setCells _ _ _))
theorem wpList_load_at {P : Program} {w : World} {ops : Array Oper} {rest : List Oper} {op : Oper} {a : Act} {Q : Exit → Act → World → Prop} (hgd : op.guard = none) (ty : TypeId) (x : Operand) (ho : op.op = .load ty x)
    (b o : Nat) (hx : a.eval x = .pointer (some ⟨b, o, none⟩)) (cs : List Value) (d : TypeDesc) (hu : P.underlying ty = some d) (hd : d.isRow = true) (hi : (P.info? ty).map (·.size) = some cs.length)
    (t : TypeId) (L : List Value) (hw : Whole w b t L) (hc : ∀ j v, cs[j]? = some v → L[o + j]? = some v)
    (h : wpList P ops Q rest (a.put op.dst (.agg cs.toArray)) w) : wpList P ops Q (op :: rest) a w :=
  wpList_load_mid hgd ty x ho b o hx cs d (hw.range hc) hu hd hi h

/-- A store into a row of the call's own, whatever its elements' size. -/
theorem own_storeG {w : World} {base g : Nat} {e : TypeId} {size n c : Nat} {xs : List Value} (h : w.ownsRow base e size (.slice (some ⟨g, 0, none⟩) n c) n xs) (k : Nat) (u : Value) :
    (w.setCell ⟨g, k, none⟩ u).ownsRow base e size (.slice (some ⟨g, 0, none⟩) n c) n (xs.set k u) := by
  obtain ⟨h1, h2⟩ := h
  refine ⟨by simpa using h1, ?_⟩
  rcases h2 with ⟨hv, _⟩ | ⟨g', cap, cur, hv, hg, hh, h3, h4, h5, h6⟩
  · cases hv
  · injection hv with hv _ hc
    injection hv with hv
    injection hv with hv
    subst hv
    subst hc
    refine .inr ⟨g, c, cur.setIfInBounds k u, rfl, hg, ?_, h3, h4, by simpa using h5, ?_⟩
    · simp [World.setCell, Array.getElem?_modify, hh]
    · rw [← h6]
      simp [List.take_set]
theorem own_setCells {base g : Nat} {e : TypeId} {size n c : Nat} : ∀ (vs : List Value) (o : Nat) {w : World} {xs : List Value}, w.ownsRow base e size (.slice (some ⟨g, 0, none⟩) n c) n xs → o + vs.length ≤ xs.length →
    (w.setCells g o vs).ownsRow base e size (.slice (some ⟨g, 0, none⟩) n c) n (splice xs o vs)
  | [], o, w, L, h, _ => by rw [splice_nil]; exact h
  | v :: r, o, w, L, h, hl => by
    simp only [List.length_cons] at hl
    have h1 := own_setCells r (o + 1) (own_storeG h o v) (by simp; omega)
    rw [splice_cons (by omega)] at h1
    exact h1
theorem own_range {w : World} {base g : Nat} {e : TypeId} {size n c : Nat} {xs : List Value} (h : w.ownsRow base e size (.slice (some ⟨g, 0, none⟩) n c) n xs) {o : Nat} {cs : List Value} (hc : ∀ j v, cs[j]? = some v → xs[o + j]? = some v) : w.rangeAt g o cs := fun j v hv => by
  obtain ⟨h1, h3⟩ := List.getElem?_eq_some_iff.1 (hc j v hv)
  rw [own_cell h h1, h3]
theorem own_there {w : World} {base g : Nat} {e : TypeId} {size n c : Nat} {xs : List Value} (h : w.ownsRow base e size (.slice (some ⟨g, 0, none⟩) n c) n xs) {o k : Nat} (hn : o + k ≤ xs.length) : w.there g o k := fun j hj => by
  refine ⟨?_, own_frozen h _⟩
  rw [own_cell h (by omega)]
  rfl
/-- Many cells are stored in a row of the call's own. -/
theorem wpList_store_own {P : Program} {w : World} {ops : Array Oper} {rest : List Oper} {op : Oper} {a : Act} {Q : Exit → Act → World → Prop} (hgd : op.guard = none) (ty : TypeId) (x y : Operand) (ho : op.op = .store ty x y)
    (b o : Nat) (cells : List Value) (hx : a.eval x = .pointer (some ⟨b, o, none⟩)) (hy : a.eval y = .agg cells.toArray) (base : Nat) (e : TypeId) (size n c : Nat) (L : List Value) (hw : w.ownsRow base e size (.slice (some ⟨b, 0, none⟩) n c) n L) (hfit : o + cells.length ≤ L.length)
    (hi : (P.info? ty).map (·.size) = some cells.length) (h1 : ∀ v ∈ cells, v.oneCell' = true)
    (h : ∀ V, V.ownsRow base e size (.slice (some ⟨b, 0, none⟩) n c) n (splice L o cells) → Grew (fun j => j = b) w V → V.heap.size = w.heap.size → wpList P ops Q rest (a.put op.dst undef) V) : wpList P ops Q (op :: rest) a w :=
  wpList_store_mid hgd ty x y ho b o cells.toArray hx hy (by simpa using own_there hw hfit) (by simpa using hi) (all_oneCell_toArray h1)
    (h _ (own_setCells cells o hw hfit) (grew_setCells cells o (Grew.refl _ _) (.inl rfl)) (size_setCells _ _ _))
theorem wpList_load_own {P : Program} {w : World} {ops : Array Oper} {rest : List Oper} {op : Oper} {a : Act} {Q : Exit → Act → World → Prop} (hgd : op.guard = none) (ty : TypeId) (x : Operand) (ho : op.op = .load ty x)
    (b o : Nat) (hx : a.eval x = .pointer (some ⟨b, o, none⟩)) (cs : List Value) (d : TypeDesc) (hu : P.underlying ty = some d) (hd : d.isRow = true) (hi : (P.info? ty).map (·.size) = some cs.length)
    (base : Nat) (e : TypeId) (size n c : Nat) (L : List Value) (hw : w.ownsRow base e size (.slice (some ⟨b, 0, none⟩) n c) n L) (hc : ∀ j v, cs[j]? = some v → L[o + j]? = some v)
    (h : wpList P ops Q rest (a.put op.dst (.agg cs.toArray)) w) : wpList P ops Q (op :: rest) a w :=
  wpList_load_mid hgd ty x ho b o hx cs d (own_range hw hc) hu hd hi h
/-- Rows of different elements are different blocks. -/
theorem own_not_own {w : World} {base base' : Nat} {e e' : TypeId} {size size' n n' g : Nat} {v v' : Value} {xs xs' : List Value} (h : w.ownsRow base e size v n xs) (h' : w.ownsRow base' e' size' v' n' xs') (ht : e ≠ e') (hg : v'.ownBlock = some g) : v.ownBlock ≠ some g := by
  intro hv
  rcases h'.2 with ⟨rfl, _⟩ | ⟨g', cap, cur, rfl, _, hh, _⟩
  · cases hg
  · simp [Value.ownBlock] at hg
    subst hg
    rcases h.2 with ⟨rfl, _⟩ | ⟨g', cap, cur, rfl, _, hh', _⟩
    · cases hv
    · simp [Value.ownBlock] at hv
      subst hv
      rw [hh] at hh'
      simp at hh'
      exact ht hh'.2.symm

end Go.Proofs.YthjcpficpiddaaaDoor
