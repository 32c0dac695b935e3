/-
  What the reader of rdata holds while it reads the parts of data; what is read of them.
-/
import Derived.Test.YtjjmllbkfbdcnaaDTexts
import Derived.Test.YtjjmllbkfbdcnaaDShape
namespace Go.Proofs.Ytjjmllbkfbdcnaa
open Go.RowKit

/-- What is read of data. -/
def readD (b : List UInt8) (p en : Nat) (s : Sh) : Except Nat Dt :=
  numsR b p en 2 s.ahead >>= fun n1 => (if s.host = true then nameR b n1.2 en else .ok ([], n1.2)) >>= fun h => (if s.mail = true then nameR b h.2 en else .ok ([], h.2)) >>= fun m =>
    numsR b m.2 en 4 s.behind >>= fun n2 => (if s.texts = true then textsR b n2.2 en [] else .ok ([], n2.2)) >>= fun t => bytesR b t.2 en s.least s.most >>= fun y =>
      if y.2 < en then .error 7 else .ok ⟨y.1, h.1, m.1, n1.1 ++ n2.1, t.1⟩

theorem numsR_le {b : List UInt8} {p en s k q : Nat} {l : List Int} (h : numsR b p en s k = .ok (l, q)) : q ≤ en ∧ l.length = k := by
  unfold numsR at h
  split at h
  · injection h with h
    injection h with h1 h2
    subst h1; subst h2
    exact ⟨by assumption, length_numsL _ _ _ _⟩
  · cases h
theorem nameR_le {b : List UInt8} {p en q : Nat} {n : List (List UInt8)} (h : nameR b p en = .ok (n, q)) : q ≤ en := by
  unfold nameR nameF at h
  split at h
  · cases h
  · split at h
    · cases h
    · injection h with h
      injection h with h1 h2
      omega
theorem textsR_le {b : List UInt8} {en : Nat} : ∀ (d p q : Nat) (acc l : List (List UInt8)), en - p ≤ d → p ≤ en → textsR b p en acc = .ok (l, q) → q ≤ en
  | d, p, q, acc, l, hd, hp, h => by
    rw [textsR] at h
    split at h
    · split at h
      · cases h
      · split at h
        · cases h
        · exact textsR_le (d - 1) _ q _ l (by omega) (by omega) h
    · split at h
      · cases h
      · injection h with h
        injection h with h1 h2
        omega
termination_by _ p => en - p

/-- What the call leaves: data, in slices of its own, or it gives up. -/
def DataOut (w : World) (g : Nat) (r : Except Nat Dt) (e : Ending) (w' : World) : Prop :=
  GrewG g w w' ∧ match r with
  | .ok d => ∃ y : DV, e = .returned (y.val d) ∧ OwnD w' w.heap.size y d
  | .error k => e = gaveE k
theorem DataOut.err {w : World} {g k : Nat} {r : Except Nat Dt} {w' : World} (hr : r = .error k) (hg : GrewG g w w') : DataOut w g r (gaveE k) w' := by
  subst hr
  exact ⟨hg, rfl⟩
theorem DataOut.ok {w : World} {g : Nat} {r : Except Nat Dt} {d : Dt} {w' : World} (y : DV) (hr : r = .ok d) (hg : GrewG g w w') (ho : OwnD w' w.heap.size y d) : DataOut w g r (.returned (y.val d)) w' := by
  subst hr
  exact ⟨hg, y, rfl, ho⟩

/-- The reader's block, the shape's, the data's. -/
structure DS (w : World) (g : Nat) (vb : Value) (s : Sh) (q en : Nat) (L : List Value) (W : World) : Prop where
  rb : RB W g vb q en
  sh : Whole W w.heap.size 85 [.int .i64 s.ahead, .bool s.host, .bool s.mail, .bool s.short, .int .i64 s.behind, .bool s.texts, .int .i64 s.least, .int .i64 s.most]
  dt : Whole W (w.heap.size + 1) 26 L
  gr : GrewG g w W
  lt : g < w.heap.size
section
variable {w W W' : World} {g : Nat} {vb : Value} {s : Sh} {q q' en : Nat} {L : List Value}
theorem DS.step (h : DS w g vb s q en L W) (hg : GrewG g W W') (hr : RB W' g vb q' en) : DS w g vb s q' en L W' :=
  ⟨hr, h.sh.grew hg (by have := h.lt; omega), h.dt.grew hg (by have := h.lt; omega), h.gr.trans hg fun _ e => .inl e, h.lt⟩
theorem DS.alloc (h : DS w g vb s q en L W) (o : Obj) : DS w g vb s q en L (W.alloc o) := ⟨h.rb.alloc o, h.sh.alloc o, h.dt.alloc o, h.gr.alloc o, h.lt⟩
theorem DS.store (h : DS w g vb s q en L W) (i : Nat) (v : Value) : DS w g vb s q en (L.set i v) (W.setCell ⟨w.heap.size + 1, i, none⟩ v) :=
  ⟨h.rb.keep (Below.heap_setCell W ⟨w.heap.size + 1, i, none⟩ v g (by have := h.lt; simp; omega)), h.sh.keep (Below.heap_setCell W ⟨w.heap.size + 1, i, none⟩ v _ (by simp)), h.dt.set_ i v, Grew.setCell (F := fun j => j = g) h.gr (a := ⟨w.heap.size + 1, i, none⟩) (.inr (by simp)) v, h.lt⟩
theorem DS.grown {v : Value} {t : TypeId} {n : Nat} {xs : List Value} (h : DS w g vb s q en L W) (ho : W.ownsRow w.heap.size t 1 v n xs) (ht : t ≠ 85) (ht2 : t ≠ 26) (hg : W.grownBy W' v.ownBlock) : DS w g vb s q en L W' :=
  ⟨h.rb.grown hg (fun e => by have := (ho.lt g e.symm).1; have := h.lt; omega), h.sh.grown hg (fun e => own_not_whole ho h.sh ht e.symm), h.dt.grown hg (fun e => own_not_whole ho h.dt ht2 e.symm), h.gr.grown hg fun j e => .inr (ho.lt j e).1, h.lt⟩
theorem DS.hs (h : DS w g vb s q en L W) (k : Nat) : W.cell? ⟨w.heap.size, k, none⟩ = [.int .i64 s.ahead, .bool s.host, .bool s.mail, .bool s.short, .int .i64 s.behind, .bool s.texts, .int .i64 s.least, .int .i64 s.most][k]? := h.sh.cell k
theorem DS.hd (h : DS w g vb s q en L W) (k : Nat) : W.cell? ⟨w.heap.size + 1, k, none⟩ = L[k]? := h.dt.cell k
theorem DS.fd (h : DS w g vb s q en L W) (k : Nat) : W.frozen? ⟨w.heap.size + 1, k, none⟩ = false := h.dt.frozen k
theorem DS.row (h : DS w g vb s q en L W) {base : Nat} {A : Option Addr} {xs : List Value} (hr : Row w base A xs) (hb : base ≤ g) : Row W base A xs :=
  hr.below (h.gr.below (fun j e => by subst e; exact hb) (by have := h.lt; omega))
/-- A row of the call's own stays while the reader reads. -/
theorem DS.own {t : TypeId} {v : Value} {n : Nat} {xs : List Value} (h : DS w g vb s q en L W) (ho : W.ownsRow w.heap.size t 1 v n xs) (hg : GrewG g W W') : W'.ownsRow w.heap.size t 1 v n xs :=
  own_grew ho hg fun k hk e => by subst e; have := (ho.lt k hk).1; have := h.lt; omega
theorem DS.ownset {t : TypeId} {v : Value} {n : Nat} {xs : List Value} (h : DS w g vb s q en L W) (ho : W.ownsRow w.heap.size t 1 v n xs) (ht : t ≠ 26) (i : Nat) (u : Value) : (W.setCell ⟨w.heap.size + 1, i, none⟩ u).ownsRow w.heap.size t 1 v n xs :=
  own_set_far ho (own_not_whole ho h.dt ht) u
/-- All parts are stored once more. -/
theorem DS.restore (h : DS w g vb s q en L W) (k : Nat) (v0 v1 v2 v3 v4 : Value) :
    DS w g vb s q en (((((L.set 0 v0).set 1 v1).set 2 v2).set 3 v3).set 4 v4) ((((((W.drewN k).setCell ⟨w.heap.size + 1, 0, none⟩ v0).setCell ⟨w.heap.size + 1, 1, none⟩ v1).setCell ⟨w.heap.size + 1, 2, none⟩ v2).setCell ⟨w.heap.size + 1, 3, none⟩ v3).setCell ⟨w.heap.size + 1, 4, none⟩ v4) ∧
    ∀ (t : TypeId) (v : Value) (n : Nat) (xs : List Value), W.ownsRow w.heap.size t 1 v n xs → t ≠ 26 →
      ((((((W.drewN k).setCell ⟨w.heap.size + 1, 0, none⟩ v0).setCell ⟨w.heap.size + 1, 1, none⟩ v1).setCell ⟨w.heap.size + 1, 2, none⟩ v2).setCell ⟨w.heap.size + 1, 3, none⟩ v3).setCell ⟨w.heap.size + 1, 4, none⟩ v4).ownsRow w.heap.size t 1 v n xs := by
  have h0 : DS w g vb s q en L (W.drewN k) := ⟨h.rb.drewN k, h.sh.drewN k, h.dt.drewN k, h.gr.drewN k, h.lt⟩
  have h1 := h0.store 0 v0
  have h2 := h1.store 1 v1
  have h3 := h2.store 2 v2
  have h4 := h3.store 3 v3
  refine ⟨h4.store 4 v4, fun t v n xs ho ht => ?_⟩
  have ho0 : (W.drewN k).ownsRow w.heap.size t 1 v n xs := ho
  exact h4.ownset (h3.ownset (h2.ownset (h1.ownset (h0.ownset ho0 ht 0 v0) ht 1 v1) ht 2 v2) ht 3 v3) ht 4 v4
theorem rows_apart {w : World} {b1 b2 s1 s2 n1 n2 : Nat} {e1 e2 : TypeId} {v1 v2 : Value} {xs1 xs2 : List Value} (h1 : w.ownsRow b1 e1 s1 v1 n1 xs1) (h2 : w.ownsRow b2 e2 s2 v2 n2 xs2) (hne : e1 ≠ e2) : v1.ownBlock = none ∨ v1.ownBlock ≠ v2.ownBlock := by
  rcases h1.2 with ⟨rfl, _⟩ | ⟨g, cap, cur, rfl, _, hh, _⟩
  · exact .inl rfl
  · right
    rcases h2.2 with ⟨rfl, _⟩ | ⟨g', cap', cur', rfl, _, hh', _⟩
    · simp [Value.ownBlock]
    · intro e
      have : g = g' := by simpa [Value.ownBlock] using e
      subst this
      rw [hh] at hh'
      injection hh' with hh'
      injection hh' with _ ht
      exact hne ht
end

end Go.Proofs.Ytjjmllbkfbdcnaa
