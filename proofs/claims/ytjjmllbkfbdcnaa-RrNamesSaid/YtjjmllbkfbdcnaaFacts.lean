/-
  A region that draws its order, whose operations make memory: each operation's yield is a fact that the later ones keep; the last operation waits for all.
-/
import Derived.Test.YtjjmllbkfbdcnaaFrame
import Derived.StillTail
namespace Go.Proofs.Ytjjmllbkfbdcnaa
open Go.RowKit

/-- Every edge leads back. -/
def backB (ops : Array Oper) : Bool := (List.range ops.size).all fun i => ((ops[i]?).map fun o => o.after.all fun e => decide (e.on < i)).getD true
/-- Operation j yields into slot d0 + j, for each j below n; no guards. -/
def slotsB (ops : Array Oper) (d0 n : Nat) : Bool := (List.range n).all fun i => ((ops[i]?).map fun o => decide (o.dst = some (d0 + i)) && o.guard.isNone).getD false

structure Facts (ops : Array Oper) (d0 n : Nat) (a0 : Act) (S : World → Prop) (F : Nat → Value → World → Prop) (D : Nat → Nat → Value → Value → Prop) (l : Array Bool) (a : Act) (w : World) : Prop where
  inv : HeadInv .any ops n l
  defers : a.defers = a0.defers
  size : a.tmps.size = a0.tmps.size
  low : ∀ s, s < d0 → a.tmps[s]? = a0.tmps[s]?
  S : S w
  facts : ∀ j, j < n → l.getD j false = true → ∃ v, a.tmps[d0 + j]? = some v ∧ F j v w
  dist : ∀ j k, j < n → k < n → j ≠ k → l.getD j false = true → l.getD k false = true → ∀ u v, a.tmps[d0 + j]? = some u → a.tmps[d0 + k]? = some v → D j k u v

/-- How many of the first n have not come up. -/
def left (n : Nat) (l : Array Bool) : Nat := (List.range n).countP fun i => !l.getD i false

theorem left_succ (n : Nat) (l : Array Bool) : left (n + 1) l = left n l + if l.getD n false = true then 0 else 1 := by
  unfold left
  rw [List.range_succ, List.countP_append, List.countP_singleton]
  cases l.getD n false <;> rfl
theorem left_far {i : Nat} {l : Array Bool} : ∀ {n : Nat}, n ≤ i → left n (l.setIfInBounds i true) = left n l
  | 0, _ => rfl
  | n + 1, h => by rw [left_succ, left_succ, left_far (by omega), getD_set_ne false (by omega)]
theorem left_set {i : Nat} {l : Array Bool} (hl : i < l.size) (h : l.getD i false = false) : ∀ {n : Nat}, i < n → left n (l.setIfInBounds i true) + 1 = left n l
  | 0, hi => by omega
  | n + 1, hi => by
    rw [left_succ, left_succ]
    by_cases hin : i = n
    · subst hin
      have : (l.setIfInBounds i true).getD i false = true := by simp [hl]
      rw [left_far (Nat.le_refl _), h, this]
      simp
    · have := left_set hl h (n := n) (by omega)
      rw [getD_set_ne false hin]
      omega

theorem left_zero {n : Nat} {l : Array Bool} (h : left n l = 0) : ∀ j, j < n → l.getD j false = true := by
  intro j hj
  unfold left at h
  have h1 := List.countP_eq_zero.1 h j (List.mem_range.2 hj)
  simpa using h1

theorem ready_some {ops : Array Oper} {n : Nat} {l : Array Bool} (hb : backB ops = true) (hsz : l.size = ops.size) (hn : n ≤ ops.size) : ∀ (d i : Nat), i ≤ d → i < n → l.getD i false = false → Region.ready .any ops l ≠ [] := by
  intro d
  induction d with
  | zero =>
    intro i hi hin hl
    obtain rfl : i = 0 := by omega
    have hlt : 0 < ops.size := by omega
    have h0 := List.all_eq_true.1 hb 0 (List.mem_range.2 hlt)
    rw [Array.getElem?_eq_getElem hlt] at h0
    simp only [Option.map_some, Option.getD_some] at h0
    have : 0 ∈ Region.ready .any ops l := mem_ready.2 ⟨getD_in (by omega) hl, ops[0], Array.getElem?_eq_getElem hlt, fun e he _ => by
      have := Array.all_eq_true'.1 h0 e he
      simp at this⟩
    exact fun h => by rw [h] at this; cases this
  | succ d ih =>
    intro i hi hin hl
    have hlt : i < ops.size := by omega
    have h0 := List.all_eq_true.1 hb i (List.mem_range.2 hlt)
    rw [Array.getElem?_eq_getElem hlt] at h0
    simp only [Option.map_some, Option.getD_some] at h0
    by_cases hall : ∀ e ∈ ops[i].after, Region.binds .any e = true → l.getD e.on false = true
    · have : i ∈ Region.ready .any ops l := mem_ready.2 ⟨getD_in (by omega) hl, ops[i], Array.getElem?_eq_getElem hlt, hall⟩
      exact fun h => by rw [h] at this; cases this
    · have : ∃ e, e ∈ ops[i].after ∧ l.getD e.on false = false := by
        apply Classical.byContradiction
        intro hno
        apply hall
        intro e he _
        cases hx : l.getD e.on false with
        | true => rfl
        | false => exact absurd ⟨e, he, hx⟩ hno
      obtain ⟨e, he, hx⟩ := this
      have := Array.all_eq_true'.1 h0 e he
      simp at this
      exact ih e.on (by omega) (by omega) hx

theorem wpAny_facts {P : Program} {ops : Array Oper} {Q : Exit → Act → World → Prop} {d0 n : Nat} {a0 : Act} {S : World → Prop} {F : Nat → Value → World → Prop} {D : Nat → Nat → Value → Value → Prop}
    (hsz : ops.size = n + 1) (hs : Region.sinkB .any ops n = true) (hc : Region.chainB .any ops n = true) (hb : backB ops = true) (hd : slotsB ops d0 n = true) (ha : d0 + n ≤ a0.tmps.size)
    (hq : Region.seqB .any ops 1 n ((Array.replicate n true).push false) = true)
    (hstep : ∀ i o, i < n → ops[i]? = some o → ∀ l a w, Facts ops d0 n a0 S F D l a w → (∀ e ∈ o.after, Region.binds .any e = true → l.getD e.on false = true) →
      ∀ K : Act → World → Prop, (∀ v w', F i v w' → S w' → (∀ j u, j < n → F j u w → F j u w') → (∀ j u, j < n → F j u w → D i j v u ∧ D j i u v) → K (a.put o.dst v) w') → o.wp P a w K Q)
    (htail : ∀ l a w o, ops[n]? = some o → Facts ops d0 n a0 S F D l a w → (∀ j, j < n → l.getD j false = true) → wpList P ops Q [o] a w) :
    ∀ (f : Nat) (l : Array Bool) (a : Act) (w : World), left n l ≤ f → Facts ops d0 n a0 S F D l a w → wpAny P .any ops Q (left n l + 1) l a w := by
  intro f
  induction f with
  | zero =>
    intro l a w hf h
    have hz : left n l = 0 := by omega
    have hall := left_zero hz
    have hl : l = (Array.replicate n true).push false := by
      apply Array.ext (by simp [h.inv.size, hsz])
      intro i h1 h2
      simp at h2
      rcases Nat.lt_or_ge i n with hi | hi
      · have := hall i hi
        simp [h1] at this
        simp [this, hi, Array.getElem_push]
      · obtain rfl : i = n := by omega
        have := h.inv.tail i (Nat.le_refl _) (by omega)
        simp [h1] at this
        simp [this, Array.getElem_push]
    have hlt : n < ops.size := by omega
    rw [hz, Nat.zero_add, hl]
    rw [hl] at h
    have := wpAny_of_seq (P := P) (md := .any) (ops := ops) (Q' := Q) [ops[n]] n ((Array.replicate n true).push false) a w (fun j => by
      rcases j with _ | j
      · simp [Array.getElem?_eq_getElem hlt]
      · simp
        omega) hq (htail _ a w _ (Array.getElem?_eq_getElem hlt) h fun j hj => hl ▸ hall j hj)
    exact this
  | succ f ih =>
    intro l a w hf h
    by_cases hz : left n l = 0
    · exact ih l a w (by omega) h
    have hne : Region.ready .any ops l ≠ [] := by
      have : ∃ i, i < n ∧ l.getD i false = false := by
        apply Classical.byContradiction
        intro hno
        apply hz
        unfold left
        rw [List.countP_eq_zero]
        intro i hi
        cases hx : l.getD i false with
        | true => simp
        | false => exact absurd ⟨i, List.mem_range.1 hi, hx⟩ hno
      obtain ⟨i, hi, hx⟩ := this
      exact ready_some hb h.inv.size (by omega) i i (Nat.le_refl _) hi hx
    refine ⟨fun h0 => absurd h0 hne, fun i hi => ?_⟩
    obtain ⟨hun, o, ho, hall⟩ := mem_ready.1 hi
    have hin : i < n := by
      rcases Nat.lt_or_ge i n with h1 | h1
      · exact h1
      · have : ∃ i, i < n ∧ l.getD i false = false := by
          apply Classical.byContradiction
          intro hno
          apply hz
          unfold left
          rw [List.countP_eq_zero]
          intro i hi
          cases hx : l.getD i false with
          | true => simp
          | false => exact absurd ⟨i, List.mem_range.1 hi, hx⟩ hno
        obtain ⟨j, hj, hx⟩ := this
        exact absurd hi (tail_waits hs hc (by omega) h.inv _ j rfl hj (getD_in (by rw [h.inv.size]; omega) hx) i h1)
    have hsl := List.all_eq_true.1 hd i (List.mem_range.2 hin)
    rw [ho] at hsl
    simp only [Option.map_some, Option.getD_some, Bool.and_eq_true, decide_eq_true_eq] at hsl
    have hg : o.guard = none := by simpa using hsl.2
    have hls : i < l.size := by rw [h.inv.size]; omega
    have hlt := left_set (l := l) (by rw [h.inv.size]; omega) (getD_both hun) hin
    unfold wpOp
    rw [ho]
    simp only
    rw [if_pos (by unfold Region.wanted; rw [hg])]
    refine .inl (hstep i o hin ho l a w h hall _ fun v w' hF hS hk hD => ?_)
    have hih := ih (l.setIfInBounds i true) (a.put o.dst v) w' (by omega) ?_
    · rwa [hlt] at hih
    · refine ⟨h.inv.set hi hin, by rw [hsl.1]; exact h.defers, by simp [Act.put, hsl.1, h.size], fun s hs => ?_, hS, fun j hj hl => ?_, fun j k hj hk' hjk hlj hlk u v' hu hv => ?_⟩
      · rw [hsl.1]
        simp only [Act.put]
        rw [Array.getElem?_setIfInBounds_ne (by omega)]
        exact h.low s hs
      · rw [hsl.1]
        simp only [Act.put]
        by_cases hij : i = j
        · subst hij
          exact ⟨v, by rw [Array.getElem?_setIfInBounds_self_of_lt (by have := h.size; omega)], hF⟩
        · rw [getD_set_ne false hij] at hl
          obtain ⟨u, hu, hFu⟩ := h.facts j hj hl
          exact ⟨u, by rw [Array.getElem?_setIfInBounds_ne (by omega)]; exact hu, hk j u hj hFu⟩
      · rw [hsl.1] at hu hv
        simp only [Act.put] at hu hv
        by_cases hij : i = j
        · subst hij
          rw [Array.getElem?_setIfInBounds_self_of_lt (by have := h.size; omega)] at hu
          rw [Array.getElem?_setIfInBounds_ne (by omega)] at hv
          injection hu with hu
          subst hu
          rw [getD_set_ne false hjk] at hlk
          obtain ⟨v2, hv2, hFv⟩ := h.facts k hk' hlk
          rw [hv] at hv2
          injection hv2 with hv2
          subst hv2
          exact (hD k v' hk' hFv).1
        · rw [Array.getElem?_setIfInBounds_ne (by omega)] at hu
          rw [getD_set_ne false hij] at hlj
          by_cases hik : i = k
          · subst hik
            rw [Array.getElem?_setIfInBounds_self_of_lt (by have := h.size; omega)] at hv
            injection hv with hv
            subst hv
            obtain ⟨u2, hu2, hFu⟩ := h.facts j hj hlj
            rw [hu] at hu2
            injection hu2 with hu2
            subst hu2
            exact (hD j u hj hFu).2
          · rw [Array.getElem?_setIfInBounds_ne (by omega)] at hv
            rw [getD_set_ne false hik] at hlk
            exact h.dist j k hj hk' hjk hlj hlk u v' hu hv

theorem left_none (n m : Nat) : left n (Array.replicate m false) = n := by
  have h : ∀ n, left n (Array.replicate m false) = n := fun n => by
    induction n with
    | zero => rfl
    | succ n ih => rw [left_succ, ih, getD_replicate_false]; rfl
  exact h n

/-- The region, from its beginning. -/
theorem wp_region_facts {P : Program} {ops : Array Oper} {Q : Exit → Act → World → Prop} {id : Nat} (d0 n : Nat) {a0 : Act} {w : World} (S : World → Prop) (F : Nat → Value → World → Prop) (D : Nat → Nat → Value → Value → Prop)
    (hm : P.follows .mixedOrders = true) (hsz : ops.size = n + 1) (hs : Region.sinkB .any ops n = true) (hc : Region.chainB .any ops n = true) (hb : backB ops = true) (hd : slotsB ops d0 n = true) (ha : d0 + n ≤ a0.tmps.size)
    (hq : Region.seqB .any ops 1 n ((Array.replicate n true).push false) = true) (hS : S w.drew)
    (hstep : ∀ i o, i < n → ops[i]? = some o → ∀ l a w, Facts ops d0 n a0 S F D l a w → (∀ e ∈ o.after, Region.binds .any e = true → l.getD e.on false = true) →
      ∀ K : Act → World → Prop, (∀ v w', F i v w' → S w' → (∀ j u, j < n → F j u w → F j u w') → (∀ j u, j < n → F j u w → D i j v u ∧ D j i u v) → K (a.put o.dst v) w') → o.wp P a w K Q)
    (htail : ∀ l a w o, ops[n]? = some o → Facts ops d0 n a0 S F D l a w → (∀ j, j < n → l.getD j false = true) → wpList P ops Q [o] a w) : (Code.region id ops true).wp P Q a0 w := by
  refine wp_region_any hm ?_
  have h := wpAny_facts hsz hs hc hb hd ha hq hstep htail n (Array.replicate ops.size false) a0 w.drew (by rw [left_none]; exact Nat.le_refl _)
    ⟨⟨by simp, fun j oj _ hl => (by rw [getD_replicate_false] at hl; cases hl), fun t _ ht => getD_in (by simpa using ht) (getD_replicate_false _ _)⟩, rfl, rfl, fun _ _ => rfl, hS,
      fun j _ hl => (by rw [getD_replicate_false] at hl; cases hl), fun j k _ _ _ hl => (by rw [getD_replicate_false] at hl; cases hl)⟩
  rw [left_none] at h
  rw [hsz] at h ⊢
  exact h

end Go.Proofs.Ytjjmllbkfbdcnaa
