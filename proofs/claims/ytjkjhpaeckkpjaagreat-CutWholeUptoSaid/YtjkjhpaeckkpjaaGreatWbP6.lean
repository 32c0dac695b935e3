/-
  A region that draws its order, whose operations make memory: each operation's yield is a fact that the later ones keep; the last operation waits for all.
-/
import Derived.Test.YtjkjhpaeckkpjaaGreatWbP1
import Derived.StillTail
import Derived.Test.YtjkjhpaeckkpjaaGreatWbP2
import Derived.Test.YtjkjhpaeckkpjaaGreatWbP5
import Derived.Test.YtjkjhpaeckkpjaaGreatWbP4
namespace Go.Proofs.YtjkjhpaeckkpjaaGreat
open Go.RowKit

/-- Every edge leads back. -/
def backB (ops : Array Oper) : Bool := (List.range ops.size).all fun i => ((ops[i]?).map fun o => o.after.all fun e => decide (e.on < i)).getD true
/-- Operation j yields into slot d0 + j, for each j below n; no guards. -/
def slotsB (ops : Array Oper) (d0 n : Nat) : Bool := (List.range n).all fun i => ((ops[i]?).map fun o => decide (o.dst = some (d0 + i)) && o.guard.isNone).getD false

structure Facts (ops : Array Oper) (d0 n : Nat) (a0 : Act) (S : World → Prop) (F : Nat → Value → World → Prop) (D : Nat → Nat → Value → Value → Prop) (l : Array Bool) (a : Act) (w : World) : Prop where
  inv : HeadInv .any ops n l
  defers : a.defers = a0.defers
  size : a.tmps.size = a0.tmps.size
  low : ∀ s, s < d0 → a.tmps[s]? = a0.tmps[s]?
  S : S w
  facts : ∀ j, j < n → l.getD j false = true → ∃ v, a.tmps[d0 + j]? = some v ∧ F j v w
  dist : ∀ j k, j < n → k < n → j ≠ k → l.getD j false = true → l.getD k false = true → ∀ u v, a.tmps[d0 + j]? = some u → a.tmps[d0 + k]? = some v → D j k u v

/-- How many of the first n have not come up. -/
def left (n : Nat) (l : Array Bool) : Nat := (List.range n).countP fun i => !l.getD i false

theorem left_succ (n : Nat) (l : Array Bool) : left (n + 1) l = left n l + if l.getD n false = true then 0 else 1 := by
  unfold left
  rw [List.range_succ, List.countP_append, List.countP_singleton]
  cases l.getD n false <;> rfl
theorem left_far {i : Nat} {l : Array Bool} : ∀ {n : Nat}, n ≤ i → left n (l.setIfInBounds i true) = left n l
  | 0, _ => rfl
  | n + 1, h => by rw [left_succ, left_succ, left_far (by omega), getD_set_ne false (by omega)]
theorem left_set {i : Nat} {l : Array Bool} (hl : i < l.size) (h : l.getD i false = false) : ∀ {n : Nat}, i < n → left n (l.setIfInBounds i true) + 1 = left n l
  | 0, hi => by omega
  | n + 1, hi => by
    rw [left_succ, left_succ]
    by_cases hin : i = n
    · subst hin
      have : (l.setIfInBounds i true).getD i false = true := by simp [hl]
      rw [left_far (Nat.le_refl _), h, this]
      simp
    · have := left_set hl h (n := n) (by omega)
      rw [getD_set_ne false hin]
      omega

theorem left_zero {n : Nat} {l : Array Bool} (h : left n l = 0) : ∀ j, j < n → l.getD j false = true := by
  intro j hj
  unfold left at h
  have h1 := List.countP_eq_zero.1 h j (List.mem_range.2 hj)
  simpa using h1

theorem ready_some {ops : Array Oper} {n : Nat} {l : Array Bool} (hb : backB ops = true) (hsz : l.size = ops.size) (hn : n ≤ ops.size) : ∀ (d i : Nat), i ≤ d → i < n → l.getD i false = false → Region.ready .any ops l ≠ [] := by
  intro d
  induction d with
  | zero =>
    intro i hi hin hl
    obtain rfl : i = 0 := by omega
    have hlt : 0 < ops.size := by omega
    have h0 := List.all_eq_true.1 hb 0 (List.mem_range.2 hlt)
    rw [Array.getElem?_eq_getElem hlt] at h0
    simp only [Option.map_some, Option.getD_some] at h0
    have : 0 ∈ Region.ready .any ops l := mem_ready.2 ⟨getD_in (by omega) hl, ops[0], Array.getElem?_eq_getElem hlt, fun e he _ => by
      have := Array.all_eq_true'.1 h0 e he
      simp at this⟩
    exact fun h => by rw [h] at this; cases this
  | succ d ih =>
    intro i hi hin hl
    have hlt : i < ops.size := by omega
    have h0 := List.all_eq_true.1 hb i (List.mem_range.2 hlt)
    rw [Array.getElem?_eq_getElem hlt] at h0
    simp only [Option.map_some, Option.getD_some] at h0
    by_cases hall : ∀ e ∈ ops[i].after, Region.binds .any e = true → l.getD e.on false = true
    · have : i ∈ Region.ready .any ops l := mem_ready.2 ⟨getD_in (by omega) hl, ops[i], Array.getElem?_eq_getElem hlt, hall⟩
      exact fun h => by rw [h] at this; cases this
    · have : ∃ e, e ∈ ops[i].after ∧ l.getD e.on false = false := by
        apply Classical.byContradiction
        intro hno
        apply hall
        intro e he _
        cases hx : l.getD e.on false with
        | true => rfl
        | false => exact absurd ⟨e, he, hx⟩ hno
      obtain ⟨e, he, hx⟩ := this
      have := Array.all_eq_true'.1 h0 e he
      simp at this
      exact ih e.on (by omega) (by omega) hx

theorem wpAny_facts {P : Program} {ops : Array Oper} {Q : Exit → Act → World → Prop} {d0 n : Nat} {a0 : Act} {S : World → Prop} {F : Nat → Value → World → Prop} {D : Nat → Nat → Value → Value → Prop}
    (hsz : ops.size = n + 1) (hs : Region.sinkB .any ops n = true) (hc : Region.chainB .any ops n = true) (hb : backB ops = true) (hd : slotsB ops d0 n = true) (ha : d0 + n ≤ a0.tmps.size)
    (hq : Region.seqB .any ops 1 n ((Array.replicate n true).push false) = true)
    (hstep : ∀ i o, i < n → ops[i]? = some o → ∀ l a w, Facts ops d0 n a0 S F D l a w → (∀ e ∈ o.after, Region.binds .any e = true → l.getD e.on false = true) →
      ∀ K : Act → World → Prop, (∀ v w', F i v w' → S w' → (∀ j u, j < n → F j u w → F j u w') → (∀ j u, j < n → F j u w → D i j v u ∧ D j i u v) → K (a.put o.dst v) w') → o.wp P a w K Q)
    (htail : ∀ l a w o, ops[n]? = some o → Facts ops d0 n a0 S F D l a w → (∀ j, j < n → l.getD j false = true) → wpList P ops Q [o] a w) :
    ∀ (f : Nat) (l : Array Bool) (a : Act) (w : World), left n l ≤ f → Facts ops d0 n a0 S F D l a w → wpAny P .any ops Q (left n l + 1) l a w := by
  intro f
  induction f with
  | zero =>
    intro l a w hf h
    have hz : left n l = 0 := by omega
    have hall := left_zero hz
    have hl : l = (Array.replicate n true).push false := by
      apply Array.ext (by simp [h.inv.size, hsz])
      intro i h1 h2
      simp at h2
      rcases Nat.lt_or_ge i n with hi | hi
      · have := hall i hi
        simp [h1] at this
        simp [this, hi, Array.getElem_push]
      · obtain rfl : i = n := by omega
        have := h.inv.tail i (Nat.le_refl _) (by omega)
        simp [h1] at this
        simp [this, Array.getElem_push]
    have hlt : n < ops.size := by omega
    rw [hz, Nat.zero_add, hl]
    rw [hl] at h
    have := wpAny_of_seq (P := P) (md := .any) (ops := ops) (Q' := Q) [ops[n]] n ((Array.replicate n true).push false) a w (fun j => by
      rcases j with _ | j
      · simp [Array.getElem?_eq_getElem hlt]
      · simp
        omega) hq (htail _ a w _ (Array.getElem?_eq_getElem hlt) h fun j hj => hl ▸ hall j hj)
    exact this
  | succ f ih =>
    intro l a w hf h
    by_cases hz : left n l = 0
    · exact ih l a w (by omega) h
    have hne : Region.ready .any ops l ≠ [] := by
      have : ∃ i, i < n ∧ l.getD i false = false := by
        apply Classical.byContradiction
        intro hno
        apply hz
        unfold left
        rw [List.countP_eq_zero]
        intro i hi
        cases hx : l.getD i false with
        | true => simp
        | false => exact absurd ⟨i, List.mem_range.1 hi, hx⟩ hno
      obtain ⟨i, hi, hx⟩ := this
      exact ready_some hb h.inv.size (by omega) i i (Nat.le_refl _) hi hx
    refine ⟨fun h0 => absurd h0 hne, fun i hi => ?_⟩
    obtain ⟨hun, o, ho, hall⟩ := mem_ready.1 hi
    have hin : i < n := by
      rcases Nat.lt_or_ge i n with h1 | h1
      · exact h1
      · have : ∃ i, i < n ∧ l.getD i false = false := by
          apply Classical.byContradiction
          intro hno
          apply hz
          unfold left
          rw [List.countP_eq_zero]
          intro i hi
          cases hx : l.getD i false with
          | true => simp
          | false => exact absurd ⟨i, List.mem_range.1 hi, hx⟩ hno
        obtain ⟨j, hj, hx⟩ := this
        exact absurd hi (tail_waits hs hc (by omega) h.inv _ j rfl hj (getD_in (by rw [h.inv.size]; omega) hx) i h1)
    have hsl := List.all_eq_true.1 hd i (List.mem_range.2 hin)
    rw [ho] at hsl
    simp only [Option.map_some, Option.getD_some, Bool.and_eq_true, decide_eq_true_eq] at hsl
    have hg : o.guard = none := by simpa using hsl.2
    have hls : i < l.size := by rw [h.inv.size]; omega
    have hlt := left_set (l := l) (by rw [h.inv.size]; omega) (getD_both hun) hin
    unfold wpOp
    rw [ho]
    simp only
    rw [if_pos (by unfold Region.wanted; rw [hg])]
    refine .inl (hstep i o hin ho l a w h hall _ fun v w' hF hS hk hD => ?_)
    have hih := ih (l.setIfInBounds i true) (a.put o.dst v) w' (by omega) ?_
    · rwa [hlt] at hih
    · refine ⟨h.inv.set hi hin, by rw [hsl.1]; exact h.defers, by simp [Act.put, hsl.1, h.size], fun s hs => ?_, hS, fun j hj hl => ?_, fun j k hj hk' hjk hlj hlk u v' hu hv => ?_⟩
      · rw [hsl.1]
        simp only [Act.put]
        rw [Array.getElem?_setIfInBounds_ne (by omega)]
        exact h.low s hs
      · rw [hsl.1]
        simp only [Act.put]
        by_cases hij : i = j
        · subst hij
          exact ⟨v, by rw [Array.getElem?_setIfInBounds_self_of_lt (by have := h.size; omega)], hF⟩
        · rw [getD_set_ne false hij] at hl
          obtain ⟨u, hu, hFu⟩ := h.facts j hj hl
          exact ⟨u, by rw [Array.getElem?_setIfInBounds_ne (by omega)]; exact hu, hk j u hj hFu⟩
      · rw [hsl.1] at hu hv
        simp only [Act.put] at hu hv
        by_cases hij : i = j
        · subst hij
          rw [Array.getElem?_setIfInBounds_self_of_lt (by have := h.size; omega)] at hu
          rw [Array.getElem?_setIfInBounds_ne (by omega)] at hv
          injection hu with hu
          subst hu
          rw [getD_set_ne false hjk] at hlk
          obtain ⟨v2, hv2, hFv⟩ := h.facts k hk' hlk
          rw [hv] at hv2
          injection hv2 with hv2
          subst hv2
          exact (hD k v' hk' hFv).1
        · rw [Array.getElem?_setIfInBounds_ne (by omega)] at hu
          rw [getD_set_ne false hij] at hlj
          by_cases hik : i = k
          · subst hik
            rw [Array.getElem?_setIfInBounds_self_of_lt (by have := h.size; omega)] at hv
            injection hv with hv
            subst hv
            obtain ⟨u2, hu2, hFu⟩ := h.facts j hj hlj
            rw [hu] at hu2
            injection hu2 with hu2
            subst hu2
            exact (hD j u hj hFu).2
          · rw [Array.getElem?_setIfInBounds_ne (by omega)] at hv
            rw [getD_set_ne false hik] at hlk
            exact h.dist j k hj hk' hjk hlj hlk u v' hu hv

theorem left_none (n m : Nat) : left n (Array.replicate m false) = n := by
  have h : ∀ n, left n (Array.replicate m false) = n := fun n => by
    induction n with
    | zero => rfl
    | succ n ih => rw [left_succ, ih, getD_replicate_false]; rfl
  exact h n

/-- The region, from its beginning. -/
theorem wp_region_facts {P : Program} {ops : Array Oper} {Q : Exit → Act → World → Prop} {id : Nat} (d0 n : Nat) {a0 : Act} {w : World} (S : World → Prop) (F : Nat → Value → World → Prop) (D : Nat → Nat → Value → Value → Prop)
    (hm : P.follows .mixedOrders = true) (hsz : ops.size = n + 1) (hs : Region.sinkB .any ops n = true) (hc : Region.chainB .any ops n = true) (hb : backB ops = true) (hd : slotsB ops d0 n = true) (ha : d0 + n ≤ a0.tmps.size)
    (hq : Region.seqB .any ops 1 n ((Array.replicate n true).push false) = true) (hS : S w.drew)
    (hstep : ∀ i o, i < n → ops[i]? = some o → ∀ l a w, Facts ops d0 n a0 S F D l a w → (∀ e ∈ o.after, Region.binds .any e = true → l.getD e.on false = true) →
      ∀ K : Act → World → Prop, (∀ v w', F i v w' → S w' → (∀ j u, j < n → F j u w → F j u w') → (∀ j u, j < n → F j u w → D i j v u ∧ D j i u v) → K (a.put o.dst v) w') → o.wp P a w K Q)
    (htail : ∀ l a w o, ops[n]? = some o → Facts ops d0 n a0 S F D l a w → (∀ j, j < n → l.getD j false = true) → wpList P ops Q [o] a w) : (Code.region id ops true).wp P Q a0 w := by
  refine wp_region_any hm ?_
  have h := wpAny_facts hsz hs hc hb hd ha hq hstep htail n (Array.replicate ops.size false) a0 w.drew (by rw [left_none]; exact Nat.le_refl _)
    ⟨⟨by simp, fun j oj _ hl => (by rw [getD_replicate_false] at hl; cases hl), fun t _ ht => getD_in (by simpa using ht) (getD_replicate_false _ _)⟩, rfl, rfl, fun _ _ => rfl, hS,
      fun j _ hl => (by rw [getD_replicate_false] at hl; cases hl), fun j k _ _ _ hl => (by rw [getD_replicate_false] at hl; cases hl)⟩
  rw [left_none] at h
  rw [hsz] at h ⊢
  exact h

end Go.Proofs.YtjkjhpaeckkpjaaGreat

namespace Go.Proofs.YtjkjhpaeckkpjaaGreat
open Go.RowKit

theorem step_build {a : Act} {w : World} {K : Act → World → Prop} {Q : Exit → Act → World → Prop} (o : Oper) (T e : TypeId) (i : TypeInfo) (ho : o.op = .buildSlice T 0 #[]) (hT : Tryz.prog.underlying T = some (.slice e)) (hi : Tryz.prog.info? e = some i)
    (h : K (a.put o.dst (.slice (some ⟨w.heap.size, 0, none⟩) 0 0)) (w.alloc (.cells #[] e))) : o.wp Tryz.prog a w K Q := by
  unfold Oper.wp
  simp [execOp, ho, go_sem, run_underlying hT, sizeOf, typeInfo, hi]
  exact h

theorem step_field {a : Act} {w : World} {K : Act → World → Prop} {Q : Exit → Act → World → Prop} (o : Oper) (j H : Nat) (hj : j < 5) (ho : o.op = .fieldAddr 40 (.tmp 1) j) (h1 : a.tmps[1]? = some (.pointer (some ⟨H, 0, none⟩)))
    (h : K (a.put o.dst (.pointer (some ⟨H, j, none⟩))) w) : o.wp Tryz.prog a w K Q := by
  unfold Oper.wp
  obtain rfl | rfl | rfl | rfl | rfl : j = 0 ∨ j = 1 ∨ j = 2 ∨ j = 3 ∨ j = 4 := by omega
  all_goals
    simp [execOp, ho, h1, go_sem]
    exact h

theorem step_load {a : Act} {w : World} {K : Act → World → Prop} {Q : Exit → Act → World → Prop} (o : Oper) (T e : TypeId) (k : Nat) (p : Addr) (v : Value) (ho : o.op = .load T (.tmp k)) (hT : Tryz.prog.underlying T = some (.slice e)) (h1 : a.tmps[k]? = some (.pointer (some p)))
    (hc : w.cell? p = some v) (h : K (a.put o.dst v) w) : o.wp Tryz.prog a w K Q := by
  unfold Oper.wp
  simp [execOp, ho, h1, go_sem, isAgg, run_underlying hT, hc]
  exact h

theorem step_append {a : Act} {w : World} {K : Act → World → Prop} {Q : Exit → Act → World → Prop} (o : Oper) (k1 k2 : Nat) (B : Nat) (t e : TypeId) (i : TypeInfo) (z : Value) (bytes : Nat) (ho : o.op = .call { callee := .builtin .append, args := #[.tmp k1, .tmp k2], argTypes := #[t, t] })
    (ht : Tryz.prog.underlying t = some (.slice e)) (hi : Tryz.prog.info? e = some i) (hz : i.zero = some z) (hsize : i.size = 1) (hby : i.bytes = bytes) (hzs : z.cells.size = 1) (v : Value)
    (h1 : a.tmps[k1]? = some v) (hv : ∃ g, v = .slice (some ⟨g, 0, none⟩) 0 0 ∧ B ≤ g ∧ w.heap[g]? = some (.cells #[] e (0, 0)))
    (A : Option Addr) (m c H : Nat) (news : List Value) (h2 : a.tmps[k2]? = some (.slice A m c)) (hl : news.length = m) (hr : Row w H A news) (hn1 : ∀ u ∈ news, u.oneCell' = true) (h63 : m ≤ maxLen) (hbytes : m * bytes ≤ 140737488355328) (hB : B ≤ w.heap.size)
    (h : ∀ v' w', w'.ownsRow B e 1 v' m news → Below w.heap.size w w' → (0 < m → v'.ownBlock = some w.heap.size) → K (a.put o.dst v') w') : o.wp Tryz.prog a w K Q := by
  obtain ⟨g, rfl, hg, hh⟩ := hv
  obtain ⟨v', w', hrun, h3, h4, h5⟩ := append_zero_run (P := Tryz.prog) w B t o.type e i z bytes ht hi hz hsize hby hzs g hg hh A m c H news hl hr hn1 h63 hbytes hB
  unfold Oper.wp
  simp [execOp, ho, resolve, invoke, builtin, Act.eval, h1, h2, hrun, Result.andThen]
  exact h v' w' h3 h4 h5

theorem step_store {a : Act} {w : World} {K : Act → World → Prop} {Q : Exit → Act → World → Prop} (o : Oper) (g : Nat) (y : DV) (d : Dt) (u0 u1 u2 u3 u4 : Value) (ho : o.op = .store 40 (.tmp 2) (.tmp 23)) (h2 : a.tmps[2]? = some (.pointer (some ⟨g, 0, none⟩)))
    (hu : a.tmps[23]? = some (y.val d)) (hw : Whole w g 40 [u0, u1, u2, u3, u4])
    (h : K (a.put o.dst undef) (((((w.setCell ⟨g, 0, none⟩ (y.vb d)).setCell ⟨g, 1, none⟩ (y.vh d)).setCell ⟨g, 2, none⟩ (y.vm d)).setCell ⟨g, 3, none⟩ (y.vn d)).setCell ⟨g, 4, none⟩ (y.vt d))) : o.wp Tryz.prog a w K Q := by
  have q0 : w.cell? ⟨g, 0, none⟩ = some u0 := hw.cell 0
  have q1 : w.cell? ⟨g, 1, none⟩ = some u1 := hw.cell 1
  have q2 : w.cell? ⟨g, 2, none⟩ = some u2 := hw.cell 2
  have q3 : w.cell? ⟨g, 3, none⟩ = some u3 := hw.cell 3
  have q4 : w.cell? ⟨g, 4, none⟩ = some u4 := hw.cell 4
  have z0 : w.frozen? ⟨g, 0, none⟩ = false := hw.frozen 0
  have z1 : w.frozen? ⟨g, 1, none⟩ = false := hw.frozen 1
  have z2 : w.frozen? ⟨g, 2, none⟩ = false := hw.frozen 2
  have z3 : w.frozen? ⟨g, 3, none⟩ = false := hw.frozen 3
  have z4 : w.frozen? ⟨g, 4, none⟩ = false := hw.frozen 4
  unfold Oper.wp
  simp [execOp, ho, go_sem, h2, hu, q0, q1, q2, q3, q4, z0, z1, z2, z3, z4]
  exact h

/-- What each operation of the region yields. -/
def factF (H B : Nat) (x : DV) (d : Dt) : Nat → Value → World → Prop
  | 0 => fun v w => ∃ g, v = .slice (some ⟨g, 0, none⟩) 0 0 ∧ B ≤ g ∧ w.heap[g]? = some (.cells #[] 5 (0, 0))
  | 1 => fun v _ => v = .pointer (some ⟨H, 0, none⟩)
  | 2 => fun v _ => v = .slice x.Ab d.bytes.length x.cb
  | 3 => fun v w => w.ownsRow B 5 1 v d.bytes.length (d.bytes.map bc)
  | 4 => fun v w => ∃ g, v = .slice (some ⟨g, 0, none⟩) 0 0 ∧ B ≤ g ∧ w.heap[g]? = some (.cells #[] 9 (0, 0))
  | 5 => fun v _ => v = .pointer (some ⟨H, 1, none⟩)
  | 6 => fun v _ => v = .slice x.Ah d.host.length x.ch
  | 7 => fun v w => w.ownsRow B 9 1 v d.host.length (d.host.map sv)
  | 8 => fun v w => ∃ g, v = .slice (some ⟨g, 0, none⟩) 0 0 ∧ B ≤ g ∧ w.heap[g]? = some (.cells #[] 9 (0, 0))
  | 9 => fun v _ => v = .pointer (some ⟨H, 2, none⟩)
  | 10 => fun v _ => v = .slice x.Am d.mail.length x.cm
  | 11 => fun v w => w.ownsRow B 9 1 v d.mail.length (d.mail.map sv)
  | 12 => fun v w => ∃ g, v = .slice (some ⟨g, 0, none⟩) 0 0 ∧ B ≤ g ∧ w.heap[g]? = some (.cells #[] 3 (0, 0))
  | 13 => fun v _ => v = .pointer (some ⟨H, 3, none⟩)
  | 14 => fun v _ => v = .slice x.An d.nums.length x.cn
  | 15 => fun v w => w.ownsRow B 3 1 v d.nums.length (d.nums.map zv)
  | 16 => fun v w => ∃ g, v = .slice (some ⟨g, 0, none⟩) 0 0 ∧ B ≤ g ∧ w.heap[g]? = some (.cells #[] 9 (0, 0))
  | 17 => fun v _ => v = .pointer (some ⟨H, 4, none⟩)
  | 18 => fun v _ => v = .slice x.At d.texts.length x.ct
  | 19 => fun v w => w.ownsRow B 9 1 v d.texts.length (d.texts.map sv)
  | 20 => fun v w => ∃ y : DV, v = y.val d ∧ OwnD w B y d ∧ Apart (y.vh d) (y.vm d) ∧ Apart (y.vh d) (y.vt d)
  | _ => fun _ _ => True
theorem heap_some_lt {w : World} {g : Nat} {o : Obj} (h : w.heap[g]? = some o) : g < w.heap.size := by
  rcases Nat.lt_or_ge g w.heap.size with h1 | h1
  · exact h1
  · rw [Array.getElem?_eq_none h1] at h; cases h
theorem factF_mono {H B : Nat} {x : DV} {d : Dt} {w w' : World} (hw : ∀ g, g < w.heap.size → w'.heap[g]? = w.heap[g]?) : ∀ j u, j < 21 → factF H B x d j u w → factF H B x d j u w'
  | 0, _, _, ⟨g, e, hg, hh⟩ => ⟨g, e, hg, (hw g (heap_some_lt hh)).trans hh⟩
  | 1, _, _, h => h
  | 2, _, _, h => h
  | 3, _, _, h => own_keep h fun g e => hw g (World.ownsRow.lt h g e).2
  | 4, _, _, ⟨g, e, hg, hh⟩ => ⟨g, e, hg, (hw g (heap_some_lt hh)).trans hh⟩
  | 5, _, _, h => h
  | 6, _, _, h => h
  | 7, _, _, h => own_keep h fun g e => hw g (World.ownsRow.lt h g e).2
  | 8, _, _, ⟨g, e, hg, hh⟩ => ⟨g, e, hg, (hw g (heap_some_lt hh)).trans hh⟩
  | 9, _, _, h => h
  | 10, _, _, h => h
  | 11, _, _, h => own_keep h fun g e => hw g (World.ownsRow.lt h g e).2
  | 12, _, _, ⟨g, e, hg, hh⟩ => ⟨g, e, hg, (hw g (heap_some_lt hh)).trans hh⟩
  | 13, _, _, h => h
  | 14, _, _, h => h
  | 15, _, _, h => own_keep h fun g e => hw g (World.ownsRow.lt h g e).2
  | 16, _, _, ⟨g, e, hg, hh⟩ => ⟨g, e, hg, (hw g (heap_some_lt hh)).trans hh⟩
  | 17, _, _, h => h
  | 18, _, _, h => h
  | 19, _, _, h => own_keep h fun g e => hw g (World.ownsRow.lt h g e).2
  | 20, _, _, ⟨y, e, h, h1, h2⟩ => ⟨y, e, h.keep hw, h1, h2⟩
  | n + 21, _, h, _ => absurd h (by omega)
def isApp (i : Nat) : Bool := decide (i % 4 = 3)
def ownAp (i j : Nat) (u v : Value) : Prop := isApp i = true → isApp j = true → Apart u v
theorem factF_lt {H B : Nat} {x : DV} {d : Dt} {w : World} : ∀ j u, j < 21 → isApp j = true → factF H B x d j u w → ∀ g, u.ownBlock = some g → g < w.heap.size
  | 0, _, _, h, _, _, _ => by cases h
  | 1, _, _, h, _, _, _ => by cases h
  | 2, _, _, h, _, _, _ => by cases h
  | 3, _, _, _, h, g, e => (World.ownsRow.lt h g e).2
  | 4, _, _, h, _, _, _ => by cases h
  | 5, _, _, h, _, _, _ => by cases h
  | 6, _, _, h, _, _, _ => by cases h
  | 7, _, _, _, h, g, e => (World.ownsRow.lt h g e).2
  | 8, _, _, h, _, _, _ => by cases h
  | 9, _, _, h, _, _, _ => by cases h
  | 10, _, _, h, _, _, _ => by cases h
  | 11, _, _, _, h, g, e => (World.ownsRow.lt h g e).2
  | 12, _, _, h, _, _, _ => by cases h
  | 13, _, _, h, _, _, _ => by cases h
  | 14, _, _, h, _, _, _ => by cases h
  | 15, _, _, _, h, g, e => (World.ownsRow.lt h g e).2
  | 16, _, _, h, _, _, _ => by cases h
  | 17, _, _, h, _, _, _ => by cases h
  | 18, _, _, h, _, _, _ => by cases h
  | 19, _, _, _, h, g, e => (World.ownsRow.lt h g e).2
  | 20, _, _, h, _, _, _ => by cases h
  | n + 21, _, h, _, _, _, _ => absurd h (by omega)

theorem Apart.symm {u v : Value} (h : Apart u v) : Apart v u := by
  intro g k n m c c' e1 e2 h1 h2 e
  exact h k g m n c' c e2 e1 h2 h1 e.symm
theorem apart_new {H B : Nat} {x : DV} {d : Dt} {w w' : World} {i m : Nat} {v : Value} {t : TypeId} {xs : List Value} (ho : w'.ownsRow B t 1 v m xs) (hn : 0 < m → v.ownBlock = some w.heap.size) :
    ∀ j u, j < 21 → factF H B x d j u w → ownAp i j v u ∧ ownAp j i u v := by
  intro j u hj hF
  have h : isApp j = true → Apart v u := fun hj2 g k n m2 c c' e1 e2 h1 h2 e => by
    have hk := factF_lt j u hj hj2 hF k (by rw [e2]; rfl)
    obtain ⟨A, c2, e3, _, _⟩ := own_form ho
    rw [e1] at e3
    injection e3 with _ e4 _
    have hb := hn (by omega)
    rw [e1] at hb
    simp only [Value.ownBlock, Option.some.injEq] at hb
    omega
  exact ⟨fun _ hj2 => h hj2, fun hj2 _ => (h hj2).symm⟩
theorem apart_not {i j : Nat} {v u : Value} (h : isApp i = false) : ownAp i j v u ∧ ownAp j i u v := ⟨fun h1 => (by rw [h] at h1; cases h1), fun _ h1 => (by rw [h] at h1; cases h1)⟩

structure OwnS (W : World) (B : Nat) (w : World) : Prop where
  below : Below B W w
  size : B ≤ w.heap.size
theorem OwnS.more {W w w' : World} {B : Nat} (h : OwnS W B w) (hb : Below w.heap.size w w') : OwnS W B w' := ⟨h.below.trans (hb.mono h.size), Nat.le_trans h.size hb.size⟩

/-- What the call leaves: data that shares nothing. -/
def Owns (w : World) (d : Dt) (e : Ending) (w' : World) : Prop :=
  ∃ y : DV, e = .returned (y.val d) ∧ OwnD w' w.heap.size y d ∧ Apart (y.vh d) (y.vm d) ∧ Apart (y.vh d) (y.vt d) ∧ Below w.heap.size w w'

/-- Few parts, whatever their lengths. -/
structure FewD (d : Dt) : Prop where
  nh : d.host.length ≤ 300
  nm : d.mail.length ≤ 300
  nt : d.texts.length ≤ 200
  nn : d.nums.length ≤ 200
  nb : d.bytes.length ≤ 200000
theorem LightD.few {d : Dt} (h : LightD d) : FewD d := ⟨h.nh, h.nm, h.nt, h.nn, Nat.le_trans h.nb (by omega)⟩

set_option maxRecDepth 20000 in
set_option maxHeartbeats 1000000 in
theorem ownData_few (x : DV) (d : Dt) (w : World) (h : DataAt w w.heap.size x d) (hl : FewD d) :
    Calls Tryz.prog 34 #[x.val d] w (Owns w d) := by
  obtain ⟨iu, hiu, hzu, hsu, hbu⟩ := info_parts u8_info
  obtain ⟨is, his, hzs, hss, hbs⟩ := info_parts str_info
  obtain ⟨ii, hii, hzi, hsi, hbi⟩ := info_parts zint_info
  obtain ⟨hnh, hnm, hnt, hnn, hnb⟩ := hl
  go_enter Tryz.func34, Tryz.ntmps34
  go_wp2
  rename_i hret
  obtain ⟨W, hW⟩ : ∃ W, W = (w.alloc (.cells #[x.vb d, x.vh d, x.vm d, x.vn d, x.vt d] 40)).alloc (.cells #[.slice none 0 0, .slice none 0 0, .slice none 0 0, .slice none 0 0, .slice none 0 0] 40) := ⟨_, rfl⟩
  rw [← hW]
  have hw0 : Whole W w.heap.size 40 [x.vb d, x.vh d, x.vm d, x.vn d, x.vt d] := by
    rw [hW]
    exact (Whole.made w [x.vb d, x.vh d, x.vm d, x.vn d, x.vt d] _).alloc _
  have hw1 : Whole W (w.heap.size + 1) 40 [.slice none 0 0, .slice none 0 0, .slice none 0 0, .slice none 0 0, .slice none 0 0] := by
    rw [hW]
    have := Whole.made (w.alloc (.cells #[x.vb d, x.vh d, x.vm d, x.vn d, x.vt d] 40)) [.slice none 0 0, .slice none 0 0, .slice none 0 0, .slice none 0 0, .slice none 0 0] 40
    simpa using this
  have hbW : Below w.heap.size w W := by
    rw [hW]
    exact ((Below.refl _ _).alloc (Nat.le_refl _) _).alloc (by simp) _
  have hsW : W.heap.size = w.heap.size + 2 := by rw [hW]; simp
  have hdW : DataAt W w.heap.size x d := h.below hbW
  clear hW
  refine wp_region_facts 3 21 (OwnS W (w.heap.size + 2)) (factF w.heap.size (w.heap.size + 2) x d) ownAp (by kernel_rfl) rfl (by kernel_rfl) (by kernel_rfl) (by kernel_rfl) (by kernel_rfl) (by simp) (by kernel_rfl)
    ⟨(Below.refl _ W).drew, by simp [hsW]⟩ ?step ?tail
  case step =>
    intro i o hi ho l a v hF hdep K hK
    have hS := hF.S
    have h1 : a.tmps[1]? = some (.pointer (some ⟨w.heap.size, 0, none⟩)) := hF.low 1 (by omega)
    have hcell : ∀ k, v.cell? ⟨w.heap.size, k, none⟩ = [x.vb d, x.vh d, x.vm d, x.vn d, x.vt d][k]? := (hw0.below hS.below (by omega)).cell
    have hdv : DataAt v w.heap.size x d := hdW.below (hS.below.mono (by omega))
    have hal : ∀ o, Below v.heap.size v (v.alloc o) := fun o => (Below.refl _ v).alloc (Nat.le_refl _) o
    match i, hi, ho, hK with
    | 0, _, ho, hK =>
      obtain rfl := Option.some.inj ho
      exact step_build _ 29 5 iu rfl Tryz.underlying29 hiu (hK _ _ ⟨v.heap.size, rfl, hS.size, heap_alloc_new v _⟩ (hS.more (hal _)) (factF_mono fun g hg => (hal _).block g hg) fun _ _ _ _ => apart_not rfl)
    | 1, _, ho, hK =>
      obtain rfl := Option.some.inj ho
      exact step_field _ 0 w.heap.size (by omega) rfl h1 (hK _ _ rfl hS (fun _ _ _ h => h) fun _ _ _ _ => apart_not rfl)
    | 2, _, ho, hK =>
      obtain rfl := Option.some.inj ho
      obtain ⟨u, hu, hFu⟩ := hF.facts 1 (by omega) (hdep ⟨1, .data⟩ (by simp) rfl)
      obtain rfl : u = .pointer (some ⟨w.heap.size, 0, none⟩) := hFu
      exact step_load _ 29 5 4 ⟨w.heap.size, 0, none⟩ _ rfl Tryz.underlying29 hu (hcell 0) (hK _ _ rfl hS (fun _ _ _ h => h) fun _ _ _ _ => apart_not rfl)
    | 3, _, ho, hK =>
      obtain rfl := Option.some.inj ho
      obtain ⟨u, hu, hFu⟩ := hF.facts 0 (by omega) (hdep ⟨0, .data⟩ (by simp) rfl)
      obtain ⟨y, hy, hFy⟩ := hF.facts 2 (by omega) (hdep ⟨2, .data⟩ (by simp) rfl)
      obtain rfl : y = .slice x.Ab d.bytes.length x.cb := hFy
      exact step_append _ 3 5 (w.heap.size + 2) 29 5 iu _ 1 rfl Tryz.underlying29 hiu hzu hsu hbu rfl u hu hFu x.Ab d.bytes.length x.cb w.heap.size (d.bytes.map bc) hy (by simp) hdv.b (bc_one _)
        (by unfold maxLen; omega) (by omega) hS.size fun v' w' h1 h2 h3 => hK _ _ h1 (hS.more h2) (factF_mono fun g hg => h2.block g hg) (apart_new h1 h3)
    | 4, _, ho, hK =>
      obtain rfl := Option.some.inj ho
      exact step_build _ 37 9 is rfl Tryz.underlying37 his (hK _ _ ⟨v.heap.size, rfl, hS.size, heap_alloc_new v _⟩ (hS.more (hal _)) (factF_mono fun g hg => (hal _).block g hg) fun _ _ _ _ => apart_not rfl)
    | 5, _, ho, hK =>
      obtain rfl := Option.some.inj ho
      exact step_field _ 1 w.heap.size (by omega) rfl h1 (hK _ _ rfl hS (fun _ _ _ h => h) fun _ _ _ _ => apart_not rfl)
    | 6, _, ho, hK =>
      obtain rfl := Option.some.inj ho
      obtain ⟨u, hu, hFu⟩ := hF.facts 5 (by omega) (hdep ⟨5, .data⟩ (by simp) rfl)
      obtain rfl : u = .pointer (some ⟨w.heap.size, 1, none⟩) := hFu
      exact step_load _ 37 9 8 ⟨w.heap.size, 1, none⟩ _ rfl Tryz.underlying37 hu (hcell 1) (hK _ _ rfl hS (fun _ _ _ h => h) fun _ _ _ _ => apart_not rfl)
    | 7, _, ho, hK =>
      obtain rfl := Option.some.inj ho
      obtain ⟨u, hu, hFu⟩ := hF.facts 4 (by omega) (hdep ⟨4, .data⟩ (by simp) rfl)
      obtain ⟨y, hy, hFy⟩ := hF.facts 6 (by omega) (hdep ⟨6, .data⟩ (by simp) rfl)
      obtain rfl : y = .slice x.Ah d.host.length x.ch := hFy
      exact step_append _ 7 9 (w.heap.size + 2) 37 9 is _ 16 rfl Tryz.underlying37 his hzs hss hbs rfl u hu hFu x.Ah d.host.length x.ch w.heap.size (d.host.map sv) hy (by simp) hdv.h (sv_one _)
        (by unfold maxLen; omega) (by omega) hS.size fun v' w' h1 h2 h3 => hK _ _ h1 (hS.more h2) (factF_mono fun g hg => h2.block g hg) (apart_new h1 h3)
    | 8, _, ho, hK =>
      obtain rfl := Option.some.inj ho
      exact step_build _ 37 9 is rfl Tryz.underlying37 his (hK _ _ ⟨v.heap.size, rfl, hS.size, heap_alloc_new v _⟩ (hS.more (hal _)) (factF_mono fun g hg => (hal _).block g hg) fun _ _ _ _ => apart_not rfl)
    | 9, _, ho, hK =>
      obtain rfl := Option.some.inj ho
      exact step_field _ 2 w.heap.size (by omega) rfl h1 (hK _ _ rfl hS (fun _ _ _ h => h) fun _ _ _ _ => apart_not rfl)
    | 10, _, ho, hK =>
      obtain rfl := Option.some.inj ho
      obtain ⟨u, hu, hFu⟩ := hF.facts 9 (by omega) (hdep ⟨9, .data⟩ (by simp) rfl)
      obtain rfl : u = .pointer (some ⟨w.heap.size, 2, none⟩) := hFu
      exact step_load _ 37 9 12 ⟨w.heap.size, 2, none⟩ _ rfl Tryz.underlying37 hu (hcell 2) (hK _ _ rfl hS (fun _ _ _ h => h) fun _ _ _ _ => apart_not rfl)
    | 11, _, ho, hK =>
      obtain rfl := Option.some.inj ho
      obtain ⟨u, hu, hFu⟩ := hF.facts 8 (by omega) (hdep ⟨8, .data⟩ (by simp) rfl)
      obtain ⟨y, hy, hFy⟩ := hF.facts 10 (by omega) (hdep ⟨10, .data⟩ (by simp) rfl)
      obtain rfl : y = .slice x.Am d.mail.length x.cm := hFy
      exact step_append _ 11 13 (w.heap.size + 2) 37 9 is _ 16 rfl Tryz.underlying37 his hzs hss hbs rfl u hu hFu x.Am d.mail.length x.cm w.heap.size (d.mail.map sv) hy (by simp) hdv.m (sv_one _)
        (by unfold maxLen; omega) (by omega) hS.size fun v' w' h1 h2 h3 => hK _ _ h1 (hS.more h2) (factF_mono fun g hg => h2.block g hg) (apart_new h1 h3)
    | 12, _, ho, hK =>
      obtain rfl := Option.some.inj ho
      exact step_build _ 38 3 ii rfl Tryz.underlying38 hii (hK _ _ ⟨v.heap.size, rfl, hS.size, heap_alloc_new v _⟩ (hS.more (hal _)) (factF_mono fun g hg => (hal _).block g hg) fun _ _ _ _ => apart_not rfl)
    | 13, _, ho, hK =>
      obtain rfl := Option.some.inj ho
      exact step_field _ 3 w.heap.size (by omega) rfl h1 (hK _ _ rfl hS (fun _ _ _ h => h) fun _ _ _ _ => apart_not rfl)
    | 14, _, ho, hK =>
      obtain rfl := Option.some.inj ho
      obtain ⟨u, hu, hFu⟩ := hF.facts 13 (by omega) (hdep ⟨13, .data⟩ (by simp) rfl)
      obtain rfl : u = .pointer (some ⟨w.heap.size, 3, none⟩) := hFu
      exact step_load _ 38 3 16 ⟨w.heap.size, 3, none⟩ _ rfl Tryz.underlying38 hu (hcell 3) (hK _ _ rfl hS (fun _ _ _ h => h) fun _ _ _ _ => apart_not rfl)
    | 15, _, ho, hK =>
      obtain rfl := Option.some.inj ho
      obtain ⟨u, hu, hFu⟩ := hF.facts 12 (by omega) (hdep ⟨12, .data⟩ (by simp) rfl)
      obtain ⟨y, hy, hFy⟩ := hF.facts 14 (by omega) (hdep ⟨14, .data⟩ (by simp) rfl)
      obtain rfl : y = .slice x.An d.nums.length x.cn := hFy
      exact step_append _ 15 17 (w.heap.size + 2) 38 3 ii _ 8 rfl Tryz.underlying38 hii hzi hsi hbi rfl u hu hFu x.An d.nums.length x.cn w.heap.size (d.nums.map zv) hy (by simp) hdv.n (zv_one _)
        (by unfold maxLen; omega) (by omega) hS.size fun v' w' h1 h2 h3 => hK _ _ h1 (hS.more h2) (factF_mono fun g hg => h2.block g hg) (apart_new h1 h3)
    | 16, _, ho, hK =>
      obtain rfl := Option.some.inj ho
      exact step_build _ 37 9 is rfl Tryz.underlying37 his (hK _ _ ⟨v.heap.size, rfl, hS.size, heap_alloc_new v _⟩ (hS.more (hal _)) (factF_mono fun g hg => (hal _).block g hg) fun _ _ _ _ => apart_not rfl)
    | 17, _, ho, hK =>
      obtain rfl := Option.some.inj ho
      exact step_field _ 4 w.heap.size (by omega) rfl h1 (hK _ _ rfl hS (fun _ _ _ h => h) fun _ _ _ _ => apart_not rfl)
    | 18, _, ho, hK =>
      obtain rfl := Option.some.inj ho
      obtain ⟨u, hu, hFu⟩ := hF.facts 17 (by omega) (hdep ⟨17, .data⟩ (by simp) rfl)
      obtain rfl : u = .pointer (some ⟨w.heap.size, 4, none⟩) := hFu
      exact step_load _ 37 9 20 ⟨w.heap.size, 4, none⟩ _ rfl Tryz.underlying37 hu (hcell 4) (hK _ _ rfl hS (fun _ _ _ h => h) fun _ _ _ _ => apart_not rfl)
    | 19, _, ho, hK =>
      obtain rfl := Option.some.inj ho
      obtain ⟨u, hu, hFu⟩ := hF.facts 16 (by omega) (hdep ⟨16, .data⟩ (by simp) rfl)
      obtain ⟨y, hy, hFy⟩ := hF.facts 18 (by omega) (hdep ⟨18, .data⟩ (by simp) rfl)
      obtain rfl : y = .slice x.At d.texts.length x.ct := hFy
      exact step_append _ 19 21 (w.heap.size + 2) 37 9 is _ 16 rfl Tryz.underlying37 his hzs hss hbs rfl u hu hFu x.At d.texts.length x.ct w.heap.size (d.texts.map sv) hy (by simp) hdv.t (sv_one _)
        (by unfold maxLen; omega) (by omega) hS.size fun v' w' h1 h2 h3 => hK _ _ h1 (hS.more h2) (factF_mono fun g hg => h2.block g hg) (apart_new h1 h3)
    | 20, _, ho, hK =>
      obtain rfl := Option.some.inj ho
      have hl (j : Nat) (h : (⟨j, .data⟩ : Edge) ∈ #[(⟨3, .data⟩ : Edge), ⟨7, .data⟩, ⟨11, .data⟩, ⟨15, .data⟩, ⟨19, .data⟩]) := hdep ⟨j, .data⟩ h rfl
      obtain ⟨v0, g0, f0⟩ := hF.facts 3 (by omega) (hl 3 (by simp))
      obtain ⟨v1, g1, f1⟩ := hF.facts 7 (by omega) (hl 7 (by simp))
      obtain ⟨v2, g2, f2⟩ := hF.facts 11 (by omega) (hl 11 (by simp))
      obtain ⟨v3, g3, f3⟩ := hF.facts 15 (by omega) (hl 15 (by simp))
      obtain ⟨v4, g4, f4⟩ := hF.facts 19 (by omega) (hl 19 (by simp))
      have a1 := hF.dist 7 11 (by omega) (by omega) (by omega) (hl 7 (by simp)) (hl 11 (by simp)) v1 v2 g1 g2 rfl rfl
      have a2 := hF.dist 7 19 (by omega) (by omega) (by omega) (hl 7 (by simp)) (hl 19 (by simp)) v1 v4 g1 g4 rfl rfl
      obtain ⟨A0, c0, rfl, _, _⟩ := own_form f0
      obtain ⟨A1, c1, rfl, _, _⟩ := own_form f1
      obtain ⟨A2, c2, rfl, _, _⟩ := own_form f2
      obtain ⟨A3, c3, rfl, _, _⟩ := own_form f3
      obtain ⟨A4, c4, rfl, _, _⟩ := own_form f4
      have hk := hK (DV.val ⟨A0, A1, A2, A3, A4, c0, c1, c2, c3, c4⟩ d) v ⟨⟨A0, A1, A2, A3, A4, c0, c1, c2, c3, c4⟩, rfl, ⟨f0, f1, f2, f3, f4⟩, a1, a2⟩ hS (fun _ _ _ h => h) fun _ _ _ _ => apart_not rfl
      unfold Oper.wp
      simp [execOp, go_sem, g0, g1, g2, g3, g4]
      exact hk
    | n + 21, hi, _, _ => exact absurd hi (by omega)
  case tail =>
    intro l a v o ho hF hl
    obtain rfl := Option.some.inj ho
    have hS := hF.S
    have h2 : a.tmps[2]? = some (.pointer (some ⟨w.heap.size + 1, 0, none⟩)) := hF.low 2 (by omega)
    obtain ⟨u, hu, y, rfl, hO, a1, a2⟩ := hF.facts 20 (by omega) (hl 20 (by omega))
    have hw := hw1.below hS.below (by omega)
    refine wpList_plain rfl fun K2 hK2 => step_store _ (w.heap.size + 1) y d _ _ _ _ _ rfl h2 hu hw ?_
    refine hK2 _ _ ?_
    obtain ⟨V, hV⟩ : ∃ V, V = ((((v.setCell ⟨w.heap.size + 1, 0, none⟩ (y.vb d)).setCell ⟨w.heap.size + 1, 1, none⟩ (y.vh d)).setCell ⟨w.heap.size + 1, 2, none⟩ (y.vm d)).setCell ⟨w.heap.size + 1, 3, none⟩ (y.vn d)).setCell ⟨w.heap.size + 1, 4, none⟩ (y.vt d) := ⟨_, rfl⟩
    rw [← hV]
    have hw5 : Whole V (w.heap.size + 1) 40 [y.vb d, y.vh d, y.vm d, y.vn d, y.vt d] := by
      rw [hV]
      exact ((((hw.set_ 0 _).set_ 1 _).set_ 2 _).set_ 3 _).set_ 4 _
    have hb5 : Below (w.heap.size + 1) v V := by
      rw [hV]
      have hs (W : World) (i : Nat) (u : Value) : Below (w.heap.size + 1) W (W.setCell ⟨w.heap.size + 1, i, none⟩ u) := (Below.refl _ W).setCell (p := ⟨w.heap.size + 1, i, none⟩) (Nat.le_refl _) u
      exact ((((hs _ 0 _).trans (hs _ 1 _)).trans (hs _ 2 _)).trans (hs _ 3 _)).trans (hs _ 4 _)
    have hf5 : ∀ g, g ≠ w.heap.size + 1 → V.heap[g]? = v.heap[g]? := fun g hg => by
      rw [hV]
      have hs (W : World) (i : Nat) (u : Value) : (W.setCell ⟨w.heap.size + 1, i, none⟩ u).heap[g]? = W.heap[g]? := Below.heap_setCell W ⟨w.heap.size + 1, i, none⟩ u g hg
      rw [hs, hs, hs, hs, hs]
    have hO5 : OwnD V (w.heap.size + 2) y d :=
      ⟨own_keep hO.b fun g e => hf5 g (by have := (hO.b.lt g e).1; omega), own_keep hO.h fun g e => hf5 g (by have := (hO.h.lt g e).1; omega), own_keep hO.m fun g e => hf5 g (by have := (hO.m.lt g e).1; omega), own_keep hO.n fun g e => hf5 g (by have := (hO.n.lt g e).1; omega), own_keep hO.t fun g e => hf5 g (by have := (hO.t.lt g e).1; omega)⟩
    have hO6 : OwnD V w.heap.size y d := ⟨own_mono hO5.b (by omega), own_mono hO5.h (by omega), own_mono hO5.m (by omega), own_mono hO5.n (by omega), own_mono hO5.t (by omega)⟩
    have hB : Below w.heap.size w V := (hbW.trans (hS.below.mono (by omega))).trans (hb5.mono (by omega))
    have q0 : V.cell? ⟨w.heap.size + 1, 0, none⟩ = some (y.vb d) := hw5.cell 0
    have q1 : V.cell? ⟨w.heap.size + 1, 1, none⟩ = some (y.vh d) := hw5.cell 1
    have q2 : V.cell? ⟨w.heap.size + 1, 2, none⟩ = some (y.vm d) := hw5.cell 2
    have q3 : V.cell? ⟨w.heap.size + 1, 3, none⟩ = some (y.vn d) := hw5.cell 3
    have q4 : V.cell? ⟨w.heap.size + 1, 4, none⟩ = some (y.vt d) := hw5.cell 4
    clear hV hw5 hb5 hf5 hO5 hw hw0 hw1 hO
    refine hret _ _ (wp_ret ?_)
    refine ⟨hF.defers, y.val d, ?_, y, rfl, hO6, a1, a2, hB⟩
    clear hF hl
    simp [results, Tryz.results34, go_sem, Act.put, h2, q0, q1, q2, q3, q4]

theorem ownData_any (x : DV) (d : Dt) (w : World) (h : DataAt w w.heap.size x d) (hl : LightD d) :
    Calls Tryz.prog 34 #[x.val d] w (Owns w d) := ownData_few x d w h hl.few

end Go.Proofs.YtjkjhpaeckkpjaaGreat

namespace Go.Proofs.YtjkjhpaeckkpjaaGreat
open Go.RowKit

/-- Has a record few parts? -/
def lightR (r : Rt) : Bool := decide (r.name.length ≤ 200) && (decide (r.data.host.length ≤ 200) && (decide (r.data.mail.length ≤ 200) && (decide (r.data.texts.length ≤ 100) && (decide (r.data.nums.length ≤ 100) && (decide (r.data.bytes.length ≤ 66000))))))
def lightL (rs : List Rt) : Bool := rs.all lightR && decide (rs.length ≤ 60)
structure LightR (r : Rt) : Prop where
  l0 : r.name.length ≤ 200
  l1 : r.data.host.length ≤ 200
  l2 : r.data.mail.length ≤ 200
  l3 : r.data.texts.length ≤ 100
  l4 : r.data.nums.length ≤ 100
  l5 : r.data.bytes.length ≤ 200000
theorem lightR_iff {r : Rt} (h : lightR r = true) : LightR r := by
  unfold lightR at h
  simp only [Bool.and_eq_true, decide_eq_true_eq] at h
  obtain ⟨h0, h1, h2, h3, h4, h5⟩ := h
  exact ⟨h0, h1, h2, h3, h4, by omega⟩
theorem LightR.few {r : Rt} (h : LightR r) : FewD r.data := ⟨Nat.le_trans h.l1 (by omega), Nat.le_trans h.l2 (by omega), Nat.le_trans h.l3 (by omega), Nat.le_trans h.l4 (by omega), Nat.le_trans h.l5 (by omega)⟩
theorem lightL_each {rs : List Rt} (h : lightL rs = true) : (∀ r ∈ rs, LightR r) ∧ rs.length ≤ 60 := by
  unfold lightL at h
  rw [Bool.and_eq_true, decide_eq_true_eq, List.all_eq_true] at h
  exact ⟨fun r hr => lightR_iff (h.1 r hr), h.2⟩
theorem recs_at {ps : List (RV × Rt)} {k : Nat} (hk : k < ps.length) : recs (ps.take (k + 1)) = recs (ps.take k) ++ [(ps[k]).2] := by
  rw [List.take_succ_eq_append_getElem hk, recs_append]
  rfl
def LightRelR (w : World) (ps : List (RV × Rt)) (i : Value) (wr : World) : Prop := ∃ k : Nat, k ≤ ps.length ∧ i = .int .i64 k ∧ (recs (ps.take k)).all lightR = true ∧ Below w.heap.size w wr

end Go.Proofs.YtjkjhpaeckkpjaaGreat

namespace Go.Proofs.YtjkjhpaeckkpjaaGreat
open Go.RowKit

theorem rr_info : (Tryz.prog.info? 42).map (fun i => (i.zero, i.size, i.bytes)) = some (some (.agg #[.slice none 0 0, .int .i64 0, .int .i64 0, .int .i64 0, .slice none 0 0, .slice none 0 0, .slice none 0 0, .slice none 0 0, .slice none 0 0]), 9, 168) := by kernel_rfl
theorem own_apartR {w : World} {b1 b2 : Nat} {e1 e2 : TypeId} {s1 s2 n1 n2 : Nat} {v1 v2 : Value} {x1 x2 : List Value} (h1 : w.ownsRow b1 e1 s1 v1 n1 x1) (h2 : w.ownsRow b2 e2 s2 v2 n2 x2) (he : e1 ≠ e2) {j : Nat} (hj : v1.ownBlock = some j) : v2.ownBlock ≠ some j := by
  intro hk
  rcases h1.2 with ⟨rfl, _⟩ | ⟨g1, _, c1, rfl, _, hh1, _⟩
  · cases hj
  rcases h2.2 with ⟨rfl, _⟩ | ⟨g2, _, c2, rfl, _, hh2, _⟩
  · cases hk
  simp only [Value.ownBlock, Option.some.injEq] at hj hk
  subst hj
  subst hk
  rw [hh1] at hh2
  injection hh2 with hh2
  injection hh2 with _ hh2 _
  exact he hh2
theorem cellsR_one1 (p : RV × Rt) : ∀ u ∈ cellsR p, u.oneCell' = true := fun u hu => cellsR_one [p] u (by simpa using hu)
/-- A record whose slices are the call's own. -/
structure OwnR (w : World) (B : Nat) (x : RV) (r : Rt) : Prop where
  n : w.ownsRow B 9 1 (x.vn r) r.name.length (r.name.map sv)
  d : OwnD w B x.d r.data
theorem OwnD.monoB {w : World} {B B' : Nat} {x : DV} {d : Dt} (h : OwnD w B x d) (hb : B' ≤ B) : OwnD w B' x d := ⟨own_mono h.b hb, own_mono h.h hb, own_mono h.m hb, own_mono h.n hb, own_mono h.t hb⟩
theorem OwnR.at_ {w : World} {B : Nat} {x : RV} {r : Rt} (h : OwnR w B x r) : RAt w w.heap.size x r := ⟨Row.of_own h.n, own_cap h.n, h.d.at_⟩
theorem OwnR.keep {w w' : World} {B : Nat} {x : RV} {r : Rt} (h : OwnR w B x r) (hk : ∀ g, g < w.heap.size → w'.heap[g]? = w.heap[g]?) : OwnR w' B x r :=
  ⟨own_keep h.n fun g e => hk g (h.n.lt g e).2, h.d.keep hk⟩
theorem OwnR.keepB {w w' : World} {B : Nat} {x : RV} {r : Rt} (h : OwnR w B x r) (hk : ∀ g, B ≤ g → g < w.heap.size → w'.heap[g]? = w.heap[g]?) : OwnR w' B x r :=
  ⟨own_keep h.n fun g e => hk g (h.n.lt g e).1 (h.n.lt g e).2, own_keep h.d.b fun g e => hk g (h.d.b.lt g e).1 (h.d.b.lt g e).2, own_keep h.d.h fun g e => hk g (h.d.h.lt g e).1 (h.d.h.lt g e).2, own_keep h.d.m fun g e => hk g (h.d.m.lt g e).1 (h.d.m.lt g e).2,
    own_keep h.d.n fun g e => hk g (h.d.n.lt g e).1 (h.d.n.lt g e).2, own_keep h.d.t fun g e => hk g (h.d.t.lt g e).1 (h.d.t.lt g e).2⟩
theorem OwnR.grown {w w' : World} {B : Nat} {x : RV} {r : Rt} (h : OwnR w B x r) {v : Value} {n : Nat} {xs : List Value} (hv : w.ownsRow B 42 9 v n xs) (hg : w.grownBy w' v.ownBlock) : OwnR w' B x r := by
  have hk : ∀ {e : TypeId} {s m : Nat} {u : Value} {ys : List Value}, w.ownsRow B e s u m ys → e ≠ 42 → ∀ g, u.ownBlock = some g → w'.heap[g]? = w.heap[g]? := fun ho hne g hj =>
    hg.block g (ho.lt g hj).2 (Ne.symm (own_apartR ho hv hne hj))
  exact ⟨own_keep h.n (hk h.n (by decide)), own_keep h.d.b (hk h.d.b (by decide)), own_keep h.d.h (hk h.d.h (by decide)), own_keep h.d.m (hk h.d.m (by decide)), own_keep h.d.n (hk h.d.n (by decide)), own_keep h.d.t (hk h.d.t (by decide))⟩

theorem step_fieldR {a : Act} {w : World} {K : Act → World → Prop} {Q : Exit → Act → World → Prop} (o : Oper) (H k : Nat) (ho : o.op = .fieldAddr 42 (.tmp k) 4) (h1 : a.tmps[k]? = some (.pointer (some ⟨H, 0, none⟩)))
    (h : K (a.put o.dst (.pointer (some ⟨H, 4, none⟩))) w) : o.wp Tryz.prog a w K Q := by
  unfold Oper.wp
  simp [execOp, ho, h1, go_sem]
  exact h
/-- The data of a record is stored; of the new world this much is told. -/
theorem step_storeR {a : Act} {w : World} {K : Act → World → Prop} {Q : Exit → Act → World → Prop} (o : Oper) (g k1 k2 : Nat) (y : DV) (d : Dt) (u0 u1 u2 u3 u4 u5 u6 u7 u8 : Value) (ho : o.op = .store 40 (.tmp k1) (.tmp k2)) (h2 : a.tmps[k1]? = some (.pointer (some ⟨g, 4, none⟩)))
    (hu : a.tmps[k2]? = some (y.val d)) (hw : Whole w g 42 [u0, u1, u2, u3, u4, u5, u6, u7, u8])
    (h : ∀ V, Whole V g 42 [u0, u1, u2, u3, y.vb d, y.vh d, y.vm d, y.vn d, y.vt d] → Below g w V → (∀ j, j ≠ g → V.heap[j]? = w.heap[j]?) → V.heap.size = w.heap.size → K (a.put o.dst undef) V) : o.wp Tryz.prog a w K Q := by
  have q4 : w.cell? ⟨g, 4, none⟩ = some u4 := hw.cell 4
  have q5 : w.cell? ⟨g, 5, none⟩ = some u5 := hw.cell 5
  have q6 : w.cell? ⟨g, 6, none⟩ = some u6 := hw.cell 6
  have q7 : w.cell? ⟨g, 7, none⟩ = some u7 := hw.cell 7
  have q8 : w.cell? ⟨g, 8, none⟩ = some u8 := hw.cell 8
  have z4 : w.frozen? ⟨g, 4, none⟩ = false := hw.frozen 4
  have z5 : w.frozen? ⟨g, 5, none⟩ = false := hw.frozen 5
  have z6 : w.frozen? ⟨g, 6, none⟩ = false := hw.frozen 6
  have z7 : w.frozen? ⟨g, 7, none⟩ = false := hw.frozen 7
  have z8 : w.frozen? ⟨g, 8, none⟩ = false := hw.frozen 8
  have hk := h (((((w.setCell ⟨g, 4, none⟩ (y.vb d)).setCell ⟨g, 5, none⟩ (y.vh d)).setCell ⟨g, 6, none⟩ (y.vm d)).setCell ⟨g, 7, none⟩ (y.vn d)).setCell ⟨g, 8, none⟩ (y.vt d))
    (((((hw.set_ 4 _).set_ 5 _).set_ 6 _).set_ 7 _).set_ 8 _)
    (by
      have hs (W : World) (i : Nat) (u : Value) : Below g W (W.setCell ⟨g, i, none⟩ u) := (Below.refl _ W).setCell (p := ⟨g, i, none⟩) (Nat.le_refl _) u
      exact ((((hs _ 4 _).trans (hs _ 5 _)).trans (hs _ 6 _)).trans (hs _ 7 _)).trans (hs _ 8 _))
    (fun j hj => by
      have hs (W : World) (i : Nat) (u : Value) : (W.setCell ⟨g, i, none⟩ u).heap[j]? = W.heap[j]? := Below.heap_setCell W ⟨g, i, none⟩ u j hj
      rw [hs, hs, hs, hs, hs])
    (by simp)
  unfold Oper.wp
  simp [execOp, ho, go_sem, h2, hu, q4, q5, q6, q7, q8, z4, z5, z6, z7, z8]
  exact hk
/-- Rows of records that a call has made. -/
structure RowsAt (w0 : World) (v : Value) (qs : List (RV × Rt)) (w : World) : Prop where
  row : w.ownsRow w0.heap.size 42 9 v qs.length (qs.flatMap cellsR)
  each : ∀ q ∈ qs, OwnR w w0.heap.size q.1 q.2
  below : Below w0.heap.size w0 w
  size : w0.heap.size ≤ w.heap.size
theorem RowsAt.step {w0 w w' : World} {v : Value} {qs : List (RV × Rt)} (h : RowsAt w0 v qs w) (hb : Below w.heap.size w w') : RowsAt w0 v qs w' :=
  ⟨own_keep h.row fun j hj => hb.block j (h.row.lt j hj).2, fun q hq => (h.each q hq).keep fun g hg => hb.block g hg, h.below.trans (hb.mono h.size), Nat.le_trans h.size hb.size⟩
theorem RowsAt.reads {w0 w : World} {A : Option Addr} {c : Nat} {qs : List (RV × Rt)} (h : RowsAt w0 (.slice A qs.length c) qs w) : RsAt w w.heap.size A qs :=
  ⟨Row.of_own h.row, fun q hq => (h.each q hq).at_⟩
theorem RowsAt.nil (w : World) : RowsAt w (.slice none 0 0) [] w := ⟨World.ownsRow_nil _ _ _ _, fun _ h => absurd h (List.not_mem_nil), Below.refl _ _, Nat.le_refl _⟩
theorem RowsAt.snoc {w0 w w' : World} {v v' : Value} {qs : List (RV × Rt)} (h : RowsAt w0 v qs w) {y : RV} {r : Rt} (hy : OwnR w w0.heap.size y r) (ho : w'.ownsRow w0.heap.size 42 9 v' (qs.length + 1) (qs.flatMap cellsR ++ cellsR (y, r)))
    (hg : w.grownBy w' v.ownBlock) : RowsAt w0 v' (qs ++ [(y, r)]) w' := by
  refine ⟨by rw [List.length_append, List.flatMap_append]; simpa using ho, fun q hq => ?_, own_below h.below (Nat.le_refl _) h.size h.row hg, Nat.le_trans h.size hg.size⟩
  rcases List.mem_append.1 hq with hq | hq
  · exact (h.each q hq).grown h.row hg
  · rw [List.mem_singleton.1 hq]
    exact hy.grown h.row hg

/-- What OwnRRs leaves: records of its own that read as those that were handed in. -/
def OwnRs (w : World) (rs : List Rt) (e : Ending) (w' : World) : Prop :=
  ∃ (A : Option Addr) (c : Nat) (qs : List (RV × Rt)), e = .returned (.slice A qs.length c) ∧ recs qs = rs ∧ RsAt w' w'.heap.size A qs ∧ Below w.heap.size w w'
def RowsOut (w : World) (rs : List Rt) (e : Ending) (w' : World) : Prop :=
  ∃ (A : Option Addr) (c : Nat) (qs : List (RV × Rt)), e = .returned (.slice A qs.length c) ∧ recs qs = rs ∧ RowsAt w (.slice A qs.length c) qs w'
def OwnRel (w : World) (ps : List (RV × Rt)) (v i : Value) (wr : World) : Prop :=
  ∃ (j : Nat) (qs : List (RV × Rt)), j ≤ ps.length ∧ i = .int .i64 j ∧ recs qs = recs (ps.take j) ∧ qs.length = j ∧ RowsAt w v qs wr

set_option maxRecDepth 20000 in
set_option maxHeartbeats 8000000 in
theorem ownRRs_rows (w : World) (A : Option Addr) (c : Nat) (ps : List (RV × Rt)) (hp : RsAt w w.heap.size A ps) (hr : ∀ p ∈ ps, LightR p.2) (hl : ps.length ≤ 700) :
    Calls Tryz.prog 20 #[.slice A ps.length c] w (RowsOut w (recs ps)) := by
  obtain ⟨i0, hi0, hz0, hz1, hz2⟩ := info_parts rr_info
  obtain ⟨s0, hs0, hx0, hx1, hx2⟩ := info_parts str_info
  have HP := Lib.hid hp
  have HR := Lib.hid hr
  clear hp hr
  go_enter Tryz.func20, Tryz.ntmps20
  go_wp2
  go_loopw [3, 4] (OwnRel w ps) (fun _ i _ => ps.length - (intOf i).toNat)
  case atStart => exact ⟨0, [], Nat.zero_le _, rfl, rfl, rfl, RowsAt.nil w⟩
  case round =>
    obtain ⟨j, qs, hj, rfl, hq, hqj, hs⟩ := hrel
    have HS := Lib.hid hs
    have HQ := Lib.hid hq
    have HJ := Lib.hid hqj
    obtain ⟨A1, c1, rfl, _, _⟩ := own_form hs.row
    have hqj1 : qs.length ≤ ps.length := by omega
    clear hs hq hqj
    by_cases hlt : j < ps.length
    · obtain ⟨b, off, rfl, hbH, hra, q0, q1, q2, q3, q4, q5, q6, q7, q8⟩ := (HP.out.below HS.out.below).at_ hlt
      have hri := HR.out _ (List.getElem_mem hlt)
      have HF := Lib.hid (recs_at hlt)
      revert hra q0 q1 q2 q3 q4 q5 q6 q7 q8 hri HF
      generalize ps[j] = p
      obtain ⟨x, r⟩ := p
      intro hra q0 q1 q2 q3 q4 q5 q6 q7 q8 hri HF
      dsimp only at *
      have HRI := Lib.hid hri
      have HRA := Lib.hid (hra.mono HS.out.size)
      have hln := hri.l0
      have hnew := (Below.refl wr.heap.size wr).alloc (Nat.le_refl _) (.cells #[.slice x.A r.name.length x.c, .int .i64 r.kind, .int .i64 r.cls, .int .i64 r.ttl, .slice x.d.Ab r.data.bytes.length x.d.cb, .slice x.d.Ah r.data.host.length x.d.ch, .slice x.d.Am r.data.mail.length x.d.cm, .slice x.d.An r.data.nums.length x.d.cn, .slice x.d.At r.data.texts.length x.d.ct] 42)
      have hnew2 : Below wr.heap.size wr ((wr.alloc (.cells #[.slice x.A r.name.length x.c, .int .i64 r.kind, .int .i64 r.cls, .int .i64 r.ttl, .slice x.d.Ab r.data.bytes.length x.d.cb, .slice x.d.Ah r.data.host.length x.d.ch, .slice x.d.Am r.data.mail.length x.d.cm, .slice x.d.An r.data.nums.length x.d.cn, .slice x.d.At r.data.texts.length x.d.ct] 42)).alloc (.cells #[] 9)) := hnew.alloc (by simp) _
      have HNR := Lib.hid ((hra.mono HS.out.size).below hnew2)
      have HN2 := Lib.hid hnew2
      have HWP := Lib.hid (show Whole ((wr.alloc (.cells #[.slice x.A r.name.length x.c, .int .i64 r.kind, .int .i64 r.cls, .int .i64 r.ttl, .slice x.d.Ab r.data.bytes.length x.d.cb, .slice x.d.Ah r.data.host.length x.d.ch, .slice x.d.Am r.data.mail.length x.d.cm, .slice x.d.An r.data.nums.length x.d.cn, .slice x.d.At r.data.texts.length x.d.ct] 42)).alloc (.cells #[] 9)) wr.heap.size 42 [.slice x.A r.name.length x.c, .int .i64 r.kind, .int .i64 r.cls, .int .i64 r.ttl, .slice x.d.Ab r.data.bytes.length x.d.cb, .slice x.d.Ah r.data.host.length x.d.ch, .slice x.d.Am r.data.mail.length x.d.cm, .slice x.d.An r.data.nums.length x.d.cn, .slice x.d.At r.data.texts.length x.d.ct] from (Whole.made wr [.slice x.A r.name.length x.c, .int .i64 r.kind, .int .i64 r.cls, .int .i64 r.ttl, .slice x.d.Ab r.data.bytes.length x.d.cb, .slice x.d.Ah r.data.host.length x.d.ch, .slice x.d.Am r.data.mail.length x.d.cm, .slice x.d.An r.data.nums.length x.d.cn, .slice x.d.At r.data.texts.length x.d.ct] 42).alloc _)
      have HL := Lib.hid (show ((wr.alloc (.cells #[.slice x.A r.name.length x.c, .int .i64 r.kind, .int .i64 r.cls, .int .i64 r.ttl, .slice x.d.Ab r.data.bytes.length x.d.cb, .slice x.d.Ah r.data.host.length x.d.ch, .slice x.d.Am r.data.mail.length x.d.cm, .slice x.d.An r.data.nums.length x.d.cn, .slice x.d.At r.data.texts.length x.d.ct] 42)).alloc (.cells #[] 9)).ownsRow (wr.heap.size + 1) 9 1 (.slice (some ⟨wr.heap.size + 1, 0, none⟩) 0 0) 0 [] by
        have h := own_lit (wr.alloc (.cells #[.slice x.A r.name.length x.c, .int .i64 r.kind, .int .i64 r.cls, .int .i64 r.ttl, .slice x.d.Ab r.data.bytes.length x.d.cb, .slice x.d.Ah r.data.host.length x.d.ch, .slice x.d.Am r.data.mail.length x.d.cm, .slice x.d.An r.data.nums.length x.d.cn, .slice x.d.At r.data.texts.length x.d.ct] 42)) 9 1
        rwa [show (wr.alloc (.cells #[.slice x.A r.name.length x.c, .int .i64 r.kind, .int .i64 r.cls, .int .i64 r.ttl, .slice x.d.Ab r.data.bytes.length x.d.cb, .slice x.d.Ah r.data.host.length x.d.ch, .slice x.d.Am r.data.mail.length x.d.cm, .slice x.d.An r.data.nums.length x.d.cn, .slice x.d.At r.data.texts.length x.d.ct] 42)).heap.size = wr.heap.size + 1 by simp] at h)
      clear hra hri hnew hnew2
      go_wp2_with (
        at_builtin
        refine wpList_append_row rfl (.tmp 16) (.tmp 18) _ rfl (wr.heap.size + 1) 9 s0 _ 1 16 Tryz.underlying37 hs0 hx0 hx1 hx2 rfl (by omega) (.slice (some ⟨wr.heap.size + 1, 0, none⟩) 0 0) 0 [] rfl
          HL.out x.A r.name.length x.c wr.heap.size (r.name.map sv) rfl (by rw [List.length_map, Nat.mul_one]) HNR.out.n (sv_one _) (by unfold maxLen; omega) (by omega) (by simp) ?_
        intro v2 w2 hown2 hg2
        simp only [Nat.zero_add, List.nil_append] at hown2
        obtain ⟨A2, c2, rfl, _, _⟩ := own_form hown2
        have HO2 := Lib.hid hown2
        have HW2 := Lib.hid (HWP.out.grown hg2 (by simp [Value.ownBlock]))
        have HB2 := Lib.hid (HN2.out.trans ((own_below (Below.refl (wr.heap.size + 1) _) (Nat.le_refl _) (by simp) HL.out hg2).mono (by omega)))
        have t0' : w2.cell? ⟨wr.heap.size, 0, none⟩ = some (.slice x.A r.name.length x.c) := HW2.out.cell 0
        have f0' : w2.frozen? ⟨wr.heap.size, 0, none⟩ = false := HW2.out.frozen 0
        have HW3 := Lib.hid (show Whole (w2.setCell ⟨wr.heap.size, 0, none⟩ (.slice A2 r.name.length c2)) wr.heap.size 42 [.slice A2 r.name.length c2, .int .i64 r.kind, .int .i64 r.cls, .int .i64 r.ttl, .slice x.d.Ab r.data.bytes.length x.d.cb, .slice x.d.Ah r.data.host.length x.d.ch, .slice x.d.Am r.data.mail.length x.d.cm, .slice x.d.An r.data.nums.length x.d.cn, .slice x.d.At r.data.texts.length x.d.ct] from HW2.out.set_ 0 _)
        have HB3 := Lib.hid (HB2.out.setCell (p := ⟨wr.heap.size, 0, none⟩) (Nat.le_refl _) (.slice A2 r.name.length c2))
        have t0 : (w2.setCell ⟨wr.heap.size, 0, none⟩ (.slice A2 r.name.length c2)).cell? ⟨wr.heap.size, 0, none⟩ = some (.slice A2 r.name.length c2) := Whole.cell (L := [.slice A2 r.name.length c2, .int .i64 r.kind, .int .i64 r.cls, .int .i64 r.ttl, .slice x.d.Ab r.data.bytes.length x.d.cb, .slice x.d.Ah r.data.host.length x.d.ch, .slice x.d.Am r.data.mail.length x.d.cm, .slice x.d.An r.data.nums.length x.d.cn, .slice x.d.At r.data.texts.length x.d.ct]) HW3.out 0
        have t1 : (w2.setCell ⟨wr.heap.size, 0, none⟩ (.slice A2 r.name.length c2)).cell? ⟨wr.heap.size, 1, none⟩ = some (.int .i64 r.kind) := Whole.cell (L := [.slice A2 r.name.length c2, .int .i64 r.kind, .int .i64 r.cls, .int .i64 r.ttl, .slice x.d.Ab r.data.bytes.length x.d.cb, .slice x.d.Ah r.data.host.length x.d.ch, .slice x.d.Am r.data.mail.length x.d.cm, .slice x.d.An r.data.nums.length x.d.cn, .slice x.d.At r.data.texts.length x.d.ct]) HW3.out 1
        have t2 : (w2.setCell ⟨wr.heap.size, 0, none⟩ (.slice A2 r.name.length c2)).cell? ⟨wr.heap.size, 2, none⟩ = some (.int .i64 r.cls) := Whole.cell (L := [.slice A2 r.name.length c2, .int .i64 r.kind, .int .i64 r.cls, .int .i64 r.ttl, .slice x.d.Ab r.data.bytes.length x.d.cb, .slice x.d.Ah r.data.host.length x.d.ch, .slice x.d.Am r.data.mail.length x.d.cm, .slice x.d.An r.data.nums.length x.d.cn, .slice x.d.At r.data.texts.length x.d.ct]) HW3.out 2
        have t3 : (w2.setCell ⟨wr.heap.size, 0, none⟩ (.slice A2 r.name.length c2)).cell? ⟨wr.heap.size, 3, none⟩ = some (.int .i64 r.ttl) := Whole.cell (L := [.slice A2 r.name.length c2, .int .i64 r.kind, .int .i64 r.cls, .int .i64 r.ttl, .slice x.d.Ab r.data.bytes.length x.d.cb, .slice x.d.Ah r.data.host.length x.d.ch, .slice x.d.Am r.data.mail.length x.d.cm, .slice x.d.An r.data.nums.length x.d.cn, .slice x.d.At r.data.texts.length x.d.ct]) HW3.out 3
        have t4 : (w2.setCell ⟨wr.heap.size, 0, none⟩ (.slice A2 r.name.length c2)).cell? ⟨wr.heap.size, 4, none⟩ = some (.slice x.d.Ab r.data.bytes.length x.d.cb) := Whole.cell (L := [.slice A2 r.name.length c2, .int .i64 r.kind, .int .i64 r.cls, .int .i64 r.ttl, .slice x.d.Ab r.data.bytes.length x.d.cb, .slice x.d.Ah r.data.host.length x.d.ch, .slice x.d.Am r.data.mail.length x.d.cm, .slice x.d.An r.data.nums.length x.d.cn, .slice x.d.At r.data.texts.length x.d.ct]) HW3.out 4
        have t5 : (w2.setCell ⟨wr.heap.size, 0, none⟩ (.slice A2 r.name.length c2)).cell? ⟨wr.heap.size, 5, none⟩ = some (.slice x.d.Ah r.data.host.length x.d.ch) := Whole.cell (L := [.slice A2 r.name.length c2, .int .i64 r.kind, .int .i64 r.cls, .int .i64 r.ttl, .slice x.d.Ab r.data.bytes.length x.d.cb, .slice x.d.Ah r.data.host.length x.d.ch, .slice x.d.Am r.data.mail.length x.d.cm, .slice x.d.An r.data.nums.length x.d.cn, .slice x.d.At r.data.texts.length x.d.ct]) HW3.out 5
        have t6 : (w2.setCell ⟨wr.heap.size, 0, none⟩ (.slice A2 r.name.length c2)).cell? ⟨wr.heap.size, 6, none⟩ = some (.slice x.d.Am r.data.mail.length x.d.cm) := Whole.cell (L := [.slice A2 r.name.length c2, .int .i64 r.kind, .int .i64 r.cls, .int .i64 r.ttl, .slice x.d.Ab r.data.bytes.length x.d.cb, .slice x.d.Ah r.data.host.length x.d.ch, .slice x.d.Am r.data.mail.length x.d.cm, .slice x.d.An r.data.nums.length x.d.cn, .slice x.d.At r.data.texts.length x.d.ct]) HW3.out 6
        have t7 : (w2.setCell ⟨wr.heap.size, 0, none⟩ (.slice A2 r.name.length c2)).cell? ⟨wr.heap.size, 7, none⟩ = some (.slice x.d.An r.data.nums.length x.d.cn) := Whole.cell (L := [.slice A2 r.name.length c2, .int .i64 r.kind, .int .i64 r.cls, .int .i64 r.ttl, .slice x.d.Ab r.data.bytes.length x.d.cb, .slice x.d.Ah r.data.host.length x.d.ch, .slice x.d.Am r.data.mail.length x.d.cm, .slice x.d.An r.data.nums.length x.d.cn, .slice x.d.At r.data.texts.length x.d.ct]) HW3.out 7
        have t8 : (w2.setCell ⟨wr.heap.size, 0, none⟩ (.slice A2 r.name.length c2)).cell? ⟨wr.heap.size, 8, none⟩ = some (.slice x.d.At r.data.texts.length x.d.ct) := Whole.cell (L := [.slice A2 r.name.length c2, .int .i64 r.kind, .int .i64 r.cls, .int .i64 r.ttl, .slice x.d.Ab r.data.bytes.length x.d.cb, .slice x.d.Ah r.data.host.length x.d.ch, .slice x.d.Am r.data.mail.length x.d.cm, .slice x.d.An r.data.nums.length x.d.cn, .slice x.d.At r.data.texts.length x.d.ct]) HW3.out 8
        clear hown2 hg2)
      have HC := Lib.hid (ownData_few x.d r.data (w2.setCell ⟨wr.heap.size, 0, none⟩ (.slice A2 r.name.length c2)) ((HRA.out.below HB3.out).d.mono HB3.out.size) HRI.out.few)
      refine HC.out.mono ?_
      rintro e w4 ⟨y, rfl, hy, hp1, hp2, hb4⟩
      have hzw2 : wr.heap.size < w2.heap.size := HW2.out.lt
      have hz3 : (w2.setCell ⟨wr.heap.size, 0, none⟩ (.slice A2 r.name.length c2)).heap.size = w2.heap.size := by simp
      rw [hz3] at hy hb4
      have hz4 : w2.heap.size ≤ w4.heap.size := by have h := hb4.size; rwa [hz3] at h
      have HW4 := Lib.hid (HW3.out.below hb4 hzw2)
      have HB4 := Lib.hid (HB3.out.trans (hb4.mono (Nat.le_of_lt hzw2)))
      rename_i hkk
      dsimp only
      refine hkk _ _ ?_
      refine wpList_plain rfl fun K2 hK2 => step_fieldR _ wr.heap.size 5 rfl rfl ?_
      refine hK2 _ _ ?_
      refine wpList_plain rfl fun K3 hK3 => step_storeR _ wr.heap.size 24 23 y r.data _ _ _ _ _ _ _ _ _ rfl rfl rfl HW4.out ?_
      intro V hWV hbv hhv hvs
      refine hK3 _ _ ?_
      clear hkk K2 hK2 K3 hK3
      have u0' : V.cell? ⟨wr.heap.size, 0, none⟩ = some (.slice A2 r.name.length c2) := Whole.cell (L := [.slice A2 r.name.length c2, .int .i64 r.kind, .int .i64 r.cls, .int .i64 r.ttl, .slice y.Ab r.data.bytes.length y.cb, .slice y.Ah r.data.host.length y.ch, .slice y.Am r.data.mail.length y.cm, .slice y.An r.data.nums.length y.cn, .slice y.At r.data.texts.length y.ct]) hWV 0
      have u1' : V.cell? ⟨wr.heap.size, 1, none⟩ = some (.int .i64 r.kind) := Whole.cell (L := [.slice A2 r.name.length c2, .int .i64 r.kind, .int .i64 r.cls, .int .i64 r.ttl, .slice y.Ab r.data.bytes.length y.cb, .slice y.Ah r.data.host.length y.ch, .slice y.Am r.data.mail.length y.cm, .slice y.An r.data.nums.length y.cn, .slice y.At r.data.texts.length y.ct]) hWV 1
      have u2' : V.cell? ⟨wr.heap.size, 2, none⟩ = some (.int .i64 r.cls) := Whole.cell (L := [.slice A2 r.name.length c2, .int .i64 r.kind, .int .i64 r.cls, .int .i64 r.ttl, .slice y.Ab r.data.bytes.length y.cb, .slice y.Ah r.data.host.length y.ch, .slice y.Am r.data.mail.length y.cm, .slice y.An r.data.nums.length y.cn, .slice y.At r.data.texts.length y.ct]) hWV 2
      have u3' : V.cell? ⟨wr.heap.size, 3, none⟩ = some (.int .i64 r.ttl) := Whole.cell (L := [.slice A2 r.name.length c2, .int .i64 r.kind, .int .i64 r.cls, .int .i64 r.ttl, .slice y.Ab r.data.bytes.length y.cb, .slice y.Ah r.data.host.length y.ch, .slice y.Am r.data.mail.length y.cm, .slice y.An r.data.nums.length y.cn, .slice y.At r.data.texts.length y.ct]) hWV 3
      have u4' : V.cell? ⟨wr.heap.size, 4, none⟩ = some (.slice y.Ab r.data.bytes.length y.cb) := Whole.cell (L := [.slice A2 r.name.length c2, .int .i64 r.kind, .int .i64 r.cls, .int .i64 r.ttl, .slice y.Ab r.data.bytes.length y.cb, .slice y.Ah r.data.host.length y.ch, .slice y.Am r.data.mail.length y.cm, .slice y.An r.data.nums.length y.cn, .slice y.At r.data.texts.length y.ct]) hWV 4
      have u5' : V.cell? ⟨wr.heap.size, 5, none⟩ = some (.slice y.Ah r.data.host.length y.ch) := Whole.cell (L := [.slice A2 r.name.length c2, .int .i64 r.kind, .int .i64 r.cls, .int .i64 r.ttl, .slice y.Ab r.data.bytes.length y.cb, .slice y.Ah r.data.host.length y.ch, .slice y.Am r.data.mail.length y.cm, .slice y.An r.data.nums.length y.cn, .slice y.At r.data.texts.length y.ct]) hWV 5
      have u6' : V.cell? ⟨wr.heap.size, 6, none⟩ = some (.slice y.Am r.data.mail.length y.cm) := Whole.cell (L := [.slice A2 r.name.length c2, .int .i64 r.kind, .int .i64 r.cls, .int .i64 r.ttl, .slice y.Ab r.data.bytes.length y.cb, .slice y.Ah r.data.host.length y.ch, .slice y.Am r.data.mail.length y.cm, .slice y.An r.data.nums.length y.cn, .slice y.At r.data.texts.length y.ct]) hWV 6
      have u7' : V.cell? ⟨wr.heap.size, 7, none⟩ = some (.slice y.An r.data.nums.length y.cn) := Whole.cell (L := [.slice A2 r.name.length c2, .int .i64 r.kind, .int .i64 r.cls, .int .i64 r.ttl, .slice y.Ab r.data.bytes.length y.cb, .slice y.Ah r.data.host.length y.ch, .slice y.Am r.data.mail.length y.cm, .slice y.An r.data.nums.length y.cn, .slice y.At r.data.texts.length y.ct]) hWV 7
      have u8' : V.cell? ⟨wr.heap.size, 8, none⟩ = some (.slice y.At r.data.texts.length y.ct) := Whole.cell (L := [.slice A2 r.name.length c2, .int .i64 r.kind, .int .i64 r.cls, .int .i64 r.ttl, .slice y.Ab r.data.bytes.length y.cb, .slice y.Ah r.data.host.length y.ch, .slice y.Am r.data.mail.length y.cm, .slice y.An r.data.nums.length y.cn, .slice y.At r.data.texts.length y.ct]) hWV 8
      have hzv : wr.heap.size ≤ V.heap.size := by rw [hvs]; omega
      have HS6 := Lib.hid (HS.out.step ((HB4.out.trans hbv).alloc hzv (.cells #[.slice A2 r.name.length c2, .int .i64 r.kind, .int .i64 r.cls, .int .i64 r.ttl, .slice y.Ab r.data.bytes.length y.cb, .slice y.Ah r.data.host.length y.ch, .slice y.Am r.data.mail.length y.cm, .slice y.An r.data.nums.length y.cn, .slice y.At r.data.texts.length y.ct] 42)))
      have hoc (g : Nat) (hg : g < w4.heap.size) : (V.alloc (.cells #[.slice A2 r.name.length c2, .int .i64 r.kind, .int .i64 r.cls, .int .i64 r.ttl, .slice y.Ab r.data.bytes.length y.cb, .slice y.Ah r.data.host.length y.ch, .slice y.Am r.data.mail.length y.cm, .slice y.An r.data.nums.length y.cn, .slice y.At r.data.texts.length y.ct] 42)).heap[g]? = V.heap[g]? := Below.heap_alloc V _ g (by rw [hvs]; exact hg)
      have HOR := Lib.hid (show OwnR (V.alloc (.cells #[.slice A2 r.name.length c2, .int .i64 r.kind, .int .i64 r.cls, .int .i64 r.ttl, .slice y.Ab r.data.bytes.length y.cb, .slice y.Ah r.data.host.length y.ch, .slice y.Am r.data.mail.length y.cm, .slice y.An r.data.nums.length y.cn, .slice y.At r.data.texts.length y.ct] 42)) w.heap.size ⟨A2, c2, y⟩ r from by
        refine ⟨own_mono (own_keep HO2.out fun g e => ?_) (Nat.le_trans HS.out.size (Nat.le_succ _)), ?_⟩
        · have h1 := (HO2.out.lt g e).1
          have h2 := (HO2.out.lt g e).2
          rw [hoc g (by omega), hhv g (by omega), hb4.block g h2]
          exact Below.heap_setCell w2 ⟨wr.heap.size, 0, none⟩ _ g (by show g ≠ wr.heap.size; omega)
        · have hd : OwnD w4 (wr.heap.size + 1) y r.data := hy.monoB (by omega)
          have hk : ∀ {e : TypeId} {s m : Nat} {u : Value} {ys : List Value}, w4.ownsRow (wr.heap.size + 1) e s u m ys → ∀ g, u.ownBlock = some g → (V.alloc (.cells #[.slice A2 r.name.length c2, .int .i64 r.kind, .int .i64 r.cls, .int .i64 r.ttl, .slice y.Ab r.data.bytes.length y.cb, .slice y.Ah r.data.host.length y.ch, .slice y.Am r.data.mail.length y.cm, .slice y.An r.data.nums.length y.cn, .slice y.At r.data.texts.length y.ct] 42)).heap[g]? = w4.heap[g]? := fun ho g hj => by
            have h1 := (ho.lt g hj).1
            rw [hoc g (ho.lt g hj).2, hhv g (by omega)]
          exact OwnD.monoB ⟨own_keep hd.b (hk hd.b), own_keep hd.h (hk hd.h), own_keep hd.m (hk hd.m), own_keep hd.n (hk hd.n), own_keep hd.t (hk hd.t)⟩ (Nat.le_trans HS.out.size (Nat.le_succ _)))
      have HRD := Lib.hid (show Row (V.alloc (.cells #[.slice A2 r.name.length c2, .int .i64 r.kind, .int .i64 r.cls, .int .i64 r.ttl, .slice y.Ab r.data.bytes.length y.cb, .slice y.Ah r.data.host.length y.ch, .slice y.Am r.data.mail.length y.cm, .slice y.An r.data.nums.length y.cn, .slice y.At r.data.texts.length y.ct] 42)) (V.heap.size + 1) (some ⟨V.heap.size, 0, none⟩) [.slice A2 r.name.length c2, .int .i64 r.kind, .int .i64 r.cls, .int .i64 r.ttl, .slice y.Ab r.data.bytes.length y.cb, .slice y.Ah r.data.host.length y.ch, .slice y.Am r.data.mail.length y.cm, .slice y.An r.data.nums.length y.cn, .slice y.At r.data.texts.length y.ct] from by
        have h := Row.made V #[.slice A2 r.name.length c2, .int .i64 r.kind, .int .i64 r.cls, .int .i64 r.ttl, .slice y.Ab r.data.bytes.length y.cb, .slice y.Ah r.data.host.length y.ch, .slice y.Am r.data.mail.length y.cm, .slice y.An r.data.nums.length y.cn, .slice y.At r.data.texts.length y.ct] 42
        exact h)
      clear hy hb4 hp1 hp2 hbv hhv hzv hoc hvs hWV HW2 HW3 HB2 HB3 HC HO2 HNR HN2 HWP HL HW4 HB4 t0 t1 t2 t3 t4 t5 t6 t7 t8 t0' f0' hz3
      go_wp2_with (
        at_builtin
        refine wpList_append_row rfl (.tmp 25) (.tmp 27) _ rfl w.heap.size 42 i0 _ 9 168 Tryz.underlying23 hi0 hz0 hz1 hz2 rfl (by omega) (.slice A1 qs.length c1) qs.length _ rfl HS6.out.row
          (some ⟨V.heap.size, 0, none⟩) 1 1 (V.heap.size + 1) (cellsR (⟨A2, c2, y⟩, r)) rfl rfl HRD.out (cellsR_one1 _) (by unfold maxLen; omega) (by omega) HS6.out.size ?_
        intro v7 w7 hown7 hg7
        have HS7 := Lib.hid (HS6.out.snoc HOR.out hown7 hg7)
        clear hown7 hg7)
      exact ⟨⟨j + 1, qs ++ [(⟨A2, c2, y⟩, r)], by omega, by go_num, by rw [HF.out, recs_append, HQ.out]; rfl, by simp [HJ.out], HS7.out⟩, by simp [intOf]; omega⟩
    · obtain rfl : j = ps.length := by omega
      go_wp2
      go_ret
      have HX := Lib.hid (show recs qs = recs ps by have h := HQ.out; rwa [List.take_length] at h)
      exact ⟨A1, c1, qs, rfl, HX.out, HS.out⟩

theorem ownRRs_any (w : World) (A : Option Addr) (c : Nat) (ps : List (RV × Rt)) (hp : RsAt w w.heap.size A ps) (hr : ∀ p ∈ ps, LightR p.2) (hl : ps.length ≤ 700) :
    Calls Tryz.prog 20 #[.slice A ps.length c] w (OwnRs w (recs ps)) :=
  (ownRRs_rows w A c ps hp hr hl).mono fun _ _ ⟨A', c', qs, he, hq, hs⟩ => ⟨A', c', qs, he, hq, hs.reads, hs.below⟩

end Go.Proofs.YtjkjhpaeckkpjaaGreat

namespace Go.Proofs.YtjkjhpaeckkpjaaGreat
open Go.RowKit

theorem nextR_le {b : List UInt8} {x p : Nat} (hx : x ≤ b.length) (hp : p ≤ b.length) : nextR x p ≤ b.length := by
  unfold nextR
  split <;> assumption
theorem getR_le (b : List UInt8) (p q x : Nat) (n : List (List UInt8)) (hx : x ≤ b.length) : (getR b p q x n).2.1 ≤ b.length := by
  fun_induction getR b p q x n
  all_goals first
    | exact Nat.zero_le _
    | exact nextR_le hx (by omega)
    | (rename_i ih; exact ih (nextR_le hx (by omega)))
    | (rename_i ih; exact ih hx)
theorem getW_le (b : List UInt8) (a : Int) : (getW b a).2.1 ≤ b.length := by
  unfold getW
  split
  · exact Nat.zero_le _
  · exact getR_le b _ _ 0 [] (Nat.zero_le _)

def zeroR : Rt := ⟨[], 0, 0, 0, ⟨[], [], [], [], []⟩⟩
def zeroV : RV := ⟨none, 0, ⟨none, none, none, none, none, 0, 0, 0, 0, 0⟩⟩
theorem zero_own (w : World) (B : Nat) : OwnR w B zeroV zeroR := ⟨World.ownsRow_nil _ _ _ _, no_data w B⟩
/-- The record that begins at a, and the place behind it. -/
def getRR (b : List UInt8) (a : Int) : Rt × Nat × Nat :=
  if (getW b a).2.2 ≠ 0 then (zeroR, 0, (getW b a).2.2) else
  if b.length < (getW b a).2.1 + 10 then (zeroR, 0, 3) else
  if numAt b (getW b a).2.1 2 = 0 then (zeroR, 0, 2) else
  if (getD b (((getW b a).2.1 : Int) + 10) (numAt b ((getW b a).2.1 + 8) 2) (numAt b (getW b a).2.1 2)).2 ≠ 0 then (zeroR, 0, (getD b (((getW b a).2.1 : Int) + 10) (numAt b ((getW b a).2.1 + 8) 2) (numAt b (getW b a).2.1 2)).2) else
  (⟨(getW b a).1, numAt b (getW b a).2.1 2, numAt b ((getW b a).2.1 + 2) 2, ttlAt b ((getW b a).2.1 + 4), (getD b (((getW b a).2.1 : Int) + 10) (numAt b ((getW b a).2.1 + 8) 2) (numAt b (getW b a).2.1 2)).1⟩, (getW b a).2.1 + 10 + numAt b ((getW b a).2.1 + 8) 2, 0)
/-- What the call leaves: a record in slices of its own, the place, the error. -/
def GotR (w : World) (r : Rt × Nat × Nat) (e : Ending) (w' : World) : Prop :=
  ∃ x : RV, e = .returned (.tuple #[x.val r.1, .int .i64 r.2.1, .int .i64 r.2.2]) ∧ OwnR w' w.heap.size x r.1 ∧ Below w.heap.size w w'

/-- A whole record is stored; of the new world this much is told. -/
theorem wpList_storeRR {w : World} {ops : Array Oper} {rest : List Oper} {o : Oper} {a : Act} {Q : Exit → Act → World → Prop} (g k1 k2 : Nat) (y : RV) (r : Rt) (L : List Value) (hg : o.guard = none) (ho : o.op = .store 42 (.tmp k1) (.tmp k2))
    (h2 : a.tmps[k1]? = some (.pointer (some ⟨g, 0, none⟩))) (hu : a.tmps[k2]? = some (y.val r)) (hw : Whole w g 42 L) (hl : L.length = 9)
    (h : ∀ V, Whole V g 42 (cellsR (y, r)) → Below g w V → (∀ j, j ≠ g → V.heap[j]? = w.heap[j]?) → V.heap.size = w.heap.size → wpList Tryz.prog ops Q rest (a.put o.dst undef) V) : wpList Tryz.prog ops Q (o :: rest) a w := by
  match L, hl with
  | [u0, u1, u2, u3, u4, u5, u6, u7, u8], _ =>
  have q0 : w.cell? ⟨g, 0, none⟩ = some u0 := hw.cell 0
  have z0 : w.frozen? ⟨g, 0, none⟩ = false := hw.frozen 0
  have q1 : w.cell? ⟨g, 1, none⟩ = some u1 := hw.cell 1
  have z1 : w.frozen? ⟨g, 1, none⟩ = false := hw.frozen 1
  have q2 : w.cell? ⟨g, 2, none⟩ = some u2 := hw.cell 2
  have z2 : w.frozen? ⟨g, 2, none⟩ = false := hw.frozen 2
  have q3 : w.cell? ⟨g, 3, none⟩ = some u3 := hw.cell 3
  have z3 : w.frozen? ⟨g, 3, none⟩ = false := hw.frozen 3
  have q4 : w.cell? ⟨g, 4, none⟩ = some u4 := hw.cell 4
  have z4 : w.frozen? ⟨g, 4, none⟩ = false := hw.frozen 4
  have q5 : w.cell? ⟨g, 5, none⟩ = some u5 := hw.cell 5
  have z5 : w.frozen? ⟨g, 5, none⟩ = false := hw.frozen 5
  have q6 : w.cell? ⟨g, 6, none⟩ = some u6 := hw.cell 6
  have z6 : w.frozen? ⟨g, 6, none⟩ = false := hw.frozen 6
  have q7 : w.cell? ⟨g, 7, none⟩ = some u7 := hw.cell 7
  have z7 : w.frozen? ⟨g, 7, none⟩ = false := hw.frozen 7
  have q8 : w.cell? ⟨g, 8, none⟩ = some u8 := hw.cell 8
  have z8 : w.frozen? ⟨g, 8, none⟩ = false := hw.frozen 8
  have hk := h (((((((((w.setCell ⟨g, 0, none⟩ (.slice y.A r.name.length y.c)).setCell ⟨g, 1, none⟩ (.int .i64 r.kind)).setCell ⟨g, 2, none⟩ (.int .i64 r.cls)).setCell ⟨g, 3, none⟩ (.int .i64 r.ttl)).setCell ⟨g, 4, none⟩ (.slice y.d.Ab r.data.bytes.length y.d.cb)).setCell ⟨g, 5, none⟩ (.slice y.d.Ah r.data.host.length y.d.ch)).setCell ⟨g, 6, none⟩ (.slice y.d.Am r.data.mail.length y.d.cm)).setCell ⟨g, 7, none⟩ (.slice y.d.An r.data.nums.length y.d.cn)).setCell ⟨g, 8, none⟩ (.slice y.d.At r.data.texts.length y.d.ct))
    (((((((((hw.set_ 0 _).set_ 1 _).set_ 2 _).set_ 3 _).set_ 4 _).set_ 5 _).set_ 6 _).set_ 7 _).set_ 8 _)
    (by
      have hs (W : World) (i : Nat) (u : Value) : Below g W (W.setCell ⟨g, i, none⟩ u) := (Below.refl _ W).setCell (p := ⟨g, i, none⟩) (Nat.le_refl _) u
      exact ((((((((hs _ 0 _).trans (hs _ 1 _)).trans (hs _ 2 _)).trans (hs _ 3 _)).trans (hs _ 4 _)).trans (hs _ 5 _)).trans (hs _ 6 _)).trans (hs _ 7 _)).trans (hs _ 8 _))
    (fun j hj => by
      have hs (W : World) (i : Nat) (u : Value) : (W.setCell ⟨g, i, none⟩ u).heap[j]? = W.heap[j]? := Below.heap_setCell W ⟨g, i, none⟩ u j hj
      rw [hs, hs, hs, hs, hs, hs, hs, hs, hs])
    (by simp)
  refine wpList_plain hg fun K hK => ?_
  have hk2 := hK _ _ hk
  unfold Oper.wp
  simp [execOp, ho, go_sem, h2, hu, q0, q1, q2, q3, q4, q5, q6, q7, q8, z0, z1, z2, z3, z4, z5, z6, z7, z8]
  exact hk2

set_option maxRecDepth 20000 in
set_option maxHeartbeats 8000000 in
theorem rget_any (A : Option Addr) (m cap : Nat) (b : List UInt8) (a : Int) (w : World) (hbl : b.length = m) (hrow : Row w w.heap.size A (b.map bc)) (hm : m ≤ cap) (hc : cap ≤ maxLen) (ha : a ≤ 9223372036854775807) :
    Calls Tryz.prog 79 #[.slice A m cap, .int .i64 a] w (GotR w (getRR b a)) := by
  have hle := getW_le b a
  obtain ⟨W0, hW0⟩ : ∃ W0, W0 = w.alloc (.cells #[.slice none 0 0, .int .i64 0, .int .i64 0, .int .i64 0, .slice none 0 0, .slice none 0 0, .slice none 0 0, .slice none 0 0, .slice none 0 0] 42) := ⟨_, rfl⟩
  have hb0 : Below w.heap.size w W0 := by rw [hW0]; exact (Below.refl _ _).alloc (Nat.le_refl _) _
  have hwh : Whole W0 w.heap.size 42 [.slice none 0 0, .int .i64 0, .int .i64 0, .int .i64 0, .slice none 0 0, .slice none 0 0, .slice none 0 0, .slice none 0 0, .slice none 0 0] := by rw [hW0]; exact Whole.made w _ _
  have hs0 : w.heap.size < W0.heap.size := by rw [hW0]; simp
  have HG := Lib.hid (wget_any A m cap b a W0 hbl ((hrow.below hb0).mono (Nat.le_of_lt hs0)) hc hm ha)
  have HR := Lib.hid hrow
  have HBL := Lib.hid hbl
  have HB0 := Lib.hid hb0
  have HW0 := Lib.hid hwh
  obtain ⟨n, p, k, hG⟩ : ∃ n p k, getW b a = (n, p, k) := ⟨_, _, _, rfl⟩
  have HF := Lib.hid (show getRR b a = if k ≠ 0 then (zeroR, 0, k) else
      if b.length < p + 10 then (zeroR, 0, 3) else
      if numAt b p 2 = 0 then (zeroR, 0, 2) else
      if (getD b ((p : Int) + 10) (numAt b (p + 8) 2) (numAt b p 2)).2 ≠ 0 then (zeroR, 0, (getD b ((p : Int) + 10) (numAt b (p + 8) 2) (numAt b p 2)).2) else
      (⟨n, numAt b p 2, numAt b (p + 2) 2, ttlAt b (p + 4), (getD b ((p : Int) + 10) (numAt b (p + 8) 2) (numAt b p 2)).1⟩, p + 10 + numAt b (p + 8) 2, 0) by
    unfold getRR
    rw [hG])
  rw [hG] at HG hle
  dsimp only at hle
  clear hrow hb0 hwh hG
  have hle2 : p ≤ m := by rw [← hbl]; exact hle
  clear hle hbl
  unfold maxLen at hc
  subst hW0
  go_enter Tryz.func79, Tryz.ntmps79
  go_wp2_with fail
  refine HG.out.mono ?_
  rintro e w1 ⟨v1, rfl, hown1, hb1⟩
  obtain ⟨A1, c1, rfl, _, _⟩ := own_form hown1
  have HO1 := Lib.hid hown1
  have HB1 := Lib.hid (HB0.out.trans (hb1.mono (Nat.le_of_lt hs0)))
  have HW1 := Lib.hid (HW0.out.below hb1 hs0)
  have hs1 : w.heap.size < w1.heap.size := Nat.lt_of_lt_of_le hs0 hb1.size
  clear hown1 hb1 HB0 HW0 HG
  by_cases hk : k = 0
  case neg =>
    have b1 : ((k : Int) != 0) = true := by rw [bne_iff_ne]; omega
    have HF2 := Lib.hid (show getRR b a = (zeroR, 0, k) by rw [HF.out, if_pos hk])
    clear HF hk
    go_wp2_with (
      refine wpList_storeRR w.heap.size 4 19 zeroV zeroR _ rfl rfl rfl rfl HW1.out rfl ?_
      intro V hWV hbv hhv hvs
      have v0 : V.cell? ⟨w.heap.size, 0, none⟩ = some (.slice none 0 0) := Whole.cell (L := [.slice none 0 0, .int .i64 0, .int .i64 0, .int .i64 0, .slice none 0 0, .slice none 0 0, .slice none 0 0, .slice none 0 0, .slice none 0 0]) hWV 0
      have v1 : V.cell? ⟨w.heap.size, 1, none⟩ = some (.int .i64 0) := Whole.cell (L := [.slice none 0 0, .int .i64 0, .int .i64 0, .int .i64 0, .slice none 0 0, .slice none 0 0, .slice none 0 0, .slice none 0 0, .slice none 0 0]) hWV 1
      have v2 : V.cell? ⟨w.heap.size, 2, none⟩ = some (.int .i64 0) := Whole.cell (L := [.slice none 0 0, .int .i64 0, .int .i64 0, .int .i64 0, .slice none 0 0, .slice none 0 0, .slice none 0 0, .slice none 0 0, .slice none 0 0]) hWV 2
      have v3 : V.cell? ⟨w.heap.size, 3, none⟩ = some (.int .i64 0) := Whole.cell (L := [.slice none 0 0, .int .i64 0, .int .i64 0, .int .i64 0, .slice none 0 0, .slice none 0 0, .slice none 0 0, .slice none 0 0, .slice none 0 0]) hWV 3
      have v4 : V.cell? ⟨w.heap.size, 4, none⟩ = some (.slice none 0 0) := Whole.cell (L := [.slice none 0 0, .int .i64 0, .int .i64 0, .int .i64 0, .slice none 0 0, .slice none 0 0, .slice none 0 0, .slice none 0 0, .slice none 0 0]) hWV 4
      have v5 : V.cell? ⟨w.heap.size, 5, none⟩ = some (.slice none 0 0) := Whole.cell (L := [.slice none 0 0, .int .i64 0, .int .i64 0, .int .i64 0, .slice none 0 0, .slice none 0 0, .slice none 0 0, .slice none 0 0, .slice none 0 0]) hWV 5
      have v6 : V.cell? ⟨w.heap.size, 6, none⟩ = some (.slice none 0 0) := Whole.cell (L := [.slice none 0 0, .int .i64 0, .int .i64 0, .int .i64 0, .slice none 0 0, .slice none 0 0, .slice none 0 0, .slice none 0 0, .slice none 0 0]) hWV 6
      have v7 : V.cell? ⟨w.heap.size, 7, none⟩ = some (.slice none 0 0) := Whole.cell (L := [.slice none 0 0, .int .i64 0, .int .i64 0, .int .i64 0, .slice none 0 0, .slice none 0 0, .slice none 0 0, .slice none 0 0, .slice none 0 0]) hWV 7
      have v8 : V.cell? ⟨w.heap.size, 8, none⟩ = some (.slice none 0 0) := Whole.cell (L := [.slice none 0 0, .int .i64 0, .int .i64 0, .int .i64 0, .slice none 0 0, .slice none 0 0, .slice none 0 0, .slice none 0 0, .slice none 0 0]) hWV 8
      have HBV := Lib.hid (HB1.out.trans hbv)
      clear hWV hbv hhv hvs)
    rw [HF2.out]
    refine ⟨rfl, .tuple #[zeroV.val zeroR, .int .i64 ((0 : Nat) : Int), .int .i64 (k : Int)], ?_, zeroV, rfl, zero_own _ _, HBV.out⟩
    simp [results, Tryz.results79, go_sem, v0, v1, v2, v3, v4, v5, v6, v7, v8, zeroV, zeroR]
  have b1 : ((k : Int) != 0) = false := by rw [hk]; rfl
  have HF3 := Lib.hid (HF.out.trans (if_neg (by omega)))
  clear HF hk
  by_cases hsh : m < p + 10
  case pos =>
    have d1 : decide ((m : Int) - (p : Int) < 10) = true := by simp; omega
    have HF2 := Lib.hid (show getRR b a = (zeroR, 0, 3) by rw [HF3.out, if_pos (by rw [HBL.out]; exact hsh)])
    clear HF3
    go_wp2_with (
      refine wpList_storeRR w.heap.size 4 26 zeroV zeroR _ rfl rfl rfl rfl HW1.out rfl ?_
      intro V hWV hbv hhv hvs
      have v0 : V.cell? ⟨w.heap.size, 0, none⟩ = some (.slice none 0 0) := Whole.cell (L := [.slice none 0 0, .int .i64 0, .int .i64 0, .int .i64 0, .slice none 0 0, .slice none 0 0, .slice none 0 0, .slice none 0 0, .slice none 0 0]) hWV 0
      have v1 : V.cell? ⟨w.heap.size, 1, none⟩ = some (.int .i64 0) := Whole.cell (L := [.slice none 0 0, .int .i64 0, .int .i64 0, .int .i64 0, .slice none 0 0, .slice none 0 0, .slice none 0 0, .slice none 0 0, .slice none 0 0]) hWV 1
      have v2 : V.cell? ⟨w.heap.size, 2, none⟩ = some (.int .i64 0) := Whole.cell (L := [.slice none 0 0, .int .i64 0, .int .i64 0, .int .i64 0, .slice none 0 0, .slice none 0 0, .slice none 0 0, .slice none 0 0, .slice none 0 0]) hWV 2
      have v3 : V.cell? ⟨w.heap.size, 3, none⟩ = some (.int .i64 0) := Whole.cell (L := [.slice none 0 0, .int .i64 0, .int .i64 0, .int .i64 0, .slice none 0 0, .slice none 0 0, .slice none 0 0, .slice none 0 0, .slice none 0 0]) hWV 3
      have v4 : V.cell? ⟨w.heap.size, 4, none⟩ = some (.slice none 0 0) := Whole.cell (L := [.slice none 0 0, .int .i64 0, .int .i64 0, .int .i64 0, .slice none 0 0, .slice none 0 0, .slice none 0 0, .slice none 0 0, .slice none 0 0]) hWV 4
      have v5 : V.cell? ⟨w.heap.size, 5, none⟩ = some (.slice none 0 0) := Whole.cell (L := [.slice none 0 0, .int .i64 0, .int .i64 0, .int .i64 0, .slice none 0 0, .slice none 0 0, .slice none 0 0, .slice none 0 0, .slice none 0 0]) hWV 5
      have v6 : V.cell? ⟨w.heap.size, 6, none⟩ = some (.slice none 0 0) := Whole.cell (L := [.slice none 0 0, .int .i64 0, .int .i64 0, .int .i64 0, .slice none 0 0, .slice none 0 0, .slice none 0 0, .slice none 0 0, .slice none 0 0]) hWV 6
      have v7 : V.cell? ⟨w.heap.size, 7, none⟩ = some (.slice none 0 0) := Whole.cell (L := [.slice none 0 0, .int .i64 0, .int .i64 0, .int .i64 0, .slice none 0 0, .slice none 0 0, .slice none 0 0, .slice none 0 0, .slice none 0 0]) hWV 7
      have v8 : V.cell? ⟨w.heap.size, 8, none⟩ = some (.slice none 0 0) := Whole.cell (L := [.slice none 0 0, .int .i64 0, .int .i64 0, .int .i64 0, .slice none 0 0, .slice none 0 0, .slice none 0 0, .slice none 0 0, .slice none 0 0]) hWV 8
      have HBV := Lib.hid (HB1.out.trans hbv)
      clear hWV hbv hhv hvs)
    rw [HF2.out]
    refine ⟨rfl, .tuple #[zeroV.val zeroR, .int .i64 ((0 : Nat) : Int), .int .i64 ((3 : Nat) : Int)], ?_, zeroV, rfl, zero_own _ _, HBV.out⟩
    simp [results, Tryz.results79, go_sem, v0, v1, v2, v3, v4, v5, v6, v7, v8, zeroV, zeroR]
  have d1 : decide ((m : Int) - (p : Int) < 10) = false := by simp; omega
  have HF4 := Lib.hid (HF3.out.trans (if_neg (by rw [HBL.out]; exact hsh)))
  clear HF3
  have HH := Lib.hid (head_any A m cap b p w1 HBL.out ((HR.out.below HB1.out).mono (Nat.le_of_lt hs1)) hm hc (by omega))
  go_wp2_with fail
  refine HH.out.mono ?_
  rintro e w2 ⟨rfl, hb2⟩
  have HW2 := Lib.hid (HW1.out.below hb2 hs1)
  have HB2 := Lib.hid (HB1.out.trans (hb2.mono (Nat.le_of_lt hs1)))
  have HO2 := Lib.hid (own_keep HO1.out fun g e => hb2.block g (HO1.out.lt g e).2)
  have hs2 : w.heap.size < w2.heap.size := Nat.lt_of_lt_of_le hs1 hb2.size
  clear hb2 HH HW1 HB1 HO1
  have y0 := numAt_lt b p 2
  have y1 := numAt_lt b (p + 2) 2
  have y3 := numAt_lt b (p + 8) 2
  revert y0 y1 y3 HF4
  generalize numAt b p 2 = z0
  generalize numAt b (p + 2) 2 = z1
  generalize ttlAt b (p + 4) = z2
  generalize numAt b (p + 8) 2 = z3
  intro HF4 y0 y1 y3
  have hb3 : Below w.heap.size w2 (w2.alloc (.cells #[.int .i64 (z0 : Int), .int .i64 (z1 : Int), .int .i64 (z2 : Int), .int .i64 (z3 : Int)] 133)) := (Below.refl _ _).alloc (Nat.le_of_lt hs2) _
  have hb3' : Below w2.heap.size w2 (w2.alloc (.cells #[.int .i64 (z0 : Int), .int .i64 (z1 : Int), .int .i64 (z2 : Int), .int .i64 (z3 : Int)] 133)) := (Below.refl _ _).alloc (Nat.le_refl _) _
  have HW3 := Lib.hid (HW2.out.alloc (.cells #[.int .i64 (z0 : Int), .int .i64 (z1 : Int), .int .i64 (z2 : Int), .int .i64 (z3 : Int)] 133))
  have HN3 := Lib.hid (Whole.made w2 [.int .i64 (z0 : Int), .int .i64 (z1 : Int), .int .i64 (z2 : Int), .int .i64 (z3 : Int)] 133)
  have HB3 := Lib.hid (HB2.out.trans hb3)
  have HO3 := Lib.hid (own_keep HO2.out fun g e => hb3'.block g (HO2.out.lt g e).2)
  clear hb3 hb3' HW2 HB2 HO2
  by_cases hkd : z0 = 0
  case pos =>
    have b2 : ((z0 : Int) == 0) = true := by rw [beq_iff_eq]; omega
    have HF2 := Lib.hid (show getRR b a = (zeroR, 0, 2) by rw [HF4.out, if_pos hkd])
    clear HF4 hkd
    go_wp2_with (
      refine wpList_storeRR w.heap.size 4 33 zeroV zeroR _ rfl rfl rfl rfl HW3.out rfl ?_
      intro V hWV hbv hhv hvs
      have v0 : V.cell? ⟨w.heap.size, 0, none⟩ = some (.slice none 0 0) := Whole.cell (L := [.slice none 0 0, .int .i64 0, .int .i64 0, .int .i64 0, .slice none 0 0, .slice none 0 0, .slice none 0 0, .slice none 0 0, .slice none 0 0]) hWV 0
      have v1 : V.cell? ⟨w.heap.size, 1, none⟩ = some (.int .i64 0) := Whole.cell (L := [.slice none 0 0, .int .i64 0, .int .i64 0, .int .i64 0, .slice none 0 0, .slice none 0 0, .slice none 0 0, .slice none 0 0, .slice none 0 0]) hWV 1
      have v2 : V.cell? ⟨w.heap.size, 2, none⟩ = some (.int .i64 0) := Whole.cell (L := [.slice none 0 0, .int .i64 0, .int .i64 0, .int .i64 0, .slice none 0 0, .slice none 0 0, .slice none 0 0, .slice none 0 0, .slice none 0 0]) hWV 2
      have v3 : V.cell? ⟨w.heap.size, 3, none⟩ = some (.int .i64 0) := Whole.cell (L := [.slice none 0 0, .int .i64 0, .int .i64 0, .int .i64 0, .slice none 0 0, .slice none 0 0, .slice none 0 0, .slice none 0 0, .slice none 0 0]) hWV 3
      have v4 : V.cell? ⟨w.heap.size, 4, none⟩ = some (.slice none 0 0) := Whole.cell (L := [.slice none 0 0, .int .i64 0, .int .i64 0, .int .i64 0, .slice none 0 0, .slice none 0 0, .slice none 0 0, .slice none 0 0, .slice none 0 0]) hWV 4
      have v5 : V.cell? ⟨w.heap.size, 5, none⟩ = some (.slice none 0 0) := Whole.cell (L := [.slice none 0 0, .int .i64 0, .int .i64 0, .int .i64 0, .slice none 0 0, .slice none 0 0, .slice none 0 0, .slice none 0 0, .slice none 0 0]) hWV 5
      have v6 : V.cell? ⟨w.heap.size, 6, none⟩ = some (.slice none 0 0) := Whole.cell (L := [.slice none 0 0, .int .i64 0, .int .i64 0, .int .i64 0, .slice none 0 0, .slice none 0 0, .slice none 0 0, .slice none 0 0, .slice none 0 0]) hWV 6
      have v7 : V.cell? ⟨w.heap.size, 7, none⟩ = some (.slice none 0 0) := Whole.cell (L := [.slice none 0 0, .int .i64 0, .int .i64 0, .int .i64 0, .slice none 0 0, .slice none 0 0, .slice none 0 0, .slice none 0 0, .slice none 0 0]) hWV 7
      have v8 : V.cell? ⟨w.heap.size, 8, none⟩ = some (.slice none 0 0) := Whole.cell (L := [.slice none 0 0, .int .i64 0, .int .i64 0, .int .i64 0, .slice none 0 0, .slice none 0 0, .slice none 0 0, .slice none 0 0, .slice none 0 0]) hWV 8
      have HBV := Lib.hid (HB3.out.trans hbv)
      clear hWV hbv hhv hvs)
    rw [HF2.out]
    refine ⟨rfl, .tuple #[zeroV.val zeroR, .int .i64 ((0 : Nat) : Int), .int .i64 ((2 : Nat) : Int)], ?_, zeroV, rfl, zero_own _ _, HBV.out⟩
    simp [results, Tryz.results79, go_sem, v0, v1, v2, v3, v4, v5, v6, v7, v8, zeroV, zeroR]
  have b2 : ((z0 : Int) == 0) = false := by rw [beq_eq_false_iff_ne]; omega
  have HF5 := Lib.hid (HF4.out.trans (if_neg hkd))
  clear HF4 hkd
  have HD := Lib.hid (dget_any A m cap b ((p : Int) + 10) z3 z0 (w2.alloc (.cells #[.int .i64 (z0 : Int), .int .i64 (z1 : Int), .int .i64 (z2 : Int), .int .i64 (z3 : Int)] 133)) HBL.out ((HR.out.below HB3.out).mono (by simp; omega)) hm hc (by omega))
  go_wp2_with fail
  refine HD.out.mono ?_
  rintro e w4 ⟨y, rfl, hy, hb4⟩
  have hsz : (w2.alloc (.cells #[.int .i64 (z0 : Int), .int .i64 (z1 : Int), .int .i64 (z2 : Int), .int .i64 (z3 : Int)] 133)).heap.size = w2.heap.size + 1 := by simp
  rw [hsz] at hy hb4
  have HW4 := Lib.hid (HW3.out.below hb4 (by omega))
  have HN4 := Lib.hid (HN3.out.below hb4 (by omega))
  have HB4 := Lib.hid (HB3.out.trans (hb4.mono (by omega)))
  have HO4 := Lib.hid (own_keep HO3.out fun g e => hb4.block g (by have := (HO3.out.lt g e).2; omega))
  have HY4 := Lib.hid hy
  have hs4 : w2.heap.size < w4.heap.size := by have := hb4.size; rw [hsz] at this; omega
  clear hy hb4 hsz HD HW3 HN3 HB3 HO3
  have hfit0 : (getD b ((p : Int) + 10) z3 z0).2 = 0 → p + 10 + z3 ≤ m := by
    intro h
    have hl := HBL.out
    unfold getD at h
    split at h
    · cases h
    · split at h
      · cases h
      · omega
  revert HF5 HY4 hfit0
  generalize getD b ((p : Int) + 10) z3 z0 = D
  obtain ⟨d, k2⟩ := D
  intro HF5 HY4 hfit0
  dsimp only at *
  have hb5 : Below w4.heap.size w4 (w4.alloc (.cells #[.slice y.Ab d.bytes.length y.cb, .slice y.Ah d.host.length y.ch, .slice y.Am d.mail.length y.cm, .slice y.An d.nums.length y.cn, .slice y.At d.texts.length y.ct] 40)) := (Below.refl _ _).alloc (Nat.le_refl _) _
  have HW5 := Lib.hid (HW4.out.alloc (.cells #[.slice y.Ab d.bytes.length y.cb, .slice y.Ah d.host.length y.ch, .slice y.Am d.mail.length y.cm, .slice y.An d.nums.length y.cn, .slice y.At d.texts.length y.ct] 40))
  have HN5 := Lib.hid (HN4.out.alloc (.cells #[.slice y.Ab d.bytes.length y.cb, .slice y.Ah d.host.length y.ch, .slice y.Am d.mail.length y.cm, .slice y.An d.nums.length y.cn, .slice y.At d.texts.length y.ct] 40))
  have HB5 := Lib.hid (HB4.out.trans (hb5.mono (by omega)))
  have HO5 := Lib.hid (own_keep HO4.out fun g e => hb5.block g (HO4.out.lt g e).2)
  have HY5 := Lib.hid (HY4.out.keep (fun g hg => hb5.block g hg))
  clear hb5 HW4 HN4 HB4 HO4 HY4
  by_cases hk2 : k2 = 0
  case neg =>
    have b3 : ((k2 : Int) != 0) = true := by rw [bne_iff_ne]; omega
    have HF2 := Lib.hid (show getRR b a = (zeroR, 0, k2) by rw [HF5.out, if_pos hk2])
    clear HF5 hk2 hfit0
    go_wp2_with (
      refine wpList_storeRR w.heap.size 4 48 zeroV zeroR _ rfl rfl rfl rfl HW5.out rfl ?_
      intro V hWV hbv hhv hvs
      have v0 : V.cell? ⟨w.heap.size, 0, none⟩ = some (.slice none 0 0) := Whole.cell (L := [.slice none 0 0, .int .i64 0, .int .i64 0, .int .i64 0, .slice none 0 0, .slice none 0 0, .slice none 0 0, .slice none 0 0, .slice none 0 0]) hWV 0
      have v1 : V.cell? ⟨w.heap.size, 1, none⟩ = some (.int .i64 0) := Whole.cell (L := [.slice none 0 0, .int .i64 0, .int .i64 0, .int .i64 0, .slice none 0 0, .slice none 0 0, .slice none 0 0, .slice none 0 0, .slice none 0 0]) hWV 1
      have v2 : V.cell? ⟨w.heap.size, 2, none⟩ = some (.int .i64 0) := Whole.cell (L := [.slice none 0 0, .int .i64 0, .int .i64 0, .int .i64 0, .slice none 0 0, .slice none 0 0, .slice none 0 0, .slice none 0 0, .slice none 0 0]) hWV 2
      have v3 : V.cell? ⟨w.heap.size, 3, none⟩ = some (.int .i64 0) := Whole.cell (L := [.slice none 0 0, .int .i64 0, .int .i64 0, .int .i64 0, .slice none 0 0, .slice none 0 0, .slice none 0 0, .slice none 0 0, .slice none 0 0]) hWV 3
      have v4 : V.cell? ⟨w.heap.size, 4, none⟩ = some (.slice none 0 0) := Whole.cell (L := [.slice none 0 0, .int .i64 0, .int .i64 0, .int .i64 0, .slice none 0 0, .slice none 0 0, .slice none 0 0, .slice none 0 0, .slice none 0 0]) hWV 4
      have v5 : V.cell? ⟨w.heap.size, 5, none⟩ = some (.slice none 0 0) := Whole.cell (L := [.slice none 0 0, .int .i64 0, .int .i64 0, .int .i64 0, .slice none 0 0, .slice none 0 0, .slice none 0 0, .slice none 0 0, .slice none 0 0]) hWV 5
      have v6 : V.cell? ⟨w.heap.size, 6, none⟩ = some (.slice none 0 0) := Whole.cell (L := [.slice none 0 0, .int .i64 0, .int .i64 0, .int .i64 0, .slice none 0 0, .slice none 0 0, .slice none 0 0, .slice none 0 0, .slice none 0 0]) hWV 6
      have v7 : V.cell? ⟨w.heap.size, 7, none⟩ = some (.slice none 0 0) := Whole.cell (L := [.slice none 0 0, .int .i64 0, .int .i64 0, .int .i64 0, .slice none 0 0, .slice none 0 0, .slice none 0 0, .slice none 0 0, .slice none 0 0]) hWV 7
      have v8 : V.cell? ⟨w.heap.size, 8, none⟩ = some (.slice none 0 0) := Whole.cell (L := [.slice none 0 0, .int .i64 0, .int .i64 0, .int .i64 0, .slice none 0 0, .slice none 0 0, .slice none 0 0, .slice none 0 0, .slice none 0 0]) hWV 8
      have HBV := Lib.hid (HB5.out.trans hbv)
      clear hWV hbv hhv hvs)
    rw [HF2.out]
    refine ⟨rfl, .tuple #[zeroV.val zeroR, .int .i64 ((0 : Nat) : Int), .int .i64 (k2 : Int)], ?_, zeroV, rfl, zero_own _ _, HBV.out⟩
    simp [results, Tryz.results79, go_sem, v0, v1, v2, v3, v4, v5, v6, v7, v8, zeroV, zeroR]
  have b3 : ((k2 : Int) != 0) = false := by rw [hk2]; rfl
  have HF6 := Lib.hid (HF5.out.trans (if_neg (by omega)))
  have hfit := hfit0 hk2
  clear HF5 hk2 hfit0
  have g0 : (w4.alloc (.cells #[.slice y.Ab d.bytes.length y.cb, .slice y.Ah d.host.length y.ch, .slice y.Am d.mail.length y.cm, .slice y.An d.nums.length y.cn, .slice y.At d.texts.length y.ct] 40)).cell? ⟨w2.heap.size, 0, none⟩ = some (.int .i64 (z0 : Int)) := HN5.out.cell 0
  have g1 : (w4.alloc (.cells #[.slice y.Ab d.bytes.length y.cb, .slice y.Ah d.host.length y.ch, .slice y.Am d.mail.length y.cm, .slice y.An d.nums.length y.cn, .slice y.At d.texts.length y.ct] 40)).cell? ⟨w2.heap.size, 1, none⟩ = some (.int .i64 (z1 : Int)) := HN5.out.cell 1
  have g2 : (w4.alloc (.cells #[.slice y.Ab d.bytes.length y.cb, .slice y.Ah d.host.length y.ch, .slice y.Am d.mail.length y.cm, .slice y.An d.nums.length y.cn, .slice y.At d.texts.length y.ct] 40)).cell? ⟨w2.heap.size, 2, none⟩ = some (.int .i64 (z2 : Int)) := HN5.out.cell 2
  have g3 : (w4.alloc (.cells #[.slice y.Ab d.bytes.length y.cb, .slice y.Ah d.host.length y.ch, .slice y.Am d.mail.length y.cm, .slice y.An d.nums.length y.cn, .slice y.At d.texts.length y.ct] 40)).cell? ⟨w2.heap.size, 3, none⟩ = some (.int .i64 (z3 : Int)) := HN5.out.cell 3
  have r0 : (w4.alloc (.cells #[.slice y.Ab d.bytes.length y.cb, .slice y.Ah d.host.length y.ch, .slice y.Am d.mail.length y.cm, .slice y.An d.nums.length y.cn, .slice y.At d.texts.length y.ct] 40)).cell? ⟨w.heap.size, 0, none⟩ = some (.slice none 0 0) := Whole.cell (L := [.slice none 0 0, .int .i64 0, .int .i64 0, .int .i64 0, .slice none 0 0, .slice none 0 0, .slice none 0 0, .slice none 0 0, .slice none 0 0]) HW5.out 0
  have f0 : (w4.alloc (.cells #[.slice y.Ab d.bytes.length y.cb, .slice y.Ah d.host.length y.ch, .slice y.Am d.mail.length y.cm, .slice y.An d.nums.length y.cn, .slice y.At d.texts.length y.ct] 40)).frozen? ⟨w.heap.size, 0, none⟩ = false := Whole.frozen (L := [.slice none 0 0, .int .i64 0, .int .i64 0, .int .i64 0, .slice none 0 0, .slice none 0 0, .slice none 0 0, .slice none 0 0, .slice none 0 0]) HW5.out 0
  have r1 : (w4.alloc (.cells #[.slice y.Ab d.bytes.length y.cb, .slice y.Ah d.host.length y.ch, .slice y.Am d.mail.length y.cm, .slice y.An d.nums.length y.cn, .slice y.At d.texts.length y.ct] 40)).cell? ⟨w.heap.size, 1, none⟩ = some (.int .i64 0) := Whole.cell (L := [.slice none 0 0, .int .i64 0, .int .i64 0, .int .i64 0, .slice none 0 0, .slice none 0 0, .slice none 0 0, .slice none 0 0, .slice none 0 0]) HW5.out 1
  have f1 : (w4.alloc (.cells #[.slice y.Ab d.bytes.length y.cb, .slice y.Ah d.host.length y.ch, .slice y.Am d.mail.length y.cm, .slice y.An d.nums.length y.cn, .slice y.At d.texts.length y.ct] 40)).frozen? ⟨w.heap.size, 1, none⟩ = false := Whole.frozen (L := [.slice none 0 0, .int .i64 0, .int .i64 0, .int .i64 0, .slice none 0 0, .slice none 0 0, .slice none 0 0, .slice none 0 0, .slice none 0 0]) HW5.out 1
  have r2 : (w4.alloc (.cells #[.slice y.Ab d.bytes.length y.cb, .slice y.Ah d.host.length y.ch, .slice y.Am d.mail.length y.cm, .slice y.An d.nums.length y.cn, .slice y.At d.texts.length y.ct] 40)).cell? ⟨w.heap.size, 2, none⟩ = some (.int .i64 0) := Whole.cell (L := [.slice none 0 0, .int .i64 0, .int .i64 0, .int .i64 0, .slice none 0 0, .slice none 0 0, .slice none 0 0, .slice none 0 0, .slice none 0 0]) HW5.out 2
  have f2 : (w4.alloc (.cells #[.slice y.Ab d.bytes.length y.cb, .slice y.Ah d.host.length y.ch, .slice y.Am d.mail.length y.cm, .slice y.An d.nums.length y.cn, .slice y.At d.texts.length y.ct] 40)).frozen? ⟨w.heap.size, 2, none⟩ = false := Whole.frozen (L := [.slice none 0 0, .int .i64 0, .int .i64 0, .int .i64 0, .slice none 0 0, .slice none 0 0, .slice none 0 0, .slice none 0 0, .slice none 0 0]) HW5.out 2
  have r3 : (w4.alloc (.cells #[.slice y.Ab d.bytes.length y.cb, .slice y.Ah d.host.length y.ch, .slice y.Am d.mail.length y.cm, .slice y.An d.nums.length y.cn, .slice y.At d.texts.length y.ct] 40)).cell? ⟨w.heap.size, 3, none⟩ = some (.int .i64 0) := Whole.cell (L := [.slice none 0 0, .int .i64 0, .int .i64 0, .int .i64 0, .slice none 0 0, .slice none 0 0, .slice none 0 0, .slice none 0 0, .slice none 0 0]) HW5.out 3
  have f3 : (w4.alloc (.cells #[.slice y.Ab d.bytes.length y.cb, .slice y.Ah d.host.length y.ch, .slice y.Am d.mail.length y.cm, .slice y.An d.nums.length y.cn, .slice y.At d.texts.length y.ct] 40)).frozen? ⟨w.heap.size, 3, none⟩ = false := Whole.frozen (L := [.slice none 0 0, .int .i64 0, .int .i64 0, .int .i64 0, .slice none 0 0, .slice none 0 0, .slice none 0 0, .slice none 0 0, .slice none 0 0]) HW5.out 3
  have r4 : (w4.alloc (.cells #[.slice y.Ab d.bytes.length y.cb, .slice y.Ah d.host.length y.ch, .slice y.Am d.mail.length y.cm, .slice y.An d.nums.length y.cn, .slice y.At d.texts.length y.ct] 40)).cell? ⟨w.heap.size, 4, none⟩ = some (.slice none 0 0) := Whole.cell (L := [.slice none 0 0, .int .i64 0, .int .i64 0, .int .i64 0, .slice none 0 0, .slice none 0 0, .slice none 0 0, .slice none 0 0, .slice none 0 0]) HW5.out 4
  have f4 : (w4.alloc (.cells #[.slice y.Ab d.bytes.length y.cb, .slice y.Ah d.host.length y.ch, .slice y.Am d.mail.length y.cm, .slice y.An d.nums.length y.cn, .slice y.At d.texts.length y.ct] 40)).frozen? ⟨w.heap.size, 4, none⟩ = false := Whole.frozen (L := [.slice none 0 0, .int .i64 0, .int .i64 0, .int .i64 0, .slice none 0 0, .slice none 0 0, .slice none 0 0, .slice none 0 0, .slice none 0 0]) HW5.out 4
  have r5 : (w4.alloc (.cells #[.slice y.Ab d.bytes.length y.cb, .slice y.Ah d.host.length y.ch, .slice y.Am d.mail.length y.cm, .slice y.An d.nums.length y.cn, .slice y.At d.texts.length y.ct] 40)).cell? ⟨w.heap.size, 5, none⟩ = some (.slice none 0 0) := Whole.cell (L := [.slice none 0 0, .int .i64 0, .int .i64 0, .int .i64 0, .slice none 0 0, .slice none 0 0, .slice none 0 0, .slice none 0 0, .slice none 0 0]) HW5.out 5
  have f5 : (w4.alloc (.cells #[.slice y.Ab d.bytes.length y.cb, .slice y.Ah d.host.length y.ch, .slice y.Am d.mail.length y.cm, .slice y.An d.nums.length y.cn, .slice y.At d.texts.length y.ct] 40)).frozen? ⟨w.heap.size, 5, none⟩ = false := Whole.frozen (L := [.slice none 0 0, .int .i64 0, .int .i64 0, .int .i64 0, .slice none 0 0, .slice none 0 0, .slice none 0 0, .slice none 0 0, .slice none 0 0]) HW5.out 5
  have r6 : (w4.alloc (.cells #[.slice y.Ab d.bytes.length y.cb, .slice y.Ah d.host.length y.ch, .slice y.Am d.mail.length y.cm, .slice y.An d.nums.length y.cn, .slice y.At d.texts.length y.ct] 40)).cell? ⟨w.heap.size, 6, none⟩ = some (.slice none 0 0) := Whole.cell (L := [.slice none 0 0, .int .i64 0, .int .i64 0, .int .i64 0, .slice none 0 0, .slice none 0 0, .slice none 0 0, .slice none 0 0, .slice none 0 0]) HW5.out 6
  have f6 : (w4.alloc (.cells #[.slice y.Ab d.bytes.length y.cb, .slice y.Ah d.host.length y.ch, .slice y.Am d.mail.length y.cm, .slice y.An d.nums.length y.cn, .slice y.At d.texts.length y.ct] 40)).frozen? ⟨w.heap.size, 6, none⟩ = false := Whole.frozen (L := [.slice none 0 0, .int .i64 0, .int .i64 0, .int .i64 0, .slice none 0 0, .slice none 0 0, .slice none 0 0, .slice none 0 0, .slice none 0 0]) HW5.out 6
  have r7 : (w4.alloc (.cells #[.slice y.Ab d.bytes.length y.cb, .slice y.Ah d.host.length y.ch, .slice y.Am d.mail.length y.cm, .slice y.An d.nums.length y.cn, .slice y.At d.texts.length y.ct] 40)).cell? ⟨w.heap.size, 7, none⟩ = some (.slice none 0 0) := Whole.cell (L := [.slice none 0 0, .int .i64 0, .int .i64 0, .int .i64 0, .slice none 0 0, .slice none 0 0, .slice none 0 0, .slice none 0 0, .slice none 0 0]) HW5.out 7
  have f7 : (w4.alloc (.cells #[.slice y.Ab d.bytes.length y.cb, .slice y.Ah d.host.length y.ch, .slice y.Am d.mail.length y.cm, .slice y.An d.nums.length y.cn, .slice y.At d.texts.length y.ct] 40)).frozen? ⟨w.heap.size, 7, none⟩ = false := Whole.frozen (L := [.slice none 0 0, .int .i64 0, .int .i64 0, .int .i64 0, .slice none 0 0, .slice none 0 0, .slice none 0 0, .slice none 0 0, .slice none 0 0]) HW5.out 7
  have r8 : (w4.alloc (.cells #[.slice y.Ab d.bytes.length y.cb, .slice y.Ah d.host.length y.ch, .slice y.Am d.mail.length y.cm, .slice y.An d.nums.length y.cn, .slice y.At d.texts.length y.ct] 40)).cell? ⟨w.heap.size, 8, none⟩ = some (.slice none 0 0) := Whole.cell (L := [.slice none 0 0, .int .i64 0, .int .i64 0, .int .i64 0, .slice none 0 0, .slice none 0 0, .slice none 0 0, .slice none 0 0, .slice none 0 0]) HW5.out 8
  have f8 : (w4.alloc (.cells #[.slice y.Ab d.bytes.length y.cb, .slice y.Ah d.host.length y.ch, .slice y.Am d.mail.length y.cm, .slice y.An d.nums.length y.cn, .slice y.At d.texts.length y.ct] 40)).frozen? ⟨w.heap.size, 8, none⟩ = false := Whole.frozen (L := [.slice none 0 0, .int .i64 0, .int .i64 0, .int .i64 0, .slice none 0 0, .slice none 0 0, .slice none 0 0, .slice none 0 0, .slice none 0 0]) HW5.out 8
  go_wp2
  go_region
  obtain ⟨V, hV⟩ : ∃ V, V = (((((((((w4.alloc (.cells #[.slice y.Ab d.bytes.length y.cb, .slice y.Ah d.host.length y.ch, .slice y.Am d.mail.length y.cm, .slice y.An d.nums.length y.cn, .slice y.At d.texts.length y.ct] 40)).setCell ⟨w.heap.size, 0, none⟩ (.slice A1 n.length c1)).setCell ⟨w.heap.size, 1, none⟩ (.int .i64 (z0 : Int))).setCell ⟨w.heap.size, 2, none⟩ (.int .i64 (z1 : Int))).setCell ⟨w.heap.size, 3, none⟩ (.int .i64 (z2 : Int))).setCell ⟨w.heap.size, 4, none⟩ (.slice y.Ab d.bytes.length y.cb)).setCell ⟨w.heap.size, 5, none⟩ (.slice y.Ah d.host.length y.ch)).setCell ⟨w.heap.size, 6, none⟩ (.slice y.Am d.mail.length y.cm)).setCell ⟨w.heap.size, 7, none⟩ (.slice y.An d.nums.length y.cn)).setCell ⟨w.heap.size, 8, none⟩ (.slice y.At d.texts.length y.ct) := ⟨_, rfl⟩
  rw [← hV]
  have HWV := Lib.hid (show Whole V w.heap.size 42 [.slice A1 n.length c1, .int .i64 (z0 : Int), .int .i64 (z1 : Int), .int .i64 (z2 : Int), .slice y.Ab d.bytes.length y.cb, .slice y.Ah d.host.length y.ch, .slice y.Am d.mail.length y.cm, .slice y.An d.nums.length y.cn, .slice y.At d.texts.length y.ct] by rw [hV]; exact ((((((((HW5.out.set_ 0 _).set_ 1 _).set_ 2 _).set_ 3 _).set_ 4 _).set_ 5 _).set_ 6 _).set_ 7 _).set_ 8 _)
  have hbv : Below w.heap.size (w4.alloc (.cells #[.slice y.Ab d.bytes.length y.cb, .slice y.Ah d.host.length y.ch, .slice y.Am d.mail.length y.cm, .slice y.An d.nums.length y.cn, .slice y.At d.texts.length y.ct] 40)) V := by
    rw [hV]
    have hs (W : World) (i : Nat) (u : Value) : Below w.heap.size W (W.setCell ⟨w.heap.size, i, none⟩ u) := (Below.refl _ W).setCell (p := ⟨w.heap.size, i, none⟩) (Nat.le_refl _) u
    exact ((((((((hs _ 0 _).trans (hs _ 1 _)).trans (hs _ 2 _)).trans (hs _ 3 _)).trans (hs _ 4 _)).trans (hs _ 5 _)).trans (hs _ 6 _)).trans (hs _ 7 _)).trans (hs _ 8 _)
  have hhv : ∀ j, j ≠ w.heap.size → V.heap[j]? = (w4.alloc (.cells #[.slice y.Ab d.bytes.length y.cb, .slice y.Ah d.host.length y.ch, .slice y.Am d.mail.length y.cm, .slice y.An d.nums.length y.cn, .slice y.At d.texts.length y.ct] 40)).heap[j]? := fun j hj => by
    rw [hV]
    have hs (W : World) (i : Nat) (u : Value) : (W.setCell ⟨w.heap.size, i, none⟩ u).heap[j]? = W.heap[j]? := Below.heap_setCell W ⟨w.heap.size, i, none⟩ u j hj
    rw [hs, hs, hs, hs, hs, hs, hs, hs, hs]
  have HBV := Lib.hid (HB5.out.trans hbv)
  have hs0' : w.heap.size + 1 ≤ (w.alloc (.cells #[.slice none 0 0, .int .i64 0, .int .i64 0, .int .i64 0, .slice none 0 0, .slice none 0 0, .slice none 0 0, .slice none 0 0, .slice none 0 0] 42)).heap.size := by simp
  have HOV := Lib.hid (show OwnR V w.heap.size ⟨A1, c1, y⟩ ⟨n, z0, z1, z2, d⟩ from by
    have hk : ∀ {B : Nat} {e : TypeId} {s m : Nat} {u : Value} {ys : List Value}, (w4.alloc (.cells #[.slice y.Ab d.bytes.length y.cb, .slice y.Ah d.host.length y.ch, .slice y.Am d.mail.length y.cm, .slice y.An d.nums.length y.cn, .slice y.At d.texts.length y.ct] 40)).ownsRow B e s u m ys → w.heap.size + 1 ≤ B → ∀ g, u.ownBlock = some g → V.heap[g]? = (w4.alloc (.cells #[.slice y.Ab d.bytes.length y.cb, .slice y.Ah d.host.length y.ch, .slice y.Am d.mail.length y.cm, .slice y.An d.nums.length y.cn, .slice y.At d.texts.length y.ct] 40)).heap[g]? := fun ho hB g hj => hhv g (by have := (ho.lt g hj).1; omega)
    have hd := HY5.out
    have hq : w.heap.size + 1 ≤ w2.heap.size + 1 := by omega
    exact ⟨own_mono (own_keep HO5.out (hk HO5.out hs0')) (by omega), OwnD.monoB ⟨own_keep hd.b (hk hd.b hq), own_keep hd.h (hk hd.h hq), own_keep hd.m (hk hd.m hq), own_keep hd.n (hk hd.n hq), own_keep hd.t (hk hd.t hq)⟩ (by omega)⟩)
  have v0 : V.cell? ⟨w.heap.size, 0, none⟩ = some (.slice A1 n.length c1) := Whole.cell (L := [.slice A1 n.length c1, .int .i64 (z0 : Int), .int .i64 (z1 : Int), .int .i64 (z2 : Int), .slice y.Ab d.bytes.length y.cb, .slice y.Ah d.host.length y.ch, .slice y.Am d.mail.length y.cm, .slice y.An d.nums.length y.cn, .slice y.At d.texts.length y.ct]) HWV.out 0
  have v1 : V.cell? ⟨w.heap.size, 1, none⟩ = some (.int .i64 (z0 : Int)) := Whole.cell (L := [.slice A1 n.length c1, .int .i64 (z0 : Int), .int .i64 (z1 : Int), .int .i64 (z2 : Int), .slice y.Ab d.bytes.length y.cb, .slice y.Ah d.host.length y.ch, .slice y.Am d.mail.length y.cm, .slice y.An d.nums.length y.cn, .slice y.At d.texts.length y.ct]) HWV.out 1
  have v2 : V.cell? ⟨w.heap.size, 2, none⟩ = some (.int .i64 (z1 : Int)) := Whole.cell (L := [.slice A1 n.length c1, .int .i64 (z0 : Int), .int .i64 (z1 : Int), .int .i64 (z2 : Int), .slice y.Ab d.bytes.length y.cb, .slice y.Ah d.host.length y.ch, .slice y.Am d.mail.length y.cm, .slice y.An d.nums.length y.cn, .slice y.At d.texts.length y.ct]) HWV.out 2
  have v3 : V.cell? ⟨w.heap.size, 3, none⟩ = some (.int .i64 (z2 : Int)) := Whole.cell (L := [.slice A1 n.length c1, .int .i64 (z0 : Int), .int .i64 (z1 : Int), .int .i64 (z2 : Int), .slice y.Ab d.bytes.length y.cb, .slice y.Ah d.host.length y.ch, .slice y.Am d.mail.length y.cm, .slice y.An d.nums.length y.cn, .slice y.At d.texts.length y.ct]) HWV.out 3
  have v4 : V.cell? ⟨w.heap.size, 4, none⟩ = some (.slice y.Ab d.bytes.length y.cb) := Whole.cell (L := [.slice A1 n.length c1, .int .i64 (z0 : Int), .int .i64 (z1 : Int), .int .i64 (z2 : Int), .slice y.Ab d.bytes.length y.cb, .slice y.Ah d.host.length y.ch, .slice y.Am d.mail.length y.cm, .slice y.An d.nums.length y.cn, .slice y.At d.texts.length y.ct]) HWV.out 4
  have v5 : V.cell? ⟨w.heap.size, 5, none⟩ = some (.slice y.Ah d.host.length y.ch) := Whole.cell (L := [.slice A1 n.length c1, .int .i64 (z0 : Int), .int .i64 (z1 : Int), .int .i64 (z2 : Int), .slice y.Ab d.bytes.length y.cb, .slice y.Ah d.host.length y.ch, .slice y.Am d.mail.length y.cm, .slice y.An d.nums.length y.cn, .slice y.At d.texts.length y.ct]) HWV.out 5
  have v6 : V.cell? ⟨w.heap.size, 6, none⟩ = some (.slice y.Am d.mail.length y.cm) := Whole.cell (L := [.slice A1 n.length c1, .int .i64 (z0 : Int), .int .i64 (z1 : Int), .int .i64 (z2 : Int), .slice y.Ab d.bytes.length y.cb, .slice y.Ah d.host.length y.ch, .slice y.Am d.mail.length y.cm, .slice y.An d.nums.length y.cn, .slice y.At d.texts.length y.ct]) HWV.out 6
  have v7 : V.cell? ⟨w.heap.size, 7, none⟩ = some (.slice y.An d.nums.length y.cn) := Whole.cell (L := [.slice A1 n.length c1, .int .i64 (z0 : Int), .int .i64 (z1 : Int), .int .i64 (z2 : Int), .slice y.Ab d.bytes.length y.cb, .slice y.Ah d.host.length y.ch, .slice y.Am d.mail.length y.cm, .slice y.An d.nums.length y.cn, .slice y.At d.texts.length y.ct]) HWV.out 7
  have v8 : V.cell? ⟨w.heap.size, 8, none⟩ = some (.slice y.At d.texts.length y.ct) := Whole.cell (L := [.slice A1 n.length c1, .int .i64 (z0 : Int), .int .i64 (z1 : Int), .int .i64 (z2 : Int), .slice y.Ab d.bytes.length y.cb, .slice y.Ah d.host.length y.ch, .slice y.Am d.mail.length y.cm, .slice y.An d.nums.length y.cn, .slice y.At d.texts.length y.ct]) HWV.out 8
  clear hV hbv hhv r0 f0 r1 f1 r2 f2 r3 f3 r4 f4 r5 f5 r6 f6 r7 f7 r8 f8 g0 g1 g2 g3
  go_wp2
  have HF7 := Lib.hid (show getRR b a = (⟨n, z0, z1, z2, d⟩, p + 10 + z3, 0) from HF6.out)
  rw [HF7.out]
  refine ⟨rfl, .tuple #[RV.val ⟨A1, c1, y⟩ ⟨n, z0, z1, z2, d⟩, .int .i64 ((p + 10 + z3 : Nat) : Int), .int .i64 ((0 : Nat) : Int)], ?_, ⟨A1, c1, y⟩, rfl, HOV.out.keep (fun _ _ => rfl), HBV.out.drew⟩
  simp [results, Tryz.results79, go_sem, v0, v1, v2, v3, v4, v5, v6, v7, v8]

end Go.Proofs.YtjkjhpaeckkpjaaGreat

namespace Go.Proofs.YtjkjhpaeckkpjaaGreat
open Go.RowKit

/-- What stands where. -/
theorem partsR {s : Sh} {d : Dt} (X : List UInt8) {R : Rs} (G0 : GoodR X R) (sp : SoundP s d) : ∃ B1 x2 x3 : List UInt8,
    (putD s d X R).1 = ((x3 ++ numsW 4 (d.nums.drop s.ahead)) ++ textsW d.texts) ++ d.bytes ∧ B1 = X ++ numsW 2 (d.nums.take s.ahead) ∧ (∃ S, x2 = B1 ++ S) ∧ (∃ S, x3 = x2 ++ S) ∧
    (∀ C en, x2.length ≤ en → (if s.host = true then nameR (x2 ++ C) B1.length en else .ok ([], B1.length)) = .ok (d.host, x2.length)) ∧
    (∀ C en, x3.length ≤ en → (if s.mail = true then nameR (x3 ++ C) x2.length en else .ok ([], x2.length)) = .ok (d.mail, x3.length)) ∧
    (s.host = true → B1.length < x2.length ∧ ∀ C en, en < x2.length → nameR (x2 ++ C) B1.length en = .error 3) ∧ (s.host = false → x2 = B1) ∧ (s.mail = false → x3 = x2) ∧ GoodR (putD s d X R).1 (putD s d X R).2 := by
  obtain ⟨B1, hB1⟩ : ∃ x, x = X ++ numsW 2 (d.nums.take s.ahead) := ⟨_, rfl⟩
  have G1 : GoodR B1 R := by rw [hB1]; exact G0.more _
  obtain ⟨x2, hx2⟩ : ∃ x, x = putH s d X R := ⟨_, rfl⟩
  have h2 : (∃ S, x2.1 = B1 ++ S) ∧ GoodR x2.1 x2.2 ∧ (∀ C en, x2.1.length ≤ en → (if s.host = true then nameR (x2.1 ++ C) B1.length en else .ok ([], B1.length)) = .ok (d.host, x2.1.length)) ∧
      (s.host = true → B1.length < x2.1.length ∧ ∀ C en, en < x2.1.length → nameR (x2.1 ++ C) B1.length en = .error 3) ∧ (s.host = false → x2.1 = B1) := by
    cases hh : s.host
    · have e : x2 = (B1, R) := by rw [hx2, putH, hh, if_neg (by decide), hB1]
      rw [e, sp.h0 hh]
      exact ⟨⟨[], by simp⟩, G1, fun C en _ => rfl, fun h => (by cases h), fun _ => rfl⟩
    · have hs := soundN_parts (sp.h hh)
      have e : x2 = nameW s.short d.host B1 R := by rw [hx2, putH, hh, if_pos rfl, hB1]
      obtain ⟨hS, hat, hg⟩ := nameW_good (short := s.short) hs.1 G1
      rw [← e] at hS hat hg
      refine ⟨hS, hg, fun C en he => ?_, fun _ => ⟨hat.pos, fun C en he => ?_⟩, fun h => (by cases h)⟩
      · rw [if_pos rfl]
        exact (nameR_back (en := en) (hat.more C) (by have := hat.pos; omega) hs.2).2.1 he
      · exact (nameR_back (en := en) (hat.more C) (by have := hat.pos; omega) hs.2).2.2 he
  obtain ⟨hS2, G2, R2, E2, N2⟩ := h2
  obtain ⟨x3, hx3⟩ : ∃ x, x = putM s d x2 := ⟨_, rfl⟩
  have h3 : (∃ S, x3.1 = x2.1 ++ S) ∧ GoodR x3.1 x3.2 ∧ (∀ C en, x3.1.length ≤ en → (if s.mail = true then nameR (x3.1 ++ C) x2.1.length en else .ok ([], x2.1.length)) = .ok (d.mail, x3.1.length)) ∧ (s.mail = false → x3.1 = x2.1) := by
    cases hh : s.mail
    · have e : x3 = x2 := by rw [hx3, putM, hh, if_neg (by decide)]
      rw [e, sp.m0 hh]
      exact ⟨⟨[], by simp⟩, G2, fun C en _ => rfl, fun _ => rfl⟩
    · have hs := soundN_parts (sp.m hh)
      have e : x3 = nameW s.short d.mail x2.1 x2.2 := by rw [hx3, putM, hh, if_pos rfl]
      obtain ⟨hS, hat, hg⟩ := nameW_good (short := s.short) hs.1 G2
      rw [← e] at hS hat hg
      refine ⟨hS, hg, fun C en he => ?_, fun h => (by cases h)⟩
      rw [if_pos rfl]
      exact (nameR_back (en := en) (hat.more C) (by have := hat.pos; omega) hs.2).2.1 he
  obtain ⟨hS3, G3, R3, N3⟩ := h3
  exact ⟨B1, x2.1, x3.1, by rw [putD, ← hx2, ← hx3], hB1, hS2, hS3, R2, R3, E2, N2, N3, by rw [putD, ← hx2, ← hx3]; exact ((G3.more _).more _).more _⟩

/-- The data that was written is read, whatever stands ahead and behind. -/
theorem readR {s : Sh} {d : Dt} {X Y : List UInt8} {R : Rs} (G0 : GoodR X R) (sp : SoundP s d) (sh : ShP s) : readD ((putD s d X R).1 ++ Y) X.length (putD s d X R).1.length s = .ok d := by
  have hn := nums_fit sp.ok
  have hlt : (d.nums.take s.ahead).length = s.ahead := by rw [List.length_take, sp.n]; omega
  have hld : (d.nums.drop s.ahead).length = s.behind := by rw [List.length_drop, sp.n]; omega
  obtain ⟨B1, x2, x3, hput, hB1, ⟨S2, hS2⟩, ⟨S3, hS3⟩, R2, R3, _, _, _, _⟩ := partsR X G0 sp
  rw [hput]
  obtain ⟨T, hT⟩ : ∃ T, T = (((x3 ++ numsW 4 (d.nums.drop s.ahead)) ++ textsW d.texts) ++ d.bytes) ++ Y := ⟨_, rfl⟩
  obtain ⟨en, hen⟩ : ∃ en, en = (((x3 ++ numsW 4 (d.nums.drop s.ahead)) ++ textsW d.texts) ++ d.bytes).length := ⟨_, rfl⟩
  rw [← hT, ← hen]
  have l1 : x3.length ≤ en := by rw [hen]; simp only [List.length_append]; omega
  have l2 : x2.length ≤ x3.length := by rw [hS3, List.length_append]; omega
  have l3 : B1.length ≤ x2.length := by rw [hS2, List.length_append]; omega
  have q1 : numsR T X.length en 2 s.ahead = .ok (d.nums.take s.ahead, B1.length) := by
    have hTx : T = (X ++ numsW ((2 : Nat) : Int) (d.nums.take s.ahead)) ++ ((S2 ++ S3) ++ (numsW 4 (d.nums.drop s.ahead) ++ (textsW d.texts ++ (d.bytes ++ Y)))) := by
      rw [hT, hS3, hS2, hB1]
      simp [List.append_assoc]
    have hle : (X ++ numsW ((2 : Nat) : Int) (d.nums.take s.ahead)).length ≤ en := by
      have h1 : B1.length ≤ en := by omega
      rw [hB1] at h1
      exact h1
    have h := numsR_back (X := X) (Y := (S2 ++ S3) ++ (numsW 4 (d.nums.drop s.ahead) ++ (textsW d.texts ++ (d.bytes ++ Y)))) (en := en) hlt hn.1 hle
    rw [← hTx] at h
    rw [hB1]
    exact h
  have q2 := R2 (S3 ++ (numsW 4 (d.nums.drop s.ahead) ++ (textsW d.texts ++ (d.bytes ++ Y)))) en (by omega)
  rw [show x2 ++ (S3 ++ (numsW 4 (d.nums.drop s.ahead) ++ (textsW d.texts ++ (d.bytes ++ Y)))) = T by rw [hT, hS3]; simp [List.append_assoc]] at q2
  have q3 := R3 (numsW 4 (d.nums.drop s.ahead) ++ (textsW d.texts ++ (d.bytes ++ Y))) en l1
  rw [show x3 ++ (numsW 4 (d.nums.drop s.ahead) ++ (textsW d.texts ++ (d.bytes ++ Y))) = T by rw [hT]; simp [List.append_assoc]] at q3
  have l4 : (x3 ++ numsW 4 (d.nums.drop s.ahead)).length ≤ en := by rw [hen]; simp only [List.length_append]; omega
  have q4 : numsR T x3.length en 4 s.behind = .ok (d.nums.drop s.ahead, (x3 ++ numsW 4 (d.nums.drop s.ahead)).length) := by
    have h := numsR_back (s := 4) (X := x3) (Y := textsW d.texts ++ (d.bytes ++ Y)) (en := en) hld hn.2 l4
    rw [show (x3 ++ numsW ((4 : Nat) : Int) (d.nums.drop s.ahead)) ++ (textsW d.texts ++ (d.bytes ++ Y)) = T by rw [hT]; simp [List.append_assoc]] at h
    exact h
  obtain ⟨x4, hx4⟩ : ∃ x, x = x3 ++ numsW 4 (d.nums.drop s.ahead) := ⟨_, rfl⟩
  rw [← hx4] at q4 l4 hT hen
  have q5 : (if s.texts = true then textsR T x4.length en [] else .ok ([], x4.length)) = .ok (d.texts, (x4 ++ textsW d.texts).length) := by
    cases ht : s.texts
    · rw [sp.t0 ht, if_neg (by decide)]
      simp [textsW]
    · rw [if_pos rfl]
      have hb0 : d.bytes = [] := List.eq_nil_of_length_eq_zero (by have h1 := sp.b; have h2 := (sh.t ht).2.2.2.2.2; omega)
      have h := textsR_back d.texts [] x4 Y (by rw [List.nil_append]; intro e; have := sp.t1 ht; rw [e] at this; simp at this) (by have := sp.t; simpa using this) sp.tl
      have e1 : (x4 ++ textsW d.texts) ++ Y = T := by rw [hT, hb0]; simp
      have e2 : (x4 ++ textsW d.texts).length = en := by rw [hen, hb0]; simp
      rw [e1, e2, List.nil_append] at h
      rw [e2]
      exact h
  have q6 : bytesR T (x4 ++ textsW d.texts).length en s.least s.most = .ok (d.bytes, en) := by
    have h := bytesR_back (X := x4 ++ textsW d.texts) (Y := Y) sp.bl sp.b
    rw [← hT, ← hen] at h
    exact h
  unfold readD
  rw [q1]
  simp only [bind, Except.bind]
  rw [q2]
  simp only []
  rw [q3]
  simp only []
  rw [q4]
  simp only []
  rw [q5]
  simp only []
  rw [q6]
  simp


/-- The read of what was written. -/
theorem getR_data {k : Int} {d : Dt} {X Y : List UInt8} {R : Rs} (G0 : GoodR X R) (hs : soundD k d = true) : X.length ≤ (putD (shN k) d X R).1.length ∧ (∃ S, (putD (shN k) d X R).1 = X ++ S) ∧ GoodR (putD (shN k) d X R).1 (putD (shN k) d X R).2 ∧
    getD ((putD (shN k) d X R).1 ++ Y) X.length (((putD (shN k) d X R).1.length - X.length : Nat) : Int) k = (d, 0) := by
  have sp := soundP hs
  have hk : kindB k = true := by unfold soundD at hs; simp only [Bool.and_eq_true] at hs; exact hs.1
  obtain ⟨B1, x2, x3, hput, hB1, ⟨S2, hS2⟩, ⟨S3, hS3⟩, _, _, _, _, _, hg⟩ := partsR X G0 sp
  have hS : ∃ S, (putD (shN k) d X R).1 = X ++ S := ⟨_, by rw [hput, hS3, hS2, hB1]; simp only [List.append_assoc]; rfl⟩
  have hle : X.length ≤ (putD (shN k) d X R).1.length := by obtain ⟨S, e⟩ := hS; rw [e, List.length_append]; omega
  have hr := readR (Y := Y) G0 sp (shP k)
  refine ⟨hle, hS, hg, ?_⟩
  unfold getD
  rw [if_neg (by rw [hk]; first | (simp; done) | (simp; omega)), if_neg (by rw [List.length_append]; omega), Int.toNat_natCast, show ((X.length : Int) + (((putD (shN k) d X R).1.length - X.length : Nat) : Int)).toNat = (putD (shN k) d X R).1.length by omega, hr]

/-- What is written of a name hangs on the place alone. -/
theorem nameW_shift (short : Bool) : ∀ (n : List (List UInt8)) (B C : List UInt8) (R : Rs), B.length = C.length → ∃ W R', nameW short n B R = (B ++ W, R') ∧ nameW short n C R = (C ++ W, R')
  | [], B, C, R, _ => ⟨[0], R, rfl, rfl⟩
  | l :: n, B, C, R, h => by
    cases hf : findR R (l :: n) with
    | none =>
      obtain ⟨W, R', h1, h2⟩ := nameW_shift short n (B ++ UInt8.ofNat l.length :: l) (C ++ UInt8.ofNat l.length :: l) (if B.length < 16384 then R ++ [(l :: n, B.length)] else R) (by simp [h])
      refine ⟨(UInt8.ofNat l.length :: l) ++ W, R', ?_, ?_⟩
      · rw [nameW_miss hf, h1]; simp
      · rw [nameW_miss hf, ← h, h2]; simp
    | some k =>
      cases short with
      | false =>
        obtain ⟨W, R', h1, h2⟩ := nameW_shift false n (B ++ UInt8.ofNat l.length :: l) (C ++ UInt8.ofNat l.length :: l) (if B.length < 16384 then R ++ [(l :: n, B.length)] else R) (by simp [h])
        refine ⟨(UInt8.ofNat l.length :: l) ++ W, R', ?_, ?_⟩
        · rw [nameW_long, h1]; simp
        · rw [nameW_long, ← h, h2]; simp
      | true => exact ⟨digs (49152 + k) 2, R, nameW_hit hf, nameW_hit hf⟩
theorem putD_shift (s : Sh) (d : Dt) (B C : List UInt8) (R : Rs) (h : B.length = C.length) : ∃ W R', putD s d B R = (B ++ W, R') ∧ putD s d C R = (C ++ W, R') := by
  have hH : ∃ W R', putH s d B R = (B ++ W, R') ∧ putH s d C R = (C ++ W, R') := by
    unfold putH
    split
    · obtain ⟨W, R', h1, h2⟩ := nameW_shift s.short d.host (B ++ numsW 2 (d.nums.take s.ahead)) (C ++ numsW 2 (d.nums.take s.ahead)) R (by simp [h])
      exact ⟨numsW 2 (d.nums.take s.ahead) ++ W, R', by rw [h1]; simp, by rw [h2]; simp⟩
    · exact ⟨numsW 2 (d.nums.take s.ahead), R, rfl, rfl⟩
  obtain ⟨W, R1, h1, h2⟩ := hH
  have hM : ∃ W2 R', putM s d (B ++ W, R1) = (B ++ W2, R') ∧ putM s d (C ++ W, R1) = (C ++ W2, R') := by
    unfold putM
    split
    · obtain ⟨W2, R', h3, h4⟩ := nameW_shift s.short d.mail (B ++ W) (C ++ W) R1 (by simp [h])
      exact ⟨W ++ W2, R', by rw [h3]; simp, by rw [h4]; simp⟩
    · exact ⟨W, R1, rfl, rfl⟩
  obtain ⟨W2, R', h3, h4⟩ := hM
  refine ⟨(W2 ++ numsW 4 (d.nums.drop s.ahead)) ++ textsW d.texts ++ d.bytes, R', ?_, ?_⟩
  · unfold putD
    rw [h1, h3]
    simp
  · unfold putD
    rw [h2, h4]
    simp

end Go.Proofs.YtjkjhpaeckkpjaaGreat
