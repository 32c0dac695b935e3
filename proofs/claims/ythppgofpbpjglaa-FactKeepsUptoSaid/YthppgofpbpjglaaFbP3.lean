/-
  The contract of a Writer's note: a rest's place is kept, if it is the first one and can be led to.
-/
import Derived.Test.YthppgofpbpjglaaFbP2
import Derived.Carry
import Derived.Test.YthppgofpbpjglaaFbP1
import Derived.StillTail
namespace Go.Proofs.Ythppgofpbpjglaa
open Go.RowKit

theorem keyR_ne {n r : List (List UInt8)} (hn : n.all fitL = true) (hr : r.all fitL = true) (h : n ≠ r) : keyR n ≠ keyR r := fun e => by
  unfold keyR at e
  injection e with e
  exact h (encN_inj hn hr e)
theorem SaysR.empty : SaysR (.map []) [] := ⟨Maps.isMap_empty, fun _ _ => ⟨rfl, rfl⟩⟩
theorem SaysR.same {D : DataW Unit} {R : Rs} {r : List (List UInt8)} {a : Nat} (k : Nat) (h : SaysR D R) (ha : findR R r = some a) : SaysR D (R ++ [(r, k)]) := by
  refine ⟨h.1, fun n hn => ?_⟩
  have e : findR (R ++ [(r, k)]) n = findR R n := by
    rw [findR_snoc]
    by_cases hrn : r = n
    · subst hrn; rw [ha]; rfl
    · rw [if_neg hrn]; cases findR R n <;> rfl
  rw [e]
  exact h.2 n hn
theorem SaysR.put {D : DataW Unit} {R : Rs} {r : List (List UInt8)} (k : Nat) (h : SaysR D R) (hr : r.all fitL = true) (hf : findR R r = none) : SaysR (D.put (keyR r) (.lit (.int .i64 (k : Int)))) (R ++ [(r, k)]) := by
  refine ⟨h.1.put _ _, fun n hn => ?_⟩
  rw [findR_snoc]
  by_cases hrn : r = n
  · subst hrn
    rw [hf, if_pos rfl, Maps.has_put_same h.1 (by simp [keyR, WideAt.IsKeyLit]), Maps.atKey_put_same h.1 (by simp [keyR, WideAt.IsKeyLit])]
    exact ⟨rfl, rfl⟩
  · have hk := keyR_ne hn hr (Ne.symm hrn)
    rw [if_neg hrn, Maps.has_put_other hk, Maps.atKey_put_other hk, Option.or_none]
    exact h.2 n hn

/-- The rests behind a note. -/
def noteR (B : List UInt8) (R : Rs) (r : List (List UInt8)) : Rs := if B.length < 16384 then R ++ [(r, B.length)] else R

theorem str_keyed : Maps.Keyed Try.prog 9 := Maps.string_keyed Try.underlying9
theorem int_zero (w : World) : (zeroValue 3).run Try.prog w = .ok (.int .i64 0) w := by kernel_rfl
theorem key_enc {r : List (List UInt8)} (h : (encN r).length ≤ maxLen) : keyOf Try.prog 9 (.string ⟨(encN r).toArray⟩) = some (keyR r) :=
  WideMaps.keyOf_string_mk Try.underlying9 (by simpa [ByteArray.size] using h)
theorem wf_nat {k : Nat} (h : k ≤ 9223372036854775807) : (Lit.int .i64 (k : Int)).wf = true := by
  have h1 : IntKind.i64.min = -9223372036854775808 := rfl
  have h2 : IntKind.i64.max = 9223372036854775807 := rfl
  simp only [Lit.wf, Bool.and_eq_true, decide_eq_true_eq]
  omega














































































































































































end Go.Proofs.Ythppgofpbpjglaa

namespace Go.Proofs.Ythppgofpbpjglaa
open Go.RowKit

theorem strCells_list (l : List UInt8) : Lib.strCells ⟨l.toArray⟩ = l.map bc := by
  simp only [Lib.strCells]
  rfl

def WholeRel (w : World) (n : List (List UInt8)) (v i : Value) (wr : World) : Prop :=
  ∃ k : Nat, k ≤ n.length ∧ i = .int .i64 k ∧ wr.ownsRow w.heap.size 5 1 v (encN (n.take k)).length ((encN (n.take k)).map bc) ∧ Below w.heap.size w wr ∧ w.heap.size ≤ wr.heap.size

theorem encN_take_succ {n : List (List UInt8)} {k : Nat} (h : k < n.length) : encN (n.take (k + 1)) = encN (n.take k) ++ (UInt8.ofNat (n[k]).length :: n[k]) := by
  rw [List.take_succ_eq_append_getElem h, encN_snoc]
theorem length_encN_take (n : List (List UInt8)) (k : Nat) : (encN (n.take k)).length < szN n := by
  have h1 := length_encN (n.take k)
  have h2 := szN_take_le n k
  omega






































































end Go.Proofs.Ythppgofpbpjglaa

namespace Go.Proofs.Ythppgofpbpjglaa
open Go.RowKit





















def strLenV : Value → Nat
  | .string s => s.size
  | _ => 0





theorem extract_take (l : List UInt8) (k : Nat) : (ByteArray.mk l.toArray).extract 0 k = ⟨(l.take k).toArray⟩ := by
  apply ByteArray.ext
  apply Array.toList_inj.1
  simp [ByteArray.data_extract]
theorem extract_tail (l : List UInt8) (k m : Nat) (hm : l.length ≤ m) : (ByteArray.mk l.toArray).extract k m = ⟨(l.drop k).toArray⟩ := by
  apply ByteArray.ext
  apply Array.toList_inj.1
  simp [ByteArray.data_extract]
  exact List.take_of_length_le (by simp; omega)

theorem putL_zero : putL [] 0 1 = [0] := by decide +kernel
theorem putL_ptr {k : Nat} (hk : k < 16384) : putL [] (49152 + (k : Int)) 2 = digs (49152 + k) 2 := by
  have hf : fitB ((49152 + k : Nat) : Int) ((2 : Nat) : Int) = true := fitB_true (by omega) (by omega) (by omega) (by simp; omega)
  have h := putL_yes (l := []) hf
  simpa using h
theorem noteR_good {B : List UInt8} {R : Rs} {r : List (List UInt8)} (h : ∀ x ∈ R, x.2 < 16384) : (∀ x ∈ noteR B R r, x.2 < 16384) ∧ (noteR B R r).length ≤ R.length + 1 := by
  unfold noteR
  split
  · rename_i hb
    refine ⟨fun x hx => ?_, by simp⟩
    rcases List.mem_append.1 hx with hx | hx
    · exact h x hx
    · rw [List.mem_singleton.1 hx]; exact hb
  · exact ⟨h, by omega⟩


































































































































































































end Go.Proofs.Ythppgofpbpjglaa

namespace Go.Proofs.Ythppgofpbpjglaa
open Go.RowKit

def numsW (s : Int) : List Int → List UInt8
  | [] => []
  | n :: l => putL [] n s ++ numsW s l
theorem numsW_snoc (s : Int) (n : Int) : ∀ l, numsW s (l ++ [n]) = numsW s l ++ putL [] n s
  | [] => by simp [numsW]
  | m :: l => by simp [numsW, numsW_snoc s n l]
theorem length_putL (n s : Int) : (putL [] n s).length ≤ 7 := by
  unfold putL
  split
  · rename_i h
    simp only [fitB, decide_eq_true_eq] at h
    simp [length_digs]
    omega
  · simp
theorem length_numsW (s : Int) : ∀ l : List Int, (numsW s l).length ≤ 7 * l.length
  | [] => by simp [numsW]
  | n :: l => by
    have h1 := length_numsW s l
    have h2 := length_putL n s
    simp only [numsW, List.length_append, List.length_cons]
    omega
def textsW : List (List UInt8) → List UInt8
  | [] => []
  | t :: l => putL [] (t.length : Int) 1 ++ (t ++ textsW l)
theorem textsW_snoc (t : List UInt8) : ∀ l, textsW (l ++ [t]) = textsW l ++ (putL [] (t.length : Int) 1 ++ t)
  | [] => by simp [textsW]
  | m :: l => by simp [textsW, textsW_snoc t l]
theorem length_textsW (M : Nat) : ∀ l : List (List UInt8), (∀ t ∈ l, t.length ≤ M) → (textsW l).length ≤ (M + 7) * l.length
  | [], _ => by simp [textsW]
  | t :: l, h => by
    have h1 := length_textsW M l fun x hx => h x (List.mem_cons_of_mem _ hx)
    have h2 := length_putL (t.length : Int) 1
    have h3 := h t (List.mem_cons_self ..)
    simp only [textsW, List.length_append, List.length_cons, Nat.mul_add]
    omega

/-- A row that stays while blocks in F turn. -/
def Stay (F : Nat → Prop) (w : World) (A : Option Addr) (xs : List Value) : Prop := ∀ w', Grew F w w' → Row w' w'.heap.size A xs
theorem Stay.row {F : Nat → Prop} {w : World} {A : Option Addr} {xs : List Value} (h : Stay F w A xs) : Row w w.heap.size A xs := h w (Grew.refl _ _)




























































































































end Go.Proofs.Ythppgofpbpjglaa

namespace Go.Proofs.Ythppgofpbpjglaa
open Go.RowKit

/-- What is written of data, behind B with the rests R. -/
def putH (s : Sh) (d : Dt) (B : List UInt8) (R : Rs) : List UInt8 × Rs := if s.host = true then nameW s.short d.host (B ++ numsW 2 (d.nums.take s.ahead)) R else (B ++ numsW 2 (d.nums.take s.ahead), R)
def putM (s : Sh) (d : Dt) (x : List UInt8 × Rs) : List UInt8 × Rs := if s.mail = true then nameW s.short d.mail x.1 x.2 else x
def putD (s : Sh) (d : Dt) (B : List UInt8) (R : Rs) : List UInt8 × Rs :=
  ((((putM s d (putH s d B R)).1 ++ numsW 4 (d.nums.drop s.ahead)) ++ textsW d.texts) ++ d.bytes, (putM s d (putH s d B R)).2)

/-- The block j holds a slice of the data. -/
def DV.owns (y : DV) (d : Dt) (j : Nat) : Prop := (y.vb d).ownBlock = some j ∨ (y.vh d).ownBlock = some j ∨ (y.vm d).ownBlock = some j ∨ (y.vn d).ownBlock = some j ∨ (y.vt d).ownBlock = some j
theorem OwnD.base {w : World} {B : Nat} {y : DV} {d : Dt} (h : OwnD w B y d) {j : Nat} (hj : y.owns d j) : B ≤ j ∧ j < w.heap.size := by
  rcases hj with e | e | e | e | e
  · exact h.b.lt j e
  · exact h.h.lt j e
  · exact h.m.lt j e
  · exact h.n.lt j e
  · exact h.t.lt j e
/-- What soundness says of the parts. -/
structure SoundP (s : Sh) (d : Dt) : Prop where
  h : s.host = true → soundN d.host = true
  m : s.mail = true → soundN d.mail = true
  h0 : s.host = false → d.host = []
  m0 : s.mail = false → d.mail = []
  n : d.nums.length = s.ahead + s.behind
  ok : numsOk s.ahead d.nums = true
  t : d.texts.length ≤ 64
  tl : ∀ t ∈ d.texts, t.length ≤ 255
  t0 : s.texts = false → d.texts = []
  t1 : s.texts = true → 1 ≤ d.texts.length
  b : d.bytes.length ≤ s.most
  bl : s.least ≤ d.bytes.length
theorem soundNm_yes {n : List (List UInt8)} {had : Bool} (h : soundNm n had = true) : (had = true → soundN n = true) ∧ (had = false → n = []) := by
  unfold soundNm at h
  constructor
  · rintro rfl
    by_cases h0 : n.length = 0
    · have : n = [] := List.eq_nil_of_length_eq_zero h0
      subst this
      decide
    · simpa [h0] using h
  · rintro rfl
    have h0 : n.length = 0 := by simpa using h
    exact List.eq_nil_of_length_eq_zero h0
theorem soundP {k : Int} {d : Dt} (h : soundD k d = true) : SoundP (shN k) d := by
  unfold soundD at h
  simp only [Bool.and_eq_true] at h
  obtain ⟨hk, hb, hh, hm, hn, ht⟩ := h
  have hh2 := soundNm_yes hh
  have hm2 := soundNm_yes hm
  unfold soundBs at hb
  unfold soundNs at hn
  unfold soundTs at ht
  simp only [Bool.and_eq_true, decide_eq_true_eq] at hb hn
  have ht2 : d.texts.length ≤ 64 ∧ (∀ t ∈ d.texts, t.length ≤ 255) ∧ ((shN k).texts = false → d.texts = []) ∧ ((shN k).texts = true → 1 ≤ d.texts.length) := by
    cases hf : (shN k).texts
    · rw [hf] at ht
      have h0 : d.texts.length = 0 := by simpa using ht
      have h1 : d.texts = [] := List.eq_nil_of_length_eq_zero h0
      refine ⟨by omega, fun t ht => (by rw [h1] at ht; cases ht), fun _ => h1, fun h => (by cases h)⟩
    · rw [hf] at ht
      simp only [if_true, Bool.and_eq_true, List.all_eq_true, decide_eq_true_eq] at ht
      exact ⟨ht.2.2, ht.1, fun h => (by cases h), fun _ => ht.2.1⟩
  exact ⟨hh2.1, hm2.1, hh2.2, hm2.2, hn.1, hn.2, ht2.1, ht2.2.1, ht2.2.2.1, ht2.2.2.2, hb.2, hb.1⟩
theorem soundN_parts {n : List (List UInt8)} (h : soundN n = true) : n.all fitL = true ∧ szN n ≤ 255 := by
  simpa [soundN] using h

theorem row_drop {w : World} {H k : Nat} {A : Option Addr} {xs : List Value} (h : Row w H A xs) : Row w H (A.map fun x => x.add k) (xs.drop k) := by
  intro hne
  obtain ⟨b, off, rfl, _, _⟩ := h (fun e => by rw [e] at hne; simp at hne)
  simp only [Option.map_some, addr_add]
  exact (h.drop rfl (k := k)) hne










































































































































































































































































































































































































































































































































































end Go.Proofs.Ythppgofpbpjglaa

namespace Go.Proofs.Ythppgofpbpjglaa
open Go.RowKit


























































































































theorem sound_sz {k : Int} {d : Dt} (h : soundD k d = true) : szN d.host ≤ maxLen ∧ szN d.mail ≤ maxLen := by
  have sp := soundP h
  have key : ∀ (n : List (List UInt8)) (b : Bool), (b = true → soundN n = true) → (b = false → n = []) → szN n ≤ maxLen := by
    intro n b h1 h2
    cases b
    · rw [h2 rfl]; decide
    · have := (soundN_parts (h1 rfl)).2
      unfold maxLen
      omega
  exact ⟨key _ _ sp.h sp.h0, key _ _ sp.m sp.m0⟩
















end Go.Proofs.Ythppgofpbpjglaa

namespace Go.Proofs.Ythppgofpbpjglaa
open Go.RowKit

/-- Every edge leads back. -/
def backB (ops : Array Oper) : Bool := (List.range ops.size).all fun i => ((ops[i]?).map fun o => o.after.all fun e => decide (e.on < i)).getD true
/-- Operation j yields into slot d0 + j, for each j below n; no guards. -/
def slotsB (ops : Array Oper) (d0 n : Nat) : Bool := (List.range n).all fun i => ((ops[i]?).map fun o => decide (o.dst = some (d0 + i)) && o.guard.isNone).getD false

structure Facts (ops : Array Oper) (d0 n : Nat) (a0 : Act) (S : World → Prop) (F : Nat → Value → World → Prop) (D : Nat → Nat → Value → Value → Prop) (l : Array Bool) (a : Act) (w : World) : Prop where
  inv : HeadInv .any ops n l
  defers : a.defers = a0.defers
  size : a.tmps.size = a0.tmps.size
  low : ∀ s, s < d0 → a.tmps[s]? = a0.tmps[s]?
  S : S w
  facts : ∀ j, j < n → l.getD j false = true → ∃ v, a.tmps[d0 + j]? = some v ∧ F j v w
  dist : ∀ j k, j < n → k < n → j ≠ k → l.getD j false = true → l.getD k false = true → ∀ u v, a.tmps[d0 + j]? = some u → a.tmps[d0 + k]? = some v → D j k u v

/-- How many of the first n have not come up. -/
def left (n : Nat) (l : Array Bool) : Nat := (List.range n).countP fun i => !l.getD i false

theorem left_succ (n : Nat) (l : Array Bool) : left (n + 1) l = left n l + if l.getD n false = true then 0 else 1 := by
  unfold left
  rw [List.range_succ, List.countP_append, List.countP_singleton]
  cases l.getD n false <;> rfl
theorem left_far {i : Nat} {l : Array Bool} : ∀ {n : Nat}, n ≤ i → left n (l.setIfInBounds i true) = left n l
  | 0, _ => rfl
  | n + 1, h => by rw [left_succ, left_succ, left_far (by omega), getD_set_ne false (by omega)]
theorem left_set {i : Nat} {l : Array Bool} (hl : i < l.size) (h : l.getD i false = false) : ∀ {n : Nat}, i < n → left n (l.setIfInBounds i true) + 1 = left n l
  | 0, hi => by omega
  | n + 1, hi => by
    rw [left_succ, left_succ]
    by_cases hin : i = n
    · subst hin
      have : (l.setIfInBounds i true).getD i false = true := by simp [hl]
      rw [left_far (Nat.le_refl _), h, this]
      simp
    · have := left_set hl h (n := n) (by omega)
      rw [getD_set_ne false hin]
      omega

theorem left_zero {n : Nat} {l : Array Bool} (h : left n l = 0) : ∀ j, j < n → l.getD j false = true := by
  intro j hj
  unfold left at h
  have h1 := List.countP_eq_zero.1 h j (List.mem_range.2 hj)
  simpa using h1

theorem ready_some {ops : Array Oper} {n : Nat} {l : Array Bool} (hb : backB ops = true) (hsz : l.size = ops.size) (hn : n ≤ ops.size) : ∀ (d i : Nat), i ≤ d → i < n → l.getD i false = false → Region.ready .any ops l ≠ [] := by
  intro d
  induction d with
  | zero =>
    intro i hi hin hl
    obtain rfl : i = 0 := by omega
    have hlt : 0 < ops.size := by omega
    have h0 := List.all_eq_true.1 hb 0 (List.mem_range.2 hlt)
    rw [Array.getElem?_eq_getElem hlt] at h0
    simp only [Option.map_some, Option.getD_some] at h0
    have : 0 ∈ Region.ready .any ops l := mem_ready.2 ⟨getD_in (by omega) hl, ops[0], Array.getElem?_eq_getElem hlt, fun e he _ => by
      have := Array.all_eq_true'.1 h0 e he
      simp at this⟩
    exact fun h => by rw [h] at this; cases this
  | succ d ih =>
    intro i hi hin hl
    have hlt : i < ops.size := by omega
    have h0 := List.all_eq_true.1 hb i (List.mem_range.2 hlt)
    rw [Array.getElem?_eq_getElem hlt] at h0
    simp only [Option.map_some, Option.getD_some] at h0
    by_cases hall : ∀ e ∈ ops[i].after, Region.binds .any e = true → l.getD e.on false = true
    · have : i ∈ Region.ready .any ops l := mem_ready.2 ⟨getD_in (by omega) hl, ops[i], Array.getElem?_eq_getElem hlt, hall⟩
      exact fun h => by rw [h] at this; cases this
    · have : ∃ e, e ∈ ops[i].after ∧ l.getD e.on false = false := by
        apply Classical.byContradiction
        intro hno
        apply hall
        intro e he _
        cases hx : l.getD e.on false with
        | true => rfl
        | false => exact absurd ⟨e, he, hx⟩ hno
      obtain ⟨e, he, hx⟩ := this
      have := Array.all_eq_true'.1 h0 e he
      simp at this
      exact ih e.on (by omega) (by omega) hx

theorem wpAny_facts {P : Program} {ops : Array Oper} {Q : Exit → Act → World → Prop} {d0 n : Nat} {a0 : Act} {S : World → Prop} {F : Nat → Value → World → Prop} {D : Nat → Nat → Value → Value → Prop}
    (hsz : ops.size = n + 1) (hs : Region.sinkB .any ops n = true) (hc : Region.chainB .any ops n = true) (hb : backB ops = true) (hd : slotsB ops d0 n = true) (ha : d0 + n ≤ a0.tmps.size)
    (hq : Region.seqB .any ops 1 n ((Array.replicate n true).push false) = true)
    (hstep : ∀ i o, i < n → ops[i]? = some o → ∀ l a w, Facts ops d0 n a0 S F D l a w → (∀ e ∈ o.after, Region.binds .any e = true → l.getD e.on false = true) →
      ∀ K : Act → World → Prop, (∀ v w', F i v w' → S w' → (∀ j u, j < n → F j u w → F j u w') → (∀ j u, j < n → F j u w → D i j v u ∧ D j i u v) → K (a.put o.dst v) w') → o.wp P a w K Q)
    (htail : ∀ l a w o, ops[n]? = some o → Facts ops d0 n a0 S F D l a w → (∀ j, j < n → l.getD j false = true) → wpList P ops Q [o] a w) :
    ∀ (f : Nat) (l : Array Bool) (a : Act) (w : World), left n l ≤ f → Facts ops d0 n a0 S F D l a w → wpAny P .any ops Q (left n l + 1) l a w := by
  intro f
  induction f with
  | zero =>
    intro l a w hf h
    have hz : left n l = 0 := by omega
    have hall := left_zero hz
    have hl : l = (Array.replicate n true).push false := by
      apply Array.ext (by simp [h.inv.size, hsz])
      intro i h1 h2
      simp at h2
      rcases Nat.lt_or_ge i n with hi | hi
      · have := hall i hi
        simp [h1] at this
        simp [this, hi, Array.getElem_push]
      · obtain rfl : i = n := by omega
        have := h.inv.tail i (Nat.le_refl _) (by omega)
        simp [h1] at this
        simp [this, Array.getElem_push]
    have hlt : n < ops.size := by omega
    rw [hz, Nat.zero_add, hl]
    rw [hl] at h
    have := wpAny_of_seq (P := P) (md := .any) (ops := ops) (Q' := Q) [ops[n]] n ((Array.replicate n true).push false) a w (fun j => by
      rcases j with _ | j
      · simp [Array.getElem?_eq_getElem hlt]
      · simp
        omega) hq (htail _ a w _ (Array.getElem?_eq_getElem hlt) h fun j hj => hl ▸ hall j hj)
    exact this
  | succ f ih =>
    intro l a w hf h
    by_cases hz : left n l = 0
    · exact ih l a w (by omega) h
    have hne : Region.ready .any ops l ≠ [] := by
      have : ∃ i, i < n ∧ l.getD i false = false := by
        apply Classical.byContradiction
        intro hno
        apply hz
        unfold left
        rw [List.countP_eq_zero]
        intro i hi
        cases hx : l.getD i false with
        | true => simp
        | false => exact absurd ⟨i, List.mem_range.1 hi, hx⟩ hno
      obtain ⟨i, hi, hx⟩ := this
      exact ready_some hb h.inv.size (by omega) i i (Nat.le_refl _) hi hx
    refine ⟨fun h0 => absurd h0 hne, fun i hi => ?_⟩
    obtain ⟨hun, o, ho, hall⟩ := mem_ready.1 hi
    have hin : i < n := by
      rcases Nat.lt_or_ge i n with h1 | h1
      · exact h1
      · have : ∃ i, i < n ∧ l.getD i false = false := by
          apply Classical.byContradiction
          intro hno
          apply hz
          unfold left
          rw [List.countP_eq_zero]
          intro i hi
          cases hx : l.getD i false with
          | true => simp
          | false => exact absurd ⟨i, List.mem_range.1 hi, hx⟩ hno
        obtain ⟨j, hj, hx⟩ := this
        exact absurd hi (tail_waits hs hc (by omega) h.inv _ j rfl hj (getD_in (by rw [h.inv.size]; omega) hx) i h1)
    have hsl := List.all_eq_true.1 hd i (List.mem_range.2 hin)
    rw [ho] at hsl
    simp only [Option.map_some, Option.getD_some, Bool.and_eq_true, decide_eq_true_eq] at hsl
    have hg : o.guard = none := by simpa using hsl.2
    have hls : i < l.size := by rw [h.inv.size]; omega
    have hlt := left_set (l := l) (by rw [h.inv.size]; omega) (getD_both hun) hin
    unfold wpOp
    rw [ho]
    simp only
    rw [if_pos (by unfold Region.wanted; rw [hg])]
    refine .inl (hstep i o hin ho l a w h hall _ fun v w' hF hS hk hD => ?_)
    have hih := ih (l.setIfInBounds i true) (a.put o.dst v) w' (by omega) ?_
    · rwa [hlt] at hih
    · refine ⟨h.inv.set hi hin, by rw [hsl.1]; exact h.defers, by simp [Act.put, hsl.1, h.size], fun s hs => ?_, hS, fun j hj hl => ?_, fun j k hj hk' hjk hlj hlk u v' hu hv => ?_⟩
      · rw [hsl.1]
        simp only [Act.put]
        rw [Array.getElem?_setIfInBounds_ne (by omega)]
        exact h.low s hs
      · rw [hsl.1]
        simp only [Act.put]
        by_cases hij : i = j
        · subst hij
          exact ⟨v, by rw [Array.getElem?_setIfInBounds_self_of_lt (by have := h.size; omega)], hF⟩
        · rw [getD_set_ne false hij] at hl
          obtain ⟨u, hu, hFu⟩ := h.facts j hj hl
          exact ⟨u, by rw [Array.getElem?_setIfInBounds_ne (by omega)]; exact hu, hk j u hj hFu⟩
      · rw [hsl.1] at hu hv
        simp only [Act.put] at hu hv
        by_cases hij : i = j
        · subst hij
          rw [Array.getElem?_setIfInBounds_self_of_lt (by have := h.size; omega)] at hu
          rw [Array.getElem?_setIfInBounds_ne (by omega)] at hv
          injection hu with hu
          subst hu
          rw [getD_set_ne false hjk] at hlk
          obtain ⟨v2, hv2, hFv⟩ := h.facts k hk' hlk
          rw [hv] at hv2
          injection hv2 with hv2
          subst hv2
          exact (hD k v' hk' hFv).1
        · rw [Array.getElem?_setIfInBounds_ne (by omega)] at hu
          rw [getD_set_ne false hij] at hlj
          by_cases hik : i = k
          · subst hik
            rw [Array.getElem?_setIfInBounds_self_of_lt (by have := h.size; omega)] at hv
            injection hv with hv
            subst hv
            obtain ⟨u2, hu2, hFu⟩ := h.facts j hj hlj
            rw [hu] at hu2
            injection hu2 with hu2
            subst hu2
            exact (hD j u hj hFu).2
          · rw [Array.getElem?_setIfInBounds_ne (by omega)] at hv
            rw [getD_set_ne false hik] at hlk
            exact h.dist j k hj hk' hjk hlj hlk u v' hu hv

theorem left_none (n m : Nat) : left n (Array.replicate m false) = n := by
  have h : ∀ n, left n (Array.replicate m false) = n := fun n => by
    induction n with
    | zero => rfl
    | succ n ih => rw [left_succ, ih, getD_replicate_false]; rfl
  exact h n

/-- The region, from its beginning. -/
theorem wp_region_facts {P : Program} {ops : Array Oper} {Q : Exit → Act → World → Prop} {id : Nat} (d0 n : Nat) {a0 : Act} {w : World} (S : World → Prop) (F : Nat → Value → World → Prop) (D : Nat → Nat → Value → Value → Prop)
    (hm : P.follows .mixedOrders = true) (hsz : ops.size = n + 1) (hs : Region.sinkB .any ops n = true) (hc : Region.chainB .any ops n = true) (hb : backB ops = true) (hd : slotsB ops d0 n = true) (ha : d0 + n ≤ a0.tmps.size)
    (hq : Region.seqB .any ops 1 n ((Array.replicate n true).push false) = true) (hS : S w.drew)
    (hstep : ∀ i o, i < n → ops[i]? = some o → ∀ l a w, Facts ops d0 n a0 S F D l a w → (∀ e ∈ o.after, Region.binds .any e = true → l.getD e.on false = true) →
      ∀ K : Act → World → Prop, (∀ v w', F i v w' → S w' → (∀ j u, j < n → F j u w → F j u w') → (∀ j u, j < n → F j u w → D i j v u ∧ D j i u v) → K (a.put o.dst v) w') → o.wp P a w K Q)
    (htail : ∀ l a w o, ops[n]? = some o → Facts ops d0 n a0 S F D l a w → (∀ j, j < n → l.getD j false = true) → wpList P ops Q [o] a w) : (Code.region id ops true).wp P Q a0 w := by
  refine wp_region_any hm ?_
  have h := wpAny_facts hsz hs hc hb hd ha hq hstep htail n (Array.replicate ops.size false) a0 w.drew (by rw [left_none]; exact Nat.le_refl _)
    ⟨⟨by simp, fun j oj _ hl => (by rw [getD_replicate_false] at hl; cases hl), fun t _ ht => getD_in (by simpa using ht) (getD_replicate_false _ _)⟩, rfl, rfl, fun _ _ => rfl, hS,
      fun j _ hl => (by rw [getD_replicate_false] at hl; cases hl), fun j k _ _ _ hl => (by rw [getD_replicate_false] at hl; cases hl)⟩
  rw [left_none] at h
  rw [hsz] at h ⊢
  exact h

end Go.Proofs.Ythppgofpbpjglaa

namespace Go.Proofs.Ythppgofpbpjglaa
open Go.RowKit

theorem step_build {a : Act} {w : World} {K : Act → World → Prop} {Q : Exit → Act → World → Prop} (o : Oper) (T e : TypeId) (i : TypeInfo) (ho : o.op = .buildSlice T 0 #[]) (hT : Try.prog.underlying T = some (.slice e)) (hi : Try.prog.info? e = some i)
    (h : K (a.put o.dst (.slice (some ⟨w.heap.size, 0, none⟩) 0 0)) (w.alloc (.cells #[] e))) : o.wp Try.prog a w K Q := by
  unfold Oper.wp
  simp [execOp, ho, go_sem, run_underlying hT, sizeOf, typeInfo, hi]
  exact h

theorem step_field {a : Act} {w : World} {K : Act → World → Prop} {Q : Exit → Act → World → Prop} (o : Oper) (j H : Nat) (hj : j < 5) (ho : o.op = .fieldAddr 34 (.tmp 1) j) (h1 : a.tmps[1]? = some (.pointer (some ⟨H, 0, none⟩)))
    (h : K (a.put o.dst (.pointer (some ⟨H, j, none⟩))) w) : o.wp Try.prog a w K Q := by
  unfold Oper.wp
  obtain rfl | rfl | rfl | rfl | rfl : j = 0 ∨ j = 1 ∨ j = 2 ∨ j = 3 ∨ j = 4 := by omega
  all_goals
    simp [execOp, ho, h1, go_sem]
    exact h

theorem step_load {a : Act} {w : World} {K : Act → World → Prop} {Q : Exit → Act → World → Prop} (o : Oper) (T e : TypeId) (k : Nat) (p : Addr) (v : Value) (ho : o.op = .load T (.tmp k)) (hT : Try.prog.underlying T = some (.slice e)) (h1 : a.tmps[k]? = some (.pointer (some p)))
    (hc : w.cell? p = some v) (h : K (a.put o.dst v) w) : o.wp Try.prog a w K Q := by
  unfold Oper.wp
  simp [execOp, ho, h1, go_sem, isAgg, run_underlying hT, hc]
  exact h

theorem step_append {a : Act} {w : World} {K : Act → World → Prop} {Q : Exit → Act → World → Prop} (o : Oper) (k1 k2 : Nat) (B : Nat) (t e : TypeId) (i : TypeInfo) (z : Value) (bytes : Nat) (ho : o.op = .call { callee := .builtin .append, args := #[.tmp k1, .tmp k2], argTypes := #[t, t] })
    (ht : Try.prog.underlying t = some (.slice e)) (hi : Try.prog.info? e = some i) (hz : i.zero = some z) (hsize : i.size = 1) (hby : i.bytes = bytes) (hzs : z.cells.size = 1) (v : Value)
    (h1 : a.tmps[k1]? = some v) (hv : ∃ g, v = .slice (some ⟨g, 0, none⟩) 0 0 ∧ B ≤ g ∧ w.heap[g]? = some (.cells #[] e (0, 0)))
    (A : Option Addr) (m c H : Nat) (news : List Value) (h2 : a.tmps[k2]? = some (.slice A m c)) (hl : news.length = m) (hr : Row w H A news) (hn1 : ∀ u ∈ news, u.oneCell' = true) (h63 : m ≤ maxLen) (hbytes : m * bytes ≤ 140737488355328) (hB : B ≤ w.heap.size)
    (h : ∀ v' w', w'.ownsRow B e 1 v' m news → Below w.heap.size w w' → (0 < m → v'.ownBlock = some w.heap.size) → K (a.put o.dst v') w') : o.wp Try.prog a w K Q := by
  obtain ⟨g, rfl, hg, hh⟩ := hv
  obtain ⟨v', w', hrun, h3, h4, h5⟩ := append_zero_run (P := Try.prog) w B t o.type e i z bytes ht hi hz hsize hby hzs g hg hh A m c H news hl hr hn1 h63 hbytes hB
  unfold Oper.wp
  simp [execOp, ho, resolve, invoke, builtin, Act.eval, h1, h2, hrun, Result.andThen]
  exact h v' w' h3 h4 h5

theorem step_store {a : Act} {w : World} {K : Act → World → Prop} {Q : Exit → Act → World → Prop} (o : Oper) (g : Nat) (y : DV) (d : Dt) (u0 u1 u2 u3 u4 : Value) (ho : o.op = .store 34 (.tmp 2) (.tmp 23)) (h2 : a.tmps[2]? = some (.pointer (some ⟨g, 0, none⟩)))
    (hu : a.tmps[23]? = some (y.val d)) (hw : Whole w g 34 [u0, u1, u2, u3, u4])
    (h : K (a.put o.dst undef) (((((w.setCell ⟨g, 0, none⟩ (y.vb d)).setCell ⟨g, 1, none⟩ (y.vh d)).setCell ⟨g, 2, none⟩ (y.vm d)).setCell ⟨g, 3, none⟩ (y.vn d)).setCell ⟨g, 4, none⟩ (y.vt d))) : o.wp Try.prog a w K Q := by
  have q0 : w.cell? ⟨g, 0, none⟩ = some u0 := hw.cell 0
  have q1 : w.cell? ⟨g, 1, none⟩ = some u1 := hw.cell 1
  have q2 : w.cell? ⟨g, 2, none⟩ = some u2 := hw.cell 2
  have q3 : w.cell? ⟨g, 3, none⟩ = some u3 := hw.cell 3
  have q4 : w.cell? ⟨g, 4, none⟩ = some u4 := hw.cell 4
  have z0 : w.frozen? ⟨g, 0, none⟩ = false := hw.frozen 0
  have z1 : w.frozen? ⟨g, 1, none⟩ = false := hw.frozen 1
  have z2 : w.frozen? ⟨g, 2, none⟩ = false := hw.frozen 2
  have z3 : w.frozen? ⟨g, 3, none⟩ = false := hw.frozen 3
  have z4 : w.frozen? ⟨g, 4, none⟩ = false := hw.frozen 4
  unfold Oper.wp
  simp [execOp, ho, go_sem, h2, hu, q0, q1, q2, q3, q4, z0, z1, z2, z3, z4]
  exact h

/-- What each operation of the region yields. -/
def factF (H B : Nat) (x : DV) (d : Dt) : Nat → Value → World → Prop
  | 0 => fun v w => ∃ g, v = .slice (some ⟨g, 0, none⟩) 0 0 ∧ B ≤ g ∧ w.heap[g]? = some (.cells #[] 5 (0, 0))
  | 1 => fun v _ => v = .pointer (some ⟨H, 0, none⟩)
  | 2 => fun v _ => v = .slice x.Ab d.bytes.length x.cb
  | 3 => fun v w => w.ownsRow B 5 1 v d.bytes.length (d.bytes.map bc)
  | 4 => fun v w => ∃ g, v = .slice (some ⟨g, 0, none⟩) 0 0 ∧ B ≤ g ∧ w.heap[g]? = some (.cells #[] 9 (0, 0))
  | 5 => fun v _ => v = .pointer (some ⟨H, 1, none⟩)
  | 6 => fun v _ => v = .slice x.Ah d.host.length x.ch
  | 7 => fun v w => w.ownsRow B 9 1 v d.host.length (d.host.map sv)
  | 8 => fun v w => ∃ g, v = .slice (some ⟨g, 0, none⟩) 0 0 ∧ B ≤ g ∧ w.heap[g]? = some (.cells #[] 9 (0, 0))
  | 9 => fun v _ => v = .pointer (some ⟨H, 2, none⟩)
  | 10 => fun v _ => v = .slice x.Am d.mail.length x.cm
  | 11 => fun v w => w.ownsRow B 9 1 v d.mail.length (d.mail.map sv)
  | 12 => fun v w => ∃ g, v = .slice (some ⟨g, 0, none⟩) 0 0 ∧ B ≤ g ∧ w.heap[g]? = some (.cells #[] 3 (0, 0))
  | 13 => fun v _ => v = .pointer (some ⟨H, 3, none⟩)
  | 14 => fun v _ => v = .slice x.An d.nums.length x.cn
  | 15 => fun v w => w.ownsRow B 3 1 v d.nums.length (d.nums.map zv)
  | 16 => fun v w => ∃ g, v = .slice (some ⟨g, 0, none⟩) 0 0 ∧ B ≤ g ∧ w.heap[g]? = some (.cells #[] 9 (0, 0))
  | 17 => fun v _ => v = .pointer (some ⟨H, 4, none⟩)
  | 18 => fun v _ => v = .slice x.At d.texts.length x.ct
  | 19 => fun v w => w.ownsRow B 9 1 v d.texts.length (d.texts.map sv)
  | 20 => fun v w => ∃ y : DV, v = y.val d ∧ OwnD w B y d ∧ Apart (y.vh d) (y.vm d) ∧ Apart (y.vh d) (y.vt d)
  | _ => fun _ _ => True
theorem heap_some_lt {w : World} {g : Nat} {o : Obj} (h : w.heap[g]? = some o) : g < w.heap.size := by
  rcases Nat.lt_or_ge g w.heap.size with h1 | h1
  · exact h1
  · rw [Array.getElem?_eq_none h1] at h; cases h
theorem factF_mono {H B : Nat} {x : DV} {d : Dt} {w w' : World} (hw : ∀ g, g < w.heap.size → w'.heap[g]? = w.heap[g]?) : ∀ j u, j < 21 → factF H B x d j u w → factF H B x d j u w'
  | 0, _, _, ⟨g, e, hg, hh⟩ => ⟨g, e, hg, (hw g (heap_some_lt hh)).trans hh⟩
  | 1, _, _, h => h
  | 2, _, _, h => h
  | 3, _, _, h => own_keep h fun g e => hw g (World.ownsRow.lt h g e).2
  | 4, _, _, ⟨g, e, hg, hh⟩ => ⟨g, e, hg, (hw g (heap_some_lt hh)).trans hh⟩
  | 5, _, _, h => h
  | 6, _, _, h => h
  | 7, _, _, h => own_keep h fun g e => hw g (World.ownsRow.lt h g e).2
  | 8, _, _, ⟨g, e, hg, hh⟩ => ⟨g, e, hg, (hw g (heap_some_lt hh)).trans hh⟩
  | 9, _, _, h => h
  | 10, _, _, h => h
  | 11, _, _, h => own_keep h fun g e => hw g (World.ownsRow.lt h g e).2
  | 12, _, _, ⟨g, e, hg, hh⟩ => ⟨g, e, hg, (hw g (heap_some_lt hh)).trans hh⟩
  | 13, _, _, h => h
  | 14, _, _, h => h
  | 15, _, _, h => own_keep h fun g e => hw g (World.ownsRow.lt h g e).2
  | 16, _, _, ⟨g, e, hg, hh⟩ => ⟨g, e, hg, (hw g (heap_some_lt hh)).trans hh⟩
  | 17, _, _, h => h
  | 18, _, _, h => h
  | 19, _, _, h => own_keep h fun g e => hw g (World.ownsRow.lt h g e).2
  | 20, _, _, ⟨y, e, h, h1, h2⟩ => ⟨y, e, h.keep hw, h1, h2⟩
  | n + 21, _, h, _ => absurd h (by omega)
def isApp (i : Nat) : Bool := decide (i % 4 = 3)
def ownAp (i j : Nat) (u v : Value) : Prop := isApp i = true → isApp j = true → Apart u v
theorem factF_lt {H B : Nat} {x : DV} {d : Dt} {w : World} : ∀ j u, j < 21 → isApp j = true → factF H B x d j u w → ∀ g, u.ownBlock = some g → g < w.heap.size
  | 0, _, _, h, _, _, _ => by cases h
  | 1, _, _, h, _, _, _ => by cases h
  | 2, _, _, h, _, _, _ => by cases h
  | 3, _, _, _, h, g, e => (World.ownsRow.lt h g e).2
  | 4, _, _, h, _, _, _ => by cases h
  | 5, _, _, h, _, _, _ => by cases h
  | 6, _, _, h, _, _, _ => by cases h
  | 7, _, _, _, h, g, e => (World.ownsRow.lt h g e).2
  | 8, _, _, h, _, _, _ => by cases h
  | 9, _, _, h, _, _, _ => by cases h
  | 10, _, _, h, _, _, _ => by cases h
  | 11, _, _, _, h, g, e => (World.ownsRow.lt h g e).2
  | 12, _, _, h, _, _, _ => by cases h
  | 13, _, _, h, _, _, _ => by cases h
  | 14, _, _, h, _, _, _ => by cases h
  | 15, _, _, _, h, g, e => (World.ownsRow.lt h g e).2
  | 16, _, _, h, _, _, _ => by cases h
  | 17, _, _, h, _, _, _ => by cases h
  | 18, _, _, h, _, _, _ => by cases h
  | 19, _, _, _, h, g, e => (World.ownsRow.lt h g e).2
  | 20, _, _, h, _, _, _ => by cases h
  | n + 21, _, h, _, _, _, _ => absurd h (by omega)

theorem Apart.symm {u v : Value} (h : Apart u v) : Apart v u := by
  intro g k n m c c' e1 e2 h1 h2 e
  exact h k g m n c' c e2 e1 h2 h1 e.symm
theorem apart_new {H B : Nat} {x : DV} {d : Dt} {w w' : World} {i m : Nat} {v : Value} {t : TypeId} {xs : List Value} (ho : w'.ownsRow B t 1 v m xs) (hn : 0 < m → v.ownBlock = some w.heap.size) :
    ∀ j u, j < 21 → factF H B x d j u w → ownAp i j v u ∧ ownAp j i u v := by
  intro j u hj hF
  have h : isApp j = true → Apart v u := fun hj2 g k n m2 c c' e1 e2 h1 h2 e => by
    have hk := factF_lt j u hj hj2 hF k (by rw [e2]; rfl)
    obtain ⟨A, c2, e3, _, _⟩ := own_form ho
    rw [e1] at e3
    injection e3 with _ e4 _
    have hb := hn (by omega)
    rw [e1] at hb
    simp only [Value.ownBlock, Option.some.injEq] at hb
    omega
  exact ⟨fun _ hj2 => h hj2, fun hj2 _ => (h hj2).symm⟩
theorem apart_not {i j : Nat} {v u : Value} (h : isApp i = false) : ownAp i j v u ∧ ownAp j i u v := ⟨fun h1 => (by rw [h] at h1; cases h1), fun _ h1 => (by rw [h] at h1; cases h1)⟩

structure OwnS (W : World) (B : Nat) (w : World) : Prop where
  below : Below B W w
  size : B ≤ w.heap.size
theorem OwnS.more {W w w' : World} {B : Nat} (h : OwnS W B w) (hb : Below w.heap.size w w') : OwnS W B w' := ⟨h.below.trans (hb.mono h.size), Nat.le_trans h.size hb.size⟩

/-- What the call leaves: data that shares nothing. -/
def Owns (w : World) (d : Dt) (e : Ending) (w' : World) : Prop :=
  ∃ y : DV, e = .returned (y.val d) ∧ OwnD w' w.heap.size y d ∧ Apart (y.vh d) (y.vm d) ∧ Apart (y.vh d) (y.vt d) ∧ Below w.heap.size w w'

/-- Few parts, whatever their lengths. -/
structure FewD (d : Dt) : Prop where
  nh : d.host.length ≤ 300
  nm : d.mail.length ≤ 300
  nt : d.texts.length ≤ 200
  nn : d.nums.length ≤ 200
  nb : d.bytes.length ≤ 200000
theorem LightD.few {d : Dt} (h : LightD d) : FewD d := ⟨h.nh, h.nm, h.nt, h.nn, Nat.le_trans h.nb (by omega)⟩

set_option maxRecDepth 20000 in
set_option maxHeartbeats 1000000 in
theorem ownData_few (x : DV) (d : Dt) (w : World) (h : DataAt w w.heap.size x d) (hl : FewD d) :
    Calls Try.prog 28 #[x.val d] w (Owns w d) := by
  obtain ⟨iu, hiu, hzu, hsu, hbu⟩ := info_parts u8_info
  obtain ⟨is, his, hzs, hss, hbs⟩ := info_parts str_info
  obtain ⟨ii, hii, hzi, hsi, hbi⟩ := info_parts zint_info
  obtain ⟨hnh, hnm, hnt, hnn, hnb⟩ := hl
  go_enter Try.func28, Try.ntmps28
  go_wp2
  rename_i hret
  obtain ⟨W, hW⟩ : ∃ W, W = (w.alloc (.cells #[x.vb d, x.vh d, x.vm d, x.vn d, x.vt d] 34)).alloc (.cells #[.slice none 0 0, .slice none 0 0, .slice none 0 0, .slice none 0 0, .slice none 0 0] 34) := ⟨_, rfl⟩
  rw [← hW]
  have hw0 : Whole W w.heap.size 34 [x.vb d, x.vh d, x.vm d, x.vn d, x.vt d] := by
    rw [hW]
    exact (Whole.made w [x.vb d, x.vh d, x.vm d, x.vn d, x.vt d] _).alloc _
  have hw1 : Whole W (w.heap.size + 1) 34 [.slice none 0 0, .slice none 0 0, .slice none 0 0, .slice none 0 0, .slice none 0 0] := by
    rw [hW]
    have := Whole.made (w.alloc (.cells #[x.vb d, x.vh d, x.vm d, x.vn d, x.vt d] 34)) [.slice none 0 0, .slice none 0 0, .slice none 0 0, .slice none 0 0, .slice none 0 0] 34
    simpa using this
  have hbW : Below w.heap.size w W := by
    rw [hW]
    exact ((Below.refl _ _).alloc (Nat.le_refl _) _).alloc (by simp) _
  have hsW : W.heap.size = w.heap.size + 2 := by rw [hW]; simp
  have hdW : DataAt W w.heap.size x d := h.below hbW
  clear hW
  refine wp_region_facts 3 21 (OwnS W (w.heap.size + 2)) (factF w.heap.size (w.heap.size + 2) x d) ownAp (by kernel_rfl) rfl (by kernel_rfl) (by kernel_rfl) (by kernel_rfl) (by kernel_rfl) (by simp) (by kernel_rfl)
    ⟨(Below.refl _ W).drew, by simp [hsW]⟩ ?step ?tail
  case step =>
    intro i o hi ho l a v hF hdep K hK
    have hS := hF.S
    have h1 : a.tmps[1]? = some (.pointer (some ⟨w.heap.size, 0, none⟩)) := hF.low 1 (by omega)
    have hcell : ∀ k, v.cell? ⟨w.heap.size, k, none⟩ = [x.vb d, x.vh d, x.vm d, x.vn d, x.vt d][k]? := (hw0.below hS.below (by omega)).cell
    have hdv : DataAt v w.heap.size x d := hdW.below (hS.below.mono (by omega))
    have hal : ∀ o, Below v.heap.size v (v.alloc o) := fun o => (Below.refl _ v).alloc (Nat.le_refl _) o
    match i, hi, ho, hK with
    | 0, _, ho, hK =>
      obtain rfl := Option.some.inj ho
      exact step_build _ 31 5 iu rfl Try.underlying31 hiu (hK _ _ ⟨v.heap.size, rfl, hS.size, heap_alloc_new v _⟩ (hS.more (hal _)) (factF_mono fun g hg => (hal _).block g hg) fun _ _ _ _ => apart_not rfl)
    | 1, _, ho, hK =>
      obtain rfl := Option.some.inj ho
      exact step_field _ 0 w.heap.size (by omega) rfl h1 (hK _ _ rfl hS (fun _ _ _ h => h) fun _ _ _ _ => apart_not rfl)
    | 2, _, ho, hK =>
      obtain rfl := Option.some.inj ho
      obtain ⟨u, hu, hFu⟩ := hF.facts 1 (by omega) (hdep ⟨1, .data⟩ (by simp) rfl)
      obtain rfl : u = .pointer (some ⟨w.heap.size, 0, none⟩) := hFu
      exact step_load _ 31 5 4 ⟨w.heap.size, 0, none⟩ _ rfl Try.underlying31 hu (hcell 0) (hK _ _ rfl hS (fun _ _ _ h => h) fun _ _ _ _ => apart_not rfl)
    | 3, _, ho, hK =>
      obtain rfl := Option.some.inj ho
      obtain ⟨u, hu, hFu⟩ := hF.facts 0 (by omega) (hdep ⟨0, .data⟩ (by simp) rfl)
      obtain ⟨y, hy, hFy⟩ := hF.facts 2 (by omega) (hdep ⟨2, .data⟩ (by simp) rfl)
      obtain rfl : y = .slice x.Ab d.bytes.length x.cb := hFy
      exact step_append _ 3 5 (w.heap.size + 2) 31 5 iu _ 1 rfl Try.underlying31 hiu hzu hsu hbu rfl u hu hFu x.Ab d.bytes.length x.cb w.heap.size (d.bytes.map bc) hy (by simp) hdv.b (bc_one _)
        (by unfold maxLen; omega) (by omega) hS.size fun v' w' h1 h2 h3 => hK _ _ h1 (hS.more h2) (factF_mono fun g hg => h2.block g hg) (apart_new h1 h3)
    | 4, _, ho, hK =>
      obtain rfl := Option.some.inj ho
      exact step_build _ 23 9 is rfl Try.underlying23 his (hK _ _ ⟨v.heap.size, rfl, hS.size, heap_alloc_new v _⟩ (hS.more (hal _)) (factF_mono fun g hg => (hal _).block g hg) fun _ _ _ _ => apart_not rfl)
    | 5, _, ho, hK =>
      obtain rfl := Option.some.inj ho
      exact step_field _ 1 w.heap.size (by omega) rfl h1 (hK _ _ rfl hS (fun _ _ _ h => h) fun _ _ _ _ => apart_not rfl)
    | 6, _, ho, hK =>
      obtain rfl := Option.some.inj ho
      obtain ⟨u, hu, hFu⟩ := hF.facts 5 (by omega) (hdep ⟨5, .data⟩ (by simp) rfl)
      obtain rfl : u = .pointer (some ⟨w.heap.size, 1, none⟩) := hFu
      exact step_load _ 23 9 8 ⟨w.heap.size, 1, none⟩ _ rfl Try.underlying23 hu (hcell 1) (hK _ _ rfl hS (fun _ _ _ h => h) fun _ _ _ _ => apart_not rfl)
    | 7, _, ho, hK =>
      obtain rfl := Option.some.inj ho
      obtain ⟨u, hu, hFu⟩ := hF.facts 4 (by omega) (hdep ⟨4, .data⟩ (by simp) rfl)
      obtain ⟨y, hy, hFy⟩ := hF.facts 6 (by omega) (hdep ⟨6, .data⟩ (by simp) rfl)
      obtain rfl : y = .slice x.Ah d.host.length x.ch := hFy
      exact step_append _ 7 9 (w.heap.size + 2) 23 9 is _ 16 rfl Try.underlying23 his hzs hss hbs rfl u hu hFu x.Ah d.host.length x.ch w.heap.size (d.host.map sv) hy (by simp) hdv.h (sv_one _)
        (by unfold maxLen; omega) (by omega) hS.size fun v' w' h1 h2 h3 => hK _ _ h1 (hS.more h2) (factF_mono fun g hg => h2.block g hg) (apart_new h1 h3)
    | 8, _, ho, hK =>
      obtain rfl := Option.some.inj ho
      exact step_build _ 23 9 is rfl Try.underlying23 his (hK _ _ ⟨v.heap.size, rfl, hS.size, heap_alloc_new v _⟩ (hS.more (hal _)) (factF_mono fun g hg => (hal _).block g hg) fun _ _ _ _ => apart_not rfl)
    | 9, _, ho, hK =>
      obtain rfl := Option.some.inj ho
      exact step_field _ 2 w.heap.size (by omega) rfl h1 (hK _ _ rfl hS (fun _ _ _ h => h) fun _ _ _ _ => apart_not rfl)
    | 10, _, ho, hK =>
      obtain rfl := Option.some.inj ho
      obtain ⟨u, hu, hFu⟩ := hF.facts 9 (by omega) (hdep ⟨9, .data⟩ (by simp) rfl)
      obtain rfl : u = .pointer (some ⟨w.heap.size, 2, none⟩) := hFu
      exact step_load _ 23 9 12 ⟨w.heap.size, 2, none⟩ _ rfl Try.underlying23 hu (hcell 2) (hK _ _ rfl hS (fun _ _ _ h => h) fun _ _ _ _ => apart_not rfl)
    | 11, _, ho, hK =>
      obtain rfl := Option.some.inj ho
      obtain ⟨u, hu, hFu⟩ := hF.facts 8 (by omega) (hdep ⟨8, .data⟩ (by simp) rfl)
      obtain ⟨y, hy, hFy⟩ := hF.facts 10 (by omega) (hdep ⟨10, .data⟩ (by simp) rfl)
      obtain rfl : y = .slice x.Am d.mail.length x.cm := hFy
      exact step_append _ 11 13 (w.heap.size + 2) 23 9 is _ 16 rfl Try.underlying23 his hzs hss hbs rfl u hu hFu x.Am d.mail.length x.cm w.heap.size (d.mail.map sv) hy (by simp) hdv.m (sv_one _)
        (by unfold maxLen; omega) (by omega) hS.size fun v' w' h1 h2 h3 => hK _ _ h1 (hS.more h2) (factF_mono fun g hg => h2.block g hg) (apart_new h1 h3)
    | 12, _, ho, hK =>
      obtain rfl := Option.some.inj ho
      exact step_build _ 32 3 ii rfl Try.underlying32 hii (hK _ _ ⟨v.heap.size, rfl, hS.size, heap_alloc_new v _⟩ (hS.more (hal _)) (factF_mono fun g hg => (hal _).block g hg) fun _ _ _ _ => apart_not rfl)
    | 13, _, ho, hK =>
      obtain rfl := Option.some.inj ho
      exact step_field _ 3 w.heap.size (by omega) rfl h1 (hK _ _ rfl hS (fun _ _ _ h => h) fun _ _ _ _ => apart_not rfl)
    | 14, _, ho, hK =>
      obtain rfl := Option.some.inj ho
      obtain ⟨u, hu, hFu⟩ := hF.facts 13 (by omega) (hdep ⟨13, .data⟩ (by simp) rfl)
      obtain rfl : u = .pointer (some ⟨w.heap.size, 3, none⟩) := hFu
      exact step_load _ 32 3 16 ⟨w.heap.size, 3, none⟩ _ rfl Try.underlying32 hu (hcell 3) (hK _ _ rfl hS (fun _ _ _ h => h) fun _ _ _ _ => apart_not rfl)
    | 15, _, ho, hK =>
      obtain rfl := Option.some.inj ho
      obtain ⟨u, hu, hFu⟩ := hF.facts 12 (by omega) (hdep ⟨12, .data⟩ (by simp) rfl)
      obtain ⟨y, hy, hFy⟩ := hF.facts 14 (by omega) (hdep ⟨14, .data⟩ (by simp) rfl)
      obtain rfl : y = .slice x.An d.nums.length x.cn := hFy
      exact step_append _ 15 17 (w.heap.size + 2) 32 3 ii _ 8 rfl Try.underlying32 hii hzi hsi hbi rfl u hu hFu x.An d.nums.length x.cn w.heap.size (d.nums.map zv) hy (by simp) hdv.n (zv_one _)
        (by unfold maxLen; omega) (by omega) hS.size fun v' w' h1 h2 h3 => hK _ _ h1 (hS.more h2) (factF_mono fun g hg => h2.block g hg) (apart_new h1 h3)
    | 16, _, ho, hK =>
      obtain rfl := Option.some.inj ho
      exact step_build _ 23 9 is rfl Try.underlying23 his (hK _ _ ⟨v.heap.size, rfl, hS.size, heap_alloc_new v _⟩ (hS.more (hal _)) (factF_mono fun g hg => (hal _).block g hg) fun _ _ _ _ => apart_not rfl)
    | 17, _, ho, hK =>
      obtain rfl := Option.some.inj ho
      exact step_field _ 4 w.heap.size (by omega) rfl h1 (hK _ _ rfl hS (fun _ _ _ h => h) fun _ _ _ _ => apart_not rfl)
    | 18, _, ho, hK =>
      obtain rfl := Option.some.inj ho
      obtain ⟨u, hu, hFu⟩ := hF.facts 17 (by omega) (hdep ⟨17, .data⟩ (by simp) rfl)
      obtain rfl : u = .pointer (some ⟨w.heap.size, 4, none⟩) := hFu
      exact step_load _ 23 9 20 ⟨w.heap.size, 4, none⟩ _ rfl Try.underlying23 hu (hcell 4) (hK _ _ rfl hS (fun _ _ _ h => h) fun _ _ _ _ => apart_not rfl)
    | 19, _, ho, hK =>
      obtain rfl := Option.some.inj ho
      obtain ⟨u, hu, hFu⟩ := hF.facts 16 (by omega) (hdep ⟨16, .data⟩ (by simp) rfl)
      obtain ⟨y, hy, hFy⟩ := hF.facts 18 (by omega) (hdep ⟨18, .data⟩ (by simp) rfl)
      obtain rfl : y = .slice x.At d.texts.length x.ct := hFy
      exact step_append _ 19 21 (w.heap.size + 2) 23 9 is _ 16 rfl Try.underlying23 his hzs hss hbs rfl u hu hFu x.At d.texts.length x.ct w.heap.size (d.texts.map sv) hy (by simp) hdv.t (sv_one _)
        (by unfold maxLen; omega) (by omega) hS.size fun v' w' h1 h2 h3 => hK _ _ h1 (hS.more h2) (factF_mono fun g hg => h2.block g hg) (apart_new h1 h3)
    | 20, _, ho, hK =>
      obtain rfl := Option.some.inj ho
      have hl (j : Nat) (h : (⟨j, .data⟩ : Edge) ∈ #[(⟨3, .data⟩ : Edge), ⟨7, .data⟩, ⟨11, .data⟩, ⟨15, .data⟩, ⟨19, .data⟩]) := hdep ⟨j, .data⟩ h rfl
      obtain ⟨v0, g0, f0⟩ := hF.facts 3 (by omega) (hl 3 (by simp))
      obtain ⟨v1, g1, f1⟩ := hF.facts 7 (by omega) (hl 7 (by simp))
      obtain ⟨v2, g2, f2⟩ := hF.facts 11 (by omega) (hl 11 (by simp))
      obtain ⟨v3, g3, f3⟩ := hF.facts 15 (by omega) (hl 15 (by simp))
      obtain ⟨v4, g4, f4⟩ := hF.facts 19 (by omega) (hl 19 (by simp))
      have a1 := hF.dist 7 11 (by omega) (by omega) (by omega) (hl 7 (by simp)) (hl 11 (by simp)) v1 v2 g1 g2 rfl rfl
      have a2 := hF.dist 7 19 (by omega) (by omega) (by omega) (hl 7 (by simp)) (hl 19 (by simp)) v1 v4 g1 g4 rfl rfl
      obtain ⟨A0, c0, rfl, _, _⟩ := own_form f0
      obtain ⟨A1, c1, rfl, _, _⟩ := own_form f1
      obtain ⟨A2, c2, rfl, _, _⟩ := own_form f2
      obtain ⟨A3, c3, rfl, _, _⟩ := own_form f3
      obtain ⟨A4, c4, rfl, _, _⟩ := own_form f4
      have hk := hK (DV.val ⟨A0, A1, A2, A3, A4, c0, c1, c2, c3, c4⟩ d) v ⟨⟨A0, A1, A2, A3, A4, c0, c1, c2, c3, c4⟩, rfl, ⟨f0, f1, f2, f3, f4⟩, a1, a2⟩ hS (fun _ _ _ h => h) fun _ _ _ _ => apart_not rfl
      unfold Oper.wp
      simp [execOp, go_sem, g0, g1, g2, g3, g4]
      exact hk
    | n + 21, hi, _, _ => exact absurd hi (by omega)
  case tail =>
    intro l a v o ho hF hl
    obtain rfl := Option.some.inj ho
    have hS := hF.S
    have h2 : a.tmps[2]? = some (.pointer (some ⟨w.heap.size + 1, 0, none⟩)) := hF.low 2 (by omega)
    obtain ⟨u, hu, y, rfl, hO, a1, a2⟩ := hF.facts 20 (by omega) (hl 20 (by omega))
    have hw := hw1.below hS.below (by omega)
    refine wpList_plain rfl fun K2 hK2 => step_store _ (w.heap.size + 1) y d _ _ _ _ _ rfl h2 hu hw ?_
    refine hK2 _ _ ?_
    obtain ⟨V, hV⟩ : ∃ V, V = ((((v.setCell ⟨w.heap.size + 1, 0, none⟩ (y.vb d)).setCell ⟨w.heap.size + 1, 1, none⟩ (y.vh d)).setCell ⟨w.heap.size + 1, 2, none⟩ (y.vm d)).setCell ⟨w.heap.size + 1, 3, none⟩ (y.vn d)).setCell ⟨w.heap.size + 1, 4, none⟩ (y.vt d) := ⟨_, rfl⟩
    rw [← hV]
    have hw5 : Whole V (w.heap.size + 1) 34 [y.vb d, y.vh d, y.vm d, y.vn d, y.vt d] := by
      rw [hV]
      exact ((((hw.set_ 0 _).set_ 1 _).set_ 2 _).set_ 3 _).set_ 4 _
    have hb5 : Below (w.heap.size + 1) v V := by
      rw [hV]
      have hs (W : World) (i : Nat) (u : Value) : Below (w.heap.size + 1) W (W.setCell ⟨w.heap.size + 1, i, none⟩ u) := (Below.refl _ W).setCell (p := ⟨w.heap.size + 1, i, none⟩) (Nat.le_refl _) u
      exact ((((hs _ 0 _).trans (hs _ 1 _)).trans (hs _ 2 _)).trans (hs _ 3 _)).trans (hs _ 4 _)
    have hf5 : ∀ g, g ≠ w.heap.size + 1 → V.heap[g]? = v.heap[g]? := fun g hg => by
      rw [hV]
      have hs (W : World) (i : Nat) (u : Value) : (W.setCell ⟨w.heap.size + 1, i, none⟩ u).heap[g]? = W.heap[g]? := Below.heap_setCell W ⟨w.heap.size + 1, i, none⟩ u g hg
      rw [hs, hs, hs, hs, hs]
    have hO5 : OwnD V (w.heap.size + 2) y d :=
      ⟨own_keep hO.b fun g e => hf5 g (by have := (hO.b.lt g e).1; omega), own_keep hO.h fun g e => hf5 g (by have := (hO.h.lt g e).1; omega), own_keep hO.m fun g e => hf5 g (by have := (hO.m.lt g e).1; omega), own_keep hO.n fun g e => hf5 g (by have := (hO.n.lt g e).1; omega), own_keep hO.t fun g e => hf5 g (by have := (hO.t.lt g e).1; omega)⟩
    have hO6 : OwnD V w.heap.size y d := ⟨own_mono hO5.b (by omega), own_mono hO5.h (by omega), own_mono hO5.m (by omega), own_mono hO5.n (by omega), own_mono hO5.t (by omega)⟩
    have hB : Below w.heap.size w V := (hbW.trans (hS.below.mono (by omega))).trans (hb5.mono (by omega))
    have q0 : V.cell? ⟨w.heap.size + 1, 0, none⟩ = some (y.vb d) := hw5.cell 0
    have q1 : V.cell? ⟨w.heap.size + 1, 1, none⟩ = some (y.vh d) := hw5.cell 1
    have q2 : V.cell? ⟨w.heap.size + 1, 2, none⟩ = some (y.vm d) := hw5.cell 2
    have q3 : V.cell? ⟨w.heap.size + 1, 3, none⟩ = some (y.vn d) := hw5.cell 3
    have q4 : V.cell? ⟨w.heap.size + 1, 4, none⟩ = some (y.vt d) := hw5.cell 4
    clear hV hw5 hb5 hf5 hO5 hw hw0 hw1 hO
    refine hret _ _ (wp_ret ?_)
    refine ⟨hF.defers, y.val d, ?_, y, rfl, hO6, a1, a2, hB⟩
    clear hF hl
    simp [results, Try.results28, go_sem, Act.put, h2, q0, q1, q2, q3, q4]

theorem ownData_any (x : DV) (d : Dt) (w : World) (h : DataAt w w.heap.size x d) (hl : LightD d) :
    Calls Try.prog 28 #[x.val d] w (Owns w d) := ownData_few x d w h hl.few

end Go.Proofs.Ythppgofpbpjglaa

namespace Go.Proofs.Ythppgofpbpjglaa
open Go.RowKit

theorem run_enter {P : Program} {f : FuncId} {fn : Func} {c : Code} (hf : P.funcs[f]? = some fn) (hname : (fn.name == "runtime.NumGoroutine") = false) (hb : fn.body = some c) (args : Array Value) (w : World) :
    (callFunc f args).run P w = .ok (.enter f args) w := by
  have h1 : fn.name ≠ "runtime.NumGoroutine" := by simpa using hname
  simp [callFunc, hf, h1, hb]
/-- What 'fresh' leaves: a row of its own. -/
def Fresh (w : World) (t : TypeId) (n : Nat) (xs : List Value) (e : Ending) (w' : World) : Prop := ∃ v, e = .returned v ∧ w'.ownsRow w.heap.size t 1 v n xs ∧ Below w.heap.size w w'

theorem enter_byte (args : Array Value) (w : World) : (callFunc 56 args).run Try.prog w = .ok (.enter 56 args) w := run_enter Try.func56 (by kernel_rfl) rfl args w
set_option maxHeartbeats 400000 in
theorem fresh_byte (A : Option Addr) (m c H : Nat) (xs : List Value) (w : World) (hl : xs.length = m) (hA : Row w H A xs) (h1 : ∀ u ∈ xs, u.oneCell' = true) (hm : m ≤ 1000000) :
    Calls Try.prog 56 #[.slice A m c] w (Fresh w 5 m xs) := by
  obtain ⟨i0, hi0, hz0, hz1, hz2⟩ := info_parts u8_info
  have HA := Lib.hid hA
  have HL := Lib.hid hl
  have H1 := Lib.hid h1
  clear hA hl h1
  go_enter Try.func56, Try.ntmps56
  go_wp2_with (
    at_builtin
    refine wpList_append_row rfl (.const (.slice none 0 0)) (.tmp 3) _ rfl w.heap.size 5 i0 _ 1 1 Try.underlying31 hi0 hz0 hz1 hz2 rfl (by omega) (.slice none 0 0) 0 [] rfl (World.ownsRow_nil _ _ _ _)
      A m c H xs rfl (by rw [HL.out, Nat.mul_one]) HA.out H1.out (by unfold maxLen; omega) (by omega) (Nat.le_refl _) ?_
    intro v2 w2 hown2 hg2
    simp only [Nat.zero_add, List.nil_append] at hown2
    have HO2 := Lib.hid hown2
    have HB2 := Lib.hid (own_below (Below.refl w.heap.size w) (Nat.le_refl _) (Nat.le_refl _) (World.ownsRow_nil w w.heap.size 5 1) hg2)
    clear hown2 hg2)
  go_ret
  exact ⟨_, rfl, HO2.out, HB2.out⟩

theorem enter_string (args : Array Value) (w : World) : (callFunc 35 args).run Try.prog w = .ok (.enter 35 args) w := run_enter Try.func35 (by kernel_rfl) rfl args w
set_option maxHeartbeats 400000 in
theorem fresh_string (A : Option Addr) (m c H : Nat) (xs : List Value) (w : World) (hl : xs.length = m) (hA : Row w H A xs) (h1 : ∀ u ∈ xs, u.oneCell' = true) (hm : m ≤ 1000000) :
    Calls Try.prog 35 #[.slice A m c] w (Fresh w 9 m xs) := by
  obtain ⟨i0, hi0, hz0, hz1, hz2⟩ := info_parts str_info
  have HA := Lib.hid hA
  have HL := Lib.hid hl
  have H1 := Lib.hid h1
  clear hA hl h1
  go_enter Try.func35, Try.ntmps35
  go_wp2_with (
    at_builtin
    refine wpList_append_row rfl (.const (.slice none 0 0)) (.tmp 3) _ rfl w.heap.size 9 i0 _ 1 16 Try.underlying23 hi0 hz0 hz1 hz2 rfl (by omega) (.slice none 0 0) 0 [] rfl (World.ownsRow_nil _ _ _ _)
      A m c H xs rfl (by rw [HL.out, Nat.mul_one]) HA.out H1.out (by unfold maxLen; omega) (by omega) (Nat.le_refl _) ?_
    intro v2 w2 hown2 hg2
    simp only [Nat.zero_add, List.nil_append] at hown2
    have HO2 := Lib.hid hown2
    have HB2 := Lib.hid (own_below (Below.refl w.heap.size w) (Nat.le_refl _) (Nat.le_refl _) (World.ownsRow_nil w w.heap.size 9 1) hg2)
    clear hown2 hg2)
  go_ret
  exact ⟨_, rfl, HO2.out, HB2.out⟩

theorem enter_int (args : Array Value) (w : World) : (callFunc 57 args).run Try.prog w = .ok (.enter 57 args) w := run_enter Try.func57 (by kernel_rfl) rfl args w
set_option maxHeartbeats 400000 in
theorem fresh_int (A : Option Addr) (m c H : Nat) (xs : List Value) (w : World) (hl : xs.length = m) (hA : Row w H A xs) (h1 : ∀ u ∈ xs, u.oneCell' = true) (hm : m ≤ 1000000) :
    Calls Try.prog 57 #[.slice A m c] w (Fresh w 3 m xs) := by
  obtain ⟨i0, hi0, hz0, hz1, hz2⟩ := info_parts zint_info
  have HA := Lib.hid hA
  have HL := Lib.hid hl
  have H1 := Lib.hid h1
  clear hA hl h1
  go_enter Try.func57, Try.ntmps57
  go_wp2_with (
    at_builtin
    refine wpList_append_row rfl (.const (.slice none 0 0)) (.tmp 3) _ rfl w.heap.size 3 i0 _ 1 8 Try.underlying32 hi0 hz0 hz1 hz2 rfl (by omega) (.slice none 0 0) 0 [] rfl (World.ownsRow_nil _ _ _ _)
      A m c H xs rfl (by rw [HL.out, Nat.mul_one]) HA.out H1.out (by unfold maxLen; omega) (by omega) (Nat.le_refl _) ?_
    intro v2 w2 hown2 hg2
    simp only [Nat.zero_add, List.nil_append] at hown2
    have HO2 := Lib.hid hown2
    have HB2 := Lib.hid (own_below (Below.refl w.heap.size w) (Nat.le_refl _) (Nat.le_refl _) (World.ownsRow_nil w w.heap.size 3 1) hg2)
    clear hown2 hg2)
  go_ret
  exact ⟨_, rfl, HO2.out, HB2.out⟩

set_option maxRecDepth 8000 in
theorem step_fresh {a : Act} {w : World} {K : Act → World → Prop} {Q : Exit → Act → World → Prop} (o : Oper) (f : FuncId) (k : Nat) (ty e : TypeId) (n : Nat) (xs : List Value) (v : Value) (ho : o.op = .call { callee := .value (.func f), args := #[.tmp k], argTypes := #[ty] }) (h1 : a.tmps[k]? = some v) (he : (callFunc f #[v]).run Try.prog w = .ok (.enter f #[v]) w)
    (hc : Calls Try.prog f #[v] w (Fresh w e n xs)) (h : ∀ u w', w'.ownsRow w.heap.size e 1 u n xs → Below w.heap.size w w' → K (a.put o.dst u) w') : o.wp Try.prog a w K Q := by
  unfold Oper.wp
  simp [execOp, ho, resolve, invoke, Act.eval, h1, go_sem]
  rw [he]
  refine hc.mono ?_
  rintro _ w' ⟨u, rfl, h2, h3⟩
  exact h u w' h2 h3

/-- What each operation of the region yields. -/
def factC (H B : Nat) (x : DV) (d : Dt) : Nat → Value → World → Prop
  | 0 => fun v _ => v = .pointer (some ⟨H, 0, none⟩)
  | 1 => fun v _ => v = .slice x.Ab d.bytes.length x.cb
  | 2 => fun v w => w.ownsRow B 5 1 v d.bytes.length (d.bytes.map bc)
  | 3 => fun v _ => v = .pointer (some ⟨H, 1, none⟩)
  | 4 => fun v _ => v = .slice x.Ah d.host.length x.ch
  | 5 => fun v w => w.ownsRow B 9 1 v d.host.length (d.host.map sv)
  | 6 => fun v _ => v = .pointer (some ⟨H, 2, none⟩)
  | 7 => fun v _ => v = .slice x.Am d.mail.length x.cm
  | 8 => fun v w => w.ownsRow B 9 1 v d.mail.length (d.mail.map sv)
  | 9 => fun v _ => v = .pointer (some ⟨H, 3, none⟩)
  | 10 => fun v _ => v = .slice x.An d.nums.length x.cn
  | 11 => fun v w => w.ownsRow B 3 1 v d.nums.length (d.nums.map zv)
  | 12 => fun v _ => v = .pointer (some ⟨H, 4, none⟩)
  | 13 => fun v _ => v = .slice x.At d.texts.length x.ct
  | 14 => fun v w => w.ownsRow B 9 1 v d.texts.length (d.texts.map sv)
  | 15 => fun v w => ∃ y : DV, v = y.val d ∧ OwnD w B y d
  | _ => fun _ _ => True
set_option maxRecDepth 8000 in
theorem factC_mono {H B : Nat} {x : DV} {d : Dt} {w w' : World} (hw : ∀ g, g < w.heap.size → w'.heap[g]? = w.heap[g]?) : ∀ j u, j < 16 → factC H B x d j u w → factC H B x d j u w'
  | 0, _, _, h => h
  | 1, _, _, h => h
  | 2, _, _, h => own_keep h fun g e => hw g (World.ownsRow.lt h g e).2
  | 3, _, _, h => h
  | 4, _, _, h => h
  | 5, _, _, h => own_keep h fun g e => hw g (World.ownsRow.lt h g e).2
  | 6, _, _, h => h
  | 7, _, _, h => h
  | 8, _, _, h => own_keep h fun g e => hw g (World.ownsRow.lt h g e).2
  | 9, _, _, h => h
  | 10, _, _, h => h
  | 11, _, _, h => own_keep h fun g e => hw g (World.ownsRow.lt h g e).2
  | 12, _, _, h => h
  | 13, _, _, h => h
  | 14, _, _, h => own_keep h fun g e => hw g (World.ownsRow.lt h g e).2
  | 15, _, _, ⟨y, e, h⟩ => ⟨y, e, h.keep hw⟩
  | n + 16, _, h, _ => absurd h (by omega)

/-- What the call leaves: data of its own. -/
def OwnsC (w : World) (d : Dt) (e : Ending) (w' : World) : Prop := ∃ y : DV, e = .returned (y.val d) ∧ OwnD w' w.heap.size y d ∧ Below w.heap.size w w'

set_option maxRecDepth 8000 in
theorem step_storeC {a : Act} {w : World} {K : Act → World → Prop} {Q : Exit → Act → World → Prop} (o : Oper) (g : Nat) (y : DV) (d : Dt) (u0 u1 u2 u3 u4 : Value) (ho : o.op = .store 34 (.tmp 2) (.tmp 18)) (h2 : a.tmps[2]? = some (.pointer (some ⟨g, 0, none⟩)))
    (hu : a.tmps[18]? = some (y.val d)) (hw : Whole w g 34 [u0, u1, u2, u3, u4])
    (h : K (a.put o.dst undef) (((((w.setCell ⟨g, 0, none⟩ (y.vb d)).setCell ⟨g, 1, none⟩ (y.vh d)).setCell ⟨g, 2, none⟩ (y.vm d)).setCell ⟨g, 3, none⟩ (y.vn d)).setCell ⟨g, 4, none⟩ (y.vt d))) : o.wp Try.prog a w K Q := by
  have q0 : w.cell? ⟨g, 0, none⟩ = some u0 := hw.cell 0
  have q1 : w.cell? ⟨g, 1, none⟩ = some u1 := hw.cell 1
  have q2 : w.cell? ⟨g, 2, none⟩ = some u2 := hw.cell 2
  have q3 : w.cell? ⟨g, 3, none⟩ = some u3 := hw.cell 3
  have q4 : w.cell? ⟨g, 4, none⟩ = some u4 := hw.cell 4
  have z0 : w.frozen? ⟨g, 0, none⟩ = false := hw.frozen 0
  have z1 : w.frozen? ⟨g, 1, none⟩ = false := hw.frozen 1
  have z2 : w.frozen? ⟨g, 2, none⟩ = false := hw.frozen 2
  have z3 : w.frozen? ⟨g, 3, none⟩ = false := hw.frozen 3
  have z4 : w.frozen? ⟨g, 4, none⟩ = false := hw.frozen 4
  unfold Oper.wp
  simp [execOp, ho, go_sem, h2, hu, q0, q1, q2, q3, q4, z0, z1, z2, z3, z4]
  exact h

set_option maxRecDepth 20000 in
set_option maxHeartbeats 1000000 in
theorem copyOf_any (x : DV) (d : Dt) (w : World) (h : DataAt w w.heap.size x d) (hl : FewD d) :
    Calls Try.prog 27 #[x.val d] w (OwnsC w d) := by
  obtain ⟨hnh, hnm, hnt, hnn, hnb⟩ := hl
  go_enter Try.func27, Try.ntmps27
  go_wp2
  rename_i hret
  obtain ⟨W, hW⟩ : ∃ W, W = (w.alloc (.cells #[x.vb d, x.vh d, x.vm d, x.vn d, x.vt d] 34)).alloc (.cells #[.slice none 0 0, .slice none 0 0, .slice none 0 0, .slice none 0 0, .slice none 0 0] 34) := ⟨_, rfl⟩
  rw [← hW]
  have hw0 : Whole W w.heap.size 34 [x.vb d, x.vh d, x.vm d, x.vn d, x.vt d] := by
    rw [hW]
    exact (Whole.made w [x.vb d, x.vh d, x.vm d, x.vn d, x.vt d] _).alloc _
  have hw1 : Whole W (w.heap.size + 1) 34 [.slice none 0 0, .slice none 0 0, .slice none 0 0, .slice none 0 0, .slice none 0 0] := by
    rw [hW]
    have := Whole.made (w.alloc (.cells #[x.vb d, x.vh d, x.vm d, x.vn d, x.vt d] 34)) [.slice none 0 0, .slice none 0 0, .slice none 0 0, .slice none 0 0, .slice none 0 0] 34
    simpa using this
  have hbW : Below w.heap.size w W := by
    rw [hW]
    exact ((Below.refl _ _).alloc (Nat.le_refl _) _).alloc (by simp) _
  have hsW : W.heap.size = w.heap.size + 2 := by rw [hW]; simp
  have hdW : DataAt W w.heap.size x d := h.below hbW
  clear hW
  refine wp_region_facts 3 16 (OwnS W (w.heap.size + 2)) (factC w.heap.size (w.heap.size + 2) x d) (fun _ _ _ _ => True) (by kernel_rfl) rfl (by kernel_rfl) (by kernel_rfl) (by kernel_rfl) (by kernel_rfl) (by simp) (by kernel_rfl)
    ⟨(Below.refl _ W).drew, by simp [hsW]⟩ ?step ?tail
  case step =>
    intro i o hi ho l a v hF hdep K hK
    have hS := hF.S
    have h1 : a.tmps[1]? = some (.pointer (some ⟨w.heap.size, 0, none⟩)) := hF.low 1 (by omega)
    have hcell : ∀ k, v.cell? ⟨w.heap.size, k, none⟩ = [x.vb d, x.vh d, x.vm d, x.vn d, x.vt d][k]? := (hw0.below hS.below (by omega)).cell
    have hdv : DataAt v w.heap.size x d := hdW.below (hS.below.mono (by omega))
    have hK' : ∀ u w', factC w.heap.size (w.heap.size + 2) x d i u w' → Below v.heap.size v w' → K (a.put o.dst u) w' := fun u w' h2 h3 => hK u w' h2 (hS.more h3) (factC_mono fun g hg => h3.block g hg) fun _ _ _ _ => ⟨trivial, trivial⟩
    clear hK
    match i, hi, ho, hK' with
    | 0, _, ho, hK =>
      obtain rfl := Option.some.inj ho
      exact step_field _ 0 w.heap.size (by omega) rfl h1 (hK _ _ rfl (Below.refl _ _))
    | 1, _, ho, hK =>
      obtain rfl := Option.some.inj ho
      obtain ⟨u, hu, hFu⟩ := hF.facts 0 (by omega) (hdep ⟨0, .data⟩ (by simp) rfl)
      obtain rfl : u = .pointer (some ⟨w.heap.size, 0, none⟩) := hFu
      exact step_load _ 31 5 3 ⟨w.heap.size, 0, none⟩ _ rfl Try.underlying31 hu (hcell 0) (hK _ _ rfl (Below.refl _ _))
    | 2, _, ho, hK =>
      obtain rfl := Option.some.inj ho
      obtain ⟨y, hy, hFy⟩ := hF.facts 1 (by omega) (hdep ⟨1, .data⟩ (by simp) rfl)
      obtain rfl : y = .slice x.Ab d.bytes.length x.cb := hFy
      exact step_fresh _ 56 4 31 5 d.bytes.length (d.bytes.map bc) _ rfl hy (enter_byte _ _) (fresh_byte x.Ab d.bytes.length x.cb w.heap.size (d.bytes.map bc) v (by simp) hdv.b (bc_one _) (by omega))
        fun u w' h2 h3 => hK _ _ (own_mono h2 hS.size) h3
    | 3, _, ho, hK =>
      obtain rfl := Option.some.inj ho
      exact step_field _ 1 w.heap.size (by omega) rfl h1 (hK _ _ rfl (Below.refl _ _))
    | 4, _, ho, hK =>
      obtain rfl := Option.some.inj ho
      obtain ⟨u, hu, hFu⟩ := hF.facts 3 (by omega) (hdep ⟨3, .data⟩ (by simp) rfl)
      obtain rfl : u = .pointer (some ⟨w.heap.size, 1, none⟩) := hFu
      exact step_load _ 23 9 6 ⟨w.heap.size, 1, none⟩ _ rfl Try.underlying23 hu (hcell 1) (hK _ _ rfl (Below.refl _ _))
    | 5, _, ho, hK =>
      obtain rfl := Option.some.inj ho
      obtain ⟨y, hy, hFy⟩ := hF.facts 4 (by omega) (hdep ⟨4, .data⟩ (by simp) rfl)
      obtain rfl : y = .slice x.Ah d.host.length x.ch := hFy
      exact step_fresh _ 35 7 23 9 d.host.length (d.host.map sv) _ rfl hy (enter_string _ _) (fresh_string x.Ah d.host.length x.ch w.heap.size (d.host.map sv) v (by simp) hdv.h (sv_one _) (by omega))
        fun u w' h2 h3 => hK _ _ (own_mono h2 hS.size) h3
    | 6, _, ho, hK =>
      obtain rfl := Option.some.inj ho
      exact step_field _ 2 w.heap.size (by omega) rfl h1 (hK _ _ rfl (Below.refl _ _))
    | 7, _, ho, hK =>
      obtain rfl := Option.some.inj ho
      obtain ⟨u, hu, hFu⟩ := hF.facts 6 (by omega) (hdep ⟨6, .data⟩ (by simp) rfl)
      obtain rfl : u = .pointer (some ⟨w.heap.size, 2, none⟩) := hFu
      exact step_load _ 23 9 9 ⟨w.heap.size, 2, none⟩ _ rfl Try.underlying23 hu (hcell 2) (hK _ _ rfl (Below.refl _ _))
    | 8, _, ho, hK =>
      obtain rfl := Option.some.inj ho
      obtain ⟨y, hy, hFy⟩ := hF.facts 7 (by omega) (hdep ⟨7, .data⟩ (by simp) rfl)
      obtain rfl : y = .slice x.Am d.mail.length x.cm := hFy
      exact step_fresh _ 35 10 23 9 d.mail.length (d.mail.map sv) _ rfl hy (enter_string _ _) (fresh_string x.Am d.mail.length x.cm w.heap.size (d.mail.map sv) v (by simp) hdv.m (sv_one _) (by omega))
        fun u w' h2 h3 => hK _ _ (own_mono h2 hS.size) h3
    | 9, _, ho, hK =>
      obtain rfl := Option.some.inj ho
      exact step_field _ 3 w.heap.size (by omega) rfl h1 (hK _ _ rfl (Below.refl _ _))
    | 10, _, ho, hK =>
      obtain rfl := Option.some.inj ho
      obtain ⟨u, hu, hFu⟩ := hF.facts 9 (by omega) (hdep ⟨9, .data⟩ (by simp) rfl)
      obtain rfl : u = .pointer (some ⟨w.heap.size, 3, none⟩) := hFu
      exact step_load _ 32 3 12 ⟨w.heap.size, 3, none⟩ _ rfl Try.underlying32 hu (hcell 3) (hK _ _ rfl (Below.refl _ _))
    | 11, _, ho, hK =>
      obtain rfl := Option.some.inj ho
      obtain ⟨y, hy, hFy⟩ := hF.facts 10 (by omega) (hdep ⟨10, .data⟩ (by simp) rfl)
      obtain rfl : y = .slice x.An d.nums.length x.cn := hFy
      exact step_fresh _ 57 13 32 3 d.nums.length (d.nums.map zv) _ rfl hy (enter_int _ _) (fresh_int x.An d.nums.length x.cn w.heap.size (d.nums.map zv) v (by simp) hdv.n (zv_one _) (by omega))
        fun u w' h2 h3 => hK _ _ (own_mono h2 hS.size) h3
    | 12, _, ho, hK =>
      obtain rfl := Option.some.inj ho
      exact step_field _ 4 w.heap.size (by omega) rfl h1 (hK _ _ rfl (Below.refl _ _))
    | 13, _, ho, hK =>
      obtain rfl := Option.some.inj ho
      obtain ⟨u, hu, hFu⟩ := hF.facts 12 (by omega) (hdep ⟨12, .data⟩ (by simp) rfl)
      obtain rfl : u = .pointer (some ⟨w.heap.size, 4, none⟩) := hFu
      exact step_load _ 23 9 15 ⟨w.heap.size, 4, none⟩ _ rfl Try.underlying23 hu (hcell 4) (hK _ _ rfl (Below.refl _ _))
    | 14, _, ho, hK =>
      obtain rfl := Option.some.inj ho
      obtain ⟨y, hy, hFy⟩ := hF.facts 13 (by omega) (hdep ⟨13, .data⟩ (by simp) rfl)
      obtain rfl : y = .slice x.At d.texts.length x.ct := hFy
      exact step_fresh _ 35 16 23 9 d.texts.length (d.texts.map sv) _ rfl hy (enter_string _ _) (fresh_string x.At d.texts.length x.ct w.heap.size (d.texts.map sv) v (by simp) hdv.t (sv_one _) (by omega))
        fun u w' h2 h3 => hK _ _ (own_mono h2 hS.size) h3
    | 15, _, ho, hK =>
      obtain rfl := Option.some.inj ho
      have hl (j : Nat) (h : (⟨j, .data⟩ : Edge) ∈ #[(⟨2, .data⟩ : Edge), ⟨5, .data⟩, ⟨8, .data⟩, ⟨11, .data⟩, ⟨14, .data⟩]) := hdep ⟨j, .data⟩ h rfl
      obtain ⟨v0, g0, f0⟩ := hF.facts 2 (by omega) (hl 2 (by simp))
      obtain ⟨v1, g1, f1⟩ := hF.facts 5 (by omega) (hl 5 (by simp))
      obtain ⟨v2, g2, f2⟩ := hF.facts 8 (by omega) (hl 8 (by simp))
      obtain ⟨v3, g3, f3⟩ := hF.facts 11 (by omega) (hl 11 (by simp))
      obtain ⟨v4, g4, f4⟩ := hF.facts 14 (by omega) (hl 14 (by simp))
      obtain ⟨A0, c0, rfl, _, _⟩ := own_form f0
      obtain ⟨A1, c1, rfl, _, _⟩ := own_form f1
      obtain ⟨A2, c2, rfl, _, _⟩ := own_form f2
      obtain ⟨A3, c3, rfl, _, _⟩ := own_form f3
      obtain ⟨A4, c4, rfl, _, _⟩ := own_form f4
      have hk := hK (DV.val ⟨A0, A1, A2, A3, A4, c0, c1, c2, c3, c4⟩ d) v ⟨⟨A0, A1, A2, A3, A4, c0, c1, c2, c3, c4⟩, rfl, ⟨f0, f1, f2, f3, f4⟩⟩ (Below.refl _ _)
      unfold Oper.wp
      simp [execOp, go_sem, g0, g1, g2, g3, g4]
      exact hk
    | n + 16, hi, _, _ => exact absurd hi (by omega)
  case tail =>
    intro l a v o ho hF hl
    obtain rfl := Option.some.inj ho
    have hS := hF.S
    have h2 : a.tmps[2]? = some (.pointer (some ⟨w.heap.size + 1, 0, none⟩)) := hF.low 2 (by omega)
    obtain ⟨u, hu, y, rfl, hO⟩ := hF.facts 15 (by omega) (hl 15 (by omega))
    have hw := hw1.below hS.below (by omega)
    refine wpList_plain rfl fun K2 hK2 => step_storeC _ (w.heap.size + 1) y d _ _ _ _ _ rfl h2 hu hw ?_
    refine hK2 _ _ ?_
    obtain ⟨V, hV⟩ : ∃ V, V = ((((v.setCell ⟨w.heap.size + 1, 0, none⟩ (y.vb d)).setCell ⟨w.heap.size + 1, 1, none⟩ (y.vh d)).setCell ⟨w.heap.size + 1, 2, none⟩ (y.vm d)).setCell ⟨w.heap.size + 1, 3, none⟩ (y.vn d)).setCell ⟨w.heap.size + 1, 4, none⟩ (y.vt d) := ⟨_, rfl⟩
    rw [← hV]
    have hw5 : Whole V (w.heap.size + 1) 34 [y.vb d, y.vh d, y.vm d, y.vn d, y.vt d] := by
      rw [hV]
      exact ((((hw.set_ 0 _).set_ 1 _).set_ 2 _).set_ 3 _).set_ 4 _
    have hb5 : Below (w.heap.size + 1) v V := by
      rw [hV]
      have hs (W : World) (i : Nat) (u : Value) : Below (w.heap.size + 1) W (W.setCell ⟨w.heap.size + 1, i, none⟩ u) := (Below.refl _ W).setCell (p := ⟨w.heap.size + 1, i, none⟩) (Nat.le_refl _) u
      exact ((((hs _ 0 _).trans (hs _ 1 _)).trans (hs _ 2 _)).trans (hs _ 3 _)).trans (hs _ 4 _)
    have hf5 : ∀ g, g ≠ w.heap.size + 1 → V.heap[g]? = v.heap[g]? := fun g hg => by
      rw [hV]
      have hs (W : World) (i : Nat) (u : Value) : (W.setCell ⟨w.heap.size + 1, i, none⟩ u).heap[g]? = W.heap[g]? := Below.heap_setCell W ⟨w.heap.size + 1, i, none⟩ u g hg
      rw [hs, hs, hs, hs, hs]
    have hO5 : OwnD V (w.heap.size + 2) y d :=
      ⟨own_keep hO.b fun g e => hf5 g (by have := (hO.b.lt g e).1; omega), own_keep hO.h fun g e => hf5 g (by have := (hO.h.lt g e).1; omega), own_keep hO.m fun g e => hf5 g (by have := (hO.m.lt g e).1; omega), own_keep hO.n fun g e => hf5 g (by have := (hO.n.lt g e).1; omega), own_keep hO.t fun g e => hf5 g (by have := (hO.t.lt g e).1; omega)⟩
    have hO6 : OwnD V w.heap.size y d := ⟨own_mono hO5.b (by omega), own_mono hO5.h (by omega), own_mono hO5.m (by omega), own_mono hO5.n (by omega), own_mono hO5.t (by omega)⟩
    have hB : Below w.heap.size w V := (hbW.trans (hS.below.mono (by omega))).trans (hb5.mono (by omega))
    have q0 : V.cell? ⟨w.heap.size + 1, 0, none⟩ = some (y.vb d) := hw5.cell 0
    have q1 : V.cell? ⟨w.heap.size + 1, 1, none⟩ = some (y.vh d) := hw5.cell 1
    have q2 : V.cell? ⟨w.heap.size + 1, 2, none⟩ = some (y.vm d) := hw5.cell 2
    have q3 : V.cell? ⟨w.heap.size + 1, 3, none⟩ = some (y.vn d) := hw5.cell 3
    have q4 : V.cell? ⟨w.heap.size + 1, 4, none⟩ = some (y.vt d) := hw5.cell 4
    clear hV hw5 hb5 hf5 hO5 hw hw0 hw1 hO
    refine hret _ _ (wp_ret ?_)
    refine ⟨hF.defers, y.val d, ?_, y, rfl, hO6, hB⟩
    clear hF hl
    simp [results, Try.results27, go_sem, Act.put, h2, q0, q1, q2, q3, q4]


end Go.Proofs.Ythppgofpbpjglaa

namespace Go.Proofs.Ythppgofpbpjglaa
open Go.RowKit

theorem data_info : (Try.prog.info? 34).map (fun i => (i.zero, i.size, i.bytes)) = some (some (.agg #[.slice none 0 0, .slice none 0 0, .slice none 0 0, .slice none 0 0, .slice none 0 0]), 5, 120) := by kernel_rfl

/-- Is the record one of those that are asked for? -/
def selR (n : List (List UInt8)) (k : Int) (r : Rt) : Bool := decide (r.cls = 1) && (decide (r.kind = k) && eqN r.name n)
/-- One record more. -/
def stepS (s : List Dt × Int) (r : Rt) : List Dt × Int := (if hasD s.1 r.data = true then s.1 else s.1 ++ [r.data], if s.1 = [] ∨ r.ttl < s.2 then r.ttl else s.2)
/-- The set of a name and a type, and its least TTL. -/
def setF (rs : List Rt) (n : List (List UInt8)) (k : Int) : List Dt × Int := (rs.filter (selR n k)).foldl stepS ([], 0)
theorem setF_snoc (rs : List Rt) (r : Rt) (n : List (List UInt8)) (k : Int) : setF (rs ++ [r]) n k = if selR n k r = true then stepS (setF rs n k) r else setF rs n k := by
  unfold setF
  rw [List.filter_append, List.foldl_append]
  cases h : selR n k r <;> simp [h]
theorem recs_snoc {ps : List (RV × Rt)} {j : Nat} (hj : j < ps.length) : recs (ps.take (j + 1)) = recs (ps.take j) ++ [(ps[j]).2] := by
  rw [List.take_succ_eq_append_getElem hj, recs_append]
  rfl
theorem setF_take {ps : List (RV × Rt)} {j : Nat} (hj : j < ps.length) (n : List (List UInt8)) (k : Int) : setF (recs (ps.take (j + 1))) n k = if selR n k (ps[j]).2 = true then stepS (setF (recs (ps.take j)) n k) (ps[j]).2 else setF (recs (ps.take j)) n k := by
  rw [recs_snoc hj, setF_snoc]

theorem own_own_apart' {w : World} {b1 b2 : Nat} {e1 e2 : TypeId} {s1 s2 n1 n2 : Nat} {v1 v2 : Value} {x1 x2 : List Value} (h1 : w.ownsRow b1 e1 s1 v1 n1 x1) (h2 : w.ownsRow b2 e2 s2 v2 n2 x2) (he : e1 ≠ e2) {j : Nat} (hj : v1.ownBlock = some j) : v2.ownBlock ≠ some j := by
  intro hk
  rcases h1.2 with ⟨rfl, _⟩ | ⟨g1, _, c1, rfl, _, hh1, _⟩
  · cases hj
  rcases h2.2 with ⟨rfl, _⟩ | ⟨g2, _, c2, rfl, _, hh2, _⟩
  · cases hk
  simp only [Value.ownBlock, Option.some.injEq] at hj hk
  subst hj
  subst hk
  rw [hh1] at hh2
  injection hh2 with hh2
  injection hh2 with _ hh2 _
  exact he hh2
theorem OwnD.mono {w : World} {B B' : Nat} {x : DV} {d : Dt} (h : OwnD w B x d) (hb : B' ≤ B) : OwnD w B' x d := ⟨own_mono h.b hb, own_mono h.h hb, own_mono h.m hb, own_mono h.n hb, own_mono h.t hb⟩
theorem cellsD_one1 (p : DV × Dt) : ∀ u ∈ cellsD p, u.oneCell' = true := fun u hu => cellsD_one [p] u (by simpa using hu)
/-- Data of the call's own is kept while a row of data grows. -/
theorem OwnD.grown {w w' : World} {B : Nat} {x : DV} {d : Dt} (h : OwnD w B x d) {v : Value} {n : Nat} {xs : List Value} (hv : w.ownsRow B 34 5 v n xs) (hg : w.grownBy w' v.ownBlock) : OwnD w' B x d := by
  have hk : ∀ {e : TypeId} {s m : Nat} {u : Value} {ys : List Value}, w.ownsRow B e s u m ys → e ≠ 34 → ∀ g, u.ownBlock = some g → w'.heap[g]? = w.heap[g]? := fun ho hne g hj =>
    hg.block g (ho.lt g hj).2 (Ne.symm (own_own_apart' ho hv hne hj))
  exact ⟨own_keep h.b (hk h.b (by decide)), own_keep h.h (hk h.h (by decide)), own_keep h.m (hk h.m (by decide)), own_keep h.n (hk h.n (by decide)), own_keep h.t (hk h.t (by decide))⟩

/-- What Set has made ahead of a round: the rows of the set. -/
structure SetAt (w0 : World) (v : Value) (qs : List (DV × Dt)) (w : World) : Prop where
  row : w.ownsRow w0.heap.size 34 5 v qs.length (qs.flatMap cellsD)
  each : ∀ q ∈ qs, OwnD w w0.heap.size q.1 q.2
  below : Below w0.heap.size w0 w
  size : w0.heap.size ≤ w.heap.size
theorem SetAt.step {w0 w w' : World} {v : Value} {qs : List (DV × Dt)} (h : SetAt w0 v qs w) (hb : Below w.heap.size w w') : SetAt w0 v qs w' :=
  ⟨own_keep h.row fun j hj => hb.block j (h.row.lt j hj).2, fun q hq => (h.each q hq).keep fun g hg => hb.block g hg, h.below.trans (hb.mono h.size), Nat.le_trans h.size hb.size⟩
theorem SetAt.reads {w0 w : World} {A : Option Addr} {c : Nat} {qs : List (DV × Dt)} (h : SetAt w0 (.slice A qs.length c) qs w) : DsAt w w.heap.size A qs :=
  ⟨Row.of_own h.row, fun q hq => (h.each q hq).at_⟩
/-- One more has been appended. -/
theorem SetAt.snoc {w0 w w' : World} {v v' : Value} {qs : List (DV × Dt)} (h : SetAt w0 v qs w) {y : DV} {d : Dt} (hy : OwnD w w0.heap.size y d) (ho : w'.ownsRow w0.heap.size 34 5 v' (qs.length + 1) (qs.flatMap cellsD ++ cellsD (y, d)))
    (hg : w.grownBy w' v.ownBlock) : SetAt w0 v' (qs ++ [(y, d)]) w' := by
  refine ⟨by rw [List.length_append, List.flatMap_append]; simpa using ho, fun q hq => ?_, own_below h.below (Nat.le_refl _) h.size h.row hg, Nat.le_trans h.size hg.size⟩
  rcases List.mem_append.1 hq with hq | hq
  · exact (h.each q hq).grown h.row hg
  · rw [List.mem_singleton.1 hq]
    exact hy.grown h.row hg

/-- What Set leaves: slices of its own that say what the set says. -/
def SetOut (w : World) (s : List Dt × Int) (e : Ending) (w' : World) : Prop :=
  ∃ (A : Option Addr) (c : Nat) (qs : List (DV × Dt)), e = .returned (.tuple #[.slice A qs.length c, .int .i64 s.2]) ∧ dats qs = s.1 ∧ DsAt w' w'.heap.size A qs ∧ Below w.heap.size w w'
/-- The same, told more of: the slices are the call's own. -/
def SetOwn (w : World) (s : List Dt × Int) (e : Ending) (w' : World) : Prop :=
  ∃ (A : Option Addr) (c : Nat) (qs : List (DV × Dt)), e = .returned (.tuple #[.slice A qs.length c, .int .i64 s.2]) ∧ dats qs = s.1 ∧ SetAt w (.slice A qs.length c) qs w'
def SetRel (w : World) (ps : List (RV × Rt)) (n : List (List UInt8)) (k : Int) (v t i : Value) (wr : World) : Prop :=
  ∃ (j : Nat) (qs : List (DV × Dt)), j ≤ ps.length ∧ i = .int .i64 j ∧ t = .int .i64 (setF (recs (ps.take j)) n k).2 ∧ dats qs = (setF (recs (ps.take j)) n k).1 ∧ qs.length ≤ j ∧ (∀ q ∈ qs, Wide q.2) ∧ SetAt w v qs wr

set_option maxRecDepth 20000 in
set_option maxHeartbeats 8000000 in
theorem set_own (w : World) (A : Option Addr) (c : Nat) (ps : List (RV × Rt)) (An : Option Addr) (n : List (List UInt8)) (cn : Nat) (kind : Int) (hp : RsAt w w.heap.size A ps) (hn : Row w w.heap.size An (n.map sv)) (hw : WideN n)
    (hr : ∀ p ∈ ps, RIn p.2 ∧ FewD p.2.data) (hl : ps.length ≤ 1000) :
    Calls Try.prog 9 #[.slice A ps.length c, .slice An n.length cn, .int .i64 kind] w (SetOwn w (setF (recs ps) n kind)) := by
  obtain ⟨i0, hi0, hz0, hz1, hz2⟩ := info_parts data_info
  have HP := Lib.hid hp
  have HN := Lib.hid hn
  have HW := Lib.hid hw
  have HR := Lib.hid hr
  clear hp hn hw hr
  go_enter Try.func9, Try.ntmps9
  go_wp2
  go_loopw [6, 7, 12] (SetRel w ps n kind) (fun _ _ i _ => ps.length - (intOf i).toNat)
  case atStart => exact ⟨0, [], Nat.zero_le _, rfl, rfl, rfl, Nat.le_refl _, fun _ h => absurd h (List.not_mem_nil), World.ownsRow_nil _ _ _ _, fun _ h => absurd h (List.not_mem_nil), Below.refl _ _, Nat.le_refl _⟩
  case round =>
    obtain ⟨j, qs, hj, rfl, rfl, hq, hqj, hqw, hs⟩ := hrel
    have HS := Lib.hid hs
    have HQ := Lib.hid hq
    have HQW := Lib.hid hqw
    obtain ⟨A1, c1, rfl, _, _⟩ := own_form hs.row
    clear hs hq hqw
    by_cases hlt : j < ps.length
    · obtain ⟨b, off, rfl, hbH, hra, q0, q1, q2, q3, q4, q5, q6, q7, q8⟩ := (HP.out.below HS.out.below).at_ hlt
      have hri := HR.out _ (List.getElem_mem hlt)
      have HF := Lib.hid (setF_take hlt n kind)
      have HG := Lib.hid (show setF (recs (ps.take j)) n kind = setF (recs (ps.take j)) n kind from rfl)
      revert hra q0 q1 q2 q3 q4 q5 q6 q7 q8 hri HF
      generalize ps[j] = p
      obtain ⟨x, r⟩ := p
      intro hra q0 q1 q2 q3 q4 q5 q6 q7 q8 hri HF
      dsimp only at *
      have HRA := Lib.hid hra
      have HRI := Lib.hid hri
      clear hra hri HG
      generalize hS0 : setF (recs (ps.take j)) n kind = S0 at *
      obtain ⟨sl, st⟩ := S0
      dsimp only at HQ
      clear hS0
      have hnew := (Below.refl wr.heap.size wr).alloc (Nat.le_refl _) (.cells #[.slice x.A r.name.length x.c, .int .i64 r.kind, .int .i64 r.cls, .int .i64 r.ttl, .slice x.d.Ab r.data.bytes.length x.d.cb, .slice x.d.Ah r.data.host.length x.d.ch, .slice x.d.Am r.data.mail.length x.d.cm, .slice x.d.An r.data.nums.length x.d.cn, .slice x.d.At r.data.texts.length x.d.ct] 54)
      have HSA := Lib.hid (HS.out.step hnew)
      have HWP := Lib.hid (heap_alloc_new wr (.cells #[.slice x.A r.name.length x.c, .int .i64 r.kind, .int .i64 r.cls, .int .i64 r.ttl, .slice x.d.Ab r.data.bytes.length x.d.cb, .slice x.d.Ah r.data.host.length x.d.ch, .slice x.d.Am r.data.mail.length x.d.cm, .slice x.d.An r.data.nums.length x.d.cn, .slice x.d.At r.data.texts.length x.d.ct] 54))
      have HRB := Lib.hid ((HRA.out.mono HS.out.size).below hnew)
      by_cases k1 : r.cls = 1
      case neg =>
        have b1 : (r.cls != 1) = true := by rw [bne_iff_ne]; exact k1
        have HE := Lib.hid (show setF (recs (ps.take (j + 1))) n kind = (sl, st) by rw [HF.out, if_neg (by simp [selR, k1])])
        clear HF
        go_wp2
        refine ⟨⟨j + 1, qs, by omega, by go_num, by rw [HE.out], by rw [HE.out]; exact HQ.out, by omega, HQW.out, HSA.out⟩, by simp [intOf]; omega⟩
      have b1 : (r.cls != 1) = false := by rw [k1]; rfl
      have K1 := Lib.hid k1
      clear k1
      by_cases k2 : r.kind = kind
      case neg =>
        have b2 : (r.kind != kind) = true := by rw [bne_iff_ne]; exact k2
        have HE := Lib.hid (show setF (recs (ps.take (j + 1))) n kind = (sl, st) by rw [HF.out, if_neg (by simp [selR, k2])])
        clear HF
        go_wp2
        refine ⟨⟨j + 1, qs, by omega, by go_num, by rw [HE.out], by rw [HE.out]; exact HQ.out, by omega, HQW.out, HSA.out⟩, by simp [intOf]; omega⟩
      have b2 : (r.kind != kind) = false := by rw [k2]; simp
      have K2 := Lib.hid k2
      clear k2
      have HEQ := Lib.hid (equal_wide x.A An r.name.length n.length x.c cn wr.heap.size r.name n (wr.alloc (.cells #[.slice x.A r.name.length x.c, .int .i64 r.kind, .int .i64 r.cls, .int .i64 r.ttl, .slice x.d.Ab r.data.bytes.length x.d.cb, .slice x.d.Ah r.data.host.length x.d.ch, .slice x.d.Am r.data.mail.length x.d.cm, .slice x.d.An r.data.nums.length x.d.cn, .slice x.d.At r.data.texts.length x.d.ct] 54)) rfl rfl HRB.out.n (((HN.out.below HS.out.below).mono HS.out.size).below hnew) hnew.size HRI.out.1.n HW.out)
      clear hnew
      go_wp2_with fail
      refine HEQ.out.mono ?_
      rintro e w3 ⟨rfl, hb3⟩
      have HS3 := Lib.hid (HSA.out.step hb3)
      have HW3 := Lib.hid ((hb3.block wr.heap.size (by simp)).trans HWP.out)
      have HR3 := Lib.hid ((HRB.out.below (hb3.mono (by simp))).mono (Nat.le_trans (by simp) hb3.size))
      have hz3 : wr.heap.size < w3.heap.size := by have h := hb3.size; simp at h; omega
      clear hb3 HSA HWP HRB HEQ
      cases k3 : eqN r.name n with
      | false =>
        have HE := Lib.hid (show setF (recs (ps.take (j + 1))) n kind = (sl, st) by rw [HF.out, if_neg (by simp [selR, k3])])
        clear HF
        go_wp2
        refine ⟨⟨j + 1, qs, by omega, by go_num, by rw [HE.out], by rw [HE.out]; exact HQ.out, by omega, HQW.out, HS3.out⟩, by simp [intOf]; omega⟩
      | true =>
        have HE := Lib.hid (show setF (recs (ps.take (j + 1))) n kind = stepS (sl, st) r by rw [HF.out, if_pos (by simp [selR, K1.out, K2.out, k3])])
        clear HF
        have p0 : w3.cell? ⟨wr.heap.size, 0, none⟩ = some (.slice x.A r.name.length x.c) := Whole.cell (L := [.slice x.A r.name.length x.c, .int .i64 r.kind, .int .i64 r.cls, .int .i64 r.ttl, .slice x.d.Ab r.data.bytes.length x.d.cb, .slice x.d.Ah r.data.host.length x.d.ch, .slice x.d.Am r.data.mail.length x.d.cm, .slice x.d.An r.data.nums.length x.d.cn, .slice x.d.At r.data.texts.length x.d.ct]) HW3.out 0
        have p1 : w3.cell? ⟨wr.heap.size, 1, none⟩ = some (.int .i64 r.kind) := Whole.cell (L := [.slice x.A r.name.length x.c, .int .i64 r.kind, .int .i64 r.cls, .int .i64 r.ttl, .slice x.d.Ab r.data.bytes.length x.d.cb, .slice x.d.Ah r.data.host.length x.d.ch, .slice x.d.Am r.data.mail.length x.d.cm, .slice x.d.An r.data.nums.length x.d.cn, .slice x.d.At r.data.texts.length x.d.ct]) HW3.out 1
        have p2 : w3.cell? ⟨wr.heap.size, 2, none⟩ = some (.int .i64 r.cls) := Whole.cell (L := [.slice x.A r.name.length x.c, .int .i64 r.kind, .int .i64 r.cls, .int .i64 r.ttl, .slice x.d.Ab r.data.bytes.length x.d.cb, .slice x.d.Ah r.data.host.length x.d.ch, .slice x.d.Am r.data.mail.length x.d.cm, .slice x.d.An r.data.nums.length x.d.cn, .slice x.d.At r.data.texts.length x.d.ct]) HW3.out 2
        have p3 : w3.cell? ⟨wr.heap.size, 3, none⟩ = some (.int .i64 r.ttl) := Whole.cell (L := [.slice x.A r.name.length x.c, .int .i64 r.kind, .int .i64 r.cls, .int .i64 r.ttl, .slice x.d.Ab r.data.bytes.length x.d.cb, .slice x.d.Ah r.data.host.length x.d.ch, .slice x.d.Am r.data.mail.length x.d.cm, .slice x.d.An r.data.nums.length x.d.cn, .slice x.d.At r.data.texts.length x.d.ct]) HW3.out 3
        have p4 : w3.cell? ⟨wr.heap.size, 4, none⟩ = some (.slice x.d.Ab r.data.bytes.length x.d.cb) := Whole.cell (L := [.slice x.A r.name.length x.c, .int .i64 r.kind, .int .i64 r.cls, .int .i64 r.ttl, .slice x.d.Ab r.data.bytes.length x.d.cb, .slice x.d.Ah r.data.host.length x.d.ch, .slice x.d.Am r.data.mail.length x.d.cm, .slice x.d.An r.data.nums.length x.d.cn, .slice x.d.At r.data.texts.length x.d.ct]) HW3.out 4
        have p5 : w3.cell? ⟨wr.heap.size, 5, none⟩ = some (.slice x.d.Ah r.data.host.length x.d.ch) := Whole.cell (L := [.slice x.A r.name.length x.c, .int .i64 r.kind, .int .i64 r.cls, .int .i64 r.ttl, .slice x.d.Ab r.data.bytes.length x.d.cb, .slice x.d.Ah r.data.host.length x.d.ch, .slice x.d.Am r.data.mail.length x.d.cm, .slice x.d.An r.data.nums.length x.d.cn, .slice x.d.At r.data.texts.length x.d.ct]) HW3.out 5
        have p6 : w3.cell? ⟨wr.heap.size, 6, none⟩ = some (.slice x.d.Am r.data.mail.length x.d.cm) := Whole.cell (L := [.slice x.A r.name.length x.c, .int .i64 r.kind, .int .i64 r.cls, .int .i64 r.ttl, .slice x.d.Ab r.data.bytes.length x.d.cb, .slice x.d.Ah r.data.host.length x.d.ch, .slice x.d.Am r.data.mail.length x.d.cm, .slice x.d.An r.data.nums.length x.d.cn, .slice x.d.At r.data.texts.length x.d.ct]) HW3.out 6
        have p7 : w3.cell? ⟨wr.heap.size, 7, none⟩ = some (.slice x.d.An r.data.nums.length x.d.cn) := Whole.cell (L := [.slice x.A r.name.length x.c, .int .i64 r.kind, .int .i64 r.cls, .int .i64 r.ttl, .slice x.d.Ab r.data.bytes.length x.d.cb, .slice x.d.Ah r.data.host.length x.d.ch, .slice x.d.Am r.data.mail.length x.d.cm, .slice x.d.An r.data.nums.length x.d.cn, .slice x.d.At r.data.texts.length x.d.ct]) HW3.out 7
        have p8 : w3.cell? ⟨wr.heap.size, 8, none⟩ = some (.slice x.d.At r.data.texts.length x.d.ct) := Whole.cell (L := [.slice x.A r.name.length x.c, .int .i64 r.kind, .int .i64 r.cls, .int .i64 r.ttl, .slice x.d.Ab r.data.bytes.length x.d.cb, .slice x.d.Ah r.data.host.length x.d.ch, .slice x.d.Am r.data.mail.length x.d.cm, .slice x.d.An r.data.nums.length x.d.cn, .slice x.d.At r.data.texts.length x.d.ct]) HW3.out 8
        have HHAS := Lib.hid (has_any w3 x.d r.data A1 c1 qs HR3.out.d HS3.out.reads HRI.out.1.d HQW.out (by unfold maxLen; omega))
        have hzs : qs.length = sl.length := by rw [← HQ.out, length_dats]
        obtain ⟨st2, hst⟩ : ∃ st2, st2 = if sl = [] ∨ r.ttl < st then r.ttl else st := ⟨_, rfl⟩
        have HST := Lib.hid hst
        by_cases e1 : sl = []
        · have g1 : ((qs.length : Int) == 0) = true := by rw [beq_iff_eq, hzs, e1]; rfl
          have hst2 : st2 = r.ttl := by rw [hst, if_pos (.inl e1)]
          clear hst e1 hzs
          subst hst2
          go_wp2_with fail
          refine HHAS.out.mono ?_
          rintro e w4 ⟨rfl, hb4⟩
          have HS4 := Lib.hid (HS3.out.step hb4)
          have HW4 := Lib.hid ((hb4.block wr.heap.size hz3).trans HW3.out)
          have HR4 := Lib.hid ((HR3.out.below hb4).mono hb4.size)
          have hz4 : wr.heap.size < w4.heap.size := Nat.lt_of_lt_of_le hz3 hb4.size
          clear hb4 HS3 HW3 HR3 p0 p1 p2 p3 p4 p5 p6 p7 p8
          cases k4 : hasD (dats qs) r.data with
          | true =>
            have HE2 := Lib.hid (show setF (recs (ps.take (j + 1))) n kind = (sl, r.ttl) by rw [HE.out]; unfold stepS; rw [← HST.out]; dsimp only; rw [← HQ.out, if_pos k4])
            clear HE
            go_wp2
            refine ⟨⟨j + 1, qs, by omega, by go_num, by rw [HE2.out], by rw [HE2.out]; exact HQ.out, by omega, HQW.out, HS4.out⟩, by simp [intOf]; omega⟩
          | false =>
            have HE2 := Lib.hid (show setF (recs (ps.take (j + 1))) n kind = (sl ++ [r.data], r.ttl) by rw [HE.out]; unfold stepS; rw [← HST.out]; dsimp only; rw [← HQ.out, if_neg (by rw [k4]; decide)])
            clear HE
            have p0 : w4.cell? ⟨wr.heap.size, 0, none⟩ = some (.slice x.A r.name.length x.c) := Whole.cell (L := [.slice x.A r.name.length x.c, .int .i64 r.kind, .int .i64 r.cls, .int .i64 r.ttl, .slice x.d.Ab r.data.bytes.length x.d.cb, .slice x.d.Ah r.data.host.length x.d.ch, .slice x.d.Am r.data.mail.length x.d.cm, .slice x.d.An r.data.nums.length x.d.cn, .slice x.d.At r.data.texts.length x.d.ct]) HW4.out 0
            have p1 : w4.cell? ⟨wr.heap.size, 1, none⟩ = some (.int .i64 r.kind) := Whole.cell (L := [.slice x.A r.name.length x.c, .int .i64 r.kind, .int .i64 r.cls, .int .i64 r.ttl, .slice x.d.Ab r.data.bytes.length x.d.cb, .slice x.d.Ah r.data.host.length x.d.ch, .slice x.d.Am r.data.mail.length x.d.cm, .slice x.d.An r.data.nums.length x.d.cn, .slice x.d.At r.data.texts.length x.d.ct]) HW4.out 1
            have p2 : w4.cell? ⟨wr.heap.size, 2, none⟩ = some (.int .i64 r.cls) := Whole.cell (L := [.slice x.A r.name.length x.c, .int .i64 r.kind, .int .i64 r.cls, .int .i64 r.ttl, .slice x.d.Ab r.data.bytes.length x.d.cb, .slice x.d.Ah r.data.host.length x.d.ch, .slice x.d.Am r.data.mail.length x.d.cm, .slice x.d.An r.data.nums.length x.d.cn, .slice x.d.At r.data.texts.length x.d.ct]) HW4.out 2
            have p3 : w4.cell? ⟨wr.heap.size, 3, none⟩ = some (.int .i64 r.ttl) := Whole.cell (L := [.slice x.A r.name.length x.c, .int .i64 r.kind, .int .i64 r.cls, .int .i64 r.ttl, .slice x.d.Ab r.data.bytes.length x.d.cb, .slice x.d.Ah r.data.host.length x.d.ch, .slice x.d.Am r.data.mail.length x.d.cm, .slice x.d.An r.data.nums.length x.d.cn, .slice x.d.At r.data.texts.length x.d.ct]) HW4.out 3
            have p4 : w4.cell? ⟨wr.heap.size, 4, none⟩ = some (.slice x.d.Ab r.data.bytes.length x.d.cb) := Whole.cell (L := [.slice x.A r.name.length x.c, .int .i64 r.kind, .int .i64 r.cls, .int .i64 r.ttl, .slice x.d.Ab r.data.bytes.length x.d.cb, .slice x.d.Ah r.data.host.length x.d.ch, .slice x.d.Am r.data.mail.length x.d.cm, .slice x.d.An r.data.nums.length x.d.cn, .slice x.d.At r.data.texts.length x.d.ct]) HW4.out 4
            have p5 : w4.cell? ⟨wr.heap.size, 5, none⟩ = some (.slice x.d.Ah r.data.host.length x.d.ch) := Whole.cell (L := [.slice x.A r.name.length x.c, .int .i64 r.kind, .int .i64 r.cls, .int .i64 r.ttl, .slice x.d.Ab r.data.bytes.length x.d.cb, .slice x.d.Ah r.data.host.length x.d.ch, .slice x.d.Am r.data.mail.length x.d.cm, .slice x.d.An r.data.nums.length x.d.cn, .slice x.d.At r.data.texts.length x.d.ct]) HW4.out 5
            have p6 : w4.cell? ⟨wr.heap.size, 6, none⟩ = some (.slice x.d.Am r.data.mail.length x.d.cm) := Whole.cell (L := [.slice x.A r.name.length x.c, .int .i64 r.kind, .int .i64 r.cls, .int .i64 r.ttl, .slice x.d.Ab r.data.bytes.length x.d.cb, .slice x.d.Ah r.data.host.length x.d.ch, .slice x.d.Am r.data.mail.length x.d.cm, .slice x.d.An r.data.nums.length x.d.cn, .slice x.d.At r.data.texts.length x.d.ct]) HW4.out 6
            have p7 : w4.cell? ⟨wr.heap.size, 7, none⟩ = some (.slice x.d.An r.data.nums.length x.d.cn) := Whole.cell (L := [.slice x.A r.name.length x.c, .int .i64 r.kind, .int .i64 r.cls, .int .i64 r.ttl, .slice x.d.Ab r.data.bytes.length x.d.cb, .slice x.d.Ah r.data.host.length x.d.ch, .slice x.d.Am r.data.mail.length x.d.cm, .slice x.d.An r.data.nums.length x.d.cn, .slice x.d.At r.data.texts.length x.d.ct]) HW4.out 7
            have p8 : w4.cell? ⟨wr.heap.size, 8, none⟩ = some (.slice x.d.At r.data.texts.length x.d.ct) := Whole.cell (L := [.slice x.A r.name.length x.c, .int .i64 r.kind, .int .i64 r.cls, .int .i64 r.ttl, .slice x.d.Ab r.data.bytes.length x.d.cb, .slice x.d.Ah r.data.host.length x.d.ch, .slice x.d.Am r.data.mail.length x.d.cm, .slice x.d.An r.data.nums.length x.d.cn, .slice x.d.At r.data.texts.length x.d.ct]) HW4.out 8
            have HCP := Lib.hid (copyOf_any x.d r.data w4 HR4.out.d HRI.out.2)
            go_wp2_with fail
            refine HCP.out.mono ?_
            rintro e w5 ⟨y, rfl, hy, hb5⟩
            have HS5 := Lib.hid (HS4.out.step hb5)
            have HY5 := Lib.hid (hy.mono HS4.out.size)
            have hnew5 := (Below.refl w5.heap.size w5).alloc (Nat.le_refl _) (.cells #[.slice y.Ab r.data.bytes.length y.cb, .slice y.Ah r.data.host.length y.ch, .slice y.Am r.data.mail.length y.cm, .slice y.An r.data.nums.length y.cn, .slice y.At r.data.texts.length y.ct] 34)
            have HS6 := Lib.hid (HS5.out.step hnew5)
            have HY6 := Lib.hid (HY5.out.keep (fun g hg => hnew5.block g hg))
            have HRD := Lib.hid (Row.made w5 #[.slice y.Ab r.data.bytes.length y.cb, .slice y.Ah r.data.host.length y.ch, .slice y.Am r.data.mail.length y.cm, .slice y.An r.data.nums.length y.cn, .slice y.At r.data.texts.length y.ct] 34)
            clear hy hb5 HS5 HY5 hnew5
            go_wp2_with (
              at_builtin
              refine wpList_append_row rfl (.tmp 48) (.tmp 52) _ rfl w.heap.size 34 i0 _ 5 120 Try.underlying24 hi0 hz0 hz1 hz2 rfl (by omega) (.slice A1 qs.length c1) qs.length _ rfl HS6.out.row
                (some ⟨w5.heap.size, 0, none⟩) 1 1 (w5.heap.size + 1) (cellsD (y, r.data)) rfl rfl HRD.out (cellsD_one1 _) (by unfold maxLen; omega) (by omega) HS6.out.size ?_
              intro v7 w7 hown7 hg7
              have HS7 := Lib.hid (HS6.out.snoc HY6.out hown7 hg7)
              clear hown7 hg7)
            refine ⟨⟨j + 1, qs ++ [(y, r.data)], by omega, by go_num, by rw [HE2.out], by rw [HE2.out, dats_append, HQ.out]; rfl, by simp; omega, fun q hq => ?_, HS7.out⟩, by simp [intOf]; omega⟩
            rcases List.mem_append.1 hq with hq | hq
            · exact HQW.out q hq
            · rw [List.mem_singleton.1 hq]; exact HRI.out.1.d
        · have g1 : ((qs.length : Int) == 0) = false := by
            rw [beq_eq_false_iff_ne]
            intro h
            apply e1
            apply List.eq_nil_of_length_eq_zero
            omega
          by_cases e2 : r.ttl < st
          · have g2 : decide (r.ttl < st) = true := by simpa using e2
            have hst2 : st2 = r.ttl := by rw [hst, if_pos (.inr e2)]
            clear hst e1 e2 hzs
            subst hst2
            go_wp2_with fail
            refine HHAS.out.mono ?_
            rintro e w4 ⟨rfl, hb4⟩
            have HS4 := Lib.hid (HS3.out.step hb4)
            have HW4 := Lib.hid ((hb4.block wr.heap.size hz3).trans HW3.out)
            have HR4 := Lib.hid ((HR3.out.below hb4).mono hb4.size)
            have hz4 : wr.heap.size < w4.heap.size := Nat.lt_of_lt_of_le hz3 hb4.size
            clear hb4 HS3 HW3 HR3 p0 p1 p2 p3 p4 p5 p6 p7 p8
            cases k4 : hasD (dats qs) r.data with
            | true =>
              have HE2 := Lib.hid (show setF (recs (ps.take (j + 1))) n kind = (sl, r.ttl) by rw [HE.out]; unfold stepS; rw [← HST.out]; dsimp only; rw [← HQ.out, if_pos k4])
              clear HE
              go_wp2
              refine ⟨⟨j + 1, qs, by omega, by go_num, by rw [HE2.out], by rw [HE2.out]; exact HQ.out, by omega, HQW.out, HS4.out⟩, by simp [intOf]; omega⟩
            | false =>
              have HE2 := Lib.hid (show setF (recs (ps.take (j + 1))) n kind = (sl ++ [r.data], r.ttl) by rw [HE.out]; unfold stepS; rw [← HST.out]; dsimp only; rw [← HQ.out, if_neg (by rw [k4]; decide)])
              clear HE
              have p0 : w4.cell? ⟨wr.heap.size, 0, none⟩ = some (.slice x.A r.name.length x.c) := Whole.cell (L := [.slice x.A r.name.length x.c, .int .i64 r.kind, .int .i64 r.cls, .int .i64 r.ttl, .slice x.d.Ab r.data.bytes.length x.d.cb, .slice x.d.Ah r.data.host.length x.d.ch, .slice x.d.Am r.data.mail.length x.d.cm, .slice x.d.An r.data.nums.length x.d.cn, .slice x.d.At r.data.texts.length x.d.ct]) HW4.out 0
              have p1 : w4.cell? ⟨wr.heap.size, 1, none⟩ = some (.int .i64 r.kind) := Whole.cell (L := [.slice x.A r.name.length x.c, .int .i64 r.kind, .int .i64 r.cls, .int .i64 r.ttl, .slice x.d.Ab r.data.bytes.length x.d.cb, .slice x.d.Ah r.data.host.length x.d.ch, .slice x.d.Am r.data.mail.length x.d.cm, .slice x.d.An r.data.nums.length x.d.cn, .slice x.d.At r.data.texts.length x.d.ct]) HW4.out 1
              have p2 : w4.cell? ⟨wr.heap.size, 2, none⟩ = some (.int .i64 r.cls) := Whole.cell (L := [.slice x.A r.name.length x.c, .int .i64 r.kind, .int .i64 r.cls, .int .i64 r.ttl, .slice x.d.Ab r.data.bytes.length x.d.cb, .slice x.d.Ah r.data.host.length x.d.ch, .slice x.d.Am r.data.mail.length x.d.cm, .slice x.d.An r.data.nums.length x.d.cn, .slice x.d.At r.data.texts.length x.d.ct]) HW4.out 2
              have p3 : w4.cell? ⟨wr.heap.size, 3, none⟩ = some (.int .i64 r.ttl) := Whole.cell (L := [.slice x.A r.name.length x.c, .int .i64 r.kind, .int .i64 r.cls, .int .i64 r.ttl, .slice x.d.Ab r.data.bytes.length x.d.cb, .slice x.d.Ah r.data.host.length x.d.ch, .slice x.d.Am r.data.mail.length x.d.cm, .slice x.d.An r.data.nums.length x.d.cn, .slice x.d.At r.data.texts.length x.d.ct]) HW4.out 3
              have p4 : w4.cell? ⟨wr.heap.size, 4, none⟩ = some (.slice x.d.Ab r.data.bytes.length x.d.cb) := Whole.cell (L := [.slice x.A r.name.length x.c, .int .i64 r.kind, .int .i64 r.cls, .int .i64 r.ttl, .slice x.d.Ab r.data.bytes.length x.d.cb, .slice x.d.Ah r.data.host.length x.d.ch, .slice x.d.Am r.data.mail.length x.d.cm, .slice x.d.An r.data.nums.length x.d.cn, .slice x.d.At r.data.texts.length x.d.ct]) HW4.out 4
              have p5 : w4.cell? ⟨wr.heap.size, 5, none⟩ = some (.slice x.d.Ah r.data.host.length x.d.ch) := Whole.cell (L := [.slice x.A r.name.length x.c, .int .i64 r.kind, .int .i64 r.cls, .int .i64 r.ttl, .slice x.d.Ab r.data.bytes.length x.d.cb, .slice x.d.Ah r.data.host.length x.d.ch, .slice x.d.Am r.data.mail.length x.d.cm, .slice x.d.An r.data.nums.length x.d.cn, .slice x.d.At r.data.texts.length x.d.ct]) HW4.out 5
              have p6 : w4.cell? ⟨wr.heap.size, 6, none⟩ = some (.slice x.d.Am r.data.mail.length x.d.cm) := Whole.cell (L := [.slice x.A r.name.length x.c, .int .i64 r.kind, .int .i64 r.cls, .int .i64 r.ttl, .slice x.d.Ab r.data.bytes.length x.d.cb, .slice x.d.Ah r.data.host.length x.d.ch, .slice x.d.Am r.data.mail.length x.d.cm, .slice x.d.An r.data.nums.length x.d.cn, .slice x.d.At r.data.texts.length x.d.ct]) HW4.out 6
              have p7 : w4.cell? ⟨wr.heap.size, 7, none⟩ = some (.slice x.d.An r.data.nums.length x.d.cn) := Whole.cell (L := [.slice x.A r.name.length x.c, .int .i64 r.kind, .int .i64 r.cls, .int .i64 r.ttl, .slice x.d.Ab r.data.bytes.length x.d.cb, .slice x.d.Ah r.data.host.length x.d.ch, .slice x.d.Am r.data.mail.length x.d.cm, .slice x.d.An r.data.nums.length x.d.cn, .slice x.d.At r.data.texts.length x.d.ct]) HW4.out 7
              have p8 : w4.cell? ⟨wr.heap.size, 8, none⟩ = some (.slice x.d.At r.data.texts.length x.d.ct) := Whole.cell (L := [.slice x.A r.name.length x.c, .int .i64 r.kind, .int .i64 r.cls, .int .i64 r.ttl, .slice x.d.Ab r.data.bytes.length x.d.cb, .slice x.d.Ah r.data.host.length x.d.ch, .slice x.d.Am r.data.mail.length x.d.cm, .slice x.d.An r.data.nums.length x.d.cn, .slice x.d.At r.data.texts.length x.d.ct]) HW4.out 8
              have HCP := Lib.hid (copyOf_any x.d r.data w4 HR4.out.d HRI.out.2)
              go_wp2_with fail
              refine HCP.out.mono ?_
              rintro e w5 ⟨y, rfl, hy, hb5⟩
              have HS5 := Lib.hid (HS4.out.step hb5)
              have HY5 := Lib.hid (hy.mono HS4.out.size)
              have hnew5 := (Below.refl w5.heap.size w5).alloc (Nat.le_refl _) (.cells #[.slice y.Ab r.data.bytes.length y.cb, .slice y.Ah r.data.host.length y.ch, .slice y.Am r.data.mail.length y.cm, .slice y.An r.data.nums.length y.cn, .slice y.At r.data.texts.length y.ct] 34)
              have HS6 := Lib.hid (HS5.out.step hnew5)
              have HY6 := Lib.hid (HY5.out.keep (fun g hg => hnew5.block g hg))
              have HRD := Lib.hid (Row.made w5 #[.slice y.Ab r.data.bytes.length y.cb, .slice y.Ah r.data.host.length y.ch, .slice y.Am r.data.mail.length y.cm, .slice y.An r.data.nums.length y.cn, .slice y.At r.data.texts.length y.ct] 34)
              clear hy hb5 HS5 HY5 hnew5
              go_wp2_with (
                at_builtin
                refine wpList_append_row rfl (.tmp 48) (.tmp 52) _ rfl w.heap.size 34 i0 _ 5 120 Try.underlying24 hi0 hz0 hz1 hz2 rfl (by omega) (.slice A1 qs.length c1) qs.length _ rfl HS6.out.row
                  (some ⟨w5.heap.size, 0, none⟩) 1 1 (w5.heap.size + 1) (cellsD (y, r.data)) rfl rfl HRD.out (cellsD_one1 _) (by unfold maxLen; omega) (by omega) HS6.out.size ?_
                intro v7 w7 hown7 hg7
                have HS7 := Lib.hid (HS6.out.snoc HY6.out hown7 hg7)
                clear hown7 hg7)
              refine ⟨⟨j + 1, qs ++ [(y, r.data)], by omega, by go_num, by rw [HE2.out], by rw [HE2.out, dats_append, HQ.out]; rfl, by simp; omega, fun q hq => ?_, HS7.out⟩, by simp [intOf]; omega⟩
              rcases List.mem_append.1 hq with hq | hq
              · exact HQW.out q hq
              · rw [List.mem_singleton.1 hq]; exact HRI.out.1.d
          · have g2 : decide (r.ttl < st) = false := by simpa using e2
            have hst2 : st2 = st := by rw [hst, if_neg (by rintro (h | h); exact e1 h; exact e2 h)]
            clear hst e1 e2 hzs
            subst hst2
            go_wp2_with fail
            refine HHAS.out.mono ?_
            rintro e w4 ⟨rfl, hb4⟩
            have HS4 := Lib.hid (HS3.out.step hb4)
            have HW4 := Lib.hid ((hb4.block wr.heap.size hz3).trans HW3.out)
            have HR4 := Lib.hid ((HR3.out.below hb4).mono hb4.size)
            have hz4 : wr.heap.size < w4.heap.size := Nat.lt_of_lt_of_le hz3 hb4.size
            clear hb4 HS3 HW3 HR3 p0 p1 p2 p3 p4 p5 p6 p7 p8
            cases k4 : hasD (dats qs) r.data with
            | true =>
              have HE2 := Lib.hid (show setF (recs (ps.take (j + 1))) n kind = (sl, st2) by rw [HE.out]; unfold stepS; rw [← HST.out]; dsimp only; rw [← HQ.out, if_pos k4])
              clear HE
              go_wp2
              refine ⟨⟨j + 1, qs, by omega, by go_num, by rw [HE2.out], by rw [HE2.out]; exact HQ.out, by omega, HQW.out, HS4.out⟩, by simp [intOf]; omega⟩
            | false =>
              have HE2 := Lib.hid (show setF (recs (ps.take (j + 1))) n kind = (sl ++ [r.data], st2) by rw [HE.out]; unfold stepS; rw [← HST.out]; dsimp only; rw [← HQ.out, if_neg (by rw [k4]; decide)])
              clear HE
              have p0 : w4.cell? ⟨wr.heap.size, 0, none⟩ = some (.slice x.A r.name.length x.c) := Whole.cell (L := [.slice x.A r.name.length x.c, .int .i64 r.kind, .int .i64 r.cls, .int .i64 r.ttl, .slice x.d.Ab r.data.bytes.length x.d.cb, .slice x.d.Ah r.data.host.length x.d.ch, .slice x.d.Am r.data.mail.length x.d.cm, .slice x.d.An r.data.nums.length x.d.cn, .slice x.d.At r.data.texts.length x.d.ct]) HW4.out 0
              have p1 : w4.cell? ⟨wr.heap.size, 1, none⟩ = some (.int .i64 r.kind) := Whole.cell (L := [.slice x.A r.name.length x.c, .int .i64 r.kind, .int .i64 r.cls, .int .i64 r.ttl, .slice x.d.Ab r.data.bytes.length x.d.cb, .slice x.d.Ah r.data.host.length x.d.ch, .slice x.d.Am r.data.mail.length x.d.cm, .slice x.d.An r.data.nums.length x.d.cn, .slice x.d.At r.data.texts.length x.d.ct]) HW4.out 1
              have p2 : w4.cell? ⟨wr.heap.size, 2, none⟩ = some (.int .i64 r.cls) := Whole.cell (L := [.slice x.A r.name.length x.c, .int .i64 r.kind, .int .i64 r.cls, .int .i64 r.ttl, .slice x.d.Ab r.data.bytes.length x.d.cb, .slice x.d.Ah r.data.host.length x.d.ch, .slice x.d.Am r.data.mail.length x.d.cm, .slice x.d.An r.data.nums.length x.d.cn, .slice x.d.At r.data.texts.length x.d.ct]) HW4.out 2
              have p3 : w4.cell? ⟨wr.heap.size, 3, none⟩ = some (.int .i64 r.ttl) := Whole.cell (L := [.slice x.A r.name.length x.c, .int .i64 r.kind, .int .i64 r.cls, .int .i64 r.ttl, .slice x.d.Ab r.data.bytes.length x.d.cb, .slice x.d.Ah r.data.host.length x.d.ch, .slice x.d.Am r.data.mail.length x.d.cm, .slice x.d.An r.data.nums.length x.d.cn, .slice x.d.At r.data.texts.length x.d.ct]) HW4.out 3
              have p4 : w4.cell? ⟨wr.heap.size, 4, none⟩ = some (.slice x.d.Ab r.data.bytes.length x.d.cb) := Whole.cell (L := [.slice x.A r.name.length x.c, .int .i64 r.kind, .int .i64 r.cls, .int .i64 r.ttl, .slice x.d.Ab r.data.bytes.length x.d.cb, .slice x.d.Ah r.data.host.length x.d.ch, .slice x.d.Am r.data.mail.length x.d.cm, .slice x.d.An r.data.nums.length x.d.cn, .slice x.d.At r.data.texts.length x.d.ct]) HW4.out 4
              have p5 : w4.cell? ⟨wr.heap.size, 5, none⟩ = some (.slice x.d.Ah r.data.host.length x.d.ch) := Whole.cell (L := [.slice x.A r.name.length x.c, .int .i64 r.kind, .int .i64 r.cls, .int .i64 r.ttl, .slice x.d.Ab r.data.bytes.length x.d.cb, .slice x.d.Ah r.data.host.length x.d.ch, .slice x.d.Am r.data.mail.length x.d.cm, .slice x.d.An r.data.nums.length x.d.cn, .slice x.d.At r.data.texts.length x.d.ct]) HW4.out 5
              have p6 : w4.cell? ⟨wr.heap.size, 6, none⟩ = some (.slice x.d.Am r.data.mail.length x.d.cm) := Whole.cell (L := [.slice x.A r.name.length x.c, .int .i64 r.kind, .int .i64 r.cls, .int .i64 r.ttl, .slice x.d.Ab r.data.bytes.length x.d.cb, .slice x.d.Ah r.data.host.length x.d.ch, .slice x.d.Am r.data.mail.length x.d.cm, .slice x.d.An r.data.nums.length x.d.cn, .slice x.d.At r.data.texts.length x.d.ct]) HW4.out 6
              have p7 : w4.cell? ⟨wr.heap.size, 7, none⟩ = some (.slice x.d.An r.data.nums.length x.d.cn) := Whole.cell (L := [.slice x.A r.name.length x.c, .int .i64 r.kind, .int .i64 r.cls, .int .i64 r.ttl, .slice x.d.Ab r.data.bytes.length x.d.cb, .slice x.d.Ah r.data.host.length x.d.ch, .slice x.d.Am r.data.mail.length x.d.cm, .slice x.d.An r.data.nums.length x.d.cn, .slice x.d.At r.data.texts.length x.d.ct]) HW4.out 7
              have p8 : w4.cell? ⟨wr.heap.size, 8, none⟩ = some (.slice x.d.At r.data.texts.length x.d.ct) := Whole.cell (L := [.slice x.A r.name.length x.c, .int .i64 r.kind, .int .i64 r.cls, .int .i64 r.ttl, .slice x.d.Ab r.data.bytes.length x.d.cb, .slice x.d.Ah r.data.host.length x.d.ch, .slice x.d.Am r.data.mail.length x.d.cm, .slice x.d.An r.data.nums.length x.d.cn, .slice x.d.At r.data.texts.length x.d.ct]) HW4.out 8
              have HCP := Lib.hid (copyOf_any x.d r.data w4 HR4.out.d HRI.out.2)
              go_wp2_with fail
              refine HCP.out.mono ?_
              rintro e w5 ⟨y, rfl, hy, hb5⟩
              have HS5 := Lib.hid (HS4.out.step hb5)
              have HY5 := Lib.hid (hy.mono HS4.out.size)
              have hnew5 := (Below.refl w5.heap.size w5).alloc (Nat.le_refl _) (.cells #[.slice y.Ab r.data.bytes.length y.cb, .slice y.Ah r.data.host.length y.ch, .slice y.Am r.data.mail.length y.cm, .slice y.An r.data.nums.length y.cn, .slice y.At r.data.texts.length y.ct] 34)
              have HS6 := Lib.hid (HS5.out.step hnew5)
              have HY6 := Lib.hid (HY5.out.keep (fun g hg => hnew5.block g hg))
              have HRD := Lib.hid (Row.made w5 #[.slice y.Ab r.data.bytes.length y.cb, .slice y.Ah r.data.host.length y.ch, .slice y.Am r.data.mail.length y.cm, .slice y.An r.data.nums.length y.cn, .slice y.At r.data.texts.length y.ct] 34)
              clear hy hb5 HS5 HY5 hnew5
              go_wp2_with (
                at_builtin
                refine wpList_append_row rfl (.tmp 48) (.tmp 52) _ rfl w.heap.size 34 i0 _ 5 120 Try.underlying24 hi0 hz0 hz1 hz2 rfl (by omega) (.slice A1 qs.length c1) qs.length _ rfl HS6.out.row
                  (some ⟨w5.heap.size, 0, none⟩) 1 1 (w5.heap.size + 1) (cellsD (y, r.data)) rfl rfl HRD.out (cellsD_one1 _) (by unfold maxLen; omega) (by omega) HS6.out.size ?_
                intro v7 w7 hown7 hg7
                have HS7 := Lib.hid (HS6.out.snoc HY6.out hown7 hg7)
                clear hown7 hg7)
              refine ⟨⟨j + 1, qs ++ [(y, r.data)], by omega, by go_num, by rw [HE2.out], by rw [HE2.out, dats_append, HQ.out]; rfl, by simp; omega, fun q hq => ?_, HS7.out⟩, by simp [intOf]; omega⟩
              rcases List.mem_append.1 hq with hq | hq
              · exact HQW.out q hq
              · rw [List.mem_singleton.1 hq]; exact HRI.out.1.d
    · obtain rfl : j = ps.length := by omega
      rw [List.take_length] at *
      go_wp2
      go_ret2
      exact ⟨A1, c1, qs, rfl, HQ.out, HS.out⟩

theorem set_any (w : World) (A : Option Addr) (c : Nat) (ps : List (RV × Rt)) (An : Option Addr) (n : List (List UInt8)) (cn : Nat) (kind : Int) (hp : RsAt w w.heap.size A ps) (hn : Row w w.heap.size An (n.map sv)) (hw : WideN n)
    (hr : ∀ p ∈ ps, RIn p.2 ∧ FewD p.2.data) (hl : ps.length ≤ 1000) :
    Calls Try.prog 9 #[.slice A ps.length c, .slice An n.length cn, .int .i64 kind] w (SetOut w (setF (recs ps) n kind)) :=
  (set_own w A c ps An n cn kind hp hn hw hr hl).mono fun _ _ ⟨A', c', qs, h1, h2, h3⟩ => ⟨A', c', qs, h1, h2, h3.reads, h3.below⟩

end Go.Proofs.Ythppgofpbpjglaa

namespace Go.Proofs.Ythppgofpbpjglaa
open Go.RowKit

/-- Has a record few parts? -/
def lightR (r : Rt) : Bool := decide (r.name.length ≤ 200) && (decide (r.data.host.length ≤ 200) && (decide (r.data.mail.length ≤ 200) && (decide (r.data.texts.length ≤ 100) && (decide (r.data.nums.length ≤ 100) && (decide (r.data.bytes.length ≤ 66000))))))
def lightL (rs : List Rt) : Bool := rs.all lightR && decide (rs.length ≤ 60)
structure LightR (r : Rt) : Prop where
  l0 : r.name.length ≤ 200
  l1 : r.data.host.length ≤ 200
  l2 : r.data.mail.length ≤ 200
  l3 : r.data.texts.length ≤ 100
  l4 : r.data.nums.length ≤ 100
  l5 : r.data.bytes.length ≤ 200000
theorem lightR_iff {r : Rt} (h : lightR r = true) : LightR r := by
  unfold lightR at h
  simp only [Bool.and_eq_true, decide_eq_true_eq] at h
  obtain ⟨h0, h1, h2, h3, h4, h5⟩ := h
  exact ⟨h0, h1, h2, h3, h4, by omega⟩
theorem LightR.few {r : Rt} (h : LightR r) : FewD r.data := ⟨Nat.le_trans h.l1 (by omega), Nat.le_trans h.l2 (by omega), Nat.le_trans h.l3 (by omega), Nat.le_trans h.l4 (by omega), Nat.le_trans h.l5 (by omega)⟩
theorem lightL_each {rs : List Rt} (h : lightL rs = true) : (∀ r ∈ rs, LightR r) ∧ rs.length ≤ 60 := by
  unfold lightL at h
  rw [Bool.and_eq_true, decide_eq_true_eq, List.all_eq_true] at h
  exact ⟨fun r hr => lightR_iff (h.1 r hr), h.2⟩
theorem recs_at {ps : List (RV × Rt)} {k : Nat} (hk : k < ps.length) : recs (ps.take (k + 1)) = recs (ps.take k) ++ [(ps[k]).2] := by
  rw [List.take_succ_eq_append_getElem hk, recs_append]
  rfl
def LightRelR (w : World) (ps : List (RV × Rt)) (i : Value) (wr : World) : Prop := ∃ k : Nat, k ≤ ps.length ∧ i = .int .i64 k ∧ (recs (ps.take k)).all lightR = true ∧ Below w.heap.size w wr

end Go.Proofs.Ythppgofpbpjglaa
