/-
  Plain mathematics of names as they are written: what is written, where rests stand, and that it is read as it was. No program is imported.
-/
import Derived.Test.YtmbcbfalgdgmjaaGreatDoorKcP2
import Derived.Test.YtmbcbfalgdgmjaaGreatDoorProg
import Derived.Test.YtmbcbfalgdgmjaaGreatDoorKcP1
import Derived.Lib.AppendStr
import Derived.Maps.OwnOps
import Derived.Carry
import Derived.Lib.ItoaLen
import Derived.Shelf.Strconv.Itoa3
import Derived.Shelf.LaysM
import Derived.Lib.SmallJoins
import Derived.Lib.AppendIntMem
import Derived.StillTail
namespace Go.Proofs.YtmbcbfalgdgmjaaGreatDoor
open Go.RowKit

/-- The labels of a name as they are written without a pointer. -/
def encN : List (List UInt8) → List UInt8
  | [] => []
  | l :: n => UInt8.ofNat l.length :: (l ++ encN n)
theorem length_encN (n : List (List UInt8)) : (encN n).length + 1 = szN n := by
  induction n with
  | nil => rfl
  | cons l n ih => simp only [encN, szN, List.length_cons, List.length_append]; omega
theorem encN_snoc (n : List (List UInt8)) (l : List UInt8) : encN (n ++ [l]) = encN n ++ (UInt8.ofNat l.length :: l) := by
  induction n with
  | nil => simp [encN]
  | cons x n ih => simp [encN, ih]
theorem fitL_iff {l : List UInt8} : fitL l = true ↔ 1 ≤ l.length ∧ l.length ≤ 63 := by simp [fitL]
theorem encN_inj : ∀ {n m : List (List UInt8)}, n.all fitL = true → m.all fitL = true → encN n = encN m → n = m
  | [], [], _, _, _ => rfl
  | [], _ :: _, _, _, h => by simp [encN] at h
  | _ :: _, [], _, _, h => by simp [encN] at h
  | l :: n, k :: m, hn, hm, h => by
    simp only [List.all_cons, Bool.and_eq_true, fitL_iff] at hn hm
    simp only [encN, List.cons.injEq] at h
    have hl : l.length = k.length := by
      have h1 := congrArg UInt8.toNat h.1
      rw [UInt8.toNat_ofNat', UInt8.toNat_ofNat'] at h1
      omega
    obtain ⟨h1, h2⟩ := List.append_inj h.2 hl
    rw [h1, encN_inj hn.2 hm.2 h2]

/-- Rests: each one's labels and its place. -/
abbrev Rs := List (List (List UInt8) × Nat)
def findR (R : Rs) (n : List (List UInt8)) : Option Nat := (R.find? fun r => decide (r.1 = n)).map (·.2)
theorem findR_nil (n : List (List UInt8)) : findR [] n = none := rfl
theorem findR_snoc (R : Rs) (m n : List (List UInt8)) (k : Nat) : findR (R ++ [(m, k)]) n = (findR R n).or (if m = n then some k else none) := by
  unfold findR
  rw [List.find?_append]
  cases h : R.find? fun r => decide (r.1 = n) with
  | some r => simp
  | none =>
    by_cases e : m = n
    · simp [e]
    · simp [e]
theorem findR_mem {R : Rs} {n : List (List UInt8)} {k : Nat} (h : findR R n = some k) : (n, k) ∈ R := by
  unfold findR at h
  rw [Option.map_eq_some_iff] at h
  obtain ⟨⟨m, k'⟩, h1, h2⟩ := h
  have h3 := List.mem_of_find?_eq_some h1
  have h4 := List.find?_some h1
  simp at h4 h2
  subst h4; subst h2
  exact h3

/-- What is written of a name, and which rests there are then. -/
def nameW (short : Bool) : List (List UInt8) → List UInt8 → Rs → List UInt8 × Rs
  | [], B, R => (B ++ [0], R)
  | l :: n, B, R =>
    match short, findR R (l :: n) with
    | true, some k => (B ++ digs (49152 + k) 2, R)
    | _, _ => nameW short n (B ++ UInt8.ofNat l.length :: l) (if B.length < 16384 then R ++ [(l :: n, B.length)] else R)
theorem nameW_nil (short : Bool) (B : List UInt8) (R : Rs) : nameW short [] B R = (B ++ [0], R) := rfl
theorem nameW_hit {l : List UInt8} {n : List (List UInt8)} {B : List UInt8} {R : Rs} {k : Nat} (h : findR R (l :: n) = some k) : nameW true (l :: n) B R = (B ++ digs (49152 + k) 2, R) := by
  rw [nameW.eq_def]
  simp only [h]
theorem nameW_long (l : List UInt8) (n : List (List UInt8)) (B : List UInt8) (R : Rs) :
    nameW false (l :: n) B R = nameW false n (B ++ UInt8.ofNat l.length :: l) (if B.length < 16384 then R ++ [(l :: n, B.length)] else R) := by
  rw [nameW.eq_def]
theorem nameW_miss {short : Bool} {l : List UInt8} {n : List (List UInt8)} {B : List UInt8} {R : Rs} (h : findR R (l :: n) = none) :
    nameW short (l :: n) B R = nameW short n (B ++ UInt8.ofNat l.length :: l) (if B.length < 16384 then R ++ [(l :: n, B.length)] else R) := by
  rw [nameW.eq_def]
  simp only [h]

/-- At p, where what is read now began at q, the name n is read; e is the place behind it. -/
inductive AtN (B : List UInt8) : Nat → Nat → List (List UInt8) → Nat → Prop
  | fin {p q : Nat} (h : B[p]? = some 0) : AtN B p q [] (p + 1)
  | ptr {p q e : Nat} {n : List (List UInt8)} {y z : UInt8} (h1 : B[p]? = some y) (h2 : B[p + 1]? = some z) (h3 : 192 ≤ y.toNat) (h4 : toR y z < q) (h : AtN B (toR y z) (toR y z) n e) : AtN B p q n (p + 2)
  | lab {p q e : Nat} {n : List (List UInt8)} {l : List UInt8} (h1 : 1 ≤ l.length) (h2 : l.length ≤ 63) (h3 : B[p]? = some (UInt8.ofNat l.length)) (h4 : p + 1 + l.length ≤ B.length) (h5 : cutL B (p + 1) l.length = l) (h : AtN B (p + 1 + l.length) q n e) : AtN B p q (l :: n) e

theorem AtN.mono {B : List UInt8} {p q e : Nat} {n : List (List UInt8)} (h : AtN B p q n e) : ∀ {q' : Nat}, q ≤ q' → AtN B p q' n e := by
  induction h with
  | fin h => intro q' _; exact .fin h
  | ptr h1 h2 h3 h4 h _ => intro q' hq; exact .ptr h1 h2 h3 (by omega) h
  | lab h1 h2 h3 h4 h5 _ ih => intro q' hq; exact .lab h1 h2 h3 h4 h5 (ih hq)
theorem getElem?_more {B C : List UInt8} {p : Nat} {y : UInt8} (h : B[p]? = some y) : (B ++ C)[p]? = some y := by
  have hl := (List.getElem?_eq_some_iff.1 h).1
  rw [List.getElem?_append_left hl, h]
theorem cutL_more {B C : List UInt8} {a k : Nat} (h : a + k ≤ B.length) : cutL (B ++ C) a k = cutL B a k := by
  unfold cutL
  rw [List.drop_append_of_le_length (by omega), List.take_append_of_le_length (by simp; omega)]
theorem AtN.more {B : List UInt8} {p q e : Nat} {n : List (List UInt8)} (C : List UInt8) (h : AtN B p q n e) : AtN (B ++ C) p q n e := by
  induction h with
  | fin h => exact .fin (getElem?_more h)
  | ptr h1 h2 h3 h4 _ ih => exact .ptr (getElem?_more h1) (getElem?_more h2) h3 h4 ih
  | lab h1 h2 h3 h4 h5 _ ih => exact .lab h1 h2 (getElem?_more h3) (by simp; omega) (by rw [cutL_more h4]; exact h5) ih

theorem nextR_nextR (x : Nat) {y e : Nat} (h : y ≠ 0) : nextR (nextR x y) e = nextR x y := by
  unfold nextR
  by_cases hx : x = 0
  · simp [hx, h]
  · simp [hx]
theorem szN_append (m n : List (List UInt8)) : szN (m ++ n) + 1 = szN m + szN n := by
  induction m with
  | nil => simp [szN]; omega
  | cons l m ih => simp only [List.cons_append, szN]; omega
theorem AtN.read {B : List UInt8} {p q e : Nat} {n : List (List UInt8)} (h : AtN B p q n e) : ∀ {x : Nat} {m : List (List UInt8)}, szN m + szN n ≤ 256 → getR B p q x m = (m ++ n, nextR x e, 0) := by
  induction h with
  | @fin p q h =>
    intro x m _
    obtain ⟨hl, hv⟩ := List.getElem?_eq_some_iff.1 h
    rw [getR_zero hl (by rw [hv]; rfl), List.append_nil]
  | @ptr p q e n y z h1 h2 h3 h4 _ ih =>
    intro x m hs
    obtain ⟨hl, hv⟩ := List.getElem?_eq_some_iff.1 h1
    obtain ⟨hl2, hv2⟩ := List.getElem?_eq_some_iff.1 h2
    rw [getR_ptr hl hl2 (by rw [hv]; exact h3) (by rw [hv, hv2]; exact h4), hv, hv2, ih hs, nextR_nextR x (by omega)]
  | @lab p q e n l h1 h2 h3 h4 h5 _ ih =>
    intro x m hs
    obtain ⟨hl, hv⟩ := List.getElem?_eq_some_iff.1 h3
    have hn : (B[p]).toNat = l.length := by rw [hv, UInt8.toNat_ofNat']; omega
    have hp := szN_pos n
    simp only [szN] at hs
    rw [getR_label hl (by omega) (by omega) (by omega) (by omega), hn, h5, ih (by rw [szN_snoc]; omega), List.append_assoc, List.singleton_append]

theorem toR_digs {k : Nat} (hk : k < 16384) : ∃ y z, digs (49152 + k) 2 = [y, z] ∧ 192 ≤ y.toNat ∧ toR y z = k := by
  refine ⟨UInt8.ofNat ((49152 + k) / 256), UInt8.ofNat (49152 + k), by simp [digs, List.range_succ], ?_, ?_⟩
  · rw [UInt8.toNat_ofNat']; omega
  · unfold toR; rw [UInt8.toNat_ofNat', UInt8.toNat_ofNat']; omega

theorem nameW_reads (short : Bool) : ∀ (n : List (List UInt8)) (B : List UInt8) (R : Rs) (p0 : Nat), n.all fitL = true → p0 ≤ B.length →
    (∀ r ∈ R, r.2 < 16384 ∧ (r.1.length ≤ n.length → r.2 < p0 ∧ ∃ e, AtN B r.2 r.2 r.1 e)) →
    (∃ S, (nameW short n B R).1 = B ++ S) ∧ AtN (nameW short n B R).1 B.length p0 n (nameW short n B R).1.length ∧
      ∀ r ∈ (nameW short n B R).2, r ∈ R ∨ (r.2 < 16384 ∧ r.2 < (nameW short n B R).1.length ∧ ∃ e, AtN (nameW short n B R).1 r.2 r.2 r.1 e)
  | [], B, R, p0, _, _, _ => by
    rw [nameW_nil]
    refine ⟨⟨[0], rfl⟩, ?_, fun r hr => .inl hr⟩
    have h := AtN.fin (B := B ++ [0]) (p := B.length) (q := p0) (by simp)
    simpa using h
  | l :: n, B, R, p0, hf, hp, hR => by
    simp only [List.all_cons, Bool.and_eq_true, fitL_iff] at hf
    have step : (∃ S, (nameW short n (B ++ UInt8.ofNat l.length :: l) (if B.length < 16384 then R ++ [(l :: n, B.length)] else R)).1 = B ++ S) ∧
        AtN (nameW short n (B ++ UInt8.ofNat l.length :: l) (if B.length < 16384 then R ++ [(l :: n, B.length)] else R)).1 B.length p0 (l :: n) (nameW short n (B ++ UInt8.ofNat l.length :: l) (if B.length < 16384 then R ++ [(l :: n, B.length)] else R)).1.length ∧
        ∀ r ∈ (nameW short n (B ++ UInt8.ofNat l.length :: l) (if B.length < 16384 then R ++ [(l :: n, B.length)] else R)).2, r ∈ R ∨ (r.2 < 16384 ∧ r.2 < (nameW short n (B ++ UInt8.ofNat l.length :: l) (if B.length < 16384 then R ++ [(l :: n, B.length)] else R)).1.length ∧
          ∃ e, AtN (nameW short n (B ++ UInt8.ofNat l.length :: l) (if B.length < 16384 then R ++ [(l :: n, B.length)] else R)).1 r.2 r.2 r.1 e) := by
      obtain ⟨R1, hR1⟩ : ∃ R1, R1 = if B.length < 16384 then R ++ [(l :: n, B.length)] else R := ⟨_, rfl⟩
      rw [← hR1]
      have hmem : ∀ r ∈ R1, r ∈ R ∨ (r = (l :: n, B.length) ∧ B.length < 16384) := by
        intro r hr
        rw [hR1] at hr
        split at hr
        · rename_i hb
          rcases List.mem_append.1 hr with h | h
          · exact .inl h
          · exact .inr ⟨List.mem_singleton.1 h, hb⟩
        · exact .inl hr
      obtain ⟨⟨S, hS⟩, hA, hM⟩ := nameW_reads short n (B ++ UInt8.ofNat l.length :: l) R1 p0 hf.2 (by simp; omega) (fun r hr => by
        rcases hmem r hr with h | ⟨h, hb⟩
        · refine ⟨(hR r h).1, fun hl => ?_⟩
          obtain ⟨h1, e, h2⟩ := (hR r h).2 (by simp; omega)
          exact ⟨h1, e, h2.more _⟩
        · refine ⟨by rw [h]; exact hb, fun hl => ?_⟩
          rw [h] at hl
          simp at hl
          omega)
      have hlab : AtN (nameW short n (B ++ UInt8.ofNat l.length :: l) R1).1 B.length p0 (l :: n) (nameW short n (B ++ UInt8.ofNat l.length :: l) R1).1.length := by
        refine .lab hf.1.1 hf.1.2 ?_ ?_ ?_ ?_
        · rw [hS]; simp
        · rw [hS]; simp; omega
        · rw [hS]; simp [cutL]
        · have e1 : B.length + 1 + l.length = (B ++ UInt8.ofNat l.length :: l).length := by simp; omega
          rw [e1]
          exact hA
      refine ⟨⟨UInt8.ofNat l.length :: l ++ S, by rw [hS]; simp⟩, hlab, fun r hr => ?_⟩
      rcases hM r hr with h | h
      · rcases hmem r h with h | ⟨h, hb⟩
        · exact .inl h
        · refine .inr ?_
          rw [h]
          exact ⟨hb, by rw [hS]; simp, _, hlab.mono hp⟩
      · exact .inr h
    cases hfi : findR R (l :: n) with
    | none => rw [nameW_miss hfi]; exact step
    | some k =>
      cases short with
      | false => rw [nameW_long]; exact step
      | true =>
        rw [nameW_hit hfi]
        obtain ⟨h16, h2⟩ := hR _ (findR_mem hfi)
        obtain ⟨hk, e, hA⟩ := h2 (Nat.le_refl _)
        obtain ⟨y, z, hd, hy, ht⟩ := toR_digs h16
        simp only at hd ht hk hA
        refine ⟨⟨_, rfl⟩, ?_, fun r hr => .inl hr⟩
        rw [hd]
        have h := AtN.ptr (B := B ++ [y, z]) (p := B.length) (q := p0) (n := l :: n) (e := e) (y := y) (z := z) (by simp) (by simp) hy (by rw [ht]; exact hk) (by rw [ht]; exact hA.more _)
        simpa using h

/-- What is kept of rests: each is read where it stands. -/
def GoodR (B : List UInt8) (R : Rs) : Prop := ∀ r ∈ R, r.2 < 16384 ∧ r.2 < B.length ∧ ∃ e, AtN B r.2 r.2 r.1 e
theorem GoodR.nil (B : List UInt8) : GoodR B [] := fun _ hr => absurd hr (List.not_mem_nil)
theorem GoodR.more {B : List UInt8} {R : Rs} (h : GoodR B R) (C : List UInt8) : GoodR (B ++ C) R := fun r hr => by
  obtain ⟨h1, h2, e, h3⟩ := h r hr
  exact ⟨h1, by simp; omega, e, h3.more C⟩
theorem nameW_good {short : Bool} {n : List (List UInt8)} {B : List UInt8} {R : Rs} (hf : n.all fitL = true) (h : GoodR B R) :
    (∃ S, (nameW short n B R).1 = B ++ S) ∧ AtN (nameW short n B R).1 B.length B.length n (nameW short n B R).1.length ∧ GoodR (nameW short n B R).1 (nameW short n B R).2 := by
  obtain ⟨⟨S, hS⟩, h2, h3⟩ := nameW_reads short n B R B.length hf (Nat.le_refl _) fun r hr => by
    obtain ⟨a, b, e, c⟩ := h r hr
    exact ⟨a, fun _ => ⟨b, e, c⟩⟩
  refine ⟨⟨S, hS⟩, h2, fun r hr => ?_⟩
  rcases h3 r hr with h4 | h4
  · have h5 := h.more S
    rw [← hS] at h5
    exact h5 r h4
  · exact h4

theorem length_nameW_long : ∀ (n : List (List UInt8)) (B : List UInt8) (R : Rs), (nameW false n B R).1.length = B.length + szN n
  | [], B, R => by simp [nameW_nil, szN]
  | l :: n, B, R => by
    rw [nameW_long, length_nameW_long n]
    simp [szN]
    omega
theorem length_nameW_le (short : Bool) : ∀ (n : List (List UInt8)) (B : List UInt8) (R : Rs), n.all fitL = true → (nameW short n B R).1.length ≤ B.length + szN n
  | [], B, R, _ => by simp [nameW_nil, szN]
  | l :: n, B, R, hf => by
    simp only [List.all_cons, Bool.and_eq_true, fitL_iff] at hf
    have ih := length_nameW_le short n (B ++ UInt8.ofNat l.length :: l) (if B.length < 16384 then R ++ [(l :: n, B.length)] else R) hf.2
    simp only [List.length_append, List.length_cons] at ih
    have hp := szN_pos n
    cases hfi : findR R (l :: n) with
    | none => rw [nameW_miss hfi]; simp only [szN]; omega
    | some k =>
      cases short with
      | false => rw [nameW_long]; simp only [szN]; omega
      | true => rw [nameW_hit hfi]; simp only [szN, List.length_append, length_digs]; omega

theorem length_nameW_rests (short : Bool) : ∀ (n : List (List UInt8)) (B : List UInt8) (R : Rs), (nameW short n B R).2.length ≤ R.length + n.length
  | [], B, R => by simp [nameW_nil]
  | l :: n, B, R => by
    have ih := length_nameW_rests short n (B ++ UInt8.ofNat l.length :: l) (if B.length < 16384 then R ++ [(l :: n, B.length)] else R)
    have hi : (if B.length < 16384 then R ++ [(l :: n, B.length)] else R).length ≤ R.length + 1 := by split <;> simp
    cases hfi : findR R (l :: n) with
    | none => rw [nameW_miss hfi]; simp only [List.length_cons]; omega
    | some k =>
      cases short with
      | false => rw [nameW_long]; simp only [List.length_cons]; omega
      | true => rw [nameW_hit hfi]; simp only [List.length_cons]; omega

end Go.Proofs.YtmbcbfalgdgmjaaGreatDoor

namespace Go.Proofs.YtmbcbfalgdgmjaaGreatDoor
open Go.RowKit

























def PutRel (B : Nat) (w : World) (l : List UInt8) (n s : Nat) (v i : Value) (wr : World) : Prop :=
  ∃ k : Nat, k ≤ s ∧ i = .int .i64 ((s : Int) - 1 - k) ∧ wr.ownsRow B 5 1 v (l.length + k) ((l ++ (digs n s).take k).map bc) ∧ Below B w wr ∧ B ≤ wr.heap.size














































































end Go.Proofs.YtmbcbfalgdgmjaaGreatDoor

namespace Go.Proofs.YtmbcbfalgdgmjaaGreatDoor
open Go.RowKit

/-- The key under which a rest is kept. -/
def keyR (n : List (List UInt8)) : Lit := .string (encN n)
/-- A map's entries say what the rests R are. -/
def SaysR (D : DataW Unit) (R : Rs) : Prop :=
  Maps.IsMap D ∧ ∀ n, n.all fitL = true → Maps.has D (keyR n) = (findR R n).isSome ∧ D.atKey (keyR n) (.lit (.int .i64 0)) = .lit (.int .i64 ((findR R n).getD 0 : Nat))
def MapOf (w : World) (base : Nat) (v : Value) (R : Rs) : Prop :=
  (v = .map none ∧ R = []) ∨ ∃ b D, v = .map (some b) ∧ base ≤ b ∧ w.ownsMap (H := Unit) Tryz.prog 9 (plainElem Tryz.prog 3) b R.length D ∧ SaysR D R







/-- Which blocks are a Writer's own. -/
def ownF (g : Nat) (vB vM : Value) (j : Nat) : Prop := j = g ∨ vB.ownBlock = some j ∨ vM = .map (some j)

section
variable {w w' : World} {base g : Nat} {vB vM : Value} {B : List UInt8} {R : Rs}





theorem MapOf.lt (h : MapOf w base vM R) {j : Nat} (hj : vM = .map (some j)) : base ≤ j ∧ j < w.heap.size := by
  rcases h with ⟨rfl, _⟩ | ⟨b, D, rfl, hb, ho, _⟩
  · cases hj
  · injection hj with hj
    injection hj with hj
    subst hj
    exact ⟨hb, ho.lt⟩





theorem ownsMap_keep {P : Program} {k : TypeId} {E : Value → Option (DataW Unit × List MemPlace)} {b n : Nat} {D : DataW Unit} (h : w.ownsMap P k E b n D) (hk : w'.heap[b]? = w.heap[b]?) : w'.ownsMap P k E b n D := by
  obtain ⟨es, clock, hb, r⟩ := h
  exact ⟨es, clock, hk.trans hb, r⟩
theorem MapOf.keep (h : MapOf w base vM R) (hk : ∀ j, vM = .map (some j) → w'.heap[j]? = w.heap[j]?) : MapOf w' base vM R := by
  rcases h with h | ⟨b, D, rfl, hb, ho, hs⟩
  · exact .inl h
  · exact .inr ⟨b, D, rfl, hb, ownsMap_keep ho (hk b rfl), hs⟩






































end























































































































































end Go.Proofs.YtmbcbfalgdgmjaaGreatDoor

namespace Go.Proofs.YtmbcbfalgdgmjaaGreatDoor
open Go.RowKit

theorem keyR_ne {n r : List (List UInt8)} (hn : n.all fitL = true) (hr : r.all fitL = true) (h : n ≠ r) : keyR n ≠ keyR r := fun e => by
  unfold keyR at e
  injection e with e
  exact h (encN_inj hn hr e)
theorem SaysR.empty : SaysR (.map []) [] := ⟨Maps.isMap_empty, fun _ _ => ⟨rfl, rfl⟩⟩
theorem SaysR.same {D : DataW Unit} {R : Rs} {r : List (List UInt8)} {a : Nat} (k : Nat) (h : SaysR D R) (ha : findR R r = some a) : SaysR D (R ++ [(r, k)]) := by
  refine ⟨h.1, fun n hn => ?_⟩
  have e : findR (R ++ [(r, k)]) n = findR R n := by
    rw [findR_snoc]
    by_cases hrn : r = n
    · subst hrn; rw [ha]; rfl
    · rw [if_neg hrn]; cases findR R n <;> rfl
  rw [e]
  exact h.2 n hn
theorem SaysR.put {D : DataW Unit} {R : Rs} {r : List (List UInt8)} (k : Nat) (h : SaysR D R) (hr : r.all fitL = true) (hf : findR R r = none) : SaysR (D.put (keyR r) (.lit (.int .i64 (k : Int)))) (R ++ [(r, k)]) := by
  refine ⟨h.1.put _ _, fun n hn => ?_⟩
  rw [findR_snoc]
  by_cases hrn : r = n
  · subst hrn
    rw [hf, if_pos rfl, Maps.has_put_same h.1 (by simp [keyR, WideAt.IsKeyLit]), Maps.atKey_put_same h.1 (by simp [keyR, WideAt.IsKeyLit])]
    exact ⟨rfl, rfl⟩
  · have hk := keyR_ne hn hr (Ne.symm hrn)
    rw [if_neg hrn, Maps.has_put_other hk, Maps.atKey_put_other hk, Option.or_none]
    exact h.2 n hn

/-- The rests behind a note. -/
def noteR (B : List UInt8) (R : Rs) (r : List (List UInt8)) : Rs := if B.length < 16384 then R ++ [(r, B.length)] else R

theorem str_keyed : Maps.Keyed Tryz.prog 9 := Maps.string_keyed Tryz.underlying9
theorem int_zero (w : World) : (zeroValue 3).run Tryz.prog w = .ok (.int .i64 0) w := by kernel_rfl
theorem key_enc {r : List (List UInt8)} (h : (encN r).length ≤ maxLen) : keyOf Tryz.prog 9 (.string ⟨(encN r).toArray⟩) = some (keyR r) :=
  WideMaps.keyOf_string_mk Tryz.underlying9 (by simpa [ByteArray.size] using h)
theorem wf_nat {k : Nat} (h : k ≤ 9223372036854775807) : (Lit.int .i64 (k : Int)).wf = true := by
  have h1 : IntKind.i64.min = -9223372036854775808 := rfl
  have h2 : IntKind.i64.max = 9223372036854775807 := rfl
  simp only [Lit.wf, Bool.and_eq_true, decide_eq_true_eq]
  omega














































































































































































end Go.Proofs.YtmbcbfalgdgmjaaGreatDoor

namespace Go.Proofs.YtmbcbfalgdgmjaaGreatDoor
open Go.RowKit

theorem strCells_list (l : List UInt8) : Lib.strCells ⟨l.toArray⟩ = l.map bc := by
  simp only [Lib.strCells]
  rfl

def WholeRel (w : World) (n : List (List UInt8)) (v i : Value) (wr : World) : Prop :=
  ∃ k : Nat, k ≤ n.length ∧ i = .int .i64 k ∧ wr.ownsRow w.heap.size 5 1 v (encN (n.take k)).length ((encN (n.take k)).map bc) ∧ Below w.heap.size w wr ∧ w.heap.size ≤ wr.heap.size

theorem encN_take_succ {n : List (List UInt8)} {k : Nat} (h : k < n.length) : encN (n.take (k + 1)) = encN (n.take k) ++ (UInt8.ofNat (n[k]).length :: n[k]) := by
  rw [List.take_succ_eq_append_getElem h, encN_snoc]
theorem length_encN_take (n : List (List UInt8)) (k : Nat) : (encN (n.take k)).length < szN n := by
  have h1 := length_encN (n.take k)
  have h2 := szN_take_le n k
  omega






































































end Go.Proofs.YtmbcbfalgdgmjaaGreatDoor

namespace Go.Proofs.YtmbcbfalgdgmjaaGreatDoor
open Go.RowKit





















def strLenV : Value → Nat
  | .string s => s.size
  | _ => 0





theorem extract_take (l : List UInt8) (k : Nat) : (ByteArray.mk l.toArray).extract 0 k = ⟨(l.take k).toArray⟩ := by
  apply ByteArray.ext
  apply Array.toList_inj.1
  simp [ByteArray.data_extract]
theorem extract_tail (l : List UInt8) (k m : Nat) (hm : l.length ≤ m) : (ByteArray.mk l.toArray).extract k m = ⟨(l.drop k).toArray⟩ := by
  apply ByteArray.ext
  apply Array.toList_inj.1
  simp [ByteArray.data_extract]
  exact List.take_of_length_le (by simp; omega)

theorem putL_zero : putL [] 0 1 = [0] := by decide +kernel
theorem putL_ptr {k : Nat} (hk : k < 16384) : putL [] (49152 + (k : Int)) 2 = digs (49152 + k) 2 := by
  have hf : fitB ((49152 + k : Nat) : Int) ((2 : Nat) : Int) = true := fitB_true (by omega) (by omega) (by omega) (by simp; omega)
  have h := putL_yes (l := []) hf
  simpa using h
theorem noteR_good {B : List UInt8} {R : Rs} {r : List (List UInt8)} (h : ∀ x ∈ R, x.2 < 16384) : (∀ x ∈ noteR B R r, x.2 < 16384) ∧ (noteR B R r).length ≤ R.length + 1 := by
  unfold noteR
  split
  · rename_i hb
    refine ⟨fun x hx => ?_, by simp⟩
    rcases List.mem_append.1 hx with hx | hx
    · exact h x hx
    · rw [List.mem_singleton.1 hx]; exact hb
  · exact ⟨h, by omega⟩


































































































































































































end Go.Proofs.YtmbcbfalgdgmjaaGreatDoor

namespace Go.Proofs.YtmbcbfalgdgmjaaGreatDoor
open Go.RowKit

def numsW (s : Int) : List Int → List UInt8
  | [] => []
  | n :: l => putL [] n s ++ numsW s l
theorem numsW_snoc (s : Int) (n : Int) : ∀ l, numsW s (l ++ [n]) = numsW s l ++ putL [] n s
  | [] => by simp [numsW]
  | m :: l => by simp [numsW, numsW_snoc s n l]
theorem length_putL (n s : Int) : (putL [] n s).length ≤ 7 := by
  unfold putL
  split
  · rename_i h
    simp only [fitB, decide_eq_true_eq] at h
    simp [length_digs]
    omega
  · simp
theorem length_numsW (s : Int) : ∀ l : List Int, (numsW s l).length ≤ 7 * l.length
  | [] => by simp [numsW]
  | n :: l => by
    have h1 := length_numsW s l
    have h2 := length_putL n s
    simp only [numsW, List.length_append, List.length_cons]
    omega
def textsW : List (List UInt8) → List UInt8
  | [] => []
  | t :: l => putL [] (t.length : Int) 1 ++ (t ++ textsW l)
theorem textsW_snoc (t : List UInt8) : ∀ l, textsW (l ++ [t]) = textsW l ++ (putL [] (t.length : Int) 1 ++ t)
  | [] => by simp [textsW]
  | m :: l => by simp [textsW, textsW_snoc t l]
theorem length_textsW (M : Nat) : ∀ l : List (List UInt8), (∀ t ∈ l, t.length ≤ M) → (textsW l).length ≤ (M + 7) * l.length
  | [], _ => by simp [textsW]
  | t :: l, h => by
    have h1 := length_textsW M l fun x hx => h x (List.mem_cons_of_mem _ hx)
    have h2 := length_putL (t.length : Int) 1
    have h3 := h t (List.mem_cons_self ..)
    simp only [textsW, List.length_append, List.length_cons, Nat.mul_add]
    omega

/-- A row that stays while blocks in F turn. -/
def Stay (F : Nat → Prop) (w : World) (A : Option Addr) (xs : List Value) : Prop := ∀ w', Grew F w w' → Row w' w'.heap.size A xs
theorem Stay.row {F : Nat → Prop} {w : World} {A : Option Addr} {xs : List Value} (h : Stay F w A xs) : Row w w.heap.size A xs := h w (Grew.refl _ _)




























































































































end Go.Proofs.YtmbcbfalgdgmjaaGreatDoor

namespace Go.Proofs.YtmbcbfalgdgmjaaGreatDoor
open Go.RowKit

/-- What is written of data, behind B with the rests R. -/
def putH (s : Sh) (d : Dt) (B : List UInt8) (R : Rs) : List UInt8 × Rs := if s.host = true then nameW s.short d.host (B ++ numsW 2 (d.nums.take s.ahead)) R else (B ++ numsW 2 (d.nums.take s.ahead), R)
def putM (s : Sh) (d : Dt) (x : List UInt8 × Rs) : List UInt8 × Rs := if s.mail = true then nameW s.short d.mail x.1 x.2 else x
def putD (s : Sh) (d : Dt) (B : List UInt8) (R : Rs) : List UInt8 × Rs :=
  ((((putM s d (putH s d B R)).1 ++ numsW 4 (d.nums.drop s.ahead)) ++ textsW d.texts) ++ d.bytes, (putM s d (putH s d B R)).2)

/-- The block j holds a slice of the data. -/
def DV.owns (y : DV) (d : Dt) (j : Nat) : Prop := (y.vb d).ownBlock = some j ∨ (y.vh d).ownBlock = some j ∨ (y.vm d).ownBlock = some j ∨ (y.vn d).ownBlock = some j ∨ (y.vt d).ownBlock = some j
theorem OwnD.base {w : World} {B : Nat} {y : DV} {d : Dt} (h : OwnD w B y d) {j : Nat} (hj : y.owns d j) : B ≤ j ∧ j < w.heap.size := by
  rcases hj with e | e | e | e | e
  · exact h.b.lt j e
  · exact h.h.lt j e
  · exact h.m.lt j e
  · exact h.n.lt j e
  · exact h.t.lt j e
/-- What soundness says of the parts. -/
structure SoundP (s : Sh) (d : Dt) : Prop where
  h : s.host = true → soundN d.host = true
  m : s.mail = true → soundN d.mail = true
  h0 : s.host = false → d.host = []
  m0 : s.mail = false → d.mail = []
  n : d.nums.length = s.ahead + s.behind
  ok : numsOk s.ahead d.nums = true
  t : d.texts.length ≤ 64
  tl : ∀ t ∈ d.texts, t.length ≤ 255
  t0 : s.texts = false → d.texts = []
  t1 : s.texts = true → 1 ≤ d.texts.length
  b : d.bytes.length ≤ s.most
  bl : s.least ≤ d.bytes.length
theorem soundNm_yes {n : List (List UInt8)} {had : Bool} (h : soundNm n had = true) : (had = true → soundN n = true) ∧ (had = false → n = []) := by
  unfold soundNm at h
  constructor
  · rintro rfl
    by_cases h0 : n.length = 0
    · have : n = [] := List.eq_nil_of_length_eq_zero h0
      subst this
      decide
    · simpa [h0] using h
  · rintro rfl
    have h0 : n.length = 0 := by simpa using h
    exact List.eq_nil_of_length_eq_zero h0
theorem soundP {k : Int} {d : Dt} (h : soundD k d = true) : SoundP (shN k) d := by
  unfold soundD at h
  simp only [Bool.and_eq_true] at h
  obtain ⟨hk, hb, hh, hm, hn, ht⟩ := h
  have hh2 := soundNm_yes hh
  have hm2 := soundNm_yes hm
  unfold soundBs at hb
  unfold soundNs at hn
  unfold soundTs at ht
  simp only [Bool.and_eq_true, decide_eq_true_eq] at hb hn
  have ht2 : d.texts.length ≤ 64 ∧ (∀ t ∈ d.texts, t.length ≤ 255) ∧ ((shN k).texts = false → d.texts = []) ∧ ((shN k).texts = true → 1 ≤ d.texts.length) := by
    cases hf : (shN k).texts
    · rw [hf] at ht
      have h0 : d.texts.length = 0 := by simpa using ht
      have h1 : d.texts = [] := List.eq_nil_of_length_eq_zero h0
      refine ⟨by omega, fun t ht => (by rw [h1] at ht; cases ht), fun _ => h1, fun h => (by cases h)⟩
    · rw [hf] at ht
      simp only [if_true, Bool.and_eq_true, List.all_eq_true, decide_eq_true_eq] at ht
      exact ⟨ht.2.2, ht.1, fun h => (by cases h), fun _ => ht.2.1⟩
  exact ⟨hh2.1, hm2.1, hh2.2, hm2.2, hn.1, hn.2, ht2.1, ht2.2.1, ht2.2.2.1, ht2.2.2.2, hb.2, hb.1⟩
theorem soundN_parts {n : List (List UInt8)} (h : soundN n = true) : n.all fitL = true ∧ szN n ≤ 255 := by
  simpa [soundN] using h

theorem row_drop {w : World} {H k : Nat} {A : Option Addr} {xs : List Value} (h : Row w H A xs) : Row w H (A.map fun x => x.add k) (xs.drop k) := by
  intro hne
  obtain ⟨b, off, rfl, _, _⟩ := h (fun e => by rw [e] at hne; simp at hne)
  simp only [Option.map_some, addr_add]
  exact (h.drop rfl (k := k)) hne










































































































































































































































































































































































































































































































































































end Go.Proofs.YtmbcbfalgdgmjaaGreatDoor

namespace Go.Proofs.YtmbcbfalgdgmjaaGreatDoor
open Go.RowKit

/-- The key of a name and a type. -/
def keyS (n : List (List UInt8)) (k : Int) : List UInt8 := Lib.itoa k ++ 46 :: textA (lowN n)

/-- What digits count to. -/
def valD (l : List UInt8) : Nat := l.foldl (fun a c => 10 * a + (c.toNat - 48)) 0
theorem digit_nat (u : Nat) (h : u < 10) : (UInt8.ofNat (48 + u)).toNat = 48 + u := by
  rw [UInt8.toNat_ofNat']
  exact Nat.mod_eq_of_lt (by omega)
theorem valD_digits (u : Nat) : valD (Lib.decDigits u) = u := by
  induction u using Nat.strongRecOn with
  | _ u ih =>
    rw [Lib.decDigits]
    split
    · rename_i h
      unfold valD
      rw [List.foldl_cons, List.foldl_nil, digit_nat u h]
      omega
    · rename_i h
      have h1 := ih (u / 10) (by omega)
      unfold valD at h1 ⊢
      rw [List.foldl_append, h1, List.foldl_cons, List.foldl_nil, digit_nat _ (Nat.mod_lt _ (by omega))]
      omega
theorem digits_range (u : Nat) : ∀ c ∈ Lib.decDigits u, 48 ≤ c.toNat ∧ c.toNat ≤ 57 := by
  induction u using Nat.strongRecOn with
  | _ u ih =>
    intro c hc
    rw [Lib.decDigits] at hc
    split at hc
    · rename_i h
      rw [List.mem_singleton.1 hc, digit_nat u h]
      omega
    · rename_i h
      rcases List.mem_append.1 hc with hc | hc
      · exact ih (u / 10) (by omega) c hc
      · rw [List.mem_singleton.1 hc, digit_nat _ (Nat.mod_lt _ (by omega))]
        have := Nat.mod_lt u (show 0 < 10 by omega)
        omega
theorem itoa_nodot (k : Int) : (46 : UInt8) ∉ Lib.itoa k := by
  have hd : ∀ u, (46 : UInt8) ∉ Lib.decDigits u := fun u h => by
    have := digits_range u 46 h
    have e : (46 : UInt8).toNat = 46 := by decide
    omega
  unfold Lib.itoa
  split
  · intro h
    rcases List.mem_cons.1 h with h | h
    · exact absurd h (by decide)
    · exact hd _ h
  · exact hd _
theorem digits_nominus (u : Nat) (l : List UInt8) : Lib.decDigits u ≠ 45 :: l := fun h => by
  have := digits_range u 45 (by rw [h]; exact List.mem_cons_self)
  have e : (45 : UInt8).toNat = 45 := by decide
  omega
theorem itoa_inj {a b : Int} (h : Lib.itoa a = Lib.itoa b) : a = b := by
  unfold Lib.itoa at h
  split at h <;> split at h
  · have h1 := congrArg valD (List.cons.inj h).2
    rw [valD_digits, valD_digits] at h1
    omega
  · exact absurd h.symm (digits_nominus _ _)
  · exact absurd h (digits_nominus _ _)
  · have h1 := congrArg valD h
    rw [valD_digits, valD_digits] at h1
    omega
/-- What stands ahead of the first point. -/
theorem dot_split : ∀ {a b : List UInt8} {x y : List UInt8}, (46 : UInt8) ∉ a → (46 : UInt8) ∉ b → a ++ 46 :: x = b ++ 46 :: y → a = b ∧ x = y
  | [], [], _, _, _, _, h => ⟨rfl, (List.cons.inj h).2⟩
  | [], c :: b, _, _, _, hb, h => absurd (by rw [(List.cons.inj h).1]; exact List.mem_cons_self) hb
  | c :: a, [], _, _, ha, _, h => absurd (by rw [← (List.cons.inj h).1]; exact List.mem_cons_self) ha
  | c :: a, d :: b, _, _, ha, hb, h => by
    obtain ⟨h1, h2⟩ := List.cons.inj h
    obtain ⟨h3, h4⟩ := dot_split (fun hh => ha (List.mem_cons_of_mem _ hh)) (fun hh => hb (List.mem_cons_of_mem _ hh)) h2
    exact ⟨by rw [h1, h3], h4⟩
theorem fitL_low (l : List UInt8) : fitL (lowL l) = fitL l := by simp [fitL, lowL]
theorem soundN_low (n : List (List UInt8)) : soundN (lowN n) = soundN n := by
  unfold soundN
  rw [szN_lowN]
  congr 1
  unfold lowN
  rw [List.all_map]
  congr 1
  funext l
  exact fitL_low l
theorem soundN_eqN {n m : List (List UInt8)} (h : eqN n m = true) : soundN n = soundN m := by
  unfold eqN at h
  rw [← soundN_low n, ← soundN_low m, of_decide_eq_true h]
/-- Sound names of one key are one, letters' cases aside. -/
theorem keyS_inj {n m : List (List UInt8)} {k j : Int} (hn : soundN n = true) (hm : soundN m = true) (h : keyS n k = keyS m j) : k = j ∧ eqN n m = true := by
  unfold keyS at h
  obtain ⟨h1, h2⟩ := dot_split (itoa_nodot k) (itoa_nodot j) h
  refine ⟨itoa_inj h1, ?_⟩
  have h3 := parse_text ((soundN_low n).trans hn)
  rw [h2, parse_text ((soundN_low m).trans hm)] at h3
  unfold eqN
  exact decide_eq_true (Option.some.inj h3).symm
theorem keyS_same {n m : List (List UInt8)} {k : Int} (h : eqN n m = true) : keyS n k = keyS m k := by
  unfold eqN at h
  unfold keyS
  rw [of_decide_eq_true h]
/-- The key of a fact, and a fact of a name and type. -/
def keyF (f : Fc) : List UInt8 := keyS f.name f.h.typ
theorem keyB_keyS {f : Fc} {n : List (List UInt8)} {k : Int} (hf : soundF f = true) (hn : soundN n = true) : keyB n k f = decide (keyF f = keyS n k) := by
  unfold keyB keyF
  rw [Bool.eq_iff_iff]
  simp only [Bool.and_eq_true, decide_eq_true_eq]
  constructor
  · rintro ⟨h1, h2⟩
    rw [h1]
    exact keyS_same h2
  · intro h
    exact keyS_inj (soundF_name hf) hn h
theorem keyB_unsound {f : Fc} {n : List (List UInt8)} {k : Int} (hf : soundF f = true) (hn : soundN n = false) : keyB n k f = false := by
  unfold keyB
  cases h : eqN f.name n with
  | false => simp
  | true => rw [← soundN_eqN h, soundF_name hf] at hn; cases hn
theorem find_unsound {c : Ca} (h : c.ok) {n : List (List UInt8)} (k : Int) (hn : soundN n = false) : c.find n k = none := by
  unfold Ca.find
  rw [List.find?_eq_none]
  intro f hf
  rw [keyB_unsound (h.s f hf) hn]
  decide
/-- A key's length. -/
theorem itoa_len {k : Int} (h : (Lit.int .i64 k).wf = true) : (Lib.itoa k).length ≤ 21 := by
  have e1 : IntKind.i64.min = -9223372036854775808 := rfl
  have e2 : IntKind.i64.max = 9223372036854775807 := rfl
  simp only [Lit.wf, Bool.and_eq_true, decide_eq_true_eq] at h
  exact Lib.itoa_length_le k (by omega) (by omega)

end Go.Proofs.YtmbcbfalgdgmjaaGreatDoor

namespace Go.Proofs.YtmbcbfalgdgmjaaGreatDoor
open Go.Shelf Go.RowKit

def itoaRen : Go.Shelf.Ren := ⟨fun | 171 => 76 | 243 => 96 | 246 => 119 | 283 => 135 | 284 => 136 | 285 => 137 | 286 => 138 | 129 => 117 | 317 => 143 | 318 => 144 | 319 => 145 | 320 => 146 | 337 => 149 | 338 => 150 | n => n, fun | 3 => 3 | 9 => 9 | 2 => 2 | 4 => 4 | 171 => 151 | 0 => 0 | 53 => 133 | 37 => 31 | 5 => 5 | 173 => 153 | 212 => 162 | 51 => 131 | 20 => 20 | 213 => 163 | 46 => 106 | 232 => 164 | 233 => 165 | n => n, fun | 17 => 0 | 18 => 2 | 19 => 3 | n => n⟩
theorem itoaLays : Go.Proofs.LaysM.n171 Tryz.prog itoaRen := {
  mixed := by kernel_rfl
  f129 := Tryz.func117.trans (congrArg some (by kernel_rfl))
  f171 := Tryz.func76.trans (congrArg some (by kernel_rfl))
  f243 := Tryz.func96.trans (congrArg some (by kernel_rfl))
  f246 := Tryz.func119.trans (congrArg some (by kernel_rfl))
  f283 := Tryz.func135.trans (congrArg some (by kernel_rfl))
  f284 := Tryz.func136.trans (congrArg some (by kernel_rfl))
  f285 := Tryz.func137.trans (congrArg some (by kernel_rfl))
  f286 := Tryz.func138.trans (congrArg some (by kernel_rfl))
  f317 := Tryz.func143.trans (congrArg some (by kernel_rfl))
  f318 := Tryz.func144.trans (congrArg some (by kernel_rfl))
  f319 := Tryz.func145.trans (congrArg some (by kernel_rfl))
  f320 := Tryz.func146.trans (congrArg some (by kernel_rfl))
  f337 := Tryz.func149.trans (congrArg some (by kernel_rfl))
  f338 := Tryz.func150.trans (congrArg some (by kernel_rfl))
  t0 := Tryz.underlying0
  a0 := Tryz.isAgg0
  z0 := Tryz.sizeOf0
  v0 := Tryz.zeroValue0
  t2 := Tryz.underlying2
  a2 := Tryz.isAgg2
  z2 := Tryz.sizeOf2
  v2 := Tryz.zeroValue2
  t3 := Tryz.underlying3
  a3 := Tryz.isAgg3
  z3 := Tryz.sizeOf3
  v3 := Tryz.zeroValue3
  t4 := Tryz.underlying4
  a4 := Tryz.isAgg4
  z4 := Tryz.sizeOf4
  v4 := Tryz.zeroValue4
  t5 := Tryz.underlying5
  a5 := Tryz.isAgg5
  z5 := Tryz.sizeOf5
  v5 := Tryz.zeroValue5
  t9 := Tryz.underlying9
  a9 := Tryz.isAgg9
  z9 := Tryz.sizeOf9
  v9 := Tryz.zeroValue9
  t20 := Tryz.underlying20
  a20 := Tryz.isAgg20
  z20 := Tryz.sizeOf20
  v20 := Tryz.zeroValue20
  t37 := Tryz.underlying31
  a37 := Tryz.isAgg31
  z37 := Tryz.sizeOf31
  v37 := Tryz.zeroValue31
  t46 := Tryz.underlying106
  a46 := Tryz.isAgg106
  z46 := Tryz.sizeOf106
  v46 := Tryz.zeroValue106
  t51 := Tryz.underlying131
  a51 := Tryz.isAgg131
  z51 := Tryz.sizeOf131
  v51 := Tryz.zeroValue131
  t53 := Tryz.underlying133
  a53 := Tryz.isAgg133
  z53 := Tryz.sizeOf133
  v53 := Tryz.zeroValue133
  t171 := Tryz.underlying151
  a171 := Tryz.isAgg151
  z171 := Tryz.sizeOf151
  v171 := Tryz.zeroValue151
  t173 := Tryz.underlying153
  a173 := Tryz.isAgg153
  z173 := Tryz.sizeOf153
  v173 := Tryz.zeroValue153
  t212 := Tryz.underlying162
  a212 := Tryz.isAgg162
  z212 := Tryz.sizeOf162
  v212 := Tryz.zeroValue162
  t213 := Tryz.underlying163
  a213 := Tryz.isAgg163
  z213 := Tryz.sizeOf163
  t232 := Tryz.underlying164
  a232 := Tryz.isAgg164
  z232 := Tryz.sizeOf164
  v232 := Tryz.zeroValue164
  t233 := Tryz.underlying165
  a233 := Tryz.isAgg165
  z233 := Tryz.sizeOf165
  v233 := Tryz.zeroValue165
  g17 := by kernel_rfl
  g18 := by kernel_rfl
  g19 := by kernel_rfl
  i0 := by kernel_rfl
  i2 := by kernel_rfl
  i3 := by kernel_rfl
  i4 := by kernel_rfl
  i5 := by kernel_rfl
  i9 := by kernel_rfl
  i20 := by kernel_rfl
  i37 := by kernel_rfl
  i46 := by kernel_rfl
  i51 := by kernel_rfl
  i53 := by kernel_rfl
  i171 := by kernel_rfl
  i173 := by kernel_rfl
  i212 := by kernel_rfl
  i232 := by kernel_rfl
  i233 := by kernel_rfl
  m17 := by kernel_rfl
  m18 := by kernel_rfl
  m19 := by kernel_rfl }

/-- The library's table of powers of ten holds what it holds, whatever is done from block B on. -/
def PowsAt (B : Nat) (w : World) : Prop := Lib.TabBelow Tryz.prog B w "internal/strconv.uint64pow10" .u64 Lib.pow10Tab
theorem PowsAt.mono {B B' : Nat} {w : World} (h : PowsAt B w) (hb : B ≤ B') : PowsAt B' w := fun w' hw => h w' (hw.mono hb)
theorem PowsAt.next {B : Nat} {w w' : World} (h : PowsAt B w) (hb : Below B w w') : PowsAt B w' := fun w2 hw => h w2 (hb.trans hw)
theorem itoa_any (n : Int) (hn : (Lit.int .i64 n).wf = true) (B : Nat) (w : World) (h : PowsAt B w) : Calls Tryz.prog 76 #[.int .i64 n] w (Gave w (.string ⟨(Lib.itoa n).toArray⟩)) := by
  have e1 : IntKind.i64.min = -9223372036854775808 := rfl
  have e2 : IntKind.i64.max = 9223372036854775807 := rfl
  simp only [Lit.wf, Bool.and_eq_true, decide_eq_true_eq] at hn
  refine (Any.strconv_Itoa itoaLays n (by omega) (by omega) w h.here).mono ?_
  rintro e w' ⟨rfl, k, os, rfl⟩
  exact ⟨rfl, rfl, rfl, rfl, by simp [Sort.grow], fun g hg => by
    show (w.heap ++ os)[g]? = w.heap[g]?
    rw [Array.getElem?_append_left hg]⟩

end Go.Proofs.YtmbcbfalgdgmjaaGreatDoor

namespace Go.Proofs.YtmbcbfalgdgmjaaGreatDoor
open Go.RowKit

def fitN (count : Nat) (size : Int) (l : List Int) : Bool := decide (l.length = count) && l.all fun n => fitB n size
theorem all_snocI {l : List Int} {k : Nat} (p : Int → Bool) (h : k < l.length) (ha : (l.take k).all p = true) (hp : p l[k] = true) : (l.take (k + 1)).all p = true := by
  rw [List.take_succ_eq_append_getElem h, List.all_append, ha]
  simp [hp]
theorem all_notI {l : List Int} {k : Nat} (p : Int → Bool) (h : k < l.length) (hp : p l[k] = false) : l.all p = false := by
  rw [List.all_eq_false]
  exact ⟨l[k], List.getElem_mem h, by simp [hp]⟩
def FitRel (l : List Int) (s : Int) (i : Value) : Prop := ∃ k : Nat, k ≤ l.length ∧ i = .int .i64 k ∧ (l.take k).all (fun n => fitB n s) = true

set_option maxRecDepth 4000 in
set_option maxHeartbeats 1000000 in
theorem fit_any (A : Option Addr) (m c H : Nat) (l : List Int) (count : Nat) (s : Int) (w : World) (hl : l.length = m) (hA : Row w H A (l.map zv)) (hm : m ≤ maxLen) (hn : ∀ n ∈ l, n ≤ 9223372036854775807) :
    Calls Tryz.prog 70 #[.slice A m c, .int .i64 count, .int .i64 s] w (Told w (.bool (fitN count s l))) := by
  unfold maxLen at hm
  have HF := Lib.hid (fun n W hn => ref_fits_any n s W hn)
  have HN := Lib.hid hn
  have HA := Lib.hid hA
  have HL := Lib.hid hl
  clear hn hA
  by_cases hc : m = count
  · have t1 : ((m : Int) != (count : Int)) = false := by rw [bne_eq_false_iff_eq]; omega
    have HS := Lib.hid (show fitN count s l = l.all (fun n => fitB n s) by simp [fitN, hl, hc])
    clear hl hc
    go_enter Tryz.func70, Tryz.ntmps70
    go_wp2
    go_loop [7] (FitRel l s) (fun i => m - (intOf i).toNat)
    case atStart => exact ⟨0, Nat.zero_le _, rfl, rfl⟩
    case round =>
      obtain ⟨k, hk, rfl, hok⟩ := hrel
      have HOK := Lib.hid hok
      clear hok
      by_cases hlt : k < m
      · have hkl : k < l.length := by rw [HL.out]; exact hlt
        obtain ⟨b, off, rfl, _, hcl⟩ := HA.out.int_at hkl
        go_wp2_with fail
        refine (HF.out l[k] _ (HN.out _ (List.getElem_mem hkl))).mono ?_
        cases hf : fitB l[k] s
        · have HX := Lib.hid (all_notI (fun n => fitB n s) hkl hf)
          rintro e w' ⟨rfl, rfl⟩
          go_wp2
          go_ret
          exact ⟨by rw [HS.out, HX.out]; rfl, rfl⟩
        · have HX := Lib.hid (all_snocI (fun n => fitB n s) hkl HOK.out hf)
          rintro e w' ⟨rfl, rfl⟩
          go_wp2
          exact ⟨⟨k + 1, hkl, by go_num, HX.out⟩, by simp [intOf]; omega⟩
      · obtain rfl : k = m := by have := HL.out; omega
        have HX := Lib.hid (show l.all (fun n => fitB n s) = true by have h := HOK.out; rw [← HL.out, List.take_length] at h; exact h)
        go_wp2
        go_ret
        exact ⟨by rw [HS.out, HX.out]; rfl, rfl⟩
  · have t1 : ((m : Int) != (count : Int)) = true := by rw [bne_iff_ne]; omega
    have HS := Lib.hid (show fitN count s l = false by simp [fitN, hl, hc])
    clear hl hc
    go_enter Tryz.func70, Tryz.ntmps70
    go_wp2
    go_ret
    exact ⟨by rw [HS.out]; rfl, rfl⟩

set_option maxRecDepth 4000 in
set_option maxHeartbeats 1000000 in
theorem empty_a (x : DV) (d : Dt) (w : World) : Calls Tryz.prog 69 #[x.val d, .bool true, .bool false, .bool false, .bool false, .bool false] w (Gave w (.bool ((decide (d.host.length = 0) && (decide (d.mail.length = 0) && (decide (d.nums.length = 0) && decide (d.texts.length = 0))))))) := by
  have HB := Lib.hid ((Below.refl _ w).alloc (Nat.le_refl _) (.cells #[x.vb d, x.vh d, x.vm d, x.vn d, x.vt d] 34))
  by_cases z0 : d.host.length = 0
  case neg =>
    have t0 : ((d.host.length : Int) == 0) = false := by rw [beq_eq_false_iff_ne]; omega
    have HS := Lib.hid (show ((decide (d.host.length = 0) && (decide (d.mail.length = 0) && (decide (d.nums.length = 0) && decide (d.texts.length = 0))))) = false by simp [z0])
    clear z0
    go_enter Tryz.func69, Tryz.ntmps69
    go_wp2
    go_ret
    exact ⟨by rw [HS.out]; rfl, HB.out⟩
  have t0 : ((d.host.length : Int) == 0) = true := by rw [beq_iff_eq]; omega
  by_cases z1 : d.mail.length = 0
  case neg =>
    have t1 : ((d.mail.length : Int) == 0) = false := by rw [beq_eq_false_iff_ne]; omega
    have HS := Lib.hid (show ((decide (d.host.length = 0) && (decide (d.mail.length = 0) && (decide (d.nums.length = 0) && decide (d.texts.length = 0))))) = false by simp [z0, z1])
    clear z0 z1
    go_enter Tryz.func69, Tryz.ntmps69
    go_wp2
    go_ret
    exact ⟨by rw [HS.out]; rfl, HB.out⟩
  have t1 : ((d.mail.length : Int) == 0) = true := by rw [beq_iff_eq]; omega
  by_cases z2 : d.nums.length = 0
  case neg =>
    have t2 : ((d.nums.length : Int) == 0) = false := by rw [beq_eq_false_iff_ne]; omega
    have HS := Lib.hid (show ((decide (d.host.length = 0) && (decide (d.mail.length = 0) && (decide (d.nums.length = 0) && decide (d.texts.length = 0))))) = false by simp [z0, z1, z2])
    clear z0 z1 z2
    go_enter Tryz.func69, Tryz.ntmps69
    go_wp2
    go_ret
    exact ⟨by rw [HS.out]; rfl, HB.out⟩
  have t2 : ((d.nums.length : Int) == 0) = true := by rw [beq_iff_eq]; omega
  by_cases z3 : d.texts.length = 0
  case neg =>
    have t3 : ((d.texts.length : Int) == 0) = false := by rw [beq_eq_false_iff_ne]; omega
    have HS := Lib.hid (show ((decide (d.host.length = 0) && (decide (d.mail.length = 0) && (decide (d.nums.length = 0) && decide (d.texts.length = 0))))) = false by simp [z0, z1, z2, z3])
    clear z0 z1 z2 z3
    go_enter Tryz.func69, Tryz.ntmps69
    go_wp2
    go_ret
    exact ⟨by rw [HS.out]; rfl, HB.out⟩
  have t3 : ((d.texts.length : Int) == 0) = true := by rw [beq_iff_eq]; omega
  have HS := Lib.hid (show ((decide (d.host.length = 0) && (decide (d.mail.length = 0) && (decide (d.nums.length = 0) && decide (d.texts.length = 0))))) = true by simp [z0, z1, z2, z3])
  clear z0 z1 z2 z3
  go_enter Tryz.func69, Tryz.ntmps69
  go_wp2
  go_ret
  exact ⟨by rw [HS.out]; rfl, HB.out⟩

set_option maxRecDepth 4000 in
set_option maxHeartbeats 1000000 in
theorem empty_n (x : DV) (d : Dt) (w : World) : Calls Tryz.prog 69 #[x.val d, .bool false, .bool true, .bool false, .bool false, .bool false] w (Gave w (.bool ((decide (d.bytes.length = 0) && (decide (d.mail.length = 0) && (decide (d.nums.length = 0) && decide (d.texts.length = 0))))))) := by
  have HB := Lib.hid ((Below.refl _ w).alloc (Nat.le_refl _) (.cells #[x.vb d, x.vh d, x.vm d, x.vn d, x.vt d] 34))
  by_cases z0 : d.bytes.length = 0
  case neg =>
    have t0 : ((d.bytes.length : Int) == 0) = false := by rw [beq_eq_false_iff_ne]; omega
    have HS := Lib.hid (show ((decide (d.bytes.length = 0) && (decide (d.mail.length = 0) && (decide (d.nums.length = 0) && decide (d.texts.length = 0))))) = false by simp [z0])
    clear z0
    go_enter Tryz.func69, Tryz.ntmps69
    go_wp2
    go_ret
    exact ⟨by rw [HS.out]; rfl, HB.out⟩
  have t0 : ((d.bytes.length : Int) == 0) = true := by rw [beq_iff_eq]; omega
  by_cases z1 : d.mail.length = 0
  case neg =>
    have t1 : ((d.mail.length : Int) == 0) = false := by rw [beq_eq_false_iff_ne]; omega
    have HS := Lib.hid (show ((decide (d.bytes.length = 0) && (decide (d.mail.length = 0) && (decide (d.nums.length = 0) && decide (d.texts.length = 0))))) = false by simp [z0, z1])
    clear z0 z1
    go_enter Tryz.func69, Tryz.ntmps69
    go_wp2
    go_ret
    exact ⟨by rw [HS.out]; rfl, HB.out⟩
  have t1 : ((d.mail.length : Int) == 0) = true := by rw [beq_iff_eq]; omega
  by_cases z2 : d.nums.length = 0
  case neg =>
    have t2 : ((d.nums.length : Int) == 0) = false := by rw [beq_eq_false_iff_ne]; omega
    have HS := Lib.hid (show ((decide (d.bytes.length = 0) && (decide (d.mail.length = 0) && (decide (d.nums.length = 0) && decide (d.texts.length = 0))))) = false by simp [z0, z1, z2])
    clear z0 z1 z2
    go_enter Tryz.func69, Tryz.ntmps69
    go_wp2
    go_ret
    exact ⟨by rw [HS.out]; rfl, HB.out⟩
  have t2 : ((d.nums.length : Int) == 0) = true := by rw [beq_iff_eq]; omega
  by_cases z3 : d.texts.length = 0
  case neg =>
    have t3 : ((d.texts.length : Int) == 0) = false := by rw [beq_eq_false_iff_ne]; omega
    have HS := Lib.hid (show ((decide (d.bytes.length = 0) && (decide (d.mail.length = 0) && (decide (d.nums.length = 0) && decide (d.texts.length = 0))))) = false by simp [z0, z1, z2, z3])
    clear z0 z1 z2 z3
    go_enter Tryz.func69, Tryz.ntmps69
    go_wp2
    go_ret
    exact ⟨by rw [HS.out]; rfl, HB.out⟩
  have t3 : ((d.texts.length : Int) == 0) = true := by rw [beq_iff_eq]; omega
  have HS := Lib.hid (show ((decide (d.bytes.length = 0) && (decide (d.mail.length = 0) && (decide (d.nums.length = 0) && decide (d.texts.length = 0))))) = true by simp [z0, z1, z2, z3])
  clear z0 z1 z2 z3
  go_enter Tryz.func69, Tryz.ntmps69
  go_wp2
  go_ret
  exact ⟨by rw [HS.out]; rfl, HB.out⟩

set_option maxRecDepth 4000 in
set_option maxHeartbeats 1000000 in
theorem empty_x (x : DV) (d : Dt) (w : World) : Calls Tryz.prog 69 #[x.val d, .bool false, .bool true, .bool false, .bool true, .bool false] w (Gave w (.bool ((decide (d.bytes.length = 0) && (decide (d.mail.length = 0) && decide (d.texts.length = 0)))))) := by
  have HB := Lib.hid ((Below.refl _ w).alloc (Nat.le_refl _) (.cells #[x.vb d, x.vh d, x.vm d, x.vn d, x.vt d] 34))
  by_cases z0 : d.bytes.length = 0
  case neg =>
    have t0 : ((d.bytes.length : Int) == 0) = false := by rw [beq_eq_false_iff_ne]; omega
    have HS := Lib.hid (show ((decide (d.bytes.length = 0) && (decide (d.mail.length = 0) && decide (d.texts.length = 0)))) = false by simp [z0])
    clear z0
    go_enter Tryz.func69, Tryz.ntmps69
    go_wp2
    go_ret
    exact ⟨by rw [HS.out]; rfl, HB.out⟩
  have t0 : ((d.bytes.length : Int) == 0) = true := by rw [beq_iff_eq]; omega
  by_cases z1 : d.mail.length = 0
  case neg =>
    have t1 : ((d.mail.length : Int) == 0) = false := by rw [beq_eq_false_iff_ne]; omega
    have HS := Lib.hid (show ((decide (d.bytes.length = 0) && (decide (d.mail.length = 0) && decide (d.texts.length = 0)))) = false by simp [z0, z1])
    clear z0 z1
    go_enter Tryz.func69, Tryz.ntmps69
    go_wp2
    go_ret
    exact ⟨by rw [HS.out]; rfl, HB.out⟩
  have t1 : ((d.mail.length : Int) == 0) = true := by rw [beq_iff_eq]; omega
  by_cases z2 : d.texts.length = 0
  case neg =>
    have t2 : ((d.texts.length : Int) == 0) = false := by rw [beq_eq_false_iff_ne]; omega
    have HS := Lib.hid (show ((decide (d.bytes.length = 0) && (decide (d.mail.length = 0) && decide (d.texts.length = 0)))) = false by simp [z0, z1, z2])
    clear z0 z1 z2
    go_enter Tryz.func69, Tryz.ntmps69
    go_wp2
    go_ret
    exact ⟨by rw [HS.out]; rfl, HB.out⟩
  have t2 : ((d.texts.length : Int) == 0) = true := by rw [beq_iff_eq]; omega
  have HS := Lib.hid (show ((decide (d.bytes.length = 0) && (decide (d.mail.length = 0) && decide (d.texts.length = 0)))) = true by simp [z0, z1, z2])
  clear z0 z1 z2
  go_enter Tryz.func69, Tryz.ntmps69
  go_wp2
  go_ret
  exact ⟨by rw [HS.out]; rfl, HB.out⟩

set_option maxRecDepth 4000 in
set_option maxHeartbeats 1000000 in
theorem empty_s (x : DV) (d : Dt) (w : World) : Calls Tryz.prog 69 #[x.val d, .bool false, .bool true, .bool true, .bool true, .bool false] w (Gave w (.bool ((decide (d.bytes.length = 0) && decide (d.texts.length = 0))))) := by
  have HB := Lib.hid ((Below.refl _ w).alloc (Nat.le_refl _) (.cells #[x.vb d, x.vh d, x.vm d, x.vn d, x.vt d] 34))
  by_cases z0 : d.bytes.length = 0
  case neg =>
    have t0 : ((d.bytes.length : Int) == 0) = false := by rw [beq_eq_false_iff_ne]; omega
    have HS := Lib.hid (show ((decide (d.bytes.length = 0) && decide (d.texts.length = 0))) = false by simp [z0])
    clear z0
    go_enter Tryz.func69, Tryz.ntmps69
    go_wp2
    go_ret
    exact ⟨by rw [HS.out]; rfl, HB.out⟩
  have t0 : ((d.bytes.length : Int) == 0) = true := by rw [beq_iff_eq]; omega
  by_cases z1 : d.texts.length = 0
  case neg =>
    have t1 : ((d.texts.length : Int) == 0) = false := by rw [beq_eq_false_iff_ne]; omega
    have HS := Lib.hid (show ((decide (d.bytes.length = 0) && decide (d.texts.length = 0))) = false by simp [z0, z1])
    clear z0 z1
    go_enter Tryz.func69, Tryz.ntmps69
    go_wp2
    go_ret
    exact ⟨by rw [HS.out]; rfl, HB.out⟩
  have t1 : ((d.texts.length : Int) == 0) = true := by rw [beq_iff_eq]; omega
  have HS := Lib.hid (show ((decide (d.bytes.length = 0) && decide (d.texts.length = 0))) = true by simp [z0, z1])
  clear z0 z1
  go_enter Tryz.func69, Tryz.ntmps69
  go_wp2
  go_ret
  exact ⟨by rw [HS.out]; rfl, HB.out⟩

set_option maxRecDepth 4000 in
set_option maxHeartbeats 1000000 in
theorem empty_t (x : DV) (d : Dt) (w : World) : Calls Tryz.prog 69 #[x.val d, .bool false, .bool false, .bool false, .bool false, .bool true] w (Gave w (.bool ((decide (d.bytes.length = 0) && (decide (d.host.length = 0) && (decide (d.mail.length = 0) && decide (d.nums.length = 0))))))) := by
  have HB := Lib.hid ((Below.refl _ w).alloc (Nat.le_refl _) (.cells #[x.vb d, x.vh d, x.vm d, x.vn d, x.vt d] 34))
  by_cases z0 : d.bytes.length = 0
  case neg =>
    have t0 : ((d.bytes.length : Int) == 0) = false := by rw [beq_eq_false_iff_ne]; omega
    have HS := Lib.hid (show ((decide (d.bytes.length = 0) && (decide (d.host.length = 0) && (decide (d.mail.length = 0) && decide (d.nums.length = 0))))) = false by simp [z0])
    clear z0
    go_enter Tryz.func69, Tryz.ntmps69
    go_wp2
    go_ret
    exact ⟨by rw [HS.out]; rfl, HB.out⟩
  have t0 : ((d.bytes.length : Int) == 0) = true := by rw [beq_iff_eq]; omega
  by_cases z1 : d.host.length = 0
  case neg =>
    have t1 : ((d.host.length : Int) == 0) = false := by rw [beq_eq_false_iff_ne]; omega
    have HS := Lib.hid (show ((decide (d.bytes.length = 0) && (decide (d.host.length = 0) && (decide (d.mail.length = 0) && decide (d.nums.length = 0))))) = false by simp [z0, z1])
    clear z0 z1
    go_enter Tryz.func69, Tryz.ntmps69
    go_wp2
    go_ret
    exact ⟨by rw [HS.out]; rfl, HB.out⟩
  have t1 : ((d.host.length : Int) == 0) = true := by rw [beq_iff_eq]; omega
  by_cases z2 : d.mail.length = 0
  case neg =>
    have t2 : ((d.mail.length : Int) == 0) = false := by rw [beq_eq_false_iff_ne]; omega
    have HS := Lib.hid (show ((decide (d.bytes.length = 0) && (decide (d.host.length = 0) && (decide (d.mail.length = 0) && decide (d.nums.length = 0))))) = false by simp [z0, z1, z2])
    clear z0 z1 z2
    go_enter Tryz.func69, Tryz.ntmps69
    go_wp2
    go_ret
    exact ⟨by rw [HS.out]; rfl, HB.out⟩
  have t2 : ((d.mail.length : Int) == 0) = true := by rw [beq_iff_eq]; omega
  by_cases z3 : d.nums.length = 0
  case neg =>
    have t3 : ((d.nums.length : Int) == 0) = false := by rw [beq_eq_false_iff_ne]; omega
    have HS := Lib.hid (show ((decide (d.bytes.length = 0) && (decide (d.host.length = 0) && (decide (d.mail.length = 0) && decide (d.nums.length = 0))))) = false by simp [z0, z1, z2, z3])
    clear z0 z1 z2 z3
    go_enter Tryz.func69, Tryz.ntmps69
    go_wp2
    go_ret
    exact ⟨by rw [HS.out]; rfl, HB.out⟩
  have t3 : ((d.nums.length : Int) == 0) = true := by rw [beq_iff_eq]; omega
  have HS := Lib.hid (show ((decide (d.bytes.length = 0) && (decide (d.host.length = 0) && (decide (d.mail.length = 0) && decide (d.nums.length = 0))))) = true by simp [z0, z1, z2, z3])
  clear z0 z1 z2 z3
  go_enter Tryz.func69, Tryz.ntmps69
  go_wp2
  go_ret
  exact ⟨by rw [HS.out]; rfl, HB.out⟩

theorem numsOk_two {ah : Nat} {l : List Int} (h : l.length ≤ ah) : numsOk ah l = l.all fun n => fitB n 2 := by
  unfold numsOk
  rw [Bool.eq_iff_iff, List.all_eq_true, List.all_eq_true]
  constructor
  · intro hr n hn
    obtain ⟨i, hi, rfl⟩ := List.getElem_of_mem hn
    have := hr i (List.mem_range.2 hi)
    rw [sizeAt, if_pos (by omega)] at this
    simpa [List.getD, hi] using this
  · intro hr i hi
    have hi2 := List.mem_range.1 hi
    rw [sizeAt, if_pos (by omega)]
    simpa [List.getD, hi2] using hr l[i] (List.getElem_mem hi2)
theorem numsOk_four (l : List Int) : numsOk 0 l = l.all fun n => fitB n 4 := by
  unfold numsOk
  rw [Bool.eq_iff_iff, List.all_eq_true, List.all_eq_true]
  constructor
  · intro hr n hn
    obtain ⟨i, hi, rfl⟩ := List.getElem_of_mem hn
    have := hr i (List.mem_range.2 hi)
    rw [sizeAt, if_neg (by omega)] at this
    simpa [List.getD, hi] using this
  · intro hr i hi
    have hi2 := List.mem_range.1 hi
    rw [sizeAt, if_neg (by omega)]
    simpa [List.getD, hi2] using hr l[i] (List.getElem_mem hi2)
theorem soundNm_true (n : List (List UInt8)) : soundNm n true = soundN n := by
  unfold soundNm
  by_cases h : n.length = 0
  · have : n = [] := List.eq_nil_of_length_eq_zero h
    subst this
    decide
  · simp [h]
theorem soundNm_false (n : List (List UInt8)) : soundNm n false = decide (n.length = 0) := by simp [soundNm]
theorem soundNs_two {a : Nat} {l : List Int} {s : Sh} (h1 : s.ahead = a) (h2 : s.behind = 0) : soundNs s l = fitN a 2 l := by
  unfold soundNs fitN
  rw [h1, h2]
  by_cases h : l.length = a
  · rw [numsOk_two (by omega)]; simp
  · simp [h]
theorem soundNs_four {b : Nat} {l : List Int} {s : Sh} (h1 : s.ahead = 0) (h2 : s.behind = b) : soundNs s l = fitN b 4 l := by
  unfold soundNs fitN
  rw [h1, h2, numsOk_four]
  simp
theorem fitN_zero (s : Int) (l : List Int) : fitN 0 s l = decide (l.length = 0) := by
  unfold fitN
  by_cases h : l.length = 0
  · have : l = [] := List.eq_nil_of_length_eq_zero h
    subst this
    rfl
  · simp [h]

theorem soundD_1 (d : Dt) : soundD 1 d = (decide (d.bytes.length = 4) && (decide (d.host.length = 0) && (decide (d.mail.length = 0) && (decide (d.nums.length = 0) && decide (d.texts.length = 0))))) := by
  have hk : kindB 1 = true := by decide
  have hs : shN 1 = ⟨0, false, false, false, 0, false, 4, 4⟩ := by simp [shN]
  unfold soundD
  rw [hk, hs, soundNs_two (s := ⟨0, false, false, false, 0, false, 4, 4⟩) (a := 0) rfl rfl]
  simp only [soundBs, soundTs, soundNm_false, fitN_zero, Bool.true_and]
  rw [Bool.eq_iff_iff]
  simp only [Bool.and_eq_true, decide_eq_true_eq, if_false, Bool.false_eq_true]
  constructor
  · rintro ⟨⟨a1, a2⟩, a3, a4, a5, a6⟩
    skip
    exact ⟨by omega, a3, a4, a5, a6⟩
  · rintro ⟨b1, b2, b3, b4, b5⟩
    exact ⟨⟨by omega, by omega⟩, b2, b3, b4, b5⟩

theorem soundD_28 (d : Dt) : soundD 28 d = (decide (d.bytes.length = 16) && (decide (d.host.length = 0) && (decide (d.mail.length = 0) && (decide (d.nums.length = 0) && decide (d.texts.length = 0))))) := by
  have hk : kindB 28 = true := by decide
  have hs : shN 28 = ⟨0, false, false, false, 0, false, 16, 16⟩ := by simp [shN]
  unfold soundD
  rw [hk, hs, soundNs_two (s := ⟨0, false, false, false, 0, false, 16, 16⟩) (a := 0) rfl rfl]
  simp only [soundBs, soundTs, soundNm_false, fitN_zero, Bool.true_and]
  rw [Bool.eq_iff_iff]
  simp only [Bool.and_eq_true, decide_eq_true_eq, if_false, Bool.false_eq_true]
  constructor
  · rintro ⟨⟨a1, a2⟩, a3, a4, a5, a6⟩
    skip
    exact ⟨by omega, a3, a4, a5, a6⟩
  · rintro ⟨b1, b2, b3, b4, b5⟩
    exact ⟨⟨by omega, by omega⟩, b2, b3, b4, b5⟩

theorem soundD_2 (d : Dt) : soundD 2 d = (soundN d.host && (decide (d.bytes.length = 0) && (decide (d.mail.length = 0) && (decide (d.nums.length = 0) && decide (d.texts.length = 0))))) := by
  have hk : kindB 2 = true := by decide
  have hs : shN 2 = ⟨0, true, false, true, 0, false, 0, 0⟩ := by simp [shN]
  unfold soundD
  rw [hk, hs, soundNs_two (s := ⟨0, true, false, true, 0, false, 0, 0⟩) (a := 0) rfl rfl]
  simp only [soundBs, soundTs, soundNm_true, soundNm_false, fitN_zero, Bool.true_and]
  rw [Bool.eq_iff_iff]
  simp only [Bool.and_eq_true, decide_eq_true_eq, if_false, Bool.false_eq_true]
  constructor
  · rintro ⟨⟨a1, a2⟩, a3, a4, a5, a6⟩
    skip
    exact ⟨a3, by omega, a4, a5, a6⟩
  · rintro ⟨b1, b2, b3, b4, b5⟩
    exact ⟨⟨by omega, by omega⟩, b1, b3, b4, b5⟩

theorem soundD_5 (d : Dt) : soundD 5 d = (soundN d.host && (decide (d.bytes.length = 0) && (decide (d.mail.length = 0) && (decide (d.nums.length = 0) && decide (d.texts.length = 0))))) := by
  have hk : kindB 5 = true := by decide
  have hs : shN 5 = ⟨0, true, false, true, 0, false, 0, 0⟩ := by simp [shN]
  unfold soundD
  rw [hk, hs, soundNs_two (s := ⟨0, true, false, true, 0, false, 0, 0⟩) (a := 0) rfl rfl]
  simp only [soundBs, soundTs, soundNm_true, soundNm_false, fitN_zero, Bool.true_and]
  rw [Bool.eq_iff_iff]
  simp only [Bool.and_eq_true, decide_eq_true_eq, if_false, Bool.false_eq_true]
  constructor
  · rintro ⟨⟨a1, a2⟩, a3, a4, a5, a6⟩
    skip
    exact ⟨a3, by omega, a4, a5, a6⟩
  · rintro ⟨b1, b2, b3, b4, b5⟩
    exact ⟨⟨by omega, by omega⟩, b1, b3, b4, b5⟩

theorem soundD_12 (d : Dt) : soundD 12 d = (soundN d.host && (decide (d.bytes.length = 0) && (decide (d.mail.length = 0) && (decide (d.nums.length = 0) && decide (d.texts.length = 0))))) := by
  have hk : kindB 12 = true := by decide
  have hs : shN 12 = ⟨0, true, false, true, 0, false, 0, 0⟩ := by simp [shN]
  unfold soundD
  rw [hk, hs, soundNs_two (s := ⟨0, true, false, true, 0, false, 0, 0⟩) (a := 0) rfl rfl]
  simp only [soundBs, soundTs, soundNm_true, soundNm_false, fitN_zero, Bool.true_and]
  rw [Bool.eq_iff_iff]
  simp only [Bool.and_eq_true, decide_eq_true_eq, if_false, Bool.false_eq_true]
  constructor
  · rintro ⟨⟨a1, a2⟩, a3, a4, a5, a6⟩
    skip
    exact ⟨a3, by omega, a4, a5, a6⟩
  · rintro ⟨b1, b2, b3, b4, b5⟩
    exact ⟨⟨by omega, by omega⟩, b1, b3, b4, b5⟩

theorem soundD_15 (d : Dt) : soundD 15 d = (soundN d.host && (fitN 1 2 d.nums && (decide (d.bytes.length = 0) && (decide (d.mail.length = 0) && decide (d.texts.length = 0))))) := by
  have hk : kindB 15 = true := by decide
  have hs : shN 15 = ⟨1, true, false, true, 0, false, 0, 0⟩ := by simp [shN]
  unfold soundD
  rw [hk, hs, soundNs_two (s := ⟨1, true, false, true, 0, false, 0, 0⟩) (a := 1) rfl rfl]
  simp only [soundBs, soundTs, soundNm_true, soundNm_false, Bool.true_and]
  rw [Bool.eq_iff_iff]
  simp only [Bool.and_eq_true, decide_eq_true_eq, if_false, Bool.false_eq_true]
  constructor
  · rintro ⟨⟨a1, a2⟩, a3, a4, a5, a6⟩
    skip
    exact ⟨a3, a5, by omega, a4, a6⟩
  · rintro ⟨b1, b2, b3, b4, b5⟩
    exact ⟨⟨by omega, by omega⟩, b1, b4, b2, b5⟩

theorem soundD_33 (d : Dt) : soundD 33 d = (soundN d.host && (fitN 3 2 d.nums && (decide (d.bytes.length = 0) && (decide (d.mail.length = 0) && decide (d.texts.length = 0))))) := by
  have hk : kindB 33 = true := by decide
  have hs : shN 33 = ⟨3, true, false, false, 0, false, 0, 0⟩ := by simp [shN]
  unfold soundD
  rw [hk, hs, soundNs_two (s := ⟨3, true, false, false, 0, false, 0, 0⟩) (a := 3) rfl rfl]
  simp only [soundBs, soundTs, soundNm_true, soundNm_false, Bool.true_and]
  rw [Bool.eq_iff_iff]
  simp only [Bool.and_eq_true, decide_eq_true_eq, if_false, Bool.false_eq_true]
  constructor
  · rintro ⟨⟨a1, a2⟩, a3, a4, a5, a6⟩
    skip
    exact ⟨a3, a5, by omega, a4, a6⟩
  · rintro ⟨b1, b2, b3, b4, b5⟩
    exact ⟨⟨by omega, by omega⟩, b1, b4, b2, b5⟩

theorem soundD_6 (d : Dt) : soundD 6 d = (soundN d.host && (soundN d.mail && (fitN 5 4 d.nums && (decide (d.bytes.length = 0) && decide (d.texts.length = 0))))) := by
  have hk : kindB 6 = true := by decide
  have hs : shN 6 = ⟨0, true, true, true, 5, false, 0, 0⟩ := by simp [shN]
  unfold soundD
  rw [hk, hs, soundNs_four (s := ⟨0, true, true, true, 5, false, 0, 0⟩) (b := 5) rfl rfl]
  simp only [soundBs, soundTs, soundNm_true, Bool.true_and]
  rw [Bool.eq_iff_iff]
  simp only [Bool.and_eq_true, decide_eq_true_eq, if_false, Bool.false_eq_true]
  constructor
  · rintro ⟨⟨a1, a2⟩, a3, a4, a5, a6⟩
    skip
    exact ⟨a3, a4, a5, by omega, a6⟩
  · rintro ⟨b1, b2, b3, b4, b5⟩
    exact ⟨⟨by omega, by omega⟩, b1, b2, b3, b5⟩

theorem soundD_16 (d : Dt) : soundD 16 d = (decide (1 ≤ d.texts.length) && (decide (d.texts.length ≤ 64) && ((decide (d.bytes.length = 0) && (decide (d.host.length = 0) && (decide (d.mail.length = 0) && decide (d.nums.length = 0)))) && d.texts.all (fun t => decide (t.length ≤ 255))))) := by
  have hk : kindB 16 = true := by decide
  have hs : shN 16 = ⟨0, false, false, false, 0, true, 0, 0⟩ := by simp [shN]
  unfold soundD
  rw [hk, hs, soundNs_two (s := ⟨0, false, false, false, 0, true, 0, 0⟩) (a := 0) rfl rfl]
  simp only [soundBs, soundTs, soundNm_false, fitN_zero, Bool.true_and]
  rw [Bool.eq_iff_iff]
  simp only [Bool.and_eq_true, decide_eq_true_eq, if_true]
  constructor
  · rintro ⟨⟨a1, a2⟩, a3, a4, a5, a6⟩
    obtain ⟨a6, a7, a8⟩ := a6
    exact ⟨a7, a8, ⟨by omega, a3, a4, a5⟩, a6⟩
  · rintro ⟨b1, b2, ⟨b3, b4, b5, b6⟩, b7⟩
    exact ⟨⟨by omega, by omega⟩, b4, b5, b6, b7, b1, b2⟩

theorem soundD_other {k : Int} (d : Dt) (hk : kindB k = true) (h : (k == 1) = false ∧ (k == 28) = false ∧ (k == 2) = false ∧ (k == 5) = false ∧ (k == 12) = false ∧ (k == 15) = false ∧ (k == 6) = false ∧ (k == 16) = false ∧ (k == 33) = false) :
    soundD k d = (decide (d.bytes.length ≤ 65535) && (decide (d.host.length = 0) && (decide (d.mail.length = 0) && (decide (d.nums.length = 0) && decide (d.texts.length = 0))))) := by
  unfold soundD
  rw [hk, shN_other h, soundNs_two (s := ⟨0, false, false, false, 0, false, 0, 65535⟩) (a := 0) rfl rfl]
  simp only [soundBs, soundTs, soundNm_false, fitN_zero, Bool.true_and]
  rw [Bool.eq_iff_iff]
  simp only [Bool.and_eq_true, decide_eq_true_eq, if_false, Bool.false_eq_true]
  constructor
  · rintro ⟨⟨a1, a2⟩, a3, a4, a5, a6⟩
    exact ⟨a2, a3, a4, a5, a6⟩
  · rintro ⟨b1, b2, b3, b4, b5⟩
    exact ⟨⟨by omega, b1⟩, b2, b3, b4, b5⟩

end Go.Proofs.YtmbcbfalgdgmjaaGreatDoor

namespace Go.Proofs.YtmbcbfalgdgmjaaGreatDoor
open Go.RowKit

/-- What the document's Data asks of its argument. -/
structure RefIn (d : Dt) : Prop where
  h : d.host.length ≤ maxLen ∧ ∀ k (h : k < d.host.length), (d.host[k]).length ≤ maxLen
  m : d.mail.length ≤ maxLen ∧ ∀ k (h : k < d.mail.length), (d.mail[k]).length ≤ maxLen
  t : d.texts.length ≤ maxLen
  tl : ∀ k (h : k < d.texts.length), (d.texts[k]).length ≤ maxLen
  n : ∀ n ∈ d.nums, n ≤ 9223372036854775807

theorem rdata_kind (k : Int) (x : DV) (d : Dt) (w : World) (hk : kindB k = false) :
    Calls Tryz.prog 42 #[.int .i64 k, x.val d] w (Gave w (.bool (soundD k d))) := by
  have HB := Lib.hid ((Below.refl _ w).alloc (Nat.le_refl _) (.cells #[x.vb d, x.vh d, x.vm d, x.vn d, x.vt d] 34))
  have HS := Lib.hid (show soundD k d = false by unfold soundD; rw [hk]; rfl)
  have h : k < 1 ∨ 65535 < k := by
    unfold kindB at hk
    simp only [decide_eq_false_iff_not] at hk
    omega
  clear hk
  by_cases h1 : k < 1
  · have d1 : decide (k < 1) = true := by simp; omega
    clear h h1
    go_enter Tryz.func42, Tryz.ntmps42
    go_wp2
    go_ret
    exact ⟨by rw [HS.out]; rfl, HB.out⟩
  · have d1 : decide (k < 1) = false := by simp; omega
    have d2 : decide (65535 < k) = true := by simp; omega
    clear h h1
    go_enter Tryz.func42, Tryz.ntmps42
    go_wp2
    go_ret
    exact ⟨by rw [HS.out]; rfl, HB.out⟩

set_option maxRecDepth 4000 in
set_option maxHeartbeats 1000000 in
theorem rdata_1 (x : DV) (d : Dt) (w : World) (hx : DataAt w w.heap.size x d) (hi : RefIn d) :
    Calls Tryz.prog 42 #[.int .i64 1, x.val d] w (Gave w (.bool (soundD 1 d))) := by
  have kn : d.nums.length ≤ maxLen := Nat.le_trans hx.ln hx.kn
  have kb : d.bytes.length ≤ maxLen := Nat.le_trans hx.lb hx.kb
  obtain ⟨W, hW⟩ : ∃ W, W = w.alloc (.cells #[.slice x.Ab d.bytes.length x.cb, .slice x.Ah d.host.length x.ch, .slice x.Am d.mail.length x.cm, .slice x.An d.nums.length x.cn, .slice x.At d.texts.length x.ct] 34) := ⟨_, rfl⟩
  have hD : DataAt W w.heap.size x d := by rw [hW]; exact hx.alloc (Nat.le_refl _) _
  have hB : Below w.heap.size w W := by rw [hW]; exact (Below.refl _ _).alloc (Nat.le_refl _) _
  have hsz : w.heap.size ≤ W.heap.size := by rw [hW]; simp
  have hwh : Whole W w.heap.size 34 [x.vb d, x.vh d, x.vm d, x.vn d, x.vt d] := by rw [hW]; exact Whole.made w [x.vb d, x.vh d, x.vm d, x.vn d, x.vt d] _
  have c0 : W.cell? ⟨w.heap.size, 0, none⟩ = some (.slice x.Ab d.bytes.length x.cb) := hwh.cell 0
  have c1 : W.cell? ⟨w.heap.size, 1, none⟩ = some (.slice x.Ah d.host.length x.ch) := hwh.cell 1
  have c2 : W.cell? ⟨w.heap.size, 2, none⟩ = some (.slice x.Am d.mail.length x.cm) := hwh.cell 2
  have c3 : W.cell? ⟨w.heap.size, 3, none⟩ = some (.slice x.An d.nums.length x.cn) := hwh.cell 3
  have c4 : W.cell? ⟨w.heap.size, 4, none⟩ = some (.slice x.At d.texts.length x.ct) := hwh.cell 4
  have HB := Lib.hid hB
  have HW := Lib.hid hW
  have HH := Lib.hid (fun (_ : Unit) => ref_sound_wide x.Ah x.ch w.heap.size d.host W hD.h hi.h.1 hi.h.2)
  have HM := Lib.hid (fun (_ : Unit) => ref_sound_wide x.Am x.cm w.heap.size d.mail W hD.m hi.m.1 hi.m.2)
  have HF := Lib.hid (fun (_ : Unit) (a : Nat) (s : Int) => fit_any x.An d.nums.length x.cn w.heap.size d.nums a s W rfl hD.n kn hi.n)
  have HSZ := Lib.hid hsz
  unfold maxLen at kb kn
  have HS := Lib.hid (soundD_1 d)
  clear hD hB hwh hsz hx hi hW
  cases hv : decide (d.bytes.length = 4) with
  | false =>
    have t0 : ((d.bytes.length : Int) == 4) = false := by rw [beq_eq_false_iff_ne]; have := of_decide_eq_false hv; omega
    rw [hv] at HS
    clear hv
    go_enter Tryz.func42, Tryz.ntmps42
    rw [HW.out] at c0 c1 c2 c3 c4
    go_wp2
    go_ret
    exact ⟨by rw [HS.out]; rfl, by have h := HB.out; rw [HW.out] at h; exact h⟩
  | true =>
  have t0 : ((d.bytes.length : Int) == 4) = true := by rw [beq_iff_eq]; have := of_decide_eq_true hv; omega
  rw [hv] at HS
  clear hv
  go_enter Tryz.func42, Tryz.ntmps42
  rw [HW.out] at c0 c1 c2 c3 c4
  go_wp2_with fail
  rw [← HW.out]
  refine (empty_a x d W).mono ?_
  rintro e w' ⟨rfl, hb⟩
  have HE := Lib.hid (HB.out.trans (hb.mono HSZ.out))
  clear hb
  go_wp2
  go_ret
  refine ⟨?_, HE.out⟩
  rw [HS.out]
  simp

set_option maxRecDepth 4000 in
set_option maxHeartbeats 1000000 in
theorem rdata_28 (x : DV) (d : Dt) (w : World) (hx : DataAt w w.heap.size x d) (hi : RefIn d) :
    Calls Tryz.prog 42 #[.int .i64 28, x.val d] w (Gave w (.bool (soundD 28 d))) := by
  have kn : d.nums.length ≤ maxLen := Nat.le_trans hx.ln hx.kn
  have kb : d.bytes.length ≤ maxLen := Nat.le_trans hx.lb hx.kb
  obtain ⟨W, hW⟩ : ∃ W, W = w.alloc (.cells #[.slice x.Ab d.bytes.length x.cb, .slice x.Ah d.host.length x.ch, .slice x.Am d.mail.length x.cm, .slice x.An d.nums.length x.cn, .slice x.At d.texts.length x.ct] 34) := ⟨_, rfl⟩
  have hD : DataAt W w.heap.size x d := by rw [hW]; exact hx.alloc (Nat.le_refl _) _
  have hB : Below w.heap.size w W := by rw [hW]; exact (Below.refl _ _).alloc (Nat.le_refl _) _
  have hsz : w.heap.size ≤ W.heap.size := by rw [hW]; simp
  have hwh : Whole W w.heap.size 34 [x.vb d, x.vh d, x.vm d, x.vn d, x.vt d] := by rw [hW]; exact Whole.made w [x.vb d, x.vh d, x.vm d, x.vn d, x.vt d] _
  have c0 : W.cell? ⟨w.heap.size, 0, none⟩ = some (.slice x.Ab d.bytes.length x.cb) := hwh.cell 0
  have c1 : W.cell? ⟨w.heap.size, 1, none⟩ = some (.slice x.Ah d.host.length x.ch) := hwh.cell 1
  have c2 : W.cell? ⟨w.heap.size, 2, none⟩ = some (.slice x.Am d.mail.length x.cm) := hwh.cell 2
  have c3 : W.cell? ⟨w.heap.size, 3, none⟩ = some (.slice x.An d.nums.length x.cn) := hwh.cell 3
  have c4 : W.cell? ⟨w.heap.size, 4, none⟩ = some (.slice x.At d.texts.length x.ct) := hwh.cell 4
  have HB := Lib.hid hB
  have HW := Lib.hid hW
  have HH := Lib.hid (fun (_ : Unit) => ref_sound_wide x.Ah x.ch w.heap.size d.host W hD.h hi.h.1 hi.h.2)
  have HM := Lib.hid (fun (_ : Unit) => ref_sound_wide x.Am x.cm w.heap.size d.mail W hD.m hi.m.1 hi.m.2)
  have HF := Lib.hid (fun (_ : Unit) (a : Nat) (s : Int) => fit_any x.An d.nums.length x.cn w.heap.size d.nums a s W rfl hD.n kn hi.n)
  have HSZ := Lib.hid hsz
  unfold maxLen at kb kn
  have HS := Lib.hid (soundD_28 d)
  clear hD hB hwh hsz hx hi hW
  cases hv : decide (d.bytes.length = 16) with
  | false =>
    have t0 : ((d.bytes.length : Int) == 16) = false := by rw [beq_eq_false_iff_ne]; have := of_decide_eq_false hv; omega
    rw [hv] at HS
    clear hv
    go_enter Tryz.func42, Tryz.ntmps42
    rw [HW.out] at c0 c1 c2 c3 c4
    go_wp2
    go_ret
    exact ⟨by rw [HS.out]; rfl, by have h := HB.out; rw [HW.out] at h; exact h⟩
  | true =>
  have t0 : ((d.bytes.length : Int) == 16) = true := by rw [beq_iff_eq]; have := of_decide_eq_true hv; omega
  rw [hv] at HS
  clear hv
  go_enter Tryz.func42, Tryz.ntmps42
  rw [HW.out] at c0 c1 c2 c3 c4
  go_wp2_with fail
  rw [← HW.out]
  refine (empty_a x d W).mono ?_
  rintro e w' ⟨rfl, hb⟩
  have HE := Lib.hid (HB.out.trans (hb.mono HSZ.out))
  clear hb
  go_wp2
  go_ret
  refine ⟨?_, HE.out⟩
  rw [HS.out]
  simp

set_option maxRecDepth 4000 in
set_option maxHeartbeats 1000000 in
theorem rdata_2 (x : DV) (d : Dt) (w : World) (hx : DataAt w w.heap.size x d) (hi : RefIn d) :
    Calls Tryz.prog 42 #[.int .i64 2, x.val d] w (Gave w (.bool (soundD 2 d))) := by
  have kn : d.nums.length ≤ maxLen := Nat.le_trans hx.ln hx.kn
  have kb : d.bytes.length ≤ maxLen := Nat.le_trans hx.lb hx.kb
  obtain ⟨W, hW⟩ : ∃ W, W = w.alloc (.cells #[.slice x.Ab d.bytes.length x.cb, .slice x.Ah d.host.length x.ch, .slice x.Am d.mail.length x.cm, .slice x.An d.nums.length x.cn, .slice x.At d.texts.length x.ct] 34) := ⟨_, rfl⟩
  have hD : DataAt W w.heap.size x d := by rw [hW]; exact hx.alloc (Nat.le_refl _) _
  have hB : Below w.heap.size w W := by rw [hW]; exact (Below.refl _ _).alloc (Nat.le_refl _) _
  have hsz : w.heap.size ≤ W.heap.size := by rw [hW]; simp
  have hwh : Whole W w.heap.size 34 [x.vb d, x.vh d, x.vm d, x.vn d, x.vt d] := by rw [hW]; exact Whole.made w [x.vb d, x.vh d, x.vm d, x.vn d, x.vt d] _
  have c0 : W.cell? ⟨w.heap.size, 0, none⟩ = some (.slice x.Ab d.bytes.length x.cb) := hwh.cell 0
  have c1 : W.cell? ⟨w.heap.size, 1, none⟩ = some (.slice x.Ah d.host.length x.ch) := hwh.cell 1
  have c2 : W.cell? ⟨w.heap.size, 2, none⟩ = some (.slice x.Am d.mail.length x.cm) := hwh.cell 2
  have c3 : W.cell? ⟨w.heap.size, 3, none⟩ = some (.slice x.An d.nums.length x.cn) := hwh.cell 3
  have c4 : W.cell? ⟨w.heap.size, 4, none⟩ = some (.slice x.At d.texts.length x.ct) := hwh.cell 4
  have HB := Lib.hid hB
  have HW := Lib.hid hW
  have HH := Lib.hid (fun (_ : Unit) => ref_sound_wide x.Ah x.ch w.heap.size d.host W hD.h hi.h.1 hi.h.2)
  have HM := Lib.hid (fun (_ : Unit) => ref_sound_wide x.Am x.cm w.heap.size d.mail W hD.m hi.m.1 hi.m.2)
  have HF := Lib.hid (fun (_ : Unit) (a : Nat) (s : Int) => fit_any x.An d.nums.length x.cn w.heap.size d.nums a s W rfl hD.n kn hi.n)
  have HSZ := Lib.hid hsz
  unfold maxLen at kb kn
  have HS := Lib.hid (soundD_2 d)
  clear hD hB hwh hsz hx hi hW
  go_enter Tryz.func42, Tryz.ntmps42
  rw [HW.out] at c0 c1 c2 c3 c4
  go_wp2_with fail
  rw [← HW.out]
  rw [← HW.out] at c0 c1 c2 c3 c4
  refine (HH.out ()).mono ?_
  intro e w' hO
  obtain ⟨he, hw⟩ := hO
  subst hw
  cases hv : soundN d.host with
  | false =>
    rw [hv] at he HS
    subst he
    go_wp2
    go_ret
    exact ⟨by rw [HS.out]; rfl, HB.out⟩
  | true =>
  rw [hv] at he HS
  subst he
  go_wp2_with fail
  refine (empty_n x d W).mono ?_
  rintro e w' ⟨rfl, hb⟩
  have HE := Lib.hid (HB.out.trans (hb.mono HSZ.out))
  clear hb
  go_wp2
  go_ret
  refine ⟨?_, HE.out⟩
  rw [HS.out]
  simp

set_option maxRecDepth 4000 in
set_option maxHeartbeats 1000000 in
theorem rdata_5 (x : DV) (d : Dt) (w : World) (hx : DataAt w w.heap.size x d) (hi : RefIn d) :
    Calls Tryz.prog 42 #[.int .i64 5, x.val d] w (Gave w (.bool (soundD 5 d))) := by
  have kn : d.nums.length ≤ maxLen := Nat.le_trans hx.ln hx.kn
  have kb : d.bytes.length ≤ maxLen := Nat.le_trans hx.lb hx.kb
  obtain ⟨W, hW⟩ : ∃ W, W = w.alloc (.cells #[.slice x.Ab d.bytes.length x.cb, .slice x.Ah d.host.length x.ch, .slice x.Am d.mail.length x.cm, .slice x.An d.nums.length x.cn, .slice x.At d.texts.length x.ct] 34) := ⟨_, rfl⟩
  have hD : DataAt W w.heap.size x d := by rw [hW]; exact hx.alloc (Nat.le_refl _) _
  have hB : Below w.heap.size w W := by rw [hW]; exact (Below.refl _ _).alloc (Nat.le_refl _) _
  have hsz : w.heap.size ≤ W.heap.size := by rw [hW]; simp
  have hwh : Whole W w.heap.size 34 [x.vb d, x.vh d, x.vm d, x.vn d, x.vt d] := by rw [hW]; exact Whole.made w [x.vb d, x.vh d, x.vm d, x.vn d, x.vt d] _
  have c0 : W.cell? ⟨w.heap.size, 0, none⟩ = some (.slice x.Ab d.bytes.length x.cb) := hwh.cell 0
  have c1 : W.cell? ⟨w.heap.size, 1, none⟩ = some (.slice x.Ah d.host.length x.ch) := hwh.cell 1
  have c2 : W.cell? ⟨w.heap.size, 2, none⟩ = some (.slice x.Am d.mail.length x.cm) := hwh.cell 2
  have c3 : W.cell? ⟨w.heap.size, 3, none⟩ = some (.slice x.An d.nums.length x.cn) := hwh.cell 3
  have c4 : W.cell? ⟨w.heap.size, 4, none⟩ = some (.slice x.At d.texts.length x.ct) := hwh.cell 4
  have HB := Lib.hid hB
  have HW := Lib.hid hW
  have HH := Lib.hid (fun (_ : Unit) => ref_sound_wide x.Ah x.ch w.heap.size d.host W hD.h hi.h.1 hi.h.2)
  have HM := Lib.hid (fun (_ : Unit) => ref_sound_wide x.Am x.cm w.heap.size d.mail W hD.m hi.m.1 hi.m.2)
  have HF := Lib.hid (fun (_ : Unit) (a : Nat) (s : Int) => fit_any x.An d.nums.length x.cn w.heap.size d.nums a s W rfl hD.n kn hi.n)
  have HSZ := Lib.hid hsz
  unfold maxLen at kb kn
  have HS := Lib.hid (soundD_5 d)
  clear hD hB hwh hsz hx hi hW
  go_enter Tryz.func42, Tryz.ntmps42
  rw [HW.out] at c0 c1 c2 c3 c4
  go_wp2_with fail
  rw [← HW.out]
  rw [← HW.out] at c0 c1 c2 c3 c4
  refine (HH.out ()).mono ?_
  intro e w' hO
  obtain ⟨he, hw⟩ := hO
  subst hw
  cases hv : soundN d.host with
  | false =>
    rw [hv] at he HS
    subst he
    go_wp2
    go_ret
    exact ⟨by rw [HS.out]; rfl, HB.out⟩
  | true =>
  rw [hv] at he HS
  subst he
  go_wp2_with fail
  refine (empty_n x d W).mono ?_
  rintro e w' ⟨rfl, hb⟩
  have HE := Lib.hid (HB.out.trans (hb.mono HSZ.out))
  clear hb
  go_wp2
  go_ret
  refine ⟨?_, HE.out⟩
  rw [HS.out]
  simp

set_option maxRecDepth 4000 in
set_option maxHeartbeats 1000000 in
theorem rdata_12 (x : DV) (d : Dt) (w : World) (hx : DataAt w w.heap.size x d) (hi : RefIn d) :
    Calls Tryz.prog 42 #[.int .i64 12, x.val d] w (Gave w (.bool (soundD 12 d))) := by
  have kn : d.nums.length ≤ maxLen := Nat.le_trans hx.ln hx.kn
  have kb : d.bytes.length ≤ maxLen := Nat.le_trans hx.lb hx.kb
  obtain ⟨W, hW⟩ : ∃ W, W = w.alloc (.cells #[.slice x.Ab d.bytes.length x.cb, .slice x.Ah d.host.length x.ch, .slice x.Am d.mail.length x.cm, .slice x.An d.nums.length x.cn, .slice x.At d.texts.length x.ct] 34) := ⟨_, rfl⟩
  have hD : DataAt W w.heap.size x d := by rw [hW]; exact hx.alloc (Nat.le_refl _) _
  have hB : Below w.heap.size w W := by rw [hW]; exact (Below.refl _ _).alloc (Nat.le_refl _) _
  have hsz : w.heap.size ≤ W.heap.size := by rw [hW]; simp
  have hwh : Whole W w.heap.size 34 [x.vb d, x.vh d, x.vm d, x.vn d, x.vt d] := by rw [hW]; exact Whole.made w [x.vb d, x.vh d, x.vm d, x.vn d, x.vt d] _
  have c0 : W.cell? ⟨w.heap.size, 0, none⟩ = some (.slice x.Ab d.bytes.length x.cb) := hwh.cell 0
  have c1 : W.cell? ⟨w.heap.size, 1, none⟩ = some (.slice x.Ah d.host.length x.ch) := hwh.cell 1
  have c2 : W.cell? ⟨w.heap.size, 2, none⟩ = some (.slice x.Am d.mail.length x.cm) := hwh.cell 2
  have c3 : W.cell? ⟨w.heap.size, 3, none⟩ = some (.slice x.An d.nums.length x.cn) := hwh.cell 3
  have c4 : W.cell? ⟨w.heap.size, 4, none⟩ = some (.slice x.At d.texts.length x.ct) := hwh.cell 4
  have HB := Lib.hid hB
  have HW := Lib.hid hW
  have HH := Lib.hid (fun (_ : Unit) => ref_sound_wide x.Ah x.ch w.heap.size d.host W hD.h hi.h.1 hi.h.2)
  have HM := Lib.hid (fun (_ : Unit) => ref_sound_wide x.Am x.cm w.heap.size d.mail W hD.m hi.m.1 hi.m.2)
  have HF := Lib.hid (fun (_ : Unit) (a : Nat) (s : Int) => fit_any x.An d.nums.length x.cn w.heap.size d.nums a s W rfl hD.n kn hi.n)
  have HSZ := Lib.hid hsz
  unfold maxLen at kb kn
  have HS := Lib.hid (soundD_12 d)
  clear hD hB hwh hsz hx hi hW
  go_enter Tryz.func42, Tryz.ntmps42
  rw [HW.out] at c0 c1 c2 c3 c4
  go_wp2_with fail
  rw [← HW.out]
  rw [← HW.out] at c0 c1 c2 c3 c4
  refine (HH.out ()).mono ?_
  intro e w' hO
  obtain ⟨he, hw⟩ := hO
  subst hw
  cases hv : soundN d.host with
  | false =>
    rw [hv] at he HS
    subst he
    go_wp2
    go_ret
    exact ⟨by rw [HS.out]; rfl, HB.out⟩
  | true =>
  rw [hv] at he HS
  subst he
  go_wp2_with fail
  refine (empty_n x d W).mono ?_
  rintro e w' ⟨rfl, hb⟩
  have HE := Lib.hid (HB.out.trans (hb.mono HSZ.out))
  clear hb
  go_wp2
  go_ret
  refine ⟨?_, HE.out⟩
  rw [HS.out]
  simp

set_option maxRecDepth 4000 in
set_option maxHeartbeats 1000000 in
theorem rdata_15 (x : DV) (d : Dt) (w : World) (hx : DataAt w w.heap.size x d) (hi : RefIn d) :
    Calls Tryz.prog 42 #[.int .i64 15, x.val d] w (Gave w (.bool (soundD 15 d))) := by
  have kn : d.nums.length ≤ maxLen := Nat.le_trans hx.ln hx.kn
  have kb : d.bytes.length ≤ maxLen := Nat.le_trans hx.lb hx.kb
  obtain ⟨W, hW⟩ : ∃ W, W = w.alloc (.cells #[.slice x.Ab d.bytes.length x.cb, .slice x.Ah d.host.length x.ch, .slice x.Am d.mail.length x.cm, .slice x.An d.nums.length x.cn, .slice x.At d.texts.length x.ct] 34) := ⟨_, rfl⟩
  have hD : DataAt W w.heap.size x d := by rw [hW]; exact hx.alloc (Nat.le_refl _) _
  have hB : Below w.heap.size w W := by rw [hW]; exact (Below.refl _ _).alloc (Nat.le_refl _) _
  have hsz : w.heap.size ≤ W.heap.size := by rw [hW]; simp
  have hwh : Whole W w.heap.size 34 [x.vb d, x.vh d, x.vm d, x.vn d, x.vt d] := by rw [hW]; exact Whole.made w [x.vb d, x.vh d, x.vm d, x.vn d, x.vt d] _
  have c0 : W.cell? ⟨w.heap.size, 0, none⟩ = some (.slice x.Ab d.bytes.length x.cb) := hwh.cell 0
  have c1 : W.cell? ⟨w.heap.size, 1, none⟩ = some (.slice x.Ah d.host.length x.ch) := hwh.cell 1
  have c2 : W.cell? ⟨w.heap.size, 2, none⟩ = some (.slice x.Am d.mail.length x.cm) := hwh.cell 2
  have c3 : W.cell? ⟨w.heap.size, 3, none⟩ = some (.slice x.An d.nums.length x.cn) := hwh.cell 3
  have c4 : W.cell? ⟨w.heap.size, 4, none⟩ = some (.slice x.At d.texts.length x.ct) := hwh.cell 4
  have HB := Lib.hid hB
  have HW := Lib.hid hW
  have HH := Lib.hid (fun (_ : Unit) => ref_sound_wide x.Ah x.ch w.heap.size d.host W hD.h hi.h.1 hi.h.2)
  have HM := Lib.hid (fun (_ : Unit) => ref_sound_wide x.Am x.cm w.heap.size d.mail W hD.m hi.m.1 hi.m.2)
  have HF := Lib.hid (fun (_ : Unit) (a : Nat) (s : Int) => fit_any x.An d.nums.length x.cn w.heap.size d.nums a s W rfl hD.n kn hi.n)
  have HSZ := Lib.hid hsz
  unfold maxLen at kb kn
  have HS := Lib.hid (soundD_15 d)
  clear hD hB hwh hsz hx hi hW
  go_enter Tryz.func42, Tryz.ntmps42
  rw [HW.out] at c0 c1 c2 c3 c4
  go_wp2_with fail
  rw [← HW.out]
  rw [← HW.out] at c0 c1 c2 c3 c4
  refine (HH.out ()).mono ?_
  intro e w' hO
  obtain ⟨he, hw⟩ := hO
  subst hw
  cases hv : soundN d.host with
  | false =>
    rw [hv] at he HS
    subst he
    go_wp2
    go_ret
    exact ⟨by rw [HS.out]; rfl, HB.out⟩
  | true =>
  rw [hv] at he HS
  subst he
  go_wp2_with fail
  refine (HF.out () 1 2).mono ?_
  intro e w' hO
  obtain ⟨he, hw⟩ := hO
  subst hw
  cases hv : fitN 1 2 d.nums with
  | false =>
    rw [hv] at he HS
    subst he
    go_wp2
    go_ret
    exact ⟨by rw [HS.out]; rfl, HB.out⟩
  | true =>
  rw [hv] at he HS
  subst he
  go_wp2_with fail
  refine (empty_x x d W).mono ?_
  rintro e w' ⟨rfl, hb⟩
  have HE := Lib.hid (HB.out.trans (hb.mono HSZ.out))
  clear hb
  go_wp2
  go_ret
  refine ⟨?_, HE.out⟩
  rw [HS.out]
  simp

set_option maxRecDepth 4000 in
set_option maxHeartbeats 1000000 in
theorem rdata_33 (x : DV) (d : Dt) (w : World) (hx : DataAt w w.heap.size x d) (hi : RefIn d) :
    Calls Tryz.prog 42 #[.int .i64 33, x.val d] w (Gave w (.bool (soundD 33 d))) := by
  have kn : d.nums.length ≤ maxLen := Nat.le_trans hx.ln hx.kn
  have kb : d.bytes.length ≤ maxLen := Nat.le_trans hx.lb hx.kb
  obtain ⟨W, hW⟩ : ∃ W, W = w.alloc (.cells #[.slice x.Ab d.bytes.length x.cb, .slice x.Ah d.host.length x.ch, .slice x.Am d.mail.length x.cm, .slice x.An d.nums.length x.cn, .slice x.At d.texts.length x.ct] 34) := ⟨_, rfl⟩
  have hD : DataAt W w.heap.size x d := by rw [hW]; exact hx.alloc (Nat.le_refl _) _
  have hB : Below w.heap.size w W := by rw [hW]; exact (Below.refl _ _).alloc (Nat.le_refl _) _
  have hsz : w.heap.size ≤ W.heap.size := by rw [hW]; simp
  have hwh : Whole W w.heap.size 34 [x.vb d, x.vh d, x.vm d, x.vn d, x.vt d] := by rw [hW]; exact Whole.made w [x.vb d, x.vh d, x.vm d, x.vn d, x.vt d] _
  have c0 : W.cell? ⟨w.heap.size, 0, none⟩ = some (.slice x.Ab d.bytes.length x.cb) := hwh.cell 0
  have c1 : W.cell? ⟨w.heap.size, 1, none⟩ = some (.slice x.Ah d.host.length x.ch) := hwh.cell 1
  have c2 : W.cell? ⟨w.heap.size, 2, none⟩ = some (.slice x.Am d.mail.length x.cm) := hwh.cell 2
  have c3 : W.cell? ⟨w.heap.size, 3, none⟩ = some (.slice x.An d.nums.length x.cn) := hwh.cell 3
  have c4 : W.cell? ⟨w.heap.size, 4, none⟩ = some (.slice x.At d.texts.length x.ct) := hwh.cell 4
  have HB := Lib.hid hB
  have HW := Lib.hid hW
  have HH := Lib.hid (fun (_ : Unit) => ref_sound_wide x.Ah x.ch w.heap.size d.host W hD.h hi.h.1 hi.h.2)
  have HM := Lib.hid (fun (_ : Unit) => ref_sound_wide x.Am x.cm w.heap.size d.mail W hD.m hi.m.1 hi.m.2)
  have HF := Lib.hid (fun (_ : Unit) (a : Nat) (s : Int) => fit_any x.An d.nums.length x.cn w.heap.size d.nums a s W rfl hD.n kn hi.n)
  have HSZ := Lib.hid hsz
  unfold maxLen at kb kn
  have HS := Lib.hid (soundD_33 d)
  clear hD hB hwh hsz hx hi hW
  go_enter Tryz.func42, Tryz.ntmps42
  rw [HW.out] at c0 c1 c2 c3 c4
  go_wp2_with fail
  rw [← HW.out]
  rw [← HW.out] at c0 c1 c2 c3 c4
  refine (HH.out ()).mono ?_
  intro e w' hO
  obtain ⟨he, hw⟩ := hO
  subst hw
  cases hv : soundN d.host with
  | false =>
    rw [hv] at he HS
    subst he
    go_wp2
    go_ret
    exact ⟨by rw [HS.out]; rfl, HB.out⟩
  | true =>
  rw [hv] at he HS
  subst he
  go_wp2_with fail
  refine (HF.out () 3 2).mono ?_
  intro e w' hO
  obtain ⟨he, hw⟩ := hO
  subst hw
  cases hv : fitN 3 2 d.nums with
  | false =>
    rw [hv] at he HS
    subst he
    go_wp2
    go_ret
    exact ⟨by rw [HS.out]; rfl, HB.out⟩
  | true =>
  rw [hv] at he HS
  subst he
  go_wp2_with fail
  refine (empty_x x d W).mono ?_
  rintro e w' ⟨rfl, hb⟩
  have HE := Lib.hid (HB.out.trans (hb.mono HSZ.out))
  clear hb
  go_wp2
  go_ret
  refine ⟨?_, HE.out⟩
  rw [HS.out]
  simp

set_option maxRecDepth 4000 in
set_option maxHeartbeats 1000000 in
theorem rdata_6 (x : DV) (d : Dt) (w : World) (hx : DataAt w w.heap.size x d) (hi : RefIn d) :
    Calls Tryz.prog 42 #[.int .i64 6, x.val d] w (Gave w (.bool (soundD 6 d))) := by
  have kn : d.nums.length ≤ maxLen := Nat.le_trans hx.ln hx.kn
  have kb : d.bytes.length ≤ maxLen := Nat.le_trans hx.lb hx.kb
  obtain ⟨W, hW⟩ : ∃ W, W = w.alloc (.cells #[.slice x.Ab d.bytes.length x.cb, .slice x.Ah d.host.length x.ch, .slice x.Am d.mail.length x.cm, .slice x.An d.nums.length x.cn, .slice x.At d.texts.length x.ct] 34) := ⟨_, rfl⟩
  have hD : DataAt W w.heap.size x d := by rw [hW]; exact hx.alloc (Nat.le_refl _) _
  have hB : Below w.heap.size w W := by rw [hW]; exact (Below.refl _ _).alloc (Nat.le_refl _) _
  have hsz : w.heap.size ≤ W.heap.size := by rw [hW]; simp
  have hwh : Whole W w.heap.size 34 [x.vb d, x.vh d, x.vm d, x.vn d, x.vt d] := by rw [hW]; exact Whole.made w [x.vb d, x.vh d, x.vm d, x.vn d, x.vt d] _
  have c0 : W.cell? ⟨w.heap.size, 0, none⟩ = some (.slice x.Ab d.bytes.length x.cb) := hwh.cell 0
  have c1 : W.cell? ⟨w.heap.size, 1, none⟩ = some (.slice x.Ah d.host.length x.ch) := hwh.cell 1
  have c2 : W.cell? ⟨w.heap.size, 2, none⟩ = some (.slice x.Am d.mail.length x.cm) := hwh.cell 2
  have c3 : W.cell? ⟨w.heap.size, 3, none⟩ = some (.slice x.An d.nums.length x.cn) := hwh.cell 3
  have c4 : W.cell? ⟨w.heap.size, 4, none⟩ = some (.slice x.At d.texts.length x.ct) := hwh.cell 4
  have HB := Lib.hid hB
  have HW := Lib.hid hW
  have HH := Lib.hid (fun (_ : Unit) => ref_sound_wide x.Ah x.ch w.heap.size d.host W hD.h hi.h.1 hi.h.2)
  have HM := Lib.hid (fun (_ : Unit) => ref_sound_wide x.Am x.cm w.heap.size d.mail W hD.m hi.m.1 hi.m.2)
  have HF := Lib.hid (fun (_ : Unit) (a : Nat) (s : Int) => fit_any x.An d.nums.length x.cn w.heap.size d.nums a s W rfl hD.n kn hi.n)
  have HSZ := Lib.hid hsz
  unfold maxLen at kb kn
  have HS := Lib.hid (soundD_6 d)
  clear hD hB hwh hsz hx hi hW
  go_enter Tryz.func42, Tryz.ntmps42
  rw [HW.out] at c0 c1 c2 c3 c4
  go_wp2_with fail
  rw [← HW.out]
  rw [← HW.out] at c0 c1 c2 c3 c4
  refine (HH.out ()).mono ?_
  intro e w' hO
  obtain ⟨he, hw⟩ := hO
  subst hw
  cases hv : soundN d.host with
  | false =>
    rw [hv] at he HS
    subst he
    go_wp2
    go_ret
    exact ⟨by rw [HS.out]; rfl, HB.out⟩
  | true =>
  rw [hv] at he HS
  subst he
  go_wp2_with fail
  refine (HM.out ()).mono ?_
  intro e w' hO
  obtain ⟨he, hw⟩ := hO
  subst hw
  cases hv : soundN d.mail with
  | false =>
    rw [hv] at he HS
    subst he
    go_wp2
    go_ret
    exact ⟨by rw [HS.out]; rfl, HB.out⟩
  | true =>
  rw [hv] at he HS
  subst he
  go_wp2_with fail
  refine (HF.out () 5 4).mono ?_
  intro e w' hO
  obtain ⟨he, hw⟩ := hO
  subst hw
  cases hv : fitN 5 4 d.nums with
  | false =>
    rw [hv] at he HS
    subst he
    go_wp2
    go_ret
    exact ⟨by rw [HS.out]; rfl, HB.out⟩
  | true =>
  rw [hv] at he HS
  subst he
  go_wp2_with fail
  refine (empty_s x d W).mono ?_
  rintro e w' ⟨rfl, hb⟩
  have HE := Lib.hid (HB.out.trans (hb.mono HSZ.out))
  clear hb
  go_wp2
  go_ret
  refine ⟨?_, HE.out⟩
  rw [HS.out]
  simp

set_option maxRecDepth 4000 in
set_option maxHeartbeats 1000000 in
theorem rdata_other (k : Int) (x : DV) (d : Dt) (w : World) (hx : DataAt w w.heap.size x d) (hi : RefIn d) (hk : kindB k = true) (hoth : (k == 1) = false ∧ (k == 28) = false ∧ (k == 2) = false ∧ (k == 5) = false ∧ (k == 12) = false ∧ (k == 15) = false ∧ (k == 6) = false ∧ (k == 16) = false ∧ (k == 33) = false) :
    Calls Tryz.prog 42 #[.int .i64 k, x.val d] w (Gave w (.bool (soundD k d))) := by
  have kn : d.nums.length ≤ maxLen := Nat.le_trans hx.ln hx.kn
  have kb : d.bytes.length ≤ maxLen := Nat.le_trans hx.lb hx.kb
  obtain ⟨W, hW⟩ : ∃ W, W = w.alloc (.cells #[.slice x.Ab d.bytes.length x.cb, .slice x.Ah d.host.length x.ch, .slice x.Am d.mail.length x.cm, .slice x.An d.nums.length x.cn, .slice x.At d.texts.length x.ct] 34) := ⟨_, rfl⟩
  have hD : DataAt W w.heap.size x d := by rw [hW]; exact hx.alloc (Nat.le_refl _) _
  have hB : Below w.heap.size w W := by rw [hW]; exact (Below.refl _ _).alloc (Nat.le_refl _) _
  have hsz : w.heap.size ≤ W.heap.size := by rw [hW]; simp
  have hwh : Whole W w.heap.size 34 [x.vb d, x.vh d, x.vm d, x.vn d, x.vt d] := by rw [hW]; exact Whole.made w [x.vb d, x.vh d, x.vm d, x.vn d, x.vt d] _
  have c0 : W.cell? ⟨w.heap.size, 0, none⟩ = some (.slice x.Ab d.bytes.length x.cb) := hwh.cell 0
  have c1 : W.cell? ⟨w.heap.size, 1, none⟩ = some (.slice x.Ah d.host.length x.ch) := hwh.cell 1
  have c2 : W.cell? ⟨w.heap.size, 2, none⟩ = some (.slice x.Am d.mail.length x.cm) := hwh.cell 2
  have c3 : W.cell? ⟨w.heap.size, 3, none⟩ = some (.slice x.An d.nums.length x.cn) := hwh.cell 3
  have c4 : W.cell? ⟨w.heap.size, 4, none⟩ = some (.slice x.At d.texts.length x.ct) := hwh.cell 4
  have HB := Lib.hid hB
  have HW := Lib.hid hW
  have HH := Lib.hid (fun (_ : Unit) => ref_sound_wide x.Ah x.ch w.heap.size d.host W hD.h hi.h.1 hi.h.2)
  have HM := Lib.hid (fun (_ : Unit) => ref_sound_wide x.Am x.cm w.heap.size d.mail W hD.m hi.m.1 hi.m.2)
  have HF := Lib.hid (fun (_ : Unit) (a : Nat) (s : Int) => fit_any x.An d.nums.length x.cn w.heap.size d.nums a s W rfl hD.n kn hi.n)
  have HSZ := Lib.hid hsz
  unfold maxLen at kb kn
  have HS := Lib.hid (soundD_other d hk hoth)
  obtain ⟨o1, o2, o3, o4, o5, o6, o7, o8, o9⟩ := hoth
  have hkk : 1 ≤ k ∧ k ≤ 65535 := by simpa [kindB] using hk
  have d1 : decide (k < 1) = false := by simp; omega
  have d2 : decide (65535 < k) = false := by simp; omega
  clear hk hkk
  clear hD hB hwh hsz hx hi hW
  cases hv : decide (d.bytes.length ≤ 65535) with
  | false =>
    have t0 : decide ((d.bytes.length : Int) ≤ 65535) = false := by have := of_decide_eq_false hv; simp; omega
    rw [hv] at HS
    clear hv
    go_enter Tryz.func42, Tryz.ntmps42
    rw [HW.out] at c0 c1 c2 c3 c4
    go_wp2
    go_ret
    exact ⟨by rw [HS.out]; rfl, by have h := HB.out; rw [HW.out] at h; exact h⟩
  | true =>
  have t0 : decide ((d.bytes.length : Int) ≤ 65535) = true := by have := of_decide_eq_true hv; simp; omega
  rw [hv] at HS
  clear hv
  go_enter Tryz.func42, Tryz.ntmps42
  rw [HW.out] at c0 c1 c2 c3 c4
  go_wp2_with fail
  rw [← HW.out]
  refine (empty_a x d W).mono ?_
  rintro e w' ⟨rfl, hb⟩
  have HE := Lib.hid (HB.out.trans (hb.mono HSZ.out))
  clear hb
  go_wp2
  go_ret
  refine ⟨?_, HE.out⟩
  rw [HS.out]
  simp

end Go.Proofs.YtmbcbfalgdgmjaaGreatDoor

namespace Go.Proofs.YtmbcbfalgdgmjaaGreatDoor
open Go.RowKit

set_option maxRecDepth 4000 in
set_option maxHeartbeats 1000000 in
theorem rdata_16 (x : DV) (d : Dt) (w : World) (hx : DataAt w w.heap.size x d) (hi : RefIn d) :
    Calls Tryz.prog 42 #[.int .i64 16, x.val d] w (Gave w (.bool (soundD 16 d))) := by
  have kn : d.nums.length ≤ maxLen := Nat.le_trans hx.ln hx.kn
  have kb : d.bytes.length ≤ maxLen := Nat.le_trans hx.lb hx.kb
  obtain ⟨W, hW⟩ : ∃ W, W = w.alloc (.cells #[.slice x.Ab d.bytes.length x.cb, .slice x.Ah d.host.length x.ch, .slice x.Am d.mail.length x.cm, .slice x.An d.nums.length x.cn, .slice x.At d.texts.length x.ct] 34) := ⟨_, rfl⟩
  have hD : DataAt W w.heap.size x d := by rw [hW]; exact hx.alloc (Nat.le_refl _) _
  have hB : Below w.heap.size w W := by rw [hW]; exact (Below.refl _ _).alloc (Nat.le_refl _) _
  have hsz : w.heap.size ≤ W.heap.size := by rw [hW]; simp
  have hwh : Whole W w.heap.size 34 [x.vb d, x.vh d, x.vm d, x.vn d, x.vt d] := by rw [hW]; exact Whole.made w [x.vb d, x.vh d, x.vm d, x.vn d, x.vt d] _
  have c0 : W.cell? ⟨w.heap.size, 0, none⟩ = some (.slice x.Ab d.bytes.length x.cb) := hwh.cell 0
  have c1 : W.cell? ⟨w.heap.size, 1, none⟩ = some (.slice x.Ah d.host.length x.ch) := hwh.cell 1
  have c2 : W.cell? ⟨w.heap.size, 2, none⟩ = some (.slice x.Am d.mail.length x.cm) := hwh.cell 2
  have c3 : W.cell? ⟨w.heap.size, 3, none⟩ = some (.slice x.An d.nums.length x.cn) := hwh.cell 3
  have c4 : W.cell? ⟨w.heap.size, 4, none⟩ = some (.slice x.At d.texts.length x.ct) := hwh.cell 4
  have HB := Lib.hid hB
  have HW := Lib.hid hW
  have HDT := Lib.hid hD.t
  have HTL := Lib.hid hi.tl
  have hkt := hi.t
  unfold maxLen at hkt
  have HH := Lib.hid (fun (_ : Unit) => ref_sound_wide x.Ah x.ch w.heap.size d.host W hD.h hi.h.1 hi.h.2)
  have HM := Lib.hid (fun (_ : Unit) => ref_sound_wide x.Am x.cm w.heap.size d.mail W hD.m hi.m.1 hi.m.2)
  have HF := Lib.hid (fun (_ : Unit) (a : Nat) (s : Int) => fit_any x.An d.nums.length x.cn w.heap.size d.nums a s W rfl hD.n kn hi.n)
  have HSZ := Lib.hid hsz
  unfold maxLen at kb kn
  have HS := Lib.hid (soundD_16 d)
  clear hD hB hwh hsz hx hi hW
  have enter : True := trivial
  by_cases l1 : 1 ≤ d.texts.length
  case neg =>
    have t1 : decide ((d.texts.length : Int) < 1) = true := by simp; omega
    rw [decide_eq_false l1] at HS
    clear l1
    go_enter Tryz.func42, Tryz.ntmps42
    rw [HW.out] at c0 c1 c2 c3 c4
    go_wp2
    go_ret
    exact ⟨by rw [HS.out]; rfl, by have h := HB.out; rw [HW.out] at h; exact h⟩
  have t1 : decide ((d.texts.length : Int) < 1) = false := by simp; omega
  rw [decide_eq_true l1] at HS
  by_cases l2 : d.texts.length ≤ 64
  case neg =>
    have t2 : decide ((64 : Int) < (d.texts.length : Int)) = true := by simp; omega
    rw [decide_eq_false l2] at HS
    clear l1 l2
    go_enter Tryz.func42, Tryz.ntmps42
    rw [HW.out] at c0 c1 c2 c3 c4
    go_wp2
    go_ret
    exact ⟨by rw [HS.out]; rfl, by have h := HB.out; rw [HW.out] at h; exact h⟩
  have t2 : decide ((64 : Int) < (d.texts.length : Int)) = false := by simp; omega
  rw [decide_eq_true l2] at HS
  go_enter Tryz.func42, Tryz.ntmps42
  rw [HW.out] at c0 c1 c2 c3 c4
  go_wp2_with fail
  rw [← HW.out]
  rw [← HW.out] at c0 c1 c2 c3 c4
  refine (empty_t x d W).mono ?_
  intro e w1 hO
  obtain ⟨he, hb⟩ := hO
  have HE := Lib.hid (HB.out.trans (hb.mono HSZ.out))
  have HT1 := Lib.hid ((HDT.out.below (hb.mono HSZ.out)))
  have c41 : w1.cell? ⟨w.heap.size, 4, none⟩ = some (.slice x.At d.texts.length x.ct) := (hb.cell (p := ⟨w.heap.size, 4, none⟩) (World.block_lt_of_cell? W _ c4)).trans c4
  clear hb c0 c1 c2 c3 c4
  cases hv : (decide (d.bytes.length = 0) && (decide (d.host.length = 0) && (decide (d.mail.length = 0) && decide (d.nums.length = 0)))) with
  | false =>
    rw [hv] at he HS
    subst he
    go_wp2
    go_ret
    exact ⟨by rw [HS.out]; rfl, HE.out⟩
  | true =>
  rw [hv] at he HS
  subst he
  go_wp2
  go_loop [5] (STRel d.texts) (fun i => d.texts.length - (intOf i).toNat)
  case atStart => exact ⟨0, Nat.zero_le _, rfl, rfl⟩
  case round =>
    obtain ⟨k, hk, rfl, hok⟩ := hrel
    have HOK := Lib.hid hok
    clear hok
    by_cases hlt : k < d.texts.length
    · obtain ⟨b, off, hA, _, hc⟩ := HT1.out.name_at hlt
      have hlk := HTL.out k hlt
      unfold maxLen at hlk
      rw [hA] at c41
      by_cases hbig : 255 < (d.texts[k]).length
      · have d1 : decide ((255 : Int) < ((d.texts[k]).length : Int)) = true := by simp; omega
        have HN := Lib.hid (all_not (n := d.texts) (fun t : List UInt8 => decide (t.length ≤ 255)) hlt (by simp; omega))
        go_wp2
        go_ret
        exact ⟨by rw [HS.out, HN.out]; rfl, HE.out⟩
      · have d1 : decide ((255 : Int) < ((d.texts[k]).length : Int)) = false := by simp; omega
        have HY := Lib.hid (all_snoc (n := d.texts) (fun t : List UInt8 => decide (t.length ≤ 255)) hlt HOK.out (by simp; omega))
        go_wp2
        exact ⟨⟨k + 1, hlt, by go_num, HY.out⟩, by simp [intOf]; omega⟩
    · obtain rfl : k = d.texts.length := by omega
      have HN := Lib.hid (show d.texts.all (fun t => decide (t.length ≤ 255)) = true by have h := HOK.out; rw [List.take_length] at h; exact h)
      go_wp2
      go_ret
      exact ⟨by rw [HS.out, HN.out]; rfl, HE.out⟩

theorem refData_any (k : Int) (x : DV) (d : Dt) (w : World) (hx : DataAt w w.heap.size x d) (hi : RefIn d) :
    Calls Tryz.prog 42 #[.int .i64 k, x.val d] w (Gave w (.bool (soundD k d))) := by
  cases hk : kindB k with
  | false => exact rdata_kind k x d w hk
  | true =>
    rcases shN_cases k with rfl | rfl | rfl | rfl | rfl | rfl | rfl | rfl | rfl | ho
    · exact rdata_1 x d w hx hi
    · exact rdata_28 x d w hx hi
    · exact rdata_2 x d w hx hi
    · exact rdata_5 x d w hx hi
    · exact rdata_12 x d w hx hi
    · exact rdata_15 x d w hx hi
    · exact rdata_6 x d w hx hi
    · exact rdata_16 x d w hx hi
    · exact rdata_33 x d w hx hi
    · exact rdata_other k x d w hx hi hk ho

theorem sound_sz {k : Int} {d : Dt} (h : soundD k d = true) : szN d.host ≤ maxLen ∧ szN d.mail ≤ maxLen := by
  have sp := soundP h
  have key : ∀ (n : List (List UInt8)) (b : Bool), (b = true → soundN n = true) → (b = false → n = []) → szN n ≤ maxLen := by
    intro n b h1 h2
    cases b
    · rw [h2 rfl]; decide
    · have := (soundN_parts (h1 rfl)).2
      unfold maxLen
      omega
  exact ⟨key _ _ sp.h sp.h0, key _ _ sp.m sp.m0⟩
















end Go.Proofs.YtmbcbfalgdgmjaaGreatDoor

namespace Go.Proofs.YtmbcbfalgdgmjaaGreatDoor
open Go.RowKit

/-- Every edge leads back. -/
def backB (ops : Array Oper) : Bool := (List.range ops.size).all fun i => ((ops[i]?).map fun o => o.after.all fun e => decide (e.on < i)).getD true
/-- Operation j yields into slot d0 + j, for each j below n; no guards. -/
def slotsB (ops : Array Oper) (d0 n : Nat) : Bool := (List.range n).all fun i => ((ops[i]?).map fun o => decide (o.dst = some (d0 + i)) && o.guard.isNone).getD false

structure Facts (ops : Array Oper) (d0 n : Nat) (a0 : Act) (S : World → Prop) (F : Nat → Value → World → Prop) (D : Nat → Nat → Value → Value → Prop) (l : Array Bool) (a : Act) (w : World) : Prop where
  inv : HeadInv .any ops n l
  defers : a.defers = a0.defers
  size : a.tmps.size = a0.tmps.size
  low : ∀ s, s < d0 → a.tmps[s]? = a0.tmps[s]?
  S : S w
  facts : ∀ j, j < n → l.getD j false = true → ∃ v, a.tmps[d0 + j]? = some v ∧ F j v w
  dist : ∀ j k, j < n → k < n → j ≠ k → l.getD j false = true → l.getD k false = true → ∀ u v, a.tmps[d0 + j]? = some u → a.tmps[d0 + k]? = some v → D j k u v

/-- How many of the first n have not come up. -/
def left (n : Nat) (l : Array Bool) : Nat := (List.range n).countP fun i => !l.getD i false

theorem left_succ (n : Nat) (l : Array Bool) : left (n + 1) l = left n l + if l.getD n false = true then 0 else 1 := by
  unfold left
  rw [List.range_succ, List.countP_append, List.countP_singleton]
  cases l.getD n false <;> rfl
theorem left_far {i : Nat} {l : Array Bool} : ∀ {n : Nat}, n ≤ i → left n (l.setIfInBounds i true) = left n l
  | 0, _ => rfl
  | n + 1, h => by rw [left_succ, left_succ, left_far (by omega), getD_set_ne false (by omega)]
theorem left_set {i : Nat} {l : Array Bool} (hl : i < l.size) (h : l.getD i false = false) : ∀ {n : Nat}, i < n → left n (l.setIfInBounds i true) + 1 = left n l
  | 0, hi => by omega
  | n + 1, hi => by
    rw [left_succ, left_succ]
    by_cases hin : i = n
    · subst hin
      have : (l.setIfInBounds i true).getD i false = true := by simp [hl]
      rw [left_far (Nat.le_refl _), h, this]
      simp
    · have := left_set hl h (n := n) (by omega)
      rw [getD_set_ne false hin]
      omega

theorem left_zero {n : Nat} {l : Array Bool} (h : left n l = 0) : ∀ j, j < n → l.getD j false = true := by
  intro j hj
  unfold left at h
  have h1 := List.countP_eq_zero.1 h j (List.mem_range.2 hj)
  simpa using h1

theorem ready_some {ops : Array Oper} {n : Nat} {l : Array Bool} (hb : backB ops = true) (hsz : l.size = ops.size) (hn : n ≤ ops.size) : ∀ (d i : Nat), i ≤ d → i < n → l.getD i false = false → Region.ready .any ops l ≠ [] := by
  intro d
  induction d with
  | zero =>
    intro i hi hin hl
    obtain rfl : i = 0 := by omega
    have hlt : 0 < ops.size := by omega
    have h0 := List.all_eq_true.1 hb 0 (List.mem_range.2 hlt)
    rw [Array.getElem?_eq_getElem hlt] at h0
    simp only [Option.map_some, Option.getD_some] at h0
    have : 0 ∈ Region.ready .any ops l := mem_ready.2 ⟨getD_in (by omega) hl, ops[0], Array.getElem?_eq_getElem hlt, fun e he _ => by
      have := Array.all_eq_true'.1 h0 e he
      simp at this⟩
    exact fun h => by rw [h] at this; cases this
  | succ d ih =>
    intro i hi hin hl
    have hlt : i < ops.size := by omega
    have h0 := List.all_eq_true.1 hb i (List.mem_range.2 hlt)
    rw [Array.getElem?_eq_getElem hlt] at h0
    simp only [Option.map_some, Option.getD_some] at h0
    by_cases hall : ∀ e ∈ ops[i].after, Region.binds .any e = true → l.getD e.on false = true
    · have : i ∈ Region.ready .any ops l := mem_ready.2 ⟨getD_in (by omega) hl, ops[i], Array.getElem?_eq_getElem hlt, hall⟩
      exact fun h => by rw [h] at this; cases this
    · have : ∃ e, e ∈ ops[i].after ∧ l.getD e.on false = false := by
        apply Classical.byContradiction
        intro hno
        apply hall
        intro e he _
        cases hx : l.getD e.on false with
        | true => rfl
        | false => exact absurd ⟨e, he, hx⟩ hno
      obtain ⟨e, he, hx⟩ := this
      have := Array.all_eq_true'.1 h0 e he
      simp at this
      exact ih e.on (by omega) (by omega) hx

theorem wpAny_facts {P : Program} {ops : Array Oper} {Q : Exit → Act → World → Prop} {d0 n : Nat} {a0 : Act} {S : World → Prop} {F : Nat → Value → World → Prop} {D : Nat → Nat → Value → Value → Prop}
    (hsz : ops.size = n + 1) (hs : Region.sinkB .any ops n = true) (hc : Region.chainB .any ops n = true) (hb : backB ops = true) (hd : slotsB ops d0 n = true) (ha : d0 + n ≤ a0.tmps.size)
    (hq : Region.seqB .any ops 1 n ((Array.replicate n true).push false) = true)
    (hstep : ∀ i o, i < n → ops[i]? = some o → ∀ l a w, Facts ops d0 n a0 S F D l a w → (∀ e ∈ o.after, Region.binds .any e = true → l.getD e.on false = true) →
      ∀ K : Act → World → Prop, (∀ v w', F i v w' → S w' → (∀ j u, j < n → F j u w → F j u w') → (∀ j u, j < n → F j u w → D i j v u ∧ D j i u v) → K (a.put o.dst v) w') → o.wp P a w K Q)
    (htail : ∀ l a w o, ops[n]? = some o → Facts ops d0 n a0 S F D l a w → (∀ j, j < n → l.getD j false = true) → wpList P ops Q [o] a w) :
    ∀ (f : Nat) (l : Array Bool) (a : Act) (w : World), left n l ≤ f → Facts ops d0 n a0 S F D l a w → wpAny P .any ops Q (left n l + 1) l a w := by
  intro f
  induction f with
  | zero =>
    intro l a w hf h
    have hz : left n l = 0 := by omega
    have hall := left_zero hz
    have hl : l = (Array.replicate n true).push false := by
      apply Array.ext (by simp [h.inv.size, hsz])
      intro i h1 h2
      simp at h2
      rcases Nat.lt_or_ge i n with hi | hi
      · have := hall i hi
        simp [h1] at this
        simp [this, hi, Array.getElem_push]
      · obtain rfl : i = n := by omega
        have := h.inv.tail i (Nat.le_refl _) (by omega)
        simp [h1] at this
        simp [this, Array.getElem_push]
    have hlt : n < ops.size := by omega
    rw [hz, Nat.zero_add, hl]
    rw [hl] at h
    have := wpAny_of_seq (P := P) (md := .any) (ops := ops) (Q' := Q) [ops[n]] n ((Array.replicate n true).push false) a w (fun j => by
      rcases j with _ | j
      · simp [Array.getElem?_eq_getElem hlt]
      · simp
        omega) hq (htail _ a w _ (Array.getElem?_eq_getElem hlt) h fun j hj => hl ▸ hall j hj)
    exact this
  | succ f ih =>
    intro l a w hf h
    by_cases hz : left n l = 0
    · exact ih l a w (by omega) h
    have hne : Region.ready .any ops l ≠ [] := by
      have : ∃ i, i < n ∧ l.getD i false = false := by
        apply Classical.byContradiction
        intro hno
        apply hz
        unfold left
        rw [List.countP_eq_zero]
        intro i hi
        cases hx : l.getD i false with
        | true => simp
        | false => exact absurd ⟨i, List.mem_range.1 hi, hx⟩ hno
      obtain ⟨i, hi, hx⟩ := this
      exact ready_some hb h.inv.size (by omega) i i (Nat.le_refl _) hi hx
    refine ⟨fun h0 => absurd h0 hne, fun i hi => ?_⟩
    obtain ⟨hun, o, ho, hall⟩ := mem_ready.1 hi
    have hin : i < n := by
      rcases Nat.lt_or_ge i n with h1 | h1
      · exact h1
      · have : ∃ i, i < n ∧ l.getD i false = false := by
          apply Classical.byContradiction
          intro hno
          apply hz
          unfold left
          rw [List.countP_eq_zero]
          intro i hi
          cases hx : l.getD i false with
          | true => simp
          | false => exact absurd ⟨i, List.mem_range.1 hi, hx⟩ hno
        obtain ⟨j, hj, hx⟩ := this
        exact absurd hi (tail_waits hs hc (by omega) h.inv _ j rfl hj (getD_in (by rw [h.inv.size]; omega) hx) i h1)
    have hsl := List.all_eq_true.1 hd i (List.mem_range.2 hin)
    rw [ho] at hsl
    simp only [Option.map_some, Option.getD_some, Bool.and_eq_true, decide_eq_true_eq] at hsl
    have hg : o.guard = none := by simpa using hsl.2
    have hls : i < l.size := by rw [h.inv.size]; omega
    have hlt := left_set (l := l) (by rw [h.inv.size]; omega) (getD_both hun) hin
    unfold wpOp
    rw [ho]
    simp only
    rw [if_pos (by unfold Region.wanted; rw [hg])]
    refine .inl (hstep i o hin ho l a w h hall _ fun v w' hF hS hk hD => ?_)
    have hih := ih (l.setIfInBounds i true) (a.put o.dst v) w' (by omega) ?_
    · rwa [hlt] at hih
    · refine ⟨h.inv.set hi hin, by rw [hsl.1]; exact h.defers, by simp [Act.put, hsl.1, h.size], fun s hs => ?_, hS, fun j hj hl => ?_, fun j k hj hk' hjk hlj hlk u v' hu hv => ?_⟩
      · rw [hsl.1]
        simp only [Act.put]
        rw [Array.getElem?_setIfInBounds_ne (by omega)]
        exact h.low s hs
      · rw [hsl.1]
        simp only [Act.put]
        by_cases hij : i = j
        · subst hij
          exact ⟨v, by rw [Array.getElem?_setIfInBounds_self_of_lt (by have := h.size; omega)], hF⟩
        · rw [getD_set_ne false hij] at hl
          obtain ⟨u, hu, hFu⟩ := h.facts j hj hl
          exact ⟨u, by rw [Array.getElem?_setIfInBounds_ne (by omega)]; exact hu, hk j u hj hFu⟩
      · rw [hsl.1] at hu hv
        simp only [Act.put] at hu hv
        by_cases hij : i = j
        · subst hij
          rw [Array.getElem?_setIfInBounds_self_of_lt (by have := h.size; omega)] at hu
          rw [Array.getElem?_setIfInBounds_ne (by omega)] at hv
          injection hu with hu
          subst hu
          rw [getD_set_ne false hjk] at hlk
          obtain ⟨v2, hv2, hFv⟩ := h.facts k hk' hlk
          rw [hv] at hv2
          injection hv2 with hv2
          subst hv2
          exact (hD k v' hk' hFv).1
        · rw [Array.getElem?_setIfInBounds_ne (by omega)] at hu
          rw [getD_set_ne false hij] at hlj
          by_cases hik : i = k
          · subst hik
            rw [Array.getElem?_setIfInBounds_self_of_lt (by have := h.size; omega)] at hv
            injection hv with hv
            subst hv
            obtain ⟨u2, hu2, hFu⟩ := h.facts j hj hlj
            rw [hu] at hu2
            injection hu2 with hu2
            subst hu2
            exact (hD j u hj hFu).2
          · rw [Array.getElem?_setIfInBounds_ne (by omega)] at hv
            rw [getD_set_ne false hik] at hlk
            exact h.dist j k hj hk' hjk hlj hlk u v' hu hv

theorem left_none (n m : Nat) : left n (Array.replicate m false) = n := by
  have h : ∀ n, left n (Array.replicate m false) = n := fun n => by
    induction n with
    | zero => rfl
    | succ n ih => rw [left_succ, ih, getD_replicate_false]; rfl
  exact h n

/-- The region, from its beginning. -/
theorem wp_region_facts {P : Program} {ops : Array Oper} {Q : Exit → Act → World → Prop} {id : Nat} (d0 n : Nat) {a0 : Act} {w : World} (S : World → Prop) (F : Nat → Value → World → Prop) (D : Nat → Nat → Value → Value → Prop)
    (hm : P.follows .mixedOrders = true) (hsz : ops.size = n + 1) (hs : Region.sinkB .any ops n = true) (hc : Region.chainB .any ops n = true) (hb : backB ops = true) (hd : slotsB ops d0 n = true) (ha : d0 + n ≤ a0.tmps.size)
    (hq : Region.seqB .any ops 1 n ((Array.replicate n true).push false) = true) (hS : S w.drew)
    (hstep : ∀ i o, i < n → ops[i]? = some o → ∀ l a w, Facts ops d0 n a0 S F D l a w → (∀ e ∈ o.after, Region.binds .any e = true → l.getD e.on false = true) →
      ∀ K : Act → World → Prop, (∀ v w', F i v w' → S w' → (∀ j u, j < n → F j u w → F j u w') → (∀ j u, j < n → F j u w → D i j v u ∧ D j i u v) → K (a.put o.dst v) w') → o.wp P a w K Q)
    (htail : ∀ l a w o, ops[n]? = some o → Facts ops d0 n a0 S F D l a w → (∀ j, j < n → l.getD j false = true) → wpList P ops Q [o] a w) : (Code.region id ops true).wp P Q a0 w := by
  refine wp_region_any hm ?_
  have h := wpAny_facts hsz hs hc hb hd ha hq hstep htail n (Array.replicate ops.size false) a0 w.drew (by rw [left_none]; exact Nat.le_refl _)
    ⟨⟨by simp, fun j oj _ hl => (by rw [getD_replicate_false] at hl; cases hl), fun t _ ht => getD_in (by simpa using ht) (getD_replicate_false _ _)⟩, rfl, rfl, fun _ _ => rfl, hS,
      fun j _ hl => (by rw [getD_replicate_false] at hl; cases hl), fun j k _ _ _ hl => (by rw [getD_replicate_false] at hl; cases hl)⟩
  rw [left_none] at h
  rw [hsz] at h ⊢
  exact h

end Go.Proofs.YtmbcbfalgdgmjaaGreatDoor
