/-
  Plain mathematics of names as they are written: what is written, where rests stand, and that it is read as it was. No program is imported.
-/
import Derived.Test.YtjjmllbkfbdcnaaNGet
namespace Go.Proofs.Ytjjmllbkfbdcnaa
open Go.RowKit

/-- The labels of a name as they are written without a pointer. -/
def encN : List (List UInt8) → List UInt8
  | [] => []
  | l :: n => UInt8.ofNat l.length :: (l ++ encN n)
theorem length_encN (n : List (List UInt8)) : (encN n).length + 1 = szN n := by
  induction n with
  | nil => rfl
  | cons l n ih => simp only [encN, szN, List.length_cons, List.length_append]; omega
theorem encN_snoc (n : List (List UInt8)) (l : List UInt8) : encN (n ++ [l]) = encN n ++ (UInt8.ofNat l.length :: l) := by
  induction n with
  | nil => simp [encN]
  | cons x n ih => simp [encN, ih]
theorem fitL_iff {l : List UInt8} : fitL l = true ↔ 1 ≤ l.length ∧ l.length ≤ 63 := by simp [fitL]
theorem encN_inj : ∀ {n m : List (List UInt8)}, n.all fitL = true → m.all fitL = true → encN n = encN m → n = m
  | [], [], _, _, _ => rfl
  | [], _ :: _, _, _, h => by simp [encN] at h
  | _ :: _, [], _, _, h => by simp [encN] at h
  | l :: n, k :: m, hn, hm, h => by
    simp only [List.all_cons, Bool.and_eq_true, fitL_iff] at hn hm
    simp only [encN, List.cons.injEq] at h
    have hl : l.length = k.length := by
      have h1 := congrArg UInt8.toNat h.1
      rw [UInt8.toNat_ofNat', UInt8.toNat_ofNat'] at h1
      omega
    obtain ⟨h1, h2⟩ := List.append_inj h.2 hl
    rw [h1, encN_inj hn.2 hm.2 h2]

/-- Rests: each one's labels and its place. -/
abbrev Rs := List (List (List UInt8) × Nat)
def findR (R : Rs) (n : List (List UInt8)) : Option Nat := (R.find? fun r => decide (r.1 = n)).map (·.2)
theorem findR_nil (n : List (List UInt8)) : findR [] n = none := rfl
theorem findR_snoc (R : Rs) (m n : List (List UInt8)) (k : Nat) : findR (R ++ [(m, k)]) n = (findR R n).or (if m = n then some k else none) := by
  unfold findR
  rw [List.find?_append]
  cases h : R.find? fun r => decide (r.1 = n) with
  | some r => simp
  | none =>
    by_cases e : m = n
    · simp [e]
    · simp [e]
theorem findR_mem {R : Rs} {n : List (List UInt8)} {k : Nat} (h : findR R n = some k) : (n, k) ∈ R := by
  unfold findR at h
  rw [Option.map_eq_some_iff] at h
  obtain ⟨⟨m, k'⟩, h1, h2⟩ := h
  have h3 := List.mem_of_find?_eq_some h1
  have h4 := List.find?_some h1
  simp at h4 h2
  subst h4; subst h2
  exact h3

/-- What is written of a name, and which rests there are then. -/
def nameW (short : Bool) : List (List UInt8) → List UInt8 → Rs → List UInt8 × Rs
  | [], B, R => (B ++ [0], R)
  | l :: n, B, R =>
    match short, findR R (l :: n) with
    | true, some k => (B ++ digs (49152 + k) 2, R)
    | _, _ => nameW short n (B ++ UInt8.ofNat l.length :: l) (if B.length < 16384 then R ++ [(l :: n, B.length)] else R)
theorem nameW_nil (short : Bool) (B : List UInt8) (R : Rs) : nameW short [] B R = (B ++ [0], R) := rfl
theorem nameW_hit {l : List UInt8} {n : List (List UInt8)} {B : List UInt8} {R : Rs} {k : Nat} (h : findR R (l :: n) = some k) : nameW true (l :: n) B R = (B ++ digs (49152 + k) 2, R) := by
  rw [nameW.eq_def]
  simp only [h]
theorem nameW_long (l : List UInt8) (n : List (List UInt8)) (B : List UInt8) (R : Rs) :
    nameW false (l :: n) B R = nameW false n (B ++ UInt8.ofNat l.length :: l) (if B.length < 16384 then R ++ [(l :: n, B.length)] else R) := by
  rw [nameW.eq_def]
theorem nameW_miss {short : Bool} {l : List UInt8} {n : List (List UInt8)} {B : List UInt8} {R : Rs} (h : findR R (l :: n) = none) :
    nameW short (l :: n) B R = nameW short n (B ++ UInt8.ofNat l.length :: l) (if B.length < 16384 then R ++ [(l :: n, B.length)] else R) := by
  rw [nameW.eq_def]
  simp only [h]

/-- At p, where what is read now began at q, the name n is read; e is the place behind it. -/
inductive AtN (B : List UInt8) : Nat → Nat → List (List UInt8) → Nat → Prop
  | fin {p q : Nat} (h : B[p]? = some 0) : AtN B p q [] (p + 1)
  | ptr {p q e : Nat} {n : List (List UInt8)} {y z : UInt8} (h1 : B[p]? = some y) (h2 : B[p + 1]? = some z) (h3 : 192 ≤ y.toNat) (h4 : toR y z < q) (h : AtN B (toR y z) (toR y z) n e) : AtN B p q n (p + 2)
  | lab {p q e : Nat} {n : List (List UInt8)} {l : List UInt8} (h1 : 1 ≤ l.length) (h2 : l.length ≤ 63) (h3 : B[p]? = some (UInt8.ofNat l.length)) (h4 : p + 1 + l.length ≤ B.length) (h5 : cutL B (p + 1) l.length = l) (h : AtN B (p + 1 + l.length) q n e) : AtN B p q (l :: n) e

theorem AtN.mono {B : List UInt8} {p q e : Nat} {n : List (List UInt8)} (h : AtN B p q n e) : ∀ {q' : Nat}, q ≤ q' → AtN B p q' n e := by
  induction h with
  | fin h => intro q' _; exact .fin h
  | ptr h1 h2 h3 h4 h _ => intro q' hq; exact .ptr h1 h2 h3 (by omega) h
  | lab h1 h2 h3 h4 h5 _ ih => intro q' hq; exact .lab h1 h2 h3 h4 h5 (ih hq)
theorem getElem?_more {B C : List UInt8} {p : Nat} {y : UInt8} (h : B[p]? = some y) : (B ++ C)[p]? = some y := by
  have hl := (List.getElem?_eq_some_iff.1 h).1
  rw [List.getElem?_append_left hl, h]
theorem cutL_more {B C : List UInt8} {a k : Nat} (h : a + k ≤ B.length) : cutL (B ++ C) a k = cutL B a k := by
  unfold cutL
  rw [List.drop_append_of_le_length (by omega), List.take_append_of_le_length (by simp; omega)]
theorem AtN.more {B : List UInt8} {p q e : Nat} {n : List (List UInt8)} (C : List UInt8) (h : AtN B p q n e) : AtN (B ++ C) p q n e := by
  induction h with
  | fin h => exact .fin (getElem?_more h)
  | ptr h1 h2 h3 h4 _ ih => exact .ptr (getElem?_more h1) (getElem?_more h2) h3 h4 ih
  | lab h1 h2 h3 h4 h5 _ ih => exact .lab h1 h2 (getElem?_more h3) (by simp; omega) (by rw [cutL_more h4]; exact h5) ih

theorem nextR_nextR (x : Nat) {y e : Nat} (h : y ≠ 0) : nextR (nextR x y) e = nextR x y := by
  unfold nextR
  by_cases hx : x = 0
  · simp [hx, h]
  · simp [hx]
theorem szN_append (m n : List (List UInt8)) : szN (m ++ n) + 1 = szN m + szN n := by
  induction m with
  | nil => simp [szN]; omega
  | cons l m ih => simp only [List.cons_append, szN]; omega
theorem AtN.read {B : List UInt8} {p q e : Nat} {n : List (List UInt8)} (h : AtN B p q n e) : ∀ {x : Nat} {m : List (List UInt8)}, szN m + szN n ≤ 256 → getR B p q x m = (m ++ n, nextR x e, 0) := by
  induction h with
  | @fin p q h =>
    intro x m _
    obtain ⟨hl, hv⟩ := List.getElem?_eq_some_iff.1 h
    rw [getR_zero hl (by rw [hv]; rfl), List.append_nil]
  | @ptr p q e n y z h1 h2 h3 h4 _ ih =>
    intro x m hs
    obtain ⟨hl, hv⟩ := List.getElem?_eq_some_iff.1 h1
    obtain ⟨hl2, hv2⟩ := List.getElem?_eq_some_iff.1 h2
    rw [getR_ptr hl hl2 (by rw [hv]; exact h3) (by rw [hv, hv2]; exact h4), hv, hv2, ih hs, nextR_nextR x (by omega)]
  | @lab p q e n l h1 h2 h3 h4 h5 _ ih =>
    intro x m hs
    obtain ⟨hl, hv⟩ := List.getElem?_eq_some_iff.1 h3
    have hn : (B[p]).toNat = l.length := by rw [hv, UInt8.toNat_ofNat']; omega
    have hp := szN_pos n
    simp only [szN] at hs
    rw [getR_label hl (by omega) (by omega) (by omega) (by omega), hn, h5, ih (by rw [szN_snoc]; omega), List.append_assoc, List.singleton_append]

theorem toR_digs {k : Nat} (hk : k < 16384) : ∃ y z, digs (49152 + k) 2 = [y, z] ∧ 192 ≤ y.toNat ∧ toR y z = k := by
  refine ⟨UInt8.ofNat ((49152 + k) / 256), UInt8.ofNat (49152 + k), by simp [digs, List.range_succ], ?_, ?_⟩
  · rw [UInt8.toNat_ofNat']; omega
  · unfold toR; rw [UInt8.toNat_ofNat', UInt8.toNat_ofNat']; omega

theorem nameW_reads (short : Bool) : ∀ (n : List (List UInt8)) (B : List UInt8) (R : Rs) (p0 : Nat), n.all fitL = true → p0 ≤ B.length →
    (∀ r ∈ R, r.2 < 16384 ∧ (r.1.length ≤ n.length → r.2 < p0 ∧ ∃ e, AtN B r.2 r.2 r.1 e)) →
    (∃ S, (nameW short n B R).1 = B ++ S) ∧ AtN (nameW short n B R).1 B.length p0 n (nameW short n B R).1.length ∧
      ∀ r ∈ (nameW short n B R).2, r ∈ R ∨ (r.2 < 16384 ∧ r.2 < (nameW short n B R).1.length ∧ ∃ e, AtN (nameW short n B R).1 r.2 r.2 r.1 e)
  | [], B, R, p0, _, _, _ => by
    rw [nameW_nil]
    refine ⟨⟨[0], rfl⟩, ?_, fun r hr => .inl hr⟩
    have h := AtN.fin (B := B ++ [0]) (p := B.length) (q := p0) (by simp)
    simpa using h
  | l :: n, B, R, p0, hf, hp, hR => by
    simp only [List.all_cons, Bool.and_eq_true, fitL_iff] at hf
    have step : (∃ S, (nameW short n (B ++ UInt8.ofNat l.length :: l) (if B.length < 16384 then R ++ [(l :: n, B.length)] else R)).1 = B ++ S) ∧
        AtN (nameW short n (B ++ UInt8.ofNat l.length :: l) (if B.length < 16384 then R ++ [(l :: n, B.length)] else R)).1 B.length p0 (l :: n) (nameW short n (B ++ UInt8.ofNat l.length :: l) (if B.length < 16384 then R ++ [(l :: n, B.length)] else R)).1.length ∧
        ∀ r ∈ (nameW short n (B ++ UInt8.ofNat l.length :: l) (if B.length < 16384 then R ++ [(l :: n, B.length)] else R)).2, r ∈ R ∨ (r.2 < 16384 ∧ r.2 < (nameW short n (B ++ UInt8.ofNat l.length :: l) (if B.length < 16384 then R ++ [(l :: n, B.length)] else R)).1.length ∧
          ∃ e, AtN (nameW short n (B ++ UInt8.ofNat l.length :: l) (if B.length < 16384 then R ++ [(l :: n, B.length)] else R)).1 r.2 r.2 r.1 e) := by
      obtain ⟨R1, hR1⟩ : ∃ R1, R1 = if B.length < 16384 then R ++ [(l :: n, B.length)] else R := ⟨_, rfl⟩
      rw [← hR1]
      have hmem : ∀ r ∈ R1, r ∈ R ∨ (r = (l :: n, B.length) ∧ B.length < 16384) := by
        intro r hr
        rw [hR1] at hr
        split at hr
        · rename_i hb
          rcases List.mem_append.1 hr with h | h
          · exact .inl h
          · exact .inr ⟨List.mem_singleton.1 h, hb⟩
        · exact .inl hr
      obtain ⟨⟨S, hS⟩, hA, hM⟩ := nameW_reads short n (B ++ UInt8.ofNat l.length :: l) R1 p0 hf.2 (by simp; omega) (fun r hr => by
        rcases hmem r hr with h | ⟨h, hb⟩
        · refine ⟨(hR r h).1, fun hl => ?_⟩
          obtain ⟨h1, e, h2⟩ := (hR r h).2 (by simp; omega)
          exact ⟨h1, e, h2.more _⟩
        · refine ⟨by rw [h]; exact hb, fun hl => ?_⟩
          rw [h] at hl
          simp at hl
          omega)
      have hlab : AtN (nameW short n (B ++ UInt8.ofNat l.length :: l) R1).1 B.length p0 (l :: n) (nameW short n (B ++ UInt8.ofNat l.length :: l) R1).1.length := by
        refine .lab hf.1.1 hf.1.2 ?_ ?_ ?_ ?_
        · rw [hS]; simp
        · rw [hS]; simp; omega
        · rw [hS]; simp [cutL]
        · have e1 : B.length + 1 + l.length = (B ++ UInt8.ofNat l.length :: l).length := by simp; omega
          rw [e1]
          exact hA
      refine ⟨⟨UInt8.ofNat l.length :: l ++ S, by rw [hS]; simp⟩, hlab, fun r hr => ?_⟩
      rcases hM r hr with h | h
      · rcases hmem r h with h | ⟨h, hb⟩
        · exact .inl h
        · refine .inr ?_
          rw [h]
          exact ⟨hb, by rw [hS]; simp, _, hlab.mono hp⟩
      · exact .inr h
    cases hfi : findR R (l :: n) with
    | none => rw [nameW_miss hfi]; exact step
    | some k =>
      cases short with
      | false => rw [nameW_long]; exact step
      | true =>
        rw [nameW_hit hfi]
        obtain ⟨h16, h2⟩ := hR _ (findR_mem hfi)
        obtain ⟨hk, e, hA⟩ := h2 (Nat.le_refl _)
        obtain ⟨y, z, hd, hy, ht⟩ := toR_digs h16
        simp only at hd ht hk hA
        refine ⟨⟨_, rfl⟩, ?_, fun r hr => .inl hr⟩
        rw [hd]
        have h := AtN.ptr (B := B ++ [y, z]) (p := B.length) (q := p0) (n := l :: n) (e := e) (y := y) (z := z) (by simp) (by simp) hy (by rw [ht]; exact hk) (by rw [ht]; exact hA.more _)
        simpa using h

/-- What is kept of rests: each is read where it stands. -/
def GoodR (B : List UInt8) (R : Rs) : Prop := ∀ r ∈ R, r.2 < 16384 ∧ r.2 < B.length ∧ ∃ e, AtN B r.2 r.2 r.1 e
theorem GoodR.nil (B : List UInt8) : GoodR B [] := fun _ hr => absurd hr (List.not_mem_nil)
theorem GoodR.more {B : List UInt8} {R : Rs} (h : GoodR B R) (C : List UInt8) : GoodR (B ++ C) R := fun r hr => by
  obtain ⟨h1, h2, e, h3⟩ := h r hr
  exact ⟨h1, by simp; omega, e, h3.more C⟩
theorem nameW_good {short : Bool} {n : List (List UInt8)} {B : List UInt8} {R : Rs} (hf : n.all fitL = true) (h : GoodR B R) :
    (∃ S, (nameW short n B R).1 = B ++ S) ∧ AtN (nameW short n B R).1 B.length B.length n (nameW short n B R).1.length ∧ GoodR (nameW short n B R).1 (nameW short n B R).2 := by
  obtain ⟨⟨S, hS⟩, h2, h3⟩ := nameW_reads short n B R B.length hf (Nat.le_refl _) fun r hr => by
    obtain ⟨a, b, e, c⟩ := h r hr
    exact ⟨a, fun _ => ⟨b, e, c⟩⟩
  refine ⟨⟨S, hS⟩, h2, fun r hr => ?_⟩
  rcases h3 r hr with h4 | h4
  · have h5 := h.more S
    rw [← hS] at h5
    exact h5 r h4
  · exact h4

theorem length_nameW_long : ∀ (n : List (List UInt8)) (B : List UInt8) (R : Rs), (nameW false n B R).1.length = B.length + szN n
  | [], B, R => by simp [nameW_nil, szN]
  | l :: n, B, R => by
    rw [nameW_long, length_nameW_long n]
    simp [szN]
    omega
theorem length_nameW_le (short : Bool) : ∀ (n : List (List UInt8)) (B : List UInt8) (R : Rs), n.all fitL = true → (nameW short n B R).1.length ≤ B.length + szN n
  | [], B, R, _ => by simp [nameW_nil, szN]
  | l :: n, B, R, hf => by
    simp only [List.all_cons, Bool.and_eq_true, fitL_iff] at hf
    have ih := length_nameW_le short n (B ++ UInt8.ofNat l.length :: l) (if B.length < 16384 then R ++ [(l :: n, B.length)] else R) hf.2
    simp only [List.length_append, List.length_cons] at ih
    have hp := szN_pos n
    cases hfi : findR R (l :: n) with
    | none => rw [nameW_miss hfi]; simp only [szN]; omega
    | some k =>
      cases short with
      | false => rw [nameW_long]; simp only [szN]; omega
      | true => rw [nameW_hit hfi]; simp only [szN, List.length_append, length_digs]; omega

theorem length_nameW_rests (short : Bool) : ∀ (n : List (List UInt8)) (B : List UInt8) (R : Rs), (nameW short n B R).2.length ≤ R.length + n.length
  | [], B, R => by simp [nameW_nil]
  | l :: n, B, R => by
    have ih := length_nameW_rests short n (B ++ UInt8.ofNat l.length :: l) (if B.length < 16384 then R ++ [(l :: n, B.length)] else R)
    have hi : (if B.length < 16384 then R ++ [(l :: n, B.length)] else R).length ≤ R.length + 1 := by split <;> simp
    cases hfi : findR R (l :: n) with
    | none => rw [nameW_miss hfi]; simp only [List.length_cons]; omega
    | some k =>
      cases short with
      | false => rw [nameW_long]; simp only [List.length_cons]; omega
      | true => rw [nameW_hit hfi]; simp only [List.length_cons]; omega

end Go.Proofs.Ytjjmllbkfbdcnaa
