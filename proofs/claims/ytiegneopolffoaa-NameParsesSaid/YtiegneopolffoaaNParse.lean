/-
  Plain mathematics of names' texts, read back.
-/
import Derived.Test.YtiegneopolffoaaNText
namespace Go.Proofs.Ytiegneopolffoaa
open Go.RowKit

def digB (c : UInt8) : Bool := decide (48 ≤ c.toNat ∧ c.toNat ≤ 57)
theorem digB_yes {c : UInt8} (h : 48 ≤ c.toNat ∧ c.toNat ≤ 57) : digB c = true := by simp [digB, h]
theorem digB_no {c : UInt8} (h : ¬ (48 ≤ c.toNat ∧ c.toNat ≤ 57)) : digB c = false := by simp only [digB, decide_eq_false_iff_not]; exact h
/-- The number of three digits. -/
def numC (a b c : UInt8) : Nat := (a.toNat - 48) * 100 + (b.toNat - 48) * 10 + (c.toNat - 48)
/-- What three digits tell. -/
def readN : List UInt8 → Option UInt8
  | d :: e :: f :: _ => if digB d = true ∧ digB e = true ∧ digB f = true ∧ numC d e f ≤ 255 then some (UInt8.ofNat (numC d e f)) else none
  | _ => none
/-- The byte that a text begins with, and how many bytes tell it. -/
def readC : List UInt8 → Option (UInt8 × Nat)
  | [] => none
  | c :: t =>
    if c.toNat = 92 then
      match t with
      | [] => none
      | d :: t' => if digB d = true then (readN (d :: t')).map fun b => (b, 4) else some (d, 2)
    else if plainC c = true then some (c, 1) else none
theorem readN_len {t : List UInt8} {b : UInt8} (h : readN t = some b) : 3 ≤ t.length := by
  match t, h with
  | [], h => simp [readN] at h
  | [_], h => simp [readN] at h
  | [_, _], h => simp [readN] at h
  | _ :: _ :: _ :: _, _ => simp
theorem readC_pos {s : List UInt8} {b : UInt8} {k : Nat} (h : readC s = some (b, k)) : 1 ≤ k ∧ k ≤ s.length := by
  match s, h with
  | [], h => simp [readC] at h
  | c :: t, h =>
    rw [readC.eq_def] at h
    simp only at h
    split at h
    · match t, h with
      | [], h => simp at h
      | d :: t', h =>
        simp only at h
        split at h
        · rw [Option.map_eq_some_iff] at h
          obtain ⟨b', h1, h2⟩ := h
          have := readN_len h1
          simp only [Prod.mk.injEq] at h2
          simp at this ⊢
          omega
        · simp only [Option.some.injEq, Prod.mk.injEq] at h
          simp
          omega
    · split at h
      · simp only [Option.some.injEq, Prod.mk.injEq] at h
        simp
        omega
      · simp at h

/-- The label that a text begins with, behind acc, and what is behind its point. -/
def cutFrom (acc cur : List UInt8) : Option (List UInt8 × List UInt8) :=
  match cur with
  | [] => some (acc, [])
  | c :: t =>
    if c.toNat = 46 then some (acc, t) else
    match _h : readC (c :: t) with
    | none => none
    | some (b, k) => cutFrom (acc ++ [b]) ((c :: t).drop k)
termination_by cur.length
decreasing_by
  have := readC_pos ‹_›
  rw [List.length_drop]
  simp at this ⊢
  omega
theorem cutFrom_nil (acc : List UInt8) : cutFrom acc [] = some (acc, []) := by rw [cutFrom]
theorem cutFrom_dot {c : UInt8} (acc t : List UInt8) (h : c.toNat = 46) : cutFrom acc (c :: t) = some (acc, t) := by rw [cutFrom, if_pos h]
theorem cutFrom_none {c : UInt8} (acc t : List UInt8) (h : ¬ c.toNat = 46) (hr : readC (c :: t) = none) : cutFrom acc (c :: t) = none := by
  rw [cutFrom, if_neg h]
  split
  · rfl
  · rename_i h2; rw [hr] at h2; cases h2
theorem cutFrom_some {c : UInt8} (acc t : List UInt8) {b : UInt8} {k : Nat} (h : ¬ c.toNat = 46) (hr : readC (c :: t) = some (b, k)) : cutFrom acc (c :: t) = cutFrom (acc ++ [b]) ((c :: t).drop k) := by
  rw [cutFrom, if_neg h]
  split
  · rename_i h2; rw [hr] at h2; cases h2
  · rename_i b' k' h2
    rw [hr] at h2
    injection h2 with h2
    injection h2 with h3 h4
    subst h3; subst h4
    rfl
theorem cutFrom_rest : ∀ (n : Nat) (acc cur l rest : List UInt8), cur.length = n → cutFrom acc cur = some (l, rest) → cur ≠ [] → rest.length < cur.length := by
  intro n
  induction n using Nat.strongRecOn with
  | _ n ih =>
    intro acc cur l rest hn h hne
    match cur, hne with
    | c :: t, _ =>
      by_cases hd : c.toNat = 46
      · rw [cutFrom_dot acc t hd] at h
        injection h with h
        injection h with _ h
        subst h
        simp
      · cases hr : readC (c :: t) with
        | none => rw [cutFrom_none acc t hd hr] at h; cases h
        | some x =>
          obtain ⟨b, k⟩ := x
          rw [cutFrom_some acc t hd hr] at h
          have hk := readC_pos hr
          by_cases he : (c :: t).drop k = []
          · rw [he, cutFrom_nil] at h
            injection h with h
            injection h with _ h
            subst h
            simp
          · have h1 : ((c :: t).drop k).length < n := by rw [List.length_drop]; omega
            have h2 := ih _ h1 _ _ l rest rfl h he
            rw [List.length_drop] at h2
            omega

theorem cutFrom_len : ∀ (n : Nat) (acc cur l rest : List UInt8), cur.length = n → cutFrom acc cur = some (l, rest) → l.length + rest.length ≤ acc.length + cur.length := by
  intro n
  induction n using Nat.strongRecOn with
  | _ n ih =>
    intro acc cur l rest hn h
    match cur with
    | [] =>
      rw [cutFrom_nil] at h
      injection h with h
      injection h with h1 h2
      subst h1; subst h2
      simp
    | c :: t =>
      by_cases hd : c.toNat = 46
      · rw [cutFrom_dot acc t hd] at h
        injection h with h
        injection h with h1 h2
        subst h1; subst h2
        simp
      · cases hr : readC (c :: t) with
        | none => rw [cutFrom_none acc t hd hr] at h; cases h
        | some x =>
          obtain ⟨b, k⟩ := x
          rw [cutFrom_some acc t hd hr] at h
          have hk := readC_pos hr
          have h2 := ih _ (by rw [List.length_drop]; omega) _ _ l rest rfl h
          rw [List.length_drop, List.length_append] at h2
          simp only [List.length_cons, List.length_nil] at h2 hk ⊢
          omega

/-- The labels that a text tells, behind out and the beginning of a label. -/
def tot (out : List (List UInt8)) (lab cur : List UInt8) : Option (List (List UInt8)) :=
  match cur with
  | [] => some (out ++ [lab])
  | c :: t =>
    if c.toNat = 46 then (if t = [] then some (out ++ [lab]) else tot (out ++ [lab]) [] t) else
    match _h : readC (c :: t) with
    | none => none
    | some (b, k) => tot out (lab ++ [b]) ((c :: t).drop k)
termination_by cur.length
decreasing_by
  · simp
  · have := readC_pos ‹_›
    rw [List.length_drop]
    simp at this ⊢
    omega
theorem tot_nil (out : List (List UInt8)) (lab : List UInt8) : tot out lab [] = some (out ++ [lab]) := by rw [tot]
theorem tot_dot {c : UInt8} (out : List (List UInt8)) (lab t : List UInt8) (h : c.toNat = 46) (ht : t ≠ []) : tot out lab (c :: t) = tot (out ++ [lab]) [] t := by rw [tot, if_pos h, if_neg ht]
theorem tot_end {c : UInt8} (out : List (List UInt8)) (lab : List UInt8) (h : c.toNat = 46) : tot out lab [c] = some (out ++ [lab]) := by rw [tot, if_pos h, if_pos rfl]
theorem tot_none {c : UInt8} (out : List (List UInt8)) (lab t : List UInt8) (h : ¬ c.toNat = 46) (hr : readC (c :: t) = none) : tot out lab (c :: t) = none := by
  rw [tot, if_neg h]
  split
  · rfl
  · rename_i h2; rw [hr] at h2; cases h2
theorem tot_some {c : UInt8} (out : List (List UInt8)) (lab t : List UInt8) {b : UInt8} {k : Nat} (h : ¬ c.toNat = 46) (hr : readC (c :: t) = some (b, k)) : tot out lab (c :: t) = tot out (lab ++ [b]) ((c :: t).drop k) := by
  rw [tot, if_neg h]
  split
  · rename_i h2; rw [hr] at h2; cases h2
  · rename_i b' k' h2
    rw [hr] at h2
    injection h2 with h2
    injection h2 with h3 h4
    subst h3; subst h4
    rfl
theorem tot_cut : ∀ (n : Nat) (out : List (List UInt8)) (lab cur : List UInt8), cur.length = n →
    tot out lab cur = match cutFrom lab cur with | none => none | some (l, rest) => if rest = [] then some (out ++ [l]) else tot (out ++ [l]) [] rest := by
  intro n
  induction n using Nat.strongRecOn with
  | _ n ih =>
    intro out lab cur hn
    match cur with
    | [] => rw [cutFrom_nil, tot_nil]; rfl
    | c :: t =>
      by_cases hd : c.toNat = 46
      · rw [cutFrom_dot lab t hd]
        by_cases ht : t = []
        · subst ht; rw [tot_end out lab hd]; rfl
        · rw [tot_dot out lab t hd ht]; simp [ht]
      · cases hr : readC (c :: t) with
        | none => rw [cutFrom_none lab t hd hr, tot_none out lab t hd hr]
        | some x =>
          obtain ⟨b, k⟩ := x
          rw [cutFrom_some lab t hd hr, tot_some out lab t hd hr]
          have hk := readC_pos hr
          exact ih _ (by rw [List.length_drop]; omega) out (lab ++ [b]) _ rfl

theorem szN_append (a b : List (List UInt8)) : szN (a ++ b) + 1 = szN a + szN b := by
  induction a with
  | nil => simp [szN]; omega
  | cons x a ih => simp only [List.cons_append, szN]; omega
theorem soundN_prefix {a b : List (List UInt8)} (h : soundN (a ++ b) = true) : soundN a = true := by
  simp only [soundN, Bool.and_eq_true, decide_eq_true_eq, List.all_append] at h ⊢
  have := szN_append a b
  have := szN_pos b
  exact ⟨h.1.1, by omega⟩
theorem tot_prefix : ∀ (n : Nat) (out : List (List UInt8)) (lab cur : List UInt8) (m : List (List UInt8)), cur.length = n → tot out lab cur = some m → ∃ y, m = out ++ y := by
  intro n
  induction n using Nat.strongRecOn with
  | _ n ih =>
    intro out lab cur m hn h
    match cur with
    | [] =>
      rw [tot_nil] at h
      injection h with h
      exact ⟨_, h.symm⟩
    | c :: t =>
      by_cases hd : c.toNat = 46
      · by_cases ht : t = []
        · subst ht
          rw [tot_end out lab hd] at h
          injection h with h
          exact ⟨_, h.symm⟩
        · rw [tot_dot out lab t hd ht] at h
          obtain ⟨y, hy⟩ := ih t.length (by simp at hn; omega) _ _ t m rfl h
          exact ⟨[lab] ++ y, by rw [hy, List.append_assoc]⟩
      · cases hr : readC (c :: t) with
        | none => rw [tot_none out lab t hd hr] at h; cases h
        | some x =>
          obtain ⟨b, k⟩ := x
          rw [tot_some out lab t hd hr] at h
          have hk := readC_pos hr
          exact ih _ (by rw [List.length_drop]; omega) _ _ _ m rfl h

/-- A name, if it is sound. -/
def chk (x : Option (List (List UInt8))) : Option (List (List UInt8)) := match x with
  | some n => if soundN n = true then some n else none
  | none => none
/-- The name that a text tells. -/
def parseN (s : List UInt8) : Option (List (List UInt8)) :=
  if s = [46] then some [] else chk (tot [] [] s)

/-- What is left to tell of a text, behind the labels out. -/
def pcont (out : List (List UInt8)) (cur : List UInt8) : Option (List (List UInt8)) :=
  if cur = [] then (if out = [] then none else chk (some out)) else chk (tot out [] cur)
theorem pcont_start {s : List UInt8} (h : ¬ s = [46]) : parseN s = pcont [] s := by
  unfold parseN pcont
  rw [if_neg h]
  by_cases hs : s = []
  · subst hs
    rw [if_pos rfl, if_pos rfl, tot_nil]
    rfl
  · rw [if_neg hs]
theorem pcont_none {out : List (List UInt8)} {cur : List UInt8} (h : cur ≠ []) (hc : cutFrom [] cur = none) : pcont out cur = none := by
  unfold pcont
  rw [if_neg h, tot_cut _ out [] cur rfl, hc]
  rfl
theorem pcont_step {out : List (List UInt8)} {cur l rest : List UInt8} (h : cur ≠ []) (hc : cutFrom [] cur = some (l, rest)) : pcont out cur = pcont (out ++ [l]) rest := by
  unfold pcont
  rw [if_neg h, tot_cut _ out [] cur rfl, hc]
  by_cases hr : rest = []
  · simp [hr]
  · simp [hr]
theorem pcont_bad {out : List (List UInt8)} {cur : List UInt8} (h : soundN out = false) : pcont out cur = none := by
  unfold pcont
  split
  · split
    · rfl
    · simp [chk, h]
  · cases ht : tot out [] cur with
    | none => rfl
    | some m =>
      obtain ⟨y, hy⟩ := tot_prefix _ out [] cur m rfl ht
      cases hs : soundN m
      · simp [chk, hs]
      · rw [hy] at hs
        rw [soundN_prefix hs] at h
        cases h
theorem pcont_end {out : List (List UInt8)} (h : out ≠ []) (hs : soundN out = true) : pcont out [] = some out := by
  unfold pcont
  rw [if_pos rfl, if_neg h]
  simp [chk, hs]

end Go.Proofs.Ytiegneopolffoaa
