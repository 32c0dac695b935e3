/-
  Plain mathematics of names' texts.
-/
import Derived.Test.YtiegneopolffoaaNames
namespace Go.Proofs.Ytiegneopolffoaa
open Go.RowKit

/-- The digits of a byte's three. -/
def dgH (c : UInt8) : UInt8 := UInt8.ofNat (48 + c.toNat / 100)
def dgT (c : UInt8) : UInt8 := UInt8.ofNat (48 + c.toNat / 10 % 10)
def dgO (c : UInt8) : UInt8 := UInt8.ofNat (48 + c.toNat % 10)
theorem dgH_nat (c : UInt8) : (dgH c).toNat = 48 + c.toNat / 100 := by
  have := c.toNat_lt
  unfold dgH; rw [UInt8.toNat_ofNat']; omega
theorem dgT_nat (c : UInt8) : (dgT c).toNat = 48 + c.toNat / 10 % 10 := by
  have := c.toNat_lt
  unfold dgT; rw [UInt8.toNat_ofNat']; omega
theorem dgO_nat (c : UInt8) : (dgO c).toNat = 48 + c.toNat % 10 := by
  have := c.toNat_lt
  unfold dgO; rw [UInt8.toNat_ofNat']; omega
theorem dgH_int (c : UInt8) : 48 + (c.toNat : Int) / 100 = ((dgH c).toNat : Int) := by rw [dgH_nat]; omega
theorem dgT_int (c : UInt8) : 48 + (c.toNat : Int) / 10 % 10 = ((dgT c).toNat : Int) := by rw [dgT_nat]; omega
theorem dgO_int (c : UInt8) : 48 + (c.toNat : Int) % 10 = ((dgO c).toNat : Int) := by rw [dgO_nat]; omega

/-- Does a byte stand as it is? -/
def plainC (c : UInt8) : Bool := decide (33 ≤ c.toNat ∧ c.toNat ≤ 126)
theorem plainC_yes {c : UInt8} (h : 33 ≤ c.toNat ∧ c.toNat ≤ 126) : plainC c = true := by simp [plainC, h]
theorem plainC_no {c : UInt8} (h : ¬ (33 ≤ c.toNat ∧ c.toNat ≤ 126)) : plainC c = false := by simp only [plainC, decide_eq_false_iff_not]; exact h
/-- A byte of a label as text. -/
def textC (c : UInt8) : List UInt8 :=
  if c.toNat = 46 ∨ c.toNat = 92 then [92, c] else if 33 ≤ c.toNat ∧ c.toNat ≤ 126 then [c] else [92, dgH c, dgT c, dgO c]
def textL (l : List UInt8) : List UInt8 := l.flatMap textC
def textN (n : List (List UInt8)) : List UInt8 := n.flatMap fun l => textL l ++ [46]
/-- A name's text. -/
def textA (n : List (List UInt8)) : List UInt8 := if n = [] then [46] else textN n
theorem textC_esc {c : UInt8} (h : c.toNat = 46 ∨ c.toNat = 92) : textC c = [92, c] := by unfold textC; rw [if_pos h]
theorem textC_as {c : UInt8} (h0 : ¬ (c.toNat = 46 ∨ c.toNat = 92)) (h : 33 ≤ c.toNat ∧ c.toNat ≤ 126) : textC c = [c] := by unfold textC; rw [if_neg h0, if_pos h]
theorem textC_num {c : UInt8} (h : ¬ (33 ≤ c.toNat ∧ c.toNat ≤ 126)) : textC c = [92, dgH c, dgT c, dgO c] := by
  unfold textC; rw [if_neg (by omega), if_neg h]
theorem length_textC (c : UInt8) : (textC c).length ≤ 4 := by
  unfold textC
  split
  · simp
  · split <;> simp
theorem length_textL (l : List UInt8) : (textL l).length ≤ 4 * l.length := by
  induction l with
  | nil => simp [textL]
  | cons c l ih =>
    have := length_textC c
    simp only [textL, List.flatMap_cons, List.length_append, List.length_cons] at ih ⊢
    omega
theorem length_textN (n : List (List UInt8)) : (textN n).length ≤ 4 * szN n := by
  induction n with
  | nil => simp [textN]
  | cons l n ih =>
    have := length_textL l
    simp only [textN, List.flatMap_cons, List.length_append, List.length_cons, szN, List.length_nil] at ih ⊢
    omega
theorem textL_snoc {l : List UInt8} {k : Nat} (h : k < l.length) : textL (l.take (k + 1)) = textL (l.take k) ++ textC l[k] := by
  unfold textL
  rw [List.take_succ_eq_append_getElem h, List.flatMap_append, List.flatMap_cons, List.flatMap_nil, List.append_nil]
theorem textN_snoc {n : List (List UInt8)} {k : Nat} (h : k < n.length) : textN (n.take (k + 1)) = textN (n.take k) ++ textL n[k] ++ [46] := by
  unfold textN
  rw [List.take_succ_eq_append_getElem h, List.flatMap_append, List.flatMap_cons, List.flatMap_nil, List.append_nil, List.append_assoc]
theorem textL_take_le (l : List UInt8) (k : Nat) : (textL (l.take k)).length ≤ 4 * l.length := by
  have := length_textL (l.take k)
  have h : (l.take k).length ≤ l.length := List.length_take_le' k l
  omega
theorem textN_take_le (n : List (List UInt8)) (k : Nat) : (textN (n.take k)).length ≤ 4 * szN n := by
  have := length_textN (n.take k)
  have h := szN_take_le n k
  omega
theorem textN_ne {n : List (List UInt8)} (h : n ≠ []) : textN n ≠ [] := by
  cases n with
  | nil => exact absurd rfl h
  | cons l n => simp [textN]

end Go.Proofs.Ytiegneopolffoaa
