/-
  Plain mathematics of names: small letters, sizes, soundness. No program is imported.
-/
import Derived.WalkKit
import Derived.Lib.Bytealg
import Derived.Test.YtjjmllbkfbdcnaaPlain
import Derived.Test.YtjjmllbkfbdcnaaWords
namespace Go.Proofs.Ytjjmllbkfbdcnaa
open Go.RowKit

/-- A small letter for a capital one. -/
def lowB (c : UInt8) : UInt8 := if 65 ≤ c.toNat ∧ c.toNat ≤ 90 then c + 32 else c
def lowL (l : List UInt8) : List UInt8 := l.map lowB
def lowN (n : List (List UInt8)) : List (List UInt8) := n.map lowL
theorem lowB_up {c : UInt8} (h1 : 65 ≤ c.toNat) (h2 : c.toNat ≤ 90) : (lowB c).toNat = c.toNat + 32 := by
  unfold lowB
  rw [if_pos ⟨h1, h2⟩, UInt8.toNat_add]
  simp
  omega
theorem lowB_no {c : UInt8} (h : ¬ (65 ≤ c.toNat ∧ c.toNat ≤ 90)) : lowB c = c := by
  unfold lowB
  rw [if_neg h]
theorem lowB_lowB (c : UInt8) : lowB (lowB c) = lowB c := by
  by_cases h : 65 ≤ c.toNat ∧ c.toNat ≤ 90
  · exact lowB_no (by rw [lowB_up h.1 h.2]; omega)
  · rw [lowB_no h, lowB_no h]
theorem lowL_lowL (l : List UInt8) : lowL (lowL l) = lowL l := by
  unfold lowL
  rw [List.map_map]
  exact List.map_congr_left fun c _ => lowB_lowB c
theorem lowN_lowN (n : List (List UInt8)) : lowN (lowN n) = lowN n := by
  unfold lowN
  rw [List.map_map]
  exact List.map_congr_left fun c _ => lowL_lowL c
theorem length_lowL (l : List UInt8) : (lowL l).length = l.length := by simp [lowL]
theorem length_lowN (n : List (List UInt8)) : (lowN n).length = n.length := by simp [lowN]

/-- The bytes l, the first k of them small, as cells; Z behind. -/
def lowUpto (l : List UInt8) (k : Nat) (Z : List Value) : List Value := ((l.take k).map lowB ++ l.drop k).map bc ++ Z
theorem lowUpto_zero (l : List UInt8) (Z : List Value) : lowUpto l 0 Z = l.map bc ++ Z := by simp [lowUpto]
theorem lowUpto_at {l : List UInt8} {k : Nat} (Z : List Value) (h : k < l.length) : (lowUpto l k Z)[k]? = some (bc l[k]) := by
  have h1 : k ≤ l.length := Nat.le_of_lt h
  simp [lowUpto, List.getElem?_append, h, Nat.min_eq_left h1]
  omega
theorem length_lowUpto (l : List UInt8) (k : Nat) (Z : List Value) : (lowUpto l k Z).length = l.length + Z.length := by
  simp [lowUpto]; omega
theorem lowUpto_succ {l : List UInt8} {k : Nat} (Z : List Value) (h : k < l.length) : lowUpto l (k + 1) Z = (lowUpto l k Z).set k (bc (lowB l[k])) := by
  apply List.ext_getElem?
  intro i
  have h1 : k ≤ l.length := Nat.le_of_lt h
  have h2 : k + 1 ≤ l.length := h
  rw [List.getElem?_set]
  simp only [lowUpto, List.getElem?_append, List.length_map, List.length_append, List.length_take, List.length_drop, List.getElem?_map, List.getElem?_take, List.getElem?_drop, Nat.min_eq_left h1, Nat.min_eq_left h2]
  by_cases hi : k = i
  · subst hi
    rw [if_pos (by omega), if_pos (by omega), if_pos (by omega), if_pos rfl, if_pos (by omega)]
    simp [h]
  · rw [if_neg hi]
    by_cases hlt : i < k
    · rw [if_pos (by omega), if_pos (by omega), if_pos (by omega), if_pos (by omega), if_pos (by omega), if_pos (by omega)]
    · by_cases hl : i < l.length
      · rw [if_pos (by omega), if_neg (by omega), if_pos (by omega), if_neg (by omega)]
        congr 1
        rw [show k + 1 + (i - (k + 1)) = i from by omega, show k + (i - k) = i from by omega]
      · rw [if_neg (by omega), if_neg (by omega)]
        congr 1
        omega
theorem lowUpto_same {l : List UInt8} {k : Nat} (Z : List Value) (h : k < l.length) (e : lowB l[k] = l[k]) : lowUpto l (k + 1) Z = lowUpto l k Z := by
  rw [lowUpto_succ Z h, e]
  apply List.ext_getElem?
  intro i
  rw [List.getElem?_set]
  split
  · rename_i hi
    subst hi
    rw [lowUpto_at Z h, if_pos (by rw [length_lowUpto]; omega)]
  · rfl
theorem lowUpto_all (l : List UInt8) (Z : List Value) : (lowUpto l l.length Z).take l.length = (lowL l).map bc := by
  simp [lowUpto, lowL]

/-- How many bytes a name takes. -/
def szN : List (List UInt8) → Nat
  | [] => 1
  | l :: n => l.length + 1 + szN n
theorem szN_snoc (n : List (List UInt8)) (l : List UInt8) : szN (n ++ [l]) = szN n + (l.length + 1) := by
  induction n with
  | nil => simp [szN]; omega
  | cons x n ih => simp [szN, ih]; omega
theorem szN_le (B : Nat) : ∀ (n : List (List UInt8)), (∀ l ∈ n, l.length ≤ B) → szN n ≤ n.length * (B + 1) + 1
  | [], _ => by simp [szN]
  | l :: n, h => by
    have h1 := szN_le B n fun x hx => h x (List.mem_cons_of_mem _ hx)
    have h2 := h l (List.mem_cons_self ..)
    simp only [szN, List.length_cons, Nat.add_mul, Nat.one_mul]
    omega
theorem szN_take_succ {n : List (List UInt8)} {k : Nat} (h : k < n.length) : szN (n.take (k + 1)) = szN (n.take k) + ((n[k]).length + 1) := by
  rw [List.take_succ_eq_append_getElem h, szN_snoc]
theorem szN_take_le (n : List (List UInt8)) (k : Nat) : szN (n.take k) ≤ szN n := by
  induction n generalizing k with
  | nil => simp
  | cons x n ih =>
    cases k with
    | zero => simp [szN]; omega
    | succ k => simp only [List.take_succ_cons, szN]; have := ih k; omega
theorem szN_pos (n : List (List UInt8)) : 1 ≤ szN n := by
  cases n <;> simp [szN]; omega
theorem len_le_szN {n : List (List UInt8)} {k : Nat} (h : k < n.length) : (n[k]).length + 1 < szN n := by
  have h1 := szN_take_succ h
  have h2 := szN_take_le n (k + 1)
  have h3 := szN_pos (n.take k)
  omega
theorem length_lt_szN (n : List (List UInt8)) : n.length < szN n := by
  induction n with
  | nil => simp [szN]
  | cons x n ih => simp only [List.length_cons, szN]; omega
/-- May a label be? -/
def fitL (l : List UInt8) : Bool := decide (1 ≤ l.length ∧ l.length ≤ 63)
/-- May a name be? -/
def soundN (n : List (List UInt8)) : Bool := n.all fitL && decide (szN n ≤ 255)
theorem szN_ge : ∀ (n : List (List UInt8)), n.all fitL = true → 2 * n.length + 1 ≤ szN n
  | [], _ => by simp [szN]
  | l :: n, h => by
    simp only [List.all_cons, Bool.and_eq_true] at h
    have h1 := szN_ge n h.2
    have h2 : 1 ≤ l.length := by have := h.1; simp [fitL] at this; omega
    simp only [szN, List.length_cons]
    omega
theorem soundN_long {n : List (List UInt8)} (h : 127 < n.length) : soundN n = false := by
  cases ha : n.all fitL
  · simp [soundN, ha]
  · have := szN_ge n ha
    simp [soundN]
    intro _
    omega

/-- Is a name not too large for a statement? -/
def lightN (n : List (List UInt8)) : Bool := n.all (fun l => decide (l.length ≤ 3000)) && decide (n.length ≤ 600) && decide (szN n < n.length + 20001)
theorem lightN_sz {n : List (List UInt8)} (h : lightN n = true) : szN n ≤ 20600 ∧ n.length ≤ 600 := by
  simp only [lightN, Bool.and_eq_true, decide_eq_true_eq] at h
  omega
theorem lightN_len {n : List (List UInt8)} (h : lightN n = true) {k : Nat} (hk : k < n.length) : (n[k]).length ≤ 3000 := by
  simp only [lightN, Bool.and_eq_true, decide_eq_true_eq, List.all_eq_true] at h
  exact h.1.1 _ (List.getElem_mem hk)

end Go.Proofs.Ytjjmllbkfbdcnaa
