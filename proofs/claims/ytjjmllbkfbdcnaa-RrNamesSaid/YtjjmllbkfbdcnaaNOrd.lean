/-
  Plain mathematics of orders: lists by their elements, bytes, labels, names.
-/
import Derived.Test.YtjjmllbkfbdcnaaNames
import Derived.Lib.Small
namespace Go.Proofs.Ytjjmllbkfbdcnaa

/-- One list and another, element by element; one that begins the other is less. -/
def lexC {α : Type} (c : α → α → Int) : List α → List α → Int
  | [], [] => 0
  | [], _ :: _ => -1
  | _ :: _, [] => 1
  | x :: xs, y :: ys => if c x y = 0 then lexC c xs ys else c x y

structure Tot {α : Type} (c : α → α → Int) : Prop where
  anti : ∀ x y, c y x = - c x y
  same : ∀ x, c x x = 0
  eq_ : ∀ x y, c x y = 0 → x = y
  trans : ∀ x y z, c x y ≤ 0 → c y z ≤ 0 → c x z ≤ 0
  rng : ∀ x y, c x y = -1 ∨ c x y = 0 ∨ c x y = 1

section
variable {α : Type} {c : α → α → Int}
theorem lexC_self (h : Tot c) : ∀ xs, lexC c xs xs = 0
  | [] => rfl
  | x :: xs => by rw [lexC, if_pos (h.same x), lexC_self h xs]
theorem lexC_anti (h : Tot c) : ∀ xs ys, lexC c ys xs = - lexC c xs ys
  | [], [] => rfl
  | [], _ :: _ => rfl
  | _ :: _, [] => rfl
  | x :: xs, y :: ys => by
    rw [lexC, lexC, h.anti x y]
    by_cases e : c x y = 0
    · rw [if_pos (by omega), if_pos e, lexC_anti h xs ys]
    · rw [if_neg (by omega), if_neg e]
theorem lexC_eq (h : Tot c) : ∀ xs ys, lexC c xs ys = 0 → xs = ys
  | [], [], _ => rfl
  | [], _ :: _, e => by simp [lexC] at e
  | _ :: _, [], e => by simp [lexC] at e
  | x :: xs, y :: ys, e => by
    rw [lexC] at e
    by_cases e1 : c x y = 0
    · rw [if_pos e1] at e
      rw [h.eq_ x y e1, lexC_eq h xs ys e]
    · rw [if_neg e1] at e
      exact absurd e e1
theorem lexC_rng (h : Tot c) : ∀ xs ys, lexC c xs ys = -1 ∨ lexC c xs ys = 0 ∨ lexC c xs ys = 1
  | [], [] => .inr (.inl rfl)
  | [], _ :: _ => .inl rfl
  | _ :: _, [] => .inr (.inr rfl)
  | x :: xs, y :: ys => by
    rw [lexC]
    split
    · exact lexC_rng h xs ys
    · exact h.rng x y
theorem lexC_trans (h : Tot c) : ∀ xs ys zs, lexC c xs ys ≤ 0 → lexC c ys zs ≤ 0 → lexC c xs zs ≤ 0
  | [], _, [], _, _ => by simp [lexC]
  | [], _, _ :: _, _, _ => by simp [lexC]
  | _ :: _, [], _, h1, _ => by simp [lexC] at h1
  | _ :: _, _ :: _, [], _, h2 => by simp [lexC] at h2
  | x :: xs, y :: ys, z :: zs, h1, h2 => by
    rw [lexC] at h1 h2 ⊢
    by_cases e1 : c x y = 0
    · have exy := h.eq_ x y e1
      subst exy
      rw [if_pos e1] at h1
      by_cases e2 : c x z = 0
      · rw [if_pos e2] at h2 ⊢
        exact lexC_trans h xs ys zs h1 h2
      · rw [if_neg e2] at h2 ⊢
        exact h2
    · rw [if_neg e1] at h1
      by_cases e2 : c y z = 0
      · have eyz := h.eq_ y z e2
        subst eyz
        rw [if_neg e1]
        exact h1
      · rw [if_neg e2] at h2
        have h3 := h.trans x y z h1 h2
        by_cases e3 : c x z = 0
        · exfalso
          have exz := h.eq_ x z e3
          subst exz
          have := h.anti x y
          omega
        · rw [if_neg e3]; exact h3
theorem lexC_tot (h : Tot c) : Tot (lexC c) := ⟨lexC_anti h, lexC_self h, lexC_eq h, lexC_trans h, lexC_rng h⟩
/-- Behind a common beginning. -/
theorem lexC_drop (h : Tot c) : ∀ (k : Nat) (xs ys : List α), xs.take k = ys.take k → k ≤ xs.length → k ≤ ys.length → lexC c xs ys = lexC c (xs.drop k) (ys.drop k)
  | 0, _, _, _, _, _ => rfl
  | k + 1, [], _, _, h1, _ => by simp at h1
  | k + 1, _ :: _, [], _, _, h2 => by simp at h2
  | k + 1, x :: xs, y :: ys, e, h1, h2 => by
    simp only [List.take_succ_cons, List.cons.injEq] at e
    obtain ⟨rfl, e⟩ := e
    rw [lexC, if_pos (h.same x), List.drop_succ_cons, List.drop_succ_cons]
    exact lexC_drop h k xs ys e (by simpa using h1) (by simpa using h2)
theorem lexC_at (h : Tot c) {k : Nat} {xs ys : List α} (e : xs.take k = ys.take k) (h1 : k < xs.length) (h2 : k < ys.length) (hne : c xs[k] ys[k] ≠ 0) : lexC c xs ys = c xs[k] ys[k] := by
  rw [lexC_drop h k xs ys e (Nat.le_of_lt h1) (Nat.le_of_lt h2), List.drop_eq_getElem_cons h1, List.drop_eq_getElem_cons h2, lexC, if_neg hne]
theorem lexC_end (h : Tot c) {xs ys : List α} {k : Nat} (e : xs.take k = ys.take k) (hk : k = min xs.length ys.length) : lexC c xs ys = Lib.compareInt xs.length ys.length := by
  rw [lexC_drop h k xs ys e (by omega) (by omega)]
  unfold Lib.compareInt
  by_cases h1 : xs.length < ys.length
  · obtain ⟨y, l, hy⟩ : ∃ y l, ys.drop k = y :: l := by
      cases hd : ys.drop k with
      | nil => rw [List.drop_eq_nil_iff] at hd; omega
      | cons y l => exact ⟨y, l, rfl⟩
    rw [List.drop_eq_nil_of_le (as := xs) (by omega), hy, if_pos (by omega)]
    rfl
  · by_cases h2 : ys.length < xs.length
    · obtain ⟨y, l, hy⟩ : ∃ y l, xs.drop k = y :: l := by
        cases hd : xs.drop k with
        | nil => rw [List.drop_eq_nil_iff] at hd; omega
        | cons y l => exact ⟨y, l, rfl⟩
      rw [List.drop_eq_nil_of_le (as := ys) (by omega), hy, if_neg (by omega), if_pos (by omega)]
      rfl
    · rw [List.drop_eq_nil_of_le (as := ys) (by omega), List.drop_eq_nil_of_le (as := xs) (by omega), if_neg (by omega), if_neg (by omega)]
      rfl
end

def cmpU (a b : UInt8) : Int := if a < b then -1 else if b < a then 1 else 0
theorem cmpU_iff (a b : UInt8) : cmpU a b = if a.toNat < b.toNat then -1 else if b.toNat < a.toNat then 1 else 0 := by
  unfold cmpU
  simp only [UInt8.lt_iff_toNat_lt]
theorem cmpU_tot : Tot cmpU where
  anti x y := by rw [cmpU_iff, cmpU_iff]; split <;> split <;> (try split) <;> omega
  same x := by rw [cmpU_iff]; simp
  eq_ x y h := by
    rw [cmpU_iff] at h
    apply UInt8.toNat.inj
    split at h
    · omega
    · split at h <;> omega
  trans x y z h1 h2 := by
    rw [cmpU_iff] at h1 h2 ⊢
    have e1 : x.toNat ≤ y.toNat := by
      split at h1
      · omega
      · split at h1 <;> omega
    have e2 : y.toNat ≤ z.toNat := by
      split at h2
      · omega
      · split at h2 <;> omega
    split
    · omega
    · rw [if_neg (by omega)]; omega
  rng x y := by
    rw [cmpU_iff]
    split
    · exact .inl rfl
    · split
      · exact .inr (.inr rfl)
      · exact .inr (.inl rfl)
theorem compareBytes_lex : ∀ a b : List UInt8, Lib.compareBytes a b = lexC cmpU a b
  | [], [] => rfl
  | [], _ :: _ => rfl
  | _ :: _, [] => rfl
  | x :: a, y :: b => by
    rw [lexC, Lib.compareBytes, compareBytes_lex a b]
    unfold cmpU
    by_cases h1 : x < y
    · rw [if_pos h1, if_pos h1, if_neg (by omega)]
    · rw [if_neg h1, if_neg h1]
      by_cases h2 : y < x
      · rw [if_pos h2, if_pos h2, if_neg (by omega)]
      · rw [if_neg h2, if_neg h2, if_pos rfl]
def cmpB (a b : List UInt8) : Int := lexC cmpU a b
theorem cmpB_tot : Tot cmpB := lexC_tot cmpU_tot

/-- A name's labels, small, the last one first. -/
def keyN (n : List (List UInt8)) : List (List UInt8) := (lowN n).reverse
theorem length_keyN (n : List (List UInt8)) : (keyN n).length = n.length := by simp [keyN, lowN]
theorem keyN_at {n : List (List UInt8)} {k : Nat} (h : k < n.length) : (keyN n)[k]'(by rw [length_keyN]; exact h) = lowL (n[n.length - 1 - k]'(by omega)) := by
  simp [keyN, lowN]
/-- How names stand to one another. -/
def cmpN (a b : List (List UInt8)) : Int := lexC cmpB (keyN a) (keyN b)
def eqN (a b : List (List UInt8)) : Bool := decide (lowN a = lowN b)
def underN (n z : List (List UInt8)) : Bool := decide (z.length ≤ n.length) && eqN (n.drop (n.length - z.length)) z
theorem cmpN_tot_self (a : List (List UInt8)) : cmpN a a = 0 := lexC_self cmpB_tot _
theorem cmpN_anti (a b : List (List UInt8)) : cmpN b a = - cmpN a b := lexC_anti cmpB_tot _ _
theorem cmpN_rng (a b : List (List UInt8)) : cmpN a b = -1 ∨ cmpN a b = 0 ∨ cmpN a b = 1 := lexC_rng cmpB_tot _ _
theorem cmpN_trans (a b c : List (List UInt8)) : cmpN a b ≤ 0 → cmpN b c ≤ 0 → cmpN a c ≤ 0 := lexC_trans cmpB_tot _ _ _
theorem cmpN_zero (a b : List (List UInt8)) : cmpN a b = 0 ↔ keyN a = keyN b :=
  ⟨lexC_eq cmpB_tot _ _, fun h => by unfold cmpN; rw [h]; exact lexC_self cmpB_tot _⟩

theorem bytesLess_cmp : ∀ x y : List UInt8, Op.bytesLess x y = decide (cmpB x y < 0)
  | [], [] => rfl
  | [], _ :: _ => rfl
  | _ :: _, [] => rfl
  | x :: xs, y :: ys => by
    have ih := bytesLess_cmp xs ys
    unfold cmpB at ih ⊢
    rw [lexC, Op.bytesLess, ih, cmpU_iff]
    by_cases h1 : x.toNat < y.toNat
    · rw [if_pos h1, if_neg (by omega)]
      have : x < y := UInt8.lt_iff_toNat_lt.2 h1
      simp [this]
    · have hn : ¬ x < y := fun h => h1 (UInt8.lt_iff_toNat_lt.1 h)
      rw [if_neg h1]
      by_cases h2 : y.toNat < x.toNat
      · rw [if_pos h2, if_neg (by omega)]
        have hne : ¬ x = y := by rintro rfl; omega
        simp [hn, hne]
      · rw [if_neg h2, if_pos rfl]
        have he : x = y := UInt8.toNat.inj (by omega)
        subst he
        simp
theorem keyN_at' {n : List (List UInt8)} {k : Nat} (h : k < n.length) : (keyN n)[k]'(by rw [length_keyN]; exact h) = lowL (n[n.length - (k + 1)]'(by omega)) := by
  rw [keyN_at h]
  congr 2
  omega
theorem key_snoc' {a b : List (List UInt8)} {k : Nat} (h : (keyN a).take k = (keyN b).take k) (ha : k < a.length) (hb : k < b.length) (e : cmpB (lowL (a[a.length - (k + 1)]'(by omega))) (lowL (b[b.length - (k + 1)]'(by omega))) = 0) :
    (keyN a).take (k + 1) = (keyN b).take (k + 1) := by
  rw [List.take_succ_eq_append_getElem (by rw [length_keyN]; exact ha), List.take_succ_eq_append_getElem (by rw [length_keyN]; exact hb), h, keyN_at' ha, keyN_at' hb, cmpB_tot.eq_ _ _ e]
theorem key_part' {a b : List (List UInt8)} {k : Nat} (h : (keyN a).take k = (keyN b).take k) (ha : k < a.length) (hb : k < b.length) (e : cmpB (lowL (a[a.length - (k + 1)]'(by omega))) (lowL (b[b.length - (k + 1)]'(by omega))) ≠ 0) :
    cmpN a b = cmpB (lowL (a[a.length - (k + 1)]'(by omega))) (lowL (b[b.length - (k + 1)]'(by omega))) := by
  unfold cmpN
  rw [lexC_at cmpB_tot h (by rw [length_keyN]; exact ha) (by rw [length_keyN]; exact hb) (by rw [keyN_at' ha, keyN_at' hb]; exact e), keyN_at' ha, keyN_at' hb]

/-! Names that differ in capital letters alone. -/
theorem szN_lowN (n : List (List UInt8)) : szN (lowN n) = szN n := by
  induction n with
  | nil => rfl
  | cons x n ih =>
    simp only [lowN, List.map_cons, szN] at ih ⊢
    rw [ih, length_lowL]
theorem szN_of_low {m a : List (List UInt8)} (h : lowN m = lowN a) : szN m = szN a := by rw [← szN_lowN m, h, szN_lowN]
theorem len_of_low {m a : List (List UInt8)} (h : lowN m = lowN a) : m.length = a.length := by rw [← length_lowN m, h, length_lowN]
theorem cmpN_of_low {m a : List (List UInt8)} (h : lowN m = lowN a) (b : List (List UInt8)) : cmpN m b = cmpN a b := by unfold cmpN keyN; rw [h]
theorem eqN_of_low {m a : List (List UInt8)} (h : lowN m = lowN a) : eqN a m = true := by unfold eqN; rw [h]; simp
theorem underN_of_low {m a : List (List UInt8)} (h : lowN m = lowN a) (b : List (List UInt8)) : underN b m = underN b a := by
  unfold underN eqN
  rw [h, len_of_low h]
theorem lowN_set {m : List (List UInt8)} {k : Nat} {l : List UInt8} (hk : k < m.length) (h : lowL l = lowL m[k]) : lowN (m.set k l) = lowN m := by
  unfold lowN
  rw [List.map_set, h]
  apply List.ext_getElem?
  intro i
  rw [List.getElem?_set]
  split
  · rename_i e; subst e
    simp [hk]
  · rfl
theorem lowL_set {l0 l : List UInt8} {j : Nat} (hj : j < l.length) (hl : lowL l = lowL l0) (h1 : 97 ≤ (l[j]).toNat) (h2 : (l[j]).toNat ≤ 122) : lowL (l.set j (l[j] - 32)) = lowL l0 := by
  rw [← hl]
  unfold lowL
  rw [List.map_set]
  have e : lowB (l[j] - 32) = lowB l[j] := by
    have h3 : (l[j] - 32).toNat = (l[j]).toNat - 32 := by
      rw [UInt8.toNat_sub_of_le]
      · rfl
      · rw [UInt8.le_iff_toNat_le]; show 32 ≤ _; omega
    rw [lowB_no (c := l[j]) (by omega)]
    apply UInt8.toNat.inj
    rw [lowB_up (by omega) (by omega)]
    omega
  rw [e]
  apply List.ext_getElem?
  intro i
  rw [List.getElem?_set]
  split
  · rename_i e; subst e
    simp [hj]
  · rfl

end Go.Proofs.Ytjjmllbkfbdcnaa
