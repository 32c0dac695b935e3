/-
  Plain mathematics: numbers as bytes, the highest byte first. No program is imported.
-/
import Derived.WalkKit
namespace Go.Proofs.Ytpedjnbgpnjmiaa
open Go.RowKit

/-- Does n fit into s bytes? -/
def fitB (n s : Int) : Bool := decide (1 ≤ s ∧ s ≤ 7 ∧ 0 ≤ n ∧ n < 2 ^ (8 * s.toNat))
def szB (s : Int) : Bool := decide (1 ≤ s ∧ s ≤ 7)

theorem szB_true {s : Int} (h : 1 ≤ s ∧ s ≤ 7) : szB s = true := by simp [szB, h]
theorem szB_false {s : Int} (h : ¬ (1 ≤ s ∧ s ≤ 7)) : szB s = false := by simp [szB, h]
theorem fitB_true {n s : Int} (h1 : 1 ≤ s) (h2 : s ≤ 7) (h3 : 0 ≤ n) (h4 : n < 2 ^ (8 * s.toNat)) : fitB n s = true := by simp [fitB, h1, h2, h3, h4]
theorem fitB_no_size {n s : Int} (h : ¬ (1 ≤ s ∧ s ≤ 7)) : fitB n s = false := by
  simp only [fitB, decide_eq_false_iff_not]; intro hh; exact h ⟨hh.1, hh.2.1⟩
theorem fitB_neg {n s : Int} (h : n < 0) : fitB n s = false := by
  simp only [fitB, decide_eq_false_iff_not]; intro hh; omega
theorem fitB_big {n s : Int} (h : ¬ n < 2 ^ (8 * s.toNat)) : fitB n s = false := by
  simp only [fitB, decide_eq_false_iff_not]; intro hh; exact h hh.2.2.2

theorem fitB_shr {n s : Int} (h1 : 1 ≤ s) (h2 : s ≤ 7) (h3 : 0 ≤ n) : (n / 2 ^ (8 * s).toNat == 0) = fitB n s := by
  have e : (8 * s).toNat = 8 * s.toNat := by omega
  rw [e]
  have hp : (0 : Int) < 2 ^ (8 * s.toNat) := by exact Int.pow_pos (by omega)
  by_cases h : n < 2 ^ (8 * s.toNat)
  · rw [fitB_true h1 h2 h3 h, Int.ediv_eq_zero_of_lt h3 h]; rfl
  · rw [fitB_big h]
    have : 1 ≤ n / 2 ^ (8 * s.toNat) := by rw [Int.le_ediv_iff_mul_le hp]; omega
    rw [beq_eq_false_iff_ne]; omega

theorem div_step (n : Int) (k : Nat) : n / 2 ^ (8 * k) / 256 = n / 2 ^ (8 * (k + 1)) := by
  rw [Int.ediv_ediv_of_nonneg (Int.le_of_lt (Int.pow_pos (by omega))), show 8 * (k + 1) = 8 * k + 8 from by omega, Int.pow_add]
  rfl
theorem div_nonneg' {n : Int} (h : 0 ≤ n) (k : Nat) : 0 ≤ n / 2 ^ (8 * k) := Int.ediv_nonneg h (Int.le_of_lt (Int.pow_pos (by omega)))
theorem div_le' {n : Int} (h : 0 ≤ n) (k : Nat) : n / 2 ^ (8 * k) ≤ n := Int.ediv_le_self _ h

/-- A byte as a cell. -/
def bc (b : UInt8) : Value := .int .u8 (b.toNat : Int)

/-- The number that bytes are, the highest first. -/
def numN (l : List UInt8) : Nat := l.foldl (fun n x => n * 256 + x.toNat) 0
theorem numN_nil : numN [] = 0 := rfl
theorem numN_snoc (l : List UInt8) (x : UInt8) : numN (l ++ [x]) = numN l * 256 + x.toNat := by simp [numN]
theorem numN_from : ∀ (l : List UInt8) (n m : Nat), n < m → l.foldl (fun n x => n * 256 + x.toNat) n < m * 256 ^ l.length
  | [], n, m, h => by simpa using h
  | x :: l, n, m, h => by
    have hx := x.toNat_lt
    have := numN_from l (n * 256 + x.toNat) (m * 256) (by omega)
    simp only [List.foldl_cons, List.length_cons, Nat.pow_succ]
    rw [show m * (256 ^ l.length * 256) = m * 256 * 256 ^ l.length from by rw [Nat.mul_comm (256 ^ l.length), Nat.mul_assoc]]
    exact this
theorem numN_lt (l : List UInt8) : numN l < 256 ^ l.length := by
  have := numN_from l 0 1 (by omega)
  simpa [numN] using this
theorem numN_le48 (l : List UInt8) (h : l.length ≤ 6) : numN l < 281474976710656 :=
  Nat.lt_of_lt_of_le (numN_lt l) (by
    have := Nat.pow_le_pow_right (n := 256) (by omega) h
    simpa using this)
/-- The bytes from place a on, k of them. -/
def cutL (l : List UInt8) (a k : Nat) : List UInt8 := (l.drop a).take k
theorem cutL_succ {l : List UInt8} {a k : Nat} (h : a + k < l.length) : cutL l a (k + 1) = cutL l a k ++ [l[a + k]] := by
  unfold cutL
  rw [List.take_succ_eq_append_getElem (by simp; omega)]
  simp
theorem length_cutL {l : List UInt8} {a k : Nat} (h : a + k ≤ l.length) : (cutL l a k).length = k := by simp [cutL]; omega

/-- What Get answers: the number, the error. -/
def getL (l : List UInt8) (a s : Int) : Int × Int :=
  if szB s = false ∨ a < 0 then (0, 1) else if (l.length : Int) < a + s then (0, 3) else (numN (cutL l a.toNat s.toNat), 0)

/-- The bytes of a number, the highest first. -/
def digs (n s : Nat) : List UInt8 := (List.range s).map fun j => UInt8.ofNat (n / 2 ^ (8 * (s - 1 - j)))
theorem length_digs (n s : Nat) : (digs n s).length = s := by simp [digs]
theorem digs_take (n s k : Nat) (h : k < s) : (digs n s).take (k + 1) = (digs n s).take k ++ [UInt8.ofNat (n / 2 ^ (8 * (s - 1 - k)))] := by
  rw [List.take_succ_eq_append_getElem (by rw [length_digs]; exact h)]
  simp [digs]
theorem bc_dig (m : Nat) : bc (UInt8.ofNat m) = .int .u8 ((m : Int) % 256) := by
  unfold bc
  rw [UInt8.toNat_ofNat']
  congr 1
theorem digs_cells (l : List UInt8) (n s k : Nat) (h : k < s) : ((l ++ (digs n s).take k).map bc) ++ [.int .u8 ((n : Int) / 2 ^ (8 * (s - 1 - k)) % 256)] = (l ++ (digs n s).take (k + 1)).map bc := by
  rw [digs_take n s k h, ← List.append_assoc, List.map_append (l₁ := l ++ _)]
  rw [List.map_cons, List.map_nil, bc_dig]
  rfl
theorem u8_ofNat (m : Nat) : (UInt8.ofNat m).toNat = m % 256 := by rw [UInt8.toNat_ofNat']
theorem div_pow_step (n a : Nat) : n / 2 ^ (8 * (a + 1)) = n / 2 ^ (8 * a) / 256 := by
  rw [Nat.div_div_eq_div_mul, show 8 * (a + 1) = 8 * a + 8 from by omega, Nat.pow_add]
theorem numN_digs_take {n s : Nat} (hn : n < 2 ^ (8 * s)) : ∀ k, k ≤ s → numN ((digs n s).take k) = n / 2 ^ (8 * (s - k))
  | 0, _ => by rw [List.take_zero, numN_nil, Nat.sub_zero, Nat.div_eq_of_lt hn]
  | k + 1, h => by
    rw [digs_take n s k (by omega), numN_snoc, numN_digs_take hn k (by omega), u8_ofNat, show s - k = (s - (k + 1)) + 1 from by omega, div_pow_step, show s - 1 - k = s - (k + 1) from by omega]
    omega
/-- A number that fits is read as it was written. -/
theorem numN_digs {n s : Nat} (hn : n < 2 ^ (8 * s)) : numN (digs n s) = n := by
  have h := numN_digs_take hn s (Nat.le_refl _)
  rwa [List.take_of_length_le (by rw [length_digs]; omega), Nat.sub_self, Nat.mul_zero, Nat.pow_zero, Nat.div_one] at h
theorem cutL_behind (l : List UInt8) (n s : Nat) : cutL (l ++ digs n s) l.length s = digs n s := by
  unfold cutL
  rw [List.drop_left, List.take_of_length_le (by rw [length_digs]; omega)]

theorem foldl_num : ∀ (l : List UInt8) (n : Nat), l.foldl (fun n x => n * 256 + x.toNat) n = n * 256 ^ l.length + numN l
  | [], n => by simp [numN]
  | x :: l, n => by
    have h1 := foldl_num l (n * 256 + x.toNat)
    have h2 := foldl_num l (0 * 256 + x.toNat)
    unfold numN at *
    simp only [List.foldl_cons, List.length_cons, Nat.pow_succ] at *
    rw [h1, h2, Nat.add_mul, Nat.add_mul, Nat.mul_assoc, Nat.mul_comm 256]
    omega
theorem numN_cons (x : UInt8) (l : List UInt8) : numN (x :: l) = x.toNat * 256 ^ l.length + numN l := by
  have := foldl_num l (0 * 256 + x.toNat)
  simpa [numN] using this
/-- The order of bytes is the order of the numbers. -/
theorem bytesLess_num : ∀ (x y : List UInt8), x.length = y.length → Op.bytesLess x y = decide (numN x < numN y) ∧ (x = y ↔ numN x = numN y)
  | [], [], _ => by simp [Op.bytesLess]
  | [], _ :: _, h => by simp at h
  | _ :: _, [], h => by simp at h
  | a :: x, b :: y, h => by
    have hl : x.length = y.length := by simpa using h
    obtain ⟨ih1, ih2⟩ := bytesLess_num x y hl
    have hx := numN_lt x
    have hy := numN_lt y
    rw [numN_cons, numN_cons, hl]
    rw [hl] at hx
    simp only [Op.bytesLess, ih1]
    rcases Nat.lt_trichotomy a.toNat b.toNat with hab | hab | hab
    · have h1 := Nat.mul_le_mul_right (256 ^ y.length) (show a.toNat + 1 ≤ b.toNat from hab)
      rw [Nat.add_mul] at h1
      have hne : a ≠ b := fun e => by rw [e] at hab; omega
      refine ⟨?_, ?_⟩
      · rw [decide_eq_true (by omega : a.toNat * 256 ^ y.length + numN x < b.toNat * 256 ^ y.length + numN y)]
        simp [UInt8.lt_iff_toNat_lt, hab]
      · constructor
        · intro e; injection e with e1 e2; exact absurd e1 hne
        · intro e; omega
    · have e : a = b := UInt8.toNat.inj hab
      subst e
      refine ⟨?_, ?_⟩
      · simp
      · simp [ih2]
    · have h1 := Nat.mul_le_mul_right (256 ^ y.length) (show b.toNat + 1 ≤ a.toNat from hab)
      rw [Nat.add_mul] at h1
      have hne : a ≠ b := fun e => by rw [e] at hab; omega
      refine ⟨?_, ?_⟩
      · rw [decide_eq_false (by omega : ¬ a.toNat * 256 ^ y.length + numN x < b.toNat * 256 ^ y.length + numN y)]
        simp [UInt8.lt_iff_toNat_lt, hne]
        omega
      · constructor
        · intro e; injection e with e1 e2; exact absurd e1 hne
        · intro e; omega
theorem digs_less {a b s : Nat} (ha : a < 2 ^ (8 * s)) (hb : b < 2 ^ (8 * s)) : Op.bytesLess (digs a s) (digs b s) = decide (a < b) := by
  rw [(bytesLess_num _ _ (by simp [length_digs])).1, numN_digs ha, numN_digs hb]
theorem digs_eq {a b s : Nat} (ha : a < 2 ^ (8 * s)) (hb : b < 2 ^ (8 * s)) : digs a s = digs b s ↔ a = b := by
  rw [(bytesLess_num _ _ (by simp [length_digs])).2, numN_digs ha, numN_digs hb]

/-- The bytes as the document's Put lays them, from the last on: behind k of them. -/
def laid (n s k : Nat) : List Value := List.replicate (s - k) (.int .u8 0) ++ ((digs n s).drop (s - k)).map bc
theorem length_laid (n s k : Nat) : (laid n s k).length = s := by simp [laid, length_digs]
theorem laid_all (n s : Nat) : laid n s s = (digs n s).map bc := by simp [laid]
theorem digs_get (n s j : Nat) (h : j < s) : (digs n s)[j]'(by rw [length_digs]; exact h) = UInt8.ofNat (n / 2 ^ (8 * (s - 1 - j))) := by simp [digs]
theorem laid_set {n s k : Nat} (h : k < s) : (laid n s k).set (s - 1 - k) (.int .u8 ((n : Int) / 2 ^ (8 * k) % 256)) = laid n s (k + 1) := by
  have e : s - k = s - 1 - k + 1 := by omega
  have e2 : s - (k + 1) = s - 1 - k := by omega
  unfold laid
  rw [e, e2, List.replicate_succ', List.append_assoc, List.set_append_right _ _ (by simp), List.length_replicate, Nat.sub_self,
    List.drop_eq_getElem_cons (i := s - 1 - k) (by rw [length_digs]; omega), List.map_cons, digs_get n s _ (by omega), bc_dig, show s - 1 - (s - 1 - k) = k from by omega]
  rfl
/-- What Put answers. -/
def putL (l : List UInt8) (n s : Int) : List UInt8 := if fitB n s = true then l ++ digs n.toNat s.toNat else l
theorem putL_no {l : List UInt8} {n s : Int} (h : fitB n s = false) : putL l n s = l := by simp [putL, h]
theorem putL_yes {l : List UInt8} {n s : Nat} (h : fitB n s = true) : putL l n s = l ++ digs n s := by simp [putL, h]

end Go.Proofs.Ytpedjnbgpnjmiaa
