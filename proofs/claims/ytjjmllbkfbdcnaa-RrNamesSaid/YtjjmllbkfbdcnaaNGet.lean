/-
  Plain mathematics of names as they are written: what stands at a place. No program is imported.
-/
import Derived.Test.YtjjmllbkfbdcnaaNames
namespace Go.Proofs.Ytjjmllbkfbdcnaa
open Go.RowKit

/-- The place behind the name: the first one that was met. -/
def nextR (x p : Nat) : Nat := if x = 0 then p else x
/-- The place to which the pointer leads whose two bytes are c and d. -/
def toR (c d : UInt8) : Nat := (c.toNat - 192) * 256 + d.toNat

/-- What is read at the place p, where what is read now began at q, the name's end was met at x (0: it was not), and n is read so far: the name, the place behind it, the error. -/
def getR (b : List UInt8) (p q x : Nat) (n : List (List UInt8)) : List (List UInt8) × Nat × Nat :=
  if h0 : p < b.length then
    if b[p].toNat = 0 then (n, nextR x (p + 1), 0)
    else if 192 ≤ b[p].toNat then
      if h1 : p + 1 < b.length then
        if toR b[p] b[p + 1] < q then getR b (toR b[p] b[p + 1]) (toR b[p] b[p + 1]) (nextR x (p + 2)) n
        else ([], 0, 6)
      else ([], 0, 3)
    else if 64 ≤ b[p].toNat then ([], 0, 5)
    else if p + 1 + b[p].toNat ≤ b.length then
      if szN (n ++ [cutL b (p + 1) b[p].toNat]) ≤ 255 then getR b (p + 1 + b[p].toNat) q x (n ++ [cutL b (p + 1) b[p].toNat])
      else ([], 0, 5)
    else ([], 0, 3)
  else ([], 0, 3)
termination_by (q, 256 - szN n)
decreasing_by
  · exact Prod.Lex.left _ _ (by assumption)
  · refine Prod.Lex.right _ ?_
    rename_i h
    rw [szN_snoc] at h ⊢
    omega

section
variable {b : List UInt8} {p q x : Nat} {n : List (List UInt8)}

set_option maxRecDepth 10000
theorem getR_end (h : b.length ≤ p) : getR b p q x n = ([], 0, 3) := by
  rw [getR, dif_neg (by omega)]
theorem getR_zero (h : p < b.length) (h0 : b[p].toNat = 0) : getR b p q x n = (n, nextR x (p + 1), 0) := by
  rw [getR, dif_pos h, if_pos h0]
theorem getR_half (h : p < b.length) (h0 : 192 ≤ b[p].toNat) (h1 : b.length ≤ p + 1) : getR b p q x n = ([], 0, 3) := by
  rw [getR, dif_pos h, if_neg (by omega), if_pos h0, dif_neg (by omega)]
theorem getR_ptr (h : p < b.length) (h1 : p + 1 < b.length) (h0 : 192 ≤ b[p].toNat) (h2 : toR b[p] b[p + 1] < q) :
    getR b p q x n = getR b (toR b[p] b[p + 1]) (toR b[p] b[p + 1]) (nextR x (p + 2)) n := by
  rw [getR, dif_pos h, if_neg (by omega), if_pos h0, dif_pos h1, if_pos h2]
theorem getR_loop (h : p < b.length) (h1 : p + 1 < b.length) (h0 : 192 ≤ b[p].toNat) (h2 : q ≤ toR b[p] b[p + 1]) : getR b p q x n = ([], 0, 6) := by
  rw [getR, dif_pos h, if_neg (by omega), if_pos h0, dif_pos h1, if_neg (by omega)]
theorem getR_bad (h : p < b.length) (h0 : 64 ≤ b[p].toNat) (h1 : b[p].toNat < 192) : getR b p q x n = ([], 0, 5) := by
  rw [getR, dif_pos h, if_neg (by omega), if_neg (by omega), if_pos h0]
theorem getR_short (h : p < b.length) (h0 : b[p].toNat ≠ 0) (h1 : b[p].toNat < 64) (h2 : b.length < p + 1 + b[p].toNat) : getR b p q x n = ([], 0, 3) := by
  rw [getR, dif_pos h, if_neg h0, if_neg (by omega), if_neg (by omega), if_neg (by omega)]
theorem getR_long (h : p < b.length) (h0 : b[p].toNat ≠ 0) (h1 : b[p].toNat < 64) (h2 : p + 1 + b[p].toNat ≤ b.length) (h3 : 255 < szN n + 1 + b[p].toNat) : getR b p q x n = ([], 0, 5) := by
  rw [getR, dif_pos h, if_neg h0, if_neg (by omega), if_neg (by omega), if_pos h2, if_neg]
  rw [szN_snoc, length_cutL (by omega)]
  omega
theorem getR_label (h : p < b.length) (h0 : b[p].toNat ≠ 0) (h1 : b[p].toNat < 64) (h2 : p + 1 + b[p].toNat ≤ b.length) (h3 : szN n + 1 + b[p].toNat ≤ 255) :
    getR b p q x n = getR b (p + 1 + b[p].toNat) q x (n ++ [cutL b (p + 1) b[p].toNat]) := by
  rw [getR, dif_pos h, if_neg h0, if_neg (by omega), if_neg (by omega), if_pos h2, if_pos]
  rw [szN_snoc, length_cutL (by omega)]
  omega
end

/-- What the call answers at any place. -/
def getW (b : List UInt8) (a : Int) : List (List UInt8) × Nat × Nat := if a < 0 then ([], 0, 1) else getR b a.toNat a.toNat 0 []
theorem getW_neg {b : List UInt8} {a : Int} (h : a < 0) : getW b a = ([], 0, 1) := by rw [getW, if_pos h]
theorem getW_at (b : List UInt8) (a : Nat) : getW b a = getR b a a 0 [] := by rw [getW, if_neg (by omega), Int.toNat_natCast]

end Go.Proofs.Ytjjmllbkfbdcnaa
