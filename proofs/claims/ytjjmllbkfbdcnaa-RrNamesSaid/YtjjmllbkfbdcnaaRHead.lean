/-
  The contract of rr.headAt.
-/
import Derived.Test.YtjjmllbkfbdcnaaDGet
namespace Go.Proofs.Ytjjmllbkfbdcnaa
open Go.RowKit

/-- The number of s bytes at p. -/
def numAt (b : List UInt8) (p s : Nat) : Nat := numN (cutL b p s)
/-- A TTL as it is read. -/
def ttlAt (b : List UInt8) (p : Nat) : Nat := if 2147483647 < numAt b p 4 then 0 else numAt b p 4
theorem getL_num {b : List UInt8} {p s : Nat} (h1 : 1 ≤ s) (h2 : s ≤ 7) (h : p + s ≤ b.length) : getL b p s = ((numAt b p s : Int), (0 : Int)) := getL_ok h1 h2 h
theorem numAt_lt (b : List UInt8) (p s : Nat) : numAt b p s < 2 ^ (8 * s) := by
  unfold numAt
  have h := numN_lt (cutL b p s)
  have h2 : (cutL b p s).length ≤ s := by unfold cutL; simp; omega
  rw [show (256 : Nat) = 2 ^ 8 by rfl, ← Nat.pow_mul] at h
  exact Nat.lt_of_lt_of_le h (Nat.pow_le_pow_right (by omega) (by omega))

set_option maxRecDepth 8000 in
set_option maxHeartbeats 2000000 in
theorem head_any (A : Option Addr) (n c : Nat) (b : List UInt8) (p : Nat) (w : World) (hl : b.length = n) (hA : Row w w.heap.size A (b.map bc)) (hm : n ≤ c) (hc : c ≤ maxLen) (hp : p + 10 ≤ n) :
    Calls Try.prog 65 #[.slice A n c, .int .i64 p] w (Gave w (.agg #[.int .i64 (numAt b p 2), .int .i64 (numAt b (p + 2) 2), .int .i64 (ttlAt b (p + 4)), .int .i64 (numAt b (p + 8) 2)])) := by
  have hn : n ≤ maxLen := Nat.le_trans hm hc
  have HG := Lib.hid (fun (W : World) (x y : Int) (q s : Nat) (hx : x = q) (hy : y = s) (h1 : 1 ≤ s) (h2 : s ≤ 7) (h : q + s ≤ b.length) (hb : Below w.heap.size w W) =>
    (show Calls Try.prog 86 #[.slice A n c, .int .i64 x, .int .i64 y] W (Gets W ((numAt b q s : Int), (0 : Int))) by subst hx; subst hy; exact (getL_num h1 h2 h) ▸ get_any A n c w.heap.size b q s W hl (hA.below hb) hn hm))
  unfold maxLen at hc
  have b0 := numAt_lt b (p + 4) 4
  have HL := Lib.hid hl
  clear hA hl
  obtain ⟨z0, e0⟩ : ∃ z, z = numAt b p 2 := ⟨_, rfl⟩
  obtain ⟨z1, e1⟩ : ∃ z, z = numAt b (p + 2) 2 := ⟨_, rfl⟩
  obtain ⟨z2, e2⟩ : ∃ z, z = numAt b (p + 4) 4 := ⟨_, rfl⟩
  obtain ⟨z3, e3⟩ : ∃ z, z = numAt b (p + 8) 2 := ⟨_, rfl⟩
  have H0 := Lib.hid (fun W (x : Int) (hx : x = (p + 0 : Nat)) hb => (show Calls Try.prog 86 #[.slice A n c, .int .i64 x, .int .i64 2] W (Gets W ((z0 : Int), (0 : Int))) from e0 ▸ HG.out W x 2 (p + 0) 2 hx rfl (by omega) (by omega) (by rw [HL.out]; omega) hb))
  have H1 := Lib.hid (fun W (x : Int) (hx : x = (p + 2 : Nat)) hb => (show Calls Try.prog 86 #[.slice A n c, .int .i64 x, .int .i64 2] W (Gets W ((z1 : Int), (0 : Int))) from e1 ▸ HG.out W x 2 (p + 2) 2 hx rfl (by omega) (by omega) (by rw [HL.out]; omega) hb))
  have H2 := Lib.hid (fun W (x : Int) (hx : x = (p + 4 : Nat)) hb => (show Calls Try.prog 86 #[.slice A n c, .int .i64 x, .int .i64 4] W (Gets W ((z2 : Int), (0 : Int))) from e2 ▸ HG.out W x 4 (p + 4) 4 hx rfl (by omega) (by omega) (by rw [HL.out]; omega) hb))
  have H3 := Lib.hid (fun W (x : Int) (hx : x = (p + 8 : Nat)) hb => (show Calls Try.prog 86 #[.slice A n c, .int .i64 x, .int .i64 2] W (Gets W ((z3 : Int), (0 : Int))) from e3 ▸ HG.out W x 2 (p + 8) 2 hx rfl (by omega) (by omega) (by rw [HL.out]; omega) hb))
  have ht : ttlAt b (p + 4) = if 2147483647 < z2 then 0 else z2 := by unfold ttlAt; rw [← e2]
  rw [ht, ← e0, ← e1, ← e3]
  clear e0 e1 e2 e3 HG HL ht b0
  have a0 := (Below.refl w.heap.size w).alloc (Nat.le_refl _) (.cells #[.int .i64 0, .int .i64 0, .int .i64 0, .int .i64 0] 100)
  by_cases ht : 2147483647 < z2
  · have d0 : decide ((2147483647 : Int) < (z2 : Int)) = true := by simp; omega
    rw [if_pos ht]
    clear ht
    go_enter Try.func65, Try.ntmps65
    go_wp2_with fail
    refine (H0.out _ _ (by push_cast; omega) a0).mono ?_
    rintro e w1 ⟨rfl, rfl⟩
    go_wp2_with fail
    refine (H1.out _ _ (by push_cast; omega) ((Below.refl w.heap.size w).alloc (Nat.le_refl _) (.cells #[.int .i64 (z0 : Int), .int .i64 0, .int .i64 0, .int .i64 0] 100))).mono ?_
    rintro e w2 ⟨rfl, rfl⟩
    go_wp2_with fail
    refine (H2.out _ _ (by push_cast; omega) ((Below.refl w.heap.size w).alloc (Nat.le_refl _) (.cells #[.int .i64 (z0 : Int), .int .i64 (z1 : Int), .int .i64 0, .int .i64 0] 100))).mono ?_
    rintro e w3 ⟨rfl, rfl⟩
    go_wp2_with fail
    refine (H3.out _ _ (by push_cast; omega) ((Below.refl w.heap.size w).alloc (Nat.le_refl _) (.cells #[.int .i64 (z0 : Int), .int .i64 (z1 : Int), .int .i64 (z2 : Int), .int .i64 0] 100))).mono ?_
    rintro e w4 ⟨rfl, rfl⟩
    go_wp2
    refine ⟨rfl, .agg #[.int .i64 (z0 : Int), .int .i64 (z1 : Int), .int .i64 ((0 : Nat) : Int), .int .i64 (z3 : Int)], ?_, rfl, (Below.refl w.heap.size w).alloc (Nat.le_refl _) _⟩
    simp [results, Try.results65, go_sem]
  · have d0 : decide ((2147483647 : Int) < (z2 : Int)) = false := by simp; omega
    rw [if_neg ht]
    clear ht
    go_enter Try.func65, Try.ntmps65
    go_wp2_with fail
    refine (H0.out _ _ (by push_cast; omega) a0).mono ?_
    rintro e w1 ⟨rfl, rfl⟩
    go_wp2_with fail
    refine (H1.out _ _ (by push_cast; omega) ((Below.refl w.heap.size w).alloc (Nat.le_refl _) (.cells #[.int .i64 (z0 : Int), .int .i64 0, .int .i64 0, .int .i64 0] 100))).mono ?_
    rintro e w2 ⟨rfl, rfl⟩
    go_wp2_with fail
    refine (H2.out _ _ (by push_cast; omega) ((Below.refl w.heap.size w).alloc (Nat.le_refl _) (.cells #[.int .i64 (z0 : Int), .int .i64 (z1 : Int), .int .i64 0, .int .i64 0] 100))).mono ?_
    rintro e w3 ⟨rfl, rfl⟩
    go_wp2_with fail
    refine (H3.out _ _ (by push_cast; omega) ((Below.refl w.heap.size w).alloc (Nat.le_refl _) (.cells #[.int .i64 (z0 : Int), .int .i64 (z1 : Int), .int .i64 (z2 : Int), .int .i64 0] 100))).mono ?_
    rintro e w4 ⟨rfl, rfl⟩
    go_wp2
    refine ⟨rfl, .agg #[.int .i64 (z0 : Int), .int .i64 (z1 : Int), .int .i64 (z2 : Int), .int .i64 (z3 : Int)], ?_, rfl, (Below.refl w.heap.size w).alloc (Nat.le_refl _) _⟩
    simp [results, Try.results65, go_sem]

end Go.Proofs.Ytjjmllbkfbdcnaa
