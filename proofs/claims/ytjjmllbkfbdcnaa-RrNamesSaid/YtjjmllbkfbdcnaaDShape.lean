/-
  The contracts of rdata's shapeOf and isKind.
-/
import Derived.Test.YtjjmllbkfbdcnaaFits
import Derived.Test.YtjjmllbkfbdcnaaFrame
namespace Go.Proofs.Ytjjmllbkfbdcnaa
open Go.RowKit

/-- What a type has. -/
structure Sh where
  ahead : Nat
  host : Bool
  mail : Bool
  short : Bool
  behind : Nat
  texts : Bool
  least : Nat
  most : Nat
abbrev Sh.val (s : Sh) : Value := .agg #[.int .i64 s.ahead, .bool s.host, .bool s.mail, .bool s.short, .int .i64 s.behind, .bool s.texts, .int .i64 s.least, .int .i64 s.most]
def shN (k : Int) : Sh :=
  if k = 1 then ⟨0, false, false, false, 0, false, 4, 4⟩
  else if k = 28 then ⟨0, false, false, false, 0, false, 16, 16⟩
  else if k = 2 ∨ k = 5 ∨ k = 12 then ⟨0, true, false, true, 0, false, 0, 0⟩
  else if k = 15 then ⟨1, true, false, true, 0, false, 0, 0⟩
  else if k = 6 then ⟨0, true, true, true, 5, false, 0, 0⟩
  else if k = 16 then ⟨0, false, false, false, 0, true, 0, 0⟩
  else if k = 33 then ⟨3, true, false, false, 0, false, 0, 0⟩
  else ⟨0, false, false, false, 0, false, 0, 65535⟩
/-- May a type be so? -/
def kindB (k : Int) : Bool := decide (1 ≤ k ∧ k ≤ 65535)

theorem shN_cases (k : Int) : k = 1 ∨ k = 28 ∨ k = 2 ∨ k = 5 ∨ k = 12 ∨ k = 15 ∨ k = 6 ∨ k = 16 ∨ k = 33 ∨ ((k == 1) = false ∧ (k == 28) = false ∧ (k == 2) = false ∧ (k == 5) = false ∧ (k == 12) = false ∧ (k == 15) = false ∧ (k == 6) = false ∧ (k == 16) = false ∧ (k == 33) = false) := by
  simp only [beq_eq_false_iff_ne]
  omega
theorem shN_other {k : Int} (h : (k == 1) = false ∧ (k == 28) = false ∧ (k == 2) = false ∧ (k == 5) = false ∧ (k == 12) = false ∧ (k == 15) = false ∧ (k == 6) = false ∧ (k == 16) = false ∧ (k == 33) = false) : shN k = ⟨0, false, false, false, 0, false, 0, 65535⟩ := by
  simp only [beq_eq_false_iff_ne] at h
  obtain ⟨h1, h2, h3, h4, h5, h6, h7, h8, h9⟩ := h
  unfold shN
  rw [if_neg h1, if_neg h2, if_neg (by omega), if_neg h6, if_neg h7, if_neg h8, if_neg h9]

set_option maxHeartbeats 400000 in
theorem shapeOf_any (k : Int) (w : World) : Calls Try.prog 51 #[.int .i64 k] w (Gave w (shN k).val) := by
  rcases shN_cases k with rfl | rfl | rfl | rfl | rfl | rfl | rfl | rfl | rfl | h
  case inr.inr.inr.inr.inr.inr.inr.inr.inr =>
    rw [shN_other h]
    obtain ⟨h1, h2, h3, h4, h5, h6, h7, h8, h9⟩ := h
    go_enter Try.func51, Try.ntmps51
    go_wp2
    exact ⟨rfl, (Sh.mk 0 false false false 0 false 0 65535).val, by simp [results, Try.results51, go_sem], rfl, (Below.refl _ _).alloc (Nat.le_refl _) _⟩
  all_goals
    go_enter Try.func51, Try.ntmps51
    go_wp2
    exact ⟨rfl, (shN _).val, by simp [results, Try.results51, go_sem, shN], rfl, (Below.refl _ _).alloc (Nat.le_refl _) _⟩

theorem kindB_fit {k : Int} (h : k ≠ 0) : fitB k 2 = kindB k := by
  unfold fitB kindB
  rw [show (2 : Int) ^ (8 * (2 : Int).toNat) = 65536 from rfl]
  congr 1
  apply propext
  omega
set_option maxHeartbeats 400000 in
theorem isKind_any (k : Int) (w : World) : Calls Try.prog 56 #[.int .i64 k] w (Told w (.bool (kindB k))) := by
  have HF := Lib.hid (fun W => fits_any k 2 W)
  by_cases h : k = 0
  · subst h
    go_enter Try.func56, Try.ntmps56
    go_wp2
    go_ret
    exact ⟨rfl, rfl⟩
  · have t1 : (k != 0) = true := by rw [bne_iff_ne]; exact h
    rw [kindB_fit h] at HF
    go_enter Try.func56, Try.ntmps56
    go_wp2_with fail
    refine (HF.out _).mono ?_
    rintro e w' ⟨rfl, rfl⟩
    go_wp2
    go_ret
    exact ⟨by simp, rfl⟩

end Go.Proofs.Ytjjmllbkfbdcnaa
