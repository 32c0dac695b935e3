/-
  The program's Writer and the document's beside each other, and what both keep.
-/
import Derived.Test.YtjjmllbkfbdcnaaRefName
import Derived.Test.YtjjmllbkfbdcnaaTwo
namespace Go.Proofs.Ytjjmllbkfbdcnaa
open Go.RowKit

structure Pair (w : World) (base g1 : Nat) (vB1 vM1 : Value) (B1 : List UInt8) (R1 : Rs) (Fp : Nat → Prop) (g2 : Nat) (vB2 vR2 : Value) (B2 : List UInt8) (R2 : Rs) : Prop where
  w1 : Wr w base g1 vB1 vM1 B1 R1
  w2 : RWr w base Fp g2 vB2 vR2 B2 R2
  d : ∀ j, ownF g1 vB1 vM1 j → ¬ Fp j

section
variable {w w' : World} {base g1 : Nat} {vB1 vM1 : Value} {B1 : List UInt8} {R1 : Rs} {Fp : Nat → Prop} {g2 : Nat} {vB2 vR2 : Value} {B2 : List UInt8} {R2 : Rs}
theorem Pair.below (h : Pair w base g1 vB1 vM1 B1 R1 Fp g2 vB2 vR2 B2 R2) (hb : Below w.heap.size w w') : Pair w' base g1 vB1 vM1 B1 R1 Fp g2 vB2 vR2 B2 R2 :=
  ⟨h.w1.below hb, h.w2.below hb, h.d⟩
/-- The program's Writer has gone on. -/
theorem Pair.pen1 (h : Pair w base g1 vB1 vM1 B1 R1 Fp g2 vB2 vR2 B2 R2) {B : List UInt8} {R : Rs} (hp : Penned base w g1 vB1 vM1 B R w') :
    ∃ vB vM, Pair w' base g1 vB vM B R Fp g2 vB2 vR2 B2 R2 ∧ Below base w w' := by
  have hbel := hp.below h.w1
  obtain ⟨vB, vM, h1, hg, hf⟩ := hp
  refine ⟨vB, vM, ⟨h1, h.w2.grew hg fun j hj h1 => h.d j h1 hj, fun j hj h2 => ?_⟩, hbel⟩
  rcases hf j hj with h3 | h3
  · exact h.d j h3 h2
  · have := (h.w2.low j h2).2; omega
/-- The document's Writer has gone on. -/
theorem Pair.pen2 (h : Pair w base g1 vB1 vM1 B1 R1 Fp g2 vB2 vR2 B2 R2) {B : List UInt8} {R : Rs} (hp : RPenned base w Fp g2 B R w') :
    ∃ Gp vB vR, Pair w' base g1 vB1 vM1 B1 R1 Gp g2 vB vR B R ∧ Below base w w' := by
  obtain ⟨Gp, vB, vR, h1, hg, hf⟩ := hp
  refine ⟨Gp, vB, vR, ⟨h.w1.grew hg h.d, h1, fun j hj h2 => ?_⟩, hg.below (fun j hj => (h.w2.low j hj).1) h.w2.size⟩
  rcases hf j h2 with h3 | h3
  · exact h.d j hj h3
  · have := (h.w1.own hj).2; omega
/-- Both are new. -/
theorem Pair.new {b0 : Nat} (h : Wr w b0 g1 (.slice none 0 0) (.map none) [] []) :
    Pair (w.alloc (.cells #[.slice none 0 0, .slice none 0 0] 35)) b0 g1 (.slice none 0 0) (.map none) [] [] (fun j => j = w.heap.size) w.heap.size (.slice none 0 0) (.slice none 0 0) [] [] := by
  refine ⟨h.alloc _, ⟨heap_alloc_new w _, rfl, World.ownsRow_nil _ _ _ _, fun j hj => by simp [Value.ownBlock] at hj, ⟨[], rfl, World.ownsRow_nil _ _ _ _, fun j hj => by simp [Value.ownBlock] at hj, fun i hi => absurd hi (Nat.not_lt_zero _)⟩, fun j hj => ?_⟩, fun j hj e => ?_⟩
  · subst hj
    exact ⟨h.size, by simp⟩
  · subst e
    have := (h.own hj).2
    omega
end

theorem nameW_kept (short : Bool) : ∀ (n : List (List UInt8)) (B : List UInt8) (R : Rs), (∀ x ∈ R, x.2 < 16384 ∧ x.1.length ≤ 1000) → n.length ≤ 1000 → ∀ x ∈ (nameW short n B R).2, x.2 < 16384 ∧ x.1.length ≤ 1000
  | [], B, R, h, _ => by rw [nameW_nil]; exact h
  | l :: n, B, R, h, hn => by
    cases hf : hitB R (l :: n) short with
    | true =>
      obtain ⟨hs, a, ha⟩ : short = true ∧ ∃ a, findR R (l :: n) = some a := by
        unfold hitB at hf
        cases h1 : findR R (l :: n) with
        | none => simp [h1] at hf
        | some a => exact ⟨by simpa [h1] using hf, a, rfl⟩
      subst hs
      rw [nameW_hit ha]
      exact h
    | false =>
      rw [nameW_nohit hf]
      refine nameW_kept short n _ _ ?_ (by simp only [List.length_cons] at hn; omega)
      have := (noteR_long (B := B) (r := l :: n) h hn).1
      rw [noteR] at this
      exact this

theorem putL_app (B : List UInt8) (n s : Int) : putL B n s = B ++ putL [] n s := by
  unfold putL
  split <;> simp
theorem putL_le7 (n s : Int) : (putL [] n s).length ≤ 7 := by
  unfold putL
  split
  · rename_i hf
    simp only [fitB, decide_eq_true_eq] at hf
    simp [length_digs]
    omega
  · simp

end Go.Proofs.Ytjjmllbkfbdcnaa
