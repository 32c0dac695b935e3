/-
  Plain mathematics of a name that is written twice. No program is imported.
-/
import Derived.Test.YtjjmllbkfbdcnaaNPut
namespace Go.Proofs.Ytjjmllbkfbdcnaa
open Go.RowKit

theorem nameW_prefix (short : Bool) : ∀ (n : List (List UInt8)) (B : List UInt8) (R : Rs), ∃ T, (nameW short n B R).2 = R ++ T
  | [], B, R => ⟨[], by simp [nameW_nil]⟩
  | l :: n, B, R => by
    have step : ∃ T, (nameW short n (B ++ UInt8.ofNat l.length :: l) (if B.length < 16384 then R ++ [(l :: n, B.length)] else R)).2 = R ++ T := by
      obtain ⟨T, hT⟩ := nameW_prefix short n (B ++ UInt8.ofNat l.length :: l) (if B.length < 16384 then R ++ [(l :: n, B.length)] else R)
      rw [hT]
      split
      · exact ⟨(l :: n, B.length) :: T, by simp⟩
      · exact ⟨T, rfl⟩
    cases hfi : findR R (l :: n) with
    | none => rw [nameW_miss hfi]; exact step
    | some k =>
      cases short with
      | false => rw [nameW_long]; exact step
      | true => rw [nameW_hit hfi]; exact ⟨[], by simp⟩
theorem findR_append {R : Rs} {n : List (List UInt8)} {k : Nat} (T : Rs) (h : findR R n = some k) : findR (R ++ T) n = some k := by
  unfold findR at h ⊢
  rw [List.find?_append]
  cases hf : R.find? fun r => decide (r.1 = n) with
  | none => rw [hf] at h; cases h
  | some r => rw [hf] at h; exact h
theorem findR_other {R : Rs} {n : List (List UInt8)} (h : ∀ r ∈ R, n.length < r.1.length) : findR R n = none := by
  unfold findR
  rw [Option.map_eq_none_iff, List.find?_eq_none]
  intro r hr
  have := h r hr
  simp
  intro e
  rw [e] at this
  omega
/-- A name of which no rest was written is written whole. -/
theorem nameW_fresh (short : Bool) : ∀ (n : List (List UInt8)) (B : List UInt8) (R : Rs), (∀ r ∈ R, n.length < r.1.length) → (nameW short n B R).1.length = B.length + szN n ∧ (16384 ≤ B.length → (nameW short n B R).2 = R) ∧ (B.length < 16384 → n ≠ [] → findR (nameW short n B R).2 n = some B.length)
  | [], B, R, _ => by simp [nameW_nil, szN]
  | l :: n, B, R, h => by
    have hfi := findR_other h
    rw [nameW_miss hfi]
    obtain ⟨h1, h2, _⟩ := nameW_fresh short n (B ++ UInt8.ofNat l.length :: l) (if B.length < 16384 then R ++ [(l :: n, B.length)] else R) (fun r hr => by
      split at hr
      · rcases List.mem_append.1 hr with hr | hr
        · have := h r hr; simp at this; omega
        · rw [List.mem_singleton.1 hr]; simp
      · have := h r hr; simp at this; omega)
    refine ⟨?_, fun hb => ?_, fun hb _ => ?_⟩
    · rw [h1]; simp [szN]; omega
    · rw [h2 (by simp; omega), if_neg (by omega)]
    · rw [if_pos hb]
      obtain ⟨T, hT⟩ := nameW_prefix short n (B ++ UInt8.ofNat l.length :: l) (R ++ [(l :: n, B.length)])
      rw [hT]
      refine findR_append T ?_
      rw [findR_snoc, hfi, if_pos rfl]
      rfl
theorem length_nameW_hit {n : List (List UInt8)} {B : List UInt8} {R : Rs} {k : Nat} (hn : n ≠ []) (h : findR R n = some k) : (nameW true n B R).1.length = B.length + 2 := by
  cases n with
  | nil => exact absurd rfl hn
  | cons l n => rw [nameW_hit h]; simp [length_digs]

end Go.Proofs.Ytjjmllbkfbdcnaa
