/-
  An argument of the kind uint64.
-/
import Derived.Test.YthjcpficpiddaaaDoorEnd
namespace Go.Proofs.YthjcpficpiddaaaDoor
open Go.ChangeShapes Go.WideShapes Go.ChangeAt Go.RowKit

theorem u64_le {n : Int} (h : (Lit.int .u64 n).wf = true) : 0 ≤ n ∧ n ≤ 18446744073709551615 := by
  have h1 : IntKind.u64.min = 0 := rfl
  have h2 : IntKind.u64.max = 18446744073709551615 := rfl
  simp only [Lit.wf, Bool.and_eq_true, decide_eq_true_eq] at h
  omega
theorem u64_nat {n : Int} (h : (Lit.int .u64 n).wf = true) : ∃ k : Nat, n = k := ⟨n.toNat, by have := u64_le h; omega⟩
theorem u64_lt {k : Nat} (h : (Lit.int .u64 (k : Int)).wf = true) : k < 18446744073709551616 := by have := u64_le h; omega

end Go.Proofs.YthjcpficpiddaaaDoor
