/-
  The contract of the document's Same: whether two slices of bytes read alike.
-/
import Derived.Test.YthjcpficpiddaaaDoorProg
import Derived.Test.YthjcpficpiddaaaDoorPlain
import Derived.Test.YthjcpficpiddaaaDoorOwn
namespace Go.Proofs.YthjcpficpiddaaaDoor
open Go.RowKit

theorem take_eq_snoc {xs ys : List UInt8} {k : Nat} (h : xs.take k = ys.take k) (hx : k < xs.length) (hy : k < ys.length) (e : xs[k] = ys[k]) : xs.take (k + 1) = ys.take (k + 1) := by
  rw [List.take_succ_eq_append_getElem hx, List.take_succ_eq_append_getElem hy, h, e]
theorem u8_eq_of {a b : UInt8} (h : (a.toNat : Int) = b.toNat) : a = b := by
  apply UInt8.toNat.inj; omega

def SameRel (w : World) (xs ys : List UInt8) (i : Value) (wr : World) : Prop := ∃ k : Nat, k ≤ xs.length ∧ i = .int .i64 k ∧ xs.take k = ys.take k ∧ ∃ j, wr = w.drewN j
















































































end Go.Proofs.YthjcpficpiddaaaDoor
