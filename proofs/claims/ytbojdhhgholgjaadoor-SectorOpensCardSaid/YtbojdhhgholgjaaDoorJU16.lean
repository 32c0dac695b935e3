/-
  A number of 16 bits as a cell.
-/
import Derived.WalkKit
namespace Go.Proofs.YtbojdhhgholgjaaDoor
open Go.RowKit

def c16 (n : Nat) : Value := .int .u16 (n : Int)

end Go.Proofs.YtbojdhhgholgjaaDoor
