/-
  No cell of these rows narrows 'for every input' (looked for: loops, veiled, ifaces, maps, wideKeys, modest, calm, conditions, laid).
  DERIVED. THE GIVEN ROWS OF THIS SEAT. 6 by the template 'for every input the law returns true; each argument reads behind the call as it read before'; 0 by the template 'total and deterministic' (their statements: YtjjmllbkfbdcnaaTotals.lean).
  GIVEN WITH THE SEED: the statements are not yours to turn. If you find one false, say at which input.
  Laid BY PROGRAM, IN A SANDBOX (cutbox-rows.mjs): the forced cells as the released guide's own fill.sh prints them over the translation a7bb4dd29aca0898… (all of the seat's roots in one cut). By AI agents, Wed Nov 11 2026. No macro, syntax, notation, axiom, sorry.
-/
import Derived.Test.YtjjmllbkfbdcnaaChecked
import GoSem.Claim
import GoSem.ClaimJoined
import GoSem.ClaimMapViews
import Derived.JoinedTies
import Derived.KernelRfl
namespace Go.Proofs.Ytjjmllbkfbdcnaa
/- THE CELL 'sum', in the pinned program and in every row, IS THE sha256 OF THE DUMP (.gsa) THAT YtjjmllbkfbdcnaaProg.lean LOADS. Nothing in Lean hashes anything: it is a label: what it is worth is what the hold of that sum in a sandbox is worth. -/
noncomputable def Try.pinned : Pinned := { name := "ytjjmllbkfbdcnaa", sum := "a7bb4dd29aca08981d0d1aa6718d42c88c2a06e32a95f259cdb163f7cabec16d", checked := Try.checked }
namespace Rows
def none {H : Type} : Left H := { results := [], args := [] }

/-- 'gazetteerlaw04.RdataWrites': WHATEVER THE INPUT: true; the input reads as it did. -/
def rdataWritesSpec : ChangeSpec := { name := "rdataWrites", fn := fun _ => fun
  | [d1, d2, d3] => { results := [.lit (.bool true)], args := [d1, d2, d3] }
  | _ => none }
def rdataWritesRow : OpenClaim := { program := "ytjjmllbkfbdcnaa", sum := "a7bb4dd29aca08981d0d1aa6718d42c88c2a06e32a95f259cdb163f7cabec16d", func := "gazetteer/gazetteerlaw04.RdataWrites", spec := "rdataWrites", unfollowed := true, recurses := true, apart := false }
def RdataWritesSaid : Prop := rdataWritesRow.holds Try.pinned (OpenSpec.ofChange rdataWritesSpec)

/-- ITS FALSE NEIGHBOUR: 'it returns false'. Refute it at one input. -/
def rdataWritesWrong : ChangeSpec := { name := "rdataWrites", fn := fun _ => fun
  | [d1, d2, d3] => { results := [.lit (.bool false)], args := [d1, d2, d3] }
  | _ => none }
def RdataWritesWrongFalsely : Prop := rdataWritesRow.holds Try.pinned (OpenSpec.ofChange rdataWritesWrong)

/-- 'gazetteerlaw05.RrWrites': WHATEVER THE INPUT: true; the input reads as it did. -/
def rrWritesSpec : ChangeSpec := { name := "rrWrites", fn := fun _ => fun
  | [d] => { results := [.lit (.bool true)], args := [d] }
  | _ => none }
def rrWritesRow : OpenClaim := { program := "ytjjmllbkfbdcnaa", sum := "a7bb4dd29aca08981d0d1aa6718d42c88c2a06e32a95f259cdb163f7cabec16d", func := "gazetteer/gazetteerlaw05.RrWrites", spec := "rrWrites", unfollowed := true, recurses := true, apart := false }
def RrWritesSaid : Prop := rrWritesRow.holds Try.pinned (OpenSpec.ofChange rrWritesSpec)

/-- ITS FALSE NEIGHBOUR: 'it returns false'. Refute it at one input. -/
def rrWritesWrong : ChangeSpec := { name := "rrWrites", fn := fun _ => fun
  | [d] => { results := [.lit (.bool false)], args := [d] }
  | _ => none }
def RrWritesWrongFalsely : Prop := rrWritesRow.holds Try.pinned (OpenSpec.ofChange rrWritesWrong)

/-- 'gazetteerlaw05.RrBack': WHATEVER THE INPUT: true; the input reads as it did. -/
def rrBackSpec : ChangeSpec := { name := "rrBack", fn := fun _ => fun
  | [d] => { results := [.lit (.bool true)], args := [d] }
  | _ => none }
def rrBackRow : OpenClaim := { program := "ytjjmllbkfbdcnaa", sum := "a7bb4dd29aca08981d0d1aa6718d42c88c2a06e32a95f259cdb163f7cabec16d", func := "gazetteer/gazetteerlaw05.RrBack", spec := "rrBack", unfollowed := true, recurses := true, apart := false }
def RrBackSaid : Prop := rrBackRow.holds Try.pinned (OpenSpec.ofChange rrBackSpec)

/-- ITS FALSE NEIGHBOUR: 'it returns false'. Refute it at one input. -/
def rrBackWrong : ChangeSpec := { name := "rrBack", fn := fun _ => fun
  | [d] => { results := [.lit (.bool false)], args := [d] }
  | _ => none }
def RrBackWrongFalsely : Prop := rrBackRow.holds Try.pinned (OpenSpec.ofChange rrBackWrong)

/-- 'gazetteerlaw05.RrSets': WHATEVER THE INPUT: true; the input reads as it did. -/
def rrSetsSpec : ChangeSpec := { name := "rrSets", fn := fun _ => fun
  | [d1, d2, d3, d4] => { results := [.lit (.bool true)], args := [d1, d2, d3, d4] }
  | _ => none }
def rrSetsRow : OpenClaim := { program := "ytjjmllbkfbdcnaa", sum := "a7bb4dd29aca08981d0d1aa6718d42c88c2a06e32a95f259cdb163f7cabec16d", func := "gazetteer/gazetteerlaw05.RrSets", spec := "rrSets", inPlace := ["internal/bytealg.abigen_runtime_cmpstring"], unfollowed := true, recurses := true, apart := false }
def RrSetsSaid : Prop := rrSetsRow.holds Try.pinned (OpenSpec.ofChange rrSetsSpec)

/-- ITS FALSE NEIGHBOUR: 'it returns false'. Refute it at one input. -/
def rrSetsWrong : ChangeSpec := { name := "rrSets", fn := fun _ => fun
  | [d1, d2, d3, d4] => { results := [.lit (.bool false)], args := [d1, d2, d3, d4] }
  | _ => none }
def RrSetsWrongFalsely : Prop := rrSetsRow.holds Try.pinned (OpenSpec.ofChange rrSetsWrong)

/-- 'gazetteerlaw05.RrNames': WHATEVER THE INPUT: true; the input reads as it did. -/
def rrNamesSpec : ChangeSpec := { name := "rrNames", fn := fun _ => fun
  | [d] => { results := [.lit (.bool true)], args := [d] }
  | _ => none }
def rrNamesRow : OpenClaim := { program := "ytjjmllbkfbdcnaa", sum := "a7bb4dd29aca08981d0d1aa6718d42c88c2a06e32a95f259cdb163f7cabec16d", func := "gazetteer/gazetteerlaw05.RrNames", spec := "rrNames", inPlace := ["internal/bytealg.abigen_runtime_cmpstring"], unfollowed := true, recurses := true, apart := false }
def RrNamesSaid : Prop := rrNamesRow.holds Try.pinned (OpenSpec.ofChange rrNamesSpec)

/-- ITS FALSE NEIGHBOUR: 'it returns false'. Refute it at one input. -/
def rrNamesWrong : ChangeSpec := { name := "rrNames", fn := fun _ => fun
  | [d] => { results := [.lit (.bool false)], args := [d] }
  | _ => none }
def RrNamesWrongFalsely : Prop := rrNamesRow.holds Try.pinned (OpenSpec.ofChange rrNamesWrong)

/-- 'gazetteerlaw05.RrOrder': WHATEVER THE INPUT: true; the input reads as it did. -/
def rrOrderSpec : ChangeSpec := { name := "rrOrder", fn := fun _ => fun
  | [d1, d2] => { results := [.lit (.bool true)], args := [d1, d2] }
  | _ => none }
def rrOrderRow : OpenClaim := { program := "ytjjmllbkfbdcnaa", sum := "a7bb4dd29aca08981d0d1aa6718d42c88c2a06e32a95f259cdb163f7cabec16d", func := "gazetteer/gazetteerlaw05.RrOrder", spec := "rrOrder", inPlace := ["internal/bytealg.abigen_runtime_cmpstring"], unfollowed := true, recurses := true, apart := false }
def RrOrderSaid : Prop := rrOrderRow.holds Try.pinned (OpenSpec.ofChange rrOrderSpec)

/-- ITS FALSE NEIGHBOUR: 'it returns false'. Refute it at one input. -/
def rrOrderWrong : ChangeSpec := { name := "rrOrder", fn := fun _ => fun
  | [d1, d2] => { results := [.lit (.bool false)], args := [d1, d2] }
  | _ => none }
def RrOrderWrongFalsely : Prop := rrOrderRow.holds Try.pinned (OpenSpec.ofChange rrOrderWrong)

/- THE SECOND FORM. 'bulk': how many values and letters a reading holds, each counted each time it is reached (what is shared counts as often as it is met; a slice's spare places count too). A statement '..UptoSaid' is the law's where the arguments, and the package variables that the reading takes, are together of bulk at most 1048576: NARROWER than '..Said'. Prove '..Said' where nothing that the law and all that it calls make is longer than what came in: it says more and counts as full. Else prove '..UptoSaid'. A law counts once. -/
mutual
def uptoBulk {H : Type} : DataW H → Nat
  | .lit (.string bytes) => bytes.length + 1
  | .lit _ => 1
  | .nil => 1
  | .ptr d => uptoBulk d + 1
  | .slice elems spare => uptoBulkAll elems + uptoBulkAll spare + 1
  | .agg parts => uptoBulkAll parts + 1
  | .iface _ d => uptoBulk d + 1
  | .map entries => uptoBulkEntries entries + 1
  | .held _ => 1
def uptoBulkAll {H : Type} : List (DataW H) → Nat
  | [] => 0
  | d :: r => uptoBulk d + uptoBulkAll r
def uptoBulkEntries {H : Type} : List (Lit × DataW H) → Nat
  | [] => 0
  | x :: r => uptoBulkEntry x + uptoBulkEntries r
def uptoBulkEntry {H : Type} : Lit × DataW H → Nat
  | (.string bytes, d) => bytes.length + uptoBulk d + 1
  | (_, d) => uptoBulk d + 1
 end
def uptoSmall : (H : Type) → List (DataW H) → Bool := fun _ ds => decide (uptoBulkAll ds ≤ 1048576)
def OpenSpec.upto (s : _root_.Go.ChangeSpec) : _root_.Go.OpenSpec := { _root_.Go.OpenSpec.ofChange s with cond := some uptoSmall }

/-- 'gazetteerlaw04.RdataWrites', WHERE WHAT IT READS IS OF BULK AT MOST 1048576: true; the input reads as it did. -/
def rdataWritesUptoRow : OpenClaim := { program := "ytjjmllbkfbdcnaa", sum := "a7bb4dd29aca08981d0d1aa6718d42c88c2a06e32a95f259cdb163f7cabec16d", func := "gazetteer/gazetteerlaw04.RdataWrites", spec := "rdataWrites", unfollowed := true, recurses := true, apart := false, narrowed := true }
def RdataWritesUptoSaid : Prop := rdataWritesUptoRow.holds Try.pinned (OpenSpec.upto rdataWritesSpec)

/-- 'gazetteerlaw05.RrWrites', WHERE WHAT IT READS IS OF BULK AT MOST 1048576: true; the input reads as it did. -/
def rrWritesUptoRow : OpenClaim := { program := "ytjjmllbkfbdcnaa", sum := "a7bb4dd29aca08981d0d1aa6718d42c88c2a06e32a95f259cdb163f7cabec16d", func := "gazetteer/gazetteerlaw05.RrWrites", spec := "rrWrites", unfollowed := true, recurses := true, apart := false, narrowed := true }
def RrWritesUptoSaid : Prop := rrWritesUptoRow.holds Try.pinned (OpenSpec.upto rrWritesSpec)

/-- 'gazetteerlaw05.RrBack', WHERE WHAT IT READS IS OF BULK AT MOST 1048576: true; the input reads as it did. -/
def rrBackUptoRow : OpenClaim := { program := "ytjjmllbkfbdcnaa", sum := "a7bb4dd29aca08981d0d1aa6718d42c88c2a06e32a95f259cdb163f7cabec16d", func := "gazetteer/gazetteerlaw05.RrBack", spec := "rrBack", unfollowed := true, recurses := true, apart := false, narrowed := true }
def RrBackUptoSaid : Prop := rrBackUptoRow.holds Try.pinned (OpenSpec.upto rrBackSpec)

/-- 'gazetteerlaw05.RrSets', WHERE WHAT IT READS IS OF BULK AT MOST 1048576: true; the input reads as it did. -/
def rrSetsUptoRow : OpenClaim := { program := "ytjjmllbkfbdcnaa", sum := "a7bb4dd29aca08981d0d1aa6718d42c88c2a06e32a95f259cdb163f7cabec16d", func := "gazetteer/gazetteerlaw05.RrSets", spec := "rrSets", inPlace := ["internal/bytealg.abigen_runtime_cmpstring"], unfollowed := true, recurses := true, apart := false, narrowed := true }
def RrSetsUptoSaid : Prop := rrSetsUptoRow.holds Try.pinned (OpenSpec.upto rrSetsSpec)

/-- 'gazetteerlaw05.RrNames', WHERE WHAT IT READS IS OF BULK AT MOST 1048576: true; the input reads as it did. -/
def rrNamesUptoRow : OpenClaim := { program := "ytjjmllbkfbdcnaa", sum := "a7bb4dd29aca08981d0d1aa6718d42c88c2a06e32a95f259cdb163f7cabec16d", func := "gazetteer/gazetteerlaw05.RrNames", spec := "rrNames", inPlace := ["internal/bytealg.abigen_runtime_cmpstring"], unfollowed := true, recurses := true, apart := false, narrowed := true }
def RrNamesUptoSaid : Prop := rrNamesUptoRow.holds Try.pinned (OpenSpec.upto rrNamesSpec)

/-- 'gazetteerlaw05.RrOrder', WHERE WHAT IT READS IS OF BULK AT MOST 1048576: true; the input reads as it did. -/
def rrOrderUptoRow : OpenClaim := { program := "ytjjmllbkfbdcnaa", sum := "a7bb4dd29aca08981d0d1aa6718d42c88c2a06e32a95f259cdb163f7cabec16d", func := "gazetteer/gazetteerlaw05.RrOrder", spec := "rrOrder", inPlace := ["internal/bytealg.abigen_runtime_cmpstring"], unfollowed := true, recurses := true, apart := false, narrowed := true }
def RrOrderUptoSaid : Prop := rrOrderUptoRow.holds Try.pinned (OpenSpec.upto rrOrderSpec)

end Rows
end Go.Proofs.Ytjjmllbkfbdcnaa
