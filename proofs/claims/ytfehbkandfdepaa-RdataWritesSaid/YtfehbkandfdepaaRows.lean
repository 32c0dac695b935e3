/-
  No cell of these rows narrows 'for every input' (looked for: loops, veiled, ifaces, maps, wideKeys, modest, calm, conditions, laid).
  DERIVED. THE GIVEN ROWS OF THIS SEAT. 4 by the template 'for every input the law returns true; each argument reads behind the call as it read before'; 0 by the template 'total and deterministic' (their statements: YtfehbkandfdepaaTotals.lean).
  GIVEN WITH THE SEED: the statements are not yours to turn. If you find one false, say at which input.
  Laid BY PROGRAM, IN A SANDBOX (cutbox-rows.mjs): the forced cells as the released guide's own fill.sh prints them over the translation dd053fcad2e40df2… (all of the seat's roots in one cut). By AI agents, Wed Nov 11 2026. No macro, syntax, notation, axiom, sorry.
-/
import Derived.Test.YtfehbkandfdepaaChecked
import GoSem.Claim
import GoSem.ClaimJoined
import GoSem.ClaimMapViews
import Derived.JoinedTies
import Derived.KernelRfl
namespace Go.Proofs.Ytfehbkandfdepaa
/- THE CELL 'sum', in the pinned program and in every row, IS THE sha256 OF THE DUMP (.gsa) THAT YtfehbkandfdepaaProg.lean LOADS. Nothing in Lean hashes anything: it is a label: what it is worth is what the hold of that sum in a sandbox is worth. -/
noncomputable def Try.pinned : Pinned := { name := "ytfehbkandfdepaa", sum := "dd053fcad2e40df232e4d1b51ea8c3e7a44610a34bdb3d6f90f2c6cfe07d8fba", checked := Try.checked }
namespace Rows
def none {H : Type} : Left H := { results := [], args := [] }

/-- 'gazetteerlaw04.RdataWrites': WHATEVER THE INPUT: true; the input reads as it did. -/
def rdataWritesSpec : ChangeSpec := { name := "rdataWrites", fn := fun _ => fun
  | [d1, d2, d3] => { results := [.lit (.bool true)], args := [d1, d2, d3] }
  | _ => none }
def rdataWritesRow : OpenClaim := { program := "ytfehbkandfdepaa", sum := "dd053fcad2e40df232e4d1b51ea8c3e7a44610a34bdb3d6f90f2c6cfe07d8fba", func := "gazetteer/gazetteerlaw04.RdataWrites", spec := "rdataWrites", unfollowed := true, recurses := true, apart := false }
def RdataWritesSaid : Prop := rdataWritesRow.holds Try.pinned (OpenSpec.ofChange rdataWritesSpec)

/-- ITS FALSE NEIGHBOUR: 'it returns false'. Refute it at one input. -/
def rdataWritesWrong : ChangeSpec := { name := "rdataWrites", fn := fun _ => fun
  | [d1, d2, d3] => { results := [.lit (.bool false)], args := [d1, d2, d3] }
  | _ => none }
def RdataWritesWrongFalsely : Prop := rdataWritesRow.holds Try.pinned (OpenSpec.ofChange rdataWritesWrong)

/-- 'gazetteerlaw04.RdataBack': WHATEVER THE INPUT: true; the input reads as it did. -/
def rdataBackSpec : ChangeSpec := { name := "rdataBack", fn := fun _ => fun
  | [d1, d2, d3, d4] => { results := [.lit (.bool true)], args := [d1, d2, d3, d4] }
  | _ => none }
def rdataBackRow : OpenClaim := { program := "ytfehbkandfdepaa", sum := "dd053fcad2e40df232e4d1b51ea8c3e7a44610a34bdb3d6f90f2c6cfe07d8fba", func := "gazetteer/gazetteerlaw04.RdataBack", spec := "rdataBack", unfollowed := true, recurses := true, apart := false }
def RdataBackSaid : Prop := rdataBackRow.holds Try.pinned (OpenSpec.ofChange rdataBackSpec)

/-- ITS FALSE NEIGHBOUR: 'it returns false'. Refute it at one input. -/
def rdataBackWrong : ChangeSpec := { name := "rdataBack", fn := fun _ => fun
  | [d1, d2, d3, d4] => { results := [.lit (.bool false)], args := [d1, d2, d3, d4] }
  | _ => none }
def RdataBackWrongFalsely : Prop := rdataBackRow.holds Try.pinned (OpenSpec.ofChange rdataBackWrong)

/-- 'gazetteerlaw04.RdataSame': WHATEVER THE INPUT: true; the input reads as it did. -/
def rdataSameSpec : ChangeSpec := { name := "rdataSame", fn := fun _ => fun
  | [d1, d2] => { results := [.lit (.bool true)], args := [d1, d2] }
  | _ => none }
def rdataSameRow : OpenClaim := { program := "ytfehbkandfdepaa", sum := "dd053fcad2e40df232e4d1b51ea8c3e7a44610a34bdb3d6f90f2c6cfe07d8fba", func := "gazetteer/gazetteerlaw04.RdataSame", spec := "rdataSame", inPlace := ["internal/bytealg.abigen_runtime_cmpstring"], unfollowed := true, recurses := true, apart := false }
def RdataSameSaid : Prop := rdataSameRow.holds Try.pinned (OpenSpec.ofChange rdataSameSpec)

/-- ITS FALSE NEIGHBOUR: 'it returns false'. Refute it at one input. -/
def rdataSameWrong : ChangeSpec := { name := "rdataSame", fn := fun _ => fun
  | [d1, d2] => { results := [.lit (.bool false)], args := [d1, d2] }
  | _ => none }
def RdataSameWrongFalsely : Prop := rdataSameRow.holds Try.pinned (OpenSpec.ofChange rdataSameWrong)

/-- 'gazetteerlaw04.RdataTexts': WHATEVER THE INPUT: true; the input reads as it did. -/
def rdataTextsSpec : ChangeSpec := { name := "rdataTexts", fn := fun _ => fun
  | [d1, d2, d3] => { results := [.lit (.bool true)], args := [d1, d2, d3] }
  | _ => none }
def rdataTextsRow : OpenClaim := { program := "ytfehbkandfdepaa", sum := "dd053fcad2e40df232e4d1b51ea8c3e7a44610a34bdb3d6f90f2c6cfe07d8fba", func := "gazetteer/gazetteerlaw04.RdataTexts", spec := "rdataTexts", unfollowed := true, recurses := true, apart := false }
def RdataTextsSaid : Prop := rdataTextsRow.holds Try.pinned (OpenSpec.ofChange rdataTextsSpec)

/-- ITS FALSE NEIGHBOUR: 'it returns false'. Refute it at one input. -/
def rdataTextsWrong : ChangeSpec := { name := "rdataTexts", fn := fun _ => fun
  | [d1, d2, d3] => { results := [.lit (.bool false)], args := [d1, d2, d3] }
  | _ => none }
def RdataTextsWrongFalsely : Prop := rdataTextsRow.holds Try.pinned (OpenSpec.ofChange rdataTextsWrong)

/- THE SECOND FORM. 'bulk': how many values and letters a reading holds, each counted each time it is reached (what is shared counts as often as it is met; a slice's spare places count too). A statement '..UptoSaid' is the law's where the arguments, and the package variables that the reading takes, are together of bulk at most 1048576: NARROWER than '..Said'. Prove '..Said' where nothing that the law and all that it calls make is longer than what came in: it says more and counts as full. Else prove '..UptoSaid'. A law counts once. -/
mutual
def uptoBulk {H : Type} : DataW H → Nat
  | .lit (.string bytes) => bytes.length + 1
  | .lit _ => 1
  | .nil => 1
  | .ptr d => uptoBulk d + 1
  | .slice elems spare => uptoBulkAll elems + uptoBulkAll spare + 1
  | .agg parts => uptoBulkAll parts + 1
  | .iface _ d => uptoBulk d + 1
  | .map entries => uptoBulkEntries entries + 1
  | .held _ => 1
def uptoBulkAll {H : Type} : List (DataW H) → Nat
  | [] => 0
  | d :: r => uptoBulk d + uptoBulkAll r
def uptoBulkEntries {H : Type} : List (Lit × DataW H) → Nat
  | [] => 0
  | x :: r => uptoBulkEntry x + uptoBulkEntries r
def uptoBulkEntry {H : Type} : Lit × DataW H → Nat
  | (.string bytes, d) => bytes.length + uptoBulk d + 1
  | (_, d) => uptoBulk d + 1
 end
def uptoSmall : (H : Type) → List (DataW H) → Bool := fun _ ds => decide (uptoBulkAll ds ≤ 1048576)
def OpenSpec.upto (s : _root_.Go.ChangeSpec) : _root_.Go.OpenSpec := { _root_.Go.OpenSpec.ofChange s with cond := some uptoSmall }

/-- 'gazetteerlaw04.RdataWrites', WHERE WHAT IT READS IS OF BULK AT MOST 1048576: true; the input reads as it did. -/
def rdataWritesUptoRow : OpenClaim := { program := "ytfehbkandfdepaa", sum := "dd053fcad2e40df232e4d1b51ea8c3e7a44610a34bdb3d6f90f2c6cfe07d8fba", func := "gazetteer/gazetteerlaw04.RdataWrites", spec := "rdataWrites", unfollowed := true, recurses := true, apart := false, narrowed := true }
def RdataWritesUptoSaid : Prop := rdataWritesUptoRow.holds Try.pinned (OpenSpec.upto rdataWritesSpec)

/-- 'gazetteerlaw04.RdataBack', WHERE WHAT IT READS IS OF BULK AT MOST 1048576: true; the input reads as it did. -/
def rdataBackUptoRow : OpenClaim := { program := "ytfehbkandfdepaa", sum := "dd053fcad2e40df232e4d1b51ea8c3e7a44610a34bdb3d6f90f2c6cfe07d8fba", func := "gazetteer/gazetteerlaw04.RdataBack", spec := "rdataBack", unfollowed := true, recurses := true, apart := false, narrowed := true }
def RdataBackUptoSaid : Prop := rdataBackUptoRow.holds Try.pinned (OpenSpec.upto rdataBackSpec)

/-- 'gazetteerlaw04.RdataSame', WHERE WHAT IT READS IS OF BULK AT MOST 1048576: true; the input reads as it did. -/
def rdataSameUptoRow : OpenClaim := { program := "ytfehbkandfdepaa", sum := "dd053fcad2e40df232e4d1b51ea8c3e7a44610a34bdb3d6f90f2c6cfe07d8fba", func := "gazetteer/gazetteerlaw04.RdataSame", spec := "rdataSame", inPlace := ["internal/bytealg.abigen_runtime_cmpstring"], unfollowed := true, recurses := true, apart := false, narrowed := true }
def RdataSameUptoSaid : Prop := rdataSameUptoRow.holds Try.pinned (OpenSpec.upto rdataSameSpec)

/-- 'gazetteerlaw04.RdataTexts', WHERE WHAT IT READS IS OF BULK AT MOST 1048576: true; the input reads as it did. -/
def rdataTextsUptoRow : OpenClaim := { program := "ytfehbkandfdepaa", sum := "dd053fcad2e40df232e4d1b51ea8c3e7a44610a34bdb3d6f90f2c6cfe07d8fba", func := "gazetteer/gazetteerlaw04.RdataTexts", spec := "rdataTexts", unfollowed := true, recurses := true, apart := false, narrowed := true }
def RdataTextsUptoSaid : Prop := rdataTextsUptoRow.holds Try.pinned (OpenSpec.upto rdataTextsSpec)

end Rows
end Go.Proofs.Ytfehbkandfdepaa
