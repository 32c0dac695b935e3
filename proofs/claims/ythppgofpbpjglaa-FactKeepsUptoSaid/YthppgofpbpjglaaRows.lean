/-
  No cell of these rows narrows 'for every input' (looked for: loops, veiled, ifaces, maps, wideKeys, modest, calm, conditions, laid).
  DERIVED. THE GIVEN ROWS OF THIS SEAT. 4 by the template 'for every input the law returns true; each argument reads behind the call as it read before'; 0 by the template 'total and deterministic' (their statements: YthppgofpbpjglaaTotals.lean).
  GIVEN WITH THE SEED: the statements are not yours to turn. If you find one false, say at which input.
  Laid BY PROGRAM, IN A SANDBOX (cutbox-rows.mjs): the forced cells as the released guide's own fill.sh prints them over the translation eec5ed8303dc567b… (all of the seat's roots in one cut). By AI agents, Wed Nov 11 2026. No macro, syntax, notation, axiom, sorry.
-/
import Derived.Test.YthppgofpbpjglaaChecked
import GoSem.Claim
import GoSem.ClaimJoined
import GoSem.ClaimMapViews
import Derived.JoinedTies
import Derived.KernelRfl
namespace Go.Proofs.Ythppgofpbpjglaa
/- THE CELL 'sum', in the pinned program and in every row, IS THE sha256 OF THE DUMP (.gsa) THAT YthppgofpbpjglaaProg.lean LOADS. Nothing in Lean hashes anything: it is a label: what it is worth is what the hold of that sum in a sandbox is worth. -/
noncomputable def Try.pinned : Pinned := { name := "ythppgofpbpjglaa", sum := "eec5ed8303dc567b13556ceba383c81b455a17d64354bd164545805720b969ce", checked := Try.checked }
namespace Rows
def none {H : Type} : Left H := { results := [], args := [] }

/-- 'gazetteerlaw05.RrSets': WHATEVER THE INPUT: true; the input reads as it did. -/
def rrSetsSpec : ChangeSpec := { name := "rrSets", fn := fun _ => fun
  | [d1, d2, d3, d4] => { results := [.lit (.bool true)], args := [d1, d2, d3, d4] }
  | _ => none }
def rrSetsRow : OpenClaim := { program := "ythppgofpbpjglaa", sum := "eec5ed8303dc567b13556ceba383c81b455a17d64354bd164545805720b969ce", func := "gazetteer/gazetteerlaw05.RrSets", spec := "rrSets", inPlace := ["internal/bytealg.abigen_runtime_cmpstring"], unfollowed := true, recurses := true, apart := false }
def RrSetsSaid : Prop := rrSetsRow.holds Try.pinned (OpenSpec.ofChange rrSetsSpec)

/-- ITS FALSE NEIGHBOUR: 'it returns false'. Refute it at one input. -/
def rrSetsWrong : ChangeSpec := { name := "rrSets", fn := fun _ => fun
  | [d1, d2, d3, d4] => { results := [.lit (.bool false)], args := [d1, d2, d3, d4] }
  | _ => none }
def RrSetsWrongFalsely : Prop := rrSetsRow.holds Try.pinned (OpenSpec.ofChange rrSetsWrong)

/-- 'gazetteerlaw05.RrNames': WHATEVER THE INPUT: true; the input reads as it did. -/
def rrNamesSpec : ChangeSpec := { name := "rrNames", fn := fun _ => fun
  | [d] => { results := [.lit (.bool true)], args := [d] }
  | _ => none }
def rrNamesRow : OpenClaim := { program := "ythppgofpbpjglaa", sum := "eec5ed8303dc567b13556ceba383c81b455a17d64354bd164545805720b969ce", func := "gazetteer/gazetteerlaw05.RrNames", spec := "rrNames", inPlace := ["internal/bytealg.abigen_runtime_cmpstring"], unfollowed := true, recurses := true, apart := false }
def RrNamesSaid : Prop := rrNamesRow.holds Try.pinned (OpenSpec.ofChange rrNamesSpec)

/-- ITS FALSE NEIGHBOUR: 'it returns false'. Refute it at one input. -/
def rrNamesWrong : ChangeSpec := { name := "rrNames", fn := fun _ => fun
  | [d] => { results := [.lit (.bool false)], args := [d] }
  | _ => none }
def RrNamesWrongFalsely : Prop := rrNamesRow.holds Try.pinned (OpenSpec.ofChange rrNamesWrong)

/-- 'gazetteerlaw13.FactOthers': WHATEVER THE INPUT: true; the input reads as it did. -/
def factOthersSpec : ChangeSpec := { name := "factOthers", fn := fun _ => fun
  | [d1, d2, d3, d4] => { results := [.lit (.bool true)], args := [d1, d2, d3, d4] }
  | _ => none }
def factOthersRow : OpenClaim := { program := "ythppgofpbpjglaa", sum := "eec5ed8303dc567b13556ceba383c81b455a17d64354bd164545805720b969ce", func := "gazetteer/gazetteerlaw13.FactOthers", spec := "factOthers", inPlace := ["internal/bytealg.abigen_runtime_cmpstring"], unfollowed := true, recurses := true, apart := false }
def FactOthersSaid : Prop := factOthersRow.holds Try.pinned (OpenSpec.ofChange factOthersSpec)

/-- ITS FALSE NEIGHBOUR: 'it returns false'. Refute it at one input. -/
def factOthersWrong : ChangeSpec := { name := "factOthers", fn := fun _ => fun
  | [d1, d2, d3, d4] => { results := [.lit (.bool false)], args := [d1, d2, d3, d4] }
  | _ => none }
def FactOthersWrongFalsely : Prop := factOthersRow.holds Try.pinned (OpenSpec.ofChange factOthersWrong)

/-- 'gazetteerlaw13.FactKeeps': WHATEVER THE INPUT: true; the input reads as it did. -/
def factKeepsSpec : ChangeSpec := { name := "factKeeps", fn := fun _ => fun
  | [d1, d2, d3] => { results := [.lit (.bool true)], args := [d1, d2, d3] }
  | _ => none }
def factKeepsRow : OpenClaim := { program := "ythppgofpbpjglaa", sum := "eec5ed8303dc567b13556ceba383c81b455a17d64354bd164545805720b969ce", func := "gazetteer/gazetteerlaw13.FactKeeps", spec := "factKeeps", inPlace := ["internal/bytealg.abigen_runtime_cmpstring"], unfollowed := true, recurses := true, apart := false }
def FactKeepsSaid : Prop := factKeepsRow.holds Try.pinned (OpenSpec.ofChange factKeepsSpec)

/-- ITS FALSE NEIGHBOUR: 'it returns false'. Refute it at one input. -/
def factKeepsWrong : ChangeSpec := { name := "factKeeps", fn := fun _ => fun
  | [d1, d2, d3] => { results := [.lit (.bool false)], args := [d1, d2, d3] }
  | _ => none }
def FactKeepsWrongFalsely : Prop := factKeepsRow.holds Try.pinned (OpenSpec.ofChange factKeepsWrong)

/- THE SECOND FORM. 'bulk': how many values and letters a reading holds, each counted each time it is reached (what is shared counts as often as it is met; a slice's spare places count too). A statement '..UptoSaid' is the law's where the arguments, and the package variables that the reading takes, are together of bulk at most 1048576: NARROWER than '..Said'. Prove '..Said' where nothing that the law and all that it calls make is longer than what came in: it says more and counts as full. Else prove '..UptoSaid'. A law counts once. -/
mutual
def uptoBulk {H : Type} : DataW H → Nat
  | .lit (.string bytes) => bytes.length + 1
  | .lit _ => 1
  | .nil => 1
  | .ptr d => uptoBulk d + 1
  | .slice elems spare => uptoBulkAll elems + uptoBulkAll spare + 1
  | .agg parts => uptoBulkAll parts + 1
  | .iface _ d => uptoBulk d + 1
  | .map entries => uptoBulkEntries entries + 1
  | .held _ => 1
def uptoBulkAll {H : Type} : List (DataW H) → Nat
  | [] => 0
  | d :: r => uptoBulk d + uptoBulkAll r
def uptoBulkEntries {H : Type} : List (Lit × DataW H) → Nat
  | [] => 0
  | x :: r => uptoBulkEntry x + uptoBulkEntries r
def uptoBulkEntry {H : Type} : Lit × DataW H → Nat
  | (.string bytes, d) => bytes.length + uptoBulk d + 1
  | (_, d) => uptoBulk d + 1
 end
def uptoSmall : (H : Type) → List (DataW H) → Bool := fun _ ds => decide (uptoBulkAll ds ≤ 1048576)
def OpenSpec.upto (s : _root_.Go.ChangeSpec) : _root_.Go.OpenSpec := { _root_.Go.OpenSpec.ofChange s with cond := some uptoSmall }

/-- 'gazetteerlaw05.RrSets', WHERE WHAT IT READS IS OF BULK AT MOST 1048576: true; the input reads as it did. -/
def rrSetsUptoRow : OpenClaim := { program := "ythppgofpbpjglaa", sum := "eec5ed8303dc567b13556ceba383c81b455a17d64354bd164545805720b969ce", func := "gazetteer/gazetteerlaw05.RrSets", spec := "rrSets", inPlace := ["internal/bytealg.abigen_runtime_cmpstring"], unfollowed := true, recurses := true, apart := false, narrowed := true }
def RrSetsUptoSaid : Prop := rrSetsUptoRow.holds Try.pinned (OpenSpec.upto rrSetsSpec)

/-- 'gazetteerlaw05.RrNames', WHERE WHAT IT READS IS OF BULK AT MOST 1048576: true; the input reads as it did. -/
def rrNamesUptoRow : OpenClaim := { program := "ythppgofpbpjglaa", sum := "eec5ed8303dc567b13556ceba383c81b455a17d64354bd164545805720b969ce", func := "gazetteer/gazetteerlaw05.RrNames", spec := "rrNames", inPlace := ["internal/bytealg.abigen_runtime_cmpstring"], unfollowed := true, recurses := true, apart := false, narrowed := true }
def RrNamesUptoSaid : Prop := rrNamesUptoRow.holds Try.pinned (OpenSpec.upto rrNamesSpec)

/-- 'gazetteerlaw13.FactOthers', WHERE WHAT IT READS IS OF BULK AT MOST 1048576: true; the input reads as it did. -/
def factOthersUptoRow : OpenClaim := { program := "ythppgofpbpjglaa", sum := "eec5ed8303dc567b13556ceba383c81b455a17d64354bd164545805720b969ce", func := "gazetteer/gazetteerlaw13.FactOthers", spec := "factOthers", inPlace := ["internal/bytealg.abigen_runtime_cmpstring"], unfollowed := true, recurses := true, apart := false, narrowed := true }
def FactOthersUptoSaid : Prop := factOthersUptoRow.holds Try.pinned (OpenSpec.upto factOthersSpec)

/-- 'gazetteerlaw13.FactKeeps', WHERE WHAT IT READS IS OF BULK AT MOST 1048576: true; the input reads as it did. -/
def factKeepsUptoRow : OpenClaim := { program := "ythppgofpbpjglaa", sum := "eec5ed8303dc567b13556ceba383c81b455a17d64354bd164545805720b969ce", func := "gazetteer/gazetteerlaw13.FactKeeps", spec := "factKeeps", inPlace := ["internal/bytealg.abigen_runtime_cmpstring"], unfollowed := true, recurses := true, apart := false, narrowed := true }
def FactKeepsUptoSaid : Prop := factKeepsUptoRow.holds Try.pinned (OpenSpec.upto factKeepsSpec)

end Rows
end Go.Proofs.Ythppgofpbpjglaa
