/-
  NARROWER THAN 'FOR EVERY INPUT', by the rows' own cells (each row's printed sentence says how): SuperCuts: laid · SuperNil: laid.
  DERIVED. THE GIVEN ROWS OF THIS SEAT. 2 by the template 'for every input the law returns true; each argument reads behind the call as it read before'; 0 by the template 'total and deterministic' (their statements: YthjcpficpiddaaaDoorTotals.lean).
  GIVEN WITH THE SEED: the statements are not yours to turn. If you find one false, say at which input.
  Laid BY PROGRAM, IN A SANDBOX (cutbox-rows.mjs): the forced cells as the released guide's own fill.sh prints them over the translation ea4d5b87161530fb… (all of the seat's roots in one cut). By AI agents, Wed Nov 11 2026. No macro, syntax, notation, axiom, sorry.
-/
import Derived.Test.YthjcpficpiddaaaDoorChecked
import GoSem.Claim
import GoSem.ClaimJoined
import GoSem.ClaimMapViews
import Derived.JoinedTies
import Derived.KernelRfl
namespace Go.Proofs.YthjcpficpiddaaaDoor
/- THE CELL 'sum', in the pinned program and in every row, IS THE sha256 OF THE DUMP (.gsa) THAT YthjcpficpiddaaaDoorProg.lean LOADS. Nothing in Lean hashes anything: it is a label: what it is worth is what the hold of that sum in a sandbox is worth. -/
noncomputable def Tryd.pinned : Pinned := { name := "ythjcpficpiddaaadoor", sum := "ea4d5b87161530fbff277ab99b6dbe3e6a2b7e0ae8c22f5e34de3b2c74b1c8a8", checked := Tryd.checked }
namespace Rows
def none {H : Type} : Left H := { results := [], args := [] }

/- WHAT THE LISTED PACKAGE-LEVEL VARIABLES READ AS WHEN THE CALL BEGINS. Each datum BY PROGRAM (the guide's laid-datum.mjs) off the statement by which the dump's own 'gosem.cut.vars' lays the variable. In a bare row this is a premise. The card (YthjcpficpiddaaaDoorCards.lean) ties it to the program's text. -/
def laid_gazetteer_sector_sizes {H : Type} : DataW H := .agg [.lit (.int .i64 1), .lit (.int .i64 4), .lit (.int .i64 7), .lit (.int .i64 1), .lit (.int .i64 1)]
def laid_gazetteer_super_head {H : Type} : DataW H := .agg [.lit (.int .i64 1), .lit (.int .i64 0), .lit (.int .i64 0), .lit (.int .i64 0), .lit (.int .i64 1)]

/-- 'gazetteerlaw10.SuperCuts': WHATEVER THE INPUT: true; the input reads as it did. -/
def superCutsSpec : ChangeSpec := { name := "superCuts", fn := fun _ => fun
  | [d1, d2, d3, d4] => { results := [.lit (.bool true)], args := [d1, d2, d3, d4] }
  | _ => none }
def superCutsRow : OpenClaim := { program := "ythjcpficpiddaaadoor", sum := "ea4d5b87161530fbff277ab99b6dbe3e6a2b7e0ae8c22f5e34de3b2c74b1c8a8", func := "gazetteer/gazetteerlaw10.SuperCuts", spec := "superCuts", named := ["gazetteer/super.head", "gazetteer/sector.sizes"], apart := false, laid := [("gazetteer/sector.sizes", laid_gazetteer_sector_sizes), ("gazetteer/super.head", laid_gazetteer_super_head)] }
def SuperCutsSaid : Prop := superCutsRow.holds Tryd.pinned (OpenSpec.ofChange superCutsSpec)

/-- ITS FALSE NEIGHBOUR: 'it returns false'. Refute it at one input. -/
def superCutsWrong : ChangeSpec := { name := "superCuts", fn := fun _ => fun
  | [d1, d2, d3, d4] => { results := [.lit (.bool false)], args := [d1, d2, d3, d4] }
  | _ => none }
def SuperCutsWrongFalsely : Prop := superCutsRow.holds Tryd.pinned (OpenSpec.ofChange superCutsWrong)

/-- 'gazetteerlaw10.SuperNil': WHATEVER THE INPUT: true; the input reads as it did. -/
def superNilSpec : ChangeSpec := { name := "superNil", fn := fun _ => fun
  | [d] => { results := [.lit (.bool true)], args := [d] }
  | _ => none }
def superNilRow : OpenClaim := { program := "ythjcpficpiddaaadoor", sum := "ea4d5b87161530fbff277ab99b6dbe3e6a2b7e0ae8c22f5e34de3b2c74b1c8a8", func := "gazetteer/gazetteerlaw10.SuperNil", spec := "superNil", named := ["gazetteer/super.head", "gazetteer/sector.sizes"], apart := false, laid := [("gazetteer/sector.sizes", laid_gazetteer_sector_sizes), ("gazetteer/super.head", laid_gazetteer_super_head)] }
def SuperNilSaid : Prop := superNilRow.holds Tryd.pinned (OpenSpec.ofChange superNilSpec)

/-- ITS FALSE NEIGHBOUR: 'it returns false'. Refute it at one input. -/
def superNilWrong : ChangeSpec := { name := "superNil", fn := fun _ => fun
  | [d] => { results := [.lit (.bool false)], args := [d] }
  | _ => none }
def SuperNilWrongFalsely : Prop := superNilRow.holds Tryd.pinned (OpenSpec.ofChange superNilWrong)

/- THE SECOND FORM. 'bulk': how many values and letters a reading holds, each counted each time it is reached (what is shared counts as often as it is met; a slice's spare places count too). A statement '..UptoSaid' is the law's where the arguments, and the package variables that the reading takes, are together of bulk at most 1048576: NARROWER than '..Said'. Prove '..Said' where nothing that the law and all that it calls make is longer than what came in: it says more and counts as full. Else prove '..UptoSaid'. A law counts once. -/
mutual
def uptoBulk {H : Type} : DataW H → Nat
  | .lit (.string bytes) => bytes.length + 1
  | .lit _ => 1
  | .nil => 1
  | .ptr d => uptoBulk d + 1
  | .slice elems spare => uptoBulkAll elems + uptoBulkAll spare + 1
  | .agg parts => uptoBulkAll parts + 1
  | .iface _ d => uptoBulk d + 1
  | .map entries => uptoBulkEntries entries + 1
  | .held _ => 1
def uptoBulkAll {H : Type} : List (DataW H) → Nat
  | [] => 0
  | d :: r => uptoBulk d + uptoBulkAll r
def uptoBulkEntries {H : Type} : List (Lit × DataW H) → Nat
  | [] => 0
  | x :: r => uptoBulkEntry x + uptoBulkEntries r
def uptoBulkEntry {H : Type} : Lit × DataW H → Nat
  | (.string bytes, d) => bytes.length + uptoBulk d + 1
  | (_, d) => uptoBulk d + 1
 end
def uptoSmall : (H : Type) → List (DataW H) → Bool := fun _ ds => decide (uptoBulkAll ds ≤ 1048576)
def OpenSpec.upto (s : _root_.Go.ChangeSpec) : _root_.Go.OpenSpec := { _root_.Go.OpenSpec.ofChange s with cond := some uptoSmall }

/-- 'gazetteerlaw10.SuperCuts', WHERE WHAT IT READS IS OF BULK AT MOST 1048576: true; the input reads as it did. -/
def superCutsUptoRow : OpenClaim := { program := "ythjcpficpiddaaadoor", sum := "ea4d5b87161530fbff277ab99b6dbe3e6a2b7e0ae8c22f5e34de3b2c74b1c8a8", func := "gazetteer/gazetteerlaw10.SuperCuts", spec := "superCuts", named := ["gazetteer/super.head", "gazetteer/sector.sizes"], apart := false, laid := [("gazetteer/sector.sizes", laid_gazetteer_sector_sizes), ("gazetteer/super.head", laid_gazetteer_super_head)], narrowed := true }
def SuperCutsUptoSaid : Prop := superCutsUptoRow.holds Tryd.pinned (OpenSpec.upto superCutsSpec)

/-- 'gazetteerlaw10.SuperNil', WHERE WHAT IT READS IS OF BULK AT MOST 1048576: true; the input reads as it did. -/
def superNilUptoRow : OpenClaim := { program := "ythjcpficpiddaaadoor", sum := "ea4d5b87161530fbff277ab99b6dbe3e6a2b7e0ae8c22f5e34de3b2c74b1c8a8", func := "gazetteer/gazetteerlaw10.SuperNil", spec := "superNil", named := ["gazetteer/super.head", "gazetteer/sector.sizes"], apart := false, laid := [("gazetteer/sector.sizes", laid_gazetteer_sector_sizes), ("gazetteer/super.head", laid_gazetteer_super_head)], narrowed := true }
def SuperNilUptoSaid : Prop := superNilUptoRow.holds Tryd.pinned (OpenSpec.upto superNilSpec)

end Rows
end Go.Proofs.YthjcpficpiddaaaDoor
