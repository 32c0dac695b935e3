/-
  NARROWER THAN 'FOR EVERY INPUT', by the rows' own cells (each row's printed sentence says how): SectorSeals: laid · SectorOpens: laid · SectorBack: laid · SectorParts: laid.
  DERIVED. THE GIVEN ROWS OF THIS SEAT. 4 by the template 'for every input the law returns true; each argument reads behind the call as it read before'; 0 by the template 'total and deterministic' (their statements: YtbojdhhgholgjaaDoorTotals.lean).
  GIVEN WITH THE SEED: the statements are not yours to turn. If you find one false, say at which input.
  Laid BY PROGRAM, IN A SANDBOX (cutbox-rows.mjs): the forced cells as the released guide's own fill.sh prints them over the translation 32ac08bd0a5b5786… (all of the seat's roots in one cut). By AI agents, Wed Nov 11 2026. No macro, syntax, notation, axiom, sorry.
-/
import Derived.Test.YtbojdhhgholgjaaDoorChecked
import GoSem.Claim
import GoSem.ClaimJoined
import GoSem.ClaimMapViews
import Derived.JoinedTies
import Derived.KernelRfl
namespace Go.Proofs.YtbojdhhgholgjaaDoor
/- THE CELL 'sum', in the pinned program and in every row, IS THE sha256 OF THE DUMP (.gsa) THAT YtbojdhhgholgjaaDoorProg.lean LOADS. Nothing in Lean hashes anything: it is a label: what it is worth is what the hold of that sum in a sandbox is worth. -/
noncomputable def Tryd.pinned : Pinned := { name := "ytbojdhhgholgjaadoor", sum := "32ac08bd0a5b578672e74692624b7a5f1a58d7e6cb651052616a4d749c751c89", checked := Tryd.checked }
namespace Rows
def none {H : Type} : Left H := { results := [], args := [] }

/- WHAT THE LISTED PACKAGE-LEVEL VARIABLES READ AS WHEN THE CALL BEGINS. Each datum BY PROGRAM (the guide's laid-datum.mjs) off the statement by which the dump's own 'gosem.cut.vars' lays the variable. In a bare row this is a premise. The card (YtbojdhhgholgjaaDoorCards.lean) ties it to the program's text. -/
def laid_gazetteer_sector_sizes {H : Type} : DataW H := .agg [.lit (.int .i64 1), .lit (.int .i64 4), .lit (.int .i64 7), .lit (.int .i64 1), .lit (.int .i64 1)]

/-- 'gazetteerlaw09.SectorSeals': WHATEVER THE INPUT: true; the input reads as it did. -/
def sectorSealsSpec : ChangeSpec := { name := "sectorSeals", fn := fun _ => fun
  | [d1, d2] => { results := [.lit (.bool true)], args := [d1, d2] }
  | _ => none }
def sectorSealsRow : OpenClaim := { program := "ytbojdhhgholgjaadoor", sum := "32ac08bd0a5b578672e74692624b7a5f1a58d7e6cb651052616a4d749c751c89", func := "gazetteer/gazetteerlaw09.SectorSeals", spec := "sectorSeals", named := ["gazetteer/sector.sizes"], apart := false, laid := [("gazetteer/sector.sizes", laid_gazetteer_sector_sizes)] }
def SectorSealsSaid : Prop := sectorSealsRow.holds Tryd.pinned (OpenSpec.ofChange sectorSealsSpec)

/-- ITS FALSE NEIGHBOUR: 'it returns false'. Refute it at one input. -/
def sectorSealsWrong : ChangeSpec := { name := "sectorSeals", fn := fun _ => fun
  | [d1, d2] => { results := [.lit (.bool false)], args := [d1, d2] }
  | _ => none }
def SectorSealsWrongFalsely : Prop := sectorSealsRow.holds Tryd.pinned (OpenSpec.ofChange sectorSealsWrong)

/-- 'gazetteerlaw09.SectorOpens': WHATEVER THE INPUT: true; the input reads as it did. -/
def sectorOpensSpec : ChangeSpec := { name := "sectorOpens", fn := fun _ => fun
  | [d1, d2, d3] => { results := [.lit (.bool true)], args := [d1, d2, d3] }
  | _ => none }
def sectorOpensRow : OpenClaim := { program := "ytbojdhhgholgjaadoor", sum := "32ac08bd0a5b578672e74692624b7a5f1a58d7e6cb651052616a4d749c751c89", func := "gazetteer/gazetteerlaw09.SectorOpens", spec := "sectorOpens", named := ["gazetteer/sector.sizes"], apart := false, laid := [("gazetteer/sector.sizes", laid_gazetteer_sector_sizes)] }
def SectorOpensSaid : Prop := sectorOpensRow.holds Tryd.pinned (OpenSpec.ofChange sectorOpensSpec)

/-- ITS FALSE NEIGHBOUR: 'it returns false'. Refute it at one input. -/
def sectorOpensWrong : ChangeSpec := { name := "sectorOpens", fn := fun _ => fun
  | [d1, d2, d3] => { results := [.lit (.bool false)], args := [d1, d2, d3] }
  | _ => none }
def SectorOpensWrongFalsely : Prop := sectorOpensRow.holds Tryd.pinned (OpenSpec.ofChange sectorOpensWrong)

/-- 'gazetteerlaw09.SectorBack': WHATEVER THE INPUT: true; the input reads as it did. -/
def sectorBackSpec : ChangeSpec := { name := "sectorBack", fn := fun _ => fun
  | [d1, d2] => { results := [.lit (.bool true)], args := [d1, d2] }
  | _ => none }
def sectorBackRow : OpenClaim := { program := "ytbojdhhgholgjaadoor", sum := "32ac08bd0a5b578672e74692624b7a5f1a58d7e6cb651052616a4d749c751c89", func := "gazetteer/gazetteerlaw09.SectorBack", spec := "sectorBack", named := ["gazetteer/sector.sizes"], apart := false, laid := [("gazetteer/sector.sizes", laid_gazetteer_sector_sizes)] }
def SectorBackSaid : Prop := sectorBackRow.holds Tryd.pinned (OpenSpec.ofChange sectorBackSpec)

/-- ITS FALSE NEIGHBOUR: 'it returns false'. Refute it at one input. -/
def sectorBackWrong : ChangeSpec := { name := "sectorBack", fn := fun _ => fun
  | [d1, d2] => { results := [.lit (.bool false)], args := [d1, d2] }
  | _ => none }
def SectorBackWrongFalsely : Prop := sectorBackRow.holds Tryd.pinned (OpenSpec.ofChange sectorBackWrong)

/-- 'gazetteerlaw09.SectorParts': WHATEVER THE INPUT: true; the input reads as it did. -/
def sectorPartsSpec : ChangeSpec := { name := "sectorParts", fn := fun _ => fun
  | [d1, d2, d3] => { results := [.lit (.bool true)], args := [d1, d2, d3] }
  | _ => none }
def sectorPartsRow : OpenClaim := { program := "ytbojdhhgholgjaadoor", sum := "32ac08bd0a5b578672e74692624b7a5f1a58d7e6cb651052616a4d749c751c89", func := "gazetteer/gazetteerlaw09.SectorParts", spec := "sectorParts", named := ["gazetteer/sector.sizes"], apart := false, laid := [("gazetteer/sector.sizes", laid_gazetteer_sector_sizes)] }
def SectorPartsSaid : Prop := sectorPartsRow.holds Tryd.pinned (OpenSpec.ofChange sectorPartsSpec)

/-- ITS FALSE NEIGHBOUR: 'it returns false'. Refute it at one input. -/
def sectorPartsWrong : ChangeSpec := { name := "sectorParts", fn := fun _ => fun
  | [d1, d2, d3] => { results := [.lit (.bool false)], args := [d1, d2, d3] }
  | _ => none }
def SectorPartsWrongFalsely : Prop := sectorPartsRow.holds Tryd.pinned (OpenSpec.ofChange sectorPartsWrong)

/- THE SECOND FORM. 'bulk': how many values and letters a reading holds, each counted each time it is reached (what is shared counts as often as it is met; a slice's spare places count too). A statement '..UptoSaid' is the law's where the arguments, and the package variables that the reading takes, are together of bulk at most 1048576: NARROWER than '..Said'. Prove '..Said' where nothing that the law and all that it calls make is longer than what came in: it says more and counts as full. Else prove '..UptoSaid'. A law counts once. -/
mutual
def uptoBulk {H : Type} : DataW H → Nat
  | .lit (.string bytes) => bytes.length + 1
  | .lit _ => 1
  | .nil => 1
  | .ptr d => uptoBulk d + 1
  | .slice elems spare => uptoBulkAll elems + uptoBulkAll spare + 1
  | .agg parts => uptoBulkAll parts + 1
  | .iface _ d => uptoBulk d + 1
  | .map entries => uptoBulkEntries entries + 1
  | .held _ => 1
def uptoBulkAll {H : Type} : List (DataW H) → Nat
  | [] => 0
  | d :: r => uptoBulk d + uptoBulkAll r
def uptoBulkEntries {H : Type} : List (Lit × DataW H) → Nat
  | [] => 0
  | x :: r => uptoBulkEntry x + uptoBulkEntries r
def uptoBulkEntry {H : Type} : Lit × DataW H → Nat
  | (.string bytes, d) => bytes.length + uptoBulk d + 1
  | (_, d) => uptoBulk d + 1
 end
def uptoSmall : (H : Type) → List (DataW H) → Bool := fun _ ds => decide (uptoBulkAll ds ≤ 1048576)
def OpenSpec.upto (s : _root_.Go.ChangeSpec) : _root_.Go.OpenSpec := { _root_.Go.OpenSpec.ofChange s with cond := some uptoSmall }

/-- 'gazetteerlaw09.SectorSeals', WHERE WHAT IT READS IS OF BULK AT MOST 1048576: true; the input reads as it did. -/
def sectorSealsUptoRow : OpenClaim := { program := "ytbojdhhgholgjaadoor", sum := "32ac08bd0a5b578672e74692624b7a5f1a58d7e6cb651052616a4d749c751c89", func := "gazetteer/gazetteerlaw09.SectorSeals", spec := "sectorSeals", named := ["gazetteer/sector.sizes"], apart := false, laid := [("gazetteer/sector.sizes", laid_gazetteer_sector_sizes)], narrowed := true }
def SectorSealsUptoSaid : Prop := sectorSealsUptoRow.holds Tryd.pinned (OpenSpec.upto sectorSealsSpec)

/-- 'gazetteerlaw09.SectorOpens', WHERE WHAT IT READS IS OF BULK AT MOST 1048576: true; the input reads as it did. -/
def sectorOpensUptoRow : OpenClaim := { program := "ytbojdhhgholgjaadoor", sum := "32ac08bd0a5b578672e74692624b7a5f1a58d7e6cb651052616a4d749c751c89", func := "gazetteer/gazetteerlaw09.SectorOpens", spec := "sectorOpens", named := ["gazetteer/sector.sizes"], apart := false, laid := [("gazetteer/sector.sizes", laid_gazetteer_sector_sizes)], narrowed := true }
def SectorOpensUptoSaid : Prop := sectorOpensUptoRow.holds Tryd.pinned (OpenSpec.upto sectorOpensSpec)

/-- 'gazetteerlaw09.SectorBack', WHERE WHAT IT READS IS OF BULK AT MOST 1048576: true; the input reads as it did. -/
def sectorBackUptoRow : OpenClaim := { program := "ytbojdhhgholgjaadoor", sum := "32ac08bd0a5b578672e74692624b7a5f1a58d7e6cb651052616a4d749c751c89", func := "gazetteer/gazetteerlaw09.SectorBack", spec := "sectorBack", named := ["gazetteer/sector.sizes"], apart := false, laid := [("gazetteer/sector.sizes", laid_gazetteer_sector_sizes)], narrowed := true }
def SectorBackUptoSaid : Prop := sectorBackUptoRow.holds Tryd.pinned (OpenSpec.upto sectorBackSpec)

/-- 'gazetteerlaw09.SectorParts', WHERE WHAT IT READS IS OF BULK AT MOST 1048576: true; the input reads as it did. -/
def sectorPartsUptoRow : OpenClaim := { program := "ytbojdhhgholgjaadoor", sum := "32ac08bd0a5b578672e74692624b7a5f1a58d7e6cb651052616a4d749c751c89", func := "gazetteer/gazetteerlaw09.SectorParts", spec := "sectorParts", named := ["gazetteer/sector.sizes"], apart := false, laid := [("gazetteer/sector.sizes", laid_gazetteer_sector_sizes)], narrowed := true }
def SectorPartsUptoSaid : Prop := sectorPartsUptoRow.holds Tryd.pinned (OpenSpec.upto sectorPartsSpec)

end Rows
end Go.Proofs.YtbojdhhgholgjaaDoor
