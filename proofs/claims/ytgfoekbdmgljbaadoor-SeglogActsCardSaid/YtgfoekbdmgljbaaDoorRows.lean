/-
  NARROWER THAN 'FOR EVERY INPUT', by the rows' own cells (each row's printed sentence says how): SeglogActs: laid · SeglogOpens: laid · SeglogRound: laid.
  DERIVED. THE GIVEN ROWS OF THIS SEAT. 3 by the template 'for every input the law returns true; each argument reads behind the call as it read before'; 0 by the template 'total and deterministic' (their statements: YtgfoekbdmgljbaaDoorTotals.lean).
  GIVEN WITH THE SEED: the statements are not yours to turn. If you find one false, say at which input.
  Laid BY PROGRAM, IN A SANDBOX (cutbox-rows.mjs): the forced cells as the released guide's own fill.sh prints them over the translation 9fb965923d5771ea… (all of the seat's roots in one cut). By AI agents, Wed Nov 11 2026. No macro, syntax, notation, axiom, sorry.
-/
import Derived.Test.YtgfoekbdmgljbaaDoorChecked
import GoSem.Claim
import GoSem.ClaimJoined
import GoSem.ClaimMapViews
import Derived.JoinedTies
import Derived.KernelRfl
namespace Go.Proofs.YtgfoekbdmgljbaaDoor
/- THE CELL 'sum', in the pinned program and in every row, IS THE sha256 OF THE DUMP (.gsa) THAT YtgfoekbdmgljbaaDoorProg.lean LOADS. Nothing in Lean hashes anything: it is a label: what it is worth is what the hold of that sum in a sandbox is worth. -/
noncomputable def Tryd.pinned : Pinned := { name := "ytgfoekbdmgljbaadoor", sum := "9fb965923d5771ea2544dc1b2f9c999398440b26d622f2a9bb82d9280184440c", checked := Tryd.checked }
namespace Rows
def none {H : Type} : Left H := { results := [], args := [] }

/- WHAT THE LISTED PACKAGE-LEVEL VARIABLES READ AS WHEN THE CALL BEGINS. Each datum BY PROGRAM (the guide's laid-datum.mjs) off the statement by which the dump's own 'gosem.cut.vars' lays the variable. In a bare row this is a premise. The card (YtgfoekbdmgljbaaDoorCards.lean) ties it to the program's text. -/
def laid_gazetteer_sector_sizes {H : Type} : DataW H := .agg [.lit (.int .i64 1), .lit (.int .i64 4), .lit (.int .i64 7), .lit (.int .i64 1), .lit (.int .i64 1)]
def laid_gazetteer_super_head {H : Type} : DataW H := .agg [.lit (.int .i64 1), .lit (.int .i64 0), .lit (.int .i64 0), .lit (.int .i64 0), .lit (.int .i64 1)]

/-- 'gazetteerlaw11.SeglogActs': WHATEVER THE INPUT: true; the input reads as it did. -/
def seglogActsSpec : ChangeSpec := { name := "seglogActs", fn := fun _ => fun
  | [d1, d2] => { results := [.lit (.bool true)], args := [d1, d2] }
  | _ => none }
def seglogActsRow : OpenClaim := { program := "ytgfoekbdmgljbaadoor", sum := "9fb965923d5771ea2544dc1b2f9c999398440b26d622f2a9bb82d9280184440c", func := "gazetteer/gazetteerlaw11.SeglogActs", spec := "seglogActs", unfollowed := true, recurses := true, named := ["gazetteer/super.head", "gazetteer/sector.sizes"], apart := false, laid := [("gazetteer/sector.sizes", laid_gazetteer_sector_sizes), ("gazetteer/super.head", laid_gazetteer_super_head)] }
def SeglogActsSaid : Prop := seglogActsRow.holds Tryd.pinned (OpenSpec.ofChange seglogActsSpec)

/-- ITS FALSE NEIGHBOUR: 'it returns false'. Refute it at one input. -/
def seglogActsWrong : ChangeSpec := { name := "seglogActs", fn := fun _ => fun
  | [d1, d2] => { results := [.lit (.bool false)], args := [d1, d2] }
  | _ => none }
def SeglogActsWrongFalsely : Prop := seglogActsRow.holds Tryd.pinned (OpenSpec.ofChange seglogActsWrong)

/-- 'gazetteerlaw11.SeglogOpens': WHATEVER THE INPUT: true; the input reads as it did. -/
def seglogOpensSpec : ChangeSpec := { name := "seglogOpens", fn := fun _ => fun
  | [d1, d2, d3, d4] => { results := [.lit (.bool true)], args := [d1, d2, d3, d4] }
  | _ => none }
def seglogOpensRow : OpenClaim := { program := "ytgfoekbdmgljbaadoor", sum := "9fb965923d5771ea2544dc1b2f9c999398440b26d622f2a9bb82d9280184440c", func := "gazetteer/gazetteerlaw11.SeglogOpens", spec := "seglogOpens", unfollowed := true, recurses := true, named := ["gazetteer/super.head", "gazetteer/sector.sizes"], apart := false, laid := [("gazetteer/sector.sizes", laid_gazetteer_sector_sizes), ("gazetteer/super.head", laid_gazetteer_super_head)] }
def SeglogOpensSaid : Prop := seglogOpensRow.holds Tryd.pinned (OpenSpec.ofChange seglogOpensSpec)

/-- ITS FALSE NEIGHBOUR: 'it returns false'. Refute it at one input. -/
def seglogOpensWrong : ChangeSpec := { name := "seglogOpens", fn := fun _ => fun
  | [d1, d2, d3, d4] => { results := [.lit (.bool false)], args := [d1, d2, d3, d4] }
  | _ => none }
def SeglogOpensWrongFalsely : Prop := seglogOpensRow.holds Tryd.pinned (OpenSpec.ofChange seglogOpensWrong)

/-- 'gazetteerlaw11.SeglogRound': WHATEVER THE INPUT: true; the input reads as it did. -/
def seglogRoundSpec : ChangeSpec := { name := "seglogRound", fn := fun _ => fun
  | [d1, d2] => { results := [.lit (.bool true)], args := [d1, d2] }
  | _ => none }
def seglogRoundRow : OpenClaim := { program := "ytgfoekbdmgljbaadoor", sum := "9fb965923d5771ea2544dc1b2f9c999398440b26d622f2a9bb82d9280184440c", func := "gazetteer/gazetteerlaw11.SeglogRound", spec := "seglogRound", unfollowed := true, recurses := true, named := ["gazetteer/super.head", "gazetteer/sector.sizes"], apart := false, laid := [("gazetteer/sector.sizes", laid_gazetteer_sector_sizes), ("gazetteer/super.head", laid_gazetteer_super_head)] }
def SeglogRoundSaid : Prop := seglogRoundRow.holds Tryd.pinned (OpenSpec.ofChange seglogRoundSpec)

/-- ITS FALSE NEIGHBOUR: 'it returns false'. Refute it at one input. -/
def seglogRoundWrong : ChangeSpec := { name := "seglogRound", fn := fun _ => fun
  | [d1, d2] => { results := [.lit (.bool false)], args := [d1, d2] }
  | _ => none }
def SeglogRoundWrongFalsely : Prop := seglogRoundRow.holds Tryd.pinned (OpenSpec.ofChange seglogRoundWrong)

/- THE SECOND FORM. 'bulk': how many values and letters a reading holds, each counted each time it is reached (what is shared counts as often as it is met; a slice's spare places count too). A statement '..UptoSaid' is the law's where the arguments, and the package variables that the reading takes, are together of bulk at most 1048576: NARROWER than '..Said'. Prove '..Said' where nothing that the law and all that it calls make is longer than what came in: it says more and counts as full. Else prove '..UptoSaid'. A law counts once. -/
mutual
def uptoBulk {H : Type} : DataW H → Nat
  | .lit (.string bytes) => bytes.length + 1
  | .lit _ => 1
  | .nil => 1
  | .ptr d => uptoBulk d + 1
  | .slice elems spare => uptoBulkAll elems + uptoBulkAll spare + 1
  | .agg parts => uptoBulkAll parts + 1
  | .iface _ d => uptoBulk d + 1
  | .map entries => uptoBulkEntries entries + 1
  | .held _ => 1
def uptoBulkAll {H : Type} : List (DataW H) → Nat
  | [] => 0
  | d :: r => uptoBulk d + uptoBulkAll r
def uptoBulkEntries {H : Type} : List (Lit × DataW H) → Nat
  | [] => 0
  | x :: r => uptoBulkEntry x + uptoBulkEntries r
def uptoBulkEntry {H : Type} : Lit × DataW H → Nat
  | (.string bytes, d) => bytes.length + uptoBulk d + 1
  | (_, d) => uptoBulk d + 1
 end
def uptoSmall : (H : Type) → List (DataW H) → Bool := fun _ ds => decide (uptoBulkAll ds ≤ 1048576)
def OpenSpec.upto (s : _root_.Go.ChangeSpec) : _root_.Go.OpenSpec := { _root_.Go.OpenSpec.ofChange s with cond := some uptoSmall }

/-- 'gazetteerlaw11.SeglogActs', WHERE WHAT IT READS IS OF BULK AT MOST 1048576: true; the input reads as it did. -/
def seglogActsUptoRow : OpenClaim := { program := "ytgfoekbdmgljbaadoor", sum := "9fb965923d5771ea2544dc1b2f9c999398440b26d622f2a9bb82d9280184440c", func := "gazetteer/gazetteerlaw11.SeglogActs", spec := "seglogActs", unfollowed := true, recurses := true, named := ["gazetteer/super.head", "gazetteer/sector.sizes"], apart := false, laid := [("gazetteer/sector.sizes", laid_gazetteer_sector_sizes), ("gazetteer/super.head", laid_gazetteer_super_head)], narrowed := true }
def SeglogActsUptoSaid : Prop := seglogActsUptoRow.holds Tryd.pinned (OpenSpec.upto seglogActsSpec)

/-- 'gazetteerlaw11.SeglogOpens', WHERE WHAT IT READS IS OF BULK AT MOST 1048576: true; the input reads as it did. -/
def seglogOpensUptoRow : OpenClaim := { program := "ytgfoekbdmgljbaadoor", sum := "9fb965923d5771ea2544dc1b2f9c999398440b26d622f2a9bb82d9280184440c", func := "gazetteer/gazetteerlaw11.SeglogOpens", spec := "seglogOpens", unfollowed := true, recurses := true, named := ["gazetteer/super.head", "gazetteer/sector.sizes"], apart := false, laid := [("gazetteer/sector.sizes", laid_gazetteer_sector_sizes), ("gazetteer/super.head", laid_gazetteer_super_head)], narrowed := true }
def SeglogOpensUptoSaid : Prop := seglogOpensUptoRow.holds Tryd.pinned (OpenSpec.upto seglogOpensSpec)

/-- 'gazetteerlaw11.SeglogRound', WHERE WHAT IT READS IS OF BULK AT MOST 1048576: true; the input reads as it did. -/
def seglogRoundUptoRow : OpenClaim := { program := "ytgfoekbdmgljbaadoor", sum := "9fb965923d5771ea2544dc1b2f9c999398440b26d622f2a9bb82d9280184440c", func := "gazetteer/gazetteerlaw11.SeglogRound", spec := "seglogRound", unfollowed := true, recurses := true, named := ["gazetteer/super.head", "gazetteer/sector.sizes"], apart := false, laid := [("gazetteer/sector.sizes", laid_gazetteer_sector_sizes), ("gazetteer/super.head", laid_gazetteer_super_head)], narrowed := true }
def SeglogRoundUptoSaid : Prop := seglogRoundUptoRow.holds Tryd.pinned (OpenSpec.upto seglogRoundSpec)

end Rows
end Go.Proofs.YtgfoekbdmgljbaaDoor
