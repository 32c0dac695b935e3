/-
  DERIVED. GIVEN WITH THE SEED: THE CARDS: each row of YtgfoekbdmgljbaaDoorRows.lean that lists a variable, with what it lists TIED to the program's text (the seventh form; the later family's looks); each row that meets fmt, with fmt's text TOLD by the authors' own Lean function (tested against real Go, not proved from fmt's source: count such statements apart). THE CARD IS WHAT COUNTS. Prove the row's statement (the work); the ties are given (YtgfoekbdmgljbaaDoorTie.lean); close each card by the builder's one call (the guide's Derived/Test/ToyasCard.lean, 'card_holds'). Laid BY PROGRAM, IN A SANDBOX (cutbox-door.mjs). By AI agents, Wed Nov 11 2026. No macro, syntax, notation, axiom, sorry.
-/
import Derived.Test.YtgfoekbdmgljbaaDoorRows
import GoSem.ClaimSeven
namespace Go.Proofs.YtgfoekbdmgljbaaDoor
namespace Rows

/-- THE TIED CARD OF 'gazetteerlaw11.SeglogActs'. -/
def seglogActsCard : Claim7 := { stood := { row := seglogActsRow, standIns := [], harness := (true, "4b932ca14a00481600e92bc449df539577302f982311e540564713276a0e8660"), looks := false }, kinds := [], alts := [], laidByText := true, laidKinds := [.data, .data], laidTests := true, laidLooks := .later }
def SeglogActsCardSaid : Prop := Claim7.holds Tryd.pinned (.plain (OpenSpec.ofChange seglogActsSpec)) seglogActsCard

/-- THE TIED CARD OF 'gazetteerlaw11.SeglogOpens'. -/
def seglogOpensCard : Claim7 := { stood := { row := seglogOpensRow, standIns := [], harness := (true, "4b932ca14a00481600e92bc449df539577302f982311e540564713276a0e8660"), looks := false }, kinds := [], alts := [], laidByText := true, laidKinds := [.data, .data], laidTests := true, laidLooks := .later }
def SeglogOpensCardSaid : Prop := Claim7.holds Tryd.pinned (.plain (OpenSpec.ofChange seglogOpensSpec)) seglogOpensCard

/-- THE TIED CARD OF 'gazetteerlaw11.SeglogRound'. -/
def seglogRoundCard : Claim7 := { stood := { row := seglogRoundRow, standIns := [], harness := (true, "4b932ca14a00481600e92bc449df539577302f982311e540564713276a0e8660"), looks := false }, kinds := [], alts := [], laidByText := true, laidKinds := [.data, .data], laidTests := true, laidLooks := .later }
def SeglogRoundCardSaid : Prop := Claim7.holds Tryd.pinned (.plain (OpenSpec.ofChange seglogRoundSpec)) seglogRoundCard

/-- THE SECOND FORM's CARD OF 'gazetteerlaw11.SeglogActs'. -/
def seglogActsUptoCard : Claim7 := { stood := { row := seglogActsUptoRow, standIns := [], harness := (true, "4b932ca14a00481600e92bc449df539577302f982311e540564713276a0e8660"), looks := false }, kinds := [], alts := [], laidByText := true, laidKinds := [.data, .data], laidTests := true, laidLooks := .later }
def SeglogActsUptoCardSaid : Prop := Claim7.holds Tryd.pinned (.plain (OpenSpec.upto seglogActsSpec)) seglogActsUptoCard

/-- THE SECOND FORM's CARD OF 'gazetteerlaw11.SeglogOpens'. -/
def seglogOpensUptoCard : Claim7 := { stood := { row := seglogOpensUptoRow, standIns := [], harness := (true, "4b932ca14a00481600e92bc449df539577302f982311e540564713276a0e8660"), looks := false }, kinds := [], alts := [], laidByText := true, laidKinds := [.data, .data], laidTests := true, laidLooks := .later }
def SeglogOpensUptoCardSaid : Prop := Claim7.holds Tryd.pinned (.plain (OpenSpec.upto seglogOpensSpec)) seglogOpensUptoCard

/-- THE SECOND FORM's CARD OF 'gazetteerlaw11.SeglogRound'. -/
def seglogRoundUptoCard : Claim7 := { stood := { row := seglogRoundUptoRow, standIns := [], harness := (true, "4b932ca14a00481600e92bc449df539577302f982311e540564713276a0e8660"), looks := false }, kinds := [], alts := [], laidByText := true, laidKinds := [.data, .data], laidTests := true, laidLooks := .later }
def SeglogRoundUptoCardSaid : Prop := Claim7.holds Tryd.pinned (.plain (OpenSpec.upto seglogRoundSpec)) seglogRoundUptoCard
end Rows
end Go.Proofs.YtgfoekbdmgljbaaDoor
