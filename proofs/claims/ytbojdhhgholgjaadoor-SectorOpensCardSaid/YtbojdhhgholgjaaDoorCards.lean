/-
  DERIVED. GIVEN WITH THE SEED: THE CARDS: each row of YtbojdhhgholgjaaDoorRows.lean that lists a variable, with what it lists TIED to the program's text (the seventh form; the later family's looks); each row that meets fmt, with fmt's text TOLD by the authors' own Lean function (tested against real Go, not proved from fmt's source: count such statements apart). THE CARD IS WHAT COUNTS. Prove the row's statement (the work); the ties are given (YtbojdhhgholgjaaDoorTie.lean); close each card by the builder's one call (the guide's Derived/Test/ToyasCard.lean, 'card_holds'). Laid BY PROGRAM, IN A SANDBOX (cutbox-door.mjs). By AI agents, Wed Nov 11 2026. No macro, syntax, notation, axiom, sorry.
-/
import Derived.Test.YtbojdhhgholgjaaDoorRows
import GoSem.ClaimSeven
namespace Go.Proofs.YtbojdhhgholgjaaDoor
namespace Rows

/-- THE TIED CARD OF 'gazetteerlaw09.SectorSeals'. -/
def sectorSealsCard : Claim7 := { stood := { row := sectorSealsRow, standIns := [], harness := (true, "499ad177cdeb73737a339cdddb7f1933d6b24df6fcbafe768200fdd42eaba130"), looks := false }, kinds := [], alts := [], laidByText := true, laidKinds := [.data], laidTests := true, laidLooks := .later }
def SectorSealsCardSaid : Prop := Claim7.holds Tryd.pinned (.plain (OpenSpec.ofChange sectorSealsSpec)) sectorSealsCard

/-- THE TIED CARD OF 'gazetteerlaw09.SectorOpens'. -/
def sectorOpensCard : Claim7 := { stood := { row := sectorOpensRow, standIns := [], harness := (true, "499ad177cdeb73737a339cdddb7f1933d6b24df6fcbafe768200fdd42eaba130"), looks := false }, kinds := [], alts := [], laidByText := true, laidKinds := [.data], laidTests := true, laidLooks := .later }
def SectorOpensCardSaid : Prop := Claim7.holds Tryd.pinned (.plain (OpenSpec.ofChange sectorOpensSpec)) sectorOpensCard

/-- THE TIED CARD OF 'gazetteerlaw09.SectorBack'. -/
def sectorBackCard : Claim7 := { stood := { row := sectorBackRow, standIns := [], harness := (true, "499ad177cdeb73737a339cdddb7f1933d6b24df6fcbafe768200fdd42eaba130"), looks := false }, kinds := [], alts := [], laidByText := true, laidKinds := [.data], laidTests := true, laidLooks := .later }
def SectorBackCardSaid : Prop := Claim7.holds Tryd.pinned (.plain (OpenSpec.ofChange sectorBackSpec)) sectorBackCard

/-- THE TIED CARD OF 'gazetteerlaw09.SectorParts'. -/
def sectorPartsCard : Claim7 := { stood := { row := sectorPartsRow, standIns := [], harness := (true, "499ad177cdeb73737a339cdddb7f1933d6b24df6fcbafe768200fdd42eaba130"), looks := false }, kinds := [], alts := [], laidByText := true, laidKinds := [.data], laidTests := true, laidLooks := .later }
def SectorPartsCardSaid : Prop := Claim7.holds Tryd.pinned (.plain (OpenSpec.ofChange sectorPartsSpec)) sectorPartsCard

/-- THE SECOND FORM's CARD OF 'gazetteerlaw09.SectorSeals'. -/
def sectorSealsUptoCard : Claim7 := { stood := { row := sectorSealsUptoRow, standIns := [], harness := (true, "499ad177cdeb73737a339cdddb7f1933d6b24df6fcbafe768200fdd42eaba130"), looks := false }, kinds := [], alts := [], laidByText := true, laidKinds := [.data], laidTests := true, laidLooks := .later }
def SectorSealsUptoCardSaid : Prop := Claim7.holds Tryd.pinned (.plain (OpenSpec.upto sectorSealsSpec)) sectorSealsUptoCard

/-- THE SECOND FORM's CARD OF 'gazetteerlaw09.SectorOpens'. -/
def sectorOpensUptoCard : Claim7 := { stood := { row := sectorOpensUptoRow, standIns := [], harness := (true, "499ad177cdeb73737a339cdddb7f1933d6b24df6fcbafe768200fdd42eaba130"), looks := false }, kinds := [], alts := [], laidByText := true, laidKinds := [.data], laidTests := true, laidLooks := .later }
def SectorOpensUptoCardSaid : Prop := Claim7.holds Tryd.pinned (.plain (OpenSpec.upto sectorOpensSpec)) sectorOpensUptoCard

/-- THE SECOND FORM's CARD OF 'gazetteerlaw09.SectorBack'. -/
def sectorBackUptoCard : Claim7 := { stood := { row := sectorBackUptoRow, standIns := [], harness := (true, "499ad177cdeb73737a339cdddb7f1933d6b24df6fcbafe768200fdd42eaba130"), looks := false }, kinds := [], alts := [], laidByText := true, laidKinds := [.data], laidTests := true, laidLooks := .later }
def SectorBackUptoCardSaid : Prop := Claim7.holds Tryd.pinned (.plain (OpenSpec.upto sectorBackSpec)) sectorBackUptoCard

/-- THE SECOND FORM's CARD OF 'gazetteerlaw09.SectorParts'. -/
def sectorPartsUptoCard : Claim7 := { stood := { row := sectorPartsUptoRow, standIns := [], harness := (true, "499ad177cdeb73737a339cdddb7f1933d6b24df6fcbafe768200fdd42eaba130"), looks := false }, kinds := [], alts := [], laidByText := true, laidKinds := [.data], laidTests := true, laidLooks := .later }
def SectorPartsUptoCardSaid : Prop := Claim7.holds Tryd.pinned (.plain (OpenSpec.upto sectorPartsSpec)) sectorPartsUptoCard
end Rows
end Go.Proofs.YtbojdhhgholgjaaDoor
