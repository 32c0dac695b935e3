/-
  DERIVED. GIVEN WITH THE SEED: THE CARDS: each row of YthjcpficpiddaaaDoorRows.lean that lists a variable, with what it lists TIED to the program's text (the seventh form; the later family's looks); each row that meets fmt, with fmt's text TOLD by the authors' own Lean function (tested against real Go, not proved from fmt's source: count such statements apart). THE CARD IS WHAT COUNTS. Prove the row's statement (the work); the ties are given (YthjcpficpiddaaaDoorTie.lean); close each card by the builder's one call (the guide's Derived/Test/ToyasCard.lean, 'card_holds'). Laid BY PROGRAM, IN A SANDBOX (cutbox-door.mjs). By AI agents, Wed Nov 11 2026. No macro, syntax, notation, axiom, sorry.
-/
import Derived.Test.YthjcpficpiddaaaDoorRows
import GoSem.ClaimSeven
namespace Go.Proofs.YthjcpficpiddaaaDoor
namespace Rows

/-- THE TIED CARD OF 'gazetteerlaw10.SuperCuts'. -/
def superCutsCard : Claim7 := { stood := { row := superCutsRow, standIns := [], harness := (true, "b8485e4997e7f6cdc212e160667cf64a7d03e5ec1f2511e56190b1c90fded2b2"), looks := false }, kinds := [], alts := [], laidByText := true, laidKinds := [.data, .data], laidTests := true, laidLooks := .later }
def SuperCutsCardSaid : Prop := Claim7.holds Tryd.pinned (.plain (OpenSpec.ofChange superCutsSpec)) superCutsCard

/-- THE TIED CARD OF 'gazetteerlaw10.SuperNil'. -/
def superNilCard : Claim7 := { stood := { row := superNilRow, standIns := [], harness := (true, "b8485e4997e7f6cdc212e160667cf64a7d03e5ec1f2511e56190b1c90fded2b2"), looks := false }, kinds := [], alts := [], laidByText := true, laidKinds := [.data, .data], laidTests := true, laidLooks := .later }
def SuperNilCardSaid : Prop := Claim7.holds Tryd.pinned (.plain (OpenSpec.ofChange superNilSpec)) superNilCard

/-- THE SECOND FORM's CARD OF 'gazetteerlaw10.SuperCuts'. -/
def superCutsUptoCard : Claim7 := { stood := { row := superCutsUptoRow, standIns := [], harness := (true, "b8485e4997e7f6cdc212e160667cf64a7d03e5ec1f2511e56190b1c90fded2b2"), looks := false }, kinds := [], alts := [], laidByText := true, laidKinds := [.data, .data], laidTests := true, laidLooks := .later }
def SuperCutsUptoCardSaid : Prop := Claim7.holds Tryd.pinned (.plain (OpenSpec.upto superCutsSpec)) superCutsUptoCard

/-- THE SECOND FORM's CARD OF 'gazetteerlaw10.SuperNil'. -/
def superNilUptoCard : Claim7 := { stood := { row := superNilUptoRow, standIns := [], harness := (true, "b8485e4997e7f6cdc212e160667cf64a7d03e5ec1f2511e56190b1c90fded2b2"), looks := false }, kinds := [], alts := [], laidByText := true, laidKinds := [.data, .data], laidTests := true, laidLooks := .later }
def SuperNilUptoCardSaid : Prop := Claim7.holds Tryd.pinned (.plain (OpenSpec.upto superNilSpec)) superNilUptoCard
end Rows
end Go.Proofs.YthjcpficpiddaaaDoor
