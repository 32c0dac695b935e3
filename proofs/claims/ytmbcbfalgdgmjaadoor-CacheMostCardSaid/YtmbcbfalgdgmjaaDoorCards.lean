/-
  DERIVED. GIVEN WITH THE SEED: THE CARDS: each row of YtmbcbfalgdgmjaaDoorRows.lean that lists a variable, with what it lists TIED to the program's text (the seventh form; the later family's looks); each row that meets fmt, with fmt's text TOLD by the authors' own Lean function (tested against real Go, not proved from fmt's source: count such statements apart). THE CARD IS WHAT COUNTS. Prove the row's statement (the work); the ties are given (YtmbcbfalgdgmjaaDoorTie.lean); close each card by the builder's one call (the guide's Derived/Test/ToyasCard.lean, 'card_holds'). Laid BY PROGRAM, IN A SANDBOX (cutbox-door.mjs). By AI agents, Wed Nov 11 2026. No macro, syntax, notation, axiom, sorry.
-/
import Derived.Test.YtmbcbfalgdgmjaaDoorRows
import GoSem.ClaimSeven
namespace Go.Proofs.YtmbcbfalgdgmjaaDoor
namespace Rows

/-- THE TIED CARD OF 'gazetteerlaw14.CacheMost'. -/
def cacheMostCard : Claim7 := { stood := { row := cacheMostRow, standIns := [], harness := (true, "060ff8a145cba62712d2ba76c8244205df39d250e0e5eefdd2cc7f7760162ae8"), looks := false }, kinds := [], alts := [], laidByText := true, laidKinds := [.data, .data, .data], laidTests := true, laidLooks := .later }
def CacheMostCardSaid : Prop := Claim7.holds Tryd.pinned (.plain (OpenSpec.ofChange cacheMostSpec)) cacheMostCard

/-- THE SECOND FORM's CARD OF 'gazetteerlaw14.CacheMost'. -/
def cacheMostUptoCard : Claim7 := { stood := { row := cacheMostUptoRow, standIns := [], harness := (true, "060ff8a145cba62712d2ba76c8244205df39d250e0e5eefdd2cc7f7760162ae8"), looks := false }, kinds := [], alts := [], laidByText := true, laidKinds := [.data, .data, .data], laidTests := true, laidLooks := .later }
def CacheMostUptoCardSaid : Prop := Claim7.holds Tryd.pinned (.plain (OpenSpec.upto cacheMostSpec)) cacheMostUptoCard
end Rows
end Go.Proofs.YtmbcbfalgdgmjaaDoor
