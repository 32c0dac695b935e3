/-
  DERIVED. GIVEN WITH THE SEED: THE CARDS: each row of YtmbcbfalgdgmjaaGreatDoorRows.lean that lists a variable, with what it lists TIED to the program's text (the seventh form; the later family's looks); each row that meets fmt, with fmt's text TOLD by the authors' own Lean function (tested against real Go, not proved from fmt's source: count such statements apart). THE CARD IS WHAT COUNTS. Prove the row's statement (the work); the ties are given (YtmbcbfalgdgmjaaGreatDoorTie.lean); close each card by the builder's one call (the guide's Derived/Test/ToyasCard.lean, 'card_holds'). Laid BY PROGRAM, IN A SANDBOX (cutbox-door.mjs). By AI agents, Wed Nov 11 2026. No macro, syntax, notation, axiom, sorry.
-/
import Derived.Test.YtmbcbfalgdgmjaaGreatDoorRows
import GoSem.ClaimSeven
namespace Go.Proofs.YtmbcbfalgdgmjaaGreatDoor
namespace Rows

/-- THE TIED CARD OF 'gazetteerlaw14.CacheBeaten'. -/
def cacheBeatenCard : Claim7 := { stood := { row := cacheBeatenRow, standIns := [], harness := (true, "f1a2a363e957a1c53c28f7e04f78e09a852e9ce88784891711f17ff59cd567de"), looks := false }, kinds := [], alts := [], laidByText := true, laidKinds := [.data, .data, .data], laidTests := true, laidLooks := .later }
def CacheBeatenCardSaid : Prop := Claim7.holds Tryz.pinned (.plain (OpenSpec.ofChange cacheBeatenSpec)) cacheBeatenCard

/-- THE TIED CARD OF 'gazetteerlaw14.CacheFlushes'. -/
def cacheFlushesCard : Claim7 := { stood := { row := cacheFlushesRow, standIns := [], harness := (true, "f1a2a363e957a1c53c28f7e04f78e09a852e9ce88784891711f17ff59cd567de"), looks := false }, kinds := [], alts := [], laidByText := true, laidKinds := [.data, .data, .data], laidTests := true, laidLooks := .later }
def CacheFlushesCardSaid : Prop := Claim7.holds Tryz.pinned (.plain (OpenSpec.ofChange cacheFlushesSpec)) cacheFlushesCard

/-- THE TIED CARD OF 'gazetteerlaw14.CacheApart'. -/
def cacheApartCard : Claim7 := { stood := { row := cacheApartRow, standIns := [], harness := (true, "f1a2a363e957a1c53c28f7e04f78e09a852e9ce88784891711f17ff59cd567de"), looks := false }, kinds := [], alts := [], laidByText := true, laidKinds := [.data, .data, .data], laidTests := true, laidLooks := .later }
def CacheApartCardSaid : Prop := Claim7.holds Tryz.pinned (.plain (OpenSpec.ofChange cacheApartSpec)) cacheApartCard

/-- THE TIED CARD OF 'gazetteerlaw14.CacheStale'. -/
def cacheStaleCard : Claim7 := { stood := { row := cacheStaleRow, standIns := [], harness := (true, "f1a2a363e957a1c53c28f7e04f78e09a852e9ce88784891711f17ff59cd567de"), looks := false }, kinds := [], alts := [], laidByText := true, laidKinds := [.data, .data, .data], laidTests := true, laidLooks := .later }
def CacheStaleCardSaid : Prop := Claim7.holds Tryz.pinned (.plain (OpenSpec.ofChange cacheStaleSpec)) cacheStaleCard

/-- THE SECOND FORM's CARD OF 'gazetteerlaw14.CacheBeaten'. -/
def cacheBeatenUptoCard : Claim7 := { stood := { row := cacheBeatenUptoRow, standIns := [], harness := (true, "f1a2a363e957a1c53c28f7e04f78e09a852e9ce88784891711f17ff59cd567de"), looks := false }, kinds := [], alts := [], laidByText := true, laidKinds := [.data, .data, .data], laidTests := true, laidLooks := .later }
def CacheBeatenUptoCardSaid : Prop := Claim7.holds Tryz.pinned (.plain (OpenSpec.upto cacheBeatenSpec)) cacheBeatenUptoCard

/-- THE SECOND FORM's CARD OF 'gazetteerlaw14.CacheFlushes'. -/
def cacheFlushesUptoCard : Claim7 := { stood := { row := cacheFlushesUptoRow, standIns := [], harness := (true, "f1a2a363e957a1c53c28f7e04f78e09a852e9ce88784891711f17ff59cd567de"), looks := false }, kinds := [], alts := [], laidByText := true, laidKinds := [.data, .data, .data], laidTests := true, laidLooks := .later }
def CacheFlushesUptoCardSaid : Prop := Claim7.holds Tryz.pinned (.plain (OpenSpec.upto cacheFlushesSpec)) cacheFlushesUptoCard

/-- THE SECOND FORM's CARD OF 'gazetteerlaw14.CacheApart'. -/
def cacheApartUptoCard : Claim7 := { stood := { row := cacheApartUptoRow, standIns := [], harness := (true, "f1a2a363e957a1c53c28f7e04f78e09a852e9ce88784891711f17ff59cd567de"), looks := false }, kinds := [], alts := [], laidByText := true, laidKinds := [.data, .data, .data], laidTests := true, laidLooks := .later }
def CacheApartUptoCardSaid : Prop := Claim7.holds Tryz.pinned (.plain (OpenSpec.upto cacheApartSpec)) cacheApartUptoCard

/-- THE SECOND FORM's CARD OF 'gazetteerlaw14.CacheStale'. -/
def cacheStaleUptoCard : Claim7 := { stood := { row := cacheStaleUptoRow, standIns := [], harness := (true, "f1a2a363e957a1c53c28f7e04f78e09a852e9ce88784891711f17ff59cd567de"), looks := false }, kinds := [], alts := [], laidByText := true, laidKinds := [.data, .data, .data], laidTests := true, laidLooks := .later }
def CacheStaleUptoCardSaid : Prop := Claim7.holds Tryz.pinned (.plain (OpenSpec.upto cacheStaleSpec)) cacheStaleUptoCard
end Rows
end Go.Proofs.YtmbcbfalgdgmjaaGreatDoor
