/-
  No cell of these rows narrows 'for every input' (looked for: loops, veiled, ifaces, maps, wideKeys, modest, calm, conditions, laid).
  DERIVED. THE GIVEN ROWS OF THIS SEAT. 4 by the template 'for every input the law returns true; each argument reads behind the call as it read before'; 0 by the template 'total and deterministic' (their statements: YtledoajhjkfaoaaTotals.lean).
  GIVEN WITH THE SEED: the statements are not yours to turn. If you find one false, say at which input.
  Laid BY PROGRAM, IN A SANDBOX (cutbox-rows.mjs): the forced cells as the released guide's own fill.sh prints them over the translation 96ec6da5551dfe65… (all of the seat's roots in one cut). By AI agents, Wed Nov 11 2026. No macro, syntax, notation, axiom, sorry.
-/
import Derived.Test.YtledoajhjkfaoaaChecked
import GoSem.Claim
import GoSem.ClaimJoined
import GoSem.ClaimMapViews
import Derived.JoinedTies
import Derived.KernelRfl
namespace Go.Proofs.Ytledoajhjkfaoaa
/- THE CELL 'sum', in the pinned program and in every row, IS THE sha256 OF THE DUMP (.gsa) THAT YtledoajhjkfaoaaProg.lean LOADS. Nothing in Lean hashes anything: it is a label: what it is worth is what the hold of that sum in a sandbox is worth. -/
noncomputable def Try.pinned : Pinned := { name := "ytledoajhjkfaoaa", sum := "96ec6da5551dfe659f0e0c2af053370a62150f215aac6f013bf14c52189e34e3", checked := Try.checked }
namespace Rows
def none {H : Type} : Left H := { results := [], args := [] }

/-- 'gazetteerlaw08.FlashActs': WHATEVER THE INPUT: true; the input reads as it did. -/
def flashActsSpec : ChangeSpec := { name := "flashActs", fn := fun _ => fun
  | [d1, d2] => { results := [.lit (.bool true)], args := [d1, d2] }
  | _ => none }
def flashActsRow : OpenClaim := { program := "ytledoajhjkfaoaa", sum := "96ec6da5551dfe659f0e0c2af053370a62150f215aac6f013bf14c52189e34e3", func := "gazetteer/gazetteerlaw08.FlashActs", spec := "flashActs", apart := false }
def FlashActsSaid : Prop := flashActsRow.holds Try.pinned (OpenSpec.ofChange flashActsSpec)

/-- ITS FALSE NEIGHBOUR: 'it returns false'. Refute it at one input. -/
def flashActsWrong : ChangeSpec := { name := "flashActs", fn := fun _ => fun
  | [d1, d2] => { results := [.lit (.bool false)], args := [d1, d2] }
  | _ => none }
def FlashActsWrongFalsely : Prop := flashActsRow.holds Try.pinned (OpenSpec.ofChange flashActsWrong)

/-- 'gazetteerlaw08.FlashSure': WHATEVER THE INPUT: true; the input reads as it did. -/
def flashSureSpec : ChangeSpec := { name := "flashSure", fn := fun _ => fun
  | [d1, d2, d3, d4] => { results := [.lit (.bool true)], args := [d1, d2, d3, d4] }
  | _ => none }
def flashSureRow : OpenClaim := { program := "ytledoajhjkfaoaa", sum := "96ec6da5551dfe659f0e0c2af053370a62150f215aac6f013bf14c52189e34e3", func := "gazetteer/gazetteerlaw08.FlashSure", spec := "flashSure", apart := false }
def FlashSureSaid : Prop := flashSureRow.holds Try.pinned (OpenSpec.ofChange flashSureSpec)

/-- ITS FALSE NEIGHBOUR: 'it returns false'. Refute it at one input. -/
def flashSureWrong : ChangeSpec := { name := "flashSure", fn := fun _ => fun
  | [d1, d2, d3, d4] => { results := [.lit (.bool false)], args := [d1, d2, d3, d4] }
  | _ => none }
def FlashSureWrongFalsely : Prop := flashSureRow.holds Try.pinned (OpenSpec.ofChange flashSureWrong)

/-- 'gazetteerlaw08.FlashTorn': WHATEVER THE INPUT: true; the input reads as it did. -/
def flashTornSpec : ChangeSpec := { name := "flashTorn", fn := fun _ => fun
  | [d1, d2] => { results := [.lit (.bool true)], args := [d1, d2] }
  | _ => none }
def flashTornRow : OpenClaim := { program := "ytledoajhjkfaoaa", sum := "96ec6da5551dfe659f0e0c2af053370a62150f215aac6f013bf14c52189e34e3", func := "gazetteer/gazetteerlaw08.FlashTorn", spec := "flashTorn", apart := false }
def FlashTornSaid : Prop := flashTornRow.holds Try.pinned (OpenSpec.ofChange flashTornSpec)

/-- ITS FALSE NEIGHBOUR: 'it returns false'. Refute it at one input. -/
def flashTornWrong : ChangeSpec := { name := "flashTorn", fn := fun _ => fun
  | [d1, d2] => { results := [.lit (.bool false)], args := [d1, d2] }
  | _ => none }
def FlashTornWrongFalsely : Prop := flashTornRow.holds Try.pinned (OpenSpec.ofChange flashTornWrong)

/-- 'gazetteerlaw08.FlashApart': WHATEVER THE INPUT: true; the input reads as it did. -/
def flashApartSpec : ChangeSpec := { name := "flashApart", fn := fun _ => fun
  | [d1, d2] => { results := [.lit (.bool true)], args := [d1, d2] }
  | _ => none }
def flashApartRow : OpenClaim := { program := "ytledoajhjkfaoaa", sum := "96ec6da5551dfe659f0e0c2af053370a62150f215aac6f013bf14c52189e34e3", func := "gazetteer/gazetteerlaw08.FlashApart", spec := "flashApart", apart := false }
def FlashApartSaid : Prop := flashApartRow.holds Try.pinned (OpenSpec.ofChange flashApartSpec)

/-- ITS FALSE NEIGHBOUR: 'it returns false'. Refute it at one input. -/
def flashApartWrong : ChangeSpec := { name := "flashApart", fn := fun _ => fun
  | [d1, d2] => { results := [.lit (.bool false)], args := [d1, d2] }
  | _ => none }
def FlashApartWrongFalsely : Prop := flashApartRow.holds Try.pinned (OpenSpec.ofChange flashApartWrong)

/- THE SECOND FORM. 'bulk': how many values and letters a reading holds, each counted each time it is reached (what is shared counts as often as it is met; a slice's spare places count too). A statement '..UptoSaid' is the law's where the arguments, and the package variables that the reading takes, are together of bulk at most 1048576: NARROWER than '..Said'. Prove '..Said' where nothing that the law and all that it calls make is longer than what came in: it says more and counts as full. Else prove '..UptoSaid'. A law counts once. -/
mutual
def uptoBulk {H : Type} : DataW H → Nat
  | .lit (.string bytes) => bytes.length + 1
  | .lit _ => 1
  | .nil => 1
  | .ptr d => uptoBulk d + 1
  | .slice elems spare => uptoBulkAll elems + uptoBulkAll spare + 1
  | .agg parts => uptoBulkAll parts + 1
  | .iface _ d => uptoBulk d + 1
  | .map entries => uptoBulkEntries entries + 1
  | .held _ => 1
def uptoBulkAll {H : Type} : List (DataW H) → Nat
  | [] => 0
  | d :: r => uptoBulk d + uptoBulkAll r
def uptoBulkEntries {H : Type} : List (Lit × DataW H) → Nat
  | [] => 0
  | x :: r => uptoBulkEntry x + uptoBulkEntries r
def uptoBulkEntry {H : Type} : Lit × DataW H → Nat
  | (.string bytes, d) => bytes.length + uptoBulk d + 1
  | (_, d) => uptoBulk d + 1
 end
def uptoSmall : (H : Type) → List (DataW H) → Bool := fun _ ds => decide (uptoBulkAll ds ≤ 1048576)
def OpenSpec.upto (s : _root_.Go.ChangeSpec) : _root_.Go.OpenSpec := { _root_.Go.OpenSpec.ofChange s with cond := some uptoSmall }

/-- 'gazetteerlaw08.FlashActs', WHERE WHAT IT READS IS OF BULK AT MOST 1048576: true; the input reads as it did. -/
def flashActsUptoRow : OpenClaim := { program := "ytledoajhjkfaoaa", sum := "96ec6da5551dfe659f0e0c2af053370a62150f215aac6f013bf14c52189e34e3", func := "gazetteer/gazetteerlaw08.FlashActs", spec := "flashActs", apart := false, narrowed := true }
def FlashActsUptoSaid : Prop := flashActsUptoRow.holds Try.pinned (OpenSpec.upto flashActsSpec)

/-- 'gazetteerlaw08.FlashSure', WHERE WHAT IT READS IS OF BULK AT MOST 1048576: true; the input reads as it did. -/
def flashSureUptoRow : OpenClaim := { program := "ytledoajhjkfaoaa", sum := "96ec6da5551dfe659f0e0c2af053370a62150f215aac6f013bf14c52189e34e3", func := "gazetteer/gazetteerlaw08.FlashSure", spec := "flashSure", apart := false, narrowed := true }
def FlashSureUptoSaid : Prop := flashSureUptoRow.holds Try.pinned (OpenSpec.upto flashSureSpec)

/-- 'gazetteerlaw08.FlashTorn', WHERE WHAT IT READS IS OF BULK AT MOST 1048576: true; the input reads as it did. -/
def flashTornUptoRow : OpenClaim := { program := "ytledoajhjkfaoaa", sum := "96ec6da5551dfe659f0e0c2af053370a62150f215aac6f013bf14c52189e34e3", func := "gazetteer/gazetteerlaw08.FlashTorn", spec := "flashTorn", apart := false, narrowed := true }
def FlashTornUptoSaid : Prop := flashTornUptoRow.holds Try.pinned (OpenSpec.upto flashTornSpec)

/-- 'gazetteerlaw08.FlashApart', WHERE WHAT IT READS IS OF BULK AT MOST 1048576: true; the input reads as it did. -/
def flashApartUptoRow : OpenClaim := { program := "ytledoajhjkfaoaa", sum := "96ec6da5551dfe659f0e0c2af053370a62150f215aac6f013bf14c52189e34e3", func := "gazetteer/gazetteerlaw08.FlashApart", spec := "flashApart", apart := false, narrowed := true }
def FlashApartUptoSaid : Prop := flashApartUptoRow.holds Try.pinned (OpenSpec.upto flashApartSpec)

end Rows
end Go.Proofs.Ytledoajhjkfaoaa
