/-
  FlashTorn, whole: whatever the bytes (512 at most: the statement writes no more), a sector that a Crash tore can't be read till it is written; then it has what was written, and behind a Sync a Crash leaves it so; without one the sector is torn again. No condition.
-/
import Derived.Test.YtledoajhjkfaoaaEnd
import Derived.Test.YtledoajhjkfaoaaVTornLaw
namespace Go.Proofs.Ytledoajhjkfaoaa
open Go.ChangeShapes Go.WideShapes Go.ChangeAt Go.RowKit

set_option maxRecDepth 100000 in
theorem vtorn_lifted (os : Os) (started : os.Started) (H : Type) (enc : TypeId × Value → H) :
    ReturnsInHanded {} Try.checked os 5 .any (Rows.flashTornSpec.pre6 enc Try.prog Try.f5 Rows.flashTornRow.domain false) (Rows.flashTornSpec.post enc Try.prog Try.f5 false true false false) := by
  refine returnsInHanded_of_change_sized (C := Try.checked) Try.own started (by kernel_rfl) Try.func5
    (ChangeSpec.witness6 (enc := enc) (C := Try.checked) false ⟨#[], #[.slice none 0 0, .bool false], []⟩ 8 (by kernel_rfl) (by kernel_rfl) (by kernel_rfl) (by kernel_rfl)) ?_
  intro W base args ds gs before hval0 hW _ hsz0 _
  have hsz : (DataW.weightsEach Try.prog (Try.f5.params.toList ++ Rows.flashTornSpec.plain.varTypes Try.prog) (ds ++ gs)).all (· ≤ reachBytes) = true := hsz0
  clear hsz0
  have hval : ∀ (j : Nat) t v, Try.f5.params[j]? = some t → args[j]? = some v → Value.okWide Try.prog W .any base t v := hval0
  have hW' := hW
  obtain ⟨p, q, hA0, hV, rfl, _, _⟩ := hW
  have hA : DataW.TrodAll enc Try.prog W 0 (fun _ => true) true Try.f5.params.toList args.toList ds p := hA0
  rw [Try.params5] at hA hval hsz
  obtain ⟨v0, v1, d0, d1, p0, p1, rfl, rfl, rfl, h0, h1⟩ := trodAll_two hA
  obtain ⟨rfl, rfl⟩ := trodVars_none hV
  obtain ⟨A0, m0, c0, l0, rfl, hl0, hr0, hc0, hm0, hd0⟩ := open_row_u8 u8_cells Try.underlying30 (hval 0 30 v0 rfl rfl) h0 (fun x hx => hW'.lt x (by simp [hx]))
  have hk0 := row_reach hsz (j := 0) rfl rfl Try.underlying30 u8_bytes hd0
  obtain ⟨b1, rfl, rfl, rfl⟩ := open_bool Try.underlying4 (hval 1 4 v1 rfl rfl) h1
  have key : Calls Try.prog 5 #[.slice A0 m0 c0, .bool b1] W (TrueB W) := by
    subst hl0
    by_cases h5 : l0.length ≤ 512
    · exact torn_short A0 c0 l0 b1 W hr0 h5
    · exact torn_long A0 c0 l0.length b1 W hm0 (by omega)
  refine key.mono fun e W' ⟨he, hb⟩ => ?_
  subst he
  exact ⟨_, rfl, law_post (P := Try.prog) (tb := 4) Try.laidOut (by kernel_rfl) (by kernel_rfl) (by kernel_rfl) Try.underlying4 rfl hW' rfl rfl rfl hb⟩

theorem vtorn_holds : Rows.FlashTornSaid :=
  OpenClaim.holds_of_wide 5 Try.f5 rfl rfl rfl rfl rfl rfl rfl ⟨rfl, rfl, rfl, rfl, rfl⟩ rfl rfl rfl rfl rfl (by kernel_rfl) Try.func5 (by kernel_rfl)
    (of_decide_eq_true (by kernel_rfl)) (by unfold Func.isWrapper; first | (rw [if_pos (by decide +kernel)]; kernel_rfl) | (rw [if_neg (by decide +kernel)]; exact ⟨rfl, rfl⟩))
    (fun os started H enc _ => vtorn_lifted os started H enc)

end Go.Proofs.Ytledoajhjkfaoaa
