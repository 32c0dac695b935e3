/-
  NameCases, whole: capital letters, put wherever the third argument says, change nothing of what name.Equal, name.Cmp, name.Under and name.Lower answer. No condition.
-/
import Derived.Test.YtiegneopolffoaaEndS
import Derived.Test.YtiegneopolffoaaCasesLaw
namespace Go.Proofs.Ytiegneopolffoaa
open Go.ChangeShapes Go.WideShapes Go.ChangeAt Go.RowKit

set_option maxRecDepth 100000 in
theorem cases_lifted (os : Os) (started : os.Started) (H : Type) (enc : TypeId × Value → H) :
    ReturnsInHanded {} Try.checked os 7 .any (Rows.nameCasesSpec.pre6 enc Try.prog Try.f7 Rows.nameCasesRow.domain false) (Rows.nameCasesSpec.post enc Try.prog Try.f7 false true false false) := by
  refine returnsInHanded_of_change_sized (C := Try.checked) Try.own started (by kernel_rfl) Try.func7
    (ChangeSpec.witness6 (enc := enc) (C := Try.checked) false ⟨#[], #[.slice none 0 0, .slice none 0 0, .slice none 0 0], []⟩ 8 (by kernel_rfl) (by kernel_rfl) (by kernel_rfl) (by kernel_rfl)) ?_
  intro W base args ds gs before hval0 hW _ hsz0 _
  have hsz : (DataW.weightsEach Try.prog (Try.f7.params.toList ++ Rows.nameCasesSpec.plain.varTypes Try.prog) (ds ++ gs)).all (· ≤ reachBytes) = true := hsz0
  clear hsz0
  have hval : ∀ (j : Nat) t v, Try.f7.params[j]? = some t → args[j]? = some v → Value.okWide Try.prog W .any base t v := hval0
  have hW' := hW
  obtain ⟨p, q, hA0, hV, rfl, _, _⟩ := hW
  have hA : DataW.TrodAll enc Try.prog W 0 (fun _ => true) true Try.f7.params.toList args.toList ds p := hA0
  rw [Try.params7] at hA hval hsz
  obtain ⟨v0, v1, v2, d0, d1, d2, p0, p1, p2, rfl, rfl, rfl, h0, h1, h2⟩ := trodAll_three hA
  obtain ⟨rfl, rfl⟩ := trodVars_none hV
  obtain ⟨A0, c0, n0, rfl, hn0, hc0⟩ := open_row_str str_cells Try.underlying22 (hval 0 22 v0 rfl rfl) h0 (fun x hx => hW'.lt x (by simp [hx])) hsz (j := 0) rfl rfl
  obtain ⟨A1, c1, n1, rfl, hn1, hc1⟩ := open_row_str str_cells Try.underlying22 (hval 1 22 v1 rfl rfl) h1 (fun x hx => hW'.lt x (by simp [hx])) hsz (j := 1) rfl rfl
  obtain ⟨A2, m2, c2, l2, rfl, hl2, hr2, hc2, hm2, hd2⟩ := open_row_u8 u8_cells Try.underlying33 (hval 2 33 v2 rfl rfl) h2 (fun x hx => hW'.lt x (by simp [hx]))
  have hk2 := row_reach hsz (j := 2) rfl rfl Try.underlying33 u8_bytes hd2
  have key : Calls Try.prog 7 #[.slice A0 n0.length c0, .slice A1 n1.length c1, .slice A2 m2 c2] W (TrueB W) := by
    exact cases_any A0 A1 A2 c0 c1 m2 c2 n0 n1 l2 W hn0 hn1 hr2 hl2 hm2
  refine key.mono fun e W' ⟨he, hb⟩ => ?_
  subst he
  exact ⟨_, rfl, law_post (P := Try.prog) (tb := 4) Try.laidOut (by kernel_rfl) (by kernel_rfl) (by kernel_rfl) Try.underlying4 rfl hW' rfl rfl rfl hb⟩

theorem cases_holds : Rows.NameCasesSaid :=
  OpenClaim.holds_of_wide 7 Try.f7 rfl rfl rfl rfl rfl rfl rfl ⟨rfl, rfl, rfl, rfl, rfl⟩ rfl rfl rfl rfl rfl (by kernel_rfl) Try.func7 (by kernel_rfl)
    (of_decide_eq_true (by kernel_rfl)) (by unfold Func.isWrapper; first | (rw [if_pos (by decide +kernel)]; kernel_rfl) | (rw [if_neg (by decide +kernel)]; exact ⟨rfl, rfl⟩))
    (fun os started H enc _ => cases_lifted os started H enc)

end Go.Proofs.Ytiegneopolffoaa
