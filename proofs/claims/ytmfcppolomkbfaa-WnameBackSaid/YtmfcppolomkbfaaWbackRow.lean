/-
  WnameBack, whole: sound names that wname.Writer writes one behind the other, short or not, behind whatever bytes, are read by wname.Get as they are, each up to the place at which the next one begins; and what is short is no longer; up to 60 names behind up to 20,000 bytes (the statement looks at no more). No condition.
-/
import Derived.Test.YtmfcppolomkbfaaEndN
import Derived.Test.YtmfcppolomkbfaaWBackLaw
namespace Go.Proofs.Ytmfcppolomkbfaa
open Go.ChangeShapes Go.WideShapes Go.ChangeAt Go.RowKit

set_option maxRecDepth 100000 in
theorem wback_lifted (os : Os) (started : os.Started) (H : Type) (enc : TypeId × Value → H) :
    ReturnsInHanded {} Try.checked os 5 .any (Rows.wnameBackSpec.pre6 enc Try.prog Try.f5 Rows.wnameBackRow.domain false) (Rows.wnameBackSpec.post enc Try.prog Try.f5 false true false false) := by
  refine returnsInHanded_of_change_sized (C := Try.checked) Try.own started (by kernel_rfl) Try.func5
    (ChangeSpec.witness6 (enc := enc) (C := Try.checked) false ⟨#[], #[.slice none 0 0, .slice none 0 0, .slice none 0 0], []⟩ 8 (by kernel_rfl) (by kernel_rfl) (by kernel_rfl) (by kernel_rfl)) ?_
  intro W base args ds gs before hval0 hW _ hsz0 _
  have hsz : (DataW.weightsEach Try.prog (Try.f5.params.toList ++ Rows.wnameBackSpec.plain.varTypes Try.prog) (ds ++ gs)).all (· ≤ reachBytes) = true := hsz0
  clear hsz0
  have hval : ∀ (j : Nat) t v, Try.f5.params[j]? = some t → args[j]? = some v → Value.okWide Try.prog W .any base t v := hval0
  have hW' := hW
  obtain ⟨p, q, hA0, hV, rfl, _, _⟩ := hW
  have hA : DataW.TrodAll enc Try.prog W 0 (fun _ => true) true Try.f5.params.toList args.toList ds p := hA0
  rw [Try.params5] at hA hval hsz
  obtain ⟨v0, v1, v2, d0, d1, d2, p0, p1, p2, rfl, rfl, rfl, h0, h1, h2⟩ := trodAll_three hA
  obtain ⟨rfl, rfl⟩ := trodVars_none hV
  obtain ⟨A0, c0, vs0, n0, rfl, hn0, hc0, hm0⟩ := open_row_names Try.underlying49 (hval 0 49 v0 rfl rfl) h0 (fun x hx => hW'.lt x (by simp [hx]))
  obtain ⟨A1, m1, c1, l1, rfl, hl1, hr1, hc1, hm1, hd1⟩ := open_row_u8 u8_cells Try.underlying26 (hval 1 26 v1 rfl rfl) h1 (fun x hx => hW'.lt x (by simp [hx]))
  have hk1 := row_reach hsz (j := 1) rfl rfl Try.underlying26 u8_bytes hd1
  obtain ⟨A2, c2, l2, rfl, hr2, hm2⟩ := open_row_bool Try.underlying50 (hval 2 50 v2 rfl rfl) h2 (fun x hx => hW'.lt x (by simp [hx]))
  have key : Calls Try.prog 5 #[.slice A0 n0.length c0, .slice A1 m1 c1, .slice A2 l2.length c2] W (TrueB W) := by
    subst hl1
    exact wback_any A0 A1 A2 c0 c1 c2 vs0 n0 l1 l2 W hn0 hr1 hr2 (Nat.le_trans hc0 hm0) hm1 hm2
  refine key.mono fun e W' ⟨he, hb⟩ => ?_
  subst he
  exact ⟨_, rfl, law_post (P := Try.prog) (tb := 4) Try.laidOut (by kernel_rfl) (by kernel_rfl) (by kernel_rfl) Try.underlying4 rfl hW' rfl rfl rfl hb⟩

theorem wback_holds : Rows.WnameBackSaid :=
  OpenClaim.holds_of_wide 5 Try.f5 rfl rfl rfl rfl rfl rfl rfl ⟨rfl, rfl, rfl, rfl, rfl⟩ rfl rfl rfl rfl rfl (by kernel_rfl) Try.func5 (by kernel_rfl)
    (of_decide_eq_true (by kernel_rfl)) (by unfold Func.isWrapper; first | (rw [if_pos (by decide +kernel)]; kernel_rfl) | (rw [if_neg (by decide +kernel)]; exact ⟨rfl, rfl⟩))
    (fun os started H enc _ => wback_lifted os started H enc)

end Go.Proofs.Ytmfcppolomkbfaa
