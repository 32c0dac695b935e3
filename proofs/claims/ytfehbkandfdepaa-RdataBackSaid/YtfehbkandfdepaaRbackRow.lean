/-
  RdataBack, whole: sound data, written by rdata.Put behind and ahead of whatever bytes, is read by rdata.Get as it is, with all of its bytes used and not without the last one; behind and ahead of up to 5,000 bytes, and data as RdataSame looks at (the statement looks at no other). No condition.
-/
import Derived.Test.YtfehbkandfdepaaEndD
import Derived.Test.YtfehbkandfdepaaRBackLaw
namespace Go.Proofs.Ytfehbkandfdepaa
open Go.ChangeShapes Go.WideShapes Go.ChangeAt Go.RowKit

set_option maxRecDepth 100000 in
theorem rback_lifted (os : Os) (started : os.Started) (H : Type) (enc : TypeId × Value → H) :
    ReturnsInHanded {} Try.checked os 4 .any (Rows.rdataBackSpec.pre6 enc Try.prog Try.f4 Rows.rdataBackRow.domain false) (Rows.rdataBackSpec.post enc Try.prog Try.f4 false true false false) := by
  refine returnsInHanded_of_change_sized (C := Try.checked) Try.own started (by kernel_rfl) Try.func4
    (ChangeSpec.witness6 (enc := enc) (C := Try.checked) false ⟨#[], #[.int .i64 0, .agg #[.slice none 0 0, .slice none 0 0, .slice none 0 0, .slice none 0 0, .slice none 0 0], .slice none 0 0, .slice none 0 0], []⟩ 8 (by kernel_rfl) (by kernel_rfl) (by kernel_rfl) (by kernel_rfl)) ?_
  intro W base args ds gs before hval0 hW _ hsz0 _
  have hsz : (DataW.weightsEach Try.prog (Try.f4.params.toList ++ Rows.rdataBackSpec.plain.varTypes Try.prog) (ds ++ gs)).all (· ≤ reachBytes) = true := hsz0
  clear hsz0
  have hval : ∀ (j : Nat) t v, Try.f4.params[j]? = some t → args[j]? = some v → Value.okWide Try.prog W .any base t v := hval0
  have hW' := hW
  obtain ⟨p, q, hA0, hV, rfl, _, _⟩ := hW
  have hA : DataW.TrodAll enc Try.prog W 0 (fun _ => true) true Try.f4.params.toList args.toList ds p := hA0
  rw [Try.params4] at hA hval hsz
  obtain ⟨v0, v1, v2, v3, d0, d1, d2, d3, p0, p1, p2, p3, rfl, rfl, rfl, h0, h1, h2, h3⟩ := trodAll_four hA
  obtain ⟨rfl, rfl⟩ := trodVars_none hV
  obtain ⟨n0, rfl, rfl, rfl, w0⟩ := open_int Try.underlying3 (hval 0 3 v0 rfl rfl) h0
  obtain ⟨x1, d1, rfl, hx1, hd1⟩ := open_data (hval 1 26 v1 rfl rfl) h1 (fun x hx => hW'.lt x (by simp [hx]))
  obtain ⟨A2, m2, c2, l2, rfl, hl2, hr2, hc2, hm2, hd2⟩ := open_row_u8 u8_cells Try.underlying22 (hval 2 22 v2 rfl rfl) h2 (fun x hx => hW'.lt x (by simp [hx]))
  have hk2 := row_reach hsz (j := 2) rfl rfl Try.underlying22 u8_bytes hd2
  obtain ⟨A3, m3, c3, l3, rfl, hl3, hr3, hc3, hm3, hd3⟩ := open_row_u8 u8_cells Try.underlying22 (hval 3 22 v3 rfl rfl) h3 (fun x hx => hW'.lt x (by simp [hx]))
  have hk3 := row_reach hsz (j := 3) rfl rfl Try.underlying22 u8_bytes hd3
  have key : Calls Try.prog 4 #[.int .i64 n0, x1.val d1, .slice A2 m2 c2, .slice A3 m3 c3] W (TrueB W) := by
    subst hl2 hl3
    exact rback_any n0 x1 d1 A2 A3 c2 c3 l2 l3 W hx1 hd1 hr2 hr3 hm2 hm3
  refine key.mono fun e W' ⟨he, hb⟩ => ?_
  subst he
  exact ⟨_, rfl, law_post (P := Try.prog) (tb := 4) Try.laidOut (by kernel_rfl) (by kernel_rfl) (by kernel_rfl) Try.underlying4 rfl hW' rfl rfl rfl hb⟩

theorem rback_holds : Rows.RdataBackSaid :=
  OpenClaim.holds_of_wide 4 Try.f4 rfl rfl rfl rfl rfl rfl rfl ⟨rfl, rfl, rfl, rfl, rfl⟩ rfl rfl rfl rfl rfl (by kernel_rfl) Try.func4 (by kernel_rfl)
    (of_decide_eq_true (by kernel_rfl)) (by unfold Func.isWrapper; first | (rw [if_pos (by decide +kernel)]; kernel_rfl) | (rw [if_neg (by decide +kernel)]; exact ⟨rfl, rfl⟩))
    (fun os started H enc _ => rback_lifted os started H enc)

end Go.Proofs.Ytfehbkandfdepaa
