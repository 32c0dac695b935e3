/-
  FlashSure, whole: whatever was written and made sure, and whatever is written over it then, a Crash leaves each sector as the last one of these that its bits let be done or torn says, and where there is none as it was sure; the first 8 byte lists, up to 512 bytes each, and the first 64 bytes (the statement looks at no others). No condition.
-/
import Derived.Test.YtledoajhjkfaoaaEnd
import Derived.Test.YtledoajhjkfaoaaVSureLaw
import Derived.Test.YtledoajhjkfaoaaVEndU
namespace Go.Proofs.Ytledoajhjkfaoaa
open Go.ChangeShapes Go.WideShapes Go.ChangeAt Go.RowKit

set_option maxRecDepth 100000 in
theorem vsure_lifted (os : Os) (started : os.Started) (H : Type) (enc : TypeId × Value → H) :
    ReturnsInHanded {} Try.checked os 4 .any (Rows.flashSureSpec.pre6 enc Try.prog Try.f4 Rows.flashSureRow.domain false) (Rows.flashSureSpec.post enc Try.prog Try.f4 false true false false) := by
  refine returnsInHanded_of_change_sized (C := Try.checked) Try.own started (by kernel_rfl) Try.func4
    (ChangeSpec.witness6 (enc := enc) (C := Try.checked) false ⟨#[], #[.slice none 0 0, .slice none 0 0, .int .u64 0, .int .u64 0], []⟩ 8 (by kernel_rfl) (by kernel_rfl) (by kernel_rfl) (by kernel_rfl)) ?_
  intro W base args ds gs before hval0 hW _ hsz0 _
  have hsz : (DataW.weightsEach Try.prog (Try.f4.params.toList ++ Rows.flashSureSpec.plain.varTypes Try.prog) (ds ++ gs)).all (· ≤ reachBytes) = true := hsz0
  clear hsz0
  have hval : ∀ (j : Nat) t v, Try.f4.params[j]? = some t → args[j]? = some v → Value.okWide Try.prog W .any base t v := hval0
  have hW' := hW
  obtain ⟨p, q, hA0, hV, rfl, _, _⟩ := hW
  have hA : DataW.TrodAll enc Try.prog W 0 (fun _ => true) true Try.f4.params.toList args.toList ds p := hA0
  rw [Try.params4] at hA hval hsz
  obtain ⟨v0, v1, v2, v3, d0, d1, d2, d3, p0, p1, p2, p3, rfl, rfl, rfl, h0, h1, h2, h3⟩ := trodAll_four hA
  obtain ⟨rfl, rfl⟩ := trodVars_none hV
  obtain ⟨A0, c0, vs0, ls0, rfl, hr0, hm0⟩ := open_row_bytes Try.underlying51 (hval 0 51 v0 rfl rfl) h0 (fun x hx => hW'.lt x (by simp [hx]))
  obtain ⟨A1, m1, c1, l1, rfl, hl1, hr1, hc1, hm1, hd1⟩ := open_row_u8 u8_cells Try.underlying30 (hval 1 30 v1 rfl rfl) h1 (fun x hx => hW'.lt x (by simp [hx]))
  have hk1 := row_reach hsz (j := 1) rfl rfl Try.underlying30 u8_bytes hd1
  obtain ⟨n2, rfl, rfl, rfl, w2⟩ := open_int Try.underlying31 (hval 2 31 v2 rfl rfl) h2
  obtain ⟨n3, rfl, rfl, rfl, w3⟩ := open_int Try.underlying31 (hval 3 31 v3 rfl rfl) h3
  have key : Calls Try.prog 4 #[.slice A0 ls0.length c0, .slice A1 m1 c1, .int .u64 n2, .int .u64 n3] W (TrueB W) := by
    subst hl1
    obtain ⟨k2, rfl⟩ := u64_nat w2
    obtain ⟨k3, rfl⟩ := u64_nat w3
    exact sure_any A0 c0 vs0 ls0 A1 c1 l1 k2 k3 W hr0 hm0 hr1 hm1 (u64_lt w2) (u64_lt w3)
  refine key.mono fun e W' ⟨he, hb⟩ => ?_
  subst he
  exact ⟨_, rfl, law_post (P := Try.prog) (tb := 4) Try.laidOut (by kernel_rfl) (by kernel_rfl) (by kernel_rfl) Try.underlying4 rfl hW' rfl rfl rfl hb⟩

theorem vsure_holds : Rows.FlashSureSaid :=
  OpenClaim.holds_of_wide 4 Try.f4 rfl rfl rfl rfl rfl rfl rfl ⟨rfl, rfl, rfl, rfl, rfl⟩ rfl rfl rfl rfl rfl (by kernel_rfl) Try.func4 (by kernel_rfl)
    (of_decide_eq_true (by kernel_rfl)) (by unfold Func.isWrapper; first | (rw [if_pos (by decide +kernel)]; kernel_rfl) | (rw [if_neg (by decide +kernel)]; exact ⟨rfl, rfl⟩))
    (fun os started H enc _ => vsure_lifted os started H enc)

end Go.Proofs.Ytledoajhjkfaoaa
