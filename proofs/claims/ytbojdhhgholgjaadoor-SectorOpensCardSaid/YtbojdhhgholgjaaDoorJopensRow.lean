/-
  SectorOpens, tied: whatever the bytes (2000 at most: the statement looks at no more), filled up with noughts or not, and whatever 20 of them at most are changed to, Open tells what the document says. The package variable sizes holds what the program's text lays (the card ties it). No other condition.
-/
import Derived.Test.YtbojdhhgholgjaaDoorJEnd
import Derived.Test.YtbojdhhgholgjaaDoorJOpensLaw
import Derived.Test.YtbojdhhgholgjaaDoorJEndU
namespace Go.Proofs.YtbojdhhgholgjaaDoor
open Go.ChangeShapes Go.WideShapes Go.ChangeAt Go.RowKit

set_option maxRecDepth 100000 in
theorem jopens_lifted (os : Os) (started : os.Started) (H : Type) (enc : TypeId × Value → H) :
    ReturnsInHanded {} Tryd.checked os 4 .any (fun w args => (Rows.sectorOpensSpec.pre enc Tryd.prog Tryd.f4 [] false w args ∧ laidMetH Tryd.prog laidL w) ∧ sizedMet enc Tryd.prog Tryd.f4 (OpenSpec.ofChange Rows.sectorOpensSpec) false w args)
      (Rows.sectorOpensSpec.post enc Tryd.prog Tryd.f4 false true false false) := by
  refine returnsInHanded_of_change_and (C := Tryd.checked) (X := fun w _ => laidMetH Tryd.prog laidL w) (fun _ _ _ hh h => h.of_heap hh) Tryd.own started (by kernel_rfl) Tryd.func4
    (ChangeSpec.witness_shaped (enc := enc) (C := Tryd.checked) (os := os) (X := fun w _ => laidMetH Tryd.prog laidL w) false (World.laidAll Tryd.prog os laidL) #[.slice none 0 0, .slice none 0 0, .slice none 0 0] 8 (World.laidAll_os _ _ _)
      (World.shaped_of_ZipB (by kernel_rfl) (by kernel_rfl)) (by kernel_rfl) (by kernel_rfl) (by kernel_rfl)
      (by rw [MakeChecks.laidMetH_plain _ _ _ (by kernel_rfl)]; exact laidMet_laidAll _ (by kernel_rfl) (by kernel_rfl))) ?_
  intro W base args ds gs before hval0 hW _ hsz0 hL0 _
  have hL := sizes_of_laid hL0
  clear hL0
  have hsz : (DataW.weightsEach Tryd.prog (Tryd.f4.params.toList ++ Rows.sectorOpensSpec.plain.varTypes Tryd.prog) (ds ++ gs)).all (· ≤ reachBytes) = true := hsz0
  clear hsz0
  have hval : ∀ (j : Nat) t v, Tryd.f4.params[j]? = some t → args[j]? = some v → Value.okWide Tryd.prog W .any base t v := hval0
  have hW' := hW
  obtain ⟨p, q, hA0, hV, rfl, _, _⟩ := hW
  have hA : DataW.TrodAll enc Tryd.prog W 0 (fun _ => true) true Tryd.f4.params.toList args.toList ds p := hA0
  rw [Tryd.params4] at hA hval hsz
  obtain ⟨v0, v1, v2, d0, d1, d2, p0, p1, p2, rfl, rfl, rfl, h0, h1, h2⟩ := trodAll_three hA
  obtain ⟨rfl, rfl⟩ := trodVars_none hV
  obtain ⟨A0, m0, c0, l0, rfl, hl0, hr0, hc0, hm0, hd0⟩ := open_row_u8 u8_cells Tryd.underlying24 (hval 0 24 v0 rfl rfl) h0 (fun x hx => hW'.lt x (by simp [hx]))
  have hk0 := row_reach hsz (j := 0) rfl rfl Tryd.underlying24 u8_bytes hd0
  obtain ⟨A1, m1, c1, l1, rfl, hl1, hr1, hm1, hq1⟩ := open_row_u16 (hval 1 32 v1 rfl rfl) h1 (fun x hx => hW'.lt x (by simp [hx]))
  obtain ⟨A2, m2, c2, l2, rfl, hl2, hr2, hc2, hm2, hd2⟩ := open_row_u8 u8_cells Tryd.underlying24 (hval 2 24 v2 rfl rfl) h2 (fun x hx => hW'.lt x (by simp [hx]))
  have hk2 := row_reach hsz (j := 2) rfl rfl Tryd.underlying24 u8_bytes hd2
  have key : Calls Tryd.prog 4 #[.slice A0 m0 c0, .slice A1 m1 c1, .slice A2 m2 c2] W (TrueB W) := by
    exact opens_any A0 m0 c0 l0 A1 m1 c1 l1 A2 m2 c2 l2 W hL hl0 hr0 hk0 hl1 hr1 hq1 hm1 hl2 hr2 hm2
  refine key.mono fun e W' ⟨he, hb⟩ => ?_
  subst he
  exact ⟨_, rfl, law_post (P := Tryd.prog) (tb := 4) Tryd.laidOut (by kernel_rfl) (by kernel_rfl) (by kernel_rfl) Tryd.underlying4 rfl hW' rfl rfl rfl hb⟩

theorem jopens_holds : Rows.SectorOpensSaid :=
  OpenClaim.holds_of_wide 4 Tryd.f4 rfl rfl rfl rfl rfl rfl rfl ⟨rfl, rfl, rfl, rfl, rfl⟩ rfl rfl rfl rfl rfl (by kernel_rfl) Tryd.func4 (by kernel_rfl)
    (of_decide_eq_true (by kernel_rfl)) (by unfold Func.isWrapper; first | (rw [if_pos (by decide +kernel)]; kernel_rfl) | (rw [if_neg (by decide +kernel)]; exact ⟨rfl, rfl⟩))
    (fun os started H enc _ => jopens_lifted os started H enc)

theorem jopens_card : Rows.SectorOpensCardSaid :=
  Claim7.holds_tied_plain_at .later [] [.data] true Rows.sectorOpensCard.stood.harness false jopens_holds (fun _ h => by cases h) (by kernel_rfl) (fun _ h => by cases h) sectorOpens_row_tie rfl ⟨rfl, rfl⟩ (by kernel_rfl) rfl
    (fun f fn hf hfn => by
      obtain rfl : f = 4 := Option.some.inj ((show Tryd.prog.funcNamed "gazetteer/gazetteerlaw09.SectorOpens" = some 4 by kernel_rfl).symm.trans hf) |>.symm
      obtain rfl : fn = Tryd.f4 := (Option.some.inj (Tryd.func4.symm.trans hfn)).symm
      exact ⟨by kernel_rfl, fun j t ht => by
        rw [Tryd.params4] at ht
        have hm : t ∈ [24, 32, 24] := by simpa using Array.mem_of_getElem? ht
        have hall : ([24, 32, 24].all fun u => !Tryd.prog.wantsStandIn u) = true := by kernel_rfl
        exact (show Tryd.prog.wantsStandIn t = false by simpa using List.all_eq_true.1 hall t hm)⟩)
    (by kernel_rfl)

end Go.Proofs.YtbojdhhgholgjaaDoor
