/-
  RrSets, whole: of any records, rr.Set answers the data of those of a name and a type, each once and in order, and their least TTL, as the document says; rr.Same holds it against any other data as the document says, and the same the other way round, and it is the same as itself; records as RrOrder looks at, names of up to 200 labels, up to 60 other data (the statement looks at no others). No condition.
-/
import Derived.Test.YtjjmllbkfbdcnaaEndR
import Derived.Test.YtjjmllbkfbdcnaaRSetsLaw
namespace Go.Proofs.Ytjjmllbkfbdcnaa
open Go.ChangeShapes Go.WideShapes Go.ChangeAt Go.RowKit

set_option maxRecDepth 100000 in
theorem rrsets_lifted (os : Os) (started : os.Started) (H : Type) (enc : TypeId × Value → H) :
    ReturnsInHanded {} Try.checked os 6 .any (Rows.rrSetsSpec.pre6 enc Try.prog Try.f6 Rows.rrSetsRow.domain false) (Rows.rrSetsSpec.post enc Try.prog Try.f6 false true false false) := by
  refine returnsInHanded_of_change_sized (C := Try.checked) Try.own started (by kernel_rfl) Try.func6
    (ChangeSpec.witness6 (enc := enc) (C := Try.checked) false ⟨#[], #[.slice none 0 0, .slice none 0 0, .int .i64 0, .slice none 0 0], []⟩ 8 (by kernel_rfl) (by kernel_rfl) (by kernel_rfl) (by kernel_rfl)) ?_
  intro W base args ds gs before hval0 hW _ hsz0 _
  have hsz : (DataW.weightsEach Try.prog (Try.f6.params.toList ++ Rows.rrSetsSpec.plain.varTypes Try.prog) (ds ++ gs)).all (· ≤ reachBytes) = true := hsz0
  clear hsz0
  have hval : ∀ (j : Nat) t v, Try.f6.params[j]? = some t → args[j]? = some v → Value.okWide Try.prog W .any base t v := hval0
  have hW' := hW
  obtain ⟨p, q, hA0, hV, rfl, _, _⟩ := hW
  have hA : DataW.TrodAll enc Try.prog W 0 (fun _ => true) true Try.f6.params.toList args.toList ds p := hA0
  rw [Try.params6] at hA hval hsz
  obtain ⟨v0, v1, v2, v3, d0, d1, d2, d3, p0, p1, p2, p3, rfl, rfl, rfl, h0, h1, h2, h3⟩ := trodAll_four hA
  obtain ⟨rfl, rfl⟩ := trodVars_none hV
  obtain ⟨A0, c0, ps0, rfl, hp0, hr0, hc0, hm0⟩ := open_rrs Try.underlying47 (hval 0 47 v0 rfl rfl) h0 (fun x hx => hW'.lt x (by simp [hx]))
  obtain ⟨A1, c1, n1, rfl, hn1, hc1⟩ := open_row_str str_cells Try.underlying23 (hval 1 23 v1 rfl rfl) h1 (fun x hx => hW'.lt x (by simp [hx])) hsz (j := 1) rfl rfl
  obtain ⟨n2, rfl, rfl, rfl, w2⟩ := open_int Try.underlying3 (hval 2 3 v2 rfl rfl) h2
  obtain ⟨A3, c3, ps3, rfl, hp3, hr3, hc3, hm3⟩ := open_dats Try.underlying58 (hval 3 58 v3 rfl rfl) h3 (fun x hx => hW'.lt x (by simp [hx]))
  have key : Calls Try.prog 6 #[.slice A0 ps0.length c0, .slice A1 n1.length c1, .int .i64 n2, .slice A3 ps3.length c3] W (TrueB W) := by
    exact rrsets_any W A0 c0 ps0 A1 n1 c1 n2 A3 ps3 c3 hp0 hr0 (Nat.le_trans hc0 hm0) hn1 hp3 (fun p hp => (hr3 p hp).wide) (Nat.le_trans hc3 hm3)
  refine key.mono fun e W' ⟨he, hb⟩ => ?_
  subst he
  exact ⟨_, rfl, law_post (P := Try.prog) (tb := 4) Try.laidOut (by kernel_rfl) (by kernel_rfl) (by kernel_rfl) Try.underlying4 rfl hW' rfl rfl rfl hb⟩

theorem rrsets_holds : Rows.RrSetsSaid :=
  OpenClaim.holds_of_wide 6 Try.f6 rfl rfl rfl rfl rfl rfl rfl ⟨rfl, rfl, rfl, rfl, rfl⟩ rfl rfl rfl rfl rfl (by kernel_rfl) Try.func6 (by kernel_rfl)
    (of_decide_eq_true (by kernel_rfl)) (by unfold Func.isWrapper; first | (rw [if_pos (by decide +kernel)]; kernel_rfl) | (rw [if_neg (by decide +kernel)]; exact ⟨rfl, rfl⟩))
    (fun os started H enc _ => rrsets_lifted os started H enc)

end Go.Proofs.Ytjjmllbkfbdcnaa
