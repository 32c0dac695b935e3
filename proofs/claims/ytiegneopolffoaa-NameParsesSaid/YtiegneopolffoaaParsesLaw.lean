/-
  NameParses: which name a text is, or that it is none.
-/
import Derived.Test.YtiegneopolffoaaNAnswers
import Derived.Test.YtiegneopolffoaaExact
import Derived.Test.YtiegneopolffoaaParse
import Derived.Test.YtiegneopolffoaaRefParse
namespace Go.Proofs.Ytiegneopolffoaa
open Go.RowKit

set_option maxHeartbeats 1000000 in
theorem parses_dark (s : List UInt8) (w : World) (hf : 3000 < s.length) :
    Calls Try.prog 4 #[.string ⟨s.toArray⟩] w (TrueB w) := by
  have d1 : decide (3000 < (s.length : Int)) = true := by simp; omega
  go_enter Try.func4, Try.ntmps4
  go_wp2_with fail
  refine (nanswers_any _).mono ?_
  rintro e w1 ⟨rfl, hb⟩
  have HB := Lib.hid hb
  clear hb
  go_wp2
  go_ret
  exact ⟨rfl, HB.out⟩

set_option maxHeartbeats 1000000 in
theorem parses_light (s : List UInt8) (w : World) (hf : s.length ≤ 3000) :
    Calls Try.prog 4 #[.string ⟨s.toArray⟩] w (TrueB w) := by
  have d1 : decide (3000 < (s.length : Int)) = false := by simp; omega
  have HP := Lib.hid (fun w' => parse_any s w' (by omega))
  have HR := Lib.hid (fun w' => ref_parse_any s w' (by omega))
  generalize parseN s = x at HP HR
  have HW := Lib.hid (Below.refl w.heap.size w)
  have hz := Nat.le_refl w.heap.size
  go_enter Try.func4, Try.ntmps4
  go_wp2_with fail
  refine (HP.out _).mono ?_
  rintro e w1 ⟨A1, k1, rfl, ho, hb⟩
  have H1 := Lib.hid (Row.of_own ho)
  have HC1 := Lib.hid (own_form ho)
  clear ho
  replace HW := Lib.hid (HW.out.trans (hb.mono hz))
  replace hz := Nat.le_trans hz hb.size
  clear hb
  go_wp2_with fail
  refine (HR.out _).mono ?_
  rintro e w2 ⟨A2, k2, rfl, ho, hb⟩
  have H2 := Lib.hid (Row.of_own ho)
  clear ho
  replace H1 := Lib.hid ((H1.out.below hb).mono hb.size)
  replace HW := Lib.hid (HW.out.trans (hb.mono hz))
  replace hz := Nat.le_trans hz hb.size
  clear hb
  have hml : (x.getD []).length ≤ maxLen := by
    obtain ⟨_, _, e, h1, h2⟩ := HC1.out
    exact Nat.le_trans h1 h2
  obtain ⟨n, hn⟩ : ∃ n, n = x.getD [] := ⟨_, rfl⟩
  obtain ⟨r, hr⟩ : ∃ r, r = x.isSome := ⟨_, rfl⟩
  rw [← hn] at hml H1 H2 ⊢
  rw [← hr]
  have hr2 : (r == r) = true := by simp
  have HEX := Lib.hid (fun A' B' c1' c2' (w' : World) hA' hB' => exact_any A' B' n.length n.length c1' c2' w'.heap.size n n w' rfl rfl hA' hB' hml)
  rw [show decide (n = n) = true by simp] at HEX
  clear hn hr hml HC1
  go_wp2_with fail
  refine (nanswers_any _).mono ?_
  rintro e w3 ⟨rfl, hb⟩
  replace H1 := Lib.hid ((H1.out.below hb).mono hb.size)
  replace H2 := Lib.hid ((H2.out.below hb).mono hb.size)
  replace HW := Lib.hid (HW.out.trans (hb.mono hz))
  replace hz := Nat.le_trans hz hb.size
  clear hb
  go_wp2_with fail
  refine (HEX.out _ _ _ _ _ H1.out H2.out).mono ?_
  rintro e w4 ⟨rfl, q, rfl⟩
  go_wp2
  go_ret
  exact ⟨rfl, below_drewN' HW.out _⟩

theorem parses_law (s : List UInt8) (w : World) : Calls Try.prog 4 #[.string ⟨s.toArray⟩] w (TrueB w) := by
  by_cases hf : s.length ≤ 3000
  · exact parses_light s w hf
  · exact parses_dark s w (by omega)

end Go.Proofs.Ytiegneopolffoaa
