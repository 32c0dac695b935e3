/-
  NameThree: the order of three names is one order.
-/
import Derived.Test.YtiegneopolffoaaNAnswers
import Derived.Test.YtiegneopolffoaaSound
import Derived.Test.YtiegneopolffoaaExact
import Derived.Test.YtiegneopolffoaaCmp
namespace Go.Proofs.Ytiegneopolffoaa
open Go.RowKit

set_option maxHeartbeats 1000000 in
theorem three_dark1 (A B C : Option Addr) (c1 c2 c3 : Nat) (a b c : List (List UInt8)) (w : World) (hA : NameIn w A a) (hf : lightN a = false) :
    Calls Try.prog 8 #[.slice A a.length c1, .slice B b.length c2, .slice C c.length c3] w (TrueB w) := by
  have HL := Lib.hid (fun (w' : World) (hr : Row w' w'.heap.size A (a.map sv)) => hA.light (c := c1) hr)
  rw [hf] at HL
  have HA := Lib.hid hA.1
  have HW := Lib.hid (Below.refl w.heap.size w)
  have hz := Nat.le_refl w.heap.size
  clear hA hf
  go_enter Try.func8, Try.ntmps8
  go_wp2_with fail
  refine (nanswers_any _).mono ?_
  rintro e w1 ⟨rfl, hb⟩
  replace HA := Lib.hid ((HA.out.below hb).mono hb.size)
  replace HW := Lib.hid (HW.out.trans (hb.mono hz))
  replace hz := Nat.le_trans hz hb.size
  clear hb
  go_wp2_with fail
  refine (HL.out _ HA.out).mono ?_
  rintro e w' ⟨rfl, rfl⟩
  go_wp2_with fail
  refine (nanswers_any _).mono ?_
  rintro e w2 ⟨rfl, hb⟩
  replace HA := Lib.hid ((HA.out.below hb).mono hb.size)
  replace HW := Lib.hid (HW.out.trans (hb.mono hz))
  replace hz := Nat.le_trans hz hb.size
  clear hb
  go_wp2
  go_ret
  exact ⟨rfl, HW.out⟩

set_option maxHeartbeats 1000000 in
theorem three_dark2 (A B C : Option Addr) (c1 c2 c3 : Nat) (a b c : List (List UInt8)) (w : World) (hA : NameIn w A a) (hB : NameIn w B b) (hf1 : lightN a = true) (hf : lightN b = false) :
    Calls Try.prog 8 #[.slice A a.length c1, .slice B b.length c2, .slice C c.length c3] w (TrueB w) := by
  have HL1 := Lib.hid (fun (w' : World) (hr : Row w' w'.heap.size A (a.map sv)) => hA.light (c := c1) hr)
  rw [hf1] at HL1
  have HL := Lib.hid (fun (w' : World) (hr : Row w' w'.heap.size B (b.map sv)) => hB.light (c := c2) hr)
  rw [hf] at HL
  have HA := Lib.hid hA.1
  have HB := Lib.hid hB.1
  have HW := Lib.hid (Below.refl w.heap.size w)
  have hz := Nat.le_refl w.heap.size
  clear hA hB hf hf1
  go_enter Try.func8, Try.ntmps8
  go_wp2_with fail
  refine (nanswers_any _).mono ?_
  rintro e w1 ⟨rfl, hb⟩
  replace HA := Lib.hid ((HA.out.below hb).mono hb.size)
  replace HB := Lib.hid ((HB.out.below hb).mono hb.size)
  replace HW := Lib.hid (HW.out.trans (hb.mono hz))
  replace hz := Nat.le_trans hz hb.size
  clear hb
  go_wp2_with fail
  refine (HL1.out _ HA.out).mono ?_
  rintro e w' ⟨rfl, rfl⟩
  go_wp2_with fail
  refine (HL.out _ HB.out).mono ?_
  rintro e w' ⟨rfl, rfl⟩
  go_wp2_with fail
  refine (nanswers_any _).mono ?_
  rintro e w2 ⟨rfl, hb⟩
  replace HA := Lib.hid ((HA.out.below hb).mono hb.size)
  replace HW := Lib.hid (HW.out.trans (hb.mono hz))
  replace hz := Nat.le_trans hz hb.size
  clear hb
  go_wp2
  go_ret
  exact ⟨rfl, HW.out⟩

set_option maxHeartbeats 1000000 in
theorem three_dark3 (A B C : Option Addr) (c1 c2 c3 : Nat) (a b c : List (List UInt8)) (w : World) (hA : NameIn w A a) (hB : NameIn w B b) (hC : NameIn w C c) (hf1 : lightN a = true) (hf2 : lightN b = true) (hf : lightN c = false) :
    Calls Try.prog 8 #[.slice A a.length c1, .slice B b.length c2, .slice C c.length c3] w (TrueB w) := by
  have HL1 := Lib.hid (fun (w' : World) (hr : Row w' w'.heap.size A (a.map sv)) => hA.light (c := c1) hr)
  rw [hf1] at HL1
  have HL2 := Lib.hid (fun (w' : World) (hr : Row w' w'.heap.size B (b.map sv)) => hB.light (c := c2) hr)
  rw [hf2] at HL2
  have HL := Lib.hid (fun (w' : World) (hr : Row w' w'.heap.size C (c.map sv)) => hC.light (c := c3) hr)
  rw [hf] at HL
  have HA := Lib.hid hA.1
  have HB := Lib.hid hB.1
  have HC := Lib.hid hC.1
  have HW := Lib.hid (Below.refl w.heap.size w)
  have hz := Nat.le_refl w.heap.size
  clear hA hB hC hf hf1 hf2
  go_enter Try.func8, Try.ntmps8
  go_wp2_with fail
  refine (nanswers_any _).mono ?_
  rintro e w1 ⟨rfl, hb⟩
  replace HA := Lib.hid ((HA.out.below hb).mono hb.size)
  replace HB := Lib.hid ((HB.out.below hb).mono hb.size)
  replace HC := Lib.hid ((HC.out.below hb).mono hb.size)
  replace HW := Lib.hid (HW.out.trans (hb.mono hz))
  replace hz := Nat.le_trans hz hb.size
  clear hb
  go_wp2_with fail
  refine (HL1.out _ HA.out).mono ?_
  rintro e w' ⟨rfl, rfl⟩
  go_wp2_with fail
  refine (HL2.out _ HB.out).mono ?_
  rintro e w' ⟨rfl, rfl⟩
  go_wp2_with fail
  refine (HL.out _ HC.out).mono ?_
  rintro e w' ⟨rfl, rfl⟩
  go_wp2_with fail
  refine (nanswers_any _).mono ?_
  rintro e w2 ⟨rfl, hb⟩
  replace HA := Lib.hid ((HA.out.below hb).mono hb.size)
  replace HW := Lib.hid (HW.out.trans (hb.mono hz))
  replace hz := Nat.le_trans hz hb.size
  clear hb
  go_wp2
  go_ret
  exact ⟨rfl, HW.out⟩

theorem three_cases (a b c : List (List UInt8)) : 0 < cmpN a b ∨ (cmpN a b ≤ 0 ∧ 0 < cmpN b c) ∨ (cmpN a b ≤ 0 ∧ cmpN b c ≤ 0 ∧ cmpN a c < 0) ∨ (cmpN a b = 0 ∧ cmpN b c = 0 ∧ cmpN a c = 0) := by
  by_cases h1 : 0 < cmpN a b
  · exact .inl h1
  · by_cases h2 : 0 < cmpN b c
    · exact .inr (.inl ⟨by omega, h2⟩)
    · have h3 := cmpN_trans a b c (by omega) (by omega)
      by_cases h4 : cmpN a c < 0
      · exact .inr (.inr (.inl ⟨by omega, by omega, h4⟩))
      · have h5 : cmpN a c = 0 := by omega
        have h6 := (cmpN_zero a c).1 h5
        have h7 : cmpN b c = - cmpN a b := by
          have := cmpN_anti a b
          unfold cmpN at this ⊢
          rw [← h6]; exact this
        exact .inr (.inr (.inr ⟨by omega, by omega, h5⟩))

set_option maxHeartbeats 2000000 in
theorem three_light (A B C : Option Addr) (c1 c2 c3 : Nat) (a b c : List (List UInt8)) (w : World) (hA : NameIn w A a) (hB : NameIn w B b) (hC : NameIn w C c) (hf1 : lightN a = true) (hf2 : lightN b = true) (hf3 : lightN c = true) :
    Calls Try.prog 8 #[.slice A a.length c1, .slice B b.length c2, .slice C c.length c3] w (TrueB w) := by
  have HL1 := Lib.hid (fun (w' : World) (hr : Row w' w'.heap.size A (a.map sv)) => hA.light (c := c1) hr)
  rw [hf1] at HL1
  have HL2 := Lib.hid (fun (w' : World) (hr : Row w' w'.heap.size B (b.map sv)) => hB.light (c := c2) hr)
  rw [hf2] at HL2
  have HL3 := Lib.hid (fun (w' : World) (hr : Row w' w'.heap.size C (c.map sv)) => hC.light (c := c3) hr)
  rw [hf3] at HL3
  have ha := lightN_sz hf1
  have hb := lightN_sz hf2
  have hc := lightN_sz hf3
  have HA := Lib.hid hA.1
  have HB := Lib.hid hB.1
  have HC := Lib.hid hC.1
  have HW := Lib.hid (Below.refl w.heap.size w)
  have hz := Nat.le_refl w.heap.size
  have HCS := Lib.hid (three_cases a b c)
  have hma : szN a ≤ maxLen := by unfold maxLen; omega
  have hmb : szN b ≤ maxLen := by unfold maxLen; omega
  have hmc : szN c ≤ maxLen := by unfold maxLen; omega
  have HX := Lib.hid (fun A' B' c1' c2' (w' : World) hA' hB' => cmp_any A' B' a.length b.length c1' c2' w'.heap.size a b w' rfl rfl hA' hB' (Nat.le_refl _) hma hmb)
  have HY := Lib.hid (fun A' B' c1' c2' (w' : World) hA' hB' => cmp_any A' B' b.length c.length c1' c2' w'.heap.size b c w' rfl rfl hA' hB' (Nat.le_refl _) hmb hmc)
  have HZ := Lib.hid (fun A' B' c1' c2' (w' : World) hA' hB' => cmp_any A' B' a.length c.length c1' c2' w'.heap.size a c w' rfl rfl hA' hB' (Nat.le_refl _) hma hmc)
  generalize cmpN a b = x at HX HCS
  generalize cmpN b c = y at HY HCS
  generalize cmpN a c = z at HZ HCS
  clear hA hB hC hf1 hf2 hf3 hma hmb hmc
  go_enter Try.func8, Try.ntmps8
  go_wp2_with fail
  refine (nanswers_any _).mono ?_
  rintro e w1 ⟨rfl, hb⟩
  replace HA := Lib.hid ((HA.out.below hb).mono hb.size)
  replace HB := Lib.hid ((HB.out.below hb).mono hb.size)
  replace HC := Lib.hid ((HC.out.below hb).mono hb.size)
  replace HW := Lib.hid (HW.out.trans (hb.mono hz))
  replace hz := Nat.le_trans hz hb.size
  clear hb
  go_wp2_with fail
  refine (HL1.out _ HA.out).mono ?_
  rintro e w' ⟨rfl, rfl⟩
  go_wp2_with fail
  refine (HL2.out _ HB.out).mono ?_
  rintro e w' ⟨rfl, rfl⟩
  go_wp2_with fail
  refine (HL3.out _ HC.out).mono ?_
  rintro e w' ⟨rfl, rfl⟩
  go_wp2_with fail
  refine (own_any A _ c1 _ a _ rfl HA.out (Nat.le_refl _) (by omega)).mono ?_
  rintro e w2 ⟨A1, k1, rfl, ho, hb⟩
  have H1 := Lib.hid (Row.of_own ho)
  have hk1 := own_cap ho
  clear ho
  replace HA := Lib.hid ((HA.out.below hb).mono hb.size)
  replace HB := Lib.hid ((HB.out.below hb).mono hb.size)
  replace HC := Lib.hid ((HC.out.below hb).mono hb.size)
  replace HW := Lib.hid (HW.out.trans (hb.mono hz))
  replace hz := Nat.le_trans hz hb.size
  clear hb
  go_wp2_with fail
  refine (own_any B _ c2 _ b _ rfl HB.out (Nat.le_refl _) (by omega)).mono ?_
  rintro e w3 ⟨A2, k2, rfl, ho, hb⟩
  have H2 := Lib.hid (Row.of_own ho)
  have hk2 := own_cap ho
  clear ho
  replace HA := Lib.hid ((HA.out.below hb).mono hb.size)
  replace HB := Lib.hid ((HB.out.below hb).mono hb.size)
  replace HC := Lib.hid ((HC.out.below hb).mono hb.size)
  replace H1 := Lib.hid ((H1.out.below hb).mono hb.size)
  replace HW := Lib.hid (HW.out.trans (hb.mono hz))
  replace hz := Nat.le_trans hz hb.size
  clear hb
  go_wp2_with fail
  refine (HX.out _ _ _ _ _ H1.out H2.out).mono ?_
  rintro e w4 ⟨rfl, hb⟩
  replace HA := Lib.hid ((HA.out.below hb).mono hb.size)
  replace HB := Lib.hid ((HB.out.below hb).mono hb.size)
  replace HC := Lib.hid ((HC.out.below hb).mono hb.size)
  replace HW := Lib.hid (HW.out.trans (hb.mono hz))
  replace hz := Nat.le_trans hz hb.size
  clear hb
  go_wp2_with fail
  refine (own_any B _ c2 _ b _ rfl HB.out (Nat.le_refl _) (by omega)).mono ?_
  rintro e w5 ⟨A3, k3, rfl, ho, hb⟩
  have H3 := Lib.hid (Row.of_own ho)
  have hk3 := own_cap ho
  clear ho
  replace HA := Lib.hid ((HA.out.below hb).mono hb.size)
  replace HB := Lib.hid ((HB.out.below hb).mono hb.size)
  replace HC := Lib.hid ((HC.out.below hb).mono hb.size)
  replace HW := Lib.hid (HW.out.trans (hb.mono hz))
  replace hz := Nat.le_trans hz hb.size
  clear hb
  go_wp2_with fail
  refine (own_any C _ c3 _ c _ rfl HC.out (Nat.le_refl _) (by omega)).mono ?_
  rintro e w6 ⟨A4, k4, rfl, ho, hb⟩
  have H4 := Lib.hid (Row.of_own ho)
  have hk4 := own_cap ho
  clear ho
  replace HA := Lib.hid ((HA.out.below hb).mono hb.size)
  replace HB := Lib.hid ((HB.out.below hb).mono hb.size)
  replace HC := Lib.hid ((HC.out.below hb).mono hb.size)
  replace H3 := Lib.hid ((H3.out.below hb).mono hb.size)
  replace HW := Lib.hid (HW.out.trans (hb.mono hz))
  replace hz := Nat.le_trans hz hb.size
  clear hb
  go_wp2_with fail
  refine (HY.out _ _ _ _ _ H3.out H4.out).mono ?_
  rintro e w7 ⟨rfl, hb⟩
  replace HA := Lib.hid ((HA.out.below hb).mono hb.size)
  replace HB := Lib.hid ((HB.out.below hb).mono hb.size)
  replace HC := Lib.hid ((HC.out.below hb).mono hb.size)
  replace HW := Lib.hid (HW.out.trans (hb.mono hz))
  replace hz := Nat.le_trans hz hb.size
  clear hb
  go_wp2_with fail
  refine (own_any A _ c1 _ a _ rfl HA.out (Nat.le_refl _) (by omega)).mono ?_
  rintro e w8 ⟨A5, k5, rfl, ho, hb⟩
  have H5 := Lib.hid (Row.of_own ho)
  have hk5 := own_cap ho
  clear ho
  replace HA := Lib.hid ((HA.out.below hb).mono hb.size)
  replace HB := Lib.hid ((HB.out.below hb).mono hb.size)
  replace HC := Lib.hid ((HC.out.below hb).mono hb.size)
  replace HW := Lib.hid (HW.out.trans (hb.mono hz))
  replace hz := Nat.le_trans hz hb.size
  clear hb
  go_wp2_with fail
  refine (own_any C _ c3 _ c _ rfl HC.out (Nat.le_refl _) (by omega)).mono ?_
  rintro e w9 ⟨A6, k6, rfl, ho, hb⟩
  have H6 := Lib.hid (Row.of_own ho)
  have hk6 := own_cap ho
  clear ho
  replace HA := Lib.hid ((HA.out.below hb).mono hb.size)
  replace HB := Lib.hid ((HB.out.below hb).mono hb.size)
  replace HC := Lib.hid ((HC.out.below hb).mono hb.size)
  replace H5 := Lib.hid ((H5.out.below hb).mono hb.size)
  replace HW := Lib.hid (HW.out.trans (hb.mono hz))
  replace hz := Nat.le_trans hz hb.size
  clear hb
  go_wp2_with fail
  refine (HZ.out _ _ _ _ _ H5.out H6.out).mono ?_
  rintro e w10 ⟨rfl, hb⟩
  replace HA := Lib.hid ((HA.out.below hb).mono hb.size)
  replace HW := Lib.hid (HW.out.trans (hb.mono hz))
  replace hz := Nat.le_trans hz hb.size
  clear hb
  rcases HCS.out with h | ⟨h1, h2⟩ | ⟨h1, h2, h3⟩ | ⟨rfl, rfl, rfl⟩
  all_goals
    go_wp2
    go_ret
    exact ⟨rfl, HW.out⟩

theorem three_any (A B C : Option Addr) (c1 c2 c3 : Nat) (a b c : List (List UInt8)) (w : World) (hA : NameIn w A a) (hB : NameIn w B b) (hC : NameIn w C c) :
    Calls Try.prog 8 #[.slice A a.length c1, .slice B b.length c2, .slice C c.length c3] w (TrueB w) := by
  cases hf1 : lightN a
  · exact three_dark1 A B C c1 c2 c3 a b c w hA hf1
  · cases hf2 : lightN b
    · exact three_dark2 A B C c1 c2 c3 a b c w hA hB hf1 hf2
    · cases hf3 : lightN c
      · exact three_dark3 A B C c1 c2 c3 a b c w hA hB hC hf1 hf2 hf3
      · exact three_light A B C c1 c2 c3 a b c w hA hB hC hf1 hf2 hf3

end Go.Proofs.Ytiegneopolffoaa
