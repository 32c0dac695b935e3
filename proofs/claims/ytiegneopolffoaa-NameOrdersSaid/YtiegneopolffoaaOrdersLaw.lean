/-
  NameOrders: how names stand to one another.
-/
import Derived.Test.YtiegneopolffoaaNAnswers
import Derived.Test.YtiegneopolffoaaSound
import Derived.Test.YtiegneopolffoaaExact
import Derived.Test.YtiegneopolffoaaRefEqual
import Derived.Test.YtiegneopolffoaaRefCmp
namespace Go.Proofs.Ytiegneopolffoaa
open Go.RowKit

set_option maxHeartbeats 1000000 in
theorem orders_dark1 (A B : Option Addr) (c1 c2 : Nat) (a b : List (List UInt8)) (w : World) (hA : NameIn w A a) (hf : lightN a = false) :
    Calls Try.prog 6 #[.slice A a.length c1, .slice B b.length c2] w (TrueB w) := by
  have HL := Lib.hid (fun (w' : World) (hr : Row w' w'.heap.size A (a.map sv)) => hA.light (c := c1) hr)
  rw [hf] at HL
  have HA := Lib.hid hA.1
  have HW := Lib.hid (Below.refl w.heap.size w)
  have hz := Nat.le_refl w.heap.size
  clear hA hf
  go_enter Try.func6, Try.ntmps6
  go_wp2_with fail
  refine (nanswers_any _).mono ?_
  rintro e w1 ⟨rfl, hb⟩
  replace HA := Lib.hid ((HA.out.below hb).mono hb.size)
  replace HW := Lib.hid (HW.out.trans (hb.mono hz))
  replace hz := Nat.le_trans hz hb.size
  clear hb
  go_wp2_with fail
  refine (HL.out _ HA.out).mono ?_
  rintro e w' ⟨rfl, rfl⟩
  go_wp2_with fail
  refine (nanswers_any _).mono ?_
  rintro e w2 ⟨rfl, hb⟩
  replace HA := Lib.hid ((HA.out.below hb).mono hb.size)
  replace HW := Lib.hid (HW.out.trans (hb.mono hz))
  replace hz := Nat.le_trans hz hb.size
  clear hb
  go_wp2
  go_ret
  exact ⟨rfl, HW.out⟩

set_option maxHeartbeats 1000000 in
theorem orders_dark2 (A B : Option Addr) (c1 c2 : Nat) (a b : List (List UInt8)) (w : World) (hA : NameIn w A a) (hB : NameIn w B b) (hf1 : lightN a = true) (hf : lightN b = false) :
    Calls Try.prog 6 #[.slice A a.length c1, .slice B b.length c2] w (TrueB w) := by
  have HL1 := Lib.hid (fun (w' : World) (hr : Row w' w'.heap.size A (a.map sv)) => hA.light (c := c1) hr)
  rw [hf1] at HL1
  have HL := Lib.hid (fun (w' : World) (hr : Row w' w'.heap.size B (b.map sv)) => hB.light (c := c2) hr)
  rw [hf] at HL
  have HA := Lib.hid hA.1
  have HB := Lib.hid hB.1
  have HW := Lib.hid (Below.refl w.heap.size w)
  have hz := Nat.le_refl w.heap.size
  clear hA hB hf hf1
  go_enter Try.func6, Try.ntmps6
  go_wp2_with fail
  refine (nanswers_any _).mono ?_
  rintro e w1 ⟨rfl, hb⟩
  replace HA := Lib.hid ((HA.out.below hb).mono hb.size)
  replace HB := Lib.hid ((HB.out.below hb).mono hb.size)
  replace HW := Lib.hid (HW.out.trans (hb.mono hz))
  replace hz := Nat.le_trans hz hb.size
  clear hb
  go_wp2_with fail
  refine (HL1.out _ HA.out).mono ?_
  rintro e w' ⟨rfl, rfl⟩
  go_wp2_with fail
  refine (HL.out _ HB.out).mono ?_
  rintro e w' ⟨rfl, rfl⟩
  go_wp2_with fail
  refine (nanswers_any _).mono ?_
  rintro e w2 ⟨rfl, hb⟩
  replace HA := Lib.hid ((HA.out.below hb).mono hb.size)
  replace HW := Lib.hid (HW.out.trans (hb.mono hz))
  replace hz := Nat.le_trans hz hb.size
  clear hb
  go_wp2
  go_ret
  exact ⟨rfl, HW.out⟩

set_option maxHeartbeats 2000000 in
theorem orders_light (A B : Option Addr) (c1 c2 : Nat) (a b : List (List UInt8)) (w : World) (hA : NameIn w A a) (hB : NameIn w B b) (hc1 : a.length ≤ c1) (hf1 : lightN a = true) (hf2 : lightN b = true) :
    Calls Try.prog 6 #[.slice A a.length c1, .slice B b.length c2] w (TrueB w) := by
  have HL1 := Lib.hid (fun (w' : World) (hr : Row w' w'.heap.size A (a.map sv)) => hA.light (c := c1) hr)
  rw [hf1] at HL1
  have HL2 := Lib.hid (fun (w' : World) (hr : Row w' w'.heap.size B (b.map sv)) => hB.light (c := c2) hr)
  rw [hf2] at HL2
  have ha := lightN_sz hf1
  have hb := lightN_sz hf2
  have HA := Lib.hid hA.1
  have HB := Lib.hid hB.1
  have HW := Lib.hid (Below.refl w.heap.size w)
  have hz := Nat.le_refl w.heap.size
  have hma : szN a ≤ maxLen := by unfold maxLen; omega
  have hmb : szN b ≤ maxLen := by unfold maxLen; omega
  have HX := Lib.hid (fun A' B' c1' c2' (w' : World) hA' hB' => cmp_any A' B' a.length b.length c1' c2' w'.heap.size a b w' rfl rfl hA' hB' (Nat.le_refl _) hma hmb)
  have HRX := Lib.hid (fun A' B' c1' c2' (w' : World) hA' hB' => ref_cmp_any A' B' a.length b.length c1' c2' w'.heap.size a b w' rfl rfl hA' hB' (Nat.le_refl _) hma hmb)
  have HY := Lib.hid (fun A' B' c1' c2' (w' : World) hA' hB' => cmp_any A' B' b.length a.length c1' c2' w'.heap.size b a w' rfl rfl hA' hB' (Nat.le_refl _) hmb hma)
  have HE := Lib.hid (fun A' B' c1' c2' (w' : World) hA' hB' => equal_any A' B' a.length b.length c1' c2' w'.heap.size a b w' rfl rfl hA' hB' (Nat.le_refl _) hma hmb)
  have HRE := Lib.hid (fun A' B' c1' c2' (w' : World) hA' hB' => ref_equal_any A' B' a.length b.length c1' c2' w'.heap.size a b w' rfl rfl hA' hB' (Nat.le_refl _) hma hmb)
  have HU := Lib.hid (fun A' B' c1' c2' (w' : World) hA' hB' hc' => under_any A' B' a.length b.length c1' c2' w'.heap.size a b w' rfl rfl hA' hB' (Nat.le_refl _) hma hmb hc')
  have HRU := Lib.hid (fun A' B' c1' c2' (w' : World) hA' hB' hc' => ref_under_any A' B' a.length b.length c1' c2' w'.heap.size a b w' rfl rfl hA' hB' (Nat.le_refl _) hma hmb hc')
  rw [cmpN_anti a b] at HY
  have hrng := cmpN_rng a b
  have hr1 : -1 ≤ cmpN a b := by omega
  have hr2 : cmpN a b ≤ 1 := by omega
  clear hrng
  generalize cmpN a b = x at HX HRX HY hr1 hr2
  generalize eqN a b = r at HE HRE
  generalize underN a b = u at HU HRU
  have hx1 : (x == x) = true := by simp
  have hx2 : (-x == -x) = true := by simp
  have hr3 : (r == r) = true := by simp
  have hu3 : (u == u) = true := by simp
  clear hA hB hf1 hf2 hma hmb
  go_enter Try.func6, Try.ntmps6
  go_wp2_with fail
  refine (nanswers_any _).mono ?_
  rintro e w1 ⟨rfl, hb⟩
  replace HA := Lib.hid ((HA.out.below hb).mono hb.size)
  replace HB := Lib.hid ((HB.out.below hb).mono hb.size)
  replace HW := Lib.hid (HW.out.trans (hb.mono hz))
  replace hz := Nat.le_trans hz hb.size
  clear hb
  go_wp2_with fail
  refine (HL1.out _ HA.out).mono ?_
  rintro e w' ⟨rfl, rfl⟩
  go_wp2_with fail
  refine (HL2.out _ HB.out).mono ?_
  rintro e w' ⟨rfl, rfl⟩
  go_wp2_with fail
  refine (own_any A _ c1 _ a _ rfl HA.out (Nat.le_refl _) (by omega)).mono ?_
  rintro e w2 ⟨A1, k1, rfl, ho, hb⟩
  have H1 := Lib.hid (Row.of_own ho)
  have hk1 := own_cap ho
  clear ho
  replace HA := Lib.hid ((HA.out.below hb).mono hb.size)
  replace HB := Lib.hid ((HB.out.below hb).mono hb.size)
  replace HW := Lib.hid (HW.out.trans (hb.mono hz))
  replace hz := Nat.le_trans hz hb.size
  clear hb
  go_wp2_with fail
  refine (own_any B _ c2 _ b _ rfl HB.out (Nat.le_refl _) (by omega)).mono ?_
  rintro e w3 ⟨A2, k2, rfl, ho, hb⟩
  have H2 := Lib.hid (Row.of_own ho)
  have hk2 := own_cap ho
  clear ho
  replace HA := Lib.hid ((HA.out.below hb).mono hb.size)
  replace HB := Lib.hid ((HB.out.below hb).mono hb.size)
  replace H1 := Lib.hid ((H1.out.below hb).mono hb.size)
  replace HW := Lib.hid (HW.out.trans (hb.mono hz))
  replace hz := Nat.le_trans hz hb.size
  clear hb
  go_wp2_with fail
  refine (HX.out _ _ _ _ _ H1.out H2.out).mono ?_
  rintro e w4 ⟨rfl, hb⟩
  replace HA := Lib.hid ((HA.out.below hb).mono hb.size)
  replace HB := Lib.hid ((HB.out.below hb).mono hb.size)
  replace HW := Lib.hid (HW.out.trans (hb.mono hz))
  replace hz := Nat.le_trans hz hb.size
  clear hb
  go_wp2_with fail
  refine (HRX.out _ _ _ _ _ HA.out HB.out).mono ?_
  rintro e w5 ⟨rfl, hb⟩
  replace HA := Lib.hid ((HA.out.below hb).mono hb.size)
  replace HB := Lib.hid ((HB.out.below hb).mono hb.size)
  replace HW := Lib.hid (HW.out.trans (hb.mono hz))
  replace hz := Nat.le_trans hz hb.size
  clear hb
  go_wp2_with fail
  refine (own_any B _ c2 _ b _ rfl HB.out (Nat.le_refl _) (by omega)).mono ?_
  rintro e w6 ⟨A3, k3, rfl, ho, hb⟩
  have H3 := Lib.hid (Row.of_own ho)
  have hk3 := own_cap ho
  clear ho
  replace HA := Lib.hid ((HA.out.below hb).mono hb.size)
  replace HB := Lib.hid ((HB.out.below hb).mono hb.size)
  replace HW := Lib.hid (HW.out.trans (hb.mono hz))
  replace hz := Nat.le_trans hz hb.size
  clear hb
  go_wp2_with fail
  refine (own_any A _ c1 _ a _ rfl HA.out (Nat.le_refl _) (by omega)).mono ?_
  rintro e w7 ⟨A4, k4, rfl, ho, hb⟩
  have H4 := Lib.hid (Row.of_own ho)
  have hk4 := own_cap ho
  clear ho
  replace HA := Lib.hid ((HA.out.below hb).mono hb.size)
  replace HB := Lib.hid ((HB.out.below hb).mono hb.size)
  replace H3 := Lib.hid ((H3.out.below hb).mono hb.size)
  replace HW := Lib.hid (HW.out.trans (hb.mono hz))
  replace hz := Nat.le_trans hz hb.size
  clear hb
  go_wp2_with fail
  refine (HY.out _ _ _ _ _ H3.out H4.out).mono ?_
  rintro e w8 ⟨rfl, hb⟩
  replace HA := Lib.hid ((HA.out.below hb).mono hb.size)
  replace HB := Lib.hid ((HB.out.below hb).mono hb.size)
  replace HW := Lib.hid (HW.out.trans (hb.mono hz))
  replace hz := Nat.le_trans hz hb.size
  clear hb
  go_wp2_with fail
  refine (own_any A _ c1 _ a _ rfl HA.out (Nat.le_refl _) (by omega)).mono ?_
  rintro e w9 ⟨A5, k5, rfl, ho, hb⟩
  have H5 := Lib.hid (Row.of_own ho)
  have hk5 := own_cap ho
  clear ho
  replace HA := Lib.hid ((HA.out.below hb).mono hb.size)
  replace HB := Lib.hid ((HB.out.below hb).mono hb.size)
  replace HW := Lib.hid (HW.out.trans (hb.mono hz))
  replace hz := Nat.le_trans hz hb.size
  clear hb
  go_wp2_with fail
  refine (own_any B _ c2 _ b _ rfl HB.out (Nat.le_refl _) (by omega)).mono ?_
  rintro e w10 ⟨A6, k6, rfl, ho, hb⟩
  have H6 := Lib.hid (Row.of_own ho)
  have hk6 := own_cap ho
  clear ho
  replace HA := Lib.hid ((HA.out.below hb).mono hb.size)
  replace HB := Lib.hid ((HB.out.below hb).mono hb.size)
  replace H5 := Lib.hid ((H5.out.below hb).mono hb.size)
  replace HW := Lib.hid (HW.out.trans (hb.mono hz))
  replace hz := Nat.le_trans hz hb.size
  clear hb
  go_wp2_with fail
  refine (HE.out _ _ _ _ _ H5.out H6.out).mono ?_
  rintro e w11 ⟨rfl, hb⟩
  replace HA := Lib.hid ((HA.out.below hb).mono hb.size)
  replace HB := Lib.hid ((HB.out.below hb).mono hb.size)
  replace HW := Lib.hid (HW.out.trans (hb.mono hz))
  replace hz := Nat.le_trans hz hb.size
  clear hb
  go_wp2_with fail
  refine (HRE.out _ _ _ _ _ HA.out HB.out).mono ?_
  rintro e w12 ⟨rfl, hb⟩
  replace HA := Lib.hid ((HA.out.below hb).mono hb.size)
  replace HB := Lib.hid ((HB.out.below hb).mono hb.size)
  replace HW := Lib.hid (HW.out.trans (hb.mono hz))
  replace hz := Nat.le_trans hz hb.size
  clear hb
  go_wp2_with fail
  refine (own_any A _ c1 _ a _ rfl HA.out (Nat.le_refl _) (by omega)).mono ?_
  rintro e w13 ⟨A7, k7, rfl, ho, hb⟩
  have H7 := Lib.hid (Row.of_own ho)
  have hk7 := own_cap ho
  clear ho
  replace HA := Lib.hid ((HA.out.below hb).mono hb.size)
  replace HB := Lib.hid ((HB.out.below hb).mono hb.size)
  replace HW := Lib.hid (HW.out.trans (hb.mono hz))
  replace hz := Nat.le_trans hz hb.size
  clear hb
  go_wp2_with fail
  refine (own_any B _ c2 _ b _ rfl HB.out (Nat.le_refl _) (by omega)).mono ?_
  rintro e w14 ⟨A8, k8, rfl, ho, hb⟩
  have H8 := Lib.hid (Row.of_own ho)
  have hk8 := own_cap ho
  clear ho
  replace HA := Lib.hid ((HA.out.below hb).mono hb.size)
  replace HB := Lib.hid ((HB.out.below hb).mono hb.size)
  replace H7 := Lib.hid ((H7.out.below hb).mono hb.size)
  replace HW := Lib.hid (HW.out.trans (hb.mono hz))
  replace hz := Nat.le_trans hz hb.size
  clear hb
  go_wp2_with fail
  refine (HU.out _ _ _ _ _ H7.out H8.out hk7).mono ?_
  rintro e w15 ⟨rfl, hb⟩
  replace HA := Lib.hid ((HA.out.below hb).mono hb.size)
  replace HB := Lib.hid ((HB.out.below hb).mono hb.size)
  replace HW := Lib.hid (HW.out.trans (hb.mono hz))
  replace hz := Nat.le_trans hz hb.size
  clear hb
  go_wp2_with fail
  refine (HRU.out _ _ _ _ _ HA.out HB.out hc1).mono ?_
  rintro e w16 ⟨rfl, hb⟩
  replace HA := Lib.hid ((HA.out.below hb).mono hb.size)
  replace HW := Lib.hid (HW.out.trans (hb.mono hz))
  replace hz := Nat.le_trans hz hb.size
  clear hb
  go_wp2
  go_ret
  exact ⟨rfl, HW.out⟩

theorem orders_any (A B : Option Addr) (c1 c2 : Nat) (a b : List (List UInt8)) (w : World) (hA : NameIn w A a) (hB : NameIn w B b) (hc1 : a.length ≤ c1) :
    Calls Try.prog 6 #[.slice A a.length c1, .slice B b.length c2] w (TrueB w) := by
  cases hf1 : lightN a
  · exact orders_dark1 A B c1 c2 a b w hA hf1
  · cases hf2 : lightN b
    · exact orders_dark2 A B c1 c2 a b w hA hB hf1 hf2
    · exact orders_light A B c1 c2 a b w hA hB hc1 hf1 hf2

end Go.Proofs.Ytiegneopolffoaa
