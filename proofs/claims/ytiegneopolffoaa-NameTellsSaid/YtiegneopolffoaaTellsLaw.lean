/-
  NameTells: whether a name may be, how long it is, and its text.
-/
import Derived.Test.YtiegneopolffoaaNAnswers
import Derived.Test.YtiegneopolffoaaSound
import Derived.Test.YtiegneopolffoaaExact
import Derived.Test.YtiegneopolffoaaRefText
namespace Go.Proofs.Ytiegneopolffoaa
open Go.RowKit

set_option maxHeartbeats 1000000 in
theorem tells_dark (A : Option Addr) (c1 : Nat) (n : List (List UInt8)) (w : World) (hA : NameIn w A n) (hf : lightN n = false) :
    Calls Try.prog 3 #[.slice A n.length c1] w (TrueB w) := by
  have HL := Lib.hid (fun (w' : World) (hr : Row w' w'.heap.size A (n.map sv)) => hA.light (c := c1) hr)
  rw [hf] at HL
  have HA := Lib.hid hA.1
  have HW := Lib.hid (Below.refl w.heap.size w)
  have hz := Nat.le_refl w.heap.size
  clear hA hf
  go_enter Try.func3, Try.ntmps3
  go_wp2_with fail
  refine (nanswers_any _).mono ?_
  rintro e w1 ⟨rfl, hb⟩
  replace HA := Lib.hid ((HA.out.below hb).mono hb.size)
  replace HW := Lib.hid (HW.out.trans (hb.mono hz))
  replace hz := Nat.le_trans hz hb.size
  clear hb
  go_wp2_with fail
  refine (HL.out _ HA.out).mono ?_
  rintro e w' ⟨rfl, rfl⟩
  go_wp2_with fail
  refine (nanswers_any _).mono ?_
  rintro e w2 ⟨rfl, hb⟩
  replace HA := Lib.hid ((HA.out.below hb).mono hb.size)
  replace HW := Lib.hid (HW.out.trans (hb.mono hz))
  replace hz := Nat.le_trans hz hb.size
  clear hb
  go_wp2
  go_ret
  exact ⟨rfl, HW.out⟩

set_option maxHeartbeats 2000000 in
theorem tells_light (A : Option Addr) (c1 : Nat) (n : List (List UInt8)) (w : World) (hA : NameIn w A n) (hf : lightN n = true) :
    Calls Try.prog 3 #[.slice A n.length c1] w (TrueB w) := by
  have HL := Lib.hid (fun (w' : World) (hr : Row w' w'.heap.size A (n.map sv)) => hA.light (c := c1) hr)
  rw [hf] at HL
  have ha := lightN_sz hf
  have hma : szN n ≤ maxLen := by unfold maxLen; omega
  have HA := Lib.hid hA.1
  have HW := Lib.hid (Below.refl w.heap.size w)
  have hz := Nat.le_refl w.heap.size
  have HS := Lib.hid (fun A' c' (w' : World) hA' => sound_any A' n.length c' w'.heap.size n w' rfl hA' hma)
  have HRS := Lib.hid (fun A' c' (w' : World) hA' => ref_sound_any A' n.length c' w'.heap.size n w' rfl hA' hma)
  have HZ := Lib.hid (fun A' c' (w' : World) hA' => size_any A' n.length c' w'.heap.size n w' rfl hA' hma)
  have HRZ := Lib.hid (fun A' c' (w' : World) hA' => ref_size_any A' n.length c' w'.heap.size n w' rfl hA' hma)
  have HT := Lib.hid (fun A' c' (w' : World) hA' => text_any A' n.length c' w'.heap.size n w' rfl hA' (Nat.le_refl _) (by omega))
  have HRT := Lib.hid (fun A' c' (w' : World) hA' => ref_text_any A' n.length c' w'.heap.size n w' rfl hA' (Nat.le_refl _) (by omega))
  have h1 : (soundN n == soundN n) = true := by simp
  have h2 : ((szN n : Int) == (szN n : Int)) = true := by simp
  have h3 : (textA n == textA n) = true := by simp
  generalize soundN n = r at HS HRS h1
  generalize textA n = t at HT HRT h3
  clear hA hf
  go_enter Try.func3, Try.ntmps3
  go_wp2_with fail
  refine (nanswers_any _).mono ?_
  rintro e w1 ⟨rfl, hb⟩
  replace HA := Lib.hid ((HA.out.below hb).mono hb.size)
  replace HW := Lib.hid (HW.out.trans (hb.mono hz))
  replace hz := Nat.le_trans hz hb.size
  clear hb
  go_wp2_with fail
  refine (HL.out _ HA.out).mono ?_
  rintro e w' ⟨rfl, rfl⟩
  go_wp2_with fail
  refine (own_any A _ c1 _ n _ rfl HA.out (Nat.le_refl _) (by omega)).mono ?_
  rintro e w2 ⟨A1, k1, rfl, ho, hb⟩
  have H1 := Lib.hid (Row.of_own ho)
  have hk1 := own_cap ho
  clear ho
  replace HA := Lib.hid ((HA.out.below hb).mono hb.size)
  replace HW := Lib.hid (HW.out.trans (hb.mono hz))
  replace hz := Nat.le_trans hz hb.size
  clear hb
  go_wp2_with fail
  refine (HS.out _ _ _ H1.out).mono ?_
  rintro e w' ⟨rfl, rfl⟩
  go_wp2_with fail
  refine (HRS.out _ _ _ HA.out).mono ?_
  rintro e w' ⟨rfl, rfl⟩
  go_wp2_with fail
  refine (own_any A _ c1 _ n _ rfl HA.out (Nat.le_refl _) (by omega)).mono ?_
  rintro e w3 ⟨A2, k2, rfl, ho, hb⟩
  have H2 := Lib.hid (Row.of_own ho)
  have hk2 := own_cap ho
  clear ho
  replace HA := Lib.hid ((HA.out.below hb).mono hb.size)
  replace HW := Lib.hid (HW.out.trans (hb.mono hz))
  replace hz := Nat.le_trans hz hb.size
  clear hb
  go_wp2_with fail
  refine (HZ.out _ _ _ H2.out).mono ?_
  rintro e w' ⟨rfl, rfl⟩
  go_wp2_with fail
  refine (HRZ.out _ _ _ HA.out).mono ?_
  rintro e w' ⟨rfl, rfl⟩
  go_wp2_with fail
  refine (own_any A _ c1 _ n _ rfl HA.out (Nat.le_refl _) (by omega)).mono ?_
  rintro e w4 ⟨A3, k3, rfl, ho, hb⟩
  have H3 := Lib.hid (Row.of_own ho)
  have hk3 := own_cap ho
  clear ho
  replace HA := Lib.hid ((HA.out.below hb).mono hb.size)
  replace HW := Lib.hid (HW.out.trans (hb.mono hz))
  replace hz := Nat.le_trans hz hb.size
  clear hb
  go_wp2_with fail
  refine (HT.out _ _ _ H3.out).mono ?_
  rintro e w5 ⟨rfl, hb⟩
  replace HA := Lib.hid ((HA.out.below hb).mono hb.size)
  replace HW := Lib.hid (HW.out.trans (hb.mono hz))
  replace hz := Nat.le_trans hz hb.size
  clear hb
  go_wp2_with fail
  refine (HRT.out _ _ _ HA.out).mono ?_
  rintro e w6 ⟨rfl, hb⟩
  replace HA := Lib.hid ((HA.out.below hb).mono hb.size)
  replace HW := Lib.hid (HW.out.trans (hb.mono hz))
  replace hz := Nat.le_trans hz hb.size
  clear hb
  go_wp2
  go_ret
  exact ⟨rfl, HW.out⟩

theorem tells_any (A : Option Addr) (c1 : Nat) (n : List (List UInt8)) (w : World) (hA : NameIn w A n) :
    Calls Try.prog 3 #[.slice A n.length c1] w (TrueB w) := by
  cases hf : lightN n
  · exact tells_dark A c1 n w hA hf
  · exact tells_light A c1 n w hA hf

end Go.Proofs.Ytiegneopolffoaa
