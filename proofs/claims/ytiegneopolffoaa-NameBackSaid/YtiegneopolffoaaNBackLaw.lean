/-
  NameBack: a sound name's text is read as it, with and without the last point.
-/
import Derived.Test.YtiegneopolffoaaNAnswers
import Derived.Test.YtiegneopolffoaaSound
import Derived.Test.YtiegneopolffoaaExact
import Derived.Test.YtiegneopolffoaaParse
import Derived.Test.YtiegneopolffoaaNBack
namespace Go.Proofs.Ytiegneopolffoaa
open Go.RowKit

set_option maxHeartbeats 1000000 in
theorem nback_dark (A : Option Addr) (c1 : Nat) (n : List (List UInt8)) (w : World) (hA : NameIn w A n) (hf : lightN n = false) :
    Calls Try.prog 5 #[.slice A n.length c1] w (TrueB w) := by
  have HL := Lib.hid (fun (w' : World) (hr : Row w' w'.heap.size A (n.map sv)) => hA.light (c := c1) hr)
  rw [hf] at HL
  have HA := Lib.hid hA.1
  have HW := Lib.hid (Below.refl w.heap.size w)
  have hz := Nat.le_refl w.heap.size
  clear hA hf
  go_enter Try.func5, Try.ntmps5
  go_wp2_with fail
  refine (nanswers_any _).mono ?_
  rintro e w1 ⟨rfl, hb⟩
  replace HA := Lib.hid ((HA.out.below hb).mono hb.size)
  replace HW := Lib.hid (HW.out.trans (hb.mono hz))
  replace hz := Nat.le_trans hz hb.size
  clear hb
  go_wp2_with fail
  refine (HL.out _ HA.out).mono ?_
  rintro e w' ⟨rfl, rfl⟩
  go_wp2_with fail
  refine (nanswers_any _).mono ?_
  rintro e w2 ⟨rfl, hb⟩
  replace HA := Lib.hid ((HA.out.below hb).mono hb.size)
  replace HW := Lib.hid (HW.out.trans (hb.mono hz))
  replace hz := Nat.le_trans hz hb.size
  clear hb
  go_wp2
  go_ret
  exact ⟨rfl, HW.out⟩

set_option maxHeartbeats 1000000 in
theorem nback_bad (A : Option Addr) (c1 : Nat) (n : List (List UInt8)) (w : World) (hA : NameIn w A n) (hf : lightN n = true) (hs : soundN n = false) :
    Calls Try.prog 5 #[.slice A n.length c1] w (TrueB w) := by
  have HL := Lib.hid (fun (w' : World) (hr : Row w' w'.heap.size A (n.map sv)) => hA.light (c := c1) hr)
  rw [hf] at HL
  have ha := lightN_sz hf
  have hma : szN n ≤ maxLen := by unfold maxLen; omega
  have HRS := Lib.hid (fun A' c' (w' : World) hA' => ref_sound_any A' n.length c' w'.heap.size n w' rfl hA' hma)
  rw [hs] at HRS
  have HA := Lib.hid hA.1
  have HW := Lib.hid (Below.refl w.heap.size w)
  have hz := Nat.le_refl w.heap.size
  clear hA hf hs
  go_enter Try.func5, Try.ntmps5
  go_wp2_with fail
  refine (nanswers_any _).mono ?_
  rintro e w1 ⟨rfl, hb⟩
  replace HA := Lib.hid ((HA.out.below hb).mono hb.size)
  replace HW := Lib.hid (HW.out.trans (hb.mono hz))
  replace hz := Nat.le_trans hz hb.size
  clear hb
  go_wp2_with fail
  refine (HL.out _ HA.out).mono ?_
  rintro e w' ⟨rfl, rfl⟩
  go_wp2_with fail
  refine (HRS.out _ _ _ HA.out).mono ?_
  rintro e w' ⟨rfl, rfl⟩
  go_wp2_with fail
  refine (nanswers_any _).mono ?_
  rintro e w2 ⟨rfl, hb⟩
  replace HA := Lib.hid ((HA.out.below hb).mono hb.size)
  replace HW := Lib.hid (HW.out.trans (hb.mono hz))
  replace hz := Nat.le_trans hz hb.size
  clear hb
  go_wp2
  go_ret
  exact ⟨rfl, HW.out⟩

theorem extract_drop_last (l : List UInt8) (m : Nat) (hm : m = l.length - 1) : (ByteArray.mk l.toArray).extract 0 m = ⟨l.dropLast.toArray⟩ := by
  subst hm
  apply ByteArray.ext
  apply Array.toList_inj.1
  simp [ByteArray.data_extract, List.dropLast_eq_take]

set_option maxHeartbeats 2000000 in
theorem nback_good (A : Option Addr) (c1 : Nat) (n : List (List UInt8)) (w : World) (hA : NameIn w A n) (hf : lightN n = true) (hs : soundN n = true) :
    Calls Try.prog 5 #[.slice A n.length c1] w (TrueB w) := by
  have HL := Lib.hid (fun (w' : World) (hr : Row w' w'.heap.size A (n.map sv)) => hA.light (c := c1) hr)
  rw [hf] at HL
  have ha := lightN_sz hf
  have hma : szN n ≤ maxLen := by unfold maxLen; omega
  have HRS := Lib.hid (fun A' c' (w' : World) hA' => ref_sound_any A' n.length c' w'.heap.size n w' rfl hA' hma)
  rw [hs] at HRS
  have HT := Lib.hid (fun A' c' (w' : World) hA' => text_any A' n.length c' w'.heap.size n w' rfl hA' (Nat.le_refl _) (by omega))
  have htl : (textA n).length ≤ 100000 := by
    unfold textA
    split
    · simp
    · have := length_textN n; omega
  have HP := Lib.hid (fun w' => parse_any (textA n) w' (by omega))
  rw [parse_text hs] at HP
  have HEX := Lib.hid (fun A' B' c1' c2' (w' : World) hA' hB' => exact_any A' B' n.length n.length c1' c2' w'.heap.size n n w' rfl rfl hA' hB' (by unfold maxLen; omega))
  rw [show decide (n = n) = true by simp] at HEX
  have HA := Lib.hid hA.1
  have HW := Lib.hid (Below.refl w.heap.size w)
  have hz := Nat.le_refl w.heap.size
  clear hA hf
  by_cases hn : n.length = 0
  · have t0 : ((n.length : Int) == 0) = true := by rw [beq_iff_eq]; omega
    generalize textA n = t at HT HP
    clear hn hs htl
    go_enter Try.func5, Try.ntmps5
    go_wp2_with fail
    refine (nanswers_any _).mono ?_
    rintro e w1 ⟨rfl, hb⟩
    replace HA := Lib.hid ((HA.out.below hb).mono hb.size)
    replace HW := Lib.hid (HW.out.trans (hb.mono hz))
    replace hz := Nat.le_trans hz hb.size
    clear hb
    go_wp2_with fail
    refine (HL.out _ HA.out).mono ?_
    rintro e w' ⟨rfl, rfl⟩
    go_wp2_with fail
    refine (HRS.out _ _ _ HA.out).mono ?_
    rintro e w' ⟨rfl, rfl⟩
    go_wp2_with fail
    refine (own_any A _ c1 _ n _ rfl HA.out (Nat.le_refl _) (by omega)).mono ?_
    rintro e w2 ⟨A1, k1, rfl, ho, hb⟩
    have H1 := Lib.hid (Row.of_own ho)
    have hk1 := own_cap ho
    clear ho
    replace HA := Lib.hid ((HA.out.below hb).mono hb.size)
    replace HW := Lib.hid (HW.out.trans (hb.mono hz))
    replace hz := Nat.le_trans hz hb.size
    clear hb
    go_wp2_with fail
    refine (HT.out _ _ _ H1.out).mono ?_
    rintro e w3 ⟨rfl, hb⟩
    replace HA := Lib.hid ((HA.out.below hb).mono hb.size)
    replace HW := Lib.hid (HW.out.trans (hb.mono hz))
    replace hz := Nat.le_trans hz hb.size
    clear hb
    go_wp2_with fail
    refine (HP.out _).mono ?_
    rintro e w4 ⟨A2, k2, rfl, ho, hb⟩
    have H2 := Lib.hid (Row.of_own ho)
    clear ho
    replace HA := Lib.hid ((HA.out.below hb).mono hb.size)
    replace HW := Lib.hid (HW.out.trans (hb.mono hz))
    replace hz := Nat.le_trans hz hb.size
    clear hb
    simp only [Option.getD_some, Option.isSome_some] at H2 ⊢
    go_wp2_with fail
    refine (HEX.out _ _ _ _ _ H2.out HA.out).mono ?_
    rintro e w5 ⟨rfl, q, rfl⟩
    go_wp2
    go_ret
    exact ⟨rfl, below_drewN' HW.out _⟩
  · have t0 : ((n.length : Int) == 0) = false := by rw [beq_eq_false_iff_ne]; omega
    have hne : n ≠ [] := by intro e; rw [e] at hn; exact hn rfl
    have HP2 := Lib.hid (fun w' => parse_any (textA n).dropLast w' (by rw [List.length_dropLast]; omega))
    rw [parse_dropped hs hne] at HP2
    have htp : 1 ≤ (textA n).length := by
      have h := textN_two hne (sound_ne hs)
      unfold textA
      rw [if_neg hne]
      omega
    have hex := extract_drop_last (textA n) ((textA n).length - 1) rfl
    generalize textA n = t at HT HP HP2 htp htl hex
    clear hn hs hne
    go_enter Try.func5, Try.ntmps5
    go_wp2_with fail
    refine (nanswers_any _).mono ?_
    rintro e w1 ⟨rfl, hb⟩
    replace HA := Lib.hid ((HA.out.below hb).mono hb.size)
    replace HW := Lib.hid (HW.out.trans (hb.mono hz))
    replace hz := Nat.le_trans hz hb.size
    clear hb
    go_wp2_with fail
    refine (HL.out _ HA.out).mono ?_
    rintro e w' ⟨rfl, rfl⟩
    go_wp2_with fail
    refine (HRS.out _ _ _ HA.out).mono ?_
    rintro e w' ⟨rfl, rfl⟩
    go_wp2_with fail
    refine (own_any A _ c1 _ n _ rfl HA.out (Nat.le_refl _) (by omega)).mono ?_
    rintro e w2 ⟨A1, k1, rfl, ho, hb⟩
    have H1 := Lib.hid (Row.of_own ho)
    have hk1 := own_cap ho
    clear ho
    replace HA := Lib.hid ((HA.out.below hb).mono hb.size)
    replace HW := Lib.hid (HW.out.trans (hb.mono hz))
    replace hz := Nat.le_trans hz hb.size
    clear hb
    go_wp2_with fail
    refine (HT.out _ _ _ H1.out).mono ?_
    rintro e w3 ⟨rfl, hb⟩
    replace HA := Lib.hid ((HA.out.below hb).mono hb.size)
    replace HW := Lib.hid (HW.out.trans (hb.mono hz))
    replace hz := Nat.le_trans hz hb.size
    clear hb
    go_wp2_with fail
    refine (HP.out _).mono ?_
    rintro e w4 ⟨A2, k2, rfl, ho, hb⟩
    have H2 := Lib.hid (Row.of_own ho)
    clear ho
    replace HA := Lib.hid ((HA.out.below hb).mono hb.size)
    replace HW := Lib.hid (HW.out.trans (hb.mono hz))
    replace hz := Nat.le_trans hz hb.size
    clear hb
    simp only [Option.getD_some, Option.isSome_some] at H2 ⊢
    go_wp2_with fail
    refine (HEX.out _ _ _ _ _ H2.out HA.out).mono ?_
    rintro e w5 ⟨rfl, q, rfl⟩
    replace HA := Lib.hid (HA.out.drewN q)
    replace HW := Lib.hid (below_drewN' HW.out q)
    go_wp2_with fail
    refine (HP2.out _).mono ?_
    rintro e w6 ⟨A3, k3, rfl, ho, hb⟩
    have H3 := Lib.hid (Row.of_own ho)
    clear ho
    replace HA := Lib.hid ((HA.out.below hb).mono hb.size)
    replace HW := Lib.hid (HW.out.trans (hb.mono hz))
    replace hz := Nat.le_trans hz hb.size
    clear hb
    simp only [Option.getD_some, Option.isSome_some] at H3 ⊢
    go_wp2_with fail
    refine (HEX.out _ _ _ _ _ H3.out HA.out).mono ?_
    rintro e w7 ⟨rfl, q2, rfl⟩
    go_wp2
    go_ret
    exact ⟨rfl, below_drewN' HW.out _⟩

theorem nback_any (A : Option Addr) (c1 : Nat) (n : List (List UInt8)) (w : World) (hA : NameIn w A n) :
    Calls Try.prog 5 #[.slice A n.length c1] w (TrueB w) := by
  cases hf : lightN n
  · exact nback_dark A c1 n w hA hf
  · cases hs : soundN n
    · exact nback_bad A c1 n w hA hf hs
    · exact nback_good A c1 n w hA hf hs

end Go.Proofs.Ytiegneopolffoaa
