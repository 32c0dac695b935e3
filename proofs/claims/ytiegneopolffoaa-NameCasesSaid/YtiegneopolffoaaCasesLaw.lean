/-
  NameCases: capital letters do not matter.
-/
import Derived.Test.YtiegneopolffoaaNAnswers
import Derived.Test.YtiegneopolffoaaSound
import Derived.Test.YtiegneopolffoaaExact
import Derived.Test.YtiegneopolffoaaEqual
import Derived.Test.YtiegneopolffoaaLower
namespace Go.Proofs.Ytiegneopolffoaa
open Go.RowKit

set_option maxRecDepth 100000 in
set_option maxHeartbeats 1000000 in
theorem cases_dark1 (A B C : Option Addr) (c1 c2 m3 c3 : Nat) (a b : List (List UInt8)) (w : World) (hA : NameIn w A a) (hf : lightN a = false) :
    Calls Try.prog 7 #[.slice A a.length c1, .slice B b.length c2, .slice C m3 c3] w (TrueB w) := by
  have HL := Lib.hid (fun (w' : World) (hr : Row w' w'.heap.size A (a.map sv)) => hA.light (c := c1) hr)
  rw [hf] at HL
  have HA := Lib.hid hA.1
  have HW := Lib.hid (Below.refl w.heap.size w)
  have hz := Nat.le_refl w.heap.size
  clear hA hf
  go_enter Try.func7, Try.ntmps7
  go_wp2_with fail
  refine (nanswers_any _).mono ?_
  rintro e w1 ⟨rfl, hb⟩
  replace HA := Lib.hid ((HA.out.below hb).mono hb.size)
  replace HW := Lib.hid (HW.out.trans (hb.mono hz))
  replace hz := Nat.le_trans hz hb.size
  clear hb
  go_wp2_with fail
  refine (HL.out _ HA.out).mono ?_
  rintro e w' ⟨rfl, rfl⟩
  go_wp2_with fail
  refine (nanswers_any _).mono ?_
  rintro e w2 ⟨rfl, hb⟩
  replace HA := Lib.hid ((HA.out.below hb).mono hb.size)
  replace HW := Lib.hid (HW.out.trans (hb.mono hz))
  replace hz := Nat.le_trans hz hb.size
  clear hb
  go_wp2
  go_ret
  exact ⟨rfl, HW.out⟩

set_option maxRecDepth 100000 in
set_option maxHeartbeats 1000000 in
theorem cases_dark2 (A B C : Option Addr) (c1 c2 m3 c3 : Nat) (a b : List (List UInt8)) (w : World) (hA : NameIn w A a) (hB : NameIn w B b) (hf1 : lightN a = true) (hf : lightN b = false) :
    Calls Try.prog 7 #[.slice A a.length c1, .slice B b.length c2, .slice C m3 c3] w (TrueB w) := by
  have HL1 := Lib.hid (fun (w' : World) (hr : Row w' w'.heap.size A (a.map sv)) => hA.light (c := c1) hr)
  rw [hf1] at HL1
  have HL := Lib.hid (fun (w' : World) (hr : Row w' w'.heap.size B (b.map sv)) => hB.light (c := c2) hr)
  rw [hf] at HL
  have HA := Lib.hid hA.1
  have HB := Lib.hid hB.1
  have HW := Lib.hid (Below.refl w.heap.size w)
  have hz := Nat.le_refl w.heap.size
  clear hA hB hf hf1
  go_enter Try.func7, Try.ntmps7
  go_wp2_with fail
  refine (nanswers_any _).mono ?_
  rintro e w1 ⟨rfl, hb⟩
  replace HA := Lib.hid ((HA.out.below hb).mono hb.size)
  replace HB := Lib.hid ((HB.out.below hb).mono hb.size)
  replace HW := Lib.hid (HW.out.trans (hb.mono hz))
  replace hz := Nat.le_trans hz hb.size
  clear hb
  go_wp2_with fail
  refine (HL1.out _ HA.out).mono ?_
  rintro e w' ⟨rfl, rfl⟩
  go_wp2_with fail
  refine (HL.out _ HB.out).mono ?_
  rintro e w' ⟨rfl, rfl⟩
  go_wp2_with fail
  refine (nanswers_any _).mono ?_
  rintro e w2 ⟨rfl, hb⟩
  replace HA := Lib.hid ((HA.out.below hb).mono hb.size)
  replace HW := Lib.hid (HW.out.trans (hb.mono hz))
  replace hz := Nat.le_trans hz hb.size
  clear hb
  go_wp2
  go_ret
  exact ⟨rfl, HW.out⟩

def CasesRel (w1 : World) (a : List (List UInt8)) (A1 : Option Addr) (k1 : Nat) (i : Value) (wr : World) : Prop :=
  ∃ (n : Nat) (m : List (List UInt8)), n ≤ 200 ∧ i = .int .i64 n ∧ lowN m = lowN a ∧ wr.ownsRow w1.heap.size 9 1 (.slice A1 a.length k1) a.length (m.map sv) ∧ Below w1.heap.size w1 wr ∧ w1.heap.size ≤ wr.heap.size
def CasesRel2 (w1 : World) (g4 : Nat) (l0 : List UInt8) (Z : List Value) (v : Value) (n : Nat) (cells : List Value) (j : Value) (wr : World) : Prop :=
  ∃ (k : Nat) (l : List UInt8), k ≤ l0.length ∧ j = .int .i64 k ∧ l.length = l0.length ∧ lowL l = lowL l0 ∧ Marked wr g4 5 (l.map bc ++ Z) ∧ wr.ownsRow w1.heap.size 9 1 v n cells ∧ Below w1.heap.size w1 wr ∧ w1.heap.size ≤ wr.heap.size

theorem marked_far {w : World} {base g : Nat} {n : Nat} {v : Value} {xs L : List Value} (h : w.ownsRow base 9 1 v n xs) (hm : Marked w g 5 L) : v.ownBlock ≠ some g := by
  rcases h.2 with ⟨rfl, _⟩ | ⟨g', cap, cur, rfl, _, hh, _⟩
  · simp [Value.ownBlock]
  · intro e
    have : g' = g := by simpa [Value.ownBlock] using e
    subst this
    obtain ⟨_, _, hm⟩ := hm
    rw [hh] at hm
    injection hm with hm
    injection hm with _ ht
    exact absurd ht (by decide)

set_option maxRecDepth 100000 in
set_option maxHeartbeats 8000000 in
theorem cases_light (A B C : Option Addr) (c1 c2 m3 c3 : Nat) (a b : List (List UInt8)) (ws : List UInt8) (w : World) (hA : NameIn w A a) (hB : NameIn w B b) (hC : Row w w.heap.size C (ws.map bc)) (hm3 : ws.length = m3) (hm4 : m3 ≤ maxLen)
    (hf1 : lightN a = true) (hf2 : lightN b = true) :
    Calls Try.prog 7 #[.slice A a.length c1, .slice B b.length c2, .slice C m3 c3] w (TrueB w) := by
  subst hm3
  unfold maxLen at hm4
  have HL1 := Lib.hid (fun (w' : World) (hr : Row w' w'.heap.size A (a.map sv)) => hA.light (c := c1) hr)
  rw [hf1] at HL1
  have HL2 := Lib.hid (fun (w' : World) (hr : Row w' w'.heap.size B (b.map sv)) => hB.light (c := c2) hr)
  rw [hf2] at HL2
  have ha := lightN_sz hf1
  have hb := lightN_sz hf2
  have HA := Lib.hid hA.1
  have HB := Lib.hid hB.1
  have HC := Lib.hid hC
  have HW := Lib.hid (Below.refl w.heap.size w)
  have hz := Nat.le_refl w.heap.size
  have hma : szN a ≤ maxLen := by unfold maxLen; omega
  have hmb : szN b ≤ maxLen := by unfold maxLen; omega
  clear hA hB hC hf1 hf2
  go_enter Try.func7, Try.ntmps7
  go_wp2_with fail
  refine (nanswers_any _).mono ?_
  rintro e w1 ⟨rfl, hb⟩
  replace HA := Lib.hid ((HA.out.below hb).mono hb.size)
  replace HB := Lib.hid ((HB.out.below hb).mono hb.size)
  replace HC := Lib.hid ((HC.out.below hb).mono hb.size)
  replace HW := Lib.hid (HW.out.trans (hb.mono hz))
  replace hz := Nat.le_trans hz hb.size
  clear hb
  go_wp2_with fail
  refine (HL1.out _ HA.out).mono ?_
  rintro e w' ⟨rfl, rfl⟩
  go_wp2_with fail
  refine (HL2.out _ HB.out).mono ?_
  rintro e w' ⟨rfl, rfl⟩
  go_wp2_with fail
  refine (own_any A _ c1 _ a _ rfl HA.out (Nat.le_refl _) (by omega)).mono ?_
  rintro e w2 ⟨A1, k1, rfl, ho, hb2⟩
  have HO := Lib.hid ho
  have HB2 := Lib.hid hb2
  have hs2 := hb2.size
  clear ho hb2
  go_wp2
  go_loopw [8] (CasesRel w1 a A1 k1) (fun i _ => 200 - (intOf i).toNat)
  case atStart => exact ⟨0, a, by omega, rfl, rfl, HO.out, HB2.out, hs2⟩
  case round =>
    obtain ⟨n, m, hn, rfl, hlow, hown, hbw, hz1⟩ := hrel
    have hml := len_of_low hlow
    have HLOW := Lib.hid hlow
    have HOW := Lib.hid hown
    have HBW := Lib.hid hbw
    have HML := Lib.hid hml
    clear hlow hown hbw hml
    by_cases hgo : (n < ws.length ∧ 0 < a.length ∧ n < 200)
    · obtain ⟨g1, g2, g3⟩ := hgo
      have d3 : decide (0 < a.length) = true := by simp; omega
      obtain ⟨g, rfl⟩ := own_some HOW.out g2
      obtain ⟨bw, ow, rfl, _, hcw⟩ := (HC.out.below HBW.out).at_ (k := n) (by rw [List.length_map]; exact g1)
      have hcw' : wr.cell? ⟨bw, ow + n, none⟩ = some (.int .u8 (ws[n]).toNat) := by rw [hcw]; simp [bc]
      have hx := (ws[n]).toNat_lt
      have hkk : (ws[n]).toNat % a.length < a.length := Nat.mod_lt _ g2
      have hkm : (ws[n]).toNat % a.length < m.length := by rw [HML.out]; exact hkk
      have hcc : wr.cell? ⟨g, (ws[n]).toNat % a.length, none⟩ = some (.string ⟨(m[(ws[n]).toNat % a.length]).toArray⟩) := by
        rw [HOW.out.cellAt _ (by omega), List.getElem?_map, List.getElem?_eq_getElem hkm]
        rfl
      have hk0 : (0 : Int) ≤ ((ws[n]).toNat : Int) % (a.length : Int) := by omega
      have hk1 : ((ws[n]).toNat : Int) % (a.length : Int) < (a.length : Int) := by omega
      have hll : (m[(ws[n]).toNat % a.length]).length + 1 < szN m := len_le_szN hkm
      have hsz : szN m = szN a := szN_of_low HLOW.out
      have hlm : (m[(ws[n]).toNat % a.length]).length ≤ 20600 := by omega
      clear hcw hll hsz
      have d2 : decide ((n : Int) < 200) = true := by simp; omega
      have HKM := Lib.hid (fun (l : List UInt8) (h : lowL l = lowL m[(ws[n]).toNat % a.length]) => lowN_set hkm h)
      obtain ⟨l0, hl0⟩ : ∃ l0, l0 = m[(ws[n]).toNat % a.length] := ⟨_, rfl⟩
      rw [← hl0] at hcc hlm HKM
      clear hl0
      go_wp2_with (refine wpList_bytes rfl (.tmp 54) 9 33 5 rfl Try.underlying9 Try.underlying33 Try.underlying5 l0 rfl ?_; intro C4 w4 hC4 hM4 hB4 hs4)
      obtain ⟨Z, hZ⟩ : ∃ Z, Z = zerosL (.int .u8 0) (C4 - l0.length) := ⟨_, rfl⟩
      rw [← hZ] at hM4
      have HM4 := Lib.hid hM4
      have HO4 := Lib.hid (HOW.out.kept (row := none) ⟨hB4.os, hB4.tape, hB4.output, hB4.size, fun j hj _ => hB4.block j hj⟩ (by right; simp [Value.ownBlock]))
      have HB4 := Lib.hid (HBW.out.trans (hB4.mono hz1))
      have hz4 : w1.heap.size ≤ w4.heap.size := by omega
      have HS4 := Lib.hid hs4
      have hgl : w1.heap.size ≤ g := (HOW.out.lt g rfl).1
      clear hM4 hB4 hs4 hZ
      obtain ⟨wo, rfl⟩ : ∃ wo : World, wo = wr := ⟨_, rfl⟩
      go_loopw [11] (CasesRel2 w1 wo.heap.size l0 Z (.slice (some ⟨g, 0, none⟩) a.length k1) a.length (m.map sv)) (fun j _ => l0.length - (intOf j).toNat)
      case atStart => exact ⟨0, l0, Nat.zero_le _, rfl, rfl, rfl, HM4.out, HO4.out, HB4.out, hz4⟩
      case round =>
        obtain ⟨k, l, hk, rfl, hll, hlow, hmk, hown, hbw, hzi⟩ := hrel
        have HLL := Lib.hid hll
        have HLO := Lib.hid hlow
        have HMK := Lib.hid hmk
        have HOI := Lib.hid hown
        have HBI := Lib.hid hbw
        clear hll hlow hmk hown hbw
        by_cases hlt : k < l0.length
        · have hkl : k < l.length := by rw [HLL.out]; exact hlt
          have hc : wr.cell? ⟨wo.heap.size, k, none⟩ = some (.int .u8 (l[k]).toNat) := by
            rw [HMK.out.cell k, List.getElem?_append_left (by rw [List.length_map]; exact hkl), List.getElem?_map, List.getElem?_eq_getElem hkl]
            rfl
          have hf : wr.frozen? ⟨wo.heap.size, k, none⟩ = false := HMK.out.frozen (by rw [List.length_append, List.length_map]; omega)
          have hlt8 := (l[k]).toNat_lt
          by_cases h1 : 97 ≤ (l[k]).toNat
          · by_cases h2 : (l[k]).toNat ≤ 122
            · have e2 : decide (((l[k]).toNat : Int) ≤ 122) = true := by simp; omega
              by_cases h3 : (k + n) % 3 = 0
              · have e3 : (((k : Int) + (n : Int)) % 3 == 0) = true := by rw [beq_iff_eq]; omega
                have HS := Lib.hid (lowL_set hkl HLO.out h1 h2)
                have e4 : (l[k] - 32).toNat = (l[k]).toNat - 32 := by
                  rw [UInt8.toNat_sub_of_le]
                  · rfl
                  · rw [UInt8.le_iff_toNat_le]; show 32 ≤ _; omega
                have E4 := Lib.hid e4
                clear h3 e4
                go_wp2
                refine ⟨⟨k + 1, l.set k (l[k] - 32), by omega, by go_num, by rw [List.length_set]; exact HLL.out, HS.out, ?_, ?_, ?_, ?_⟩, by simp [intOf]; omega⟩
                · have h := HMK.out.set_ k (.int .u8 (((l[k]).toNat : Int) - 32))
                  rw [List.set_append_left _ _ (by rw [List.length_map]; exact hkl)] at h
                  rw [List.map_set, show bc (l[k] - 32) = .int .u8 (((l[k]).toNat : Int) - 32) by unfold bc; rw [E4.out]; congr 1; omega]
                  exact h
                · exact own_set_far HOI.out (marked_far HOI.out HMK.out) _
                · exact HBI.out.setCell (by show w1.heap.size ≤ wo.heap.size; omega) _
                · simpa using hzi
              · have e3 : (((k : Int) + (n : Int)) % 3 == 0) = false := by rw [beq_eq_false_iff_ne]; omega
                clear h3
                go_wp2
                exact ⟨⟨k + 1, l, by omega, by go_num, HLL.out, HLO.out, HMK.out, HOI.out, HBI.out, hzi⟩, by simp [intOf]; omega⟩
            · have e2 : decide (((l[k]).toNat : Int) ≤ 122) = false := by simp; omega
              go_wp2
              exact ⟨⟨k + 1, l, by omega, by go_num, HLL.out, HLO.out, HMK.out, HOI.out, HBI.out, hzi⟩, by simp [intOf]; omega⟩
          · go_wp2
            exact ⟨⟨k + 1, l, by omega, by go_num, HLL.out, HLO.out, HMK.out, HOI.out, HBI.out, hzi⟩, by simp [intOf]; omega⟩
        · obtain rfl : k = l0.length := by omega
          have hr : Row wr wr.heap.size (some ⟨wo.heap.size, 0, none⟩) (l.map bc) := by
            have h := HMK.out.row.take l.length
            rwa [List.take_left' (by rw [List.length_map])] at h
          have hcv := convert_row_run (P := Try.prog) wr 33 9 5 Try.underlying33 Try.underlying5 Try.underlying9 _ l0.length C4 _ l HLL.out hr
          have hci : wr.cell? ⟨g, (ws[n]).toNat % a.length, none⟩ = some (.string ⟨(m[(ws[n]).toNat % a.length]).toArray⟩) := by
            rw [HOI.out.cellAt _ (by omega), List.getElem?_map, List.getElem?_eq_getElem hkm]
            rfl
          have hfi : wr.frozen? ⟨g, (ws[n]).toNat % a.length, none⟩ = false := HOI.out.frozenAt _
          clear hr
          go_wp2
          refine ⟨⟨n + 1, m.set ((ws[n]).toNat % a.length) l, by omega, by go_num, ?_, ?_, ?_, ?_⟩, by simp [intOf]; omega⟩
          · rw [HKM.out l HLO.out]; exact HLOW.out
          · rw [List.map_set]
            exact (HOI.out.stored _ _).1
          · exact HBI.out.setCell hgl _
          · simpa using hzi
    · have hex : ws.length ≤ n ∨ (n < ws.length ∧ a.length ≤ 0) ∨ (n < ws.length ∧ 0 < a.length ∧ 200 ≤ n) := by omega
      have HM := Lib.hid (Row.of_own HOW.out)
      have hkm := own_cap HOW.out
      replace HA := Lib.hid ((HA.out.below HBW.out).mono hz1)
      replace HB := Lib.hid ((HB.out.below HBW.out).mono hz1)
      replace HW := Lib.hid (HW.out.trans (HBW.out.mono hz))
      replace hz := Nat.le_trans hz hz1
      have hsm := szN_of_low HLOW.out
      have hma1 : szN m ≤ maxLen := by unfold maxLen; omega
      have hsl : szN (lowN m) ≤ maxLen := by rw [szN_lowN]; exact hma1
      have hsl2 : szN (lowN m) ≤ 20600 := by rw [szN_lowN]; omega
      have hml2 : m.length ≤ 600 := by have := HML.out; omega
      have hsm2 : szN m ≤ 20600 := by omega
      have hll2 : (lowN m).length ≤ 600 := by rw [length_lowN]; exact hml2
      have HE1 := Lib.hid (fun A' B' c1' c2' (w' : World) hA' hB' => equal_any A' B' a.length m.length c1' c2' w'.heap.size a m w' rfl rfl hA' hB' (Nat.le_refl _) hma hma1)
      rw [eqN_of_low HLOW.out] at HE1
      have HX1 := Lib.hid (fun A' B' c1' c2' (w' : World) hA' hB' => cmp_any A' B' m.length b.length c1' c2' w'.heap.size m b w' rfl rfl hA' hB' (Nat.le_refl _) hma1 hmb)
      have HX2 := Lib.hid (fun A' B' c1' c2' (w' : World) hA' hB' => cmp_any A' B' a.length b.length c1' c2' w'.heap.size a b w' rfl rfl hA' hB' (Nat.le_refl _) hma hmb)
      rw [cmpN_of_low HLOW.out] at HX1
      have HU1 := Lib.hid (fun A' B' c1' c2' (w' : World) hA' hB' hc' => under_any A' B' b.length m.length c1' c2' w'.heap.size b m w' rfl rfl hA' hB' (Nat.le_refl _) hmb hma1 hc')
      have HU2 := Lib.hid (fun A' B' c1' c2' (w' : World) hA' hB' hc' => under_any A' B' b.length a.length c1' c2' w'.heap.size b a w' rfl rfl hA' hB' (Nat.le_refl _) hmb hma hc')
      rw [underN_of_low HLOW.out] at HU1
      have HE2 := Lib.hid (fun A' B' c1' c2' (w' : World) hA' hB' => equal_any A' B' (lowN m).length a.length c1' c2' w'.heap.size (lowN m) a w' rfl rfl hA' hB' (Nat.le_refl _) hsl hma)
      rw [show eqN (lowN m) a = true by unfold eqN; rw [lowN_lowN, HLOW.out]; simp] at HE2
      have HEX1 := Lib.hid (fun A' B' c1' c2' (w' : World) hA' hB' => exact_any A' B' (lowN (lowN m)).length (lowN m).length c1' c2' w'.heap.size (lowN (lowN m)) (lowN m) w' rfl rfl hA' hB' (by rw [lowN_lowN]; unfold maxLen; omega))
      rw [show decide (lowN (lowN m) = lowN m) = true by rw [lowN_lowN]; simp] at HEX1
      have HEX2 := Lib.hid (fun A' B' c1' c2' (w' : World) hA' hB' => exact_any A' B' (lowN m).length (lowN a).length c1' c2' w'.heap.size (lowN m) (lowN a) w' rfl rfl hA' hB' (by unfold maxLen; omega))
      rw [show decide (lowN m = lowN a) = true by rw [HLOW.out]; simp] at HEX2
      have hr1 := cmpN_rng a b
      have hx0 : (cmpN a b == cmpN a b) = true := by simp
      have hu0 : (underN b a == underN b a) = true := by simp
      generalize cmpN a b = x at HX1 HX2 hx0 hr1
      generalize underN b a = u at HU1 HU2 hu0
      clear hr1 hsm hma hmb hsl hgo hma1
      rcases hex with h1 | ⟨h1, h2⟩ | ⟨h1, h2, h3⟩
      all_goals
        go_wp2_with fail
        refine (own_any A1 _ k1 _ m _ HML.out HM.out (Nat.le_refl _) (by omega)).mono ?_
        rintro e w3 ⟨A2, k2, rfl, ho, hb⟩
        have H2 := Lib.hid (Row.of_own ho)
        have hk2 := own_cap ho
        clear ho
        replace HA := Lib.hid ((HA.out.below hb).mono hb.size)
        replace HB := Lib.hid ((HB.out.below hb).mono hb.size)
        replace HM := Lib.hid ((HM.out.below hb).mono hb.size)
        replace HW := Lib.hid (HW.out.trans (hb.mono hz))
        replace hz := Nat.le_trans hz hb.size
        clear hb
        go_wp2_with fail
        refine (lower_any A2 _ k2 _ m _ rfl H2.out (Nat.le_refl _) (by omega) (by unfold maxLen; omega)).mono ?_
        rintro e w4 ⟨A3, k3, rfl, ho, hb⟩
        have HLw := Lib.hid (Row.of_own ho)
        have hk3 := own_cap ho
        clear ho
        replace HA := Lib.hid ((HA.out.below hb).mono hb.size)
        replace HB := Lib.hid ((HB.out.below hb).mono hb.size)
        replace HM := Lib.hid ((HM.out.below hb).mono hb.size)
        replace HW := Lib.hid (HW.out.trans (hb.mono hz))
        replace hz := Nat.le_trans hz hb.size
        clear hb
        go_wp2_with fail
        refine (own_any A1 _ k1 _ m _ HML.out HM.out (Nat.le_refl _) (by omega)).mono ?_
        rintro e w5 ⟨A4, k4, rfl, ho, hb⟩
        have H4 := Lib.hid (Row.of_own ho)
        have hk4 := own_cap ho
        clear ho
        replace HA := Lib.hid ((HA.out.below hb).mono hb.size)
        replace HB := Lib.hid ((HB.out.below hb).mono hb.size)
        replace HM := Lib.hid ((HM.out.below hb).mono hb.size)
        replace HLw := Lib.hid ((HLw.out.below hb).mono hb.size)
        replace HW := Lib.hid (HW.out.trans (hb.mono hz))
        replace hz := Nat.le_trans hz hb.size
        clear hb
        go_wp2_with fail
        refine (HE1.out _ _ _ _ _ HA.out H4.out).mono ?_
        rintro e w6 ⟨rfl, hb⟩
        replace HA := Lib.hid ((HA.out.below hb).mono hb.size)
        replace HB := Lib.hid ((HB.out.below hb).mono hb.size)
        replace HM := Lib.hid ((HM.out.below hb).mono hb.size)
        replace HLw := Lib.hid ((HLw.out.below hb).mono hb.size)
        replace HW := Lib.hid (HW.out.trans (hb.mono hz))
        replace hz := Nat.le_trans hz hb.size
        clear hb
        go_wp2_with fail
        refine (own_any A1 _ k1 _ m _ HML.out HM.out (Nat.le_refl _) (by omega)).mono ?_
        rintro e w7 ⟨A5, k5, rfl, ho, hb⟩
        have H5 := Lib.hid (Row.of_own ho)
        have hk5 := own_cap ho
        clear ho
        replace HA := Lib.hid ((HA.out.below hb).mono hb.size)
        replace HB := Lib.hid ((HB.out.below hb).mono hb.size)
        replace HM := Lib.hid ((HM.out.below hb).mono hb.size)
        replace HLw := Lib.hid ((HLw.out.below hb).mono hb.size)
        replace HW := Lib.hid (HW.out.trans (hb.mono hz))
        replace hz := Nat.le_trans hz hb.size
        clear hb
        go_wp2_with fail
        refine (own_any B _ c2 _ b _ rfl HB.out (Nat.le_refl _) (by omega)).mono ?_
        rintro e w8 ⟨A6, k6, rfl, ho, hb⟩
        have H6 := Lib.hid (Row.of_own ho)
        have hk6 := own_cap ho
        clear ho
        replace HA := Lib.hid ((HA.out.below hb).mono hb.size)
        replace HB := Lib.hid ((HB.out.below hb).mono hb.size)
        replace HM := Lib.hid ((HM.out.below hb).mono hb.size)
        replace HLw := Lib.hid ((HLw.out.below hb).mono hb.size)
        replace H5 := Lib.hid ((H5.out.below hb).mono hb.size)
        replace HW := Lib.hid (HW.out.trans (hb.mono hz))
        replace hz := Nat.le_trans hz hb.size
        clear hb
        go_wp2_with fail
        refine (HX1.out _ _ _ _ _ H5.out H6.out).mono ?_
        rintro e w9 ⟨rfl, hb⟩
        replace HA := Lib.hid ((HA.out.below hb).mono hb.size)
        replace HB := Lib.hid ((HB.out.below hb).mono hb.size)
        replace HM := Lib.hid ((HM.out.below hb).mono hb.size)
        replace HLw := Lib.hid ((HLw.out.below hb).mono hb.size)
        replace HW := Lib.hid (HW.out.trans (hb.mono hz))
        replace hz := Nat.le_trans hz hb.size
        clear hb
        go_wp2_with fail
        refine (own_any A _ c1 _ a _ rfl HA.out (Nat.le_refl _) (by omega)).mono ?_
        rintro e w10 ⟨A7, k7, rfl, ho, hb⟩
        have H7 := Lib.hid (Row.of_own ho)
        have hk7 := own_cap ho
        clear ho
        replace HA := Lib.hid ((HA.out.below hb).mono hb.size)
        replace HB := Lib.hid ((HB.out.below hb).mono hb.size)
        replace HM := Lib.hid ((HM.out.below hb).mono hb.size)
        replace HLw := Lib.hid ((HLw.out.below hb).mono hb.size)
        replace HW := Lib.hid (HW.out.trans (hb.mono hz))
        replace hz := Nat.le_trans hz hb.size
        clear hb
        go_wp2_with fail
        refine (own_any B _ c2 _ b _ rfl HB.out (Nat.le_refl _) (by omega)).mono ?_
        rintro e w11 ⟨A8, k8, rfl, ho, hb⟩
        have H8 := Lib.hid (Row.of_own ho)
        have hk8 := own_cap ho
        clear ho
        replace HA := Lib.hid ((HA.out.below hb).mono hb.size)
        replace HB := Lib.hid ((HB.out.below hb).mono hb.size)
        replace HM := Lib.hid ((HM.out.below hb).mono hb.size)
        replace HLw := Lib.hid ((HLw.out.below hb).mono hb.size)
        replace H7 := Lib.hid ((H7.out.below hb).mono hb.size)
        replace HW := Lib.hid (HW.out.trans (hb.mono hz))
        replace hz := Nat.le_trans hz hb.size
        clear hb
        go_wp2_with fail
        refine (HX2.out _ _ _ _ _ H7.out H8.out).mono ?_
        rintro e w12 ⟨rfl, hb⟩
        replace HA := Lib.hid ((HA.out.below hb).mono hb.size)
        replace HB := Lib.hid ((HB.out.below hb).mono hb.size)
        replace HM := Lib.hid ((HM.out.below hb).mono hb.size)
        replace HLw := Lib.hid ((HLw.out.below hb).mono hb.size)
        replace HW := Lib.hid (HW.out.trans (hb.mono hz))
        replace hz := Nat.le_trans hz hb.size
        clear hb
        go_wp2_with fail
        refine (own_any B _ c2 _ b _ rfl HB.out (Nat.le_refl _) (by omega)).mono ?_
        rintro e w13 ⟨A9, k9, rfl, ho, hb⟩
        have H9 := Lib.hid (Row.of_own ho)
        have hk9 := own_cap ho
        clear ho
        replace HA := Lib.hid ((HA.out.below hb).mono hb.size)
        replace HB := Lib.hid ((HB.out.below hb).mono hb.size)
        replace HM := Lib.hid ((HM.out.below hb).mono hb.size)
        replace HLw := Lib.hid ((HLw.out.below hb).mono hb.size)
        replace HW := Lib.hid (HW.out.trans (hb.mono hz))
        replace hz := Nat.le_trans hz hb.size
        clear hb
        go_wp2_with fail
        refine (own_any A1 _ k1 _ m _ HML.out HM.out (Nat.le_refl _) (by omega)).mono ?_
        rintro e w14 ⟨A10, k10, rfl, ho, hb⟩
        have H10 := Lib.hid (Row.of_own ho)
        have hk10 := own_cap ho
        clear ho
        replace HA := Lib.hid ((HA.out.below hb).mono hb.size)
        replace HB := Lib.hid ((HB.out.below hb).mono hb.size)
        replace HM := Lib.hid ((HM.out.below hb).mono hb.size)
        replace HLw := Lib.hid ((HLw.out.below hb).mono hb.size)
        replace H9 := Lib.hid ((H9.out.below hb).mono hb.size)
        replace HW := Lib.hid (HW.out.trans (hb.mono hz))
        replace hz := Nat.le_trans hz hb.size
        clear hb
        go_wp2_with fail
        refine (HU1.out _ _ _ _ _ H9.out H10.out hk9).mono ?_
        rintro e w15 ⟨rfl, hb⟩
        replace HA := Lib.hid ((HA.out.below hb).mono hb.size)
        replace HB := Lib.hid ((HB.out.below hb).mono hb.size)
        replace HM := Lib.hid ((HM.out.below hb).mono hb.size)
        replace HLw := Lib.hid ((HLw.out.below hb).mono hb.size)
        replace HW := Lib.hid (HW.out.trans (hb.mono hz))
        replace hz := Nat.le_trans hz hb.size
        clear hb
        go_wp2_with fail
        refine (own_any B _ c2 _ b _ rfl HB.out (Nat.le_refl _) (by omega)).mono ?_
        rintro e w16 ⟨A11, k11, rfl, ho, hb⟩
        have H11 := Lib.hid (Row.of_own ho)
        have hk11 := own_cap ho
        clear ho
        replace HA := Lib.hid ((HA.out.below hb).mono hb.size)
        replace HB := Lib.hid ((HB.out.below hb).mono hb.size)
        replace HM := Lib.hid ((HM.out.below hb).mono hb.size)
        replace HLw := Lib.hid ((HLw.out.below hb).mono hb.size)
        replace HW := Lib.hid (HW.out.trans (hb.mono hz))
        replace hz := Nat.le_trans hz hb.size
        clear hb
        go_wp2_with fail
        refine (own_any A _ c1 _ a _ rfl HA.out (Nat.le_refl _) (by omega)).mono ?_
        rintro e w17 ⟨A12, k12, rfl, ho, hb⟩
        have H12 := Lib.hid (Row.of_own ho)
        have hk12 := own_cap ho
        clear ho
        replace HA := Lib.hid ((HA.out.below hb).mono hb.size)
        replace HB := Lib.hid ((HB.out.below hb).mono hb.size)
        replace HM := Lib.hid ((HM.out.below hb).mono hb.size)
        replace HLw := Lib.hid ((HLw.out.below hb).mono hb.size)
        replace H11 := Lib.hid ((H11.out.below hb).mono hb.size)
        replace HW := Lib.hid (HW.out.trans (hb.mono hz))
        replace hz := Nat.le_trans hz hb.size
        clear hb
        go_wp2_with fail
        refine (HU2.out _ _ _ _ _ H11.out H12.out hk11).mono ?_
        rintro e w18 ⟨rfl, hb⟩
        replace HA := Lib.hid ((HA.out.below hb).mono hb.size)
        replace HB := Lib.hid ((HB.out.below hb).mono hb.size)
        replace HM := Lib.hid ((HM.out.below hb).mono hb.size)
        replace HLw := Lib.hid ((HLw.out.below hb).mono hb.size)
        replace HW := Lib.hid (HW.out.trans (hb.mono hz))
        replace hz := Nat.le_trans hz hb.size
        clear hb
        go_wp2_with fail
        refine (HE2.out _ _ _ _ _ HLw.out HA.out).mono ?_
        rintro e w19 ⟨rfl, hb⟩
        replace HA := Lib.hid ((HA.out.below hb).mono hb.size)
        replace HB := Lib.hid ((HB.out.below hb).mono hb.size)
        replace HM := Lib.hid ((HM.out.below hb).mono hb.size)
        replace HLw := Lib.hid ((HLw.out.below hb).mono hb.size)
        replace HW := Lib.hid (HW.out.trans (hb.mono hz))
        replace hz := Nat.le_trans hz hb.size
        clear hb
        go_wp2_with fail
        refine (lower_any A3 _ k3 _ (lowN m) _ rfl HLw.out (Nat.le_refl _) (by omega) (by unfold maxLen; omega)).mono ?_
        rintro e w20 ⟨A13, k13, rfl, ho, hb⟩
        have H13 := Lib.hid (Row.of_own ho)
        have hk13 := own_cap ho
        clear ho
        replace HA := Lib.hid ((HA.out.below hb).mono hb.size)
        replace HLw := Lib.hid ((HLw.out.below hb).mono hb.size)
        replace HW := Lib.hid (HW.out.trans (hb.mono hz))
        replace hz := Nat.le_trans hz hb.size
        clear hb
        go_wp2_with fail
        refine (HEX1.out _ _ _ _ _ H13.out HLw.out).mono ?_
        rintro e w21 ⟨rfl, q, rfl⟩
        replace HA := Lib.hid (HA.out.drewN q)
        replace HLw := Lib.hid (HLw.out.drewN q)
        replace HW := Lib.hid (below_drewN' HW.out q)
        go_wp2_with fail
        refine (own_any A _ c1 _ a _ rfl HA.out (Nat.le_refl _) (by omega)).mono ?_
        rintro e w22 ⟨A14, k14, rfl, ho, hb⟩
        have H14 := Lib.hid (Row.of_own ho)
        have hk14 := own_cap ho
        clear ho
        replace HA := Lib.hid ((HA.out.below hb).mono hb.size)
        replace HLw := Lib.hid ((HLw.out.below hb).mono hb.size)
        replace HW := Lib.hid (HW.out.trans (hb.mono hz))
        replace hz := Nat.le_trans hz hb.size
        clear hb
        go_wp2_with fail
        refine (lower_any A14 _ k14 _ a _ rfl H14.out (Nat.le_refl _) (by omega) (by unfold maxLen; omega)).mono ?_
        rintro e w23 ⟨A15, k15, rfl, ho, hb⟩
        have H15 := Lib.hid (Row.of_own ho)
        have hk15 := own_cap ho
        clear ho
        replace HLw := Lib.hid ((HLw.out.below hb).mono hb.size)
        replace HW := Lib.hid (HW.out.trans (hb.mono hz))
        replace hz := Nat.le_trans hz hb.size
        clear hb
        go_wp2_with fail
        refine (HEX2.out _ _ _ _ _ HLw.out H15.out).mono ?_
        rintro e w24 ⟨rfl, q2, rfl⟩
        go_wp2
        go_ret
        exact ⟨rfl, below_drewN' HW.out q2⟩

theorem cases_any (A B C : Option Addr) (c1 c2 m3 c3 : Nat) (a b : List (List UInt8)) (ws : List UInt8) (w : World) (hA : NameIn w A a) (hB : NameIn w B b) (hC : Row w w.heap.size C (ws.map bc)) (hm3 : ws.length = m3) (hm4 : m3 ≤ maxLen) :
    Calls Try.prog 7 #[.slice A a.length c1, .slice B b.length c2, .slice C m3 c3] w (TrueB w) := by
  cases hf1 : lightN a
  · exact cases_dark1 A B C c1 c2 m3 c3 a b w hA hf1
  · cases hf2 : lightN b
    · exact cases_dark2 A B C c1 c2 m3 c3 a b w hA hB hf1 hf2
    · exact cases_light A B C c1 c2 m3 c3 a b ws w hA hB hC hm3 hm4 hf1 hf2

end Go.Proofs.Ytiegneopolffoaa
