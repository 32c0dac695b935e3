/-
  NameParents: a name's parents are it, and all above it.
-/
import Derived.Test.YtiegneopolffoaaNAnswers
import Derived.Test.YtiegneopolffoaaSound
import Derived.Test.YtiegneopolffoaaExact
import Derived.Test.YtiegneopolffoaaEqual
import Derived.Test.YtiegneopolffoaaParents
import Derived.Deep.RegionHeld3
import Derived.Deep.RegionWith
import Derived.IntWalk
namespace Go.Proofs.Ytiegneopolffoaa
open Go.RowKit

set_option maxHeartbeats 1000000 in
theorem parents_dark (A : Option Addr) (c1 : Nat) (n : List (List UInt8)) (w : World) (hA : NameIn w A n) (hf : lightN n = false) :
    Calls Try.prog 9 #[.slice A n.length c1] w (TrueB w) := by
  have HL := Lib.hid (fun (w' : World) (hr : Row w' w'.heap.size A (n.map sv)) => hA.light (c := c1) hr)
  rw [hf] at HL
  have HA := Lib.hid hA.1
  have HW := Lib.hid (Below.refl w.heap.size w)
  have hz := Nat.le_refl w.heap.size
  clear hA hf
  go_enter Try.func9, Try.ntmps9
  go_wp2_with fail
  refine (nanswers_any _).mono ?_
  rintro e w1 ⟨rfl, hb⟩
  replace HA := Lib.hid ((HA.out.below hb).mono hb.size)
  replace HW := Lib.hid (HW.out.trans (hb.mono hz))
  replace hz := Nat.le_trans hz hb.size
  clear hb
  go_wp2_with fail
  refine (HL.out _ HA.out).mono ?_
  rintro e w' ⟨rfl, rfl⟩
  go_wp2_with fail
  refine (nanswers_any _).mono ?_
  rintro e w2 ⟨rfl, hb⟩
  replace HA := Lib.hid ((HA.out.below hb).mono hb.size)
  replace HW := Lib.hid (HW.out.trans (hb.mono hz))
  replace hz := Nat.le_trans hz hb.size
  clear hb
  go_wp2
  go_ret
  exact ⟨rfl, HW.out⟩

set_option maxHeartbeats 1000000 in
theorem parents_long (A : Option Addr) (c1 : Nat) (n : List (List UInt8)) (w : World) (hA : NameIn w A n) (hf : lightN n = true) (hl : 130 < n.length) :
    Calls Try.prog 9 #[.slice A n.length c1] w (TrueB w) := by
  have HL := Lib.hid (fun (w' : World) (hr : Row w' w'.heap.size A (n.map sv)) => hA.light (c := c1) hr)
  rw [hf] at HL
  have d1 : decide (130 < (n.length : Int)) = true := by simp; omega
  have HA := Lib.hid hA.1
  have HW := Lib.hid (Below.refl w.heap.size w)
  have hz := Nat.le_refl w.heap.size
  clear hA hf
  go_enter Try.func9, Try.ntmps9
  go_wp2_with fail
  refine (nanswers_any _).mono ?_
  rintro e w1 ⟨rfl, hb⟩
  replace HA := Lib.hid ((HA.out.below hb).mono hb.size)
  replace HW := Lib.hid (HW.out.trans (hb.mono hz))
  replace hz := Nat.le_trans hz hb.size
  clear hb
  go_wp2_with fail
  refine (HL.out _ HA.out).mono ?_
  rintro e w' ⟨rfl, rfl⟩
  go_wp2_with fail
  refine (nanswers_any _).mono ?_
  rintro e w2 ⟨rfl, hb⟩
  replace HA := Lib.hid ((HA.out.below hb).mono hb.size)
  replace HW := Lib.hid (HW.out.trans (hb.mono hz))
  replace hz := Nat.le_trans hz hb.size
  clear hb
  go_wp2
  go_ret
  exact ⟨rfl, HW.out⟩

/-- The lists us read as n's tails. -/
def TailsIn (w : World) (n : List (List UInt8)) (us : List Value) : Prop :=
  us.length = n.length + 1 ∧ ∀ j, j ≤ n.length → ∃ Aj cj, us[j]? = some (.slice Aj (n.length - j) cj) ∧ Row w w.heap.size Aj ((n.drop j).map sv) ∧ n.length - j ≤ cj
theorem TailsIn.of {B : Nat} {n : List (List UInt8)} {us : List Value} {w : World} (h : Tails B n us w) (hl : us.length = n.length + 1) : TailsIn w n us := by
  refine ⟨hl, fun j hj => ?_⟩
  have hlt : j < us.length := by omega
  have h1 := h j us[j] (List.getElem?_eq_getElem hlt)
  obtain ⟨A, c, e, hc, _⟩ := own_form h1
  rw [e] at h1
  exact ⟨A, c, by rw [List.getElem?_eq_getElem hlt, e], Row.of_own h1, hc⟩
theorem TailsIn.below {n : List (List UInt8)} {us : List Value} {w w' : World} (h : TailsIn w n us) (hb : Below w.heap.size w w') : TailsIn w' n us :=
  ⟨h.1, fun j hj => by
    obtain ⟨A, c, e, hr, hc⟩ := h.2 j hj
    exact ⟨A, c, e, (hr.below hb).mono hb.size, hc⟩⟩

def PLRel (w : World) (n : List (List UInt8)) (i : Value) (wr : World) : Prop := ∃ k : Nat, k ≤ n.length + 1 ∧ i = .int .i64 k ∧ Below w.heap.size w wr

theorem under_tail {n : List (List UInt8)} {k : Nat} (h : k ≤ n.length) : underN n (n.drop k) = true := by
  unfold underN
  rw [List.length_drop, decide_eq_true (by omega), show n.length - (n.length - k) = k from by omega]
  simp [eqN]
theorem under_not {n : List (List UInt8)} {k : Nat} (h : k + 1 ≤ n.length) : underN (n.drop (k + 1)) (n.drop k) = false := by
  unfold underN
  rw [List.length_drop, List.length_drop, decide_eq_false (by omega)]
  rfl

set_option maxHeartbeats 16000000 in
theorem parents_light (A : Option Addr) (c1 : Nat) (n : List (List UInt8)) (w : World) (hA : NameIn w A n) (hc : n.length ≤ c1) (hf : lightN n = true) (hl : n.length ≤ 130) (hpos : 0 < n.length) :
    Calls Try.prog 9 #[.slice A n.length c1] w (TrueB w) := by
  have HL := Lib.hid (fun (w' : World) (hr : Row w' w'.heap.size A (n.map sv)) => hA.light (c := c1) hr)
  rw [hf] at HL
  have ha := lightN_sz hf
  have d1 : decide (130 < (n.length : Int)) = false := by simp; omega
  have hma : szN n ≤ maxLen := by unfold maxLen; omega
  have HA := Lib.hid hA.1
  have HW := Lib.hid (Below.refl w.heap.size w)
  have hz := Nat.le_refl w.heap.size
  have dn : (((n.length : Int) + 1) != ((n.length : Int) + 1)) = false := by simp
  clear hA hf
  go_enter Try.func9, Try.ntmps9
  go_wp2_with fail
  refine (nanswers_any _).mono ?_
  rintro e w1 ⟨rfl, hb⟩
  replace HA := Lib.hid ((HA.out.below hb).mono hb.size)
  replace HW := Lib.hid (HW.out.trans (hb.mono hz))
  replace hz := Nat.le_trans hz hb.size
  clear hb
  go_wp2_with fail
  refine (HL.out _ HA.out).mono ?_
  rintro e w' ⟨rfl, rfl⟩
  go_wp2_with fail
  refine (own_any A _ c1 _ n _ rfl HA.out (Nat.le_refl _) (by omega)).mono ?_
  rintro e w2 ⟨A1, k1, rfl, ho, hb⟩
  have H1 := Lib.hid (Row.of_own ho)
  have hk1 := own_cap ho
  clear ho
  replace HA := Lib.hid ((HA.out.below hb).mono hb.size)
  replace HW := Lib.hid (HW.out.trans (hb.mono hz))
  replace hz := Nat.le_trans hz hb.size
  clear hb
  go_wp2_with fail
  refine (parents_any A1 _ k1 _ n _ rfl H1.out (Nat.le_refl _) (by omega) hk1).mono ?_
  rintro e w3 ⟨A2, c2, us, rfl, hul, hown, htl, hb⟩
  have HO := Lib.hid (Row.of_own hown)
  have HT := Lib.hid (TailsIn.of htl hul)
  clear hown htl hul
  replace HA := Lib.hid ((HA.out.below hb).mono hb.size)
  replace HW := Lib.hid (HW.out.trans (hb.mono hz))
  replace hz := Nat.le_trans hz hb.size
  clear hb
  go_wp2
  go_loopw [4] (PLRel w3 n) (fun i _ => n.length + 1 - (intOf i).toNat)
  case atStart => exact ⟨0, Nat.zero_le _, rfl, Below.refl _ _⟩
  case round =>
    obtain ⟨k, hk, rfl, hb⟩ := hrel
    have hz3 := hb.size
    have HB := Lib.hid hb
    have HAr := Lib.hid ((HA.out.below hb).mono hz3)
    have HOr := Lib.hid ((HO.out.below hb).mono hz3)
    have HTr := Lib.hid (HT.out.below hb)
    clear hb
    by_cases hlt : k < n.length + 1
    · obtain ⟨bo, oo, rfl, hbo, hco⟩ := HOr.out (by intro e; have := HTr.out.1; rw [e] at this; simp at this)
      obtain ⟨Ai, ci, hi, hri, hci⟩ := HTr.out.2 k (by omega)
      have hck := hco k _ hi
      have HI0 := Lib.hid hri
      have HIr := Lib.hid hri.drew
      have HNr := Lib.hid HAr.out.drew
      have HBr := Lib.hid HB.out.drew
      have HCO := Lib.hid hco
      have HII := Lib.hid hi
      have hsd : szN (n.drop k) ≤ maxLen := Nat.le_trans (szN_drop_le _ _) hma
      have hnm : n.length ≤ maxLen := by unfold maxLen; omega
      have HEX := Lib.hid (fun A' B' c' d' (W : World) (H' : Nat) (h1 : Row W H' A' ((n.drop k).map sv)) (h2 : Row W H' B' ((n.drop k).map sv)) =>
        (by have h := exact_any A' B' (n.length - k) (n.length - k) c' d' H' (n.drop k) (n.drop k) W (by rw [List.length_drop]) (by rw [List.length_drop]) h1 h2 (by omega)
            rwa [show decide (n.drop k = n.drop k) = true from by simp] at h : Calls Try.prog 21 #[.slice A' (n.length - k) c', .slice B' (n.length - k) d'] W (Drewn W (.bool true))))
      have HU1 := Lib.hid (fun A' k' (W : World) (h1 : Row W W.heap.size A' (n.map sv)) (h2 : Row W W.heap.size Ai ((n.drop k).map sv)) (h3 : n.length ≤ k') =>
        (by have h := under_any A' Ai n.length (n.length - k) k' ci W.heap.size n (n.drop k) W rfl (by rw [List.length_drop]) h1 h2 (Nat.le_refl _) hma hsd h3
            rwa [under_tail (by omega)] at h : Calls Try.prog 26 #[.slice A' n.length k', .slice Ai (n.length - k) ci] W (Gave W (.bool true))))
      clear hco hi hri
      rcases k with _ | k
      · simp only [Nat.sub_zero, List.drop_zero, Nat.add_zero, Int.natCast_zero] at *
        obtain ⟨b, off, rfl, _, _⟩ := HNr.out.some_ (by rw [List.length_map]; omega)
        go_wp2
        refine wp_region_held_drew (S := fun w' => w'.cell? ⟨bo, oo, none⟩ = some (.slice Ai n.length ci)) (by kernel_rfl) hck (fun hHeld => ?_)
        refine wpAnyH_take (i := 0) (oi := ⟨some 33, _, _, _, _, _⟩) (v := ?v0) rfl (by kernel_rfl) (by kernel_rfl) (by kernel_rfl) ?q0 (Or.inl ⟨by kernel_rfl, ?y0⟩) hHeld ?r0
        case q0 => exact fun _ _ _ h => h
        case y0 => (intro w hSw; (try dsimp only at hSw); go_simp; try (with_reducible rfl))
        try simp only [Act.put, List.setIfInBounds_toArray, List.set_cons_zero, List.set_cons_succ]
        refine wpAnyH_take (i := 1) (oi := ⟨some 34, _, _, _, _, _⟩) (v := ?v1) rfl (by kernel_rfl) (by kernel_rfl) (by kernel_rfl) ?q1 (Or.inl ⟨by kernel_rfl, ?y1⟩) hHeld ?r1
        case q1 => exact fun _ _ _ h => h
        case y1 => (intro w hSw; (try dsimp only at hSw); go_simp; try (with_reducible rfl))
        try simp only [Act.put, List.setIfInBounds_toArray, List.set_cons_zero, List.set_cons_succ]
        refine wpAnyH_take (i := 2) (oi := ⟨some 35, _, _, _, _, _⟩) (v := ?v2) rfl (by kernel_rfl) (by kernel_rfl) (by kernel_rfl) ?q2 (Or.inl ⟨by kernel_rfl, ?y2⟩) hHeld ?r2
        case q2 => exact fun _ _ _ h => h
        case y2 => (intro w hSw; (try dsimp only at hSw); go_simp; try (with_reducible rfl))
        try simp only [Act.put, List.setIfInBounds_toArray, List.set_cons_zero, List.set_cons_succ]
        refine wpAnyH_take (i := 3) (oi := ⟨some 36, _, _, _, _, _⟩) (v := ?v3) rfl (by kernel_rfl) (by kernel_rfl) (by kernel_rfl) ?q3 (Or.inl ⟨by kernel_rfl, ?y3⟩) hHeld ?r3
        case q3 => exact fun _ _ _ h => h
        case y3 => (intro w hSw; (try dsimp only at hSw); go_simp; try (with_reducible rfl))
        try simp only [Act.put, List.setIfInBounds_toArray, List.set_cons_zero, List.set_cons_succ]
        refine wpAnyH_take (i := 4) (oi := ⟨some 37, _, _, _, _, _⟩) (v := ?v4) rfl (by kernel_rfl) (by kernel_rfl) (by kernel_rfl) ?q4 (Or.inl ⟨by kernel_rfl, ?y4⟩) hHeld ?r4
        case q4 => exact fun _ _ _ h => h
        case y4 => (intro w hSw; (try dsimp only at hSw); go_simp; try (with_reducible rfl))
        try simp only [Act.put, List.setIfInBounds_toArray, List.set_cons_zero, List.set_cons_succ]
        refine wpAnyH_take (i := 5) (oi := ⟨some 38, _, _, _, _, _⟩) (v := ?v5) rfl (by kernel_rfl) (by kernel_rfl) (by kernel_rfl) ?q5 (Or.inl ⟨by kernel_rfl, ?y5⟩) hHeld ?r5
        case q5 => exact fun _ _ _ h => h
        case y5 => (intro w hSw; (try dsimp only at hSw); go_simp; try (with_reducible rfl))
        try simp only [Act.put, List.setIfInBounds_toArray, List.set_cons_zero, List.set_cons_succ]
        refine wpAnyH_take (i := 6) (oi := ⟨some 39, _, _, _, _, _⟩) (v := ?v6) rfl (by kernel_rfl) (by kernel_rfl) (by kernel_rfl) ?q6 (Or.inl ⟨by kernel_rfl, ?y6⟩) hHeld ?r6
        case q6 => exact fun _ _ _ h => h
        case y6 => (intro w hSw; (try dsimp only at hSw); go_simp; try (with_reducible rfl))
        try simp only [Act.put, List.setIfInBounds_toArray, List.set_cons_zero, List.set_cons_succ]
        refine wpAnyH_ready (rs := [7]) (by kernel_rfl) (by simp) ?_
        refine AllReadyH.cons (o := ⟨some 40, _, _, _, _, _⟩) rfl (fun K hK => ?_) AllReadyH.nil
        go_simp
        refine (HEX.out _ _ _ _ _ wr.heap.size HIr.out HNr.out).mono ?_
        rintro e w1 ⟨rfl, q, rfl⟩
        replace HIr := Lib.hid (HI0.out.drewN (1 + q))
        replace HNr := Lib.hid (HAr.out.drewN (1 + q))
        replace HBr := Lib.hid (below_drewN' HB.out (1 + q))
        go_wp2_with fail
        refine hK.out _ _ ?_ (fun hHeld2 => ?_)
        · go_keep
        clear hK K hHeld
        have hHeld := hHeld2
        clear hHeld2
        try simp only [Act.put, List.setIfInBounds_toArray, List.set_cons_zero, List.set_cons_succ]
        refine wpAnyH_take (i := 8) (oi := ⟨some 41, _, _, _, _, _⟩) (v := ?v8) rfl (by kernel_rfl) (by kernel_rfl) (by kernel_rfl) ?q8 (Or.inl ⟨by kernel_rfl, ?y8⟩) hHeld ?r8
        case q8 => exact fun _ _ _ h => h
        case y8 => (intro w hSw; (try dsimp only at hSw); go_simp; try (with_reducible rfl))
        try simp only [Act.put, List.setIfInBounds_toArray, List.set_cons_zero, List.set_cons_succ]
        refine wpAnyH_take (i := 9) (oi := ⟨some 42, _, _, _, _, _⟩) (v := ?v9) rfl (by kernel_rfl) (by kernel_rfl) (by kernel_rfl) ?q9 (Or.inl ⟨by kernel_rfl, ?y9⟩) hHeld ?r9
        case q9 => exact fun _ _ _ h => h
        case y9 => (intro w hSw; (try dsimp only at hSw); go_simp; try (with_reducible rfl))
        try simp only [Act.put, List.setIfInBounds_toArray, List.set_cons_zero, List.set_cons_succ]
        refine wpAnyH_take (i := 10) (oi := ⟨some 43, _, _, _, _, _⟩) (v := ?v10) rfl (by kernel_rfl) (by kernel_rfl) (by kernel_rfl) ?q10 (Or.inl ⟨by kernel_rfl, ?y10⟩) hHeld ?r10
        case q10 => exact fun _ _ _ h => h
        case y10 => (intro w hSw; (try dsimp only at hSw); go_simp; try (with_reducible rfl))
        try simp only [Act.put, List.setIfInBounds_toArray, List.set_cons_zero, List.set_cons_succ]
        refine wpAnyH_take (i := 12) (oi := ⟨some 45, _, _, _, _, _⟩) (v := ?v12) rfl (by kernel_rfl) (by kernel_rfl) (by kernel_rfl) ?q12 (Or.inl ⟨by kernel_rfl, ?y12⟩) hHeld ?r12
        case q12 => exact fun _ _ _ h => h
        case y12 => (intro w hSw; (try dsimp only at hSw); go_simp; try (with_reducible rfl))
        try simp only [Act.put, List.setIfInBounds_toArray, List.set_cons_zero, List.set_cons_succ]
        refine wpAnyH_take (i := 13) (oi := ⟨some 46, _, _, _, _, _⟩) (v := ?v13) rfl (by kernel_rfl) (by kernel_rfl) (by kernel_rfl) ?q13 (Or.inl ⟨by kernel_rfl, ?y13⟩) hHeld ?r13
        case q13 => exact fun _ _ _ h => h
        case y13 => (intro w hSw; (try dsimp only at hSw); go_simp; try (with_reducible rfl))
        try simp only [Act.put, List.setIfInBounds_toArray, List.set_cons_zero, List.set_cons_succ]
        refine wpAnyH_take (i := 14) (oi := ⟨some 47, _, _, _, _, _⟩) (v := ?v14) rfl (by kernel_rfl) (by kernel_rfl) (by kernel_rfl) ?q14 (Or.inl ⟨by kernel_rfl, ?y14⟩) hHeld ?r14
        case q14 => exact fun _ _ _ h => h
        case y14 => (intro w hSw; (try dsimp only at hSw); go_simp; try (with_reducible rfl))
        try simp only [Act.put, List.setIfInBounds_toArray, List.set_cons_zero, List.set_cons_succ]
        refine wpAnyH_take (i := 15) (oi := ⟨some 48, _, _, _, _, _⟩) (v := ?v15) rfl (by kernel_rfl) (by kernel_rfl) (by kernel_rfl) ?q15 (Or.inl ⟨by kernel_rfl, ?y15⟩) hHeld ?r15
        case q15 => exact fun _ _ _ h => h
        case y15 => (intro w hSw; (try dsimp only at hSw); go_simp; try (with_reducible rfl))
        try simp only [Act.put, List.setIfInBounds_toArray, List.set_cons_zero, List.set_cons_succ]
        refine wpAnyH_ready (rs := [11]) (by kernel_rfl) (by simp) ?_
        refine AllReadyH.cons (o := ⟨some 44, _, _, _, _, _⟩) rfl (fun K hK => ?_) AllReadyH.nil
        go_simp
        refine (own_any _ _ c1 _ n _ rfl HNr.out (Nat.le_refl _) (by omega)).mono ?_
        rintro e w1 ⟨A3, k3, rfl, ho, hb1⟩
        have HO3 := Lib.hid (Row.of_own ho)
        have hk3 := own_cap ho
        clear ho
        replace HIr := Lib.hid ((HIr.out.below hb1).mono hb1.size)
        replace HNr := Lib.hid ((HNr.out.below hb1).mono hb1.size)
        replace HBr := Lib.hid (HBr.out.trans (hb1.mono hz3))
        have hca := below_cells hb1 bo oo hbo
        replace hbo := Nat.lt_of_lt_of_le hbo hb1.size
        replace hz3 := Nat.le_trans hz3 hb1.size
        clear hb1
        go_wp2_with fail
        refine hK.out _ _ ?_ (fun hHeld2 => ?_)
        · go_keep
        clear hK K hHeld
        have hHeld := hHeld2
        clear hHeld2
        try simp only [Act.put, List.setIfInBounds_toArray, List.set_cons_zero, List.set_cons_succ]
        refine wpAnyH_ready (rs := [16]) (by kernel_rfl) (by simp) ?_
        refine AllReadyH.cons (o := ⟨some 49, _, _, _, _, _⟩) rfl (fun K hK => ?_) AllReadyH.nil
        go_simp
        refine (HU1.out _ _ _ HO3.out HIr.out hk3).mono ?_
        rintro e w1 ⟨rfl, hb1⟩
        replace HIr := Lib.hid ((HIr.out.below hb1).mono hb1.size)
        replace HNr := Lib.hid ((HNr.out.below hb1).mono hb1.size)
        replace HBr := Lib.hid (HBr.out.trans (hb1.mono hz3))
        have hca := below_cells hb1 bo oo hbo
        replace hbo := Nat.lt_of_lt_of_le hbo hb1.size
        replace hz3 := Nat.le_trans hz3 hb1.size
        clear hb1
        go_wp2_with fail
        refine hK.out _ _ ?_ (fun hHeld2 => ?_)
        · go_keep
        clear hK K hHeld
        have hHeld := hHeld2
        clear hHeld2
        try simp only [Act.put, List.setIfInBounds_toArray, List.set_cons_zero, List.set_cons_succ]
        refine wpAnyH_take (i := 17) (oi := ⟨some 50, _, _, _, _, _⟩) (v := ?v17) rfl (by kernel_rfl) (by kernel_rfl) (by kernel_rfl) ?q17 (Or.inl ⟨by kernel_rfl, ?y17⟩) hHeld ?r17
        case q17 => exact fun _ _ _ h => h
        case y17 => (intro w hSw; (try dsimp only at hSw); go_simp; try (with_reducible rfl))
        try simp only [Act.put, List.setIfInBounds_toArray, List.set_cons_zero, List.set_cons_succ]
        refine wpAnyH_take (i := 18) (oi := ⟨some 51, _, _, _, _, _⟩) (v := ?v18) rfl (by kernel_rfl) (by kernel_rfl) (by kernel_rfl) ?q18 (Or.inl ⟨by kernel_rfl, ?y18⟩) hHeld ?r18
        case q18 => exact fun _ _ _ h => h
        case y18 => (intro w hSw; (try dsimp only at hSw); go_simp; try (with_reducible rfl))
        try simp only [Act.put, List.setIfInBounds_toArray, List.set_cons_zero, List.set_cons_succ]
        refine wpAnyH_take (i := 19) (oi := ⟨some 52, _, _, _, _, _⟩) (v := ?v19) rfl (by kernel_rfl) (by kernel_rfl) (by kernel_rfl) ?q19 (Or.inl ⟨by kernel_rfl, ?y19⟩) hHeld ?r19
        case q19 => exact fun _ _ _ h => h
        case y19 => (intro w hSw; (try dsimp only at hSw); go_simp; try (with_reducible rfl))
        try simp only [Act.put, List.setIfInBounds_toArray, List.set_cons_zero, List.set_cons_succ]
        refine wpAnyH_take (i := 20) (oi := ⟨some 53, _, _, _, _, _⟩) (v := ?v20) rfl (by kernel_rfl) (by kernel_rfl) (by kernel_rfl) ?q20 (Or.inl ⟨by kernel_rfl, ?y20⟩) hHeld ?r20
        case q20 => exact fun _ _ _ h => h
        case y20 => (intro w hSw; (try dsimp only at hSw); go_simp; try (with_reducible rfl))
        try simp only [Act.put, List.setIfInBounds_toArray, List.set_cons_zero, List.set_cons_succ]
        refine wpAnyH_take (i := 21) (oi := ⟨some 54, _, _, _, _, _⟩) (v := ?v21) rfl (by kernel_rfl) (by kernel_rfl) (by kernel_rfl) ?q21 (Or.inl ⟨by kernel_rfl, ?y21⟩) hHeld ?r21
        case q21 => exact fun _ _ _ h => h
        case y21 => (intro w hSw; (try dsimp only at hSw); go_simp; try (with_reducible rfl))
        try simp only [Act.put, List.setIfInBounds_toArray, List.set_cons_zero, List.set_cons_succ]
        refine wpAnyH_take (i := 22) (oi := ⟨some 55, _, _, _, _, _⟩) (v := ?v22) rfl (by kernel_rfl) (by kernel_rfl) (by kernel_rfl) ?q22 (Or.inl ⟨by kernel_rfl, ?y22⟩) hHeld ?r22
        case q22 => exact fun _ _ _ h => h
        case y22 => (intro w hSw; (try dsimp only at hSw); go_simp; try (with_reducible rfl))
        try simp only [Act.put, List.setIfInBounds_toArray, List.set_cons_zero, List.set_cons_succ]
        refine wpAnyH_take (i := 23) (oi := ⟨some 56, _, _, _, _, _⟩) (v := undef) rfl (by kernel_rfl) (by kernel_rfl) (by kernel_rfl) (fun _ _ _ h => h) (Or.inr ⟨by kernel_rfl, rfl⟩) hHeld ?_
        try simp only [Act.put, List.setIfInBounds_toArray, List.set_cons_zero, List.set_cons_succ]
        refine wpAnyH_take (i := 24) (oi := ⟨some 57, _, _, _, _, _⟩) (v := undef) rfl (by kernel_rfl) (by kernel_rfl) (by kernel_rfl) (fun _ _ _ h => h) (Or.inr ⟨by kernel_rfl, rfl⟩) hHeld ?_
        try simp only [Act.put, List.setIfInBounds_toArray, List.set_cons_zero, List.set_cons_succ]
        refine wpAnyH_take (i := 25) (oi := ⟨some 58, _, _, _, _, _⟩) (v := undef) rfl (by kernel_rfl) (by kernel_rfl) (by kernel_rfl) (fun _ _ _ h => h) (Or.inr ⟨by kernel_rfl, rfl⟩) hHeld ?_
        try simp only [Act.put, List.setIfInBounds_toArray, List.set_cons_zero, List.set_cons_succ]
        refine wpAnyH_take (i := 26) (oi := ⟨some 59, _, _, _, _, _⟩) (v := undef) rfl (by kernel_rfl) (by kernel_rfl) (by kernel_rfl) (fun _ _ _ h => h) (Or.inr ⟨by kernel_rfl, rfl⟩) hHeld ?_
        try simp only [Act.put, List.setIfInBounds_toArray, List.set_cons_zero, List.set_cons_succ]
        refine wpAnyH_take (i := 27) (oi := ⟨some 60, _, _, _, _, _⟩) (v := undef) rfl (by kernel_rfl) (by kernel_rfl) (by kernel_rfl) (fun _ _ _ h => h) (Or.inr ⟨by kernel_rfl, rfl⟩) hHeld ?_
        try simp only [Act.put, List.setIfInBounds_toArray, List.set_cons_zero, List.set_cons_succ]
        refine wpAnyH_take (i := 28) (oi := ⟨some 61, _, _, _, _, _⟩) (v := undef) rfl (by kernel_rfl) (by kernel_rfl) (by kernel_rfl) (fun _ _ _ h => h) (Or.inr ⟨by kernel_rfl, rfl⟩) hHeld ?_
        try simp only [Act.put, List.setIfInBounds_toArray, List.set_cons_zero, List.set_cons_succ]
        refine wpAnyH_take (i := 29) (oi := ⟨some 62, _, _, _, _, _⟩) (v := undef) rfl (by kernel_rfl) (by kernel_rfl) (by kernel_rfl) (fun _ _ _ h => h) (Or.inr ⟨by kernel_rfl, rfl⟩) hHeld ?_
        try simp only [Act.put, List.setIfInBounds_toArray, List.set_cons_zero, List.set_cons_succ]
        refine wpAnyH_take (i := 30) (oi := ⟨some 63, _, _, _, _, _⟩) (v := undef) rfl (by kernel_rfl) (by kernel_rfl) (by kernel_rfl) (fun _ _ _ h => h) (Or.inr ⟨by kernel_rfl, rfl⟩) hHeld ?_
        try simp only [Act.put, List.setIfInBounds_toArray, List.set_cons_zero, List.set_cons_succ]
        refine wpAnyH_take (i := 31) (oi := ⟨some 64, _, _, _, _, _⟩) (v := undef) rfl (by kernel_rfl) (by kernel_rfl) (by kernel_rfl) (fun _ _ _ h => h) (Or.inr ⟨by kernel_rfl, rfl⟩) hHeld ?_
        try simp only [Act.put, List.setIfInBounds_toArray, List.set_cons_zero, List.set_cons_succ]
        refine wpAnyH_take (i := 32) (oi := ⟨some 65, _, _, _, _, _⟩) (v := undef) rfl (by kernel_rfl) (by kernel_rfl) (by kernel_rfl) (fun _ _ _ h => h) (Or.inr ⟨by kernel_rfl, rfl⟩) hHeld ?_
        try simp only [Act.put, List.setIfInBounds_toArray, List.set_cons_zero, List.set_cons_succ]
        refine wpAnyH_take (i := 33) (oi := ⟨some 66, _, _, _, _, _⟩) (v := ?v33) rfl (by kernel_rfl) (by kernel_rfl) (by kernel_rfl) ?q33 (Or.inl ⟨by kernel_rfl, ?y33⟩) hHeld ?r33
        case q33 => exact fun _ _ _ h => h
        case y33 => (intro w hSw; (try dsimp only at hSw); go_simp; try (with_reducible rfl))
        try simp only [Act.put, List.setIfInBounds_toArray, List.set_cons_zero, List.set_cons_succ]
        refine wpAnyH_take (i := 34) (oi := ⟨some 67, _, _, _, _, _⟩) (v := ?v34) rfl (by kernel_rfl) (by kernel_rfl) (by kernel_rfl) ?q34 (Or.inl ⟨by kernel_rfl, ?y34⟩) hHeld ?r34
        case q34 => exact fun _ _ _ h => h
        case y34 => (intro w hSw; (try dsimp only at hSw); go_simp; try (with_reducible rfl))
        try simp only [Act.put, List.setIfInBounds_toArray, List.set_cons_zero, List.set_cons_succ]
        refine wpAnyH_done (by kernel_rfl) ?_ _
        go_wp2
        exact ⟨⟨1, by omega, by go_num, HBr.out⟩, by simp [intOf]⟩
      · obtain ⟨Aj, cj, hj, hrj, hcj⟩ := HTr.out.2 k (by omega)
        have hckj := HCO.out k _ hj
        have HJ0 := Lib.hid hrj
        have HJr := Lib.hid hrj.drew
        have hsd2 : szN (n.drop k) ≤ maxLen := Nat.le_trans (szN_drop_le _ _) hma
        have HU2 := Lib.hid (fun (W : World) (h1 : Row W W.heap.size Ai ((n.drop (k + 1)).map sv)) (h2 : Row W W.heap.size Aj ((n.drop k).map sv)) =>
          (by have h := under_any Ai Aj (n.length - (k + 1)) (n.length - k) ci cj W.heap.size (n.drop (k + 1)) (n.drop k) W (by rw [List.length_drop]) (by rw [List.length_drop]) h1 h2 (Nat.le_refl _) hsd hsd2 hci
              rwa [under_not (by omega)] at h : Calls Try.prog 26 #[.slice Ai (n.length - (k + 1)) ci, .slice Aj (n.length - k) cj] W (Gave W (.bool false))))
        clear hj hrj
        obtain ⟨b, off, rfl, _, _⟩ := HNr.out.some_ (by rw [List.length_map]; omega)
        by_cases hkl : k + 1 < n.length
        · have HDr := Lib.hid (by have h := HNr.out.drop (k := k + 1) rfl; rw [← List.map_drop] at h; exact h)
          have e0 : (0 : Int) ≤ (k : Int) := by omega
          have e1 : (0 : Int) ≤ (k : Int) + 1 := by omega
          have e2 : (k : Int) + 1 < (n.length : Int) + 1 := by omega
          have e3 : (k : Int) < (n.length : Int) := by omega
          have e5 : (k : Int) < (n.length : Int) + 1 := by omega
          have e8 : ¬ c1 = k + 1 := by omega
          have e9 : ¬ k + 1 = c1 := by omega
          have e10 : (k : Int) + 1 ≤ (n.length : Int) := by omega
          have e11 : k + 1 ≤ n.length := by omega
          have e4 : ((k : Int) + 1).toNat = k + 1 := by omega
          have e6 : IntKind.i64.wrap (k : Int) = k := IntWalk.i64_in _ (by omega)
          have e7 : IntKind.i64.wrap ((k : Int) + 1 - 1) = k := by rw [show (k : Int) + 1 - 1 = k from by omega]; exact e6
          go_wp2
          go_region_held3 (fun w' => w'.cell? ⟨bo, oo + (k + 1), none⟩ = some (.slice Ai (n.length - (k + 1)) ci) ∧ w'.cell? ⟨bo, oo + k, none⟩ = some (.slice Aj (n.length - k) cj))
            (first | go_keep)
            ((first | (go_at_call_of 26 cj; refine (HU2.out _ HIr.out HJr.out).mono ?_; rintro e w1 ⟨rfl, hb1⟩; replace HIr := Lib.hid ((HIr.out.below hb1).mono hb1.size); replace HJr := Lib.hid ((HJr.out.below hb1).mono hb1.size); replace HNr := Lib.hid ((HNr.out.below hb1).mono hb1.size); replace HBr := Lib.hid (HBr.out.trans (hb1.mono hz3)); have hca := below_cells hb1 bo (oo + (k + 1)) hbo; have hcb := below_cells hb1 bo (oo + k) hbo; replace hbo := Nat.lt_of_lt_of_le hbo hb1.size; replace hz3 := Nat.le_trans hz3 hb1.size; clear hb1) | (go_at_call 26; refine (HU1.out _ _ _ HO3.out HIr.out hk3).mono ?_; rintro e w1 ⟨rfl, hb1⟩; replace HIr := Lib.hid ((HIr.out.below hb1).mono hb1.size); replace HJr := Lib.hid ((HJr.out.below hb1).mono hb1.size); replace HNr := Lib.hid ((HNr.out.below hb1).mono hb1.size); replace HBr := Lib.hid (HBr.out.trans (hb1.mono hz3)); have hca := below_cells hb1 bo (oo + (k + 1)) hbo; have hcb := below_cells hb1 bo (oo + k) hbo; replace hbo := Nat.lt_of_lt_of_le hbo hb1.size; replace hz3 := Nat.le_trans hz3 hb1.size; clear hb1) | (go_at_call 21; refine (HEX.out _ _ _ _ _ wr.heap.size HIr.out HDr.out).mono ?_; rintro e w1 ⟨rfl, q, rfl⟩; replace HIr := Lib.hid (HI0.out.drewN (1 + q)); replace HJr := Lib.hid (HJ0.out.drewN (1 + q)); replace HNr := Lib.hid (HAr.out.drewN (1 + q)); replace HBr := Lib.hid (below_drewN' HB.out (1 + q))) | (go_at_call 13; refine (own_any _ _ c1 _ n _ rfl HNr.out (Nat.le_refl _) (by omega)).mono ?_; rintro e w1 ⟨A3, k3, rfl, ho, hb1⟩; have HO3 := Lib.hid (Row.of_own ho); have hk3 := own_cap ho; clear ho; replace HIr := Lib.hid ((HIr.out.below hb1).mono hb1.size); replace HJr := Lib.hid ((HJr.out.below hb1).mono hb1.size); replace HNr := Lib.hid ((HNr.out.below hb1).mono hb1.size); replace HBr := Lib.hid (HBr.out.trans (hb1.mono hz3)); have hca := below_cells hb1 bo (oo + (k + 1)) hbo; have hcb := below_cells hb1 bo (oo + k) hbo; replace hbo := Nat.lt_of_lt_of_le hbo hb1.size; replace hz3 := Nat.le_trans hz3 hb1.size; clear hb1)))
          clear e0 e1 e2 e3 e4 e5 e6 e7 e8 e9 e10 e11
          go_wp2
          exact ⟨⟨k + 2, by omega, by go_num, HBr.out⟩, by simp [intOf]; omega⟩
        · have HDr := Lib.hid (fun (W : World) (H' : Nat) (A' : Option Addr) => (show Row W H' A' ((n.drop (k + 1)).map sv) by rw [List.drop_eq_nil_of_le (by omega)]; exact Row.empty _ _ _))
          have hn1 : n.length ≤ k + 1 := by omega
          have hn2 : k + 1 ≤ n.length := by omega
          have hn3 : k + 1 ≤ c1 := by omega
          have h0 : n.length - (k + 1) = 0 := by omega
          rw [h0] at hck HEX HU1 HU2
          clear h0
          rcases Nat.lt_or_ge (k + 1) c1 with hcc | hcc
          · have e0 : (0 : Int) ≤ (k : Int) := by omega
            have e1 : (0 : Int) ≤ (k : Int) + 1 := by omega
            have e2 : (k : Int) + 1 < (n.length : Int) + 1 := by omega
            have e3 : (k : Int) < (n.length : Int) := by omega
            have e5 : (k : Int) < (n.length : Int) + 1 := by omega
            have e8 : ¬ c1 = k + 1 := by omega
            have e9 : ¬ k + 1 = c1 := by omega
            have e10 : (k : Int) + 1 ≤ (n.length : Int) := by omega
            have e11 : k + 1 ≤ n.length := by omega
            have e4 : ((k : Int) + 1).toNat = k + 1 := by omega
            have e6 : IntKind.i64.wrap (k : Int) = k := IntWalk.i64_in _ (by omega)
            have e7 : IntKind.i64.wrap ((k : Int) + 1 - 1) = k := by rw [show (k : Int) + 1 - 1 = k from by omega]; exact e6
            go_wp2
            go_region_held3 (fun w' => w'.cell? ⟨bo, oo + (k + 1), none⟩ = some (.slice Ai 0 ci) ∧ w'.cell? ⟨bo, oo + k, none⟩ = some (.slice Aj (n.length - k) cj))
              (first | go_keep)
              ((first | (go_at_call_of 26 cj; refine (HU2.out _ HIr.out HJr.out).mono ?_; rintro e w1 ⟨rfl, hb1⟩; replace HIr := Lib.hid ((HIr.out.below hb1).mono hb1.size); replace HJr := Lib.hid ((HJr.out.below hb1).mono hb1.size); replace HNr := Lib.hid ((HNr.out.below hb1).mono hb1.size); replace HBr := Lib.hid (HBr.out.trans (hb1.mono hz3)); have hca := below_cells hb1 bo (oo + (k + 1)) hbo; have hcb := below_cells hb1 bo (oo + k) hbo; replace hbo := Nat.lt_of_lt_of_le hbo hb1.size; replace hz3 := Nat.le_trans hz3 hb1.size; clear hb1) | (go_at_call 26; refine (HU1.out _ _ _ HO3.out HIr.out hk3).mono ?_; rintro e w1 ⟨rfl, hb1⟩; replace HIr := Lib.hid ((HIr.out.below hb1).mono hb1.size); replace HJr := Lib.hid ((HJr.out.below hb1).mono hb1.size); replace HNr := Lib.hid ((HNr.out.below hb1).mono hb1.size); replace HBr := Lib.hid (HBr.out.trans (hb1.mono hz3)); have hca := below_cells hb1 bo (oo + (k + 1)) hbo; have hcb := below_cells hb1 bo (oo + k) hbo; replace hbo := Nat.lt_of_lt_of_le hbo hb1.size; replace hz3 := Nat.le_trans hz3 hb1.size; clear hb1) | (go_at_call 21; refine (HEX.out _ _ _ _ _ wr.heap.size HIr.out (HDr.out _ _ _)).mono ?_; rintro e w1 ⟨rfl, q, rfl⟩; replace HIr := Lib.hid (HI0.out.drewN (1 + q)); replace HJr := Lib.hid (HJ0.out.drewN (1 + q)); replace HNr := Lib.hid (HAr.out.drewN (1 + q)); replace HBr := Lib.hid (below_drewN' HB.out (1 + q))) | (go_at_call 13; refine (own_any _ _ c1 _ n _ rfl HNr.out (Nat.le_refl _) (by omega)).mono ?_; rintro e w1 ⟨A3, k3, rfl, ho, hb1⟩; have HO3 := Lib.hid (Row.of_own ho); have hk3 := own_cap ho; clear ho; replace HIr := Lib.hid ((HIr.out.below hb1).mono hb1.size); replace HJr := Lib.hid ((HJr.out.below hb1).mono hb1.size); replace HNr := Lib.hid ((HNr.out.below hb1).mono hb1.size); replace HBr := Lib.hid (HBr.out.trans (hb1.mono hz3)); have hca := below_cells hb1 bo (oo + (k + 1)) hbo; have hcb := below_cells hb1 bo (oo + k) hbo; replace hbo := Nat.lt_of_lt_of_le hbo hb1.size; replace hz3 := Nat.le_trans hz3 hb1.size; clear hb1)))
            clear e0 e1 e2 e3 e4 e5 e6 e7 e8 e9 e10 e11
            go_wp2
            exact ⟨⟨k + 2, by omega, by go_num, HBr.out⟩, by simp [intOf]; omega⟩
          · obtain rfl : c1 = k + 1 := by omega
            have e0 : (0 : Int) ≤ (k : Int) := by omega
            have e1 : (0 : Int) ≤ (k : Int) + 1 := by omega
            have e2 : (k : Int) + 1 < (n.length : Int) + 1 := by omega
            have e3 : (k : Int) < (n.length : Int) := by omega
            have e5 : (k : Int) < (n.length : Int) + 1 := by omega
            have e10 : (k : Int) + 1 ≤ (n.length : Int) := by omega
            have e11 : k + 1 ≤ n.length := by omega
            have e4 : ((k : Int) + 1).toNat = k + 1 := by omega
            have e6 : IntKind.i64.wrap (k : Int) = k := IntWalk.i64_in _ (by omega)
            have e7 : IntKind.i64.wrap ((k : Int) + 1 - 1) = k := by rw [show (k : Int) + 1 - 1 = k from by omega]; exact e6
            go_wp2
            go_region_held3 (fun w' => w'.cell? ⟨bo, oo + (k + 1), none⟩ = some (.slice Ai 0 ci) ∧ w'.cell? ⟨bo, oo + k, none⟩ = some (.slice Aj (n.length - k) cj))
              (first | go_keep)
              ((first | (go_at_call_of 26 cj; refine (HU2.out _ HIr.out HJr.out).mono ?_; rintro e w1 ⟨rfl, hb1⟩; replace HIr := Lib.hid ((HIr.out.below hb1).mono hb1.size); replace HJr := Lib.hid ((HJr.out.below hb1).mono hb1.size); replace HNr := Lib.hid ((HNr.out.below hb1).mono hb1.size); replace HBr := Lib.hid (HBr.out.trans (hb1.mono hz3)); have hca := below_cells hb1 bo (oo + (k + 1)) hbo; have hcb := below_cells hb1 bo (oo + k) hbo; replace hbo := Nat.lt_of_lt_of_le hbo hb1.size; replace hz3 := Nat.le_trans hz3 hb1.size; clear hb1) | (go_at_call 26; refine (HU1.out _ _ _ HO3.out HIr.out hk3).mono ?_; rintro e w1 ⟨rfl, hb1⟩; replace HIr := Lib.hid ((HIr.out.below hb1).mono hb1.size); replace HJr := Lib.hid ((HJr.out.below hb1).mono hb1.size); replace HNr := Lib.hid ((HNr.out.below hb1).mono hb1.size); replace HBr := Lib.hid (HBr.out.trans (hb1.mono hz3)); have hca := below_cells hb1 bo (oo + (k + 1)) hbo; have hcb := below_cells hb1 bo (oo + k) hbo; replace hbo := Nat.lt_of_lt_of_le hbo hb1.size; replace hz3 := Nat.le_trans hz3 hb1.size; clear hb1) | (go_at_call 21; refine (HEX.out _ _ _ _ _ wr.heap.size HIr.out (HDr.out _ _ _)).mono ?_; rintro e w1 ⟨rfl, q, rfl⟩; replace HIr := Lib.hid (HI0.out.drewN (1 + q)); replace HJr := Lib.hid (HJ0.out.drewN (1 + q)); replace HNr := Lib.hid (HAr.out.drewN (1 + q)); replace HBr := Lib.hid (below_drewN' HB.out (1 + q))) | (go_at_call 13; refine (own_any _ _ (k + 1) _ n _ rfl HNr.out (Nat.le_refl _) (by omega)).mono ?_; rintro e w1 ⟨A3, k3, rfl, ho, hb1⟩; have HO3 := Lib.hid (Row.of_own ho); have hk3 := own_cap ho; clear ho; replace HIr := Lib.hid ((HIr.out.below hb1).mono hb1.size); replace HJr := Lib.hid ((HJr.out.below hb1).mono hb1.size); replace HNr := Lib.hid ((HNr.out.below hb1).mono hb1.size); replace HBr := Lib.hid (HBr.out.trans (hb1.mono hz3)); have hca := below_cells hb1 bo (oo + (k + 1)) hbo; have hcb := below_cells hb1 bo (oo + k) hbo; replace hbo := Nat.lt_of_lt_of_le hbo hb1.size; replace hz3 := Nat.le_trans hz3 hb1.size; clear hb1)))
            clear e0 e1 e2 e3 e4 e5 e6 e7 e10 e11
            go_wp2
            exact ⟨⟨k + 2, by omega, by go_num, HBr.out⟩, by simp [intOf]; omega⟩
    · obtain rfl : k = n.length + 1 := by omega
      go_wp2
      go_ret
      exact ⟨rfl, HW.out.trans (HB.out.mono hz)⟩

theorem parents_any_law (A : Option Addr) (c1 : Nat) (n : List (List UInt8)) (w : World) (hA : NameIn w A n) (hc : n.length ≤ c1) (hroot : n = [] → Calls Try.prog 9 #[.slice A n.length c1] w (TrueB w)) :
    Calls Try.prog 9 #[.slice A n.length c1] w (TrueB w) := by
  cases hf : lightN n
  · exact parents_dark A c1 n w hA hf
  · by_cases hl : n.length ≤ 130
    · by_cases hp : n = []
      · exact hroot hp
      · exact parents_light A c1 n w hA hc hf hl (List.length_pos_iff.2 hp)
    · exact parents_long A c1 n w hA hf (by omega)

end Go.Proofs.Ytiegneopolffoaa
