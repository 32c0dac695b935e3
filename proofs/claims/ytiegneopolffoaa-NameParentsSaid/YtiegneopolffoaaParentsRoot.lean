/-
  NameParents at the root, and whole.
-/
import Derived.Test.YtiegneopolffoaaParentsLaw
namespace Go.Proofs.Ytiegneopolffoaa
open Go.RowKit

def Own0 (w : World) (e : Ending) (w' : World) : Prop := ∃ A c, e = .returned (.slice A 0 c) ∧ Below w.heap.size w w'
def Par0 (w : World) (e : Ending) (w' : World) : Prop :=
  ∃ bo oo c Ai ci, e = .returned (.slice (some ⟨bo, oo, none⟩) 1 c) ∧ bo < w'.heap.size ∧ w'.cell? ⟨bo, oo, none⟩ = some (.slice Ai 0 ci) ∧ Below w.heap.size w w'

theorem own_root (A : Option Addr) (c : Nat) (w : World) : Calls Try.prog 13 #[.slice A 0 c] w (Own0 w) :=
  (own_any A 0 c 0 [] w rfl (Row.empty _ _ _) (Nat.zero_le _) (by omega)).mono fun _ _ ⟨A', c', e, _, hb⟩ => ⟨A', c', e, hb⟩
theorem parents_of_root (A : Option Addr) (c : Nat) (w : World) : Calls Try.prog 29 #[.slice A 0 c] w (Par0 w) :=
  (parents_any A 0 c 0 [] w rfl (Row.empty _ _ _) (Nat.zero_le _) (by omega) (Nat.zero_le _)).mono fun e w' ⟨A', c', us, he, hul, hown, htl, hb⟩ => by
    have ht := TailsIn.of htl hul
    obtain ⟨Ai, ci, hi, _, _⟩ := ht.2 0 (Nat.le_refl _)
    have hr := Row.of_own hown
    obtain ⟨bo, oo, rfl, hbo, hco⟩ := hr (by intro e; rw [e] at hul; simp at hul)
    exact ⟨bo, oo, c', Ai, ci, he, hbo, hco 0 _ hi, hb⟩

set_option maxHeartbeats 8000000 in
theorem parents_root1 (w : World) :
    Calls Try.prog 9 #[.slice none 0 0] w (TrueB w) := by
  have HL := Lib.hid (fun (w' : World) => (light_any none 0 0 0 [] w' rfl (Row.empty _ _ _) (by omega) (fun k h => absurd h (Nat.not_lt_zero _)) : Calls Try.prog 11 #[.slice none 0 0] w' (Told w' (.bool (lightN [])))))
  rw [show lightN [] = true from rfl] at HL
  have HEX0 := Lib.hid (fun A' B' c' d' (W : World) => (exact_any A' B' 0 0 c' d' 0 [] [] W rfl rfl (Row.empty _ _ _) (Row.empty _ _ _) (Nat.zero_le _) : Calls Try.prog 21 #[.slice A' 0 c', .slice B' 0 d'] W (Drewn W (.bool (decide (([] : List (List UInt8)) = []))))))
  rw [show decide (([] : List (List UInt8)) = []) = true from rfl] at HEX0
  have HU0 := Lib.hid (fun A' B' c' d' (W : World) => (under_any A' B' 0 0 c' d' 0 [] [] W rfl rfl (Row.empty _ _ _) (Row.empty _ _ _) (Nat.zero_le _) (by simp [szN, maxLen]) (by simp [szN, maxLen]) (Nat.zero_le _) : Calls Try.prog 26 #[.slice A' 0 c', .slice B' 0 d'] W (Gave W (.bool (underN [] [])))))
  rw [show underN [] [] = true from rfl] at HU0
  have HOW0 := Lib.hid own_root
  have HP0 := Lib.hid parents_of_root
  have HW := Lib.hid (Below.refl w.heap.size w)
  have hz := Nat.le_refl w.heap.size
  go_enter Try.func9, Try.ntmps9
  go_wp2_with fail
  refine (nanswers_any _).mono ?_
  rintro e w1 ⟨rfl, hb⟩
  replace HW := Lib.hid (HW.out.trans (hb.mono hz))
  replace hz := Nat.le_trans hz hb.size
  clear hb
  go_wp2_with fail
  refine (HL.out _).mono ?_
  rintro e w' ⟨rfl, rfl⟩
  go_wp2_with fail
  refine (HOW0.out _ _ _).mono ?_
  rintro e w2 ⟨A1, k1, rfl, hb⟩
  replace HW := Lib.hid (HW.out.trans (hb.mono hz))
  replace hz := Nat.le_trans hz hb.size
  clear hb
  go_wp2_with fail
  refine (HP0.out _ _ _).mono ?_
  rintro e w3 ⟨bo, oo, c2, Ai, ci, rfl, hbo, hck, hb⟩
  replace HW := Lib.hid (HW.out.trans (hb.mono hz))
  replace hz := Nat.le_trans hz hb.size
  clear hb
  have HBO := Lib.hid hbo
  have HCK := Lib.hid hck
  clear hbo hck
  go_wp2
  go_loopw [4] (PLRel w3 []) (fun i _ => 1 - (intOf i).toNat)
  case atStart => exact ⟨0, Nat.zero_le _, rfl, Below.refl _ _⟩
  case round =>
    obtain ⟨k, hk, rfl, hb⟩ := hrel
    have hz3 := hb.size
    have hbo := Nat.lt_of_lt_of_le HBO.out hz3
    have hck := (below_cells hb bo oo HBO.out).trans HCK.out
    have HB := Lib.hid hb
    have HBr := Lib.hid hb.drew
    clear hb
    rcases k with _ | k
    · simp only [Int.natCast_zero]
      go_wp2
      refine wp_region_held_drew (S := fun w' => w'.cell? ⟨bo, oo, none⟩ = some (.slice Ai 0 ci)) (by kernel_rfl) hck (fun hHeld => ?_)
      refine wpAnyH_take (i := 0) (oi := ⟨some 33, _, _, _, _, _⟩) (v := ?v0) rfl (by kernel_rfl) (by kernel_rfl) (by kernel_rfl) ?q0 (Or.inl ⟨by kernel_rfl, ?y0⟩) hHeld ?r0
      case q0 => exact fun _ _ _ h => h
      case y0 => (intro w hSw; (try dsimp only at hSw); go_simp; try (with_reducible rfl))
      try simp only [Act.put, List.setIfInBounds_toArray, List.set_cons_zero, List.set_cons_succ]
      refine wpAnyH_take (i := 1) (oi := ⟨some 34, _, _, _, _, _⟩) (v := ?v1) rfl (by kernel_rfl) (by kernel_rfl) (by kernel_rfl) ?q1 (Or.inl ⟨by kernel_rfl, ?y1⟩) hHeld ?r1
      case q1 => exact fun _ _ _ h => h
      case y1 => (intro w hSw; (try dsimp only at hSw); go_simp; try (with_reducible rfl))
      try simp only [Act.put, List.setIfInBounds_toArray, List.set_cons_zero, List.set_cons_succ]
      refine wpAnyH_take (i := 2) (oi := ⟨some 35, _, _, _, _, _⟩) (v := ?v2) rfl (by kernel_rfl) (by kernel_rfl) (by kernel_rfl) ?q2 (Or.inl ⟨by kernel_rfl, ?y2⟩) hHeld ?r2
      case q2 => exact fun _ _ _ h => h
      case y2 => (intro w hSw; (try dsimp only at hSw); go_simp; try (with_reducible rfl))
      try simp only [Act.put, List.setIfInBounds_toArray, List.set_cons_zero, List.set_cons_succ]
      refine wpAnyH_take (i := 3) (oi := ⟨some 36, _, _, _, _, _⟩) (v := ?v3) rfl (by kernel_rfl) (by kernel_rfl) (by kernel_rfl) ?q3 (Or.inl ⟨by kernel_rfl, ?y3⟩) hHeld ?r3
      case q3 => exact fun _ _ _ h => h
      case y3 => (intro w hSw; (try dsimp only at hSw); go_simp; try (with_reducible rfl))
      try simp only [Act.put, List.setIfInBounds_toArray, List.set_cons_zero, List.set_cons_succ]
      refine wpAnyH_take (i := 4) (oi := ⟨some 37, _, _, _, _, _⟩) (v := ?v4) rfl (by kernel_rfl) (by kernel_rfl) (by kernel_rfl) ?q4 (Or.inl ⟨by kernel_rfl, ?y4⟩) hHeld ?r4
      case q4 => exact fun _ _ _ h => h
      case y4 => (intro w hSw; (try dsimp only at hSw); go_simp; try (with_reducible rfl))
      try simp only [Act.put, List.setIfInBounds_toArray, List.set_cons_zero, List.set_cons_succ]
      refine wpAnyH_take (i := 5) (oi := ⟨some 38, _, _, _, _, _⟩) (v := ?v5) rfl (by kernel_rfl) (by kernel_rfl) (by kernel_rfl) ?q5 (Or.inl ⟨by kernel_rfl, ?y5⟩) hHeld ?r5
      case q5 => exact fun _ _ _ h => h
      case y5 => (intro w hSw; (try dsimp only at hSw); go_simp; try (with_reducible rfl))
      try simp only [Act.put, List.setIfInBounds_toArray, List.set_cons_zero, List.set_cons_succ]
      refine wpAnyH_take (i := 6) (oi := ⟨some 39, _, _, _, _, _⟩) (v := ?v6) rfl (by kernel_rfl) (by kernel_rfl) (by kernel_rfl) ?q6 (Or.inl ⟨by kernel_rfl, ?y6⟩) hHeld ?r6
      case q6 => exact fun _ _ _ h => h
      case y6 => (intro w hSw; (try dsimp only at hSw); go_simp; try (with_reducible rfl))
      try simp only [Act.put, List.setIfInBounds_toArray, List.set_cons_zero, List.set_cons_succ]
      refine wpAnyH_ready (rs := [7]) (by kernel_rfl) (by simp) ?_
      refine AllReadyH.cons (o := ⟨some 40, _, _, _, _, _⟩) rfl (fun K hK => ?_) AllReadyH.nil
      go_simp
      refine (HEX0.out _ _ _ _ _).mono ?_
      rintro e w1 ⟨rfl, q, rfl⟩
      replace HBr := Lib.hid (below_drewN' HB.out (1 + q))
      go_wp2_with fail
      refine hK.out _ _ ?_ (fun hHeld2 => ?_)
      · go_keep
      clear hK K hHeld
      have hHeld := hHeld2
      clear hHeld2
      try simp only [Act.put, List.setIfInBounds_toArray, List.set_cons_zero, List.set_cons_succ]
      refine wpAnyH_take (i := 8) (oi := ⟨some 41, _, _, _, _, _⟩) (v := ?v8) rfl (by kernel_rfl) (by kernel_rfl) (by kernel_rfl) ?q8 (Or.inl ⟨by kernel_rfl, ?y8⟩) hHeld ?r8
      case q8 => exact fun _ _ _ h => h
      case y8 => (intro w hSw; (try dsimp only at hSw); go_simp; try (with_reducible rfl))
      try simp only [Act.put, List.setIfInBounds_toArray, List.set_cons_zero, List.set_cons_succ]
      refine wpAnyH_take (i := 9) (oi := ⟨some 42, _, _, _, _, _⟩) (v := ?v9) rfl (by kernel_rfl) (by kernel_rfl) (by kernel_rfl) ?q9 (Or.inl ⟨by kernel_rfl, ?y9⟩) hHeld ?r9
      case q9 => exact fun _ _ _ h => h
      case y9 => (intro w hSw; (try dsimp only at hSw); go_simp; try (with_reducible rfl))
      try simp only [Act.put, List.setIfInBounds_toArray, List.set_cons_zero, List.set_cons_succ]
      refine wpAnyH_take (i := 10) (oi := ⟨some 43, _, _, _, _, _⟩) (v := ?v10) rfl (by kernel_rfl) (by kernel_rfl) (by kernel_rfl) ?q10 (Or.inl ⟨by kernel_rfl, ?y10⟩) hHeld ?r10
      case q10 => exact fun _ _ _ h => h
      case y10 => (intro w hSw; (try dsimp only at hSw); go_simp; try (with_reducible rfl))
      try simp only [Act.put, List.setIfInBounds_toArray, List.set_cons_zero, List.set_cons_succ]
      refine wpAnyH_take (i := 12) (oi := ⟨some 45, _, _, _, _, _⟩) (v := ?v12) rfl (by kernel_rfl) (by kernel_rfl) (by kernel_rfl) ?q12 (Or.inl ⟨by kernel_rfl, ?y12⟩) hHeld ?r12
      case q12 => exact fun _ _ _ h => h
      case y12 => (intro w hSw; (try dsimp only at hSw); go_simp; try (with_reducible rfl))
      try simp only [Act.put, List.setIfInBounds_toArray, List.set_cons_zero, List.set_cons_succ]
      refine wpAnyH_take (i := 13) (oi := ⟨some 46, _, _, _, _, _⟩) (v := ?v13) rfl (by kernel_rfl) (by kernel_rfl) (by kernel_rfl) ?q13 (Or.inl ⟨by kernel_rfl, ?y13⟩) hHeld ?r13
      case q13 => exact fun _ _ _ h => h
      case y13 => (intro w hSw; (try dsimp only at hSw); go_simp; try (with_reducible rfl))
      try simp only [Act.put, List.setIfInBounds_toArray, List.set_cons_zero, List.set_cons_succ]
      refine wpAnyH_take (i := 14) (oi := ⟨some 47, _, _, _, _, _⟩) (v := ?v14) rfl (by kernel_rfl) (by kernel_rfl) (by kernel_rfl) ?q14 (Or.inl ⟨by kernel_rfl, ?y14⟩) hHeld ?r14
      case q14 => exact fun _ _ _ h => h
      case y14 => (intro w hSw; (try dsimp only at hSw); go_simp; try (with_reducible rfl))
      try simp only [Act.put, List.setIfInBounds_toArray, List.set_cons_zero, List.set_cons_succ]
      refine wpAnyH_take (i := 15) (oi := ⟨some 48, _, _, _, _, _⟩) (v := ?v15) rfl (by kernel_rfl) (by kernel_rfl) (by kernel_rfl) ?q15 (Or.inl ⟨by kernel_rfl, ?y15⟩) hHeld ?r15
      case q15 => exact fun _ _ _ h => h
      case y15 => (intro w hSw; (try dsimp only at hSw); go_simp; try (with_reducible rfl))
      try simp only [Act.put, List.setIfInBounds_toArray, List.set_cons_zero, List.set_cons_succ]
      refine wpAnyH_ready (rs := [11]) (by kernel_rfl) (by simp) ?_
      refine AllReadyH.cons (o := ⟨some 44, _, _, _, _, _⟩) rfl (fun K hK => ?_) AllReadyH.nil
      go_simp
      refine (HOW0.out _ _ _).mono ?_
      rintro e w1 ⟨A3, k3, rfl, hb1⟩
      replace HBr := Lib.hid (HBr.out.trans (hb1.mono hz3))
      have hca := below_cells hb1 bo oo hbo
      replace hbo := Nat.lt_of_lt_of_le hbo hb1.size
      replace hz3 := Nat.le_trans hz3 hb1.size
      clear hb1
      go_wp2_with fail
      refine hK.out _ _ ?_ (fun hHeld2 => ?_)
      · go_keep
      clear hK K hHeld
      have hHeld := hHeld2
      clear hHeld2
      try simp only [Act.put, List.setIfInBounds_toArray, List.set_cons_zero, List.set_cons_succ]
      refine wpAnyH_ready (rs := [16]) (by kernel_rfl) (by simp) ?_
      refine AllReadyH.cons (o := ⟨some 49, _, _, _, _, _⟩) rfl (fun K hK => ?_) AllReadyH.nil
      go_simp
      refine (HU0.out _ _ _ _ _).mono ?_
      rintro e w1 ⟨rfl, hb1⟩
      replace HBr := Lib.hid (HBr.out.trans (hb1.mono hz3))
      have hca := below_cells hb1 bo oo hbo
      replace hbo := Nat.lt_of_lt_of_le hbo hb1.size
      replace hz3 := Nat.le_trans hz3 hb1.size
      clear hb1
      go_wp2_with fail
      refine hK.out _ _ ?_ (fun hHeld2 => ?_)
      · go_keep
      clear hK K hHeld
      have hHeld := hHeld2
      clear hHeld2
      try simp only [Act.put, List.setIfInBounds_toArray, List.set_cons_zero, List.set_cons_succ]
      refine wpAnyH_take (i := 17) (oi := ⟨some 50, _, _, _, _, _⟩) (v := ?v17) rfl (by kernel_rfl) (by kernel_rfl) (by kernel_rfl) ?q17 (Or.inl ⟨by kernel_rfl, ?y17⟩) hHeld ?r17
      case q17 => exact fun _ _ _ h => h
      case y17 => (intro w hSw; (try dsimp only at hSw); go_simp; try (with_reducible rfl))
      try simp only [Act.put, List.setIfInBounds_toArray, List.set_cons_zero, List.set_cons_succ]
      refine wpAnyH_take (i := 18) (oi := ⟨some 51, _, _, _, _, _⟩) (v := ?v18) rfl (by kernel_rfl) (by kernel_rfl) (by kernel_rfl) ?q18 (Or.inl ⟨by kernel_rfl, ?y18⟩) hHeld ?r18
      case q18 => exact fun _ _ _ h => h
      case y18 => (intro w hSw; (try dsimp only at hSw); go_simp; try (with_reducible rfl))
      try simp only [Act.put, List.setIfInBounds_toArray, List.set_cons_zero, List.set_cons_succ]
      refine wpAnyH_take (i := 19) (oi := ⟨some 52, _, _, _, _, _⟩) (v := ?v19) rfl (by kernel_rfl) (by kernel_rfl) (by kernel_rfl) ?q19 (Or.inl ⟨by kernel_rfl, ?y19⟩) hHeld ?r19
      case q19 => exact fun _ _ _ h => h
      case y19 => (intro w hSw; (try dsimp only at hSw); go_simp; try (with_reducible rfl))
      try simp only [Act.put, List.setIfInBounds_toArray, List.set_cons_zero, List.set_cons_succ]
      refine wpAnyH_take (i := 20) (oi := ⟨some 53, _, _, _, _, _⟩) (v := ?v20) rfl (by kernel_rfl) (by kernel_rfl) (by kernel_rfl) ?q20 (Or.inl ⟨by kernel_rfl, ?y20⟩) hHeld ?r20
      case q20 => exact fun _ _ _ h => h
      case y20 => (intro w hSw; (try dsimp only at hSw); go_simp; try (with_reducible rfl))
      try simp only [Act.put, List.setIfInBounds_toArray, List.set_cons_zero, List.set_cons_succ]
      refine wpAnyH_take (i := 21) (oi := ⟨some 54, _, _, _, _, _⟩) (v := ?v21) rfl (by kernel_rfl) (by kernel_rfl) (by kernel_rfl) ?q21 (Or.inl ⟨by kernel_rfl, ?y21⟩) hHeld ?r21
      case q21 => exact fun _ _ _ h => h
      case y21 => (intro w hSw; (try dsimp only at hSw); go_simp; try (with_reducible rfl))
      try simp only [Act.put, List.setIfInBounds_toArray, List.set_cons_zero, List.set_cons_succ]
      refine wpAnyH_take (i := 22) (oi := ⟨some 55, _, _, _, _, _⟩) (v := ?v22) rfl (by kernel_rfl) (by kernel_rfl) (by kernel_rfl) ?q22 (Or.inl ⟨by kernel_rfl, ?y22⟩) hHeld ?r22
      case q22 => exact fun _ _ _ h => h
      case y22 => (intro w hSw; (try dsimp only at hSw); go_simp; try (with_reducible rfl))
      try simp only [Act.put, List.setIfInBounds_toArray, List.set_cons_zero, List.set_cons_succ]
      refine wpAnyH_take (i := 23) (oi := ⟨some 56, _, _, _, _, _⟩) (v := undef) rfl (by kernel_rfl) (by kernel_rfl) (by kernel_rfl) (fun _ _ _ h => h) (Or.inr ⟨by kernel_rfl, rfl⟩) hHeld ?_
      try simp only [Act.put, List.setIfInBounds_toArray, List.set_cons_zero, List.set_cons_succ]
      refine wpAnyH_take (i := 24) (oi := ⟨some 57, _, _, _, _, _⟩) (v := undef) rfl (by kernel_rfl) (by kernel_rfl) (by kernel_rfl) (fun _ _ _ h => h) (Or.inr ⟨by kernel_rfl, rfl⟩) hHeld ?_
      try simp only [Act.put, List.setIfInBounds_toArray, List.set_cons_zero, List.set_cons_succ]
      refine wpAnyH_take (i := 25) (oi := ⟨some 58, _, _, _, _, _⟩) (v := undef) rfl (by kernel_rfl) (by kernel_rfl) (by kernel_rfl) (fun _ _ _ h => h) (Or.inr ⟨by kernel_rfl, rfl⟩) hHeld ?_
      try simp only [Act.put, List.setIfInBounds_toArray, List.set_cons_zero, List.set_cons_succ]
      refine wpAnyH_take (i := 26) (oi := ⟨some 59, _, _, _, _, _⟩) (v := undef) rfl (by kernel_rfl) (by kernel_rfl) (by kernel_rfl) (fun _ _ _ h => h) (Or.inr ⟨by kernel_rfl, rfl⟩) hHeld ?_
      try simp only [Act.put, List.setIfInBounds_toArray, List.set_cons_zero, List.set_cons_succ]
      refine wpAnyH_take (i := 27) (oi := ⟨some 60, _, _, _, _, _⟩) (v := undef) rfl (by kernel_rfl) (by kernel_rfl) (by kernel_rfl) (fun _ _ _ h => h) (Or.inr ⟨by kernel_rfl, rfl⟩) hHeld ?_
      try simp only [Act.put, List.setIfInBounds_toArray, List.set_cons_zero, List.set_cons_succ]
      refine wpAnyH_take (i := 28) (oi := ⟨some 61, _, _, _, _, _⟩) (v := undef) rfl (by kernel_rfl) (by kernel_rfl) (by kernel_rfl) (fun _ _ _ h => h) (Or.inr ⟨by kernel_rfl, rfl⟩) hHeld ?_
      try simp only [Act.put, List.setIfInBounds_toArray, List.set_cons_zero, List.set_cons_succ]
      refine wpAnyH_take (i := 29) (oi := ⟨some 62, _, _, _, _, _⟩) (v := undef) rfl (by kernel_rfl) (by kernel_rfl) (by kernel_rfl) (fun _ _ _ h => h) (Or.inr ⟨by kernel_rfl, rfl⟩) hHeld ?_
      try simp only [Act.put, List.setIfInBounds_toArray, List.set_cons_zero, List.set_cons_succ]
      refine wpAnyH_take (i := 30) (oi := ⟨some 63, _, _, _, _, _⟩) (v := undef) rfl (by kernel_rfl) (by kernel_rfl) (by kernel_rfl) (fun _ _ _ h => h) (Or.inr ⟨by kernel_rfl, rfl⟩) hHeld ?_
      try simp only [Act.put, List.setIfInBounds_toArray, List.set_cons_zero, List.set_cons_succ]
      refine wpAnyH_take (i := 31) (oi := ⟨some 64, _, _, _, _, _⟩) (v := undef) rfl (by kernel_rfl) (by kernel_rfl) (by kernel_rfl) (fun _ _ _ h => h) (Or.inr ⟨by kernel_rfl, rfl⟩) hHeld ?_
      try simp only [Act.put, List.setIfInBounds_toArray, List.set_cons_zero, List.set_cons_succ]
      refine wpAnyH_take (i := 32) (oi := ⟨some 65, _, _, _, _, _⟩) (v := undef) rfl (by kernel_rfl) (by kernel_rfl) (by kernel_rfl) (fun _ _ _ h => h) (Or.inr ⟨by kernel_rfl, rfl⟩) hHeld ?_
      try simp only [Act.put, List.setIfInBounds_toArray, List.set_cons_zero, List.set_cons_succ]
      refine wpAnyH_take (i := 33) (oi := ⟨some 66, _, _, _, _, _⟩) (v := ?v33) rfl (by kernel_rfl) (by kernel_rfl) (by kernel_rfl) ?q33 (Or.inl ⟨by kernel_rfl, ?y33⟩) hHeld ?r33
      case q33 => exact fun _ _ _ h => h
      case y33 => (intro w hSw; (try dsimp only at hSw); go_simp; try (with_reducible rfl))
      try simp only [Act.put, List.setIfInBounds_toArray, List.set_cons_zero, List.set_cons_succ]
      refine wpAnyH_take (i := 34) (oi := ⟨some 67, _, _, _, _, _⟩) (v := ?v34) rfl (by kernel_rfl) (by kernel_rfl) (by kernel_rfl) ?q34 (Or.inl ⟨by kernel_rfl, ?y34⟩) hHeld ?r34
      case q34 => exact fun _ _ _ h => h
      case y34 => (intro w hSw; (try dsimp only at hSw); go_simp; try (with_reducible rfl))
      try simp only [Act.put, List.setIfInBounds_toArray, List.set_cons_zero, List.set_cons_succ]
      refine wpAnyH_done (by kernel_rfl) ?_ _
      go_wp2
      exact ⟨⟨1, by omega, by go_num, HBr.out⟩, by simp [intOf]⟩
    · obtain rfl : k = 0 := by simp at hk; omega
      go_wp2
      go_ret
      exact ⟨rfl, HW.out.trans (HB.out.mono hz)⟩

set_option maxHeartbeats 8000000 in
theorem parents_root2 (c1 : Nat) (w : World) :
    Calls Try.prog 9 #[.slice none 0 (c1 + 1)] w (TrueB w) := by
  have HL := Lib.hid (fun (w' : World) => (light_any none 0 (c1 + 1) 0 [] w' rfl (Row.empty _ _ _) (by omega) (fun k h => absurd h (Nat.not_lt_zero _)) : Calls Try.prog 11 #[.slice none 0 (c1 + 1)] w' (Told w' (.bool (lightN [])))))
  rw [show lightN [] = true from rfl] at HL
  have HEX0 := Lib.hid (fun A' B' c' d' (W : World) => (exact_any A' B' 0 0 c' d' 0 [] [] W rfl rfl (Row.empty _ _ _) (Row.empty _ _ _) (Nat.zero_le _) : Calls Try.prog 21 #[.slice A' 0 c', .slice B' 0 d'] W (Drewn W (.bool (decide (([] : List (List UInt8)) = []))))))
  rw [show decide (([] : List (List UInt8)) = []) = true from rfl] at HEX0
  have HU0 := Lib.hid (fun A' B' c' d' (W : World) => (under_any A' B' 0 0 c' d' 0 [] [] W rfl rfl (Row.empty _ _ _) (Row.empty _ _ _) (Nat.zero_le _) (by simp [szN, maxLen]) (by simp [szN, maxLen]) (Nat.zero_le _) : Calls Try.prog 26 #[.slice A' 0 c', .slice B' 0 d'] W (Gave W (.bool (underN [] [])))))
  rw [show underN [] [] = true from rfl] at HU0
  have HOW0 := Lib.hid own_root
  have HP0 := Lib.hid parents_of_root
  have HW := Lib.hid (Below.refl w.heap.size w)
  have hz := Nat.le_refl w.heap.size
  go_enter Try.func9, Try.ntmps9
  go_wp2_with fail
  refine (nanswers_any _).mono ?_
  rintro e w1 ⟨rfl, hb⟩
  replace HW := Lib.hid (HW.out.trans (hb.mono hz))
  replace hz := Nat.le_trans hz hb.size
  clear hb
  go_wp2_with fail
  refine (HL.out _).mono ?_
  rintro e w' ⟨rfl, rfl⟩
  go_wp2_with fail
  refine (HOW0.out _ _ _).mono ?_
  rintro e w2 ⟨A1, k1, rfl, hb⟩
  replace HW := Lib.hid (HW.out.trans (hb.mono hz))
  replace hz := Nat.le_trans hz hb.size
  clear hb
  go_wp2_with fail
  refine (HP0.out _ _ _).mono ?_
  rintro e w3 ⟨bo, oo, c2, Ai, ci, rfl, hbo, hck, hb⟩
  replace HW := Lib.hid (HW.out.trans (hb.mono hz))
  replace hz := Nat.le_trans hz hb.size
  clear hb
  have HBO := Lib.hid hbo
  have HCK := Lib.hid hck
  clear hbo hck
  go_wp2
  go_loopw [4] (PLRel w3 []) (fun i _ => 1 - (intOf i).toNat)
  case atStart => exact ⟨0, Nat.zero_le _, rfl, Below.refl _ _⟩
  case round =>
    obtain ⟨k, hk, rfl, hb⟩ := hrel
    have hz3 := hb.size
    have hbo := Nat.lt_of_lt_of_le HBO.out hz3
    have hck := (below_cells hb bo oo HBO.out).trans HCK.out
    have HB := Lib.hid hb
    have HBr := Lib.hid hb.drew
    clear hb
    rcases k with _ | k
    · simp only [Int.natCast_zero]
      go_wp2
      refine wp_region_held_drew (S := fun w' => w'.cell? ⟨bo, oo, none⟩ = some (.slice Ai 0 ci)) (by kernel_rfl) hck (fun hHeld => ?_)
      refine wpAnyH_take (i := 0) (oi := ⟨some 33, _, _, _, _, _⟩) (v := ?v0) rfl (by kernel_rfl) (by kernel_rfl) (by kernel_rfl) ?q0 (Or.inl ⟨by kernel_rfl, ?y0⟩) hHeld ?r0
      case q0 => exact fun _ _ _ h => h
      case y0 => (intro w hSw; (try dsimp only at hSw); go_simp; try (with_reducible rfl))
      try simp only [Act.put, List.setIfInBounds_toArray, List.set_cons_zero, List.set_cons_succ]
      refine wpAnyH_take (i := 1) (oi := ⟨some 34, _, _, _, _, _⟩) (v := ?v1) rfl (by kernel_rfl) (by kernel_rfl) (by kernel_rfl) ?q1 (Or.inl ⟨by kernel_rfl, ?y1⟩) hHeld ?r1
      case q1 => exact fun _ _ _ h => h
      case y1 => (intro w hSw; (try dsimp only at hSw); go_simp; try (with_reducible rfl))
      try simp only [Act.put, List.setIfInBounds_toArray, List.set_cons_zero, List.set_cons_succ]
      refine wpAnyH_take (i := 2) (oi := ⟨some 35, _, _, _, _, _⟩) (v := ?v2) rfl (by kernel_rfl) (by kernel_rfl) (by kernel_rfl) ?q2 (Or.inl ⟨by kernel_rfl, ?y2⟩) hHeld ?r2
      case q2 => exact fun _ _ _ h => h
      case y2 => (intro w hSw; (try dsimp only at hSw); go_simp; try (with_reducible rfl))
      try simp only [Act.put, List.setIfInBounds_toArray, List.set_cons_zero, List.set_cons_succ]
      refine wpAnyH_take (i := 3) (oi := ⟨some 36, _, _, _, _, _⟩) (v := ?v3) rfl (by kernel_rfl) (by kernel_rfl) (by kernel_rfl) ?q3 (Or.inl ⟨by kernel_rfl, ?y3⟩) hHeld ?r3
      case q3 => exact fun _ _ _ h => h
      case y3 => (intro w hSw; (try dsimp only at hSw); go_simp; try (with_reducible rfl))
      try simp only [Act.put, List.setIfInBounds_toArray, List.set_cons_zero, List.set_cons_succ]
      refine wpAnyH_take (i := 4) (oi := ⟨some 37, _, _, _, _, _⟩) (v := ?v4) rfl (by kernel_rfl) (by kernel_rfl) (by kernel_rfl) ?q4 (Or.inl ⟨by kernel_rfl, ?y4⟩) hHeld ?r4
      case q4 => exact fun _ _ _ h => h
      case y4 => (intro w hSw; (try dsimp only at hSw); go_simp; try (with_reducible rfl))
      try simp only [Act.put, List.setIfInBounds_toArray, List.set_cons_zero, List.set_cons_succ]
      refine wpAnyH_take (i := 5) (oi := ⟨some 38, _, _, _, _, _⟩) (v := ?v5) rfl (by kernel_rfl) (by kernel_rfl) (by kernel_rfl) ?q5 (Or.inl ⟨by kernel_rfl, ?y5⟩) hHeld ?r5
      case q5 => exact fun _ _ _ h => h
      case y5 => (intro w hSw; (try dsimp only at hSw); go_simp; try (with_reducible rfl))
      try simp only [Act.put, List.setIfInBounds_toArray, List.set_cons_zero, List.set_cons_succ]
      refine wpAnyH_take (i := 6) (oi := ⟨some 39, _, _, _, _, _⟩) (v := ?v6) rfl (by kernel_rfl) (by kernel_rfl) (by kernel_rfl) ?q6 (Or.inl ⟨by kernel_rfl, ?y6⟩) hHeld ?r6
      case q6 => exact fun _ _ _ h => h
      case y6 => (intro w hSw; (try dsimp only at hSw); go_simp; try (with_reducible rfl))
      try simp only [Act.put, List.setIfInBounds_toArray, List.set_cons_zero, List.set_cons_succ]
      refine wpAnyH_ready (rs := [7]) (by kernel_rfl) (by simp) ?_
      refine AllReadyH.cons (o := ⟨some 40, _, _, _, _, _⟩) rfl (fun K hK => ?_) AllReadyH.nil
      go_simp
      refine (HEX0.out _ _ _ _ _).mono ?_
      rintro e w1 ⟨rfl, q, rfl⟩
      replace HBr := Lib.hid (below_drewN' HB.out (1 + q))
      go_wp2_with fail
      refine hK.out _ _ ?_ (fun hHeld2 => ?_)
      · go_keep
      clear hK K hHeld
      have hHeld := hHeld2
      clear hHeld2
      try simp only [Act.put, List.setIfInBounds_toArray, List.set_cons_zero, List.set_cons_succ]
      refine wpAnyH_take (i := 8) (oi := ⟨some 41, _, _, _, _, _⟩) (v := ?v8) rfl (by kernel_rfl) (by kernel_rfl) (by kernel_rfl) ?q8 (Or.inl ⟨by kernel_rfl, ?y8⟩) hHeld ?r8
      case q8 => exact fun _ _ _ h => h
      case y8 => (intro w hSw; (try dsimp only at hSw); go_simp; try (with_reducible rfl))
      try simp only [Act.put, List.setIfInBounds_toArray, List.set_cons_zero, List.set_cons_succ]
      refine wpAnyH_take (i := 9) (oi := ⟨some 42, _, _, _, _, _⟩) (v := ?v9) rfl (by kernel_rfl) (by kernel_rfl) (by kernel_rfl) ?q9 (Or.inl ⟨by kernel_rfl, ?y9⟩) hHeld ?r9
      case q9 => exact fun _ _ _ h => h
      case y9 => (intro w hSw; (try dsimp only at hSw); go_simp; try (with_reducible rfl))
      try simp only [Act.put, List.setIfInBounds_toArray, List.set_cons_zero, List.set_cons_succ]
      refine wpAnyH_take (i := 10) (oi := ⟨some 43, _, _, _, _, _⟩) (v := ?v10) rfl (by kernel_rfl) (by kernel_rfl) (by kernel_rfl) ?q10 (Or.inl ⟨by kernel_rfl, ?y10⟩) hHeld ?r10
      case q10 => exact fun _ _ _ h => h
      case y10 => (intro w hSw; (try dsimp only at hSw); go_simp; try (with_reducible rfl))
      try simp only [Act.put, List.setIfInBounds_toArray, List.set_cons_zero, List.set_cons_succ]
      refine wpAnyH_take (i := 12) (oi := ⟨some 45, _, _, _, _, _⟩) (v := ?v12) rfl (by kernel_rfl) (by kernel_rfl) (by kernel_rfl) ?q12 (Or.inl ⟨by kernel_rfl, ?y12⟩) hHeld ?r12
      case q12 => exact fun _ _ _ h => h
      case y12 => (intro w hSw; (try dsimp only at hSw); go_simp; try (with_reducible rfl))
      try simp only [Act.put, List.setIfInBounds_toArray, List.set_cons_zero, List.set_cons_succ]
      refine wpAnyH_take (i := 13) (oi := ⟨some 46, _, _, _, _, _⟩) (v := ?v13) rfl (by kernel_rfl) (by kernel_rfl) (by kernel_rfl) ?q13 (Or.inl ⟨by kernel_rfl, ?y13⟩) hHeld ?r13
      case q13 => exact fun _ _ _ h => h
      case y13 => (intro w hSw; (try dsimp only at hSw); go_simp; try (with_reducible rfl))
      try simp only [Act.put, List.setIfInBounds_toArray, List.set_cons_zero, List.set_cons_succ]
      refine wpAnyH_take (i := 14) (oi := ⟨some 47, _, _, _, _, _⟩) (v := ?v14) rfl (by kernel_rfl) (by kernel_rfl) (by kernel_rfl) ?q14 (Or.inl ⟨by kernel_rfl, ?y14⟩) hHeld ?r14
      case q14 => exact fun _ _ _ h => h
      case y14 => (intro w hSw; (try dsimp only at hSw); go_simp; try (with_reducible rfl))
      try simp only [Act.put, List.setIfInBounds_toArray, List.set_cons_zero, List.set_cons_succ]
      refine wpAnyH_take (i := 15) (oi := ⟨some 48, _, _, _, _, _⟩) (v := ?v15) rfl (by kernel_rfl) (by kernel_rfl) (by kernel_rfl) ?q15 (Or.inl ⟨by kernel_rfl, ?y15⟩) hHeld ?r15
      case q15 => exact fun _ _ _ h => h
      case y15 => (intro w hSw; (try dsimp only at hSw); go_simp; try (with_reducible rfl))
      try simp only [Act.put, List.setIfInBounds_toArray, List.set_cons_zero, List.set_cons_succ]
      refine wpAnyH_ready (rs := [11]) (by kernel_rfl) (by simp) ?_
      refine AllReadyH.cons (o := ⟨some 44, _, _, _, _, _⟩) rfl (fun K hK => ?_) AllReadyH.nil
      go_simp
      refine (HOW0.out _ _ _).mono ?_
      rintro e w1 ⟨A3, k3, rfl, hb1⟩
      replace HBr := Lib.hid (HBr.out.trans (hb1.mono hz3))
      have hca := below_cells hb1 bo oo hbo
      replace hbo := Nat.lt_of_lt_of_le hbo hb1.size
      replace hz3 := Nat.le_trans hz3 hb1.size
      clear hb1
      go_wp2_with fail
      refine hK.out _ _ ?_ (fun hHeld2 => ?_)
      · go_keep
      clear hK K hHeld
      have hHeld := hHeld2
      clear hHeld2
      try simp only [Act.put, List.setIfInBounds_toArray, List.set_cons_zero, List.set_cons_succ]
      refine wpAnyH_ready (rs := [16]) (by kernel_rfl) (by simp) ?_
      refine AllReadyH.cons (o := ⟨some 49, _, _, _, _, _⟩) rfl (fun K hK => ?_) AllReadyH.nil
      go_simp
      refine (HU0.out _ _ _ _ _).mono ?_
      rintro e w1 ⟨rfl, hb1⟩
      replace HBr := Lib.hid (HBr.out.trans (hb1.mono hz3))
      have hca := below_cells hb1 bo oo hbo
      replace hbo := Nat.lt_of_lt_of_le hbo hb1.size
      replace hz3 := Nat.le_trans hz3 hb1.size
      clear hb1
      go_wp2_with fail
      refine hK.out _ _ ?_ (fun hHeld2 => ?_)
      · go_keep
      clear hK K hHeld
      have hHeld := hHeld2
      clear hHeld2
      try simp only [Act.put, List.setIfInBounds_toArray, List.set_cons_zero, List.set_cons_succ]
      refine wpAnyH_take (i := 17) (oi := ⟨some 50, _, _, _, _, _⟩) (v := ?v17) rfl (by kernel_rfl) (by kernel_rfl) (by kernel_rfl) ?q17 (Or.inl ⟨by kernel_rfl, ?y17⟩) hHeld ?r17
      case q17 => exact fun _ _ _ h => h
      case y17 => (intro w hSw; (try dsimp only at hSw); go_simp; try (with_reducible rfl))
      try simp only [Act.put, List.setIfInBounds_toArray, List.set_cons_zero, List.set_cons_succ]
      refine wpAnyH_take (i := 18) (oi := ⟨some 51, _, _, _, _, _⟩) (v := ?v18) rfl (by kernel_rfl) (by kernel_rfl) (by kernel_rfl) ?q18 (Or.inl ⟨by kernel_rfl, ?y18⟩) hHeld ?r18
      case q18 => exact fun _ _ _ h => h
      case y18 => (intro w hSw; (try dsimp only at hSw); go_simp; try (with_reducible rfl))
      try simp only [Act.put, List.setIfInBounds_toArray, List.set_cons_zero, List.set_cons_succ]
      refine wpAnyH_take (i := 19) (oi := ⟨some 52, _, _, _, _, _⟩) (v := ?v19) rfl (by kernel_rfl) (by kernel_rfl) (by kernel_rfl) ?q19 (Or.inl ⟨by kernel_rfl, ?y19⟩) hHeld ?r19
      case q19 => exact fun _ _ _ h => h
      case y19 => (intro w hSw; (try dsimp only at hSw); go_simp; try (with_reducible rfl))
      try simp only [Act.put, List.setIfInBounds_toArray, List.set_cons_zero, List.set_cons_succ]
      refine wpAnyH_take (i := 20) (oi := ⟨some 53, _, _, _, _, _⟩) (v := ?v20) rfl (by kernel_rfl) (by kernel_rfl) (by kernel_rfl) ?q20 (Or.inl ⟨by kernel_rfl, ?y20⟩) hHeld ?r20
      case q20 => exact fun _ _ _ h => h
      case y20 => (intro w hSw; (try dsimp only at hSw); go_simp; try (with_reducible rfl))
      try simp only [Act.put, List.setIfInBounds_toArray, List.set_cons_zero, List.set_cons_succ]
      refine wpAnyH_take (i := 21) (oi := ⟨some 54, _, _, _, _, _⟩) (v := ?v21) rfl (by kernel_rfl) (by kernel_rfl) (by kernel_rfl) ?q21 (Or.inl ⟨by kernel_rfl, ?y21⟩) hHeld ?r21
      case q21 => exact fun _ _ _ h => h
      case y21 => (intro w hSw; (try dsimp only at hSw); go_simp; try (with_reducible rfl))
      try simp only [Act.put, List.setIfInBounds_toArray, List.set_cons_zero, List.set_cons_succ]
      refine wpAnyH_take (i := 22) (oi := ⟨some 55, _, _, _, _, _⟩) (v := ?v22) rfl (by kernel_rfl) (by kernel_rfl) (by kernel_rfl) ?q22 (Or.inl ⟨by kernel_rfl, ?y22⟩) hHeld ?r22
      case q22 => exact fun _ _ _ h => h
      case y22 => (intro w hSw; (try dsimp only at hSw); go_simp; try (with_reducible rfl))
      try simp only [Act.put, List.setIfInBounds_toArray, List.set_cons_zero, List.set_cons_succ]
      refine wpAnyH_take (i := 23) (oi := ⟨some 56, _, _, _, _, _⟩) (v := undef) rfl (by kernel_rfl) (by kernel_rfl) (by kernel_rfl) (fun _ _ _ h => h) (Or.inr ⟨by kernel_rfl, rfl⟩) hHeld ?_
      try simp only [Act.put, List.setIfInBounds_toArray, List.set_cons_zero, List.set_cons_succ]
      refine wpAnyH_take (i := 24) (oi := ⟨some 57, _, _, _, _, _⟩) (v := undef) rfl (by kernel_rfl) (by kernel_rfl) (by kernel_rfl) (fun _ _ _ h => h) (Or.inr ⟨by kernel_rfl, rfl⟩) hHeld ?_
      try simp only [Act.put, List.setIfInBounds_toArray, List.set_cons_zero, List.set_cons_succ]
      refine wpAnyH_take (i := 25) (oi := ⟨some 58, _, _, _, _, _⟩) (v := undef) rfl (by kernel_rfl) (by kernel_rfl) (by kernel_rfl) (fun _ _ _ h => h) (Or.inr ⟨by kernel_rfl, rfl⟩) hHeld ?_
      try simp only [Act.put, List.setIfInBounds_toArray, List.set_cons_zero, List.set_cons_succ]
      refine wpAnyH_take (i := 26) (oi := ⟨some 59, _, _, _, _, _⟩) (v := undef) rfl (by kernel_rfl) (by kernel_rfl) (by kernel_rfl) (fun _ _ _ h => h) (Or.inr ⟨by kernel_rfl, rfl⟩) hHeld ?_
      try simp only [Act.put, List.setIfInBounds_toArray, List.set_cons_zero, List.set_cons_succ]
      refine wpAnyH_take (i := 27) (oi := ⟨some 60, _, _, _, _, _⟩) (v := undef) rfl (by kernel_rfl) (by kernel_rfl) (by kernel_rfl) (fun _ _ _ h => h) (Or.inr ⟨by kernel_rfl, rfl⟩) hHeld ?_
      try simp only [Act.put, List.setIfInBounds_toArray, List.set_cons_zero, List.set_cons_succ]
      refine wpAnyH_take (i := 28) (oi := ⟨some 61, _, _, _, _, _⟩) (v := undef) rfl (by kernel_rfl) (by kernel_rfl) (by kernel_rfl) (fun _ _ _ h => h) (Or.inr ⟨by kernel_rfl, rfl⟩) hHeld ?_
      try simp only [Act.put, List.setIfInBounds_toArray, List.set_cons_zero, List.set_cons_succ]
      refine wpAnyH_take (i := 29) (oi := ⟨some 62, _, _, _, _, _⟩) (v := undef) rfl (by kernel_rfl) (by kernel_rfl) (by kernel_rfl) (fun _ _ _ h => h) (Or.inr ⟨by kernel_rfl, rfl⟩) hHeld ?_
      try simp only [Act.put, List.setIfInBounds_toArray, List.set_cons_zero, List.set_cons_succ]
      refine wpAnyH_take (i := 30) (oi := ⟨some 63, _, _, _, _, _⟩) (v := undef) rfl (by kernel_rfl) (by kernel_rfl) (by kernel_rfl) (fun _ _ _ h => h) (Or.inr ⟨by kernel_rfl, rfl⟩) hHeld ?_
      try simp only [Act.put, List.setIfInBounds_toArray, List.set_cons_zero, List.set_cons_succ]
      refine wpAnyH_take (i := 31) (oi := ⟨some 64, _, _, _, _, _⟩) (v := undef) rfl (by kernel_rfl) (by kernel_rfl) (by kernel_rfl) (fun _ _ _ h => h) (Or.inr ⟨by kernel_rfl, rfl⟩) hHeld ?_
      try simp only [Act.put, List.setIfInBounds_toArray, List.set_cons_zero, List.set_cons_succ]
      refine wpAnyH_take (i := 32) (oi := ⟨some 65, _, _, _, _, _⟩) (v := undef) rfl (by kernel_rfl) (by kernel_rfl) (by kernel_rfl) (fun _ _ _ h => h) (Or.inr ⟨by kernel_rfl, rfl⟩) hHeld ?_
      try simp only [Act.put, List.setIfInBounds_toArray, List.set_cons_zero, List.set_cons_succ]
      refine wpAnyH_take (i := 33) (oi := ⟨some 66, _, _, _, _, _⟩) (v := ?v33) rfl (by kernel_rfl) (by kernel_rfl) (by kernel_rfl) ?q33 (Or.inl ⟨by kernel_rfl, ?y33⟩) hHeld ?r33
      case q33 => exact fun _ _ _ h => h
      case y33 => (intro w hSw; (try dsimp only at hSw); go_simp; try (with_reducible rfl))
      try simp only [Act.put, List.setIfInBounds_toArray, List.set_cons_zero, List.set_cons_succ]
      refine wpAnyH_take (i := 34) (oi := ⟨some 67, _, _, _, _, _⟩) (v := ?v34) rfl (by kernel_rfl) (by kernel_rfl) (by kernel_rfl) ?q34 (Or.inl ⟨by kernel_rfl, ?y34⟩) hHeld ?r34
      case q34 => exact fun _ _ _ h => h
      case y34 => (intro w hSw; (try dsimp only at hSw); go_simp; try (with_reducible rfl))
      try simp only [Act.put, List.setIfInBounds_toArray, List.set_cons_zero, List.set_cons_succ]
      refine wpAnyH_done (by kernel_rfl) ?_ _
      go_wp2
      exact ⟨⟨1, by omega, by go_num, HBr.out⟩, by simp [intOf]⟩
    · obtain rfl : k = 0 := by simp at hk; omega
      go_wp2
      go_ret
      exact ⟨rfl, HW.out.trans (HB.out.mono hz)⟩

set_option maxHeartbeats 8000000 in
theorem parents_root3 (b off : Nat) (sp : _) (w : World) :
    Calls Try.prog 9 #[.slice (some ⟨b, off, sp⟩) 0 0] w (TrueB w) := by
  have HL := Lib.hid (fun (w' : World) => (light_any (some ⟨b, off, sp⟩) 0 0 0 [] w' rfl (Row.empty _ _ _) (by omega) (fun k h => absurd h (Nat.not_lt_zero _)) : Calls Try.prog 11 #[.slice (some ⟨b, off, sp⟩) 0 0] w' (Told w' (.bool (lightN [])))))
  rw [show lightN [] = true from rfl] at HL
  have HEX0 := Lib.hid (fun A' B' c' d' (W : World) => (exact_any A' B' 0 0 c' d' 0 [] [] W rfl rfl (Row.empty _ _ _) (Row.empty _ _ _) (Nat.zero_le _) : Calls Try.prog 21 #[.slice A' 0 c', .slice B' 0 d'] W (Drewn W (.bool (decide (([] : List (List UInt8)) = []))))))
  rw [show decide (([] : List (List UInt8)) = []) = true from rfl] at HEX0
  have HU0 := Lib.hid (fun A' B' c' d' (W : World) => (under_any A' B' 0 0 c' d' 0 [] [] W rfl rfl (Row.empty _ _ _) (Row.empty _ _ _) (Nat.zero_le _) (by simp [szN, maxLen]) (by simp [szN, maxLen]) (Nat.zero_le _) : Calls Try.prog 26 #[.slice A' 0 c', .slice B' 0 d'] W (Gave W (.bool (underN [] [])))))
  rw [show underN [] [] = true from rfl] at HU0
  have HOW0 := Lib.hid own_root
  have HP0 := Lib.hid parents_of_root
  have HW := Lib.hid (Below.refl w.heap.size w)
  have hz := Nat.le_refl w.heap.size
  go_enter Try.func9, Try.ntmps9
  go_wp2_with fail
  refine (nanswers_any _).mono ?_
  rintro e w1 ⟨rfl, hb⟩
  replace HW := Lib.hid (HW.out.trans (hb.mono hz))
  replace hz := Nat.le_trans hz hb.size
  clear hb
  go_wp2_with fail
  refine (HL.out _).mono ?_
  rintro e w' ⟨rfl, rfl⟩
  go_wp2_with fail
  refine (HOW0.out _ _ _).mono ?_
  rintro e w2 ⟨A1, k1, rfl, hb⟩
  replace HW := Lib.hid (HW.out.trans (hb.mono hz))
  replace hz := Nat.le_trans hz hb.size
  clear hb
  go_wp2_with fail
  refine (HP0.out _ _ _).mono ?_
  rintro e w3 ⟨bo, oo, c2, Ai, ci, rfl, hbo, hck, hb⟩
  replace HW := Lib.hid (HW.out.trans (hb.mono hz))
  replace hz := Nat.le_trans hz hb.size
  clear hb
  have HBO := Lib.hid hbo
  have HCK := Lib.hid hck
  clear hbo hck
  go_wp2
  go_loopw [4] (PLRel w3 []) (fun i _ => 1 - (intOf i).toNat)
  case atStart => exact ⟨0, Nat.zero_le _, rfl, Below.refl _ _⟩
  case round =>
    obtain ⟨k, hk, rfl, hb⟩ := hrel
    have hz3 := hb.size
    have hbo := Nat.lt_of_lt_of_le HBO.out hz3
    have hck := (below_cells hb bo oo HBO.out).trans HCK.out
    have HB := Lib.hid hb
    have HBr := Lib.hid hb.drew
    clear hb
    rcases k with _ | k
    · simp only [Int.natCast_zero]
      go_wp2
      refine wp_region_held_drew (S := fun w' => w'.cell? ⟨bo, oo, none⟩ = some (.slice Ai 0 ci)) (by kernel_rfl) hck (fun hHeld => ?_)
      refine wpAnyH_take (i := 0) (oi := ⟨some 33, _, _, _, _, _⟩) (v := ?v0) rfl (by kernel_rfl) (by kernel_rfl) (by kernel_rfl) ?q0 (Or.inl ⟨by kernel_rfl, ?y0⟩) hHeld ?r0
      case q0 => exact fun _ _ _ h => h
      case y0 => (intro w hSw; (try dsimp only at hSw); go_simp; try (with_reducible rfl))
      try simp only [Act.put, List.setIfInBounds_toArray, List.set_cons_zero, List.set_cons_succ]
      refine wpAnyH_take (i := 1) (oi := ⟨some 34, _, _, _, _, _⟩) (v := ?v1) rfl (by kernel_rfl) (by kernel_rfl) (by kernel_rfl) ?q1 (Or.inl ⟨by kernel_rfl, ?y1⟩) hHeld ?r1
      case q1 => exact fun _ _ _ h => h
      case y1 => (intro w hSw; (try dsimp only at hSw); go_simp; try (with_reducible rfl))
      try simp only [Act.put, List.setIfInBounds_toArray, List.set_cons_zero, List.set_cons_succ]
      refine wpAnyH_take (i := 2) (oi := ⟨some 35, _, _, _, _, _⟩) (v := ?v2) rfl (by kernel_rfl) (by kernel_rfl) (by kernel_rfl) ?q2 (Or.inl ⟨by kernel_rfl, ?y2⟩) hHeld ?r2
      case q2 => exact fun _ _ _ h => h
      case y2 => (intro w hSw; (try dsimp only at hSw); go_simp; try (with_reducible rfl))
      try simp only [Act.put, List.setIfInBounds_toArray, List.set_cons_zero, List.set_cons_succ]
      refine wpAnyH_take (i := 3) (oi := ⟨some 36, _, _, _, _, _⟩) (v := ?v3) rfl (by kernel_rfl) (by kernel_rfl) (by kernel_rfl) ?q3 (Or.inl ⟨by kernel_rfl, ?y3⟩) hHeld ?r3
      case q3 => exact fun _ _ _ h => h
      case y3 => (intro w hSw; (try dsimp only at hSw); go_simp; try (with_reducible rfl))
      try simp only [Act.put, List.setIfInBounds_toArray, List.set_cons_zero, List.set_cons_succ]
      refine wpAnyH_take (i := 4) (oi := ⟨some 37, _, _, _, _, _⟩) (v := ?v4) rfl (by kernel_rfl) (by kernel_rfl) (by kernel_rfl) ?q4 (Or.inl ⟨by kernel_rfl, ?y4⟩) hHeld ?r4
      case q4 => exact fun _ _ _ h => h
      case y4 => (intro w hSw; (try dsimp only at hSw); go_simp; try (with_reducible rfl))
      try simp only [Act.put, List.setIfInBounds_toArray, List.set_cons_zero, List.set_cons_succ]
      refine wpAnyH_take (i := 5) (oi := ⟨some 38, _, _, _, _, _⟩) (v := ?v5) rfl (by kernel_rfl) (by kernel_rfl) (by kernel_rfl) ?q5 (Or.inl ⟨by kernel_rfl, ?y5⟩) hHeld ?r5
      case q5 => exact fun _ _ _ h => h
      case y5 => (intro w hSw; (try dsimp only at hSw); go_simp; try (with_reducible rfl))
      try simp only [Act.put, List.setIfInBounds_toArray, List.set_cons_zero, List.set_cons_succ]
      refine wpAnyH_take (i := 6) (oi := ⟨some 39, _, _, _, _, _⟩) (v := ?v6) rfl (by kernel_rfl) (by kernel_rfl) (by kernel_rfl) ?q6 (Or.inl ⟨by kernel_rfl, ?y6⟩) hHeld ?r6
      case q6 => exact fun _ _ _ h => h
      case y6 => (intro w hSw; (try dsimp only at hSw); go_simp; try (with_reducible rfl))
      try simp only [Act.put, List.setIfInBounds_toArray, List.set_cons_zero, List.set_cons_succ]
      refine wpAnyH_ready (rs := [7]) (by kernel_rfl) (by simp) ?_
      refine AllReadyH.cons (o := ⟨some 40, _, _, _, _, _⟩) rfl (fun K hK => ?_) AllReadyH.nil
      go_simp
      refine (HEX0.out _ _ _ _ _).mono ?_
      rintro e w1 ⟨rfl, q, rfl⟩
      replace HBr := Lib.hid (below_drewN' HB.out (1 + q))
      go_wp2_with fail
      refine hK.out _ _ ?_ (fun hHeld2 => ?_)
      · go_keep
      clear hK K hHeld
      have hHeld := hHeld2
      clear hHeld2
      try simp only [Act.put, List.setIfInBounds_toArray, List.set_cons_zero, List.set_cons_succ]
      refine wpAnyH_take (i := 8) (oi := ⟨some 41, _, _, _, _, _⟩) (v := ?v8) rfl (by kernel_rfl) (by kernel_rfl) (by kernel_rfl) ?q8 (Or.inl ⟨by kernel_rfl, ?y8⟩) hHeld ?r8
      case q8 => exact fun _ _ _ h => h
      case y8 => (intro w hSw; (try dsimp only at hSw); go_simp; try (with_reducible rfl))
      try simp only [Act.put, List.setIfInBounds_toArray, List.set_cons_zero, List.set_cons_succ]
      refine wpAnyH_take (i := 9) (oi := ⟨some 42, _, _, _, _, _⟩) (v := ?v9) rfl (by kernel_rfl) (by kernel_rfl) (by kernel_rfl) ?q9 (Or.inl ⟨by kernel_rfl, ?y9⟩) hHeld ?r9
      case q9 => exact fun _ _ _ h => h
      case y9 => (intro w hSw; (try dsimp only at hSw); go_simp; try (with_reducible rfl))
      try simp only [Act.put, List.setIfInBounds_toArray, List.set_cons_zero, List.set_cons_succ]
      refine wpAnyH_take (i := 10) (oi := ⟨some 43, _, _, _, _, _⟩) (v := ?v10) rfl (by kernel_rfl) (by kernel_rfl) (by kernel_rfl) ?q10 (Or.inl ⟨by kernel_rfl, ?y10⟩) hHeld ?r10
      case q10 => exact fun _ _ _ h => h
      case y10 => (intro w hSw; (try dsimp only at hSw); go_simp; try (with_reducible rfl))
      try simp only [Act.put, List.setIfInBounds_toArray, List.set_cons_zero, List.set_cons_succ]
      refine wpAnyH_take (i := 12) (oi := ⟨some 45, _, _, _, _, _⟩) (v := ?v12) rfl (by kernel_rfl) (by kernel_rfl) (by kernel_rfl) ?q12 (Or.inl ⟨by kernel_rfl, ?y12⟩) hHeld ?r12
      case q12 => exact fun _ _ _ h => h
      case y12 => (intro w hSw; (try dsimp only at hSw); go_simp; try (with_reducible rfl))
      try simp only [Act.put, List.setIfInBounds_toArray, List.set_cons_zero, List.set_cons_succ]
      refine wpAnyH_take (i := 13) (oi := ⟨some 46, _, _, _, _, _⟩) (v := ?v13) rfl (by kernel_rfl) (by kernel_rfl) (by kernel_rfl) ?q13 (Or.inl ⟨by kernel_rfl, ?y13⟩) hHeld ?r13
      case q13 => exact fun _ _ _ h => h
      case y13 => (intro w hSw; (try dsimp only at hSw); go_simp; try (with_reducible rfl))
      try simp only [Act.put, List.setIfInBounds_toArray, List.set_cons_zero, List.set_cons_succ]
      refine wpAnyH_take (i := 14) (oi := ⟨some 47, _, _, _, _, _⟩) (v := ?v14) rfl (by kernel_rfl) (by kernel_rfl) (by kernel_rfl) ?q14 (Or.inl ⟨by kernel_rfl, ?y14⟩) hHeld ?r14
      case q14 => exact fun _ _ _ h => h
      case y14 => (intro w hSw; (try dsimp only at hSw); go_simp; try (with_reducible rfl))
      try simp only [Act.put, List.setIfInBounds_toArray, List.set_cons_zero, List.set_cons_succ]
      refine wpAnyH_take (i := 15) (oi := ⟨some 48, _, _, _, _, _⟩) (v := ?v15) rfl (by kernel_rfl) (by kernel_rfl) (by kernel_rfl) ?q15 (Or.inl ⟨by kernel_rfl, ?y15⟩) hHeld ?r15
      case q15 => exact fun _ _ _ h => h
      case y15 => (intro w hSw; (try dsimp only at hSw); go_simp; try (with_reducible rfl))
      try simp only [Act.put, List.setIfInBounds_toArray, List.set_cons_zero, List.set_cons_succ]
      refine wpAnyH_ready (rs := [11]) (by kernel_rfl) (by simp) ?_
      refine AllReadyH.cons (o := ⟨some 44, _, _, _, _, _⟩) rfl (fun K hK => ?_) AllReadyH.nil
      go_simp
      refine (HOW0.out _ _ _).mono ?_
      rintro e w1 ⟨A3, k3, rfl, hb1⟩
      replace HBr := Lib.hid (HBr.out.trans (hb1.mono hz3))
      have hca := below_cells hb1 bo oo hbo
      replace hbo := Nat.lt_of_lt_of_le hbo hb1.size
      replace hz3 := Nat.le_trans hz3 hb1.size
      clear hb1
      go_wp2_with fail
      refine hK.out _ _ ?_ (fun hHeld2 => ?_)
      · go_keep
      clear hK K hHeld
      have hHeld := hHeld2
      clear hHeld2
      try simp only [Act.put, List.setIfInBounds_toArray, List.set_cons_zero, List.set_cons_succ]
      refine wpAnyH_ready (rs := [16]) (by kernel_rfl) (by simp) ?_
      refine AllReadyH.cons (o := ⟨some 49, _, _, _, _, _⟩) rfl (fun K hK => ?_) AllReadyH.nil
      go_simp
      refine (HU0.out _ _ _ _ _).mono ?_
      rintro e w1 ⟨rfl, hb1⟩
      replace HBr := Lib.hid (HBr.out.trans (hb1.mono hz3))
      have hca := below_cells hb1 bo oo hbo
      replace hbo := Nat.lt_of_lt_of_le hbo hb1.size
      replace hz3 := Nat.le_trans hz3 hb1.size
      clear hb1
      go_wp2_with fail
      refine hK.out _ _ ?_ (fun hHeld2 => ?_)
      · go_keep
      clear hK K hHeld
      have hHeld := hHeld2
      clear hHeld2
      try simp only [Act.put, List.setIfInBounds_toArray, List.set_cons_zero, List.set_cons_succ]
      refine wpAnyH_take (i := 17) (oi := ⟨some 50, _, _, _, _, _⟩) (v := ?v17) rfl (by kernel_rfl) (by kernel_rfl) (by kernel_rfl) ?q17 (Or.inl ⟨by kernel_rfl, ?y17⟩) hHeld ?r17
      case q17 => exact fun _ _ _ h => h
      case y17 => (intro w hSw; (try dsimp only at hSw); go_simp; try (with_reducible rfl))
      try simp only [Act.put, List.setIfInBounds_toArray, List.set_cons_zero, List.set_cons_succ]
      refine wpAnyH_take (i := 18) (oi := ⟨some 51, _, _, _, _, _⟩) (v := ?v18) rfl (by kernel_rfl) (by kernel_rfl) (by kernel_rfl) ?q18 (Or.inl ⟨by kernel_rfl, ?y18⟩) hHeld ?r18
      case q18 => exact fun _ _ _ h => h
      case y18 => (intro w hSw; (try dsimp only at hSw); go_simp; try (with_reducible rfl))
      try simp only [Act.put, List.setIfInBounds_toArray, List.set_cons_zero, List.set_cons_succ]
      refine wpAnyH_take (i := 19) (oi := ⟨some 52, _, _, _, _, _⟩) (v := ?v19) rfl (by kernel_rfl) (by kernel_rfl) (by kernel_rfl) ?q19 (Or.inl ⟨by kernel_rfl, ?y19⟩) hHeld ?r19
      case q19 => exact fun _ _ _ h => h
      case y19 => (intro w hSw; (try dsimp only at hSw); go_simp; try (with_reducible rfl))
      try simp only [Act.put, List.setIfInBounds_toArray, List.set_cons_zero, List.set_cons_succ]
      refine wpAnyH_take (i := 20) (oi := ⟨some 53, _, _, _, _, _⟩) (v := ?v20) rfl (by kernel_rfl) (by kernel_rfl) (by kernel_rfl) ?q20 (Or.inl ⟨by kernel_rfl, ?y20⟩) hHeld ?r20
      case q20 => exact fun _ _ _ h => h
      case y20 => (intro w hSw; (try dsimp only at hSw); go_simp; try (with_reducible rfl))
      try simp only [Act.put, List.setIfInBounds_toArray, List.set_cons_zero, List.set_cons_succ]
      refine wpAnyH_take (i := 21) (oi := ⟨some 54, _, _, _, _, _⟩) (v := ?v21) rfl (by kernel_rfl) (by kernel_rfl) (by kernel_rfl) ?q21 (Or.inl ⟨by kernel_rfl, ?y21⟩) hHeld ?r21
      case q21 => exact fun _ _ _ h => h
      case y21 => (intro w hSw; (try dsimp only at hSw); go_simp; try (with_reducible rfl))
      try simp only [Act.put, List.setIfInBounds_toArray, List.set_cons_zero, List.set_cons_succ]
      refine wpAnyH_take (i := 22) (oi := ⟨some 55, _, _, _, _, _⟩) (v := ?v22) rfl (by kernel_rfl) (by kernel_rfl) (by kernel_rfl) ?q22 (Or.inl ⟨by kernel_rfl, ?y22⟩) hHeld ?r22
      case q22 => exact fun _ _ _ h => h
      case y22 => (intro w hSw; (try dsimp only at hSw); go_simp; try (with_reducible rfl))
      try simp only [Act.put, List.setIfInBounds_toArray, List.set_cons_zero, List.set_cons_succ]
      refine wpAnyH_take (i := 23) (oi := ⟨some 56, _, _, _, _, _⟩) (v := undef) rfl (by kernel_rfl) (by kernel_rfl) (by kernel_rfl) (fun _ _ _ h => h) (Or.inr ⟨by kernel_rfl, rfl⟩) hHeld ?_
      try simp only [Act.put, List.setIfInBounds_toArray, List.set_cons_zero, List.set_cons_succ]
      refine wpAnyH_take (i := 24) (oi := ⟨some 57, _, _, _, _, _⟩) (v := undef) rfl (by kernel_rfl) (by kernel_rfl) (by kernel_rfl) (fun _ _ _ h => h) (Or.inr ⟨by kernel_rfl, rfl⟩) hHeld ?_
      try simp only [Act.put, List.setIfInBounds_toArray, List.set_cons_zero, List.set_cons_succ]
      refine wpAnyH_take (i := 25) (oi := ⟨some 58, _, _, _, _, _⟩) (v := undef) rfl (by kernel_rfl) (by kernel_rfl) (by kernel_rfl) (fun _ _ _ h => h) (Or.inr ⟨by kernel_rfl, rfl⟩) hHeld ?_
      try simp only [Act.put, List.setIfInBounds_toArray, List.set_cons_zero, List.set_cons_succ]
      refine wpAnyH_take (i := 26) (oi := ⟨some 59, _, _, _, _, _⟩) (v := undef) rfl (by kernel_rfl) (by kernel_rfl) (by kernel_rfl) (fun _ _ _ h => h) (Or.inr ⟨by kernel_rfl, rfl⟩) hHeld ?_
      try simp only [Act.put, List.setIfInBounds_toArray, List.set_cons_zero, List.set_cons_succ]
      refine wpAnyH_take (i := 27) (oi := ⟨some 60, _, _, _, _, _⟩) (v := undef) rfl (by kernel_rfl) (by kernel_rfl) (by kernel_rfl) (fun _ _ _ h => h) (Or.inr ⟨by kernel_rfl, rfl⟩) hHeld ?_
      try simp only [Act.put, List.setIfInBounds_toArray, List.set_cons_zero, List.set_cons_succ]
      refine wpAnyH_take (i := 28) (oi := ⟨some 61, _, _, _, _, _⟩) (v := undef) rfl (by kernel_rfl) (by kernel_rfl) (by kernel_rfl) (fun _ _ _ h => h) (Or.inr ⟨by kernel_rfl, rfl⟩) hHeld ?_
      try simp only [Act.put, List.setIfInBounds_toArray, List.set_cons_zero, List.set_cons_succ]
      refine wpAnyH_take (i := 29) (oi := ⟨some 62, _, _, _, _, _⟩) (v := undef) rfl (by kernel_rfl) (by kernel_rfl) (by kernel_rfl) (fun _ _ _ h => h) (Or.inr ⟨by kernel_rfl, rfl⟩) hHeld ?_
      try simp only [Act.put, List.setIfInBounds_toArray, List.set_cons_zero, List.set_cons_succ]
      refine wpAnyH_take (i := 30) (oi := ⟨some 63, _, _, _, _, _⟩) (v := undef) rfl (by kernel_rfl) (by kernel_rfl) (by kernel_rfl) (fun _ _ _ h => h) (Or.inr ⟨by kernel_rfl, rfl⟩) hHeld ?_
      try simp only [Act.put, List.setIfInBounds_toArray, List.set_cons_zero, List.set_cons_succ]
      refine wpAnyH_take (i := 31) (oi := ⟨some 64, _, _, _, _, _⟩) (v := undef) rfl (by kernel_rfl) (by kernel_rfl) (by kernel_rfl) (fun _ _ _ h => h) (Or.inr ⟨by kernel_rfl, rfl⟩) hHeld ?_
      try simp only [Act.put, List.setIfInBounds_toArray, List.set_cons_zero, List.set_cons_succ]
      refine wpAnyH_take (i := 32) (oi := ⟨some 65, _, _, _, _, _⟩) (v := undef) rfl (by kernel_rfl) (by kernel_rfl) (by kernel_rfl) (fun _ _ _ h => h) (Or.inr ⟨by kernel_rfl, rfl⟩) hHeld ?_
      try simp only [Act.put, List.setIfInBounds_toArray, List.set_cons_zero, List.set_cons_succ]
      refine wpAnyH_take (i := 33) (oi := ⟨some 66, _, _, _, _, _⟩) (v := ?v33) rfl (by kernel_rfl) (by kernel_rfl) (by kernel_rfl) ?q33 (Or.inl ⟨by kernel_rfl, ?y33⟩) hHeld ?r33
      case q33 => exact fun _ _ _ h => h
      case y33 => (intro w hSw; (try dsimp only at hSw); go_simp; try (with_reducible rfl))
      try simp only [Act.put, List.setIfInBounds_toArray, List.set_cons_zero, List.set_cons_succ]
      refine wpAnyH_take (i := 34) (oi := ⟨some 67, _, _, _, _, _⟩) (v := ?v34) rfl (by kernel_rfl) (by kernel_rfl) (by kernel_rfl) ?q34 (Or.inl ⟨by kernel_rfl, ?y34⟩) hHeld ?r34
      case q34 => exact fun _ _ _ h => h
      case y34 => (intro w hSw; (try dsimp only at hSw); go_simp; try (with_reducible rfl))
      try simp only [Act.put, List.setIfInBounds_toArray, List.set_cons_zero, List.set_cons_succ]
      refine wpAnyH_done (by kernel_rfl) ?_ _
      go_wp2
      exact ⟨⟨1, by omega, by go_num, HBr.out⟩, by simp [intOf]⟩
    · obtain rfl : k = 0 := by simp at hk; omega
      go_wp2
      go_ret
      exact ⟨rfl, HW.out.trans (HB.out.mono hz)⟩

set_option maxHeartbeats 8000000 in
theorem parents_root4 (b off : Nat) (sp : _) (c1 : Nat) (w : World) :
    Calls Try.prog 9 #[.slice (some ⟨b, off, sp⟩) 0 (c1 + 1)] w (TrueB w) := by
  have HL := Lib.hid (fun (w' : World) => (light_any (some ⟨b, off, sp⟩) 0 (c1 + 1) 0 [] w' rfl (Row.empty _ _ _) (by omega) (fun k h => absurd h (Nat.not_lt_zero _)) : Calls Try.prog 11 #[.slice (some ⟨b, off, sp⟩) 0 (c1 + 1)] w' (Told w' (.bool (lightN [])))))
  rw [show lightN [] = true from rfl] at HL
  have HEX0 := Lib.hid (fun A' B' c' d' (W : World) => (exact_any A' B' 0 0 c' d' 0 [] [] W rfl rfl (Row.empty _ _ _) (Row.empty _ _ _) (Nat.zero_le _) : Calls Try.prog 21 #[.slice A' 0 c', .slice B' 0 d'] W (Drewn W (.bool (decide (([] : List (List UInt8)) = []))))))
  rw [show decide (([] : List (List UInt8)) = []) = true from rfl] at HEX0
  have HU0 := Lib.hid (fun A' B' c' d' (W : World) => (under_any A' B' 0 0 c' d' 0 [] [] W rfl rfl (Row.empty _ _ _) (Row.empty _ _ _) (Nat.zero_le _) (by simp [szN, maxLen]) (by simp [szN, maxLen]) (Nat.zero_le _) : Calls Try.prog 26 #[.slice A' 0 c', .slice B' 0 d'] W (Gave W (.bool (underN [] [])))))
  rw [show underN [] [] = true from rfl] at HU0
  have HOW0 := Lib.hid own_root
  have HP0 := Lib.hid parents_of_root
  have HW := Lib.hid (Below.refl w.heap.size w)
  have hz := Nat.le_refl w.heap.size
  go_enter Try.func9, Try.ntmps9
  go_wp2_with fail
  refine (nanswers_any _).mono ?_
  rintro e w1 ⟨rfl, hb⟩
  replace HW := Lib.hid (HW.out.trans (hb.mono hz))
  replace hz := Nat.le_trans hz hb.size
  clear hb
  go_wp2_with fail
  refine (HL.out _).mono ?_
  rintro e w' ⟨rfl, rfl⟩
  go_wp2_with fail
  refine (HOW0.out _ _ _).mono ?_
  rintro e w2 ⟨A1, k1, rfl, hb⟩
  replace HW := Lib.hid (HW.out.trans (hb.mono hz))
  replace hz := Nat.le_trans hz hb.size
  clear hb
  go_wp2_with fail
  refine (HP0.out _ _ _).mono ?_
  rintro e w3 ⟨bo, oo, c2, Ai, ci, rfl, hbo, hck, hb⟩
  replace HW := Lib.hid (HW.out.trans (hb.mono hz))
  replace hz := Nat.le_trans hz hb.size
  clear hb
  have HBO := Lib.hid hbo
  have HCK := Lib.hid hck
  clear hbo hck
  go_wp2
  go_loopw [4] (PLRel w3 []) (fun i _ => 1 - (intOf i).toNat)
  case atStart => exact ⟨0, Nat.zero_le _, rfl, Below.refl _ _⟩
  case round =>
    obtain ⟨k, hk, rfl, hb⟩ := hrel
    have hz3 := hb.size
    have hbo := Nat.lt_of_lt_of_le HBO.out hz3
    have hck := (below_cells hb bo oo HBO.out).trans HCK.out
    have HB := Lib.hid hb
    have HBr := Lib.hid hb.drew
    clear hb
    rcases k with _ | k
    · simp only [Int.natCast_zero]
      go_wp2
      refine wp_region_held_drew (S := fun w' => w'.cell? ⟨bo, oo, none⟩ = some (.slice Ai 0 ci)) (by kernel_rfl) hck (fun hHeld => ?_)
      refine wpAnyH_take (i := 0) (oi := ⟨some 33, _, _, _, _, _⟩) (v := ?v0) rfl (by kernel_rfl) (by kernel_rfl) (by kernel_rfl) ?q0 (Or.inl ⟨by kernel_rfl, ?y0⟩) hHeld ?r0
      case q0 => exact fun _ _ _ h => h
      case y0 => (intro w hSw; (try dsimp only at hSw); go_simp; try (with_reducible rfl))
      try simp only [Act.put, List.setIfInBounds_toArray, List.set_cons_zero, List.set_cons_succ]
      refine wpAnyH_take (i := 1) (oi := ⟨some 34, _, _, _, _, _⟩) (v := ?v1) rfl (by kernel_rfl) (by kernel_rfl) (by kernel_rfl) ?q1 (Or.inl ⟨by kernel_rfl, ?y1⟩) hHeld ?r1
      case q1 => exact fun _ _ _ h => h
      case y1 => (intro w hSw; (try dsimp only at hSw); go_simp; try (with_reducible rfl))
      try simp only [Act.put, List.setIfInBounds_toArray, List.set_cons_zero, List.set_cons_succ]
      refine wpAnyH_take (i := 2) (oi := ⟨some 35, _, _, _, _, _⟩) (v := ?v2) rfl (by kernel_rfl) (by kernel_rfl) (by kernel_rfl) ?q2 (Or.inl ⟨by kernel_rfl, ?y2⟩) hHeld ?r2
      case q2 => exact fun _ _ _ h => h
      case y2 => (intro w hSw; (try dsimp only at hSw); go_simp; try (with_reducible rfl))
      try simp only [Act.put, List.setIfInBounds_toArray, List.set_cons_zero, List.set_cons_succ]
      refine wpAnyH_take (i := 3) (oi := ⟨some 36, _, _, _, _, _⟩) (v := ?v3) rfl (by kernel_rfl) (by kernel_rfl) (by kernel_rfl) ?q3 (Or.inl ⟨by kernel_rfl, ?y3⟩) hHeld ?r3
      case q3 => exact fun _ _ _ h => h
      case y3 => (intro w hSw; (try dsimp only at hSw); go_simp; try (with_reducible rfl))
      try simp only [Act.put, List.setIfInBounds_toArray, List.set_cons_zero, List.set_cons_succ]
      refine wpAnyH_take (i := 4) (oi := ⟨some 37, _, _, _, _, _⟩) (v := ?v4) rfl (by kernel_rfl) (by kernel_rfl) (by kernel_rfl) ?q4 (Or.inl ⟨by kernel_rfl, ?y4⟩) hHeld ?r4
      case q4 => exact fun _ _ _ h => h
      case y4 => (intro w hSw; (try dsimp only at hSw); go_simp; try (with_reducible rfl))
      try simp only [Act.put, List.setIfInBounds_toArray, List.set_cons_zero, List.set_cons_succ]
      refine wpAnyH_take (i := 5) (oi := ⟨some 38, _, _, _, _, _⟩) (v := ?v5) rfl (by kernel_rfl) (by kernel_rfl) (by kernel_rfl) ?q5 (Or.inl ⟨by kernel_rfl, ?y5⟩) hHeld ?r5
      case q5 => exact fun _ _ _ h => h
      case y5 => (intro w hSw; (try dsimp only at hSw); go_simp; try (with_reducible rfl))
      try simp only [Act.put, List.setIfInBounds_toArray, List.set_cons_zero, List.set_cons_succ]
      refine wpAnyH_take (i := 6) (oi := ⟨some 39, _, _, _, _, _⟩) (v := ?v6) rfl (by kernel_rfl) (by kernel_rfl) (by kernel_rfl) ?q6 (Or.inl ⟨by kernel_rfl, ?y6⟩) hHeld ?r6
      case q6 => exact fun _ _ _ h => h
      case y6 => (intro w hSw; (try dsimp only at hSw); go_simp; try (with_reducible rfl))
      try simp only [Act.put, List.setIfInBounds_toArray, List.set_cons_zero, List.set_cons_succ]
      refine wpAnyH_ready (rs := [7]) (by kernel_rfl) (by simp) ?_
      refine AllReadyH.cons (o := ⟨some 40, _, _, _, _, _⟩) rfl (fun K hK => ?_) AllReadyH.nil
      go_simp
      refine (HEX0.out _ _ _ _ _).mono ?_
      rintro e w1 ⟨rfl, q, rfl⟩
      replace HBr := Lib.hid (below_drewN' HB.out (1 + q))
      go_wp2_with fail
      refine hK.out _ _ ?_ (fun hHeld2 => ?_)
      · go_keep
      clear hK K hHeld
      have hHeld := hHeld2
      clear hHeld2
      try simp only [Act.put, List.setIfInBounds_toArray, List.set_cons_zero, List.set_cons_succ]
      refine wpAnyH_take (i := 8) (oi := ⟨some 41, _, _, _, _, _⟩) (v := ?v8) rfl (by kernel_rfl) (by kernel_rfl) (by kernel_rfl) ?q8 (Or.inl ⟨by kernel_rfl, ?y8⟩) hHeld ?r8
      case q8 => exact fun _ _ _ h => h
      case y8 => (intro w hSw; (try dsimp only at hSw); go_simp; try (with_reducible rfl))
      try simp only [Act.put, List.setIfInBounds_toArray, List.set_cons_zero, List.set_cons_succ]
      refine wpAnyH_take (i := 9) (oi := ⟨some 42, _, _, _, _, _⟩) (v := ?v9) rfl (by kernel_rfl) (by kernel_rfl) (by kernel_rfl) ?q9 (Or.inl ⟨by kernel_rfl, ?y9⟩) hHeld ?r9
      case q9 => exact fun _ _ _ h => h
      case y9 => (intro w hSw; (try dsimp only at hSw); go_simp; try (with_reducible rfl))
      try simp only [Act.put, List.setIfInBounds_toArray, List.set_cons_zero, List.set_cons_succ]
      refine wpAnyH_take (i := 10) (oi := ⟨some 43, _, _, _, _, _⟩) (v := ?v10) rfl (by kernel_rfl) (by kernel_rfl) (by kernel_rfl) ?q10 (Or.inl ⟨by kernel_rfl, ?y10⟩) hHeld ?r10
      case q10 => exact fun _ _ _ h => h
      case y10 => (intro w hSw; (try dsimp only at hSw); go_simp; try (with_reducible rfl))
      try simp only [Act.put, List.setIfInBounds_toArray, List.set_cons_zero, List.set_cons_succ]
      refine wpAnyH_take (i := 12) (oi := ⟨some 45, _, _, _, _, _⟩) (v := ?v12) rfl (by kernel_rfl) (by kernel_rfl) (by kernel_rfl) ?q12 (Or.inl ⟨by kernel_rfl, ?y12⟩) hHeld ?r12
      case q12 => exact fun _ _ _ h => h
      case y12 => (intro w hSw; (try dsimp only at hSw); go_simp; try (with_reducible rfl))
      try simp only [Act.put, List.setIfInBounds_toArray, List.set_cons_zero, List.set_cons_succ]
      refine wpAnyH_take (i := 13) (oi := ⟨some 46, _, _, _, _, _⟩) (v := ?v13) rfl (by kernel_rfl) (by kernel_rfl) (by kernel_rfl) ?q13 (Or.inl ⟨by kernel_rfl, ?y13⟩) hHeld ?r13
      case q13 => exact fun _ _ _ h => h
      case y13 => (intro w hSw; (try dsimp only at hSw); go_simp; try (with_reducible rfl))
      try simp only [Act.put, List.setIfInBounds_toArray, List.set_cons_zero, List.set_cons_succ]
      refine wpAnyH_take (i := 14) (oi := ⟨some 47, _, _, _, _, _⟩) (v := ?v14) rfl (by kernel_rfl) (by kernel_rfl) (by kernel_rfl) ?q14 (Or.inl ⟨by kernel_rfl, ?y14⟩) hHeld ?r14
      case q14 => exact fun _ _ _ h => h
      case y14 => (intro w hSw; (try dsimp only at hSw); go_simp; try (with_reducible rfl))
      try simp only [Act.put, List.setIfInBounds_toArray, List.set_cons_zero, List.set_cons_succ]
      refine wpAnyH_take (i := 15) (oi := ⟨some 48, _, _, _, _, _⟩) (v := ?v15) rfl (by kernel_rfl) (by kernel_rfl) (by kernel_rfl) ?q15 (Or.inl ⟨by kernel_rfl, ?y15⟩) hHeld ?r15
      case q15 => exact fun _ _ _ h => h
      case y15 => (intro w hSw; (try dsimp only at hSw); go_simp; try (with_reducible rfl))
      try simp only [Act.put, List.setIfInBounds_toArray, List.set_cons_zero, List.set_cons_succ]
      refine wpAnyH_ready (rs := [11]) (by kernel_rfl) (by simp) ?_
      refine AllReadyH.cons (o := ⟨some 44, _, _, _, _, _⟩) rfl (fun K hK => ?_) AllReadyH.nil
      go_simp
      refine (HOW0.out _ _ _).mono ?_
      rintro e w1 ⟨A3, k3, rfl, hb1⟩
      replace HBr := Lib.hid (HBr.out.trans (hb1.mono hz3))
      have hca := below_cells hb1 bo oo hbo
      replace hbo := Nat.lt_of_lt_of_le hbo hb1.size
      replace hz3 := Nat.le_trans hz3 hb1.size
      clear hb1
      go_wp2_with fail
      refine hK.out _ _ ?_ (fun hHeld2 => ?_)
      · go_keep
      clear hK K hHeld
      have hHeld := hHeld2
      clear hHeld2
      try simp only [Act.put, List.setIfInBounds_toArray, List.set_cons_zero, List.set_cons_succ]
      refine wpAnyH_ready (rs := [16]) (by kernel_rfl) (by simp) ?_
      refine AllReadyH.cons (o := ⟨some 49, _, _, _, _, _⟩) rfl (fun K hK => ?_) AllReadyH.nil
      go_simp
      refine (HU0.out _ _ _ _ _).mono ?_
      rintro e w1 ⟨rfl, hb1⟩
      replace HBr := Lib.hid (HBr.out.trans (hb1.mono hz3))
      have hca := below_cells hb1 bo oo hbo
      replace hbo := Nat.lt_of_lt_of_le hbo hb1.size
      replace hz3 := Nat.le_trans hz3 hb1.size
      clear hb1
      go_wp2_with fail
      refine hK.out _ _ ?_ (fun hHeld2 => ?_)
      · go_keep
      clear hK K hHeld
      have hHeld := hHeld2
      clear hHeld2
      try simp only [Act.put, List.setIfInBounds_toArray, List.set_cons_zero, List.set_cons_succ]
      refine wpAnyH_take (i := 17) (oi := ⟨some 50, _, _, _, _, _⟩) (v := ?v17) rfl (by kernel_rfl) (by kernel_rfl) (by kernel_rfl) ?q17 (Or.inl ⟨by kernel_rfl, ?y17⟩) hHeld ?r17
      case q17 => exact fun _ _ _ h => h
      case y17 => (intro w hSw; (try dsimp only at hSw); go_simp; try (with_reducible rfl))
      try simp only [Act.put, List.setIfInBounds_toArray, List.set_cons_zero, List.set_cons_succ]
      refine wpAnyH_take (i := 18) (oi := ⟨some 51, _, _, _, _, _⟩) (v := ?v18) rfl (by kernel_rfl) (by kernel_rfl) (by kernel_rfl) ?q18 (Or.inl ⟨by kernel_rfl, ?y18⟩) hHeld ?r18
      case q18 => exact fun _ _ _ h => h
      case y18 => (intro w hSw; (try dsimp only at hSw); go_simp; try (with_reducible rfl))
      try simp only [Act.put, List.setIfInBounds_toArray, List.set_cons_zero, List.set_cons_succ]
      refine wpAnyH_take (i := 19) (oi := ⟨some 52, _, _, _, _, _⟩) (v := ?v19) rfl (by kernel_rfl) (by kernel_rfl) (by kernel_rfl) ?q19 (Or.inl ⟨by kernel_rfl, ?y19⟩) hHeld ?r19
      case q19 => exact fun _ _ _ h => h
      case y19 => (intro w hSw; (try dsimp only at hSw); go_simp; try (with_reducible rfl))
      try simp only [Act.put, List.setIfInBounds_toArray, List.set_cons_zero, List.set_cons_succ]
      refine wpAnyH_take (i := 20) (oi := ⟨some 53, _, _, _, _, _⟩) (v := ?v20) rfl (by kernel_rfl) (by kernel_rfl) (by kernel_rfl) ?q20 (Or.inl ⟨by kernel_rfl, ?y20⟩) hHeld ?r20
      case q20 => exact fun _ _ _ h => h
      case y20 => (intro w hSw; (try dsimp only at hSw); go_simp; try (with_reducible rfl))
      try simp only [Act.put, List.setIfInBounds_toArray, List.set_cons_zero, List.set_cons_succ]
      refine wpAnyH_take (i := 21) (oi := ⟨some 54, _, _, _, _, _⟩) (v := ?v21) rfl (by kernel_rfl) (by kernel_rfl) (by kernel_rfl) ?q21 (Or.inl ⟨by kernel_rfl, ?y21⟩) hHeld ?r21
      case q21 => exact fun _ _ _ h => h
      case y21 => (intro w hSw; (try dsimp only at hSw); go_simp; try (with_reducible rfl))
      try simp only [Act.put, List.setIfInBounds_toArray, List.set_cons_zero, List.set_cons_succ]
      refine wpAnyH_take (i := 22) (oi := ⟨some 55, _, _, _, _, _⟩) (v := ?v22) rfl (by kernel_rfl) (by kernel_rfl) (by kernel_rfl) ?q22 (Or.inl ⟨by kernel_rfl, ?y22⟩) hHeld ?r22
      case q22 => exact fun _ _ _ h => h
      case y22 => (intro w hSw; (try dsimp only at hSw); go_simp; try (with_reducible rfl))
      try simp only [Act.put, List.setIfInBounds_toArray, List.set_cons_zero, List.set_cons_succ]
      refine wpAnyH_take (i := 23) (oi := ⟨some 56, _, _, _, _, _⟩) (v := undef) rfl (by kernel_rfl) (by kernel_rfl) (by kernel_rfl) (fun _ _ _ h => h) (Or.inr ⟨by kernel_rfl, rfl⟩) hHeld ?_
      try simp only [Act.put, List.setIfInBounds_toArray, List.set_cons_zero, List.set_cons_succ]
      refine wpAnyH_take (i := 24) (oi := ⟨some 57, _, _, _, _, _⟩) (v := undef) rfl (by kernel_rfl) (by kernel_rfl) (by kernel_rfl) (fun _ _ _ h => h) (Or.inr ⟨by kernel_rfl, rfl⟩) hHeld ?_
      try simp only [Act.put, List.setIfInBounds_toArray, List.set_cons_zero, List.set_cons_succ]
      refine wpAnyH_take (i := 25) (oi := ⟨some 58, _, _, _, _, _⟩) (v := undef) rfl (by kernel_rfl) (by kernel_rfl) (by kernel_rfl) (fun _ _ _ h => h) (Or.inr ⟨by kernel_rfl, rfl⟩) hHeld ?_
      try simp only [Act.put, List.setIfInBounds_toArray, List.set_cons_zero, List.set_cons_succ]
      refine wpAnyH_take (i := 26) (oi := ⟨some 59, _, _, _, _, _⟩) (v := undef) rfl (by kernel_rfl) (by kernel_rfl) (by kernel_rfl) (fun _ _ _ h => h) (Or.inr ⟨by kernel_rfl, rfl⟩) hHeld ?_
      try simp only [Act.put, List.setIfInBounds_toArray, List.set_cons_zero, List.set_cons_succ]
      refine wpAnyH_take (i := 27) (oi := ⟨some 60, _, _, _, _, _⟩) (v := undef) rfl (by kernel_rfl) (by kernel_rfl) (by kernel_rfl) (fun _ _ _ h => h) (Or.inr ⟨by kernel_rfl, rfl⟩) hHeld ?_
      try simp only [Act.put, List.setIfInBounds_toArray, List.set_cons_zero, List.set_cons_succ]
      refine wpAnyH_take (i := 28) (oi := ⟨some 61, _, _, _, _, _⟩) (v := undef) rfl (by kernel_rfl) (by kernel_rfl) (by kernel_rfl) (fun _ _ _ h => h) (Or.inr ⟨by kernel_rfl, rfl⟩) hHeld ?_
      try simp only [Act.put, List.setIfInBounds_toArray, List.set_cons_zero, List.set_cons_succ]
      refine wpAnyH_take (i := 29) (oi := ⟨some 62, _, _, _, _, _⟩) (v := undef) rfl (by kernel_rfl) (by kernel_rfl) (by kernel_rfl) (fun _ _ _ h => h) (Or.inr ⟨by kernel_rfl, rfl⟩) hHeld ?_
      try simp only [Act.put, List.setIfInBounds_toArray, List.set_cons_zero, List.set_cons_succ]
      refine wpAnyH_take (i := 30) (oi := ⟨some 63, _, _, _, _, _⟩) (v := undef) rfl (by kernel_rfl) (by kernel_rfl) (by kernel_rfl) (fun _ _ _ h => h) (Or.inr ⟨by kernel_rfl, rfl⟩) hHeld ?_
      try simp only [Act.put, List.setIfInBounds_toArray, List.set_cons_zero, List.set_cons_succ]
      refine wpAnyH_take (i := 31) (oi := ⟨some 64, _, _, _, _, _⟩) (v := undef) rfl (by kernel_rfl) (by kernel_rfl) (by kernel_rfl) (fun _ _ _ h => h) (Or.inr ⟨by kernel_rfl, rfl⟩) hHeld ?_
      try simp only [Act.put, List.setIfInBounds_toArray, List.set_cons_zero, List.set_cons_succ]
      refine wpAnyH_take (i := 32) (oi := ⟨some 65, _, _, _, _, _⟩) (v := undef) rfl (by kernel_rfl) (by kernel_rfl) (by kernel_rfl) (fun _ _ _ h => h) (Or.inr ⟨by kernel_rfl, rfl⟩) hHeld ?_
      try simp only [Act.put, List.setIfInBounds_toArray, List.set_cons_zero, List.set_cons_succ]
      refine wpAnyH_take (i := 33) (oi := ⟨some 66, _, _, _, _, _⟩) (v := ?v33) rfl (by kernel_rfl) (by kernel_rfl) (by kernel_rfl) ?q33 (Or.inl ⟨by kernel_rfl, ?y33⟩) hHeld ?r33
      case q33 => exact fun _ _ _ h => h
      case y33 => (intro w hSw; (try dsimp only at hSw); go_simp; try (with_reducible rfl))
      try simp only [Act.put, List.setIfInBounds_toArray, List.set_cons_zero, List.set_cons_succ]
      refine wpAnyH_take (i := 34) (oi := ⟨some 67, _, _, _, _, _⟩) (v := ?v34) rfl (by kernel_rfl) (by kernel_rfl) (by kernel_rfl) ?q34 (Or.inl ⟨by kernel_rfl, ?y34⟩) hHeld ?r34
      case q34 => exact fun _ _ _ h => h
      case y34 => (intro w hSw; (try dsimp only at hSw); go_simp; try (with_reducible rfl))
      try simp only [Act.put, List.setIfInBounds_toArray, List.set_cons_zero, List.set_cons_succ]
      refine wpAnyH_done (by kernel_rfl) ?_ _
      go_wp2
      exact ⟨⟨1, by omega, by go_num, HBr.out⟩, by simp [intOf]⟩
    · obtain rfl : k = 0 := by simp at hk; omega
      go_wp2
      go_ret
      exact ⟨rfl, HW.out.trans (HB.out.mono hz)⟩

theorem parents_root (A : Option Addr) (c1 : Nat) (w : World) :
    Calls Try.prog 9 #[.slice A 0 c1] w (TrueB w) := by
  rcases A with _ | ⟨b, off, sp⟩
  all_goals rcases c1 with _ | c1
  · exact parents_root1 w
  · exact parents_root2 c1 w
  · exact parents_root3 b off sp w
  · exact parents_root4 b off sp c1 w

theorem parents_law (A : Option Addr) (c1 : Nat) (n : List (List UInt8)) (w : World) (hA : NameIn w A n) (hc : n.length ≤ c1) :
    Calls Try.prog 9 #[.slice A n.length c1] w (TrueB w) :=
  parents_any_law A c1 n w hA hc fun h => by subst h; exact parents_root A c1 w

end Go.Proofs.Ytiegneopolffoaa
