/-
  FlashActs: whatever is written, made sure, limited and crashed: each call answers what the document says.
-/
import Derived.Test.YtledoajhjkfaoaaVActsOut
import Derived.Deep.CutRange
import Derived.Deep.CutBlock
import Derived.Deep.RegionHeld3
import Derived.BigQuiet
import Derived.Deep.QuietTactic
namespace Go.Proofs.Ytledoajhjkfaoaa
open Go.RowKit

set_option maxRecDepth 8000 in
set_option maxHeartbeats 4000000 in
theorem acts_in (n : Nat) (h1 : 1 ≤ n) (h2 : n ≤ 60) (A : Option Addr) (c : Nat) (acts : List Ac) (w : World) (hA : ActsIn w w.heap.size A acts) (_ : acts.length ≤ maxLen) :
    Calls Try.prog 3 #[.int .i64 n, .slice A acts.length c] w (TrueB w) := by
  have HN := Lib.hid (h_new w w (Below.refl _ _) n h1 (by omega))
  have HA := Lib.hid hA
  have d1 : decide (1 ≤ (n : Int)) = true := by simp; omega
  have d2 : decide ((n : Int) ≤ 4096) = true := by simp; omega
  have d3 : decide (60 < (n : Int)) = false := by simp; omega
  obtain ⟨i0, hi0, hz0, hz1, hz2⟩ := info_parts u8_info
  clear hA
  go_enter Try.func3, Try.ntmps3
  go_wp2_with fail
  refine HN.out.mono ?_
  rintro e w1 ⟨D0, rfl, hd1⟩
  have HD1 := Lib.hid hd1
  clear hd1 HN
  go_wp2_with fail
  refine (flash_answers w1).mono ?_
  rintro e w2 ⟨rfl, hb2⟩
  have HD2 := Lib.hid (HD1.out.next hb2)
  clear hb2 HD1
  go_wp2_with fail
  refine (rh_new w w2 HD2.out.below n (by omega)).mono ?_
  rintro e w3 ⟨R, rfl, hr3, hb3⟩
  have HB3 := Lib.hid (show Both w w3 D0 R n (newDv n) 0 from ⟨HD2.out.next hb3, hr3, List.length_replicate .., Nat.le_refl _⟩)
  clear hr3 hb3 HD2
  go_wp2
  go_loopw [5, 8] (ActsRel w R n acts) (fun _ i _ => acts.length - (intOf i).toNat)
  case atStart => exact ⟨0, D0, newDv n, Nat.zero_le _, Nat.zero_le _, rfl, rfl, HB3.out⟩
  case round =>
    obtain ⟨k, D, x, hk, hk80, rfl, rfl, hboth⟩ := hrel
    have HBO := Lib.hid hboth
    by_cases hlt : k < acts.length ∧ k < 80
    · obtain ⟨hlt, h80⟩ := hlt
      obtain ⟨b, off, cs, rfl, hb, hc, hof⟩ := HA.out k hlt
      obtain ⟨p, hp⟩ : ∃ p, p = acts[k] := ⟨_, rfl⟩
      rw [← hp] at hof
      obtain ⟨Ak, ck, rfl, hrow, hml, hpl, hmk, htn⟩ := hof
      have hrange : wr.rangeAt b (off + k * 5) (acCells p Ak ck) := fun j v hv => by
        rw [Nat.add_assoc, hboth.d.below.cell (p := ⟨b, off + (k * 5 + j), none⟩) hb]
        exact hc j v hv
      have HRG := Lib.hid hrange
      have HROW := Lib.hid hrow
      have d8 : decide ((k : Int) < 80) = true := by simp; omega
      unfold maxLen at hml
      clear hp hrow hrange hc hboth
      by_cases h5 : 2000 < p.data.length
      · have d5 : decide (2000 < (p.data.length : Int)) = true := by simp; omega
        go_wp2_with (first
          | (refine wpList_load_mid rfl 33 (.tmp 65) rfl b (off + k * 5) rfl (acCells p Ak ck) _ HRG.out Try.underlying33 rfl act_size ?_)
          | (refine wpList_alloc_zero rfl 33 rfl _ act_zero ?_)
          | (refine wpList_store_at rfl 33 (.tmp 9) (.tmp 66) rfl wr.heap.size 0 (acCells p Ak ck) rfl rfl _ _ (Whole.made _ _ _) (Nat.le_refl _) act_size (ac_one _ _ _) ?_
             intro V hWV hGV hVS
             rw [splice_full (by rfl)] at hWV
             have HWV := Lib.hid hWV
             have hbv : Below wr.heap.size wr V := (Grew.below (B := wr.heap.size) hGV (fun j hj => by rw [hj]; exact Nat.le_refl _) (by simp)).of_alloc
             have HBV := Lib.hid (HBO.out.next hbv (Nat.le_refl k))
             have q0 : V.cell? ⟨wr.heap.size, 0, none⟩ = some (.int .i64 p.what) := hWV.cell 0
             have q1 : V.cell? ⟨wr.heap.size, 1, none⟩ = some (.int .i64 p.place) := hWV.cell 1
             have q2 : V.cell? ⟨wr.heap.size, 2, none⟩ = some (.slice Ak p.data.length ck) := hWV.cell 2
             have q3 : V.cell? ⟨wr.heap.size, 3, none⟩ = some (.int .u64 (p.mask : Int)) := hWV.cell 3
             have q4 : V.cell? ⟨wr.heap.size, 4, none⟩ = some (.int .u64 (p.torn : Int)) := hWV.cell 4
             clear hWV hGV hVS hbv))
        exact ⟨⟨k + 1, D, x, by omega, by omega, by go_num, rfl, HBV.out.next (Below.refl _ _) (Nat.le_succ k)⟩, by simp [intOf]; omega⟩
      have d5 : decide (2000 < (p.data.length : Int)) = false := by simp; omega
      go_upto_block 2 with (first
        | (refine wpList_load_mid rfl 33 (.tmp 65) rfl b (off + k * 5) rfl (acCells p Ak ck) _ HRG.out Try.underlying33 rfl act_size ?_)
        | (refine wpList_alloc_zero rfl 33 rfl _ act_zero ?_)
        | (refine wpList_store_at rfl 33 (.tmp 9) (.tmp 66) rfl wr.heap.size 0 (acCells p Ak ck) rfl rfl _ _ (Whole.made _ _ _) (Nat.le_refl _) act_size (ac_one _ _ _) ?_
           intro V hWV hGV hVS
           rw [splice_full (by rfl)] at hWV
           have HWV := Lib.hid hWV
           have hbv : Below wr.heap.size wr V := (Grew.below (B := wr.heap.size) hGV (fun j hj => by rw [hj]; exact Nat.le_refl _) (by simp)).of_alloc
           have HBV := Lib.hid (HBO.out.next hbv (Nat.le_refl k))
           have q0 : V.cell? ⟨wr.heap.size, 0, none⟩ = some (.int .i64 p.what) := hWV.cell 0
           have q1 : V.cell? ⟨wr.heap.size, 1, none⟩ = some (.int .i64 p.place) := hWV.cell 1
           have q2 : V.cell? ⟨wr.heap.size, 2, none⟩ = some (.slice Ak p.data.length ck) := hWV.cell 2
           have q3 : V.cell? ⟨wr.heap.size, 3, none⟩ = some (.int .u64 (p.mask : Int)) := hWV.cell 3
           have q4 : V.cell? ⟨wr.heap.size, 4, none⟩ = some (.int .u64 (p.torn : Int)) := hWV.cell 4
           clear hWV hGV hVS hbv))
      go_cut [5] from 53 to 219 (CutRel w R n k wr.heap.size (acCells p Ak ck))
      case first =>
        by_cases e1 : p.what = 1
        · have f1 : (p.what == 1) = true := by rw [e1]; rfl
          clear e1
          go_wp2_with fail
          refine wp_region_held_drew (S := fun W => W.cell? ⟨wr.heap.size, 1, none⟩ = some (.int .i64 p.place) ∧ W.cell? ⟨wr.heap.size, 2, none⟩ = some (.slice Ak p.data.length ck)) (by kernel_rfl) (by exact ⟨q1, q2⟩) (fun hHeld => ?_)
          refine wpAnyH_take (i := 0) (oi := { dst := some 75, op := Go.Op.move (Go.Operand.tmp 5), type := 23, pos := "law.go:51", after := #[], guard := none }) (v := ?_) rfl (by kernel_rfl) (by kernel_rfl) (by kernel_rfl) (fun _ _ _ h => h) (Or.inl ⟨by rfl, ?_⟩) (by assumption) ?_
          rotate_left
          · intro W hSw
            try dsimp only at hSw
            obtain ⟨hSa, hSb⟩ := hSw
            go_simp
            all_goals (with_reducible rfl)
          try simp only [Act.put, List.setIfInBounds_toArray, List.set_cons_zero, List.set_cons_succ]
          refine wpAnyH_take (i := 1) (oi := { dst := some 76, op := Go.Op.fieldAddr 33 (Go.Operand.tmp 9) 1, type := 0, pos := "law.go:51", after := #[], guard := none }) (v := ?_) rfl (by kernel_rfl) (by kernel_rfl) (by kernel_rfl) (fun _ _ _ h => h) (Or.inl ⟨by rfl, ?_⟩) (by assumption) ?_
          rotate_left
          · intro W hSw
            try dsimp only at hSw
            obtain ⟨hSa, hSb⟩ := hSw
            go_simp
            all_goals (with_reducible rfl)
          try simp only [Act.put, List.setIfInBounds_toArray, List.set_cons_zero, List.set_cons_succ]
          refine wpAnyH_take (i := 2) (oi := { dst := some 77, op := Go.Op.load 3 (Go.Operand.tmp 76), type := 3, pos := "law.go:51", after := #[{ on := 1, ground := Go.Ground.data }], guard := none }) (v := ?_) rfl (by kernel_rfl) (by kernel_rfl) (by kernel_rfl) (fun _ _ _ h => h) (Or.inl ⟨by rfl, ?_⟩) (by assumption) ?_
          rotate_left
          · intro W hSw
            try dsimp only at hSw
            obtain ⟨hSa, hSb⟩ := hSw
            go_simp
            all_goals (with_reducible rfl)
          try simp only [Act.put, List.setIfInBounds_toArray, List.set_cons_zero, List.set_cons_succ]
          refine wpAnyH_take (i := 4) (oi := { dst := some 79, op := Go.Op.fieldAddr 33 (Go.Operand.tmp 9) 2, type := 0, pos := "law.go:51", after := #[], guard := none }) (v := ?_) rfl (by kernel_rfl) (by kernel_rfl) (by kernel_rfl) (fun _ _ _ h => h) (Or.inl ⟨by rfl, ?_⟩) (by assumption) ?_
          rotate_left
          · intro W hSw
            try dsimp only at hSw
            obtain ⟨hSa, hSb⟩ := hSw
            go_simp
            all_goals (with_reducible rfl)
          try simp only [Act.put, List.setIfInBounds_toArray, List.set_cons_zero, List.set_cons_succ]
          refine wpAnyH_take (i := 5) (oi := { dst := some 80, op := Go.Op.load 30 (Go.Operand.tmp 79), type := 30, pos := "law.go:51", after := #[{ on := 4, ground := Go.Ground.data }], guard := none }) (v := ?_) rfl (by kernel_rfl) (by kernel_rfl) (by kernel_rfl) (fun _ _ _ h => h) (Or.inl ⟨by rfl, ?_⟩) (by assumption) ?_
          rotate_left
          · intro W hSw
            try dsimp only at hSw
            obtain ⟨hSa, hSb⟩ := hSw
            go_simp
            all_goals (with_reducible rfl)
          try simp only [Act.put, List.setIfInBounds_toArray, List.set_cons_zero, List.set_cons_succ]
          refine wpAnyH_take (i := 8) (oi := { dst := some 83, op := Go.Op.move (Go.Operand.tmp 7), type := 28, pos := "law.go:51", after := #[], guard := none }) (v := ?_) rfl (by kernel_rfl) (by kernel_rfl) (by kernel_rfl) (fun _ _ _ h => h) (Or.inl ⟨by rfl, ?_⟩) (by assumption) ?_
          rotate_left
          · intro W hSw
            try dsimp only at hSw
            obtain ⟨hSa, hSb⟩ := hSw
            go_simp
            all_goals (with_reducible rfl)
          try simp only [Act.put, List.setIfInBounds_toArray, List.set_cons_zero, List.set_cons_succ]
          refine wpAnyH_take (i := 9) (oi := { dst := some 84, op := Go.Op.fieldAddr 33 (Go.Operand.tmp 9) 1, type := 0, pos := "law.go:51", after := #[], guard := none }) (v := ?_) rfl (by kernel_rfl) (by kernel_rfl) (by kernel_rfl) (fun _ _ _ h => h) (Or.inl ⟨by rfl, ?_⟩) (by assumption) ?_
          rotate_left
          · intro W hSw
            try dsimp only at hSw
            obtain ⟨hSa, hSb⟩ := hSw
            go_simp
            all_goals (with_reducible rfl)
          try simp only [Act.put, List.setIfInBounds_toArray, List.set_cons_zero, List.set_cons_succ]
          refine wpAnyH_take (i := 10) (oi := { dst := some 85, op := Go.Op.load 3 (Go.Operand.tmp 84), type := 3, pos := "law.go:51", after := #[{ on := 9, ground := Go.Ground.data }], guard := none }) (v := ?_) rfl (by kernel_rfl) (by kernel_rfl) (by kernel_rfl) (fun _ _ _ h => h) (Or.inl ⟨by rfl, ?_⟩) (by assumption) ?_
          rotate_left
          · intro W hSw
            try dsimp only at hSw
            obtain ⟨hSa, hSb⟩ := hSw
            go_simp
            all_goals (with_reducible rfl)
          try simp only [Act.put, List.setIfInBounds_toArray, List.set_cons_zero, List.set_cons_succ]
          refine wpAnyH_take (i := 11) (oi := { dst := some 86, op := Go.Op.fieldAddr 33 (Go.Operand.tmp 9) 2, type := 0, pos := "law.go:51", after := #[], guard := none }) (v := ?_) rfl (by kernel_rfl) (by kernel_rfl) (by kernel_rfl) (fun _ _ _ h => h) (Or.inl ⟨by rfl, ?_⟩) (by assumption) ?_
          rotate_left
          · intro W hSw
            try dsimp only at hSw
            obtain ⟨hSa, hSb⟩ := hSw
            go_simp
            all_goals (with_reducible rfl)
          try simp only [Act.put, List.setIfInBounds_toArray, List.set_cons_zero, List.set_cons_succ]
          refine wpAnyH_take (i := 12) (oi := { dst := some 87, op := Go.Op.load 30 (Go.Operand.tmp 86), type := 30, pos := "law.go:51", after := #[{ on := 11, ground := Go.Ground.data }], guard := none }) (v := ?_) rfl (by kernel_rfl) (by kernel_rfl) (by kernel_rfl) (fun _ _ _ h => h) (Or.inl ⟨by rfl, ?_⟩) (by assumption) ?_
          rotate_left
          · intro W hSw
            try dsimp only at hSw
            obtain ⟨hSa, hSb⟩ := hSw
            go_simp
            all_goals (with_reducible rfl)
          try simp only [Act.put, List.setIfInBounds_toArray, List.set_cons_zero, List.set_cons_succ]
          refine wpAnyH_ready (rs := [3]) (by kernel_rfl) (by simp) ?_
          refine AllReadyH.cons (o := { dst := some 78, op := Go.Op.buildSlice 30 0 #[], type := 30, pos := "law.go:51", after := #[], guard := none }) rfl (fun K hK => ?_) AllReadyH.nil
          go_simp
          refine hK.out _ _ (by exact ⟨(World.cell?_alloc_lt V.drew _ _ HWV.out.lt).trans q1, (World.cell?_alloc_lt V.drew _ _ HWV.out.lt).trans q2⟩) (fun hHeld2 => ?_)
          clear hK K hHeld
          have hHeld := hHeld2
          clear hHeld2
          try simp only [Act.put, List.setIfInBounds_toArray, List.set_cons_zero, List.set_cons_succ]
          refine wpAnyH_ready (rs := [6]) (by kernel_rfl) (by simp) ?_
          refine AllReadyH.cons (o := { dst := some 81, op := Go.Op.call { callee := Go.Callee.builtin Go.Builtin.append, args := #[Go.Operand.tmp 78, Go.Operand.tmp 80], argTypes := #[30, 30] }, type := 30, pos := "law.go:51", after := #[{ on := 3, ground := Go.Ground.data }, { on := 5, ground := Go.Ground.data }], guard := none }) rfl (fun K hK => ?_) AllReadyH.nil
          refine step_append_at rfl (.tmp 78) (.tmp 80) _ rfl V.heap.size 5 i0 _ 1 1 Try.underlying30 hi0 hz0 hz1 hz2 rfl (by decide) _ 0 [] rfl (own_lit V.drew 5 1) Ak p.data.length ck w.heap.size (p.data.map bc) rfl (by rw [List.length_map]; omega) ((HROW.out.below HBV.out.d.below).alloc HBV.out.d.below.size (.cells #[] 5)) (bc_one _) ?c1 ?c2 ?c3 ?_
          case c1 => unfold maxLen; omega
          case c2 => omega
          case c3 => show V.heap.size ≤ (V.alloc (.cells #[] 5)).heap.size; rw [World.size_alloc]; exact Nat.le_succ _
          intro v3 w3 hown3 hg3 _
          simp only [Nat.zero_add, List.nil_append] at hown3
          obtain ⟨A3, c3, rfl, _, _⟩ := own_form hown3
          have hB3 : Below V.heap.size V w3 := own_below ((Below.refl V.heap.size V).alloc (Nat.le_refl _) (.cells #[] 5)) (Nat.le_refl _) (by simp) (own_lit V 5 1) (show (V.alloc (.cells #[] 5)).grownBy w3 _ from ⟨hg3.os, hg3.tape, hg3.output, hg3.size, hg3.block⟩)
          have HO3 := Lib.hid (BytesAt.own hown3)
          have H3 := Lib.hid (HBV.out.next hB3 (Nat.le_refl k))
          have HW3 := Lib.hid (HWV.out.keep (hB3.block _ HWV.out.lt))
          clear hown3 hg3 hB3
          refine hK.out _ _ (by exact ⟨HW3.out.cell 1, HW3.out.cell 2⟩) (fun hHeld2 => ?_)
          clear hK K hHeld
          have hHeld := hHeld2
          clear hHeld2
          try simp only [Act.put, List.setIfInBounds_toArray, List.set_cons_zero, List.set_cons_succ]
          refine wpAnyH_ready (rs := [7]) (by kernel_rfl) (by simp) ?_
          refine AllReadyH.cons (o := { dst := some 82, op := Go.Op.call { callee := Go.Callee.value (Go.Operand.func 10), args := #[Go.Operand.tmp 75, Go.Operand.tmp 77, Go.Operand.tmp 81], argTypes := #[23, 3, 30] }, type := 24, pos := "law.go:51", after := #[{ on := 0, ground := Go.Ground.data }, { on := 2, ground := Go.Ground.data }, { on := 6, ground := Go.Ground.data }, { on := 6, ground := Go.Ground.chain }], guard := none }) rfl (fun K hK => ?_) AllReadyH.nil
          go_simp
          refine (h_write H3.out.d p.place A3 c3 p.data (by omega) HO3.out (by have := H3.out.uns; omega)).mono ?_
          rintro e w4 ⟨rfl, h4, k4⟩
          have HW4 := Lib.hid (k4.whole HW3.out act_not)
          have H4 := Lib.hid h4
          have HR4 := Lib.hid (H3.out.r.kept k4 h4.below)
          clear h4 k4
          go_wp2_with fail
          refine hK.out _ _ (by exact ⟨HW4.out.cell 1, HW4.out.cell 2⟩) (fun hHeld2 => ?_)
          clear hK K hHeld
          have hHeld := hHeld2
          clear hHeld2
          try simp only [Act.put, List.setIfInBounds_toArray, List.set_cons_zero, List.set_cons_succ]
          refine wpAnyH_ready (rs := [13]) (by kernel_rfl) (by simp) ?_
          refine AllReadyH.cons (o := { dst := some 88, op := Go.Op.call { callee := Go.Callee.value (Go.Operand.func 11), args := #[Go.Operand.tmp 83, Go.Operand.tmp 85, Go.Operand.tmp 87], argTypes := #[28, 3, 30] }, type := 24, pos := "law.go:51", after := #[{ on := 8, ground := Go.Ground.data }, { on := 10, ground := Go.Ground.data }, { on := 12, ground := Go.Ground.data }, { on := 7, ground := Go.Ground.chain }], guard := none }) rfl (fun K hK => ?_) AllReadyH.nil
          go_simp
          refine (rh_write HR4.out p.place Ak ck p.data (by omega) (SrcR.ofRow HROW.out H4.out.below HR4.out.lr) (by have := H3.out.uns; omega)).mono ?_
          rintro e w5 ⟨rfl, h5r, k5⟩
          have HW5 := Lib.hid (k5.whole HW4.out act_notR)
          have H5 := Lib.hid (show Both w w5 D R n (x.write p.place p.data) (k + 1) from ⟨H4.out.keptR k5 h5r.below, h5r, by rw [(len_write _ _).1]; exact H3.out.len, Nat.le_trans (len_write _ _).2 (Nat.succ_le_succ H3.out.uns)⟩)
          clear h5r k5
          go_wp2_with fail
          refine hK.out _ _ (by exact ⟨HW5.out.cell 1, HW5.out.cell 2⟩) (fun hHeld2 => ?_)
          clear hK K hHeld
          have hHeld := hHeld2
          clear hHeld2
          try simp only [Act.put, List.setIfInBounds_toArray, List.set_cons_zero, List.set_cons_succ]
          obtain ⟨z, hz⟩ : ∃ z, z = x.writeE p.place p.data := ⟨_, rfl⟩
          simp only [← hz]
          have dz : (z != z) = false := by simp
          refine wpAnyH_take (i := 14) (oi := { dst := some 89, op := Go.Op.binOp Go.BinOp.neq 24 (Go.Operand.tmp 82) (Go.Operand.tmp 88) 24, type := 4, pos := "law.go:51", after := #[{ on := 7, ground := Go.Ground.data }, { on := 13, ground := Go.Ground.data }], guard := none }) (v := ?_) rfl (by kernel_rfl) (by kernel_rfl) (by kernel_rfl) (fun _ _ _ h => h) (Or.inl ⟨by rfl, ?_⟩) (by assumption) ?_
          rotate_left
          · intro W hSw
            try dsimp only at hSw
            go_simp
            all_goals (with_reducible rfl)
          try simp only [Act.put, List.setIfInBounds_toArray, List.set_cons_zero, List.set_cons_succ]
          refine wpAnyH_done (by kernel_rfl) ?_ _
          clear hHeld
          go_wp2
          go_meet
          exact ⟨D, _, rfl, H5.out, HW5.out⟩
        by_cases e2 : p.what = 2
        · have f1 : (p.what == 1) = false := by simp; exact e1
          have f2 : (p.what == 2) = true := by rw [e2]; rfl
          clear e1 e2
          have hsy := h_sync HBV.out.d (by have := HBV.out.uns; omega)
          have hrs := fun w4 (hk : Kept V w4) (hb : Below w.heap.size w w4) => rh_sync (HBV.out.r.kept hk hb) (by have := HBV.out.len; omega) (by have := HBV.out.uns; omega)
          obtain ⟨z, hz⟩ : ∃ z, z = x.syncE := ⟨_, rfl⟩
          simp only [← hz] at hsy hrs
          have dz : (z != z) = false := by simp
          have HSY := Lib.hid hsy
          have HRS := Lib.hid hrs
          clear hsy hrs hz
          go_wp2_with fail
          refine HSY.out.mono ?_
          rintro e w4 ⟨rfl, h4, k4⟩
          have HW4 := Lib.hid (k4.whole HWV.out act_not)
          have H4 := Lib.hid h4
          have HK4 := Lib.hid k4
          clear h4 k4
          go_wp2_with fail
          refine (HRS.out w4 HK4.out H4.out.below).mono ?_
          rintro e w5 ⟨rfl, h5r, k5⟩
          have HW5 := Lib.hid (k5.whole HW4.out act_notR)
          have H5 := Lib.hid (show Both w w5 D R n x.sync (k + 1) from ⟨H4.out.keptR k5 h5r.below, h5r, by rw [len_sync.1]; exact HBV.out.len, Nat.le_trans len_sync.2 (Nat.succ_le_succ HBV.out.uns)⟩)
          clear h5r k5
          go_wp2
          go_meet
          exact ⟨D, _, rfl, H5.out, HW5.out⟩
        by_cases e3 : p.what = 3
        · have f1 : (p.what == 1) = false := by simp; exact e1
          have f2 : (p.what == 2) = false := by simp; exact e2
          have f3 : (p.what == 3) = true := by rw [e3]; rfl
          clear e1 e2 e3
          have hli := h_limit HBV.out.d p.place hpl
          by_cases hneg : p.place < 0
          · rw [if_pos hneg, show x.limited p.place = x from by unfold Dv.limited; rw [if_pos hneg]] at hli
            have dn : decide (0 ≤ p.place) = false := by simp; omega
            have HLI := Lib.hid hli
            clear hli hneg
            go_wp2_with fail
            refine HLI.out.mono ?_
            rintro e w4 ⟨rfl, h4, k4⟩
            have hw4 := k4.whole HWV.out act_not
            have qq1 : w4.cell? ⟨wr.heap.size, 1, none⟩ = some (.int .i64 p.place) := hw4.cell 1
            have HW4 := Lib.hid hw4
            have H4 := Lib.hid (show Both w w4 D R n x (k + 1) from ⟨h4, HBV.out.r.kept k4 h4.below, HBV.out.len, Nat.le_succ_of_le HBV.out.uns⟩)
            clear h4 k4 hw4
            go_wp2
            go_meet
            exact ⟨D, _, rfl, H4.out, HW4.out⟩
          · obtain ⟨kp, hkp⟩ : ∃ kp : Nat, p.place = kp := ⟨p.place.toNat, by omega⟩
            rw [hkp] at hli q1
            rw [if_neg (by omega)] at hli
            have hkm : kp ≤ 9223372036854775807 := by omega
            have HLI := Lib.hid hli
            clear hli hneg
            go_wp2_with fail
            refine HLI.out.mono ?_
            rintro e w4 ⟨rfl, h4, k4⟩
            have hw4 := k4.whole HWV.out act_not
            have qq1 : w4.cell? ⟨wr.heap.size, 1, none⟩ = some (.int .i64 (kp : Int)) := by rw [← hkp]; exact hw4.cell 1
            have hr4 := HBV.out.r.kept k4 h4.below
            obtain ⟨r2, z2, _, _⟩ := hr4.at_
            have HW4 := Lib.hid hw4
            have H4 := Lib.hid h4
            have HR4 := Lib.hid hr4
            clear h4 k4 hw4 hr4
            go_wp2
            go_meet
            obtain ⟨h5r, k5⟩ := HR4.out.limited hkm
            exact ⟨D, _, rfl, ⟨H4.out.keptR k5 h5r.below, h5r, by rw [(len_limited _).1]; exact HBV.out.len, Nat.le_trans (len_limited _).2 (Nat.succ_le_succ HBV.out.uns)⟩, k5.whole HW4.out act_notR⟩
        by_cases e4 : p.what = 4
        · have f1 : (p.what == 1) = false := by simp; exact e1
          have f2 : (p.what == 2) = false := by simp; exact e2
          have f3 : (p.what == 3) = false := by simp; exact e3
          have f4 : (p.what == 4) = true := by rw [e4]; rfl
          clear e1 e2 e3 e4
          go_wp2_with fail
          refine (h_crash HBV.out.d p.mask p.torn hmk htn (by have := HBV.out.uns; omega)).mono ?_
          rintro e w4 ⟨rfl, h4, k4⟩
          have hw4 := k4.whole HWV.out act_not
          have qq3 : w4.cell? ⟨wr.heap.size, 3, none⟩ = some (.int .u64 (p.mask : Int)) := hw4.cell 3
          have qq4 : w4.cell? ⟨wr.heap.size, 4, none⟩ = some (.int .u64 (p.torn : Int)) := hw4.cell 4
          have HW4 := Lib.hid hw4
          have H4 := Lib.hid h4
          have HR4 := Lib.hid (HBV.out.r.kept k4 h4.below)
          clear h4 k4 hw4
          go_wp2_with fail
          refine (rh_crash HR4.out (by have := HBV.out.len; omega) p.mask p.torn hmk htn (by have := HBV.out.uns; omega)).mono ?_
          rintro e w5 ⟨rfl, h5r, k5⟩
          have HW5 := Lib.hid (k5.whole HW4.out act_notR)
          have H5 := Lib.hid (show Both w w5 D R n (x.crash p.mask p.torn) (k + 1) from ⟨H4.out.keptR k5 h5r.below, h5r, by rw [(len_crash _ _).1]; exact HBV.out.len, Nat.le_trans (len_crash _ _).2 (Nat.succ_le_succ HBV.out.uns)⟩)
          clear h5r k5
          go_wp2
          go_meet
          exact ⟨D, _, rfl, H5.out, HW5.out⟩
        by_cases e6 : p.what = 6
        · have f1 : (p.what == 1) = false := by simp; exact e1
          have f2 : (p.what == 2) = false := by simp; exact e2
          have f3 : (p.what == 3) = false := by simp; exact e3
          have f4 : (p.what == 4) = false := by simp; exact e4
          have f6 : (p.what == 6) = true := by rw [e6]; rfl
          clear e1 e2 e3 e4 e6
          go_wp2_with fail
          refine (h_copy HBV.out.d (by have := HBV.out.len; omega) (by have := HBV.out.uns; omega)).mono ?_
          rintro e w4 ⟨C, rfl, h4, hb4⟩
          have HW4 := Lib.hid (HWV.out.keep (hb4.block _ HWV.out.lt))
          have H4 := Lib.hid (show Both w w4 C R n x (k + 1) from ⟨h4.second, HBV.out.r.next hb4, HBV.out.len, Nat.le_succ_of_le HBV.out.uns⟩)
          clear h4 hb4
          go_wp2
          go_meet
          exact ⟨C, _, rfl, H4.out, HW4.out⟩
        have f1 : (p.what == 1) = false := by simp; exact e1
        have f2 : (p.what == 2) = false := by simp; exact e2
        have f3 : (p.what == 3) = false := by simp; exact e3
        have f4 : (p.what == 4) = false := by simp; exact e4
        have f6 : (p.what == 6) = false := by simp; exact e6
        clear e1 e2 e3 e4 e6
        go_wp2
        go_meet
        exact ⟨D, _, rfl, HBV.out.next (Below.refl _ _) (Nat.le_succ k), HWV.out⟩
      case rest =>
        obtain ⟨D', y, rfl, hb6, hw6⟩ := hcut
        have HB6 := Lib.hid hb6
        have HW6 := Lib.hid hw6
        have HCE := Lib.hid fun (X : World) (hb : Below wc.heap.size wc X) => (show X.cell? ⟨R, 3, none⟩ = some (.bool y.down) ∧ X.cell? ⟨wr.heap.size, 1, none⟩ = some (.int .i64 p.place) from ⟨(hb6.r.next hb).at_.2.2.1, (hw6.keep (hb.block _ hw6.lt)).cell 1⟩)
        have HDN := Lib.hid fun (X : World) (hb : Below wc.heap.size wc X) => (h_down (hb6.d.next hb)).mono fun e w' (h : Told X (.bool y.down) e w') => (show Gave X (.bool y.down) e w' from ⟨h.1, by rw [← h.2]; exact Below.refl _ _⟩)
        have hln := fun (X : World) (hb : Below wc.heap.size wc X) => (h_len (hb6.d.next hb)).mono fun e w' (h : Told X (.int .i64 y.sure.length) e w') => (show Gave X (.int .i64 y.sure.length) e w' from ⟨h.1, by rw [← h.2]; exact Below.refl _ _⟩)
        rw [hb6.len] at hln
        have HLN := Lib.hid hln
        have hyu : y.uns.length < 4294967296 := by have := hb6.uns; omega
        have HAL := Lib.hid fun (X : World) (hb : Below wc.heap.size wc X) (z : Int) => alike_ok w X D' R y (hb6.d.next hb) (hb6.r.next hb) z hyu
        have HBX := Lib.hid (Below.refl wc.heap.size wc).drew
        obtain ⟨kr, hkr0⟩ : ∃ kr, kr = k % n := ⟨_, rfl⟩
        have hkn : kr ≤ 60 := by have := Nat.mod_lt k h1; omega
        have hkr : (k : Int) % (n : Int) = (kr : Int) := by rw [hkr0]; push_cast; rfl
        have hkt : Int.tmod (k : Int) (n : Int) = (kr : Int) := by rw [Int.tmod_eq_emod_of_nonneg (by omega)]; exact hkr
        have hbz : ¬ n = 0 := by omega
        clear hkr0
        clear hb6 hw6 hln q0 q1 q2 q3 q4
        obtain ⟨dn, hdn⟩ : ∃ dn, dn = y.down := ⟨_, rfl⟩
        rw [← hdn] at HCE HDN
        clear hdn
        have dbb : (dn != dn) = false := by simp
        have HQ := HCE.out wc (Below.refl _ _)
        obtain ⟨r3, q1⟩ := HQ
        go_wp2_with fail
        go_region_held3 (fun X => X.cell? ⟨R, 3, none⟩ = some (.bool dn) ∧ X.cell? ⟨wr.heap.size, 1, none⟩ = some (.int .i64 p.place))
          (exact HCE.out _ HBX.out)
          ((first
            | (go_at_call 18
               with_reducible refine (HDN.out _ HBX.out).mono ?_
               rintro e wn ⟨rfl, hb⟩
               have HBX := Lib.hid (HBX.out.trans (hb.mono HBX.out.size))
               clear hb)
            | (go_at_call 19
               with_reducible refine (HLN.out _ HBX.out).mono ?_
               rintro e wn ⟨rfl, hb⟩
               have HBX := Lib.hid (HBX.out.trans (hb.mono HBX.out.size))
               clear hb)
            | (go_at_call 20
               with_reducible refine (HAL.out _ HBX.out _).mono ?_
               rintro e wn ⟨rfl, hb⟩
               have HBX := Lib.hid (HBX.out.trans (hb.mono HBX.out.size))
               clear hb)))
        all_goals
          rename_i hheld
          clear hheld
          clear HDN HLN HAL HCE hkr hkt r3 q1
          obtain ⟨wq, hwq⟩ : ∃ wq : World, Below wc.heap.size wc wq := ⟨_, HBX.out⟩
          have hun := h_unsure (HB6.out.d.next HBX.out) hyu
          obtain ⟨_, _, _, uv, us, qu, hus⟩ := (HB6.out.r.next HBX.out).at_
          have HUN := Lib.hid hun
          have hrn := HB6.out.r.next HBX.out
          have HRN := Lib.hid hrn
          clear hun hwq hrn hus qu
          go_wp2_with fail
          refine HUN.out.mono ?_
          rintro e wl ⟨lv, ls, rfl, hl5, hbl, hdl⟩
          obtain ⟨_, _, _, uv2, us2, qu, hus⟩ := (HRN.out.next hbl).at_
          have HBL := Lib.hid (show Both w wl D' R n y (k + 1) from ⟨hdl, HRN.out.next hbl, HB6.out.len, HB6.out.uns⟩)
          obtain ⟨Al, cl, rfl, _, _⟩ := own_form hl5.row
          obtain ⟨Au, cu, rfl, _, _⟩ := own_form hus.row
          have HL5 := Lib.hid hl5
          have HUS := Lib.hid hus
          have HBR := Lib.hid (Below.refl wl.heap.size wl)
          have hzn : y.uns.length ≤ 81 := by have := HB6.out.uns; omega
          clear hl5 hbl hdl hus HUN
          go_wp2
          go_loopw [12] (fun i wx => ∃ j : Nat, j ≤ y.uns.length ∧ i = .int .i64 j ∧ Below wl.heap.size wl wx) (fun i _ => y.uns.length - (intOf i).toNat)
          case atStart => exact ⟨0, Nat.zero_le _, rfl, HBR.out⟩
          case round =>
            obtain ⟨j, hj, rfl, hbj⟩ := hrel
            have HBJ := Lib.hid hbj
            have qw : wr.cell? ⟨R, 1, none⟩ = some (.slice Au y.uns.length cu) := (hbj.cell (p := ⟨R, 1, none⟩) (block_lt_of_cell qu)).trans qu
            by_cases hjl : j < y.uns.length
            · obtain ⟨gl, rfl⟩ := own_some HL5.out.row (by omega)
              obtain ⟨gu, rfl⟩ := own_some HUS.out.row (by omega)
              have hla := wcells_at HL5.out.len hjl
              have hua := wcells_at HUS.out.len hjl
              have hlj : j < ls.length := by have := HL5.out.len; omega
              have huj : j < us2.length := by have := HUS.out.len; omega
              have p0 : wr.cell? ⟨gl, j * 2, none⟩ = some (.int .i64 ((y.uns[j]).place : Int)) := by
                obtain ⟨x2, x3⟩ := List.getElem?_eq_some_iff.1 hla.1
                rw [hbj.cell (p := ⟨gl, j * 2, none⟩) (HL5.out.row.lt gl rfl).2, own_cell HL5.out.row x2, x3]
              have p1 : wr.cell? ⟨gl, j * 2 + 1, none⟩ = some ls[j] := by
                obtain ⟨x2, x3⟩ := List.getElem?_eq_some_iff.1 hla.2
                rw [hbj.cell (p := ⟨gl, j * 2 + 1, none⟩) (HL5.out.row.lt gl rfl).2, own_cell HL5.out.row x2, x3]
              have p2 : wr.cell? ⟨gu, j * 2, none⟩ = some (.int .i64 ((y.uns[j]).place : Int)) := by
                obtain ⟨x2, x3⟩ := List.getElem?_eq_some_iff.1 hua.1
                rw [hbj.cell (p := ⟨gu, j * 2, none⟩) (HUS.out.row.lt gu rfl).2, own_cell HUS.out.row x2, x3]
              have p3 : wr.cell? ⟨gu, j * 2 + 1, none⟩ = some us2[j] := by
                obtain ⟨x2, x3⟩ := List.getElem?_eq_some_iff.1 hua.2
                rw [hbj.cell (p := ⟨gu, j * 2 + 1, none⟩) (HUS.out.row.lt gu rfl).2, own_cell HUS.out.row x2, x3]
              have hv := own_keep (w' := wr) (HL5.out.each j hjl hlj) fun g e => hbj.block g ((HL5.out.each j hjl hlj).lt g e).2
              have hv2 := own_keep (w' := wr) (HUS.out.each j hjl huj) fun g e => hbj.block g ((HUS.out.each j hjl huj).lt g e).2
              obtain ⟨va, hva⟩ : ∃ va, va = ls[j] := ⟨_, rfl⟩
              obtain ⟨vb, hvb⟩ : ∃ vb, vb = us2[j] := ⟨_, rfl⟩
              obtain ⟨ub, hub⟩ : ∃ ub, ub = y.uns[j] := ⟨_, rfl⟩
              obtain ⟨ud, hud⟩ : ∃ ud, ud = (y.uns[j]).data := ⟨_, rfl⟩
              rw [← hva] at p1 hv
              rw [← hvb] at p3 hv2
              rw [← hud] at hv hv2
              rw [← hub] at p0 p2
              obtain ⟨Aa, ca, rfl, _, _⟩ := own_form hv
              obtain ⟨Ab, cb, rfl, _, _⟩ := own_form hv2
              have hud5 : ud.length = 512 := by have := hv.1; simpa using this
              have HS := Lib.hid fun (q : Nat) => same_yes Aa Ab 512 512 ca cb wr.heap.size ud (wr.drewN q) hud5 hud5 (Row.of_own (w := wr.drewN q) (own_keep hv fun _ _ => rfl)) (Row.of_own (w := wr.drewN q) (own_keep hv2 fun _ _ => rfl)) (by decide)
              have dz : ((ub.place : Int) != (ub.place : Int)) = false := by simp
              have hji : (j : Int) < (y.uns.length : Int) := by omega
              have hj0 : (0 : Int) ≤ (j : Int) := by omega
              clear hla hua hv hv2 hva hvb hub hud hbj hud5
              go_wp2_with fail
              go_quiet ((go_at_call 22; exact Calls.quiet_of (HS.out _)))
              go_wp2
              exact ⟨⟨j + 1, by omega, by go_num, below_drewN' HBJ.out _⟩, by simp [intOf]; omega⟩
            · obtain rfl : j = y.uns.length := by omega
              clear hbj
              go_wp2
              exact ⟨⟨k + 1, D', y, by omega, by omega, by go_num, rfl, HBL.out.next HBJ.out (Nat.le_refl _)⟩, by simp [intOf]; omega⟩
    · have hxu : x.uns.length < 4294967296 := by have := hboth.uns; omega
      have hdec : (k < acts.length → ¬ k < 80) := fun y1 y2 => hlt ⟨y1, y2⟩
      have HAL := Lib.hid fun (X : World) (hb : Below wr.heap.size wr X) (z : Int) => alike_ok w X D R x (hboth.d.next hb) (hboth.r.next hb) z hxu
      have HBR := Lib.hid (Below.refl wr.heap.size wr)
      have HBW := Lib.hid hboth.d.below
      clear hboth hlt HBO HA
      by_cases hkl : k < acts.length
      · have d8 : decide ((k : Int) < 80) = false := by simp; omega
        clear hdec
        go_wp2
        go_loopw [13] (fun i wx => ∃ j : Nat, j ≤ n ∧ i = .int .i64 j ∧ Below wr.heap.size wr wx) (fun i _ => n - (intOf i).toNat)
        case atStart => exact ⟨0, Nat.zero_le _, rfl, HBR.out⟩
        case round =>
          obtain ⟨j, hj, rfl, hbj⟩ := hrel
          have HBJ := Lib.hid hbj
          clear hbj
          by_cases hjl : j < n
          · go_wp2_with fail
            refine (HAL.out _ HBJ.out _).mono ?_
            rintro e wy ⟨rfl, hby⟩
            have HBY := Lib.hid (HBJ.out.trans (hby.mono HBJ.out.size))
            clear hby
            go_wp2
            exact ⟨⟨j + 1, by omega, by go_num, HBY.out⟩, by simp [intOf]; omega⟩
          · obtain rfl : j = n := by omega
            go_wp2
            go_ret
            exact ⟨rfl, HBW.out.trans (HBJ.out.mono HBW.out.size)⟩
      · clear hdec
        go_wp2
        go_loopw [13] (fun i wx => ∃ j : Nat, j ≤ n ∧ i = .int .i64 j ∧ Below wr.heap.size wr wx) (fun i _ => n - (intOf i).toNat)
        case atStart => exact ⟨0, Nat.zero_le _, rfl, HBR.out⟩
        case round =>
          obtain ⟨j, hj, rfl, hbj⟩ := hrel
          have HBJ := Lib.hid hbj
          clear hbj
          by_cases hjl : j < n
          · go_wp2_with fail
            refine (HAL.out _ HBJ.out _).mono ?_
            rintro e wy ⟨rfl, hby⟩
            have HBY := Lib.hid (HBJ.out.trans (hby.mono HBJ.out.size))
            clear hby
            go_wp2
            exact ⟨⟨j + 1, by omega, by go_num, HBY.out⟩, by simp [intOf]; omega⟩
          · obtain rfl : j = n := by omega
            go_wp2
            go_ret
            exact ⟨rfl, HBW.out.trans (HBJ.out.mono HBW.out.size)⟩

end Go.Proofs.Ytledoajhjkfaoaa
