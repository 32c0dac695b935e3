/-
  The contract of Unsure.
-/
import Derived.Test.YtledoajhjkfaoaaVSettle
namespace Go.Proofs.Ytledoajhjkfaoaa
open Go.RowKit

/-- '48{a: x, b: y}', as an operation that may be taken first. -/
theorem yieldsIf_build2 {P : Program} {ops : Array Oper} {S : World → Prop} {op : Oper} {a : Act} (hw : Region.wanted op (yielded ops a.tmps) = true) (t : TypeId) (i j : Nat) (x y : Operand) (ho : op.op = .build t #[(i, x), (j, y)])
    (u v : Value) (hx : a.eval x = u) (hy : a.eval y = v) (cells : Array Value) (hf : P.built t [(i, u), (j, v)] = some cells) : YieldsIf P ops S op (.agg cells) a :=
  .inl ⟨hw, fun w _ => by
    have hm : (#[(i, x), (j, y)] : Array (Nat × Operand)).map (fun (i, x) => (i, a.eval x)) = #[(i, u), (j, v)] := by simp [hx, hy]
    unfold execOp
    simp only [ho, hm, Sem.run_bind, run_build w t _ cells hf, Result.andThen_ok]
    rfl⟩
/-- Unsure writes as cells: where, and a slice. -/
def wcells (us : List Wri) (vs : List Value) : List Value := (us.zip vs).flatMap fun p => [.int .i64 (p.1.place : Int), p.2]
theorem wcells_snoc {us : List Wri} {vs : List Value} (h : us.length = vs.length) (u : Wri) (v : Value) : wcells (us ++ [u]) (vs ++ [v]) = wcells us vs ++ [.int .i64 (u.place : Int), v] := by
  unfold wcells
  rw [List.zip_append h]
  simp
theorem wrt_row : (Try.prog.info? 48).map (fun i => (i.zero.map (·.cells.size), i.size, i.bytes)) = some (some 2, 2, 32) := by kernel_rfl
theorem wrt_row2 : (Try.prog.info? 48).map (fun i => (i.zero.map (·.cells.size), i.size)) = some (some 2, 2) := by kernel_rfl
theorem built_wrt (k : Int) (A : Option Addr) (n c : Nat) : Try.prog.built 48 [(0, .int .i64 k), (1, .slice A n c)] = some #[.int .i64 k, .slice A n c] := by kernel_rfl

theorem wrt_one (k : Int) (A : Option Addr) (n c : Nat) : ∀ u ∈ ([.int .i64 k, .slice A n c] : List Value), u.oneCell' = true := by
  intro u hu
  rcases List.mem_cons.1 hu with rfl | hu
  · rfl
  · obtain rfl := List.mem_singleton.1 hu; rfl

/-- A list of unsure writes of the call's own: each one's bytes lie in a block of their own. -/
structure UnsAt (w' : World) (base : Nat) (v : Value) (us : List Wri) (vs : List Value) : Prop where
  len : us.length = vs.length
  row : w'.ownsRow base 48 2 v us.length (wcells us vs)
  each : ∀ j (h : j < us.length) (h' : j < vs.length), w'.ownsRow base 5 1 vs[j] 512 ((us[j]).data.map bc)
def UnsRel (w : World) (us : List Wri) (out i : Value) (wr : World) : Prop :=
  ∃ k : Nat, k ≤ us.length ∧ i = .int .i64 k ∧ (∃ vs, UnsAt wr w.heap.size out (us.take k) vs) ∧ Below w.heap.size w wr
def UnsOut (w : World) (us : List Wri) (e : Ending) (w' : World) : Prop := ∃ v vs, e = .returned v ∧ UnsAt w' w.heap.size v us vs ∧ Below w.heap.size w w'
/-- One more. -/
theorem UnsAt.next {w w1 w2 w3 : World} {base k : Nat} {us : List Wri} {out v out' : Value} {vs : List Value} (hk : k < us.length) (h : UnsAt w base out (us.take k) vs) (hb1 : ∀ g, g < w.heap.size → w1.heap[g]? = w.heap[g]?)
    (hv : w1.ownsRow base 5 1 v 512 ((us[k]).data.map bc)) (hb2 : ∀ g, g < w1.heap.size → w2.heap[g]? = w1.heap[g]?) (hz1 : w.heap.size ≤ w1.heap.size) (_ : w1.heap.size ≤ w2.heap.size)
    (ho : w3.ownsRow base 48 2 out' (k + 1) (wcells (us.take k) vs ++ [.int .i64 ((us[k]).place : Int), v])) (hg : w2.grownBy w3 out.ownBlock) : UnsAt w3 base out' (us.take (k + 1)) (vs ++ [v]) := by
  have hl : (us.take k).length = k := by rw [List.length_take]; omega
  have hlv : vs.length = k := by rw [← h.len, hl]
  have hw2 : w2.ownsRow base 48 2 out (us.take k).length (wcells (us.take k) vs) := own_keep h.row fun g e => (hb2 g (Nat.lt_of_lt_of_le (h.row.lt g e).2 hz1)).trans (hb1 g (h.row.lt g e).2)
  have keep2 : ∀ {u : Value} {xs : List Value}, w2.ownsRow base 5 1 u 512 xs → w3.ownsRow base 5 1 u 512 xs := fun hu => own_keep hu fun g e => hg.block g (hu.lt g e).2 fun e2 => own_not_own hw2 hu (by decide) e e2.symm
  refine ⟨by rw [List.length_append, List.length_singleton, List.length_take, hlv]; omega, ?_, fun j h1 h2 => ?_⟩
  · rw [List.take_succ_eq_append_getElem hk, wcells_snoc h.len, List.length_append, hl]
    exact ho
  · rw [List.length_take] at h1
    by_cases hj : j < k
    · have h3 := h.each j (by rw [hl]; exact hj) (by rw [hlv]; exact hj)
      rw [List.getElem_append_left (by rw [hlv]; exact hj)]
      have e : (us.take (k + 1))[j]'(by rw [List.length_take]; exact h1) = (us.take k)[j]'(by rw [hl]; exact hj) := by rw [List.getElem_take, List.getElem_take]
      rw [e]
      exact keep2 (own_keep h3 fun g e => (hb2 g (Nat.lt_of_lt_of_le (h3.lt g e).2 hz1)).trans (hb1 g (h3.lt g e).2))
    · obtain rfl : j = k := by omega
      rw [List.getElem_append_right (by omega)]
      simp only [hlv, Nat.sub_self, List.getElem_singleton, List.getElem_take]
      exact keep2 (own_keep hv fun g e => hb2 g (hv.lt g e).2)

set_option maxRecDepth 4000 in
set_option maxHeartbeats 1000000 in
theorem dev_unsure (w : World) (base : Nat) (m : Lies) (x : Dv) (h : DevAt w base m x) (hu : x.uns.length < 4294967296) :
    Calls Try.prog 21 #[.pointer (some ⟨m.d, 0, none⟩)] w (UnsOut w x.uns) := by
  obtain ⟨d, bn, cn, bs, cs, u⟩ := m
  obtain ⟨Au, cu, rfl, _, _⟩ := own_form h.uns
  obtain ⟨i1, z1, hi1, hz1, hz2, hz3, hz4⟩ := info_row wrt_row
  have H := Lib.hid h
  have c2 : w.cell? ⟨d, 2, none⟩ = some (.slice Au x.uns.length cu) := h.blk.cell 2
  clear h
  go_enter Try.func21, Try.ntmps21
  go_wp2
  go_loopw [3, 13] (UnsRel w x.uns) (fun _ i _ => x.uns.length - (intOf i).toNat)
  case atStart => exact ⟨0, Nat.zero_le _, rfl, ⟨[], ⟨rfl, by simpa [wcells] using World.ownsRow_nil _ _ _ _, fun j h => absurd h (Nat.not_lt_zero _)⟩⟩, Below.refl _ _⟩
  case round =>
    obtain ⟨k, hk, rfl, ⟨vs, hat⟩, hbw⟩ := hrel
    have HAT := Lib.hid hat
    have HBW := Lib.hid hbw
    have HZW := Lib.hid hbw.size
    by_cases hlt : k < x.uns.length
    · have hur := own_keep (w' := wr) H.out.uns fun g hg => hbw.block g (H.out.uns.lt g hg).2
      obtain ⟨g, rfl⟩ := own_some hur (by omega)
      have HUR := Lib.hid hur
      have hlk : (x.uns.take k).length = k := by rw [List.length_take]; omega
      have HLK := Lib.hid hlk
      have huw : x.uns[k].place < x.sure.length ∧ x.uns[k].data.length = 512 := H.out.ok.u _ (List.getElem_mem hlt)
      have hrk := hat.row
      rw [hlk] at hrk
      obtain ⟨Ao, co, rfl, _, _⟩ := own_form hrk
      have HRK := Lib.hid hrk
      clear hrk
      obtain ⟨uk, huk⟩ : ∃ uk, uk = x.uns[k] := ⟨_, rfl⟩
      rw [← huk] at huw
      have HUK := Lib.hid huk
      have HUW := Lib.hid huw
      clear huw huk hat hbw hur hlk
      go_wp2_with (first
        | (refine wpList_load_own rfl 71 (.tmp 15) rfl g (k * 514) rfl uk.cells _ Try.underlying71 rfl ?c1 base 71 514 _ cu (cellsU x.uns) HUR.out ?c2 ?_
           case c1 => rw [Wri.length_cells HUW.out.2]; exact wri_size
           case c2 => intro j v hv; rw [HUK.out] at hv; exact cellsU_get H.out.ok.u hlt hv)
        | (refine wpList_alloc_zero rfl 71 rfl _ wri_zero ?_)
        | (refine wpList_store_at rfl 71 (.tmp 5) (.tmp 16) rfl wr.heap.size 0 uk.cells rfl rfl _ _ (Whole.made _ _ _) ?c1 ?c2 (Wri.one _) ?_
           case c1 => rw [Wri.length_cells HUW.out.2, Wri.length_cells length_zero512]; decide
           case c2 => rw [Wri.length_cells HUW.out.2]; exact wri_size
           intro V hWV hGV hVS
           rw [splice_full (by rw [Wri.length_cells HUW.out.2, Wri.length_cells length_zero512])] at hWV
           have HWV := Lib.hid hWV
           have HBV := Lib.hid (show Below wr.heap.size wr V from (Grew.below (B := wr.heap.size) hGV (fun j hj => by rw [hj]; exact Nat.le_refl _) (by simp)).of_alloc)
           clear hWV hGV hVS))
      have hcp : V.cell? ⟨wr.heap.size, 0, none⟩ = some (.int .i64 uk.place) := HWV.out.cell 0
      have hrow : Row V V.heap.size (some ⟨wr.heap.size, 1, none⟩) (uk.data.map bc) := Row.of_cells HWV.out.lt fun j v hv => by
        rw [HWV.out.cell, Nat.add_comm]
        show (uk.sec.cells)[j]? = _
        exact Sec.cell_data hv
      have hcl := clone_u8 (some ⟨wr.heap.size, 1, none⟩) 512 512 V.heap.size _ V.drew (by rw [List.length_map, HUW.out.2]) hrow (bc_one _) (by decide) (by decide)
      have HCL := Lib.hid hcl
      have HNB := Lib.hid (show (Value.slice Ao k co).ownBlock ≠ some wr.heap.size from fun e => by have := (HRK.out.lt _ e).2; omega)
      clear hrow hcl
      refine wp_region_held_drew (S := fun W => W.cell? ⟨wr.heap.size, 0, none⟩ = some (.int .i64 uk.place)) (by kernel_rfl) (by exact hcp) (fun hHeld => ?_)
      refine wpAnyH_take (i := 0) (oi := { dst := some 17, op := Go.Op.move (Go.Operand.tmp 3), type := 38, pos := "flash.go:98", after := #[], guard := none }) (v := ?_) rfl (by kernel_rfl) (by kernel_rfl) (by kernel_rfl) (fun _ _ _ h => h) (Or.inl ⟨by rfl, ?_⟩) (by assumption) ?_
      rotate_left
      · intro W hSw
        try dsimp only at hSw
        go_simp
        all_goals (with_reducible rfl)
      try simp only [Act.put, List.setIfInBounds_toArray, List.set_cons_zero, List.set_cons_succ]
      refine wpAnyH_take (i := 1) (oi := { dst := some 18, op := Go.Op.fieldAddr 71 (Go.Operand.tmp 5) 0, type := 0, pos := "flash.go:98", after := #[], guard := none }) (v := ?_) rfl (by kernel_rfl) (by kernel_rfl) (by kernel_rfl) (fun _ _ _ h => h) (Or.inl ⟨by rfl, ?_⟩) (by assumption) ?_
      rotate_left
      · intro W hSw
        try dsimp only at hSw
        go_simp
        all_goals (with_reducible rfl)
      try simp only [Act.put, List.setIfInBounds_toArray, List.set_cons_zero, List.set_cons_succ]
      refine wpAnyH_take (i := 2) (oi := { dst := some 19, op := Go.Op.load 3 (Go.Operand.tmp 18), type := 3, pos := "flash.go:98", after := #[{ on := 1, ground := Go.Ground.data }], guard := none }) (v := ?_) rfl (by kernel_rfl) (by kernel_rfl) (by kernel_rfl) (fun _ _ _ h => h) (Or.inl ⟨by rfl, ?_⟩) (by assumption) ?_
      rotate_left
      · intro W hSw
        try dsimp only at hSw
        go_simp
        all_goals (with_reducible rfl)
      try simp only [Act.put, List.setIfInBounds_toArray, List.set_cons_zero, List.set_cons_succ]
      refine wpAnyH_take (i := 3) (oi := { dst := some 20, op := Go.Op.fieldAddr 71 (Go.Operand.tmp 5) 1, type := 0, pos := "flash.go:98", after := #[], guard := none }) (v := ?_) rfl (by kernel_rfl) (by kernel_rfl) (by kernel_rfl) (fun _ _ _ h => h) (Or.inl ⟨by rfl, ?_⟩) (by assumption) ?_
      rotate_left
      · intro W hSw
        try dsimp only at hSw
        go_simp
        all_goals (with_reducible rfl)
      try simp only [Act.put, List.setIfInBounds_toArray, List.set_cons_zero, List.set_cons_succ]
      refine wpAnyH_take (i := 4) (oi := { dst := some 21, op := Go.Op.fieldAddr 69 (Go.Operand.tmp 20) 0, type := 0, pos := "flash.go:98", after := #[{ on := 3, ground := Go.Ground.data }], guard := none }) (v := ?_) rfl (by kernel_rfl) (by kernel_rfl) (by kernel_rfl) (fun _ _ _ h => h) (Or.inl ⟨by rfl, ?_⟩) (by assumption) ?_
      rotate_left
      · intro W hSw
        try dsimp only at hSw
        go_simp
        all_goals (with_reducible rfl)
      try simp only [Act.put, List.setIfInBounds_toArray, List.set_cons_zero, List.set_cons_succ]
      refine wpAnyH_take (i := 5) (oi := { dst := some 22, op := Go.Op.slice 67 (Go.Operand.tmp 21) none none none, type := 30, pos := "flash.go:98", after := #[{ on := 4, ground := Go.Ground.data }], guard := none }) (v := ?_) rfl (by kernel_rfl) (by kernel_rfl) (by kernel_rfl) (fun _ _ _ h => h) (Or.inl ⟨by rfl, ?_⟩) (by assumption) ?_
      rotate_left
      · intro W hSw
        try dsimp only at hSw
        go_simp
        all_goals (with_reducible rfl)
      try simp only [Act.put, List.setIfInBounds_toArray, List.set_cons_zero, List.set_cons_succ]
      refine wpAnyH_ready (rs := [6]) (by kernel_rfl) (by simp) ?_
      refine AllReadyH.cons (o := { dst := some 23, op := Go.Op.call { callee := Go.Callee.value (Go.Operand.func 33), args := #[Go.Operand.tmp 22], argTypes := #[30] }, type := 30, pos := "flash.go:98", after := #[{ on := 5, ground := Go.Ground.data }], guard := none }) rfl (fun K hK => ?_) AllReadyH.nil
      go_simp
      refine HCL.out.mono ?_
      rintro e w1 ⟨v1, rfl, hv1, hb1⟩
      obtain ⟨A1, c1, rfl, _, _⟩ := own_form hv1
      have hh1 : w1.cell? ⟨wr.heap.size, 0, none⟩ = some (.int .i64 uk.place) := (hb1.cell (p := ⟨wr.heap.size, 0, none⟩) HWV.out.lt).trans hcp
      have HV1 := Lib.hid hv1
      have HB1 := Lib.hid (show Below V.heap.size V w1 from ⟨hb1.os, hb1.tape, hb1.output, hb1.size, hb1.block⟩)
      clear hv1 hb1
      go_wp2_with fail
      refine hK.out _ _ (by exact hh1) (fun hHeld2 => ?_)
      clear hK K hHeld
      have hHeld := hHeld2
      clear hHeld2
      try simp only [Act.put, List.setIfInBounds_toArray, List.set_cons_zero, List.set_cons_succ]
      clear hh1
      refine wpAnyH_take (i := 7) (oi := { dst := some 24, op := Go.Op.build 48 #[(0, Go.Operand.tmp 19), (1, Go.Operand.tmp 23)], type := 48, pos := "flash.go:98", after := #[{ on := 2, ground := Go.Ground.data }, { on := 6, ground := Go.Ground.data }], guard := none }) (v := .agg #[.int .i64 uk.place, .slice A1 512 c1]) rfl (by kernel_rfl) (by kernel_rfl) (by kernel_rfl) (fun _ _ _ h => h) (yieldsIf_build2 (by rfl) 48 0 1 (.tmp 19) (.tmp 23) rfl _ _ rfl rfl _ (built_wrt _ _ _ _)) (by assumption) ?_
      try simp only [Act.put, List.setIfInBounds_toArray, List.set_cons_zero, List.set_cons_succ]
      refine wpAnyH_ready (rs := [8]) (by kernel_rfl) (by simp) ?_
      refine AllReadyH.cons (o := { dst := some 25, op := Go.Op.buildSlice 38 1 #[(0, Go.Operand.tmp 24)], type := 38, pos := "flash.go:98", after := #[{ on := 7, ground := Go.Ground.data }], guard := none }) rfl (fun K hK => ?_) AllReadyH.nil
      refine step_buildSlice1 rfl 38 48 (.tmp 24) rfl [.int .i64 uk.place, .slice A1 512 c1] rfl Try.underlying38 wrt_row2 (by show 0 < 2; decide) (by show 2 ≤ 2 ^ 24; decide) ?_
      refine hK.out _ _ (by exact (World.cell?_alloc_lt w1 _ _ (World.block_lt_of_cell? w1 _ hHeld)).trans hHeld) (fun hHeld2 => ?_)
      clear hK K hHeld
      have hHeld := hHeld2
      clear hHeld2
      try simp only [Act.put, List.setIfInBounds_toArray, List.set_cons_zero, List.set_cons_succ]
      have ho2 : (w1.alloc (.cells ([.int .i64 uk.place, .slice A1 512 c1] : List Value).toArray 48)).ownsRow w.heap.size 48 2 (.slice Ao k co) k (wcells (x.uns.take k) vs) :=
        own_keep HRK.out fun g e => (Below.heap_alloc w1 _ g (by have := (HRK.out.lt g e).2; have := HBV.out.size; have := HB1.out.size; show g < _; exact Nat.lt_of_lt_of_le (HRK.out.lt g e).2 (Nat.le_trans HBV.out.size HB1.out.size))).trans ((HB1.out.block g (Nat.lt_of_lt_of_le (HRK.out.lt g e).2 HBV.out.size)).trans (HBV.out.block g (HRK.out.lt g e).2))
      have HO2 := Lib.hid ho2
      clear ho2
      refine wpAnyH_ready (rs := [9]) (by kernel_rfl) (by simp) ?_
      refine AllReadyH.cons (o := { dst := some 26, op := Go.Op.call { callee := Go.Callee.builtin Go.Builtin.append, args := #[Go.Operand.tmp 17, Go.Operand.tmp 25], argTypes := #[38, 38] }, type := 38, pos := "flash.go:98", after := #[{ on := 0, ground := Go.Ground.data }, { on := 8, ground := Go.Ground.data }, { on := 6, ground := Go.Ground.chain }], guard := none }) rfl (fun K hK => ?_) AllReadyH.nil
      refine step_append_at rfl (.tmp 17) (.tmp 25) _ rfl w.heap.size 48 i1 z1 2 32 Try.underlying38 hi1 hz1 hz2 hz3 hz4 (by decide) _ _ _ rfl HO2.out (some ⟨w1.heap.size, 0, none⟩) 1 1 (w1.heap.size + 1) [.int .i64 uk.place, .slice A1 512 c1] rfl rfl (by exact Row.made w1 _ _) (wrt_one _ _ _ _) ?c1 ?c2 ?c3 ?_
      case c1 => unfold maxLen; omega
      case c2 => omega
      case c3 => rw [World.size_alloc]; exact Nat.le_succ_of_le (Nat.le_trans HZW.out (Nat.le_trans HBV.out.size HB1.out.size))
      intro v3 w3 hown3 hg3 hat3
      have hh3 : w3.cell? ⟨wr.heap.size, 0, none⟩ = some (.int .i64 uk.place) := (World.cell?_of_block (hg3.block _ (block_lt_of_cell hHeld) (fun e => HNB.out e.symm))).trans hHeld
      have HG3 := Lib.hid hg3
      have HO3 := Lib.hid hown3
      clear hown3 hg3 hat3
      refine hK.out _ _ (by exact hh3) (fun hHeld2 => ?_)
      clear hK K hHeld
      have hHeld := hHeld2
      clear hHeld2
      try simp only [Act.put, List.setIfInBounds_toArray, List.set_cons_zero, List.set_cons_succ]
      clear hh3
      refine wpAnyH_take (i := 10) (oi := { dst := some 3, op := Go.Op.assign (Go.Operand.tmp 26), type := 38, pos := "flash.go:98", after := #[{ on := 9, ground := Go.Ground.data }, { on := 9, ground := Go.Ground.chain }, { on := 0, ground := Go.Ground.phase }, { on := 1, ground := Go.Ground.phase }, { on := 2, ground := Go.Ground.phase }, { on := 3, ground := Go.Ground.phase }, { on := 4, ground := Go.Ground.phase }, { on := 5, ground := Go.Ground.phase }, { on := 6, ground := Go.Ground.phase }, { on := 7, ground := Go.Ground.phase }, { on := 8, ground := Go.Ground.phase }, { on := 9, ground := Go.Ground.phase }], guard := none }) (v := ?_) rfl (by kernel_rfl) (by kernel_rfl) (by kernel_rfl) (fun _ _ _ h => h) (Or.inl ⟨by rfl, ?_⟩) (by assumption) ?_
      rotate_left
      · intro W hSw
        try dsimp only at hSw
        go_simp
        all_goals (with_reducible rfl)
      try simp only [Act.put, List.setIfInBounds_toArray, List.set_cons_zero, List.set_cons_succ]
      refine wpAnyH_done (by kernel_rfl) ?_ _
      go_wp2
      refine ⟨⟨k + 1, by omega, by go_num, ⟨vs ++ [.slice A1 512 c1], ?_⟩, ?_⟩, by simp [intOf]; omega⟩
      · have hv1 := own_mono HV1.out (Nat.le_trans HZW.out HBV.out.size)
        have ho3 := HO3.out
        rw [HUK.out] at ho3
        rw [HUK.out] at hv1
        exact UnsAt.next (w1 := w1) hlt HAT.out (fun g hg => (HB1.out.block g (Nat.lt_of_lt_of_le hg HBV.out.size)).trans (HBV.out.block g hg)) hv1 (fun g hg => Below.heap_alloc w1 _ g hg) (Nat.le_trans HBV.out.size HB1.out.size) (by rw [World.size_alloc]; omega) ho3 HG3.out
      · have hz := Nat.le_trans HBV.out.size HB1.out.size
        have hb3 : Below w.heap.size w (w1.alloc (.cells ([.int .i64 uk.place, .slice A1 512 c1] : List Value).toArray 48)) := ((HBW.out.trans (HBV.out.mono HZW.out)).trans (HB1.out.mono (Nat.le_trans HZW.out HBV.out.size))).alloc (Nat.le_trans HZW.out hz) _
        exact own_below hb3 (Nat.le_refl _) hb3.size HO2.out HG3.out
    · obtain rfl : k = x.uns.length := by omega
      clear hat hbw
      go_wp2
      go_ret
      have hat := HAT.out
      rw [List.take_length] at hat
      exact ⟨_, vs, rfl, hat, HBW.out⟩

end Go.Proofs.Ytledoajhjkfaoaa
