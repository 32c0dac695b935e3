/-
  The contract of the document's New.
-/
import Derived.Test.YtledoajhjkfaoaaVRefWrite
namespace Go.Proofs.Ytledoajhjkfaoaa
open Go.RowKit

theorem rsec_row : (Try.prog.info? 65).map (fun i => (i.zero.map (·.cells.size), i.size, i.bytes)) = some (some 2, 2, 32) := by kernel_rfl
theorem rsec_row2 : (Try.prog.info? 65).map (fun i => (i.zero.map (·.cells.size), i.size)) = some (some 2, 2) := by kernel_rfl
def mkR (k : Nat) : Dv := ⟨List.replicate k secZero, [], 0, false⟩
theorem ok_mkR {k : Nat} (hk : k ≤ 4096) : (mkR k).ok := ⟨fun s hs => (by rw [(List.mem_replicate.1 hs).2]; exact length_zero512), fun u hu => (by cases hu), (by show (List.replicate k secZero).length ≤ 4096; rw [List.length_replicate]; exact hk), Nat.zero_le _⟩
def NRel (w : World) (n : Nat) (i : Value) (wr : World) : Prop :=
  ∃ (k : Nat) (s : Value), k ≤ n ∧ i = .int .i64 k ∧ RefAt wr w.heap.size ⟨w.heap.size, s, .slice none 0 0⟩ (mkR k) ∧ Below w.heap.size w wr
def RNewOut (w : World) (n : Nat) (e : Ending) (w' : World) : Prop :=
  ∃ s, e = .returned (.pointer (some ⟨w.heap.size, 0, none⟩)) ∧ RefAt w' w.heap.size ⟨w.heap.size, s, .slice none 0 0⟩ (mkR n) ∧ Below w.heap.size w w'
section
variable {w wr w1 V w3 : World} {R base k : Nat} {s v' : Value} {P : List (Sec × Value)}
/-- Behind the append. -/
theorem rnew_mid (h : RefAt wr base ⟨R, s, .slice none 0 0⟩ (mkR k)) (hrow : wr.ownsRow base 65 2 s k (scells P)) (hb1 : Below wr.heap.size wr w1) (hV : Below w1.heap.size w1 V) (hg : V.grownBy w3 s.ownBlock) :
    (∀ g, g < w1.heap.size → s.ownBlock ≠ some g → w3.heap[g]? = w1.heap[g]?) ∧ (∀ g, g < wr.heap.size → s.ownBlock ≠ some g → w3.heap[g]? = wr.heap[g]?) ∧ Whole w3 R 40 (refCells ⟨R, s, .slice none 0 0⟩ 0 false) := by
  have hk1 : ∀ g, g < w1.heap.size → s.ownBlock ≠ some g → w3.heap[g]? = w1.heap[g]? := fun g h1 h2 => (hg.block g (Nat.lt_of_lt_of_le h1 hV.size) fun e => h2 e.symm).trans (hV.block g h1)
  have hk : ∀ g, g < wr.heap.size → s.ownBlock ≠ some g → w3.heap[g]? = wr.heap[g]? := fun g h1 h2 => (hk1 g (Nat.lt_of_lt_of_le h1 hb1.size) h2).trans (hb1.block g h1)
  exact ⟨hk1, hk, h.blk.keep (hk R h.blk.lt (own_not_whole hrow h.blk (by decide)))⟩
theorem rnew_fin (h : RefAt wr base ⟨R, s, .slice none 0 0⟩ (mkR k)) (hk : k + 1 ≤ 4096) (hP : P.map Prod.fst = List.replicate k secZero) (hrow : wr.ownsRow base 65 2 s k (scells P)) (heach : ∀ p ∈ P, wr.ownsRow base 5 1 p.2 512 (p.1.data.map bc))
    (hz : Whole w1 wr.heap.size 5 (zero512.map bc)) (hb1 : Below wr.heap.size wr w1) (hV : Below w1.heap.size w1 V) (ho : w3.ownsRow base 65 2 v' (k + 1) (scells P ++ [.slice (some ⟨wr.heap.size, 0, none⟩) 512 512, .bool false])) (hg : V.grownBy w3 s.ownBlock) :
    RefAt (w3.setCell ⟨R, 0, none⟩ v') base ⟨R, v', .slice none 0 0⟩ (mkR (k + 1)) ∧ Below base wr (w3.setCell ⟨R, 0, none⟩ v') := by
  obtain ⟨hk1, hk2, hW3⟩ := rnew_mid h hrow hb1 hV hg
  have hbase : base ≤ wr.heap.size := by have h5 := h.blk.lt; have h6 := h.lr; exact Nat.le_trans h6 (Nat.le_of_lt h5)
  have hG : Grew (fun j => j = R) w3 (w3.setCell ⟨R, 0, none⟩ v') := grew_one _ _ _ _
  have hz3 : w1.heap.size ≤ w3.heap.size := Nat.le_trans hV.size hg.size
  have hne3 : ∀ g, (∃ t fr cs, w3.heap[g]? = some (.cells cs t fr) ∧ t = 5) → g ≠ R := by
    rintro g ⟨t, fr, cs, h5, h6⟩ rfl
    have hb := hW3
    unfold Whole at hb
    rw [h5] at hb
    simp at hb
    have h2 := hb.2.1
    rw [h6] at h2
    exact absurd h2 (by decide)
  have hby : ∀ {v : Value} {l : List UInt8}, w1.ownsRow base 5 1 v 512 (l.map bc) → (∀ g, v.ownBlock = some g → s.ownBlock ≠ some g) → (w3.setCell ⟨R, 0, none⟩ v').ownsRow base 5 1 v 512 (l.map bc) := fun {v l} h1 h2 => by
    have h3 : w3.ownsRow base 5 1 v 512 (l.map bc) := own_keep h1 fun g e => hk1 g (h1.lt g e).2 (h2 g e)
    refine own_keep h3 fun g e => hG.block g (h3.lt g e).2 (hne3 g ?_)
    rcases h3.2 with ⟨e1, _⟩ | ⟨g', cap, cur, e1, _, hh, _⟩
    · rw [e1] at e; cases e
    · rw [e1] at e
      simp [Value.ownBlock] at e
      subst e
      exact ⟨_, _, _, hh, rfl⟩
  have hzo : w1.ownsRow base 5 1 (.slice (some ⟨wr.heap.size, 0, none⟩) 512 512) 512 (secZero.data.map bc) := hz.owns hbase (by rw [List.length_map]; exact length_zero512) (by decide)
  have hPl : P.length = k := by rw [← List.length_map (f := Prod.fst), hP, List.length_replicate]
  refine ⟨⟨hW3.set_ 0 v', ⟨P ++ [(secZero, .slice (some ⟨wr.heap.size, 0, none⟩) 512 512)], ?_, ?_, ?_⟩, ⟨[], rfl, World.ownsRow_nil _ _ _ _, fun j hj _ => absurd hj (Nat.not_lt_zero _)⟩, h.lr, ok_mkR hk⟩, ?_⟩
  · rw [List.map_append, hP]; exact (List.replicate_succ' ..).symm
  · rw [scells_snoc, List.length_append, hPl]
    exact own_keep ho fun g e => hG.block g (ho.lt g e).2 (by rintro rfl; exact own_not_whole ho hW3 (by decide) e)
  · intro p hp
    rcases List.mem_append.1 hp with hp | hp
    · refine hby (own_keep (heach p hp) fun g e => hb1.block g ((heach p hp).lt g e).2) fun g e => ?_
      exact own_not_own hrow (heach p hp) (by decide) e
    · obtain rfl := List.mem_singleton.1 hp
      refine hby hzo fun g e => ?_
      simp [Value.ownBlock] at e
      subst e
      intro e2
      exact absurd (hrow.lt _ e2).2 (Nat.lt_irrefl _)
  · have g1 : Grew (fun j => base ≤ j) wr V := Grew.all (hb1.trans (hV.mono hb1.size))
    have g2 := (g1.grown hg fun j e => .inl (hrow.lt j e).1).setCell (a := ⟨R, 0, none⟩) (.inl h.lr) v'
    exact g2.below (fun _ h => h) hbase
end

set_option maxRecDepth 4000 in
set_option maxHeartbeats 1000000 in
theorem ref_new (w : World) (n : Nat) (hn : n ≤ 4096) : Calls Try.prog 9 #[.int .i64 n] w (RNewOut w n) := by
  obtain ⟨i1, z1, hi1, hz1, hz2, hz3, hz4⟩ := info_row rsec_row
  go_enter Try.func9, Try.ntmps9
  go_wp2
  go_loopw [4] (NRel w n) (fun i _ => n - (intOf i).toNat)
  case atStart =>
    refine ⟨0, .slice none 0 0, Nat.zero_le _, rfl, ⟨?_, ⟨[], rfl, World.ownsRow_nil _ _ _ _, fun p hp => (by cases hp)⟩, ⟨[], rfl, World.ownsRow_nil _ _ _ _, fun j hj _ => absurd hj (Nat.not_lt_zero _)⟩, Nat.le_refl _, ok_mkR (Nat.zero_le _)⟩, (Below.refl _ _).alloc (Nat.le_refl _) _⟩
    exact Whole.made _ _ _
  case round =>
    obtain ⟨k, s, hk, rfl, hr, hbw⟩ := hrel
    have HB := Lib.hid hbw
    have HR := Lib.hid hr
    by_cases hlt : k < n
    · obtain ⟨P, hP, hrow, heach⟩ := hr.sure
      have hPl : P.length = k := by rw [← List.length_map (f := Prod.fst), hP]; exact List.length_replicate
      rw [hPl] at hrow
      obtain ⟨As, cs, rfl, _, _⟩ := own_form hrow
      have c0 : wr.cell? ⟨w.heap.size, 0, none⟩ = some (.slice As k cs) := hr.blk.cell 0
      have hsz : w.heap.size ≤ wr.heap.size := hbw.size
      have HP := Lib.hid hP
      have HROW := Lib.hid hrow
      have HE := Lib.hid heach
      have HZ := Lib.hid (zero_any wr.drew)
      have hbs := (World.alloc wr (.cells #[] 0))
      clear hbw hr hP hrow heach hPl hbs
      go_wp2_with fail
      refine wp_region_held_drew (S := fun _ => True) (by kernel_rfl) trivial (fun hHeld => ?_)
      refine wpAnyH_take (i := 0) (oi := { dst := some 12, op := Go.Op.move (Go.Operand.tmp 3), type := 28, pos := "ref.go:30", after := #[], guard := none }) (v := ?_) rfl (by kernel_rfl) (by kernel_rfl) (by kernel_rfl) (fun _ _ _ h => h) (Or.inl ⟨by rfl, ?_⟩) (by assumption) ?_
      rotate_left
      · intro W hSw
        try dsimp only at hSw
        go_simp
        all_goals (with_reducible rfl)
      try simp only [Act.put, List.setIfInBounds_toArray, List.set_cons_zero, List.set_cons_succ]
      refine wpAnyH_take (i := 1) (oi := { dst := some 13, op := Go.Op.move (Go.Operand.tmp 3), type := 28, pos := "ref.go:30", after := #[], guard := none }) (v := ?_) rfl (by kernel_rfl) (by kernel_rfl) (by kernel_rfl) (fun _ _ _ h => h) (Or.inl ⟨by rfl, ?_⟩) (by assumption) ?_
      rotate_left
      · intro W hSw
        try dsimp only at hSw
        go_simp
        all_goals (with_reducible rfl)
      try simp only [Act.put, List.setIfInBounds_toArray, List.set_cons_zero, List.set_cons_succ]
      refine wpAnyH_take (i := 2) (oi := { dst := some 14, op := Go.Op.nilCheck (Go.Operand.tmp 13), type := 0, pos := "ref.go:30", after := #[{ on := 1, ground := Go.Ground.data }], guard := none }) (v := ?_) rfl (by kernel_rfl) (by kernel_rfl) (by kernel_rfl) (fun _ _ _ h => h) (Or.inl ⟨by rfl, ?_⟩) (by assumption) ?_
      rotate_left
      · intro W hSw
        try dsimp only at hSw
        go_simp
        all_goals (with_reducible rfl)
      try simp only [Act.put, List.setIfInBounds_toArray, List.set_cons_zero, List.set_cons_succ]
      refine wpAnyH_take (i := 3) (oi := { dst := some 15, op := Go.Op.fieldAddr 40 (Go.Operand.tmp 14) 0, type := 0, pos := "ref.go:30", after := #[{ on := 2, ground := Go.Ground.data }], guard := none }) (v := ?_) rfl (by kernel_rfl) (by kernel_rfl) (by kernel_rfl) (fun _ _ _ h => h) (Or.inl ⟨by rfl, ?_⟩) (by assumption) ?_
      rotate_left
      · intro W hSw
        try dsimp only at hSw
        go_simp
        all_goals (with_reducible rfl)
      try simp only [Act.put, List.setIfInBounds_toArray, List.set_cons_zero, List.set_cons_succ]
      refine wpAnyH_ready (rs := [4, 5]) (by kernel_rfl) (by simp) ?_
      refine AllReadyH.cons (o := { dst := some 16, op := Go.Op.load 37 (Go.Operand.tmp 15), type := 37, pos := "ref.go:30", after := #[{ on := 3, ground := Go.Ground.data }], guard := none }) rfl (fun K hK => ?_) (AllReadyH.cons (o := { dst := some 17, op := Go.Op.call { callee := Go.Callee.value (Go.Operand.func 24), args := #[], argTypes := #[] }, type := 30, pos := "ref.go:30", after := #[], guard := none }) rfl (fun K hK => ?_) AllReadyH.nil)
      · go_simp
        refine hK.out _ _ (by trivial) (fun hHeld2 => ?_)
        clear hK K hHeld
        have hHeld := hHeld2
        clear hHeld2
        try simp only [Act.put, List.setIfInBounds_toArray, List.set_cons_zero, List.set_cons_succ]
        refine wpAnyH_ready (rs := [5]) (by kernel_rfl) (by simp) ?_
        refine AllReadyH.cons (o := { dst := some 17, op := Go.Op.call { callee := Go.Callee.value (Go.Operand.func 24), args := #[], argTypes := #[] }, type := 30, pos := "ref.go:30", after := #[], guard := none }) rfl (fun K hK => ?_) AllReadyH.nil
        go_simp
        refine HZ.out.mono ?_
        rintro e w1 ⟨rfl, hz1, hb1⟩
        have hb1 : Below wr.heap.size wr w1 := ⟨hb1.os, hb1.tape, hb1.output, hb1.size, hb1.block⟩
        have HZ1 := Lib.hid (show Whole w1 wr.heap.size 5 (zero512.map bc) from hz1)
        have HB1 := Lib.hid hb1
        have hV1 := fun (o : Obj) => (Below.refl w1.heap.size w1).alloc (Nat.le_refl _) o
        have hO1 := fun (o : Obj) => own_keep (w' := w1.alloc o) HROW.out fun g hg => (Below.heap_alloc w1 _ g (Nat.lt_of_lt_of_le (HROW.out.lt g hg).2 hb1.size)).trans (hb1.block g (HROW.out.lt g hg).2)
        have c0w : w1.cell? ⟨w.heap.size, 0, none⟩ = some (.slice As k cs) := (hb1.cell (p := ⟨w.heap.size, 0, none⟩) HR.out.blk.lt).trans c0
        have c0v := fun (o : Obj) => (World.cell?_alloc_lt w1 o _ (Nat.lt_of_lt_of_le HR.out.blk.lt hb1.size)).trans c0w
        have HV1 := Lib.hid hV1
        have HO1 := Lib.hid hO1
        clear hz1 hb1 hV1 hO1
        go_wp2_with fail
        refine hK.out _ _ (by trivial) (fun hHeld2 => ?_)
        clear hK K hHeld
        have hHeld := hHeld2
        clear hHeld2
        try simp only [Act.put, List.setIfInBounds_toArray, List.set_cons_zero, List.set_cons_succ]
        refine wpAnyH_take (i := 6) (oi := { dst := some 18, op := Go.Op.build 65 #[(0, Go.Operand.tmp 17)], type := 65, pos := "ref.go:30", after := #[{ on := 5, ground := Go.Ground.data }], guard := none }) (v := ?_) rfl (by kernel_rfl) (by kernel_rfl) (by kernel_rfl) (fun _ _ _ h => h) (Or.inl ⟨by rfl, ?_⟩) (by assumption) ?_
        rotate_left
        · intro W hSw
          try dsimp only at hSw
          go_simp
          all_goals (with_reducible rfl)
        try simp only [Act.put, List.setIfInBounds_toArray, List.set_cons_zero, List.set_cons_succ]
        refine wpAnyH_ready (rs := [7]) (by kernel_rfl) (by simp) ?_
        refine AllReadyH.cons (o := { dst := some 19, op := Go.Op.buildSlice 37 1 #[(0, Go.Operand.tmp 18)], type := 37, pos := "ref.go:30", after := #[{ on := 6, ground := Go.Ground.data }], guard := none }) rfl (fun K hK => ?_) AllReadyH.nil
        refine step_buildSlice1 rfl 37 65 (.tmp 18) rfl [.slice (some ⟨wr.heap.size, 0, none⟩) 512 512, .bool false] rfl Try.underlying37 rsec_row2 (by show 0 < 2; decide) (by show 2 ≤ 2 ^ 24; decide) ?_
        refine hK.out _ _ (by trivial) (fun hHeld2 => ?_)
        clear hK K hHeld
        have hHeld := hHeld2
        clear hHeld2
        try simp only [Act.put, List.setIfInBounds_toArray, List.set_cons_zero, List.set_cons_succ]
        refine wpAnyH_ready (rs := [8]) (by kernel_rfl) (by simp) ?_
        refine AllReadyH.cons (o := { dst := some 20, op := Go.Op.call { callee := Go.Callee.builtin Go.Builtin.append, args := #[Go.Operand.tmp 16, Go.Operand.tmp 19], argTypes := #[37, 37] }, type := 37, pos := "ref.go:30", after := #[{ on := 4, ground := Go.Ground.data }, { on := 7, ground := Go.Ground.data }, { on := 5, ground := Go.Ground.chain }], guard := none }) rfl (fun K hK => ?_) AllReadyH.nil
        refine step_append_at rfl (.tmp 16) (.tmp 19) _ rfl w.heap.size 65 i1 z1 2 32 Try.underlying37 hi1 hz1 hz2 hz3 hz4 (by decide) _ k (scells P) rfl (HO1.out _) (some ⟨w1.heap.size, 0, none⟩) 1 1 (w1.heap.size + 1) [.slice (some ⟨wr.heap.size, 0, none⟩) 512 512, .bool false] rfl rfl (by exact Row.made w1 _ _) (rsec_one _ _ _ _) ?c1 ?c2 ?c3 ?_
        case c1 => unfold maxLen; omega
        case c2 => omega
        case c3 => rw [World.size_alloc]; have h5 := HB1.out.size; omega
        intro v' w3 hown' hg hat
        obtain ⟨hk3, hk4, hW3⟩ := rnew_mid HR.out HROW.out HB1.out (HV1.out _) hg
        have c3 : w3.cell? ⟨w.heap.size, 0, none⟩ = some (.slice As k cs) := hW3.cell 0
        have z3 : w3.frozen? ⟨w.heap.size, 0, none⟩ = false := hW3.frozen 0
        have HF := Lib.hid (rnew_fin HR.out (by omega) HP.out HROW.out HE.out HZ1.out HB1.out (HV1.out _) hown' hg)
        obtain ⟨Av, cv, rfl, _, _⟩ := own_form hown'
        clear hown' hg hat hk3 hk4 hW3
        refine hK.out _ _ (by trivial) (fun hHeld2 => ?_)
        clear hK K hHeld
        have hHeld := hHeld2
        clear hHeld2
        try simp only [Act.put, List.setIfInBounds_toArray, List.set_cons_zero, List.set_cons_succ]
        refine wpAnyH_take (i := 9) (oi := { dst := some 21, op := Go.Op.nilCheck (Go.Operand.tmp 12), type := 0, pos := "ref.go:30", after := #[{ on := 0, ground := Go.Ground.data }, { on := 0, ground := Go.Ground.phase }, { on := 1, ground := Go.Ground.phase }, { on := 2, ground := Go.Ground.phase }, { on := 3, ground := Go.Ground.phase }, { on := 4, ground := Go.Ground.phase }, { on := 5, ground := Go.Ground.phase }, { on := 6, ground := Go.Ground.phase }, { on := 7, ground := Go.Ground.phase }, { on := 8, ground := Go.Ground.phase }], guard := none }) (v := ?_) rfl (by kernel_rfl) (by kernel_rfl) (by kernel_rfl) (fun _ _ _ h => h) (Or.inl ⟨by rfl, ?_⟩) (by assumption) ?_
        rotate_left
        · intro W hSw
          try dsimp only at hSw
          go_simp
          all_goals (with_reducible rfl)
        try simp only [Act.put, List.setIfInBounds_toArray, List.set_cons_zero, List.set_cons_succ]
        refine wpAnyH_take (i := 10) (oi := { dst := some 22, op := Go.Op.fieldAddr 40 (Go.Operand.tmp 21) 0, type := 0, pos := "ref.go:30", after := #[{ on := 9, ground := Go.Ground.data }, { on := 0, ground := Go.Ground.phase }, { on := 1, ground := Go.Ground.phase }, { on := 2, ground := Go.Ground.phase }, { on := 3, ground := Go.Ground.phase }, { on := 4, ground := Go.Ground.phase }, { on := 5, ground := Go.Ground.phase }, { on := 6, ground := Go.Ground.phase }, { on := 7, ground := Go.Ground.phase }, { on := 8, ground := Go.Ground.phase }], guard := none }) (v := ?_) rfl (by kernel_rfl) (by kernel_rfl) (by kernel_rfl) (fun _ _ _ h => h) (Or.inl ⟨by rfl, ?_⟩) (by assumption) ?_
        rotate_left
        · intro W hSw
          try dsimp only at hSw
          go_simp
          all_goals (with_reducible rfl)
        try simp only [Act.put, List.setIfInBounds_toArray, List.set_cons_zero, List.set_cons_succ]
        refine wpAnyH_ready (rs := [11]) (by kernel_rfl) (by simp) ?_
        refine AllReadyH.cons (o := { dst := none, op := Go.Op.store 37 (Go.Operand.tmp 22) (Go.Operand.tmp 20), type := 0, pos := "ref.go:30", after := #[{ on := 10, ground := Go.Ground.data }, { on := 8, ground := Go.Ground.data }, { on := 8, ground := Go.Ground.chain }, { on := 0, ground := Go.Ground.phase }, { on := 1, ground := Go.Ground.phase }, { on := 2, ground := Go.Ground.phase }, { on := 3, ground := Go.Ground.phase }, { on := 4, ground := Go.Ground.phase }, { on := 5, ground := Go.Ground.phase }, { on := 6, ground := Go.Ground.phase }, { on := 7, ground := Go.Ground.phase }, { on := 8, ground := Go.Ground.phase }], guard := none }) rfl (fun K hK => ?_) AllReadyH.nil
        go_simp
        refine hK.out _ _ (by trivial) (fun hHeld2 => ?_)
        clear hK K hHeld
        have hHeld := hHeld2
        clear hHeld2
        try simp only [Act.put, List.setIfInBounds_toArray, List.set_cons_zero, List.set_cons_succ]
        refine wpAnyH_done (by kernel_rfl) ?_ _
        clear hHeld c3 z3
        go_wp2
        exact ⟨⟨k + 1, _, by omega, by go_num, HF.out.1, HB.out.trans HF.out.2⟩, by simp [intOf]; omega⟩
      · go_simp
        refine HZ.out.mono ?_
        rintro e w1 ⟨rfl, hz1, hb1⟩
        have hb1 : Below wr.heap.size wr w1 := ⟨hb1.os, hb1.tape, hb1.output, hb1.size, hb1.block⟩
        have HZ1 := Lib.hid (show Whole w1 wr.heap.size 5 (zero512.map bc) from hz1)
        have HB1 := Lib.hid hb1
        have hV1 := fun (o : Obj) => (Below.refl w1.heap.size w1).alloc (Nat.le_refl _) o
        have hO1 := fun (o : Obj) => own_keep (w' := w1.alloc o) HROW.out fun g hg => (Below.heap_alloc w1 _ g (Nat.lt_of_lt_of_le (HROW.out.lt g hg).2 hb1.size)).trans (hb1.block g (HROW.out.lt g hg).2)
        have c0w : w1.cell? ⟨w.heap.size, 0, none⟩ = some (.slice As k cs) := (hb1.cell (p := ⟨w.heap.size, 0, none⟩) HR.out.blk.lt).trans c0
        have c0v := fun (o : Obj) => (World.cell?_alloc_lt w1 o _ (Nat.lt_of_lt_of_le HR.out.blk.lt hb1.size)).trans c0w
        have HV1 := Lib.hid hV1
        have HO1 := Lib.hid hO1
        clear hz1 hb1 hV1 hO1
        go_wp2_with fail
        refine hK.out _ _ (by trivial) (fun hHeld2 => ?_)
        clear hK K hHeld
        have hHeld := hHeld2
        clear hHeld2
        try simp only [Act.put, List.setIfInBounds_toArray, List.set_cons_zero, List.set_cons_succ]
        refine wpAnyH_take (i := 6) (oi := { dst := some 18, op := Go.Op.build 65 #[(0, Go.Operand.tmp 17)], type := 65, pos := "ref.go:30", after := #[{ on := 5, ground := Go.Ground.data }], guard := none }) (v := ?_) rfl (by kernel_rfl) (by kernel_rfl) (by kernel_rfl) (fun _ _ _ h => h) (Or.inl ⟨by rfl, ?_⟩) (by assumption) ?_
        rotate_left
        · intro W hSw
          try dsimp only at hSw
          go_simp
          all_goals (with_reducible rfl)
        try simp only [Act.put, List.setIfInBounds_toArray, List.set_cons_zero, List.set_cons_succ]
        refine wpAnyH_ready (rs := [4, 7]) (by kernel_rfl) (by simp) ?_
        refine AllReadyH.cons (o := { dst := some 16, op := Go.Op.load 37 (Go.Operand.tmp 15), type := 37, pos := "ref.go:30", after := #[{ on := 3, ground := Go.Ground.data }], guard := none }) rfl (fun K hK => ?_) (AllReadyH.cons (o := { dst := some 19, op := Go.Op.buildSlice 37 1 #[(0, Go.Operand.tmp 18)], type := 37, pos := "ref.go:30", after := #[{ on := 6, ground := Go.Ground.data }], guard := none }) rfl (fun K hK => ?_) AllReadyH.nil)
        · go_simp
          refine hK.out _ _ (by trivial) (fun hHeld2 => ?_)
          clear hK K hHeld
          have hHeld := hHeld2
          clear hHeld2
          try simp only [Act.put, List.setIfInBounds_toArray, List.set_cons_zero, List.set_cons_succ]
          refine wpAnyH_ready (rs := [7]) (by kernel_rfl) (by simp) ?_
          refine AllReadyH.cons (o := { dst := some 19, op := Go.Op.buildSlice 37 1 #[(0, Go.Operand.tmp 18)], type := 37, pos := "ref.go:30", after := #[{ on := 6, ground := Go.Ground.data }], guard := none }) rfl (fun K hK => ?_) AllReadyH.nil
          refine step_buildSlice1 rfl 37 65 (.tmp 18) rfl [.slice (some ⟨wr.heap.size, 0, none⟩) 512 512, .bool false] rfl Try.underlying37 rsec_row2 (by show 0 < 2; decide) (by show 2 ≤ 2 ^ 24; decide) ?_
          refine hK.out _ _ (by trivial) (fun hHeld2 => ?_)
          clear hK K hHeld
          have hHeld := hHeld2
          clear hHeld2
          try simp only [Act.put, List.setIfInBounds_toArray, List.set_cons_zero, List.set_cons_succ]
          refine wpAnyH_ready (rs := [8]) (by kernel_rfl) (by simp) ?_
          refine AllReadyH.cons (o := { dst := some 20, op := Go.Op.call { callee := Go.Callee.builtin Go.Builtin.append, args := #[Go.Operand.tmp 16, Go.Operand.tmp 19], argTypes := #[37, 37] }, type := 37, pos := "ref.go:30", after := #[{ on := 4, ground := Go.Ground.data }, { on := 7, ground := Go.Ground.data }, { on := 5, ground := Go.Ground.chain }], guard := none }) rfl (fun K hK => ?_) AllReadyH.nil
          refine step_append_at rfl (.tmp 16) (.tmp 19) _ rfl w.heap.size 65 i1 z1 2 32 Try.underlying37 hi1 hz1 hz2 hz3 hz4 (by decide) _ k (scells P) rfl (HO1.out _) (some ⟨w1.heap.size, 0, none⟩) 1 1 (w1.heap.size + 1) [.slice (some ⟨wr.heap.size, 0, none⟩) 512 512, .bool false] rfl rfl (by exact Row.made w1 _ _) (rsec_one _ _ _ _) ?c1 ?c2 ?c3 ?_
          case c1 => unfold maxLen; omega
          case c2 => omega
          case c3 => rw [World.size_alloc]; have h5 := HB1.out.size; omega
          intro v' w3 hown' hg hat
          obtain ⟨hk3, hk4, hW3⟩ := rnew_mid HR.out HROW.out HB1.out (HV1.out _) hg
          have c3 : w3.cell? ⟨w.heap.size, 0, none⟩ = some (.slice As k cs) := hW3.cell 0
          have z3 : w3.frozen? ⟨w.heap.size, 0, none⟩ = false := hW3.frozen 0
          have HF := Lib.hid (rnew_fin HR.out (by omega) HP.out HROW.out HE.out HZ1.out HB1.out (HV1.out _) hown' hg)
          obtain ⟨Av, cv, rfl, _, _⟩ := own_form hown'
          clear hown' hg hat hk3 hk4 hW3
          refine hK.out _ _ (by trivial) (fun hHeld2 => ?_)
          clear hK K hHeld
          have hHeld := hHeld2
          clear hHeld2
          try simp only [Act.put, List.setIfInBounds_toArray, List.set_cons_zero, List.set_cons_succ]
          refine wpAnyH_take (i := 9) (oi := { dst := some 21, op := Go.Op.nilCheck (Go.Operand.tmp 12), type := 0, pos := "ref.go:30", after := #[{ on := 0, ground := Go.Ground.data }, { on := 0, ground := Go.Ground.phase }, { on := 1, ground := Go.Ground.phase }, { on := 2, ground := Go.Ground.phase }, { on := 3, ground := Go.Ground.phase }, { on := 4, ground := Go.Ground.phase }, { on := 5, ground := Go.Ground.phase }, { on := 6, ground := Go.Ground.phase }, { on := 7, ground := Go.Ground.phase }, { on := 8, ground := Go.Ground.phase }], guard := none }) (v := ?_) rfl (by kernel_rfl) (by kernel_rfl) (by kernel_rfl) (fun _ _ _ h => h) (Or.inl ⟨by rfl, ?_⟩) (by assumption) ?_
          rotate_left
          · intro W hSw
            try dsimp only at hSw
            go_simp
            all_goals (with_reducible rfl)
          try simp only [Act.put, List.setIfInBounds_toArray, List.set_cons_zero, List.set_cons_succ]
          refine wpAnyH_take (i := 10) (oi := { dst := some 22, op := Go.Op.fieldAddr 40 (Go.Operand.tmp 21) 0, type := 0, pos := "ref.go:30", after := #[{ on := 9, ground := Go.Ground.data }, { on := 0, ground := Go.Ground.phase }, { on := 1, ground := Go.Ground.phase }, { on := 2, ground := Go.Ground.phase }, { on := 3, ground := Go.Ground.phase }, { on := 4, ground := Go.Ground.phase }, { on := 5, ground := Go.Ground.phase }, { on := 6, ground := Go.Ground.phase }, { on := 7, ground := Go.Ground.phase }, { on := 8, ground := Go.Ground.phase }], guard := none }) (v := ?_) rfl (by kernel_rfl) (by kernel_rfl) (by kernel_rfl) (fun _ _ _ h => h) (Or.inl ⟨by rfl, ?_⟩) (by assumption) ?_
          rotate_left
          · intro W hSw
            try dsimp only at hSw
            go_simp
            all_goals (with_reducible rfl)
          try simp only [Act.put, List.setIfInBounds_toArray, List.set_cons_zero, List.set_cons_succ]
          refine wpAnyH_ready (rs := [11]) (by kernel_rfl) (by simp) ?_
          refine AllReadyH.cons (o := { dst := none, op := Go.Op.store 37 (Go.Operand.tmp 22) (Go.Operand.tmp 20), type := 0, pos := "ref.go:30", after := #[{ on := 10, ground := Go.Ground.data }, { on := 8, ground := Go.Ground.data }, { on := 8, ground := Go.Ground.chain }, { on := 0, ground := Go.Ground.phase }, { on := 1, ground := Go.Ground.phase }, { on := 2, ground := Go.Ground.phase }, { on := 3, ground := Go.Ground.phase }, { on := 4, ground := Go.Ground.phase }, { on := 5, ground := Go.Ground.phase }, { on := 6, ground := Go.Ground.phase }, { on := 7, ground := Go.Ground.phase }, { on := 8, ground := Go.Ground.phase }], guard := none }) rfl (fun K hK => ?_) AllReadyH.nil
          go_simp
          refine hK.out _ _ (by trivial) (fun hHeld2 => ?_)
          clear hK K hHeld
          have hHeld := hHeld2
          clear hHeld2
          try simp only [Act.put, List.setIfInBounds_toArray, List.set_cons_zero, List.set_cons_succ]
          refine wpAnyH_done (by kernel_rfl) ?_ _
          clear hHeld c3 z3
          go_wp2
          exact ⟨⟨k + 1, _, by omega, by go_num, HF.out.1, HB.out.trans HF.out.2⟩, by simp [intOf]; omega⟩
        · refine step_buildSlice1 rfl 37 65 (.tmp 18) rfl [.slice (some ⟨wr.heap.size, 0, none⟩) 512 512, .bool false] rfl Try.underlying37 rsec_row2 (by show 0 < 2; decide) (by show 2 ≤ 2 ^ 24; decide) ?_
          refine hK.out _ _ (by trivial) (fun hHeld2 => ?_)
          clear hK K hHeld
          have hHeld := hHeld2
          clear hHeld2
          try simp only [Act.put, List.setIfInBounds_toArray, List.set_cons_zero, List.set_cons_succ]
          have c0y := c0v (.cells ([.slice (some ⟨wr.heap.size, 0, none⟩) 512 512, .bool false] : List Value).toArray 65)
          refine wpAnyH_ready (rs := [4]) (by kernel_rfl) (by simp) ?_
          refine AllReadyH.cons (o := { dst := some 16, op := Go.Op.load 37 (Go.Operand.tmp 15), type := 37, pos := "ref.go:30", after := #[{ on := 3, ground := Go.Ground.data }], guard := none }) rfl (fun K hK => ?_) AllReadyH.nil
          go_simp
          refine hK.out _ _ (by trivial) (fun hHeld2 => ?_)
          clear hK K hHeld
          have hHeld := hHeld2
          clear hHeld2
          try simp only [Act.put, List.setIfInBounds_toArray, List.set_cons_zero, List.set_cons_succ]
          refine wpAnyH_ready (rs := [8]) (by kernel_rfl) (by simp) ?_
          refine AllReadyH.cons (o := { dst := some 20, op := Go.Op.call { callee := Go.Callee.builtin Go.Builtin.append, args := #[Go.Operand.tmp 16, Go.Operand.tmp 19], argTypes := #[37, 37] }, type := 37, pos := "ref.go:30", after := #[{ on := 4, ground := Go.Ground.data }, { on := 7, ground := Go.Ground.data }, { on := 5, ground := Go.Ground.chain }], guard := none }) rfl (fun K hK => ?_) AllReadyH.nil
          refine step_append_at rfl (.tmp 16) (.tmp 19) _ rfl w.heap.size 65 i1 z1 2 32 Try.underlying37 hi1 hz1 hz2 hz3 hz4 (by decide) _ k (scells P) rfl (HO1.out _) (some ⟨w1.heap.size, 0, none⟩) 1 1 (w1.heap.size + 1) [.slice (some ⟨wr.heap.size, 0, none⟩) 512 512, .bool false] rfl rfl (by exact Row.made w1 _ _) (rsec_one _ _ _ _) ?c1 ?c2 ?c3 ?_
          case c1 => unfold maxLen; omega
          case c2 => omega
          case c3 => rw [World.size_alloc]; have h5 := HB1.out.size; omega
          intro v' w3 hown' hg hat
          obtain ⟨hk3, hk4, hW3⟩ := rnew_mid HR.out HROW.out HB1.out (HV1.out _) hg
          have c3 : w3.cell? ⟨w.heap.size, 0, none⟩ = some (.slice As k cs) := hW3.cell 0
          have z3 : w3.frozen? ⟨w.heap.size, 0, none⟩ = false := hW3.frozen 0
          have HF := Lib.hid (rnew_fin HR.out (by omega) HP.out HROW.out HE.out HZ1.out HB1.out (HV1.out _) hown' hg)
          obtain ⟨Av, cv, rfl, _, _⟩ := own_form hown'
          clear hown' hg hat hk3 hk4 hW3
          refine hK.out _ _ (by trivial) (fun hHeld2 => ?_)
          clear hK K hHeld
          have hHeld := hHeld2
          clear hHeld2
          try simp only [Act.put, List.setIfInBounds_toArray, List.set_cons_zero, List.set_cons_succ]
          refine wpAnyH_take (i := 9) (oi := { dst := some 21, op := Go.Op.nilCheck (Go.Operand.tmp 12), type := 0, pos := "ref.go:30", after := #[{ on := 0, ground := Go.Ground.data }, { on := 0, ground := Go.Ground.phase }, { on := 1, ground := Go.Ground.phase }, { on := 2, ground := Go.Ground.phase }, { on := 3, ground := Go.Ground.phase }, { on := 4, ground := Go.Ground.phase }, { on := 5, ground := Go.Ground.phase }, { on := 6, ground := Go.Ground.phase }, { on := 7, ground := Go.Ground.phase }, { on := 8, ground := Go.Ground.phase }], guard := none }) (v := ?_) rfl (by kernel_rfl) (by kernel_rfl) (by kernel_rfl) (fun _ _ _ h => h) (Or.inl ⟨by rfl, ?_⟩) (by assumption) ?_
          rotate_left
          · intro W hSw
            try dsimp only at hSw
            go_simp
            all_goals (with_reducible rfl)
          try simp only [Act.put, List.setIfInBounds_toArray, List.set_cons_zero, List.set_cons_succ]
          refine wpAnyH_take (i := 10) (oi := { dst := some 22, op := Go.Op.fieldAddr 40 (Go.Operand.tmp 21) 0, type := 0, pos := "ref.go:30", after := #[{ on := 9, ground := Go.Ground.data }, { on := 0, ground := Go.Ground.phase }, { on := 1, ground := Go.Ground.phase }, { on := 2, ground := Go.Ground.phase }, { on := 3, ground := Go.Ground.phase }, { on := 4, ground := Go.Ground.phase }, { on := 5, ground := Go.Ground.phase }, { on := 6, ground := Go.Ground.phase }, { on := 7, ground := Go.Ground.phase }, { on := 8, ground := Go.Ground.phase }], guard := none }) (v := ?_) rfl (by kernel_rfl) (by kernel_rfl) (by kernel_rfl) (fun _ _ _ h => h) (Or.inl ⟨by rfl, ?_⟩) (by assumption) ?_
          rotate_left
          · intro W hSw
            try dsimp only at hSw
            go_simp
            all_goals (with_reducible rfl)
          try simp only [Act.put, List.setIfInBounds_toArray, List.set_cons_zero, List.set_cons_succ]
          refine wpAnyH_ready (rs := [11]) (by kernel_rfl) (by simp) ?_
          refine AllReadyH.cons (o := { dst := none, op := Go.Op.store 37 (Go.Operand.tmp 22) (Go.Operand.tmp 20), type := 0, pos := "ref.go:30", after := #[{ on := 10, ground := Go.Ground.data }, { on := 8, ground := Go.Ground.data }, { on := 8, ground := Go.Ground.chain }, { on := 0, ground := Go.Ground.phase }, { on := 1, ground := Go.Ground.phase }, { on := 2, ground := Go.Ground.phase }, { on := 3, ground := Go.Ground.phase }, { on := 4, ground := Go.Ground.phase }, { on := 5, ground := Go.Ground.phase }, { on := 6, ground := Go.Ground.phase }, { on := 7, ground := Go.Ground.phase }, { on := 8, ground := Go.Ground.phase }], guard := none }) rfl (fun K hK => ?_) AllReadyH.nil
          go_simp
          refine hK.out _ _ (by trivial) (fun hHeld2 => ?_)
          clear hK K hHeld
          have hHeld := hHeld2
          clear hHeld2
          try simp only [Act.put, List.setIfInBounds_toArray, List.set_cons_zero, List.set_cons_succ]
          refine wpAnyH_done (by kernel_rfl) ?_ _
          clear hHeld c3 z3
          go_wp2
          exact ⟨⟨k + 1, _, by omega, by go_num, HF.out.1, HB.out.trans HF.out.2⟩, by simp [intOf]; omega⟩

    · obtain rfl : k = n := by omega
      clear hbw hr
      go_wp2
      go_ret
      exact ⟨s, rfl, HR.out, HB.out⟩
theorem RefAt.base {w : World} {base b0 : Nat} {m : RLies} {x : Dv} (h : RefAt w base m x) (hb : b0 ≤ base) : RefAt w b0 m x := by
  obtain ⟨P, h1, h2, h3⟩ := h.sure
  obtain ⟨vs, hv⟩ := h.uns
  exact ⟨h.blk, ⟨P, h1, own_mono h2 hb, fun p hp => own_mono (h3 p hp) hb⟩, ⟨vs, hv.len, own_mono hv.row hb, fun j hj hj' => own_mono (hv.each j hj hj') hb⟩, Nat.le_trans hb h.lr, h.ok⟩
theorem rh_new (w0 w : World) (hb : Below w0.heap.size w0 w) (n : Nat) (h2 : n ≤ 4096) : Calls Try.prog 9 #[.int .i64 n] w (fun e w' => ∃ R, e = .returned (.pointer (some ⟨R, 0, none⟩)) ∧ RHolds w0 w' R (newDv n) ∧ Below w.heap.size w w') :=
  (ref_new w n h2).mono fun _ _ ⟨s, he, hr, hb2⟩ => ⟨_, he, ⟨⟨w.heap.size, s, .slice none 0 0⟩, rfl, hr.base hb.size, hb.trans (hb2.mono hb.size)⟩, hb2⟩

end Go.Proofs.Ytledoajhjkfaoaa
