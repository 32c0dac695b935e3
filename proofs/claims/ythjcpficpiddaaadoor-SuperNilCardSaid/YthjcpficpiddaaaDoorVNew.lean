/-
  The contract of New.
-/
import Derived.Test.YthjcpficpiddaaaDoorVSettle
namespace Go.Proofs.YthjcpficpiddaaaDoor
open Go.RowKit

theorem made_secs (n : Nat) : madeCells secZero.cells.toArray (n * 513) = (cellsS (List.replicate n secZero)).toArray := by
  apply Array.ext
  · rw [size_madeCells, List.size_toArray]
    have h : okS (List.replicate n secZero) := fun s hs => by rw [(List.mem_replicate.1 hs).2]; exact length_zero512
    rw [h.length, List.length_replicate]
  · intro i h1 h2
    rw [size_madeCells] at h1
    have hn : i / 513 < n := by omega
    have hl : secZero.cells.length = 513 := Sec.length_cells length_zero512
    have hm : i % 513 < secZero.cells.length := by rw [hl]; exact Nat.mod_lt _ (by decide)
    have h3 := cellsS_get (l := List.replicate n secZero) (fun s hs => by rw [(List.mem_replicate.1 hs).2]; exact length_zero512) (i := i / 513) (by rw [List.length_replicate]; exact hn) (j := i % 513) (v := secZero.cells[i % 513]'hm) (by rw [List.getElem_replicate]; exact List.getElem?_eq_getElem hm)
    rw [show i / 513 * 513 + i % 513 = i by omega] at h3
    obtain ⟨h4, h5⟩ := List.getElem?_eq_some_iff.1 h3
    simp only [List.getElem_toArray, h5]
    unfold madeCells
    simp only [Array.getElem_map, Array.getElem_range, List.size_toArray, hl]
    rw [getElem!_pos _ _ (by simpa using hm)]
    simp
/-- 'make([]T, n)' of elements of many cells, as one step of a region that draws. -/
theorem step_make_rows {P : Program} {ops : Array Oper} {o : Oper} {a : Act} {w : World} {K : Act → World → Prop} {Q : Exit → Act → World → Prop} {E : Prop} (hg : o.guard = none) (t : TypeId) (l c : Operand) (ho : o.op = .makeSlice t l c) (e : TypeId) (size bytes : Nat) (z cs : List Value) (n : Nat)
    (hl : a.eval l = .int .i64 n) (hc : a.eval c = .int .i64 n) (hu : P.underlying t = some (.slice e)) (hz : (P.info? e).map (·.zero) = some (some (.agg z.toArray))) (hs : (P.info? e).map (fun i => (i.size, i.bytes)) = some (size, bytes)) (hb : bytes * n ≤ 281474976710656) (hn : n ≤ 9223372036854775807) (hm : madeCells z.toArray (n * size) = cs.toArray)
    (h : K (a.put o.dst (.slice (some ⟨w.heap.size, 0, none⟩) n n)) (w.alloc (.cells cs.toArray e))) : if Region.wanted o (yielded ops a.tmps) = true then Oper.wp P o a w K Q else E := by
  have hw : Region.wanted o (yielded ops a.tmps) = true := by simp [Region.wanted, hg]
  rw [if_pos hw]
  cases hi : P.info? e with
  | none => simp [hi] at hs
  | some i =>
    simp only [hi, Option.map_some, Option.some.injEq, Prod.mk.injEq] at hz hs
    obtain ⟨hs1, hs2⟩ := hs
    have hr := run_make (P := P) w t e i _ hu hi hz .i64 .i64 n n (by omega) (Int.le_refl _) (by rw [hs2]; omega) (by omega)
    rw [hs1] at hr
    simp only [Int.toNat_natCast, Value.cells, hm] at hr
    unfold Oper.wp execOp
    simp only [ho, hl, hc, Sem.run_bind, hr, Result.andThen_ok]
    exact h
def NewOut (w : World) (n : Nat) (e : Ending) (w' : World) : Prop :=
  ∃ m : Lies, e = .returned (.tuple #[.pointer (some ⟨m.d, 0, none⟩), .int .i64 0]) ∧ DevAt w' w.heap.size m (newDv n) ∧ Below w.heap.size w w'
theorem new_ok (n : Nat) (hn : n ≤ 4096) : (newDv n).ok := ⟨fun s hs => (by rw [(List.mem_replicate.1 hs).2]; exact length_zero512), fun u hu => (by cases hu), (by show (List.replicate n secZero).length ≤ 4096; rw [List.length_replicate]; exact hn), Nat.zero_le _⟩
/-- Two blocks of sectors, in whatever order, and the device's own. -/
theorem new_fin (w : World) (n : Nat) (hn : n ≤ 4096) (bn bs : Nat) (h1 : bn = w.heap.size ∧ bs = w.heap.size + 1 ∨ bn = w.heap.size + 1 ∧ bs = w.heap.size) (V : World)
    (hV : V = ((w.alloc (.cells (cellsS (List.replicate n secZero)).toArray 68)).alloc (.cells (cellsS (List.replicate n secZero)).toArray 68)).alloc (.cells #[.slice (some ⟨bn, 0, none⟩) n n, .slice (some ⟨bs, 0, none⟩) n n, .slice none 0 0, .int .i64 0, .bool false] 42)) :
    DevAt V w.heap.size ⟨w.heap.size + 2, bn, n, bs, n, .slice none 0 0⟩ (newDv n) := by
  have hl : (List.replicate n secZero).length = n := List.length_replicate ..
  have hok := new_ok n hn
  have hcl : (cellsS (List.replicate n secZero)).length = n * 513 := by rw [(show okS (List.replicate n secZero) from hok.s).length, hl]
  have hb0 : V.heap[w.heap.size]? = some (.cells (cellsS (List.replicate n secZero)).toArray 68 (0, 0)) := by
    rw [hV, Below.heap_alloc _ _ _ (by simp; omega), heap_alloc2_old]
  have hb1 : V.heap[w.heap.size + 1]? = some (.cells (cellsS (List.replicate n secZero)).toArray 68 (0, 0)) := by
    rw [hV, Below.heap_alloc _ _ _ (by simp), heap_alloc2_new]
  have hb2 : V.heap[w.heap.size + 2]? = some (.cells #[.slice (some ⟨bn, 0, none⟩) n n, .slice (some ⟨bs, 0, none⟩) n n, .slice none 0 0, .int .i64 0, .bool false] 42 (0, 0)) := by
    have h := heap_alloc_new ((w.alloc (.cells (cellsS (List.replicate n secZero)).toArray 68)).alloc (.cells (cellsS (List.replicate n secZero)).toArray 68)) (.cells #[.slice (some ⟨bn, 0, none⟩) n n, .slice (some ⟨bs, 0, none⟩) n n, .slice none 0 0, .int .i64 0, .bool false] 42)
    rw [World.size_alloc, World.size_alloc] at h
    rw [hV]
    exact h
  have hrow : ∀ b, (b = w.heap.size ∨ b = w.heap.size + 1) → V.ownsRow w.heap.size 68 513 (.slice (some ⟨b, 0, none⟩) n n) n (cellsS (List.replicate n secZero)) := fun b hb => by
    refine ⟨hcl, .inr ⟨b, n, _, rfl, by omega, ?_, Nat.le_refl _, by unfold maxLen; omega, by rw [List.size_toArray]; exact hcl, by rw [← hcl]; simp⟩⟩
    rcases hb with rfl | rfl
    · exact hb0
    · exact hb1
  refine ⟨?_, ?_, ?_, World.ownsRow_nil _ _ _ _, by show bn ≠ bs; omega, by show w.heap.size ≤ w.heap.size + 2; omega, hok⟩
  · show V.heap[w.heap.size + 2]? = some (.cells (devCells _ (List.replicate n secZero).length 0 false).toArray _ (0, 0))
    rw [hl]
    exact hb2
  · show V.ownsRow _ _ 513 (.slice (some ⟨bn, 0, none⟩) (List.replicate n secZero).length n) (List.replicate n secZero).length (cellsS (List.replicate n secZero))
    rw [hl]
    exact hrow bn (by omega)
  · show V.ownsRow _ _ 513 (.slice (some ⟨bs, 0, none⟩) (List.replicate n secZero).length n) (List.replicate n secZero).length (cellsS (List.replicate n secZero))
    rw [hl]
    exact hrow bs (by omega)

set_option maxHeartbeats 400000 in
theorem dev_new_bad (w : World) (k : Int) (h : k < 1 ∨ 4096 < k) : Calls Tryd.prog 5 #[.int .i64 k] w (Told w (.tuple #[.pointer none, .int .i64 1])) := by
  by_cases h1 : k < 1
  · have d1 : decide (k < 1) = true := by simp; omega
    go_enter Tryd.func5, Tryd.ntmps5
    go_wp2
    go_ret2
    exact ⟨rfl, rfl⟩
  · have d1 : decide (k < 1) = false := by simp; omega
    have d2 : decide (4096 < k) = true := by simp; omega
    go_enter Tryd.func5, Tryd.ntmps5
    go_wp2
    go_ret2
    exact ⟨rfl, rfl⟩
set_option maxRecDepth 4000 in
set_option maxHeartbeats 1000000 in
theorem dev_new (w : World) (n : Nat) (h1 : 1 ≤ n) (h2 : n ≤ 4096) : Calls Tryd.prog 5 #[.int .i64 n] w (NewOut w n) := by
  have d1 : decide ((n : Int) < 1) = false := by simp; omega
  have d2 : decide (4096 < (n : Int)) = false := by simp; omega
  go_enter Tryd.func5, Tryd.ntmps5
  go_wp2
  refine wp_region_held_drew (S := fun _ => True) (by kernel_rfl) trivial (fun hHeld => ?_)
  refine wpAnyH_take (i := 0) (oi := { dst := some 10, op := Go.Op.move (Go.Operand.tmp 0), type := 3, pos := "flash.go:36", after := #[], guard := none }) (v := ?_) rfl (by kernel_rfl) (by kernel_rfl) (by kernel_rfl) (fun _ _ _ h => h) (Or.inl ⟨by rfl, ?_⟩) (by assumption) ?_
  rotate_left
  · intro W hSw
    try dsimp only at hSw
    go_simp
    all_goals (with_reducible rfl)
  try simp only [Act.put, List.setIfInBounds_toArray, List.set_cons_zero, List.set_cons_succ]
  refine wpAnyH_take (i := 2) (oi := { dst := some 12, op := Go.Op.move (Go.Operand.tmp 0), type := 3, pos := "flash.go:36", after := #[], guard := none }) (v := ?_) rfl (by kernel_rfl) (by kernel_rfl) (by kernel_rfl) (fun _ _ _ h => h) (Or.inl ⟨by rfl, ?_⟩) (by assumption) ?_
  rotate_left
  · intro W hSw
    try dsimp only at hSw
    go_simp
    all_goals (with_reducible rfl)
  try simp only [Act.put, List.setIfInBounds_toArray, List.set_cons_zero, List.set_cons_succ]
  refine wpAnyH_ready (rs := [1, 3]) (by kernel_rfl) (by simp) ?_
  refine AllReadyH.cons (o := { dst := some 11, op := Go.Op.makeSlice 39 (Go.Operand.tmp 10) (Go.Operand.tmp 10), type := 39, pos := "flash.go:36", after := #[{ on := 0, ground := Go.Ground.data }, { on := 0, ground := Go.Ground.data }], guard := none }) rfl (fun K hK => ?_) (AllReadyH.cons (o := { dst := some 13, op := Go.Op.makeSlice 39 (Go.Operand.tmp 12) (Go.Operand.tmp 12), type := 39, pos := "flash.go:36", after := #[{ on := 2, ground := Go.Ground.data }, { on := 2, ground := Go.Ground.data }], guard := none }) rfl (fun K hK => ?_) AllReadyH.nil)
  · refine step_make_rows rfl 39 (.tmp 10) (.tmp 10) rfl 68 513 513 secZero.cells (cellsS (List.replicate n secZero)) n rfl rfl Tryd.underlying39 sec_zero sec_info (by omega) (by omega) (made_secs n) ?_
    refine hK.out _ _ trivial (fun hHeld2 => ?_)
    clear hK K hHeld
    have hHeld := hHeld2
    clear hHeld2
    try simp only [Act.put, List.setIfInBounds_toArray, List.set_cons_zero, List.set_cons_succ]
    refine wpAnyH_ready (rs := [3]) (by kernel_rfl) (by simp) ?_
    refine AllReadyH.cons (o := { dst := some 13, op := Go.Op.makeSlice 39 (Go.Operand.tmp 12) (Go.Operand.tmp 12), type := 39, pos := "flash.go:36", after := #[{ on := 2, ground := Go.Ground.data }, { on := 2, ground := Go.Ground.data }], guard := none }) rfl (fun K hK => ?_) AllReadyH.nil
    refine step_make_rows rfl 39 (.tmp 12) (.tmp 12) rfl 68 513 513 secZero.cells (cellsS (List.replicate n secZero)) n rfl rfl Tryd.underlying39 sec_zero sec_info (by omega) (by omega) (made_secs n) ?_
    refine hK.out _ _ (by trivial) (fun hHeld2 => ?_)
    clear hK K hHeld
    have hHeld := hHeld2
    clear hHeld2
    try simp only [Act.put, List.setIfInBounds_toArray, List.set_cons_zero, List.set_cons_succ]
    refine wpAnyH_take (i := 4) (oi := { dst := some 14, op := Go.Op.build 42 #[(0, Go.Operand.tmp 11), (1, Go.Operand.tmp 13)], type := 42, pos := "flash.go:36", after := #[{ on := 1, ground := Go.Ground.data }, { on := 3, ground := Go.Ground.data }], guard := none }) (v := ?_) rfl (by kernel_rfl) (by kernel_rfl) (by kernel_rfl) (fun _ _ _ h => h) (Or.inl ⟨by rfl, ?_⟩) (by assumption) ?_
    rotate_left
    · intro W hSw
      try dsimp only at hSw
      go_simp
      all_goals (with_reducible rfl)
    try simp only [Act.put, List.setIfInBounds_toArray, List.set_cons_zero, List.set_cons_succ]
    refine wpAnyH_ready (rs := [5]) (by kernel_rfl) (by simp) ?_
    refine AllReadyH.cons (o := { dst := some 15, op := Go.Op.box 42 (Go.Operand.tmp 14), type := 24, pos := "flash.go:36", after := #[{ on := 4, ground := Go.Ground.data }], guard := none }) rfl (fun K hK => ?_) AllReadyH.nil
    go_simp
    refine hK.out _ _ (by trivial) (fun hHeld2 => ?_)
    clear hK K hHeld
    have hHeld := hHeld2
    clear hHeld2
    try simp only [Act.put, List.setIfInBounds_toArray, List.set_cons_zero, List.set_cons_succ]
    refine wpAnyH_take (i := 6) (oi := { dst := some 2, op := Go.Op.assign (Go.Operand.tmp 15), type := 24, pos := "flash.go:36", after := #[{ on := 5, ground := Go.Ground.data }, { on := 0, ground := Go.Ground.phase }, { on := 1, ground := Go.Ground.phase }, { on := 2, ground := Go.Ground.phase }, { on := 3, ground := Go.Ground.phase }, { on := 4, ground := Go.Ground.phase }, { on := 5, ground := Go.Ground.phase }], guard := none }) (v := ?_) rfl (by kernel_rfl) (by kernel_rfl) (by kernel_rfl) (fun _ _ _ h => h) (Or.inl ⟨by rfl, ?_⟩) (by assumption) ?_
    rotate_left
    · intro W hSw
      try dsimp only at hSw
      go_simp
      all_goals (with_reducible rfl)
    try simp only [Act.put, List.setIfInBounds_toArray, List.set_cons_zero, List.set_cons_succ]
    refine wpAnyH_take (i := 7) (oi := { dst := some 3, op := Go.Op.assign (Go.Operand.const (Go.Value.int Go.IntKind.i64 0)), type := 25, pos := "flash.go:36", after := #[{ on := 6, ground := Go.Ground.chain }, { on := 0, ground := Go.Ground.phase }, { on := 1, ground := Go.Ground.phase }, { on := 2, ground := Go.Ground.phase }, { on := 3, ground := Go.Ground.phase }, { on := 4, ground := Go.Ground.phase }, { on := 5, ground := Go.Ground.phase }, { on := 6, ground := Go.Ground.phase }], guard := none }) (v := ?_) rfl (by kernel_rfl) (by kernel_rfl) (by kernel_rfl) (fun _ _ _ h => h) (Or.inl ⟨by rfl, ?_⟩) (by assumption) ?_
    rotate_left
    · intro W hSw
      try dsimp only at hSw
      go_simp
      all_goals (with_reducible rfl)
    try simp only [Act.put, List.setIfInBounds_toArray, List.set_cons_zero, List.set_cons_succ]
    refine wpAnyH_done (by kernel_rfl) ?_ _
    go_wp2
    go_ret2
    exact ⟨⟨w.heap.size + 2, w.heap.size, n, w.heap.size + 1, n, .slice none 0 0⟩, rfl, (new_fin w n h2 _ _ (by omega) _ rfl).drewN 1, below_drewN' ((((Below.refl _ w).alloc (Nat.le_refl _) _).alloc (by simp) _).alloc (by simp; omega) _) 1⟩

  · refine step_make_rows rfl 39 (.tmp 12) (.tmp 12) rfl 68 513 513 secZero.cells (cellsS (List.replicate n secZero)) n rfl rfl Tryd.underlying39 sec_zero sec_info (by omega) (by omega) (made_secs n) ?_
    refine hK.out _ _ trivial (fun hHeld2 => ?_)
    clear hK K hHeld
    have hHeld := hHeld2
    clear hHeld2
    try simp only [Act.put, List.setIfInBounds_toArray, List.set_cons_zero, List.set_cons_succ]
    refine wpAnyH_ready (rs := [1]) (by kernel_rfl) (by simp) ?_
    refine AllReadyH.cons (o := { dst := some 11, op := Go.Op.makeSlice 39 (Go.Operand.tmp 10) (Go.Operand.tmp 10), type := 39, pos := "flash.go:36", after := #[{ on := 0, ground := Go.Ground.data }, { on := 0, ground := Go.Ground.data }], guard := none }) rfl (fun K hK => ?_) AllReadyH.nil
    refine step_make_rows rfl 39 (.tmp 10) (.tmp 10) rfl 68 513 513 secZero.cells (cellsS (List.replicate n secZero)) n rfl rfl Tryd.underlying39 sec_zero sec_info (by omega) (by omega) (made_secs n) ?_
    refine hK.out _ _ (by trivial) (fun hHeld2 => ?_)
    clear hK K hHeld
    have hHeld := hHeld2
    clear hHeld2
    try simp only [Act.put, List.setIfInBounds_toArray, List.set_cons_zero, List.set_cons_succ]
    refine wpAnyH_take (i := 4) (oi := { dst := some 14, op := Go.Op.build 42 #[(0, Go.Operand.tmp 11), (1, Go.Operand.tmp 13)], type := 42, pos := "flash.go:36", after := #[{ on := 1, ground := Go.Ground.data }, { on := 3, ground := Go.Ground.data }], guard := none }) (v := ?_) rfl (by kernel_rfl) (by kernel_rfl) (by kernel_rfl) (fun _ _ _ h => h) (Or.inl ⟨by rfl, ?_⟩) (by assumption) ?_
    rotate_left
    · intro W hSw
      try dsimp only at hSw
      go_simp
      all_goals (with_reducible rfl)
    try simp only [Act.put, List.setIfInBounds_toArray, List.set_cons_zero, List.set_cons_succ]
    refine wpAnyH_ready (rs := [5]) (by kernel_rfl) (by simp) ?_
    refine AllReadyH.cons (o := { dst := some 15, op := Go.Op.box 42 (Go.Operand.tmp 14), type := 24, pos := "flash.go:36", after := #[{ on := 4, ground := Go.Ground.data }], guard := none }) rfl (fun K hK => ?_) AllReadyH.nil
    go_simp
    refine hK.out _ _ (by trivial) (fun hHeld2 => ?_)
    clear hK K hHeld
    have hHeld := hHeld2
    clear hHeld2
    try simp only [Act.put, List.setIfInBounds_toArray, List.set_cons_zero, List.set_cons_succ]
    refine wpAnyH_take (i := 6) (oi := { dst := some 2, op := Go.Op.assign (Go.Operand.tmp 15), type := 24, pos := "flash.go:36", after := #[{ on := 5, ground := Go.Ground.data }, { on := 0, ground := Go.Ground.phase }, { on := 1, ground := Go.Ground.phase }, { on := 2, ground := Go.Ground.phase }, { on := 3, ground := Go.Ground.phase }, { on := 4, ground := Go.Ground.phase }, { on := 5, ground := Go.Ground.phase }], guard := none }) (v := ?_) rfl (by kernel_rfl) (by kernel_rfl) (by kernel_rfl) (fun _ _ _ h => h) (Or.inl ⟨by rfl, ?_⟩) (by assumption) ?_
    rotate_left
    · intro W hSw
      try dsimp only at hSw
      go_simp
      all_goals (with_reducible rfl)
    try simp only [Act.put, List.setIfInBounds_toArray, List.set_cons_zero, List.set_cons_succ]
    refine wpAnyH_take (i := 7) (oi := { dst := some 3, op := Go.Op.assign (Go.Operand.const (Go.Value.int Go.IntKind.i64 0)), type := 25, pos := "flash.go:36", after := #[{ on := 6, ground := Go.Ground.chain }, { on := 0, ground := Go.Ground.phase }, { on := 1, ground := Go.Ground.phase }, { on := 2, ground := Go.Ground.phase }, { on := 3, ground := Go.Ground.phase }, { on := 4, ground := Go.Ground.phase }, { on := 5, ground := Go.Ground.phase }, { on := 6, ground := Go.Ground.phase }], guard := none }) (v := ?_) rfl (by kernel_rfl) (by kernel_rfl) (by kernel_rfl) (fun _ _ _ h => h) (Or.inl ⟨by rfl, ?_⟩) (by assumption) ?_
    rotate_left
    · intro W hSw
      try dsimp only at hSw
      go_simp
      all_goals (with_reducible rfl)
    try simp only [Act.put, List.setIfInBounds_toArray, List.set_cons_zero, List.set_cons_succ]
    refine wpAnyH_done (by kernel_rfl) ?_ _
    go_wp2
    go_ret2
    exact ⟨⟨w.heap.size + 2, w.heap.size + 1, n, w.heap.size, n, .slice none 0 0⟩, rfl, (new_fin w n h2 _ _ (by omega) _ rfl).drewN 1, below_drewN' ((((Below.refl _ w).alloc (Nat.le_refl _) _).alloc (by simp) _).alloc (by simp; omega) _) 1⟩


end Go.Proofs.YthjcpficpiddaaaDoor
