/-
  The contract of Copy.
-/
import Derived.Test.YtledoajhjkfaoaaVClone
import Derived.Test.YtledoajhjkfaoaaVSettle
namespace Go.Proofs.Ytledoajhjkfaoaa
open Go.RowKit

def CopyOut (w : World) (x : Dv) (e : Ending) (w' : World) : Prop := ∃ m : Lies, e = .returned (.pointer (some ⟨m.d, 0, none⟩)) ∧ DevAt w' w.heap.size m x ∧ Below w.heap.size w w'
/-- Behind the three clones and the three stores. -/
theorem copy_fin {w w3 : World} {x : Dv} {g1 c1 g2 c2 : Nat} {v3 a b c : Value} (hC : Whole w3 w.heap.size 63 [a, b, c, .int .i64 x.limit, .bool x.down])
    (h1 : w3.ownsRow w.heap.size 69 513 (.slice (some ⟨g1, 0, none⟩) x.sure.length c1) x.sure.length (cellsS x.now)) (h2 : w3.ownsRow w.heap.size 69 513 (.slice (some ⟨g2, 0, none⟩) x.sure.length c2) x.sure.length (cellsS x.sure))
    (h3 : w3.ownsRow w.heap.size 71 514 v3 x.uns.length (cellsU x.uns)) (hne : g1 ≠ g2) (hb : Below w.heap.size w w3) (hok : x.ok) :
    CopyOut w x (.returned (.pointer (some ⟨w.heap.size, 0, none⟩))) (((w3.setCell ⟨w.heap.size, 0, none⟩ (.slice (some ⟨g1, 0, none⟩) x.sure.length c1)).setCell ⟨w.heap.size, 1, none⟩ (.slice (some ⟨g2, 0, none⟩) x.sure.length c2)).setCell ⟨w.heap.size, 2, none⟩ v3) := by
  have hW := ((hC.set_ 0 (.slice (some ⟨g1, 0, none⟩) x.sure.length c1)).set_ 1 (.slice (some ⟨g2, 0, none⟩) x.sure.length c2)).set_ 2 v3
  have far : ∀ {e : TypeId} {s n : Nat} {v : Value} {xs : List Value}, e ≠ 63 → w3.ownsRow w.heap.size e s v n xs → (((w3.setCell ⟨w.heap.size, 0, none⟩ (.slice (some ⟨g1, 0, none⟩) x.sure.length c1)).setCell ⟨w.heap.size, 1, none⟩ (.slice (some ⟨g2, 0, none⟩) x.sure.length c2)).setCell ⟨w.heap.size, 2, none⟩ v3).ownsRow w.heap.size e s v n xs := fun {e s n v xs} ht h => by
    have hn := own_not_whole h hC ht
    exact own_set_far (own_set_far (own_set_far h hn _) hn _) hn _
  refine ⟨⟨w.heap.size, g1, c1, g2, c2, v3⟩, rfl, ⟨hW, far (by decide) h1, far (by decide) h2, far (by decide) h3, hne, Nat.le_refl _, hok⟩, ?_⟩
  exact ((hb.setCell (Nat.le_refl _) _).setCell (Nat.le_refl _) _).setCell (Nat.le_refl _) _
set_option maxRecDepth 4000 in
set_option maxHeartbeats 1000000 in
theorem dev_copy (w : World) (base : Nat) (m : Lies) (x : Dv) (h : DevAt w base m x) (hp : 0 < x.sure.length) (hu : x.uns.length < 4294967296) :
    Calls Try.prog 17 #[.pointer (some ⟨m.d, 0, none⟩)] w (CopyOut w x) := by
  obtain ⟨Au, cu, hmu, _, _⟩ := own_form h.uns
  have hblk := h.blk
  unfold devCells at hblk
  rw [hmu] at hblk
  have c0 : w.cell? ⟨m.d, 0, none⟩ = some (.slice (some ⟨m.bn, 0, none⟩) x.sure.length m.cn) := hblk.cell 0
  have c1 : w.cell? ⟨m.d, 1, none⟩ = some (.slice (some ⟨m.bs, 0, none⟩) x.sure.length m.cs) := hblk.cell 1
  have c2 : w.cell? ⟨m.d, 2, none⟩ = some (.slice Au x.uns.length cu) := hblk.cell 2
  have c3 : w.cell? ⟨m.d, 3, none⟩ = some (.int .i64 x.limit) := hblk.cell 3
  have c4 : w.cell? ⟨m.d, 4, none⟩ = some (.bool x.down) := hblk.cell 4
  have H := Lib.hid h
  have HMU := Lib.hid hmu
  have HP := Lib.hid hp
  have HU := Lib.hid hu
  have hdlt := (h.own (.inl rfl)).2
  have HDLT := Lib.hid hdlt
  clear h hmu hp hu hblk hdlt
  go_enter Try.func17, Try.ntmps17
  go_wp2
  obtain ⟨W0, hW0⟩ : ∃ W0, W0 = w.alloc (.cells #[.slice (some ⟨m.bn, 0, none⟩) x.sure.length m.cn, .slice (some ⟨m.bs, 0, none⟩) x.sure.length m.cs, .slice Au x.uns.length cu, .int .i64 x.limit, .bool x.down] 63) := ⟨_, rfl⟩
  simp only [← hW0]
  have hb0 : Below w.heap.size w W0 := by rw [hW0]; exact (Below.refl _ _).alloc (Nat.le_refl _) _
  have HC0 := Lib.hid (show Whole W0 w.heap.size 63 [.slice (some ⟨m.bn, 0, none⟩) x.sure.length m.cn, .slice (some ⟨m.bs, 0, none⟩) x.sure.length m.cs, .slice Au x.uns.length cu, .int .i64 x.limit, .bool x.down] from by rw [hW0]; exact heap_alloc_new w _)
  have e0 : W0.cell? ⟨m.d, 0, none⟩ = some (.slice (some ⟨m.bn, 0, none⟩) x.sure.length m.cn) := (hb0.cell (p := ⟨m.d, 0, none⟩) HDLT.out).trans c0
  have e1 : W0.cell? ⟨m.d, 1, none⟩ = some (.slice (some ⟨m.bs, 0, none⟩) x.sure.length m.cs) := (hb0.cell (p := ⟨m.d, 1, none⟩) HDLT.out).trans c1
  have e2 : W0.cell? ⟨m.d, 2, none⟩ = some (.slice Au x.uns.length cu) := (hb0.cell (p := ⟨m.d, 2, none⟩) HDLT.out).trans c2
  have HD0 := Lib.hid (H.out.below hb0)
  have HB0 := Lib.hid hb0
  have HCL1 := Lib.hid (clone_sec (some ⟨m.bn, 0, none⟩) x.sure.length m.cn W0.heap.size (cellsS x.now) W0.drew (by rw [H.out.ok.now.length, Dv.length_now]) (Row.drew (Row.of_own HD0.out.now)) (cellsS_one _) (by have := H.out.ok.few; unfold maxLen; omega) (by have := H.out.ok.few; omega))
  clear c0 c1 c2 c3 c4 hb0 hW0
  refine wp_region_held_drew (S := (fun W => W.cell? ⟨m.d, 0, none⟩ = some (.slice (some ⟨m.bn, 0, none⟩) x.sure.length m.cn) ∧ W.cell? ⟨m.d, 1, none⟩ = some (.slice (some ⟨m.bs, 0, none⟩) x.sure.length m.cs) ∧ W.cell? ⟨m.d, 2, none⟩ = some (.slice Au x.uns.length cu))) (by kernel_rfl) (by exact ⟨e0, e1, e2⟩) (fun hHeld => ?_)
  refine wpAnyH_take (i := 0) (oi := { dst := some 9, op := Go.Op.move (Go.Operand.tmp 0), type := 23, pos := "flash.go:135", after := #[], guard := none }) (v := ?_) rfl (by kernel_rfl) (by kernel_rfl) (by kernel_rfl) (fun _ _ _ h => h) (Or.inl ⟨by rfl, ?_⟩) (by assumption) ?_
  rotate_left
  · intro W hSw
    try dsimp only at hSw
    obtain ⟨_, _, _⟩ := hSw
    go_simp
    all_goals (with_reducible rfl)
  try simp only [Act.put, List.setIfInBounds_toArray, List.set_cons_zero, List.set_cons_succ]
  refine wpAnyH_take (i := 1) (oi := { dst := some 10, op := Go.Op.nilCheck (Go.Operand.tmp 9), type := 0, pos := "flash.go:135", after := #[{ on := 0, ground := Go.Ground.data }], guard := none }) (v := ?_) rfl (by kernel_rfl) (by kernel_rfl) (by kernel_rfl) (fun _ _ _ h => h) (Or.inl ⟨by rfl, ?_⟩) (by assumption) ?_
  rotate_left
  · intro W hSw
    try dsimp only at hSw
    obtain ⟨_, _, _⟩ := hSw
    go_simp
    all_goals (with_reducible rfl)
  try simp only [Act.put, List.setIfInBounds_toArray, List.set_cons_zero, List.set_cons_succ]
  refine wpAnyH_take (i := 2) (oi := { dst := some 11, op := Go.Op.fieldAddr 63 (Go.Operand.tmp 10) 0, type := 0, pos := "flash.go:135", after := #[{ on := 1, ground := Go.Ground.data }], guard := none }) (v := ?_) rfl (by kernel_rfl) (by kernel_rfl) (by kernel_rfl) (fun _ _ _ h => h) (Or.inl ⟨by rfl, ?_⟩) (by assumption) ?_
  rotate_left
  · intro W hSw
    try dsimp only at hSw
    obtain ⟨_, _, _⟩ := hSw
    go_simp
    all_goals (with_reducible rfl)
  try simp only [Act.put, List.setIfInBounds_toArray, List.set_cons_zero, List.set_cons_succ]
  refine wpAnyH_take (i := 3) (oi := { dst := some 12, op := Go.Op.load 60 (Go.Operand.tmp 11), type := 60, pos := "flash.go:135", after := #[{ on := 2, ground := Go.Ground.data }], guard := none }) (v := ?_) rfl (by kernel_rfl) (by kernel_rfl) (by kernel_rfl) (fun _ _ _ h => h) (Or.inl ⟨by rfl, ?_⟩) (by assumption) ?_
  rotate_left
  · intro W hSw
    try dsimp only at hSw
    obtain ⟨_, _, _⟩ := hSw
    go_simp
    all_goals (with_reducible rfl)
  try simp only [Act.put, List.setIfInBounds_toArray, List.set_cons_zero, List.set_cons_succ]
  refine wpAnyH_take (i := 5) (oi := { dst := some 14, op := Go.Op.move (Go.Operand.tmp 0), type := 23, pos := "flash.go:135", after := #[], guard := none }) (v := ?_) rfl (by kernel_rfl) (by kernel_rfl) (by kernel_rfl) (fun _ _ _ h => h) (Or.inl ⟨by rfl, ?_⟩) (by assumption) ?_
  rotate_left
  · intro W hSw
    try dsimp only at hSw
    obtain ⟨_, _, _⟩ := hSw
    go_simp
    all_goals (with_reducible rfl)
  try simp only [Act.put, List.setIfInBounds_toArray, List.set_cons_zero, List.set_cons_succ]
  refine wpAnyH_take (i := 6) (oi := { dst := some 15, op := Go.Op.nilCheck (Go.Operand.tmp 14), type := 0, pos := "flash.go:135", after := #[{ on := 5, ground := Go.Ground.data }], guard := none }) (v := ?_) rfl (by kernel_rfl) (by kernel_rfl) (by kernel_rfl) (fun _ _ _ h => h) (Or.inl ⟨by rfl, ?_⟩) (by assumption) ?_
  rotate_left
  · intro W hSw
    try dsimp only at hSw
    obtain ⟨_, _, _⟩ := hSw
    go_simp
    all_goals (with_reducible rfl)
  try simp only [Act.put, List.setIfInBounds_toArray, List.set_cons_zero, List.set_cons_succ]
  refine wpAnyH_take (i := 7) (oi := { dst := some 16, op := Go.Op.fieldAddr 63 (Go.Operand.tmp 15) 1, type := 0, pos := "flash.go:135", after := #[{ on := 6, ground := Go.Ground.data }], guard := none }) (v := ?_) rfl (by kernel_rfl) (by kernel_rfl) (by kernel_rfl) (fun _ _ _ h => h) (Or.inl ⟨by rfl, ?_⟩) (by assumption) ?_
  rotate_left
  · intro W hSw
    try dsimp only at hSw
    obtain ⟨_, _, _⟩ := hSw
    go_simp
    all_goals (with_reducible rfl)
  try simp only [Act.put, List.setIfInBounds_toArray, List.set_cons_zero, List.set_cons_succ]
  refine wpAnyH_take (i := 8) (oi := { dst := some 17, op := Go.Op.load 60 (Go.Operand.tmp 16), type := 60, pos := "flash.go:135", after := #[{ on := 7, ground := Go.Ground.data }], guard := none }) (v := ?_) rfl (by kernel_rfl) (by kernel_rfl) (by kernel_rfl) (fun _ _ _ h => h) (Or.inl ⟨by rfl, ?_⟩) (by assumption) ?_
  rotate_left
  · intro W hSw
    try dsimp only at hSw
    obtain ⟨_, _, _⟩ := hSw
    go_simp
    all_goals (with_reducible rfl)
  try simp only [Act.put, List.setIfInBounds_toArray, List.set_cons_zero, List.set_cons_succ]
  refine wpAnyH_take (i := 10) (oi := { dst := some 19, op := Go.Op.move (Go.Operand.tmp 0), type := 23, pos := "flash.go:135", after := #[], guard := none }) (v := ?_) rfl (by kernel_rfl) (by kernel_rfl) (by kernel_rfl) (fun _ _ _ h => h) (Or.inl ⟨by rfl, ?_⟩) (by assumption) ?_
  rotate_left
  · intro W hSw
    try dsimp only at hSw
    obtain ⟨_, _, _⟩ := hSw
    go_simp
    all_goals (with_reducible rfl)
  try simp only [Act.put, List.setIfInBounds_toArray, List.set_cons_zero, List.set_cons_succ]
  refine wpAnyH_take (i := 11) (oi := { dst := some 20, op := Go.Op.nilCheck (Go.Operand.tmp 19), type := 0, pos := "flash.go:135", after := #[{ on := 10, ground := Go.Ground.data }], guard := none }) (v := ?_) rfl (by kernel_rfl) (by kernel_rfl) (by kernel_rfl) (fun _ _ _ h => h) (Or.inl ⟨by rfl, ?_⟩) (by assumption) ?_
  rotate_left
  · intro W hSw
    try dsimp only at hSw
    obtain ⟨_, _, _⟩ := hSw
    go_simp
    all_goals (with_reducible rfl)
  try simp only [Act.put, List.setIfInBounds_toArray, List.set_cons_zero, List.set_cons_succ]
  refine wpAnyH_take (i := 12) (oi := { dst := some 21, op := Go.Op.fieldAddr 63 (Go.Operand.tmp 20) 2, type := 0, pos := "flash.go:135", after := #[{ on := 11, ground := Go.Ground.data }], guard := none }) (v := ?_) rfl (by kernel_rfl) (by kernel_rfl) (by kernel_rfl) (fun _ _ _ h => h) (Or.inl ⟨by rfl, ?_⟩) (by assumption) ?_
  rotate_left
  · intro W hSw
    try dsimp only at hSw
    obtain ⟨_, _, _⟩ := hSw
    go_simp
    all_goals (with_reducible rfl)
  try simp only [Act.put, List.setIfInBounds_toArray, List.set_cons_zero, List.set_cons_succ]
  refine wpAnyH_take (i := 13) (oi := { dst := some 22, op := Go.Op.load 61 (Go.Operand.tmp 21), type := 61, pos := "flash.go:135", after := #[{ on := 12, ground := Go.Ground.data }], guard := none }) (v := ?_) rfl (by kernel_rfl) (by kernel_rfl) (by kernel_rfl) (fun _ _ _ h => h) (Or.inl ⟨by rfl, ?_⟩) (by assumption) ?_
  rotate_left
  · intro W hSw
    try dsimp only at hSw
    obtain ⟨_, _, _⟩ := hSw
    go_simp
    all_goals (with_reducible rfl)
  try simp only [Act.put, List.setIfInBounds_toArray, List.set_cons_zero, List.set_cons_succ]
  refine wpAnyH_ready (rs := [4]) (by kernel_rfl) (by simp) ?_
  refine AllReadyH.cons (o := { dst := some 13, op := Go.Op.call { callee := Go.Callee.value (Go.Operand.func 30), args := #[Go.Operand.tmp 12], argTypes := #[60] }, type := 60, pos := "flash.go:135", after := #[{ on := 3, ground := Go.Ground.data }], guard := none }) rfl (fun K hK => ?_) AllReadyH.nil
  go_simp
  refine HCL1.out.mono ?_
  rintro e w1 ⟨v1, rfl, hv1, hb⟩
  obtain ⟨A1, k1, rfl, _, _⟩ := own_form hv1
  obtain ⟨g1, rfl⟩ := own_some hv1 HP.out
  have hS1 : (fun W => W.cell? ⟨m.d, 0, none⟩ = some (.slice (some ⟨m.bn, 0, none⟩) x.sure.length m.cn) ∧ W.cell? ⟨m.d, 1, none⟩ = some (.slice (some ⟨m.bs, 0, none⟩) x.sure.length m.cs) ∧ W.cell? ⟨m.d, 2, none⟩ = some (.slice Au x.uns.length cu)) w1 := ⟨(hb.cell (p := ⟨m.d, 0, none⟩) (block_lt_of_cell hHeld.1)).trans hHeld.1, (hb.cell (p := ⟨m.d, 1, none⟩) (block_lt_of_cell hHeld.2.1)).trans hHeld.2.1, (hb.cell (p := ⟨m.d, 2, none⟩) (block_lt_of_cell hHeld.2.2)).trans hHeld.2.2⟩
  have HV1 := Lib.hid hv1
  have HB1 := Lib.hid (show Below W0.heap.size W0 w1 from ⟨hb.os, hb.tape, hb.output, hb.size, hb.block⟩)
  clear hv1 hb
  go_wp2_with fail
  refine hK.out _ _ (by exact hS1) (fun hHeld2 => ?_)
  clear hK K hHeld
  have hHeld := hHeld2
  clear hHeld2
  try simp only [Act.put, List.setIfInBounds_toArray, List.set_cons_zero, List.set_cons_succ]
  clear hS1
  have HD1 := Lib.hid (HD0.out.below HB1.out)
  have HCL2 := Lib.hid (clone_sec (some ⟨m.bs, 0, none⟩) x.sure.length m.cs w1.heap.size (cellsS x.sure) w1 (by rw [H.out.ok.s.length]) (Row.of_own HD1.out.sure) (cellsS_one _) (by have := H.out.ok.few; unfold maxLen; omega) (by have := H.out.ok.few; omega))
  refine wpAnyH_ready (rs := [9]) (by kernel_rfl) (by simp) ?_
  refine AllReadyH.cons (o := { dst := some 18, op := Go.Op.call { callee := Go.Callee.value (Go.Operand.func 30), args := #[Go.Operand.tmp 17], argTypes := #[60] }, type := 60, pos := "flash.go:135", after := #[{ on := 8, ground := Go.Ground.data }, { on := 4, ground := Go.Ground.chain }], guard := none }) rfl (fun K hK => ?_) AllReadyH.nil
  go_simp
  refine HCL2.out.mono ?_
  rintro e w2 ⟨v2, rfl, hv2, hb⟩
  obtain ⟨A2, k2, rfl, _, _⟩ := own_form hv2
  obtain ⟨g2, rfl⟩ := own_some hv2 HP.out
  have hS2 : (fun W => W.cell? ⟨m.d, 0, none⟩ = some (.slice (some ⟨m.bn, 0, none⟩) x.sure.length m.cn) ∧ W.cell? ⟨m.d, 1, none⟩ = some (.slice (some ⟨m.bs, 0, none⟩) x.sure.length m.cs) ∧ W.cell? ⟨m.d, 2, none⟩ = some (.slice Au x.uns.length cu)) w2 := ⟨(hb.cell (p := ⟨m.d, 0, none⟩) (block_lt_of_cell hHeld.1)).trans hHeld.1, (hb.cell (p := ⟨m.d, 1, none⟩) (block_lt_of_cell hHeld.2.1)).trans hHeld.2.1, (hb.cell (p := ⟨m.d, 2, none⟩) (block_lt_of_cell hHeld.2.2)).trans hHeld.2.2⟩
  have HV2 := Lib.hid hv2
  have HB2 := Lib.hid hb
  clear hv2 hb
  go_wp2_with fail
  refine hK.out _ _ (by exact hS2) (fun hHeld2 => ?_)
  clear hK K hHeld
  have hHeld := hHeld2
  clear hHeld2
  try simp only [Act.put, List.setIfInBounds_toArray, List.set_cons_zero, List.set_cons_succ]
  clear hS2
  have HD2 := Lib.hid (HD1.out.below HB2.out)
  have HCL3 := Lib.hid (clone_wri Au x.uns.length cu w2.heap.size (cellsU x.uns) w2 (by rw [H.out.ok.u.length]) (Row.of_own (by have := HD2.out.uns; rw [HMU.out] at this; exact this)) (cellsU_one _) (by have := HU.out; unfold maxLen; omega) (by have := HU.out; omega))
  refine wpAnyH_ready (rs := [14]) (by kernel_rfl) (by simp) ?_
  refine AllReadyH.cons (o := { dst := some 23, op := Go.Op.call { callee := Go.Callee.value (Go.Operand.func 31), args := #[Go.Operand.tmp 22], argTypes := #[61] }, type := 61, pos := "flash.go:135", after := #[{ on := 13, ground := Go.Ground.data }, { on := 9, ground := Go.Ground.chain }], guard := none }) rfl (fun K hK => ?_) AllReadyH.nil
  go_simp
  refine HCL3.out.mono ?_
  rintro e w3 ⟨v3, rfl, hv3, hb⟩
  obtain ⟨A3, k3, rfl, _, _⟩ := own_form hv3
  have hS3 : (fun W => W.cell? ⟨m.d, 0, none⟩ = some (.slice (some ⟨m.bn, 0, none⟩) x.sure.length m.cn) ∧ W.cell? ⟨m.d, 1, none⟩ = some (.slice (some ⟨m.bs, 0, none⟩) x.sure.length m.cs) ∧ W.cell? ⟨m.d, 2, none⟩ = some (.slice Au x.uns.length cu)) w3 := ⟨(hb.cell (p := ⟨m.d, 0, none⟩) (block_lt_of_cell hHeld.1)).trans hHeld.1, (hb.cell (p := ⟨m.d, 1, none⟩) (block_lt_of_cell hHeld.2.1)).trans hHeld.2.1, (hb.cell (p := ⟨m.d, 2, none⟩) (block_lt_of_cell hHeld.2.2)).trans hHeld.2.2⟩
  have HV3 := Lib.hid hv3
  have HB3 := Lib.hid hb
  clear hv3 hb
  go_wp2_with fail
  refine hK.out _ _ (by exact hS3) (fun hHeld2 => ?_)
  clear hK K hHeld
  have hHeld := hHeld2
  clear hHeld2
  try simp only [Act.put, List.setIfInBounds_toArray, List.set_cons_zero, List.set_cons_succ]
  clear hS3
  have hC3 : Whole w3 w.heap.size 63 [.slice (some ⟨m.bn, 0, none⟩) x.sure.length m.cn, .slice (some ⟨m.bs, 0, none⟩) x.sure.length m.cs, .slice Au x.uns.length cu, .int .i64 x.limit, .bool x.down] :=
    ((HC0.out.below HB1.out HC0.out.lt).below HB2.out (Nat.lt_of_lt_of_le HC0.out.lt HB1.out.size)).below HB3.out (Nat.lt_of_lt_of_le HC0.out.lt (Nat.le_trans HB1.out.size HB2.out.size))
  have q0 : w3.cell? ⟨w.heap.size, 0, none⟩ = some (.slice (some ⟨m.bn, 0, none⟩) x.sure.length m.cn) := hC3.cell 0
  have q1 : w3.cell? ⟨w.heap.size, 1, none⟩ = some (.slice (some ⟨m.bs, 0, none⟩) x.sure.length m.cs) := hC3.cell 1
  have q2 : w3.cell? ⟨w.heap.size, 2, none⟩ = some (.slice Au x.uns.length cu) := hC3.cell 2
  have z0 : w3.frozen? ⟨w.heap.size, 0, none⟩ = false := hC3.frozen 0
  have z1 : w3.frozen? ⟨w.heap.size, 1, none⟩ = false := hC3.frozen 1
  have z2 : w3.frozen? ⟨w.heap.size, 2, none⟩ = false := hC3.frozen 2
  have hne : m.d ≠ w.heap.size := by have := HDLT.out; omega
  have hfin := copy_fin (w := w) (x := x) (g1 := g1) (g2 := g2) (c1 := k1) (c2 := k2) (v3 := .slice A3 x.uns.length k3) hC3
    (own_mono (own_keep HV1.out fun g e => (HB3.out.block g (Nat.lt_of_lt_of_le (HV1.out.lt g e).2 HB2.out.size)).trans (HB2.out.block g (HV1.out.lt g e).2)) HB0.out.size)
    (own_mono (own_keep HV2.out fun g e => HB3.out.block g (HV2.out.lt g e).2) (Nat.le_trans HB0.out.size HB1.out.size))
    (own_mono HV3.out (Nat.le_trans HB0.out.size (Nat.le_trans HB1.out.size HB2.out.size)))
    (by have h1 := (HV1.out.lt g1 rfl).2; have h2 := (HV2.out.lt g2 rfl).1; omega)
    (((HB0.out.trans (HB1.out.mono HB0.out.size)).trans (HB2.out.mono (Nat.le_trans HB0.out.size HB1.out.size))).trans (HB3.out.mono (Nat.le_trans HB0.out.size (Nat.le_trans HB1.out.size HB2.out.size)))) H.out.ok
  have HFIN := Lib.hid hfin
  clear hfin hC3
  refine wpAnyH_take (i := 15) (oi := { dst := some 24, op := Go.Op.fieldAddr 63 (Go.Operand.tmp 3) 0, type := 0, pos := "flash.go:135", after := #[{ on := 0, ground := Go.Ground.phase }, { on := 1, ground := Go.Ground.phase }, { on := 2, ground := Go.Ground.phase }, { on := 3, ground := Go.Ground.phase }, { on := 4, ground := Go.Ground.phase }, { on := 5, ground := Go.Ground.textOnly Go.Departure.lateStores }, { on := 6, ground := Go.Ground.textOnly Go.Departure.lateStoresUnsure }, { on := 7, ground := Go.Ground.textOnly Go.Departure.lateStoresUnsure }, { on := 8, ground := Go.Ground.phase }, { on := 9, ground := Go.Ground.phase }, { on := 10, ground := Go.Ground.textOnly Go.Departure.lateStores }, { on := 11, ground := Go.Ground.textOnly Go.Departure.lateStoresUnsure }, { on := 12, ground := Go.Ground.textOnly Go.Departure.lateStoresUnsure }, { on := 13, ground := Go.Ground.phase }, { on := 14, ground := Go.Ground.phase }], guard := none }) (v := ?_) rfl (by kernel_rfl) (by kernel_rfl) (by kernel_rfl) (fun _ _ _ h => h) (Or.inl ⟨by rfl, ?_⟩) (by assumption) ?_
  rotate_left
  · intro W hSw
    try dsimp only at hSw
    go_simp
    all_goals (with_reducible rfl)
  try simp only [Act.put, List.setIfInBounds_toArray, List.set_cons_zero, List.set_cons_succ]
  refine wpAnyH_ready (rs := [16]) (by kernel_rfl) (by simp) ?_
  refine AllReadyH.cons (o := { dst := none, op := Go.Op.store 60 (Go.Operand.tmp 24) (Go.Operand.tmp 13), type := 0, pos := "flash.go:135", after := #[{ on := 15, ground := Go.Ground.data }, { on := 4, ground := Go.Ground.data }, { on := 14, ground := Go.Ground.chain }, { on := 0, ground := Go.Ground.phase }, { on := 1, ground := Go.Ground.phase }, { on := 2, ground := Go.Ground.phase }, { on := 3, ground := Go.Ground.phase }, { on := 4, ground := Go.Ground.phase }, { on := 5, ground := Go.Ground.textOnly Go.Departure.lateStores }, { on := 6, ground := Go.Ground.textOnly Go.Departure.lateStoresUnsure }, { on := 7, ground := Go.Ground.textOnly Go.Departure.lateStoresUnsure }, { on := 8, ground := Go.Ground.phase }, { on := 9, ground := Go.Ground.phase }, { on := 10, ground := Go.Ground.textOnly Go.Departure.lateStores }, { on := 11, ground := Go.Ground.textOnly Go.Departure.lateStoresUnsure }, { on := 12, ground := Go.Ground.textOnly Go.Departure.lateStoresUnsure }, { on := 13, ground := Go.Ground.phase }, { on := 14, ground := Go.Ground.phase }], guard := none }) rfl (fun K hK => ?_) AllReadyH.nil
  go_simp
  refine hK.out _ _ (by exact ⟨(World.cell?_setCell_other _ _ _ _ (by intro e; injection e with e; exact hne e.symm)).trans hHeld.1, (World.cell?_setCell_other _ _ _ _ (by intro e; injection e with e; exact hne e.symm)).trans hHeld.2.1, (World.cell?_setCell_other _ _ _ _ (by intro e; injection e with e; exact hne e.symm)).trans hHeld.2.2⟩) (fun hHeld2 => ?_)
  clear hK K hHeld
  have hHeld := hHeld2
  clear hHeld2
  try simp only [Act.put, List.setIfInBounds_toArray, List.set_cons_zero, List.set_cons_succ]
  refine wpAnyH_take (i := 17) (oi := { dst := some 25, op := Go.Op.fieldAddr 63 (Go.Operand.tmp 3) 1, type := 0, pos := "flash.go:135", after := #[{ on := 0, ground := Go.Ground.phase }, { on := 1, ground := Go.Ground.phase }, { on := 2, ground := Go.Ground.phase }, { on := 3, ground := Go.Ground.phase }, { on := 4, ground := Go.Ground.phase }, { on := 5, ground := Go.Ground.phase }, { on := 6, ground := Go.Ground.phase }, { on := 7, ground := Go.Ground.phase }, { on := 8, ground := Go.Ground.phase }, { on := 9, ground := Go.Ground.phase }, { on := 10, ground := Go.Ground.textOnly Go.Departure.lateStores }, { on := 11, ground := Go.Ground.textOnly Go.Departure.lateStoresUnsure }, { on := 12, ground := Go.Ground.textOnly Go.Departure.lateStoresUnsure }, { on := 13, ground := Go.Ground.phase }, { on := 14, ground := Go.Ground.phase }, { on := 15, ground := Go.Ground.phase }, { on := 16, ground := Go.Ground.phase }], guard := none }) (v := ?_) rfl (by kernel_rfl) (by kernel_rfl) (by kernel_rfl) (fun _ _ _ h => h) (Or.inl ⟨by rfl, ?_⟩) (by assumption) ?_
  rotate_left
  · intro W hSw
    try dsimp only at hSw
    go_simp
    all_goals (with_reducible rfl)
  try simp only [Act.put, List.setIfInBounds_toArray, List.set_cons_zero, List.set_cons_succ]
  refine wpAnyH_ready (rs := [18]) (by kernel_rfl) (by simp) ?_
  refine AllReadyH.cons (o := { dst := none, op := Go.Op.store 60 (Go.Operand.tmp 25) (Go.Operand.tmp 18), type := 0, pos := "flash.go:135", after := #[{ on := 17, ground := Go.Ground.data }, { on := 9, ground := Go.Ground.data }, { on := 16, ground := Go.Ground.chain }, { on := 0, ground := Go.Ground.phase }, { on := 1, ground := Go.Ground.phase }, { on := 2, ground := Go.Ground.phase }, { on := 3, ground := Go.Ground.phase }, { on := 4, ground := Go.Ground.phase }, { on := 5, ground := Go.Ground.phase }, { on := 6, ground := Go.Ground.phase }, { on := 7, ground := Go.Ground.phase }, { on := 8, ground := Go.Ground.phase }, { on := 9, ground := Go.Ground.phase }, { on := 10, ground := Go.Ground.textOnly Go.Departure.lateStores }, { on := 11, ground := Go.Ground.textOnly Go.Departure.lateStoresUnsure }, { on := 12, ground := Go.Ground.textOnly Go.Departure.lateStoresUnsure }, { on := 13, ground := Go.Ground.phase }, { on := 14, ground := Go.Ground.phase }, { on := 15, ground := Go.Ground.phase }, { on := 16, ground := Go.Ground.phase }], guard := none }) rfl (fun K hK => ?_) AllReadyH.nil
  go_simp
  refine hK.out _ _ (by exact ⟨(World.cell?_setCell_other _ _ _ _ (by intro e; injection e with e; exact hne e.symm)).trans hHeld.1, (World.cell?_setCell_other _ _ _ _ (by intro e; injection e with e; exact hne e.symm)).trans hHeld.2.1, (World.cell?_setCell_other _ _ _ _ (by intro e; injection e with e; exact hne e.symm)).trans hHeld.2.2⟩) (fun hHeld2 => ?_)
  clear hK K hHeld
  have hHeld := hHeld2
  clear hHeld2
  try simp only [Act.put, List.setIfInBounds_toArray, List.set_cons_zero, List.set_cons_succ]
  refine wpAnyH_take (i := 19) (oi := { dst := some 26, op := Go.Op.fieldAddr 63 (Go.Operand.tmp 3) 2, type := 0, pos := "flash.go:135", after := #[{ on := 0, ground := Go.Ground.phase }, { on := 1, ground := Go.Ground.phase }, { on := 2, ground := Go.Ground.phase }, { on := 3, ground := Go.Ground.phase }, { on := 4, ground := Go.Ground.phase }, { on := 5, ground := Go.Ground.phase }, { on := 6, ground := Go.Ground.phase }, { on := 7, ground := Go.Ground.phase }, { on := 8, ground := Go.Ground.phase }, { on := 9, ground := Go.Ground.phase }, { on := 10, ground := Go.Ground.phase }, { on := 11, ground := Go.Ground.phase }, { on := 12, ground := Go.Ground.phase }, { on := 13, ground := Go.Ground.phase }, { on := 14, ground := Go.Ground.phase }, { on := 15, ground := Go.Ground.phase }, { on := 16, ground := Go.Ground.phase }, { on := 17, ground := Go.Ground.phase }, { on := 18, ground := Go.Ground.phase }], guard := none }) (v := ?_) rfl (by kernel_rfl) (by kernel_rfl) (by kernel_rfl) (fun _ _ _ h => h) (Or.inl ⟨by rfl, ?_⟩) (by assumption) ?_
  rotate_left
  · intro W hSw
    try dsimp only at hSw
    go_simp
    all_goals (with_reducible rfl)
  try simp only [Act.put, List.setIfInBounds_toArray, List.set_cons_zero, List.set_cons_succ]
  refine wpAnyH_ready (rs := [20]) (by kernel_rfl) (by simp) ?_
  refine AllReadyH.cons (o := { dst := none, op := Go.Op.store 61 (Go.Operand.tmp 26) (Go.Operand.tmp 23), type := 0, pos := "flash.go:135", after := #[{ on := 19, ground := Go.Ground.data }, { on := 14, ground := Go.Ground.data }, { on := 18, ground := Go.Ground.chain }, { on := 0, ground := Go.Ground.phase }, { on := 1, ground := Go.Ground.phase }, { on := 2, ground := Go.Ground.phase }, { on := 3, ground := Go.Ground.phase }, { on := 4, ground := Go.Ground.phase }, { on := 5, ground := Go.Ground.phase }, { on := 6, ground := Go.Ground.phase }, { on := 7, ground := Go.Ground.phase }, { on := 8, ground := Go.Ground.phase }, { on := 9, ground := Go.Ground.phase }, { on := 10, ground := Go.Ground.phase }, { on := 11, ground := Go.Ground.phase }, { on := 12, ground := Go.Ground.phase }, { on := 13, ground := Go.Ground.phase }, { on := 14, ground := Go.Ground.phase }, { on := 15, ground := Go.Ground.phase }, { on := 16, ground := Go.Ground.phase }, { on := 17, ground := Go.Ground.phase }, { on := 18, ground := Go.Ground.phase }], guard := none }) rfl (fun K hK => ?_) AllReadyH.nil
  go_simp
  refine hK.out _ _ (by exact ⟨(World.cell?_setCell_other _ _ _ _ (by intro e; injection e with e; exact hne e.symm)).trans hHeld.1, (World.cell?_setCell_other _ _ _ _ (by intro e; injection e with e; exact hne e.symm)).trans hHeld.2.1, (World.cell?_setCell_other _ _ _ _ (by intro e; injection e with e; exact hne e.symm)).trans hHeld.2.2⟩) (fun hHeld2 => ?_)
  clear hK K hHeld
  have hHeld := hHeld2
  clear hHeld2
  try simp only [Act.put, List.setIfInBounds_toArray, List.set_cons_zero, List.set_cons_succ]
  refine wpAnyH_done (by kernel_rfl) ?_ _
  go_wp2
  go_ret
  exact HFIN.out

end Go.Proofs.Ytledoajhjkfaoaa
