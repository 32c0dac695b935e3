/-
  A device as the contracts see it; the contracts of ready, has, lasts, Len, Down and Limit.
-/
import Derived.Test.YthjcpficpiddaaaDoorMid
import Derived.Test.YthjcpficpiddaaaDoorVPlain
namespace Go.Proofs.YthjcpficpiddaaaDoor
open Go.RowKit

theorem sec_info : (Tryd.prog.info? 68).map (fun i => (i.size, i.bytes)) = some (513, 513) := by kernel_rfl
theorem wri_info : (Tryd.prog.info? 70).map (fun i => (i.size, i.bytes)) = some (514, 528) := by kernel_rfl
theorem sec_size : (Tryd.prog.info? 68).map (·.size) = some 513 := by kernel_rfl
theorem wri_size : (Tryd.prog.info? 70).map (·.size) = some 514 := by kernel_rfl

/-- Where a device lies: its own block, those of what is read and what is sure with their room, the slice of what is not. -/
structure Lies where
  d : Nat
  bn : Nat
  cn : Nat
  bs : Nat
  cs : Nat
  u : Value
def Lies.vn (m : Lies) (n : Nat) : Value := .slice (some ⟨m.bn, 0, none⟩) n m.cn
def Lies.vs (m : Lies) (n : Nat) : Value := .slice (some ⟨m.bs, 0, none⟩) n m.cs
def devCells (m : Lies) (n : Nat) (lim : Nat) (dn : Bool) : List Value := [m.vn n, m.vs n, m.u, .int .i64 (lim : Int), .bool dn]

structure DevAt (w : World) (base : Nat) (m : Lies) (x : Dv) : Prop where
  blk : Whole w m.d 42 (devCells m x.sure.length x.limit x.down)
  now : w.ownsRow base 68 513 (m.vn x.sure.length) x.sure.length (cellsS x.now)
  sure : w.ownsRow base 68 513 (m.vs x.sure.length) x.sure.length (cellsS x.sure)
  uns : w.ownsRow base 70 514 m.u x.uns.length (cellsU x.uns)
  ne : m.bn ≠ m.bs
  ld : base ≤ m.d
  ok : x.ok
/-- Which blocks are a device's own. -/
def Lies.own (m : Lies) (j : Nat) : Prop := j = m.d ∨ j = m.bn ∨ j = m.bs ∨ m.u.ownBlock = some j

theorem Whole.ne {w : World} {g g' : Nat} {t t' : TypeId} {L L' : List Value} (h : Whole w g t L) (h' : Whole w g' t' L') (ht : t ≠ t') : g ≠ g' := by
  rintro rfl
  unfold Whole at h h'
  rw [h] at h'
  simp at h'
  exact ht h'.2
section
variable {w w' : World} {base : Nat} {m : Lies} {x : Dv}
theorem Lies.own_vn {n j : Nat} (h : (m.vn n).ownBlock = some j) : j = m.bn := by simp [Lies.vn, Value.ownBlock] at h; exact h.symm
theorem Lies.own_vs {n j : Nat} (h : (m.vs n).ownBlock = some j) : j = m.bs := by simp [Lies.vs, Value.ownBlock] at h; exact h.symm
theorem DevAt.own (h : DevAt w base m x) {j : Nat} (hj : m.own j) : base ≤ j ∧ j < w.heap.size := by
  rcases hj with rfl | rfl | rfl | hj
  · exact ⟨h.ld, h.blk.lt⟩
  · exact h.now.lt _ rfl
  · exact h.sure.lt _ rfl
  · exact h.uns.lt j hj
theorem DevAt.keep (h : DevAt w base m x) (hk : ∀ j, m.own j → w'.heap[j]? = w.heap[j]?) : DevAt w' base m x :=
  ⟨h.blk.keep (hk _ (.inl rfl)), own_keep h.now fun _ hj => hk _ (.inr (.inl (Lies.own_vn hj))), own_keep h.sure fun _ hj => hk _ (.inr (.inr (.inl (Lies.own_vs hj)))), own_keep h.uns fun j hj => hk j (.inr (.inr (.inr hj))), h.ne, h.ld, h.ok⟩
theorem DevAt.grew {F : Nat → Prop} (h : DevAt w base m x) (hg : Grew F w w') (hf : ∀ j, m.own j → ¬ F j) : DevAt w' base m x := h.keep fun j hj => hg.block j (h.own hj).2 (hf j hj)
theorem DevAt.below (h : DevAt w base m x) (hb : Below w.heap.size w w') : DevAt w' base m x := h.keep fun j hj => hb.block j (h.own hj).2
theorem DevAt.drewN (h : DevAt w base m x) (n : Nat) : DevAt (w.drewN n) base m x := h.keep fun _ _ => rfl
theorem DevAt.mono (h : DevAt w base m x) {base' : Nat} (hb : base' ≤ base) : DevAt w base' m x :=
  ⟨h.blk, own_mono h.now hb, own_mono h.sure hb, own_mono h.uns hb, h.ne, Nat.le_trans hb h.ld, h.ok⟩
theorem DevAt.dn (h : DevAt w base m x) : m.d ≠ m.bn := fun e => own_not_whole h.now h.blk (by decide) (by rw [e]; rfl)
theorem DevAt.ds (h : DevAt w base m x) : m.d ≠ m.bs := fun e => own_not_whole h.sure h.blk (by decide) (by rw [e]; rfl)
theorem DevAt.ud (h : DevAt w base m x) : m.u.ownBlock ≠ some m.d := own_not_whole h.uns h.blk (by decide)
theorem DevAt.un (h : DevAt w base m x) : m.u.ownBlock ≠ some m.bn := own_not_own h.uns h.now (by decide) rfl
theorem DevAt.us (h : DevAt w base m x) : m.u.ownBlock ≠ some m.bs := own_not_own h.uns h.sure (by decide) rfl
end
/-- The device is x now; nothing but its own has turned. -/
def Went (base : Nat) (w : World) (m : Lies) (x : Dv) (w' : World) : Prop :=
  ∃ m' : Lies, m'.d = m.d ∧ DevAt w' base m' x ∧ Grew m.own w w' ∧ ∀ j, m'.own j → m.own j ∨ w.heap.size ≤ j
theorem Went.refl {base : Nat} {w : World} {m : Lies} {x : Dv} (h : DevAt w base m x) : Went base w m x w := ⟨m, rfl, h, Grew.refl _ _, fun _ h => .inl h⟩
theorem Went.then {base : Nat} {w w1 w2 : World} {m m1 : Lies} {x : Dv} (hd : m1.d = m.d) (hg : Grew m.own w w1) (hf : ∀ j, m1.own j → m.own j ∨ w.heap.size ≤ j) (h : Went base w1 m1 x w2) : Went base w m x w2 := by
  obtain ⟨m2, h0, h1, h2, h3⟩ := h
  refine ⟨m2, h0.trans hd, h1, hg.trans h2 hf, fun j hj => ?_⟩
  rcases h3 j hj with h4 | h4
  · exact hf j h4
  · exact .inr (Nat.le_trans hg.size h4)
/-- Its own block alone is another one. -/
theorem DevAt.cells {w : World} {base : Nat} {m : Lies} {x y : Dv} (h : DevAt w base m x) (hs : y.sure = x.sure) (hu : y.uns = x.uns) (hl : y.limit ≤ 9223372036854775807) {w' : World} (hg : Grew (fun j => j = m.d) w w') (hw : Whole w' m.d 42 (devCells m x.sure.length y.limit y.down)) : DevAt w' base m y := by
  have e : y.now = x.now := by unfold Dv.now; rw [hs, hu]
  refine ⟨by rw [hs]; exact hw, ?_, ?_, ?_, h.ne, h.ld, ⟨by rw [hs]; exact h.ok.s, by rw [hs, hu]; exact h.ok.u, by rw [hs]; exact h.ok.few, hl⟩⟩
  · rw [e, hs]; exact own_grew h.now hg fun g e1 e2 => h.dn (e2.symm.trans (Lies.own_vn e1))
  · rw [hs]; exact own_grew h.sure hg fun g e1 e2 => h.ds (e2.symm.trans (Lies.own_vs e1))
  · rw [hu]; exact own_grew h.uns hg fun g e1 e2 => h.ud (by rw [e1, e2])

section
variable (w : World) (D : Nat) (m : Lies) (n lim : Nat) (dn : Bool) (h : Whole w D 42 (devCells m n lim dn))
include h
set_option maxHeartbeats 400000 in
theorem ready_core : Calls Tryd.prog 28 #[.pointer (some ⟨D, 0, none⟩)] w (Told w (.int .i64 (if dn = true then 8 else 0))) := by
  have c4 : w.cell? ⟨D, 4, none⟩ = some (.bool dn) := h.cell 4
  clear h
  cases dn with
  | true =>
    go_enter Tryd.func28, Tryd.ntmps28
    go_wp2
    go_ret
    exact ⟨rfl, rfl⟩
  | false =>
    go_enter Tryd.func28, Tryd.ntmps28
    go_wp2
    go_ret
    exact ⟨rfl, rfl⟩
set_option maxHeartbeats 400000 in
theorem has_core (k : Int) : Calls Tryd.prog 30 #[.pointer (some ⟨D, 0, none⟩), .int .i64 k] w (Told w (.bool (decide (0 ≤ k ∧ k < (n : Int))))) := by
  have c0 : w.cell? ⟨D, 0, none⟩ = some (.slice (some ⟨m.bn, 0, none⟩) n m.cn) := h.cell 0
  clear h
  by_cases h0 : 0 ≤ k
  · have d0 : decide (0 ≤ k) = true := by simp; omega
    have hd : decide (0 ≤ k ∧ k < (n : Int)) = decide (k < (n : Int)) := by simp [h0]
    rw [hd]
    go_enter Tryd.func30, Tryd.ntmps30
    go_wp2
    go_ret
    exact ⟨rfl, rfl⟩
  · have d0 : decide (0 ≤ k) = false := by simp; omega
    have hd : decide (0 ≤ k ∧ k < (n : Int)) = false := by simp; omega
    rw [hd]
    go_enter Tryd.func30, Tryd.ntmps30
    go_wp2
    go_ret
    exact ⟨rfl, rfl⟩
set_option maxHeartbeats 400000 in
theorem len_core : Calls Tryd.prog 20 #[.pointer (some ⟨D, 0, none⟩)] w (Told w (.int .i64 n)) := by
  have c0 : w.cell? ⟨D, 0, none⟩ = some (.slice (some ⟨m.bn, 0, none⟩) n m.cn) := h.cell 0
  clear h
  go_enter Tryd.func20, Tryd.ntmps20
  go_wp2
  go_ret
  exact ⟨rfl, rfl⟩
set_option maxHeartbeats 400000 in
theorem down_core : Calls Tryd.prog 21 #[.pointer (some ⟨D, 0, none⟩)] w (Told w (.bool dn)) := by
  have c4 : w.cell? ⟨D, 4, none⟩ = some (.bool dn) := h.cell 4
  clear h
  go_enter Tryd.func21, Tryd.ntmps21
  go_wp2
  go_ret
  exact ⟨rfl, rfl⟩
set_option maxHeartbeats 400000 in
theorem lasts_zero (hl : lim = 0) : Calls Tryd.prog 29 #[.pointer (some ⟨D, 0, none⟩)] w (Told w (.bool true)) := by
  subst hl
  have c3 : w.cell? ⟨D, 3, none⟩ = some (.int .i64 0) := h.cell 3
  clear h
  go_enter Tryd.func29, Tryd.ntmps29
  go_wp2
  go_ret
  exact ⟨rfl, rfl⟩
set_option maxHeartbeats 400000 in
theorem lasts_some (hl : lim ≠ 0) (hm : lim ≤ 9223372036854775807) : Calls Tryd.prog 29 #[.pointer (some ⟨D, 0, none⟩)] w
    (fun e w' => e = .returned (.bool (decide (lim ≠ 1))) ∧ w' = (w.setCell ⟨D, 3, none⟩ (.int .i64 ((lim - 1 : Nat) : Int))).setCell ⟨D, 4, none⟩ (.bool (decide (lim = 1)))) := by
  have c3 : w.cell? ⟨D, 3, none⟩ = some (.int .i64 lim) := h.cell 3
  have c4 : w.cell? ⟨D, 4, none⟩ = some (.bool dn) := h.cell 4
  have z3 : w.frozen? ⟨D, 3, none⟩ = false := h.frozen 3
  have z4 : w.frozen? ⟨D, 4, none⟩ = false := h.frozen 4
  have e0 : ((lim : Int) == 0) = false := by simp; exact hl
  have e1 : ((lim : Int) - 1 == 0) = decide (lim = 1) := by
    by_cases h1 : lim = 1
    · subst h1; rfl
    · have : ((lim : Int) - 1 == 0) = false := by simp; omega
      simp [this, h1]
  have e2 : ((lim - 1 : Nat) : Int) = (lim : Int) - 1 := by omega
  have E1 := Lib.hid e1
  have E2 := Lib.hid e2
  clear h e1 e2 hl
  go_enter Tryd.func29, Tryd.ntmps29
  go_wp2
  go_ret
  rw [E1.out, E2.out]
  refine ⟨?_, rfl⟩
  by_cases h1 : lim = 1 <;> simp [h1]
end

end Go.Proofs.YthjcpficpiddaaaDoor
