/-
  A device as the contracts see it; the contracts of ready, has, lasts, Len, Down and Limit.
-/
import Derived.Test.YtgfoekbdmgljbaaDoorSbP2
import Derived.Test.YtgfoekbdmgljbaaDoorSbP1
import Derived.Great.Walk
import Derived.Deep.RegionHeld3
import Derived.StillTailTactics
import Derived.Deep.Cut
import Derived.Laws.Bits64b
namespace Go.Proofs.YtgfoekbdmgljbaaDoor
open Go.RowKit

theorem sec_info : (Tryd.prog.info? 91).map (fun i => (i.size, i.bytes)) = some (513, 513) := by kernel_rfl
theorem wri_info : (Tryd.prog.info? 93).map (fun i => (i.size, i.bytes)) = some (514, 528) := by kernel_rfl
theorem sec_size : (Tryd.prog.info? 91).map (·.size) = some 513 := by kernel_rfl
theorem wri_size : (Tryd.prog.info? 93).map (·.size) = some 514 := by kernel_rfl

/-- Where a device lies: its own block, those of what is read and what is sure with their room, the slice of what is not. -/
structure Lies where
  d : Nat
  bn : Nat
  cn : Nat
  bs : Nat
  cs : Nat
  u : Value
def Lies.vn (m : Lies) (n : Nat) : Value := .slice (some ⟨m.bn, 0, none⟩) n m.cn
def Lies.vs (m : Lies) (n : Nat) : Value := .slice (some ⟨m.bs, 0, none⟩) n m.cs
def devCells (m : Lies) (n : Nat) (lim : Nat) (dn : Bool) : List Value := [m.vn n, m.vs n, m.u, .int .i64 (lim : Int), .bool dn]

structure DevAt (w : World) (base : Nat) (m : Lies) (x : Dv) : Prop where
  blk : Whole w m.d 61 (devCells m x.sure.length x.limit x.down)
  now : w.ownsRow base 91 513 (m.vn x.sure.length) x.sure.length (cellsS x.now)
  sure : w.ownsRow base 91 513 (m.vs x.sure.length) x.sure.length (cellsS x.sure)
  uns : w.ownsRow base 93 514 m.u x.uns.length (cellsU x.uns)
  ne : m.bn ≠ m.bs
  ld : base ≤ m.d
  ok : x.ok
/-- Which blocks are a device's own. -/
def Lies.own (m : Lies) (j : Nat) : Prop := j = m.d ∨ j = m.bn ∨ j = m.bs ∨ m.u.ownBlock = some j

theorem Whole.ne {w : World} {g g' : Nat} {t t' : TypeId} {L L' : List Value} (h : Whole w g t L) (h' : Whole w g' t' L') (ht : t ≠ t') : g ≠ g' := by
  rintro rfl
  unfold Whole at h h'
  rw [h] at h'
  simp at h'
  exact ht h'.2
section
variable {w w' : World} {base : Nat} {m : Lies} {x : Dv}
theorem Lies.own_vn {n j : Nat} (h : (m.vn n).ownBlock = some j) : j = m.bn := by simp [Lies.vn, Value.ownBlock] at h; exact h.symm
theorem Lies.own_vs {n j : Nat} (h : (m.vs n).ownBlock = some j) : j = m.bs := by simp [Lies.vs, Value.ownBlock] at h; exact h.symm
theorem DevAt.own (h : DevAt w base m x) {j : Nat} (hj : m.own j) : base ≤ j ∧ j < w.heap.size := by
  rcases hj with rfl | rfl | rfl | hj
  · exact ⟨h.ld, h.blk.lt⟩
  · exact h.now.lt _ rfl
  · exact h.sure.lt _ rfl
  · exact h.uns.lt j hj
theorem DevAt.keep (h : DevAt w base m x) (hk : ∀ j, m.own j → w'.heap[j]? = w.heap[j]?) : DevAt w' base m x :=
  ⟨h.blk.keep (hk _ (.inl rfl)), own_keep h.now fun _ hj => hk _ (.inr (.inl (Lies.own_vn hj))), own_keep h.sure fun _ hj => hk _ (.inr (.inr (.inl (Lies.own_vs hj)))), own_keep h.uns fun j hj => hk j (.inr (.inr (.inr hj))), h.ne, h.ld, h.ok⟩
theorem DevAt.grew {F : Nat → Prop} (h : DevAt w base m x) (hg : Grew F w w') (hf : ∀ j, m.own j → ¬ F j) : DevAt w' base m x := h.keep fun j hj => hg.block j (h.own hj).2 (hf j hj)
theorem DevAt.below (h : DevAt w base m x) (hb : Below w.heap.size w w') : DevAt w' base m x := h.keep fun j hj => hb.block j (h.own hj).2
theorem DevAt.drewN (h : DevAt w base m x) (n : Nat) : DevAt (w.drewN n) base m x := h.keep fun _ _ => rfl
theorem DevAt.mono (h : DevAt w base m x) {base' : Nat} (hb : base' ≤ base) : DevAt w base' m x :=
  ⟨h.blk, own_mono h.now hb, own_mono h.sure hb, own_mono h.uns hb, h.ne, Nat.le_trans hb h.ld, h.ok⟩
theorem DevAt.dn (h : DevAt w base m x) : m.d ≠ m.bn := fun e => own_not_whole h.now h.blk (by decide) (by rw [e]; rfl)
theorem DevAt.ds (h : DevAt w base m x) : m.d ≠ m.bs := fun e => own_not_whole h.sure h.blk (by decide) (by rw [e]; rfl)
theorem DevAt.ud (h : DevAt w base m x) : m.u.ownBlock ≠ some m.d := own_not_whole h.uns h.blk (by decide)
theorem DevAt.un (h : DevAt w base m x) : m.u.ownBlock ≠ some m.bn := own_not_own h.uns h.now (by decide) rfl
theorem DevAt.us (h : DevAt w base m x) : m.u.ownBlock ≠ some m.bs := own_not_own h.uns h.sure (by decide) rfl
end
/-- The device is x now; nothing but its own has turned. -/
def Went (base : Nat) (w : World) (m : Lies) (x : Dv) (w' : World) : Prop :=
  ∃ m' : Lies, m'.d = m.d ∧ DevAt w' base m' x ∧ Grew m.own w w' ∧ ∀ j, m'.own j → m.own j ∨ w.heap.size ≤ j
theorem Went.refl {base : Nat} {w : World} {m : Lies} {x : Dv} (h : DevAt w base m x) : Went base w m x w := ⟨m, rfl, h, Grew.refl _ _, fun _ h => .inl h⟩
theorem Went.then {base : Nat} {w w1 w2 : World} {m m1 : Lies} {x : Dv} (hd : m1.d = m.d) (hg : Grew m.own w w1) (hf : ∀ j, m1.own j → m.own j ∨ w.heap.size ≤ j) (h : Went base w1 m1 x w2) : Went base w m x w2 := by
  obtain ⟨m2, h0, h1, h2, h3⟩ := h
  refine ⟨m2, h0.trans hd, h1, hg.trans h2 hf, fun j hj => ?_⟩
  rcases h3 j hj with h4 | h4
  · exact hf j h4
  · exact .inr (Nat.le_trans hg.size h4)
/-- Its own block alone is another one. -/
theorem DevAt.cells {w : World} {base : Nat} {m : Lies} {x y : Dv} (h : DevAt w base m x) (hs : y.sure = x.sure) (hu : y.uns = x.uns) (hl : y.limit ≤ 9223372036854775807) {w' : World} (hg : Grew (fun j => j = m.d) w w') (hw : Whole w' m.d 61 (devCells m x.sure.length y.limit y.down)) : DevAt w' base m y := by
  have e : y.now = x.now := by unfold Dv.now; rw [hs, hu]
  refine ⟨by rw [hs]; exact hw, ?_, ?_, ?_, h.ne, h.ld, ⟨by rw [hs]; exact h.ok.s, by rw [hs, hu]; exact h.ok.u, by rw [hs]; exact h.ok.few, hl⟩⟩
  · rw [e, hs]; exact own_grew h.now hg fun g e1 e2 => h.dn (e2.symm.trans (Lies.own_vn e1))
  · rw [hs]; exact own_grew h.sure hg fun g e1 e2 => h.ds (e2.symm.trans (Lies.own_vs e1))
  · rw [hu]; exact own_grew h.uns hg fun g e1 e2 => h.ud (by rw [e1, e2])

section
variable (w : World) (D : Nat) (m : Lies) (n lim : Nat) (dn : Bool) (h : Whole w D 61 (devCells m n lim dn))
include h
set_option maxHeartbeats 400000 in
theorem ready_core : Calls Tryd.prog 46 #[.pointer (some ⟨D, 0, none⟩)] w (Told w (.int .i64 (if dn = true then 8 else 0))) := by
  have c4 : w.cell? ⟨D, 4, none⟩ = some (.bool dn) := h.cell 4
  clear h
  cases dn with
  | true =>
    go_enter Tryd.func46, Tryd.ntmps46
    go_wp2
    go_ret
    exact ⟨rfl, rfl⟩
  | false =>
    go_enter Tryd.func46, Tryd.ntmps46
    go_wp2
    go_ret
    exact ⟨rfl, rfl⟩
set_option maxHeartbeats 400000 in
theorem has_core (k : Int) : Calls Tryd.prog 60 #[.pointer (some ⟨D, 0, none⟩), .int .i64 k] w (Told w (.bool (decide (0 ≤ k ∧ k < (n : Int))))) := by
  have c0 : w.cell? ⟨D, 0, none⟩ = some (.slice (some ⟨m.bn, 0, none⟩) n m.cn) := h.cell 0
  clear h
  by_cases h0 : 0 ≤ k
  · have d0 : decide (0 ≤ k) = true := by simp; omega
    have hd : decide (0 ≤ k ∧ k < (n : Int)) = decide (k < (n : Int)) := by simp [h0]
    rw [hd]
    go_enter Tryd.func60, Tryd.ntmps60
    go_wp2
    go_ret
    exact ⟨rfl, rfl⟩
  · have d0 : decide (0 ≤ k) = false := by simp; omega
    have hd : decide (0 ≤ k ∧ k < (n : Int)) = false := by simp; omega
    rw [hd]
    go_enter Tryd.func60, Tryd.ntmps60
    go_wp2
    go_ret
    exact ⟨rfl, rfl⟩
set_option maxHeartbeats 400000 in
theorem len_core : Calls Tryd.prog 23 #[.pointer (some ⟨D, 0, none⟩)] w (Told w (.int .i64 n)) := by
  have c0 : w.cell? ⟨D, 0, none⟩ = some (.slice (some ⟨m.bn, 0, none⟩) n m.cn) := h.cell 0
  clear h
  go_enter Tryd.func23, Tryd.ntmps23
  go_wp2
  go_ret
  exact ⟨rfl, rfl⟩
set_option maxHeartbeats 400000 in
theorem down_core : Calls Tryd.prog 42 #[.pointer (some ⟨D, 0, none⟩)] w (Told w (.bool dn)) := by
  have c4 : w.cell? ⟨D, 4, none⟩ = some (.bool dn) := h.cell 4
  clear h
  go_enter Tryd.func42, Tryd.ntmps42
  go_wp2
  go_ret
  exact ⟨rfl, rfl⟩
set_option maxHeartbeats 400000 in
theorem lasts_zero (hl : lim = 0) : Calls Tryd.prog 47 #[.pointer (some ⟨D, 0, none⟩)] w (Told w (.bool true)) := by
  subst hl
  have c3 : w.cell? ⟨D, 3, none⟩ = some (.int .i64 0) := h.cell 3
  clear h
  go_enter Tryd.func47, Tryd.ntmps47
  go_wp2
  go_ret
  exact ⟨rfl, rfl⟩
set_option maxHeartbeats 400000 in
theorem lasts_some (hl : lim ≠ 0) (hm : lim ≤ 9223372036854775807) : Calls Tryd.prog 47 #[.pointer (some ⟨D, 0, none⟩)] w
    (fun e w' => e = .returned (.bool (decide (lim ≠ 1))) ∧ w' = (w.setCell ⟨D, 3, none⟩ (.int .i64 ((lim - 1 : Nat) : Int))).setCell ⟨D, 4, none⟩ (.bool (decide (lim = 1)))) := by
  have c3 : w.cell? ⟨D, 3, none⟩ = some (.int .i64 lim) := h.cell 3
  have c4 : w.cell? ⟨D, 4, none⟩ = some (.bool dn) := h.cell 4
  have z3 : w.frozen? ⟨D, 3, none⟩ = false := h.frozen 3
  have z4 : w.frozen? ⟨D, 4, none⟩ = false := h.frozen 4
  have e0 : ((lim : Int) == 0) = false := by simp; exact hl
  have e1 : ((lim : Int) - 1 == 0) = decide (lim = 1) := by
    by_cases h1 : lim = 1
    · subst h1; rfl
    · have : ((lim : Int) - 1 == 0) = false := by simp; omega
      simp [this, h1]
  have e2 : ((lim - 1 : Nat) : Int) = (lim : Int) - 1 := by omega
  have E1 := Lib.hid e1
  have E2 := Lib.hid e2
  clear h e1 e2 hl
  go_enter Tryd.func47, Tryd.ntmps47
  go_wp2
  go_ret
  rw [E1.out, E2.out]
  refine ⟨?_, rfl⟩
  by_cases h1 : lim = 1 <;> simp [h1]
end

end Go.Proofs.YtgfoekbdmgljbaaDoor

namespace Go.Proofs.YtgfoekbdmgljbaaDoor
open Go.RowKit

theorem info_row {P : Program} {e : TypeId} {s b : Nat} (h : (P.info? e).map (fun i => (i.zero.map (·.cells.size), i.size, i.bytes)) = some (some s, s, b)) : ∃ i z, P.info? e = some i ∧ i.zero = some z ∧ i.size = s ∧ i.bytes = b ∧ z.cells.size = s := by
  cases hi : P.info? e with
  | none => simp [hi] at h
  | some i =>
    simp only [hi, Option.map_some, Option.some.injEq, Prod.mk.injEq] at h
    obtain ⟨hz, h2, h3⟩ := h
    cases hzz : i.zero with
    | none => simp [hzz] at hz
    | some z =>
      simp only [hzz, Option.map_some, Option.some.injEq] at hz
      exact ⟨i, z, rfl, hzz, h2, h3, hz⟩
theorem u8_row : (Tryd.prog.info? 5).map (fun i => (i.zero.map (·.cells.size), i.size, i.bytes)) = some (some 1, 1, 1) := by kernel_rfl
theorem sec_row : (Tryd.prog.info? 91).map (fun i => (i.zero.map (·.cells.size), i.size, i.bytes)) = some (some 513, 513, 513) := by kernel_rfl
theorem wri_row : (Tryd.prog.info? 93).map (fun i => (i.zero.map (·.cells.size), i.size, i.bytes)) = some (some 514, 514, 528) := by kernel_rfl

/-- The call answers a slice of its own, of n elements, which reads as xs. -/
def Cloned (w : World) (T : TypeId) (s n : Nat) (xs : List Value) (e : Ending) (w' : World) : Prop :=
  ∃ v, e = .returned v ∧ w'.ownsRow w.heap.size T s v n xs ∧ Below w.heap.size w w'

set_option maxHeartbeats 400000 in
theorem clone_u8 (A : Option Addr) (n c H : Nat) (xs : List Value) (w : World) (hl : xs.length = n * 1) (hA : Row w H A xs) (h1 : ∀ u ∈ xs, u.oneCell' = true) (hn : n ≤ maxLen) (hb : n * 1 ≤ 140737488355328) :
    Calls Tryd.prog 63 #[.slice A n c] w (Cloned w 5 1 n xs) := by
  obtain ⟨i0, z0, hi0, hz0, hz1, hz2, hz3⟩ := info_row u8_row
  have HL := Lib.hid hl
  have HA := Lib.hid hA
  have H1 := Lib.hid h1
  have HB := Lib.hid hb
  clear hl hA h1 hb
  rcases A with _ | ad
  · have h0 : xs = [] := by
      rcases xs with _ | ⟨u, us⟩
      · rfl
      · obtain ⟨_, _, h, _⟩ := HA.out (by simp)
        cases h
    have hn0 : n = 0 := by
      have := HL.out
      rw [h0] at this
      simp at this
      omega
    have H0 := Lib.hid h0
    have HN := Lib.hid hn0
    clear h0 hn0
    have hq := fun (w : World) (a : Option Addr) (n c n' c' : Nat) => Lib.run_eql_slice_nil (P := Tryd.prog) w 35 5 a n c n' c' Tryd.underlying35
    go_enter Tryd.func63, Tryd.ntmps63
    go_wp2
    go_ret
    rw [H0.out, HN.out]
    exact ⟨_, rfl, World.ownsRow_nil _ _ _ _, Below.refl _ _⟩
  · have HW := Lib.hid (own_lit w 5 1)
    have hq := fun (w : World) (a : Option Addr) (n c n' c' : Nat) => Lib.run_eql_slice_nil (P := Tryd.prog) w 35 5 a n c n' c' Tryd.underlying35
    go_enter Tryd.func63, Tryd.ntmps63
    go_wp2_with (
      at_builtin
      refine wpList_append_row rfl (.tmp 5) (.tmp 6) _ rfl w.heap.size 5 i0 z0 1 1 Tryd.underlying35 hi0 hz0 hz1 hz2 hz3 (by decide) _ 0 [] rfl HW.out (some ad) n c H xs rfl HL.out ?c1 H1.out ?c2 ?c3 ?c4 ?_
      case c1 =>
        intro hx
        obtain ⟨b, off, e, hb, hc⟩ := HA.out hx
        exact ⟨b, off, e, hb, fun j u hu => by rw [World.cell?_alloc_lt _ _ _ (World.block_lt_of_cell? w _ (hc j u hu))]; exact hc j u hu⟩
      case c2 => omega
      case c3 => rw [Nat.zero_add]; exact HB.out
      case c4 => simp
      intro v1 w1 hown1 hg1)
    go_ret
    refine ⟨v1, rfl, by simpa using hown1, own_below ((Below.refl _ _).alloc (Nat.le_refl _) _) (Nat.le_refl _) (by simp) HW.out hg1⟩





























































































end Go.Proofs.YtgfoekbdmgljbaaDoor

namespace Go.Proofs.YtgfoekbdmgljbaaDoor
open Go.RowKit

theorem cellsS_get {l : List Sec} (h : okS l) {i : Nat} (hi : i < l.length) {j : Nat} {v : Value} (hj : (l[i]).cells[j]? = some v) : (cellsS l)[i * 513 + j]? = some v := flat_get h.cells hi hj
theorem cellsU_get {n : Nat} {l : List Wri} (h : okU n l) {i : Nat} (hi : i < l.length) {j : Nat} {v : Value} (hj : (l[i]).cells[j]? = some v) : (cellsU l)[i * 514 + j]? = some v := flat_get h.cells hi hj
theorem Sec.cell_torn {s : Sec} (h : s.data.length = 512) : s.cells[512]? = some (.bool s.torn) := by
  unfold Sec.cells
  rw [List.getElem?_append_right (by simp [h]), List.length_map, h]
  rfl
theorem Sec.cell_data {s : Sec} {j : Nat} {v : Value} (hj : (s.data.map bc)[j]? = some v) : s.cells[j]? = some v := by
  unfold Sec.cells
  rw [List.getElem?_append_left (List.getElem?_eq_some_iff.1 hj).1, hj]

theorem grew_one (w : World) (g i : Nat) (u : Value) : Grew (fun j => j = g) w (w.setCell ⟨g, i, none⟩ u) := Grew.setCell (F := fun j => j = g) (Grew.refl _ w) (a := ⟨g, i, none⟩) (.inl rfl) u
theorem grew_two (w : World) (g i j : Nat) (u v : Value) : Grew (fun j => j = g) w ((w.setCell ⟨g, i, none⟩ u).setCell ⟨g, j, none⟩ v) := Grew.setCell (F := fun j => j = g) (grew_one w g i u) (a := ⟨g, j, none⟩) (.inl rfl) v
section
variable {w : World} {base : Nat} {m : Lies} {x : Dv}
theorem DevAt.torn_at (h : DevAt w base m x) {i : Nat} (hi : i < x.sure.length) : w.cell? ⟨m.bn, i * 513 + 512, none⟩ = some (.bool (x.now.getD i secZero).torn) := by
  have hi' : i < x.now.length := by rw [x.length_now]; exact hi
  have h1 := cellsS_get h.ok.now hi' (Sec.cell_torn (h.ok.now _ (List.getElem_mem hi')))
  obtain ⟨h2, h3⟩ := List.getElem?_eq_some_iff.1 h1
  have h4 := own_cell h.now h2
  rw [h4, h3, List.getD_eq_getElem?_getD, List.getElem?_eq_getElem hi']
  rfl
theorem DevAt.data_at (h : DevAt w base m x) {i : Nat} (hi : i < x.sure.length) : Row w w.heap.size (some ⟨m.bn, i * 513, none⟩) ((x.now.getD i secZero).data.map bc) := by
  have hi' : i < x.now.length := by rw [x.length_now]; exact hi
  refine Row.of_cells (h.own (.inr (.inl rfl))).2 fun j u hu => ?_
  have e : x.now.getD i secZero = x.now[i] := by rw [List.getD_eq_getElem?_getD, List.getElem?_eq_getElem hi']; rfl
  rw [e] at hu
  obtain ⟨h2, h3⟩ := List.getElem?_eq_some_iff.1 (cellsS_get h.ok.now hi' (Sec.cell_data hu))
  rw [own_cell h.now h2, h3]
theorem DevAt.spent (h : DevAt w base m x) (hl : x.limit ≠ 0) (_ : x.down = false) : DevAt ((w.setCell ⟨m.d, 3, none⟩ (.int .i64 ((x.limit - 1 : Nat) : Int))).setCell ⟨m.d, 4, none⟩ (.bool (decide (x.limit = 1)))) base m x.spent := by
  have e : x.spent = { x with limit := x.limit - 1, down := decide (x.limit = 1) } := by unfold Dv.spent; rw [if_neg hl]
  have hlim := h.ok.lim
  rw [e]
  refine h.cells (y := { x with limit := x.limit - 1, down := decide (x.limit = 1) }) rfl rfl (by show x.limit - 1 ≤ _; omega) (grew_two w m.d 3 4 _ _) ?_
  exact (h.blk.set_ 3 _).set_ 4 _
end

/-- What lasts leaves behind. -/
def LastsOut (base : Nat) (w : World) (m : Lies) (x : Dv) (e : Ending) (w' : World) : Prop :=
  e = .returned (.bool x.lasts) ∧ DevAt w' base m x.spent ∧ Grew (fun j => j = m.d) w w' ∧ w'.heap.size = w.heap.size
theorem dev_lasts (w : World) (base : Nat) (m : Lies) (x : Dv) (h : DevAt w base m x) (hd : x.down = false) : Calls Tryd.prog 47 #[.pointer (some ⟨m.d, 0, none⟩)] w (LastsOut base w m x) := by
  by_cases hl : x.limit = 0
  · refine (lasts_zero w m.d m _ _ _ h.blk hl).mono ?_
    rintro e w' ⟨rfl, rfl⟩
    have e1 : x.spent = x := by unfold Dv.spent; rw [if_pos hl]
    refine ⟨ret_bool (by simp [Dv.lasts, hl]), by rw [e1]; exact h, Grew.refl _ _, rfl⟩
  · refine (lasts_some w m.d m _ _ _ h.blk hl h.ok.lim).mono ?_
    rintro e w' ⟨rfl, rfl⟩
    exact ⟨rfl, h.spent hl hd, grew_two _ _ _ _ _ _, by simp⟩

def LimitOut (base : Nat) (w : World) (m : Lies) (x : Dv) (k : Int) (e : Ending) (w' : World) : Prop :=
  e = .returned (.int .i64 (if k < 0 then 1 else 0)) ∧ DevAt w' base m (x.limited k) ∧ Grew (fun j => j = m.d) w w' ∧ w'.heap.size = w.heap.size
set_option maxHeartbeats 400000 in
theorem dev_limit (w : World) (base : Nat) (m : Lies) (x : Dv) (h : DevAt w base m x) (k : Int) (hk : k ≤ 9223372036854775807) : Calls Tryd.prog 14 #[.pointer (some ⟨m.d, 0, none⟩), .int .i64 k] w (LimitOut base w m x k) := by
  have H := Lib.hid h
  have c3 : w.cell? ⟨m.d, 3, none⟩ = some (.int .i64 x.limit) := h.blk.cell 3
  have z3 : w.frozen? ⟨m.d, 3, none⟩ = false := h.blk.frozen 3
  clear h
  by_cases hn : k < 0
  · have d1 : decide (k < 0) = true := by simp; exact hn
    go_enter Tryd.func14, Tryd.ntmps14
    go_wp2
    go_ret
    refine ⟨by rw [if_pos hn]; rfl, ?_, Grew.refl _ _, rfl⟩
    have e : x.limited k = x := by unfold Dv.limited; rw [if_pos hn]
    rw [e]; exact H.out
  · have d1 : decide (k < 0) = false := by simp; omega
    have HN := Lib.hid hn
    have hge : 0 ≤ k := by omega
    clear hn
    go_enter Tryd.func14, Tryd.ntmps14
    go_wp2
    go_ret
    refine ⟨by rw [if_neg (Int.not_lt.2 HN.out)]; rfl, ?_, grew_one _ _ _ _, by simp⟩
    have e : x.limited k = { x with limit := k.toNat } := by unfold Dv.limited; rw [if_neg (Int.not_lt.2 HN.out)]
    rw [e]
    refine H.out.cells (y := { x with limit := k.toNat }) rfl rfl (by show k.toNat ≤ _; omega) (grew_one _ _ _ _) ?_
    have hs := H.out.blk.set_ 3 (.int .i64 k)
    have e2 : ((k.toNat : Nat) : Int) = k := by omega
    show Whole _ _ _ (devCells m x.sure.length k.toNat x.down)
    unfold devCells at hs ⊢
    rw [e2]
    exact hs

/-- What Read answers. -/
def ReadOut (w : World) (k : Int) (l : List UInt8) (e : Ending) (w' : World) : Prop :=
  ∃ v, e = .returned (.tuple #[v, .int .i64 k]) ∧ w'.ownsRow w.heap.size 5 1 v l.length (l.map bc) ∧ Below w.heap.size w w'
set_option maxHeartbeats 400000 in
set_option maxRecDepth 4000 in
theorem dev_read (w : World) (base : Nat) (m : Lies) (x : Dv) (h : DevAt w base m x) (k : Int) : Calls Tryd.prog 51 #[.pointer (some ⟨m.d, 0, none⟩), .int .i64 k] w (ReadOut w (x.readE k) (x.readB k)) := by
  have HR := Lib.hid (ready_core w m.d m _ _ _ h.blk)
  have HH := Lib.hid (has_core w m.d m _ _ _ h.blk k)
  have H := Lib.hid h
  have c0 : w.cell? ⟨m.d, 0, none⟩ = some (.slice (some ⟨m.bn, 0, none⟩) x.sure.length m.cn) := h.blk.cell 0
  clear h
  by_cases hd : x.down = true
  · have e1 : x.readE k = 8 := by unfold Dv.readE; rw [if_pos hd]
    have e2 : x.readB k = [] := by unfold Dv.readB; rw [e1]; rfl
    have r1 := HR.out
    rw [if_pos hd] at r1
    have HR1 := Lib.hid r1
    rw [e1, e2]
    clear r1 HR HH H hd e1 e2
    go_enter Tryd.func51, Tryd.ntmps51
    go_wp2_with fail
    refine HR1.out.mono ?_
    rintro e w' ⟨rfl, rfl⟩
    go_wp2
    go_ret2
    exact ⟨_, rfl, World.ownsRow_nil _ _ _ _, Below.refl _ _⟩
  · have r1 := HR.out
    rw [if_neg hd] at r1
    have HR1 := Lib.hid r1
    have HD := Lib.hid hd
    clear r1 HR hd
    by_cases hk : 0 ≤ k ∧ k < (x.sure.length : Int)
    · have r2 := HH.out
      rw [decide_eq_true hk] at r2
      have HH1 := Lib.hid r2
      obtain ⟨i, rfl⟩ : ∃ i : Nat, k = i := ⟨k.toNat, by omega⟩
      have hi : i < x.sure.length := by omega
      have hhas : x.has i = true := by simp [Dv.has]; omega
      have ct := H.out.torn_at hi
      have hcl := H.out.ok.few
      have HROW := Lib.hid (H.out.data_at hi)
      have hlen : (x.now.getD i secZero).data.length = 512 := ok_getD H.out.ok.now i
      have HHAS := Lib.hid hhas
      have HLEN := Lib.hid hlen
      clear r2 HH hk hhas hlen
      cases ht : (x.now.getD i secZero).torn with
      | true =>
        rw [ht] at ct
        have e1 : x.readE i = 9 := by unfold Dv.readE; rw [if_neg HD.out, if_neg (by simp [HHAS.out]), if_pos (by simpa using ht)]
        have e2 : x.readB i = [] := by unfold Dv.readB; rw [e1]; rfl
        rw [e1, e2]
        clear ht e1 e2
        go_enter Tryd.func51, Tryd.ntmps51
        go_wp2_with fail
        refine HR1.out.mono ?_
        rintro e w' ⟨rfl, rfl⟩
        go_wp2_with fail
        refine HH1.out.mono ?_
        rintro e w' ⟨rfl, rfl⟩
        go_wp2
        go_ret2
        exact ⟨_, rfl, World.ownsRow_nil _ _ _ _, Below.refl _ _⟩
      | false =>
        rw [ht] at ct
        have e1 : x.readE i = 0 := by unfold Dv.readE; rw [if_neg HD.out, if_neg (by simp [HHAS.out]), if_neg (by simpa using ht)]
        have e2 : x.readB i = (x.now.getD i secZero).data := by unfold Dv.readB; rw [e1]; simp
        rw [e1, e2]
        clear ht e1 e2
        have HC := Lib.hid (clone_u8 (some ⟨m.bn, i * 513, none⟩) 512 512 w.heap.size _ w (by rw [List.length_map, HLEN.out]) HROW.out (bc_one _) (by decide) (by decide))
        go_enter Tryd.func51, Tryd.ntmps51
        go_wp2_with fail
        refine HR1.out.mono ?_
        rintro e w' ⟨rfl, rfl⟩
        go_wp2_with fail
        refine HH1.out.mono ?_
        rintro e w' ⟨rfl, rfl⟩
        go_wp2_with fail
        refine HC.out.mono ?_
        rintro e w' ⟨v, rfl, hv, hb⟩
        go_wp2
        go_ret2
        exact ⟨v, rfl, by rw [HLEN.out]; exact hv, hb⟩
    · have r2 := HH.out
      rw [decide_eq_false hk] at r2
      have HH1 := Lib.hid r2
      have e1 : x.readE k = 1 := by unfold Dv.readE; rw [if_neg HD.out, if_pos (by simpa [Dv.has] using hk)]
      have e2 : x.readB k = [] := by unfold Dv.readB; rw [e1]; rfl
      rw [e1, e2]
      clear r2 HH H hk e1 e2
      go_enter Tryd.func51, Tryd.ntmps51
      go_wp2_with fail
      refine HR1.out.mono ?_
      rintro e w' ⟨rfl, rfl⟩
      go_wp2_with fail
      refine HH1.out.mono ?_
      rintro e w' ⟨rfl, rfl⟩
      go_wp2
      go_ret2
      exact ⟨_, rfl, World.ownsRow_nil _ _ _ _, Below.refl _ _⟩

end Go.Proofs.YtgfoekbdmgljbaaDoor

namespace Go.Proofs.YtgfoekbdmgljbaaDoor
open Go.RowKit

/-- One part goes in from its place on. -/
theorem fill_one {place : Nat → Option (Nat × Nat)} {cells : Array Value} {i off : Nat} {v : Value} {cs : List Value} (hv : v.cells = cs.toArray) (hp : place i = some (off, cs.length)) (hfit : off + cs.length ≤ cells.size) :
    Instr.fill place cells [(i, v)] = some (splice cells.toList off cs).toArray := by
  simp only [Instr.fill, hp, hv, List.size_toArray, ne_eq, not_true, decide_false, Bool.false_or]
  rw [if_neg (by simp; omega)]
  congr 1
  apply Array.ext_getElem?
  intro k
  have h := Great.foldl_set off cs 0 cells
  have e : (cs.toArray.zipIdx.foldl (fun cs (x : Value × Nat) => cs.setIfInBounds (off + x.2) x.1) cells) = ((cs.zipIdx 0).foldl (fun cs (x : Value × Nat) => cs.setIfInBounds (off + x.2) x.1) cells) := by simp
  show (cs.toArray.zipIdx.foldl (fun cs (x : Value × Nat) => cs.setIfInBounds (off + x.2) x.1) cells)[k]? = _
  rw [e, h.2 k]
  simp only [List.getElem?_toArray, splice]
  have hT : (cells.toList.take off).length = off := by simp; omega
  by_cases h1 : k < off
  · rw [if_neg (by omega), List.getElem?_append_left (by omega), List.getElem?_take, if_pos h1]
    simp
  · rw [List.getElem?_append_right (by omega), hT]
    by_cases h2 : k < off + cs.length
    · rw [if_pos ⟨by omega, by omega, by omega⟩, List.getElem?_append_left (by omega)]
      simp
    · rw [if_neg (by omega), List.getElem?_append_right (by omega), List.getElem?_drop, show off + cs.length + (k - off - cs.length) = k by omega]
      simp

/-- A new variable: its zero's cells. -/
theorem wpList_alloc_zero {P : Program} {ops : Array Oper} {rest : List Oper} {o : Oper} {a : Act} {w : World} {Q : Exit → Act → World → Prop} (hg : o.guard = none) (t : TypeId) (ho : o.op = .alloc t) (cs : List Value) (hz : (P.info? t).map (·.zero) = some (some (.agg cs.toArray)))
    (h : wpList P ops Q rest (a.put o.dst (.pointer (some ⟨w.heap.size, 0, none⟩))) (w.alloc (.cells cs.toArray t))) : wpList P ops Q (o :: rest) a w := by
  cases hi : P.info? t with
  | none => simp [hi] at hz
  | some i =>
    simp only [hi, Option.map_some, Option.some.injEq] at hz
    refine wpList_plain hg fun _ hK => ?_
    have hrun : (Instr.alloc t true (.tuple #[])).run P w = .ok (.pointer (some ⟨w.heap.size, 0, none⟩)) (w.alloc (.cells cs.toArray t)) := by
      simp [Instr.alloc, zeroValue, typeInfo, hi, hz, newVar, newRow, Value.cells]
    unfold Oper.wp execOp
    simp only [ho, Sem.run_bind, hrun, Result.andThen_ok]
    exact hK _ _ h
theorem run_buildSlice1 {P : Program} (w : World) (t e : TypeId) (cs : List Value) (hu : P.underlying t = some (.slice e)) (hr : (P.info? e).map (fun i => (i.zero.map (·.cells.size), i.size)) = some (some cs.length, cs.length)) (hpos : 0 < cs.length) (hsmall : cs.length ≤ 2 ^ 24) :
    (Instr.buildSlice t 1 #[(0, .agg cs.toArray)]).run P w = .ok (.slice (some ⟨w.heap.size, 0, none⟩) 1 1) (w.alloc (.cells cs.toArray e)) := by
  cases hi : P.info? e with
  | none => simp [hi] at hr
  | some i =>
    simp only [hi, Option.map_some, Option.some.injEq, Prod.mk.injEq] at hr
    obtain ⟨hz, hs⟩ := hr
    cases hzz : i.zero with
    | none => simp [hzz] at hz
    | some z =>
      refine run_buildSlice w t e 1 _ _ i z hu hi hzz (by omega) (by omega) ?_
      have hf := fill_one (place := fun k => some (k * i.size, i.size)) (cells := (Array.range (1 * i.size)).map (z.cells[· % z.cells.size]!)) (i := 0) (off := 0) (v := .agg cs.toArray) (cs := cs) rfl (by simp [hs]) (by simp [hs])
      have hl : ((Array.range (1 * i.size)).map (z.cells[· % z.cells.size]!)).toList.length = cs.length := by simp [hs]
      have e1 : splice ((Array.range (1 * i.size)).map (z.cells[· % z.cells.size]!)).toList 0 cs = cs := by
        unfold splice
        rw [List.drop_eq_nil_of_le (by omega)]
        simp
      rw [e1] at hf
      exact hf
/-- '[]T{x}' of one element of many cells. -/
theorem wpList_buildSlice1 {P : Program} {ops : Array Oper} {rest : List Oper} {o : Oper} {a : Act} {w : World} {Q : Exit → Act → World → Prop} (hg : o.guard = none) (t e : TypeId) (x : Operand) (ho : o.op = .buildSlice t 1 #[(0, x)]) (cs : List Value) (hx : a.eval x = .agg cs.toArray)
    (hu : P.underlying t = some (.slice e)) (hr : (P.info? e).map (fun i => (i.zero.map (·.cells.size), i.size)) = some (some cs.length, cs.length)) (hpos : 0 < cs.length) (hsmall : cs.length ≤ 2 ^ 24)
    (h : wpList P ops Q rest (a.put o.dst (.slice (some ⟨w.heap.size, 0, none⟩) 1 1)) (w.alloc (.cells cs.toArray e))) : wpList P ops Q (o :: rest) a w := by
  refine wpList_plain hg fun _ hK => ?_
  unfold Oper.wp execOp
  have hm : (#[(0, x)] : Array (Nat × Operand)).map (fun (i, x) => (i, a.eval x)) = #[(0, .agg cs.toArray)] := by simp [hx]
  simp only [ho, Sem.run_bind, hm, run_buildSlice1 w t e cs hu hr hpos hsmall, Result.andThen_ok]
  exact hK _ _ h
/-- The same as one step of a region that draws. -/
theorem step_buildSlice1 {P : Program} {ops : Array Oper} {o : Oper} {a : Act} {w : World} {K : Act → World → Prop} {Q : Exit → Act → World → Prop} {E : Prop} (hg : o.guard = none) (t e : TypeId) (x : Operand) (ho : o.op = .buildSlice t 1 #[(0, x)]) (cs : List Value) (hx : a.eval x = .agg cs.toArray)
    (hu : P.underlying t = some (.slice e)) (hr : (P.info? e).map (fun i => (i.zero.map (·.cells.size), i.size)) = some (some cs.length, cs.length)) (hpos : 0 < cs.length) (hsmall : cs.length ≤ 2 ^ 24)
    (h : K (a.put o.dst (.slice (some ⟨w.heap.size, 0, none⟩) 1 1)) (w.alloc (.cells cs.toArray e))) : if Region.wanted o (yielded ops a.tmps) = true then Oper.wp P o a w K Q else E := by
  have hw : Region.wanted o (yielded ops a.tmps) = true := by simp [Region.wanted, hg]
  rw [if_pos hw]
  unfold Oper.wp execOp
  have hm : (#[(0, x)] : Array (Nat × Operand)).map (fun (i, x) => (i, a.eval x)) = #[(0, .agg cs.toArray)] := by simp [hx]
  simp only [ho, Sem.run_bind, hm, run_buildSlice1 w t e cs hu hr hpos hsmall, Result.andThen_ok]
  exact h

/-- append onto a row of the call's own, as one step of a region that draws; it says where the new row lies. -/
theorem step_append_at {P : Program} {w : World} {ops : Array Oper} {o : Oper} {a : Act} {K : Act → World → Prop} {Q : Exit → Act → World → Prop} {E : Prop} (hgd : Region.wanted o (yielded ops a.tmps) = true) (s x : Operand) (t : TypeId)
    (ho : o.op = .call { callee := .builtin .append, args := #[s, x], argTypes := #[t, t] })
    (base : Nat) (e : TypeId) (i : TypeInfo) (z : Value) (size bytes : Nat) (ht : P.underlying t = some (.slice e)) (hi : P.info? e = some i) (hz : i.zero = some z)
    (hsize : i.size = size) (hby : i.bytes = bytes) (hzs : z.cells.size = size) (hsz : 0 < size)
    (v : Value) (n : Nat) (xs : List Value) (hs : a.eval s = v) (hown : w.ownsRow base e size v n xs)
    (A : Option Addr) (m c H : Nat) (news : List Value) (hx : a.eval x = .slice A m c) (hl : news.length = m * size) (hr : Row w H A news) (h1 : ∀ u ∈ news, u.oneCell' = true)
    (h63 : n + m ≤ maxLen) (hbytes : (n + m) * bytes ≤ 140737488355328) (hbase : base ≤ w.heap.size)
    (h : ∀ v' w', w'.ownsRow base e size v' (n + m) (xs ++ news) → w.grownBy w' v.ownBlock → (v'.ownBlock = v.ownBlock ∨ v'.ownBlock = some w.heap.size) → K (a.put o.dst v') w') : if Region.wanted o (yielded ops a.tmps) = true then Oper.wp P o a w K Q else E := by
  have key : ∃ v' w', (Builtin.append_ #[t, t] o.type #[v, .slice A m c]).run P w = .ok v' w' ∧ w'.ownsRow base e size v' (n + m) (xs ++ news) ∧ w.grownBy w' v.ownBlock ∧ (v'.ownBlock = v.ownBlock ∨ v'.ownBlock = some w.heap.size) := by
    rcases A with _ | ad
    · have hn : news = [] := by
        rcases news with _ | ⟨u, us⟩
        · rfl
        · obtain ⟨_, _, h, _⟩ := hr (by simp)
          cases h
      have hm : m = 0 := by
        subst hn
        rcases Nat.eq_zero_or_pos m with h0 | h0
        · exact h0
        · have := Nat.mul_pos h0 hsz
          simp at hl; omega
      subst hn; subst hm
      exact ⟨v, w, append_nil_run (P := P) w base t o.type e i size ht hi v n xs hown c, by simpa using hown, World.grownBy.refl w _, .inl rfl⟩
    · have hc : ∀ j u, news[j]? = some u → w.cell? (ad.add j) = some u := by
        intro j u hu
        obtain ⟨b, off, e, _, hc⟩ := hr (fun e => by rw [e] at hu; simp at hu)
        injection e with e
        subst e
        rw [addr_add]
        exact hc j u hu
      obtain ⟨v', w', h2, h3, h4, _, h6⟩ := run_append_own_at (P := P) w base t o.type e i z size bytes ht hi hz hsize hby hzs hsz v n xs hown ad m c news hl hc h1 h63 hbytes hbase
      exact ⟨v', w', h2, h3, h4, h6⟩
  obtain ⟨v', w', hrun, h2, h3, h4⟩ := key
  rw [if_pos hgd]
  unfold Oper.wp
  simp [execOp, ho, resolve, invoke, builtin, hs, hx, hrun, Result.andThen]
  exact h v' w' h2 h3 h4

/-- 'T{f: x}': one field is given. -/
theorem wpList_build1 {P : Program} {ops : Array Oper} {rest : List Oper} {o : Oper} {a : Act} {w : World} {Q : Exit → Act → World → Prop} (hg : o.guard = none) (t : TypeId) (k : Nat) (x : Operand) (ho : o.op = .build t #[(k, x)]) (v : Value) (hx : a.eval x = v)
    (cells : Array Value) (hf : P.built t [(k, v)] = some cells) (h : wpList P ops Q rest (a.put o.dst (.agg cells)) w) : wpList P ops Q (o :: rest) a w :=
  wpList_buildTo hg t #[(k, x)] ho _ rfl cells (by simp [hx, hf]) h

theorem wri_zero : (Tryd.prog.info? 93).map (·.zero) = some (some (.agg (Wri.cells ⟨0, zero512⟩).toArray)) := by kernel_rfl
theorem sec_zero : (Tryd.prog.info? 91).map (·.zero) = some (some (.agg secZero.cells.toArray)) := by kernel_rfl
theorem wri_row2 : (Tryd.prog.info? 93).map (fun i => (i.zero.map (·.cells.size), i.size)) = some (some 514, 514) := by kernel_rfl
theorem built_wri (k : Int) : Tryd.prog.built 93 [(0, .int .i64 k)] = some ((.int .i64 k :: secZero.cells) : List Value).toArray := by kernel_rfl
theorem built_torn : Tryd.prog.built 91 [(1, .bool true)] = some secTorn.cells.toArray := by kernel_rfl

end Go.Proofs.YtgfoekbdmgljbaaDoor

namespace Go.Proofs.YtgfoekbdmgljbaaDoor
open Go.RowKit

theorem pad_splice {k : Int} {b : List UInt8} (h : b.length ≤ 512) : splice ((.int .i64 k :: secZero.cells) : List Value) 1 (b.map bc) = .int .i64 k :: (⟨padB b, false⟩ : Sec).cells := by
  unfold splice Sec.cells padB secZero zero512
  rw [List.length_map, show 1 + b.length = b.length + 1 by omega]
  simp only [List.take_succ_cons, List.take_zero, List.drop_succ_cons, List.map_append, List.map_replicate, List.cons_append, List.nil_append, List.append_assoc]
  rw [List.drop_append_of_le_length (by rw [List.length_replicate]; exact h), List.drop_replicate]
theorem zeroW_length (k : Int) : ((.int .i64 k :: secZero.cells) : List Value).length = 514 := by
  have : secZero.cells.length = 513 := Sec.length_cells length_zero512
  simp [this]

theorem zeroW_one (k : Int) : ∀ v ∈ ((.int .i64 k :: secZero.cells) : List Value), v.oneCell' = true := by
  intro v hv
  rcases List.mem_cons.1 hv with rfl | hv
  · rfl
  · exact Sec.one _ v hv
/-- What Write answers. -/
def WriteOut (base : Nat) (w : World) (m : Lies) (x : Dv) (k : Int) (e : Ending) (w' : World) : Prop :=
  e = .returned (.int .i64 k) ∧ Went base w m x w'

/-- The source of a Write: bytes that lie outside the device's own block. -/
def SrcAt (w : World) (m : Lies) (A : Option Addr) (b : List UInt8) : Prop := b ≠ [] → ∃ g off, A = some ⟨g, off, none⟩ ∧ g < w.heap.size ∧ g ≠ m.d ∧ ∀ j u, (b.map bc)[j]? = some u → w.cell? ⟨g, off + j, none⟩ = some u

theorem splice_full {α : Type} {L cs : List α} (h : L.length = cs.length) : splice L 0 cs = cs := by
  unfold splice
  rw [List.drop_eq_nil_of_le (by omega)]
  simp
theorem _root_.Go.RowKit.Below.of_alloc {w V : World} {o : Obj} (h : Below w.heap.size (w.alloc o) V) : Below w.heap.size w V := ((Below.refl _ w).alloc (Nat.le_refl _) o).trans h
theorem SrcAt.pos {w V : World} {m : Lies} {A : Option Addr} {b : List UInt8} (h : SrcAt w m A b) (hb : Below w.heap.size w V) : 0 < (b.map bc).length → ∃ ad, A = some ad ∧ ∀ j v, (b.map bc)[j]? = some v → V.cell? (ad.add j) = some v := fun h0 => by
  obtain ⟨g, off, rfl, hg, _, hc⟩ := h (fun e => by rw [e] at h0; exact absurd h0 (Nat.not_lt_zero _))
  exact ⟨_, rfl, fun j v hv => by rw [addr_add, hb.cell (p := ⟨g, off + j, none⟩) hg]; exact hc j v hv⟩

theorem cellsU_snoc (l : List Wri) (u : Wri) : cellsU (l ++ [u]) = cellsU l ++ u.cells := by simp [cellsU]
theorem wpStill_load_mid {P : Program} {ops : Array Oper} {rest : List Oper} {op : Oper} {a : Act} {w : World} {Q : Act → Prop} (hgd : op.guard = none) (ty : TypeId) (x : Operand) (ho : op.op = .load ty x)
    (b o : Nat) (hx : a.eval x = .pointer (some ⟨b, o, none⟩)) (cs : List Value) (d : TypeDesc) (hc : w.rangeAt b o cs)
    (hu : P.underlying ty = some d) (hd : d.isRow = true) (hi : (P.info? ty).map (·.size) = some cs.length)
    (h : wpStill P ops w Q rest (a.put op.dst (.agg cs.toArray))) : wpStill P ops w Q (op :: rest) a := by
  refine wpStill_step fun K hK => ?_
  rw [if_pos (by simp [Region.wanted, hgd])]
  unfold Oper.still execOp
  simp only [ho, hx, Instr.loadAt, Instr.sureAddr, Sem.run_bind, Sem.run_pure, Result.andThen_ok, run_loadVar_mid w b o ty cs d hc hu hd hi]
  exact ⟨rfl, hK _ h⟩

/-- What is known behind the append. -/
theorem write_mid {V2 w' w3 : World} {base : Nat} {m : Lies} {y : Dv} {Lw : List Value} (h1 : DevAt w' base m y) (hd2 : DevAt V2 base m y) (hb2 : Below w'.heap.size w' V2) (hw2 : Whole V2 w'.heap.size 93 Lw)
    (hg : (V2.drew.alloc (.cells Lw.toArray 93)).grownBy w3 m.u.ownBlock) :
    w3.rangeAt w'.heap.size 0 Lw ∧ Whole w3 m.d 61 (devCells m y.sure.length y.limit y.down) ∧ w3.ownsRow base 91 513 (m.vn y.sure.length) y.sure.length (cellsS y.now) ∧ w3.ownsRow base 91 513 (m.vs y.sure.length) y.sure.length (cellsS y.sure) ∧ Grew m.own w' w3 := by
  have hj : ∀ j, j < V2.heap.size → m.u.ownBlock ≠ some j → w3.heap[j]? = V2.heap[j]? := fun j hj hu =>
    (hg.block j (by rw [World.size_alloc]; show j < V2.heap.size + 1; omega) (fun e => hu e.symm)).trans (Below.heap_alloc V2.drew _ j hj)
  have hub : m.u.ownBlock ≠ some w'.heap.size := fun e => by have := (h1.uns.lt _ e).2; omega
  have hw3 : Whole w3 w'.heap.size 93 Lw := hw2.keep (hj _ hw2.lt hub)
  have hG : Grew m.own w' w3 := by
    refine Grew.trans (Grew.all hb2) (G := m.own) ⟨hg.os, hg.tape, hg.output, ?_, fun j hj2 hn => hj j hj2 fun e => hn (.inr (.inr (.inr e)))⟩ fun j h => .inl h
    have := hg.size
    rw [World.size_alloc] at this
    exact Nat.le_trans (Nat.le_succ _) this
  exact ⟨hw3.range fun j v hv => by rw [Nat.zero_add]; exact hv, hd2.blk.keep (hj _ (hd2.own (.inl rfl)).2 hd2.ud), own_keep hd2.now fun g e => hj g (hd2.now.lt g e).2 (by rw [Lies.own_vn e]; exact hd2.un),
    own_keep hd2.sure fun g e => hj g (hd2.sure.lt g e).2 (by rw [Lies.own_vs e]; exact hd2.us), hG⟩
/-- Behind the store of the slice: what is read alone has not turned yet. -/
structure Wrote1 (w' V3 : World) (base : Nat) (m : Lies) (v' : Value) (y : Dv) (u : Wri) : Prop where
  blk : Whole V3 m.d 61 (devCells { m with u := v' } y.sure.length y.limit y.down)
  now : V3.ownsRow base 91 513 (m.vn y.sure.length) y.sure.length (cellsS y.now)
  sure : V3.ownsRow base 91 513 (m.vs y.sure.length) y.sure.length (cellsS y.sure)
  uns : V3.ownsRow base 93 514 v' (y.uns.length + 1) (cellsU (y.uns ++ [u]))
  rng : V3.rangeAt w'.heap.size 1 u.sec.cells
  grew : Grew m.own w' V3
  own : ∀ j, v'.ownBlock = some j → m.own j ∨ w'.heap.size ≤ j
theorem write_store {w' w3 : World} {base : Nat} {m : Lies} {y : Dv} {u : Wri} {v' : Value} {n : Nat} (h1 : DevAt w' base m y)
    (h : w3.rangeAt w'.heap.size 0 u.cells ∧ Whole w3 m.d 61 (devCells m y.sure.length y.limit y.down) ∧ w3.ownsRow base 91 513 (m.vn y.sure.length) y.sure.length (cellsS y.now) ∧ w3.ownsRow base 91 513 (m.vs y.sure.length) y.sure.length (cellsS y.sure) ∧ Grew m.own w' w3)
    (hu : w3.ownsRow base 93 514 v' (y.uns.length + 1) (cellsU (y.uns ++ [u]))) (hat : v'.ownBlock = m.u.ownBlock ∨ v'.ownBlock = some n) (hn : w'.heap.size ≤ n) : Wrote1 w' (w3.setCell ⟨m.d, 2, none⟩ v') base m v' y u := by
  obtain ⟨hr, hb, hno, hsu, hG⟩ := h
  have hbs := hb.set_ 2 v'
  refine ⟨hbs, own_set_far hno (by intro e; exact h1.dn (Lies.own_vn e)) _, own_set_far hsu (by intro e; exact h1.ds (Lies.own_vs e)) _, own_set_far hu (own_not_whole hu hb (by decide)) _, ?_, hG.setCell (a := ⟨m.d, 2, none⟩) (.inl (.inl rfl)) _, fun j hj => ?_⟩
  · have hne : w'.heap.size ≠ m.d := by have := (h1.own (.inl rfl)).2; omega
    have h2 := World.rangeAt_setCells_apart hr m.d 2 [v'] (.inl hne)
    intro j v hv
    have := h2 (j + 1) v (by simpa [Wri.cells] using hv)
    rw [show 1 + j = 0 + (j + 1) by omega]
    exact this
  · rcases hat with e | e
    · exact .inl (.inr (.inr (.inr (by rw [← e]; exact hj))))
    · rw [e] at hj; injection hj with hj; exact .inr (by omega)
/-- Behind the last store. -/
theorem write_fin {w' V3 V4 : World} {base : Nat} {m : Lies} {y : Dv} {u : Wri} {v' : Value} (h1 : DevAt w' base m y) (h3 : Wrote1 w' V3 base m v' y u) (hi : u.place < y.sure.length) (hd : u.data.length = 512)
    (h4 : V4.ownsRow base 91 513 (m.vn y.sure.length) y.sure.length (splice (cellsS y.now) (u.place * 513) u.sec.cells)) (hg : Grew (fun j => j = m.bn) V3 V4) : Went base w' m { y with uns := y.uns ++ [u] } V4 := by
  have hu1 : v'.ownBlock ≠ some m.bn := own_not_own h3.uns h3.now (by decide) rfl
  have e1 : splice (cellsS y.now) (u.place * 513) u.sec.cells = cellsS (y.now.set u.place u.sec) := flat_set (f := Sec.cells) h1.ok.now.cells (by rw [Dv.length_now]; exact hi) (Sec.length_cells hd)
  have e2 : Dv.now { y with uns := y.uns ++ [u] } = y.now.set u.place u.sec := nowN_snoc u
  rw [e1, ← e2] at h4
  refine ⟨{ m with u := v' }, rfl, ⟨h3.blk.grew hg h1.dn, h4, own_grew h3.sure hg (fun g e e3 => h1.ne (by rw [← e3, Lies.own_vs e])), ?_, h1.ne, h1.ld, ⟨h1.ok.s, h1.ok.u.snoc hi hd, h1.ok.few, h1.ok.lim⟩⟩, ?_, fun j hj => ?_⟩
  · show V4.ownsRow base _ 514 v' (y.uns ++ [u]).length _
    rw [List.length_append]
    exact own_grew h3.uns hg fun g e e3 => hu1 (by rw [e, e3])
  · exact h3.grew.trans hg fun j hj => .inl (.inr (.inl hj))
  · rcases hj with hj | hj | hj | hj
    · exact .inl (.inl hj)
    · exact .inl (.inr (.inl hj))
    · exact .inl (.inr (.inr (.inl hj)))
    · exact h3.own j hj

set_option maxRecDepth 4000 in
set_option maxHeartbeats 1000000 in
theorem write_full (w w1 : World) (base : Nat) (m : Lies) (y : Dv) (h1 : DevAt w1 base m y) (i c : Nat) (A : Option Addr) (b : List UInt8) (hi : i < y.sure.length) (hb : b.length ≤ 512) (hs : SrcAt w1 m A b) (hu : y.uns.length < 4294967296)
    (hR : Calls Tryd.prog 46 #[.pointer (some ⟨m.d, 0, none⟩)] w (Told w (.int .i64 0)))
    (hH : Calls Tryd.prog 60 #[.pointer (some ⟨m.d, 0, none⟩), .int .i64 i] w (Told w (.bool true)))
    (hL : Calls Tryd.prog 47 #[.pointer (some ⟨m.d, 0, none⟩)] w (fun e w' => e = .returned (.bool true) ∧ w' = w1)) :
    Calls Tryd.prog 45 #[.pointer (some ⟨m.d, 0, none⟩), .int .i64 i, .slice A b.length c] w (WriteOut base w1 m { y with uns := y.uns ++ [⟨i, padB b⟩] } 0) := by
  have HR := Lib.hid hR
  have HH := Lib.hid hH
  have HL := Lib.hid hL
  have H1 := Lib.hid h1
  have HS := Lib.hid hs
  have HI := Lib.hid hi
  have HB := Lib.hid hb
  have HU := Lib.hid hu
  have d0 : decide (512 < (b.length : Int)) = false := by simp; omega
  have hli : (i : Int) ≤ 4096 := by have := h1.ok.few; omega
  clear hR hH hL h1 hs hi hb hu
  go_enter Tryd.func45, Tryd.ntmps45
  go_wp2_with fail
  refine HR.out.mono ?_
  rintro e w' ⟨rfl, rfl⟩
  go_wp2_with fail
  refine HH.out.mono ?_
  rintro e w' ⟨rfl, rfl⟩
  go_wp2_with fail
  refine HL.out.mono ?_
  rintro e w' ⟨rfl, rfl⟩
  obtain ⟨B1, hB1⟩ : ∃ B1, B1 = w'.heap.size := ⟨_, rfl⟩
  go_wp2_with (first
    | (refine wpList_build1 rfl 93 0 (.tmp 26) rfl _ rfl _ (built_wri i) ?_)
    | (refine wpList_alloc_zero rfl 93 rfl _ wri_zero ?_)
    | (refine wpList_store_at rfl 93 (.tmp 8) (.tmp 27) rfl w'.heap.size 0 _ rfl rfl _ _ (Whole.made _ _ _) ?c1 ?c2 ?c3 ?_
       case c1 => rw [zeroW_length, Wri.length_cells length_zero512]; decide
       case c2 => rw [zeroW_length]; exact wri_size
       case c3 => exact zeroW_one i
       intro V hWV hGV hVS
       rw [splice_full (by rw [zeroW_length, Wri.length_cells length_zero512])] at hWV
       have HWV := Lib.hid (show V.heap[w'.heap.size]? = some (.cells ((.int .i64 (i : Int) :: secZero.cells) : List Value).toArray 93 (0, 0)) from hWV)
       have HBV := Lib.hid (show Below w'.heap.size w' V from ((Grew.below (B := w'.heap.size) hGV (fun j hj => by rw [hj]; exact Nat.le_refl _) (by simp)).of_alloc))
       clear hWV hGV hVS)
    | (with_reducible refine wpList_copy_splice rfl (.tmp 30) (.tmp 31) 35 35 rfl 5 Tryd.underlying35 u8_size _ _ _ _ _ _ rfl rfl w'.heap.size 1 _ 93 HWV.out (b.map bc) ?c4 ?c5 ?c6 (bc_one b) w'.heap.size w' HBV.out (Nat.le_refl _) ?_
       case c4 => rw [List.length_map]; exact (Nat.min_eq_left HB.out).symm
       case c5 => exact fun h0 => ⟨rfl, HS.out.pos HBV.out h0⟩
       case c6 => rw [List.length_map, zeroW_length]; have := HB.out; omega
       intro V2 HG2 hB2
       have HW2 := Lib.hid (show Whole V2 w'.heap.size 93 (Wri.cells ⟨i, padB b⟩) from by have h := HG2.out; rw [pad_splice HB.out] at h; exact h)
       have HD2 := Lib.hid (H1.out.below hB2)
       have HB2 := Lib.hid hB2
       clear HG2 hB2 HBV HWV))
  -- region 10
  obtain ⟨Lw, hLw⟩ : ∃ Lw, Lw = Wri.cells ⟨i, padB b⟩ := ⟨_, rfl⟩
  have hLl : Lw.length = 514 := by rw [hLw]; exact Wri.length_cells (length_padB HB.out)
  have hL1 : ∀ v ∈ Lw, v.oneCell' = true := by rw [hLw]; exact Wri.one _
  have hr2 : V2.rangeAt w'.heap.size 0 Lw := by rw [hLw]; exact HW2.out.range fun j v hv => by rw [Nat.zero_add]; exact hv
  have c2 : V2.cell? ⟨m.d, 2, none⟩ = some m.u := HD2.out.blk.cell 2
  have hmid := fun (w3 : World) (hg : (V2.drew.alloc (.cells Lw.toArray 93)).grownBy w3 m.u.ownBlock) => write_mid H1.out HD2.out HB2.out (show Whole V2 w'.heap.size 93 Lw by rw [hLw]; exact HW2.out) hg
  have ho2 : (V2.drew.alloc (.cells Lw.toArray 93)).ownsRow base 93 514 m.u y.uns.length (cellsU y.uns) := own_keep HD2.out.uns fun g hg => Below.heap_alloc V2.drew _ g (HD2.out.uns.lt g hg).2
  have hsz : base ≤ (V2.drew.alloc (.cells Lw.toArray 93)).heap.size := by have := (HD2.out.own (.inl rfl)); rw [World.size_alloc]; show base ≤ V2.heap.size + 1; omega
  have hne : w'.heap.size ≠ m.d := by have := (H1.out.own (.inl rfl)); omega
  have HLW := Lib.hid hLw
  have HLL := Lib.hid hLl
  have HL1 := Lib.hid hL1
  have HMID := Lib.hid hmid
  have HO2 := Lib.hid ho2
  have HSZ := Lib.hid hsz
  have HNE := Lib.hid hne
  obtain ⟨i0, z0, hi0, hz0, hz1, hz2, hz3⟩ := info_row wri_row
  clear hLw hLl hL1 hmid ho2 hsz hne
  refine wp_region_held_drew (S := (fun W => W.rangeAt w'.heap.size 0 Lw)) (by kernel_rfl) (by exact hr2) (fun hHeld => ?_)
  refine wpAnyH_take (i := 5) (oi := { dst := some 38, op := Go.Op.load 93 (Go.Operand.tmp 8), type := 93, pos := "flash.go:74", after := #[], guard := none }) rfl (by kernel_rfl) (by kernel_rfl) (by kernel_rfl) (fun _ _ _ h => h) (yieldsIf_load_mid (by rfl) 93 (.tmp 8) rfl w'.heap.size 0 rfl Lw _ (fun _ h => h) Tryd.underlying93 rfl (by rw [HLL.out]; exact wri_size)) (by assumption) ?_
  try simp only [Act.put, List.setIfInBounds_toArray, List.set_cons_zero, List.set_cons_succ]
  refine wpAnyH_take (i := 0) (oi := { dst := some 33, op := Go.Op.move (Go.Operand.tmp 0), type := 23, pos := "flash.go:74", after := #[], guard := none }) (v := ?_) rfl (by kernel_rfl) (by kernel_rfl) (by kernel_rfl) (fun _ _ _ h => h) (Or.inl ⟨by rfl, ?_⟩) (by assumption) ?_
  rotate_left
  · intro W hSw
    try dsimp only at hSw
    go_simp
    all_goals (with_reducible rfl)
  try simp only [Act.put, List.setIfInBounds_toArray, List.set_cons_zero, List.set_cons_succ]
  refine wpAnyH_take (i := 1) (oi := { dst := some 34, op := Go.Op.move (Go.Operand.tmp 0), type := 23, pos := "flash.go:74", after := #[], guard := none }) (v := ?_) rfl (by kernel_rfl) (by kernel_rfl) (by kernel_rfl) (fun _ _ _ h => h) (Or.inl ⟨by rfl, ?_⟩) (by assumption) ?_
  rotate_left
  · intro W hSw
    try dsimp only at hSw
    go_simp
    all_goals (with_reducible rfl)
  try simp only [Act.put, List.setIfInBounds_toArray, List.set_cons_zero, List.set_cons_succ]
  refine wpAnyH_take (i := 2) (oi := { dst := some 35, op := Go.Op.nilCheck (Go.Operand.tmp 34), type := 0, pos := "flash.go:74", after := #[{ on := 1, ground := Go.Ground.data }], guard := none }) (v := ?_) rfl (by kernel_rfl) (by kernel_rfl) (by kernel_rfl) (fun _ _ _ h => h) (Or.inl ⟨by rfl, ?_⟩) (by assumption) ?_
  rotate_left
  · intro W hSw
    try dsimp only at hSw
    go_simp
    all_goals (with_reducible rfl)
  try simp only [Act.put, List.setIfInBounds_toArray, List.set_cons_zero, List.set_cons_succ]
  refine wpAnyH_take (i := 3) (oi := { dst := some 36, op := Go.Op.fieldAddr 61 (Go.Operand.tmp 35) 2, type := 0, pos := "flash.go:74", after := #[{ on := 2, ground := Go.Ground.data }], guard := none }) (v := ?_) rfl (by kernel_rfl) (by kernel_rfl) (by kernel_rfl) (fun _ _ _ h => h) (Or.inl ⟨by rfl, ?_⟩) (by assumption) ?_
  rotate_left
  · intro W hSw
    try dsimp only at hSw
    go_simp
    all_goals (with_reducible rfl)
  try simp only [Act.put, List.setIfInBounds_toArray, List.set_cons_zero, List.set_cons_succ]
  refine wpAnyH_ready (rs := [4, 6]) (by kernel_rfl) (by simp) ?_
  refine AllReadyH.cons (o := { dst := some 37, op := Go.Op.load 59 (Go.Operand.tmp 36), type := 59, pos := "flash.go:74", after := #[{ on := 3, ground := Go.Ground.data }], guard := none }) rfl (fun K hK => ?_) (AllReadyH.cons (o := { dst := some 39, op := Go.Op.buildSlice 59 1 #[(0, Go.Operand.tmp 38)], type := 59, pos := "flash.go:74", after := #[{ on := 5, ground := Go.Ground.data }], guard := none }) rfl (fun K hK => ?_) AllReadyH.nil)
  · go_simp
    refine hK.out _ _ (by exact hHeld) (fun hHeld2 => ?_)
    clear hK K hHeld
    have hHeld := hHeld2
    clear hHeld2
    try simp only [Act.put, List.setIfInBounds_toArray, List.set_cons_zero, List.set_cons_succ]
    refine wpAnyH_ready (rs := [6]) (by kernel_rfl) (by simp) ?_
    refine AllReadyH.cons (o := { dst := some 39, op := Go.Op.buildSlice 59 1 #[(0, Go.Operand.tmp 38)], type := 59, pos := "flash.go:74", after := #[{ on := 5, ground := Go.Ground.data }], guard := none }) rfl (fun K hK => ?_) AllReadyH.nil
    refine step_buildSlice1 rfl 59 93 (.tmp 38) rfl Lw rfl Tryd.underlying59 (by rw [HLL.out]; exact wri_row2) (by rw [HLL.out]; decide) (by rw [HLL.out]; decide) ?_
    refine hK.out _ _ (by exact World.rangeAt_alloc hHeld _) (fun hHeld2 => ?_)
    clear hK K hHeld
    have hHeld := hHeld2
    clear hHeld2
    try simp only [Act.put, List.setIfInBounds_toArray, List.set_cons_zero, List.set_cons_succ]
    refine wpAnyH_ready (rs := [7]) (by kernel_rfl) (by simp) ?_
    refine AllReadyH.cons (o := { dst := some 40, op := Go.Op.call { callee := Go.Callee.builtin Go.Builtin.append, args := #[Go.Operand.tmp 37, Go.Operand.tmp 39], argTypes := #[59, 59] }, type := 59, pos := "flash.go:74", after := #[{ on := 4, ground := Go.Ground.data }, { on := 6, ground := Go.Ground.data }], guard := none }) rfl (fun K hK => ?_) AllReadyH.nil
    refine step_append_at rfl (.tmp 37) (.tmp 39) _ rfl base 93 i0 z0 514 528 Tryd.underlying59 hi0 hz0 hz1 hz2 hz3 (by decide) m.u y.uns.length (cellsU y.uns) rfl HO2.out (some ⟨V2.heap.size, 0, none⟩) 1 1 (V2.heap.size + 1) Lw rfl (by rw [HLL.out]) (by exact Row.made V2.drew Lw.toArray _) HL1.out ?c1 ?c2 HSZ.out ?_
    case c1 => have := HU.out; unfold maxLen; omega
    case c2 => have := HU.out; omega
    intro v' w3 hown' hg hat
    obtain ⟨Av, cv, rfl, _, _⟩ := own_form hown'
    have HG := Lib.hid hg
    have HW' := Lib.hid hown'
    have HAT := Lib.hid hat
    clear hown' hg hat
    refine hK.out _ _ (by exact (HMID.out w3 HG.out).1) (fun hHeld2 => ?_)
    clear hK K hHeld
    have hHeld := hHeld2
    clear hHeld2
    try simp only [Act.put, List.setIfInBounds_toArray, List.set_cons_zero, List.set_cons_succ]
    refine wpAnyH_take (i := 8) (oi := { dst := some 41, op := Go.Op.nilCheck (Go.Operand.tmp 33), type := 0, pos := "flash.go:74", after := #[{ on := 0, ground := Go.Ground.data }, { on := 0, ground := Go.Ground.phase }, { on := 1, ground := Go.Ground.phase }, { on := 2, ground := Go.Ground.phase }, { on := 3, ground := Go.Ground.phase }, { on := 4, ground := Go.Ground.phase }, { on := 5, ground := Go.Ground.phase }, { on := 6, ground := Go.Ground.phase }, { on := 7, ground := Go.Ground.phase }], guard := none }) (v := ?_) rfl (by kernel_rfl) (by kernel_rfl) (by kernel_rfl) (fun _ _ _ h => h) (Or.inl ⟨by rfl, ?_⟩) (by assumption) ?_
    rotate_left
    · intro W hSw
      try dsimp only at hSw
      go_simp
      all_goals (with_reducible rfl)
    try simp only [Act.put, List.setIfInBounds_toArray, List.set_cons_zero, List.set_cons_succ]
    refine wpAnyH_take (i := 9) (oi := { dst := some 42, op := Go.Op.fieldAddr 61 (Go.Operand.tmp 41) 2, type := 0, pos := "flash.go:74", after := #[{ on := 8, ground := Go.Ground.data }, { on := 0, ground := Go.Ground.phase }, { on := 1, ground := Go.Ground.phase }, { on := 2, ground := Go.Ground.phase }, { on := 3, ground := Go.Ground.phase }, { on := 4, ground := Go.Ground.phase }, { on := 5, ground := Go.Ground.phase }, { on := 6, ground := Go.Ground.phase }, { on := 7, ground := Go.Ground.phase }], guard := none }) (v := ?_) rfl (by kernel_rfl) (by kernel_rfl) (by kernel_rfl) (fun _ _ _ h => h) (Or.inl ⟨by rfl, ?_⟩) (by assumption) ?_
    rotate_left
    · intro W hSw
      try dsimp only at hSw
      go_simp
      all_goals (with_reducible rfl)
    try simp only [Act.put, List.setIfInBounds_toArray, List.set_cons_zero, List.set_cons_succ]
    have c3 : w3.cell? ⟨m.d, 2, none⟩ = some m.u := (HMID.out w3 HG.out).2.1.cell 2
    have z3 : w3.frozen? ⟨m.d, 2, none⟩ = false := (HMID.out w3 HG.out).2.1.frozen 2
    refine wpAnyH_ready (rs := [10]) (by kernel_rfl) (by simp) ?_
    refine AllReadyH.cons (o := { dst := none, op := Go.Op.store 59 (Go.Operand.tmp 42) (Go.Operand.tmp 40), type := 0, pos := "flash.go:74", after := #[{ on := 9, ground := Go.Ground.data }, { on := 7, ground := Go.Ground.data }, { on := 7, ground := Go.Ground.chain }, { on := 0, ground := Go.Ground.phase }, { on := 1, ground := Go.Ground.phase }, { on := 2, ground := Go.Ground.phase }, { on := 3, ground := Go.Ground.phase }, { on := 4, ground := Go.Ground.phase }, { on := 5, ground := Go.Ground.phase }, { on := 6, ground := Go.Ground.phase }, { on := 7, ground := Go.Ground.phase }], guard := none }) rfl (fun K hK => ?_) AllReadyH.nil
    go_simp
    refine hK.out _ _ (by exact World.rangeAt_setCells_apart hHeld m.d 2 [.slice Av (y.uns.length + 1) cv] (.inl HNE.out)) (fun hHeld2 => ?_)
    clear hK K hHeld
    have hHeld := hHeld2
    clear hHeld2
    skip
    refine wpAnyH_done (by kernel_rfl) ?_ _
    have h3 := write_store (u := ⟨i, padB b⟩) H1.out (by rw [← HLW.out]; exact (HMID.out w3 HG.out)) (by have := HW'.out; rw [HLW.out] at this; rw [cellsU_snoc]; exact this) HAT.out (by have := HB2.out.size; show w'.heap.size ≤ (V2.alloc (.cells Lw.toArray 93)).heap.size; rw [World.size_alloc]; omega)
    obtain ⟨V3, hV3⟩ : ∃ V3, V3 = w3.setCell ⟨m.d, 2, none⟩ (.slice Av (y.uns.length + 1) cv) := ⟨_, rfl⟩
    rw [← hV3] at h3
    simp only [← hV3]
    have H3 := Lib.hid h3
    have c0 : V3.cell? ⟨m.d, 0, none⟩ = some (.slice (some ⟨m.bn, 0, none⟩) y.sure.length m.cn) := h3.blk.cell 0
    have hi := HI.out
    clear h3 hV3 c3 z3 hHeld HG HMID HO2 c2 hr2
    go_wp2_with fail
    refine wp_region_still_tail 8 (by kernel_rfl) (by kernel_rfl) ?_
    simp only [List.take_succ_cons, List.take_zero, List.drop_succ_cons, List.drop_zero]
    repeat (first
      | (refine wpStill_load_mid rfl 91 (.tmp 48) rfl w'.heap.size 1 rfl (Sec.cells ⟨padB b, false⟩) _ (fun j v h => H3.out.rng j v h) Tryd.underlying91 rfl (by rw [Sec.length_cells (s := ⟨padB b, false⟩) (length_padB HB.out)]; exact sec_size) ?_)
      | still_step)
    refine wpStill_nil ?_
    refine wpList_store_own rfl 91 (.tmp 50) (.tmp 49) rfl m.bn (i * 513) _ rfl rfl base 91 513 y.sure.length m.cn (cellsS y.now) (own_keep H3.out.now fun _ _ => rfl) ?d1 ?d2 (Sec.one _) ?_
    case d1 => rw [H1.out.ok.now.length, Dv.length_now, Sec.length_cells (s := ⟨padB b, false⟩) (length_padB HB.out)]; have := HI.out; omega
    case d2 => rw [Sec.length_cells (s := ⟨padB b, false⟩) (length_padB HB.out)]; exact sec_size
    intro V4 hV4 hG4 hS4
    have H4 := Lib.hid (write_fin (u := ⟨i, padB b⟩) H1.out H3.out HI.out (length_padB HB.out) hV4 ⟨hG4.os, hG4.tape, hG4.output, hG4.size, hG4.block⟩)
    clear hV4 hG4 hS4
    go_wp2
    go_ret
    exact ⟨rfl, H4.out⟩

  · refine step_buildSlice1 rfl 59 93 (.tmp 38) rfl Lw rfl Tryd.underlying59 (by rw [HLL.out]; exact wri_row2) (by rw [HLL.out]; decide) (by rw [HLL.out]; decide) ?_
    refine hK.out _ _ (by exact World.rangeAt_alloc hHeld _) (fun hHeld2 => ?_)
    clear hK K hHeld
    have hHeld := hHeld2
    clear hHeld2
    try simp only [Act.put, List.setIfInBounds_toArray, List.set_cons_zero, List.set_cons_succ]
    have c2a : (V2.alloc (.cells Lw.toArray 93)).cell? ⟨m.d, 2, none⟩ = some m.u := (World.cell?_alloc_lt V2 _ _ (HD2.out.own (.inl rfl)).2).trans c2
    refine wpAnyH_ready (rs := [4]) (by kernel_rfl) (by simp) ?_
    refine AllReadyH.cons (o := { dst := some 37, op := Go.Op.load 59 (Go.Operand.tmp 36), type := 59, pos := "flash.go:74", after := #[{ on := 3, ground := Go.Ground.data }], guard := none }) rfl (fun K hK => ?_) AllReadyH.nil
    go_simp
    refine hK.out _ _ (by exact hHeld) (fun hHeld2 => ?_)
    clear hK K hHeld
    have hHeld := hHeld2
    clear hHeld2
    try simp only [Act.put, List.setIfInBounds_toArray, List.set_cons_zero, List.set_cons_succ]
    clear c2a
    refine wpAnyH_ready (rs := [7]) (by kernel_rfl) (by simp) ?_
    refine AllReadyH.cons (o := { dst := some 40, op := Go.Op.call { callee := Go.Callee.builtin Go.Builtin.append, args := #[Go.Operand.tmp 37, Go.Operand.tmp 39], argTypes := #[59, 59] }, type := 59, pos := "flash.go:74", after := #[{ on := 4, ground := Go.Ground.data }, { on := 6, ground := Go.Ground.data }], guard := none }) rfl (fun K hK => ?_) AllReadyH.nil
    refine step_append_at rfl (.tmp 37) (.tmp 39) _ rfl base 93 i0 z0 514 528 Tryd.underlying59 hi0 hz0 hz1 hz2 hz3 (by decide) m.u y.uns.length (cellsU y.uns) rfl HO2.out (some ⟨V2.heap.size, 0, none⟩) 1 1 (V2.heap.size + 1) Lw rfl (by rw [HLL.out]) (by exact Row.made V2.drew Lw.toArray _) HL1.out ?c1 ?c2 HSZ.out ?_
    case c1 => have := HU.out; unfold maxLen; omega
    case c2 => have := HU.out; omega
    intro v' w3 hown' hg hat
    obtain ⟨Av, cv, rfl, _, _⟩ := own_form hown'
    have HG := Lib.hid hg
    have HW' := Lib.hid hown'
    have HAT := Lib.hid hat
    clear hown' hg hat
    refine hK.out _ _ (by exact (HMID.out w3 HG.out).1) (fun hHeld2 => ?_)
    clear hK K hHeld
    have hHeld := hHeld2
    clear hHeld2
    try simp only [Act.put, List.setIfInBounds_toArray, List.set_cons_zero, List.set_cons_succ]
    refine wpAnyH_take (i := 8) (oi := { dst := some 41, op := Go.Op.nilCheck (Go.Operand.tmp 33), type := 0, pos := "flash.go:74", after := #[{ on := 0, ground := Go.Ground.data }, { on := 0, ground := Go.Ground.phase }, { on := 1, ground := Go.Ground.phase }, { on := 2, ground := Go.Ground.phase }, { on := 3, ground := Go.Ground.phase }, { on := 4, ground := Go.Ground.phase }, { on := 5, ground := Go.Ground.phase }, { on := 6, ground := Go.Ground.phase }, { on := 7, ground := Go.Ground.phase }], guard := none }) (v := ?_) rfl (by kernel_rfl) (by kernel_rfl) (by kernel_rfl) (fun _ _ _ h => h) (Or.inl ⟨by rfl, ?_⟩) (by assumption) ?_
    rotate_left
    · intro W hSw
      try dsimp only at hSw
      go_simp
      all_goals (with_reducible rfl)
    try simp only [Act.put, List.setIfInBounds_toArray, List.set_cons_zero, List.set_cons_succ]
    refine wpAnyH_take (i := 9) (oi := { dst := some 42, op := Go.Op.fieldAddr 61 (Go.Operand.tmp 41) 2, type := 0, pos := "flash.go:74", after := #[{ on := 8, ground := Go.Ground.data }, { on := 0, ground := Go.Ground.phase }, { on := 1, ground := Go.Ground.phase }, { on := 2, ground := Go.Ground.phase }, { on := 3, ground := Go.Ground.phase }, { on := 4, ground := Go.Ground.phase }, { on := 5, ground := Go.Ground.phase }, { on := 6, ground := Go.Ground.phase }, { on := 7, ground := Go.Ground.phase }], guard := none }) (v := ?_) rfl (by kernel_rfl) (by kernel_rfl) (by kernel_rfl) (fun _ _ _ h => h) (Or.inl ⟨by rfl, ?_⟩) (by assumption) ?_
    rotate_left
    · intro W hSw
      try dsimp only at hSw
      go_simp
      all_goals (with_reducible rfl)
    try simp only [Act.put, List.setIfInBounds_toArray, List.set_cons_zero, List.set_cons_succ]
    have c3 : w3.cell? ⟨m.d, 2, none⟩ = some m.u := (HMID.out w3 HG.out).2.1.cell 2
    have z3 : w3.frozen? ⟨m.d, 2, none⟩ = false := (HMID.out w3 HG.out).2.1.frozen 2
    refine wpAnyH_ready (rs := [10]) (by kernel_rfl) (by simp) ?_
    refine AllReadyH.cons (o := { dst := none, op := Go.Op.store 59 (Go.Operand.tmp 42) (Go.Operand.tmp 40), type := 0, pos := "flash.go:74", after := #[{ on := 9, ground := Go.Ground.data }, { on := 7, ground := Go.Ground.data }, { on := 7, ground := Go.Ground.chain }, { on := 0, ground := Go.Ground.phase }, { on := 1, ground := Go.Ground.phase }, { on := 2, ground := Go.Ground.phase }, { on := 3, ground := Go.Ground.phase }, { on := 4, ground := Go.Ground.phase }, { on := 5, ground := Go.Ground.phase }, { on := 6, ground := Go.Ground.phase }, { on := 7, ground := Go.Ground.phase }], guard := none }) rfl (fun K hK => ?_) AllReadyH.nil
    go_simp
    refine hK.out _ _ (by exact World.rangeAt_setCells_apart hHeld m.d 2 [.slice Av (y.uns.length + 1) cv] (.inl HNE.out)) (fun hHeld2 => ?_)
    clear hK K hHeld
    have hHeld := hHeld2
    clear hHeld2
    skip
    refine wpAnyH_done (by kernel_rfl) ?_ _
    have h3 := write_store (u := ⟨i, padB b⟩) H1.out (by rw [← HLW.out]; exact (HMID.out w3 HG.out)) (by have := HW'.out; rw [HLW.out] at this; rw [cellsU_snoc]; exact this) HAT.out (by have := HB2.out.size; show w'.heap.size ≤ (V2.alloc (.cells Lw.toArray 93)).heap.size; rw [World.size_alloc]; omega)
    obtain ⟨V3, hV3⟩ : ∃ V3, V3 = w3.setCell ⟨m.d, 2, none⟩ (.slice Av (y.uns.length + 1) cv) := ⟨_, rfl⟩
    rw [← hV3] at h3
    simp only [← hV3]
    have H3 := Lib.hid h3
    have c0 : V3.cell? ⟨m.d, 0, none⟩ = some (.slice (some ⟨m.bn, 0, none⟩) y.sure.length m.cn) := h3.blk.cell 0
    have hi := HI.out
    clear h3 hV3 c3 z3 hHeld HG HMID HO2 c2 hr2
    go_wp2_with fail
    refine wp_region_still_tail 8 (by kernel_rfl) (by kernel_rfl) ?_
    simp only [List.take_succ_cons, List.take_zero, List.drop_succ_cons, List.drop_zero]
    repeat (first
      | (refine wpStill_load_mid rfl 91 (.tmp 48) rfl w'.heap.size 1 rfl (Sec.cells ⟨padB b, false⟩) _ (fun j v h => H3.out.rng j v h) Tryd.underlying91 rfl (by rw [Sec.length_cells (s := ⟨padB b, false⟩) (length_padB HB.out)]; exact sec_size) ?_)
      | still_step)
    refine wpStill_nil ?_
    refine wpList_store_own rfl 91 (.tmp 50) (.tmp 49) rfl m.bn (i * 513) _ rfl rfl base 91 513 y.sure.length m.cn (cellsS y.now) (own_keep H3.out.now fun _ _ => rfl) ?d1 ?d2 (Sec.one _) ?_
    case d1 => rw [H1.out.ok.now.length, Dv.length_now, Sec.length_cells (s := ⟨padB b, false⟩) (length_padB HB.out)]; have := HI.out; omega
    case d2 => rw [Sec.length_cells (s := ⟨padB b, false⟩) (length_padB HB.out)]; exact sec_size
    intro V4 hV4 hG4 hS4
    have H4 := Lib.hid (write_fin (u := ⟨i, padB b⟩) H1.out H3.out HI.out (length_padB HB.out) hV4 ⟨hG4.os, hG4.tape, hG4.output, hG4.size, hG4.block⟩)
    clear hV4 hG4 hS4
    go_wp2
    go_ret
    exact ⟨rfl, H4.out⟩


end Go.Proofs.YtgfoekbdmgljbaaDoor

namespace Go.Proofs.YtgfoekbdmgljbaaDoor
open Go.RowKit

section
variable (w : World) (base : Nat) (m : Lies) (x : Dv) (k : Int) (A : Option Addr) (c : Nat) (b : List UInt8)
set_option maxHeartbeats 400000 in
theorem write_down (h : DevAt w base m x) (hd : x.down = true) (n : Nat) : Calls Tryd.prog 45 #[.pointer (some ⟨m.d, 0, none⟩), .int .i64 k, .slice A n c] w (Told w (.int .i64 8)) := by
  have r1 := ready_core w m.d m _ _ _ h.blk
  rw [if_pos hd] at r1
  have HR := Lib.hid r1
  clear r1 h hd
  go_enter Tryd.func45, Tryd.ntmps45
  go_wp2_with fail
  refine HR.out.mono ?_
  rintro e w' ⟨rfl, rfl⟩
  go_wp2
  go_ret
  exact ⟨rfl, rfl⟩
set_option maxHeartbeats 400000 in
theorem write_arg (h : DevAt w base m x) (hd : ¬ x.down = true) (n : Nat) (hn : (n : Int) ≤ 9223372036854775807) (hb : x.has k = false ∨ 512 < n) : Calls Tryd.prog 45 #[.pointer (some ⟨m.d, 0, none⟩), .int .i64 k, .slice A n c] w (Told w (.int .i64 1)) := by
  have r1 := ready_core w m.d m _ _ _ h.blk
  rw [if_neg hd] at r1
  have r2 := has_core w m.d m _ _ _ h.blk k
  have HR := Lib.hid r1
  cases hh : x.has k with
  | false =>
    have e : decide (0 ≤ k ∧ k < (x.sure.length : Int)) = false := hh
    rw [e] at r2
    have HH := Lib.hid r2
    clear r1 r2 h hd hb hh e
    go_enter Tryd.func45, Tryd.ntmps45
    go_wp2_with fail
    refine HR.out.mono ?_
    rintro e w' ⟨rfl, rfl⟩
    go_wp2_with fail
    refine HH.out.mono ?_
    rintro e w' ⟨rfl, rfl⟩
    go_wp2
    go_ret
    exact ⟨rfl, rfl⟩
  | true =>
    have e : decide (0 ≤ k ∧ k < (x.sure.length : Int)) = true := hh
    rw [e] at r2
    have HH := Lib.hid r2
    have d1 : decide (512 < (n : Int)) = true := by
      rcases hb with hb | hb
      · rw [hh] at hb; cases hb
      · simp; omega
    clear r1 r2 h hd hb hh e
    go_enter Tryd.func45, Tryd.ntmps45
    go_wp2_with fail
    refine HR.out.mono ?_
    rintro e w' ⟨rfl, rfl⟩
    go_wp2_with fail
    refine HH.out.mono ?_
    rintro e w' ⟨rfl, rfl⟩
    go_wp2
    go_ret
    exact ⟨rfl, rfl⟩
set_option maxHeartbeats 400000 in
theorem write_last (h : DevAt w base m x) (hd : ¬ x.down = true) (n : Nat) (hh : x.has k = true) (hn : n ≤ 512) (hl : x.limit = 1) : Calls Tryd.prog 45 #[.pointer (some ⟨m.d, 0, none⟩), .int .i64 k, .slice A n c] w
    (fun e w' => e = .returned (.int .i64 8) ∧ w' = (w.setCell ⟨m.d, 3, none⟩ (.int .i64 ((x.limit - 1 : Nat) : Int))).setCell ⟨m.d, 4, none⟩ (.bool (decide (x.limit = 1)))) := by
  have r1 := ready_core w m.d m _ _ _ h.blk
  rw [if_neg hd] at r1
  have r2 := has_core w m.d m _ _ _ h.blk k
  have e : decide (0 ≤ k ∧ k < (x.sure.length : Int)) = true := hh
  rw [e] at r2
  have r3 := lasts_some w m.d m _ _ _ h.blk (by omega) h.ok.lim
  rw [show decide (x.limit ≠ 1) = false by simp [hl]] at r3
  have HR := Lib.hid r1
  have HH := Lib.hid r2
  have HL := Lib.hid r3
  have d0 : decide (512 < (n : Int)) = false := by simp; omega
  clear r1 r2 r3 h hd hh hl e
  go_enter Tryd.func45, Tryd.ntmps45
  go_wp2_with fail
  refine HR.out.mono ?_
  rintro e w' ⟨rfl, rfl⟩
  go_wp2_with fail
  refine HH.out.mono ?_
  rintro e w' ⟨rfl, rfl⟩
  go_wp2_with fail
  refine HL.out.mono ?_
  rintro e w' ⟨rfl, rfl⟩
  go_wp2
  go_ret
  exact ⟨rfl, rfl⟩
end
theorem SrcAt.keep {w w' : World} {m : Lies} {A : Option Addr} {b : List UInt8} (h : SrcAt w m A b) (hg : Grew (fun j => j = m.d) w w') : SrcAt w' m A b := fun hb => by
  obtain ⟨g, off, e, h1, h2, h3⟩ := h hb
  refine ⟨g, off, e, Nat.lt_of_lt_of_le h1 hg.size, h2, fun j u hu => ?_⟩
  rw [← h3 j u hu]
  exact World.cell?_of_block (hg.block g h1 h2)
theorem went_of {base : Nat} {w w1 w' : World} {m : Lies} {x : Dv} (hg : Grew (fun j => j = m.d) w w1) (_ : w1.heap.size = w.heap.size) (h : Went base w1 m x w') : Went base w m x w' :=
  Went.then rfl (hg.mono fun _ h => .inl (.inl h)) (fun _ h => .inl h) h
theorem dev_write (w : World) (base : Nat) (m : Lies) (x : Dv) (h : DevAt w base m x) (k : Int) (A : Option Addr) (c : Nat) (b : List UInt8) (hl : b.length ≤ 9223372036854775807) (hs : SrcAt w m A b) (hu : x.uns.length < 4294967296) :
    Calls Tryd.prog 45 #[.pointer (some ⟨m.d, 0, none⟩), .int .i64 k, .slice A b.length c] w (WriteOut base w m (x.write k b) (x.writeE k b)) := by
  by_cases hd : x.down = true
  · have e1 : x.write k b = x := by unfold Dv.write; rw [if_pos (.inl hd)]
    have e2 : x.writeE k b = 8 := by unfold Dv.writeE; rw [if_pos hd]
    rw [e1, e2]
    refine (write_down w base m x k A c h hd _).mono ?_
    rintro e w' ⟨rfl, rfl⟩
    exact ⟨rfl, Went.refl h⟩
  by_cases hb : x.has k = false ∨ 512 < b.length
  · have e1 : x.write k b = x := by unfold Dv.write; rw [if_pos (.inr hb)]
    have e2 : x.writeE k b = 1 := by unfold Dv.writeE; rw [if_neg hd, if_pos hb]
    rw [e1, e2]
    refine (write_arg w base m x k A c h hd _ (by omega) hb).mono ?_
    rintro e w' ⟨rfl, rfl⟩
    exact ⟨rfl, Went.refl h⟩
  have hh : x.has k = true := by
    cases e : x.has k with
    | true => rfl
    | false => exact absurd (.inl e) hb
  have hn : b.length ≤ 512 := by
    apply Classical.byContradiction
    intro hc
    exact hb (.inr (by omega))
  have hdf : x.down = false := by simpa using hd
  by_cases hl1 : x.limit = 1
  · have hlast : x.lasts = false := by simp [Dv.lasts, hl1]
    have e1 : x.write k b = x.spent := by unfold Dv.write; rw [if_neg (by simp [hd, hh]; omega), if_pos hlast]
    have e2 : x.writeE k b = 8 := by unfold Dv.writeE; rw [if_neg hd, if_neg hb, if_pos hlast]
    rw [e1, e2]
    refine (write_last w base m x k A c h hd _ hh hn hl1).mono ?_
    rintro e w' ⟨rfl, rfl⟩
    exact ⟨rfl, went_of (grew_two w m.d 3 4 _ _) (by simp) (Went.refl (h.spent (by omega) hdf))⟩
  have hlast : x.lasts = true := by simp [Dv.lasts, hl1]
  have e1 : x.write k b = { x.spent with uns := x.spent.uns ++ [⟨k.toNat, padB b⟩] } := by
    unfold Dv.write
    rw [if_neg (by simp [hd, hh]; omega), if_neg (by rw [hlast]; decide), spent_uns]
  have e2 : x.writeE k b = 0 := by unfold Dv.writeE; rw [if_neg hd, if_neg hb, if_neg (by rw [hlast]; decide)]
  rw [e1, e2]
  have hk : 0 ≤ k ∧ k < (x.sure.length : Int) := by simpa [Dv.has] using hh
  obtain ⟨i, rfl⟩ : ∃ i : Nat, k = i := ⟨k.toNat, by omega⟩
  have r1 := ready_core w m.d m _ _ _ h.blk
  rw [if_neg hd] at r1
  have r2 := has_core w m.d m _ _ _ h.blk (i : Int)
  rw [decide_eq_true hk] at r2
  by_cases hl0 : x.limit = 0
  · have es : x.spent = x := by unfold Dv.spent; rw [if_pos hl0]
    rw [es]
    refine (write_full w w base m x h i c A b (by omega) hn hs hu r1 r2 ((lasts_zero w m.d m _ _ _ h.blk hl0).mono ?_)).mono ?_
    · rintro e w' ⟨rfl, rfl⟩; exact ⟨rfl, rfl⟩
    · rintro e w' hw; exact hw
  · have hsp := h.spent hl0 hdf
    have r3 := lasts_some w m.d m _ _ _ h.blk hl0 h.ok.lim
    rw [show decide (x.limit ≠ 1) = true by simp [hl1]] at r3
    refine (write_full w _ base m x.spent hsp i c A b (by rw [spent_sure]; omega) hn (hs.keep (grew_two w m.d 3 4 _ _)) (by rw [spent_uns]; exact hu) r1 r2 r3).mono ?_
    rintro e w' ⟨he, hw⟩
    exact ⟨he, went_of (grew_two w m.d 3 4 _ _) (by simp) hw⟩

end Go.Proofs.YtgfoekbdmgljbaaDoor

namespace Go.Proofs.YtgfoekbdmgljbaaDoor
open Go.RowKit

theorem wrap_pow (k : Nat) : IntKind.u64.wrap (2 ^ (k % 64)) = ((2 ^ (k % 64) : Nat) : Int) := by
  have h1 : k % 64 < 64 := Nat.mod_lt _ (by decide)
  have h2 : 2 ^ (k % 64) < 2 ^ 64 := Nat.pow_lt_pow_right (by decide) h1
  have e : (2 : Int) ^ (k % 64) = ((2 ^ (k % 64) : Nat) : Int) := by rw [Int.natCast_pow]; rfl
  have hw : ∀ n : Nat, n < 2 ^ 64 → IntKind.u64.wrap (n : Int) = (n : Int) := fun n hn => by
    show ((n : Int) % 18446744073709551616) = n
    omega
  rw [e]
  exact hw _ h2
theorem and_pow (a j : Nat) : a &&& 2 ^ j = if a.testBit j = true then 2 ^ j else 0 := by
  apply Nat.eq_of_testBit_eq
  intro i
  rw [Nat.testBit_and, Nat.testBit_two_pow]
  by_cases h : j = i
  · subst h
    cases e : a.testBit j <;> simp
  · cases e : a.testBit j <;> simp [h]
theorem bit_fact (a k : Nat) (ha : a < 18446744073709551616) : (bits .and .u64 (a : Int) (IntKind.u64.wrap (2 ^ (k % 64))) != 0) = bitAt a k := by
  have h1 : k % 64 < 64 := Nat.mod_lt _ (by decide)
  have h2 : 2 ^ (k % 64) < 2 ^ 64 := Nat.pow_lt_pow_right (by decide) h1
  rw [wrap_pow, bits_and_u64_nat a _ ha (by simpa using h2), and_pow]
  unfold bitAt
  cases a.testBit (k % 64) with
  | false => rfl
  | true =>
    have : (0 : Nat) < 2 ^ (k % 64) := Nat.pow_pos (by decide)
    rw [if_pos rfl]
    exact bne_iff_ne.2 (by omega)
theorem wpStill_build1 {P : Program} {ops : Array Oper} {rest : List Oper} {o : Oper} {a : Act} {w : World} {Q : Act → Prop} (hgd : o.guard = none) (t : TypeId) (k : Nat) (x : Operand) (ho : o.op = .build t #[(k, x)]) (v : Value) (hx : a.eval x = v)
    (cells : Array Value) (hf : P.built t [(k, v)] = some cells) (h : wpStill P ops w Q rest (a.put o.dst (.agg cells))) : wpStill P ops w Q (o :: rest) a := by
  refine wpStill_step fun K hK => ?_
  rw [if_pos (by simp [Region.wanted, hgd])]
  have hm : (#[(k, x)] : Array (Nat × Operand)).map (fun (i, x) => (i, a.eval x)) = #[(k, v)] := by simp [hx]
  unfold Oper.still execOp
  simp only [ho, hm, Sem.run_bind, run_build w t _ cells hf, Result.andThen_ok]
  exact ⟨rfl, hK _ h⟩

/-- What is known within settle's loops. -/
structure Set1 (w : World) (base : Nat) (d bn cn bs cs : Nat) (u : Value) (x : Dv) (S N : List Sec) (wr : World) : Prop where
  blk : Whole wr d 61 (devCells ⟨d, bn, cn, bs, cs, u⟩ x.sure.length x.limit x.down)
  now : wr.ownsRow base 91 513 (.slice (some ⟨bn, 0, none⟩) x.sure.length cn) x.sure.length (cellsS N)
  sure : wr.ownsRow base 91 513 (.slice (some ⟨bs, 0, none⟩) x.sure.length cs) x.sure.length (cellsS S)
  uns : wr.ownsRow base 93 514 u x.uns.length (cellsU x.uns)
  grew : Grew (Lies.own ⟨d, bn, cn, bs, cs, u⟩) w wr
section
variable {w : World} {base d bn cn bs cs : Nat} {u : Value} {x : Dv} {S N S' N' : List Sec} {wr V : World}
theorem Set1.keep (h : Set1 w base d bn cn bs cs u x S N wr) (hb : Below wr.heap.size wr V) : Set1 w base d bn cn bs cs u x S N V :=
  ⟨h.blk.keep (hb.block _ h.blk.lt), own_keep h.now fun g e => hb.block g (h.now.lt g e).2, own_keep h.sure fun g e => hb.block g (h.sure.lt g e).2, own_keep h.uns fun g e => hb.block g (h.uns.lt g e).2, h.grew.then_below hb⟩
theorem Set1.far (_ : Set1 w base d bn cn bs cs u x S N wr) (hd : DevAt w base ⟨d, bn, cn, bs, cs, u⟩ x) : (∀ g, u.ownBlock = some g → g ≠ bn ∧ g ≠ bs) ∧ d ≠ bn ∧ d ≠ bs :=
  ⟨fun g e => ⟨fun e2 => hd.un (by rw [← e2]; exact e), fun e2 => hd.us (by rw [← e2]; exact e)⟩, hd.dn, hd.ds⟩
/-- One sector of what is sure is another one. -/
theorem Set1.sure_ (h : Set1 w base d bn cn bs cs u x S N wr) (hd : DevAt w base ⟨d, bn, cn, bs, cs, u⟩ x) (hS : okS S) (hl : S.length = x.sure.length) {p : Nat} {s : Sec} (hp : p < x.sure.length) (hs : s.data.length = 512)
    (hV : V.ownsRow base 91 513 (.slice (some ⟨bs, 0, none⟩) x.sure.length cs) x.sure.length (splice (cellsS S) (p * 513) s.cells)) (hg : Grew (fun j => j = bs) wr V) : Set1 w base d bn cn bs cs u x (S.set p s) N V := by
  obtain ⟨h1, h2, h3⟩ := h.far hd
  have e : splice (cellsS S) (p * 513) s.cells = cellsS (S.set p s) := flat_set (f := Sec.cells) hS.cells (by omega) (Sec.length_cells hs)
  rw [e] at hV
  exact ⟨h.blk.grew hg h3, own_grew h.now hg (fun g e e2 => hd.ne (by simp [Value.ownBlock] at e; rw [← e2]; exact e)), hV, own_grew h.uns hg (fun g e e2 => (h1 g e).2 e2), h.grew.trans hg fun j hj => .inl (.inr (.inr (.inl hj)))⟩
theorem Set1.now_ (h : Set1 w base d bn cn bs cs u x S N wr) (hd : DevAt w base ⟨d, bn, cn, bs, cs, u⟩ x) (hS : okS N) (hl : N.length = x.sure.length) {p : Nat} {s : Sec} (hp : p < x.sure.length) (hs : s.data.length = 512)
    (hV : V.ownsRow base 91 513 (.slice (some ⟨bn, 0, none⟩) x.sure.length cn) x.sure.length (splice (cellsS N) (p * 513) s.cells)) (hg : Grew (fun j => j = bn) wr V) : Set1 w base d bn cn bs cs u x S (N.set p s) V := by
  obtain ⟨h1, h2, h3⟩ := h.far hd
  have e : splice (cellsS N) (p * 513) s.cells = cellsS (N.set p s) := flat_set (f := Sec.cells) hS.cells (by omega) (Sec.length_cells hs)
  rw [e] at hV
  exact ⟨h.blk.grew hg h2, hV, own_grew h.sure hg (fun g e e2 => hd.ne (by simp [Value.ownBlock] at e; rw [e]; exact e2.symm)), own_grew h.uns hg (fun g e e2 => (h1 g e).1 e2), h.grew.trans hg fun j hj => .inl (.inr (.inl hj))⟩
end
def Rel1 (w : World) (base : Nat) (d bn cn bs cs : Nat) (u : Value) (x : Dv) (mk t : Nat) (i : Value) (wr : World) : Prop :=
  ∃ k : Nat, k ≤ x.uns.length ∧ i = .int .i64 k ∧ Set1 w base d bn cn bs cs u x (crashN mk t x.uns x.sure k) x.now wr
def Rel2 (w : World) (base : Nat) (d bn cn bs cs : Nat) (u : Value) (x : Dv) (S : List Sec) (i : Value) (wr : World) : Prop :=
  ∃ k : Nat, k ≤ x.uns.length ∧ i = .int .i64 k ∧ Set1 w base d bn cn bs cs u x S (copyN x.uns S x.now k) wr
theorem grew_rec {F : Nat → Prop} {w V : World} (h : Grew F { w with drawn := w.drawn + 1 } V) : Grew F w V := ⟨h.os, h.tape, h.output, h.size, h.block⟩
/-- The end of settle. -/
theorem settle_fin {w : World} {base d bn cn bs cs : Nat} {u : Value} {x : Dv} {mk t : Nat} {wr V : World} (hd : DevAt w base ⟨d, bn, cn, bs, cs, u⟩ x)
    (h : Set1 w base d bn cn bs cs u x (crashN mk t x.uns x.sure x.uns.length) (crashN mk t x.uns x.sure x.uns.length) wr) (hV : V = wr.setCell ⟨d, 2, none⟩ (.slice none 0 0)) : Went base w ⟨d, bn, cn, bs, cs, u⟩ (x.settled mk t) V := by
  subst hV
  have hg : Grew (fun j => j = d) wr (wr.setCell ⟨d, 2, none⟩ (.slice none 0 0)) := grew_one _ _ _ _
  have el : (x.settled mk t).sure.length = x.sure.length := length_crashN _
  refine ⟨⟨d, bn, cn, bs, cs, .slice none 0 0⟩, rfl, ⟨?_, ?_, ?_, World.ownsRow_nil _ _ _ _, hd.ne, hd.ld, hd.ok.settled mk t⟩, ?_, fun j hj => ?_⟩
  · rw [el]; exact h.blk.set_ 2 _
  · rw [el]; exact own_grew h.now hg fun g e e2 => hd.dn (e2.symm.trans (Lies.own_vn e))
  · rw [el]; exact own_grew h.sure hg fun g e e2 => hd.ds (e2.symm.trans (Lies.own_vs e))
  · exact h.grew.trans hg fun j hj => .inl (.inl hj)
  · rcases hj with hj | hj | hj | hj
    · exact .inl (.inl hj)
    · exact .inl (.inr (.inl hj))
    · exact .inl (.inr (.inr (.inl hj)))
    · cases hj

set_option maxRecDepth 4000 in
set_option maxHeartbeats 1000000 in
theorem dev_settle (w : World) (base : Nat) (m : Lies) (x : Dv) (h : DevAt w base m x) (mk t : Nat) (hm : mk < 18446744073709551616) (ht : t < 18446744073709551616) (hu : x.uns.length < 4294967296) :
    Calls Tryd.prog 35 #[.pointer (some ⟨m.d, 0, none⟩), .int .u64 mk, .int .u64 t] w (fun e w' => e = .returned (.tuple #[]) ∧ Went base w m (x.settled mk t) w') := by
  obtain ⟨d, bn, cn, bs, cs, u⟩ := m
  obtain ⟨Au, cu, rfl, _, _⟩ := own_form h.uns
  have H := Lib.hid h
  have c2 : w.cell? ⟨d, 2, none⟩ = some (.slice Au x.uns.length cu) := h.blk.cell 2
  have hs1 : Set1 w base d bn cn bs cs (.slice Au x.uns.length cu) x x.sure x.now w := ⟨h.blk, h.now, h.sure, h.uns, Grew.refl _ _⟩
  have HS1 := Lib.hid hs1
  have hfew := h.ok.few
  clear h hs1
  go_enter Tryd.func35, Tryd.ntmps35
  go_wp2
  go_loopw [16] (Rel1 w base d bn cn bs cs (.slice Au x.uns.length cu) x mk t) (fun i _ => x.uns.length - (intOf i).toNat)
  case atStart => exact ⟨0, Nat.zero_le _, rfl, HS1.out⟩
  case round =>
    obtain ⟨k, hk, rfl, hs⟩ := hrel
    have HS := Lib.hid hs
    by_cases hlt : k < x.uns.length
    · obtain ⟨g, rfl⟩ := own_some hs.uns (by omega)
      have HKD := Lib.hid (show okS (crashN mk t x.uns x.sure k) ∧ (crashN mk t x.uns x.sure k).length = x.sure.length from ⟨ok_crashN H.out.ok.s H.out.ok.u k, length_crashN k⟩)
      have huw : x.uns[k].place < x.sure.length ∧ x.uns[k].data.length = 512 := H.out.ok.u _ (List.getElem_mem hlt)
      have HSTEP := Lib.hid (crashN_succ (m := mk) (t := t) (us := x.uns) (l := x.sure) hlt)
      obtain ⟨uk, huk⟩ : ∃ uk, uk = x.uns[k] := ⟨_, rfl⟩
      have HSTEP2 := Lib.hid (show crashN mk t x.uns x.sure (k + 1) = stepC mk t (crashN mk t x.uns x.sure k) k uk from by rw [huk]; exact HSTEP.out)
      rw [← huk] at huw
      have HUK := Lib.hid huk
      have hp := huw.1
      have HUW := Lib.hid huw
      have hbt := bit_fact t k ht
      have hbm := bit_fact mk k hm
      clear huw huk hs HSTEP
      cases htb : bitAt t k with
      | true =>
        rw [htb] at hbt
        have HB := Lib.hid htb
        clear htb hbm
        have hplace : ∀ V : World, Whole V wr.heap.size 93 uk.cells → V.cell? ⟨wr.heap.size, 0, none⟩ = some (.int .i64 uk.place) := fun V h => h.cell 0
        have HPL := Lib.hid hplace
        clear hplace
        go_wp2_with (first
          | (refine wpList_load_own rfl 93 (.tmp 19) rfl g (k * 514) rfl uk.cells _ Tryd.underlying93 rfl ?c1 base 93 514 _ cu (cellsU x.uns) HS.out.uns ?c2 ?_
             case c1 => rw [Wri.length_cells HUW.out.2]; exact wri_size
             case c2 => intro j v hv; rw [HUK.out] at hv; exact cellsU_get H.out.ok.u hlt hv)
          | (refine wpList_alloc_zero rfl 93 rfl _ wri_zero ?_)
          | (refine wpList_store_at rfl 93 (.tmp 7) (.tmp 20) rfl wr.heap.size 0 uk.cells rfl rfl _ _ (Whole.made _ _ _) ?c1 ?c2 (Wri.one _) ?_
             case c1 => rw [Wri.length_cells HUW.out.2, Wri.length_cells length_zero512]; decide
             case c2 => rw [Wri.length_cells HUW.out.2]; exact wri_size
             intro V hWV hGV hVS
             rw [splice_full (by rw [Wri.length_cells HUW.out.2, Wri.length_cells length_zero512])] at hWV
             have HWV := Lib.hid hWV
             have hbv : Below wr.heap.size wr V := (Grew.below (B := wr.heap.size) hGV (fun j hj => by rw [hj]; exact Nat.le_refl _) (by simp)).of_alloc
             have HSV := Lib.hid (HS.out.keep hbv)
             clear hWV hGV hVS hbv))
        have cp : V.cell? ⟨wr.heap.size, 0, none⟩ = some (.int .i64 uk.place) := HPL.out V HWV.out
        have cs1 : V.cell? ⟨d, 1, none⟩ = some (.slice (some ⟨bs, 0, none⟩) x.sure.length cs) := HSV.out.blk.cell 1
        refine wp_region_still_tail 8 (by kernel_rfl) (by kernel_rfl) ?_
        simp only [List.take_succ_cons, List.take_zero, List.drop_succ_cons, List.drop_zero]
        repeat (first
          | (refine wpStill_build1 rfl 91 1 (.const (.bool true)) rfl _ rfl _ built_torn ?_)
          | still_step)
        refine wpStill_nil ?_
        refine wpList_store_own rfl 91 (.tmp 35) (.tmp 34) rfl bs (uk.place * 513) _ rfl rfl base 91 513 x.sure.length cs _ (own_keep HSV.out.sure fun _ _ => rfl) ?d1 ?d2 (Sec.one _) ?_
        case d1 => rw [HKD.out.1.length, HKD.out.2, Sec.length_cells (s := secTorn) length_zero512]; omega
        case d2 => rw [Sec.length_cells (s := secTorn) length_zero512]; exact sec_size
        intro V4 hV4 hG4 hS4
        have HSV4 := Lib.hid (HSV.out.sure_ H.out HKD.out.1 HKD.out.2 hp length_zero512 hV4 (grew_rec hG4))
        clear hV4 hG4 hS4 cp cs1
        go_wp2
        refine ⟨⟨k + 1, by omega, by go_num, ?_⟩, by simp [intOf]; omega⟩
        rw [HSTEP2.out]
        unfold stepC
        rw [if_pos HB.out]
        exact HSV4.out
      | false =>
        rw [htb] at hbt
        have HB := Lib.hid htb
        clear htb
        cases hmb : bitAt mk k with
        | true =>
          rw [hmb] at hbm
          have HM := Lib.hid hmb
          clear hmb
          have hplace : ∀ V : World, Whole V wr.heap.size 93 uk.cells → V.cell? ⟨wr.heap.size, 0, none⟩ = some (.int .i64 uk.place) := fun V h => h.cell 0
          have HPL := Lib.hid hplace
          clear hplace
          go_wp2_with (first
            | (refine wpList_load_own rfl 93 (.tmp 19) rfl g (k * 514) rfl uk.cells _ Tryd.underlying93 rfl ?c1 base 93 514 _ cu (cellsU x.uns) HS.out.uns ?c2 ?_
               case c1 => rw [Wri.length_cells HUW.out.2]; exact wri_size
               case c2 => intro j v hv; rw [HUK.out] at hv; exact cellsU_get H.out.ok.u hlt hv)
            | (refine wpList_alloc_zero rfl 93 rfl _ wri_zero ?_)
            | (refine wpList_store_at rfl 93 (.tmp 7) (.tmp 20) rfl wr.heap.size 0 uk.cells rfl rfl _ _ (Whole.made _ _ _) ?c1 ?c2 (Wri.one _) ?_
               case c1 => rw [Wri.length_cells HUW.out.2, Wri.length_cells length_zero512]; decide
               case c2 => rw [Wri.length_cells HUW.out.2]; exact wri_size
               intro V hWV hGV hVS
               rw [splice_full (by rw [Wri.length_cells HUW.out.2, Wri.length_cells length_zero512])] at hWV
               have HWV := Lib.hid hWV
               have hbv : Below wr.heap.size wr V := (Grew.below (B := wr.heap.size) hGV (fun j hj => by rw [hj]; exact Nat.le_refl _) (by simp)).of_alloc
               have HSV := Lib.hid (HS.out.keep hbv)
               clear hWV hGV hVS hbv))
          have cp : V.cell? ⟨wr.heap.size, 0, none⟩ = some (.int .i64 uk.place) := HPL.out V HWV.out
          have cs1 : V.cell? ⟨d, 1, none⟩ = some (.slice (some ⟨bs, 0, none⟩) x.sure.length cs) := HSV.out.blk.cell 1
          have HRG := Lib.hid (show V.rangeAt wr.heap.size 1 uk.sec.cells from HWV.out.range fun j v hv => by rw [Nat.add_comm]; simpa [Wri.cells] using hv)
          refine wp_region_still_tail 9 (by kernel_rfl) (by kernel_rfl) ?_
          simp only [List.take_succ_cons, List.take_zero, List.drop_succ_cons, List.drop_zero]
          repeat (first
            | (refine wpStill_load_mid rfl 91 (.tmp 46) rfl wr.heap.size 1 rfl uk.sec.cells _ (fun j v h => HRG.out j v h) Tryd.underlying91 rfl (by rw [Sec.length_cells (s := uk.sec) HUW.out.2]; exact sec_size) ?_)
            | still_step)
          refine wpStill_nil ?_
          refine wpList_store_own rfl 91 (.tmp 48) (.tmp 47) rfl bs (uk.place * 513) _ rfl rfl base 91 513 x.sure.length cs _ (own_keep HSV.out.sure fun _ _ => rfl) ?d1 ?d2 (Sec.one _) ?_
          case d1 => rw [HKD.out.1.length, HKD.out.2, Sec.length_cells (s := uk.sec) HUW.out.2]; omega
          case d2 => rw [Sec.length_cells (s := uk.sec) HUW.out.2]; exact sec_size
          intro V4 hV4 hG4 hS4
          have HSV4 := Lib.hid (HSV.out.sure_ H.out HKD.out.1 HKD.out.2 hp HUW.out.2 hV4 (grew_rec hG4))
          clear hV4 hG4 hS4 cp cs1
          go_wp2
          refine ⟨⟨k + 1, by omega, by go_num, ?_⟩, by simp [intOf]; omega⟩
          rw [HSTEP2.out]
          unfold stepC
          rw [if_neg (by rw [HB.out]; decide), if_pos HM.out]
          exact HSV4.out
        | false =>
          rw [hmb] at hbm
          have HM := Lib.hid hmb
          clear hmb
          have hplace : ∀ V : World, Whole V wr.heap.size 93 uk.cells → V.cell? ⟨wr.heap.size, 0, none⟩ = some (.int .i64 uk.place) := fun V h => h.cell 0
          have HPL := Lib.hid hplace
          clear hplace
          go_wp2_with (first
            | (refine wpList_load_own rfl 93 (.tmp 19) rfl g (k * 514) rfl uk.cells _ Tryd.underlying93 rfl ?c1 base 93 514 _ cu (cellsU x.uns) HS.out.uns ?c2 ?_
               case c1 => rw [Wri.length_cells HUW.out.2]; exact wri_size
               case c2 => intro j v hv; rw [HUK.out] at hv; exact cellsU_get H.out.ok.u hlt hv)
            | (refine wpList_alloc_zero rfl 93 rfl _ wri_zero ?_)
            | (refine wpList_store_at rfl 93 (.tmp 7) (.tmp 20) rfl wr.heap.size 0 uk.cells rfl rfl _ _ (Whole.made _ _ _) ?c1 ?c2 (Wri.one _) ?_
               case c1 => rw [Wri.length_cells HUW.out.2, Wri.length_cells length_zero512]; decide
               case c2 => rw [Wri.length_cells HUW.out.2]; exact wri_size
               intro V hWV hGV hVS
               rw [splice_full (by rw [Wri.length_cells HUW.out.2, Wri.length_cells length_zero512])] at hWV
               have HWV := Lib.hid hWV
               have hbv : Below wr.heap.size wr V := (Grew.below (B := wr.heap.size) hGV (fun j hj => by rw [hj]; exact Nat.le_refl _) (by simp)).of_alloc
               have HSV := Lib.hid (HS.out.keep hbv)
               clear hWV hGV hVS hbv))
          refine ⟨⟨k + 1, by omega, by go_num, ?_⟩, by simp [intOf]; omega⟩
          rw [HSTEP2.out]
          unfold stepC
          rw [if_neg (by rw [HB.out]; decide), if_neg (by rw [HM.out]; decide)]
          exact HSV.out
    · obtain rfl : k = x.uns.length := by omega
      have c2r : wr.cell? ⟨d, 2, none⟩ = some (.slice Au x.uns.length cu) := hs.blk.cell 2
      clear hs
      obtain ⟨S, hS⟩ : ∃ S, S = crashN mk t x.uns x.sure x.uns.length := ⟨_, rfl⟩
      have hfin := settled (m := mk) (t := t) (us := x.uns) (l := x.sure)
      have hks : okS S ∧ S.length = x.sure.length := by rw [hS]; exact ⟨ok_crashN H.out.ok.s H.out.ok.u _, length_crashN _⟩
      rw [← hS] at hfin
      have HSE := Lib.hid hS
      have HFIN := Lib.hid (show copyN x.uns S x.now x.uns.length = S from hfin)
      have HKS := Lib.hid hks
      have HS := Lib.hid (show Set1 w base d bn cn bs cs (.slice Au x.uns.length cu) x S x.now wr by rw [hS]; exact HS.out)
      clear hS hfin hks
      go_wp2
      obtain ⟨wo, rfl⟩ : ∃ wo : World, wo = wr := ⟨_, rfl⟩
      go_loopw [55] (Rel2 w base d bn cn bs cs (.slice Au x.uns.length cu) x S) (fun i _ => x.uns.length - (intOf i).toNat)
      case atStart => exact ⟨0, Nat.zero_le _, rfl, HS.out⟩
      case round =>
        obtain ⟨k, hk2, rfl, hs⟩ := hrel
        have HS := Lib.hid hs
        by_cases hlt : k < x.uns.length
        · obtain ⟨g, rfl⟩ := own_some hs.uns (by omega)
          have HKD := Lib.hid (show okS (copyN x.uns S x.now k) ∧ (copyN x.uns S x.now k).length = x.sure.length from ⟨ok_copyN HKS.out.1 H.out.ok.now k, by rw [length_copyN]; exact x.length_now⟩)
          have huw : x.uns[k].place < x.sure.length ∧ x.uns[k].data.length = 512 := H.out.ok.u _ (List.getElem_mem hlt)
          have HSTEP := Lib.hid (copyN_succ (us := x.uns) (S := S) (l := x.now) hlt)
          obtain ⟨uk, huk⟩ : ∃ uk, uk = x.uns[k] := ⟨_, rfl⟩
          have HSTEP2 := Lib.hid (show copyN x.uns S x.now (k + 1) = (copyN x.uns S x.now k).set uk.place (S.getD uk.place secZero) from by rw [huk]; exact HSTEP.out)
          rw [← huk] at huw
          have HUK := Lib.hid huk
          have hp := huw.1
          have HUW := Lib.hid huw
          clear huw huk hs HSTEP
          have hplace : ∀ V : World, Whole V wr.heap.size 93 uk.cells → V.cell? ⟨wr.heap.size, 0, none⟩ = some (.int .i64 uk.place) := fun V h => h.cell 0
          have HPL := Lib.hid hplace
          clear hplace
          go_wp2_with (first
            | (refine wpList_load_own rfl 93 (.tmp 57) rfl g (k * 514) rfl uk.cells _ Tryd.underlying93 rfl ?c1 base 93 514 _ cu (cellsU x.uns) HS.out.uns ?c2 ?_
               case c1 => rw [Wri.length_cells HUW.out.2]; exact wri_size
               case c2 => intro j v hv; rw [HUK.out] at hv; exact cellsU_get H.out.ok.u hlt hv)
            | (refine wpList_alloc_zero rfl 93 rfl _ wri_zero ?_)
            | (refine wpList_store_at rfl 93 (.tmp 10) (.tmp 58) rfl wr.heap.size 0 uk.cells rfl rfl _ _ (Whole.made _ _ _) ?c1 ?c2 (Wri.one _) ?_
               case c1 => rw [Wri.length_cells HUW.out.2, Wri.length_cells length_zero512]; decide
               case c2 => rw [Wri.length_cells HUW.out.2]; exact wri_size
               intro V hWV hGV hVS
               rw [splice_full (by rw [Wri.length_cells HUW.out.2, Wri.length_cells length_zero512])] at hWV
               have HWV := Lib.hid hWV
               have hbv : Below wr.heap.size wr V := (Grew.below (B := wr.heap.size) hGV (fun j hj => by rw [hj]; exact Nat.le_refl _) (by simp)).of_alloc
               have HSV := Lib.hid (HS.out.keep hbv)
               clear hWV hGV hVS hbv))
          have cp : V.cell? ⟨wr.heap.size, 0, none⟩ = some (.int .i64 uk.place) := HPL.out V HWV.out
          have cs0 : V.cell? ⟨d, 0, none⟩ = some (.slice (some ⟨bn, 0, none⟩) x.sure.length cn) := HSV.out.blk.cell 0
          have cs1 : V.cell? ⟨d, 1, none⟩ = some (.slice (some ⟨bs, 0, none⟩) x.sure.length cs) := HSV.out.blk.cell 1
          obtain ⟨sk, hsk⟩ : ∃ sk, sk = S.getD uk.place secZero := ⟨_, rfl⟩
          have hlen : sk.data.length = 512 := by rw [hsk]; exact ok_getD HKS.out.1 _
          have HSK := Lib.hid hsk
          have HLEN := Lib.hid hlen
          have HRG := Lib.hid (show V.rangeAt bs (uk.place * 513) sk.cells from own_range HSV.out.sure fun j v hv => by
            have hpl : uk.place < S.length := by rw [HKS.out.2]; exact hp
            have e : S.getD uk.place secZero = S[uk.place] := by rw [List.getD_eq_getElem?_getD, List.getElem?_eq_getElem hpl]; rfl
            rw [HSK.out, e] at hv
            exact cellsS_get HKS.out.1 hpl hv)
          clear hlen hsk
          refine wp_region_still_tail 15 (by kernel_rfl) (by kernel_rfl) ?_
          simp only [List.take_succ_cons, List.take_zero, List.drop_succ_cons, List.drop_zero]
          repeat (first
            | (refine wpStill_load_mid rfl 91 (.tmp 71) rfl bs (uk.place * 513) rfl sk.cells _ (fun j v h => HRG.out j v h) Tryd.underlying91 rfl (by rw [Sec.length_cells HLEN.out]; exact sec_size) ?_)
            | still_step)
          refine wpStill_nil ?_
          refine wpList_store_own rfl 91 (.tmp 73) (.tmp 72) rfl bn (uk.place * 513) _ rfl rfl base 91 513 x.sure.length cn _ (own_keep HSV.out.now fun _ _ => rfl) ?d1 ?d2 (Sec.one _) ?_
          case d1 => rw [HKD.out.1.length, HKD.out.2, Sec.length_cells HLEN.out]; omega
          case d2 => rw [Sec.length_cells HLEN.out]; exact sec_size
          intro V4 hV4 hG4 hS4
          have HSV4 := Lib.hid (HSV.out.now_ H.out HKD.out.1 HKD.out.2 hp HLEN.out hV4 (grew_rec hG4))
          clear hV4 hG4 hS4 cp cs0 cs1
          go_wp2
          refine ⟨⟨k + 1, by omega, by go_num, ?_⟩, by simp [intOf]; omega⟩
          rw [HSTEP2.out, ← HSK.out]
          exact HSV4.out
        · obtain rfl : k = x.uns.length := by omega
          have c2e : wr.cell? ⟨d, 2, none⟩ = some (.slice Au x.uns.length cu) := hs.blk.cell 2
          have z2e : wr.frozen? ⟨d, 2, none⟩ = false := hs.blk.frozen 2
          clear hs
          go_wp2
          refine Great.bodyPost_end0 rfl rfl ⟨rfl, settle_fin H.out ?_ rfl⟩
          have h := HS.out
          rw [HFIN.out] at h
          rw [← HSE.out]
          exact h

end Go.Proofs.YtgfoekbdmgljbaaDoor

namespace Go.Proofs.YtgfoekbdmgljbaaDoor
open Go.RowKit

set_option maxHeartbeats 400000 in
theorem dev_sync (w : World) (base : Nat) (m : Lies) (x : Dv) (h : DevAt w base m x) (hu : x.uns.length < 4294967296) :
    Calls Tryd.prog 33 #[.pointer (some ⟨m.d, 0, none⟩)] w (WriteOut base w m x.sync x.syncE) := by
  have r1 := ready_core w m.d m _ _ _ h.blk
  by_cases hd : x.down = true
  · have e1 : x.sync = x := by unfold Dv.sync; rw [if_pos hd]
    have e2 : x.syncE = 8 := by unfold Dv.syncE; rw [if_pos (.inl hd)]
    rw [e1, e2]
    rw [if_pos hd] at r1
    have HR := Lib.hid r1
    have H := Lib.hid h
    clear r1 h hd e1 e2
    go_enter Tryd.func33, Tryd.ntmps33
    go_wp2_with fail
    refine HR.out.mono ?_
    rintro e w' ⟨rfl, rfl⟩
    go_wp2
    go_ret
    exact ⟨rfl, Went.refl H.out⟩
  rw [if_neg hd] at r1
  have HR := Lib.hid r1
  have hdf : x.down = false := by simpa using hd
  have hl := dev_lasts w base m x h hdf
  cases hlast : x.lasts with
  | false =>
    have e1 : x.sync = x.spent := by unfold Dv.sync; rw [if_neg hd, if_pos hlast]
    have e2 : x.syncE = 8 := by unfold Dv.syncE; rw [if_pos (.inr hlast)]
    rw [e1, e2]
    have hl2 : Calls Tryd.prog 47 #[.pointer (some ⟨m.d, 0, none⟩)] w (fun e w' => e = .returned (.bool false) ∧ Went base w m x.spent w') := hl.mono fun e w' ⟨h1, h2, h3, h4⟩ => ⟨by rw [h1, hlast], went_of h3 h4 (Went.refl h2)⟩
    have HL := Lib.hid hl2
    clear r1 h hd hdf hl hl2 e1 e2 hlast
    go_enter Tryd.func33, Tryd.ntmps33
    go_wp2_with fail
    refine HR.out.mono ?_
    rintro e w' ⟨rfl, rfl⟩
    go_wp2_with fail
    refine HL.out.mono ?_
    rintro e w' ⟨rfl, hw⟩
    have HW := Lib.hid hw
    clear hw
    go_wp2
    go_ret
    exact ⟨rfl, HW.out⟩
  | true =>
    have e1 : x.sync = x.spent.settled allOnes 0 := by unfold Dv.sync; rw [if_neg hd, if_neg (by rw [hlast]; decide)]
    have e2 : x.syncE = 0 := by unfold Dv.syncE; rw [if_neg (by rw [hlast]; simp [hd])]
    rw [e1, e2]
    have hl2 : Calls Tryd.prog 47 #[.pointer (some ⟨m.d, 0, none⟩)] w (fun e w' => e = .returned (.bool true) ∧ DevAt w' base m x.spent ∧ Grew (fun j => j = m.d) w w' ∧ w'.heap.size = w.heap.size) := hl.mono fun e w' ⟨h1, h2, h3, h4⟩ => ⟨by rw [h1, hlast], h2, h3, h4⟩
    have hset : ∀ w1, DevAt w1 base m x.spent → Calls Tryd.prog 35 #[.pointer (some ⟨m.d, 0, none⟩), .int .u64 18446744073709551615, .int .u64 0] w1 (fun e w' => e = .returned (.tuple #[]) ∧ Went base w1 m (x.spent.settled allOnes 0) w') := fun w1 h1 =>
      dev_settle w1 base m x.spent h1 allOnes 0 (by decide) (by decide) (by rw [spent_uns]; exact hu)
    have HL := Lib.hid hl2
    have HSET := Lib.hid hset
    clear r1 h hd hdf hl hl2 e1 e2 hlast hset hu
    go_enter Tryd.func33, Tryd.ntmps33
    go_wp2_with fail
    refine HR.out.mono ?_
    rintro e w' ⟨rfl, rfl⟩
    go_wp2_with fail
    refine HL.out.mono ?_
    rintro e w1 ⟨rfl, h1, hg, hz⟩
    have H1 := Lib.hid h1
    have HG := Lib.hid hg
    have HZ := Lib.hid hz
    clear h1 hg hz
    go_wp2_with fail
    refine (HSET.out w1 H1.out).mono ?_
    rintro e w2 ⟨rfl, hw⟩
    have HW := Lib.hid hw
    clear hw
    go_wp2
    go_ret
    exact ⟨rfl, went_of HG.out HZ.out HW.out⟩

set_option maxHeartbeats 400000 in
theorem dev_crash (w : World) (base : Nat) (m : Lies) (x : Dv) (h : DevAt w base m x) (mk t : Nat) (hm : mk < 18446744073709551616) (ht : t < 18446744073709551616) (hu : x.uns.length < 4294967296) :
    Calls Tryd.prog 15 #[.pointer (some ⟨m.d, 0, none⟩), .int .u64 mk, .int .u64 t] w (WriteOut base w m (x.crash mk t) 0) := by
  have HSET := Lib.hid (dev_settle w base m x h mk t hm ht hu)
  clear h hu
  go_enter Tryd.func15, Tryd.ntmps15
  go_wp2_with fail
  refine HSET.out.mono ?_
  rintro e w1 ⟨rfl, m1, hd, h1, hg, hf⟩
  have c3 : w1.cell? ⟨m.d, 3, none⟩ = some (.int .i64 (x.settled mk t).limit) := by rw [← hd]; exact h1.blk.cell 3
  have z3 : w1.frozen? ⟨m.d, 3, none⟩ = false := by rw [← hd]; exact h1.blk.frozen 3
  have c4 : w1.cell? ⟨m.d, 4, none⟩ = some (.bool (x.settled mk t).down) := by rw [← hd]; exact h1.blk.cell 4
  have z4 : w1.frozen? ⟨m.d, 4, none⟩ = false := by rw [← hd]; exact h1.blk.frozen 4
  have HD := Lib.hid hd
  have H1 := Lib.hid h1
  have HG := Lib.hid hg
  have HF := Lib.hid hf
  clear h1 hg hf hd
  go_wp2
  go_ret
  refine ⟨rfl, Went.then HD.out HG.out HF.out ?_⟩
  have hc := H1.out.cells (y := x.crash mk t) rfl rfl (Nat.zero_le _) (grew_two w1 m1.d 3 4 (.int .i64 0) (.bool false)) ((H1.out.blk.set_ 3 _).set_ 4 _)
  rw [HD.out] at hc
  exact ⟨m1, rfl, hc, by rw [← HD.out]; exact (grew_two w1 m1.d 3 4 _ _).mono fun _ h => .inl (.inl h), fun _ h => .inl h⟩

end Go.Proofs.YtgfoekbdmgljbaaDoor

namespace Go.Proofs.YtgfoekbdmgljbaaDoor
open Go.RowKit

theorem made_secs (n : Nat) : madeCells secZero.cells.toArray (n * 513) = (cellsS (List.replicate n secZero)).toArray := by
  apply Array.ext
  · rw [size_madeCells, List.size_toArray]
    have h : okS (List.replicate n secZero) := fun s hs => by rw [(List.mem_replicate.1 hs).2]; exact length_zero512
    rw [h.length, List.length_replicate]
  · intro i h1 h2
    rw [size_madeCells] at h1
    have hn : i / 513 < n := by omega
    have hl : secZero.cells.length = 513 := Sec.length_cells length_zero512
    have hm : i % 513 < secZero.cells.length := by rw [hl]; exact Nat.mod_lt _ (by decide)
    have h3 := cellsS_get (l := List.replicate n secZero) (fun s hs => by rw [(List.mem_replicate.1 hs).2]; exact length_zero512) (i := i / 513) (by rw [List.length_replicate]; exact hn) (j := i % 513) (v := secZero.cells[i % 513]'hm) (by rw [List.getElem_replicate]; exact List.getElem?_eq_getElem hm)
    rw [show i / 513 * 513 + i % 513 = i by omega] at h3
    obtain ⟨h4, h5⟩ := List.getElem?_eq_some_iff.1 h3
    simp only [List.getElem_toArray, h5]
    unfold madeCells
    simp only [Array.getElem_map, Array.getElem_range, List.size_toArray, hl]
    rw [getElem!_pos _ _ (by simpa using hm)]
    simp
/-- 'make([]T, n)' of elements of many cells, as one step of a region that draws. -/
theorem step_make_rows {P : Program} {ops : Array Oper} {o : Oper} {a : Act} {w : World} {K : Act → World → Prop} {Q : Exit → Act → World → Prop} {E : Prop} (hg : o.guard = none) (t : TypeId) (l c : Operand) (ho : o.op = .makeSlice t l c) (e : TypeId) (size bytes : Nat) (z cs : List Value) (n : Nat)
    (hl : a.eval l = .int .i64 n) (hc : a.eval c = .int .i64 n) (hu : P.underlying t = some (.slice e)) (hz : (P.info? e).map (·.zero) = some (some (.agg z.toArray))) (hs : (P.info? e).map (fun i => (i.size, i.bytes)) = some (size, bytes)) (hb : bytes * n ≤ 281474976710656) (hn : n ≤ 9223372036854775807) (hm : madeCells z.toArray (n * size) = cs.toArray)
    (h : K (a.put o.dst (.slice (some ⟨w.heap.size, 0, none⟩) n n)) (w.alloc (.cells cs.toArray e))) : if Region.wanted o (yielded ops a.tmps) = true then Oper.wp P o a w K Q else E := by
  have hw : Region.wanted o (yielded ops a.tmps) = true := by simp [Region.wanted, hg]
  rw [if_pos hw]
  cases hi : P.info? e with
  | none => simp [hi] at hs
  | some i =>
    simp only [hi, Option.map_some, Option.some.injEq, Prod.mk.injEq] at hz hs
    obtain ⟨hs1, hs2⟩ := hs
    have hr := run_make (P := P) w t e i _ hu hi hz .i64 .i64 n n (by omega) (Int.le_refl _) (by rw [hs2]; omega) (by omega)
    rw [hs1] at hr
    simp only [Int.toNat_natCast, Value.cells, hm] at hr
    unfold Oper.wp execOp
    simp only [ho, hl, hc, Sem.run_bind, hr, Result.andThen_ok]
    exact h
def NewOut (w : World) (n : Nat) (e : Ending) (w' : World) : Prop :=
  ∃ m : Lies, e = .returned (.tuple #[.pointer (some ⟨m.d, 0, none⟩), .int .i64 0]) ∧ DevAt w' w.heap.size m (newDv n) ∧ Below w.heap.size w w'
theorem new_ok (n : Nat) (hn : n ≤ 4096) : (newDv n).ok := ⟨fun s hs => (by rw [(List.mem_replicate.1 hs).2]; exact length_zero512), fun u hu => (by cases hu), (by show (List.replicate n secZero).length ≤ 4096; rw [List.length_replicate]; exact hn), Nat.zero_le _⟩
/-- Two blocks of sectors, in whatever order, and the device's own. -/
theorem new_fin (w : World) (n : Nat) (hn : n ≤ 4096) (bn bs : Nat) (h1 : bn = w.heap.size ∧ bs = w.heap.size + 1 ∨ bn = w.heap.size + 1 ∧ bs = w.heap.size) (V : World)
    (hV : V = ((w.alloc (.cells (cellsS (List.replicate n secZero)).toArray 91)).alloc (.cells (cellsS (List.replicate n secZero)).toArray 91)).alloc (.cells #[.slice (some ⟨bn, 0, none⟩) n n, .slice (some ⟨bs, 0, none⟩) n n, .slice none 0 0, .int .i64 0, .bool false] 61)) :
    DevAt V w.heap.size ⟨w.heap.size + 2, bn, n, bs, n, .slice none 0 0⟩ (newDv n) := by
  have hl : (List.replicate n secZero).length = n := List.length_replicate ..
  have hok := new_ok n hn
  have hcl : (cellsS (List.replicate n secZero)).length = n * 513 := by rw [(show okS (List.replicate n secZero) from hok.s).length, hl]
  have hb0 : V.heap[w.heap.size]? = some (.cells (cellsS (List.replicate n secZero)).toArray 91 (0, 0)) := by
    rw [hV, Below.heap_alloc _ _ _ (by simp; omega), heap_alloc2_old]
  have hb1 : V.heap[w.heap.size + 1]? = some (.cells (cellsS (List.replicate n secZero)).toArray 91 (0, 0)) := by
    rw [hV, Below.heap_alloc _ _ _ (by simp), heap_alloc2_new]
  have hb2 : V.heap[w.heap.size + 2]? = some (.cells #[.slice (some ⟨bn, 0, none⟩) n n, .slice (some ⟨bs, 0, none⟩) n n, .slice none 0 0, .int .i64 0, .bool false] 61 (0, 0)) := by
    have h := heap_alloc_new ((w.alloc (.cells (cellsS (List.replicate n secZero)).toArray 91)).alloc (.cells (cellsS (List.replicate n secZero)).toArray 91)) (.cells #[.slice (some ⟨bn, 0, none⟩) n n, .slice (some ⟨bs, 0, none⟩) n n, .slice none 0 0, .int .i64 0, .bool false] 61)
    rw [World.size_alloc, World.size_alloc] at h
    rw [hV]
    exact h
  have hrow : ∀ b, (b = w.heap.size ∨ b = w.heap.size + 1) → V.ownsRow w.heap.size 91 513 (.slice (some ⟨b, 0, none⟩) n n) n (cellsS (List.replicate n secZero)) := fun b hb => by
    refine ⟨hcl, .inr ⟨b, n, _, rfl, by omega, ?_, Nat.le_refl _, by unfold maxLen; omega, by rw [List.size_toArray]; exact hcl, by rw [← hcl]; simp⟩⟩
    rcases hb with rfl | rfl
    · exact hb0
    · exact hb1
  refine ⟨?_, ?_, ?_, World.ownsRow_nil _ _ _ _, by show bn ≠ bs; omega, by show w.heap.size ≤ w.heap.size + 2; omega, hok⟩
  · show V.heap[w.heap.size + 2]? = some (.cells (devCells _ (List.replicate n secZero).length 0 false).toArray _ (0, 0))
    rw [hl]
    exact hb2
  · show V.ownsRow _ _ 513 (.slice (some ⟨bn, 0, none⟩) (List.replicate n secZero).length n) (List.replicate n secZero).length (cellsS (List.replicate n secZero))
    rw [hl]
    exact hrow bn (by omega)
  · show V.ownsRow _ _ 513 (.slice (some ⟨bs, 0, none⟩) (List.replicate n secZero).length n) (List.replicate n secZero).length (cellsS (List.replicate n secZero))
    rw [hl]
    exact hrow bs (by omega)

set_option maxHeartbeats 400000 in
theorem dev_new_bad (w : World) (k : Int) (h : k < 1 ∨ 4096 < k) : Calls Tryd.prog 6 #[.int .i64 k] w (Told w (.tuple #[.pointer none, .int .i64 1])) := by
  by_cases h1 : k < 1
  · have d1 : decide (k < 1) = true := by simp; omega
    go_enter Tryd.func6, Tryd.ntmps6
    go_wp2
    go_ret2
    exact ⟨rfl, rfl⟩
  · have d1 : decide (k < 1) = false := by simp; omega
    have d2 : decide (4096 < k) = true := by simp; omega
    go_enter Tryd.func6, Tryd.ntmps6
    go_wp2
    go_ret2
    exact ⟨rfl, rfl⟩
set_option maxRecDepth 4000 in
set_option maxHeartbeats 1000000 in
theorem dev_new (w : World) (n : Nat) (h1 : 1 ≤ n) (h2 : n ≤ 4096) : Calls Tryd.prog 6 #[.int .i64 n] w (NewOut w n) := by
  have d1 : decide ((n : Int) < 1) = false := by simp; omega
  have d2 : decide (4096 < (n : Int)) = false := by simp; omega
  go_enter Tryd.func6, Tryd.ntmps6
  go_wp2
  refine wp_region_held_drew (S := fun _ => True) (by kernel_rfl) trivial (fun hHeld => ?_)
  refine wpAnyH_take (i := 0) (oi := { dst := some 10, op := Go.Op.move (Go.Operand.tmp 0), type := 3, pos := "flash.go:36", after := #[], guard := none }) (v := ?_) rfl (by kernel_rfl) (by kernel_rfl) (by kernel_rfl) (fun _ _ _ h => h) (Or.inl ⟨by rfl, ?_⟩) (by assumption) ?_
  rotate_left
  · intro W hSw
    try dsimp only at hSw
    go_simp
    all_goals (with_reducible rfl)
  try simp only [Act.put, List.setIfInBounds_toArray, List.set_cons_zero, List.set_cons_succ]
  refine wpAnyH_take (i := 2) (oi := { dst := some 12, op := Go.Op.move (Go.Operand.tmp 0), type := 3, pos := "flash.go:36", after := #[], guard := none }) (v := ?_) rfl (by kernel_rfl) (by kernel_rfl) (by kernel_rfl) (fun _ _ _ h => h) (Or.inl ⟨by rfl, ?_⟩) (by assumption) ?_
  rotate_left
  · intro W hSw
    try dsimp only at hSw
    go_simp
    all_goals (with_reducible rfl)
  try simp only [Act.put, List.setIfInBounds_toArray, List.set_cons_zero, List.set_cons_succ]
  refine wpAnyH_ready (rs := [1, 3]) (by kernel_rfl) (by simp) ?_
  refine AllReadyH.cons (o := { dst := some 11, op := Go.Op.makeSlice 58 (Go.Operand.tmp 10) (Go.Operand.tmp 10), type := 58, pos := "flash.go:36", after := #[{ on := 0, ground := Go.Ground.data }, { on := 0, ground := Go.Ground.data }], guard := none }) rfl (fun K hK => ?_) (AllReadyH.cons (o := { dst := some 13, op := Go.Op.makeSlice 58 (Go.Operand.tmp 12) (Go.Operand.tmp 12), type := 58, pos := "flash.go:36", after := #[{ on := 2, ground := Go.Ground.data }, { on := 2, ground := Go.Ground.data }], guard := none }) rfl (fun K hK => ?_) AllReadyH.nil)
  · refine step_make_rows rfl 58 (.tmp 10) (.tmp 10) rfl 91 513 513 secZero.cells (cellsS (List.replicate n secZero)) n rfl rfl Tryd.underlying58 sec_zero sec_info (by omega) (by omega) (made_secs n) ?_
    refine hK.out _ _ trivial (fun hHeld2 => ?_)
    clear hK K hHeld
    have hHeld := hHeld2
    clear hHeld2
    try simp only [Act.put, List.setIfInBounds_toArray, List.set_cons_zero, List.set_cons_succ]
    refine wpAnyH_ready (rs := [3]) (by kernel_rfl) (by simp) ?_
    refine AllReadyH.cons (o := { dst := some 13, op := Go.Op.makeSlice 58 (Go.Operand.tmp 12) (Go.Operand.tmp 12), type := 58, pos := "flash.go:36", after := #[{ on := 2, ground := Go.Ground.data }, { on := 2, ground := Go.Ground.data }], guard := none }) rfl (fun K hK => ?_) AllReadyH.nil
    refine step_make_rows rfl 58 (.tmp 12) (.tmp 12) rfl 91 513 513 secZero.cells (cellsS (List.replicate n secZero)) n rfl rfl Tryd.underlying58 sec_zero sec_info (by omega) (by omega) (made_secs n) ?_
    refine hK.out _ _ (by trivial) (fun hHeld2 => ?_)
    clear hK K hHeld
    have hHeld := hHeld2
    clear hHeld2
    try simp only [Act.put, List.setIfInBounds_toArray, List.set_cons_zero, List.set_cons_succ]
    refine wpAnyH_take (i := 4) (oi := { dst := some 14, op := Go.Op.build 61 #[(0, Go.Operand.tmp 11), (1, Go.Operand.tmp 13)], type := 61, pos := "flash.go:36", after := #[{ on := 1, ground := Go.Ground.data }, { on := 3, ground := Go.Ground.data }], guard := none }) (v := ?_) rfl (by kernel_rfl) (by kernel_rfl) (by kernel_rfl) (fun _ _ _ h => h) (Or.inl ⟨by rfl, ?_⟩) (by assumption) ?_
    rotate_left
    · intro W hSw
      try dsimp only at hSw
      go_simp
      all_goals (with_reducible rfl)
    try simp only [Act.put, List.setIfInBounds_toArray, List.set_cons_zero, List.set_cons_succ]
    refine wpAnyH_ready (rs := [5]) (by kernel_rfl) (by simp) ?_
    refine AllReadyH.cons (o := { dst := some 15, op := Go.Op.box 61 (Go.Operand.tmp 14), type := 23, pos := "flash.go:36", after := #[{ on := 4, ground := Go.Ground.data }], guard := none }) rfl (fun K hK => ?_) AllReadyH.nil
    go_simp
    refine hK.out _ _ (by trivial) (fun hHeld2 => ?_)
    clear hK K hHeld
    have hHeld := hHeld2
    clear hHeld2
    try simp only [Act.put, List.setIfInBounds_toArray, List.set_cons_zero, List.set_cons_succ]
    refine wpAnyH_take (i := 6) (oi := { dst := some 2, op := Go.Op.assign (Go.Operand.tmp 15), type := 23, pos := "flash.go:36", after := #[{ on := 5, ground := Go.Ground.data }, { on := 0, ground := Go.Ground.phase }, { on := 1, ground := Go.Ground.phase }, { on := 2, ground := Go.Ground.phase }, { on := 3, ground := Go.Ground.phase }, { on := 4, ground := Go.Ground.phase }, { on := 5, ground := Go.Ground.phase }], guard := none }) (v := ?_) rfl (by kernel_rfl) (by kernel_rfl) (by kernel_rfl) (fun _ _ _ h => h) (Or.inl ⟨by rfl, ?_⟩) (by assumption) ?_
    rotate_left
    · intro W hSw
      try dsimp only at hSw
      go_simp
      all_goals (with_reducible rfl)
    try simp only [Act.put, List.setIfInBounds_toArray, List.set_cons_zero, List.set_cons_succ]
    refine wpAnyH_take (i := 7) (oi := { dst := some 3, op := Go.Op.assign (Go.Operand.const (Go.Value.int Go.IntKind.i64 0)), type := 24, pos := "flash.go:36", after := #[{ on := 6, ground := Go.Ground.chain }, { on := 0, ground := Go.Ground.phase }, { on := 1, ground := Go.Ground.phase }, { on := 2, ground := Go.Ground.phase }, { on := 3, ground := Go.Ground.phase }, { on := 4, ground := Go.Ground.phase }, { on := 5, ground := Go.Ground.phase }, { on := 6, ground := Go.Ground.phase }], guard := none }) (v := ?_) rfl (by kernel_rfl) (by kernel_rfl) (by kernel_rfl) (fun _ _ _ h => h) (Or.inl ⟨by rfl, ?_⟩) (by assumption) ?_
    rotate_left
    · intro W hSw
      try dsimp only at hSw
      go_simp
      all_goals (with_reducible rfl)
    try simp only [Act.put, List.setIfInBounds_toArray, List.set_cons_zero, List.set_cons_succ]
    refine wpAnyH_done (by kernel_rfl) ?_ _
    go_wp2
    go_ret2
    exact ⟨⟨w.heap.size + 2, w.heap.size, n, w.heap.size + 1, n, .slice none 0 0⟩, rfl, (new_fin w n h2 _ _ (by omega) _ rfl).drewN 1, below_drewN' ((((Below.refl _ w).alloc (Nat.le_refl _) _).alloc (by simp) _).alloc (by simp; omega) _) 1⟩

  · refine step_make_rows rfl 58 (.tmp 12) (.tmp 12) rfl 91 513 513 secZero.cells (cellsS (List.replicate n secZero)) n rfl rfl Tryd.underlying58 sec_zero sec_info (by omega) (by omega) (made_secs n) ?_
    refine hK.out _ _ trivial (fun hHeld2 => ?_)
    clear hK K hHeld
    have hHeld := hHeld2
    clear hHeld2
    try simp only [Act.put, List.setIfInBounds_toArray, List.set_cons_zero, List.set_cons_succ]
    refine wpAnyH_ready (rs := [1]) (by kernel_rfl) (by simp) ?_
    refine AllReadyH.cons (o := { dst := some 11, op := Go.Op.makeSlice 58 (Go.Operand.tmp 10) (Go.Operand.tmp 10), type := 58, pos := "flash.go:36", after := #[{ on := 0, ground := Go.Ground.data }, { on := 0, ground := Go.Ground.data }], guard := none }) rfl (fun K hK => ?_) AllReadyH.nil
    refine step_make_rows rfl 58 (.tmp 10) (.tmp 10) rfl 91 513 513 secZero.cells (cellsS (List.replicate n secZero)) n rfl rfl Tryd.underlying58 sec_zero sec_info (by omega) (by omega) (made_secs n) ?_
    refine hK.out _ _ (by trivial) (fun hHeld2 => ?_)
    clear hK K hHeld
    have hHeld := hHeld2
    clear hHeld2
    try simp only [Act.put, List.setIfInBounds_toArray, List.set_cons_zero, List.set_cons_succ]
    refine wpAnyH_take (i := 4) (oi := { dst := some 14, op := Go.Op.build 61 #[(0, Go.Operand.tmp 11), (1, Go.Operand.tmp 13)], type := 61, pos := "flash.go:36", after := #[{ on := 1, ground := Go.Ground.data }, { on := 3, ground := Go.Ground.data }], guard := none }) (v := ?_) rfl (by kernel_rfl) (by kernel_rfl) (by kernel_rfl) (fun _ _ _ h => h) (Or.inl ⟨by rfl, ?_⟩) (by assumption) ?_
    rotate_left
    · intro W hSw
      try dsimp only at hSw
      go_simp
      all_goals (with_reducible rfl)
    try simp only [Act.put, List.setIfInBounds_toArray, List.set_cons_zero, List.set_cons_succ]
    refine wpAnyH_ready (rs := [5]) (by kernel_rfl) (by simp) ?_
    refine AllReadyH.cons (o := { dst := some 15, op := Go.Op.box 61 (Go.Operand.tmp 14), type := 23, pos := "flash.go:36", after := #[{ on := 4, ground := Go.Ground.data }], guard := none }) rfl (fun K hK => ?_) AllReadyH.nil
    go_simp
    refine hK.out _ _ (by trivial) (fun hHeld2 => ?_)
    clear hK K hHeld
    have hHeld := hHeld2
    clear hHeld2
    try simp only [Act.put, List.setIfInBounds_toArray, List.set_cons_zero, List.set_cons_succ]
    refine wpAnyH_take (i := 6) (oi := { dst := some 2, op := Go.Op.assign (Go.Operand.tmp 15), type := 23, pos := "flash.go:36", after := #[{ on := 5, ground := Go.Ground.data }, { on := 0, ground := Go.Ground.phase }, { on := 1, ground := Go.Ground.phase }, { on := 2, ground := Go.Ground.phase }, { on := 3, ground := Go.Ground.phase }, { on := 4, ground := Go.Ground.phase }, { on := 5, ground := Go.Ground.phase }], guard := none }) (v := ?_) rfl (by kernel_rfl) (by kernel_rfl) (by kernel_rfl) (fun _ _ _ h => h) (Or.inl ⟨by rfl, ?_⟩) (by assumption) ?_
    rotate_left
    · intro W hSw
      try dsimp only at hSw
      go_simp
      all_goals (with_reducible rfl)
    try simp only [Act.put, List.setIfInBounds_toArray, List.set_cons_zero, List.set_cons_succ]
    refine wpAnyH_take (i := 7) (oi := { dst := some 3, op := Go.Op.assign (Go.Operand.const (Go.Value.int Go.IntKind.i64 0)), type := 24, pos := "flash.go:36", after := #[{ on := 6, ground := Go.Ground.chain }, { on := 0, ground := Go.Ground.phase }, { on := 1, ground := Go.Ground.phase }, { on := 2, ground := Go.Ground.phase }, { on := 3, ground := Go.Ground.phase }, { on := 4, ground := Go.Ground.phase }, { on := 5, ground := Go.Ground.phase }, { on := 6, ground := Go.Ground.phase }], guard := none }) (v := ?_) rfl (by kernel_rfl) (by kernel_rfl) (by kernel_rfl) (fun _ _ _ h => h) (Or.inl ⟨by rfl, ?_⟩) (by assumption) ?_
    rotate_left
    · intro W hSw
      try dsimp only at hSw
      go_simp
      all_goals (with_reducible rfl)
    try simp only [Act.put, List.setIfInBounds_toArray, List.set_cons_zero, List.set_cons_succ]
    refine wpAnyH_done (by kernel_rfl) ?_ _
    go_wp2
    go_ret2
    exact ⟨⟨w.heap.size + 2, w.heap.size + 1, n, w.heap.size, n, .slice none 0 0⟩, rfl, (new_fin w n h2 _ _ (by omega) _ rfl).drewN 1, below_drewN' ((((Below.refl _ w).alloc (Nat.le_refl _) _).alloc (by simp) _).alloc (by simp; omega) _) 1⟩


end Go.Proofs.YtgfoekbdmgljbaaDoor
