/-
  The contract of the document's OwnData.
-/
import Derived.Test.YtmbcbfalgdgmjaaGreatDoorKcP1
import Derived.Test.YtmbcbfalgdgmjaaGreatDoorKcP3
import Derived.Test.YtmbcbfalgdgmjaaGreatDoorKcP2
import Derived.Test.YtmbcbfalgdgmjaaGreatDoorProg
import Derived.WalkSpells
import Derived.WalkLawsBesides
import Derived.Laws.Externs
import Derived.StillTailTactics
import Derived.IntWalk
import Derived.Deep.RegionHeld3
import Derived.BigRegion
namespace Go.Proofs.YtmbcbfalgdgmjaaGreatDoor
open Go.RowKit

theorem step_build {a : Act} {w : World} {K : Act → World → Prop} {Q : Exit → Act → World → Prop} (o : Oper) (T e : TypeId) (i : TypeInfo) (ho : o.op = .buildSlice T 0 #[]) (hT : Tryz.prog.underlying T = some (.slice e)) (hi : Tryz.prog.info? e = some i)
    (h : K (a.put o.dst (.slice (some ⟨w.heap.size, 0, none⟩) 0 0)) (w.alloc (.cells #[] e))) : o.wp Tryz.prog a w K Q := by
  unfold Oper.wp
  simp [execOp, ho, go_sem, run_underlying hT, sizeOf, typeInfo, hi]
  exact h

theorem step_field {a : Act} {w : World} {K : Act → World → Prop} {Q : Exit → Act → World → Prop} (o : Oper) (j H : Nat) (hj : j < 5) (ho : o.op = .fieldAddr 34 (.tmp 1) j) (h1 : a.tmps[1]? = some (.pointer (some ⟨H, 0, none⟩)))
    (h : K (a.put o.dst (.pointer (some ⟨H, j, none⟩))) w) : o.wp Tryz.prog a w K Q := by
  unfold Oper.wp
  obtain rfl | rfl | rfl | rfl | rfl : j = 0 ∨ j = 1 ∨ j = 2 ∨ j = 3 ∨ j = 4 := by omega
  all_goals
    simp [execOp, ho, h1, go_sem]
    exact h

theorem step_load {a : Act} {w : World} {K : Act → World → Prop} {Q : Exit → Act → World → Prop} (o : Oper) (T e : TypeId) (k : Nat) (p : Addr) (v : Value) (ho : o.op = .load T (.tmp k)) (hT : Tryz.prog.underlying T = some (.slice e)) (h1 : a.tmps[k]? = some (.pointer (some p)))
    (hc : w.cell? p = some v) (h : K (a.put o.dst v) w) : o.wp Tryz.prog a w K Q := by
  unfold Oper.wp
  simp [execOp, ho, h1, go_sem, isAgg, run_underlying hT, hc]
  exact h

theorem step_append {a : Act} {w : World} {K : Act → World → Prop} {Q : Exit → Act → World → Prop} (o : Oper) (k1 k2 : Nat) (B : Nat) (t e : TypeId) (i : TypeInfo) (z : Value) (bytes : Nat) (ho : o.op = .call { callee := .builtin .append, args := #[.tmp k1, .tmp k2], argTypes := #[t, t] })
    (ht : Tryz.prog.underlying t = some (.slice e)) (hi : Tryz.prog.info? e = some i) (hz : i.zero = some z) (hsize : i.size = 1) (hby : i.bytes = bytes) (hzs : z.cells.size = 1) (v : Value)
    (h1 : a.tmps[k1]? = some v) (hv : ∃ g, v = .slice (some ⟨g, 0, none⟩) 0 0 ∧ B ≤ g ∧ w.heap[g]? = some (.cells #[] e (0, 0)))
    (A : Option Addr) (m c H : Nat) (news : List Value) (h2 : a.tmps[k2]? = some (.slice A m c)) (hl : news.length = m) (hr : Row w H A news) (hn1 : ∀ u ∈ news, u.oneCell' = true) (h63 : m ≤ maxLen) (hbytes : m * bytes ≤ 140737488355328) (hB : B ≤ w.heap.size)
    (h : ∀ v' w', w'.ownsRow B e 1 v' m news → Below w.heap.size w w' → (0 < m → v'.ownBlock = some w.heap.size) → K (a.put o.dst v') w') : o.wp Tryz.prog a w K Q := by
  obtain ⟨g, rfl, hg, hh⟩ := hv
  obtain ⟨v', w', hrun, h3, h4, h5⟩ := append_zero_run (P := Tryz.prog) w B t o.type e i z bytes ht hi hz hsize hby hzs g hg hh A m c H news hl hr hn1 h63 hbytes hB
  unfold Oper.wp
  simp [execOp, ho, resolve, invoke, builtin, Act.eval, h1, h2, hrun, Result.andThen]
  exact h v' w' h3 h4 h5

theorem step_store {a : Act} {w : World} {K : Act → World → Prop} {Q : Exit → Act → World → Prop} (o : Oper) (g : Nat) (y : DV) (d : Dt) (u0 u1 u2 u3 u4 : Value) (ho : o.op = .store 34 (.tmp 2) (.tmp 23)) (h2 : a.tmps[2]? = some (.pointer (some ⟨g, 0, none⟩)))
    (hu : a.tmps[23]? = some (y.val d)) (hw : Whole w g 34 [u0, u1, u2, u3, u4])
    (h : K (a.put o.dst undef) (((((w.setCell ⟨g, 0, none⟩ (y.vb d)).setCell ⟨g, 1, none⟩ (y.vh d)).setCell ⟨g, 2, none⟩ (y.vm d)).setCell ⟨g, 3, none⟩ (y.vn d)).setCell ⟨g, 4, none⟩ (y.vt d))) : o.wp Tryz.prog a w K Q := by
  have q0 : w.cell? ⟨g, 0, none⟩ = some u0 := hw.cell 0
  have q1 : w.cell? ⟨g, 1, none⟩ = some u1 := hw.cell 1
  have q2 : w.cell? ⟨g, 2, none⟩ = some u2 := hw.cell 2
  have q3 : w.cell? ⟨g, 3, none⟩ = some u3 := hw.cell 3
  have q4 : w.cell? ⟨g, 4, none⟩ = some u4 := hw.cell 4
  have z0 : w.frozen? ⟨g, 0, none⟩ = false := hw.frozen 0
  have z1 : w.frozen? ⟨g, 1, none⟩ = false := hw.frozen 1
  have z2 : w.frozen? ⟨g, 2, none⟩ = false := hw.frozen 2
  have z3 : w.frozen? ⟨g, 3, none⟩ = false := hw.frozen 3
  have z4 : w.frozen? ⟨g, 4, none⟩ = false := hw.frozen 4
  unfold Oper.wp
  simp [execOp, ho, go_sem, h2, hu, q0, q1, q2, q3, q4, z0, z1, z2, z3, z4]
  exact h

/-- What each operation of the region yields. -/
def factF (H B : Nat) (x : DV) (d : Dt) : Nat → Value → World → Prop
  | 0 => fun v w => ∃ g, v = .slice (some ⟨g, 0, none⟩) 0 0 ∧ B ≤ g ∧ w.heap[g]? = some (.cells #[] 5 (0, 0))
  | 1 => fun v _ => v = .pointer (some ⟨H, 0, none⟩)
  | 2 => fun v _ => v = .slice x.Ab d.bytes.length x.cb
  | 3 => fun v w => w.ownsRow B 5 1 v d.bytes.length (d.bytes.map bc)
  | 4 => fun v w => ∃ g, v = .slice (some ⟨g, 0, none⟩) 0 0 ∧ B ≤ g ∧ w.heap[g]? = some (.cells #[] 9 (0, 0))
  | 5 => fun v _ => v = .pointer (some ⟨H, 1, none⟩)
  | 6 => fun v _ => v = .slice x.Ah d.host.length x.ch
  | 7 => fun v w => w.ownsRow B 9 1 v d.host.length (d.host.map sv)
  | 8 => fun v w => ∃ g, v = .slice (some ⟨g, 0, none⟩) 0 0 ∧ B ≤ g ∧ w.heap[g]? = some (.cells #[] 9 (0, 0))
  | 9 => fun v _ => v = .pointer (some ⟨H, 2, none⟩)
  | 10 => fun v _ => v = .slice x.Am d.mail.length x.cm
  | 11 => fun v w => w.ownsRow B 9 1 v d.mail.length (d.mail.map sv)
  | 12 => fun v w => ∃ g, v = .slice (some ⟨g, 0, none⟩) 0 0 ∧ B ≤ g ∧ w.heap[g]? = some (.cells #[] 3 (0, 0))
  | 13 => fun v _ => v = .pointer (some ⟨H, 3, none⟩)
  | 14 => fun v _ => v = .slice x.An d.nums.length x.cn
  | 15 => fun v w => w.ownsRow B 3 1 v d.nums.length (d.nums.map zv)
  | 16 => fun v w => ∃ g, v = .slice (some ⟨g, 0, none⟩) 0 0 ∧ B ≤ g ∧ w.heap[g]? = some (.cells #[] 9 (0, 0))
  | 17 => fun v _ => v = .pointer (some ⟨H, 4, none⟩)
  | 18 => fun v _ => v = .slice x.At d.texts.length x.ct
  | 19 => fun v w => w.ownsRow B 9 1 v d.texts.length (d.texts.map sv)
  | 20 => fun v w => ∃ y : DV, v = y.val d ∧ OwnD w B y d ∧ Apart (y.vh d) (y.vm d) ∧ Apart (y.vh d) (y.vt d)
  | _ => fun _ _ => True
theorem heap_some_lt {w : World} {g : Nat} {o : Obj} (h : w.heap[g]? = some o) : g < w.heap.size := by
  rcases Nat.lt_or_ge g w.heap.size with h1 | h1
  · exact h1
  · rw [Array.getElem?_eq_none h1] at h; cases h
theorem factF_mono {H B : Nat} {x : DV} {d : Dt} {w w' : World} (hw : ∀ g, g < w.heap.size → w'.heap[g]? = w.heap[g]?) : ∀ j u, j < 21 → factF H B x d j u w → factF H B x d j u w'
  | 0, _, _, ⟨g, e, hg, hh⟩ => ⟨g, e, hg, (hw g (heap_some_lt hh)).trans hh⟩
  | 1, _, _, h => h
  | 2, _, _, h => h
  | 3, _, _, h => own_keep h fun g e => hw g (World.ownsRow.lt h g e).2
  | 4, _, _, ⟨g, e, hg, hh⟩ => ⟨g, e, hg, (hw g (heap_some_lt hh)).trans hh⟩
  | 5, _, _, h => h
  | 6, _, _, h => h
  | 7, _, _, h => own_keep h fun g e => hw g (World.ownsRow.lt h g e).2
  | 8, _, _, ⟨g, e, hg, hh⟩ => ⟨g, e, hg, (hw g (heap_some_lt hh)).trans hh⟩
  | 9, _, _, h => h
  | 10, _, _, h => h
  | 11, _, _, h => own_keep h fun g e => hw g (World.ownsRow.lt h g e).2
  | 12, _, _, ⟨g, e, hg, hh⟩ => ⟨g, e, hg, (hw g (heap_some_lt hh)).trans hh⟩
  | 13, _, _, h => h
  | 14, _, _, h => h
  | 15, _, _, h => own_keep h fun g e => hw g (World.ownsRow.lt h g e).2
  | 16, _, _, ⟨g, e, hg, hh⟩ => ⟨g, e, hg, (hw g (heap_some_lt hh)).trans hh⟩
  | 17, _, _, h => h
  | 18, _, _, h => h
  | 19, _, _, h => own_keep h fun g e => hw g (World.ownsRow.lt h g e).2
  | 20, _, _, ⟨y, e, h, h1, h2⟩ => ⟨y, e, h.keep hw, h1, h2⟩
  | n + 21, _, h, _ => absurd h (by omega)
def isApp (i : Nat) : Bool := decide (i % 4 = 3)
def ownAp (i j : Nat) (u v : Value) : Prop := isApp i = true → isApp j = true → Apart u v
theorem factF_lt {H B : Nat} {x : DV} {d : Dt} {w : World} : ∀ j u, j < 21 → isApp j = true → factF H B x d j u w → ∀ g, u.ownBlock = some g → g < w.heap.size
  | 0, _, _, h, _, _, _ => by cases h
  | 1, _, _, h, _, _, _ => by cases h
  | 2, _, _, h, _, _, _ => by cases h
  | 3, _, _, _, h, g, e => (World.ownsRow.lt h g e).2
  | 4, _, _, h, _, _, _ => by cases h
  | 5, _, _, h, _, _, _ => by cases h
  | 6, _, _, h, _, _, _ => by cases h
  | 7, _, _, _, h, g, e => (World.ownsRow.lt h g e).2
  | 8, _, _, h, _, _, _ => by cases h
  | 9, _, _, h, _, _, _ => by cases h
  | 10, _, _, h, _, _, _ => by cases h
  | 11, _, _, _, h, g, e => (World.ownsRow.lt h g e).2
  | 12, _, _, h, _, _, _ => by cases h
  | 13, _, _, h, _, _, _ => by cases h
  | 14, _, _, h, _, _, _ => by cases h
  | 15, _, _, _, h, g, e => (World.ownsRow.lt h g e).2
  | 16, _, _, h, _, _, _ => by cases h
  | 17, _, _, h, _, _, _ => by cases h
  | 18, _, _, h, _, _, _ => by cases h
  | 19, _, _, _, h, g, e => (World.ownsRow.lt h g e).2
  | 20, _, _, h, _, _, _ => by cases h
  | n + 21, _, h, _, _, _, _ => absurd h (by omega)

theorem Apart.symm {u v : Value} (h : Apart u v) : Apart v u := by
  intro g k n m c c' e1 e2 h1 h2 e
  exact h k g m n c' c e2 e1 h2 h1 e.symm
theorem apart_new {H B : Nat} {x : DV} {d : Dt} {w w' : World} {i m : Nat} {v : Value} {t : TypeId} {xs : List Value} (ho : w'.ownsRow B t 1 v m xs) (hn : 0 < m → v.ownBlock = some w.heap.size) :
    ∀ j u, j < 21 → factF H B x d j u w → ownAp i j v u ∧ ownAp j i u v := by
  intro j u hj hF
  have h : isApp j = true → Apart v u := fun hj2 g k n m2 c c' e1 e2 h1 h2 e => by
    have hk := factF_lt j u hj hj2 hF k (by rw [e2]; rfl)
    obtain ⟨A, c2, e3, _, _⟩ := own_form ho
    rw [e1] at e3
    injection e3 with _ e4 _
    have hb := hn (by omega)
    rw [e1] at hb
    simp only [Value.ownBlock, Option.some.injEq] at hb
    omega
  exact ⟨fun _ hj2 => h hj2, fun hj2 _ => (h hj2).symm⟩
theorem apart_not {i j : Nat} {v u : Value} (h : isApp i = false) : ownAp i j v u ∧ ownAp j i u v := ⟨fun h1 => (by rw [h] at h1; cases h1), fun _ h1 => (by rw [h] at h1; cases h1)⟩

structure OwnS (W : World) (B : Nat) (w : World) : Prop where
  below : Below B W w
  size : B ≤ w.heap.size
theorem OwnS.more {W w w' : World} {B : Nat} (h : OwnS W B w) (hb : Below w.heap.size w w') : OwnS W B w' := ⟨h.below.trans (hb.mono h.size), Nat.le_trans h.size hb.size⟩

/-- What the call leaves: data that shares nothing. -/
def Owns (w : World) (d : Dt) (e : Ending) (w' : World) : Prop :=
  ∃ y : DV, e = .returned (y.val d) ∧ OwnD w' w.heap.size y d ∧ Apart (y.vh d) (y.vm d) ∧ Apart (y.vh d) (y.vt d) ∧ Below w.heap.size w w'

/-- Few parts, whatever their lengths. -/
structure FewD (d : Dt) : Prop where
  nh : d.host.length ≤ 300
  nm : d.mail.length ≤ 300
  nt : d.texts.length ≤ 8796093022208
  nn : d.nums.length ≤ 200
  nb : d.bytes.length ≤ 140737488351232
theorem LightD.few {d : Dt} (h : LightD d) : FewD d := ⟨h.nh, h.nm, Nat.le_trans h.nt (by omega), h.nn, Nat.le_trans h.nb (by omega)⟩

set_option maxRecDepth 20000 in
set_option maxHeartbeats 1000000 in
theorem ownData_few (x : DV) (d : Dt) (w : World) (h : DataAt w w.heap.size x d) (hl : FewD d) :
    Calls Tryz.prog 31 #[x.val d] w (Owns w d) := by
  obtain ⟨iu, hiu, hzu, hsu, hbu⟩ := info_parts u8_info
  obtain ⟨is, his, hzs, hss, hbs⟩ := info_parts str_info
  obtain ⟨ii, hii, hzi, hsi, hbi⟩ := info_parts zint_info
  obtain ⟨hnh, hnm, hnt, hnn, hnb⟩ := hl
  go_enter Tryz.func31, Tryz.ntmps31
  go_wp2
  rename_i hret
  obtain ⟨W, hW⟩ : ∃ W, W = (w.alloc (.cells #[x.vb d, x.vh d, x.vm d, x.vn d, x.vt d] 34)).alloc (.cells #[.slice none 0 0, .slice none 0 0, .slice none 0 0, .slice none 0 0, .slice none 0 0] 34) := ⟨_, rfl⟩
  rw [← hW]
  have hw0 : Whole W w.heap.size 34 [x.vb d, x.vh d, x.vm d, x.vn d, x.vt d] := by
    rw [hW]
    exact (Whole.made w [x.vb d, x.vh d, x.vm d, x.vn d, x.vt d] _).alloc _
  have hw1 : Whole W (w.heap.size + 1) 34 [.slice none 0 0, .slice none 0 0, .slice none 0 0, .slice none 0 0, .slice none 0 0] := by
    rw [hW]
    have := Whole.made (w.alloc (.cells #[x.vb d, x.vh d, x.vm d, x.vn d, x.vt d] 34)) [.slice none 0 0, .slice none 0 0, .slice none 0 0, .slice none 0 0, .slice none 0 0] 34
    simpa using this
  have hbW : Below w.heap.size w W := by
    rw [hW]
    exact ((Below.refl _ _).alloc (Nat.le_refl _) _).alloc (by simp) _
  have hsW : W.heap.size = w.heap.size + 2 := by rw [hW]; simp
  have hdW : DataAt W w.heap.size x d := h.below hbW
  clear hW
  refine wp_region_facts 3 21 (OwnS W (w.heap.size + 2)) (factF w.heap.size (w.heap.size + 2) x d) ownAp (by kernel_rfl) rfl (by kernel_rfl) (by kernel_rfl) (by kernel_rfl) (by kernel_rfl) (by simp) (by kernel_rfl)
    ⟨(Below.refl _ W).drew, by simp [hsW]⟩ ?step ?tail
  case step =>
    intro i o hi ho l a v hF hdep K hK
    have hS := hF.S
    have h1 : a.tmps[1]? = some (.pointer (some ⟨w.heap.size, 0, none⟩)) := hF.low 1 (by omega)
    have hcell : ∀ k, v.cell? ⟨w.heap.size, k, none⟩ = [x.vb d, x.vh d, x.vm d, x.vn d, x.vt d][k]? := (hw0.below hS.below (by omega)).cell
    have hdv : DataAt v w.heap.size x d := hdW.below (hS.below.mono (by omega))
    have hal : ∀ o, Below v.heap.size v (v.alloc o) := fun o => (Below.refl _ v).alloc (Nat.le_refl _) o
    match i, hi, ho, hK with
    | 0, _, ho, hK =>
      obtain rfl := Option.some.inj ho
      exact step_build _ 31 5 iu rfl Tryz.underlying31 hiu (hK _ _ ⟨v.heap.size, rfl, hS.size, heap_alloc_new v _⟩ (hS.more (hal _)) (factF_mono fun g hg => (hal _).block g hg) fun _ _ _ _ => apart_not rfl)
    | 1, _, ho, hK =>
      obtain rfl := Option.some.inj ho
      exact step_field _ 0 w.heap.size (by omega) rfl h1 (hK _ _ rfl hS (fun _ _ _ h => h) fun _ _ _ _ => apart_not rfl)
    | 2, _, ho, hK =>
      obtain rfl := Option.some.inj ho
      obtain ⟨u, hu, hFu⟩ := hF.facts 1 (by omega) (hdep ⟨1, .data⟩ (by simp) rfl)
      obtain rfl : u = .pointer (some ⟨w.heap.size, 0, none⟩) := hFu
      exact step_load _ 31 5 4 ⟨w.heap.size, 0, none⟩ _ rfl Tryz.underlying31 hu (hcell 0) (hK _ _ rfl hS (fun _ _ _ h => h) fun _ _ _ _ => apart_not rfl)
    | 3, _, ho, hK =>
      obtain rfl := Option.some.inj ho
      obtain ⟨u, hu, hFu⟩ := hF.facts 0 (by omega) (hdep ⟨0, .data⟩ (by simp) rfl)
      obtain ⟨y, hy, hFy⟩ := hF.facts 2 (by omega) (hdep ⟨2, .data⟩ (by simp) rfl)
      obtain rfl : y = .slice x.Ab d.bytes.length x.cb := hFy
      exact step_append _ 3 5 (w.heap.size + 2) 31 5 iu _ 1 rfl Tryz.underlying31 hiu hzu hsu hbu rfl u hu hFu x.Ab d.bytes.length x.cb w.heap.size (d.bytes.map bc) hy (by simp) hdv.b (bc_one _)
        (by unfold maxLen; omega) (by omega) hS.size fun v' w' h1 h2 h3 => hK _ _ h1 (hS.more h2) (factF_mono fun g hg => h2.block g hg) (apart_new h1 h3)
    | 4, _, ho, hK =>
      obtain rfl := Option.some.inj ho
      exact step_build _ 29 9 is rfl Tryz.underlying29 his (hK _ _ ⟨v.heap.size, rfl, hS.size, heap_alloc_new v _⟩ (hS.more (hal _)) (factF_mono fun g hg => (hal _).block g hg) fun _ _ _ _ => apart_not rfl)
    | 5, _, ho, hK =>
      obtain rfl := Option.some.inj ho
      exact step_field _ 1 w.heap.size (by omega) rfl h1 (hK _ _ rfl hS (fun _ _ _ h => h) fun _ _ _ _ => apart_not rfl)
    | 6, _, ho, hK =>
      obtain rfl := Option.some.inj ho
      obtain ⟨u, hu, hFu⟩ := hF.facts 5 (by omega) (hdep ⟨5, .data⟩ (by simp) rfl)
      obtain rfl : u = .pointer (some ⟨w.heap.size, 1, none⟩) := hFu
      exact step_load _ 29 9 8 ⟨w.heap.size, 1, none⟩ _ rfl Tryz.underlying29 hu (hcell 1) (hK _ _ rfl hS (fun _ _ _ h => h) fun _ _ _ _ => apart_not rfl)
    | 7, _, ho, hK =>
      obtain rfl := Option.some.inj ho
      obtain ⟨u, hu, hFu⟩ := hF.facts 4 (by omega) (hdep ⟨4, .data⟩ (by simp) rfl)
      obtain ⟨y, hy, hFy⟩ := hF.facts 6 (by omega) (hdep ⟨6, .data⟩ (by simp) rfl)
      obtain rfl : y = .slice x.Ah d.host.length x.ch := hFy
      exact step_append _ 7 9 (w.heap.size + 2) 29 9 is _ 16 rfl Tryz.underlying29 his hzs hss hbs rfl u hu hFu x.Ah d.host.length x.ch w.heap.size (d.host.map sv) hy (by simp) hdv.h (sv_one _)
        (by unfold maxLen; omega) (by omega) hS.size fun v' w' h1 h2 h3 => hK _ _ h1 (hS.more h2) (factF_mono fun g hg => h2.block g hg) (apart_new h1 h3)
    | 8, _, ho, hK =>
      obtain rfl := Option.some.inj ho
      exact step_build _ 29 9 is rfl Tryz.underlying29 his (hK _ _ ⟨v.heap.size, rfl, hS.size, heap_alloc_new v _⟩ (hS.more (hal _)) (factF_mono fun g hg => (hal _).block g hg) fun _ _ _ _ => apart_not rfl)
    | 9, _, ho, hK =>
      obtain rfl := Option.some.inj ho
      exact step_field _ 2 w.heap.size (by omega) rfl h1 (hK _ _ rfl hS (fun _ _ _ h => h) fun _ _ _ _ => apart_not rfl)
    | 10, _, ho, hK =>
      obtain rfl := Option.some.inj ho
      obtain ⟨u, hu, hFu⟩ := hF.facts 9 (by omega) (hdep ⟨9, .data⟩ (by simp) rfl)
      obtain rfl : u = .pointer (some ⟨w.heap.size, 2, none⟩) := hFu
      exact step_load _ 29 9 12 ⟨w.heap.size, 2, none⟩ _ rfl Tryz.underlying29 hu (hcell 2) (hK _ _ rfl hS (fun _ _ _ h => h) fun _ _ _ _ => apart_not rfl)
    | 11, _, ho, hK =>
      obtain rfl := Option.some.inj ho
      obtain ⟨u, hu, hFu⟩ := hF.facts 8 (by omega) (hdep ⟨8, .data⟩ (by simp) rfl)
      obtain ⟨y, hy, hFy⟩ := hF.facts 10 (by omega) (hdep ⟨10, .data⟩ (by simp) rfl)
      obtain rfl : y = .slice x.Am d.mail.length x.cm := hFy
      exact step_append _ 11 13 (w.heap.size + 2) 29 9 is _ 16 rfl Tryz.underlying29 his hzs hss hbs rfl u hu hFu x.Am d.mail.length x.cm w.heap.size (d.mail.map sv) hy (by simp) hdv.m (sv_one _)
        (by unfold maxLen; omega) (by omega) hS.size fun v' w' h1 h2 h3 => hK _ _ h1 (hS.more h2) (factF_mono fun g hg => h2.block g hg) (apart_new h1 h3)
    | 12, _, ho, hK =>
      obtain rfl := Option.some.inj ho
      exact step_build _ 32 3 ii rfl Tryz.underlying32 hii (hK _ _ ⟨v.heap.size, rfl, hS.size, heap_alloc_new v _⟩ (hS.more (hal _)) (factF_mono fun g hg => (hal _).block g hg) fun _ _ _ _ => apart_not rfl)
    | 13, _, ho, hK =>
      obtain rfl := Option.some.inj ho
      exact step_field _ 3 w.heap.size (by omega) rfl h1 (hK _ _ rfl hS (fun _ _ _ h => h) fun _ _ _ _ => apart_not rfl)
    | 14, _, ho, hK =>
      obtain rfl := Option.some.inj ho
      obtain ⟨u, hu, hFu⟩ := hF.facts 13 (by omega) (hdep ⟨13, .data⟩ (by simp) rfl)
      obtain rfl : u = .pointer (some ⟨w.heap.size, 3, none⟩) := hFu
      exact step_load _ 32 3 16 ⟨w.heap.size, 3, none⟩ _ rfl Tryz.underlying32 hu (hcell 3) (hK _ _ rfl hS (fun _ _ _ h => h) fun _ _ _ _ => apart_not rfl)
    | 15, _, ho, hK =>
      obtain rfl := Option.some.inj ho
      obtain ⟨u, hu, hFu⟩ := hF.facts 12 (by omega) (hdep ⟨12, .data⟩ (by simp) rfl)
      obtain ⟨y, hy, hFy⟩ := hF.facts 14 (by omega) (hdep ⟨14, .data⟩ (by simp) rfl)
      obtain rfl : y = .slice x.An d.nums.length x.cn := hFy
      exact step_append _ 15 17 (w.heap.size + 2) 32 3 ii _ 8 rfl Tryz.underlying32 hii hzi hsi hbi rfl u hu hFu x.An d.nums.length x.cn w.heap.size (d.nums.map zv) hy (by simp) hdv.n (zv_one _)
        (by unfold maxLen; omega) (by omega) hS.size fun v' w' h1 h2 h3 => hK _ _ h1 (hS.more h2) (factF_mono fun g hg => h2.block g hg) (apart_new h1 h3)
    | 16, _, ho, hK =>
      obtain rfl := Option.some.inj ho
      exact step_build _ 29 9 is rfl Tryz.underlying29 his (hK _ _ ⟨v.heap.size, rfl, hS.size, heap_alloc_new v _⟩ (hS.more (hal _)) (factF_mono fun g hg => (hal _).block g hg) fun _ _ _ _ => apart_not rfl)
    | 17, _, ho, hK =>
      obtain rfl := Option.some.inj ho
      exact step_field _ 4 w.heap.size (by omega) rfl h1 (hK _ _ rfl hS (fun _ _ _ h => h) fun _ _ _ _ => apart_not rfl)
    | 18, _, ho, hK =>
      obtain rfl := Option.some.inj ho
      obtain ⟨u, hu, hFu⟩ := hF.facts 17 (by omega) (hdep ⟨17, .data⟩ (by simp) rfl)
      obtain rfl : u = .pointer (some ⟨w.heap.size, 4, none⟩) := hFu
      exact step_load _ 29 9 20 ⟨w.heap.size, 4, none⟩ _ rfl Tryz.underlying29 hu (hcell 4) (hK _ _ rfl hS (fun _ _ _ h => h) fun _ _ _ _ => apart_not rfl)
    | 19, _, ho, hK =>
      obtain rfl := Option.some.inj ho
      obtain ⟨u, hu, hFu⟩ := hF.facts 16 (by omega) (hdep ⟨16, .data⟩ (by simp) rfl)
      obtain ⟨y, hy, hFy⟩ := hF.facts 18 (by omega) (hdep ⟨18, .data⟩ (by simp) rfl)
      obtain rfl : y = .slice x.At d.texts.length x.ct := hFy
      exact step_append _ 19 21 (w.heap.size + 2) 29 9 is _ 16 rfl Tryz.underlying29 his hzs hss hbs rfl u hu hFu x.At d.texts.length x.ct w.heap.size (d.texts.map sv) hy (by simp) hdv.t (sv_one _)
        (by unfold maxLen; omega) (by omega) hS.size fun v' w' h1 h2 h3 => hK _ _ h1 (hS.more h2) (factF_mono fun g hg => h2.block g hg) (apart_new h1 h3)
    | 20, _, ho, hK =>
      obtain rfl := Option.some.inj ho
      have hl (j : Nat) (h : (⟨j, .data⟩ : Edge) ∈ #[(⟨3, .data⟩ : Edge), ⟨7, .data⟩, ⟨11, .data⟩, ⟨15, .data⟩, ⟨19, .data⟩]) := hdep ⟨j, .data⟩ h rfl
      obtain ⟨v0, g0, f0⟩ := hF.facts 3 (by omega) (hl 3 (by simp))
      obtain ⟨v1, g1, f1⟩ := hF.facts 7 (by omega) (hl 7 (by simp))
      obtain ⟨v2, g2, f2⟩ := hF.facts 11 (by omega) (hl 11 (by simp))
      obtain ⟨v3, g3, f3⟩ := hF.facts 15 (by omega) (hl 15 (by simp))
      obtain ⟨v4, g4, f4⟩ := hF.facts 19 (by omega) (hl 19 (by simp))
      have a1 := hF.dist 7 11 (by omega) (by omega) (by omega) (hl 7 (by simp)) (hl 11 (by simp)) v1 v2 g1 g2 rfl rfl
      have a2 := hF.dist 7 19 (by omega) (by omega) (by omega) (hl 7 (by simp)) (hl 19 (by simp)) v1 v4 g1 g4 rfl rfl
      obtain ⟨A0, c0, rfl, _, _⟩ := own_form f0
      obtain ⟨A1, c1, rfl, _, _⟩ := own_form f1
      obtain ⟨A2, c2, rfl, _, _⟩ := own_form f2
      obtain ⟨A3, c3, rfl, _, _⟩ := own_form f3
      obtain ⟨A4, c4, rfl, _, _⟩ := own_form f4
      have hk := hK (DV.val ⟨A0, A1, A2, A3, A4, c0, c1, c2, c3, c4⟩ d) v ⟨⟨A0, A1, A2, A3, A4, c0, c1, c2, c3, c4⟩, rfl, ⟨f0, f1, f2, f3, f4⟩, a1, a2⟩ hS (fun _ _ _ h => h) fun _ _ _ _ => apart_not rfl
      unfold Oper.wp
      simp [execOp, go_sem, g0, g1, g2, g3, g4]
      exact hk
    | n + 21, hi, _, _ => exact absurd hi (by omega)
  case tail =>
    intro l a v o ho hF hl
    obtain rfl := Option.some.inj ho
    have hS := hF.S
    have h2 : a.tmps[2]? = some (.pointer (some ⟨w.heap.size + 1, 0, none⟩)) := hF.low 2 (by omega)
    obtain ⟨u, hu, y, rfl, hO, a1, a2⟩ := hF.facts 20 (by omega) (hl 20 (by omega))
    have hw := hw1.below hS.below (by omega)
    refine wpList_plain rfl fun K2 hK2 => step_store _ (w.heap.size + 1) y d _ _ _ _ _ rfl h2 hu hw ?_
    refine hK2 _ _ ?_
    obtain ⟨V, hV⟩ : ∃ V, V = ((((v.setCell ⟨w.heap.size + 1, 0, none⟩ (y.vb d)).setCell ⟨w.heap.size + 1, 1, none⟩ (y.vh d)).setCell ⟨w.heap.size + 1, 2, none⟩ (y.vm d)).setCell ⟨w.heap.size + 1, 3, none⟩ (y.vn d)).setCell ⟨w.heap.size + 1, 4, none⟩ (y.vt d) := ⟨_, rfl⟩
    rw [← hV]
    have hw5 : Whole V (w.heap.size + 1) 34 [y.vb d, y.vh d, y.vm d, y.vn d, y.vt d] := by
      rw [hV]
      exact ((((hw.set_ 0 _).set_ 1 _).set_ 2 _).set_ 3 _).set_ 4 _
    have hb5 : Below (w.heap.size + 1) v V := by
      rw [hV]
      have hs (W : World) (i : Nat) (u : Value) : Below (w.heap.size + 1) W (W.setCell ⟨w.heap.size + 1, i, none⟩ u) := (Below.refl _ W).setCell (p := ⟨w.heap.size + 1, i, none⟩) (Nat.le_refl _) u
      exact ((((hs _ 0 _).trans (hs _ 1 _)).trans (hs _ 2 _)).trans (hs _ 3 _)).trans (hs _ 4 _)
    have hf5 : ∀ g, g ≠ w.heap.size + 1 → V.heap[g]? = v.heap[g]? := fun g hg => by
      rw [hV]
      have hs (W : World) (i : Nat) (u : Value) : (W.setCell ⟨w.heap.size + 1, i, none⟩ u).heap[g]? = W.heap[g]? := Below.heap_setCell W ⟨w.heap.size + 1, i, none⟩ u g hg
      rw [hs, hs, hs, hs, hs]
    have hO5 : OwnD V (w.heap.size + 2) y d :=
      ⟨own_keep hO.b fun g e => hf5 g (by have := (hO.b.lt g e).1; omega), own_keep hO.h fun g e => hf5 g (by have := (hO.h.lt g e).1; omega), own_keep hO.m fun g e => hf5 g (by have := (hO.m.lt g e).1; omega), own_keep hO.n fun g e => hf5 g (by have := (hO.n.lt g e).1; omega), own_keep hO.t fun g e => hf5 g (by have := (hO.t.lt g e).1; omega)⟩
    have hO6 : OwnD V w.heap.size y d := ⟨own_mono hO5.b (by omega), own_mono hO5.h (by omega), own_mono hO5.m (by omega), own_mono hO5.n (by omega), own_mono hO5.t (by omega)⟩
    have hB : Below w.heap.size w V := (hbW.trans (hS.below.mono (by omega))).trans (hb5.mono (by omega))
    have q0 : V.cell? ⟨w.heap.size + 1, 0, none⟩ = some (y.vb d) := hw5.cell 0
    have q1 : V.cell? ⟨w.heap.size + 1, 1, none⟩ = some (y.vh d) := hw5.cell 1
    have q2 : V.cell? ⟨w.heap.size + 1, 2, none⟩ = some (y.vm d) := hw5.cell 2
    have q3 : V.cell? ⟨w.heap.size + 1, 3, none⟩ = some (y.vn d) := hw5.cell 3
    have q4 : V.cell? ⟨w.heap.size + 1, 4, none⟩ = some (y.vt d) := hw5.cell 4
    clear hV hw5 hb5 hf5 hO5 hw hw0 hw1 hO
    refine hret _ _ (wp_ret ?_)
    refine ⟨hF.defers, y.val d, ?_, y, rfl, hO6, a1, a2, hB⟩
    clear hF hl
    simp [results, Tryz.results31, go_sem, Act.put, h2, q0, q1, q2, q3, q4]

theorem ownData_any (x : DV) (d : Dt) (w : World) (h : DataAt w w.heap.size x d) (hl : LightD d) :
    Calls Tryz.prog 31 #[x.val d] w (Owns w d) := ownData_few x d w h hl.few

end Go.Proofs.YtmbcbfalgdgmjaaGreatDoor

namespace Go.Proofs.YtmbcbfalgdgmjaaGreatDoor
open Go.RowKit

theorem run_enter {P : Program} {f : FuncId} {fn : Func} {c : Code} (hf : P.funcs[f]? = some fn) (hname : (fn.name == "runtime.NumGoroutine") = false) (hb : fn.body = some c) (args : Array Value) (w : World) :
    (callFunc f args).run P w = .ok (.enter f args) w := by
  have h1 : fn.name ≠ "runtime.NumGoroutine" := by simpa using hname
  simp [callFunc, hf, h1, hb]
/-- What 'fresh' leaves: a row of its own. -/
def Fresh (w : World) (t : TypeId) (n : Nat) (xs : List Value) (e : Ending) (w' : World) : Prop := ∃ v, e = .returned v ∧ w'.ownsRow w.heap.size t 1 v n xs ∧ Below w.heap.size w w'

theorem enter_byte (args : Array Value) (w : World) : (callFunc 79 args).run Tryz.prog w = .ok (.enter 79 args) w := run_enter Tryz.func79 (by kernel_rfl) rfl args w
set_option maxHeartbeats 400000 in
theorem fresh_byte (A : Option Addr) (m c H : Nat) (xs : List Value) (w : World) (hl : xs.length = m) (hA : Row w H A xs) (h1 : ∀ u ∈ xs, u.oneCell' = true) (hm : m ≤ 140737488351232) :
    Calls Tryz.prog 79 #[.slice A m c] w (Fresh w 5 m xs) := by
  obtain ⟨i0, hi0, hz0, hz1, hz2⟩ := info_parts u8_info
  have HA := Lib.hid hA
  have HL := Lib.hid hl
  have H1 := Lib.hid h1
  clear hA hl h1
  go_enter Tryz.func79, Tryz.ntmps79
  go_wp2_with (
    at_builtin
    refine wpList_append_row rfl (.const (.slice none 0 0)) (.tmp 3) _ rfl w.heap.size 5 i0 _ 1 1 Tryz.underlying31 hi0 hz0 hz1 hz2 rfl (by omega) (.slice none 0 0) 0 [] rfl (World.ownsRow_nil _ _ _ _)
      A m c H xs rfl (by rw [HL.out, Nat.mul_one]) HA.out H1.out (by unfold maxLen; omega) (by omega) (Nat.le_refl _) ?_
    intro v2 w2 hown2 hg2
    simp only [Nat.zero_add, List.nil_append] at hown2
    have HO2 := Lib.hid hown2
    have HB2 := Lib.hid (own_below (Below.refl w.heap.size w) (Nat.le_refl _) (Nat.le_refl _) (World.ownsRow_nil w w.heap.size 5 1) hg2)
    clear hown2 hg2)
  go_ret
  exact ⟨_, rfl, HO2.out, HB2.out⟩

theorem enter_string (args : Array Value) (w : World) : (callFunc 52 args).run Tryz.prog w = .ok (.enter 52 args) w := run_enter Tryz.func52 (by kernel_rfl) rfl args w
set_option maxHeartbeats 400000 in
theorem fresh_string (A : Option Addr) (m c H : Nat) (xs : List Value) (w : World) (hl : xs.length = m) (hA : Row w H A xs) (h1 : ∀ u ∈ xs, u.oneCell' = true) (hm : m ≤ 8796093022208) :
    Calls Tryz.prog 52 #[.slice A m c] w (Fresh w 9 m xs) := by
  obtain ⟨i0, hi0, hz0, hz1, hz2⟩ := info_parts str_info
  have HA := Lib.hid hA
  have HL := Lib.hid hl
  have H1 := Lib.hid h1
  clear hA hl h1
  go_enter Tryz.func52, Tryz.ntmps52
  go_wp2_with (
    at_builtin
    refine wpList_append_row rfl (.const (.slice none 0 0)) (.tmp 3) _ rfl w.heap.size 9 i0 _ 1 16 Tryz.underlying29 hi0 hz0 hz1 hz2 rfl (by omega) (.slice none 0 0) 0 [] rfl (World.ownsRow_nil _ _ _ _)
      A m c H xs rfl (by rw [HL.out, Nat.mul_one]) HA.out H1.out (by unfold maxLen; omega) (by omega) (Nat.le_refl _) ?_
    intro v2 w2 hown2 hg2
    simp only [Nat.zero_add, List.nil_append] at hown2
    have HO2 := Lib.hid hown2
    have HB2 := Lib.hid (own_below (Below.refl w.heap.size w) (Nat.le_refl _) (Nat.le_refl _) (World.ownsRow_nil w w.heap.size 9 1) hg2)
    clear hown2 hg2)
  go_ret
  exact ⟨_, rfl, HO2.out, HB2.out⟩

theorem enter_int (args : Array Value) (w : World) : (callFunc 80 args).run Tryz.prog w = .ok (.enter 80 args) w := run_enter Tryz.func80 (by kernel_rfl) rfl args w
set_option maxHeartbeats 400000 in
theorem fresh_int (A : Option Addr) (m c H : Nat) (xs : List Value) (w : World) (hl : xs.length = m) (hA : Row w H A xs) (h1 : ∀ u ∈ xs, u.oneCell' = true) (hm : m ≤ 1000000) :
    Calls Tryz.prog 80 #[.slice A m c] w (Fresh w 3 m xs) := by
  obtain ⟨i0, hi0, hz0, hz1, hz2⟩ := info_parts zint_info
  have HA := Lib.hid hA
  have HL := Lib.hid hl
  have H1 := Lib.hid h1
  clear hA hl h1
  go_enter Tryz.func80, Tryz.ntmps80
  go_wp2_with (
    at_builtin
    refine wpList_append_row rfl (.const (.slice none 0 0)) (.tmp 3) _ rfl w.heap.size 3 i0 _ 1 8 Tryz.underlying32 hi0 hz0 hz1 hz2 rfl (by omega) (.slice none 0 0) 0 [] rfl (World.ownsRow_nil _ _ _ _)
      A m c H xs rfl (by rw [HL.out, Nat.mul_one]) HA.out H1.out (by unfold maxLen; omega) (by omega) (Nat.le_refl _) ?_
    intro v2 w2 hown2 hg2
    simp only [Nat.zero_add, List.nil_append] at hown2
    have HO2 := Lib.hid hown2
    have HB2 := Lib.hid (own_below (Below.refl w.heap.size w) (Nat.le_refl _) (Nat.le_refl _) (World.ownsRow_nil w w.heap.size 3 1) hg2)
    clear hown2 hg2)
  go_ret
  exact ⟨_, rfl, HO2.out, HB2.out⟩

set_option maxRecDepth 8000 in
theorem step_fresh {a : Act} {w : World} {K : Act → World → Prop} {Q : Exit → Act → World → Prop} (o : Oper) (f : FuncId) (k : Nat) (ty e : TypeId) (n : Nat) (xs : List Value) (v : Value) (ho : o.op = .call { callee := .value (.func f), args := #[.tmp k], argTypes := #[ty] }) (h1 : a.tmps[k]? = some v) (he : (callFunc f #[v]).run Tryz.prog w = .ok (.enter f #[v]) w)
    (hc : Calls Tryz.prog f #[v] w (Fresh w e n xs)) (h : ∀ u w', w'.ownsRow w.heap.size e 1 u n xs → Below w.heap.size w w' → K (a.put o.dst u) w') : o.wp Tryz.prog a w K Q := by
  unfold Oper.wp
  simp [execOp, ho, resolve, invoke, Act.eval, h1, go_sem]
  rw [he]
  refine hc.mono ?_
  rintro _ w' ⟨u, rfl, h2, h3⟩
  exact h u w' h2 h3

/-- What each operation of the region yields. -/
def factC (H B : Nat) (x : DV) (d : Dt) : Nat → Value → World → Prop
  | 0 => fun v _ => v = .pointer (some ⟨H, 0, none⟩)
  | 1 => fun v _ => v = .slice x.Ab d.bytes.length x.cb
  | 2 => fun v w => w.ownsRow B 5 1 v d.bytes.length (d.bytes.map bc)
  | 3 => fun v _ => v = .pointer (some ⟨H, 1, none⟩)
  | 4 => fun v _ => v = .slice x.Ah d.host.length x.ch
  | 5 => fun v w => w.ownsRow B 9 1 v d.host.length (d.host.map sv)
  | 6 => fun v _ => v = .pointer (some ⟨H, 2, none⟩)
  | 7 => fun v _ => v = .slice x.Am d.mail.length x.cm
  | 8 => fun v w => w.ownsRow B 9 1 v d.mail.length (d.mail.map sv)
  | 9 => fun v _ => v = .pointer (some ⟨H, 3, none⟩)
  | 10 => fun v _ => v = .slice x.An d.nums.length x.cn
  | 11 => fun v w => w.ownsRow B 3 1 v d.nums.length (d.nums.map zv)
  | 12 => fun v _ => v = .pointer (some ⟨H, 4, none⟩)
  | 13 => fun v _ => v = .slice x.At d.texts.length x.ct
  | 14 => fun v w => w.ownsRow B 9 1 v d.texts.length (d.texts.map sv)
  | 15 => fun v w => ∃ y : DV, v = y.val d ∧ OwnD w B y d
  | _ => fun _ _ => True
set_option maxRecDepth 8000 in
theorem factC_mono {H B : Nat} {x : DV} {d : Dt} {w w' : World} (hw : ∀ g, g < w.heap.size → w'.heap[g]? = w.heap[g]?) : ∀ j u, j < 16 → factC H B x d j u w → factC H B x d j u w'
  | 0, _, _, h => h
  | 1, _, _, h => h
  | 2, _, _, h => own_keep h fun g e => hw g (World.ownsRow.lt h g e).2
  | 3, _, _, h => h
  | 4, _, _, h => h
  | 5, _, _, h => own_keep h fun g e => hw g (World.ownsRow.lt h g e).2
  | 6, _, _, h => h
  | 7, _, _, h => h
  | 8, _, _, h => own_keep h fun g e => hw g (World.ownsRow.lt h g e).2
  | 9, _, _, h => h
  | 10, _, _, h => h
  | 11, _, _, h => own_keep h fun g e => hw g (World.ownsRow.lt h g e).2
  | 12, _, _, h => h
  | 13, _, _, h => h
  | 14, _, _, h => own_keep h fun g e => hw g (World.ownsRow.lt h g e).2
  | 15, _, _, ⟨y, e, h⟩ => ⟨y, e, h.keep hw⟩
  | n + 16, _, h, _ => absurd h (by omega)

/-- What the call leaves: data of its own. -/
def OwnsC (w : World) (d : Dt) (e : Ending) (w' : World) : Prop := ∃ y : DV, e = .returned (y.val d) ∧ OwnD w' w.heap.size y d ∧ Below w.heap.size w w'

set_option maxRecDepth 8000 in
theorem step_storeC {a : Act} {w : World} {K : Act → World → Prop} {Q : Exit → Act → World → Prop} (o : Oper) (g : Nat) (y : DV) (d : Dt) (u0 u1 u2 u3 u4 : Value) (ho : o.op = .store 34 (.tmp 2) (.tmp 18)) (h2 : a.tmps[2]? = some (.pointer (some ⟨g, 0, none⟩)))
    (hu : a.tmps[18]? = some (y.val d)) (hw : Whole w g 34 [u0, u1, u2, u3, u4])
    (h : K (a.put o.dst undef) (((((w.setCell ⟨g, 0, none⟩ (y.vb d)).setCell ⟨g, 1, none⟩ (y.vh d)).setCell ⟨g, 2, none⟩ (y.vm d)).setCell ⟨g, 3, none⟩ (y.vn d)).setCell ⟨g, 4, none⟩ (y.vt d))) : o.wp Tryz.prog a w K Q := by
  have q0 : w.cell? ⟨g, 0, none⟩ = some u0 := hw.cell 0
  have q1 : w.cell? ⟨g, 1, none⟩ = some u1 := hw.cell 1
  have q2 : w.cell? ⟨g, 2, none⟩ = some u2 := hw.cell 2
  have q3 : w.cell? ⟨g, 3, none⟩ = some u3 := hw.cell 3
  have q4 : w.cell? ⟨g, 4, none⟩ = some u4 := hw.cell 4
  have z0 : w.frozen? ⟨g, 0, none⟩ = false := hw.frozen 0
  have z1 : w.frozen? ⟨g, 1, none⟩ = false := hw.frozen 1
  have z2 : w.frozen? ⟨g, 2, none⟩ = false := hw.frozen 2
  have z3 : w.frozen? ⟨g, 3, none⟩ = false := hw.frozen 3
  have z4 : w.frozen? ⟨g, 4, none⟩ = false := hw.frozen 4
  unfold Oper.wp
  simp [execOp, ho, go_sem, h2, hu, q0, q1, q2, q3, q4, z0, z1, z2, z3, z4]
  exact h

set_option maxRecDepth 20000 in
set_option maxHeartbeats 1000000 in
theorem copyOf_any (x : DV) (d : Dt) (w : World) (h : DataAt w w.heap.size x d) (hl : FewD d) :
    Calls Tryz.prog 54 #[x.val d] w (OwnsC w d) := by
  obtain ⟨hnh, hnm, hnt, hnn, hnb⟩ := hl
  go_enter Tryz.func54, Tryz.ntmps54
  go_wp2
  rename_i hret
  obtain ⟨W, hW⟩ : ∃ W, W = (w.alloc (.cells #[x.vb d, x.vh d, x.vm d, x.vn d, x.vt d] 34)).alloc (.cells #[.slice none 0 0, .slice none 0 0, .slice none 0 0, .slice none 0 0, .slice none 0 0] 34) := ⟨_, rfl⟩
  rw [← hW]
  have hw0 : Whole W w.heap.size 34 [x.vb d, x.vh d, x.vm d, x.vn d, x.vt d] := by
    rw [hW]
    exact (Whole.made w [x.vb d, x.vh d, x.vm d, x.vn d, x.vt d] _).alloc _
  have hw1 : Whole W (w.heap.size + 1) 34 [.slice none 0 0, .slice none 0 0, .slice none 0 0, .slice none 0 0, .slice none 0 0] := by
    rw [hW]
    have := Whole.made (w.alloc (.cells #[x.vb d, x.vh d, x.vm d, x.vn d, x.vt d] 34)) [.slice none 0 0, .slice none 0 0, .slice none 0 0, .slice none 0 0, .slice none 0 0] 34
    simpa using this
  have hbW : Below w.heap.size w W := by
    rw [hW]
    exact ((Below.refl _ _).alloc (Nat.le_refl _) _).alloc (by simp) _
  have hsW : W.heap.size = w.heap.size + 2 := by rw [hW]; simp
  have hdW : DataAt W w.heap.size x d := h.below hbW
  clear hW
  refine wp_region_facts 3 16 (OwnS W (w.heap.size + 2)) (factC w.heap.size (w.heap.size + 2) x d) (fun _ _ _ _ => True) (by kernel_rfl) rfl (by kernel_rfl) (by kernel_rfl) (by kernel_rfl) (by kernel_rfl) (by simp) (by kernel_rfl)
    ⟨(Below.refl _ W).drew, by simp [hsW]⟩ ?step ?tail
  case step =>
    intro i o hi ho l a v hF hdep K hK
    have hS := hF.S
    have h1 : a.tmps[1]? = some (.pointer (some ⟨w.heap.size, 0, none⟩)) := hF.low 1 (by omega)
    have hcell : ∀ k, v.cell? ⟨w.heap.size, k, none⟩ = [x.vb d, x.vh d, x.vm d, x.vn d, x.vt d][k]? := (hw0.below hS.below (by omega)).cell
    have hdv : DataAt v w.heap.size x d := hdW.below (hS.below.mono (by omega))
    have hK' : ∀ u w', factC w.heap.size (w.heap.size + 2) x d i u w' → Below v.heap.size v w' → K (a.put o.dst u) w' := fun u w' h2 h3 => hK u w' h2 (hS.more h3) (factC_mono fun g hg => h3.block g hg) fun _ _ _ _ => ⟨trivial, trivial⟩
    clear hK
    match i, hi, ho, hK' with
    | 0, _, ho, hK =>
      obtain rfl := Option.some.inj ho
      exact step_field _ 0 w.heap.size (by omega) rfl h1 (hK _ _ rfl (Below.refl _ _))
    | 1, _, ho, hK =>
      obtain rfl := Option.some.inj ho
      obtain ⟨u, hu, hFu⟩ := hF.facts 0 (by omega) (hdep ⟨0, .data⟩ (by simp) rfl)
      obtain rfl : u = .pointer (some ⟨w.heap.size, 0, none⟩) := hFu
      exact step_load _ 31 5 3 ⟨w.heap.size, 0, none⟩ _ rfl Tryz.underlying31 hu (hcell 0) (hK _ _ rfl (Below.refl _ _))
    | 2, _, ho, hK =>
      obtain rfl := Option.some.inj ho
      obtain ⟨y, hy, hFy⟩ := hF.facts 1 (by omega) (hdep ⟨1, .data⟩ (by simp) rfl)
      obtain rfl : y = .slice x.Ab d.bytes.length x.cb := hFy
      exact step_fresh _ 79 4 31 5 d.bytes.length (d.bytes.map bc) _ rfl hy (enter_byte _ _) (fresh_byte x.Ab d.bytes.length x.cb w.heap.size (d.bytes.map bc) v (by simp) hdv.b (bc_one _) (by omega))
        fun u w' h2 h3 => hK _ _ (own_mono h2 hS.size) h3
    | 3, _, ho, hK =>
      obtain rfl := Option.some.inj ho
      exact step_field _ 1 w.heap.size (by omega) rfl h1 (hK _ _ rfl (Below.refl _ _))
    | 4, _, ho, hK =>
      obtain rfl := Option.some.inj ho
      obtain ⟨u, hu, hFu⟩ := hF.facts 3 (by omega) (hdep ⟨3, .data⟩ (by simp) rfl)
      obtain rfl : u = .pointer (some ⟨w.heap.size, 1, none⟩) := hFu
      exact step_load _ 29 9 6 ⟨w.heap.size, 1, none⟩ _ rfl Tryz.underlying29 hu (hcell 1) (hK _ _ rfl (Below.refl _ _))
    | 5, _, ho, hK =>
      obtain rfl := Option.some.inj ho
      obtain ⟨y, hy, hFy⟩ := hF.facts 4 (by omega) (hdep ⟨4, .data⟩ (by simp) rfl)
      obtain rfl : y = .slice x.Ah d.host.length x.ch := hFy
      exact step_fresh _ 52 7 29 9 d.host.length (d.host.map sv) _ rfl hy (enter_string _ _) (fresh_string x.Ah d.host.length x.ch w.heap.size (d.host.map sv) v (by simp) hdv.h (sv_one _) (by omega))
        fun u w' h2 h3 => hK _ _ (own_mono h2 hS.size) h3
    | 6, _, ho, hK =>
      obtain rfl := Option.some.inj ho
      exact step_field _ 2 w.heap.size (by omega) rfl h1 (hK _ _ rfl (Below.refl _ _))
    | 7, _, ho, hK =>
      obtain rfl := Option.some.inj ho
      obtain ⟨u, hu, hFu⟩ := hF.facts 6 (by omega) (hdep ⟨6, .data⟩ (by simp) rfl)
      obtain rfl : u = .pointer (some ⟨w.heap.size, 2, none⟩) := hFu
      exact step_load _ 29 9 9 ⟨w.heap.size, 2, none⟩ _ rfl Tryz.underlying29 hu (hcell 2) (hK _ _ rfl (Below.refl _ _))
    | 8, _, ho, hK =>
      obtain rfl := Option.some.inj ho
      obtain ⟨y, hy, hFy⟩ := hF.facts 7 (by omega) (hdep ⟨7, .data⟩ (by simp) rfl)
      obtain rfl : y = .slice x.Am d.mail.length x.cm := hFy
      exact step_fresh _ 52 10 29 9 d.mail.length (d.mail.map sv) _ rfl hy (enter_string _ _) (fresh_string x.Am d.mail.length x.cm w.heap.size (d.mail.map sv) v (by simp) hdv.m (sv_one _) (by omega))
        fun u w' h2 h3 => hK _ _ (own_mono h2 hS.size) h3
    | 9, _, ho, hK =>
      obtain rfl := Option.some.inj ho
      exact step_field _ 3 w.heap.size (by omega) rfl h1 (hK _ _ rfl (Below.refl _ _))
    | 10, _, ho, hK =>
      obtain rfl := Option.some.inj ho
      obtain ⟨u, hu, hFu⟩ := hF.facts 9 (by omega) (hdep ⟨9, .data⟩ (by simp) rfl)
      obtain rfl : u = .pointer (some ⟨w.heap.size, 3, none⟩) := hFu
      exact step_load _ 32 3 12 ⟨w.heap.size, 3, none⟩ _ rfl Tryz.underlying32 hu (hcell 3) (hK _ _ rfl (Below.refl _ _))
    | 11, _, ho, hK =>
      obtain rfl := Option.some.inj ho
      obtain ⟨y, hy, hFy⟩ := hF.facts 10 (by omega) (hdep ⟨10, .data⟩ (by simp) rfl)
      obtain rfl : y = .slice x.An d.nums.length x.cn := hFy
      exact step_fresh _ 80 13 32 3 d.nums.length (d.nums.map zv) _ rfl hy (enter_int _ _) (fresh_int x.An d.nums.length x.cn w.heap.size (d.nums.map zv) v (by simp) hdv.n (zv_one _) (by omega))
        fun u w' h2 h3 => hK _ _ (own_mono h2 hS.size) h3
    | 12, _, ho, hK =>
      obtain rfl := Option.some.inj ho
      exact step_field _ 4 w.heap.size (by omega) rfl h1 (hK _ _ rfl (Below.refl _ _))
    | 13, _, ho, hK =>
      obtain rfl := Option.some.inj ho
      obtain ⟨u, hu, hFu⟩ := hF.facts 12 (by omega) (hdep ⟨12, .data⟩ (by simp) rfl)
      obtain rfl : u = .pointer (some ⟨w.heap.size, 4, none⟩) := hFu
      exact step_load _ 29 9 15 ⟨w.heap.size, 4, none⟩ _ rfl Tryz.underlying29 hu (hcell 4) (hK _ _ rfl (Below.refl _ _))
    | 14, _, ho, hK =>
      obtain rfl := Option.some.inj ho
      obtain ⟨y, hy, hFy⟩ := hF.facts 13 (by omega) (hdep ⟨13, .data⟩ (by simp) rfl)
      obtain rfl : y = .slice x.At d.texts.length x.ct := hFy
      exact step_fresh _ 52 16 29 9 d.texts.length (d.texts.map sv) _ rfl hy (enter_string _ _) (fresh_string x.At d.texts.length x.ct w.heap.size (d.texts.map sv) v (by simp) hdv.t (sv_one _) (by omega))
        fun u w' h2 h3 => hK _ _ (own_mono h2 hS.size) h3
    | 15, _, ho, hK =>
      obtain rfl := Option.some.inj ho
      have hl (j : Nat) (h : (⟨j, .data⟩ : Edge) ∈ #[(⟨2, .data⟩ : Edge), ⟨5, .data⟩, ⟨8, .data⟩, ⟨11, .data⟩, ⟨14, .data⟩]) := hdep ⟨j, .data⟩ h rfl
      obtain ⟨v0, g0, f0⟩ := hF.facts 2 (by omega) (hl 2 (by simp))
      obtain ⟨v1, g1, f1⟩ := hF.facts 5 (by omega) (hl 5 (by simp))
      obtain ⟨v2, g2, f2⟩ := hF.facts 8 (by omega) (hl 8 (by simp))
      obtain ⟨v3, g3, f3⟩ := hF.facts 11 (by omega) (hl 11 (by simp))
      obtain ⟨v4, g4, f4⟩ := hF.facts 14 (by omega) (hl 14 (by simp))
      obtain ⟨A0, c0, rfl, _, _⟩ := own_form f0
      obtain ⟨A1, c1, rfl, _, _⟩ := own_form f1
      obtain ⟨A2, c2, rfl, _, _⟩ := own_form f2
      obtain ⟨A3, c3, rfl, _, _⟩ := own_form f3
      obtain ⟨A4, c4, rfl, _, _⟩ := own_form f4
      have hk := hK (DV.val ⟨A0, A1, A2, A3, A4, c0, c1, c2, c3, c4⟩ d) v ⟨⟨A0, A1, A2, A3, A4, c0, c1, c2, c3, c4⟩, rfl, ⟨f0, f1, f2, f3, f4⟩⟩ (Below.refl _ _)
      unfold Oper.wp
      simp [execOp, go_sem, g0, g1, g2, g3, g4]
      exact hk
    | n + 16, hi, _, _ => exact absurd hi (by omega)
  case tail =>
    intro l a v o ho hF hl
    obtain rfl := Option.some.inj ho
    have hS := hF.S
    have h2 : a.tmps[2]? = some (.pointer (some ⟨w.heap.size + 1, 0, none⟩)) := hF.low 2 (by omega)
    obtain ⟨u, hu, y, rfl, hO⟩ := hF.facts 15 (by omega) (hl 15 (by omega))
    have hw := hw1.below hS.below (by omega)
    refine wpList_plain rfl fun K2 hK2 => step_storeC _ (w.heap.size + 1) y d _ _ _ _ _ rfl h2 hu hw ?_
    refine hK2 _ _ ?_
    obtain ⟨V, hV⟩ : ∃ V, V = ((((v.setCell ⟨w.heap.size + 1, 0, none⟩ (y.vb d)).setCell ⟨w.heap.size + 1, 1, none⟩ (y.vh d)).setCell ⟨w.heap.size + 1, 2, none⟩ (y.vm d)).setCell ⟨w.heap.size + 1, 3, none⟩ (y.vn d)).setCell ⟨w.heap.size + 1, 4, none⟩ (y.vt d) := ⟨_, rfl⟩
    rw [← hV]
    have hw5 : Whole V (w.heap.size + 1) 34 [y.vb d, y.vh d, y.vm d, y.vn d, y.vt d] := by
      rw [hV]
      exact ((((hw.set_ 0 _).set_ 1 _).set_ 2 _).set_ 3 _).set_ 4 _
    have hb5 : Below (w.heap.size + 1) v V := by
      rw [hV]
      have hs (W : World) (i : Nat) (u : Value) : Below (w.heap.size + 1) W (W.setCell ⟨w.heap.size + 1, i, none⟩ u) := (Below.refl _ W).setCell (p := ⟨w.heap.size + 1, i, none⟩) (Nat.le_refl _) u
      exact ((((hs _ 0 _).trans (hs _ 1 _)).trans (hs _ 2 _)).trans (hs _ 3 _)).trans (hs _ 4 _)
    have hf5 : ∀ g, g ≠ w.heap.size + 1 → V.heap[g]? = v.heap[g]? := fun g hg => by
      rw [hV]
      have hs (W : World) (i : Nat) (u : Value) : (W.setCell ⟨w.heap.size + 1, i, none⟩ u).heap[g]? = W.heap[g]? := Below.heap_setCell W ⟨w.heap.size + 1, i, none⟩ u g hg
      rw [hs, hs, hs, hs, hs]
    have hO5 : OwnD V (w.heap.size + 2) y d :=
      ⟨own_keep hO.b fun g e => hf5 g (by have := (hO.b.lt g e).1; omega), own_keep hO.h fun g e => hf5 g (by have := (hO.h.lt g e).1; omega), own_keep hO.m fun g e => hf5 g (by have := (hO.m.lt g e).1; omega), own_keep hO.n fun g e => hf5 g (by have := (hO.n.lt g e).1; omega), own_keep hO.t fun g e => hf5 g (by have := (hO.t.lt g e).1; omega)⟩
    have hO6 : OwnD V w.heap.size y d := ⟨own_mono hO5.b (by omega), own_mono hO5.h (by omega), own_mono hO5.m (by omega), own_mono hO5.n (by omega), own_mono hO5.t (by omega)⟩
    have hB : Below w.heap.size w V := (hbW.trans (hS.below.mono (by omega))).trans (hb5.mono (by omega))
    have q0 : V.cell? ⟨w.heap.size + 1, 0, none⟩ = some (y.vb d) := hw5.cell 0
    have q1 : V.cell? ⟨w.heap.size + 1, 1, none⟩ = some (y.vh d) := hw5.cell 1
    have q2 : V.cell? ⟨w.heap.size + 1, 2, none⟩ = some (y.vm d) := hw5.cell 2
    have q3 : V.cell? ⟨w.heap.size + 1, 3, none⟩ = some (y.vn d) := hw5.cell 3
    have q4 : V.cell? ⟨w.heap.size + 1, 4, none⟩ = some (y.vt d) := hw5.cell 4
    clear hV hw5 hb5 hf5 hO5 hw hw0 hw1 hO
    refine hret _ _ (wp_ret ?_)
    refine ⟨hF.defers, y.val d, ?_, y, rfl, hO6, hB⟩
    clear hF hl
    simp [results, Tryz.results54, go_sem, Act.put, h2, q0, q1, q2, q3, q4]


end Go.Proofs.YtmbcbfalgdgmjaaGreatDoor

namespace Go.Proofs.YtmbcbfalgdgmjaaGreatDoor
open Go.RowKit

theorem data_info : (Tryz.prog.info? 34).map (fun i => (i.zero, i.size, i.bytes)) = some (some (.agg #[.slice none 0 0, .slice none 0 0, .slice none 0 0, .slice none 0 0, .slice none 0 0]), 5, 120) := by kernel_rfl

/-- Is the record one of those that are asked for? -/
def selR (n : List (List UInt8)) (k : Int) (r : Rt) : Bool := decide (r.cls = 1) && (decide (r.kind = k) && eqN r.name n)
/-- One record more. -/
def stepS (s : List Dt × Int) (r : Rt) : List Dt × Int := (if hasD s.1 r.data = true then s.1 else s.1 ++ [r.data], if s.1 = [] ∨ r.ttl < s.2 then r.ttl else s.2)
/-- The set of a name and a type, and its least TTL. -/
def setF (rs : List Rt) (n : List (List UInt8)) (k : Int) : List Dt × Int := (rs.filter (selR n k)).foldl stepS ([], 0)
theorem setF_snoc (rs : List Rt) (r : Rt) (n : List (List UInt8)) (k : Int) : setF (rs ++ [r]) n k = if selR n k r = true then stepS (setF rs n k) r else setF rs n k := by
  unfold setF
  rw [List.filter_append, List.foldl_append]
  cases h : selR n k r <;> simp [h]
theorem recs_snoc {ps : List (RV × Rt)} {j : Nat} (hj : j < ps.length) : recs (ps.take (j + 1)) = recs (ps.take j) ++ [(ps[j]).2] := by
  rw [List.take_succ_eq_append_getElem hj, recs_append]
  rfl
theorem setF_take {ps : List (RV × Rt)} {j : Nat} (hj : j < ps.length) (n : List (List UInt8)) (k : Int) : setF (recs (ps.take (j + 1))) n k = if selR n k (ps[j]).2 = true then stepS (setF (recs (ps.take j)) n k) (ps[j]).2 else setF (recs (ps.take j)) n k := by
  rw [recs_snoc hj, setF_snoc]

theorem own_own_apart' {w : World} {b1 b2 : Nat} {e1 e2 : TypeId} {s1 s2 n1 n2 : Nat} {v1 v2 : Value} {x1 x2 : List Value} (h1 : w.ownsRow b1 e1 s1 v1 n1 x1) (h2 : w.ownsRow b2 e2 s2 v2 n2 x2) (he : e1 ≠ e2) {j : Nat} (hj : v1.ownBlock = some j) : v2.ownBlock ≠ some j := by
  intro hk
  rcases h1.2 with ⟨rfl, _⟩ | ⟨g1, _, c1, rfl, _, hh1, _⟩
  · cases hj
  rcases h2.2 with ⟨rfl, _⟩ | ⟨g2, _, c2, rfl, _, hh2, _⟩
  · cases hk
  simp only [Value.ownBlock, Option.some.injEq] at hj hk
  subst hj
  subst hk
  rw [hh1] at hh2
  injection hh2 with hh2
  injection hh2 with _ hh2 _
  exact he hh2
theorem OwnD.mono {w : World} {B B' : Nat} {x : DV} {d : Dt} (h : OwnD w B x d) (hb : B' ≤ B) : OwnD w B' x d := ⟨own_mono h.b hb, own_mono h.h hb, own_mono h.m hb, own_mono h.n hb, own_mono h.t hb⟩
theorem cellsD_one1 (p : DV × Dt) : ∀ u ∈ cellsD p, u.oneCell' = true := fun u hu => cellsD_one [p] u (by simpa using hu)
/-- Data of the call's own is kept while a row of data grows. -/
theorem OwnD.grown {w w' : World} {B : Nat} {x : DV} {d : Dt} (h : OwnD w B x d) {v : Value} {n : Nat} {xs : List Value} (hv : w.ownsRow B 34 5 v n xs) (hg : w.grownBy w' v.ownBlock) : OwnD w' B x d := by
  have hk : ∀ {e : TypeId} {s m : Nat} {u : Value} {ys : List Value}, w.ownsRow B e s u m ys → e ≠ 34 → ∀ g, u.ownBlock = some g → w'.heap[g]? = w.heap[g]? := fun ho hne g hj =>
    hg.block g (ho.lt g hj).2 (Ne.symm (own_own_apart' ho hv hne hj))
  exact ⟨own_keep h.b (hk h.b (by decide)), own_keep h.h (hk h.h (by decide)), own_keep h.m (hk h.m (by decide)), own_keep h.n (hk h.n (by decide)), own_keep h.t (hk h.t (by decide))⟩

/-- What Set has made ahead of a round: the rows of the set. -/
structure SetAt (w0 : World) (v : Value) (qs : List (DV × Dt)) (w : World) : Prop where
  row : w.ownsRow w0.heap.size 34 5 v qs.length (qs.flatMap cellsD)
  each : ∀ q ∈ qs, OwnD w w0.heap.size q.1 q.2
  below : Below w0.heap.size w0 w
  size : w0.heap.size ≤ w.heap.size
theorem SetAt.step {w0 w w' : World} {v : Value} {qs : List (DV × Dt)} (h : SetAt w0 v qs w) (hb : Below w.heap.size w w') : SetAt w0 v qs w' :=
  ⟨own_keep h.row fun j hj => hb.block j (h.row.lt j hj).2, fun q hq => (h.each q hq).keep fun g hg => hb.block g hg, h.below.trans (hb.mono h.size), Nat.le_trans h.size hb.size⟩
theorem SetAt.reads {w0 w : World} {A : Option Addr} {c : Nat} {qs : List (DV × Dt)} (h : SetAt w0 (.slice A qs.length c) qs w) : DsAt w w.heap.size A qs :=
  ⟨Row.of_own h.row, fun q hq => (h.each q hq).at_⟩
/-- One more has been appended. -/
theorem SetAt.snoc {w0 w w' : World} {v v' : Value} {qs : List (DV × Dt)} (h : SetAt w0 v qs w) {y : DV} {d : Dt} (hy : OwnD w w0.heap.size y d) (ho : w'.ownsRow w0.heap.size 34 5 v' (qs.length + 1) (qs.flatMap cellsD ++ cellsD (y, d)))
    (hg : w.grownBy w' v.ownBlock) : SetAt w0 v' (qs ++ [(y, d)]) w' := by
  refine ⟨by rw [List.length_append, List.flatMap_append]; simpa using ho, fun q hq => ?_, own_below h.below (Nat.le_refl _) h.size h.row hg, Nat.le_trans h.size hg.size⟩
  rcases List.mem_append.1 hq with hq | hq
  · exact (h.each q hq).grown h.row hg
  · rw [List.mem_singleton.1 hq]
    exact hy.grown h.row hg

/-- What Set leaves: slices of its own that say what the set says. -/
def SetOut (w : World) (s : List Dt × Int) (e : Ending) (w' : World) : Prop :=
  ∃ (A : Option Addr) (c : Nat) (qs : List (DV × Dt)), e = .returned (.tuple #[.slice A qs.length c, .int .i64 s.2]) ∧ dats qs = s.1 ∧ DsAt w' w'.heap.size A qs ∧ Below w.heap.size w w'
/-- The same, told more of: the slices are the call's own. -/
def SetOwn (w : World) (s : List Dt × Int) (e : Ending) (w' : World) : Prop :=
  ∃ (A : Option Addr) (c : Nat) (qs : List (DV × Dt)), e = .returned (.tuple #[.slice A qs.length c, .int .i64 s.2]) ∧ dats qs = s.1 ∧ SetAt w (.slice A qs.length c) qs w'
def SetRel (w : World) (ps : List (RV × Rt)) (n : List (List UInt8)) (k : Int) (v t i : Value) (wr : World) : Prop :=
  ∃ (j : Nat) (qs : List (DV × Dt)), j ≤ ps.length ∧ i = .int .i64 j ∧ t = .int .i64 (setF (recs (ps.take j)) n k).2 ∧ dats qs = (setF (recs (ps.take j)) n k).1 ∧ qs.length ≤ j ∧ (∀ q ∈ qs, Wide q.2) ∧ SetAt w v qs wr















































































































































































































































































end Go.Proofs.YtmbcbfalgdgmjaaGreatDoor

namespace Go.Proofs.YtmbcbfalgdgmjaaGreatDoor
open Go.RowKit

/-- Has a record few parts? -/
def lightR (r : Rt) : Bool := decide (r.name.length ≤ 200) && (decide (r.data.host.length ≤ 200) && (decide (r.data.mail.length ≤ 200) && (decide (r.data.texts.length ≤ 100) && (decide (r.data.nums.length ≤ 100) && (decide (r.data.bytes.length ≤ 66000))))))
def lightL (rs : List Rt) : Bool := rs.all lightR && decide (rs.length ≤ 60)
structure LightR (r : Rt) : Prop where
  l0 : r.name.length ≤ 200
  l1 : r.data.host.length ≤ 200
  l2 : r.data.mail.length ≤ 200
  l3 : r.data.texts.length ≤ 100
  l4 : r.data.nums.length ≤ 100
  l5 : r.data.bytes.length ≤ 200000
theorem lightR_iff {r : Rt} (h : lightR r = true) : LightR r := by
  unfold lightR at h
  simp only [Bool.and_eq_true, decide_eq_true_eq] at h
  obtain ⟨h0, h1, h2, h3, h4, h5⟩ := h
  exact ⟨h0, h1, h2, h3, h4, by omega⟩
theorem LightR.few {r : Rt} (h : LightR r) : FewD r.data := ⟨Nat.le_trans h.l1 (by omega), Nat.le_trans h.l2 (by omega), Nat.le_trans h.l3 (by omega), Nat.le_trans h.l4 (by omega), Nat.le_trans h.l5 (by omega)⟩
theorem lightL_each {rs : List Rt} (h : lightL rs = true) : (∀ r ∈ rs, LightR r) ∧ rs.length ≤ 60 := by
  unfold lightL at h
  rw [Bool.and_eq_true, decide_eq_true_eq, List.all_eq_true] at h
  exact ⟨fun r hr => lightR_iff (h.1 r hr), h.2⟩
theorem recs_at {ps : List (RV × Rt)} {k : Nat} (hk : k < ps.length) : recs (ps.take (k + 1)) = recs (ps.take k) ++ [(ps[k]).2] := by
  rw [List.take_succ_eq_append_getElem hk, recs_append]
  rfl
def LightRelR (w : World) (ps : List (RV × Rt)) (i : Value) (wr : World) : Prop := ∃ k : Nat, k ≤ ps.length ∧ i = .int .i64 k ∧ (recs (ps.take k)).all lightR = true ∧ Below w.heap.size w wr

end Go.Proofs.YtmbcbfalgdgmjaaGreatDoor

namespace Go.Proofs.YtmbcbfalgdgmjaaGreatDoor
open Go.RowKit


theorem own_apartR {w : World} {b1 b2 : Nat} {e1 e2 : TypeId} {s1 s2 n1 n2 : Nat} {v1 v2 : Value} {x1 x2 : List Value} (h1 : w.ownsRow b1 e1 s1 v1 n1 x1) (h2 : w.ownsRow b2 e2 s2 v2 n2 x2) (he : e1 ≠ e2) {j : Nat} (hj : v1.ownBlock = some j) : v2.ownBlock ≠ some j := by
  intro hk
  rcases h1.2 with ⟨rfl, _⟩ | ⟨g1, _, c1, rfl, _, hh1, _⟩
  · cases hj
  rcases h2.2 with ⟨rfl, _⟩ | ⟨g2, _, c2, rfl, _, hh2, _⟩
  · cases hk
  simp only [Value.ownBlock, Option.some.injEq] at hj hk
  subst hj
  subst hk
  rw [hh1] at hh2
  injection hh2 with hh2
  injection hh2 with _ hh2 _
  exact he hh2
theorem cellsR_one1 (p : RV × Rt) : ∀ u ∈ cellsR p, u.oneCell' = true := fun u hu => cellsR_one [p] u (by simpa using hu)
/-- A record whose slices are the call's own. -/
structure OwnR (w : World) (B : Nat) (x : RV) (r : Rt) : Prop where
  n : w.ownsRow B 9 1 (x.vn r) r.name.length (r.name.map sv)
  d : OwnD w B x.d r.data
theorem OwnD.monoB {w : World} {B B' : Nat} {x : DV} {d : Dt} (h : OwnD w B x d) (hb : B' ≤ B) : OwnD w B' x d := ⟨own_mono h.b hb, own_mono h.h hb, own_mono h.m hb, own_mono h.n hb, own_mono h.t hb⟩
theorem OwnR.at_ {w : World} {B : Nat} {x : RV} {r : Rt} (h : OwnR w B x r) : RAt w w.heap.size x r := ⟨Row.of_own h.n, own_cap h.n, h.d.at_⟩
theorem OwnR.keep {w w' : World} {B : Nat} {x : RV} {r : Rt} (h : OwnR w B x r) (hk : ∀ g, g < w.heap.size → w'.heap[g]? = w.heap[g]?) : OwnR w' B x r :=
  ⟨own_keep h.n fun g e => hk g (h.n.lt g e).2, h.d.keep hk⟩
theorem OwnR.keepB {w w' : World} {B : Nat} {x : RV} {r : Rt} (h : OwnR w B x r) (hk : ∀ g, B ≤ g → g < w.heap.size → w'.heap[g]? = w.heap[g]?) : OwnR w' B x r :=
  ⟨own_keep h.n fun g e => hk g (h.n.lt g e).1 (h.n.lt g e).2, own_keep h.d.b fun g e => hk g (h.d.b.lt g e).1 (h.d.b.lt g e).2, own_keep h.d.h fun g e => hk g (h.d.h.lt g e).1 (h.d.h.lt g e).2, own_keep h.d.m fun g e => hk g (h.d.m.lt g e).1 (h.d.m.lt g e).2,
    own_keep h.d.n fun g e => hk g (h.d.n.lt g e).1 (h.d.n.lt g e).2, own_keep h.d.t fun g e => hk g (h.d.t.lt g e).1 (h.d.t.lt g e).2⟩























































/-- What OwnRRs leaves: records of its own that read as those that were handed in. -/
def OwnRs (w : World) (rs : List Rt) (e : Ending) (w' : World) : Prop :=
  ∃ (A : Option Addr) (c : Nat) (qs : List (RV × Rt)), e = .returned (.slice A qs.length c) ∧ recs qs = rs ∧ RsAt w' w'.heap.size A qs ∧ Below w.heap.size w w'






































































































































end Go.Proofs.YtmbcbfalgdgmjaaGreatDoor

namespace Go.Proofs.YtmbcbfalgdgmjaaGreatDoor
open Go.RowKit

/-- Is data the same, byte by byte? -/
def exactW (a b : Dt) : Bool := sameD a b && (decide (a.host = b.host) && decide (a.mail = b.mail))
theorem exactW_self (d : Dt) : exactW d d = true := by simp [exactW, sameD, eqN]






































































theorem sameD_turn (a b : Dt) : sameD a b = sameD b a := by
  have h : ∀ {α : Type} [DecidableEq α] (x y : α), decide (x = y) = decide (y = x) := fun x y => decide_eq_decide.2 ⟨Eq.symm, Eq.symm⟩
  unfold sameD eqN
  rw [h a.bytes, h a.nums, h a.texts, h (lowN a.host), h (lowN a.mail)]

def InRel (w : World) (x : DV) (a : Dt) (ps : List (DV × Dt)) (i : Value) (wr : World) : Prop :=
  ∃ k : Nat, k ≤ ps.length ∧ i = .int .i64 k ∧ (dats (ps.take k)).any (fun e => sameD a e) = false ∧ Whole wr w.heap.size 34 [.slice x.Ab a.bytes.length x.cb, .slice x.Ah a.host.length x.ch, .slice x.Am a.mail.length x.cm, .slice x.An a.nums.length x.cn, .slice x.At a.texts.length x.ct] ∧ Below w.heap.size w wr

set_option maxRecDepth 20000 in
set_option maxHeartbeats 4000000 in
theorem in_any (w : World) (x : DV) (a : Dt) (A : Option Addr) (c : Nat) (ps : List (DV × Dt)) (hx : DataAt w w.heap.size x a) (hp : DsAt w w.heap.size A ps) (la : Wide a) (hc : ∀ p ∈ ps, Wide p.2) (hl : ps.length ≤ maxLen) :
    Calls Tryz.prog 43 #[.slice A ps.length c, x.val a] w (Gave w (.bool (hasD (dats ps) a))) := by
  unfold maxLen at hl
  have HP := Lib.hid hp
  have HC := Lib.hid hc
  have HX := Lib.hid hx
  have HB0 := Lib.hid ((Below.refl w.heap.size w).alloc (Nat.le_refl _) (.cells #[.slice x.Ab a.bytes.length x.cb, .slice x.Ah a.host.length x.ch, .slice x.Am a.mail.length x.cm, .slice x.An a.nums.length x.cn, .slice x.At a.texts.length x.ct] 34))
  have HW0 := Lib.hid (Whole.made w [.slice x.Ab a.bytes.length x.cb, .slice x.Ah a.host.length x.ch, .slice x.Am a.mail.length x.cm, .slice x.An a.nums.length x.cn, .slice x.At a.texts.length x.ct] 34)
  clear hp hc hx
  go_enter Tryz.func43, Tryz.ntmps43
  go_wp2
  go_loopw [5] (InRel w x a ps) (fun i _ => ps.length - (intOf i).toNat)
  case atStart => exact ⟨0, Nat.zero_le _, rfl, rfl, HW0.out, HB0.out⟩
  case round =>
    obtain ⟨k, hk, rfl, hn, hwx, hb⟩ := hrel
    have HN := Lib.hid hn
    have HB := Lib.hid hb
    have hz := hb.size
    have HXX := Lib.hid hwx
    clear hn hb hwx
    by_cases hlt : k < ps.length
    · obtain ⟨b, off, rfl, hbH, hd, q0, q1, q2, q3, q4⟩ := HP.out.at_ hlt
      have hwd := HC.out _ (List.getElem_mem hlt)
      have HI := Lib.hid (any_snoc (fun e => sameD a e) hlt HN.out)
      revert hd q0 q1 q2 q3 q4 hwd HI
      generalize ps[k] = p
      obtain ⟨y, d⟩ := p
      intro hd q0 q1 q2 q3 q4 hwd HI
      dsimp only at *
      have HD := Lib.hid hd
      have HWD := Lib.hid hwd
      have Q0 := Lib.hid q0
      have Q1 := Lib.hid q1
      have Q2 := Lib.hid q2
      have Q3 := Lib.hid q3
      have Q4 := Lib.hid q4
      clear hd hwd q0 q1 q2 q3 q4
      have hbW : b < w.heap.size := hbH
      have hk0 : (0 : Int) ≤ (k : Int) := by omega
      have hk1 : (k : Int) < (ps.length : Int) := by omega
      have HBB := Lib.hid HB.out.drew
      have HXW := Lib.hid (show Whole wr.drew w.heap.size 34 [.slice x.Ab a.bytes.length x.cb, .slice x.Ah a.host.length x.ch, .slice x.Am a.mail.length x.cm, .slice x.An a.nums.length x.cn, .slice x.At a.texts.length x.ct] from HXX.out)
      go_wp2
      cases hv : sameD a d with
      | true =>
        have HT := Lib.hid (HI.out.1 hv)
        have HSM := Lib.hid (fun W (h : Below w.heap.size w W) => ref_dsame_wide y x d a W ((HD.out.below h).mono h.size) ((HX.out.below h).mono h.size) HWD.out la)
        rw [sameD_turn d a, hv] at HSM
        clear HI hv
        go_region_held3 (fun W => (W.cell? ⟨b, off + k * 5, none⟩ = some (.slice y.Ab d.bytes.length y.cb) ∧ W.cell? ⟨b, off + k * 5 + 1, none⟩ = some (.slice y.Ah d.host.length y.ch) ∧ W.cell? ⟨b, off + k * 5 + 2, none⟩ = some (.slice y.Am d.mail.length y.cm) ∧ W.cell? ⟨b, off + k * 5 + 3, none⟩ = some (.slice y.An d.nums.length y.cn) ∧ W.cell? ⟨b, off + k * 5 + 4, none⟩ = some (.slice y.At d.texts.length y.ct)) ∧ (W.cell? ⟨w.heap.size, 0, none⟩ = some (.slice x.Ab a.bytes.length x.cb) ∧ W.cell? ⟨w.heap.size, 1, none⟩ = some (.slice x.Ah a.host.length x.ch) ∧ W.cell? ⟨w.heap.size, 2, none⟩ = some (.slice x.Am a.mail.length x.cm) ∧ W.cell? ⟨w.heap.size, 3, none⟩ = some (.slice x.An a.nums.length x.cn) ∧ W.cell? ⟨w.heap.size, 4, none⟩ = some (.slice x.At a.texts.length x.ct)))
          (exact ⟨⟨(HBB.out.cell (p := ⟨b, off + k * 5, none⟩) hbW).trans Q0.out, (HBB.out.cell (p := ⟨b, off + k * 5 + 1, none⟩) hbW).trans Q1.out, (HBB.out.cell (p := ⟨b, off + k * 5 + 2, none⟩) hbW).trans Q2.out, (HBB.out.cell (p := ⟨b, off + k * 5 + 3, none⟩) hbW).trans Q3.out, (HBB.out.cell (p := ⟨b, off + k * 5 + 4, none⟩) hbW).trans Q4.out⟩, ⟨HXW.out.cell 0, HXW.out.cell 1, HXW.out.cell 2, HXW.out.cell 3, HXW.out.cell 4⟩⟩)
          ((first
            | (go_at_call 36
               refine (HSM.out _ HBB.out).mono ?_
               rintro e wn ⟨rfl, hb⟩
               have HXW := Lib.hid (HXW.out.below hb HXW.out.lt)
               have HBB := Lib.hid (HBB.out.trans (hb.mono HBB.out.size))
               clear hb)))
        go_wp2
        go_ret
        exact ⟨ret_bool HT.out.symm, HBB.out⟩
      | false =>
        have HT := Lib.hid (HI.out.2 hv)
        have HSM := Lib.hid (fun W (h : Below w.heap.size w W) => ref_dsame_wide y x d a W ((HD.out.below h).mono h.size) ((HX.out.below h).mono h.size) HWD.out la)
        rw [sameD_turn d a, hv] at HSM
        clear HI hv
        go_region_held3 (fun W => (W.cell? ⟨b, off + k * 5, none⟩ = some (.slice y.Ab d.bytes.length y.cb) ∧ W.cell? ⟨b, off + k * 5 + 1, none⟩ = some (.slice y.Ah d.host.length y.ch) ∧ W.cell? ⟨b, off + k * 5 + 2, none⟩ = some (.slice y.Am d.mail.length y.cm) ∧ W.cell? ⟨b, off + k * 5 + 3, none⟩ = some (.slice y.An d.nums.length y.cn) ∧ W.cell? ⟨b, off + k * 5 + 4, none⟩ = some (.slice y.At d.texts.length y.ct)) ∧ (W.cell? ⟨w.heap.size, 0, none⟩ = some (.slice x.Ab a.bytes.length x.cb) ∧ W.cell? ⟨w.heap.size, 1, none⟩ = some (.slice x.Ah a.host.length x.ch) ∧ W.cell? ⟨w.heap.size, 2, none⟩ = some (.slice x.Am a.mail.length x.cm) ∧ W.cell? ⟨w.heap.size, 3, none⟩ = some (.slice x.An a.nums.length x.cn) ∧ W.cell? ⟨w.heap.size, 4, none⟩ = some (.slice x.At a.texts.length x.ct)))
          (exact ⟨⟨(HBB.out.cell (p := ⟨b, off + k * 5, none⟩) hbW).trans Q0.out, (HBB.out.cell (p := ⟨b, off + k * 5 + 1, none⟩) hbW).trans Q1.out, (HBB.out.cell (p := ⟨b, off + k * 5 + 2, none⟩) hbW).trans Q2.out, (HBB.out.cell (p := ⟨b, off + k * 5 + 3, none⟩) hbW).trans Q3.out, (HBB.out.cell (p := ⟨b, off + k * 5 + 4, none⟩) hbW).trans Q4.out⟩, ⟨HXW.out.cell 0, HXW.out.cell 1, HXW.out.cell 2, HXW.out.cell 3, HXW.out.cell 4⟩⟩)
          ((first
            | (go_at_call 36
               refine (HSM.out _ HBB.out).mono ?_
               rintro e wn ⟨rfl, hb⟩
               have HXW := Lib.hid (HXW.out.below hb HXW.out.lt)
               have HBB := Lib.hid (HBB.out.trans (hb.mono HBB.out.size))
               clear hb)))
        go_wp2
        exact ⟨⟨k + 1, by omega, by go_num, HT.out, HXW.out, HBB.out⟩, by simp [intOf]; omega⟩
    · obtain rfl : k = ps.length := by omega
      have HF := Lib.hid (show hasD (dats ps) a = false by have h := HN.out; rw [List.take_length] at h; exact h)
      go_wp2
      go_ret
      exact ⟨ret_bool HF.out.symm, HB.out⟩

end Go.Proofs.YtmbcbfalgdgmjaaGreatDoor

namespace Go.Proofs.YtmbcbfalgdgmjaaGreatDoor
open Go.RowKit

/-- A fact in memory: where its slices lie, and what it says. -/
structure FV where
  A : Option Addr
  c : Nat
  name : List (List UInt8)
  h : Fh
  sA : Option Addr
  sc : Nat
  sp : List (DV × Dt)
  zA : Option Addr
  zc : Nat
  zone : List (List UInt8)
  d : DV
  soa : Dt
def FV.fact (x : FV) : Fc := ⟨x.name, x.h, dats x.sp, x.zone, x.soa⟩
/-- Its cells. -/
def cellsF (x : FV) : List Value := [.slice x.A x.name.length x.c, .int .i64 x.h.typ, .int .i64 x.h.knd, .int .i64 x.h.rank, .int .i64 x.h.got, .int .i64 x.h.ttl, .slice x.sA x.sp.length x.sc, .slice x.zA x.zone.length x.zc,
  .slice x.d.Ab x.soa.bytes.length x.d.cb, .slice x.d.Ah x.soa.host.length x.d.ch, .slice x.d.Am x.soa.mail.length x.d.cm, .slice x.d.An x.soa.nums.length x.d.cn, .slice x.d.At x.soa.texts.length x.d.ct]
abbrev FV.val (x : FV) : Value := .agg #[.slice x.A x.name.length x.c, .int .i64 x.h.typ, .int .i64 x.h.knd, .int .i64 x.h.rank, .int .i64 x.h.got, .int .i64 x.h.ttl, .slice x.sA x.sp.length x.sc, .slice x.zA x.zone.length x.zc,
  .slice x.d.Ab x.soa.bytes.length x.d.cb, .slice x.d.Ah x.soa.host.length x.d.ch, .slice x.d.Am x.soa.mail.length x.d.cm, .slice x.d.An x.soa.nums.length x.d.cn, .slice x.d.At x.soa.texts.length x.d.ct]
theorem cellsF_len (x : FV) : (cellsF x).length = 13 := rfl
theorem cellsF_one (xs : List FV) : ∀ u ∈ xs.flatMap cellsF, u.oneCell' = true := by
  intro u hu
  obtain ⟨p, _, hp⟩ := List.mem_flatMap.1 hu
  simp only [cellsF, List.mem_cons, List.not_mem_nil, or_false] at hp
  rcases hp with rfl | rfl | rfl | rfl | rfl | rfl | rfl | rfl | rfl | rfl | rfl | rfl | rfl <;> rfl
theorem fact_cells : Tryz.prog.cellsOf 36 = 13 := by kernel_rfl

/-- In the world w the fact's lists read, below H. -/
structure FAt (w : World) (H : Nat) (x : FV) : Prop where
  n : Row w H x.A (x.name.map sv)
  s : DsAt w H x.sA x.sp
  z : Row w H x.zA (x.zone.map sv)
  d : DataAt w H x.d x.soa
  ln : x.name.length ≤ x.c
  lz : x.zone.length ≤ x.zc
  ls : x.sp.length ≤ x.sc
  ks : x.sc ≤ maxLen
section
variable {w w' : World} {H H' : Nat} {x : FV}
theorem FAt.below (h : FAt w H x) (hb : Below H w w') : FAt w' H x := ⟨h.n.below hb, h.s.below hb, h.z.below hb, h.d.below hb, h.ln, h.lz, h.ls, h.ks⟩
theorem FAt.mono (h : FAt w H x) (hb : H ≤ H') : FAt w H' x := ⟨h.n.mono hb, h.s.mono hb, h.z.mono hb, h.d.mono hb, h.ln, h.lz, h.ls, h.ks⟩
end
/-- Facts, one behind the other. -/
def FsAt (w : World) (H : Nat) (A : Option Addr) (xs : List FV) : Prop := Row w H A (xs.flatMap cellsF) ∧ ∀ x ∈ xs, FAt w H x
def facts (xs : List FV) : List Fc := xs.map FV.fact
theorem FsAt.below {w w' : World} {H : Nat} {A : Option Addr} {xs : List FV} (h : FsAt w H A xs) (hb : Below H w w') : FsAt w' H A xs := ⟨h.1.below hb, fun p hp => (h.2 p hp).below hb⟩
theorem FsAt.mono {w : World} {H H' : Nat} {A : Option Addr} {xs : List FV} (h : FsAt w H A xs) (hb : H ≤ H') : FsAt w H' A xs := ⟨h.1.mono hb, fun p hp => (h.2 p hp).mono hb⟩
/-- The cells of the fact number i of a list. -/
theorem FsAt.at_ {w : World} {H : Nat} {A : Option Addr} {xs : List FV} (h : FsAt w H A xs) {i : Nat} (hi : i < xs.length) :
    ∃ b off, A = some ⟨b, off, none⟩ ∧ b < H ∧ FAt w H xs[i] ∧ ∀ j v, (cellsF xs[i])[j]? = some v → w.cell? ⟨b, off + i * 13 + j, none⟩ = some v := by
  obtain ⟨b, off, e, hb, hc⟩ := h.1.part cellsF_len (by omega) hi
  exact ⟨b, off, e, hb, h.2 _ (List.getElem_mem hi), hc⟩

/-- Data whose lengths memory holds, and whose numbers a variable holds. -/
structure DatIn (d : Dt) : Prop where
  w : Wide d
  t : ∀ k (h : k < d.texts.length), (d.texts[k]).length ≤ maxLen
  n : ∀ n ∈ d.nums, (Lit.int .i64 n).wf = true
theorem DatIn.ref {d : Dt} (h : DatIn d) : RefIn d := ⟨h.w.h, h.w.m, h.w.t, h.t, fun n hn => by
  have h1 : IntKind.i64.max = 9223372036854775807 := rfl
  have h2 := h.n n hn
  simp only [Lit.wf, Bool.and_eq_true, decide_eq_true_eq] at h2
  omega⟩
theorem RIn.dat {r : Rt} (h : RIn r) : DatIn r.data := ⟨h.d, h.lt, h.nm⟩
structure FhIn (h : Fh) : Prop where
  t : (Lit.int .i64 h.typ).wf = true
  k : (Lit.int .i64 h.knd).wf = true
  r : (Lit.int .i64 h.rank).wf = true
  g : (Lit.int .i64 h.got).wf = true
  l : (Lit.int .i64 h.ttl).wf = true
/-- A fact whose lengths memory holds. -/
structure FIn (x : FV) : Prop where
  h : FhIn x.h
  n : WideN x.name
  z : WideN x.zone
  s : ∀ p ∈ x.sp, DatIn p.2
  d : DatIn x.soa

end Go.Proofs.YtmbcbfalgdgmjaaGreatDoor

namespace Go.Proofs.YtmbcbfalgdgmjaaGreatDoor
open Go.RowKit

set_option maxHeartbeats 400000 in
theorem time_any (t : Int) (w : World) : Calls Tryz.prog 32 #[.int .i64 t] w (Told w (.bool (timeB t))) := by
  by_cases h1 : t < 0
  · have hd : decide (0 ≤ t) = false := by simp; omega
    have HF := Lib.hid (timeB_neg h1)
    go_enter Tryz.func32, Tryz.ntmps32
    go_wp2
    go_ret
    exact ⟨by rw [HF.out]; rfl, rfl⟩
  · have hd : decide (0 ≤ t) = true := by simp; omega
    by_cases h2 : 36028797018963968 < t
    · have hd2 : decide (t ≤ 36028797018963968) = false := by simp; omega
      have HF := Lib.hid (timeB_big h2)
      go_enter Tryz.func32, Tryz.ntmps32
      go_wp2
      go_ret
      exact ⟨by rw [HF.out]; rfl, rfl⟩
    · have hd2 : decide (t ≤ 36028797018963968) = true := by simp; omega
      have HF := Lib.hid (timeB_true (t := t) (by omega) (by omega))
      go_enter Tryz.func32, Tryz.ntmps32
      go_wp2
      go_ret
      exact ⟨by rw [HF.out]; rfl, rfl⟩

end Go.Proofs.YtmbcbfalgdgmjaaGreatDoor

namespace Go.Proofs.YtmbcbfalgdgmjaaGreatDoor
open Go.RowKit

set_option maxHeartbeats 400000 in
theorem isNaN_any (x : Int) (w : World) : Calls Tryz.prog 91 #[.int .i64 x] w (Told w (.bool false)) := by
  have h : (x != x) = false := by simp
  go_enter Tryz.func91, Tryz.ntmps91
  go_wp2
  go_ret
  exact ⟨rfl, rfl⟩

set_option maxHeartbeats 400000 in
theorem compareInt_any (x y : Int) (w : World) : Calls Tryz.prog 67 #[.int .i64 x, .int .i64 y] w (Told w (.int .i64 (Lib.compareInt x y))) := by
  by_cases h1 : x < y
  · have d1 : decide (x < y) = true := by simp; omega
    have HF := Lib.hid (show Lib.compareInt x y = -1 by unfold Lib.compareInt; rw [if_pos h1])
    clear h1
    go_enter Tryz.func67, Tryz.ntmps67
    go_wp2_with (go_at_call 91; refine (isNaN_any _ _).mono ?_; rintro e w' ⟨rfl, rfl⟩)
    go_ret
    exact ⟨ret_int HF.out.symm, rfl⟩
  · by_cases h2 : y < x
    · have d1 : decide (x < y) = false := by simp; omega
      have d2 : decide (y < x) = true := by simp; omega
      have HF := Lib.hid (show Lib.compareInt x y = 1 by unfold Lib.compareInt; rw [if_neg h1, if_pos h2])
      clear h1 h2
      go_enter Tryz.func67, Tryz.ntmps67
      go_wp2_with (go_at_call 91; refine (isNaN_any _ _).mono ?_; rintro e w' ⟨rfl, rfl⟩)
      go_ret
      exact ⟨ret_int HF.out.symm, rfl⟩
    · have d1 : decide (x < y) = false := by simp; omega
      have d2 : decide (y < x) = false := by simp; omega
      have HF := Lib.hid (show Lib.compareInt x y = 0 by unfold Lib.compareInt; rw [if_neg h1, if_neg h2])
      clear h1 h2
      go_enter Tryz.func67, Tryz.ntmps67
      go_wp2_with (go_at_call 91; refine (isNaN_any _ _).mono ?_; rintro e w' ⟨rfl, rfl⟩)
      go_ret
      exact ⟨ret_int HF.out.symm, rfl⟩

def LastRel (w : World) (M : Nat) (a b : List (List UInt8)) (i : Value) (wr : World) : Prop :=
  ∃ k : Nat, k ≤ M ∧ i = .int .i64 k ∧ (keyN a).take k = (keyN b).take k ∧ Below w.heap.size w wr

theorem key_snoc {a b : List (List UInt8)} {k : Nat} (h : (keyN a).take k = (keyN b).take k) (ha : k < a.length) (hb : k < b.length) (e : cmpB (lowL (a[a.length - 1 - k]'(by omega))) (lowL (b[b.length - 1 - k]'(by omega))) = 0) :
    (keyN a).take (k + 1) = (keyN b).take (k + 1) := by
  rw [List.take_succ_eq_append_getElem (by rw [length_keyN]; exact ha), List.take_succ_eq_append_getElem (by rw [length_keyN]; exact hb), h, keyN_at ha, keyN_at hb, cmpB_tot.eq_ _ _ e]
theorem key_part {a b : List (List UInt8)} {k : Nat} (h : (keyN a).take k = (keyN b).take k) (ha : k < a.length) (hb : k < b.length) (e : cmpB (lowL (a[a.length - 1 - k]'(by omega))) (lowL (b[b.length - 1 - k]'(by omega))) ≠ 0) :
    cmpN a b = cmpB (lowL (a[a.length - 1 - k]'(by omega))) (lowL (b[b.length - 1 - k]'(by omega))) := by
  unfold cmpN
  rw [lexC_at cmpB_tot h (by rw [length_keyN]; exact ha) (by rw [length_keyN]; exact hb) (by rw [keyN_at ha, keyN_at hb]; exact e), keyN_at ha, keyN_at hb]
theorem key_end {a b : List (List UInt8)} {k : Nat} (h : (keyN a).take k = (keyN b).take k) (hk : k = min a.length b.length) : cmpN a b = Lib.compareInt a.length b.length := by
  unfold cmpN
  rw [lexC_end cmpB_tot h (by rw [length_keyN, length_keyN]; exact hk), length_keyN, length_keyN]










































































































































































































end Go.Proofs.YtmbcbfalgdgmjaaGreatDoor

namespace Go.Proofs.YtmbcbfalgdgmjaaGreatDoor
open Go.RowKit

theorem szN_drop_le (n : List (List UInt8)) (k : Nat) : szN (n.drop k) ≤ szN n := by
  induction n generalizing k with
  | nil => simp
  | cons x n ih =>
    cases k with
    | zero => simp
    | succ k => simp only [List.drop_succ_cons, szN]; have := ih k; omega

set_option maxHeartbeats 400000 in
theorem under_short (A B : Option Addr) (c1 c2 : Nat) (n z : List (List UInt8)) (w : World) (hl : n.length < z.length) :
    Calls Tryz.prog 40 #[.slice A n.length c1, .slice B z.length c2] w (Gave w (.bool (underN n z))) := by
  have HF := Lib.hid (show underN n z = false by unfold underN; rw [decide_eq_false (by omega)]; rfl)
  have d1 : decide (z.length ≤ n.length) = false := by simp; omega
  go_enter Tryz.func40, Tryz.ntmps40
  go_wp2
  go_ret
  exact ⟨ret_bool HF.out.symm, Below.refl _ _⟩

set_option maxHeartbeats 400000 in
theorem under_long (A B : Option Addr) (c1 c2 : Nat) (n z : List (List UInt8)) (w : World) (hA : Row w w.heap.size A (n.map sv)) (hB : Row w w.heap.size B (z.map sv)) (hs1 : szN n ≤ maxLen) (hs2 : szN z ≤ maxLen) (hl : z.length ≤ n.length) (hc : n.length ≤ c1) (hz : 0 < z.length) :
    Calls Tryz.prog 40 #[.slice A n.length c1, .slice B z.length c2] w (Gave w (.bool (underN n z))) := by
  have HF := Lib.hid (show underN n z = eqN (n.drop (n.length - z.length)) z by unfold underN; rw [decide_eq_true hl]; rfl)
  have hn1 := length_lt_szN n
  have hn2 := length_lt_szN z
  have d1 : decide (z.length ≤ n.length) = true := by simp; omega
  obtain ⟨b, off, rfl, _, _⟩ := hA.some_ (by rw [List.length_map]; omega)
  have hd := hA.drop (k := n.length - z.length) rfl
  rw [← List.map_drop] at hd
  have HD := Lib.hid hd
  have HB := Lib.hid hB
  have hsd : szN (n.drop (n.length - z.length)) ≤ maxLen := Nat.le_trans (szN_drop_le _ _) hs1
  unfold maxLen at hs1
  clear hA hB hd
  go_enter Tryz.func40, Tryz.ntmps40
  go_wp2_with fail
  refine (equal_any _ _ _ _ _ _ _ _ _ _ (by rw [List.length_drop]) rfl HD.out HB.out (Nat.le_refl _) hsd hs2).mono ?_
  rintro e w1 ⟨rfl, hb1⟩
  have HB1 := Lib.hid hb1
  clear hb1
  go_wp2
  go_ret
  exact ⟨ret_bool HF.out.symm, HB1.out⟩

set_option maxHeartbeats 400000 in
theorem under_root (A B : Option Addr) (c1 c2 : Nat) (n : List (List UInt8)) (w : World) (hA : Row w w.heap.size A (n.map sv)) (hs1 : szN n ≤ maxLen) (hc : n.length ≤ c1) :
    Calls Tryz.prog 40 #[.slice A n.length c1, .slice B 0 c2] w (Gave w (.bool (underN n []))) := by
  have HF := Lib.hid (show underN n [] = eqN [] [] by simp [underN, eqN, lowN])
  have hn1 := length_lt_szN n
  have HC := Lib.hid (fun A' B' m1 c1' c2' w' (h : 0 = m1) => equal_any A' B' m1 0 c1' c2' 0 [] [] w' h rfl (Row.empty _ _ _) (Row.empty _ _ _) (Nat.zero_le _) (by simp [szN, maxLen]) (by simp [szN, maxLen]))
  generalize eqN [] [] = r at HC HF
  unfold maxLen at hs1
  by_cases hn : n = []
  · subst hn
    clear hA
    go_enter Tryz.func40, Tryz.ntmps40
    go_wp2_with fail
    all_goals
      refine (HC.out _ _ _ _ _ _ (by simp)).mono ?_
      rintro e w1 ⟨rfl, hb1⟩
      have HB1 := Lib.hid hb1
      clear hb1
      go_wp2
      go_ret
      exact ⟨ret_bool HF.out.symm, HB1.out⟩
  · have hnl : 0 < n.length := by
      rcases n with _ | ⟨x, n⟩
      · exact absurd rfl hn
      · simp
    obtain ⟨b, off, rfl, _, _⟩ := hA.some_ (by rw [List.length_map]; exact hnl)
    clear hA hn
    by_cases hcc : c1 = n.length
    · subst hcc
      go_enter Tryz.func40, Tryz.ntmps40
      go_wp2_with fail
      refine (HC.out _ _ _ _ _ _ (by omega)).mono ?_
      rintro e w1 ⟨rfl, hb1⟩
      have HB1 := Lib.hid hb1
      clear hb1
      go_wp2
      go_ret
      exact ⟨ret_bool HF.out.symm, HB1.out⟩
    · have hlt : n.length < c1 := by omega
      clear hcc
      go_enter Tryz.func40, Tryz.ntmps40
      go_wp2_with fail
      refine (HC.out _ _ _ _ _ _ (by omega)).mono ?_
      rintro e w1 ⟨rfl, hb1⟩
      have HB1 := Lib.hid hb1
      clear hb1
      go_wp2
      go_ret
      exact ⟨ret_bool HF.out.symm, HB1.out⟩

theorem under_any (A B : Option Addr) (m1 m2 c1 c2 H : Nat) (n z : List (List UInt8)) (w : World) (hl1 : n.length = m1) (hl2 : z.length = m2) (hA : Row w H A (n.map sv)) (hB : Row w H B (z.map sv)) (hH : H ≤ w.heap.size)
    (hs1 : szN n ≤ maxLen) (hs2 : szN z ≤ maxLen) (hc : m1 ≤ c1) :
    Calls Tryz.prog 40 #[.slice A m1 c1, .slice B m2 c2] w (Gave w (.bool (underN n z))) := by
  subst hl1
  subst hl2
  by_cases hl : z.length ≤ n.length
  · by_cases hz : z = []
    · subst hz
      exact under_root A B c1 c2 n w (hA.mono hH) hs1 hc
    · exact under_long A B c1 c2 n z w (hA.mono hH) (hB.mono hH) hs1 hs2 hl hc (by
        rcases z with _ | ⟨x, z⟩
        · exact absurd rfl hz
        · simp)
  · exact under_short A B c1 c2 n z w (by omega)

end Go.Proofs.YtmbcbfalgdgmjaaGreatDoor

namespace Go.Proofs.YtmbcbfalgdgmjaaGreatDoor
open Go.RowKit

set_option maxHeartbeats 400000 in
theorem ref_under_short (A B : Option Addr) (c1 c2 : Nat) (n z : List (List UInt8)) (w : World) (hs1 : szN n ≤ maxLen) (hs2 : szN z ≤ maxLen) (hl : n.length < z.length) :
    Calls Tryz.prog 18 #[.slice A n.length c1, .slice B z.length c2] w (Gave w (.bool (underN n z))) := by
  have HF := Lib.hid (show underN n z = false by unfold underN; rw [decide_eq_false (by omega)]; rfl)
  have hn1 := length_lt_szN n
  have hn2 := length_lt_szN z
  unfold maxLen at hs1 hs2
  go_enter Tryz.func18, Tryz.ntmps18
  go_wp2
  go_ret
  exact ⟨ret_bool HF.out.symm, Below.refl _ _⟩

set_option maxHeartbeats 400000 in
theorem ref_under_long (A B : Option Addr) (c1 c2 : Nat) (n z : List (List UInt8)) (w : World) (hA : Row w w.heap.size A (n.map sv)) (hB : Row w w.heap.size B (z.map sv)) (hs1 : szN n ≤ maxLen) (hs2 : szN z ≤ maxLen) (hl : z.length ≤ n.length) (hc : n.length ≤ c1) (hz : 0 < z.length) :
    Calls Tryz.prog 18 #[.slice A n.length c1, .slice B z.length c2] w (Gave w (.bool (underN n z))) := by
  have HF := Lib.hid (show underN n z = eqN (n.drop (n.length - z.length)) z by unfold underN; rw [decide_eq_true hl]; rfl)
  have hn1 := length_lt_szN n
  have hn2 := length_lt_szN z
  have d1 : decide (z.length ≤ n.length) = true := by simp; omega
  obtain ⟨b, off, rfl, _, _⟩ := hA.some_ (by rw [List.length_map]; omega)
  have hd := hA.drop (k := n.length - z.length) rfl
  rw [← List.map_drop] at hd
  have HD := Lib.hid hd
  have HB := Lib.hid hB
  have hsd : szN (n.drop (n.length - z.length)) ≤ maxLen := Nat.le_trans (szN_drop_le _ _) hs1
  unfold maxLen at hs1
  clear hA hB hd
  go_enter Tryz.func18, Tryz.ntmps18
  go_wp2_with fail
  refine (ref_equal_any _ _ _ _ _ _ _ _ _ _ (by rw [List.length_drop]) rfl HD.out HB.out (Nat.le_refl _) hsd hs2).mono ?_
  rintro e w1 ⟨rfl, hb1⟩
  have HB1 := Lib.hid hb1
  clear hb1
  go_wp2
  go_ret
  exact ⟨ret_bool HF.out.symm, HB1.out⟩

set_option maxHeartbeats 400000 in
theorem ref_under_root (A B : Option Addr) (c1 c2 : Nat) (n : List (List UInt8)) (w : World) (hA : Row w w.heap.size A (n.map sv)) (hs1 : szN n ≤ maxLen) (hc : n.length ≤ c1) :
    Calls Tryz.prog 18 #[.slice A n.length c1, .slice B 0 c2] w (Gave w (.bool (underN n []))) := by
  have HF := Lib.hid (show underN n [] = eqN [] [] by simp [underN, eqN, lowN])
  have hn1 := length_lt_szN n
  have HC := Lib.hid (fun A' B' m1 c1' c2' w' (h : 0 = m1) => ref_equal_any A' B' m1 0 c1' c2' 0 [] [] w' h rfl (Row.empty _ _ _) (Row.empty _ _ _) (Nat.zero_le _) (by simp [szN, maxLen]) (by simp [szN, maxLen]))
  generalize eqN [] [] = r at HC HF
  unfold maxLen at hs1
  by_cases hn : n = []
  · subst hn
    clear hA
    go_enter Tryz.func18, Tryz.ntmps18
    go_wp2_with fail
    all_goals
      refine (HC.out _ _ _ _ _ _ (by simp)).mono ?_
      rintro e w1 ⟨rfl, hb1⟩
      have HB1 := Lib.hid hb1
      clear hb1
      go_wp2
      go_ret
      exact ⟨ret_bool HF.out.symm, HB1.out⟩
  · have hnl : 0 < n.length := by
      rcases n with _ | ⟨x, n⟩
      · exact absurd rfl hn
      · simp
    obtain ⟨b, off, rfl, _, _⟩ := hA.some_ (by rw [List.length_map]; exact hnl)
    clear hA hn
    by_cases hcc : c1 = n.length
    · subst hcc
      go_enter Tryz.func18, Tryz.ntmps18
      go_wp2_with fail
      refine (HC.out _ _ _ _ _ _ (by omega)).mono ?_
      rintro e w1 ⟨rfl, hb1⟩
      have HB1 := Lib.hid hb1
      clear hb1
      go_wp2
      go_ret
      exact ⟨ret_bool HF.out.symm, HB1.out⟩
    · have hlt : n.length < c1 := by omega
      clear hcc
      go_enter Tryz.func18, Tryz.ntmps18
      go_wp2_with fail
      refine (HC.out _ _ _ _ _ _ (by omega)).mono ?_
      rintro e w1 ⟨rfl, hb1⟩
      have HB1 := Lib.hid hb1
      clear hb1
      go_wp2
      go_ret
      exact ⟨ret_bool HF.out.symm, HB1.out⟩

theorem ref_under_any (A B : Option Addr) (m1 m2 c1 c2 H : Nat) (n z : List (List UInt8)) (w : World) (hl1 : n.length = m1) (hl2 : z.length = m2) (hA : Row w H A (n.map sv)) (hB : Row w H B (z.map sv)) (hH : H ≤ w.heap.size)
    (hs1 : szN n ≤ maxLen) (hs2 : szN z ≤ maxLen) (hc : m1 ≤ c1) :
    Calls Tryz.prog 18 #[.slice A m1 c1, .slice B m2 c2] w (Gave w (.bool (underN n z))) := by
  subst hl1
  subst hl2
  by_cases hl : z.length ≤ n.length
  · by_cases hz : z = []
    · subst hz
      exact ref_under_root A B c1 c2 n w (hA.mono hH) hs1 hc
    · exact ref_under_long A B c1 c2 n z w (hA.mono hH) (hB.mono hH) hs1 hs2 hl hc (by
        rcases z with _ | ⟨x, z⟩
        · exact absurd rfl hz
        · simp)
  · exact ref_under_short A B c1 c2 n z w hs1 hs2 (by omega)

end Go.Proofs.YtmbcbfalgdgmjaaGreatDoor

namespace Go.Proofs.YtmbcbfalgdgmjaaGreatDoor
open Go.RowKit

theorem typedB_low {k : Int} (h : k < 1) : typedB k = false := by unfold typedB; rw [decide_eq_false (by omega)]; rfl
theorem typedB_high {k : Int} (h : 65534 < k) : typedB k = false := by unfold typedB; rw [decide_eq_false (show ¬ k ≤ 65534 by omega)]; simp
theorem typedB_41 : typedB 41 = false := by decide +kernel
theorem typedB_255 : typedB 255 = false := by decide +kernel
theorem typedB_yes {k : Int} (h1 : 1 ≤ k) (h2 : k ≤ 65534) (h3 : k ≠ 41) (h4 : k ≠ 255) : typedB k = true := by simp [typedB, h1, h2, h3, h4]

set_option maxHeartbeats 400000 in
theorem typed_any (k : Int) (w : World) : Calls Tryz.prog 41 #[.int .i64 k] w (Told w (.bool (typedB k))) := by
  by_cases h1 : k < 1
  · have d1 : decide (1 ≤ k) = false := decide_eq_false (by omega)
    have HF := Lib.hid (typedB_low h1)
    go_enter Tryz.func41, Tryz.ntmps41
    go_wp2
    go_ret
    exact ⟨by rw [HF.out]; rfl, rfl⟩
  · have d1 : decide (1 ≤ k) = true := decide_eq_true (by omega)
    by_cases h2 : 65534 < k
    · have d2 : decide (k ≤ 65534) = false := decide_eq_false (by omega)
      have HF := Lib.hid (typedB_high h2)
      go_enter Tryz.func41, Tryz.ntmps41
      go_wp2
      go_ret
      exact ⟨by rw [HF.out]; rfl, rfl⟩
    · have d2 : decide (k ≤ 65534) = true := decide_eq_true (by omega)
      by_cases h3 : k = 41
      · subst h3
        have HF := Lib.hid typedB_41
        go_enter Tryz.func41, Tryz.ntmps41
        go_wp2
        go_ret
        exact ⟨by rw [HF.out]; rfl, rfl⟩
      · by_cases h4 : k = 255
        · subst h4
          have HF := Lib.hid typedB_255
          go_enter Tryz.func41, Tryz.ntmps41
          go_wp2
          go_ret
          exact ⟨by rw [HF.out]; rfl, rfl⟩
        · have HF := Lib.hid (typedB_yes (k := k) (by omega) (by omega) h3 h4)
          have b3 : (k != 41) = true := by rw [bne_iff_ne]; exact h3
          have b4 : (k != 255) = true := by rw [bne_iff_ne]; exact h4
          clear h3 h4
          go_enter Tryz.func41, Tryz.ntmps41
          go_wp2
          go_ret
          exact ⟨by rw [HF.out]; rfl, rfl⟩

set_option maxRecDepth 20000 in
set_option maxHeartbeats 4000000 in
theorem fsound_head_no (w : World) (x : FV) (hx : FAt w w.heap.size x) (hi : FIn x) (hh : headB x.name x.h = false) : Calls Tryz.prog 20 #[x.val] w (Gave w (.bool false)) := by
  obtain ⟨W, hW⟩ : ∃ W, W = w.alloc (.cells #[.slice x.A x.name.length x.c, .int .i64 x.h.typ, .int .i64 x.h.knd, .int .i64 x.h.rank, .int .i64 x.h.got, .int .i64 x.h.ttl, .slice x.sA x.sp.length x.sc, .slice x.zA x.zone.length x.zc, .slice x.d.Ab x.soa.bytes.length x.d.cb, .slice x.d.Ah x.soa.host.length x.d.ch, .slice x.d.Am x.soa.mail.length x.d.cm, .slice x.d.An x.soa.nums.length x.d.cn, .slice x.d.At x.soa.texts.length x.d.ct] 36) := ⟨_, rfl⟩
  have hB : Below w.heap.size w W := by rw [hW]; exact (Below.refl _ _).alloc (Nat.le_refl _) _
  have HB := Lib.hid hB
  have HN := Lib.hid (fun W' (hb : Below w.heap.size w W') => ref_sound_wide x.A x.c w.heap.size x.name W' (hx.n.below hb) hi.n.1 hi.n.2)
  have HT := Lib.hid (fun W' => time_any x.h.got W')
  have HX := Lib.hid hx
  have HI := Lib.hid hi
  have HH := Lib.hid (show headB x.name x.h = (soundN x.name && (decide (1 ≤ x.h.rank) && (decide (x.h.rank ≤ 4) && (timeB x.h.got && (decide (0 ≤ x.h.ttl) && decide (x.h.ttl ≤ 604800)))))) from rfl)
  have HHH := Lib.hid hh
  clear hx hi hh hB
  subst hW
  cases hn : soundN x.name with
  | false =>
    rw [hn] at HN
    go_enter Tryz.func20, Tryz.ntmps20
    go_wp2_with (first
      | (go_at_call 24; refine (HN.out _ HB.out).mono ?_; rintro e w1 ⟨rfl, rfl⟩)
      | (go_at_call 32; refine (HT.out _).mono ?_; rintro e w1 ⟨rfl, rfl⟩))
    go_ret
    exact ⟨rfl, HB.out⟩
  | true =>
  rw [hn] at HN HH
  by_cases h1 : x.h.rank < 1
  · have d1 : decide (x.h.rank < 1) = true := decide_eq_true h1
    go_enter Tryz.func20, Tryz.ntmps20
    go_wp2_with (first
      | (go_at_call 24; refine (HN.out _ HB.out).mono ?_; rintro e w1 ⟨rfl, rfl⟩)
      | (go_at_call 32; refine (HT.out _).mono ?_; rintro e w1 ⟨rfl, rfl⟩))
    go_ret
    exact ⟨rfl, HB.out⟩
  have d1 : decide (x.h.rank < 1) = false := decide_eq_false h1
  by_cases h2 : 4 < x.h.rank
  · have d2 : decide (4 < x.h.rank) = true := decide_eq_true h2
    go_enter Tryz.func20, Tryz.ntmps20
    go_wp2_with (first
      | (go_at_call 24; refine (HN.out _ HB.out).mono ?_; rintro e w1 ⟨rfl, rfl⟩)
      | (go_at_call 32; refine (HT.out _).mono ?_; rintro e w1 ⟨rfl, rfl⟩))
    go_ret
    exact ⟨rfl, HB.out⟩
  have d2 : decide (4 < x.h.rank) = false := decide_eq_false h2
  cases ht : timeB x.h.got with
  | false =>
    rw [ht] at HT
    go_enter Tryz.func20, Tryz.ntmps20
    go_wp2_with (first
      | (go_at_call 24; refine (HN.out _ HB.out).mono ?_; rintro e w1 ⟨rfl, rfl⟩)
      | (go_at_call 32; refine (HT.out _).mono ?_; rintro e w1 ⟨rfl, rfl⟩))
    go_ret
    exact ⟨rfl, HB.out⟩
  | true =>
  rw [ht] at HT HH
  by_cases h3 : x.h.ttl < 0
  · have d3 : decide (x.h.ttl < 0) = true := decide_eq_true h3
    go_enter Tryz.func20, Tryz.ntmps20
    go_wp2_with (first
      | (go_at_call 24; refine (HN.out _ HB.out).mono ?_; rintro e w1 ⟨rfl, rfl⟩)
      | (go_at_call 32; refine (HT.out _).mono ?_; rintro e w1 ⟨rfl, rfl⟩))
    go_ret
    exact ⟨rfl, HB.out⟩
  have d3 : decide (x.h.ttl < 0) = false := decide_eq_false h3
  have h4 : 604800 < x.h.ttl := by
    have h := HHH.out
    rw [HH.out, decide_eq_true (show 1 ≤ x.h.rank by omega), decide_eq_true (show x.h.rank ≤ 4 by omega), decide_eq_true (show 0 ≤ x.h.ttl by omega)] at h
    simpa using h
  have d4 : decide (604800 < x.h.ttl) = true := decide_eq_true h4
  go_enter Tryz.func20, Tryz.ntmps20
  go_wp2_with (first
    | (go_at_call 24; refine (HN.out _ HB.out).mono ?_; rintro e w1 ⟨rfl, rfl⟩)
    | (go_at_call 32; refine (HT.out _).mono ?_; rintro e w1 ⟨rfl, rfl⟩))
  go_ret
  exact ⟨rfl, HB.out⟩

theorem headB_parts {n : List (List UInt8)} {h : Fh} (hh : headB n h = true) : soundN n = true ∧ 1 ≤ h.rank ∧ h.rank ≤ 4 ∧ timeB h.got = true ∧ 0 ≤ h.ttl ∧ h.ttl ≤ 604800 := by
  unfold headB at hh
  simpa only [Bool.and_eq_true, decide_eq_true_eq] using hh

set_option maxRecDepth 20000 in
set_option maxHeartbeats 4000000 in
theorem fsound_other (w : World) (x : FV) (hx : FAt w w.heap.size x) (hi : FIn x) (hh : headB x.name x.h = true) (k1 : x.h.knd ≠ 1) (k2 : x.h.knd ≠ 2) (k3 : x.h.knd ≠ 3) : Calls Tryz.prog 20 #[x.val] w (Gave w (.bool false)) := by
  obtain ⟨W, hW⟩ : ∃ W, W = w.alloc (.cells #[.slice x.A x.name.length x.c, .int .i64 x.h.typ, .int .i64 x.h.knd, .int .i64 x.h.rank, .int .i64 x.h.got, .int .i64 x.h.ttl, .slice x.sA x.sp.length x.sc, .slice x.zA x.zone.length x.zc, .slice x.d.Ab x.soa.bytes.length x.d.cb, .slice x.d.Ah x.soa.host.length x.d.ch, .slice x.d.Am x.soa.mail.length x.d.cm, .slice x.d.An x.soa.nums.length x.d.cn, .slice x.d.At x.soa.texts.length x.d.ct] 36) := ⟨_, rfl⟩
  have hB : Below w.heap.size w W := by rw [hW]; exact (Below.refl _ _).alloc (Nat.le_refl _) _
  have HB := Lib.hid hB
  have HN := Lib.hid (fun W' (hb : Below w.heap.size w W') => ref_sound_wide x.A x.c w.heap.size x.name W' (hx.n.below hb) hi.n.1 hi.n.2)
  have HT := Lib.hid (fun W' => time_any x.h.got W')
  have HX := Lib.hid hx
  have HI := Lib.hid hi
  have HHP := Lib.hid (headB_parts hh)
  clear hx hi hh hB
  subst hW
  obtain ⟨hn, h1, h2, ht, h3, h4⟩ := HHP.out
  rw [hn] at HN
  rw [ht] at HT
  have d1 : decide (x.h.rank < 1) = false := decide_eq_false (by omega)
  have d2 : decide (4 < x.h.rank) = false := decide_eq_false (by omega)
  have d3 : decide (x.h.ttl < 0) = false := decide_eq_false (by omega)
  have d4 : decide (604800 < x.h.ttl) = false := decide_eq_false (by omega)
  clear hn ht h1 h2 h3 h4 HHP
  have b1 : (x.h.knd == 1) = false := beq_eq_false_iff_ne.2 k1
  have b2 : (x.h.knd == 2) = false := beq_eq_false_iff_ne.2 k2
  have b3 : (x.h.knd == 3) = false := beq_eq_false_iff_ne.2 k3
  clear k1 k2 k3
  go_enter Tryz.func20, Tryz.ntmps20
  go_wp2_with (first
    | (go_at_call 24; refine (HN.out _ HB.out).mono ?_; rintro e w1 ⟨rfl, rfl⟩)
    | (go_at_call 32; refine (HT.out _).mono ?_; rintro e w1 ⟨rfl, rfl⟩))
  go_ret
  exact ⟨rfl, (HB.out.alloc (by simp) _)⟩

end Go.Proofs.YtmbcbfalgdgmjaaGreatDoor
