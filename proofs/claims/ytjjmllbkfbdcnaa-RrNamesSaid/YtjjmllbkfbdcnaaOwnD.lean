/-
  The contract of the document's OwnData.
-/
import Derived.Test.YtjjmllbkfbdcnaaData
import Derived.Test.YtjjmllbkfbdcnaaFacts
namespace Go.Proofs.Ytjjmllbkfbdcnaa
open Go.RowKit

theorem step_build {a : Act} {w : World} {K : Act → World → Prop} {Q : Exit → Act → World → Prop} (o : Oper) (T e : TypeId) (i : TypeInfo) (ho : o.op = .buildSlice T 0 #[]) (hT : Try.prog.underlying T = some (.slice e)) (hi : Try.prog.info? e = some i)
    (h : K (a.put o.dst (.slice (some ⟨w.heap.size, 0, none⟩) 0 0)) (w.alloc (.cells #[] e))) : o.wp Try.prog a w K Q := by
  unfold Oper.wp
  simp [execOp, ho, go_sem, run_underlying hT, sizeOf, typeInfo, hi]
  exact h

theorem step_field {a : Act} {w : World} {K : Act → World → Prop} {Q : Exit → Act → World → Prop} (o : Oper) (j H : Nat) (hj : j < 5) (ho : o.op = .fieldAddr 26 (.tmp 1) j) (h1 : a.tmps[1]? = some (.pointer (some ⟨H, 0, none⟩)))
    (h : K (a.put o.dst (.pointer (some ⟨H, j, none⟩))) w) : o.wp Try.prog a w K Q := by
  unfold Oper.wp
  obtain rfl | rfl | rfl | rfl | rfl : j = 0 ∨ j = 1 ∨ j = 2 ∨ j = 3 ∨ j = 4 := by omega
  all_goals
    simp [execOp, ho, h1, go_sem]
    exact h

theorem step_load {a : Act} {w : World} {K : Act → World → Prop} {Q : Exit → Act → World → Prop} (o : Oper) (T e : TypeId) (k : Nat) (p : Addr) (v : Value) (ho : o.op = .load T (.tmp k)) (hT : Try.prog.underlying T = some (.slice e)) (h1 : a.tmps[k]? = some (.pointer (some p)))
    (hc : w.cell? p = some v) (h : K (a.put o.dst v) w) : o.wp Try.prog a w K Q := by
  unfold Oper.wp
  simp [execOp, ho, h1, go_sem, isAgg, run_underlying hT, hc]
  exact h

theorem step_append {a : Act} {w : World} {K : Act → World → Prop} {Q : Exit → Act → World → Prop} (o : Oper) (k1 k2 : Nat) (B : Nat) (t e : TypeId) (i : TypeInfo) (z : Value) (bytes : Nat) (ho : o.op = .call { callee := .builtin .append, args := #[.tmp k1, .tmp k2], argTypes := #[t, t] })
    (ht : Try.prog.underlying t = some (.slice e)) (hi : Try.prog.info? e = some i) (hz : i.zero = some z) (hsize : i.size = 1) (hby : i.bytes = bytes) (hzs : z.cells.size = 1) (v : Value)
    (h1 : a.tmps[k1]? = some v) (hv : ∃ g, v = .slice (some ⟨g, 0, none⟩) 0 0 ∧ B ≤ g ∧ w.heap[g]? = some (.cells #[] e (0, 0)))
    (A : Option Addr) (m c H : Nat) (news : List Value) (h2 : a.tmps[k2]? = some (.slice A m c)) (hl : news.length = m) (hr : Row w H A news) (hn1 : ∀ u ∈ news, u.oneCell' = true) (h63 : m ≤ maxLen) (hbytes : m * bytes ≤ 140737488355328) (hB : B ≤ w.heap.size)
    (h : ∀ v' w', w'.ownsRow B e 1 v' m news → Below w.heap.size w w' → (0 < m → v'.ownBlock = some w.heap.size) → K (a.put o.dst v') w') : o.wp Try.prog a w K Q := by
  obtain ⟨g, rfl, hg, hh⟩ := hv
  obtain ⟨v', w', hrun, h3, h4, h5⟩ := append_zero_run (P := Try.prog) w B t o.type e i z bytes ht hi hz hsize hby hzs g hg hh A m c H news hl hr hn1 h63 hbytes hB
  unfold Oper.wp
  simp [execOp, ho, resolve, invoke, builtin, Act.eval, h1, h2, hrun, Result.andThen]
  exact h v' w' h3 h4 h5

theorem step_store {a : Act} {w : World} {K : Act → World → Prop} {Q : Exit → Act → World → Prop} (o : Oper) (g : Nat) (y : DV) (d : Dt) (u0 u1 u2 u3 u4 : Value) (ho : o.op = .store 26 (.tmp 2) (.tmp 23)) (h2 : a.tmps[2]? = some (.pointer (some ⟨g, 0, none⟩)))
    (hu : a.tmps[23]? = some (y.val d)) (hw : Whole w g 26 [u0, u1, u2, u3, u4])
    (h : K (a.put o.dst undef) (((((w.setCell ⟨g, 0, none⟩ (y.vb d)).setCell ⟨g, 1, none⟩ (y.vh d)).setCell ⟨g, 2, none⟩ (y.vm d)).setCell ⟨g, 3, none⟩ (y.vn d)).setCell ⟨g, 4, none⟩ (y.vt d))) : o.wp Try.prog a w K Q := by
  have q0 : w.cell? ⟨g, 0, none⟩ = some u0 := hw.cell 0
  have q1 : w.cell? ⟨g, 1, none⟩ = some u1 := hw.cell 1
  have q2 : w.cell? ⟨g, 2, none⟩ = some u2 := hw.cell 2
  have q3 : w.cell? ⟨g, 3, none⟩ = some u3 := hw.cell 3
  have q4 : w.cell? ⟨g, 4, none⟩ = some u4 := hw.cell 4
  have z0 : w.frozen? ⟨g, 0, none⟩ = false := hw.frozen 0
  have z1 : w.frozen? ⟨g, 1, none⟩ = false := hw.frozen 1
  have z2 : w.frozen? ⟨g, 2, none⟩ = false := hw.frozen 2
  have z3 : w.frozen? ⟨g, 3, none⟩ = false := hw.frozen 3
  have z4 : w.frozen? ⟨g, 4, none⟩ = false := hw.frozen 4
  unfold Oper.wp
  simp [execOp, ho, go_sem, h2, hu, q0, q1, q2, q3, q4, z0, z1, z2, z3, z4]
  exact h

/-- What each operation of the region yields. -/
def factF (H B : Nat) (x : DV) (d : Dt) : Nat → Value → World → Prop
  | 0 => fun v w => ∃ g, v = .slice (some ⟨g, 0, none⟩) 0 0 ∧ B ≤ g ∧ w.heap[g]? = some (.cells #[] 5 (0, 0))
  | 1 => fun v _ => v = .pointer (some ⟨H, 0, none⟩)
  | 2 => fun v _ => v = .slice x.Ab d.bytes.length x.cb
  | 3 => fun v w => w.ownsRow B 5 1 v d.bytes.length (d.bytes.map bc)
  | 4 => fun v w => ∃ g, v = .slice (some ⟨g, 0, none⟩) 0 0 ∧ B ≤ g ∧ w.heap[g]? = some (.cells #[] 9 (0, 0))
  | 5 => fun v _ => v = .pointer (some ⟨H, 1, none⟩)
  | 6 => fun v _ => v = .slice x.Ah d.host.length x.ch
  | 7 => fun v w => w.ownsRow B 9 1 v d.host.length (d.host.map sv)
  | 8 => fun v w => ∃ g, v = .slice (some ⟨g, 0, none⟩) 0 0 ∧ B ≤ g ∧ w.heap[g]? = some (.cells #[] 9 (0, 0))
  | 9 => fun v _ => v = .pointer (some ⟨H, 2, none⟩)
  | 10 => fun v _ => v = .slice x.Am d.mail.length x.cm
  | 11 => fun v w => w.ownsRow B 9 1 v d.mail.length (d.mail.map sv)
  | 12 => fun v w => ∃ g, v = .slice (some ⟨g, 0, none⟩) 0 0 ∧ B ≤ g ∧ w.heap[g]? = some (.cells #[] 3 (0, 0))
  | 13 => fun v _ => v = .pointer (some ⟨H, 3, none⟩)
  | 14 => fun v _ => v = .slice x.An d.nums.length x.cn
  | 15 => fun v w => w.ownsRow B 3 1 v d.nums.length (d.nums.map zv)
  | 16 => fun v w => ∃ g, v = .slice (some ⟨g, 0, none⟩) 0 0 ∧ B ≤ g ∧ w.heap[g]? = some (.cells #[] 9 (0, 0))
  | 17 => fun v _ => v = .pointer (some ⟨H, 4, none⟩)
  | 18 => fun v _ => v = .slice x.At d.texts.length x.ct
  | 19 => fun v w => w.ownsRow B 9 1 v d.texts.length (d.texts.map sv)
  | 20 => fun v w => ∃ y : DV, v = y.val d ∧ OwnD w B y d ∧ Apart (y.vh d) (y.vm d) ∧ Apart (y.vh d) (y.vt d)
  | _ => fun _ _ => True
theorem heap_some_lt {w : World} {g : Nat} {o : Obj} (h : w.heap[g]? = some o) : g < w.heap.size := by
  rcases Nat.lt_or_ge g w.heap.size with h1 | h1
  · exact h1
  · rw [Array.getElem?_eq_none h1] at h; cases h
theorem factF_mono {H B : Nat} {x : DV} {d : Dt} {w w' : World} (hw : ∀ g, g < w.heap.size → w'.heap[g]? = w.heap[g]?) : ∀ j u, j < 21 → factF H B x d j u w → factF H B x d j u w'
  | 0, _, _, ⟨g, e, hg, hh⟩ => ⟨g, e, hg, (hw g (heap_some_lt hh)).trans hh⟩
  | 1, _, _, h => h
  | 2, _, _, h => h
  | 3, _, _, h => own_keep h fun g e => hw g (World.ownsRow.lt h g e).2
  | 4, _, _, ⟨g, e, hg, hh⟩ => ⟨g, e, hg, (hw g (heap_some_lt hh)).trans hh⟩
  | 5, _, _, h => h
  | 6, _, _, h => h
  | 7, _, _, h => own_keep h fun g e => hw g (World.ownsRow.lt h g e).2
  | 8, _, _, ⟨g, e, hg, hh⟩ => ⟨g, e, hg, (hw g (heap_some_lt hh)).trans hh⟩
  | 9, _, _, h => h
  | 10, _, _, h => h
  | 11, _, _, h => own_keep h fun g e => hw g (World.ownsRow.lt h g e).2
  | 12, _, _, ⟨g, e, hg, hh⟩ => ⟨g, e, hg, (hw g (heap_some_lt hh)).trans hh⟩
  | 13, _, _, h => h
  | 14, _, _, h => h
  | 15, _, _, h => own_keep h fun g e => hw g (World.ownsRow.lt h g e).2
  | 16, _, _, ⟨g, e, hg, hh⟩ => ⟨g, e, hg, (hw g (heap_some_lt hh)).trans hh⟩
  | 17, _, _, h => h
  | 18, _, _, h => h
  | 19, _, _, h => own_keep h fun g e => hw g (World.ownsRow.lt h g e).2
  | 20, _, _, ⟨y, e, h, h1, h2⟩ => ⟨y, e, h.keep hw, h1, h2⟩
  | n + 21, _, h, _ => absurd h (by omega)
def isApp (i : Nat) : Bool := decide (i % 4 = 3)
def ownAp (i j : Nat) (u v : Value) : Prop := isApp i = true → isApp j = true → Apart u v
theorem factF_lt {H B : Nat} {x : DV} {d : Dt} {w : World} : ∀ j u, j < 21 → isApp j = true → factF H B x d j u w → ∀ g, u.ownBlock = some g → g < w.heap.size
  | 0, _, _, h, _, _, _ => by cases h
  | 1, _, _, h, _, _, _ => by cases h
  | 2, _, _, h, _, _, _ => by cases h
  | 3, _, _, _, h, g, e => (World.ownsRow.lt h g e).2
  | 4, _, _, h, _, _, _ => by cases h
  | 5, _, _, h, _, _, _ => by cases h
  | 6, _, _, h, _, _, _ => by cases h
  | 7, _, _, _, h, g, e => (World.ownsRow.lt h g e).2
  | 8, _, _, h, _, _, _ => by cases h
  | 9, _, _, h, _, _, _ => by cases h
  | 10, _, _, h, _, _, _ => by cases h
  | 11, _, _, _, h, g, e => (World.ownsRow.lt h g e).2
  | 12, _, _, h, _, _, _ => by cases h
  | 13, _, _, h, _, _, _ => by cases h
  | 14, _, _, h, _, _, _ => by cases h
  | 15, _, _, _, h, g, e => (World.ownsRow.lt h g e).2
  | 16, _, _, h, _, _, _ => by cases h
  | 17, _, _, h, _, _, _ => by cases h
  | 18, _, _, h, _, _, _ => by cases h
  | 19, _, _, _, h, g, e => (World.ownsRow.lt h g e).2
  | 20, _, _, h, _, _, _ => by cases h
  | n + 21, _, h, _, _, _, _ => absurd h (by omega)

theorem Apart.symm {u v : Value} (h : Apart u v) : Apart v u := by
  intro g k n m c c' e1 e2 h1 h2 e
  exact h k g m n c' c e2 e1 h2 h1 e.symm
theorem apart_new {H B : Nat} {x : DV} {d : Dt} {w w' : World} {i m : Nat} {v : Value} {t : TypeId} {xs : List Value} (ho : w'.ownsRow B t 1 v m xs) (hn : 0 < m → v.ownBlock = some w.heap.size) :
    ∀ j u, j < 21 → factF H B x d j u w → ownAp i j v u ∧ ownAp j i u v := by
  intro j u hj hF
  have h : isApp j = true → Apart v u := fun hj2 g k n m2 c c' e1 e2 h1 h2 e => by
    have hk := factF_lt j u hj hj2 hF k (by rw [e2]; rfl)
    obtain ⟨A, c2, e3, _, _⟩ := own_form ho
    rw [e1] at e3
    injection e3 with _ e4 _
    have hb := hn (by omega)
    rw [e1] at hb
    simp only [Value.ownBlock, Option.some.injEq] at hb
    omega
  exact ⟨fun _ hj2 => h hj2, fun hj2 _ => (h hj2).symm⟩
theorem apart_not {i j : Nat} {v u : Value} (h : isApp i = false) : ownAp i j v u ∧ ownAp j i u v := ⟨fun h1 => (by rw [h] at h1; cases h1), fun _ h1 => (by rw [h] at h1; cases h1)⟩

structure OwnS (W : World) (B : Nat) (w : World) : Prop where
  below : Below B W w
  size : B ≤ w.heap.size
theorem OwnS.more {W w w' : World} {B : Nat} (h : OwnS W B w) (hb : Below w.heap.size w w') : OwnS W B w' := ⟨h.below.trans (hb.mono h.size), Nat.le_trans h.size hb.size⟩

/-- What the call leaves: data that shares nothing. -/
def Owns (w : World) (d : Dt) (e : Ending) (w' : World) : Prop :=
  ∃ y : DV, e = .returned (y.val d) ∧ OwnD w' w.heap.size y d ∧ Apart (y.vh d) (y.vm d) ∧ Apart (y.vh d) (y.vt d) ∧ Below w.heap.size w w'

/-- Few parts, whatever their lengths. -/
structure FewD (d : Dt) : Prop where
  nh : d.host.length ≤ 300
  nm : d.mail.length ≤ 300
  nt : d.texts.length ≤ 200
  nn : d.nums.length ≤ 200
  nb : d.bytes.length ≤ 70000
theorem LightD.few {d : Dt} (h : LightD d) : FewD d := ⟨h.nh, h.nm, h.nt, h.nn, h.nb⟩

set_option maxRecDepth 20000 in
set_option maxHeartbeats 1000000 in
theorem ownData_few (x : DV) (d : Dt) (w : World) (h : DataAt w w.heap.size x d) (hl : FewD d) :
    Calls Try.prog 16 #[x.val d] w (Owns w d) := by
  obtain ⟨iu, hiu, hzu, hsu, hbu⟩ := info_parts u8_info
  obtain ⟨is, his, hzs, hss, hbs⟩ := info_parts str_info
  obtain ⟨ii, hii, hzi, hsi, hbi⟩ := info_parts zint_info
  obtain ⟨hnh, hnm, hnt, hnn, hnb⟩ := hl
  go_enter Try.func16, Try.ntmps16
  go_wp2
  rename_i hret
  obtain ⟨W, hW⟩ : ∃ W, W = (w.alloc (.cells #[x.vb d, x.vh d, x.vm d, x.vn d, x.vt d] 26)).alloc (.cells #[.slice none 0 0, .slice none 0 0, .slice none 0 0, .slice none 0 0, .slice none 0 0] 26) := ⟨_, rfl⟩
  rw [← hW]
  have hw0 : Whole W w.heap.size 26 [x.vb d, x.vh d, x.vm d, x.vn d, x.vt d] := by
    rw [hW]
    exact (Whole.made w [x.vb d, x.vh d, x.vm d, x.vn d, x.vt d] _).alloc _
  have hw1 : Whole W (w.heap.size + 1) 26 [.slice none 0 0, .slice none 0 0, .slice none 0 0, .slice none 0 0, .slice none 0 0] := by
    rw [hW]
    have := Whole.made (w.alloc (.cells #[x.vb d, x.vh d, x.vm d, x.vn d, x.vt d] 26)) [.slice none 0 0, .slice none 0 0, .slice none 0 0, .slice none 0 0, .slice none 0 0] 26
    simpa using this
  have hbW : Below w.heap.size w W := by
    rw [hW]
    exact ((Below.refl _ _).alloc (Nat.le_refl _) _).alloc (by simp) _
  have hsW : W.heap.size = w.heap.size + 2 := by rw [hW]; simp
  have hdW : DataAt W w.heap.size x d := h.below hbW
  clear hW
  refine wp_region_facts 3 21 (OwnS W (w.heap.size + 2)) (factF w.heap.size (w.heap.size + 2) x d) ownAp (by kernel_rfl) rfl (by kernel_rfl) (by kernel_rfl) (by kernel_rfl) (by kernel_rfl) (by simp) (by kernel_rfl)
    ⟨(Below.refl _ W).drew, by simp [hsW]⟩ ?step ?tail
  case step =>
    intro i o hi ho l a v hF hdep K hK
    have hS := hF.S
    have h1 : a.tmps[1]? = some (.pointer (some ⟨w.heap.size, 0, none⟩)) := hF.low 1 (by omega)
    have hcell : ∀ k, v.cell? ⟨w.heap.size, k, none⟩ = [x.vb d, x.vh d, x.vm d, x.vn d, x.vt d][k]? := (hw0.below hS.below (by omega)).cell
    have hdv : DataAt v w.heap.size x d := hdW.below (hS.below.mono (by omega))
    have hal : ∀ o, Below v.heap.size v (v.alloc o) := fun o => (Below.refl _ v).alloc (Nat.le_refl _) o
    match i, hi, ho, hK with
    | 0, _, ho, hK =>
      obtain rfl := Option.some.inj ho
      exact step_build _ 22 5 iu rfl Try.underlying22 hiu (hK _ _ ⟨v.heap.size, rfl, hS.size, heap_alloc_new v _⟩ (hS.more (hal _)) (factF_mono fun g hg => (hal _).block g hg) fun _ _ _ _ => apart_not rfl)
    | 1, _, ho, hK =>
      obtain rfl := Option.some.inj ho
      exact step_field _ 0 w.heap.size (by omega) rfl h1 (hK _ _ rfl hS (fun _ _ _ h => h) fun _ _ _ _ => apart_not rfl)
    | 2, _, ho, hK =>
      obtain rfl := Option.some.inj ho
      obtain ⟨u, hu, hFu⟩ := hF.facts 1 (by omega) (hdep ⟨1, .data⟩ (by simp) rfl)
      obtain rfl : u = .pointer (some ⟨w.heap.size, 0, none⟩) := hFu
      exact step_load _ 22 5 4 ⟨w.heap.size, 0, none⟩ _ rfl Try.underlying22 hu (hcell 0) (hK _ _ rfl hS (fun _ _ _ h => h) fun _ _ _ _ => apart_not rfl)
    | 3, _, ho, hK =>
      obtain rfl := Option.some.inj ho
      obtain ⟨u, hu, hFu⟩ := hF.facts 0 (by omega) (hdep ⟨0, .data⟩ (by simp) rfl)
      obtain ⟨y, hy, hFy⟩ := hF.facts 2 (by omega) (hdep ⟨2, .data⟩ (by simp) rfl)
      obtain rfl : y = .slice x.Ab d.bytes.length x.cb := hFy
      exact step_append _ 3 5 (w.heap.size + 2) 22 5 iu _ 1 rfl Try.underlying22 hiu hzu hsu hbu rfl u hu hFu x.Ab d.bytes.length x.cb w.heap.size (d.bytes.map bc) hy (by simp) hdv.b (bc_one _)
        (by unfold maxLen; omega) (by omega) hS.size fun v' w' h1 h2 h3 => hK _ _ h1 (hS.more h2) (factF_mono fun g hg => h2.block g hg) (apart_new h1 h3)
    | 4, _, ho, hK =>
      obtain rfl := Option.some.inj ho
      exact step_build _ 23 9 is rfl Try.underlying23 his (hK _ _ ⟨v.heap.size, rfl, hS.size, heap_alloc_new v _⟩ (hS.more (hal _)) (factF_mono fun g hg => (hal _).block g hg) fun _ _ _ _ => apart_not rfl)
    | 5, _, ho, hK =>
      obtain rfl := Option.some.inj ho
      exact step_field _ 1 w.heap.size (by omega) rfl h1 (hK _ _ rfl hS (fun _ _ _ h => h) fun _ _ _ _ => apart_not rfl)
    | 6, _, ho, hK =>
      obtain rfl := Option.some.inj ho
      obtain ⟨u, hu, hFu⟩ := hF.facts 5 (by omega) (hdep ⟨5, .data⟩ (by simp) rfl)
      obtain rfl : u = .pointer (some ⟨w.heap.size, 1, none⟩) := hFu
      exact step_load _ 23 9 8 ⟨w.heap.size, 1, none⟩ _ rfl Try.underlying23 hu (hcell 1) (hK _ _ rfl hS (fun _ _ _ h => h) fun _ _ _ _ => apart_not rfl)
    | 7, _, ho, hK =>
      obtain rfl := Option.some.inj ho
      obtain ⟨u, hu, hFu⟩ := hF.facts 4 (by omega) (hdep ⟨4, .data⟩ (by simp) rfl)
      obtain ⟨y, hy, hFy⟩ := hF.facts 6 (by omega) (hdep ⟨6, .data⟩ (by simp) rfl)
      obtain rfl : y = .slice x.Ah d.host.length x.ch := hFy
      exact step_append _ 7 9 (w.heap.size + 2) 23 9 is _ 16 rfl Try.underlying23 his hzs hss hbs rfl u hu hFu x.Ah d.host.length x.ch w.heap.size (d.host.map sv) hy (by simp) hdv.h (sv_one _)
        (by unfold maxLen; omega) (by omega) hS.size fun v' w' h1 h2 h3 => hK _ _ h1 (hS.more h2) (factF_mono fun g hg => h2.block g hg) (apart_new h1 h3)
    | 8, _, ho, hK =>
      obtain rfl := Option.some.inj ho
      exact step_build _ 23 9 is rfl Try.underlying23 his (hK _ _ ⟨v.heap.size, rfl, hS.size, heap_alloc_new v _⟩ (hS.more (hal _)) (factF_mono fun g hg => (hal _).block g hg) fun _ _ _ _ => apart_not rfl)
    | 9, _, ho, hK =>
      obtain rfl := Option.some.inj ho
      exact step_field _ 2 w.heap.size (by omega) rfl h1 (hK _ _ rfl hS (fun _ _ _ h => h) fun _ _ _ _ => apart_not rfl)
    | 10, _, ho, hK =>
      obtain rfl := Option.some.inj ho
      obtain ⟨u, hu, hFu⟩ := hF.facts 9 (by omega) (hdep ⟨9, .data⟩ (by simp) rfl)
      obtain rfl : u = .pointer (some ⟨w.heap.size, 2, none⟩) := hFu
      exact step_load _ 23 9 12 ⟨w.heap.size, 2, none⟩ _ rfl Try.underlying23 hu (hcell 2) (hK _ _ rfl hS (fun _ _ _ h => h) fun _ _ _ _ => apart_not rfl)
    | 11, _, ho, hK =>
      obtain rfl := Option.some.inj ho
      obtain ⟨u, hu, hFu⟩ := hF.facts 8 (by omega) (hdep ⟨8, .data⟩ (by simp) rfl)
      obtain ⟨y, hy, hFy⟩ := hF.facts 10 (by omega) (hdep ⟨10, .data⟩ (by simp) rfl)
      obtain rfl : y = .slice x.Am d.mail.length x.cm := hFy
      exact step_append _ 11 13 (w.heap.size + 2) 23 9 is _ 16 rfl Try.underlying23 his hzs hss hbs rfl u hu hFu x.Am d.mail.length x.cm w.heap.size (d.mail.map sv) hy (by simp) hdv.m (sv_one _)
        (by unfold maxLen; omega) (by omega) hS.size fun v' w' h1 h2 h3 => hK _ _ h1 (hS.more h2) (factF_mono fun g hg => h2.block g hg) (apart_new h1 h3)
    | 12, _, ho, hK =>
      obtain rfl := Option.some.inj ho
      exact step_build _ 24 3 ii rfl Try.underlying24 hii (hK _ _ ⟨v.heap.size, rfl, hS.size, heap_alloc_new v _⟩ (hS.more (hal _)) (factF_mono fun g hg => (hal _).block g hg) fun _ _ _ _ => apart_not rfl)
    | 13, _, ho, hK =>
      obtain rfl := Option.some.inj ho
      exact step_field _ 3 w.heap.size (by omega) rfl h1 (hK _ _ rfl hS (fun _ _ _ h => h) fun _ _ _ _ => apart_not rfl)
    | 14, _, ho, hK =>
      obtain rfl := Option.some.inj ho
      obtain ⟨u, hu, hFu⟩ := hF.facts 13 (by omega) (hdep ⟨13, .data⟩ (by simp) rfl)
      obtain rfl : u = .pointer (some ⟨w.heap.size, 3, none⟩) := hFu
      exact step_load _ 24 3 16 ⟨w.heap.size, 3, none⟩ _ rfl Try.underlying24 hu (hcell 3) (hK _ _ rfl hS (fun _ _ _ h => h) fun _ _ _ _ => apart_not rfl)
    | 15, _, ho, hK =>
      obtain rfl := Option.some.inj ho
      obtain ⟨u, hu, hFu⟩ := hF.facts 12 (by omega) (hdep ⟨12, .data⟩ (by simp) rfl)
      obtain ⟨y, hy, hFy⟩ := hF.facts 14 (by omega) (hdep ⟨14, .data⟩ (by simp) rfl)
      obtain rfl : y = .slice x.An d.nums.length x.cn := hFy
      exact step_append _ 15 17 (w.heap.size + 2) 24 3 ii _ 8 rfl Try.underlying24 hii hzi hsi hbi rfl u hu hFu x.An d.nums.length x.cn w.heap.size (d.nums.map zv) hy (by simp) hdv.n (zv_one _)
        (by unfold maxLen; omega) (by omega) hS.size fun v' w' h1 h2 h3 => hK _ _ h1 (hS.more h2) (factF_mono fun g hg => h2.block g hg) (apart_new h1 h3)
    | 16, _, ho, hK =>
      obtain rfl := Option.some.inj ho
      exact step_build _ 23 9 is rfl Try.underlying23 his (hK _ _ ⟨v.heap.size, rfl, hS.size, heap_alloc_new v _⟩ (hS.more (hal _)) (factF_mono fun g hg => (hal _).block g hg) fun _ _ _ _ => apart_not rfl)
    | 17, _, ho, hK =>
      obtain rfl := Option.some.inj ho
      exact step_field _ 4 w.heap.size (by omega) rfl h1 (hK _ _ rfl hS (fun _ _ _ h => h) fun _ _ _ _ => apart_not rfl)
    | 18, _, ho, hK =>
      obtain rfl := Option.some.inj ho
      obtain ⟨u, hu, hFu⟩ := hF.facts 17 (by omega) (hdep ⟨17, .data⟩ (by simp) rfl)
      obtain rfl : u = .pointer (some ⟨w.heap.size, 4, none⟩) := hFu
      exact step_load _ 23 9 20 ⟨w.heap.size, 4, none⟩ _ rfl Try.underlying23 hu (hcell 4) (hK _ _ rfl hS (fun _ _ _ h => h) fun _ _ _ _ => apart_not rfl)
    | 19, _, ho, hK =>
      obtain rfl := Option.some.inj ho
      obtain ⟨u, hu, hFu⟩ := hF.facts 16 (by omega) (hdep ⟨16, .data⟩ (by simp) rfl)
      obtain ⟨y, hy, hFy⟩ := hF.facts 18 (by omega) (hdep ⟨18, .data⟩ (by simp) rfl)
      obtain rfl : y = .slice x.At d.texts.length x.ct := hFy
      exact step_append _ 19 21 (w.heap.size + 2) 23 9 is _ 16 rfl Try.underlying23 his hzs hss hbs rfl u hu hFu x.At d.texts.length x.ct w.heap.size (d.texts.map sv) hy (by simp) hdv.t (sv_one _)
        (by unfold maxLen; omega) (by omega) hS.size fun v' w' h1 h2 h3 => hK _ _ h1 (hS.more h2) (factF_mono fun g hg => h2.block g hg) (apart_new h1 h3)
    | 20, _, ho, hK =>
      obtain rfl := Option.some.inj ho
      have hl (j : Nat) (h : (⟨j, .data⟩ : Edge) ∈ #[(⟨3, .data⟩ : Edge), ⟨7, .data⟩, ⟨11, .data⟩, ⟨15, .data⟩, ⟨19, .data⟩]) := hdep ⟨j, .data⟩ h rfl
      obtain ⟨v0, g0, f0⟩ := hF.facts 3 (by omega) (hl 3 (by simp))
      obtain ⟨v1, g1, f1⟩ := hF.facts 7 (by omega) (hl 7 (by simp))
      obtain ⟨v2, g2, f2⟩ := hF.facts 11 (by omega) (hl 11 (by simp))
      obtain ⟨v3, g3, f3⟩ := hF.facts 15 (by omega) (hl 15 (by simp))
      obtain ⟨v4, g4, f4⟩ := hF.facts 19 (by omega) (hl 19 (by simp))
      have a1 := hF.dist 7 11 (by omega) (by omega) (by omega) (hl 7 (by simp)) (hl 11 (by simp)) v1 v2 g1 g2 rfl rfl
      have a2 := hF.dist 7 19 (by omega) (by omega) (by omega) (hl 7 (by simp)) (hl 19 (by simp)) v1 v4 g1 g4 rfl rfl
      obtain ⟨A0, c0, rfl, _, _⟩ := own_form f0
      obtain ⟨A1, c1, rfl, _, _⟩ := own_form f1
      obtain ⟨A2, c2, rfl, _, _⟩ := own_form f2
      obtain ⟨A3, c3, rfl, _, _⟩ := own_form f3
      obtain ⟨A4, c4, rfl, _, _⟩ := own_form f4
      have hk := hK (DV.val ⟨A0, A1, A2, A3, A4, c0, c1, c2, c3, c4⟩ d) v ⟨⟨A0, A1, A2, A3, A4, c0, c1, c2, c3, c4⟩, rfl, ⟨f0, f1, f2, f3, f4⟩, a1, a2⟩ hS (fun _ _ _ h => h) fun _ _ _ _ => apart_not rfl
      unfold Oper.wp
      simp [execOp, go_sem, g0, g1, g2, g3, g4]
      exact hk
    | n + 21, hi, _, _ => exact absurd hi (by omega)
  case tail =>
    intro l a v o ho hF hl
    obtain rfl := Option.some.inj ho
    have hS := hF.S
    have h2 : a.tmps[2]? = some (.pointer (some ⟨w.heap.size + 1, 0, none⟩)) := hF.low 2 (by omega)
    obtain ⟨u, hu, y, rfl, hO, a1, a2⟩ := hF.facts 20 (by omega) (hl 20 (by omega))
    have hw := hw1.below hS.below (by omega)
    refine wpList_plain rfl fun K2 hK2 => step_store _ (w.heap.size + 1) y d _ _ _ _ _ rfl h2 hu hw ?_
    refine hK2 _ _ ?_
    obtain ⟨V, hV⟩ : ∃ V, V = ((((v.setCell ⟨w.heap.size + 1, 0, none⟩ (y.vb d)).setCell ⟨w.heap.size + 1, 1, none⟩ (y.vh d)).setCell ⟨w.heap.size + 1, 2, none⟩ (y.vm d)).setCell ⟨w.heap.size + 1, 3, none⟩ (y.vn d)).setCell ⟨w.heap.size + 1, 4, none⟩ (y.vt d) := ⟨_, rfl⟩
    rw [← hV]
    have hw5 : Whole V (w.heap.size + 1) 26 [y.vb d, y.vh d, y.vm d, y.vn d, y.vt d] := by
      rw [hV]
      exact ((((hw.set_ 0 _).set_ 1 _).set_ 2 _).set_ 3 _).set_ 4 _
    have hb5 : Below (w.heap.size + 1) v V := by
      rw [hV]
      have hs (W : World) (i : Nat) (u : Value) : Below (w.heap.size + 1) W (W.setCell ⟨w.heap.size + 1, i, none⟩ u) := (Below.refl _ W).setCell (p := ⟨w.heap.size + 1, i, none⟩) (Nat.le_refl _) u
      exact ((((hs _ 0 _).trans (hs _ 1 _)).trans (hs _ 2 _)).trans (hs _ 3 _)).trans (hs _ 4 _)
    have hf5 : ∀ g, g ≠ w.heap.size + 1 → V.heap[g]? = v.heap[g]? := fun g hg => by
      rw [hV]
      have hs (W : World) (i : Nat) (u : Value) : (W.setCell ⟨w.heap.size + 1, i, none⟩ u).heap[g]? = W.heap[g]? := Below.heap_setCell W ⟨w.heap.size + 1, i, none⟩ u g hg
      rw [hs, hs, hs, hs, hs]
    have hO5 : OwnD V (w.heap.size + 2) y d :=
      ⟨own_keep hO.b fun g e => hf5 g (by have := (hO.b.lt g e).1; omega), own_keep hO.h fun g e => hf5 g (by have := (hO.h.lt g e).1; omega), own_keep hO.m fun g e => hf5 g (by have := (hO.m.lt g e).1; omega), own_keep hO.n fun g e => hf5 g (by have := (hO.n.lt g e).1; omega), own_keep hO.t fun g e => hf5 g (by have := (hO.t.lt g e).1; omega)⟩
    have hO6 : OwnD V w.heap.size y d := ⟨own_mono hO5.b (by omega), own_mono hO5.h (by omega), own_mono hO5.m (by omega), own_mono hO5.n (by omega), own_mono hO5.t (by omega)⟩
    have hB : Below w.heap.size w V := (hbW.trans (hS.below.mono (by omega))).trans (hb5.mono (by omega))
    have q0 : V.cell? ⟨w.heap.size + 1, 0, none⟩ = some (y.vb d) := hw5.cell 0
    have q1 : V.cell? ⟨w.heap.size + 1, 1, none⟩ = some (y.vh d) := hw5.cell 1
    have q2 : V.cell? ⟨w.heap.size + 1, 2, none⟩ = some (y.vm d) := hw5.cell 2
    have q3 : V.cell? ⟨w.heap.size + 1, 3, none⟩ = some (y.vn d) := hw5.cell 3
    have q4 : V.cell? ⟨w.heap.size + 1, 4, none⟩ = some (y.vt d) := hw5.cell 4
    clear hV hw5 hb5 hf5 hO5 hw hw0 hw1 hO
    refine hret _ _ (wp_ret ?_)
    refine ⟨hF.defers, y.val d, ?_, y, rfl, hO6, a1, a2, hB⟩
    clear hF hl
    simp [results, Try.results16, go_sem, Act.put, h2, q0, q1, q2, q3, q4]

theorem ownData_any (x : DV) (d : Dt) (w : World) (h : DataAt w w.heap.size x d) (hl : LightD d) :
    Calls Try.prog 16 #[x.val d] w (Owns w d) := ownData_few x d w h hl.few

end Go.Proofs.Ytjjmllbkfbdcnaa
