/-
  The contract of the document's OwnRRs.
-/
import Derived.Test.YthppgofpbpjglaaFbP3
import Derived.Test.YthppgofpbpjglaaFbP2
import Derived.Test.YthppgofpbpjglaaFbP1
import Derived.Test.YthppgofpbpjglaaProg
import Derived.WalkSpells
import Derived.WalkLawsBesides
import Derived.Laws.Externs
import Derived.StillTailTactics
import Derived.IntWalk
import Derived.Deep.RegionHeld3
import Derived.BigRegion
namespace Go.Proofs.Ythppgofpbpjglaa
open Go.RowKit

theorem rr_info : (Try.prog.info? 54).map (fun i => (i.zero, i.size, i.bytes)) = some (some (.agg #[.slice none 0 0, .int .i64 0, .int .i64 0, .int .i64 0, .slice none 0 0, .slice none 0 0, .slice none 0 0, .slice none 0 0, .slice none 0 0]), 9, 168) := by kernel_rfl
theorem own_apartR {w : World} {b1 b2 : Nat} {e1 e2 : TypeId} {s1 s2 n1 n2 : Nat} {v1 v2 : Value} {x1 x2 : List Value} (h1 : w.ownsRow b1 e1 s1 v1 n1 x1) (h2 : w.ownsRow b2 e2 s2 v2 n2 x2) (he : e1 ≠ e2) {j : Nat} (hj : v1.ownBlock = some j) : v2.ownBlock ≠ some j := by
  intro hk
  rcases h1.2 with ⟨rfl, _⟩ | ⟨g1, _, c1, rfl, _, hh1, _⟩
  · cases hj
  rcases h2.2 with ⟨rfl, _⟩ | ⟨g2, _, c2, rfl, _, hh2, _⟩
  · cases hk
  simp only [Value.ownBlock, Option.some.injEq] at hj hk
  subst hj
  subst hk
  rw [hh1] at hh2
  injection hh2 with hh2
  injection hh2 with _ hh2 _
  exact he hh2
theorem cellsR_one1 (p : RV × Rt) : ∀ u ∈ cellsR p, u.oneCell' = true := fun u hu => cellsR_one [p] u (by simpa using hu)
/-- A record whose slices are the call's own. -/
structure OwnR (w : World) (B : Nat) (x : RV) (r : Rt) : Prop where
  n : w.ownsRow B 9 1 (x.vn r) r.name.length (r.name.map sv)
  d : OwnD w B x.d r.data
theorem OwnD.monoB {w : World} {B B' : Nat} {x : DV} {d : Dt} (h : OwnD w B x d) (hb : B' ≤ B) : OwnD w B' x d := ⟨own_mono h.b hb, own_mono h.h hb, own_mono h.m hb, own_mono h.n hb, own_mono h.t hb⟩
theorem OwnR.at_ {w : World} {B : Nat} {x : RV} {r : Rt} (h : OwnR w B x r) : RAt w w.heap.size x r := ⟨Row.of_own h.n, own_cap h.n, h.d.at_⟩
theorem OwnR.keep {w w' : World} {B : Nat} {x : RV} {r : Rt} (h : OwnR w B x r) (hk : ∀ g, g < w.heap.size → w'.heap[g]? = w.heap[g]?) : OwnR w' B x r :=
  ⟨own_keep h.n fun g e => hk g (h.n.lt g e).2, h.d.keep hk⟩
theorem OwnR.keepB {w w' : World} {B : Nat} {x : RV} {r : Rt} (h : OwnR w B x r) (hk : ∀ g, B ≤ g → g < w.heap.size → w'.heap[g]? = w.heap[g]?) : OwnR w' B x r :=
  ⟨own_keep h.n fun g e => hk g (h.n.lt g e).1 (h.n.lt g e).2, own_keep h.d.b fun g e => hk g (h.d.b.lt g e).1 (h.d.b.lt g e).2, own_keep h.d.h fun g e => hk g (h.d.h.lt g e).1 (h.d.h.lt g e).2, own_keep h.d.m fun g e => hk g (h.d.m.lt g e).1 (h.d.m.lt g e).2,
    own_keep h.d.n fun g e => hk g (h.d.n.lt g e).1 (h.d.n.lt g e).2, own_keep h.d.t fun g e => hk g (h.d.t.lt g e).1 (h.d.t.lt g e).2⟩
theorem OwnR.grown {w w' : World} {B : Nat} {x : RV} {r : Rt} (h : OwnR w B x r) {v : Value} {n : Nat} {xs : List Value} (hv : w.ownsRow B 54 9 v n xs) (hg : w.grownBy w' v.ownBlock) : OwnR w' B x r := by
  have hk : ∀ {e : TypeId} {s m : Nat} {u : Value} {ys : List Value}, w.ownsRow B e s u m ys → e ≠ 54 → ∀ g, u.ownBlock = some g → w'.heap[g]? = w.heap[g]? := fun ho hne g hj =>
    hg.block g (ho.lt g hj).2 (Ne.symm (own_apartR ho hv hne hj))
  exact ⟨own_keep h.n (hk h.n (by decide)), own_keep h.d.b (hk h.d.b (by decide)), own_keep h.d.h (hk h.d.h (by decide)), own_keep h.d.m (hk h.d.m (by decide)), own_keep h.d.n (hk h.d.n (by decide)), own_keep h.d.t (hk h.d.t (by decide))⟩

theorem step_fieldR {a : Act} {w : World} {K : Act → World → Prop} {Q : Exit → Act → World → Prop} (o : Oper) (H k : Nat) (ho : o.op = .fieldAddr 54 (.tmp k) 4) (h1 : a.tmps[k]? = some (.pointer (some ⟨H, 0, none⟩)))
    (h : K (a.put o.dst (.pointer (some ⟨H, 4, none⟩))) w) : o.wp Try.prog a w K Q := by
  unfold Oper.wp
  simp [execOp, ho, h1, go_sem]
  exact h
/-- The data of a record is stored; of the new world this much is told. -/
theorem step_storeR {a : Act} {w : World} {K : Act → World → Prop} {Q : Exit → Act → World → Prop} (o : Oper) (g k1 k2 : Nat) (y : DV) (d : Dt) (u0 u1 u2 u3 u4 u5 u6 u7 u8 : Value) (ho : o.op = .store 34 (.tmp k1) (.tmp k2)) (h2 : a.tmps[k1]? = some (.pointer (some ⟨g, 4, none⟩)))
    (hu : a.tmps[k2]? = some (y.val d)) (hw : Whole w g 54 [u0, u1, u2, u3, u4, u5, u6, u7, u8])
    (h : ∀ V, Whole V g 54 [u0, u1, u2, u3, y.vb d, y.vh d, y.vm d, y.vn d, y.vt d] → Below g w V → (∀ j, j ≠ g → V.heap[j]? = w.heap[j]?) → V.heap.size = w.heap.size → K (a.put o.dst undef) V) : o.wp Try.prog a w K Q := by
  have q4 : w.cell? ⟨g, 4, none⟩ = some u4 := hw.cell 4
  have q5 : w.cell? ⟨g, 5, none⟩ = some u5 := hw.cell 5
  have q6 : w.cell? ⟨g, 6, none⟩ = some u6 := hw.cell 6
  have q7 : w.cell? ⟨g, 7, none⟩ = some u7 := hw.cell 7
  have q8 : w.cell? ⟨g, 8, none⟩ = some u8 := hw.cell 8
  have z4 : w.frozen? ⟨g, 4, none⟩ = false := hw.frozen 4
  have z5 : w.frozen? ⟨g, 5, none⟩ = false := hw.frozen 5
  have z6 : w.frozen? ⟨g, 6, none⟩ = false := hw.frozen 6
  have z7 : w.frozen? ⟨g, 7, none⟩ = false := hw.frozen 7
  have z8 : w.frozen? ⟨g, 8, none⟩ = false := hw.frozen 8
  have hk := h (((((w.setCell ⟨g, 4, none⟩ (y.vb d)).setCell ⟨g, 5, none⟩ (y.vh d)).setCell ⟨g, 6, none⟩ (y.vm d)).setCell ⟨g, 7, none⟩ (y.vn d)).setCell ⟨g, 8, none⟩ (y.vt d))
    (((((hw.set_ 4 _).set_ 5 _).set_ 6 _).set_ 7 _).set_ 8 _)
    (by
      have hs (W : World) (i : Nat) (u : Value) : Below g W (W.setCell ⟨g, i, none⟩ u) := (Below.refl _ W).setCell (p := ⟨g, i, none⟩) (Nat.le_refl _) u
      exact ((((hs _ 4 _).trans (hs _ 5 _)).trans (hs _ 6 _)).trans (hs _ 7 _)).trans (hs _ 8 _))
    (fun j hj => by
      have hs (W : World) (i : Nat) (u : Value) : (W.setCell ⟨g, i, none⟩ u).heap[j]? = W.heap[j]? := Below.heap_setCell W ⟨g, i, none⟩ u j hj
      rw [hs, hs, hs, hs, hs])
    (by simp)
  unfold Oper.wp
  simp [execOp, ho, go_sem, h2, hu, q4, q5, q6, q7, q8, z4, z5, z6, z7, z8]
  exact hk
/-- Rows of records that a call has made. -/
structure RowsAt (w0 : World) (v : Value) (qs : List (RV × Rt)) (w : World) : Prop where
  row : w.ownsRow w0.heap.size 54 9 v qs.length (qs.flatMap cellsR)
  each : ∀ q ∈ qs, OwnR w w0.heap.size q.1 q.2
  below : Below w0.heap.size w0 w
  size : w0.heap.size ≤ w.heap.size
theorem RowsAt.step {w0 w w' : World} {v : Value} {qs : List (RV × Rt)} (h : RowsAt w0 v qs w) (hb : Below w.heap.size w w') : RowsAt w0 v qs w' :=
  ⟨own_keep h.row fun j hj => hb.block j (h.row.lt j hj).2, fun q hq => (h.each q hq).keep fun g hg => hb.block g hg, h.below.trans (hb.mono h.size), Nat.le_trans h.size hb.size⟩
theorem RowsAt.reads {w0 w : World} {A : Option Addr} {c : Nat} {qs : List (RV × Rt)} (h : RowsAt w0 (.slice A qs.length c) qs w) : RsAt w w.heap.size A qs :=
  ⟨Row.of_own h.row, fun q hq => (h.each q hq).at_⟩
theorem RowsAt.nil (w : World) : RowsAt w (.slice none 0 0) [] w := ⟨World.ownsRow_nil _ _ _ _, fun _ h => absurd h (List.not_mem_nil), Below.refl _ _, Nat.le_refl _⟩
theorem RowsAt.snoc {w0 w w' : World} {v v' : Value} {qs : List (RV × Rt)} (h : RowsAt w0 v qs w) {y : RV} {r : Rt} (hy : OwnR w w0.heap.size y r) (ho : w'.ownsRow w0.heap.size 54 9 v' (qs.length + 1) (qs.flatMap cellsR ++ cellsR (y, r)))
    (hg : w.grownBy w' v.ownBlock) : RowsAt w0 v' (qs ++ [(y, r)]) w' := by
  refine ⟨by rw [List.length_append, List.flatMap_append]; simpa using ho, fun q hq => ?_, own_below h.below (Nat.le_refl _) h.size h.row hg, Nat.le_trans h.size hg.size⟩
  rcases List.mem_append.1 hq with hq | hq
  · exact (h.each q hq).grown h.row hg
  · rw [List.mem_singleton.1 hq]
    exact hy.grown h.row hg

/-- What OwnRRs leaves: records of its own that read as those that were handed in. -/
def OwnRs (w : World) (rs : List Rt) (e : Ending) (w' : World) : Prop :=
  ∃ (A : Option Addr) (c : Nat) (qs : List (RV × Rt)), e = .returned (.slice A qs.length c) ∧ recs qs = rs ∧ RsAt w' w'.heap.size A qs ∧ Below w.heap.size w w'
def RowsOut (w : World) (rs : List Rt) (e : Ending) (w' : World) : Prop :=
  ∃ (A : Option Addr) (c : Nat) (qs : List (RV × Rt)), e = .returned (.slice A qs.length c) ∧ recs qs = rs ∧ RowsAt w (.slice A qs.length c) qs w'
def OwnRel (w : World) (ps : List (RV × Rt)) (v i : Value) (wr : World) : Prop :=
  ∃ (j : Nat) (qs : List (RV × Rt)), j ≤ ps.length ∧ i = .int .i64 j ∧ recs qs = recs (ps.take j) ∧ qs.length = j ∧ RowsAt w v qs wr

set_option maxRecDepth 20000 in
set_option maxHeartbeats 8000000 in
theorem ownRRs_rows (w : World) (A : Option Addr) (c : Nat) (ps : List (RV × Rt)) (hp : RsAt w w.heap.size A ps) (hr : ∀ p ∈ ps, LightR p.2) (hl : ps.length ≤ 700) :
    Calls Try.prog 10 #[.slice A ps.length c] w (RowsOut w (recs ps)) := by
  obtain ⟨i0, hi0, hz0, hz1, hz2⟩ := info_parts rr_info
  obtain ⟨s0, hs0, hx0, hx1, hx2⟩ := info_parts str_info
  have HP := Lib.hid hp
  have HR := Lib.hid hr
  clear hp hr
  go_enter Try.func10, Try.ntmps10
  go_wp2
  go_loopw [3, 4] (OwnRel w ps) (fun _ i _ => ps.length - (intOf i).toNat)
  case atStart => exact ⟨0, [], Nat.zero_le _, rfl, rfl, rfl, RowsAt.nil w⟩
  case round =>
    obtain ⟨j, qs, hj, rfl, hq, hqj, hs⟩ := hrel
    have HS := Lib.hid hs
    have HQ := Lib.hid hq
    have HJ := Lib.hid hqj
    obtain ⟨A1, c1, rfl, _, _⟩ := own_form hs.row
    have hqj1 : qs.length ≤ ps.length := by omega
    clear hs hq hqj
    by_cases hlt : j < ps.length
    · obtain ⟨b, off, rfl, hbH, hra, q0, q1, q2, q3, q4, q5, q6, q7, q8⟩ := (HP.out.below HS.out.below).at_ hlt
      have hri := HR.out _ (List.getElem_mem hlt)
      have HF := Lib.hid (recs_at hlt)
      revert hra q0 q1 q2 q3 q4 q5 q6 q7 q8 hri HF
      generalize ps[j] = p
      obtain ⟨x, r⟩ := p
      intro hra q0 q1 q2 q3 q4 q5 q6 q7 q8 hri HF
      dsimp only at *
      have HRI := Lib.hid hri
      have HRA := Lib.hid (hra.mono HS.out.size)
      have hln := hri.l0
      have hnew := (Below.refl wr.heap.size wr).alloc (Nat.le_refl _) (.cells #[.slice x.A r.name.length x.c, .int .i64 r.kind, .int .i64 r.cls, .int .i64 r.ttl, .slice x.d.Ab r.data.bytes.length x.d.cb, .slice x.d.Ah r.data.host.length x.d.ch, .slice x.d.Am r.data.mail.length x.d.cm, .slice x.d.An r.data.nums.length x.d.cn, .slice x.d.At r.data.texts.length x.d.ct] 54)
      have hnew2 : Below wr.heap.size wr ((wr.alloc (.cells #[.slice x.A r.name.length x.c, .int .i64 r.kind, .int .i64 r.cls, .int .i64 r.ttl, .slice x.d.Ab r.data.bytes.length x.d.cb, .slice x.d.Ah r.data.host.length x.d.ch, .slice x.d.Am r.data.mail.length x.d.cm, .slice x.d.An r.data.nums.length x.d.cn, .slice x.d.At r.data.texts.length x.d.ct] 54)).alloc (.cells #[] 9)) := hnew.alloc (by simp) _
      have HNR := Lib.hid ((hra.mono HS.out.size).below hnew2)
      have HN2 := Lib.hid hnew2
      have HWP := Lib.hid (show Whole ((wr.alloc (.cells #[.slice x.A r.name.length x.c, .int .i64 r.kind, .int .i64 r.cls, .int .i64 r.ttl, .slice x.d.Ab r.data.bytes.length x.d.cb, .slice x.d.Ah r.data.host.length x.d.ch, .slice x.d.Am r.data.mail.length x.d.cm, .slice x.d.An r.data.nums.length x.d.cn, .slice x.d.At r.data.texts.length x.d.ct] 54)).alloc (.cells #[] 9)) wr.heap.size 54 [.slice x.A r.name.length x.c, .int .i64 r.kind, .int .i64 r.cls, .int .i64 r.ttl, .slice x.d.Ab r.data.bytes.length x.d.cb, .slice x.d.Ah r.data.host.length x.d.ch, .slice x.d.Am r.data.mail.length x.d.cm, .slice x.d.An r.data.nums.length x.d.cn, .slice x.d.At r.data.texts.length x.d.ct] from (Whole.made wr [.slice x.A r.name.length x.c, .int .i64 r.kind, .int .i64 r.cls, .int .i64 r.ttl, .slice x.d.Ab r.data.bytes.length x.d.cb, .slice x.d.Ah r.data.host.length x.d.ch, .slice x.d.Am r.data.mail.length x.d.cm, .slice x.d.An r.data.nums.length x.d.cn, .slice x.d.At r.data.texts.length x.d.ct] 54).alloc _)
      have HL := Lib.hid (show ((wr.alloc (.cells #[.slice x.A r.name.length x.c, .int .i64 r.kind, .int .i64 r.cls, .int .i64 r.ttl, .slice x.d.Ab r.data.bytes.length x.d.cb, .slice x.d.Ah r.data.host.length x.d.ch, .slice x.d.Am r.data.mail.length x.d.cm, .slice x.d.An r.data.nums.length x.d.cn, .slice x.d.At r.data.texts.length x.d.ct] 54)).alloc (.cells #[] 9)).ownsRow (wr.heap.size + 1) 9 1 (.slice (some ⟨wr.heap.size + 1, 0, none⟩) 0 0) 0 [] by
        have h := own_lit (wr.alloc (.cells #[.slice x.A r.name.length x.c, .int .i64 r.kind, .int .i64 r.cls, .int .i64 r.ttl, .slice x.d.Ab r.data.bytes.length x.d.cb, .slice x.d.Ah r.data.host.length x.d.ch, .slice x.d.Am r.data.mail.length x.d.cm, .slice x.d.An r.data.nums.length x.d.cn, .slice x.d.At r.data.texts.length x.d.ct] 54)) 9 1
        rwa [show (wr.alloc (.cells #[.slice x.A r.name.length x.c, .int .i64 r.kind, .int .i64 r.cls, .int .i64 r.ttl, .slice x.d.Ab r.data.bytes.length x.d.cb, .slice x.d.Ah r.data.host.length x.d.ch, .slice x.d.Am r.data.mail.length x.d.cm, .slice x.d.An r.data.nums.length x.d.cn, .slice x.d.At r.data.texts.length x.d.ct] 54)).heap.size = wr.heap.size + 1 by simp] at h)
      clear hra hri hnew hnew2
      go_wp2_with (
        at_builtin
        refine wpList_append_row rfl (.tmp 16) (.tmp 18) _ rfl (wr.heap.size + 1) 9 s0 _ 1 16 Try.underlying23 hs0 hx0 hx1 hx2 rfl (by omega) (.slice (some ⟨wr.heap.size + 1, 0, none⟩) 0 0) 0 [] rfl
          HL.out x.A r.name.length x.c wr.heap.size (r.name.map sv) rfl (by rw [List.length_map, Nat.mul_one]) HNR.out.n (sv_one _) (by unfold maxLen; omega) (by omega) (by simp) ?_
        intro v2 w2 hown2 hg2
        simp only [Nat.zero_add, List.nil_append] at hown2
        obtain ⟨A2, c2, rfl, _, _⟩ := own_form hown2
        have HO2 := Lib.hid hown2
        have HW2 := Lib.hid (HWP.out.grown hg2 (by simp [Value.ownBlock]))
        have HB2 := Lib.hid (HN2.out.trans ((own_below (Below.refl (wr.heap.size + 1) _) (Nat.le_refl _) (by simp) HL.out hg2).mono (by omega)))
        have t0' : w2.cell? ⟨wr.heap.size, 0, none⟩ = some (.slice x.A r.name.length x.c) := HW2.out.cell 0
        have f0' : w2.frozen? ⟨wr.heap.size, 0, none⟩ = false := HW2.out.frozen 0
        have HW3 := Lib.hid (show Whole (w2.setCell ⟨wr.heap.size, 0, none⟩ (.slice A2 r.name.length c2)) wr.heap.size 54 [.slice A2 r.name.length c2, .int .i64 r.kind, .int .i64 r.cls, .int .i64 r.ttl, .slice x.d.Ab r.data.bytes.length x.d.cb, .slice x.d.Ah r.data.host.length x.d.ch, .slice x.d.Am r.data.mail.length x.d.cm, .slice x.d.An r.data.nums.length x.d.cn, .slice x.d.At r.data.texts.length x.d.ct] from HW2.out.set_ 0 _)
        have HB3 := Lib.hid (HB2.out.setCell (p := ⟨wr.heap.size, 0, none⟩) (Nat.le_refl _) (.slice A2 r.name.length c2))
        have t0 : (w2.setCell ⟨wr.heap.size, 0, none⟩ (.slice A2 r.name.length c2)).cell? ⟨wr.heap.size, 0, none⟩ = some (.slice A2 r.name.length c2) := Whole.cell (L := [.slice A2 r.name.length c2, .int .i64 r.kind, .int .i64 r.cls, .int .i64 r.ttl, .slice x.d.Ab r.data.bytes.length x.d.cb, .slice x.d.Ah r.data.host.length x.d.ch, .slice x.d.Am r.data.mail.length x.d.cm, .slice x.d.An r.data.nums.length x.d.cn, .slice x.d.At r.data.texts.length x.d.ct]) HW3.out 0
        have t1 : (w2.setCell ⟨wr.heap.size, 0, none⟩ (.slice A2 r.name.length c2)).cell? ⟨wr.heap.size, 1, none⟩ = some (.int .i64 r.kind) := Whole.cell (L := [.slice A2 r.name.length c2, .int .i64 r.kind, .int .i64 r.cls, .int .i64 r.ttl, .slice x.d.Ab r.data.bytes.length x.d.cb, .slice x.d.Ah r.data.host.length x.d.ch, .slice x.d.Am r.data.mail.length x.d.cm, .slice x.d.An r.data.nums.length x.d.cn, .slice x.d.At r.data.texts.length x.d.ct]) HW3.out 1
        have t2 : (w2.setCell ⟨wr.heap.size, 0, none⟩ (.slice A2 r.name.length c2)).cell? ⟨wr.heap.size, 2, none⟩ = some (.int .i64 r.cls) := Whole.cell (L := [.slice A2 r.name.length c2, .int .i64 r.kind, .int .i64 r.cls, .int .i64 r.ttl, .slice x.d.Ab r.data.bytes.length x.d.cb, .slice x.d.Ah r.data.host.length x.d.ch, .slice x.d.Am r.data.mail.length x.d.cm, .slice x.d.An r.data.nums.length x.d.cn, .slice x.d.At r.data.texts.length x.d.ct]) HW3.out 2
        have t3 : (w2.setCell ⟨wr.heap.size, 0, none⟩ (.slice A2 r.name.length c2)).cell? ⟨wr.heap.size, 3, none⟩ = some (.int .i64 r.ttl) := Whole.cell (L := [.slice A2 r.name.length c2, .int .i64 r.kind, .int .i64 r.cls, .int .i64 r.ttl, .slice x.d.Ab r.data.bytes.length x.d.cb, .slice x.d.Ah r.data.host.length x.d.ch, .slice x.d.Am r.data.mail.length x.d.cm, .slice x.d.An r.data.nums.length x.d.cn, .slice x.d.At r.data.texts.length x.d.ct]) HW3.out 3
        have t4 : (w2.setCell ⟨wr.heap.size, 0, none⟩ (.slice A2 r.name.length c2)).cell? ⟨wr.heap.size, 4, none⟩ = some (.slice x.d.Ab r.data.bytes.length x.d.cb) := Whole.cell (L := [.slice A2 r.name.length c2, .int .i64 r.kind, .int .i64 r.cls, .int .i64 r.ttl, .slice x.d.Ab r.data.bytes.length x.d.cb, .slice x.d.Ah r.data.host.length x.d.ch, .slice x.d.Am r.data.mail.length x.d.cm, .slice x.d.An r.data.nums.length x.d.cn, .slice x.d.At r.data.texts.length x.d.ct]) HW3.out 4
        have t5 : (w2.setCell ⟨wr.heap.size, 0, none⟩ (.slice A2 r.name.length c2)).cell? ⟨wr.heap.size, 5, none⟩ = some (.slice x.d.Ah r.data.host.length x.d.ch) := Whole.cell (L := [.slice A2 r.name.length c2, .int .i64 r.kind, .int .i64 r.cls, .int .i64 r.ttl, .slice x.d.Ab r.data.bytes.length x.d.cb, .slice x.d.Ah r.data.host.length x.d.ch, .slice x.d.Am r.data.mail.length x.d.cm, .slice x.d.An r.data.nums.length x.d.cn, .slice x.d.At r.data.texts.length x.d.ct]) HW3.out 5
        have t6 : (w2.setCell ⟨wr.heap.size, 0, none⟩ (.slice A2 r.name.length c2)).cell? ⟨wr.heap.size, 6, none⟩ = some (.slice x.d.Am r.data.mail.length x.d.cm) := Whole.cell (L := [.slice A2 r.name.length c2, .int .i64 r.kind, .int .i64 r.cls, .int .i64 r.ttl, .slice x.d.Ab r.data.bytes.length x.d.cb, .slice x.d.Ah r.data.host.length x.d.ch, .slice x.d.Am r.data.mail.length x.d.cm, .slice x.d.An r.data.nums.length x.d.cn, .slice x.d.At r.data.texts.length x.d.ct]) HW3.out 6
        have t7 : (w2.setCell ⟨wr.heap.size, 0, none⟩ (.slice A2 r.name.length c2)).cell? ⟨wr.heap.size, 7, none⟩ = some (.slice x.d.An r.data.nums.length x.d.cn) := Whole.cell (L := [.slice A2 r.name.length c2, .int .i64 r.kind, .int .i64 r.cls, .int .i64 r.ttl, .slice x.d.Ab r.data.bytes.length x.d.cb, .slice x.d.Ah r.data.host.length x.d.ch, .slice x.d.Am r.data.mail.length x.d.cm, .slice x.d.An r.data.nums.length x.d.cn, .slice x.d.At r.data.texts.length x.d.ct]) HW3.out 7
        have t8 : (w2.setCell ⟨wr.heap.size, 0, none⟩ (.slice A2 r.name.length c2)).cell? ⟨wr.heap.size, 8, none⟩ = some (.slice x.d.At r.data.texts.length x.d.ct) := Whole.cell (L := [.slice A2 r.name.length c2, .int .i64 r.kind, .int .i64 r.cls, .int .i64 r.ttl, .slice x.d.Ab r.data.bytes.length x.d.cb, .slice x.d.Ah r.data.host.length x.d.ch, .slice x.d.Am r.data.mail.length x.d.cm, .slice x.d.An r.data.nums.length x.d.cn, .slice x.d.At r.data.texts.length x.d.ct]) HW3.out 8
        clear hown2 hg2)
      have HC := Lib.hid (ownData_few x.d r.data (w2.setCell ⟨wr.heap.size, 0, none⟩ (.slice A2 r.name.length c2)) ((HRA.out.below HB3.out).d.mono HB3.out.size) HRI.out.few)
      refine HC.out.mono ?_
      rintro e w4 ⟨y, rfl, hy, hp1, hp2, hb4⟩
      have hzw2 : wr.heap.size < w2.heap.size := HW2.out.lt
      have hz3 : (w2.setCell ⟨wr.heap.size, 0, none⟩ (.slice A2 r.name.length c2)).heap.size = w2.heap.size := by simp
      rw [hz3] at hy hb4
      have hz4 : w2.heap.size ≤ w4.heap.size := by have h := hb4.size; rwa [hz3] at h
      have HW4 := Lib.hid (HW3.out.below hb4 hzw2)
      have HB4 := Lib.hid (HB3.out.trans (hb4.mono (Nat.le_of_lt hzw2)))
      rename_i hkk
      dsimp only
      refine hkk _ _ ?_
      refine wpList_plain rfl fun K2 hK2 => step_fieldR _ wr.heap.size 5 rfl rfl ?_
      refine hK2 _ _ ?_
      refine wpList_plain rfl fun K3 hK3 => step_storeR _ wr.heap.size 24 23 y r.data _ _ _ _ _ _ _ _ _ rfl rfl rfl HW4.out ?_
      intro V hWV hbv hhv hvs
      refine hK3 _ _ ?_
      clear hkk K2 hK2 K3 hK3
      have u0' : V.cell? ⟨wr.heap.size, 0, none⟩ = some (.slice A2 r.name.length c2) := Whole.cell (L := [.slice A2 r.name.length c2, .int .i64 r.kind, .int .i64 r.cls, .int .i64 r.ttl, .slice y.Ab r.data.bytes.length y.cb, .slice y.Ah r.data.host.length y.ch, .slice y.Am r.data.mail.length y.cm, .slice y.An r.data.nums.length y.cn, .slice y.At r.data.texts.length y.ct]) hWV 0
      have u1' : V.cell? ⟨wr.heap.size, 1, none⟩ = some (.int .i64 r.kind) := Whole.cell (L := [.slice A2 r.name.length c2, .int .i64 r.kind, .int .i64 r.cls, .int .i64 r.ttl, .slice y.Ab r.data.bytes.length y.cb, .slice y.Ah r.data.host.length y.ch, .slice y.Am r.data.mail.length y.cm, .slice y.An r.data.nums.length y.cn, .slice y.At r.data.texts.length y.ct]) hWV 1
      have u2' : V.cell? ⟨wr.heap.size, 2, none⟩ = some (.int .i64 r.cls) := Whole.cell (L := [.slice A2 r.name.length c2, .int .i64 r.kind, .int .i64 r.cls, .int .i64 r.ttl, .slice y.Ab r.data.bytes.length y.cb, .slice y.Ah r.data.host.length y.ch, .slice y.Am r.data.mail.length y.cm, .slice y.An r.data.nums.length y.cn, .slice y.At r.data.texts.length y.ct]) hWV 2
      have u3' : V.cell? ⟨wr.heap.size, 3, none⟩ = some (.int .i64 r.ttl) := Whole.cell (L := [.slice A2 r.name.length c2, .int .i64 r.kind, .int .i64 r.cls, .int .i64 r.ttl, .slice y.Ab r.data.bytes.length y.cb, .slice y.Ah r.data.host.length y.ch, .slice y.Am r.data.mail.length y.cm, .slice y.An r.data.nums.length y.cn, .slice y.At r.data.texts.length y.ct]) hWV 3
      have u4' : V.cell? ⟨wr.heap.size, 4, none⟩ = some (.slice y.Ab r.data.bytes.length y.cb) := Whole.cell (L := [.slice A2 r.name.length c2, .int .i64 r.kind, .int .i64 r.cls, .int .i64 r.ttl, .slice y.Ab r.data.bytes.length y.cb, .slice y.Ah r.data.host.length y.ch, .slice y.Am r.data.mail.length y.cm, .slice y.An r.data.nums.length y.cn, .slice y.At r.data.texts.length y.ct]) hWV 4
      have u5' : V.cell? ⟨wr.heap.size, 5, none⟩ = some (.slice y.Ah r.data.host.length y.ch) := Whole.cell (L := [.slice A2 r.name.length c2, .int .i64 r.kind, .int .i64 r.cls, .int .i64 r.ttl, .slice y.Ab r.data.bytes.length y.cb, .slice y.Ah r.data.host.length y.ch, .slice y.Am r.data.mail.length y.cm, .slice y.An r.data.nums.length y.cn, .slice y.At r.data.texts.length y.ct]) hWV 5
      have u6' : V.cell? ⟨wr.heap.size, 6, none⟩ = some (.slice y.Am r.data.mail.length y.cm) := Whole.cell (L := [.slice A2 r.name.length c2, .int .i64 r.kind, .int .i64 r.cls, .int .i64 r.ttl, .slice y.Ab r.data.bytes.length y.cb, .slice y.Ah r.data.host.length y.ch, .slice y.Am r.data.mail.length y.cm, .slice y.An r.data.nums.length y.cn, .slice y.At r.data.texts.length y.ct]) hWV 6
      have u7' : V.cell? ⟨wr.heap.size, 7, none⟩ = some (.slice y.An r.data.nums.length y.cn) := Whole.cell (L := [.slice A2 r.name.length c2, .int .i64 r.kind, .int .i64 r.cls, .int .i64 r.ttl, .slice y.Ab r.data.bytes.length y.cb, .slice y.Ah r.data.host.length y.ch, .slice y.Am r.data.mail.length y.cm, .slice y.An r.data.nums.length y.cn, .slice y.At r.data.texts.length y.ct]) hWV 7
      have u8' : V.cell? ⟨wr.heap.size, 8, none⟩ = some (.slice y.At r.data.texts.length y.ct) := Whole.cell (L := [.slice A2 r.name.length c2, .int .i64 r.kind, .int .i64 r.cls, .int .i64 r.ttl, .slice y.Ab r.data.bytes.length y.cb, .slice y.Ah r.data.host.length y.ch, .slice y.Am r.data.mail.length y.cm, .slice y.An r.data.nums.length y.cn, .slice y.At r.data.texts.length y.ct]) hWV 8
      have hzv : wr.heap.size ≤ V.heap.size := by rw [hvs]; omega
      have HS6 := Lib.hid (HS.out.step ((HB4.out.trans hbv).alloc hzv (.cells #[.slice A2 r.name.length c2, .int .i64 r.kind, .int .i64 r.cls, .int .i64 r.ttl, .slice y.Ab r.data.bytes.length y.cb, .slice y.Ah r.data.host.length y.ch, .slice y.Am r.data.mail.length y.cm, .slice y.An r.data.nums.length y.cn, .slice y.At r.data.texts.length y.ct] 54)))
      have hoc (g : Nat) (hg : g < w4.heap.size) : (V.alloc (.cells #[.slice A2 r.name.length c2, .int .i64 r.kind, .int .i64 r.cls, .int .i64 r.ttl, .slice y.Ab r.data.bytes.length y.cb, .slice y.Ah r.data.host.length y.ch, .slice y.Am r.data.mail.length y.cm, .slice y.An r.data.nums.length y.cn, .slice y.At r.data.texts.length y.ct] 54)).heap[g]? = V.heap[g]? := Below.heap_alloc V _ g (by rw [hvs]; exact hg)
      have HOR := Lib.hid (show OwnR (V.alloc (.cells #[.slice A2 r.name.length c2, .int .i64 r.kind, .int .i64 r.cls, .int .i64 r.ttl, .slice y.Ab r.data.bytes.length y.cb, .slice y.Ah r.data.host.length y.ch, .slice y.Am r.data.mail.length y.cm, .slice y.An r.data.nums.length y.cn, .slice y.At r.data.texts.length y.ct] 54)) w.heap.size ⟨A2, c2, y⟩ r from by
        refine ⟨own_mono (own_keep HO2.out fun g e => ?_) (Nat.le_trans HS.out.size (Nat.le_succ _)), ?_⟩
        · have h1 := (HO2.out.lt g e).1
          have h2 := (HO2.out.lt g e).2
          rw [hoc g (by omega), hhv g (by omega), hb4.block g h2]
          exact Below.heap_setCell w2 ⟨wr.heap.size, 0, none⟩ _ g (by show g ≠ wr.heap.size; omega)
        · have hd : OwnD w4 (wr.heap.size + 1) y r.data := hy.monoB (by omega)
          have hk : ∀ {e : TypeId} {s m : Nat} {u : Value} {ys : List Value}, w4.ownsRow (wr.heap.size + 1) e s u m ys → ∀ g, u.ownBlock = some g → (V.alloc (.cells #[.slice A2 r.name.length c2, .int .i64 r.kind, .int .i64 r.cls, .int .i64 r.ttl, .slice y.Ab r.data.bytes.length y.cb, .slice y.Ah r.data.host.length y.ch, .slice y.Am r.data.mail.length y.cm, .slice y.An r.data.nums.length y.cn, .slice y.At r.data.texts.length y.ct] 54)).heap[g]? = w4.heap[g]? := fun ho g hj => by
            have h1 := (ho.lt g hj).1
            rw [hoc g (ho.lt g hj).2, hhv g (by omega)]
          exact OwnD.monoB ⟨own_keep hd.b (hk hd.b), own_keep hd.h (hk hd.h), own_keep hd.m (hk hd.m), own_keep hd.n (hk hd.n), own_keep hd.t (hk hd.t)⟩ (Nat.le_trans HS.out.size (Nat.le_succ _)))
      have HRD := Lib.hid (show Row (V.alloc (.cells #[.slice A2 r.name.length c2, .int .i64 r.kind, .int .i64 r.cls, .int .i64 r.ttl, .slice y.Ab r.data.bytes.length y.cb, .slice y.Ah r.data.host.length y.ch, .slice y.Am r.data.mail.length y.cm, .slice y.An r.data.nums.length y.cn, .slice y.At r.data.texts.length y.ct] 54)) (V.heap.size + 1) (some ⟨V.heap.size, 0, none⟩) [.slice A2 r.name.length c2, .int .i64 r.kind, .int .i64 r.cls, .int .i64 r.ttl, .slice y.Ab r.data.bytes.length y.cb, .slice y.Ah r.data.host.length y.ch, .slice y.Am r.data.mail.length y.cm, .slice y.An r.data.nums.length y.cn, .slice y.At r.data.texts.length y.ct] from by
        have h := Row.made V #[.slice A2 r.name.length c2, .int .i64 r.kind, .int .i64 r.cls, .int .i64 r.ttl, .slice y.Ab r.data.bytes.length y.cb, .slice y.Ah r.data.host.length y.ch, .slice y.Am r.data.mail.length y.cm, .slice y.An r.data.nums.length y.cn, .slice y.At r.data.texts.length y.ct] 54
        exact h)
      clear hy hb4 hp1 hp2 hbv hhv hzv hoc hvs hWV HW2 HW3 HB2 HB3 HC HO2 HNR HN2 HWP HL HW4 HB4 t0 t1 t2 t3 t4 t5 t6 t7 t8 t0' f0' hz3
      go_wp2_with (
        at_builtin
        refine wpList_append_row rfl (.tmp 25) (.tmp 27) _ rfl w.heap.size 54 i0 _ 9 168 Try.underlying22 hi0 hz0 hz1 hz2 rfl (by omega) (.slice A1 qs.length c1) qs.length _ rfl HS6.out.row
          (some ⟨V.heap.size, 0, none⟩) 1 1 (V.heap.size + 1) (cellsR (⟨A2, c2, y⟩, r)) rfl rfl HRD.out (cellsR_one1 _) (by unfold maxLen; omega) (by omega) HS6.out.size ?_
        intro v7 w7 hown7 hg7
        have HS7 := Lib.hid (HS6.out.snoc HOR.out hown7 hg7)
        clear hown7 hg7)
      exact ⟨⟨j + 1, qs ++ [(⟨A2, c2, y⟩, r)], by omega, by go_num, by rw [HF.out, recs_append, HQ.out]; rfl, by simp [HJ.out], HS7.out⟩, by simp [intOf]; omega⟩
    · obtain rfl : j = ps.length := by omega
      go_wp2
      go_ret
      have HX := Lib.hid (show recs qs = recs ps by have h := HQ.out; rwa [List.take_length] at h)
      exact ⟨A1, c1, qs, rfl, HX.out, HS.out⟩

theorem ownRRs_any (w : World) (A : Option Addr) (c : Nat) (ps : List (RV × Rt)) (hp : RsAt w w.heap.size A ps) (hr : ∀ p ∈ ps, LightR p.2) (hl : ps.length ≤ 700) :
    Calls Try.prog 10 #[.slice A ps.length c] w (OwnRs w (recs ps)) :=
  (ownRRs_rows w A c ps hp hr hl).mono fun _ _ ⟨A', c', qs, he, hq, hs⟩ => ⟨A', c', qs, he, hq, hs.reads, hs.below⟩

end Go.Proofs.Ythppgofpbpjglaa

namespace Go.Proofs.Ythppgofpbpjglaa
open Go.RowKit

/-- Is data the same, byte by byte? -/
def exactW (a b : Dt) : Bool := sameD a b && (decide (a.host = b.host) && decide (a.mail = b.mail))
theorem exactW_self (d : Dt) : exactW d d = true := by simp [exactW, sameD, eqN]
set_option maxRecDepth 4000 in
set_option maxHeartbeats 2000000 in
theorem dexact_wide (x y : DV) (a b : Dt) (w : World) (hx : DataAt w w.heap.size x a) (hy : DataAt w w.heap.size y b) (la : Wide a) (lb : Wide b) (kh : a.host.length ≤ maxLen) (km : a.mail.length ≤ maxLen) :
    Calls Try.prog 12 #[x.val a, y.val b] w (Gave w (.bool (exactW a b))) := by
  have HC1 := Lib.hid (fun W (h : Boxes w x y a b W) => ref_dsame_wide x y a b W h.atA h.atB la lb)
  have HC2 := Lib.hid (fun W (h : Boxes w x y a b W) => exact_any x.Ah y.Ah a.host.length b.host.length x.ch y.ch w.heap.size a.host b.host W rfl rfl h.da.h h.db.h kh)
  have HC3 := Lib.hid (fun W (h : Boxes w x y a b W) => exact_any x.Am y.Am a.mail.length b.mail.length x.cm y.cm w.heap.size a.mail b.mail W rfl rfl h.da.m h.db.m km)
  have HX := Lib.hid (Boxes.made hx hy)
  have HS := Lib.hid (show exactW a b = (sameD a b && (decide (a.host = b.host) && decide (a.mail = b.mail))) from rfl)
  clear hx hy la lb kh km
  go_enter Try.func12, Try.ntmps12
  go_wp2_with fail
  obtain ⟨W0, hW0⟩ : ∃ W0, W0 = (w.alloc (.cells #[.slice x.Ab a.bytes.length x.cb, .slice x.Ah a.host.length x.ch, .slice x.Am a.mail.length x.cm, .slice x.An a.nums.length x.cn, .slice x.At a.texts.length x.ct] 34)).alloc (.cells #[.slice y.Ab b.bytes.length y.cb, .slice y.Ah b.host.length y.ch, .slice y.Am b.mail.length y.cm, .slice y.An b.nums.length y.cn, .slice y.At b.texts.length y.ct] 34) := ⟨_, rfl⟩
  rw [← hW0]
  have hx0 : Boxes w x y a b W0 := by rw [hW0]; exact HX.out
  clear HX hW0
  refine (HC1.out W0 hx0).mono ?_
  intro e W1 hO
  obtain ⟨he, hb⟩ := hO
  have hx1 := hx0.step hb
  clear hb hx0
  cases hv : sameD a b with
  | false =>
    rw [hv] at he HS
    subst he
    have HB := Lib.hid hx1.below
    clear hx1
    go_wp2
    go_ret
    exact ⟨by rw [HS.out]; rfl, HB.out⟩
  | true =>
  rw [hv] at he HS
  subst he
  have p1 : W1.cell? ⟨w.heap.size, 1, none⟩ = some (.slice x.Ah a.host.length x.ch) := hx1.ba.cell 1
  have q1 : W1.cell? ⟨w.heap.size + 1, 1, none⟩ = some (.slice y.Ah b.host.length y.ch) := hx1.bb.cell 1
  go_wp2_with fail
  refine (HC2.out W1 hx1).mono ?_
  intro e W2 hO
  obtain ⟨he, hb⟩ := gave_drewn hO
  have hx2 := hx1.step hb
  clear hO hb hx1 p1 q1
  cases hv : decide (a.host = b.host) with
  | false =>
    rw [hv] at he HS
    subst he
    have HB := Lib.hid hx2.below
    clear hx2
    go_wp2
    go_ret
    exact ⟨by rw [HS.out]; rfl, HB.out⟩
  | true =>
  rw [hv] at he HS
  subst he
  have p2 : W2.cell? ⟨w.heap.size, 2, none⟩ = some (.slice x.Am a.mail.length x.cm) := hx2.ba.cell 2
  have q2 : W2.cell? ⟨w.heap.size + 1, 2, none⟩ = some (.slice y.Am b.mail.length y.cm) := hx2.bb.cell 2
  go_wp2_with fail
  refine (HC3.out W2 hx2).mono ?_
  intro e W3 hO
  obtain ⟨he, hb⟩ := gave_drewn hO
  have hx3 := hx2.step hb
  clear hO hb hx2 p2 q2
  subst he
  have HB := Lib.hid hx3.below
  clear hx3
  go_wp2
  go_ret
  refine ⟨?_, HB.out⟩
  rw [HS.out]
  simp

theorem sameD_turn (a b : Dt) : sameD a b = sameD b a := by
  have h : ∀ {α : Type} [DecidableEq α] (x y : α), decide (x = y) = decide (y = x) := fun x y => decide_eq_decide.2 ⟨Eq.symm, Eq.symm⟩
  unfold sameD eqN
  rw [h a.bytes, h a.nums, h a.texts, h (lowN a.host), h (lowN a.mail)]

def InRel (w : World) (x : DV) (a : Dt) (ps : List (DV × Dt)) (i : Value) (wr : World) : Prop :=
  ∃ k : Nat, k ≤ ps.length ∧ i = .int .i64 k ∧ (dats (ps.take k)).any (fun e => sameD a e) = false ∧ Whole wr w.heap.size 34 [.slice x.Ab a.bytes.length x.cb, .slice x.Ah a.host.length x.ch, .slice x.Am a.mail.length x.cm, .slice x.An a.nums.length x.cn, .slice x.At a.texts.length x.ct] ∧ Below w.heap.size w wr

set_option maxRecDepth 20000 in
set_option maxHeartbeats 4000000 in
theorem in_any (w : World) (x : DV) (a : Dt) (A : Option Addr) (c : Nat) (ps : List (DV × Dt)) (hx : DataAt w w.heap.size x a) (hp : DsAt w w.heap.size A ps) (la : Wide a) (hc : ∀ p ∈ ps, Wide p.2) (hl : ps.length ≤ maxLen) :
    Calls Try.prog 30 #[.slice A ps.length c, x.val a] w (Gave w (.bool (hasD (dats ps) a))) := by
  unfold maxLen at hl
  have HP := Lib.hid hp
  have HC := Lib.hid hc
  have HX := Lib.hid hx
  have HB0 := Lib.hid ((Below.refl w.heap.size w).alloc (Nat.le_refl _) (.cells #[.slice x.Ab a.bytes.length x.cb, .slice x.Ah a.host.length x.ch, .slice x.Am a.mail.length x.cm, .slice x.An a.nums.length x.cn, .slice x.At a.texts.length x.ct] 34))
  have HW0 := Lib.hid (Whole.made w [.slice x.Ab a.bytes.length x.cb, .slice x.Ah a.host.length x.ch, .slice x.Am a.mail.length x.cm, .slice x.An a.nums.length x.cn, .slice x.At a.texts.length x.ct] 34)
  clear hp hc hx
  go_enter Try.func30, Try.ntmps30
  go_wp2
  go_loopw [5] (InRel w x a ps) (fun i _ => ps.length - (intOf i).toNat)
  case atStart => exact ⟨0, Nat.zero_le _, rfl, rfl, HW0.out, HB0.out⟩
  case round =>
    obtain ⟨k, hk, rfl, hn, hwx, hb⟩ := hrel
    have HN := Lib.hid hn
    have HB := Lib.hid hb
    have hz := hb.size
    have HXX := Lib.hid hwx
    clear hn hb hwx
    by_cases hlt : k < ps.length
    · obtain ⟨b, off, rfl, hbH, hd, q0, q1, q2, q3, q4⟩ := HP.out.at_ hlt
      have hwd := HC.out _ (List.getElem_mem hlt)
      have HI := Lib.hid (any_snoc (fun e => sameD a e) hlt HN.out)
      revert hd q0 q1 q2 q3 q4 hwd HI
      generalize ps[k] = p
      obtain ⟨y, d⟩ := p
      intro hd q0 q1 q2 q3 q4 hwd HI
      dsimp only at *
      have HD := Lib.hid hd
      have HWD := Lib.hid hwd
      have Q0 := Lib.hid q0
      have Q1 := Lib.hid q1
      have Q2 := Lib.hid q2
      have Q3 := Lib.hid q3
      have Q4 := Lib.hid q4
      clear hd hwd q0 q1 q2 q3 q4
      have hbW : b < w.heap.size := hbH
      have hk0 : (0 : Int) ≤ (k : Int) := by omega
      have hk1 : (k : Int) < (ps.length : Int) := by omega
      have HBB := Lib.hid HB.out.drew
      have HXW := Lib.hid (show Whole wr.drew w.heap.size 34 [.slice x.Ab a.bytes.length x.cb, .slice x.Ah a.host.length x.ch, .slice x.Am a.mail.length x.cm, .slice x.An a.nums.length x.cn, .slice x.At a.texts.length x.ct] from HXX.out)
      go_wp2
      cases hv : sameD a d with
      | true =>
        have HT := Lib.hid (HI.out.1 hv)
        have HSM := Lib.hid (fun W (h : Below w.heap.size w W) => ref_dsame_wide y x d a W ((HD.out.below h).mono h.size) ((HX.out.below h).mono h.size) HWD.out la)
        rw [sameD_turn d a, hv] at HSM
        clear HI hv
        go_region_held3 (fun W => (W.cell? ⟨b, off + k * 5, none⟩ = some (.slice y.Ab d.bytes.length y.cb) ∧ W.cell? ⟨b, off + k * 5 + 1, none⟩ = some (.slice y.Ah d.host.length y.ch) ∧ W.cell? ⟨b, off + k * 5 + 2, none⟩ = some (.slice y.Am d.mail.length y.cm) ∧ W.cell? ⟨b, off + k * 5 + 3, none⟩ = some (.slice y.An d.nums.length y.cn) ∧ W.cell? ⟨b, off + k * 5 + 4, none⟩ = some (.slice y.At d.texts.length y.ct)) ∧ (W.cell? ⟨w.heap.size, 0, none⟩ = some (.slice x.Ab a.bytes.length x.cb) ∧ W.cell? ⟨w.heap.size, 1, none⟩ = some (.slice x.Ah a.host.length x.ch) ∧ W.cell? ⟨w.heap.size, 2, none⟩ = some (.slice x.Am a.mail.length x.cm) ∧ W.cell? ⟨w.heap.size, 3, none⟩ = some (.slice x.An a.nums.length x.cn) ∧ W.cell? ⟨w.heap.size, 4, none⟩ = some (.slice x.At a.texts.length x.ct)))
          (exact ⟨⟨(HBB.out.cell (p := ⟨b, off + k * 5, none⟩) hbW).trans Q0.out, (HBB.out.cell (p := ⟨b, off + k * 5 + 1, none⟩) hbW).trans Q1.out, (HBB.out.cell (p := ⟨b, off + k * 5 + 2, none⟩) hbW).trans Q2.out, (HBB.out.cell (p := ⟨b, off + k * 5 + 3, none⟩) hbW).trans Q3.out, (HBB.out.cell (p := ⟨b, off + k * 5 + 4, none⟩) hbW).trans Q4.out⟩, ⟨HXW.out.cell 0, HXW.out.cell 1, HXW.out.cell 2, HXW.out.cell 3, HXW.out.cell 4⟩⟩)
          ((first
            | (go_at_call 31
               refine (HSM.out _ HBB.out).mono ?_
               rintro e wn ⟨rfl, hb⟩
               have HXW := Lib.hid (HXW.out.below hb HXW.out.lt)
               have HBB := Lib.hid (HBB.out.trans (hb.mono HBB.out.size))
               clear hb)))
        go_wp2
        go_ret
        exact ⟨ret_bool HT.out.symm, HBB.out⟩
      | false =>
        have HT := Lib.hid (HI.out.2 hv)
        have HSM := Lib.hid (fun W (h : Below w.heap.size w W) => ref_dsame_wide y x d a W ((HD.out.below h).mono h.size) ((HX.out.below h).mono h.size) HWD.out la)
        rw [sameD_turn d a, hv] at HSM
        clear HI hv
        go_region_held3 (fun W => (W.cell? ⟨b, off + k * 5, none⟩ = some (.slice y.Ab d.bytes.length y.cb) ∧ W.cell? ⟨b, off + k * 5 + 1, none⟩ = some (.slice y.Ah d.host.length y.ch) ∧ W.cell? ⟨b, off + k * 5 + 2, none⟩ = some (.slice y.Am d.mail.length y.cm) ∧ W.cell? ⟨b, off + k * 5 + 3, none⟩ = some (.slice y.An d.nums.length y.cn) ∧ W.cell? ⟨b, off + k * 5 + 4, none⟩ = some (.slice y.At d.texts.length y.ct)) ∧ (W.cell? ⟨w.heap.size, 0, none⟩ = some (.slice x.Ab a.bytes.length x.cb) ∧ W.cell? ⟨w.heap.size, 1, none⟩ = some (.slice x.Ah a.host.length x.ch) ∧ W.cell? ⟨w.heap.size, 2, none⟩ = some (.slice x.Am a.mail.length x.cm) ∧ W.cell? ⟨w.heap.size, 3, none⟩ = some (.slice x.An a.nums.length x.cn) ∧ W.cell? ⟨w.heap.size, 4, none⟩ = some (.slice x.At a.texts.length x.ct)))
          (exact ⟨⟨(HBB.out.cell (p := ⟨b, off + k * 5, none⟩) hbW).trans Q0.out, (HBB.out.cell (p := ⟨b, off + k * 5 + 1, none⟩) hbW).trans Q1.out, (HBB.out.cell (p := ⟨b, off + k * 5 + 2, none⟩) hbW).trans Q2.out, (HBB.out.cell (p := ⟨b, off + k * 5 + 3, none⟩) hbW).trans Q3.out, (HBB.out.cell (p := ⟨b, off + k * 5 + 4, none⟩) hbW).trans Q4.out⟩, ⟨HXW.out.cell 0, HXW.out.cell 1, HXW.out.cell 2, HXW.out.cell 3, HXW.out.cell 4⟩⟩)
          ((first
            | (go_at_call 31
               refine (HSM.out _ HBB.out).mono ?_
               rintro e wn ⟨rfl, hb⟩
               have HXW := Lib.hid (HXW.out.below hb HXW.out.lt)
               have HBB := Lib.hid (HBB.out.trans (hb.mono HBB.out.size))
               clear hb)))
        go_wp2
        exact ⟨⟨k + 1, by omega, by go_num, HT.out, HXW.out, HBB.out⟩, by simp [intOf]; omega⟩
    · obtain rfl : k = ps.length := by omega
      have HF := Lib.hid (show hasD (dats ps) a = false by have h := HN.out; rw [List.take_length] at h; exact h)
      go_wp2
      go_ret
      exact ⟨ret_bool HF.out.symm, HB.out⟩

end Go.Proofs.Ythppgofpbpjglaa

namespace Go.Proofs.Ythppgofpbpjglaa
open Go.RowKit

/-- A fact in memory: where its slices lie, and what it says. -/
structure FV where
  A : Option Addr
  c : Nat
  name : List (List UInt8)
  h : Fh
  sA : Option Addr
  sc : Nat
  sp : List (DV × Dt)
  zA : Option Addr
  zc : Nat
  zone : List (List UInt8)
  d : DV
  soa : Dt
def FV.fact (x : FV) : Fc := ⟨x.name, x.h, dats x.sp, x.zone, x.soa⟩
/-- Its cells. -/
def cellsF (x : FV) : List Value := [.slice x.A x.name.length x.c, .int .i64 x.h.typ, .int .i64 x.h.knd, .int .i64 x.h.rank, .int .i64 x.h.got, .int .i64 x.h.ttl, .slice x.sA x.sp.length x.sc, .slice x.zA x.zone.length x.zc,
  .slice x.d.Ab x.soa.bytes.length x.d.cb, .slice x.d.Ah x.soa.host.length x.d.ch, .slice x.d.Am x.soa.mail.length x.d.cm, .slice x.d.An x.soa.nums.length x.d.cn, .slice x.d.At x.soa.texts.length x.d.ct]
abbrev FV.val (x : FV) : Value := .agg #[.slice x.A x.name.length x.c, .int .i64 x.h.typ, .int .i64 x.h.knd, .int .i64 x.h.rank, .int .i64 x.h.got, .int .i64 x.h.ttl, .slice x.sA x.sp.length x.sc, .slice x.zA x.zone.length x.zc,
  .slice x.d.Ab x.soa.bytes.length x.d.cb, .slice x.d.Ah x.soa.host.length x.d.ch, .slice x.d.Am x.soa.mail.length x.d.cm, .slice x.d.An x.soa.nums.length x.d.cn, .slice x.d.At x.soa.texts.length x.d.ct]
theorem cellsF_len (x : FV) : (cellsF x).length = 13 := rfl
theorem cellsF_one (xs : List FV) : ∀ u ∈ xs.flatMap cellsF, u.oneCell' = true := by
  intro u hu
  obtain ⟨p, _, hp⟩ := List.mem_flatMap.1 hu
  simp only [cellsF, List.mem_cons, List.not_mem_nil, or_false] at hp
  rcases hp with rfl | rfl | rfl | rfl | rfl | rfl | rfl | rfl | rfl | rfl | rfl | rfl | rfl <;> rfl
theorem fact_cells : Try.prog.cellsOf 50 = 13 := by kernel_rfl

/-- In the world w the fact's lists read, below H. -/
structure FAt (w : World) (H : Nat) (x : FV) : Prop where
  n : Row w H x.A (x.name.map sv)
  s : DsAt w H x.sA x.sp
  z : Row w H x.zA (x.zone.map sv)
  d : DataAt w H x.d x.soa
  ln : x.name.length ≤ x.c
  lz : x.zone.length ≤ x.zc
  ls : x.sp.length ≤ x.sc
  ks : x.sc ≤ maxLen
section
variable {w w' : World} {H H' : Nat} {x : FV}
theorem FAt.below (h : FAt w H x) (hb : Below H w w') : FAt w' H x := ⟨h.n.below hb, h.s.below hb, h.z.below hb, h.d.below hb, h.ln, h.lz, h.ls, h.ks⟩
theorem FAt.mono (h : FAt w H x) (hb : H ≤ H') : FAt w H' x := ⟨h.n.mono hb, h.s.mono hb, h.z.mono hb, h.d.mono hb, h.ln, h.lz, h.ls, h.ks⟩
end
/-- Facts, one behind the other. -/
def FsAt (w : World) (H : Nat) (A : Option Addr) (xs : List FV) : Prop := Row w H A (xs.flatMap cellsF) ∧ ∀ x ∈ xs, FAt w H x
def facts (xs : List FV) : List Fc := xs.map FV.fact
theorem FsAt.below {w w' : World} {H : Nat} {A : Option Addr} {xs : List FV} (h : FsAt w H A xs) (hb : Below H w w') : FsAt w' H A xs := ⟨h.1.below hb, fun p hp => (h.2 p hp).below hb⟩
theorem FsAt.mono {w : World} {H H' : Nat} {A : Option Addr} {xs : List FV} (h : FsAt w H A xs) (hb : H ≤ H') : FsAt w H' A xs := ⟨h.1.mono hb, fun p hp => (h.2 p hp).mono hb⟩
/-- The cells of the fact number i of a list. -/
theorem FsAt.at_ {w : World} {H : Nat} {A : Option Addr} {xs : List FV} (h : FsAt w H A xs) {i : Nat} (hi : i < xs.length) :
    ∃ b off, A = some ⟨b, off, none⟩ ∧ b < H ∧ FAt w H xs[i] ∧ ∀ j v, (cellsF xs[i])[j]? = some v → w.cell? ⟨b, off + i * 13 + j, none⟩ = some v := by
  obtain ⟨b, off, e, hb, hc⟩ := h.1.part cellsF_len (by omega) hi
  exact ⟨b, off, e, hb, h.2 _ (List.getElem_mem hi), hc⟩

/-- Data whose lengths memory holds, and whose numbers a variable holds. -/
structure DatIn (d : Dt) : Prop where
  w : Wide d
  t : ∀ k (h : k < d.texts.length), (d.texts[k]).length ≤ maxLen
  n : ∀ n ∈ d.nums, (Lit.int .i64 n).wf = true
theorem DatIn.ref {d : Dt} (h : DatIn d) : RefIn d := ⟨h.w.h, h.w.m, h.w.t, h.t, fun n hn => by
  have h1 : IntKind.i64.max = 9223372036854775807 := rfl
  have h2 := h.n n hn
  simp only [Lit.wf, Bool.and_eq_true, decide_eq_true_eq] at h2
  omega⟩
theorem RIn.dat {r : Rt} (h : RIn r) : DatIn r.data := ⟨h.d, h.lt, h.nm⟩
structure FhIn (h : Fh) : Prop where
  t : (Lit.int .i64 h.typ).wf = true
  k : (Lit.int .i64 h.knd).wf = true
  r : (Lit.int .i64 h.rank).wf = true
  g : (Lit.int .i64 h.got).wf = true
  l : (Lit.int .i64 h.ttl).wf = true
/-- A fact whose lengths memory holds. -/
structure FIn (x : FV) : Prop where
  h : FhIn x.h
  n : WideN x.name
  z : WideN x.zone
  s : ∀ p ∈ x.sp, DatIn p.2
  d : DatIn x.soa

end Go.Proofs.Ythppgofpbpjglaa

namespace Go.Proofs.Ythppgofpbpjglaa
open Go.RowKit

























end Go.Proofs.Ythppgofpbpjglaa

namespace Go.Proofs.Ythppgofpbpjglaa
open Go.RowKit





































def LastRel (w : World) (M : Nat) (a b : List (List UInt8)) (i : Value) (wr : World) : Prop :=
  ∃ k : Nat, k ≤ M ∧ i = .int .i64 k ∧ (keyN a).take k = (keyN b).take k ∧ Below w.heap.size w wr

theorem key_snoc {a b : List (List UInt8)} {k : Nat} (h : (keyN a).take k = (keyN b).take k) (ha : k < a.length) (hb : k < b.length) (e : cmpB (lowL (a[a.length - 1 - k]'(by omega))) (lowL (b[b.length - 1 - k]'(by omega))) = 0) :
    (keyN a).take (k + 1) = (keyN b).take (k + 1) := by
  rw [List.take_succ_eq_append_getElem (by rw [length_keyN]; exact ha), List.take_succ_eq_append_getElem (by rw [length_keyN]; exact hb), h, keyN_at ha, keyN_at hb, cmpB_tot.eq_ _ _ e]
theorem key_part {a b : List (List UInt8)} {k : Nat} (h : (keyN a).take k = (keyN b).take k) (ha : k < a.length) (hb : k < b.length) (e : cmpB (lowL (a[a.length - 1 - k]'(by omega))) (lowL (b[b.length - 1 - k]'(by omega))) ≠ 0) :
    cmpN a b = cmpB (lowL (a[a.length - 1 - k]'(by omega))) (lowL (b[b.length - 1 - k]'(by omega))) := by
  unfold cmpN
  rw [lexC_at cmpB_tot h (by rw [length_keyN]; exact ha) (by rw [length_keyN]; exact hb) (by rw [keyN_at ha, keyN_at hb]; exact e), keyN_at ha, keyN_at hb]
theorem key_end {a b : List (List UInt8)} {k : Nat} (h : (keyN a).take k = (keyN b).take k) (hk : k = min a.length b.length) : cmpN a b = Lib.compareInt a.length b.length := by
  unfold cmpN
  rw [lexC_end cmpB_tot h (by rw [length_keyN, length_keyN]; exact hk), length_keyN, length_keyN]










































































































































































































end Go.Proofs.Ythppgofpbpjglaa

namespace Go.Proofs.Ythppgofpbpjglaa
open Go.RowKit

theorem szN_drop_le (n : List (List UInt8)) (k : Nat) : szN (n.drop k) ≤ szN n := by
  induction n generalizing k with
  | nil => simp
  | cons x n ih =>
    cases k with
    | zero => simp
    | succ k => simp only [List.drop_succ_cons, szN]; have := ih k; omega

set_option maxHeartbeats 400000 in
theorem under_short (A B : Option Addr) (c1 c2 : Nat) (n z : List (List UInt8)) (w : World) (hl : n.length < z.length) :
    Calls Try.prog 81 #[.slice A n.length c1, .slice B z.length c2] w (Gave w (.bool (underN n z))) := by
  have HF := Lib.hid (show underN n z = false by unfold underN; rw [decide_eq_false (by omega)]; rfl)
  have d1 : decide (z.length ≤ n.length) = false := by simp; omega
  go_enter Try.func81, Try.ntmps81
  go_wp2
  go_ret
  exact ⟨ret_bool HF.out.symm, Below.refl _ _⟩

set_option maxHeartbeats 400000 in
theorem under_long (A B : Option Addr) (c1 c2 : Nat) (n z : List (List UInt8)) (w : World) (hA : Row w w.heap.size A (n.map sv)) (hB : Row w w.heap.size B (z.map sv)) (hs1 : szN n ≤ maxLen) (hs2 : szN z ≤ maxLen) (hl : z.length ≤ n.length) (hc : n.length ≤ c1) (hz : 0 < z.length) :
    Calls Try.prog 81 #[.slice A n.length c1, .slice B z.length c2] w (Gave w (.bool (underN n z))) := by
  have HF := Lib.hid (show underN n z = eqN (n.drop (n.length - z.length)) z by unfold underN; rw [decide_eq_true hl]; rfl)
  have hn1 := length_lt_szN n
  have hn2 := length_lt_szN z
  have d1 : decide (z.length ≤ n.length) = true := by simp; omega
  obtain ⟨b, off, rfl, _, _⟩ := hA.some_ (by rw [List.length_map]; omega)
  have hd := hA.drop (k := n.length - z.length) rfl
  rw [← List.map_drop] at hd
  have HD := Lib.hid hd
  have HB := Lib.hid hB
  have hsd : szN (n.drop (n.length - z.length)) ≤ maxLen := Nat.le_trans (szN_drop_le _ _) hs1
  unfold maxLen at hs1
  clear hA hB hd
  go_enter Try.func81, Try.ntmps81
  go_wp2_with fail
  refine (equal_any _ _ _ _ _ _ _ _ _ _ (by rw [List.length_drop]) rfl HD.out HB.out (Nat.le_refl _) hsd hs2).mono ?_
  rintro e w1 ⟨rfl, hb1⟩
  have HB1 := Lib.hid hb1
  clear hb1
  go_wp2
  go_ret
  exact ⟨ret_bool HF.out.symm, HB1.out⟩

set_option maxHeartbeats 400000 in
theorem under_root (A B : Option Addr) (c1 c2 : Nat) (n : List (List UInt8)) (w : World) (hA : Row w w.heap.size A (n.map sv)) (hs1 : szN n ≤ maxLen) (hc : n.length ≤ c1) :
    Calls Try.prog 81 #[.slice A n.length c1, .slice B 0 c2] w (Gave w (.bool (underN n []))) := by
  have HF := Lib.hid (show underN n [] = eqN [] [] by simp [underN, eqN, lowN])
  have hn1 := length_lt_szN n
  have HC := Lib.hid (fun A' B' m1 c1' c2' w' (h : 0 = m1) => equal_any A' B' m1 0 c1' c2' 0 [] [] w' h rfl (Row.empty _ _ _) (Row.empty _ _ _) (Nat.zero_le _) (by simp [szN, maxLen]) (by simp [szN, maxLen]))
  generalize eqN [] [] = r at HC HF
  unfold maxLen at hs1
  by_cases hn : n = []
  · subst hn
    clear hA
    go_enter Try.func81, Try.ntmps81
    go_wp2_with fail
    all_goals
      refine (HC.out _ _ _ _ _ _ (by simp)).mono ?_
      rintro e w1 ⟨rfl, hb1⟩
      have HB1 := Lib.hid hb1
      clear hb1
      go_wp2
      go_ret
      exact ⟨ret_bool HF.out.symm, HB1.out⟩
  · have hnl : 0 < n.length := by
      rcases n with _ | ⟨x, n⟩
      · exact absurd rfl hn
      · simp
    obtain ⟨b, off, rfl, _, _⟩ := hA.some_ (by rw [List.length_map]; exact hnl)
    clear hA hn
    by_cases hcc : c1 = n.length
    · subst hcc
      go_enter Try.func81, Try.ntmps81
      go_wp2_with fail
      refine (HC.out _ _ _ _ _ _ (by omega)).mono ?_
      rintro e w1 ⟨rfl, hb1⟩
      have HB1 := Lib.hid hb1
      clear hb1
      go_wp2
      go_ret
      exact ⟨ret_bool HF.out.symm, HB1.out⟩
    · have hlt : n.length < c1 := by omega
      clear hcc
      go_enter Try.func81, Try.ntmps81
      go_wp2_with fail
      refine (HC.out _ _ _ _ _ _ (by omega)).mono ?_
      rintro e w1 ⟨rfl, hb1⟩
      have HB1 := Lib.hid hb1
      clear hb1
      go_wp2
      go_ret
      exact ⟨ret_bool HF.out.symm, HB1.out⟩

theorem under_any (A B : Option Addr) (m1 m2 c1 c2 H : Nat) (n z : List (List UInt8)) (w : World) (hl1 : n.length = m1) (hl2 : z.length = m2) (hA : Row w H A (n.map sv)) (hB : Row w H B (z.map sv)) (hH : H ≤ w.heap.size)
    (hs1 : szN n ≤ maxLen) (hs2 : szN z ≤ maxLen) (hc : m1 ≤ c1) :
    Calls Try.prog 81 #[.slice A m1 c1, .slice B m2 c2] w (Gave w (.bool (underN n z))) := by
  subst hl1
  subst hl2
  by_cases hl : z.length ≤ n.length
  · by_cases hz : z = []
    · subst hz
      exact under_root A B c1 c2 n w (hA.mono hH) hs1 hc
    · exact under_long A B c1 c2 n z w (hA.mono hH) (hB.mono hH) hs1 hs2 hl hc (by
        rcases z with _ | ⟨x, z⟩
        · exact absurd rfl hz
        · simp)
  · exact under_short A B c1 c2 n z w (by omega)

end Go.Proofs.Ythppgofpbpjglaa

namespace Go.Proofs.Ythppgofpbpjglaa
open Go.RowKit







































































































end Go.Proofs.Ythppgofpbpjglaa

namespace Go.Proofs.Ythppgofpbpjglaa
open Go.RowKit

theorem typedB_low {k : Int} (h : k < 1) : typedB k = false := by unfold typedB; rw [decide_eq_false (by omega)]; rfl
theorem typedB_high {k : Int} (h : 65534 < k) : typedB k = false := by unfold typedB; rw [decide_eq_false (show ¬ k ≤ 65534 by omega)]; simp
theorem typedB_41 : typedB 41 = false := by decide +kernel
theorem typedB_255 : typedB 255 = false := by decide +kernel
theorem typedB_yes {k : Int} (h1 : 1 ≤ k) (h2 : k ≤ 65534) (h3 : k ≠ 41) (h4 : k ≠ 255) : typedB k = true := by simp [typedB, h1, h2, h3, h4]





















































































































theorem headB_parts {n : List (List UInt8)} {h : Fh} (hh : headB n h = true) : soundN n = true ∧ 1 ≤ h.rank ∧ h.rank ≤ 4 ∧ timeB h.got = true ∧ 0 ≤ h.ttl ∧ h.ttl ≤ 604800 := by
  unfold headB at hh
  simpa only [Bool.and_eq_true, decide_eq_true_eq] using hh

































end Go.Proofs.Ythppgofpbpjglaa

namespace Go.Proofs.Ythppgofpbpjglaa
open Go.RowKit

theorem hasB_not {f : Fc} (h : typedB f.h.typ = false) : hasB f = false := by unfold hasB; rw [h]; rfl
theorem hasB_few {f : Fc} (h : f.set.length < 1) : hasB f = false := by unfold hasB; rw [decide_eq_false (show ¬ 1 ≤ f.set.length by omega)]; simp
theorem hasB_many {f : Fc} (h : 64 < f.set.length) : hasB f = false := by unfold hasB; rw [decide_eq_false (show ¬ f.set.length ≤ 64 by omega)]; simp
theorem hasB_zone {f : Fc} (h : 0 < f.zone.length) : hasB f = false := by unfold hasB; rw [decide_eq_false (show ¬ f.zone.length = 0 by omega)]; simp
theorem hasB_soa {f : Fc} (h : emptyD f.soa = false) : hasB f = false := by unfold hasB; rw [h]; simp
theorem hasB_set {f : Fc} (h : setOk f.h.typ f.set = false) : hasB f = false := by unfold hasB; rw [h]; simp
theorem hasB_yes {f : Fc} (h0 : typedB f.h.typ = true) (h1 : ¬ f.set.length < 1) (h2 : ¬ 64 < f.set.length) (h3 : ¬ 0 < f.zone.length) (h4 : emptyD f.soa = true) : hasB f = setOk f.h.typ f.set := by
  unfold hasB
  rw [h0, decide_eq_true (show 1 ≤ f.set.length by omega), decide_eq_true (show f.set.length ≤ 64 by omega), decide_eq_true (show f.zone.length = 0 by omega), h4]
  rfl
theorem emptyD_0 {d : Dt} (h : 0 < d.bytes.length) : emptyD d = false := by unfold emptyD; rw [decide_eq_false (show ¬ d.bytes.length = 0 by omega)]; rfl
theorem emptyD_1 {d : Dt} (h : 0 < d.host.length) : emptyD d = false := by unfold emptyD; rw [decide_eq_false (show ¬ d.host.length = 0 by omega)]; simp
theorem emptyD_2 {d : Dt} (h : 0 < d.mail.length) : emptyD d = false := by unfold emptyD; rw [decide_eq_false (show ¬ d.mail.length = 0 by omega)]; simp
theorem emptyD_3 {d : Dt} (h : 0 < d.nums.length) : emptyD d = false := by unfold emptyD; rw [decide_eq_false (show ¬ d.nums.length = 0 by omega)]; simp
theorem emptyD_4 {d : Dt} (h : 0 < d.texts.length) : emptyD d = false := by unfold emptyD; rw [decide_eq_false (show ¬ d.texts.length = 0 by omega)]; simp
theorem emptyD_yes {d : Dt} (h0 : ¬ 0 < d.bytes.length) (h1 : ¬ 0 < d.host.length) (h2 : ¬ 0 < d.mail.length) (h3 : ¬ 0 < d.nums.length) (h4 : ¬ 0 < d.texts.length) : emptyD d = true := by
  unfold emptyD
  rw [decide_eq_true (show d.bytes.length = 0 by omega), decide_eq_true (show d.host.length = 0 by omega), decide_eq_true (show d.mail.length = 0 by omega), decide_eq_true (show d.nums.length = 0 by omega), decide_eq_true (show d.texts.length = 0 by omega)]
  rfl
theorem DsAt.take {w : World} {H : Nat} {A : Option Addr} {ps : List (DV × Dt)} (h : DsAt w H A ps) (k : Nat) (hk : k ≤ ps.length) : DsAt w H A (ps.take k) := by
  refine ⟨?_, fun p hp => h.2 p (List.mem_of_mem_take hp)⟩
  have h1 := h.1.take (k * 5)
  have e : (ps.flatMap cellsD).take (k * 5) = (ps.take k).flatMap cellsD := by
    conv => lhs; rw [← List.take_append_drop k ps, List.flatMap_append]
    rw [List.take_left']
    rw [length_flat cellsD_len, List.length_take, Nat.min_eq_left hk]
  rwa [e] at h1
theorem dats_take (ps : List (DV × Dt)) (k : Nat) : (dats ps).take k = dats (ps.take k) := by simp [dats]
theorem dats_step {ps : List (DV × Dt)} {k : Nat} (hk : k < ps.length) : dats (ps.take (k + 1)) = dats (ps.take k) ++ [(ps[k]).2] := by
  rw [List.take_succ_eq_append_getElem hk, dats_append]
  rfl
theorem setOk_fails {kd : Int} {ps : List (DV × Dt)} {k : Nat} (_ : k < ps.length) (h : setOk kd (dats (ps.take (k + 1))) = false) : setOk kd (dats ps) = false := by
  have e : dats ps = dats (ps.take (k + 1)) ++ dats (ps.drop (k + 1)) := by rw [← dats_append, List.take_append_drop]
  rw [e]
  unfold setOk at h ⊢
  rw [setFrom_append, h]
  rfl

def HasRel (w : World) (x : FV) (i : Value) (wr : World) : Prop :=
  ∃ k : Nat, k ≤ x.sp.length ∧ i = .int .i64 k ∧ setOk x.h.typ (dats (x.sp.take k)) = true ∧ Whole wr w.heap.size 50 (cellsF x) ∧ Below w.heap.size w wr































































































































































































































































































































































































































































































end Go.Proofs.Ythppgofpbpjglaa

namespace Go.Proofs.Ythppgofpbpjglaa
open Go.RowKit

def ivT (n : Int) : Value := .int .i64 n

theorem allT_snoc {n : List Int} {k : Nat} (h : k < n.length) (ha : timesB (n.take k) = true) (hp : timeB n[k] = true) : timesB (n.take (k + 1)) = true := by
  unfold timesB at ha ⊢
  rw [List.take_succ_eq_append_getElem h, List.all_append, ha]
  simp [hp]
theorem allT_not {n : List Int} {k : Nat} (h : k < n.length) (hp : timeB n[k] = false) : timesB n = false := by
  unfold timesB
  rw [List.all_eq_false]
  exact ⟨n[k], List.getElem_mem h, by simp [hp]⟩
theorem Row.ivT_at {w : World} {H : Nat} {A : Option Addr} {l : List Int} (h : Row w H A (l.map ivT)) {k : Nat} (hk : k < l.length) : ∃ b off, A = some ⟨b, off, none⟩ ∧ b < H ∧ w.cell? ⟨b, off + k, none⟩ = some (.int .i64 l[k]) := by
  obtain ⟨b, off, e, hb, hc⟩ := h.at_ (k := k) (by rw [List.length_map]; exact hk)
  exact ⟨b, off, e, hb, by rw [hc, List.getElem_map]; rfl⟩

def TimesRel (l : List Int) (i : Value) : Prop := ∃ k : Nat, k ≤ l.length ∧ i = .int .i64 k ∧ timesB (l.take k) = true









































end Go.Proofs.Ythppgofpbpjglaa

namespace Go.Proofs.Ythppgofpbpjglaa
open Go.RowKit

theorem row_made_ints (w : World) (l : List Int) (cs : Array Value) (t : TypeId) (h : cs.toList = l.map ivT) : Row (w.alloc (.cells cs t)) (w.heap.size + 1) (some ⟨w.heap.size, 0, none⟩) (l.map ivT) := by
  rw [← h]
  exact Row.made w cs t


















































theorem gtr0 (x : Int) : decide (x > 0) = decide (0 < x) := rfl










end Go.Proofs.Ythppgofpbpjglaa

namespace Go.Proofs.Ythppgofpbpjglaa
open Go.RowKit

theorem times4_three {g t k n : Int} (h : timesB [g, t, k, n] = true) : timesB [g, t, n] = true ∧ 0 ≤ k ∧ k ≤ 36028797018963968 := by
  rw [times4] at h
  simp only [Bool.and_eq_true] at h
  exact ⟨times3_true h.1 h.2.1 h.2.2.2, timeB_yes h.2.2.1⟩
theorem staleB_no {g t k n : Int} (h : timesB [g, t, k, n] = false) : staleB g t k n = false := by unfold staleB; rw [h]; rfl
theorem staleB_fresh {g t k n : Int} (h : 0 < leftI g t n) : staleB g t k n = false := by
  unfold staleB
  rw [show (leftI g t n == 0) = false from beq_eq_false_iff_ne.2 (by omega)]
  simp
theorem staleB_yes {g t k n : Int} (h : timesB [g, t, k, n] = true) (h' : ¬ 0 < leftI g t n) : staleB g t k n = decide (n < g + t + k) := by
  have h1 := leftI_bounds g t n
  unfold staleB
  rw [h, show leftI g t n = 0 by omega]
  rfl












































theorem tellI_no {g t n : Int} (h : timesB [g, t, n] = false) : tellI g t n = 0 := by unfold tellI; rw [if_neg (by rw [h]; simp)]
theorem tellI_left {g t n : Int} (h : 0 < leftI g t n) : tellI g t n = leftI g t n := by
  unfold tellI
  cases hs : timesB [g, t, n]
  · rw [leftI_no hs] at h; omega
  · rw [if_pos rfl, if_pos h]
theorem tellI_end {g t n : Int} (h : timesB [g, t, n] = true) (h' : ¬ 0 < leftI g t n) : tellI g t n = 30 := by unfold tellI; rw [if_pos h, if_neg h']












































theorem clampI_neg {t : Int} {b : Bool} (h : t < 0) : clampI t b = 0 := by unfold clampI; rw [if_pos h]
theorem clampI_n {t : Int} (h : ¬ t < 0) (h' : ¬ 10800 < t) (b : Bool) : clampI t b = t := by
  unfold clampI; rw [if_neg h, if_neg (fun x => h' x.2), if_neg (by omega)]
theorem clampI_neg_big {t : Int} (h' : 10800 < t) : clampI t true = 10800 := by
  unfold clampI; rw [if_neg (by omega), if_pos ⟨rfl, h'⟩]
theorem clampI_mid {t : Int} (h : ¬ t < 0) (h' : ¬ 604800 < t) : clampI t false = t := by
  unfold clampI; rw [if_neg h, if_neg (by simp), if_neg h']
theorem clampI_big {t : Int} (h' : 604800 < t) : clampI t false = 604800 := by
  unfold clampI; rw [if_neg (by omega), if_neg (by simp), if_pos h']

set_option maxHeartbeats 400000 in
theorem clamp_any (t : Int) (b : Bool) (w : World) : Calls Try.prog 83 #[.int .i64 t, .bool b] w (Told w (.int .i64 (clampI t b))) := by
  by_cases h : t < 0
  · have HV := Lib.hid (clampI_neg (b := b) h)
    cases b <;> (go_enter Try.func83, Try.ntmps83; go_wp2; go_ret; exact ⟨ret_int (by rw [HV.out]; try omega), rfl⟩)
  · cases b
    · by_cases h2 : 604800 < t
      · have HV := Lib.hid (clampI_big h2)
        go_enter Try.func83, Try.ntmps83
        go_wp2
        go_ret
        exact ⟨ret_int (by rw [HV.out]; try omega), rfl⟩
      · have HV := Lib.hid (clampI_mid h h2)
        go_enter Try.func83, Try.ntmps83
        go_wp2
        go_ret
        exact ⟨ret_int (by rw [HV.out]; try omega), rfl⟩
    · by_cases h2 : 10800 < t
      · have HV := Lib.hid (clampI_neg_big h2)
        go_enter Try.func83, Try.ntmps83
        go_wp2
        go_ret
        exact ⟨ret_int (by rw [HV.out]; try omega), rfl⟩
      · have HV := Lib.hid (clampI_n h h2 true)
        go_enter Try.func83, Try.ntmps83
        go_wp2
        go_ret
        exact ⟨ret_int (by rw [HV.out]; try omega), rfl⟩

end Go.Proofs.Ythppgofpbpjglaa

namespace Go.Proofs.Ythppgofpbpjglaa
open Go.RowKit

set_option maxHeartbeats 400000 in
theorem ftime_any (t : Int) (w : World) : Calls Try.prog 38 #[.int .i64 t] w (Told w (.bool (timeB t))) := by
  have HS := Lib.hid (show timeB t = (decide (0 ≤ t) && decide (t ≤ 36028797018963968)) from rfl)
  cases h1 : decide (0 ≤ t) with
  | false =>
    rw [h1] at HS
    go_enter Try.func38, Try.ntmps38
    go_wp2
    go_ret
    exact ⟨by rw [HS.out]; rfl, rfl⟩
  | true =>
    rw [h1] at HS
    go_enter Try.func38, Try.ntmps38
    go_wp2
    go_ret
    exact ⟨by rw [HS.out]; simp, rfl⟩

set_option maxHeartbeats 1000000 in
theorem fkind_any (k : Int) (w : World) : Calls Try.prog 65 #[.int .i64 k] w (Told w (.bool (typedB k))) := by
  by_cases c1 : k < 1
  · have t1 : decide (1 ≤ k) = false := decide_eq_false (by omega)
    have HV := Lib.hid (typedB_low c1)
    clear c1
    go_enter Try.func65, Try.ntmps65
    go_wp2
    go_ret
    exact ⟨by rw [HV.out]; rfl, rfl⟩
  have t1 : decide (1 ≤ k) = true := decide_eq_true (by omega)
  by_cases c2 : 65534 < k
  · have t2 : decide (k ≤ 65534) = false := decide_eq_false (by omega)
    have HV := Lib.hid (typedB_high c2)
    clear c1 c2
    go_enter Try.func65, Try.ntmps65
    go_wp2
    go_ret
    exact ⟨by rw [HV.out]; rfl, rfl⟩
  have t2 : decide (k ≤ 65534) = true := decide_eq_true (by omega)
  by_cases c3 : k = 41
  · subst c3
    have HV := Lib.hid typedB_41
    clear c1 c2
    go_enter Try.func65, Try.ntmps65
    go_wp2
    go_ret
    exact ⟨by rw [HV.out]; rfl, rfl⟩
  have t3 : (k != 41) = true := by rw [bne_iff_ne]; exact c3
  by_cases c4 : k = 255
  · subst c4
    have HV := Lib.hid typedB_255
    clear c1 c2
    go_enter Try.func65, Try.ntmps65
    go_wp2
    go_ret
    exact ⟨by rw [HV.out]; rfl, rfl⟩
  have t4 : (k != 255) = true := by rw [bne_iff_ne]; exact c4
  have HV := Lib.hid (typedB_yes (by omega) (by omega) c3 c4)
  clear c1 c2 c3 c4
  go_enter Try.func65, Try.ntmps65
  go_wp2
  go_ret
  exact ⟨by rw [HV.out]; rfl, rfl⟩

/-- Is a TTL within the bounds? -/
def fitT (t : Int) (b : Bool) : Bool := t == clampI t b
set_option maxHeartbeats 400000 in
theorem fitsT_any (t : Int) (b : Bool) (w : World) : Calls Try.prog 66 #[.int .i64 t, .bool b] w (Told w (.bool (fitT t b))) := by
  have HC := Lib.hid (clamp_any t b w)
  have HV := Lib.hid (show fitT t b = (t == clampI t b) from rfl)
  go_enter Try.func66, Try.ntmps66
  go_wp2_with fail
  refine HC.out.mono ?_
  rintro e w1 ⟨rfl, rfl⟩
  go_wp2
  go_ret
  exact ⟨by rw [HV.out]; rfl, rfl⟩

/-- What soundSet lays for its closure. -/
structure DBox (w : World) (g : Nat) (x : DV) (a : Dt) : Prop where
  bg : Whole w g 34 [x.vb a, x.vh a, x.vm a, x.vn a, x.vt a]
  d : DataAt w w.heap.size x a
theorem DBox.below {w w' : World} {g : Nat} {x : DV} {a : Dt} (h : DBox w g x a) (hb : Below w.heap.size w w') : DBox w' g x a :=
  ⟨h.bg.below hb h.bg.lt, (h.d.below hb).mono hb.size⟩

set_option maxHeartbeats 1000000 in
theorem same1_any (w : World) (g : Nat) (x y : DV) (a b : Dt) (h : DBox w g x a) (hy : DataAt w w.heap.size y b) (la : Wide a) (lb : Wide b) :
    Calls Try.prog 97 #[y.val b, .pointer (some ⟨g, 0, none⟩)] w (Gave w (.bool (sameD a b))) := by
  obtain ⟨W, hW⟩ : ∃ W, W = w.alloc (.cells #[.slice y.Ab b.bytes.length y.cb, .slice y.Ah b.host.length y.ch, .slice y.Am b.mail.length y.cm, .slice y.An b.nums.length y.cn, .slice y.At b.texts.length y.ct] 34) := ⟨_, rfl⟩
  have hB : Below w.heap.size w W := by rw [hW]; exact (Below.refl _ _).alloc (Nat.le_refl _) _
  have hx := h.below hB
  have hwh : Whole W w.heap.size 34 [y.vb b, y.vh b, y.vm b, y.vn b, y.vt b] := by rw [hW]; exact Whole.made w [y.vb b, y.vh b, y.vm b, y.vn b, y.vt b] _
  have c0 : W.cell? ⟨w.heap.size, 0, none⟩ = some (.slice y.Ab b.bytes.length y.cb) := hwh.cell 0
  have c1 : W.cell? ⟨w.heap.size, 1, none⟩ = some (.slice y.Ah b.host.length y.ch) := hwh.cell 1
  have c2 : W.cell? ⟨w.heap.size, 2, none⟩ = some (.slice y.Am b.mail.length y.cm) := hwh.cell 2
  have c3 : W.cell? ⟨w.heap.size, 3, none⟩ = some (.slice y.An b.nums.length y.cn) := hwh.cell 3
  have c4 : W.cell? ⟨w.heap.size, 4, none⟩ = some (.slice y.At b.texts.length y.ct) := hwh.cell 4
  have d0 : W.cell? ⟨g, 0, none⟩ = some (.slice x.Ab a.bytes.length x.cb) := hx.bg.cell 0
  have d1 : W.cell? ⟨g, 1, none⟩ = some (.slice x.Ah a.host.length x.ch) := hx.bg.cell 1
  have d2 : W.cell? ⟨g, 2, none⟩ = some (.slice x.Am a.mail.length x.cm) := hx.bg.cell 2
  have d3 : W.cell? ⟨g, 3, none⟩ = some (.slice x.An a.nums.length x.cn) := hx.bg.cell 3
  have d4 : W.cell? ⟨g, 4, none⟩ = some (.slice x.At a.texts.length x.ct) := hx.bg.cell 4
  have HC := Lib.hid (dsame_wide y x b a W ((hy.below hB).mono hB.size) hx.d lb la)
  have HB := Lib.hid hB
  have HT := Lib.hid (sameD_turn b a)
  clear hB hx hwh hy la lb h
  subst hW
  go_enter Try.func97, Try.ntmps97
  go_wp2_with fail
  refine HC.out.mono ?_
  rintro e w1 ⟨rfl, hb1⟩
  have HB1 := Lib.hid hb1
  clear hb1
  go_wp2
  go_ret
  exact ⟨by rw [HT.out]; rfl, HB.out.trans (HB1.out.mono HB.out.size)⟩

set_option maxHeartbeats 2000000 in
theorem index_same (w : World) (g : Nat) (x : DV) (a : Dt) (A : Option Addr) (c : Nat) (ps : List (DV × Dt)) (h : DBox w g x a) (hp : DsAt w w.heap.size A ps) (la : Wide a) (hc : ∀ p ∈ ps, Wide p.2) (hl : ps.length ≤ maxLen) :
    Calls Try.prog 95 #[.slice A ps.length c, .func (.func 97) #[] #[.pointer (some ⟨g, 0, none⟩)]] w (IndexOut w ((dats ps).any (fun e => sameD a e))) := by
  unfold maxLen at hl
  have HX := Lib.hid h
  have HP := Lib.hid hp
  have HC := Lib.hid hc
  clear h hp hc
  go_enter Try.func95, Try.ntmps95
  go_wp2
  go_loopw [8] (IndexRel w ps (fun e => sameD a e)) (fun i _ => ps.length - (intOf i).toNat)
  case atStart => exact ⟨0, Nat.zero_le _, rfl, rfl, Below.refl _ _⟩
  case round =>
    obtain ⟨k, hk, rfl, hn, hb⟩ := hrel
    have HN := Lib.hid hn
    have HB := Lib.hid hb
    have hz := hb.size
    clear hn hb
    by_cases hlt : k < ps.length
    · obtain ⟨b, off, rfl, hbH, hd, q0, q1, q2, q3, q4⟩ := (HP.out.below HB.out).at_ hlt
      have HCL := Lib.hid (same1_any wr g x (ps[k]).1 a (ps[k]).2 (HX.out.below HB.out) (hd.mono HB.out.size) la (HC.out _ (List.getElem_mem hlt)))
      have HI := Lib.hid (any_snoc (fun e => sameD a e) hlt HN.out)
      clear hd
      revert q0 q1 q2 q3 q4 HCL HI
      generalize ps[k] = p
      obtain ⟨y, d⟩ := p
      intro q0 q1 q2 q3 q4 HCL HI
      dsimp only at *
      go_wp2_with fail
      refine HCL.out.mono ?_
      rintro e w1 ⟨rfl, hb1⟩
      have HB1 := Lib.hid (HB.out.trans (hb1.mono hz))
      clear hb1
      cases hv : sameD a d with
      | true =>
        have HT := Lib.hid (HI.out.1 hv)
        clear HI
        go_wp2
        go_ret
        exact ⟨_, rfl, by rw [HT.out]; simp, HB1.out⟩
      | false =>
        have HT := Lib.hid (HI.out.2 hv)
        clear HI
        go_wp2
        exact ⟨⟨k + 1, by omega, by go_num, HT.out, HB1.out⟩, by simp [intOf]; omega⟩
    · obtain rfl : k = ps.length := by omega
      have HF := Lib.hid (show (dats ps).any (fun e => sameD a e) = false by have h := HN.out; rwa [List.take_length] at h)
      go_wp2
      go_ret
      exact ⟨_, rfl, by rw [HF.out]; rfl, HB.out⟩

set_option maxHeartbeats 1000000 in
theorem contains_same (w : World) (g : Nat) (x : DV) (a : Dt) (A : Option Addr) (c : Nat) (ps : List (DV × Dt)) (h : DBox w g x a) (hp : DsAt w w.heap.size A ps) (la : Wide a) (hc : ∀ p ∈ ps, Wide p.2) (hl : ps.length ≤ maxLen) :
    Calls Try.prog 51 #[.slice A ps.length c, .func (.func 97) #[] #[.pointer (some ⟨g, 0, none⟩)]] w (Gave w (.bool (hasD (dats ps) a))) := by
  have HC := Lib.hid (index_same w g x a A c ps h hp la hc hl)
  clear h hp hc
  go_enter Try.func51, Try.ntmps51
  go_wp2_with fail
  refine HC.out.mono ?_
  rintro e w1 ⟨i, rfl, hi, hb1⟩
  have HB1 := Lib.hid hb1
  have HI := Lib.hid hi
  clear hb1 hi
  go_wp2
  go_ret
  exact ⟨ret_bool HI.out, HB1.out⟩

/-- May data be the set of a type? -/
def setKB (k : Int) (l : List Dt) : Bool := decide (1 ≤ l.length) && (decide (l.length ≤ 64) && setOk k l)
def SetKRel (w : World) (k : Int) (ps : List (DV × Dt)) (i : Value) (wr : World) : Prop :=
  ∃ j : Nat, j ≤ ps.length ∧ i = .int .i64 j ∧ setOk k (dats (ps.take j)) = true ∧ Below w.heap.size w wr

set_option maxRecDepth 20000 in
set_option maxHeartbeats 4000000 in
theorem soundSet_any (w : World) (k : Int) (A : Option Addr) (c : Nat) (ps : List (DV × Dt)) (hp : DsAt w w.heap.size A ps) (hc : ∀ p ∈ ps, DatIn p.2) (hf : ∀ p ∈ ps, p.2.host.length ≤ 300 ∧ p.2.mail.length ≤ 300) (hl : ps.length ≤ c) (_ : c ≤ maxLen) :
    Calls Try.prog 67 #[.int .i64 k, .slice A ps.length c] w (Gave w (.bool (setKB k (dats ps)))) := by
  have hlen : (dats ps).length = ps.length := length_dats _
  have HS := Lib.hid (show setKB k (dats ps) = (decide (1 ≤ (dats ps).length) && (decide ((dats ps).length ≤ 64) && setOk k (dats ps))) from rfl)
  rw [hlen] at HS
  clear hlen
  have HP := Lib.hid hp
  have HC := Lib.hid hc
  have HFW := Lib.hid hf
  clear hp hc hf
  by_cases c1 : ps.length < 1
  · have e1 : decide ((ps.length : Int) < 1) = true := decide_eq_true (by omega)
    rw [decide_eq_false (show ¬ 1 ≤ ps.length by omega)] at HS
    go_enter Try.func67, Try.ntmps67
    go_wp2
    go_ret
    exact ⟨by rw [HS.out]; rfl, Below.refl _ _⟩
  have e1 : decide ((ps.length : Int) < 1) = false := decide_eq_false (by omega)
  rw [decide_eq_true (show 1 ≤ ps.length by omega)] at HS
  by_cases c2 : 64 < ps.length
  · have e2 : decide ((64 : Int) < (ps.length : Int)) = true := decide_eq_true (by omega)
    rw [decide_eq_false (show ¬ ps.length ≤ 64 by omega)] at HS
    go_enter Try.func67, Try.ntmps67
    go_wp2
    go_ret
    exact ⟨by rw [HS.out]; rfl, Below.refl _ _⟩
  have e2 : decide ((64 : Int) < (ps.length : Int)) = false := decide_eq_false (by omega)
  rw [decide_eq_true (show ps.length ≤ 64 by omega)] at HS
  go_enter Try.func67, Try.ntmps67
  go_wp2
  clear e1 e2
  go_loopw [18] (SetKRel w k ps) (fun i _ => ps.length - (intOf i).toNat)
  case atStart => exact ⟨0, Nat.zero_le _, rfl, rfl, Below.refl _ _⟩
  case round =>
    obtain ⟨j, hj, rfl, hn, hb⟩ := hrel
    have HN := Lib.hid hn
    have HB := Lib.hid hb
    have hz := hb.size
    clear hn hb
    by_cases hlt : j < ps.length
    · have HPW := Lib.hid (HP.out.below HB.out)
      obtain ⟨b, off, rfl, hbH, hd, q0, q1, q2, q3, q4⟩ := HPW.out.at_ hlt
      have HD := Lib.hid (hd.mono HB.out.size)
      have HI := Lib.hid (HC.out _ (List.getElem_mem hlt))
      have HFE := Lib.hid (HFW.out _ (List.getElem_mem hlt))
      have HST := Lib.hid (show setOk k (dats (ps.take (j + 1))) = (setOk k (dats (ps.take j)) && (soundD k (ps[j]).2 && !hasD (dats (ps.take j)) (ps[j]).2)) by rw [dats_step hlt, setOk_snoc])
      have HF := Lib.hid (fun h => setOk_fails (kd := k) hlt h)
      have htl : (ps.take j).length = j := by rw [List.length_take]; omega
      clear hd
      revert q0 q1 q2 q3 q4 HD HI HFE HST
      generalize ps[j] = p
      obtain ⟨y, d⟩ := p
      intro q0 q1 q2 q3 q4 HD HI HFE HST
      dsimp only at *
      have HNEW := Lib.hid ((Below.refl wr.heap.size wr).alloc (Nat.le_refl _) (.cells #[.slice y.Ab d.bytes.length y.cb, .slice y.Ah d.host.length y.ch, .slice y.Am d.mail.length y.cm, .slice y.An d.nums.length y.cn, .slice y.At d.texts.length y.ct] 34))
      have HWB := Lib.hid (Whole.made wr [y.vb d, y.vh d, y.vm d, y.vn d, y.vt d] 34)
      have HSND := Lib.hid (dsound_wide k y d (wr.alloc (.cells #[.slice y.Ab d.bytes.length y.cb, .slice y.Ah d.host.length y.ch, .slice y.Am d.mail.length y.cm, .slice y.An d.nums.length y.cn, .slice y.At d.texts.length y.ct] 34)) ((HD.out.below HNEW.out).mono HNEW.out.size) (by have := HFE.out.1; omega) HI.out.w.h.2 (by have := HFE.out.2; omega) HI.out.w.m.2 HI.out.w.t HI.out.t)
      go_wp2_with fail
      refine HSND.out.mono ?_
      rintro e w1 ⟨rfl, hb1⟩
      clear HSND
      have HB1 := Lib.hid hb1
      clear hb1
      cases h1 : soundD k d with
      | false =>
        have HT := Lib.hid (HF.out (by rw [HST.out, h1]; simp))
        go_wp2
        go_ret
        exact ⟨by rw [HS.out, HT.out]; rfl, HB.out.trans ((HNEW.out.trans (HB1.out.mono HNEW.out.size)).mono hz)⟩
      | true =>
        have HBX := Lib.hid (show DBox w1 wr.heap.size y d from ⟨HWB.out.below HB1.out HWB.out.lt, (((HD.out.below HNEW.out).mono HNEW.out.size).below HB1.out).mono HB1.out.size⟩)
        have HBW := Lib.hid (HB.out.trans ((HNEW.out.trans (HB1.out.mono HNEW.out.size)).mono hz))
        have HCT := Lib.hid (contains_same w1 wr.heap.size y d (some ⟨b, off, none⟩) c (ps.take j) HBX.out (((HP.out.below HBW.out).mono HBW.out.size).take j (by omega)) HI.out.w (fun p hp => (HC.out p (List.mem_of_mem_take hp)).w) (by unfold maxLen; omega))
        rw [htl] at HCT
        go_wp2_with fail
        refine HCT.out.mono ?_
        rintro e w2 ⟨rfl, hb2⟩
        have HB2 := Lib.hid (HBW.out.trans (hb2.mono HBW.out.size))
        clear hb2
        cases h2 : hasD (dats (ps.take j)) d with
        | true =>
          have HT := Lib.hid (HF.out (by rw [HST.out, h2]; simp))
          go_wp2
          go_ret
          exact ⟨by rw [HS.out, HT.out]; rfl, HB2.out⟩
        | false =>
          have HT := Lib.hid (show setOk k (dats (ps.take (j + 1))) = true by rw [HST.out, h1, h2, HN.out]; rfl)
          go_wp2
          exact ⟨⟨j + 1, by omega, by go_num, HT.out, HB2.out⟩, by simp [intOf]; omega⟩
    · obtain rfl : j = ps.length := by omega
      have HF := Lib.hid (show setOk k (dats ps) = true by have h := HN.out; rwa [List.take_length] at h)
      go_wp2
      go_ret
      exact ⟨by rw [HS.out, HF.out]; rfl, HB.out⟩

end Go.Proofs.Ythppgofpbpjglaa

namespace Go.Proofs.Ythppgofpbpjglaa
open Go.RowKit

theorem soundN_sz {n : List (List UInt8)} (h : soundN n = true) : szN n ≤ maxLen := by
  have h2 := (soundN_parts h).2
  unfold maxLen
  omega
/-- Both boxes of the document's Sound. -/
structure FBoxes (w : World) (x : FV) (W : World) : Prop where
  f : Whole W w.heap.size 50 (cellsF x)
  d : Whole W (w.heap.size + 1) 34 [.slice x.d.Ab x.soa.bytes.length x.d.cb, .slice x.d.Ah x.soa.host.length x.d.ch, .slice x.d.Am x.soa.mail.length x.d.cm, .slice x.d.An x.soa.nums.length x.d.cn, .slice x.d.At x.soa.texts.length x.d.ct]
  below : Below w.heap.size w W
  size : w.heap.size + 2 ≤ W.heap.size
theorem FBoxes.step {w : World} {x : FV} {W W' : World} (h : FBoxes w x W) (hb : Below W.heap.size W W') : FBoxes w x W' :=
  ⟨h.f.below hb h.f.lt, h.d.below hb h.d.lt, h.below.trans (hb.mono (by have := h.size; omega)), Nat.le_trans h.size hb.size⟩
theorem FBoxes.made (w : World) (x : FV) : FBoxes w x ((w.alloc (.cells #[.slice x.A x.name.length x.c, .int .i64 x.h.typ, .int .i64 x.h.knd, .int .i64 x.h.rank, .int .i64 x.h.got, .int .i64 x.h.ttl, .slice x.sA x.sp.length x.sc, .slice x.zA x.zone.length x.zc, .slice x.d.Ab x.soa.bytes.length x.d.cb, .slice x.d.Ah x.soa.host.length x.d.ch, .slice x.d.Am x.soa.mail.length x.d.cm, .slice x.d.An x.soa.nums.length x.d.cn, .slice x.d.At x.soa.texts.length x.d.ct] 50)).alloc (.cells #[.slice x.d.Ab x.soa.bytes.length x.d.cb, .slice x.d.Ah x.soa.host.length x.d.ch, .slice x.d.Am x.soa.mail.length x.d.cm, .slice x.d.An x.soa.nums.length x.d.cn, .slice x.d.At x.soa.texts.length x.d.ct] 34)).drew := by
  have hz : (w.alloc (.cells #[.slice x.A x.name.length x.c, .int .i64 x.h.typ, .int .i64 x.h.knd, .int .i64 x.h.rank, .int .i64 x.h.got, .int .i64 x.h.ttl, .slice x.sA x.sp.length x.sc, .slice x.zA x.zone.length x.zc, .slice x.d.Ab x.soa.bytes.length x.d.cb, .slice x.d.Ah x.soa.host.length x.d.ch, .slice x.d.Am x.soa.mail.length x.d.cm, .slice x.d.An x.soa.nums.length x.d.cn, .slice x.d.At x.soa.texts.length x.d.ct] 50)).heap.size = w.heap.size + 1 := by simp
  refine ⟨(Whole.made w (cellsF x) _).alloc _, ?_, ((((Below.refl _ _).alloc (Nat.le_refl _) _).alloc (by simp) _).drew), by simp⟩
  have := Whole.made (w.alloc (.cells #[.slice x.A x.name.length x.c, .int .i64 x.h.typ, .int .i64 x.h.knd, .int .i64 x.h.rank, .int .i64 x.h.got, .int .i64 x.h.ttl, .slice x.sA x.sp.length x.sc, .slice x.zA x.zone.length x.zc, .slice x.d.Ab x.soa.bytes.length x.d.cb, .slice x.d.Ah x.soa.host.length x.d.ch, .slice x.d.Am x.soa.mail.length x.d.cm, .slice x.d.An x.soa.nums.length x.d.cn, .slice x.d.At x.soa.texts.length x.d.ct] 50)) [.slice x.d.Ab x.soa.bytes.length x.d.cb, .slice x.d.Ah x.soa.host.length x.d.ch, .slice x.d.Am x.soa.mail.length x.d.cm, .slice x.d.An x.soa.nums.length x.d.cn, .slice x.d.At x.soa.texts.length x.d.ct] 34
  rw [hz] at this
  exact this

end Go.Proofs.Ythppgofpbpjglaa

namespace Go.Proofs.Ythppgofpbpjglaa
open Go.RowKit
























































































































































































































































































































































































































































































































































































































































































































































































end Go.Proofs.Ythppgofpbpjglaa

namespace Go.Proofs.Ythppgofpbpjglaa
open Go.RowKit

theorem noB_parts {f : Fc} (h : noB f = true) : (decide (f.h.knd = 2) == typedB f.h.typ) = true ∧ (f.h.knd = 2 ∨ f.h.typ = 0) ∧ f.set.length = 0 ∧ f.h.ttl ≤ 10800 ∧ soundN f.zone = true ∧ underN f.name f.zone = true ∧ soundD 6 f.soa = true := by
  unfold noB at h
  simpa only [Bool.and_eq_true, Bool.or_eq_true, decide_eq_true_eq] using h
theorem soundF_parts {f : Fc} (h : soundF f = true) : headB f.name f.h = true ∧ ((f.h.knd = 1 ∧ hasB f = true) ∨ ((f.h.knd = 2 ∨ f.h.knd = 3) ∧ noB f = true)) := by
  unfold soundF at h
  rw [Bool.and_eq_true] at h
  refine ⟨h.1, ?_⟩
  have h2 := h.2
  split at h2
  · exact .inl ⟨by assumption, h2⟩
  · split at h2
    · exact .inr ⟨by assumption, h2⟩
    · cases h2



























end Go.Proofs.Ythppgofpbpjglaa

namespace Go.Proofs.Ythppgofpbpjglaa
open Go.RowKit

def emptyV : DV := ⟨none, none, none, none, none, 0, 0, 0, 0, 0⟩
def emptyT : Dt := ⟨[], [], [], [], []⟩
theorem fnil_at (w : World) (H : Nat) : DataAt w H emptyV emptyT := ⟨Row.empty _ _ _, Row.empty _ _ _, Row.empty _ _ _, Row.empty _ _ _, Row.empty _ _ _, Nat.le_refl _, Nat.le_refl _, Nat.le_refl _, Nat.le_refl _, Nat.le_refl _, Nat.zero_le _, Nat.zero_le _⟩
theorem fnil_wide : Wide emptyT := ⟨⟨Nat.zero_le _, fun _ h => absurd h (Nat.not_lt_zero _)⟩, ⟨Nat.zero_le _, fun _ h => absurd h (Nat.not_lt_zero _)⟩, Nat.zero_le _⟩
theorem eqN_nil (n : List (List UInt8)) : eqN n [] = decide (n.length = 0) := by
  unfold eqN lowN
  rw [decide_eq_decide]
  simp
theorem flen_nil {α : Type} [DecidableEq α] (l : List α) : decide (l = []) = decide (l.length = 0) := by rw [decide_eq_decide]; exact List.length_eq_zero_iff.symm
theorem same_nil (d : Dt) : sameD d emptyT = emptyD d := by
  show (decide (d.bytes = []) && (decide (d.nums = []) && (decide (d.texts = []) && (eqN d.host [] && eqN d.mail [])))) = _
  unfold emptyD
  rw [eqN_nil, eqN_nil, flen_nil, flen_nil, flen_nil, Bool.eq_iff_iff]
  simp only [Bool.and_eq_true]
  constructor
  · exact fun ⟨a, b, c, d, e⟩ => ⟨a, d, e, b, c⟩
  · exact fun ⟨a, d, e, b, c⟩ => ⟨a, b, c, d, e⟩
theorem fitT_has (t : Int) : fitT t false = (decide (0 ≤ t) && decide (t ≤ 604800)) := by
  unfold fitT clampI
  rw [Bool.eq_iff_iff]
  simp only [Bool.and_eq_true, decide_eq_true_eq, beq_iff_eq]
  split
  · omega
  · rw [if_neg (by rintro ⟨h, _⟩; cases h)]
    split <;> omega
theorem fitT_no (t : Int) : fitT t true = (decide (0 ≤ t) && decide (t ≤ 10800)) := by
  unfold fitT clampI
  rw [Bool.eq_iff_iff]
  simp only [Bool.and_eq_true, decide_eq_true_eq, beq_iff_eq]
  split
  · omega
  · split
    · omega
    · rename_i h
      have h2 : ¬ 10800 < t := fun hh => h ⟨trivial, hh⟩
      split <;> omega

/-- What soundNot answers. -/
def notB (f : Fc) : Bool := fitT f.h.ttl true && (decide (f.set.length = 0) && (soundN f.zone && (underN f.name f.zone && soundD 6 f.soa)))
def headR (n : List (List UInt8)) (h : Fh) : Bool := soundN n && (decide (1 ≤ h.rank) && (decide (h.rank ≤ 4) && timeB h.got))
def hasR (f : Fc) : Bool := typedB f.h.typ && (fitT f.h.ttl false && (setKB f.h.typ f.set && (decide (f.zone.length = 0) && sameD f.soa emptyT)))
theorem soundF_headR {f : Fc} (h : headR f.name f.h = false) : soundF f = false := by
  apply soundF_head
  cases hh : headB f.name f.h with
  | false => rfl
  | true =>
    obtain ⟨a1, a2, a3, a4, _⟩ := headB_parts hh
    unfold headR at h
    rw [a1, decide_eq_true a2, decide_eq_true a3, a4] at h
    cases h
theorem headB_of {n : List (List UInt8)} {h : Fh} (hh : headR n h = true) : headB n h = (decide (0 ≤ h.ttl) && decide (h.ttl ≤ 604800)) := by
  unfold headR at hh
  simp only [Bool.and_eq_true] at hh
  obtain ⟨a1, a2, a3, a4⟩ := hh
  unfold headB
  rw [a1, a2, a3, a4]
  rfl
theorem soundF_hasR {f : Fc} (h : headR f.name f.h = true) (k : f.h.knd = 1) : soundF f = hasR f := by
  unfold soundF hasR hasB setKB
  rw [if_pos k, headB_of h, fitT_has, same_nil, Bool.eq_iff_iff]
  simp only [Bool.and_eq_true]
  constructor
  · exact fun ⟨a, b, c, d, e, f, g⟩ => ⟨b, a, ⟨c, d, g⟩, e, f⟩
  · exact fun ⟨b, a, ⟨c, d, g⟩, e, f⟩ => ⟨a, b, c, d, e, f, g⟩
theorem soundF_noR2 {f : Fc} (h : headR f.name f.h = true) (k : f.h.knd = 2) : soundF f = (typedB f.h.typ && notB f) := by
  unfold soundF notB noB
  rw [if_neg (by omega), if_pos (.inl k), headB_of h, fitT_no, decide_eq_true k, Bool.eq_iff_iff]
  simp only [Bool.and_eq_true, decide_eq_true_eq, beq_iff_eq, Bool.true_or]
  constructor
  · exact fun ⟨⟨a, b⟩, c, _, d, e, f, g, h⟩ => ⟨c.symm, ⟨a, e⟩, d, f, g, h⟩
  · exact fun ⟨c, ⟨a, e⟩, d, f, g, h⟩ => ⟨⟨a, by omega⟩, c.symm, trivial, d, e, f, g, h⟩
theorem soundF_noR3 {f : Fc} (h : headR f.name f.h = true) (k : f.h.knd = 3) : soundF f = (decide (f.h.typ = 0) && notB f) := by
  unfold soundF notB noB
  rw [if_neg (by omega), if_pos (.inr k), headB_of h, fitT_no, decide_eq_false (show ¬ f.h.knd = 2 by omega), Bool.eq_iff_iff]
  simp only [Bool.and_eq_true, decide_eq_true_eq, beq_iff_eq, Bool.false_or]
  constructor
  · exact fun ⟨⟨a, b⟩, c, i, d, e, f, g, h⟩ => ⟨i, ⟨a, e⟩, d, f, g, h⟩
  · rintro ⟨i, ⟨a, e⟩, d, f, g, h⟩
    exact ⟨⟨a, by omega⟩, by rw [i]; rfl, i, d, e, f, g, h⟩

/-- The box of Sound. -/
structure FBox (w : World) (x : FV) (W : World) : Prop where
  f : Whole W w.heap.size 50 (cellsF x)
  below : Below w.heap.size w W
  size : w.heap.size + 1 ≤ W.heap.size
theorem FBox.step {w : World} {x : FV} {W W' : World} (h : FBox w x W) (hb : Below W.heap.size W W') : FBox w x W' :=
  ⟨h.f.below hb h.f.lt, h.below.trans (hb.mono (by have := h.size; omega)), Nat.le_trans h.size hb.size⟩
theorem FBox.made (w : World) (x : FV) : FBox w x (w.alloc (.cells #[.slice x.A x.name.length x.c, .int .i64 x.h.typ, .int .i64 x.h.knd, .int .i64 x.h.rank, .int .i64 x.h.got, .int .i64 x.h.ttl, .slice x.sA x.sp.length x.sc, .slice x.zA x.zone.length x.zc, .slice x.d.Ab x.soa.bytes.length x.d.cb, .slice x.d.Ah x.soa.host.length x.d.ch, .slice x.d.Am x.soa.mail.length x.d.cm, .slice x.d.An x.soa.nums.length x.d.cn, .slice x.d.At x.soa.texts.length x.d.ct] 50)) :=
  ⟨Whole.made w (cellsF x) _, (Below.refl _ _).alloc (Nat.le_refl _) _, by simp⟩
/-- Rows that are not too long. -/
structure FSz (x : FV) : Prop where
  nl : x.name.length ≤ 300
  zl : x.zone.length ≤ 300
  s : ∀ p ∈ x.sp, p.2.host.length ≤ 300 ∧ p.2.mail.length ≤ 300
  d : x.soa.host.length ≤ 300 ∧ x.soa.mail.length ≤ 300

set_option maxRecDepth 20000 in
set_option maxHeartbeats 4000000 in
theorem fsoundNot_any (w : World) (x : FV) (hx : FAt w w.heap.size x) (hi : FIn x) (hs : FSz x) (hn : soundN x.name = true) : Calls Try.prog 68 #[x.val] w (Gave w (.bool (notB x.fact))) := by
  have HS := Lib.hid (show notB x.fact = (fitT x.h.ttl true && (decide (x.sp.length = 0) && (soundN x.zone && (underN x.name x.zone && soundD 6 x.soa)))) by unfold notB; show (fitT x.h.ttl true && (decide ((dats x.sp).length = 0) && _)) = _; rw [length_dats]; rfl)
  have HF := Lib.hid (fun W' => fitsT_any x.h.ttl true W')
  have HN := Lib.hid (fun W' (hb : FBox w x W') => sound_wide x.zA x.zone.length x.zc w.heap.size x.zone W' rfl (hx.z.below hb.below) (by have := hs.zl; omega) hi.z.2)
  have HU := Lib.hid (fun W' (hb : FBox w x W') (hz : soundN x.zone = true) => under_any x.A x.zA x.name.length x.zone.length x.c x.zc w.heap.size x.name x.zone W' rfl rfl (hx.n.below hb.below) (hx.z.below hb.below) (by have := hb.size; omega)
    (by have := (soundN_parts hn).2; unfold maxLen; omega) (by have := (soundN_parts hz).2; unfold maxLen; omega) hx.ln)
  have HD := Lib.hid (fun W' (hb : FBox w x W') => dsound_wide 6 x.d x.soa W' ((hx.d.below hb.below).mono (by have := hb.size; omega)) (by have := hs.d; omega) hi.d.w.h.2 (by have := hs.d; omega) hi.d.w.m.2 hi.d.w.t hi.d.t)
  have HB := Lib.hid (FBox.made w x)
  have hsl : x.sp.length ≤ maxLen := Nat.le_trans hx.ls hx.ks
  unfold maxLen at hsl
  clear hx hi hs hn
  go_enter Try.func68, Try.ntmps68
  go_wp2_with fail
  refine (HF.out _).mono ?_
  rintro e w1 ⟨rfl, rfl⟩
  cases h1 : fitT x.h.ttl true with
  | false =>
    rw [h1] at HS
    go_wp2
    go_ret
    exact ⟨by rw [HS.out]; rfl, HB.out.below⟩
  | true =>
  rw [h1] at HS
  by_cases h2 : x.sp.length = 0
  case neg =>
    have t : ((x.sp.length : Int) == 0) = false := by rw [beq_eq_false_iff_ne]; omega
    rw [decide_eq_false h2] at HS
    clear h2
    go_wp2
    go_ret
    exact ⟨by rw [HS.out]; rfl, HB.out.below⟩
  have t : ((x.sp.length : Int) == 0) = true := by rw [h2]; rfl
  rw [decide_eq_true h2] at HS
  clear h2
  go_wp2_with fail
  refine (HN.out _ HB.out).mono ?_
  rintro e w1 ⟨rfl, rfl⟩
  cases h3 : soundN x.zone with
  | false =>
    rw [h3] at HS
    go_wp2
    go_ret
    exact ⟨by rw [HS.out]; rfl, HB.out.below⟩
  | true =>
  rw [h3] at HS
  go_wp2_with fail
  refine (HU.out _ HB.out h3).mono ?_
  rintro e w2 ⟨rfl, hb2⟩
  have HB2 := Lib.hid (HB.out.step hb2)
  clear hb2
  cases h4 : underN x.name x.zone with
  | false =>
    rw [h4] at HS
    go_wp2
    go_ret
    exact ⟨by rw [HS.out]; rfl, HB2.out.below⟩
  | true =>
  rw [h4] at HS
  have d8 : w2.cell? ⟨w.heap.size, 8, none⟩ = some (.slice x.d.Ab x.soa.bytes.length x.d.cb) := HB2.out.f.cell 8
  have d9 : w2.cell? ⟨w.heap.size, 9, none⟩ = some (.slice x.d.Ah x.soa.host.length x.d.ch) := HB2.out.f.cell 9
  have d10 : w2.cell? ⟨w.heap.size, 10, none⟩ = some (.slice x.d.Am x.soa.mail.length x.d.cm) := HB2.out.f.cell 10
  have d11 : w2.cell? ⟨w.heap.size, 11, none⟩ = some (.slice x.d.An x.soa.nums.length x.d.cn) := HB2.out.f.cell 11
  have d12 : w2.cell? ⟨w.heap.size, 12, none⟩ = some (.slice x.d.At x.soa.texts.length x.d.ct) := HB2.out.f.cell 12
  go_wp2_with fail
  refine (HD.out _ HB2.out).mono ?_
  rintro e w3 ⟨rfl, hb3⟩
  have HB3 := Lib.hid (HB2.out.step hb3)
  clear hb3
  go_wp2
  go_ret
  exact ⟨by rw [HS.out]; simp, HB3.out.below⟩

set_option maxRecDepth 20000 in
set_option maxHeartbeats 8000000 in
theorem fsound_real (w : World) (x : FV) (hx : FAt w w.heap.size x) (hi : FIn x) (hs : FSz x) : Calls Try.prog 36 #[x.val] w (Gave w (.bool (soundF x.fact))) := by
  have HH := Lib.hid (show headR x.name x.h = (soundN x.name && (decide (1 ≤ x.h.rank) && (decide (x.h.rank ≤ 4) && timeB x.h.got))) from rfl)
  have HNO := Lib.hid (fun h => soundF_headR (f := x.fact) h)
  have HY1 := Lib.hid (fun h k => soundF_hasR (f := x.fact) h k)
  have HY2 := Lib.hid (fun h k => soundF_noR2 (f := x.fact) h k)
  have HY3 := Lib.hid (fun h k => soundF_noR3 (f := x.fact) h k)
  have HRT := Lib.hid (fun W' => ftime_any x.h.got W')
  have HKD := Lib.hid (fun W' => fkind_any x.h.typ W')
  have HFT := Lib.hid (fun W' => fitsT_any x.h.ttl false W')
  have HN := Lib.hid (fun W' (hb : FBox w x W') => sound_wide x.A x.name.length x.c w.heap.size x.name W' rfl (hx.n.below hb.below) (by have := hs.nl; omega) hi.n.2)
  have HST := Lib.hid (fun W' (hb : FBox w x W') => soundSet_any W' x.h.typ x.sA x.sc x.sp ((hx.s.below hb.below).mono (by have := hb.size; omega)) hi.s hs.s hx.ls hx.ks)
  have HNT := Lib.hid (fun W' (hb : FBox w x W') (hn : soundN x.name = true) => fsoundNot_any W' x ((hx.below hb.below).mono (by have := hb.size; omega)) hi hs hn)
  have HSM := Lib.hid (show ∀ W' (_ : FBox w x W'), Calls Try.prog 26 #[x.d.val x.soa, .agg #[.slice none 0 0, .slice none 0 0, .slice none 0 0, .slice none 0 0, .slice none 0 0]] W' (Gave W' (.bool (sameD x.soa emptyT))) from
    fun W' hb => dsame_wide x.d emptyV x.soa emptyT W' ((hx.d.below hb.below).mono (by have := hb.size; omega)) (fnil_at _ _) hi.d.w fnil_wide)
  have HB := Lib.hid (FBox.made w x)
  have HFC := Lib.hid (show hasR x.fact = (typedB x.h.typ && (fitT x.h.ttl false && (setKB x.h.typ (dats x.sp) && (decide (x.zone.length = 0) && sameD x.soa emptyT)))) from rfl)
  clear hx hi hs
  go_enter Try.func36, Try.ntmps36
  go_wp2_with fail
  refine (HN.out _ HB.out).mono ?_
  rintro e w1 ⟨rfl, rfl⟩
  cases h1 : soundN x.name with
  | false =>
    rw [h1] at HH
    go_wp2
    go_ret
    exact ⟨by rw [HNO.out (by rw [show headR x.fact.name x.fact.h = headR x.name x.h from rfl, HH.out]; rfl)]; rfl, HB.out.below⟩
  | true =>
  rw [h1] at HH
  by_cases h2 : x.h.rank < 1
  · have t2 : decide (x.h.rank < 1) = true := decide_eq_true h2
    rw [decide_eq_false (show ¬ 1 ≤ x.h.rank by omega)] at HH
    clear h2
    go_wp2
    go_ret
    exact ⟨by rw [HNO.out (by rw [show headR x.fact.name x.fact.h = headR x.name x.h from rfl, HH.out]; rfl)]; rfl, HB.out.below⟩
  have t2 : decide (x.h.rank < 1) = false := decide_eq_false h2
  rw [decide_eq_true (show 1 ≤ x.h.rank by omega)] at HH
  by_cases h3 : 4 < x.h.rank
  · have t3 : decide (4 < x.h.rank) = true := decide_eq_true h3
    rw [decide_eq_false (show ¬ x.h.rank ≤ 4 by omega)] at HH
    clear h2 h3
    go_wp2
    go_ret
    exact ⟨by rw [HNO.out (by rw [show headR x.fact.name x.fact.h = headR x.name x.h from rfl, HH.out]; rfl)]; rfl, HB.out.below⟩
  have t3 : decide (4 < x.h.rank) = false := decide_eq_false h3
  rw [decide_eq_true (show x.h.rank ≤ 4 by omega)] at HH
  clear h2 h3
  go_wp2_with fail
  refine (HRT.out _).mono ?_
  rintro e w1 ⟨rfl, rfl⟩
  cases h4 : timeB x.h.got with
  | false =>
    rw [h4] at HH
    go_wp2
    go_ret
    exact ⟨by rw [HNO.out (by rw [show headR x.fact.name x.fact.h = headR x.name x.h from rfl, HH.out]; rfl)]; rfl, HB.out.below⟩
  | true =>
  rw [h4] at HH
  have HHT := Lib.hid (show headR x.fact.name x.fact.h = true from HH.out)
  clear HH HNO HRT HN t2 t3
  by_cases k1 : x.h.knd = 1
  · have b1 : (x.h.knd == 1) = true := by rw [k1]; rfl
    have HV := Lib.hid ((HY1.out HHT.out k1).trans HFC.out)
    clear k1 HY1 HY2 HY3 HFC
    go_wp2_with fail
    refine (HKD.out _).mono ?_
    rintro e w1 ⟨rfl, rfl⟩
    cases h5 : typedB x.h.typ with
    | false =>
      rw [h5] at HV
      go_wp2
      go_ret
      exact ⟨by rw [HV.out]; rfl, HB.out.below⟩
    | true =>
    rw [h5] at HV
    go_wp2_with fail
    refine (HFT.out _).mono ?_
    rintro e w1 ⟨rfl, rfl⟩
    cases h6 : fitT x.h.ttl false with
    | false =>
      rw [h6] at HV
      go_wp2
      go_ret
      exact ⟨by rw [HV.out]; rfl, HB.out.below⟩
    | true =>
    rw [h6] at HV
    go_wp2_with fail
    refine (HST.out _ HB.out).mono ?_
    rintro e w2 ⟨rfl, hb2⟩
    have HB2 := Lib.hid (HB.out.step hb2)
    clear hb2
    cases h7 : setKB x.h.typ (dats x.sp) with
    | false =>
      rw [h7] at HV
      go_wp2
      go_ret
      exact ⟨by rw [HV.out]; rfl, HB2.out.below⟩
    | true =>
    rw [h7] at HV
    have d7 : w2.cell? ⟨w.heap.size, 7, none⟩ = some (.slice x.zA x.zone.length x.zc) := HB2.out.f.cell 7
    have d8 : w2.cell? ⟨w.heap.size, 8, none⟩ = some (.slice x.d.Ab x.soa.bytes.length x.d.cb) := HB2.out.f.cell 8
    have d9 : w2.cell? ⟨w.heap.size, 9, none⟩ = some (.slice x.d.Ah x.soa.host.length x.d.ch) := HB2.out.f.cell 9
    have d10 : w2.cell? ⟨w.heap.size, 10, none⟩ = some (.slice x.d.Am x.soa.mail.length x.d.cm) := HB2.out.f.cell 10
    have d11 : w2.cell? ⟨w.heap.size, 11, none⟩ = some (.slice x.d.An x.soa.nums.length x.d.cn) := HB2.out.f.cell 11
    have d12 : w2.cell? ⟨w.heap.size, 12, none⟩ = some (.slice x.d.At x.soa.texts.length x.d.ct) := HB2.out.f.cell 12
    by_cases h8 : x.zone.length = 0
    case neg =>
      have t : ((x.zone.length : Int) == 0) = false := by rw [beq_eq_false_iff_ne]; omega
      rw [decide_eq_false h8] at HV
      clear h8
      go_wp2
      go_ret
      exact ⟨by rw [HV.out]; rfl, HB2.out.below⟩
    have t : ((x.zone.length : Int) == 0) = true := by rw [h8]; rfl
    rw [decide_eq_true h8] at HV
    clear h8
    go_wp2_with fail
    refine (HSM.out _ HB2.out).mono ?_
    rintro e w3 ⟨rfl, hb3⟩
    have HB3 := Lib.hid (HB2.out.step hb3)
    clear hb3
    go_wp2
    go_ret
    exact ⟨by rw [HV.out]; simp, HB3.out.below⟩
  have b1 : (x.h.knd == 1) = false := by rw [beq_eq_false_iff_ne]; exact k1
  by_cases k2 : x.h.knd = 2
  · have b2 : (x.h.knd == 2) = true := by rw [k2]; rfl
    have HV := Lib.hid (HY2.out HHT.out k2)
    have HV' := Lib.hid (show soundF x.fact = (typedB x.h.typ && notB x.fact) from HV.out)
    clear k1 k2 HY1 HY2 HY3 HFC HV
    go_wp2_with fail
    refine (HKD.out _).mono ?_
    rintro e w1 ⟨rfl, rfl⟩
    cases h5 : typedB x.h.typ with
    | false =>
      rw [h5] at HV'
      go_wp2
      go_ret
      exact ⟨by rw [HV'.out]; rfl, HB.out.below⟩
    | true =>
    rw [h5] at HV'
    go_wp2_with fail
    refine (HNT.out _ HB.out h1).mono ?_
    rintro e w2 ⟨rfl, hb2⟩
    have HB2 := Lib.hid (HB.out.step hb2)
    clear hb2
    go_wp2
    go_ret
    exact ⟨by rw [HV'.out]; simp, HB2.out.below⟩
  have b2 : (x.h.knd == 2) = false := by rw [beq_eq_false_iff_ne]; exact k2
  by_cases k3 : x.h.knd = 3
  · have b3 : (x.h.knd == 3) = true := by rw [k3]; rfl
    have HV := Lib.hid (show soundF x.fact = (decide (x.h.typ = 0) && notB x.fact) from HY3.out HHT.out k3)
    clear k1 k2 k3 HY1 HY2 HY3 HFC
    by_cases h5 : x.h.typ = 0
    case neg =>
      have t : (x.h.typ == 0) = false := by rw [beq_eq_false_iff_ne]; exact h5
      rw [decide_eq_false h5] at HV
      clear h5
      go_wp2
      go_ret
      exact ⟨by rw [HV.out]; rfl, HB.out.below⟩
    have t : (x.h.typ == 0) = true := by rw [h5]; rfl
    rw [decide_eq_true h5] at HV
    clear h5
    go_wp2_with fail
    refine (HNT.out _ HB.out h1).mono ?_
    rintro e w2 ⟨rfl, hb2⟩
    have HB2 := Lib.hid (HB.out.step hb2)
    clear hb2
    go_wp2
    go_ret
    exact ⟨by rw [HV.out]; simp, HB2.out.below⟩
  have b3 : (x.h.knd == 3) = false := by rw [beq_eq_false_iff_ne]; exact k3
  have HV := Lib.hid (soundF_other (f := x.fact) k1 k2 k3)
  clear k1 k2 k3
  go_wp2
  go_ret
  exact ⟨by rw [HV.out]; rfl, HB.out.below⟩

end Go.Proofs.Ythppgofpbpjglaa

namespace Go.Proofs.Ythppgofpbpjglaa
open Go.RowKit

/-- Is data the same, byte by byte? -/
def exactD (a b : Dt) : Bool := sameD a b && (decide (a.host = b.host) && decide (a.mail = b.mail))
theorem exactD_self (d : Dt) : exactD d d = true := by simp [exactD, sameD, eqN]

set_option maxRecDepth 4000 in
set_option maxHeartbeats 2000000 in
theorem dexact_any (x y : DV) (a b : Dt) (w : World) (hx : DataAt w w.heap.size x a) (hy : DataAt w w.heap.size y b) (la : Sized a) (lb : Sized b) (kh : a.host.length ≤ maxLen) (km : a.mail.length ≤ maxLen) :
    Calls Try.prog 12 #[x.val a, y.val b] w (Gave w (.bool (exactD a b))) := by
  have HC1 := Lib.hid (fun W (h : Boxes w x y a b W) => ref_dsame_any x y a b W h.atA h.atB la lb)
  have HC2 := Lib.hid (fun W (h : Boxes w x y a b W) => exact_any x.Ah y.Ah a.host.length b.host.length x.ch y.ch w.heap.size a.host b.host W rfl rfl h.da.h h.db.h kh)
  have HC3 := Lib.hid (fun W (h : Boxes w x y a b W) => exact_any x.Am y.Am a.mail.length b.mail.length x.cm y.cm w.heap.size a.mail b.mail W rfl rfl h.da.m h.db.m km)
  have HX := Lib.hid (Boxes.made hx hy)
  have HS := Lib.hid (show exactD a b = (sameD a b && (decide (a.host = b.host) && decide (a.mail = b.mail))) from rfl)
  clear hx hy la lb kh km
  go_enter Try.func12, Try.ntmps12
  go_wp2_with fail
  obtain ⟨W0, hW0⟩ : ∃ W0, W0 = (w.alloc (.cells #[.slice x.Ab a.bytes.length x.cb, .slice x.Ah a.host.length x.ch, .slice x.Am a.mail.length x.cm, .slice x.An a.nums.length x.cn, .slice x.At a.texts.length x.ct] 34)).alloc (.cells #[.slice y.Ab b.bytes.length y.cb, .slice y.Ah b.host.length y.ch, .slice y.Am b.mail.length y.cm, .slice y.An b.nums.length y.cn, .slice y.At b.texts.length y.ct] 34) := ⟨_, rfl⟩
  rw [← hW0]
  have hx0 : Boxes w x y a b W0 := by rw [hW0]; exact HX.out
  clear HX hW0
  refine (HC1.out W0 hx0).mono ?_
  intro e W1 hO
  obtain ⟨he, hb⟩ := hO
  have hx1 := hx0.step hb
  clear hb hx0
  cases hv : sameD a b with
  | false =>
    rw [hv] at he HS
    subst he
    have HB := Lib.hid hx1.below
    clear hx1
    go_wp2
    go_ret
    exact ⟨by rw [HS.out]; rfl, HB.out⟩
  | true =>
  rw [hv] at he HS
  subst he
  have p1 : W1.cell? ⟨w.heap.size, 1, none⟩ = some (.slice x.Ah a.host.length x.ch) := hx1.ba.cell 1
  have q1 : W1.cell? ⟨w.heap.size + 1, 1, none⟩ = some (.slice y.Ah b.host.length y.ch) := hx1.bb.cell 1
  go_wp2_with fail
  refine (HC2.out W1 hx1).mono ?_
  intro e W2 hO
  obtain ⟨he, hb⟩ := gave_drewn hO
  have hx2 := hx1.step hb
  clear hO hb hx1 p1 q1
  cases hv : decide (a.host = b.host) with
  | false =>
    rw [hv] at he HS
    subst he
    have HB := Lib.hid hx2.below
    clear hx2
    go_wp2
    go_ret
    exact ⟨by rw [HS.out]; rfl, HB.out⟩
  | true =>
  rw [hv] at he HS
  subst he
  have p2 : W2.cell? ⟨w.heap.size, 2, none⟩ = some (.slice x.Am a.mail.length x.cm) := hx2.ba.cell 2
  have q2 : W2.cell? ⟨w.heap.size + 1, 2, none⟩ = some (.slice y.Am b.mail.length y.cm) := hx2.bb.cell 2
  go_wp2_with fail
  refine (HC3.out W2 hx2).mono ?_
  intro e W3 hO
  obtain ⟨he, hb⟩ := gave_drewn hO
  have hx3 := hx2.step hb
  clear hO hb hx2 p2 q2
  subst he
  have HB := Lib.hid hx3.below
  clear hx3
  go_wp2
  go_ret
  refine ⟨?_, HB.out⟩
  rw [HS.out]
  simp

end Go.Proofs.Ythppgofpbpjglaa

namespace Go.Proofs.Ythppgofpbpjglaa
open Go.RowKit

def sameR (a b : Rt) : Bool := decide (a.name = b.name) && (decide (a.kind = b.kind) && (decide (a.cls = b.cls) && (decide (a.ttl = b.ttl) && exactD a.data b.data)))
theorem sameR_self (r : Rt) : sameR r r = true := by simp [sameR, exactD_self]

set_option maxRecDepth 100000 in
set_option maxHeartbeats 4000000 in
theorem sameRR_any (x y : RV) (a b : Rt) (w : World) (hx : RAt w w.heap.size x a) (hy : RAt w w.heap.size y b) (hn : a.name.length ≤ maxLen) (la : Sized a.data) (lb : Sized b.data) (kh : a.data.host.length ≤ maxLen) (km : a.data.mail.length ≤ maxLen) :
    Calls Try.prog 87 #[x.val a, y.val b] w (Gave w (.bool (sameR a b))) := by
  obtain ⟨W, hW⟩ : ∃ W, W = (w.alloc (.cells #[.slice x.A a.name.length x.c, .int .i64 a.kind, .int .i64 a.cls, .int .i64 a.ttl, .slice x.d.Ab a.data.bytes.length x.d.cb, .slice x.d.Ah a.data.host.length x.d.ch, .slice x.d.Am a.data.mail.length x.d.cm, .slice x.d.An a.data.nums.length x.d.cn, .slice x.d.At a.data.texts.length x.d.ct] 54)).alloc (.cells #[.slice y.A b.name.length y.c, .int .i64 b.kind, .int .i64 b.cls, .int .i64 b.ttl, .slice y.d.Ab b.data.bytes.length y.d.cb, .slice y.d.Ah b.data.host.length y.d.ch, .slice y.d.Am b.data.mail.length y.d.cm, .slice y.d.An b.data.nums.length y.d.cn, .slice y.d.At b.data.texts.length y.d.ct] 54) := ⟨_, rfl⟩
  have hz : (w.alloc (.cells #[.slice x.A a.name.length x.c, .int .i64 a.kind, .int .i64 a.cls, .int .i64 a.ttl, .slice x.d.Ab a.data.bytes.length x.d.cb, .slice x.d.Ah a.data.host.length x.d.ch, .slice x.d.Am a.data.mail.length x.d.cm, .slice x.d.An a.data.nums.length x.d.cn, .slice x.d.At a.data.texts.length x.d.ct] 54)).heap.size = w.heap.size + 1 := by simp
  have hB : Below w.heap.size w W := by rw [hW]; exact ((Below.refl _ _).alloc (Nat.le_refl _) _).alloc (by rw [hz]; omega) _
  have ha : Whole W w.heap.size 54 [.slice x.A a.name.length x.c, .int .i64 a.kind, .int .i64 a.cls, .int .i64 a.ttl, .slice x.d.Ab a.data.bytes.length x.d.cb, .slice x.d.Ah a.data.host.length x.d.ch, .slice x.d.Am a.data.mail.length x.d.cm, .slice x.d.An a.data.nums.length x.d.cn, .slice x.d.At a.data.texts.length x.d.ct] := by rw [hW]; exact (Whole.made w _ _).alloc _
  have hb : Whole W (w.heap.size + 1) 54 [.slice y.A b.name.length y.c, .int .i64 b.kind, .int .i64 b.cls, .int .i64 b.ttl, .slice y.d.Ab b.data.bytes.length y.d.cb, .slice y.d.Ah b.data.host.length y.d.ch, .slice y.d.Am b.data.mail.length y.d.cm, .slice y.d.An b.data.nums.length y.d.cn, .slice y.d.At b.data.texts.length y.d.ct] := by
    rw [hW]
    have h := Whole.made (w.alloc (.cells #[.slice x.A a.name.length x.c, .int .i64 a.kind, .int .i64 a.cls, .int .i64 a.ttl, .slice x.d.Ab a.data.bytes.length x.d.cb, .slice x.d.Ah a.data.host.length x.d.ch, .slice x.d.Am a.data.mail.length x.d.cm, .slice x.d.An a.data.nums.length x.d.cn, .slice x.d.At a.data.texts.length x.d.ct] 54)) [.slice y.A b.name.length y.c, .int .i64 b.kind, .int .i64 b.cls, .int .i64 b.ttl, .slice y.d.Ab b.data.bytes.length y.d.cb, .slice y.d.Ah b.data.host.length y.d.ch, .slice y.d.Am b.data.mail.length y.d.cm, .slice y.d.An b.data.nums.length y.d.cn, .slice y.d.At b.data.texts.length y.d.ct] 54
    rw [hz] at h
    exact h
  have hsz : w.heap.size + 2 ≤ W.heap.size := by rw [hW]; simp
  have HB0 := Lib.hid hB
  have HA0 := Lib.hid ha
  have HBB := Lib.hid hb
  have HX := Lib.hid hx
  have HY := Lib.hid hy
  have HE := Lib.hid (fun W' (h : Below w.heap.size w W') => exact_any x.A y.A a.name.length b.name.length x.c y.c w.heap.size a.name b.name W' rfl rfl (hx.below h).n (hy.below h).n hn)
  have HD := Lib.hid (fun W' (h : Below w.heap.size w W') => dexact_any x.d y.d a.data b.data W' ((hx.below h).mono h.size).d ((hy.below h).mono h.size).d la lb kh km)
  have HS := Lib.hid (show sameR a b = (decide (a.name = b.name) && (decide (a.kind = b.kind) && (decide (a.cls = b.cls) && (decide (a.ttl = b.ttl) && exactD a.data b.data)))) from rfl)
  clear hB ha hb hx hy hz
  subst hW
  go_enter Try.func87, Try.ntmps87
  go_wp2_with fail
  refine (HE.out _ HB0.out).mono ?_
  intro e w1 hg1
  obtain ⟨rfl, hb1⟩ := gave_drewn hg1
  have HWA := Lib.hid (HA0.out.below hb1 (by omega))
  have HWB := Lib.hid (HBB.out.below hb1 (by omega))
  have HB1 := Lib.hid (HB0.out.trans (hb1.mono HB0.out.size))
  clear hb1 hg1 HA0 HBB HB0 hsz
  cases h1 : decide (a.name = b.name) with
  | false =>
    rw [h1] at HS
    go_wp2
    go_ret
    exact ⟨by rw [HS.out]; rfl, HB1.out⟩
  | true =>
  rw [h1] at HS
  have p1 : w1.cell? ⟨w.heap.size, 1, none⟩ = some (.int .i64 a.kind) := Whole.cell (L := [.slice x.A a.name.length x.c, .int .i64 a.kind, .int .i64 a.cls, .int .i64 a.ttl, .slice x.d.Ab a.data.bytes.length x.d.cb, .slice x.d.Ah a.data.host.length x.d.ch, .slice x.d.Am a.data.mail.length x.d.cm, .slice x.d.An a.data.nums.length x.d.cn, .slice x.d.At a.data.texts.length x.d.ct]) HWA.out 1
  have p2 : w1.cell? ⟨w.heap.size, 2, none⟩ = some (.int .i64 a.cls) := Whole.cell (L := [.slice x.A a.name.length x.c, .int .i64 a.kind, .int .i64 a.cls, .int .i64 a.ttl, .slice x.d.Ab a.data.bytes.length x.d.cb, .slice x.d.Ah a.data.host.length x.d.ch, .slice x.d.Am a.data.mail.length x.d.cm, .slice x.d.An a.data.nums.length x.d.cn, .slice x.d.At a.data.texts.length x.d.ct]) HWA.out 2
  have p3 : w1.cell? ⟨w.heap.size, 3, none⟩ = some (.int .i64 a.ttl) := Whole.cell (L := [.slice x.A a.name.length x.c, .int .i64 a.kind, .int .i64 a.cls, .int .i64 a.ttl, .slice x.d.Ab a.data.bytes.length x.d.cb, .slice x.d.Ah a.data.host.length x.d.ch, .slice x.d.Am a.data.mail.length x.d.cm, .slice x.d.An a.data.nums.length x.d.cn, .slice x.d.At a.data.texts.length x.d.ct]) HWA.out 3
  have p4 : w1.cell? ⟨w.heap.size, 4, none⟩ = some (.slice x.d.Ab a.data.bytes.length x.d.cb) := Whole.cell (L := [.slice x.A a.name.length x.c, .int .i64 a.kind, .int .i64 a.cls, .int .i64 a.ttl, .slice x.d.Ab a.data.bytes.length x.d.cb, .slice x.d.Ah a.data.host.length x.d.ch, .slice x.d.Am a.data.mail.length x.d.cm, .slice x.d.An a.data.nums.length x.d.cn, .slice x.d.At a.data.texts.length x.d.ct]) HWA.out 4
  have p5 : w1.cell? ⟨w.heap.size, 5, none⟩ = some (.slice x.d.Ah a.data.host.length x.d.ch) := Whole.cell (L := [.slice x.A a.name.length x.c, .int .i64 a.kind, .int .i64 a.cls, .int .i64 a.ttl, .slice x.d.Ab a.data.bytes.length x.d.cb, .slice x.d.Ah a.data.host.length x.d.ch, .slice x.d.Am a.data.mail.length x.d.cm, .slice x.d.An a.data.nums.length x.d.cn, .slice x.d.At a.data.texts.length x.d.ct]) HWA.out 5
  have p6 : w1.cell? ⟨w.heap.size, 6, none⟩ = some (.slice x.d.Am a.data.mail.length x.d.cm) := Whole.cell (L := [.slice x.A a.name.length x.c, .int .i64 a.kind, .int .i64 a.cls, .int .i64 a.ttl, .slice x.d.Ab a.data.bytes.length x.d.cb, .slice x.d.Ah a.data.host.length x.d.ch, .slice x.d.Am a.data.mail.length x.d.cm, .slice x.d.An a.data.nums.length x.d.cn, .slice x.d.At a.data.texts.length x.d.ct]) HWA.out 6
  have p7 : w1.cell? ⟨w.heap.size, 7, none⟩ = some (.slice x.d.An a.data.nums.length x.d.cn) := Whole.cell (L := [.slice x.A a.name.length x.c, .int .i64 a.kind, .int .i64 a.cls, .int .i64 a.ttl, .slice x.d.Ab a.data.bytes.length x.d.cb, .slice x.d.Ah a.data.host.length x.d.ch, .slice x.d.Am a.data.mail.length x.d.cm, .slice x.d.An a.data.nums.length x.d.cn, .slice x.d.At a.data.texts.length x.d.ct]) HWA.out 7
  have p8 : w1.cell? ⟨w.heap.size, 8, none⟩ = some (.slice x.d.At a.data.texts.length x.d.ct) := Whole.cell (L := [.slice x.A a.name.length x.c, .int .i64 a.kind, .int .i64 a.cls, .int .i64 a.ttl, .slice x.d.Ab a.data.bytes.length x.d.cb, .slice x.d.Ah a.data.host.length x.d.ch, .slice x.d.Am a.data.mail.length x.d.cm, .slice x.d.An a.data.nums.length x.d.cn, .slice x.d.At a.data.texts.length x.d.ct]) HWA.out 8
  have q1 : w1.cell? ⟨w.heap.size + 1, 1, none⟩ = some (.int .i64 b.kind) := Whole.cell (L := [.slice y.A b.name.length y.c, .int .i64 b.kind, .int .i64 b.cls, .int .i64 b.ttl, .slice y.d.Ab b.data.bytes.length y.d.cb, .slice y.d.Ah b.data.host.length y.d.ch, .slice y.d.Am b.data.mail.length y.d.cm, .slice y.d.An b.data.nums.length y.d.cn, .slice y.d.At b.data.texts.length y.d.ct]) HWB.out 1
  have q2 : w1.cell? ⟨w.heap.size + 1, 2, none⟩ = some (.int .i64 b.cls) := Whole.cell (L := [.slice y.A b.name.length y.c, .int .i64 b.kind, .int .i64 b.cls, .int .i64 b.ttl, .slice y.d.Ab b.data.bytes.length y.d.cb, .slice y.d.Ah b.data.host.length y.d.ch, .slice y.d.Am b.data.mail.length y.d.cm, .slice y.d.An b.data.nums.length y.d.cn, .slice y.d.At b.data.texts.length y.d.ct]) HWB.out 2
  have q3 : w1.cell? ⟨w.heap.size + 1, 3, none⟩ = some (.int .i64 b.ttl) := Whole.cell (L := [.slice y.A b.name.length y.c, .int .i64 b.kind, .int .i64 b.cls, .int .i64 b.ttl, .slice y.d.Ab b.data.bytes.length y.d.cb, .slice y.d.Ah b.data.host.length y.d.ch, .slice y.d.Am b.data.mail.length y.d.cm, .slice y.d.An b.data.nums.length y.d.cn, .slice y.d.At b.data.texts.length y.d.ct]) HWB.out 3
  have q4 : w1.cell? ⟨w.heap.size + 1, 4, none⟩ = some (.slice y.d.Ab b.data.bytes.length y.d.cb) := Whole.cell (L := [.slice y.A b.name.length y.c, .int .i64 b.kind, .int .i64 b.cls, .int .i64 b.ttl, .slice y.d.Ab b.data.bytes.length y.d.cb, .slice y.d.Ah b.data.host.length y.d.ch, .slice y.d.Am b.data.mail.length y.d.cm, .slice y.d.An b.data.nums.length y.d.cn, .slice y.d.At b.data.texts.length y.d.ct]) HWB.out 4
  have q5 : w1.cell? ⟨w.heap.size + 1, 5, none⟩ = some (.slice y.d.Ah b.data.host.length y.d.ch) := Whole.cell (L := [.slice y.A b.name.length y.c, .int .i64 b.kind, .int .i64 b.cls, .int .i64 b.ttl, .slice y.d.Ab b.data.bytes.length y.d.cb, .slice y.d.Ah b.data.host.length y.d.ch, .slice y.d.Am b.data.mail.length y.d.cm, .slice y.d.An b.data.nums.length y.d.cn, .slice y.d.At b.data.texts.length y.d.ct]) HWB.out 5
  have q6 : w1.cell? ⟨w.heap.size + 1, 6, none⟩ = some (.slice y.d.Am b.data.mail.length y.d.cm) := Whole.cell (L := [.slice y.A b.name.length y.c, .int .i64 b.kind, .int .i64 b.cls, .int .i64 b.ttl, .slice y.d.Ab b.data.bytes.length y.d.cb, .slice y.d.Ah b.data.host.length y.d.ch, .slice y.d.Am b.data.mail.length y.d.cm, .slice y.d.An b.data.nums.length y.d.cn, .slice y.d.At b.data.texts.length y.d.ct]) HWB.out 6
  have q7 : w1.cell? ⟨w.heap.size + 1, 7, none⟩ = some (.slice y.d.An b.data.nums.length y.d.cn) := Whole.cell (L := [.slice y.A b.name.length y.c, .int .i64 b.kind, .int .i64 b.cls, .int .i64 b.ttl, .slice y.d.Ab b.data.bytes.length y.d.cb, .slice y.d.Ah b.data.host.length y.d.ch, .slice y.d.Am b.data.mail.length y.d.cm, .slice y.d.An b.data.nums.length y.d.cn, .slice y.d.At b.data.texts.length y.d.ct]) HWB.out 7
  have q8 : w1.cell? ⟨w.heap.size + 1, 8, none⟩ = some (.slice y.d.At b.data.texts.length y.d.ct) := Whole.cell (L := [.slice y.A b.name.length y.c, .int .i64 b.kind, .int .i64 b.cls, .int .i64 b.ttl, .slice y.d.Ab b.data.bytes.length y.d.cb, .slice y.d.Ah b.data.host.length y.d.ch, .slice y.d.Am b.data.mail.length y.d.cm, .slice y.d.An b.data.nums.length y.d.cn, .slice y.d.At b.data.texts.length y.d.ct]) HWB.out 8
  by_cases h2 : a.kind = b.kind
  case neg =>
    have t2 : (a.kind == b.kind) = false := by rw [beq_eq_false_iff_ne]; exact h2
    rw [show decide (a.kind = b.kind) = false from decide_eq_false h2] at HS
    clear h2
    go_wp2
    go_ret
    exact ⟨by rw [HS.out]; rfl, HB1.out⟩
  have t2 : (a.kind == b.kind) = true := by rw [beq_iff_eq]; exact h2
  rw [show decide (a.kind = b.kind) = true from decide_eq_true h2] at HS
  clear h2
  by_cases h3 : a.cls = b.cls
  case neg =>
    have t3 : (a.cls == b.cls) = false := by rw [beq_eq_false_iff_ne]; exact h3
    rw [show decide (a.cls = b.cls) = false from decide_eq_false h3] at HS
    clear h3
    go_wp2
    go_ret
    exact ⟨by rw [HS.out]; rfl, HB1.out⟩
  have t3 : (a.cls == b.cls) = true := by rw [beq_iff_eq]; exact h3
  rw [show decide (a.cls = b.cls) = true from decide_eq_true h3] at HS
  clear h3
  by_cases h4 : a.ttl = b.ttl
  case neg =>
    have t4 : (a.ttl == b.ttl) = false := by rw [beq_eq_false_iff_ne]; exact h4
    rw [show decide (a.ttl = b.ttl) = false from decide_eq_false h4] at HS
    clear h4
    go_wp2
    go_ret
    exact ⟨by rw [HS.out]; rfl, HB1.out⟩
  have t4 : (a.ttl == b.ttl) = true := by rw [beq_iff_eq]; exact h4
  rw [show decide (a.ttl = b.ttl) = true from decide_eq_true h4] at HS
  clear h4
  go_wp2_with fail
  refine (HD.out _ HB1.out).mono ?_
  rintro e w2 ⟨rfl, hb2⟩
  have HB2 := Lib.hid (HB1.out.trans (hb2.mono HB1.out.size))
  clear hb2
  go_wp2
  go_ret
  exact ⟨by rw [HS.out]; simp, HB2.out⟩

end Go.Proofs.Ythppgofpbpjglaa

namespace Go.Proofs.Ythppgofpbpjglaa
open Go.RowKit

/-- A question. -/
structure Qt where
  name : List (List UInt8)
  kind : Int
  cls : Int
/-- Where its name lies, and what room it has. -/
abbrev QV := Option Addr × Nat
def cellsQ (p : QV × Qt) : List Value := [.slice p.1.1 p.2.name.length p.1.2, .int .i64 p.2.kind, .int .i64 p.2.cls]
abbrev valQ (x : QV) (a : Qt) : Value := .agg #[.slice x.1 a.name.length x.2, .int .i64 a.kind, .int .i64 a.cls]
theorem cellsQ_len (p : QV × Qt) : (cellsQ p).length = 3 := rfl
theorem cellsQ_one (ps : List (QV × Qt)) : ∀ u ∈ ps.flatMap cellsQ, u.oneCell' = true := by
  intro u hu
  obtain ⟨p, _, hp⟩ := List.mem_flatMap.1 hu
  simp only [cellsQ, List.mem_cons, List.not_mem_nil, or_false] at hp
  rcases hp with rfl | rfl | rfl <;> rfl
theorem cellsQ_one1 (p : QV × Qt) : ∀ u ∈ cellsQ p, u.oneCell' = true := fun u hu => cellsQ_one [p] u (by simpa using hu)
def QAt (w : World) (H : Nat) (x : QV) (a : Qt) : Prop := Row w H x.1 (a.name.map sv)
def QsAt (w : World) (H : Nat) (A : Option Addr) (ps : List (QV × Qt)) : Prop := Row w H A (ps.flatMap cellsQ) ∧ ∀ p ∈ ps, QAt w H p.1 p.2
theorem QsAt.below {w w' : World} {H : Nat} {A : Option Addr} {ps : List (QV × Qt)} (h : QsAt w H A ps) (hb : Below H w w') : QsAt w' H A ps := ⟨h.1.below hb, fun p hp => Row.below (h.2 p hp) hb⟩
theorem QsAt.mono {w : World} {H H' : Nat} {A : Option Addr} {ps : List (QV × Qt)} (h : QsAt w H A ps) (hb : H ≤ H') : QsAt w H' A ps := ⟨h.1.mono hb, fun p hp => Row.mono (h.2 p hp) hb⟩
theorem QsAt.at_ {w : World} {H : Nat} {A : Option Addr} {ps : List (QV × Qt)} (h : QsAt w H A ps) {i : Nat} (hi : i < ps.length) :
    ∃ b off, A = some ⟨b, off, none⟩ ∧ b < H ∧ QAt w H (ps[i]).1 (ps[i]).2 ∧ w.cell? ⟨b, off + i * 3, none⟩ = some (.slice (ps[i]).1.1 (ps[i]).2.name.length (ps[i]).1.2) ∧ w.cell? ⟨b, off + i * 3 + 1, none⟩ = some (.int .i64 (ps[i]).2.kind) ∧ w.cell? ⟨b, off + i * 3 + 2, none⟩ = some (.int .i64 (ps[i]).2.cls) := by
  obtain ⟨b, off, e, hb, hc⟩ := h.1.part cellsQ_len (by omega) hi
  exact ⟨b, off, e, hb, h.2 _ (List.getElem_mem hi), hc 0 _ rfl, hc 1 _ rfl, hc 2 _ rfl⟩
def qsts (ps : List (QV × Qt)) : List Qt := ps.map (·.2)
theorem length_qsts (ps : List (QV × Qt)) : (qsts ps).length = ps.length := by simp [qsts]
theorem qsts_append (ps qs : List (QV × Qt)) : qsts (ps ++ qs) = qsts ps ++ qsts qs := by simp [qsts]

end Go.Proofs.Ythppgofpbpjglaa
