/-
  The contract of the document's OwnRRs.
-/
import Derived.Test.YtjjmllbkfbdcnaaRLight
namespace Go.Proofs.Ytjjmllbkfbdcnaa
open Go.RowKit

theorem rr_info : (Try.prog.info? 51).map (fun i => (i.zero, i.size, i.bytes)) = some (some (.agg #[.slice none 0 0, .int .i64 0, .int .i64 0, .int .i64 0, .slice none 0 0, .slice none 0 0, .slice none 0 0, .slice none 0 0, .slice none 0 0]), 9, 168) := by kernel_rfl
theorem own_apartR {w : World} {b1 b2 : Nat} {e1 e2 : TypeId} {s1 s2 n1 n2 : Nat} {v1 v2 : Value} {x1 x2 : List Value} (h1 : w.ownsRow b1 e1 s1 v1 n1 x1) (h2 : w.ownsRow b2 e2 s2 v2 n2 x2) (he : e1 ≠ e2) {j : Nat} (hj : v1.ownBlock = some j) : v2.ownBlock ≠ some j := by
  intro hk
  rcases h1.2 with ⟨rfl, _⟩ | ⟨g1, _, c1, rfl, _, hh1, _⟩
  · cases hj
  rcases h2.2 with ⟨rfl, _⟩ | ⟨g2, _, c2, rfl, _, hh2, _⟩
  · cases hk
  simp only [Value.ownBlock, Option.some.injEq] at hj hk
  subst hj
  subst hk
  rw [hh1] at hh2
  injection hh2 with hh2
  injection hh2 with _ hh2 _
  exact he hh2
theorem cellsR_one1 (p : RV × Rt) : ∀ u ∈ cellsR p, u.oneCell' = true := fun u hu => cellsR_one [p] u (by simpa using hu)
/-- A record whose slices are the call's own. -/
structure OwnR (w : World) (B : Nat) (x : RV) (r : Rt) : Prop where
  n : w.ownsRow B 9 1 (x.vn r) r.name.length (r.name.map sv)
  d : OwnD w B x.d r.data
theorem OwnD.monoB {w : World} {B B' : Nat} {x : DV} {d : Dt} (h : OwnD w B x d) (hb : B' ≤ B) : OwnD w B' x d := ⟨own_mono h.b hb, own_mono h.h hb, own_mono h.m hb, own_mono h.n hb, own_mono h.t hb⟩
theorem OwnR.at_ {w : World} {B : Nat} {x : RV} {r : Rt} (h : OwnR w B x r) : RAt w w.heap.size x r := ⟨Row.of_own h.n, own_cap h.n, h.d.at_⟩
theorem OwnR.keep {w w' : World} {B : Nat} {x : RV} {r : Rt} (h : OwnR w B x r) (hk : ∀ g, g < w.heap.size → w'.heap[g]? = w.heap[g]?) : OwnR w' B x r :=
  ⟨own_keep h.n fun g e => hk g (h.n.lt g e).2, h.d.keep hk⟩
theorem OwnR.keepB {w w' : World} {B : Nat} {x : RV} {r : Rt} (h : OwnR w B x r) (hk : ∀ g, B ≤ g → g < w.heap.size → w'.heap[g]? = w.heap[g]?) : OwnR w' B x r :=
  ⟨own_keep h.n fun g e => hk g (h.n.lt g e).1 (h.n.lt g e).2, own_keep h.d.b fun g e => hk g (h.d.b.lt g e).1 (h.d.b.lt g e).2, own_keep h.d.h fun g e => hk g (h.d.h.lt g e).1 (h.d.h.lt g e).2, own_keep h.d.m fun g e => hk g (h.d.m.lt g e).1 (h.d.m.lt g e).2,
    own_keep h.d.n fun g e => hk g (h.d.n.lt g e).1 (h.d.n.lt g e).2, own_keep h.d.t fun g e => hk g (h.d.t.lt g e).1 (h.d.t.lt g e).2⟩
theorem OwnR.grown {w w' : World} {B : Nat} {x : RV} {r : Rt} (h : OwnR w B x r) {v : Value} {n : Nat} {xs : List Value} (hv : w.ownsRow B 51 9 v n xs) (hg : w.grownBy w' v.ownBlock) : OwnR w' B x r := by
  have hk : ∀ {e : TypeId} {s m : Nat} {u : Value} {ys : List Value}, w.ownsRow B e s u m ys → e ≠ 51 → ∀ g, u.ownBlock = some g → w'.heap[g]? = w.heap[g]? := fun ho hne g hj =>
    hg.block g (ho.lt g hj).2 (Ne.symm (own_apartR ho hv hne hj))
  exact ⟨own_keep h.n (hk h.n (by decide)), own_keep h.d.b (hk h.d.b (by decide)), own_keep h.d.h (hk h.d.h (by decide)), own_keep h.d.m (hk h.d.m (by decide)), own_keep h.d.n (hk h.d.n (by decide)), own_keep h.d.t (hk h.d.t (by decide))⟩

theorem step_fieldR {a : Act} {w : World} {K : Act → World → Prop} {Q : Exit → Act → World → Prop} (o : Oper) (H k : Nat) (ho : o.op = .fieldAddr 51 (.tmp k) 4) (h1 : a.tmps[k]? = some (.pointer (some ⟨H, 0, none⟩)))
    (h : K (a.put o.dst (.pointer (some ⟨H, 4, none⟩))) w) : o.wp Try.prog a w K Q := by
  unfold Oper.wp
  simp [execOp, ho, h1, go_sem]
  exact h
/-- The data of a record is stored; of the new world this much is told. -/
theorem step_storeR {a : Act} {w : World} {K : Act → World → Prop} {Q : Exit → Act → World → Prop} (o : Oper) (g k1 k2 : Nat) (y : DV) (d : Dt) (u0 u1 u2 u3 u4 u5 u6 u7 u8 : Value) (ho : o.op = .store 26 (.tmp k1) (.tmp k2)) (h2 : a.tmps[k1]? = some (.pointer (some ⟨g, 4, none⟩)))
    (hu : a.tmps[k2]? = some (y.val d)) (hw : Whole w g 51 [u0, u1, u2, u3, u4, u5, u6, u7, u8])
    (h : ∀ V, Whole V g 51 [u0, u1, u2, u3, y.vb d, y.vh d, y.vm d, y.vn d, y.vt d] → Below g w V → (∀ j, j ≠ g → V.heap[j]? = w.heap[j]?) → V.heap.size = w.heap.size → K (a.put o.dst undef) V) : o.wp Try.prog a w K Q := by
  have q4 : w.cell? ⟨g, 4, none⟩ = some u4 := hw.cell 4
  have q5 : w.cell? ⟨g, 5, none⟩ = some u5 := hw.cell 5
  have q6 : w.cell? ⟨g, 6, none⟩ = some u6 := hw.cell 6
  have q7 : w.cell? ⟨g, 7, none⟩ = some u7 := hw.cell 7
  have q8 : w.cell? ⟨g, 8, none⟩ = some u8 := hw.cell 8
  have z4 : w.frozen? ⟨g, 4, none⟩ = false := hw.frozen 4
  have z5 : w.frozen? ⟨g, 5, none⟩ = false := hw.frozen 5
  have z6 : w.frozen? ⟨g, 6, none⟩ = false := hw.frozen 6
  have z7 : w.frozen? ⟨g, 7, none⟩ = false := hw.frozen 7
  have z8 : w.frozen? ⟨g, 8, none⟩ = false := hw.frozen 8
  have hk := h (((((w.setCell ⟨g, 4, none⟩ (y.vb d)).setCell ⟨g, 5, none⟩ (y.vh d)).setCell ⟨g, 6, none⟩ (y.vm d)).setCell ⟨g, 7, none⟩ (y.vn d)).setCell ⟨g, 8, none⟩ (y.vt d))
    (((((hw.set_ 4 _).set_ 5 _).set_ 6 _).set_ 7 _).set_ 8 _)
    (by
      have hs (W : World) (i : Nat) (u : Value) : Below g W (W.setCell ⟨g, i, none⟩ u) := (Below.refl _ W).setCell (p := ⟨g, i, none⟩) (Nat.le_refl _) u
      exact ((((hs _ 4 _).trans (hs _ 5 _)).trans (hs _ 6 _)).trans (hs _ 7 _)).trans (hs _ 8 _))
    (fun j hj => by
      have hs (W : World) (i : Nat) (u : Value) : (W.setCell ⟨g, i, none⟩ u).heap[j]? = W.heap[j]? := Below.heap_setCell W ⟨g, i, none⟩ u j hj
      rw [hs, hs, hs, hs, hs])
    (by simp)
  unfold Oper.wp
  simp [execOp, ho, go_sem, h2, hu, q4, q5, q6, q7, q8, z4, z5, z6, z7, z8]
  exact hk
/-- Rows of records that a call has made. -/
structure RowsAt (w0 : World) (v : Value) (qs : List (RV × Rt)) (w : World) : Prop where
  row : w.ownsRow w0.heap.size 51 9 v qs.length (qs.flatMap cellsR)
  each : ∀ q ∈ qs, OwnR w w0.heap.size q.1 q.2
  below : Below w0.heap.size w0 w
  size : w0.heap.size ≤ w.heap.size
theorem RowsAt.step {w0 w w' : World} {v : Value} {qs : List (RV × Rt)} (h : RowsAt w0 v qs w) (hb : Below w.heap.size w w') : RowsAt w0 v qs w' :=
  ⟨own_keep h.row fun j hj => hb.block j (h.row.lt j hj).2, fun q hq => (h.each q hq).keep fun g hg => hb.block g hg, h.below.trans (hb.mono h.size), Nat.le_trans h.size hb.size⟩
theorem RowsAt.reads {w0 w : World} {A : Option Addr} {c : Nat} {qs : List (RV × Rt)} (h : RowsAt w0 (.slice A qs.length c) qs w) : RsAt w w.heap.size A qs :=
  ⟨Row.of_own h.row, fun q hq => (h.each q hq).at_⟩
theorem RowsAt.nil (w : World) : RowsAt w (.slice none 0 0) [] w := ⟨World.ownsRow_nil _ _ _ _, fun _ h => absurd h (List.not_mem_nil), Below.refl _ _, Nat.le_refl _⟩
theorem RowsAt.snoc {w0 w w' : World} {v v' : Value} {qs : List (RV × Rt)} (h : RowsAt w0 v qs w) {y : RV} {r : Rt} (hy : OwnR w w0.heap.size y r) (ho : w'.ownsRow w0.heap.size 51 9 v' (qs.length + 1) (qs.flatMap cellsR ++ cellsR (y, r)))
    (hg : w.grownBy w' v.ownBlock) : RowsAt w0 v' (qs ++ [(y, r)]) w' := by
  refine ⟨by rw [List.length_append, List.flatMap_append]; simpa using ho, fun q hq => ?_, own_below h.below (Nat.le_refl _) h.size h.row hg, Nat.le_trans h.size hg.size⟩
  rcases List.mem_append.1 hq with hq | hq
  · exact (h.each q hq).grown h.row hg
  · rw [List.mem_singleton.1 hq]
    exact hy.grown h.row hg

/-- What OwnRRs leaves: records of its own that read as those that were handed in. -/
def OwnRs (w : World) (rs : List Rt) (e : Ending) (w' : World) : Prop :=
  ∃ (A : Option Addr) (c : Nat) (qs : List (RV × Rt)), e = .returned (.slice A qs.length c) ∧ recs qs = rs ∧ RsAt w' w'.heap.size A qs ∧ Below w.heap.size w w'
def RowsOut (w : World) (rs : List Rt) (e : Ending) (w' : World) : Prop :=
  ∃ (A : Option Addr) (c : Nat) (qs : List (RV × Rt)), e = .returned (.slice A qs.length c) ∧ recs qs = rs ∧ RowsAt w (.slice A qs.length c) qs w'
def OwnRel (w : World) (ps : List (RV × Rt)) (v i : Value) (wr : World) : Prop :=
  ∃ (j : Nat) (qs : List (RV × Rt)), j ≤ ps.length ∧ i = .int .i64 j ∧ recs qs = recs (ps.take j) ∧ qs.length = j ∧ RowsAt w v qs wr

set_option maxRecDepth 20000 in
set_option maxHeartbeats 8000000 in
theorem ownRRs_rows (w : World) (A : Option Addr) (c : Nat) (ps : List (RV × Rt)) (hp : RsAt w w.heap.size A ps) (hr : ∀ p ∈ ps, LightR p.2) (hl : ps.length ≤ 100) :
    Calls Try.prog 33 #[.slice A ps.length c] w (RowsOut w (recs ps)) := by
  obtain ⟨i0, hi0, hz0, hz1, hz2⟩ := info_parts rr_info
  obtain ⟨s0, hs0, hx0, hx1, hx2⟩ := info_parts str_info
  have HP := Lib.hid hp
  have HR := Lib.hid hr
  clear hp hr
  go_enter Try.func33, Try.ntmps33
  go_wp2
  go_loopw [3, 4] (OwnRel w ps) (fun _ i _ => ps.length - (intOf i).toNat)
  case atStart => exact ⟨0, [], Nat.zero_le _, rfl, rfl, rfl, RowsAt.nil w⟩
  case round =>
    obtain ⟨j, qs, hj, rfl, hq, hqj, hs⟩ := hrel
    have HS := Lib.hid hs
    have HQ := Lib.hid hq
    have HJ := Lib.hid hqj
    obtain ⟨A1, c1, rfl, _, _⟩ := own_form hs.row
    have hqj1 : qs.length ≤ ps.length := by omega
    clear hs hq hqj
    by_cases hlt : j < ps.length
    · obtain ⟨b, off, rfl, hbH, hra, q0, q1, q2, q3, q4, q5, q6, q7, q8⟩ := (HP.out.below HS.out.below).at_ hlt
      have hri := HR.out _ (List.getElem_mem hlt)
      have HF := Lib.hid (recs_at hlt)
      revert hra q0 q1 q2 q3 q4 q5 q6 q7 q8 hri HF
      generalize ps[j] = p
      obtain ⟨x, r⟩ := p
      intro hra q0 q1 q2 q3 q4 q5 q6 q7 q8 hri HF
      dsimp only at *
      have HRI := Lib.hid hri
      have HRA := Lib.hid (hra.mono HS.out.size)
      have hln := hri.l0
      have hnew := (Below.refl wr.heap.size wr).alloc (Nat.le_refl _) (.cells #[.slice x.A r.name.length x.c, .int .i64 r.kind, .int .i64 r.cls, .int .i64 r.ttl, .slice x.d.Ab r.data.bytes.length x.d.cb, .slice x.d.Ah r.data.host.length x.d.ch, .slice x.d.Am r.data.mail.length x.d.cm, .slice x.d.An r.data.nums.length x.d.cn, .slice x.d.At r.data.texts.length x.d.ct] 51)
      have hnew2 : Below wr.heap.size wr ((wr.alloc (.cells #[.slice x.A r.name.length x.c, .int .i64 r.kind, .int .i64 r.cls, .int .i64 r.ttl, .slice x.d.Ab r.data.bytes.length x.d.cb, .slice x.d.Ah r.data.host.length x.d.ch, .slice x.d.Am r.data.mail.length x.d.cm, .slice x.d.An r.data.nums.length x.d.cn, .slice x.d.At r.data.texts.length x.d.ct] 51)).alloc (.cells #[] 9)) := hnew.alloc (by simp) _
      have HNR := Lib.hid ((hra.mono HS.out.size).below hnew2)
      have HN2 := Lib.hid hnew2
      have HWP := Lib.hid (show Whole ((wr.alloc (.cells #[.slice x.A r.name.length x.c, .int .i64 r.kind, .int .i64 r.cls, .int .i64 r.ttl, .slice x.d.Ab r.data.bytes.length x.d.cb, .slice x.d.Ah r.data.host.length x.d.ch, .slice x.d.Am r.data.mail.length x.d.cm, .slice x.d.An r.data.nums.length x.d.cn, .slice x.d.At r.data.texts.length x.d.ct] 51)).alloc (.cells #[] 9)) wr.heap.size 51 [.slice x.A r.name.length x.c, .int .i64 r.kind, .int .i64 r.cls, .int .i64 r.ttl, .slice x.d.Ab r.data.bytes.length x.d.cb, .slice x.d.Ah r.data.host.length x.d.ch, .slice x.d.Am r.data.mail.length x.d.cm, .slice x.d.An r.data.nums.length x.d.cn, .slice x.d.At r.data.texts.length x.d.ct] from (Whole.made wr [.slice x.A r.name.length x.c, .int .i64 r.kind, .int .i64 r.cls, .int .i64 r.ttl, .slice x.d.Ab r.data.bytes.length x.d.cb, .slice x.d.Ah r.data.host.length x.d.ch, .slice x.d.Am r.data.mail.length x.d.cm, .slice x.d.An r.data.nums.length x.d.cn, .slice x.d.At r.data.texts.length x.d.ct] 51).alloc _)
      have HL := Lib.hid (show ((wr.alloc (.cells #[.slice x.A r.name.length x.c, .int .i64 r.kind, .int .i64 r.cls, .int .i64 r.ttl, .slice x.d.Ab r.data.bytes.length x.d.cb, .slice x.d.Ah r.data.host.length x.d.ch, .slice x.d.Am r.data.mail.length x.d.cm, .slice x.d.An r.data.nums.length x.d.cn, .slice x.d.At r.data.texts.length x.d.ct] 51)).alloc (.cells #[] 9)).ownsRow (wr.heap.size + 1) 9 1 (.slice (some ⟨wr.heap.size + 1, 0, none⟩) 0 0) 0 [] by
        have h := own_lit (wr.alloc (.cells #[.slice x.A r.name.length x.c, .int .i64 r.kind, .int .i64 r.cls, .int .i64 r.ttl, .slice x.d.Ab r.data.bytes.length x.d.cb, .slice x.d.Ah r.data.host.length x.d.ch, .slice x.d.Am r.data.mail.length x.d.cm, .slice x.d.An r.data.nums.length x.d.cn, .slice x.d.At r.data.texts.length x.d.ct] 51)) 9 1
        rwa [show (wr.alloc (.cells #[.slice x.A r.name.length x.c, .int .i64 r.kind, .int .i64 r.cls, .int .i64 r.ttl, .slice x.d.Ab r.data.bytes.length x.d.cb, .slice x.d.Ah r.data.host.length x.d.ch, .slice x.d.Am r.data.mail.length x.d.cm, .slice x.d.An r.data.nums.length x.d.cn, .slice x.d.At r.data.texts.length x.d.ct] 51)).heap.size = wr.heap.size + 1 by simp] at h)
      clear hra hri hnew hnew2
      go_wp2_with (
        at_builtin
        refine wpList_append_row rfl (.tmp 16) (.tmp 18) _ rfl (wr.heap.size + 1) 9 s0 _ 1 16 Try.underlying23 hs0 hx0 hx1 hx2 rfl (by omega) (.slice (some ⟨wr.heap.size + 1, 0, none⟩) 0 0) 0 [] rfl
          HL.out x.A r.name.length x.c wr.heap.size (r.name.map sv) rfl (by rw [List.length_map, Nat.mul_one]) HNR.out.n (sv_one _) (by unfold maxLen; omega) (by omega) (by simp) ?_
        intro v2 w2 hown2 hg2
        simp only [Nat.zero_add, List.nil_append] at hown2
        obtain ⟨A2, c2, rfl, _, _⟩ := own_form hown2
        have HO2 := Lib.hid hown2
        have HW2 := Lib.hid (HWP.out.grown hg2 (by simp [Value.ownBlock]))
        have HB2 := Lib.hid (HN2.out.trans ((own_below (Below.refl (wr.heap.size + 1) _) (Nat.le_refl _) (by simp) HL.out hg2).mono (by omega)))
        have t0' : w2.cell? ⟨wr.heap.size, 0, none⟩ = some (.slice x.A r.name.length x.c) := HW2.out.cell 0
        have f0' : w2.frozen? ⟨wr.heap.size, 0, none⟩ = false := HW2.out.frozen 0
        have HW3 := Lib.hid (show Whole (w2.setCell ⟨wr.heap.size, 0, none⟩ (.slice A2 r.name.length c2)) wr.heap.size 51 [.slice A2 r.name.length c2, .int .i64 r.kind, .int .i64 r.cls, .int .i64 r.ttl, .slice x.d.Ab r.data.bytes.length x.d.cb, .slice x.d.Ah r.data.host.length x.d.ch, .slice x.d.Am r.data.mail.length x.d.cm, .slice x.d.An r.data.nums.length x.d.cn, .slice x.d.At r.data.texts.length x.d.ct] from HW2.out.set_ 0 _)
        have HB3 := Lib.hid (HB2.out.setCell (p := ⟨wr.heap.size, 0, none⟩) (Nat.le_refl _) (.slice A2 r.name.length c2))
        have t0 : (w2.setCell ⟨wr.heap.size, 0, none⟩ (.slice A2 r.name.length c2)).cell? ⟨wr.heap.size, 0, none⟩ = some (.slice A2 r.name.length c2) := Whole.cell (L := [.slice A2 r.name.length c2, .int .i64 r.kind, .int .i64 r.cls, .int .i64 r.ttl, .slice x.d.Ab r.data.bytes.length x.d.cb, .slice x.d.Ah r.data.host.length x.d.ch, .slice x.d.Am r.data.mail.length x.d.cm, .slice x.d.An r.data.nums.length x.d.cn, .slice x.d.At r.data.texts.length x.d.ct]) HW3.out 0
        have t1 : (w2.setCell ⟨wr.heap.size, 0, none⟩ (.slice A2 r.name.length c2)).cell? ⟨wr.heap.size, 1, none⟩ = some (.int .i64 r.kind) := Whole.cell (L := [.slice A2 r.name.length c2, .int .i64 r.kind, .int .i64 r.cls, .int .i64 r.ttl, .slice x.d.Ab r.data.bytes.length x.d.cb, .slice x.d.Ah r.data.host.length x.d.ch, .slice x.d.Am r.data.mail.length x.d.cm, .slice x.d.An r.data.nums.length x.d.cn, .slice x.d.At r.data.texts.length x.d.ct]) HW3.out 1
        have t2 : (w2.setCell ⟨wr.heap.size, 0, none⟩ (.slice A2 r.name.length c2)).cell? ⟨wr.heap.size, 2, none⟩ = some (.int .i64 r.cls) := Whole.cell (L := [.slice A2 r.name.length c2, .int .i64 r.kind, .int .i64 r.cls, .int .i64 r.ttl, .slice x.d.Ab r.data.bytes.length x.d.cb, .slice x.d.Ah r.data.host.length x.d.ch, .slice x.d.Am r.data.mail.length x.d.cm, .slice x.d.An r.data.nums.length x.d.cn, .slice x.d.At r.data.texts.length x.d.ct]) HW3.out 2
        have t3 : (w2.setCell ⟨wr.heap.size, 0, none⟩ (.slice A2 r.name.length c2)).cell? ⟨wr.heap.size, 3, none⟩ = some (.int .i64 r.ttl) := Whole.cell (L := [.slice A2 r.name.length c2, .int .i64 r.kind, .int .i64 r.cls, .int .i64 r.ttl, .slice x.d.Ab r.data.bytes.length x.d.cb, .slice x.d.Ah r.data.host.length x.d.ch, .slice x.d.Am r.data.mail.length x.d.cm, .slice x.d.An r.data.nums.length x.d.cn, .slice x.d.At r.data.texts.length x.d.ct]) HW3.out 3
        have t4 : (w2.setCell ⟨wr.heap.size, 0, none⟩ (.slice A2 r.name.length c2)).cell? ⟨wr.heap.size, 4, none⟩ = some (.slice x.d.Ab r.data.bytes.length x.d.cb) := Whole.cell (L := [.slice A2 r.name.length c2, .int .i64 r.kind, .int .i64 r.cls, .int .i64 r.ttl, .slice x.d.Ab r.data.bytes.length x.d.cb, .slice x.d.Ah r.data.host.length x.d.ch, .slice x.d.Am r.data.mail.length x.d.cm, .slice x.d.An r.data.nums.length x.d.cn, .slice x.d.At r.data.texts.length x.d.ct]) HW3.out 4
        have t5 : (w2.setCell ⟨wr.heap.size, 0, none⟩ (.slice A2 r.name.length c2)).cell? ⟨wr.heap.size, 5, none⟩ = some (.slice x.d.Ah r.data.host.length x.d.ch) := Whole.cell (L := [.slice A2 r.name.length c2, .int .i64 r.kind, .int .i64 r.cls, .int .i64 r.ttl, .slice x.d.Ab r.data.bytes.length x.d.cb, .slice x.d.Ah r.data.host.length x.d.ch, .slice x.d.Am r.data.mail.length x.d.cm, .slice x.d.An r.data.nums.length x.d.cn, .slice x.d.At r.data.texts.length x.d.ct]) HW3.out 5
        have t6 : (w2.setCell ⟨wr.heap.size, 0, none⟩ (.slice A2 r.name.length c2)).cell? ⟨wr.heap.size, 6, none⟩ = some (.slice x.d.Am r.data.mail.length x.d.cm) := Whole.cell (L := [.slice A2 r.name.length c2, .int .i64 r.kind, .int .i64 r.cls, .int .i64 r.ttl, .slice x.d.Ab r.data.bytes.length x.d.cb, .slice x.d.Ah r.data.host.length x.d.ch, .slice x.d.Am r.data.mail.length x.d.cm, .slice x.d.An r.data.nums.length x.d.cn, .slice x.d.At r.data.texts.length x.d.ct]) HW3.out 6
        have t7 : (w2.setCell ⟨wr.heap.size, 0, none⟩ (.slice A2 r.name.length c2)).cell? ⟨wr.heap.size, 7, none⟩ = some (.slice x.d.An r.data.nums.length x.d.cn) := Whole.cell (L := [.slice A2 r.name.length c2, .int .i64 r.kind, .int .i64 r.cls, .int .i64 r.ttl, .slice x.d.Ab r.data.bytes.length x.d.cb, .slice x.d.Ah r.data.host.length x.d.ch, .slice x.d.Am r.data.mail.length x.d.cm, .slice x.d.An r.data.nums.length x.d.cn, .slice x.d.At r.data.texts.length x.d.ct]) HW3.out 7
        have t8 : (w2.setCell ⟨wr.heap.size, 0, none⟩ (.slice A2 r.name.length c2)).cell? ⟨wr.heap.size, 8, none⟩ = some (.slice x.d.At r.data.texts.length x.d.ct) := Whole.cell (L := [.slice A2 r.name.length c2, .int .i64 r.kind, .int .i64 r.cls, .int .i64 r.ttl, .slice x.d.Ab r.data.bytes.length x.d.cb, .slice x.d.Ah r.data.host.length x.d.ch, .slice x.d.Am r.data.mail.length x.d.cm, .slice x.d.An r.data.nums.length x.d.cn, .slice x.d.At r.data.texts.length x.d.ct]) HW3.out 8
        clear hown2 hg2)
      have HC := Lib.hid (ownData_few x.d r.data (w2.setCell ⟨wr.heap.size, 0, none⟩ (.slice A2 r.name.length c2)) ((HRA.out.below HB3.out).d.mono HB3.out.size) HRI.out.few)
      refine HC.out.mono ?_
      rintro e w4 ⟨y, rfl, hy, hp1, hp2, hb4⟩
      have hzw2 : wr.heap.size < w2.heap.size := HW2.out.lt
      have hz3 : (w2.setCell ⟨wr.heap.size, 0, none⟩ (.slice A2 r.name.length c2)).heap.size = w2.heap.size := by simp
      rw [hz3] at hy hb4
      have hz4 : w2.heap.size ≤ w4.heap.size := by have h := hb4.size; rwa [hz3] at h
      have HW4 := Lib.hid (HW3.out.below hb4 hzw2)
      have HB4 := Lib.hid (HB3.out.trans (hb4.mono (Nat.le_of_lt hzw2)))
      rename_i hkk
      dsimp only
      refine hkk _ _ ?_
      refine wpList_plain rfl fun K2 hK2 => step_fieldR _ wr.heap.size 5 rfl rfl ?_
      refine hK2 _ _ ?_
      refine wpList_plain rfl fun K3 hK3 => step_storeR _ wr.heap.size 24 23 y r.data _ _ _ _ _ _ _ _ _ rfl rfl rfl HW4.out ?_
      intro V hWV hbv hhv hvs
      refine hK3 _ _ ?_
      clear hkk K2 hK2 K3 hK3
      have u0' : V.cell? ⟨wr.heap.size, 0, none⟩ = some (.slice A2 r.name.length c2) := Whole.cell (L := [.slice A2 r.name.length c2, .int .i64 r.kind, .int .i64 r.cls, .int .i64 r.ttl, .slice y.Ab r.data.bytes.length y.cb, .slice y.Ah r.data.host.length y.ch, .slice y.Am r.data.mail.length y.cm, .slice y.An r.data.nums.length y.cn, .slice y.At r.data.texts.length y.ct]) hWV 0
      have u1' : V.cell? ⟨wr.heap.size, 1, none⟩ = some (.int .i64 r.kind) := Whole.cell (L := [.slice A2 r.name.length c2, .int .i64 r.kind, .int .i64 r.cls, .int .i64 r.ttl, .slice y.Ab r.data.bytes.length y.cb, .slice y.Ah r.data.host.length y.ch, .slice y.Am r.data.mail.length y.cm, .slice y.An r.data.nums.length y.cn, .slice y.At r.data.texts.length y.ct]) hWV 1
      have u2' : V.cell? ⟨wr.heap.size, 2, none⟩ = some (.int .i64 r.cls) := Whole.cell (L := [.slice A2 r.name.length c2, .int .i64 r.kind, .int .i64 r.cls, .int .i64 r.ttl, .slice y.Ab r.data.bytes.length y.cb, .slice y.Ah r.data.host.length y.ch, .slice y.Am r.data.mail.length y.cm, .slice y.An r.data.nums.length y.cn, .slice y.At r.data.texts.length y.ct]) hWV 2
      have u3' : V.cell? ⟨wr.heap.size, 3, none⟩ = some (.int .i64 r.ttl) := Whole.cell (L := [.slice A2 r.name.length c2, .int .i64 r.kind, .int .i64 r.cls, .int .i64 r.ttl, .slice y.Ab r.data.bytes.length y.cb, .slice y.Ah r.data.host.length y.ch, .slice y.Am r.data.mail.length y.cm, .slice y.An r.data.nums.length y.cn, .slice y.At r.data.texts.length y.ct]) hWV 3
      have u4' : V.cell? ⟨wr.heap.size, 4, none⟩ = some (.slice y.Ab r.data.bytes.length y.cb) := Whole.cell (L := [.slice A2 r.name.length c2, .int .i64 r.kind, .int .i64 r.cls, .int .i64 r.ttl, .slice y.Ab r.data.bytes.length y.cb, .slice y.Ah r.data.host.length y.ch, .slice y.Am r.data.mail.length y.cm, .slice y.An r.data.nums.length y.cn, .slice y.At r.data.texts.length y.ct]) hWV 4
      have u5' : V.cell? ⟨wr.heap.size, 5, none⟩ = some (.slice y.Ah r.data.host.length y.ch) := Whole.cell (L := [.slice A2 r.name.length c2, .int .i64 r.kind, .int .i64 r.cls, .int .i64 r.ttl, .slice y.Ab r.data.bytes.length y.cb, .slice y.Ah r.data.host.length y.ch, .slice y.Am r.data.mail.length y.cm, .slice y.An r.data.nums.length y.cn, .slice y.At r.data.texts.length y.ct]) hWV 5
      have u6' : V.cell? ⟨wr.heap.size, 6, none⟩ = some (.slice y.Am r.data.mail.length y.cm) := Whole.cell (L := [.slice A2 r.name.length c2, .int .i64 r.kind, .int .i64 r.cls, .int .i64 r.ttl, .slice y.Ab r.data.bytes.length y.cb, .slice y.Ah r.data.host.length y.ch, .slice y.Am r.data.mail.length y.cm, .slice y.An r.data.nums.length y.cn, .slice y.At r.data.texts.length y.ct]) hWV 6
      have u7' : V.cell? ⟨wr.heap.size, 7, none⟩ = some (.slice y.An r.data.nums.length y.cn) := Whole.cell (L := [.slice A2 r.name.length c2, .int .i64 r.kind, .int .i64 r.cls, .int .i64 r.ttl, .slice y.Ab r.data.bytes.length y.cb, .slice y.Ah r.data.host.length y.ch, .slice y.Am r.data.mail.length y.cm, .slice y.An r.data.nums.length y.cn, .slice y.At r.data.texts.length y.ct]) hWV 7
      have u8' : V.cell? ⟨wr.heap.size, 8, none⟩ = some (.slice y.At r.data.texts.length y.ct) := Whole.cell (L := [.slice A2 r.name.length c2, .int .i64 r.kind, .int .i64 r.cls, .int .i64 r.ttl, .slice y.Ab r.data.bytes.length y.cb, .slice y.Ah r.data.host.length y.ch, .slice y.Am r.data.mail.length y.cm, .slice y.An r.data.nums.length y.cn, .slice y.At r.data.texts.length y.ct]) hWV 8
      have hzv : wr.heap.size ≤ V.heap.size := by rw [hvs]; omega
      have HS6 := Lib.hid (HS.out.step ((HB4.out.trans hbv).alloc hzv (.cells #[.slice A2 r.name.length c2, .int .i64 r.kind, .int .i64 r.cls, .int .i64 r.ttl, .slice y.Ab r.data.bytes.length y.cb, .slice y.Ah r.data.host.length y.ch, .slice y.Am r.data.mail.length y.cm, .slice y.An r.data.nums.length y.cn, .slice y.At r.data.texts.length y.ct] 51)))
      have hoc (g : Nat) (hg : g < w4.heap.size) : (V.alloc (.cells #[.slice A2 r.name.length c2, .int .i64 r.kind, .int .i64 r.cls, .int .i64 r.ttl, .slice y.Ab r.data.bytes.length y.cb, .slice y.Ah r.data.host.length y.ch, .slice y.Am r.data.mail.length y.cm, .slice y.An r.data.nums.length y.cn, .slice y.At r.data.texts.length y.ct] 51)).heap[g]? = V.heap[g]? := Below.heap_alloc V _ g (by rw [hvs]; exact hg)
      have HOR := Lib.hid (show OwnR (V.alloc (.cells #[.slice A2 r.name.length c2, .int .i64 r.kind, .int .i64 r.cls, .int .i64 r.ttl, .slice y.Ab r.data.bytes.length y.cb, .slice y.Ah r.data.host.length y.ch, .slice y.Am r.data.mail.length y.cm, .slice y.An r.data.nums.length y.cn, .slice y.At r.data.texts.length y.ct] 51)) w.heap.size ⟨A2, c2, y⟩ r from by
        refine ⟨own_mono (own_keep HO2.out fun g e => ?_) (Nat.le_trans HS.out.size (Nat.le_succ _)), ?_⟩
        · have h1 := (HO2.out.lt g e).1
          have h2 := (HO2.out.lt g e).2
          rw [hoc g (by omega), hhv g (by omega), hb4.block g h2]
          exact Below.heap_setCell w2 ⟨wr.heap.size, 0, none⟩ _ g (by show g ≠ wr.heap.size; omega)
        · have hd : OwnD w4 (wr.heap.size + 1) y r.data := hy.monoB (by omega)
          have hk : ∀ {e : TypeId} {s m : Nat} {u : Value} {ys : List Value}, w4.ownsRow (wr.heap.size + 1) e s u m ys → ∀ g, u.ownBlock = some g → (V.alloc (.cells #[.slice A2 r.name.length c2, .int .i64 r.kind, .int .i64 r.cls, .int .i64 r.ttl, .slice y.Ab r.data.bytes.length y.cb, .slice y.Ah r.data.host.length y.ch, .slice y.Am r.data.mail.length y.cm, .slice y.An r.data.nums.length y.cn, .slice y.At r.data.texts.length y.ct] 51)).heap[g]? = w4.heap[g]? := fun ho g hj => by
            have h1 := (ho.lt g hj).1
            rw [hoc g (ho.lt g hj).2, hhv g (by omega)]
          exact OwnD.monoB ⟨own_keep hd.b (hk hd.b), own_keep hd.h (hk hd.h), own_keep hd.m (hk hd.m), own_keep hd.n (hk hd.n), own_keep hd.t (hk hd.t)⟩ (Nat.le_trans HS.out.size (Nat.le_succ _)))
      have HRD := Lib.hid (show Row (V.alloc (.cells #[.slice A2 r.name.length c2, .int .i64 r.kind, .int .i64 r.cls, .int .i64 r.ttl, .slice y.Ab r.data.bytes.length y.cb, .slice y.Ah r.data.host.length y.ch, .slice y.Am r.data.mail.length y.cm, .slice y.An r.data.nums.length y.cn, .slice y.At r.data.texts.length y.ct] 51)) (V.heap.size + 1) (some ⟨V.heap.size, 0, none⟩) [.slice A2 r.name.length c2, .int .i64 r.kind, .int .i64 r.cls, .int .i64 r.ttl, .slice y.Ab r.data.bytes.length y.cb, .slice y.Ah r.data.host.length y.ch, .slice y.Am r.data.mail.length y.cm, .slice y.An r.data.nums.length y.cn, .slice y.At r.data.texts.length y.ct] from by
        have h := Row.made V #[.slice A2 r.name.length c2, .int .i64 r.kind, .int .i64 r.cls, .int .i64 r.ttl, .slice y.Ab r.data.bytes.length y.cb, .slice y.Ah r.data.host.length y.ch, .slice y.Am r.data.mail.length y.cm, .slice y.An r.data.nums.length y.cn, .slice y.At r.data.texts.length y.ct] 51
        exact h)
      clear hy hb4 hp1 hp2 hbv hhv hzv hoc hvs hWV HW2 HW3 HB2 HB3 HC HO2 HNR HN2 HWP HL HW4 HB4 t0 t1 t2 t3 t4 t5 t6 t7 t8 t0' f0' hz3
      go_wp2_with (
        at_builtin
        refine wpList_append_row rfl (.tmp 25) (.tmp 27) _ rfl w.heap.size 51 i0 _ 9 168 Try.underlying47 hi0 hz0 hz1 hz2 rfl (by omega) (.slice A1 qs.length c1) qs.length _ rfl HS6.out.row
          (some ⟨V.heap.size, 0, none⟩) 1 1 (V.heap.size + 1) (cellsR (⟨A2, c2, y⟩, r)) rfl rfl HRD.out (cellsR_one1 _) (by unfold maxLen; omega) (by omega) HS6.out.size ?_
        intro v7 w7 hown7 hg7
        have HS7 := Lib.hid (HS6.out.snoc HOR.out hown7 hg7)
        clear hown7 hg7)
      exact ⟨⟨j + 1, qs ++ [(⟨A2, c2, y⟩, r)], by omega, by go_num, by rw [HF.out, recs_append, HQ.out]; rfl, by simp [HJ.out], HS7.out⟩, by simp [intOf]; omega⟩
    · obtain rfl : j = ps.length := by omega
      go_wp2
      go_ret
      have HX := Lib.hid (show recs qs = recs ps by have h := HQ.out; rwa [List.take_length] at h)
      exact ⟨A1, c1, qs, rfl, HX.out, HS.out⟩

theorem ownRRs_any (w : World) (A : Option Addr) (c : Nat) (ps : List (RV × Rt)) (hp : RsAt w w.heap.size A ps) (hr : ∀ p ∈ ps, LightR p.2) (hl : ps.length ≤ 100) :
    Calls Try.prog 33 #[.slice A ps.length c] w (OwnRs w (recs ps)) :=
  (ownRRs_rows w A c ps hp hr hl).mono fun _ _ ⟨A', c', qs, he, hq, hs⟩ => ⟨A', c', qs, he, hq, hs.reads, hs.below⟩

end Go.Proofs.Ytjjmllbkfbdcnaa
