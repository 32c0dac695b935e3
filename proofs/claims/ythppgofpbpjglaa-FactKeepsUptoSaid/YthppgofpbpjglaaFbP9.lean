/-
  The contract of the document's OwnFact.
-/
import Derived.Test.YthppgofpbpjglaaFbP4
import Derived.Test.YthppgofpbpjglaaFbP8
import Derived.Test.YthppgofpbpjglaaFbP3
import Derived.Deep.CutRange
import Derived.BigRegion
import Derived.Test.YthppgofpbpjglaaRows
import Derived.Test.YthppgofpbpjglaaFbP1
import Derived.ProofKit
import Derived.SizedLaws
import Derived.Carry
import Derived.SliceStrings
import Derived.Deep.Slices
import Derived.Deep.Grids
import Derived.ChangeArms
import Derived.Test.YthppgofpbpjglaaFbP6
import Derived.Deep.QuietTactic
import Derived.BigQuiet
import Derived.Test.YthppgofpbpjglaaFbP5
import Derived.Test.YthppgofpbpjglaaFbP7
import Derived.Deep.RegionLaw
import Derived.Deep.AppendLies
import Derived.LaidEqlPtr
import Derived.Lib.AppendZeros
namespace Go.Proofs.Ythppgofpbpjglaa
open Go.RowKit

/-- A fact of one's own. -/
structure FOwn (w : World) (B : Nat) (x : FV) : Prop where
  n : w.ownsRow B 9 1 (.slice x.A x.name.length x.c) x.name.length (x.name.map sv)
  z : w.ownsRow B 9 1 (.slice x.zA x.zone.length x.zc) x.zone.length (x.zone.map sv)
  d : OwnD w B x.d x.soa
  s : w.ownsRow B 34 5 (.slice x.sA x.sp.length x.sc) x.sp.length (x.sp.flatMap cellsD)
  e : ∀ p ∈ x.sp, OwnD w B p.1 p.2
theorem FOwn.at_ {w : World} {B : Nat} {x : FV} (h : FOwn w B x) : FAt w w.heap.size x :=
  ⟨Row.of_own h.n, ⟨Row.of_own h.s, fun p hp => (h.e p hp).at_⟩, Row.of_own h.z, h.d.at_, own_cap h.n, own_cap h.z, own_cap h.s, own_capZ h.s⟩
theorem FOwn.monoB {w : World} {B B' : Nat} {x : FV} (h : FOwn w B x) (hb : B' ≤ B) : FOwn w B' x := ⟨own_mono h.n hb, own_mono h.z hb, h.d.monoB hb, own_mono h.s hb, fun p hp => (h.e p hp).monoB hb⟩
/-- What holds of blocks from B on is kept where these are. -/
theorem OwnD.keepB {w w' : World} {B : Nat} {x : DV} {d : Dt} (h : OwnD w B x d) (hk : ∀ g, B ≤ g → g < w.heap.size → w'.heap[g]? = w.heap[g]?) : OwnD w' B x d :=
  ⟨own_keep h.b fun g e => hk g (h.b.lt g e).1 (h.b.lt g e).2, own_keep h.h fun g e => hk g (h.h.lt g e).1 (h.h.lt g e).2, own_keep h.m fun g e => hk g (h.m.lt g e).1 (h.m.lt g e).2, own_keep h.n fun g e => hk g (h.n.lt g e).1 (h.n.lt g e).2, own_keep h.t fun g e => hk g (h.t.lt g e).1 (h.t.lt g e).2⟩
theorem FOwn.keepB {w w' : World} {B : Nat} {x : FV} (h : FOwn w B x) (hk : ∀ g, B ≤ g → g < w.heap.size → w'.heap[g]? = w.heap[g]?) : FOwn w' B x :=
  ⟨own_keep h.n fun g e => hk g (h.n.lt g e).1 (h.n.lt g e).2, own_keep h.z fun g e => hk g (h.z.lt g e).1 (h.z.lt g e).2, h.d.keepB hk, own_keep h.s fun g e => hk g (h.s.lt g e).1 (h.s.lt g e).2, fun p hp => (h.e p hp).keepB hk⟩
theorem own_own_ne13 {w : World} {b1 b2 s1 s2 n1 n2 : Nat} {e1 e2 : TypeId} {v1 v2 : Value} {xs1 xs2 : List Value} (h1 : w.ownsRow b1 e1 s1 v1 n1 xs1) (h2 : w.ownsRow b2 e2 s2 v2 n2 xs2) (hne : e1 ≠ e2) : v1.ownBlock = none ∨ v1.ownBlock ≠ v2.ownBlock := by
  rcases h1.2 with ⟨rfl, _⟩ | ⟨g, cap, cur, rfl, _, hh, _⟩
  · exact .inl rfl
  · right
    rcases h2.2 with ⟨rfl, _⟩ | ⟨g', cap', cur', rfl, _, hh', _⟩
    · exact fun h => by cases h
    · intro h
      have e : g = g' := Option.some.inj h
      subst e
      rw [hh] at hh'
      injection hh' with hh'
      injection hh' with _ e2
      exact hne e2
theorem own_grownT {w w' : World} {b1 b2 s1 s2 n1 n2 : Nat} {e1 e2 : TypeId} {v1 v2 : Value} {xs1 xs2 : List Value} (h1 : w.ownsRow b1 e1 s1 v1 n1 xs1) (h2 : w.ownsRow b2 e2 s2 v2 n2 xs2) (hne : e1 ≠ e2) (hg : w.grownBy w' v2.ownBlock) : w'.ownsRow b1 e1 s1 v1 n1 xs1 :=
  own_keep h1 fun g e => hg.block g (h1.lt g e).2 (by
    rcases own_own_ne13 h1 h2 hne with h | h
    · rw [h] at e; cases e
    · rw [← e]; exact h)
theorem OwnD.grownD {w w' : World} {B b2 n2 : Nat} {x : DV} {d : Dt} {v2 : Value} {xs2 : List Value} (h : OwnD w B x d) (h2 : w.ownsRow b2 34 5 v2 n2 xs2) (hg : w.grownBy w' v2.ownBlock) : OwnD w' B x d :=
  ⟨own_grownT h.b h2 (by decide) hg, own_grownT h.h h2 (by decide) hg, own_grownT h.m h2 (by decide) hg, own_grownT h.n h2 (by decide) hg, own_grownT h.t h2 (by decide) hg⟩

theorem dats_step13 {ps : List (DV × Dt)} {k : Nat} (hk : k < ps.length) : dats (ps.take (k + 1)) = dats (ps.take k) ++ [(ps[k]).2] := by
  rw [List.take_succ_eq_append_getElem hk, dats_append]
  rfl
/-- The boxes of OwnFact. -/
structure OwF (w : World) (L : List Value) (W : World) : Prop where
  a : Whole W w.heap.size 50 L
  b : Whole W (w.heap.size + 1) 50 [.slice none 0 0, .int .i64 0, .int .i64 0, .int .i64 0, .int .i64 0, .int .i64 0, .slice none 0 0, .slice none 0 0, .slice none 0 0, .slice none 0 0, .slice none 0 0, .slice none 0 0, .slice none 0 0]
  below : Below w.heap.size w W
  size : w.heap.size + 2 ≤ W.heap.size
theorem OwF.step {w : World} {L : List Value} {W W' : World} (h : OwF w L W) (hb : Below W.heap.size W W') : OwF w L W' :=
  ⟨h.a.below hb h.a.lt, h.b.below hb h.b.lt, h.below.trans (hb.mono (by have := h.size; omega)), Nat.le_trans h.size hb.size⟩
theorem OwF.put {w : World} {L L' : List Value} {W V : World} (h : OwF w L W) (hV : Whole V w.heap.size 50 L') (hG : Grew (fun j => j = w.heap.size) W V) (hz : V.heap.size = W.heap.size) : OwF w L' V := by
  have hb : Below w.heap.size W V := Grew.below (B := w.heap.size) hG (fun j hj => by rw [hj]; exact Nat.le_refl _) (by have := h.size; omega)
  exact ⟨hV, (hG.block _ h.b.lt (by omega)).trans h.b, h.below.trans hb, by rw [hz]; exact h.size⟩
theorem OwF.grown {w : World} {L : List Value} {W V : World} {B n size : Nat} {e : TypeId} {v : Value} {xs : List Value} (h : OwF w L W) (ho : W.ownsRow B e size v n xs) (hB : w.heap.size + 2 ≤ B) (hg : W.grownBy V v.ownBlock) : OwF w L V :=
  ⟨h.a.grown hg (fun e => by have := (ho.lt _ e.symm).1; omega), h.b.grown hg (fun e => by have := (ho.lt _ e.symm).1; omega), own_below h.below (by omega) (by have := h.size; omega) ho hg, Nat.le_trans h.size hg.size⟩
theorem OwF.made (w : World) (x : FV) : OwF w (cellsF x) ((w.alloc (.cells #[.slice x.A x.name.length x.c, .int .i64 x.h.typ, .int .i64 x.h.knd, .int .i64 x.h.rank, .int .i64 x.h.got, .int .i64 x.h.ttl, .slice x.sA x.sp.length x.sc, .slice x.zA x.zone.length x.zc, .slice x.d.Ab x.soa.bytes.length x.d.cb, .slice x.d.Ah x.soa.host.length x.d.ch, .slice x.d.Am x.soa.mail.length x.d.cm, .slice x.d.An x.soa.nums.length x.d.cn, .slice x.d.At x.soa.texts.length x.d.ct] 50)).alloc (.cells #[.slice none 0 0, .int .i64 0, .int .i64 0, .int .i64 0, .int .i64 0, .int .i64 0, .slice none 0 0, .slice none 0 0, .slice none 0 0, .slice none 0 0, .slice none 0 0, .slice none 0 0, .slice none 0 0] 50)) := by
  have hz : (w.alloc (.cells #[.slice x.A x.name.length x.c, .int .i64 x.h.typ, .int .i64 x.h.knd, .int .i64 x.h.rank, .int .i64 x.h.got, .int .i64 x.h.ttl, .slice x.sA x.sp.length x.sc, .slice x.zA x.zone.length x.zc, .slice x.d.Ab x.soa.bytes.length x.d.cb, .slice x.d.Ah x.soa.host.length x.d.ch, .slice x.d.Am x.soa.mail.length x.d.cm, .slice x.d.An x.soa.nums.length x.d.cn, .slice x.d.At x.soa.texts.length x.d.ct] 50)).heap.size = w.heap.size + 1 := by simp
  refine ⟨(Whole.made w (cellsF x) _).alloc _, ?_, ((Below.refl _ _).alloc (Nat.le_refl _) _).alloc (by simp) _, by simp⟩
  have := Whole.made (w.alloc (.cells #[.slice x.A x.name.length x.c, .int .i64 x.h.typ, .int .i64 x.h.knd, .int .i64 x.h.rank, .int .i64 x.h.got, .int .i64 x.h.ttl, .slice x.sA x.sp.length x.sc, .slice x.zA x.zone.length x.zc, .slice x.d.Ab x.soa.bytes.length x.d.cb, .slice x.d.Ah x.soa.host.length x.d.ch, .slice x.d.Am x.soa.mail.length x.d.cm, .slice x.d.An x.soa.nums.length x.d.cn, .slice x.d.At x.soa.texts.length x.d.ct] 50)) [.slice none 0 0, .int .i64 0, .int .i64 0, .int .i64 0, .int .i64 0, .int .i64 0, .slice none 0 0, .slice none 0 0, .slice none 0 0, .slice none 0 0, .slice none 0 0, .slice none 0 0, .slice none 0 0] 50
  rw [hz] at this
  exact this

structure FewF (x : FV) : Prop where
  n : x.name.length ≤ 300
  z : x.zone.length ≤ 300
  s : x.sp.length ≤ 300
  d : FewD x.soa
  e : ∀ p ∈ x.sp, FewD p.2
def OwnFOut (w : World) (f : Fc) (e : Ending) (w' : World) : Prop := ∃ x' : FV, e = .returned x'.val ∧ x'.fact = f ∧ FOwn w' w.heap.size x' ∧ Below w.heap.size w w'
/-- What holds within OwnFact's loop. -/
structure OwL (w : World) (x3 : FV) (v : Value) (qs : List (DV × Dt)) (wr : World) : Prop where
  x : OwF w (cellsF x3) wr
  n : wr.ownsRow (w.heap.size + 2) 9 1 (.slice x3.A x3.name.length x3.c) x3.name.length (x3.name.map sv)
  z : wr.ownsRow (w.heap.size + 2) 9 1 (.slice x3.zA x3.zone.length x3.zc) x3.zone.length (x3.zone.map sv)
  d : OwnD wr (w.heap.size + 2) x3.d x3.soa
  s : wr.ownsRow (w.heap.size + 2) 34 5 v qs.length (qs.flatMap cellsD)
  e : ∀ p ∈ qs, OwnD wr (w.heap.size + 2) p.1 p.2
theorem OwL.step {w : World} {x3 : FV} {v : Value} {qs : List (DV × Dt)} {W W' : World} (h : OwL w x3 v qs W) (hb : Below W.heap.size W W') : OwL w x3 v qs W' :=
  have k : ∀ g, w.heap.size + 2 ≤ g → g < W.heap.size → W'.heap[g]? = W.heap[g]? := fun g _ hg => hb.block g hg
  ⟨h.x.step hb, own_keep h.n fun g e => k g (h.n.lt g e).1 (h.n.lt g e).2, own_keep h.z fun g e => k g (h.z.lt g e).1 (h.z.lt g e).2, h.d.keepB k, own_keep h.s fun g e => k g (h.s.lt g e).1 (h.s.lt g e).2, fun p hp => (h.e p hp).keepB k⟩
theorem OwL.snoc {w : World} {x3 : FV} {v v' : Value} {qs : List (DV × Dt)} {W W' : World} (h : OwL w x3 v qs W) {y : DV} {d : Dt} (hy : OwnD W (w.heap.size + 2) y d)
    (ho : W'.ownsRow (w.heap.size + 2) 34 5 v' (qs.length + 1) (qs.flatMap cellsD ++ cellsD (y, d))) (hg : W.grownBy W' v.ownBlock) : OwL w x3 v' (qs ++ [(y, d)]) W' := by
  refine ⟨h.x.grown h.s (Nat.le_refl _) hg, own_grownT h.n h.s (by decide) hg, own_grownT h.z h.s (by decide) hg, h.d.grownD h.s hg, by rw [List.length_append, List.flatMap_append]; simpa using ho, fun p hp => ?_⟩
  rcases List.mem_append.1 hp with hp | hp
  · exact (h.e p hp).grownD h.s hg
  · rw [List.mem_singleton.1 hp]
    exact hy.grownD h.s hg
def OwRel (w : World) (x x3 : FV) (v i : Value) (wr : World) : Prop := ∃ (j : Nat) (qs : List (DV × Dt)), j ≤ x.sp.length ∧ i = .int .i64 j ∧ dats qs = dats (x.sp.take j) ∧ qs.length = j ∧ OwL w x3 v qs wr

theorem fact_size : (Try.prog.info? 50).map (·.size) = some 13 := by kernel_rfl
theorem data_size : (Try.prog.info? 34).map (·.size) = some 5 := by kernel_rfl
theorem strs_size : (Try.prog.info? 23).map (·.size) = some 1 := by kernel_rfl
theorem dats_size : (Try.prog.info? 24).map (·.size) = some 1 := by kernel_rfl









































































































































































end Go.Proofs.Ythppgofpbpjglaa

namespace Go.Proofs.Ythppgofpbpjglaa
open Go.RowKit

/-- What From was given. -/
structure Te where
  y : QV
  q : Qt
  m : MV
  A : Option Addr
  c : Nat
  z : List (List UInt8)
  now : Int
/-- The teller's cells. -/
def cellsT (T : Te) (an au ex fs : Value) : List Value := [.slice T.y.1 T.q.name.length T.y.2, .int .i64 T.q.kind, .int .i64 T.q.cls,
  .int .i64 T.m.h.id, .bool T.m.h.resp, .int .i64 T.m.h.op, .bool T.m.h.aa, .bool T.m.h.tc, .bool T.m.h.rd, .bool T.m.h.ra, .int .i64 T.m.h.rc, .slice T.m.qA T.m.qp.length T.m.qc, .slice T.m.s0.A T.m.s0.ps.length T.m.s0.c, .slice T.m.s1.A T.m.s1.ps.length T.m.s1.c, .slice T.m.s2.A T.m.s2.ps.length T.m.s2.c, .bool T.m.h.edns, .int .i64 T.m.h.size,
  .slice T.A T.z.length T.c, .int .i64 T.now, an, au, ex, fs]

/-- Is it a type that a call on the teller writes in? -/
def teT (t : TypeId) : Prop := t = 50 ∨ t = 74
def KeptT (w w' : World) : Prop := ∀ (g : Nat) (o : Obj), w.heap[g]? = some o → (∀ cs t fr, o = Obj.cells cs t fr → ¬ teT t) → w'.heap[g]? = w.heap[g]?
theorem lt_of_some {w : World} {g : Nat} {o : Obj} (h : w.heap[g]? = some o) : g < w.heap.size := by
  rcases Nat.lt_or_ge g w.heap.size with h1 | h1
  · exact h1
  · rw [Array.getElem?_eq_none h1] at h; cases h
theorem KeptT.refl (w : World) : KeptT w w := fun _ _ _ _ => rfl
theorem KeptT.trans {w w' w'' : World} (h : KeptT w w') (k : KeptT w' w'') : KeptT w w'' := fun g o hg ho => (k g o ((h g o hg ho).trans hg) ho).trans (h g o hg ho)
theorem KeptT.below {w w' : World} (hb : Below w.heap.size w w') : KeptT w w' := fun _ _ hg _ => hb.block _ (lt_of_some hg)
theorem KeptT.whole {w w' : World} (h : KeptT w w') {g : Nat} {t : TypeId} {L : List Value} (hw : Whole w g t L) (ht : ¬ teT t) : Whole w' g t L :=
  (h g _ hw fun cs t' fr e => by injection e with _ e _; rw [← e]; exact ht).trans hw
theorem KeptT.own {w w' : World} (h : KeptT w w') {base : Nat} {e : TypeId} {size n : Nat} {v : Value} {xs : List Value} (hr : w.ownsRow base e size v n xs) (ht : ¬ teT e) : w'.ownsRow base e size v n xs := by
  refine own_keep hr fun g hv => ?_
  rcases hr.2 with ⟨rfl, _⟩ | ⟨g', cap, cur, rfl, _, hh, _⟩
  · cases hv
  · simp [Value.ownBlock] at hv
    subst hv
    exact h _ _ hh fun cs t' fr e => by injection e with _ e _; rw [← e]; exact ht
theorem KeptT.of_grown {w w' : World} {base n size : Nat} {v : Value} {xs : List Value} (hr : w.ownsRow base 50 size v n xs) (hg : w.grownBy w' v.ownBlock) : KeptT w w' := fun g o ho ht => by
  refine hg.block g (lt_of_some ho) fun e => ?_
  rcases hr.2 with ⟨rfl, _⟩ | ⟨g', cap, cur, rfl, _, hh, _⟩
  · cases e
  · simp [Value.ownBlock] at e
    subst e
    rw [hh] at ho
    exact ht _ _ _ (Option.some.inj ho).symm (.inl rfl)
theorem KeptT.of_set {w w' : World} {b : Nat} {L : List Value} (hw : Whole w b 74 L) (hg : Grew (fun j => j = b) w w') : KeptT w w' := fun g o ho ht => by
  refine hg.block g (lt_of_some ho) fun e => ?_
  subst e
  unfold Whole at hw
  rw [hw] at ho
  exact ht _ _ _ (Option.some.inj ho).symm (.inr rfl)
theorem str_notT : ¬ teT 9 := by unfold teT; decide
theorem dat_notT : ¬ teT 34 := by unfold teT; decide
theorem u8_notT : ¬ teT 5 := by unfold teT; decide
theorem int_notT : ¬ teT 3 := by unfold teT; decide
theorem rr_notT : ¬ teT 54 := by unfold teT; decide
theorem strs_notT : ¬ teT 23 := by unfold teT; decide
theorem qst_notT : ¬ teT 41 := by unfold teT; decide
theorem OwnD.keptT {w w' : World} {B : Nat} {x : DV} {d : Dt} (h : OwnD w B x d) (hk : KeptT w w') : OwnD w' B x d :=
  ⟨hk.own h.b u8_notT, hk.own h.h str_notT, hk.own h.m str_notT, hk.own h.n int_notT, hk.own h.t str_notT⟩
theorem FOwn.keptT {w w' : World} {B : Nat} {x : FV} (h : FOwn w B x) (hk : KeptT w w') : FOwn w' B x :=
  ⟨hk.own h.n str_notT, hk.own h.z str_notT, h.d.keptT hk, hk.own h.s dat_notT, fun p hp => (h.e p hp).keptT hk⟩
theorem FOwn.new {w : World} {B : Nat} {x : FV} (h : FOwn w B x) : FactT w B x :=
  ⟨NewT.of_own h.n, NewT.of_own h.s, fun p hp => NewT.of_own (h.e p hp).b, fun p hp => NewT.of_own (h.e p hp).h⟩

/-- One section's records that count: where their row lies, and what is known of each. -/
structure SecOk (w0 : World) (T : Te) (S : Sec) (l : List Rt) : Prop where
  r : ∀ p ∈ S.ps, RAt w0 w0.heap.size p.1 p.2
  i : ∀ p ∈ S.ps, p.2 ∈ l ∧ p.2.cls = 1 ∧ underN p.2.name T.z = true
  n : S.ps.length ≤ 1000
/-- What is known of what was given. -/
structure TeOk (w0 : World) (T : Te) : Prop where
  q : QAt w0 w0.heap.size T.y T.q
  qc : T.q.name.length ≤ T.y.2
  qs : soundN T.q.name = true
  m : MAt w0 w0.heap.size T.m
  mi : MIn T.m
  ms : soundM T.m.msg = true
  lg : LightG T.m.msg
  z : Row w0 w0.heap.size T.A (T.z.map sv)
  zs : soundN T.z = true
  zc : T.z.length ≤ T.c
  now : timeB T.now = true
/-- The teller in the world w. -/
structure TAt (w0 : World) (T : Te) (b : Nat) (an au ex : Sec) (v : Value) (xs : List FV) (w : World) : Prop where
  blk : Whole w b 74 (cellsT T an.v au.v ex.v v)
  ge : w0.heap.size ≤ b
  row : w.ownsRow w0.heap.size 50 13 v xs.length (xs.flatMap cellsF)
  each : ∀ x ∈ xs, FOwn w w0.heap.size x
  told : ∀ x ∈ xs, ToldF T.m.msg T.z T.now x.fact
  an : w.ownsRow w0.heap.size 54 9 an.v an.ps.length (an.ps.flatMap cellsR)
  au : w.ownsRow w0.heap.size 54 9 au.v au.ps.length (au.ps.flatMap cellsR)
  ex : w.ownsRow w0.heap.size 54 9 ex.v ex.ps.length (ex.ps.flatMap cellsR)
  below : Below w0.heap.size w0 w
section
variable {w0 w w' : World} {T : Te} {b : Nat} {an au ex : Sec} {v : Value} {xs : List FV}
theorem TAt.step (h : TAt w0 T b an au ex v xs w) (hb : Below w.heap.size w w') : TAt w0 T b an au ex v xs w' :=
  have kr : ∀ {base n size : Nat} {e : TypeId} {u : Value} {l : List Value}, w.ownsRow base e size u n l → w'.ownsRow base e size u n l := fun ho => own_keep ho fun g e => hb.block g (ho.lt g e).2
  ⟨h.blk.below hb h.blk.lt, h.ge, kr h.row, fun x hx => (h.each x hx).keepB fun g _ hg => hb.block g hg, h.told, kr h.an, kr h.au, kr h.ex, h.below.trans (hb.mono h.below.size)⟩
theorem TAt.bsz (h : TAt w0 T b an au ex v xs w) : b < w.heap.size := h.blk.lt
theorem TAt.size (h : TAt w0 T b an au ex v xs w) : w0.heap.size ≤ w.heap.size := h.below.size
theorem secRs {S : Sec} {l : List Rt} (hs : SecOk w0 T S l) (ho : w.ownsRow w0.heap.size 54 9 S.v S.ps.length (S.ps.flatMap cellsR)) (hb : Below w0.heap.size w0 w) : RsAt w w.heap.size S.A S.ps :=
  ⟨Row.of_own ho, fun p hp => ((hs.r p hp).below hb).mono hb.size⟩
/-- A fact more, appended and stored. -/
theorem TAt.push {A : Option Addr} {k c : Nat} (h : TAt w0 T b an au ex (.slice A k c) xs w) {x : FV} (hx : FOwn w w0.heap.size x) (ht : ToldF T.m.msg T.z T.now x.fact) {v' : Value} (ho : w'.ownsRow w0.heap.size 50 13 v' (xs.length + 1) (xs.flatMap cellsF ++ cellsF x))
    (hg : w.grownBy w' (Value.slice A k c).ownBlock) {V : World} (hV : Whole V b 74 (cellsT T an.v au.v ex.v v')) (hG : Grew (fun j => j = b) w' V) (_ : V.heap.size = w'.heap.size) :
    TAt w0 T b an au ex v' (xs ++ [x]) V ∧ KeptT w V := by
  have k1 : KeptT w w' := KeptT.of_grown h.row hg
  have hw' : Whole w' b 74 (cellsT T an.v au.v ex.v (.slice A k c)) := h.blk.grown hg (fun e => own_not_whole h.row h.blk (by decide) e.symm)
  have k2 : KeptT w' V := KeptT.of_set hw' hG
  have k := k1.trans k2
  have hbw : Below w0.heap.size w0 w' := own_below h.below (Nat.le_refl _) h.size h.row hg
  refine ⟨⟨hV, h.ge, ?_, fun u hu => ?_, fun u hu => ?_, k.own h.an rr_notT, k.own h.au rr_notT, k.own h.ex rr_notT, hbw.trans (hG.below (fun j e => e ▸ h.ge) (Nat.le_trans h.size hg.size))⟩, k⟩
  · rw [List.length_append, List.flatMap_append]
    have h1 := own_keep ho fun g e => hG.block g (ho.lt g e).2 (fun e2 => own_not_whole ho hw' (by decide) (e2 ▸ e))
    simpa using h1
  · rcases List.mem_append.1 hu with hu | hu
    · exact (h.each u hu).keptT k
    · rw [List.mem_singleton.1 hu]; exact hx.keptT k
  · rcases List.mem_append.1 hu with hu | hu
    · exact h.told u hu
    · rw [List.mem_singleton.1 hu]; exact ht
end

/-- What a call on the teller leaves: up to k facts more. -/
def TellOut (w0 : World) (T : Te) (b : Nat) (an au ex : Sec) (xs : List FV) (k : Nat) (w w' : World) : Prop :=
  ∃ v' xs', TAt w0 T b an au ex v' xs' w' ∧ xs'.length ≤ xs.length + k ∧ KeptT w w' ∧ w.heap.size ≤ w'.heap.size
theorem TellOut.refl {w0 w : World} {T : Te} {b : Nat} {an au ex : Sec} {v : Value} {xs : List FV} (h : TAt w0 T b an au ex v xs w) : TellOut w0 T b an au ex xs 0 w w := ⟨v, xs, h, Nat.le_refl _, KeptT.refl w, Nat.le_refl _⟩

/-- A name that stays: of what was given, or of one's own. -/
def Held (w0 w : World) (A : Option Addr) (c : Nat) (n : List (List UInt8)) : Prop :=
  (Row w0 w0.heap.size A (n.map sv) ∧ n.length ≤ c) ∨ w.ownsRow w0.heap.size 9 1 (.slice A n.length c) n.length (n.map sv)
section
variable {w0 w w' : World} {A : Option Addr} {c : Nat} {n : List (List UInt8)}
theorem Held.row (h : Held w0 w A c n) (hb : Below w0.heap.size w0 w) : Row w w.heap.size A (n.map sv) := by
  rcases h with h | h
  · exact (h.1.below hb).mono hb.size
  · exact Row.of_own h
theorem Held.cap (h : Held w0 w A c n) : n.length ≤ c := by
  rcases h with h | h
  · exact h.2
  · exact own_cap h
theorem Held.kept (h : Held w0 w A c n) (hk : KeptT w w') : Held w0 w' A c n := by
  rcases h with h | h
  · exact .inl h
  · exact .inr (hk.own h str_notT)
theorem Held.step (h : Held w0 w A c n) (hb : Below w.heap.size w w') : Held w0 w' A c n := h.kept (KeptT.below hb)
end

/-- The copy of a name. -/
def ClonedN (w : World) (n : List (List UInt8)) (e : Ending) (w' : World) : Prop :=
  ∃ A c, e = .returned (.slice A n.length c) ∧ w'.ownsRow w.heap.size 9 1 (.slice A n.length c) n.length (n.map sv) ∧ Below w.heap.size w w'
set_option maxHeartbeats 1000000 in
theorem cloneN_any (A : Option Addr) (c H : Nat) (n : List (List UInt8)) (w : World) (hA : Row w H A (n.map sv)) (hn : n.length ≤ 1000) :
    Calls Try.prog 82 #[.slice A n.length c] w (ClonedN w n) := by
  obtain ⟨i0, hi0, hz0, hz1, hz2⟩ := info_parts str_info
  have HA := Lib.hid hA
  clear hA
  rcases A with _ | ad
  · have h0 : n = [] := by
      rcases n with _ | ⟨u, us⟩
      · rfl
      · obtain ⟨_, _, h, _⟩ := HA.out (by simp)
        cases h
    subst h0
    have hq := fun (w : World) (a : Option Addr) (n c n' c' : Nat) => Lib.run_eql_slice_nil (P := Try.prog) w 23 9 a n c n' c' Try.underlying23
    go_enter Try.func82, Try.ntmps82
    go_wp2
    go_ret
    exact ⟨none, 0, rfl, World.ownsRow_nil _ _ _ _, Below.refl _ _⟩
  · have HW := Lib.hid (own_lit w 9 1)
    have hq := fun (w : World) (a : Option Addr) (n c n' c' : Nat) => Lib.run_eql_slice_nil (P := Try.prog) w 23 9 a n c n' c' Try.underlying23
    go_enter Try.func82, Try.ntmps82
    go_wp2_with (
      at_builtin
      refine wpList_append_row rfl (.tmp 5) (.tmp 6) _ rfl w.heap.size 9 i0 _ 1 16 Try.underlying23 hi0 hz0 hz1 hz2 rfl (by decide) _ 0 [] rfl HW.out (some ad) n.length c (H + 1) (n.map sv) rfl (by simp) ?c1 (sv_one _) ?c2 ?c3 ?c4 ?_
      case c1 =>
        intro hx
        obtain ⟨b, off, e, hb, hc⟩ := HA.out hx
        exact ⟨b, off, e, by omega, fun j u hu => by rw [World.cell?_alloc_lt _ _ _ (World.block_lt_of_cell? w _ (hc j u hu))]; exact hc j u hu⟩
      case c2 => unfold maxLen; omega
      case c3 => omega
      case c4 => simp
      intro v1 w1 hown1 hg1)
    go_ret
    rw [Nat.zero_add, List.nil_append] at hown1
    obtain ⟨A1, c1, rfl, _, _⟩ := own_form hown1
    exact ⟨A1, c1, rfl, hown1, own_below ((Below.refl _ _).alloc (Nat.le_refl _) _) (Nat.le_refl _) (by simp) HW.out hg1⟩

end Go.Proofs.Ythppgofpbpjglaa

namespace Go.Proofs.Ythppgofpbpjglaa
open Go.RowKit

/-- The fact of 'answers', as it lies. -/
def ansF (g : Nat) : FV := ⟨none, 0, [], ⟨1, 1, 1, 0, 0⟩, some ⟨g + 1, 0, none⟩, 1, [(⟨some ⟨g, 0, none⟩, none, none, none, none, 4, 0, 0, 0, 0⟩, ⟨[1, 2, 3, 4], [], [], [], []⟩)], none, 0, [], ⟨none, none, none, none, none, 0, 0, 0, 0, 0⟩, ⟨[], [], [], [], []⟩⟩
theorem ansF_sound (g : Nat) : soundF (ansF g).fact = true := by
  show soundF ⟨[], ⟨1, 1, 1, 0, 0⟩, [⟨[1, 2, 3, 4], [], [], [], []⟩], [], ⟨[], [], [], [], []⟩⟩ = true
  decide +kernel
theorem ansF_at (w : World) : FAt ((w.alloc (.cells #[.int .u8 1, .int .u8 2, .int .u8 3, .int .u8 4] 5)).alloc (.cells #[.slice (some ⟨w.heap.size, 0, none⟩) 4 4, .slice none 0 0, .slice none 0 0, .slice none 0 0, .slice none 0 0] 34))
    ((w.alloc (.cells #[.int .u8 1, .int .u8 2, .int .u8 3, .int .u8 4] 5)).alloc (.cells #[.slice (some ⟨w.heap.size, 0, none⟩) 4 4, .slice none 0 0, .slice none 0 0, .slice none 0 0, .slice none 0 0] 34)).heap.size (ansF w.heap.size) := by
  have h1 : Row (w.alloc (.cells #[.int .u8 1, .int .u8 2, .int .u8 3, .int .u8 4] 5)) (w.heap.size + 1) (some ⟨w.heap.size, 0, none⟩) (([1, 2, 3, 4] : List UInt8).map bc) := Row.made w _ _
  have h2 := Row.made (w.alloc (.cells #[.int .u8 1, .int .u8 2, .int .u8 3, .int .u8 4] 5)) #[.slice (some ⟨w.heap.size, 0, none⟩) 4 4, .slice none 0 0, .slice none 0 0, .slice none 0 0, .slice none 0 0] 34
  have hz : (w.alloc (.cells #[.int .u8 1, .int .u8 2, .int .u8 3, .int .u8 4] 5)).heap.size = w.heap.size + 1 := by simp
  rw [hz] at h2
  have hz2 : ((w.alloc (.cells #[.int .u8 1, .int .u8 2, .int .u8 3, .int .u8 4] 5)).alloc (.cells #[.slice (some ⟨w.heap.size, 0, none⟩) 4 4, .slice none 0 0, .slice none 0 0, .slice none 0 0, .slice none 0 0] 34)).heap.size = w.heap.size + 2 := by simp
  rw [hz2]
  have hb := (h1.alloc (by rw [hz]; exact Nat.le_refl _) (.cells #[.slice (some ⟨w.heap.size, 0, none⟩) 4 4, .slice none 0 0, .slice none 0 0, .slice none 0 0, .slice none 0 0] 34)).mono (Nat.le_succ _)
  refine ⟨Row.empty _ _ _, ⟨h2, fun p hp => ?_⟩, Row.empty _ _ _, ⟨Row.empty _ _ _, Row.empty _ _ _, Row.empty _ _ _, Row.empty _ _ _, Row.empty _ _ _, Nat.le_refl _, Nat.le_refl _, Nat.le_refl _, Nat.le_refl _, Nat.le_refl _, Nat.zero_le _, Nat.zero_le _⟩, Nat.le_refl _, Nat.le_refl _, Nat.le_refl _, by unfold ansF maxLen; dsimp only; omega⟩
  rw [List.mem_singleton.1 hp]
  exact ⟨hb, Row.empty _ _ _, Row.empty _ _ _, Row.empty _ _ _, Row.empty _ _ _, Nat.le_refl _, Nat.le_refl _, Nat.le_refl _, Nat.le_refl _, Nat.le_refl _, by unfold maxLen; dsimp only; omega, Nat.zero_le _⟩

set_option maxHeartbeats 400000 in
theorem fanswers_any (S : FactSpec) (w : World) : Calls Try.prog 18 #[] w (TrueB w) := by
  have HS := Lib.hid (S.snd _ (ansF w.heap.size) (ansF_at w) (soundF_in (ansF_sound _)) (ansF_sound _))
  have HB := Lib.hid (show Below w.heap.size w ((w.alloc (.cells #[.int .u8 1, .int .u8 2, .int .u8 3, .int .u8 4] 5)).alloc (.cells #[.slice (some ⟨w.heap.size, 0, none⟩) 4 4, .slice none 0 0, .slice none 0 0, .slice none 0 0, .slice none 0 0] 34)) from ((Below.refl _ _).alloc (Nat.le_refl _) _).alloc (by simp) _)
  go_enter Try.func18, Try.ntmps18
  go_wp2_with fail
  refine HS.out.mono ?_
  rintro e w1 ⟨rfl, hb1⟩
  have HB1 := Lib.hid (HB.out.trans (hb1.mono HB.out.size))
  clear hb1
  go_wp2
  go_ret
  exact ⟨rfl, HB1.out⟩

end Go.Proofs.Ythppgofpbpjglaa

namespace Go.Proofs.Ythppgofpbpjglaa
open Go.ChangeShapes Go.WideShapes Go.ChangeAt Go.RowKit

theorem Try.own : ownKnob Try.prog.godebug = none := by kernel_rfl
theorem Try.laidOut : laidOutB Try.prog = true := by kernel_rfl

theorem bc_of_int (n : Int) (h : (Lit.int .u8 n).wf = true) : Value.int .u8 n = bc (UInt8.ofNat n.toNat) := by
  have h1 : IntKind.u8.min = 0 := rfl
  have h2 : IntKind.u8.max = 255 := rfl
  simp only [Lit.wf, Bool.and_eq_true, decide_eq_true_eq] at h
  unfold bc
  rw [UInt8.toNat_ofNat', Nat.mod_eq_of_lt (by omega)]
  congr 1
  omega

set_option maxRecDepth 20000 in
/-- An argument of bytes: whatever it is, it reads as a list. -/
theorem open_row_u8c {H : Type} {enc : TypeId × Value → H} {W : World} {base : Nat} {t : TypeId} {v : Value} {d : DataW H} {p : List MemPlace} (hc : Try.prog.cellsOf 5 = 1) (ht : Try.prog.underlying t = some (.slice 5))
    (hval : Value.okWide Try.prog W .any base t v) (h : DataW.Trod enc Try.prog W 0 (fun _ => true) true t v d p) (hlt : ∀ x ∈ p, x.block < W.heap.size) :
    ∃ (A : Option Addr) (m c : Nat) (l : List UInt8), v = .slice A m c ∧ l.length = m ∧ Row W W.heap.size A (l.map bc) ∧ m ≤ c ∧ m ≤ maxLen ∧ c ≤ maxLen ∧ (m = 0 ∨ ∃ el sp, d = .slice el sp ∧ el.length = m) := by
  obtain ⟨a0, len, cap, rfl⟩ := okWide_slice ht hval
  obtain ⟨fuel, hf⟩ := h
  rcases open_ints ht Try.underlying5 hc hf with ⟨hcs, hx⟩ | ⟨a, len', cap', zs, hcs, _, hl, hm, hz, hx, hcell, hwz⟩
  · simp [Value.cells] at hcs
    obtain ⟨rfl, rfl, rfl⟩ := hcs
    exact ⟨none, 0, 0, [], rfl, rfl, Row.empty _ _ _, Nat.le_refl _, Nat.zero_le _, Nat.zero_le _, .inl rfl⟩
  · simp [Value.cells] at hcs
    obtain ⟨rfl, rfl, rfl⟩ := hcs
    simp only [Prod.mk.injEq] at hx
    obtain ⟨rfl, rfl⟩ := hx
    simp only [if_true] at hz
    refine ⟨some a, len, cap, (zs.take len).map fun n => UInt8.ofNat n.toNat, rfl, by simp; omega, fun hne => ?_, hl, Nat.le_trans hl hm, hm, .inr ⟨_, _, rfl, by simp [lits]; omega⟩⟩
    have hpos : 0 < zs.length := by
      rcases zs with _ | ⟨z, zs⟩
      · simp at hne
      · simp
    obtain ⟨b, off, spot⟩ := a
    have hspot : spot = none := by simpa [Addr.add] using World.cell?_spot (hcell 0 hpos)
    subst hspot
    refine ⟨b, off, rfl, hlt (.cell b off) (MemPlace.mem_row.2 ⟨0, hpos, by simp⟩), fun j u hu => ?_⟩
    have hj : j < zs.length := by
      have := (List.getElem?_eq_some_iff.1 hu).1
      simp at this
      omega
    have hjl : j < len := by
      have := (List.getElem?_eq_some_iff.1 hu).1
      simp at this
      omega
    have h1 := hcell j hj
    rw [addr_add] at h1
    rw [h1]
    have e : zs.getD j 0 = zs[j] := by simp [List.getD, List.getElem?_eq_getElem hj]
    rw [List.getElem?_map, List.getElem?_map, List.getElem?_take, if_pos hjl, List.getElem?_eq_getElem hj] at hu
    simp only [Option.map_some] at hu
    rw [← hu, e, bc_of_int _ (hwz _ (List.getElem_mem hj))]

set_option maxRecDepth 20000 in
theorem open_row_u8 {H : Type} {enc : TypeId × Value → H} {W : World} {base : Nat} {t : TypeId} {v : Value} {d : DataW H} {p : List MemPlace} (hc : Try.prog.cellsOf 5 = 1) (ht : Try.prog.underlying t = some (.slice 5))
    (hval : Value.okWide Try.prog W .any base t v) (h : DataW.Trod enc Try.prog W 0 (fun _ => true) true t v d p) (hlt : ∀ x ∈ p, x.block < W.heap.size) :
    ∃ (A : Option Addr) (m c : Nat) (l : List UInt8), v = .slice A m c ∧ l.length = m ∧ Row W W.heap.size A (l.map bc) ∧ m ≤ c ∧ m ≤ maxLen ∧ (m = 0 ∨ ∃ el sp, d = .slice el sp ∧ el.length = m) := by
  obtain ⟨A, m, c, l, h1, h2, h3, h4, h5, _, h6⟩ := open_row_u8c hc ht hval h hlt
  exact ⟨A, m, c, l, h1, h2, h3, h4, h5, h6⟩

theorem row_reach {H : Type} {P : Program} {ts : List TypeId} {ds : List (DataW H)} {d : DataW H} {m : Nat} (h : (DataW.weightsEach P ts ds).all (· ≤ reachBytes) = true) {j : Nat} {t e : TypeId} (ht : ts[j]? = some t) (hd : ds[j]? = some d) (hu : P.underlying t = some (.slice e))
    (hb : P.bytesOf e = 1) (hm : m = 0 ∨ ∃ el sp, d = .slice el sp ∧ el.length = m) : m ≤ 140737488351232 := by
  rcases hm with rfl | ⟨el, sp, rfl, hl⟩
  · omega
  · have := sized_slice h ht hd hu
    rw [hb] at this
    simp only [reachBytes] at this
    omega
theorem u8_cells : Try.prog.cellsOf 5 = 1 := by kernel_rfl
theorem u8_bytes : Try.prog.bytesOf 5 = 1 := by kernel_rfl

theorem below_trodAll {H : Type} {enc : TypeId × Value → H} {P : Program} (hl : laidOutB P = true) {W W' : World} (hb : Below W.heap.size W W') :
    ∀ {ts : List TypeId} {vs : List Value} {ds : List (DataW H)} {ps : List MemPlace}, ts.all (fun t => P.readableRec t && decide (t < P.types.size)) = true →
      DataW.TrodAll enc P W 0 (fun _ => true) true ts vs ds ps → (∀ x ∈ ps, x.block < W.heap.size) → DataW.TrodAll enc P W' 0 (fun b => decide (b < W.heap.size)) true ts vs ds ps
  | [], [], [], _, _, h, _ => h
  | [], [], _ :: _, _, _, h, _ => h.elim
  | [], _ :: _, _, _, _, h, _ => h.elim
  | _ :: _, [], _, _, _, h, _ => h.elim
  | _ :: _, _ :: _, [], _, _, h, _ => h.elim
  | t :: ts, v :: vs, d :: ds, ps, ht, h, hlt => by
    obtain ⟨p, q, h1, h2, rfl⟩ := h
    simp only [List.all_cons, Bool.and_eq_true, decide_eq_true_eq] at ht
    exact ⟨p, q, Below.trod hl ht.1.1 ht.1.2 h1 hb (fun x hx => hlt x (List.mem_append_left _ hx)), below_trodAll hl hb ht.2 h2 (fun x hx => hlt x (List.mem_append_right _ hx)), rfl⟩

/-- The end of a law: it has answered true, and nothing that was there has turned. -/
theorem law_post {H : Type} {enc : TypeId × Value → H} {P : Program} {f : Func} {s : ChangeSpec} {W W' : World} {args : Array Value} {ds gs : List (DataW H)} {before : List MemPlace} {tb : TypeId}
    (hl : laidOutB P = true) (hts : f.params.toList.all (fun t => P.readableRec t && decide (t < P.types.size)) = true) (hrt : f.resultTypes.toList = [tb]) (hsz : f.resultTypes.size = 1) (hbool : P.underlying tb = some .bool) (hsv : s.vars = [])
    (hW : DataW.Whole enc P f.params.toList s.vars false W args.toList ds gs before)
    (hres : (s.fn H (ds ++ gs)).results = [.lit (.bool true)]) (hargs : (s.fn H (ds ++ gs)).args = ds) (hvars : (s.fn H (ds ++ gs)).vars = [])
    (hb : Below W.heap.size W W') : s.post enc P f false true false false W args (.bool true) W' := by
  have hW' := hW
  obtain ⟨p, q, hA, hV, rfl, _, _⟩ := hW
  rw [hsv] at hV
  obtain ⟨rfl, rfl⟩ := trodVars_none hV
  have hlt : ∀ x ∈ p, x.block < W.heap.size := fun x hx => hW'.lt x (List.mem_append_left _ hx)
  refine ⟨ds, [], p ++ [], [], p, [], hW', ?_, ?_, ?_, hb.frame _, fun h => by cases h⟩
  · rw [hrt, hsz, hres]
    exact trodAll_mk1 (shut_bool hbool true)
  · rw [hargs]
    exact below_trodAll hl hb hts hA hlt
  · rw [hsv, hvars]
    rfl

theorem i64_le {n : Int} (h : (Lit.int .i64 n).wf = true) : -9223372036854775808 ≤ n ∧ n ≤ 9223372036854775807 := by
  have h1 : IntKind.i64.min = -9223372036854775808 := rfl
  have h2 : IntKind.i64.max = 9223372036854775807 := rfl
  simp only [Lit.wf, Bool.and_eq_true, decide_eq_true_eq] at h
  omega

end Go.Proofs.Ythppgofpbpjglaa

namespace Go.Proofs.Ythppgofpbpjglaa
open Go.ChangeShapes Go.WideShapes Go.ChangeAt Go.RowKit

theorem string_sv (s : ByteArray) : Value.string s = sv s.data.toList := by
  unfold sv
  rw [Array.toArray_toList]

theorem str_cells : Try.prog.cellsOf 9 = 1 := by kernel_rfl
theorem str_bytes : Try.prog.bytesOf 9 = 16 := by kernel_rfl

set_option maxRecDepth 20000 in
/-- An argument of strings: whatever it is, it reads as a name. -/
theorem open_row_str {H : Type} {enc : TypeId × Value → H} {W : World} {base : Nat} {t : TypeId} {v : Value} {d : DataW H} {p : List MemPlace} (hc : Try.prog.cellsOf 9 = 1) (ht : Try.prog.underlying t = some (.slice 9))
    (hval : Value.okWide Try.prog W .any base t v) (h : DataW.Trod enc Try.prog W 0 (fun _ => true) true t v d p) (hlt : ∀ x ∈ p, x.block < W.heap.size)
    {ts : List TypeId} {ds : List (DataW H)} (hsz : (DataW.weightsEach Try.prog ts ds).all (· ≤ reachBytes) = true) {j : Nat} (htj : ts[j]? = some t) (hdj : ds[j]? = some d) :
    ∃ (A : Option Addr) (c : Nat) (n : List (List UInt8)), v = .slice A n.length c ∧ NameIn W A n ∧ n.length ≤ c := by
  obtain ⟨a0, len, cap, rfl⟩ := okWide_slice ht hval
  obtain ⟨fuel, hf⟩ := h
  rcases open_strings ht Try.underlying9 hc hf with ⟨hcs, hx⟩ | ⟨a, len', cap', ss, hcs, _, hl, hm, hz, hx, hcell, hwz⟩
  · simp [Value.cells] at hcs
    obtain ⟨rfl, rfl, rfl⟩ := hcs
    exact ⟨none, 0, [], rfl, ⟨Row.empty _ _ _, Nat.zero_le _, fun k h => absurd h (Nat.not_lt_zero _)⟩, Nat.le_refl _⟩
  · simp [Value.cells] at hcs
    obtain ⟨rfl, rfl, rfl⟩ := hcs
    simp only [Prod.mk.injEq] at hx
    obtain ⟨rfl, rfl⟩ := hx
    simp only [if_true] at hz
    have hlen : ((ss.take len).map fun s => s.data.toList).length = len := by simp; omega
    have hw := sized_slice hsz htj hdj ht
    rw [str_bytes] at hw
    simp only [reachBytes] at hw
    refine ⟨some a, cap, (ss.take len).map fun s => s.data.toList, by rw [hlen], ⟨fun hne => ?_, ?_, ?_⟩, by rw [hlen]; exact hl⟩
    · have hpos : 0 < ss.length := by
        rcases ss with _ | ⟨z, zs⟩
        · simp at hne
        · simp
      obtain ⟨b, off, spot⟩ := a
      have hspot : spot = none := by simpa [Addr.add] using World.cell?_spot (hcell 0 hpos)
      subst hspot
      refine ⟨b, off, rfl, hlt (.cell b off) (MemPlace.mem_row.2 ⟨0, hpos, by simp⟩), fun j u hu => ?_⟩
      have hjl : j < len := by
        have := (List.getElem?_eq_some_iff.1 hu).1
        simp at this
        omega
      have hj : j < ss.length := by omega
      have h1 := hcell j hj
      rw [addr_add] at h1
      rw [h1]
      have e : ss.getD j ByteArray.empty = ss[j] := by simp [List.getD, List.getElem?_eq_getElem hj]
      rw [List.getElem?_map, List.getElem?_map, List.getElem?_take, if_pos hjl, List.getElem?_eq_getElem hj] at hu
      simp only [Option.map_some] at hu
      rw [← hu, e, string_sv]
    · rw [hlen]
      simp [strs] at hw
      omega
    · intro k hk
      have hk' : k < ss.length := by rw [hlen] at hk; omega
      have h2 := hwz ss[k] (List.getElem_mem hk')
      simpa using h2

end Go.Proofs.Ythppgofpbpjglaa

namespace Go.Proofs.Ythppgofpbpjglaa
open Go.RowKit

/-- What a statement's argument of names is. -/
def NamesIn (w : World) (H : Nat) (A : Option Addr) (vs : List Value) (ns : List (List (List UInt8))) : Prop :=
  Row w H A vs ∧ vs.length = ns.length ∧ ∀ k, k < ns.length → ∃ Ak ck, vs[k]? = some (.slice Ak (ns.getD k []).length ck) ∧ Row w H Ak ((ns.getD k []).map sv) ∧ (ns.getD k []).length ≤ maxLen ∧ ∀ i (h : i < (ns.getD k []).length), ((ns.getD k [])[i]).length ≤ maxLen
theorem NamesIn.below {w w' : World} {H : Nat} {A : Option Addr} {vs : List Value} {ns : List (List (List UInt8))} (h : NamesIn w H A vs ns) (hb : Below H w w') : NamesIn w' H A vs ns := by
  obtain ⟨h1, h2, h3⟩ := h
  refine ⟨h1.below hb, h2, fun k hk => ?_⟩
  obtain ⟨Ak, ck, h4, h5, h6⟩ := h3 k hk
  exact ⟨Ak, ck, h4, h5.below hb, h6⟩
/-- The k-th name's cell, and what it leads to. -/
theorem NamesIn.at_ {w : World} {H : Nat} {A : Option Addr} {vs : List Value} {ns : List (List (List UInt8))} (h : NamesIn w H A vs ns) {k : Nat} (hk : k < ns.length) :
    ∃ b off Ak ck, A = some ⟨b, off, none⟩ ∧ b < H ∧ w.cell? ⟨b, off + k, none⟩ = some (.slice Ak (ns.getD k []).length ck) ∧ Row w H Ak ((ns.getD k []).map sv) ∧ (ns.getD k []).length ≤ maxLen ∧ ∀ i (h : i < (ns.getD k []).length), ((ns.getD k [])[i]).length ≤ maxLen := by
  obtain ⟨h1, h2, h3⟩ := h
  obtain ⟨Ak, ck, h4, h5, h6⟩ := h3 k hk
  obtain ⟨b, off, rfl, hb, hc⟩ := h1.some_ (by omega)
  exact ⟨b, off, Ak, ck, rfl, hb, hc k _ h4, h5, h6⟩

end Go.Proofs.Ythppgofpbpjglaa

namespace Go.Proofs.Ythppgofpbpjglaa
open Go.ChangeShapes Go.WideShapes Go.ChangeAt Go.RowKit

set_option maxRecDepth 20000 in
/-- A name as it is read: whatever it is. -/
theorem read_name {H : Type} {enc : TypeId × Value → H} {W : World} {fuel : Nat} {v : Value} {x : DataW H × List MemPlace} (hc : Try.prog.cellsOf 9 = 1)
    (h : DataW.trod enc Try.prog W 0 (fun _ => true) true fuel 23 [v] = some x) (hlt : ∀ y ∈ x.2, y.block < W.heap.size) :
    ∃ (A : Option Addr) (c : Nat) (n : List (List UInt8)), v = .slice A n.length c ∧ Row W W.heap.size A (n.map sv) ∧ n.length ≤ maxLen ∧ (∀ k (h : k < n.length), (n[k]).length ≤ maxLen) ∧ n.length ≤ c := by
  rcases open_strings Try.underlying23 Try.underlying9 hc h with ⟨hcs, hx⟩ | ⟨a, len, cap, ss, hcs, _, hl, hm, hz, hx, hcell, hwz⟩
  · exact ⟨none, 0, [], by simpa using hcs, Row.empty _ _ _, Nat.zero_le _, fun k h => absurd h (Nat.not_lt_zero _), Nat.le_refl _⟩
  · simp only [List.cons.injEq, and_true] at hcs
    subst hcs
    subst hx
    simp only [if_true] at hz
    have hlen : ((ss.take len).map fun s => s.data.toList).length = len := by simp; omega
    refine ⟨some a, cap, (ss.take len).map fun s => s.data.toList, by rw [hlen], fun hne => ?_, by rw [hlen]; omega, ?_, by rw [hlen]; exact hl⟩
    · have hpos : 0 < ss.length := by
        rcases ss with _ | ⟨z, zs⟩
        · simp at hne
        · simp
      obtain ⟨b, off, spot⟩ := a
      have hspot : spot = none := by simpa [Addr.add] using World.cell?_spot (hcell 0 hpos)
      subst hspot
      refine ⟨b, off, rfl, hlt (.cell b off) (MemPlace.mem_row.2 ⟨0, hpos, by simp⟩), fun j u hu => ?_⟩
      have hjl : j < len := by
        have := (List.getElem?_eq_some_iff.1 hu).1
        simp at this
        omega
      have hj : j < ss.length := by omega
      have h1 := hcell j hj
      rw [addr_add] at h1
      rw [h1]
      have e : ss.getD j ByteArray.empty = ss[j] := by simp [List.getD, List.getElem?_eq_getElem hj]
      rw [List.getElem?_map, List.getElem?_map, List.getElem?_take, if_pos hjl, List.getElem?_eq_getElem hj] at hu
      simp only [Option.map_some] at hu
      rw [← hu, e, string_sv]
    · intro k hk
      have hk' : k < ss.length := by rw [hlen] at hk; omega
      have h2 := hwz ss[k] (List.getElem_mem hk')
      simpa using h2

theorem names_cells : Try.prog.cellsOf 23 = 1 := by kernel_rfl

set_option maxRecDepth 20000 in
/-- An argument of names: whatever it is, it reads as names; and no slice is longer than its room. -/
theorem open_row_namesC {H : Type} {enc : TypeId × Value → H} {W : World} {base : Nat} {t : TypeId} {v : Value} {d : DataW H} {p : List MemPlace} (ht : Try.prog.underlying t = some (.slice 23))
    (hval : Value.okWide Try.prog W .any base t v) (h : DataW.Trod enc Try.prog W 0 (fun _ => true) true t v d p) (hlt : ∀ x ∈ p, x.block < W.heap.size) :
    ∃ (A : Option Addr) (c : Nat) (vs : List Value) (ns : List (List (List UInt8))), v = .slice A ns.length c ∧ NamesIn W W.heap.size A vs ns ∧ ns.length ≤ c ∧ c ≤ maxLen ∧ ∀ (k : Nat) (A' : Option Addr) (m' c' : Nat), vs[k]? = some (Value.slice A' m' c') → m' ≤ c' := by
  obtain ⟨a0, len, cap, rfl⟩ := okWide_slice ht hval
  obtain ⟨fuel, hf⟩ := h
  rcases Deep.open_slice1 ht names_cells hf with ⟨hcs, hx⟩ | ⟨a, len', cap', m, n, V, D, Pl, hcs, _, hl, hm, hmm, hx, hy⟩
  · simp [Value.cells] at hcs
    obtain ⟨rfl, rfl, rfl⟩ := hcs
    exact ⟨none, 0, [], [], rfl, ⟨Row.empty _ _ _, rfl, fun k h => absurd h (Nat.not_lt_zero _)⟩, Nat.le_refl _, Nat.zero_le _, fun k A' m' c' h => by simp at h⟩
  · simp [Value.cells] at hcs
    obtain ⟨rfl, rfl, rfl⟩ := hcs
    simp only [if_true] at hmm
    subst hmm
    simp only [Prod.mk.injEq] at hx
    obtain ⟨rfl, rfl⟩ := hx
    have each : ∀ i, i < len → ∃ y : Option Addr × Nat × List (List UInt8), V i = .slice y.1 y.2.2.length y.2.1 ∧ Row W W.heap.size y.1 (y.2.2.map sv) ∧ y.2.2.length ≤ maxLen ∧ (∀ k (h : k < y.2.2.length), (y.2.2[k]).length ≤ maxLen) ∧ y.2.2.length ≤ y.2.1 := by
      intro i hi
      obtain ⟨A, c, n', h1, h2, h3, h4, h5⟩ := read_name str_cells (hy i (by omega)).2 (fun y hy' => hlt y (List.mem_append_right _ (List.mem_flatMap.2 ⟨i, List.mem_range.2 (by omega), hy'⟩)))
      exact ⟨(A, c, n'), h1, h2, h3, h4, h5⟩
    obtain ⟨Y, hY⟩ := Deep.choose_lt each
    have hnl : ((List.range len).map fun i => (Y i).2.2).length = len := by simp
    refine ⟨some a, m, (List.range len).map V, (List.range len).map fun i => (Y i).2.2, by rw [hnl], ⟨fun hne => ?_, by simp, fun k hk => ?_⟩, by rw [hnl]; exact hl, hm, fun k A' m' c' hv => ?_⟩
    · have hpos : 0 < len := by
        rcases len with _ | k
        · simp at hne
        · omega
      obtain ⟨b, off, spot⟩ := a
      have hspot : spot = none := by simpa [Addr.add] using World.cell?_spot (hy 0 (by omega)).1
      subst hspot
      refine ⟨b, off, rfl, hlt (.cell b off) (List.mem_append_left _ (MemPlace.mem_row.2 ⟨0, by omega, by simp⟩)), fun j u hu => ?_⟩
      have hjl : j < len := by
        have := (List.getElem?_eq_some_iff.1 hu).1
        simpa using this
      have h1 := (hy j (by omega)).1
      rw [addr_add] at h1
      rw [h1]
      rw [List.getElem?_map, List.getElem?_range hjl] at hu
      exact hu
    · rw [hnl] at hk
      have hg : ((List.range len).map fun i => (Y i).2.2).getD k [] = (Y k).2.2 := by simp [List.getD, hk]
      rw [hg]
      obtain ⟨h1, h2, h3, h4, _⟩ := hY k hk
      exact ⟨(Y k).1, (Y k).2.1, by simp [hk, h1], h2, h3, h4⟩
    · by_cases hk : k < len
      · rw [List.getElem?_map, List.getElem?_range hk] at hv
        obtain ⟨h1, _, _, _, h5⟩ := hY k hk
        simp only [Option.map_some, Option.some.injEq] at hv
        rw [h1] at hv
        injection hv with e1 e2 e3
        omega
      · rw [List.getElem?_eq_none (by simp; omega)] at hv
        cases hv
set_option maxRecDepth 20000 in
/-- An argument of names: whatever it is, it reads as names. -/
theorem open_row_names {H : Type} {enc : TypeId × Value → H} {W : World} {base : Nat} {t : TypeId} {v : Value} {d : DataW H} {p : List MemPlace} (ht : Try.prog.underlying t = some (.slice 23))
    (hval : Value.okWide Try.prog W .any base t v) (h : DataW.Trod enc Try.prog W 0 (fun _ => true) true t v d p) (hlt : ∀ x ∈ p, x.block < W.heap.size) :
    ∃ (A : Option Addr) (c : Nat) (vs : List Value) (ns : List (List (List UInt8))), v = .slice A ns.length c ∧ NamesIn W W.heap.size A vs ns ∧ ns.length ≤ c ∧ c ≤ maxLen := by
  obtain ⟨A, c, vs, ns, h1, h2, h3, h4, _⟩ := open_row_namesC ht hval h hlt
  exact ⟨A, c, vs, ns, h1, h2, h3, h4⟩

end Go.Proofs.Ythppgofpbpjglaa

namespace Go.Proofs.Ythppgofpbpjglaa
open Go.ChangeShapes Go.WideShapes Go.ChangeAt Go.RowKit

set_option maxRecDepth 20000 in
/-- Bytes as they are read: whatever they are. -/
theorem read_bytes_c {H : Type} {enc : TypeId × Value → H} {W : World} {fuel : Nat} {v : Value} {x : DataW H × List MemPlace}
    (h : DataW.trod enc Try.prog W 0 (fun _ => true) true fuel 31 [v] = some x) (hlt : ∀ y ∈ x.2, y.block < W.heap.size) :
    ∃ (A : Option Addr) (c : Nat) (l : List UInt8), v = .slice A l.length c ∧ Row W W.heap.size A (l.map bc) ∧ l.length ≤ c ∧ c ≤ maxLen := by
  rcases open_ints Try.underlying31 Try.underlying5 u8_cells h with ⟨hcs, hx⟩ | ⟨a, len, cap, zs, hcs, _, hl, hm, hz, hx, hcell, hwz⟩
  · exact ⟨none, 0, [], by simpa using hcs, Row.empty _ _ _, Nat.le_refl _, Nat.zero_le _⟩
  · simp only [List.cons.injEq, and_true] at hcs
    subst hcs
    subst hx
    simp only [if_true] at hz
    have hlen : ((zs.take len).map fun n => UInt8.ofNat n.toNat).length = len := by simp; omega
    refine ⟨some a, cap, (zs.take len).map fun n => UInt8.ofNat n.toNat, by rw [hlen], fun hne => ?_, by rw [hlen]; exact hl, hm⟩
    have hpos : 0 < zs.length := by
      rcases zs with _ | ⟨z, zs⟩
      · simp at hne
      · simp
    obtain ⟨b, off, spot⟩ := a
    have hspot : spot = none := by simpa [Addr.add] using World.cell?_spot (hcell 0 hpos)
    subst hspot
    refine ⟨b, off, rfl, hlt (.cell b off) (MemPlace.mem_row.2 ⟨0, hpos, by simp⟩), fun j u hu => ?_⟩
    have hjl : j < len := by
      have := (List.getElem?_eq_some_iff.1 hu).1
      simp at this
      omega
    have hj : j < zs.length := by omega
    have h1 := hcell j hj
    rw [addr_add] at h1
    rw [h1]
    have e : zs.getD j 0 = zs[j] := by simp [List.getD, List.getElem?_eq_getElem hj]
    rw [List.getElem?_map, List.getElem?_map, List.getElem?_take, if_pos hjl, List.getElem?_eq_getElem hj] at hu
    simp only [Option.map_some] at hu
    rw [← hu, e, bc_of_int _ (hwz _ (List.getElem_mem hj))]

theorem int_cells : Try.prog.cellsOf 3 = 1 := by kernel_rfl
set_option maxRecDepth 20000 in
/-- Numbers as they are read: whatever they are. -/
theorem read_ints {H : Type} {enc : TypeId × Value → H} {W : World} {fuel : Nat} {v : Value} {x : DataW H × List MemPlace}
    (h : DataW.trod enc Try.prog W 0 (fun _ => true) true fuel 32 [v] = some x) (hlt : ∀ y ∈ x.2, y.block < W.heap.size) :
    ∃ (A : Option Addr) (c : Nat) (l : List Int), v = .slice A l.length c ∧ Row W W.heap.size A (l.map zv) ∧ l.length ≤ c ∧ c ≤ maxLen ∧ ∀ n ∈ l, (Lit.int .i64 n).wf = true := by
  rcases open_ints Try.underlying32 Try.underlying3 int_cells h with ⟨hcs, hx⟩ | ⟨a, len, cap, zs, hcs, _, hl, hm, hz, hx, hcell, hwz⟩
  · exact ⟨none, 0, [], by simpa using hcs, Row.empty _ _ _, Nat.le_refl _, Nat.zero_le _, fun n hn => absurd hn (List.not_mem_nil)⟩
  · simp only [List.cons.injEq, and_true] at hcs
    subst hcs
    subst hx
    simp only [if_true] at hz
    have hlen : (zs.take len).length = len := by simp; omega
    refine ⟨some a, cap, zs.take len, by rw [hlen], fun hne => ?_, by rw [hlen]; exact hl, hm, fun n hn => hwz n (List.mem_of_mem_take hn)⟩
    have hpos : 0 < zs.length := by
      rcases zs with _ | ⟨z, zs⟩
      · simp at hne
      · simp
    obtain ⟨b, off, spot⟩ := a
    have hspot : spot = none := by simpa [Addr.add] using World.cell?_spot (hcell 0 hpos)
    subst hspot
    refine ⟨b, off, rfl, hlt (.cell b off) (MemPlace.mem_row.2 ⟨0, hpos, by simp⟩), fun j u hu => ?_⟩
    have hjl : j < len := by
      have := (List.getElem?_eq_some_iff.1 hu).1
      simp at this
      omega
    have hj : j < zs.length := by omega
    have h1 := hcell j hj
    rw [addr_add] at h1
    rw [h1]
    have e : zs.getD j 0 = zs[j] := by simp [List.getD, List.getElem?_eq_getElem hj]
    rw [List.getElem?_map, List.getElem?_take, if_pos hjl, List.getElem?_eq_getElem hj] at hu
    simp only [Option.map_some] at hu
    rw [← hu, e, zv]

/-- What a statement's data is. -/
structure DIn (d : Dt) : Prop where
  h : d.host.length ≤ maxLen
  m : d.mail.length ≤ maxLen
  t : d.texts.length ≤ maxLen
  lh : ∀ k (h : k < d.host.length), (d.host[k]).length ≤ maxLen
  lm : ∀ k (h : k < d.mail.length), (d.mail[k]).length ≤ maxLen
  lt : ∀ k (h : k < d.texts.length), (d.texts[k]).length ≤ maxLen
  n : ∀ n ∈ d.nums, (Lit.int .i64 n).wf = true

theorem byts_cells : Try.prog.cellsOf 31 = 1 := by kernel_rfl
theorem inss_cells : Try.prog.cellsOf 32 = 1 := by kernel_rfl
theorem data_cells : Try.prog.cellsOf 34 = 5 := by kernel_rfl

set_option maxRecDepth 20000 in
theorem open_data {H : Type} {enc : TypeId × Value → H} {W : World} {base : Nat} {v : Value} {d : DataW H} {p : List MemPlace}
    (hval : Value.okWide Try.prog W .any base 34 v) (h : DataW.Trod enc Try.prog W 0 (fun _ => true) true 34 v d p) (hlt : ∀ x ∈ p, x.block < W.heap.size) :
    ∃ (x : DV) (dd : Dt), v = x.val dd ∧ DataAt W W.heap.size x dd ∧ DIn dd := by
  unfold Value.okWide at hval
  rw [Try.underlying34] at hval
  obtain ⟨cs0, rfl, hsz, _⟩ := hval
  obtain ⟨fuel, hf⟩ := h
  obtain ⟨xs, k, _, hx, hcl, hxl, hfs⟩ := DataW.trod_struct Try.underlying34 hf
  obtain ⟨cs⟩ := cs0
  simp only [Value.cells] at hf hcl hfs
  have hp : p = xs.flatMap (·.2) := by simpa using congrArg Prod.snd hx
  have hin : ∀ z ∈ xs, ∀ y ∈ z.2, y.block < W.heap.size := fun z hz y hyz => hlt y (by rw [hp]; exact List.mem_flatMap.2 ⟨z, hz, hyz⟩)
  have hxl5 : xs.length = 5 := hxl
  have hc5 : cs.length = 5 := by rw [data_cells] at hcl; simpa using hcl
  clear hx hp hf hcl hsz
  match cs, hc5, xs, hxl5, hfs, hin with
  | [c0, c1, c2, c3, c4], _, [y0, y1, y2, y3, y4], _, hfs, hin =>
    have g0 := hfs 0 _ rfl
    have g1 := hfs 1 _ rfl
    have g2 := hfs 2 _ rfl
    have g3 := hfs 3 _ rfl
    have g4 := hfs 4 _ rfl
    simp only [List.getElem?_cons_zero, List.getElem?_cons_succ] at g0 g1 g2 g3 g4
    obtain ⟨Ab, cb, l0, e0, r0, a0, b0⟩ := read_bytes_c g0 (hin y0 (by simp))
    obtain ⟨Ah, ch, l1, e1, r1, a1, b1, d1⟩ := read_name str_cells g1 (hin y1 (by simp))
    obtain ⟨Am, cm, l2, e2, r2, a2, b2, d2⟩ := read_name str_cells g2 (hin y2 (by simp))
    obtain ⟨An, cn, l3, e3, r3, a3, b3, d3⟩ := read_ints g3 (hin y3 (by simp))
    obtain ⟨At, ct, l4, e4, r4, a4, b4, d4⟩ := read_name str_cells g4 (hin y4 (by simp))
    subst e0 e1 e2 e3 e4
    exact ⟨⟨Ab, Ah, Am, An, At, cb, ch, cm, cn, ct⟩, ⟨l0, l1, l2, l3, l4⟩, rfl, ⟨r0, r1, r2, r3, r4, a0, d1, d2, a3, d4, b0, b3⟩, ⟨a1, a2, a4, b1, b2, b4, d3⟩⟩

end Go.Proofs.Ythppgofpbpjglaa

namespace Go.Proofs.Ythppgofpbpjglaa
open Go.ChangeShapes Go.WideShapes Go.ChangeAt Go.RowKit

set_option maxRecDepth 20000 in
theorem read_data {H : Type} {enc : TypeId × Value → H} {W : World} {fuel : Nat} {cs : List Value} {z : DataW H × List MemPlace}
    (h : DataW.trod enc Try.prog W 0 (fun _ => true) true fuel 34 cs = some z) (hlt : ∀ y ∈ z.2, y.block < W.heap.size) :
    ∃ (x : DV) (dd : Dt), cs = cellsD (x, dd) ∧ DataAt W W.heap.size x dd ∧ DIn dd := by
  obtain ⟨xs, k, _, hx, hcl, hxl, hfs⟩ := DataW.trod_struct Try.underlying34 h
  have hp : z.2 = xs.flatMap (·.2) := by simpa using congrArg Prod.snd hx
  have hin : ∀ z ∈ xs, ∀ y ∈ z.2, y.block < W.heap.size := fun z hz y hyz => hlt y (by rw [hp]; exact List.mem_flatMap.2 ⟨z, hz, hyz⟩)
  have hxl5 : xs.length = 5 := hxl
  have hc5 : cs.length = 5 := by rw [data_cells] at hcl; exact hcl
  clear hx hp h hcl
  match cs, hc5, xs, hxl5, hfs, hin with
  | [c0, c1, c2, c3, c4], _, [y0, y1, y2, y3, y4], _, hfs, hin =>
    have g0 := hfs 0 _ rfl
    have g1 := hfs 1 _ rfl
    have g2 := hfs 2 _ rfl
    have g3 := hfs 3 _ rfl
    have g4 := hfs 4 _ rfl
    simp only [List.getElem?_cons_zero, List.getElem?_cons_succ] at g0 g1 g2 g3 g4
    obtain ⟨Ab, cb, l0, e0, r0, a0, b0⟩ := read_bytes_c g0 (hin y0 (by simp))
    obtain ⟨Ah, ch, l1, e1, r1, a1, b1, d1⟩ := read_name str_cells g1 (hin y1 (by simp))
    obtain ⟨Am, cm, l2, e2, r2, a2, b2, d2⟩ := read_name str_cells g2 (hin y2 (by simp))
    obtain ⟨An, cn, l3, e3, r3, a3, b3, d3⟩ := read_ints g3 (hin y3 (by simp))
    obtain ⟨At, ct, l4, e4, r4, a4, b4, d4⟩ := read_name str_cells g4 (hin y4 (by simp))
    subst e0 e1 e2 e3 e4
    exact ⟨⟨Ab, Ah, Am, An, At, cb, ch, cm, cn, ct⟩, ⟨l0, l1, l2, l3, l4⟩, rfl, ⟨r0, r1, r2, r3, r4, a0, d1, d2, a3, d4, b0, b3⟩, ⟨a1, a2, a4, b1, b2, b4, d3⟩⟩
theorem DIn.wide {d : Dt} (h : DIn d) : Wide d := ⟨⟨h.h, h.lh⟩, ⟨h.m, h.lm⟩, h.t⟩

set_option maxRecDepth 20000 in
theorem read_rr {H : Type} {enc : TypeId × Value → H} {W : World} {fuel : Nat} {cs : List Value} {z : DataW H × List MemPlace}
    (h : DataW.trod enc Try.prog W 0 (fun _ => true) true fuel 54 cs = some z) (hlt : ∀ y ∈ z.2, y.block < W.heap.size) :
    ∃ (x : RV) (r : Rt), cs = cellsR (x, r) ∧ RAt W W.heap.size x r ∧ RIn r := by
  obtain ⟨xs, k, _, hx, hcl, hxl, hfs⟩ := DataW.trod_struct Try.underlying54 h
  have hp : z.2 = xs.flatMap (·.2) := by simpa using congrArg Prod.snd hx
  have hin : ∀ z ∈ xs, ∀ y ∈ z.2, y.block < W.heap.size := fun z hz y hyz => hlt y (by rw [hp]; exact List.mem_flatMap.2 ⟨z, hz, hyz⟩)
  have hxl5 : xs.length = 5 := hxl
  have hc9 : cs.length = 9 := by rw [rr_cells] at hcl; exact hcl
  clear hx hp h hcl
  match cs, hc9, xs, hxl5, hfs, hin with
  | [c0, c1, c2, c3, c4, c5, c6, c7, c8], _, [y0, y1, y2, y3, y4], _, hfs, hin =>
    have g0 := hfs 0 _ rfl
    have g1 := hfs 1 _ rfl
    have g2 := hfs 2 _ rfl
    have g3 := hfs 3 _ rfl
    have g4 := hfs 4 _ rfl
    simp only [List.getElem?_cons_zero, List.getElem?_cons_succ] at g0 g1 g2 g3 g4
    obtain ⟨An, cn, n, e0, hRn, hn1, hn2, hn3⟩ := read_name str_cells g0 (hin y0 (by simp))
    obtain ⟨z1, e1, _, w1⟩ := DataW.trod_int Try.underlying3 g1
    obtain ⟨z2, e2, _, w2⟩ := DataW.trod_int Try.underlying3 g2
    obtain ⟨z3, e3, _, w3⟩ := DataW.trod_int Try.underlying3 g3
    obtain ⟨x, dd, e4, hd, hi⟩ := read_data g4 (hin y4 (by simp))
    cases e1; cases e2; cases e3
    subst e0
    unfold cellsD at e4
    injection e4 with f0 e4
    injection e4 with f1 e4
    injection e4 with f2 e4
    injection e4 with f3 e4
    injection e4 with f4 _
    subst f0 f1 f2 f3 f4
    exact ⟨⟨An, cn, x⟩, ⟨n, z1, z2, z3, dd⟩, rfl, ⟨hRn, hn3, hd⟩, ⟨⟨hn1, hn2⟩, w1, w2, w3, hi.wide, hi.lt, hi.n⟩⟩

theorem addr_add_add (a : Addr) (m n : Nat) : (a.add m).add n = a.add (m + n) := by
  unfold Addr.add
  by_cases h1 : m = 0 <;> by_cases h2 : n = 0 <;> simp [h1, h2] <;> omega
set_option maxRecDepth 20000 in
/-- A slice of things that take k cells each, as it is read. -/
theorem open_parts {α : Type} (f : α → List Value) (k : Nat) (hf : ∀ p, (f p).length = k) (hk : 0 < k) (Q : World → Nat → α → Prop) {H : Type} {enc : TypeId × Value → H} {W : World} {base : Nat} {t e : TypeId} {v : Value} {d : DataW H} {p : List MemPlace}
    (ht : Try.prog.underlying t = some (.slice e)) (hce : Try.prog.cellsOf e = k) (hs : ∀ p : α, ∃ u, (f p)[0]? = some u)
    (hr : ∀ (fuel : Nat) (cs : List Value) (z : DataW H × List MemPlace), DataW.trod enc Try.prog W 0 (fun _ => true) true fuel e cs = some z → (∀ y ∈ z.2, y.block < W.heap.size) → ∃ p, cs = f p ∧ Q W W.heap.size p)
    (hval : Value.okWide Try.prog W .any base t v) (h : DataW.Trod enc Try.prog W 0 (fun _ => true) true t v d p) (hlt : ∀ x ∈ p, x.block < W.heap.size) :
    ∃ (A : Option Addr) (c : Nat) (ps : List α), v = .slice A ps.length c ∧ Row W W.heap.size A (ps.flatMap f) ∧ (∀ p ∈ ps, Q W W.heap.size p) ∧ ps.length ≤ c ∧ c ≤ maxLen := by
  obtain ⟨a0, len, cap, rfl⟩ := okWide_slice ht hval
  obtain ⟨fuel, hf1⟩ := h
  rcases Deep.open_slice ht hf1 with ⟨hcs, hx⟩ | ⟨a, len', cap', m, n, D, Pl, hcs, _, hl, hm, hmm, hx, hy⟩
  · simp [Value.cells] at hcs
    obtain ⟨rfl, rfl, rfl⟩ := hcs
    exact ⟨none, 0, [], rfl, Row.empty _ _ _, fun p h => absurd h (List.not_mem_nil), Nat.zero_le _, Nat.zero_le _⟩
  · simp [Value.cells] at hcs
    obtain ⟨rfl, rfl, rfl⟩ := hcs
    simp only [if_true] at hmm
    subst hmm
    simp only [Prod.mk.injEq] at hx
    obtain ⟨rfl, rfl⟩ := hx
    rw [hce] at hy hlt
    rcases Nat.eq_zero_or_pos len with rfl | hpos
    · exact ⟨some a, m, [], rfl, Row.empty _ _ _, fun p h => absurd h (List.not_mem_nil), Nat.zero_le _, hm⟩
    have each : ∀ i, i < len → ∃ y : α, (∀ j v, (f y)[j]? = some v → W.cell? (a.add (i * k + j)) = some v) ∧ Q W W.heap.size y := by
      intro i hi
      obtain ⟨cs, hc, hr1⟩ := hy i (by omega)
      obtain ⟨y, rfl, hq⟩ := hr _ _ _ hr1 fun y hyz => hlt y (List.mem_append_right _ (List.mem_flatMap.2 ⟨i, List.mem_range.2 (by omega), hyz⟩))
      obtain ⟨_, _, hat⟩ := World.cells?_some hc
      refine ⟨y, fun j v hj => ?_, hq⟩
      have hjk : j < k := by
        have := (List.getElem?_eq_some_iff.1 hj).1
        rwa [hf] at this
      have := hat j hjk
      rw [hj, addr_add_add] at this
      exact this
    obtain ⟨y0, hy0, _⟩ := each 0 hpos
    obtain ⟨u0, hu0⟩ := hs y0
    obtain ⟨b, off, spot⟩ := a
    have hspot : spot = none := by
      have h := World.cell?_spot (hy0 0 _ hu0)
      simpa [Addr.add] using h
    subst hspot
    haveI : Inhabited α := ⟨y0⟩
    obtain ⟨Y, hY⟩ := Deep.choose_lt each
    have hnl : ((List.range len).map Y).length = len := by simp
    refine ⟨some ⟨b, off, none⟩, m, (List.range len).map Y, by rw [hnl], fun _ => ⟨b, off, rfl, hlt (.cell b off) (List.mem_append_left _ (MemPlace.mem_row.2 ⟨0, Nat.mul_pos (by omega) hk, by simp⟩)), fun j u hu => ?_⟩, fun p hp => ?_, by rw [hnl]; exact hl, hm⟩
    · have hj := (List.getElem?_eq_some_iff.1 hu).1
      rw [length_flat hf, hnl] at hj
      have hq : j / k < len := (Nat.div_lt_iff_lt_mul hk).2 hj
      have hr := Nat.mod_lt j hk
      have e : j = j / k * k + j % k := by rw [Nat.mul_comm]; exact (Nat.div_add_mod j k).symm
      have h1 := (hY (j / k) hq).1 (j % k) u
      rw [e, flat_get hf _ _ _ (by rw [hnl]; exact hq) hr] at hu
      rw [← e, addr_add] at h1
      exact h1 (by simpa using hu)
    · obtain ⟨i, hi, rfl⟩ := List.mem_map.1 hp
      exact (hY i (List.mem_range.1 hi)).2

set_option maxRecDepth 20000 in
theorem open_rrs {H : Type} {enc : TypeId × Value → H} {W : World} {base : Nat} {t : TypeId} {v : Value} {d : DataW H} {p : List MemPlace} (ht : Try.prog.underlying t = some (.slice 54))
    (hval : Value.okWide Try.prog W .any base t v) (h : DataW.Trod enc Try.prog W 0 (fun _ => true) true t v d p) (hlt : ∀ x ∈ p, x.block < W.heap.size) :
    ∃ (A : Option Addr) (c : Nat) (ps : List (RV × Rt)), v = .slice A ps.length c ∧ RsAt W W.heap.size A ps ∧ (∀ p ∈ ps, RIn p.2) ∧ ps.length ≤ c ∧ c ≤ maxLen := by
  obtain ⟨A, c, ps, hv, hR, hQ, h1, h2⟩ := open_parts cellsR 9 cellsR_len (by omega) (fun W H p => RAt W H p.1 p.2 ∧ RIn p.2) ht rr_cells (fun p => ⟨_, rfl⟩)
    (fun fuel cs z hz hlz => by
      obtain ⟨x, r, e, h1, h2⟩ := read_rr hz hlz
      exact ⟨(x, r), e, h1, h2⟩) hval h hlt
  exact ⟨A, c, ps, hv, ⟨hR, fun p hp => (hQ p hp).1⟩, fun p hp => (hQ p hp).2, h1, h2⟩
set_option maxRecDepth 20000 in
theorem open_dats {H : Type} {enc : TypeId × Value → H} {W : World} {base : Nat} {t : TypeId} {v : Value} {d : DataW H} {p : List MemPlace} (ht : Try.prog.underlying t = some (.slice 34))
    (hval : Value.okWide Try.prog W .any base t v) (h : DataW.Trod enc Try.prog W 0 (fun _ => true) true t v d p) (hlt : ∀ x ∈ p, x.block < W.heap.size) :
    ∃ (A : Option Addr) (c : Nat) (ps : List (DV × Dt)), v = .slice A ps.length c ∧ DsAt W W.heap.size A ps ∧ (∀ p ∈ ps, DIn p.2) ∧ ps.length ≤ c ∧ c ≤ maxLen := by
  obtain ⟨A, c, ps, hv, hR, hQ, h1, h2⟩ := open_parts cellsD 5 cellsD_len (by omega) (fun W H p => DataAt W H p.1 p.2 ∧ DIn p.2) ht data_cells (fun p => ⟨_, rfl⟩)
    (fun fuel cs z hz hlz => by
      obtain ⟨x, r, e, h1, h2⟩ := read_data hz hlz
      exact ⟨(x, r), e, h1, h2⟩) hval h hlt
  exact ⟨A, c, ps, hv, ⟨hR, fun p hp => (hQ p hp).1⟩, fun p hp => (hQ p hp).2, h1, h2⟩

end Go.Proofs.Ythppgofpbpjglaa

namespace Go.Proofs.Ythppgofpbpjglaa
open Go.ChangeShapes Go.WideShapes Go.ChangeAt Go.RowKit

theorem quest_cells : Try.prog.cellsOf 41 = 3 := by kernel_rfl

set_option maxRecDepth 20000 in
theorem open_question {H : Type} {enc : TypeId × Value → H} {W : World} {base : Nat} {v : Value} {d : DataW H} {p : List MemPlace}
    (hval : Value.okWide Try.prog W .any base 41 v) (h : DataW.Trod enc Try.prog W 0 (fun _ => true) true 41 v d p) (hlt : ∀ x ∈ p, x.block < W.heap.size) :
    ∃ (y : QV) (q : Qt), v = .agg #[.slice y.1 q.name.length y.2, .int .i64 q.kind, .int .i64 q.cls] ∧ QAt W W.heap.size y q ∧ WideN q.name ∧ (Lit.int .i64 q.kind).wf = true ∧ (Lit.int .i64 q.cls).wf = true := by
  unfold Value.okWide at hval
  rw [Try.underlying41] at hval
  obtain ⟨cs0, rfl, hsz, _⟩ := hval
  obtain ⟨fuel, hf⟩ := h
  obtain ⟨xs, k, _, hx, hcl, hxl, hfs⟩ := DataW.trod_struct Try.underlying41 hf
  obtain ⟨cs⟩ := cs0
  simp only [Value.cells] at hf hcl hfs
  have hp : p = xs.flatMap (·.2) := by simpa using congrArg Prod.snd hx
  have hin : ∀ z ∈ xs, ∀ y ∈ z.2, y.block < W.heap.size := fun z hz y hyz => hlt y (by rw [hp]; exact List.mem_flatMap.2 ⟨z, hz, hyz⟩)
  have hxl3 : xs.length = 3 := hxl
  have hc3 : cs.length = 3 := by rw [quest_cells] at hcl; simpa using hcl
  clear hx hp hf hcl hsz
  match cs, hc3, xs, hxl3, hfs, hin with
  | [c0, c1, c2], _, [y0, y1, y2], _, hfs, hin =>
    have g0 := hfs 0 _ rfl
    have g1 := hfs 1 _ rfl
    have g2 := hfs 2 _ rfl
    simp only [List.getElem?_cons_zero, List.getElem?_cons_succ] at g0 g1 g2
    obtain ⟨An, cn, n, e0, hRn, hn1, hn2, _⟩ := read_name str_cells g0 (hin y0 (by simp))
    obtain ⟨z1, e1, _, w1⟩ := DataW.trod_int Try.underlying3 g1
    obtain ⟨z2, e2, _, w2⟩ := DataW.trod_int Try.underlying3 g2
    cases e1
    cases e2
    subst e0
    exact ⟨(An, cn), ⟨n, z1, z2⟩, rfl, hRn, ⟨hn1, hn2⟩, w1, w2⟩

end Go.Proofs.Ythppgofpbpjglaa

namespace Go.Proofs.Ythppgofpbpjglaa
open Go.RowKit

/-- A reader's cells: the bytes, the place, the message. -/
def rdCells (vb : Value) (p : Nat) (h : Hd) (vq v0 v1 v2 : Value) : List Value :=
  [vb, .int .i64 p, .int .i64 h.id, .bool h.resp, .int .i64 h.op, .bool h.aa, .bool h.tc, .bool h.rd, .bool h.ra, .int .i64 h.rc, vq, v0, v1, v2, .bool h.edns, .int .i64 h.size]

/-- Only the block g may have turned. -/
abbrev GrewM (g : Nat) (w w' : World) : Prop := Grew (fun j => j = g) w w'
section
variable {w : World} {g p : Nat} {vb vq : Value} {h : Hd} {v : Nat → Value}




end
























def setHd (h : Hd) (j : Nat) (b : Bool) : Hd := if j = 0 then { h with resp := b } else if j = 1 then { h with aa := b } else if j = 2 then { h with tc := b } else if j = 3 then { h with rd := b } else { h with ra := b }
/-- What is known of the flags, j of the five bits. -/
def flagsTo (h : Hd) (f : Nat) : Nat → Hd
  | 0 => { h with op := ((f / 2048 % 16 : Nat) : Int), rc := ((f % 16 : Nat) : Int) }
  | j + 1 => setHd (flagsTo h f j) j (decide (f / 2 ^ posF j % 2 = 1))
theorem flagsTo_five (h : Hd) (f : Nat) : flagsTo h f 5 = { hdOf 0 f h.edns h.size with id := h.id } := rfl















theorem and_mask (x k : Nat) (hx : x < 65536) : bits .and .i64 (x : Int) ((2 ^ k - 1 : Nat) : Int) = ((x % 2 ^ k : Nat) : Int) ∨ 16 < k := by
  by_cases hk : 16 < k
  · exact .inr hk
  have hk2 : 2 ^ k ≤ 2 ^ 16 := Nat.pow_le_pow_right (by omega) (by omega)
  have hm : x % 2 ^ k ≤ x := Nat.mod_le _ _
  have h1 : (BitVec.ofInt 64 (x : Int)).toNat = x := by
    rw [BitVec.ofInt_natCast, BitVec.toNat_ofNat]; exact Nat.mod_eq_of_lt (by omega)
  have h2 : (BitVec.ofInt 64 ((2 ^ k - 1 : Nat) : Int)).toNat = 2 ^ k - 1 := by
    rw [BitVec.ofInt_natCast, BitVec.toNat_ofNat]; exact Nat.mod_eq_of_lt (by omega)
  left
  show IntKind.i64.wrap ((BitVec.ofInt 64 (x : Int) &&& BitVec.ofInt 64 ((2 ^ k - 1 : Nat) : Int)).toNat : Int) = _
  rw [BitVec.toNat_and, h1, h2, Nat.and_two_pow_sub_one_eq_mod, IntKind.wrap_i64]
  omega
theorem and_15 {x : Nat} (hx : x < 65536) : bits .and .i64 (x : Int) 15 = ((x % 16 : Nat) : Int) := by
  rcases and_mask x 4 hx with h | h
  · exact h
  · omega
theorem and_1 {x : Nat} (hx : x < 65536) : bits .and .i64 (x : Int) 1 = ((x % 2 : Nat) : Int) := by
  rcases and_mask x 1 hx with h | h
  · exact h
  · omega
theorem shift_bit {f j : Nat} (hf : f < 65536) (_ : j < 5) : bits .and .i64 ((f : Int) / 2 ^ posF j) 1 = (f : Int) / 2 ^ posF j % 2 ∧ ((f : Int) / 2 ^ posF j % 2 == 1) = decide (f / 2 ^ posF j % 2 = 1) := by
  have h0 : f / 2 ^ posF j ≤ f := Nat.div_le_self _ _
  have h1 := and_1 (x := f / 2 ^ posF j) (by omega)
  have e : ((f / 2 ^ posF j : Nat) : Int) = (f : Int) / 2 ^ posF j := by push_cast; rfl
  rw [e] at h1
  refine ⟨by rw [h1, ← e]; push_cast; rfl, ?_⟩
  rw [← e]
  generalize f / 2 ^ posF j = z
  by_cases hz : z % 2 = 1
  · rw [decide_eq_true hz, beq_iff_eq]; omega
  · rw [decide_eq_false hz, beq_eq_false_iff_ne]; omega


















































































end Go.Proofs.Ythppgofpbpjglaa

namespace Go.Proofs.Ythppgofpbpjglaa
open Go.RowKit

theorem q_info : (Try.prog.info? 41).map (fun i => (i.zero, i.size, i.bytes)) = some (some (.agg #[.slice none 0 0, .int .i64 0, .int .i64 0]), 3, 40) := by kernel_rfl
/-- A row of questions of the call's own. -/
structure QRow (w : World) (B : Nat) (v : Value) (qs : List (QV × Qt)) : Prop where
  row : w.ownsRow B 41 3 v qs.length (qs.flatMap cellsQ)
  each : ∀ q ∈ qs, w.ownsRow B 9 1 (.slice q.1.1 q.2.name.length q.1.2) q.2.name.length (q.2.name.map sv)
section
variable {w w' : World} {B : Nat} {v v' : Value} {qs : List (QV × Qt)}
theorem QRow.keep (h : QRow w B v qs) (hk : ∀ j, B ≤ j → j < w.heap.size → w'.heap[j]? = w.heap[j]?) : QRow w' B v qs :=
  ⟨own_keep h.row fun j hj => hk j (h.row.lt j hj).1 (h.row.lt j hj).2, fun q hq => own_keep (h.each q hq) fun j hj => hk j ((h.each q hq).lt j hj).1 ((h.each q hq).lt j hj).2⟩
theorem QRow.nil (w : World) (B : Nat) : QRow w B (.slice none 0 0) [] := ⟨World.ownsRow_nil _ _ _ _, fun _ h => absurd h (List.not_mem_nil)⟩
theorem QRow.snoc (h : QRow w B v qs) {y : QV} {q : Qt} (hy : w.ownsRow B 9 1 (.slice y.1 q.name.length y.2) q.name.length (q.name.map sv)) (ho : w'.ownsRow B 41 3 v' (qs.length + 1) (qs.flatMap cellsQ ++ cellsQ (y, q)))
    (hg : w.grownBy w' v.ownBlock) : QRow w' B v' (qs ++ [(y, q)]) := by
  have hk : ∀ {u : Value} {n : Nat} {ys : List Value}, w.ownsRow B 9 1 u n ys → ∀ j, u.ownBlock = some j → w'.heap[j]? = w.heap[j]? := fun hs j hj =>
    hg.block j (hs.lt j hj).2 (Ne.symm (own_apartR hs h.row (by decide) hj))
  refine ⟨by rw [List.length_append, List.flatMap_append]; simpa using ho, fun p hp => ?_⟩
  rcases List.mem_append.1 hp with hp | hp
  · exact own_keep (h.each p hp) (hk (h.each p hp))
  · rw [List.mem_singleton.1 hp]
    exact own_keep hy (hk hy)
end
/-- Only the block g, and those from B on, may have turned. -/
abbrev GrewB (g B : Nat) (w w' : World) : Prop := Grew (fun j => j = g ∨ B ≤ j) w w'
theorem GrewM.wide {g B : Nat} {w w' : World} (h : GrewM g w w') : GrewB g B w w' := Grew.mono h fun _ hj => .inl (.inl hj)
theorem GrewB.step {g B : Nat} {w w' w'' : World} (h : GrewB g B w w') (k : GrewB g B w' w'') : GrewB g B w w'' := Grew.trans h k fun _ hj => .inl hj
theorem row_under {w w' : World} {g B : Nat} {A : Option Addr} {xs : List Value} (h : Row w g A xs) (hg : GrewB g B w w') (hgw : g ≤ w.heap.size) (hgB : g < B) : Row w' g A xs := h.grew hg hgw fun j hj => by rcases hj with h1 | h1 <;> omega
def NameRel1 (w : World) (n : List (List UInt8)) (x k : Nat) (s3 s4 s5 : Value) (wx : World) : Prop :=
  ∃ A c, s3 = .slice A n.length c ∧ s4 = .int .i64 x ∧ s5 = .int .i64 k ∧ wx.ownsRow w.heap.size 9 1 (.slice A n.length c) n.length (n.map sv) ∧ Below w.heap.size w wx




































































































































































theorem getQ_le {b : List UInt8} {p : Nat} (_ : (getQ b p).2.2 = 0) : (getQ b p).2.1 ≤ b.length := by
  unfold getQ at *
  split
  · exact Nat.zero_le _
  · split
    · exact Nat.zero_le _
    · split
      · exact Nat.zero_le _
      · dsimp only
        omega











































































end Go.Proofs.Ythppgofpbpjglaa

namespace Go.Proofs.Ythppgofpbpjglaa
open Go.RowKit

/-- A row of records of the call's own. -/
structure RecRow (w : World) (B : Nat) (v : Value) (ps : List (RV × Rt)) : Prop where
  row : w.ownsRow B 54 9 v ps.length (ps.flatMap cellsR)
  each : ∀ p ∈ ps, OwnR w B p.1 p.2
section
variable {w w' : World} {B : Nat} {v v' : Value} {ps : List (RV × Rt)}
theorem RecRow.keep (h : RecRow w B v ps) (hk : ∀ j, B ≤ j → j < w.heap.size → w'.heap[j]? = w.heap[j]?) : RecRow w' B v ps :=
  ⟨own_keep h.row fun j hj => hk j (h.row.lt j hj).1 (h.row.lt j hj).2, fun q hq => (h.each q hq).keepB hk⟩
theorem RecRow.nil (w : World) (B : Nat) : RecRow w B (.slice none 0 0) [] := ⟨World.ownsRow_nil _ _ _ _, fun _ h => absurd h (List.not_mem_nil)⟩
theorem RecRow.snoc (h : RecRow w B v ps) {y : RV} {r : Rt} (hy : OwnR w B y r) (ho : w'.ownsRow B 54 9 v' (ps.length + 1) (ps.flatMap cellsR ++ cellsR (y, r))) (hg : w.grownBy w' v.ownBlock) : RecRow w' B v' (ps ++ [(y, r)]) := by
  refine ⟨by rw [List.length_append, List.flatMap_append]; simpa using ho, fun q hq => ?_⟩
  rcases List.mem_append.1 hq with hq | hq
  · exact (h.each q hq).grown h.row hg
  · rw [List.mem_singleton.1 hq]
    exact hy.grown h.row hg
end
def upd (v : Nat → Value) (i : Nat) (u : Value) : Nat → Value := fun j => if j = i then u else v j
section
variable {w : World} {g p : Nat} {vb vq : Value} {h : Hd} {v : Nat → Value}











theorem upd_same (v : Nat → Value) (i : Nat) : upd v i (v i) = v := by
  funext j
  unfold upd
  split
  · rename_i h; rw [h]
  · rfl
end
theorem getRR_le {b : List UInt8} {p : Nat} (_ : (getRR b (p : Int)).2.2 = 0) : (getRR b (p : Int)).2.1 ≤ b.length := by
  unfold getRR at *
  split
  · exact Nat.zero_le _
  · split
    · exact Nat.zero_le _
    · split
      · exact Nat.zero_le _
      · split
        · exact Nat.zero_le _
        · rename_i h1 h2 h3 h4
          dsimp only
          have h5 : (getD b (((getW b (p : Int)).2.1 : Int) + 10) (numAt b ((getW b (p : Int)).2.1 + 8) 2) (numAt b (getW b (p : Int)).2.1 2)).2 = 0 := by omega
          unfold getD at h5
          split at h5
          · cases h5
          · split at h5
            · cases h5
            · omega
theorem run_neq_ptr_same {P : Program} (w : World) {tp te : TypeId} {j : TypeInfo} (a : Addr) (hp : P.underlying tp = some (.pointer te)) (hte : P.info? te = some j) :
    (binOp .neq tp (.pointer (some a)) (.pointer (some a))).run P w = .ok (.bool false) w := by
  have h : ∀ d : Nat, (Op.equalIn (d + 1) tp (.pointer (some a)) (.pointer (some a))).run P w = .ok true w := fun d => by
    simp [Op.equalIn, run_underlying hp, sizeOf, typeInfo, hte, run_sameAddr_same]
  simp only [binOp]
  simp [Op.equal, Op.maxDepth, h 9999]
theorem run_neq_ptr_other {P : Program} (w : World) {tp te : TypeId} {j : TypeInfo} {a b : Addr} {ca cb : Array Value} {ta tb : TypeId} (hp : P.underlying tp = some (.pointer te)) (hte : P.info? te = some j) (hsz : j.size ≠ 0)
    (hne : a ≠ b) (ha : w.heap[a.block]? = some (.cells ca ta (0, 0))) (hb : w.heap[b.block]? = some (.cells cb tb (0, 0))) :
    (binOp .neq tp (.pointer (some a)) (.pointer (some b))).run P w = .ok (.bool true) w := by
  have h : ∀ d : Nat, (Op.equalIn (d + 1) tp (.pointer (some a)) (.pointer (some b))).run P w = .ok false w := fun d => by
    simp [Op.equalIn, run_underlying hp, sizeOf, typeInfo, hte, hsz, run_sameAddr_other w hne ha hb]
  simp only [binOp]
  simp [Op.equal, Op.maxDepth, h 9999]
theorem rrs_info : (Try.prog.info? 22).map (fun i => i.size) = some 1 := by kernel_rfl



























































































/-- Behind the first statement of record: the record in a block, the place, the error. -/
def GotRel1 (w : World) (r : Rt × Nat × Nat) (s5 s6 s7 : Value) (wx : World) : Prop :=
  ∃ gr x, s5 = .pointer (some ⟨gr, 0, none⟩) ∧ s6 = .int .i64 r.2.1 ∧ s7 = .int .i64 r.2.2 ∧ w.heap.size ≤ gr ∧ Whole wx gr 54 (cellsR (x, r.1)) ∧ OwnR wx w.heap.size x r.1 ∧ Below w.heap.size w wx
theorem stored9 {w w1 : World} {x : RV} {r : Rt} (x0 k : Nat) (hw : Whole w1 w.heap.size 54 [.slice none 0 0, .int .i64 0, .int .i64 0, .int .i64 0, .slice none 0 0, .slice none 0 0, .slice none 0 0, .slice none 0 0, .slice none 0 0]) (ho : OwnR w1 (w.heap.size + 1) x r) (hb : Below w.heap.size w w1) :
    GotRel1 w (r, x0, k) (.pointer (some ⟨w.heap.size, 0, none⟩)) (.int .i64 x0) (.int .i64 k) (((((((((w1.setCell ⟨w.heap.size, 0, none⟩ (.slice x.A r.name.length x.c)).setCell ⟨w.heap.size, 1, none⟩ (.int .i64 r.kind)).setCell ⟨w.heap.size, 2, none⟩ (.int .i64 r.cls)).setCell ⟨w.heap.size, 3, none⟩ (.int .i64 r.ttl)).setCell ⟨w.heap.size, 4, none⟩ (.slice x.d.Ab r.data.bytes.length x.d.cb)).setCell ⟨w.heap.size, 5, none⟩ (.slice x.d.Ah r.data.host.length x.d.ch)).setCell ⟨w.heap.size, 6, none⟩ (.slice x.d.Am r.data.mail.length x.d.cm)).setCell ⟨w.heap.size, 7, none⟩ (.slice x.d.An r.data.nums.length x.d.cn)).setCell ⟨w.heap.size, 8, none⟩ (.slice x.d.At r.data.texts.length x.d.ct)) := by
  have hs (W : World) (i : Nat) (u : Value) : Below w.heap.size W (W.setCell ⟨w.heap.size, i, none⟩ u) := (Below.refl _ W).setCell (p := ⟨w.heap.size, i, none⟩) (Nat.le_refl _) u
  have hh (W : World) (i : Nat) (u : Value) (j : Nat) (hj : j ≠ w.heap.size) : (W.setCell ⟨w.heap.size, i, none⟩ u).heap[j]? = W.heap[j]? := Below.heap_setCell W ⟨w.heap.size, i, none⟩ u j hj
  have ho2 : OwnR (((((((((w1.setCell ⟨w.heap.size, 0, none⟩ (.slice x.A r.name.length x.c)).setCell ⟨w.heap.size, 1, none⟩ (.int .i64 r.kind)).setCell ⟨w.heap.size, 2, none⟩ (.int .i64 r.cls)).setCell ⟨w.heap.size, 3, none⟩ (.int .i64 r.ttl)).setCell ⟨w.heap.size, 4, none⟩ (.slice x.d.Ab r.data.bytes.length x.d.cb)).setCell ⟨w.heap.size, 5, none⟩ (.slice x.d.Ah r.data.host.length x.d.ch)).setCell ⟨w.heap.size, 6, none⟩ (.slice x.d.Am r.data.mail.length x.d.cm)).setCell ⟨w.heap.size, 7, none⟩ (.slice x.d.An r.data.nums.length x.d.cn)).setCell ⟨w.heap.size, 8, none⟩ (.slice x.d.At r.data.texts.length x.d.ct)) (w.heap.size + 1) x r := ho.keepB fun j hj _ => by
    have hjn : j ≠ w.heap.size := by omega
    rw [hh _ _ _ _ hjn, hh _ _ _ _ hjn, hh _ _ _ _ hjn, hh _ _ _ _ hjn, hh _ _ _ _ hjn, hh _ _ _ _ hjn, hh _ _ _ _ hjn, hh _ _ _ _ hjn, hh _ _ _ _ hjn]
  refine ⟨w.heap.size, x, rfl, rfl, rfl, Nat.le_refl _, (((((((((hw.set_ 0 _).set_ 1 _).set_ 2 _).set_ 3 _).set_ 4 _).set_ 5 _).set_ 6 _).set_ 7 _).set_ 8 _), ⟨own_mono ho2.n (by omega), ho2.d.monoB (by omega)⟩, ?_⟩
  exact (((((((((hb.trans (hs _ 0 _)).trans (hs _ 1 _)).trans (hs _ 2 _)).trans (hs _ 3 _)).trans (hs _ 4 _)).trans (hs _ 5 _)).trans (hs _ 6 _)).trans (hs _ 7 _)).trans (hs _ 8 _))
theorem stored1 {w w1 : World} {x : RV} {r : Rt} (x0 k : Nat) (ho : OwnR w1 w.heap.size x r) (hb : Below w.heap.size w w1) :
    GotRel1 w (r, x0, k) (.pointer (some ⟨w1.heap.size, 0, none⟩)) (.int .i64 x0) (.int .i64 k) (w1.alloc (.cells #[.slice x.A r.name.length x.c, .int .i64 r.kind, .int .i64 r.cls, .int .i64 r.ttl, .slice x.d.Ab r.data.bytes.length x.d.cb, .slice x.d.Ah r.data.host.length x.d.ch, .slice x.d.Am r.data.mail.length x.d.cm, .slice x.d.An r.data.nums.length x.d.cn, .slice x.d.At r.data.texts.length x.d.ct] 54)) :=
  ⟨w1.heap.size, x, rfl, rfl, rfl, hb.size, Whole.made w1 _ _, ho.keep fun j hj => Below.heap_alloc w1 _ j hj, hb.alloc hb.size _⟩















































































































































































































end Go.Proofs.Ythppgofpbpjglaa

namespace Go.Proofs.Ythppgofpbpjglaa
open Go.RowKit



theorem upd_upd (v : Nat → Value) (i : Nat) (u u' : Value) : upd (upd v i u) i u' = upd v i u' := by
  funext j
  unfold upd
  split <;> rfl
theorem upd_at (v : Nat → Value) (i : Nat) (u : Value) : upd v i u i = u := by unfold upd; rw [if_pos rfl]
theorem step_len {b : List UInt8} {last : Bool} {s t : Rd} (h : stepR b last s = .ok t) : t.rs.length ≤ s.rs.length + 1 := by
  unfold stepR addR at h
  split at h
  · cases h
  · split at h
    · split at h
      · cases h
      · injection h with h
        subst h
        exact Nat.le_succ _
    · injection h with h
      subst h
      simp













































































end Go.Proofs.Ythppgofpbpjglaa

namespace Go.Proofs.Ythppgofpbpjglaa
open Go.RowKit

def hd0 : Hd := ⟨0, false, 0, false, false, false, false, 0, false, 0⟩
def nilS : Nat → Value := fun _ => .slice none 0 0
/-- The last words: is something left? -/
def finR (b : List UInt8) (q : List Qt) (acc : List (List Rt)) (p : Nat) (e : Bool) (s : Int) : Except Nat Mt :=
  if p < b.length then .error 7 else .ok ⟨hdOf (numAt b 0 2) (numAt b 2 2) e s, q, acc.getD 0 [], acc.getD 1 [], acc.getD 2 []⟩
/-- So many sections are still to be read. -/
def restS (b : List UInt8) (q : List Qt) : Nat → List (List Rt) → Nat → Bool → Int → Except Nat Mt
  | 0, acc, p, e, s => finR b q acc p e s
  | k + 1, acc, p, e, s => getRs b (decide (2 - k = 2)) (numAt b (6 + 2 * (2 - k)) 2) ⟨[], p, e, s⟩ >>= fun x => restS b q k (acc ++ [x.rs]) x.p x.e x.s
/-- What follows the head. -/
def decB (b : List UInt8) : Except Nat Mt :=
  if 513 < numAt b 4 2 + numAt b 6 2 + numAt b 8 2 + numAt b 10 2 then .error 4 else
  getQs b (numAt b 4 2) 12 [] >>= fun q => restS b q.1 3 [] q.2 false 0
theorem decM_eq (b : List UInt8) : decM b = if 65535 < b.length then .error 4 else if b.length < 12 then .error 3 else decB b := rfl
def cntV (b : List UInt8) (j i : Nat) : Nat := if i < j then numAt b (4 + 2 * i) 2 else 0
def cntL (b : List UInt8) (j : Nat) : List Value := [.int .i64 (cntV b j 0), .int .i64 (cntV b j 1), .int .i64 (cntV b j 2), .int .i64 (cntV b j 3)]
def cntS (b : List UInt8) : Nat → Nat
  | 0 => 0
  | j + 1 => cntS b j + numAt b (4 + 2 * j) 2
theorem cntL_set (b : List UInt8) {j : Nat} (hj : j < 4) : (cntL b j).set j (.int .i64 (numAt b (4 + 2 * j) 2)) = cntL b (j + 1) := by
  rcases (show j = 0 ∨ j = 1 ∨ j = 2 ∨ j = 3 by omega) with rfl | rfl | rfl | rfl <;> rfl
theorem cntL_at (b : List UInt8) {j : Nat} (hj : j < 4) (k : Nat) : (cntL b k)[j]? = some (.int .i64 (cntV b k j)) := by
  rcases (show j = 0 ∨ j = 1 ∨ j = 2 ∨ j = 3 by omega) with rfl | rfl | rfl | rfl <;> rfl
theorem cntS_le (b : List UInt8) : ∀ j, cntS b j ≤ 65536 * j
  | 0 => Nat.le_refl _
  | j + 1 => by
    have h1 := cntS_le b j
    have h2 := numAt_lt b (4 + 2 * j) 2
    have h3 : (2 : Nat) ^ (8 * 2) = 65536 := rfl
    show cntS b j + numAt b (4 + 2 * j) 2 ≤ 65536 * (j + 1)
    omega
theorem cntS_four (b : List UInt8) : cntS b 4 = numAt b 4 2 + numAt b 6 2 + numAt b 8 2 + numAt b 10 2 := by
  show (((0 + numAt b 4 2) + numAt b 6 2) + numAt b 8 2) + numAt b 10 2 = _
  omega
theorem getD_last (acc : List (List Rt)) (x : List Rt) : (acc ++ [x]).getD acc.length [] = x := by simp
theorem getD_old (acc : List (List Rt)) (x : List Rt) {k : Nat} (hk : k < acc.length) : (acc ++ [x]).getD k [] = acc.getD k [] := by
  rw [List.getD_eq_getElem?_getD, List.getD_eq_getElem?_getD, List.getElem?_append_left hk]
/-- The rows of a message that was read. -/
structure DOwn (w : World) (B : Nat) (m : MV) : Prop where
  q : QRow w B m.vq m.qp
  s0 : RecRow w B m.s0.v m.s0.ps
  s1 : RecRow w B m.s1.v m.s1.ps
  s2 : RecRow w B m.s2.v m.s2.ps









































































































































































































































































































end Go.Proofs.Ythppgofpbpjglaa

namespace Go.Proofs.Ythppgofpbpjglaa
open Go.RowKit

set_option maxHeartbeats 2000000 in
/-- A whole message is stored; of the new world this much is told. -/
theorem wpList_storeM {w : World} {ops : Array Oper} {rest : List Oper} {o : Oper} {a : Act} {Q : Exit → Act → World → Prop} (g k1 k2 : Nat) (h : Hd) (Aq A0 A1 A2 : Option Addr) (nq cq n0 c0 n1 c1 n2 c2 : Nat) (L : List Value) (hg : o.guard = none) (ho : o.op = .store 43 (.tmp k1) (.tmp k2))
    (ha : a.tmps[k1]? = some (.pointer (some ⟨g, 0, none⟩))) (hu : a.tmps[k2]? = some (valM h (.slice Aq nq cq) (.slice A0 n0 c0) (.slice A1 n1 c1) (.slice A2 n2 c2))) (hw : Whole w g 43 L) (hl : L.length = 14)
    (hK : ∀ V, Whole V g 43 (cellsM h (.slice Aq nq cq) (.slice A0 n0 c0) (.slice A1 n1 c1) (.slice A2 n2 c2)) → Below g w V → (∀ j, j ≠ g → V.heap[j]? = w.heap[j]?) → V.heap.size = w.heap.size → wpList Try.prog ops Q rest (a.put o.dst undef) V) : wpList Try.prog ops Q (o :: rest) a w := by
  match L, hl with
  | [u0, u1, u2, u3, u4, u5, u6, u7, u8, u9, u10, u11, u12, u13], _ =>
  have q0 : w.cell? ⟨g, 0, none⟩ = some u0 := hw.cell 0
  have z0 : w.frozen? ⟨g, 0, none⟩ = false := hw.frozen 0
  have q1 : w.cell? ⟨g, 1, none⟩ = some u1 := hw.cell 1
  have z1 : w.frozen? ⟨g, 1, none⟩ = false := hw.frozen 1
  have q2 : w.cell? ⟨g, 2, none⟩ = some u2 := hw.cell 2
  have z2 : w.frozen? ⟨g, 2, none⟩ = false := hw.frozen 2
  have q3 : w.cell? ⟨g, 3, none⟩ = some u3 := hw.cell 3
  have z3 : w.frozen? ⟨g, 3, none⟩ = false := hw.frozen 3
  have q4 : w.cell? ⟨g, 4, none⟩ = some u4 := hw.cell 4
  have z4 : w.frozen? ⟨g, 4, none⟩ = false := hw.frozen 4
  have q5 : w.cell? ⟨g, 5, none⟩ = some u5 := hw.cell 5
  have z5 : w.frozen? ⟨g, 5, none⟩ = false := hw.frozen 5
  have q6 : w.cell? ⟨g, 6, none⟩ = some u6 := hw.cell 6
  have z6 : w.frozen? ⟨g, 6, none⟩ = false := hw.frozen 6
  have q7 : w.cell? ⟨g, 7, none⟩ = some u7 := hw.cell 7
  have z7 : w.frozen? ⟨g, 7, none⟩ = false := hw.frozen 7
  have q8 : w.cell? ⟨g, 8, none⟩ = some u8 := hw.cell 8
  have z8 : w.frozen? ⟨g, 8, none⟩ = false := hw.frozen 8
  have q9 : w.cell? ⟨g, 9, none⟩ = some u9 := hw.cell 9
  have z9 : w.frozen? ⟨g, 9, none⟩ = false := hw.frozen 9
  have q10 : w.cell? ⟨g, 10, none⟩ = some u10 := hw.cell 10
  have z10 : w.frozen? ⟨g, 10, none⟩ = false := hw.frozen 10
  have q11 : w.cell? ⟨g, 11, none⟩ = some u11 := hw.cell 11
  have z11 : w.frozen? ⟨g, 11, none⟩ = false := hw.frozen 11
  have q12 : w.cell? ⟨g, 12, none⟩ = some u12 := hw.cell 12
  have z12 : w.frozen? ⟨g, 12, none⟩ = false := hw.frozen 12
  have q13 : w.cell? ⟨g, 13, none⟩ = some u13 := hw.cell 13
  have z13 : w.frozen? ⟨g, 13, none⟩ = false := hw.frozen 13
  have hk := hK ((((((((((((((w.setCell ⟨g, 0, none⟩ (.int .i64 h.id)).setCell ⟨g, 1, none⟩ (.bool h.resp)).setCell ⟨g, 2, none⟩ (.int .i64 h.op)).setCell ⟨g, 3, none⟩ (.bool h.aa)).setCell ⟨g, 4, none⟩ (.bool h.tc)).setCell ⟨g, 5, none⟩ (.bool h.rd)).setCell ⟨g, 6, none⟩ (.bool h.ra)).setCell ⟨g, 7, none⟩ (.int .i64 h.rc)).setCell ⟨g, 8, none⟩ (.slice Aq nq cq)).setCell ⟨g, 9, none⟩ (.slice A0 n0 c0)).setCell ⟨g, 10, none⟩ (.slice A1 n1 c1)).setCell ⟨g, 11, none⟩ (.slice A2 n2 c2)).setCell ⟨g, 12, none⟩ (.bool h.edns)).setCell ⟨g, 13, none⟩ (.int .i64 h.size))
    ((((((((((((((hw.set_ 0 _).set_ 1 _).set_ 2 _).set_ 3 _).set_ 4 _).set_ 5 _).set_ 6 _).set_ 7 _).set_ 8 _).set_ 9 _).set_ 10 _).set_ 11 _).set_ 12 _).set_ 13 _)
    (by
      have hs (W : World) (i : Nat) (u : Value) : Below g W (W.setCell ⟨g, i, none⟩ u) := (Below.refl _ W).setCell (p := ⟨g, i, none⟩) (Nat.le_refl _) u
      exact ((((((((((((((hs _ 0 _).trans (hs _ 1 _)).trans (hs _ 2 _)).trans (hs _ 3 _)).trans (hs _ 4 _)).trans (hs _ 5 _)).trans (hs _ 6 _)).trans (hs _ 7 _)).trans (hs _ 8 _)).trans (hs _ 9 _)).trans (hs _ 10 _)).trans (hs _ 11 _)).trans (hs _ 12 _)).trans (hs _ 13 _)))
    (fun j hj => by
      have hs (W : World) (i : Nat) (u : Value) : (W.setCell ⟨g, i, none⟩ u).heap[j]? = W.heap[j]? := Below.heap_setCell W ⟨g, i, none⟩ u j hj
      rw [hs, hs, hs, hs, hs, hs, hs, hs, hs, hs, hs, hs, hs, hs])
    (by simp)
  refine wpList_plain hg fun K hKK => ?_
  have hk2 := hKK _ _ hk
  unfold Oper.wp
  simp [execOp, ho, go_sem, ha, hu, q0, q1, q2, q3, q4, q5, q6, q7, q8, q9, q10, q11, q12, q13, z0, z1, z2, z3, z4, z5, z6, z7, z8, z9, z10, z11, z12, z13]
  exact hk2

theorem RecRow.widen {w : World} {B B' : Nat} {v : Value} {ps : List (RV × Rt)} (h : RecRow w B v ps) (hb : B' ≤ B) : RecRow w B' v ps := ⟨own_mono h.row hb, fun p hp => ⟨own_mono (h.each p hp).n hb, (h.each p hp).d.monoB hb⟩⟩
theorem DOwn.keep {w w' : World} {B : Nat} {m : MV} (h : DOwn w B m) (hk : ∀ j, B ≤ j → j < w.heap.size → w'.heap[j]? = w.heap[j]?) : DOwn w' B m := ⟨h.q.keep hk, h.s0.keep hk, h.s1.keep hk, h.s2.keep hk⟩
/-- What Decode leaves. -/
def DecOut (w : World) (r : Except Nat Mt) (e : Ending) (w' : World) : Prop :=
  Below w.heap.size w w' ∧ match r with
  | .ok x => ∃ m : MV, e = .returned (.tuple #[m.val, .int .i64 0]) ∧ m.msg = x ∧ DOwn w' w.heap.size m
  | .error k => e = .returned (.tuple #[valM hd0 (.slice none 0 0) (.slice none 0 0) (.slice none 0 0) (.slice none 0 0), .int .i64 k]) ∧ k ≠ 0







































































































































end Go.Proofs.Ythppgofpbpjglaa

namespace Go.Proofs.Ythppgofpbpjglaa
open Go.RowKit

def flB (i f : Nat) : List UInt8 := ((((digs i 2 ++ digs f 2) ++ digs 0 2) ++ digs 0 2) ++ digs 0 2) ++ digs 0 2
theorem flB_eq (i f : Nat) : flB i f = (digs i 2 ++ digs f 2) ++ List.replicate 8 0 := by
  unfold flB
  rw [show digs 0 2 = [0, 0] by decide +kernel]
  simp [List.replicate]
theorem digs2 (n : Nat) : digs n 2 = [UInt8.ofNat (n / 256), UInt8.ofNat n] := by simp [digs, List.range, List.range.loop]
theorem dec_flags {i f : Nat} (hi : i < 65536) (hf : f < 65536) : decM (flB i f) = .ok ⟨hdOf i f false 0, [], [], [], []⟩ := by
  have h := head_nums (a := i) (b := f) (c := 0) (d := 0) (e := 0) (f := 0) hi hf (by omega) (by omega) (by omega) (by omega) []
  simp only [List.append_nil] at h
  obtain ⟨n0, n1, n2, n3, n4, n5⟩ := h
  have hl : (flB i f).length = 12 := by unfold flB; simp [length_digs]
  unfold decM
  rw [if_neg (by omega), if_neg (by omega)]
  change (if 513 < numAt (flB i f) 4 2 + numAt (flB i f) 6 2 + numAt (flB i f) 8 2 + numAt (flB i f) 10 2 then _ else _) = _
  have e0 : numAt (flB i f) 0 2 = i := n0
  have e1 : numAt (flB i f) 2 2 = f := n1
  have e2 : numAt (flB i f) 4 2 = 0 := n2
  have e3 : numAt (flB i f) 6 2 = 0 := n3
  have e4 : numAt (flB i f) 8 2 = 0 := n4
  have e5 : numAt (flB i f) 10 2 = 0 := n5
  rw [e2, e3, e4, e5, if_neg (by omega)]
  change (if (12 : Nat) < (flB i f).length then Except.error 7 else Except.ok _) = _
  rw [if_neg (by omega), e0, e1]
/-- The flags without the three bits. -/
def clear3 (f : Nat) : Nat := f / 256 * 256 + f % 256 / 128 * 128 + f % 16
theorem bit_dec (x n : Nat) : bit (decide (x % 2 = 1)) n = x % 2 * n := by
  rcases (show x % 2 = 0 ∨ x % 2 = 1 by omega) with h | h <;> rw [h] <;> simp [bit]
theorem bits_clear {i f : Nat} (hf : f < 65536) (e : Bool) (s : Int) : bitsH (hdOf i f e s) = clear3 f := by
  unfold bitsH hdOf clear3
  dsimp only
  rw [bit_dec, bit_dec, bit_dec, bit_dec, bit_dec, Int.toNat_natCast, Int.toNat_natCast]
  omega
theorem clear3_lt {f : Nat} (hf : f < 65536) : clear3 f < 65536 := by unfold clear3; omega
theorem codeB_of {n : Nat} (h : n < 16) : codeB (n : Int) = true := by
  unfold codeB
  simp only [Bool.and_eq_true, decide_eq_true_eq]
  omega
theorem sound_flags {i f : Nat} (hi : i < 65536) : soundM ⟨hdOf i f false 0, [], [], [], []⟩ = true := by
  refine soundM_iff.2 ⟨?_, Nat.zero_le _, fun q h => absurd h (List.not_mem_nil), fun q h => absurd h (List.not_mem_nil)⟩
  unfold soundH hdOf
  dsimp only
  rw [fit2_of (n := (i : Int)) (by omega) (by omega), codeB_of (by omega), codeB_of (by omega), show fitB 0 2 = true by decide +kernel]
  rfl
theorem enc_flags {i f : Nat} (hi : i < 65536) (hf : f < 65536) : encE ⟨hdOf i f false 0, [], [], [], []⟩ = .ok (flB i (clear3 f)) := by
  have hs := sound_flags (f := f) hi
  have h : encM ⟨hdOf i f false 0, [], [], [], []⟩ = flB i (clear3 f) := by
    have h1 : encM ⟨hdOf i f false 0, [], [], [], []⟩ = Mt.head ⟨hdOf i f false 0, [], [], [], []⟩ := rfl
    have h2 := head_eq (soundM_iff.1 hs)
    dsimp only at h2
    rw [h1, h2, bits_clear hf]
    rfl
  have hl : (flB i (clear3 f)).length = 12 := by unfold flB; simp [length_digs]
  unfold encE
  rw [if_pos hs, h, if_neg (by omega)]

end Go.Proofs.Ythppgofpbpjglaa

namespace Go.Proofs.Ythppgofpbpjglaa
open Go.RowKit

theorem zeroCells_toList (z : Value) (hz : z.cells = #[z]) (m : Nat) : (Builtin.zeroCells z.cells m).toList = List.replicate m z := by
  rw [hz]
  refine List.eq_replicate_iff.2 ⟨by simp [Builtin.zeroCells], fun b hb => ?_⟩
  simp only [Builtin.zeroCells, Array.toList_map, List.mem_map] at hb
  obtain ⟨i, _, rfl⟩ := hb
  have h0 : i % (#[z] : Array Value).size = 0 := Nat.mod_one i
  rw [h0]
  rfl

theorem append_zeros_run {P : Program} (w : World) (base : Nat) (t tn ty e : TypeId) (i : TypeInfo) (z : Value) (k kn : IntKind) (ht : P.underlying t = some (.slice e)) (htn : P.underlying tn = some (.int kn)) (hi : P.info? e = some i) (hz : i.zero = some z)
    (hsize : i.size = 1) (hby : i.bytes = 1) (hzs : z.cells = #[z]) (hz1 : z.oneCell' = true) (g n cap : Nat) (xs : List Value) (hown : w.ownsRow base e 1 (.slice (some ⟨g, 0, none⟩) n cap) n xs) (m : Nat) (h0 : 0 < m) (h63 : n + m ≤ 1000000) (hbase : base ≤ w.heap.size) :
    ∃ v' w', (Builtin.append_ #[t, tn] ty #[.slice (some ⟨g, 0, none⟩) n cap, .int k m]).run P w = .ok v' w' ∧ w'.ownsRow base e 1 v' (n + m) (xs ++ List.replicate m z) ∧ w.grownBy w' (some g) := by
  have hw : IntKind.i64.wrap (m : Int) = m := by rw [IntKind.wrap_i64]; omega
  have hneg : ¬ ((m : Int) < 0) := by omega
  have hm0 : m ≠ 0 := by omega
  have h48i : ¬ (281474976710656 < (m : Int)) := by omega
  have hzl := zeroCells_toList z hzs m
  have hsz : (Builtin.zeroCells z.cells m).size = m := by rw [← Array.length_toList, hzl, List.length_replicate]
  have hxl : xs.length = n := by have := hown.1; omega
  rcases hown.2 with ⟨hv, _⟩ | ⟨g', cap', cur, hv, hbg, hg, hnc, hcm, hcs, htake⟩
  · cases hv
  injection hv with hv _ hc
  injection hv with hv
  injection hv with hv
  subst hv
  subst hc
  by_cases hroom : n + m ≤ cap
  · have hfit : n * 1 + (List.replicate m z).length ≤ cur.size := by rw [List.length_replicate, hcs]; omega
    have hst := run_storeCells_at P g (n * 1) e (List.replicate m z) 0 cur w hg (by simpa using hfit) (fun u hu => by rw [(List.mem_replicate.1 hu).2]; exact hz1)
    simp only [Nat.add_zero, Nat.mul_one] at hst
    refine ⟨.slice (some ⟨g, 0, none⟩) (n + m) cap, w.setRow g (cur.toList.take n ++ List.replicate m z ++ cur.toList.drop (n + m)).toArray, ?_, ⟨by simp; omega, .inr ⟨g, cap, _, rfl, hbg, setRow_heap w g cur _ e _ hg, hroom, hcm, ?_, ?_⟩⟩, ⟨rfl, rfl, rfl, by simp, fun j _ hj => setRow_other w g j _ (fun e => hj (by rw [e]))⟩⟩
    · simp [Builtin.append_, run_underlying ht, run_underlying htn, sizeOf, typeInfo, zeroValue, hi, hz, asInt, asIntOf, hw, hneg, hm0, hsize, hby, h48i, hroom, Addr.add_lit, hzl, hst]
    · simp
      omega
    · rw [Nat.mul_one] at htake
      rw [htake]
      have hl2 : (xs ++ List.replicate m z).length = (n + m) * 1 := by simp; omega
      rw [← hl2]
      exact List.take_left
  · have h63' : ¬ (9223372036854775807 < ((n : Int) + (m : Int))) := by omega
    have h48' : ¬ (281474976710656 < Builtin.nextslicecap (n + m) cap) := by
      have := growslice_fits (need := n + m) (old := cap) (bytes := 1) (by omega) (by omega)
      omega
    have holds : ∀ j u, xs[j]? = some u → w.cell? ((⟨g, 0, none⟩ : Addr).add j) = some u := hown.cells (g := g) rfl
    have hfo := run_firstCells_some (P := P) w.drew 1 n ⟨g, 0, none⟩ n cap xs (by omega) (by simpa using holds)
    have hge := grownCap_ge w (n + m) cap e
    have hcm2 : grownCap w (n + m) cap e ≤ maxLen := grownCap_le_maxLen w (n + m) cap e (by unfold maxLen; omega)
    have hxs : (Builtin.zeroCells z.cells (grownCap w (n + m) cap e - (n + m))).size = grownCap w (n + m) cap e - (n + m) := by rw [size_zeroCells, hzs]; simp
    refine ⟨.slice (some ⟨w.heap.size, 0, none⟩) (n + m) (grownCap w (n + m) cap e), w.drew.alloc (.cells (xs.toArray ++ Builtin.zeroCells z.cells m ++ Builtin.zeroCells z.cells (grownCap w (n + m) cap e - (n + m))) e), ?_, ⟨by simp; omega, .inr ⟨w.heap.size, _, _, rfl, hbase, heap_alloc_new w.drew _, hge, hcm2, ?_, ?_⟩⟩, ⟨rfl, rfl, rfl, by simp, fun k hk _ => heap_alloc_old w.drew _ hk⟩⟩
    · simp [Builtin.append_, run_underlying ht, run_underlying htn, sizeOf, typeInfo, zeroValue, hi, hz, asInt, asIntOf, hw, hneg, hm0, hsize, hby, h48i, hroom, h63', h48', Question.forced, hfo, newRow, grownCap]
    · simp only [Array.size_append, List.size_toArray, hsz, hxs, hxl]
      omega
    · simp only [Array.toList_append, List.append_assoc, hzl]
      rw [← List.append_assoc]
      have hl2 : (xs ++ List.replicate m z).length = (n + m) * 1 := by simp; omega
      rw [← hl2]
      exact List.take_left

end Go.Proofs.Ythppgofpbpjglaa

namespace Go.Proofs.Ythppgofpbpjglaa
open Go.RowKit

theorem DOwn.at_ {w : World} {B : Nat} {m : MV} (h : DOwn w B m) : MAt w w.heap.size m :=
  ⟨⟨Row.of_own h.q.row, fun p hp => Row.of_own (h.q.each p hp)⟩, ⟨Row.of_own h.s0.row, fun p hp => (h.s0.each p hp).at_⟩, ⟨Row.of_own h.s1.row, fun p hp => (h.s1.each p hp).at_⟩, ⟨Row.of_own h.s2.row, fun p hp => (h.s2.each p hp).at_⟩⟩
theorem DOwn.owned {w : World} {B : Nat} {m : MV} (h : DOwn w B m) : OwnedM w m := fun i p hp => by
  have k : ∀ {v : Value} {ps : List (RV × Rt)}, RecRow w B v ps → ∀ p ∈ ps, OwnR w 0 p.1 p.2 := fun hr p hp => ⟨own_mono (hr.each p hp).n (Nat.zero_le _), (hr.each p hp).d.monoB (Nat.zero_le _)⟩
  unfold MV.sec at hp
  split at hp
  · exact k h.s0 p hp
  · split at hp
    · exact k h.s1 p hp
    · exact k h.s2 p hp
theorem cells4 {i f : Nat} (hi : i < 65536) (hf : f < 65536) : ([.int .u8 ((i : Int) / 256), .int .u8 ((i : Int) % 256), .int .u8 ((f : Int) / 256), .int .u8 ((f : Int) % 256)] : List Value) = (digs i 2 ++ digs f 2).map bc := by
  rw [digs2, digs2]
  simp only [List.cons_append, List.nil_append, List.map_cons, List.map_nil, bc, List.cons.injEq, Value.int.injEq, true_and, and_true]
  refine ⟨?_, ?_, ?_, ?_⟩ <;> simp <;> omega

theorem flB_set {i f : Nat} (_ : i < 65536) (_ : f < 65536) : ((flB i f).map bc).set 3 (.int .u8 ((f : Int) % 256 / 128 * 128 + (f : Int) % 16)) = (flB i (clear3 f)).map bc := by
  have h0 : digs 0 2 = [0, 0] := by decide +kernel
  have e1 : clear3 f / 256 = f / 256 := by unfold clear3; omega
  have e2 : ((UInt8.ofNat (clear3 f)).toNat : Int) = (f : Int) % 256 / 128 * 128 + (f : Int) % 16 := by
    simp only [UInt8.toNat_ofNat']
    unfold clear3
    omega
  unfold flB
  rw [digs2, digs2, digs2 (clear3 f), h0, e1]
  simp only [List.cons_append, List.nil_append, List.map_cons, List.map_nil, List.set_cons_succ, List.set_cons_zero]
  unfold bc
  rw [e2]
theorem i64_small {n : Nat} (h : n < 65536) : (Lit.int .i64 ((n : Nat) : Int)).wf = true := by
  have h1 : IntKind.i64.min = -9223372036854775808 := rfl
  have h2 : IntKind.i64.max = 9223372036854775807 := rfl
  simp only [Lit.wf, Bool.and_eq_true, decide_eq_true_eq]
  omega
theorem flag_bit (f n : Nat) : ((f : Int) / (n : Int) % 2 == 1) = decide (f / n % 2 = 1) := by
  have e : (f : Int) / (n : Int) % 2 = ((f / n % 2 : Nat) : Int) := by push_cast; rfl
  rw [e]
  by_cases h : f / n % 2 = 1
  · rw [h]; rfl
  · rw [decide_eq_false h, beq_eq_false_iff_ne]; omega
theorem flag_top {f : Nat} (hf : f < 65536) : ((f : Int) / 32768 == 1) = decide (f / 32768 % 2 = 1) := by
  by_cases h : f / 32768 % 2 = 1
  · rw [decide_eq_true h, beq_iff_eq]; omega
  · rw [decide_eq_false h, beq_eq_false_iff_ne]; omega

end Go.Proofs.Ythppgofpbpjglaa
