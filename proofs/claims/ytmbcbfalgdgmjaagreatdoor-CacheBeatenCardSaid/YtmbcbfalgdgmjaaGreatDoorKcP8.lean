/-
  The contract of the document's OwnFact.
-/
import Derived.Test.YtmbcbfalgdgmjaaGreatDoorKcP4
import Derived.Test.YtmbcbfalgdgmjaaGreatDoorKcP7
import Derived.Deep.CutRange
import Derived.BigRegion
import Derived.Deep.MidRow
import Derived.Test.YtmbcbfalgdgmjaaGreatDoorKcP2
import Derived.Maps.RangeWalk
namespace Go.Proofs.YtmbcbfalgdgmjaaGreatDoor
open Go.RowKit

/-- A fact of one's own. -/
structure FOwn (w : World) (B : Nat) (x : FV) : Prop where
  n : w.ownsRow B 9 1 (.slice x.A x.name.length x.c) x.name.length (x.name.map sv)
  z : w.ownsRow B 9 1 (.slice x.zA x.zone.length x.zc) x.zone.length (x.zone.map sv)
  d : OwnD w B x.d x.soa
  s : w.ownsRow B 34 5 (.slice x.sA x.sp.length x.sc) x.sp.length (x.sp.flatMap cellsD)
  e : ∀ p ∈ x.sp, OwnD w B p.1 p.2
theorem FOwn.at_ {w : World} {B : Nat} {x : FV} (h : FOwn w B x) : FAt w w.heap.size x :=
  ⟨Row.of_own h.n, ⟨Row.of_own h.s, fun p hp => (h.e p hp).at_⟩, Row.of_own h.z, h.d.at_, own_cap h.n, own_cap h.z, own_cap h.s, own_capZ h.s⟩
theorem FOwn.monoB {w : World} {B B' : Nat} {x : FV} (h : FOwn w B x) (hb : B' ≤ B) : FOwn w B' x := ⟨own_mono h.n hb, own_mono h.z hb, h.d.monoB hb, own_mono h.s hb, fun p hp => (h.e p hp).monoB hb⟩
/-- What holds of blocks from B on is kept where these are. -/
theorem OwnD.keepB {w w' : World} {B : Nat} {x : DV} {d : Dt} (h : OwnD w B x d) (hk : ∀ g, B ≤ g → g < w.heap.size → w'.heap[g]? = w.heap[g]?) : OwnD w' B x d :=
  ⟨own_keep h.b fun g e => hk g (h.b.lt g e).1 (h.b.lt g e).2, own_keep h.h fun g e => hk g (h.h.lt g e).1 (h.h.lt g e).2, own_keep h.m fun g e => hk g (h.m.lt g e).1 (h.m.lt g e).2, own_keep h.n fun g e => hk g (h.n.lt g e).1 (h.n.lt g e).2, own_keep h.t fun g e => hk g (h.t.lt g e).1 (h.t.lt g e).2⟩
theorem FOwn.keepB {w w' : World} {B : Nat} {x : FV} (h : FOwn w B x) (hk : ∀ g, B ≤ g → g < w.heap.size → w'.heap[g]? = w.heap[g]?) : FOwn w' B x :=
  ⟨own_keep h.n fun g e => hk g (h.n.lt g e).1 (h.n.lt g e).2, own_keep h.z fun g e => hk g (h.z.lt g e).1 (h.z.lt g e).2, h.d.keepB hk, own_keep h.s fun g e => hk g (h.s.lt g e).1 (h.s.lt g e).2, fun p hp => (h.e p hp).keepB hk⟩
theorem own_own_ne13 {w : World} {b1 b2 s1 s2 n1 n2 : Nat} {e1 e2 : TypeId} {v1 v2 : Value} {xs1 xs2 : List Value} (h1 : w.ownsRow b1 e1 s1 v1 n1 xs1) (h2 : w.ownsRow b2 e2 s2 v2 n2 xs2) (hne : e1 ≠ e2) : v1.ownBlock = none ∨ v1.ownBlock ≠ v2.ownBlock := by
  rcases h1.2 with ⟨rfl, _⟩ | ⟨g, cap, cur, rfl, _, hh, _⟩
  · exact .inl rfl
  · right
    rcases h2.2 with ⟨rfl, _⟩ | ⟨g', cap', cur', rfl, _, hh', _⟩
    · exact fun h => by cases h
    · intro h
      have e : g = g' := Option.some.inj h
      subst e
      rw [hh] at hh'
      injection hh' with hh'
      injection hh' with _ e2
      exact hne e2
theorem own_grownT {w w' : World} {b1 b2 s1 s2 n1 n2 : Nat} {e1 e2 : TypeId} {v1 v2 : Value} {xs1 xs2 : List Value} (h1 : w.ownsRow b1 e1 s1 v1 n1 xs1) (h2 : w.ownsRow b2 e2 s2 v2 n2 xs2) (hne : e1 ≠ e2) (hg : w.grownBy w' v2.ownBlock) : w'.ownsRow b1 e1 s1 v1 n1 xs1 :=
  own_keep h1 fun g e => hg.block g (h1.lt g e).2 (by
    rcases own_own_ne13 h1 h2 hne with h | h
    · rw [h] at e; cases e
    · rw [← e]; exact h)
theorem OwnD.grownD {w w' : World} {B b2 n2 : Nat} {x : DV} {d : Dt} {v2 : Value} {xs2 : List Value} (h : OwnD w B x d) (h2 : w.ownsRow b2 34 5 v2 n2 xs2) (hg : w.grownBy w' v2.ownBlock) : OwnD w' B x d :=
  ⟨own_grownT h.b h2 (by decide) hg, own_grownT h.h h2 (by decide) hg, own_grownT h.m h2 (by decide) hg, own_grownT h.n h2 (by decide) hg, own_grownT h.t h2 (by decide) hg⟩

theorem dats_step13 {ps : List (DV × Dt)} {k : Nat} (hk : k < ps.length) : dats (ps.take (k + 1)) = dats (ps.take k) ++ [(ps[k]).2] := by
  rw [List.take_succ_eq_append_getElem hk, dats_append]
  rfl
/-- The boxes of OwnFact. -/
structure OwF (w : World) (L : List Value) (W : World) : Prop where
  a : Whole W w.heap.size 36 L
  b : Whole W (w.heap.size + 1) 36 [.slice none 0 0, .int .i64 0, .int .i64 0, .int .i64 0, .int .i64 0, .int .i64 0, .slice none 0 0, .slice none 0 0, .slice none 0 0, .slice none 0 0, .slice none 0 0, .slice none 0 0, .slice none 0 0]
  below : Below w.heap.size w W
  size : w.heap.size + 2 ≤ W.heap.size
theorem OwF.step {w : World} {L : List Value} {W W' : World} (h : OwF w L W) (hb : Below W.heap.size W W') : OwF w L W' :=
  ⟨h.a.below hb h.a.lt, h.b.below hb h.b.lt, h.below.trans (hb.mono (by have := h.size; omega)), Nat.le_trans h.size hb.size⟩
theorem OwF.put {w : World} {L L' : List Value} {W V : World} (h : OwF w L W) (hV : Whole V w.heap.size 36 L') (hG : Grew (fun j => j = w.heap.size) W V) (hz : V.heap.size = W.heap.size) : OwF w L' V := by
  have hb : Below w.heap.size W V := Grew.below (B := w.heap.size) hG (fun j hj => by rw [hj]; exact Nat.le_refl _) (by have := h.size; omega)
  exact ⟨hV, (hG.block _ h.b.lt (by omega)).trans h.b, h.below.trans hb, by rw [hz]; exact h.size⟩
theorem OwF.grown {w : World} {L : List Value} {W V : World} {B n size : Nat} {e : TypeId} {v : Value} {xs : List Value} (h : OwF w L W) (ho : W.ownsRow B e size v n xs) (hB : w.heap.size + 2 ≤ B) (hg : W.grownBy V v.ownBlock) : OwF w L V :=
  ⟨h.a.grown hg (fun e => by have := (ho.lt _ e.symm).1; omega), h.b.grown hg (fun e => by have := (ho.lt _ e.symm).1; omega), own_below h.below (by omega) (by have := h.size; omega) ho hg, Nat.le_trans h.size hg.size⟩
theorem OwF.made (w : World) (x : FV) : OwF w (cellsF x) ((w.alloc (.cells #[.slice x.A x.name.length x.c, .int .i64 x.h.typ, .int .i64 x.h.knd, .int .i64 x.h.rank, .int .i64 x.h.got, .int .i64 x.h.ttl, .slice x.sA x.sp.length x.sc, .slice x.zA x.zone.length x.zc, .slice x.d.Ab x.soa.bytes.length x.d.cb, .slice x.d.Ah x.soa.host.length x.d.ch, .slice x.d.Am x.soa.mail.length x.d.cm, .slice x.d.An x.soa.nums.length x.d.cn, .slice x.d.At x.soa.texts.length x.d.ct] 36)).alloc (.cells #[.slice none 0 0, .int .i64 0, .int .i64 0, .int .i64 0, .int .i64 0, .int .i64 0, .slice none 0 0, .slice none 0 0, .slice none 0 0, .slice none 0 0, .slice none 0 0, .slice none 0 0, .slice none 0 0] 36)) := by
  have hz : (w.alloc (.cells #[.slice x.A x.name.length x.c, .int .i64 x.h.typ, .int .i64 x.h.knd, .int .i64 x.h.rank, .int .i64 x.h.got, .int .i64 x.h.ttl, .slice x.sA x.sp.length x.sc, .slice x.zA x.zone.length x.zc, .slice x.d.Ab x.soa.bytes.length x.d.cb, .slice x.d.Ah x.soa.host.length x.d.ch, .slice x.d.Am x.soa.mail.length x.d.cm, .slice x.d.An x.soa.nums.length x.d.cn, .slice x.d.At x.soa.texts.length x.d.ct] 36)).heap.size = w.heap.size + 1 := by simp
  refine ⟨(Whole.made w (cellsF x) _).alloc _, ?_, ((Below.refl _ _).alloc (Nat.le_refl _) _).alloc (by simp) _, by simp⟩
  have := Whole.made (w.alloc (.cells #[.slice x.A x.name.length x.c, .int .i64 x.h.typ, .int .i64 x.h.knd, .int .i64 x.h.rank, .int .i64 x.h.got, .int .i64 x.h.ttl, .slice x.sA x.sp.length x.sc, .slice x.zA x.zone.length x.zc, .slice x.d.Ab x.soa.bytes.length x.d.cb, .slice x.d.Ah x.soa.host.length x.d.ch, .slice x.d.Am x.soa.mail.length x.d.cm, .slice x.d.An x.soa.nums.length x.d.cn, .slice x.d.At x.soa.texts.length x.d.ct] 36)) [.slice none 0 0, .int .i64 0, .int .i64 0, .int .i64 0, .int .i64 0, .int .i64 0, .slice none 0 0, .slice none 0 0, .slice none 0 0, .slice none 0 0, .slice none 0 0, .slice none 0 0, .slice none 0 0] 36
  rw [hz] at this
  exact this

structure FewF (x : FV) : Prop where
  n : x.name.length ≤ 300
  z : x.zone.length ≤ 300
  s : x.sp.length ≤ 300
  d : FewD x.soa
  e : ∀ p ∈ x.sp, FewD p.2
def OwnFOut (w : World) (f : Fc) (e : Ending) (w' : World) : Prop := ∃ x' : FV, e = .returned x'.val ∧ x'.fact = f ∧ FOwn w' w.heap.size x' ∧ Below w.heap.size w w'
/-- What holds within OwnFact's loop. -/
structure OwL (w : World) (x3 : FV) (v : Value) (qs : List (DV × Dt)) (wr : World) : Prop where
  x : OwF w (cellsF x3) wr
  n : wr.ownsRow (w.heap.size + 2) 9 1 (.slice x3.A x3.name.length x3.c) x3.name.length (x3.name.map sv)
  z : wr.ownsRow (w.heap.size + 2) 9 1 (.slice x3.zA x3.zone.length x3.zc) x3.zone.length (x3.zone.map sv)
  d : OwnD wr (w.heap.size + 2) x3.d x3.soa
  s : wr.ownsRow (w.heap.size + 2) 34 5 v qs.length (qs.flatMap cellsD)
  e : ∀ p ∈ qs, OwnD wr (w.heap.size + 2) p.1 p.2
theorem OwL.step {w : World} {x3 : FV} {v : Value} {qs : List (DV × Dt)} {W W' : World} (h : OwL w x3 v qs W) (hb : Below W.heap.size W W') : OwL w x3 v qs W' :=
  have k : ∀ g, w.heap.size + 2 ≤ g → g < W.heap.size → W'.heap[g]? = W.heap[g]? := fun g _ hg => hb.block g hg
  ⟨h.x.step hb, own_keep h.n fun g e => k g (h.n.lt g e).1 (h.n.lt g e).2, own_keep h.z fun g e => k g (h.z.lt g e).1 (h.z.lt g e).2, h.d.keepB k, own_keep h.s fun g e => k g (h.s.lt g e).1 (h.s.lt g e).2, fun p hp => (h.e p hp).keepB k⟩
theorem OwL.snoc {w : World} {x3 : FV} {v v' : Value} {qs : List (DV × Dt)} {W W' : World} (h : OwL w x3 v qs W) {y : DV} {d : Dt} (hy : OwnD W (w.heap.size + 2) y d)
    (ho : W'.ownsRow (w.heap.size + 2) 34 5 v' (qs.length + 1) (qs.flatMap cellsD ++ cellsD (y, d))) (hg : W.grownBy W' v.ownBlock) : OwL w x3 v' (qs ++ [(y, d)]) W' := by
  refine ⟨h.x.grown h.s (Nat.le_refl _) hg, own_grownT h.n h.s (by decide) hg, own_grownT h.z h.s (by decide) hg, h.d.grownD h.s hg, by rw [List.length_append, List.flatMap_append]; simpa using ho, fun p hp => ?_⟩
  rcases List.mem_append.1 hp with hp | hp
  · exact (h.e p hp).grownD h.s hg
  · rw [List.mem_singleton.1 hp]
    exact hy.grownD h.s hg
def OwRel (w : World) (x x3 : FV) (v i : Value) (wr : World) : Prop := ∃ (j : Nat) (qs : List (DV × Dt)), j ≤ x.sp.length ∧ i = .int .i64 j ∧ dats qs = dats (x.sp.take j) ∧ qs.length = j ∧ OwL w x3 v qs wr

theorem fact_size : (Tryz.prog.info? 36).map (·.size) = some 13 := by kernel_rfl
theorem data_size : (Tryz.prog.info? 34).map (·.size) = some 5 := by kernel_rfl
theorem strs_size : (Tryz.prog.info? 29).map (·.size) = some 1 := by kernel_rfl
theorem dats_size : (Tryz.prog.info? 30).map (·.size) = some 1 := by kernel_rfl

set_option maxRecDepth 20000 in
set_option maxHeartbeats 8000000 in
theorem ownfact_any (w : World) (x : FV) (hx : FAt w w.heap.size x) (hf : FewF x) : Calls Tryz.prog 12 #[x.val] w (OwnFOut w x.fact) := by
  obtain ⟨t0, ht0, hx0, hx1, hx2⟩ := info_parts str_info
  obtain ⟨i0, hi0, hz0, hz1, hz2⟩ := info_parts data_info
  have HX := Lib.hid (fun W' (hb : Below w.heap.size w W') => hx.below hb)
  have HF := Lib.hid hf
  have HB := Lib.hid (OwF.made w x)
  have hn1 := hf.n
  have hn2 := hf.z
  have hn3 := hf.s
  obtain ⟨W, hW⟩ : ∃ W, W = (w.alloc (.cells #[.slice x.A x.name.length x.c, .int .i64 x.h.typ, .int .i64 x.h.knd, .int .i64 x.h.rank, .int .i64 x.h.got, .int .i64 x.h.ttl, .slice x.sA x.sp.length x.sc, .slice x.zA x.zone.length x.zc, .slice x.d.Ab x.soa.bytes.length x.d.cb, .slice x.d.Ah x.soa.host.length x.d.ch, .slice x.d.Am x.soa.mail.length x.d.cm, .slice x.d.An x.soa.nums.length x.d.cn, .slice x.d.At x.soa.texts.length x.d.ct] 36)).alloc (.cells #[.slice none 0 0, .int .i64 0, .int .i64 0, .int .i64 0, .int .i64 0, .int .i64 0, .slice none 0 0, .slice none 0 0, .slice none 0 0, .slice none 0 0, .slice none 0 0, .slice none 0 0, .slice none 0 0] 36) := ⟨_, rfl⟩
  rw [← hW] at HB
  clear hx hf
  go_enter Tryz.func12, Tryz.ntmps12
  go_upto_region 1 with fail
  rw [← hW]
  clear hW
  have HL1 := Lib.hid (own_mono (own_lit W 9 1) HB.out.size)
  have HB1 := Lib.hid (HB.out.step ((Below.refl W.heap.size W).alloc (Nat.le_refl _) (.cells #[] 9)))
  have p0 : (W.alloc (.cells #[] 9)).cell? ⟨w.heap.size, 0, none⟩ = some (.slice x.A x.name.length x.c) := HB1.out.a.cell 0
  go_wp2_with (first
    | (at_builtin
       refine wpList_append_row rfl (.tmp 5) (.tmp 7) _ rfl (w.heap.size + 2) 9 t0 _ 1 16 Tryz.underlying29 ht0 hx0 hx1 hx2 rfl (by omega) (.slice (some ⟨W.heap.size, 0, none⟩) 0 0) 0 [] rfl
         HL1.out x.A x.name.length x.c _ (x.name.map sv) rfl (by rw [List.length_map, Nat.mul_one]) (HX.out _ HB1.out.below).n (sv_one _) (by unfold maxLen; omega) (by omega) HB1.out.size ?_
       intro v2 w2 hown hg
       simp only [Nat.zero_add, List.nil_append] at hown
       have HB2 := Lib.hid (HB1.out.grown HL1.out (Nat.le_refl _) hg)
       obtain ⟨An, cn, rfl, _, _⟩ := own_form hown
       have HN2 := Lib.hid hown
       clear hown hg)
    | (refine wpList_store_one rfl 29 (.tmp 9) (.tmp 8) rfl w.heap.size 0 (.slice An x.name.length cn) rfl rfl rfl strs_size 36 _ HB2.out.a _ rfl ?_
       intro w3 hV hG hZ
       have HB3 := Lib.hid (HB2.out.put hV hG hZ)
       have HN3 := Lib.hid (own_keep HN2.out fun g e => hG.block g (HN2.out.lt g e).2 (by have := (HN2.out.lt g e).1; omega))
       clear hV hG hZ
       have HL4 := Lib.hid (own_mono (own_lit w3 9 1) HB3.out.size)
       have HB4 := Lib.hid (HB3.out.step ((Below.refl w3.heap.size w3).alloc (Nat.le_refl _) (.cells #[] 9)))
       have p7 : (w3.alloc (.cells #[] 9)).cell? ⟨w.heap.size, 7, none⟩ = some (.slice x.zA x.zone.length x.zc) := HB4.out.a.cell 7
       have HN4 := Lib.hid (own_keep (w' := w3.alloc (.cells #[] 9)) HN3.out fun g e => Below.heap_alloc w3 _ g (HN3.out.lt g e).2)
       have HO4 := Lib.hid (own_lit w3 9 1))
    | (at_builtin
       refine wpList_append_row rfl (.tmp 10) (.tmp 12) _ rfl w3.heap.size 9 t0 _ 1 16 Tryz.underlying29 ht0 hx0 hx1 hx2 rfl (by omega) (.slice (some ⟨w3.heap.size, 0, none⟩) 0 0) 0 [] rfl
         HO4.out x.zA x.zone.length x.zc _ (x.zone.map sv) rfl (by rw [List.length_map, Nat.mul_one]) (HX.out _ HB4.out.below).z (sv_one _) (by unfold maxLen; omega) (by omega) (by simp) ?_
       intro v5 w5 hown hg
       simp only [Nat.zero_add, List.nil_append] at hown
       have HB5 := Lib.hid (HB4.out.grown HL4.out (Nat.le_refl _) hg)
       have HN5 := Lib.hid (own_keep HN4.out fun g e => hg.block g (HN4.out.lt g e).2 (fun h => by
         have h1 := (HN3.out.lt g e).2
         have h2 := (HO4.out.lt g h.symm).1
         omega))
       obtain ⟨Az, cz, rfl, _, _⟩ := own_form hown
       have HZ5 := Lib.hid (own_mono hown HB3.out.size)
       clear hown hg)
    | (refine wpList_store_one rfl 29 (.tmp 14) (.tmp 13) rfl w.heap.size 7 (.slice Az x.zone.length cz) rfl rfl rfl strs_size 36 _ HB5.out.a _ rfl ?_
       intro w6 hV hG hZ
       have HB6 := Lib.hid (HB5.out.put hV hG hZ)
       have HN6 := Lib.hid (own_keep HN5.out fun g e => hG.block g (HN5.out.lt g e).2 (by have := (HN5.out.lt g e).1; omega))
       have HZ6 := Lib.hid (own_keep HZ5.out fun g e => hG.block g (HZ5.out.lt g e).2 (by have := (HZ5.out.lt g e).1; omega))
       clear hV hG hZ HB5 HB4 HB3 HB2 HN5 HN4 HN3 HN2 HZ5 HL1 HL4 HO4
       have p8 : w6.cell? ⟨w.heap.size, 8, none⟩ = some (.slice x.d.Ab x.soa.bytes.length x.d.cb) := HB6.out.a.cell 8
       have p9 : w6.cell? ⟨w.heap.size, 9, none⟩ = some (.slice x.d.Ah x.soa.host.length x.d.ch) := HB6.out.a.cell 9
       have p10 : w6.cell? ⟨w.heap.size, 10, none⟩ = some (.slice x.d.Am x.soa.mail.length x.d.cm) := HB6.out.a.cell 10
       have p11 : w6.cell? ⟨w.heap.size, 11, none⟩ = some (.slice x.d.An x.soa.nums.length x.d.cn) := HB6.out.a.cell 11
       have p12 : w6.cell? ⟨w.heap.size, 12, none⟩ = some (.slice x.d.At x.soa.texts.length x.d.ct) := HB6.out.a.cell 12))
  refine (ownData_few x.d x.soa w6 ((HX.out _ HB6.out.below).d.mono HB6.out.below.size) HF.out.d).mono ?_
  rintro e w7 ⟨yd, rfl, hyd, _, _, hb7⟩
  have HB7 := Lib.hid (HB6.out.step hb7)
  have HN7 := Lib.hid (own_keep HN6.out fun g e => hb7.block g (HN6.out.lt g e).2)
  have HZ7 := Lib.hid (own_keep HZ6.out fun g e => hb7.block g (HZ6.out.lt g e).2)
  have HD7 := Lib.hid (hyd.monoB HB6.out.size)
  clear hyd hb7 p8 p9 p10 p11 p12 HB6 HN6 HZ6 HB1 HB p0 p7
  go_wp2_with (
    refine wpList_store_at rfl 34 (.tmp 18) (.tmp 17) rfl w.heap.size 8 (cellsD (yd, x.soa)) rfl rfl 36 _ HB7.out.a (Nat.le_refl 13) data_size (fun u hu => cellsD_one [(yd, x.soa)] u (by simpa using hu)) ?_
    intro w8 hV hG hZ
    have HB8 := Lib.hid (show OwF w (cellsF ({ x with A := An, c := cn, zA := Az, zc := cz, d := yd } : FV)) w8 from HB7.out.put hV hG hZ)
    have HL8 := Lib.hid (show OwL w ({ x with A := An, c := cn, zA := Az, zc := cz, d := yd } : FV) (.slice none 0 0) [] w8 from by
      have k : ∀ g, w.heap.size + 2 ≤ g → g < w7.heap.size → w8.heap[g]? = w7.heap[g]? := fun g h1 h2 => hG.block g h2 (by omega)
      exact ⟨HB8.out, own_keep HN7.out fun g e => k g (HN7.out.lt g e).1 (HN7.out.lt g e).2, own_keep HZ7.out fun g e => k g (HZ7.out.lt g e).1 (HZ7.out.lt g e).2, HD7.out.keepB k, World.ownsRow_nil _ _ _ _, fun _ h => absurd h (List.not_mem_nil)⟩)
    clear hV hG hZ)
  clear HB7 HN7 HZ7 HD7 HB8
  go_loopw [3, 4] (OwRel w x ({ x with A := An, c := cn, zA := Az, zc := cz, d := yd } : FV)) (fun _ i _ => x.sp.length - (intOf i).toNat)
  case atStart => exact ⟨0, [], Nat.zero_le _, rfl, rfl, rfl, HL8.out⟩
  case round =>
  obtain ⟨j, qs, hj, rfl, hq, hqj, hs⟩ := hrel
  have HQ := Lib.hid hq
  have HQJ := Lib.hid hqj
  have HS := Lib.hid hs
  obtain ⟨A1, c1, rfl, _, _⟩ := own_form hs.s
  have hql : qs.length ≤ x.sp.length := by omega
  have p6 : wr.cell? ⟨w.heap.size, 6, none⟩ = some (.slice x.sA x.sp.length x.sc) := hs.x.a.cell 6
  clear hq hqj hs HL8
  by_cases hlt : j < x.sp.length
  · obtain ⟨b, off, hA, hbH, hda, r0, r1, r2, r3, r4⟩ := (HX.out _ HS.out.x.below).s.at_ hlt
    have hfe := HF.out.e _ (List.getElem_mem hlt)
    have HDS := Lib.hid (dats_step13 hlt)
    have p6' : wr.cell? ⟨w.heap.size, 6, none⟩ = some (.slice (some ⟨b, off, none⟩) x.sp.length x.sc) := p6.trans (by rw [hA])
    revert hda r0 r1 r2 r3 r4 hfe HDS
    generalize x.sp[j] = p
    obtain ⟨y, d⟩ := p
    intro hda r0 r1 r2 r3 r4 hfe HDS
    dsimp only at hda r0 r1 r2 r3 r4 hfe HDS
    have HDA := Lib.hid (hda.mono HS.out.x.below.size)
    have HFE := Lib.hid hfe
    clear p6 hA hda hfe
    go_wp2_with fail
    refine (ownData_few y d wr HDA.out HFE.out).mono ?_
    rintro e w9 ⟨y9, rfl, hy9, _, _, hb9⟩
    have HS9 := Lib.hid (HS.out.step hb9)
    have HS10 := Lib.hid (HS9.out.step ((Below.refl w9.heap.size w9).alloc (Nat.le_refl _) (.cells (cellsD (y9, d)).toArray 34)))
    have HY10 := Lib.hid ((hy9.monoB HS.out.x.size).keepB (w' := w9.alloc (.cells (cellsD (y9, d)).toArray 34)) fun g _ hg => Below.heap_alloc w9 _ g hg)
    have HR10 := Lib.hid (Row.made w9 (cellsD (y9, d)).toArray 34)
    clear hy9 hb9 p6' r0 r1 r2 r3 r4
    go_wp2_with (
      at_builtin
      refine wpList_append_row rfl (.tmp 26) (.tmp 33) _ rfl (w.heap.size + 2) 34 i0 _ 5 120 Tryz.underlying30 hi0 hz0 hz1 hz2 rfl (by omega) (.slice A1 qs.length c1) qs.length _ rfl HS10.out.s
        (some ⟨w9.heap.size, 0, none⟩) 1 1 (w9.heap.size + 1) (cellsD (y9, d)) rfl rfl HR10.out (fun u hu => cellsD_one [(y9, d)] u (by simpa using hu)) (by unfold maxLen; omega) (by omega) HS10.out.x.size ?_
      intro v7 w10 hown hg
      have HS11 := Lib.hid (HS10.out.snoc HY10.out hown hg)
      clear hown hg)
    exact ⟨⟨j + 1, qs ++ [(y9, d)], by omega, by go_num, by rw [HDS.out, dats_append, HQ.out]; rfl, by simp [HQJ.out], HS11.out⟩, by simp [intOf]; omega⟩
  · obtain rfl : j = x.sp.length := by omega
    have HQ' := Lib.hid (show dats qs = dats x.sp by have h := HQ.out; rwa [List.take_length] at h)
    go_wp2_with (first
      | (refine wpList_store_one rfl 30 (.tmp 36) (.tmp 35) rfl w.heap.size 6 (.slice A1 qs.length c1) rfl rfl rfl dats_size 36 _ HS.out.x.a _ rfl ?_
         intro w11 hV hG hZ
         have HB11 := Lib.hid (show OwF w (cellsF ({ x with A := An, c := cn, zA := Az, zc := cz, d := yd, sA := A1, sc := c1, sp := qs } : FV)) w11 from HS.out.x.put hV hG hZ)
         have HO11 := Lib.hid (show FOwn w11 (w.heap.size + 2) ({ x with A := An, c := cn, zA := Az, zc := cz, d := yd, sA := A1, sc := c1, sp := qs } : FV) from by
           have k : ∀ g, w.heap.size + 2 ≤ g → g < wr.heap.size → w11.heap[g]? = wr.heap[g]? := fun g h1 h2 => hG.block g h2 (by omega)
           exact ⟨own_keep HS.out.n fun g e => k g (HS.out.n.lt g e).1 (HS.out.n.lt g e).2, own_keep HS.out.z fun g e => k g (HS.out.z.lt g e).1 (HS.out.z.lt g e).2, HS.out.d.keepB k, own_keep HS.out.s fun g e => k g (HS.out.s.lt g e).1 (HS.out.s.lt g e).2, fun p hp => (HS.out.e p hp).keepB k⟩)
         clear hV hG hZ
         have u0 : w11.cell? ⟨w.heap.size, 0, none⟩ = some (.slice An x.name.length cn) := HB11.out.a.cell 0
         have u1 : w11.cell? ⟨w.heap.size, 1, none⟩ = some (.int .i64 x.h.typ) := HB11.out.a.cell 1
         have u2 : w11.cell? ⟨w.heap.size, 2, none⟩ = some (.int .i64 x.h.knd) := HB11.out.a.cell 2
         have u3 : w11.cell? ⟨w.heap.size, 3, none⟩ = some (.int .i64 x.h.rank) := HB11.out.a.cell 3
         have u4 : w11.cell? ⟨w.heap.size, 4, none⟩ = some (.int .i64 x.h.got) := HB11.out.a.cell 4
         have u5 : w11.cell? ⟨w.heap.size, 5, none⟩ = some (.int .i64 x.h.ttl) := HB11.out.a.cell 5
         have u6 : w11.cell? ⟨w.heap.size, 6, none⟩ = some (.slice A1 qs.length c1) := HB11.out.a.cell 6
         have u7 : w11.cell? ⟨w.heap.size, 7, none⟩ = some (.slice Az x.zone.length cz) := HB11.out.a.cell 7
         have u8 : w11.cell? ⟨w.heap.size, 8, none⟩ = some (.slice yd.Ab x.soa.bytes.length yd.cb) := HB11.out.a.cell 8
         have u9 : w11.cell? ⟨w.heap.size, 9, none⟩ = some (.slice yd.Ah x.soa.host.length yd.ch) := HB11.out.a.cell 9
         have u10 : w11.cell? ⟨w.heap.size, 10, none⟩ = some (.slice yd.Am x.soa.mail.length yd.cm) := HB11.out.a.cell 10
         have u11 : w11.cell? ⟨w.heap.size, 11, none⟩ = some (.slice yd.An x.soa.nums.length yd.cn) := HB11.out.a.cell 11
         have u12 : w11.cell? ⟨w.heap.size, 12, none⟩ = some (.slice yd.At x.soa.texts.length yd.ct) := HB11.out.a.cell 12)
      | (refine wpList_store_at rfl 36 (.tmp 2) (.tmp 37) rfl (w.heap.size + 1) 0 (cellsF ({ x with A := An, c := cn, zA := Az, zc := cz, d := yd, sA := A1, sc := c1, sp := qs } : FV)) rfl rfl 36 _ HB11.out.b (Nat.le_refl 13) fact_size (fun u hu => cellsF_one [({ x with A := An, c := cn, zA := Az, zc := cz, d := yd, sA := A1, sc := c1, sp := qs } : FV)] u (by simpa using hu)) ?_
         intro w12 hV hG hZ
         have HV12 := Lib.hid (show Whole w12 (w.heap.size + 1) 36 (cellsF ({ x with A := An, c := cn, zA := Az, zc := cz, d := yd, sA := A1, sc := c1, sp := qs } : FV)) from hV)
         have HB12 := Lib.hid (show Below w.heap.size w w12 from HB11.out.below.trans ((Grew.below (B := w.heap.size + 1) hG (fun j hj => by rw [hj]; exact Nat.le_refl _) (by have := HB11.out.size; omega)).mono (Nat.le_succ _)))
         have HO12 := Lib.hid (FOwn.monoB (B' := w.heap.size) (HO11.out.keepB fun g h1 h2 => hG.block g h2 (by omega)) (by omega))
         clear hV hG hZ
         have v0 : w12.cell? ⟨w.heap.size + 1, 0, none⟩ = some (.slice An x.name.length cn) := HV12.out.cell 0
         have v1 : w12.cell? ⟨w.heap.size + 1, 1, none⟩ = some (.int .i64 x.h.typ) := HV12.out.cell 1
         have v2 : w12.cell? ⟨w.heap.size + 1, 2, none⟩ = some (.int .i64 x.h.knd) := HV12.out.cell 2
         have v3 : w12.cell? ⟨w.heap.size + 1, 3, none⟩ = some (.int .i64 x.h.rank) := HV12.out.cell 3
         have v4 : w12.cell? ⟨w.heap.size + 1, 4, none⟩ = some (.int .i64 x.h.got) := HV12.out.cell 4
         have v5 : w12.cell? ⟨w.heap.size + 1, 5, none⟩ = some (.int .i64 x.h.ttl) := HV12.out.cell 5
         have v6 : w12.cell? ⟨w.heap.size + 1, 6, none⟩ = some (.slice A1 qs.length c1) := HV12.out.cell 6
         have v7 : w12.cell? ⟨w.heap.size + 1, 7, none⟩ = some (.slice Az x.zone.length cz) := HV12.out.cell 7
         have v8 : w12.cell? ⟨w.heap.size + 1, 8, none⟩ = some (.slice yd.Ab x.soa.bytes.length yd.cb) := HV12.out.cell 8
         have v9 : w12.cell? ⟨w.heap.size + 1, 9, none⟩ = some (.slice yd.Ah x.soa.host.length yd.ch) := HV12.out.cell 9
         have v10 : w12.cell? ⟨w.heap.size + 1, 10, none⟩ = some (.slice yd.Am x.soa.mail.length yd.cm) := HV12.out.cell 10
         have v11 : w12.cell? ⟨w.heap.size + 1, 11, none⟩ = some (.slice yd.An x.soa.nums.length yd.cn) := HV12.out.cell 11
         have v12 : w12.cell? ⟨w.heap.size + 1, 12, none⟩ = some (.slice yd.At x.soa.texts.length yd.ct) := HV12.out.cell 12))
    refine ⟨rfl, FV.val ({ x with A := An, c := cn, zA := Az, zc := cz, d := yd, sA := A1, sc := c1, sp := qs } : FV), ?_, ({ x with A := An, c := cn, zA := Az, zc := cz, d := yd, sA := A1, sc := c1, sp := qs } : FV), rfl, ?_, HO12.out, HB12.out⟩
    · simp [results, Tryz.results12, go_sem, v0, v1, v2, v3, v4, v5, v6, v7, v8, v9, v10, v11, v12]
    · show (⟨x.name, x.h, dats qs, x.zone, x.soa⟩ : Fc) = ⟨x.name, x.h, dats x.sp, x.zone, x.soa⟩
      rw [HQ'.out]

end Go.Proofs.YtmbcbfalgdgmjaaGreatDoor

namespace Go.Proofs.YtmbcbfalgdgmjaaGreatDoor
open Go.RowKit

theorem enter_dat (args : Array Value) (w : World) : (callFunc 53 args).run Tryz.prog w = .ok (.enter 53 args) w := run_enter Tryz.func53 (by kernel_rfl) rfl args w
set_option maxHeartbeats 400000 in
theorem fresh_data (A : Option Addr) (c H : Nat) (ps : List (DV × Dt)) (w : World) (hA : Row w H A (ps.flatMap cellsD)) (hm : ps.length ≤ 1000000) :
    Calls Tryz.prog 53 #[.slice A ps.length c] w (fun e w' => ∃ v, e = .returned v ∧ w'.ownsRow w.heap.size 34 5 v ps.length (ps.flatMap cellsD) ∧ Below w.heap.size w w') := by
  obtain ⟨i0, hi0, hz0, hz1, hz2⟩ := info_parts data_info
  have HA := Lib.hid hA
  have HL := Lib.hid (length_flat cellsD_len ps)
  have H1 := Lib.hid (cellsD_one ps)
  clear hA
  generalize ps.flatMap cellsD = xs at HA HL H1 ⊢
  generalize ps.length = m at HL hm ⊢
  go_enter Tryz.func53, Tryz.ntmps53
  go_wp2_with (
    at_builtin
    refine wpList_append_row rfl (.const (.slice none 0 0)) (.tmp 3) _ rfl w.heap.size 34 i0 _ 5 120 Tryz.underlying30 hi0 hz0 hz1 hz2 rfl (by omega) (.slice none 0 0) 0 [] rfl (World.ownsRow_nil _ _ _ _)
      A m c H xs rfl (by rw [HL.out]) HA.out H1.out (by unfold maxLen; omega) (by omega) (Nat.le_refl _) ?_
    intro v2 w2 hown2 hg2
    simp only [Nat.zero_add, List.nil_append] at hown2
    have HO2 := Lib.hid hown2
    have HB2 := Lib.hid (own_below (Below.refl w.heap.size w) (Nat.le_refl _) (Nat.le_refl _) (World.ownsRow_nil w w.heap.size 34 5) hg2)
    clear hown2 hg2)
  go_ret
  exact ⟨_, rfl, HO2.out, HB2.out⟩

theorem splice_flat {α : Type} {f : α → List Value} {m : Nat} (hf : ∀ a, (f a).length = m) : ∀ (ps : List α) (j : Nat) (q : α), j < ps.length → splice (ps.flatMap f) (j * m) (f q) = (ps.set j q).flatMap f
  | [], _, _, h => absurd h (Nat.not_lt_zero _)
  | p :: ps, 0, q, _ => by
    unfold splice
    rw [Nat.zero_mul, List.take_zero, Nat.zero_add, hf q, List.flatMap_cons, ← hf p, List.drop_left, List.set_cons_zero, List.flatMap_cons]
    rfl
  | p :: ps, j + 1, q, h => by
    have ih := splice_flat hf ps j q (by simpa using h)
    unfold splice at ih ⊢
    have e : (j + 1) * m = (f p).length + j * m := by rw [hf p, Nat.succ_mul, Nat.add_comm]
    rw [e, List.flatMap_cons, Nat.add_assoc, List.take_length_add_append, List.drop_length_add_append, List.append_assoc, List.set_cons_succ, List.flatMap_cons, ← ih]
theorem wp_store_own {P : Program} {w : World} {op : Oper} {a : Act} {K : Act → World → Prop} {Q : Exit → Act → World → Prop} (ty : TypeId) (x y : Operand) (ho : op.op = .store ty x y)
    (b o : Nat) (cells : List Value) (hx : a.eval x = .pointer (some ⟨b, o, none⟩)) (hy : a.eval y = .agg cells.toArray) (base : Nat) (e : TypeId) (size n c : Nat) (L : List Value) (hw : w.ownsRow base e size (.slice (some ⟨b, 0, none⟩) n c) n L) (hfit : o + cells.length ≤ L.length)
    (hi : (P.info? ty).map (·.size) = some cells.length) (h1 : ∀ v ∈ cells, v.oneCell' = true)
    (h : ∀ V, V.ownsRow base e size (.slice (some ⟨b, 0, none⟩) n c) n (splice L o cells) → Grew (fun j => j = b) w V → V.heap.size = w.heap.size → K (a.put op.dst undef) V) : Oper.wp P op a w K Q :=
  wp_store_mid ty x y ho b o cells.toArray hx hy (by simpa using own_there hw hfit) (by simpa using hi) (all_oneCell_toArray h1) (h _ (own_setCells cells o hw hfit) (grew_setCells cells o (Grew.refl _ _) (.inl rfl)) (size_setCells _ _ _))
theorem wp_store_at {P : Program} {w : World} {op : Oper} {a : Act} {K : Act → World → Prop} {Q : Exit → Act → World → Prop} (ty : TypeId) (x y : Operand) (ho : op.op = .store ty x y)
    (b o : Nat) (cells : List Value) (hx : a.eval x = .pointer (some ⟨b, o, none⟩)) (hy : a.eval y = .agg cells.toArray) (t : TypeId) (L : List Value) (hw : Whole w b t L) (hfit : o + cells.length ≤ L.length)
    (hi : (P.info? ty).map (·.size) = some cells.length) (h1 : ∀ v ∈ cells, v.oneCell' = true)
    (h : ∀ V, Whole V b t (splice L o cells) → Grew (fun j => j = b) w V → V.heap.size = w.heap.size → K (a.put op.dst undef) V) : Oper.wp P op a w K Q :=
  wp_store_mid ty x y ho b o cells.toArray hx hy (by simpa using hw.there hfit) (by simpa using hi) (all_oneCell_toArray h1)
    (h _ (hw.setCells cells o hfit) (grew_setCells cells o (Grew.refl _ _) (.inl rfl)) (size_setCells _ _ _))

/-- What clone.Fact has made: its box, the two names. -/
structure ClA (w : World) (x1 : FV) (W : World) : Prop where
  x : OwF w (cellsF x1) W
  n : W.ownsRow (w.heap.size + 2) 9 1 (.slice x1.A x1.name.length x1.c) x1.name.length (x1.name.map sv)
  z : W.ownsRow (w.heap.size + 2) 9 1 (.slice x1.zA x1.zone.length x1.zc) x1.zone.length (x1.zone.map sv)
theorem ClA.step {w W W' : World} {x1 : FV} (h : ClA w x1 W) (hb : Below W.heap.size W W') : ClA w x1 W' :=
  ⟨h.x.step hb, own_keep h.n fun g e => hb.block g (h.n.lt g e).2, own_keep h.z fun g e => hb.block g (h.z.lt g e).2⟩
theorem ClA.put {w W V : World} {x1 x2 : FV} (h : ClA w x1 W) (hV : Whole V w.heap.size 36 (cellsF x2)) (hG : Grew (fun j => j = w.heap.size) W V) (hz : V.heap.size = W.heap.size) (e1 : x2.A = x1.A := by rfl) (e2 : x2.c = x1.c := by rfl) (e3 : x2.name = x1.name := by rfl) (e4 : x2.zA = x1.zA := by rfl) (e5 : x2.zc = x1.zc := by rfl) (e6 : x2.zone = x1.zone := by rfl) : ClA w x2 V := by
  have k : ∀ g, w.heap.size + 2 ≤ g → g < W.heap.size → V.heap[g]? = W.heap[g]? := fun g h1 h2 => hG.block g h2 (by omega)
  refine ⟨h.x.put hV hG hz, ?_, ?_⟩
  · rw [e1, e2, e3]; exact own_keep h.n fun g e => k g (h.n.lt g e).1 (h.n.lt g e).2
  · rw [e4, e5, e6]; exact own_keep h.z fun g e => k g (h.z.lt g e).1 (h.z.lt g e).2
/-- .. its data too; qs: those of its set that are its own. -/
structure ClL (w : World) (x1 : FV) (qs : List (DV × Dt)) (W : World) : Prop where
  a : ClA w x1 W
  d : OwnD W (w.heap.size + 2) x1.d x1.soa
  s : W.ownsRow (w.heap.size + 2) 34 5 (.slice x1.sA x1.sp.length x1.sc) x1.sp.length ((qs ++ x1.sp.drop qs.length).flatMap cellsD)
  e : ∀ p ∈ qs, OwnD W (w.heap.size + 2) p.1 p.2
theorem ClL.step {w W W' : World} {x1 : FV} {qs : List (DV × Dt)} (h : ClL w x1 qs W) (hb : Below W.heap.size W W') : ClL w x1 qs W' :=
  have k : ∀ g, w.heap.size + 2 ≤ g → g < W.heap.size → W'.heap[g]? = W.heap[g]? := fun g _ hg => hb.block g hg
  ⟨h.a.step hb, h.d.keepB k, own_keep h.s fun g e => hb.block g (h.s.lt g e).2, fun p hp => (h.e p hp).keepB k⟩
/-- One more is stored in its place. -/
theorem ClL.put {w W V : World} {x1 : FV} {qs : List (DV × Dt)} {g : Nat} (h : ClL w x1 qs W) (hg : x1.sA = some ⟨g, 0, none⟩) {q : DV × Dt} (hq : OwnD W (w.heap.size + 2) q.1 q.2) (hj : qs.length < x1.sp.length)
    (hV : V.ownsRow (w.heap.size + 2) 34 5 (.slice (some ⟨g, 0, none⟩) x1.sp.length x1.sc) x1.sp.length (splice ((qs ++ x1.sp.drop qs.length).flatMap cellsD) (qs.length * 5) (cellsD q))) (hG : Grew (fun j => j = g) W V) (hz : V.heap.size = W.heap.size) : ClL w x1 (qs ++ [q]) V := by
  have hs := h.s
  rw [hg] at hs
  have gl := hs.lt g rfl
  have kd : ∀ {y : DV} {d : Dt}, OwnD W (w.heap.size + 2) y d → OwnD V (w.heap.size + 2) y d := fun ho => by
    have kk : ∀ {e : TypeId} {s m : Nat} {u : Value} {ys : List Value}, W.ownsRow (w.heap.size + 2) e s u m ys → e ≠ 34 → V.ownsRow (w.heap.size + 2) e s u m ys := fun ho hne =>
      own_keep ho fun j hj => hG.block j (ho.lt j hj).2 fun e => by subst e; exact own_not_own hs ho (Ne.symm hne) hj rfl
    exact ⟨kk ho.b (by decide), kk ho.h (by decide), kk ho.m (by decide), kk ho.n (by decide), kk ho.t (by decide)⟩
  have ks : ∀ {e : TypeId} {s m : Nat} {u : Value} {ys : List Value}, W.ownsRow (w.heap.size + 2) e s u m ys → e ≠ 34 → V.ownsRow (w.heap.size + 2) e s u m ys := fun ho hne =>
    own_keep ho fun j hj => hG.block j (ho.lt j hj).2 fun e => by subst e; exact own_not_own hs ho (Ne.symm hne) hj rfl
  have hx := h.a.x
  refine ⟨⟨⟨(hG.block _ hx.a.lt (by omega)).trans hx.a, (hG.block _ hx.b.lt (by omega)).trans hx.b, hx.below.trans (Grew.below (B := w.heap.size) hG (fun j hj => by omega) (by have := hx.size; omega)), by rw [hz]; exact hx.size⟩, ks h.a.n (by decide), ks h.a.z (by decide)⟩, kd h.d, ?_, fun p hp => ?_⟩
  · rw [splice_flat cellsD_len _ _ _ (by simp; omega)] at hV
    rw [hg, List.length_append, List.length_singleton, List.append_assoc, List.singleton_append]
    rw [List.set_append_right _ _ (Nat.le_refl _), Nat.sub_self, List.drop_eq_getElem_cons hj, List.set_cons_zero] at hV
    exact hV
  · rcases List.mem_append.1 hp with hp | hp
    · exact kd (h.e p hp)
    · rw [List.mem_singleton.1 hp]; exact kd hq
def Cl1 (w : World) (x : FV) (W : World) : Prop := ∃ An cn Az cz, ClA w ({ x with A := An, c := cn, zA := Az, zc := cz } : FV) W
def Cl2 (w : World) (x : FV) (W : World) : Prop := ∃ An cn Az cz A6 c6 yd, ClL w ({ x with A := An, c := cn, zA := Az, zc := cz, d := yd, sA := A6, sc := c6 } : FV) [] W
def ClRel (w : World) (x : FV) (x1 : FV) (i : Value) (W : World) : Prop := ∃ qs : List (DV × Dt), qs.length ≤ x.sp.length ∧ i = .int .i64 qs.length ∧ dats qs = dats (x.sp.take qs.length) ∧ ClL w x1 qs W

set_option maxRecDepth 20000 in
set_option maxHeartbeats 8000000 in
theorem clone_any (w : World) (x : FV) (hx : FAt w w.heap.size x) (hf : FewF x) : Calls Tryz.prog 27 #[x.val] w (OwnFOut w x.fact) := by
  have HX := Lib.hid (fun W' (hb : Below w.heap.size w W') => hx.below hb)
  have HF := Lib.hid hf
  have HB := Lib.hid (OwF.made w x)
  have hn1 := hf.n
  have hn2 := hf.z
  have hn3 := hf.s
  have hsl : x.sp.length ≤ x.sc := hx.ls
  have hsk : x.sc ≤ maxLen := hx.ks
  have HR1 := Lib.hid (fun W (hb : OwF w (cellsF x) W) => fresh_string x.A x.name.length x.c w.heap.size (x.name.map sv) W (by simp) (hx.n.below hb.below) (sv_one _) (by omega))
  have HR2 := Lib.hid (fun W (hb : OwF w (cellsF x) W) => fresh_string x.zA x.zone.length x.zc w.heap.size (x.zone.map sv) W (by simp) (hx.z.below hb.below) (sv_one _) (by omega))
  have HR3 := Lib.hid (fun (x1 : FV) W (hb : OwF w (cellsF x1) W) => fresh_data x.sA x.sc w.heap.size x.sp W (hx.s.1.below hb.below) (by omega))
  have HR4 := Lib.hid (fun (x1 : FV) W (hb : OwF w (cellsF x1) W) => copyOf_any x.d x.soa W ((hx.d.below hb.below).mono hb.below.size) hf.d)
  obtain ⟨W, hW⟩ : ∃ W, W = (w.alloc (.cells #[.slice x.A x.name.length x.c, .int .i64 x.h.typ, .int .i64 x.h.knd, .int .i64 x.h.rank, .int .i64 x.h.got, .int .i64 x.h.ttl, .slice x.sA x.sp.length x.sc, .slice x.zA x.zone.length x.zc, .slice x.d.Ab x.soa.bytes.length x.d.cb, .slice x.d.Ah x.soa.host.length x.d.ch, .slice x.d.Am x.soa.mail.length x.d.cm, .slice x.d.An x.soa.nums.length x.d.cn, .slice x.d.At x.soa.texts.length x.d.ct] 36)).alloc (.cells #[.slice none 0 0, .int .i64 0, .int .i64 0, .int .i64 0, .int .i64 0, .int .i64 0, .slice none 0 0, .slice none 0 0, .slice none 0 0, .slice none 0 0, .slice none 0 0, .slice none 0 0, .slice none 0 0] 36) := ⟨_, rfl⟩
  rw [← hW] at HB
  clear hx hf
  go_enter Tryz.func27, Tryz.ntmps27
  go_upto_region 1 with fail
  rw [← hW]
  clear hW
  go_cut [] from 5 to 12 (fun wx => Cl1 w x wx)
  case first =>
    have HB0 := Lib.hid (HB.out.step (Below.refl _ _).drew)
    refine wp_region_held_drew (S := fun _ => True) (by kernel_rfl) (by trivial) (fun hHeld => ?_)
    refine wpAnyH_take (i := 0) (oi := ⟨some 5, _, _, _, _, _⟩) (v := ?_) rfl (by kernel_rfl) (by kernel_rfl) (by kernel_rfl) (fun _ _ _ h => h) (Or.inl ⟨by kernel_rfl, ?_⟩) (by assumption) ?_
    rotate_left
    · intro W hSw
      try dsimp only at hSw
      go_simp
      all_goals (with_reducible rfl)
    try simp only [Act.put, List.setIfInBounds_toArray, List.set_cons_zero, List.set_cons_succ]
    refine wpAnyH_take (i := 3) (oi := ⟨some 8, _, _, _, _, _⟩) (v := ?_) rfl (by kernel_rfl) (by kernel_rfl) (by kernel_rfl) (fun _ _ _ h => h) (Or.inl ⟨by kernel_rfl, ?_⟩) (by assumption) ?_
    rotate_left
    · intro W hSw
      try dsimp only at hSw
      go_simp
      all_goals (with_reducible rfl)
    try simp only [Act.put, List.setIfInBounds_toArray, List.set_cons_zero, List.set_cons_succ]
    refine wpAnyH_ready (rs := [1, 4]) (by kernel_rfl) (by simp) ?_
    refine AllReadyH.cons (o := ⟨some 6, _, _, _, _, _⟩) rfl (fun K hK => ?_) (AllReadyH.cons (o := ⟨some 9, _, _, _, _, _⟩) rfl (fun K hK => ?_) AllReadyH.nil)
    · have q0 : (W.drew).cell? ⟨w.heap.size, 0, none⟩ = some (.slice x.A x.name.length x.c) := HB0.out.a.cell 0
      go_simp
      refine hK.out _ _ (by trivial) (fun hHeld2 => ?_)
      clear hK K hHeld
      have hHeld := hHeld2
      clear hHeld2
      try simp only [Act.put, List.setIfInBounds_toArray, List.set_cons_zero, List.set_cons_succ]
      refine wpAnyH_ready (rs := [2, 4]) (by kernel_rfl) (by simp) ?_
      refine AllReadyH.cons (o := ⟨some 7, _, _, _, _, _⟩) rfl (fun K hK => ?_) (AllReadyH.cons (o := ⟨some 9, _, _, _, _, _⟩) rfl (fun K hK => ?_) AllReadyH.nil)
      · go_simp
        refine (HR1.out _ HB0.out).mono ?_
        rintro e w2 ⟨v2, rfl, hown, hb2⟩
        have HB2 := Lib.hid (HB0.out.step hb2)
        obtain ⟨An, cn, rfl, _, _⟩ := own_form hown
        have HN2 := Lib.hid (own_mono hown HB0.out.size)
        clear hown hb2
        refine hK.out _ _ (by trivial) (fun hHeld2 => ?_)
        clear hK K hHeld
        have hHeld := hHeld2
        clear hHeld2
        try simp only [Act.put, List.setIfInBounds_toArray, List.set_cons_zero, List.set_cons_succ]
        refine wpAnyH_ready (rs := [4]) (by kernel_rfl) (by simp) ?_
        refine AllReadyH.cons (o := ⟨some 9, _, _, _, _, _⟩) rfl (fun K hK => ?_) AllReadyH.nil
        have q7 : (w2).cell? ⟨w.heap.size, 7, none⟩ = some (.slice x.zA x.zone.length x.zc) := HB2.out.a.cell 7
        go_simp
        refine hK.out _ _ (by trivial) (fun hHeld2 => ?_)
        clear hK K hHeld
        have hHeld := hHeld2
        clear hHeld2
        try simp only [Act.put, List.setIfInBounds_toArray, List.set_cons_zero, List.set_cons_succ]
        refine wpAnyH_take (i := 6) (oi := ⟨some 11, _, _, _, _, _⟩) (v := ?_) rfl (by kernel_rfl) (by kernel_rfl) (by kernel_rfl) (fun _ _ _ h => h) (Or.inl ⟨by kernel_rfl, ?_⟩) (by assumption) ?_
        rotate_left
        · intro W hSw
          try dsimp only at hSw
          go_simp
          all_goals (with_reducible rfl)
        try simp only [Act.put, List.setIfInBounds_toArray, List.set_cons_zero, List.set_cons_succ]
        refine wpAnyH_ready (rs := [5]) (by kernel_rfl) (by simp) ?_
        refine AllReadyH.cons (o := ⟨some 10, _, _, _, _, _⟩) rfl (fun K hK => ?_) AllReadyH.nil
        go_simp
        refine (HR2.out _ HB2.out).mono ?_
        rintro e w5 ⟨v5, rfl, hown, hb5⟩
        obtain ⟨Az, cz, rfl, _, _⟩ := own_form hown
        have HB5 := Lib.hid (HB2.out.step hb5)
        have HN5 := Lib.hid (own_keep HN2.out fun g e => hb5.block g (HN2.out.lt g e).2)
        have HZ5 := Lib.hid (own_mono hown HB2.out.size)
        clear hown hb5
        refine hK.out _ _ (by trivial) (fun hHeld2 => ?_)
        clear hK K hHeld
        have hHeld := hHeld2
        clear hHeld2
        try simp only [Act.put, List.setIfInBounds_toArray, List.set_cons_zero, List.set_cons_succ]
        refine wpAnyH_ready (rs := [7]) (by kernel_rfl) (by simp) ?_
        refine AllReadyH.cons (o := ⟨none, _, _, _, _, _⟩) rfl (fun K hK => ?_) AllReadyH.nil
        refine wp_store_one 29 (.tmp 11) (.tmp 7) rfl w.heap.size 0 (.slice An x.name.length cn) rfl rfl rfl strs_size 36 _ HB5.out.a _ rfl ?_
        intro w7 hV hG hZ
        have HB7 := Lib.hid (show OwF w (cellsF ({ x with A := An, c := cn } : FV)) w7 from HB5.out.put hV hG hZ)
        have HN7 := Lib.hid (own_keep HN5.out fun g e => hG.block g (HN5.out.lt g e).2 (by have := (HN5.out.lt g e).1; omega))
        have HZ7 := Lib.hid (own_keep HZ5.out fun g e => hG.block g (HZ5.out.lt g e).2 (by have := (HZ5.out.lt g e).1; omega))
        clear hV hG hZ
        refine hK.out _ _ (by trivial) (fun hHeld2 => ?_)
        clear hK K hHeld
        have hHeld := hHeld2
        clear hHeld2
        try simp only [Act.put]
        refine wpAnyH_take (i := 8) (oi := ⟨some 12, _, _, _, _, _⟩) (v := ?_) rfl (by kernel_rfl) (by kernel_rfl) (by kernel_rfl) (fun _ _ _ h => h) (Or.inl ⟨by kernel_rfl, ?_⟩) (by assumption) ?_
        rotate_left
        · intro W hSw
          try dsimp only at hSw
          go_simp
          all_goals (with_reducible rfl)
        try simp only [Act.put, List.setIfInBounds_toArray, List.set_cons_zero, List.set_cons_succ]
        refine wpAnyH_ready (rs := [9]) (by kernel_rfl) (by simp) ?_
        refine AllReadyH.cons (o := ⟨none, _, _, _, _, _⟩) rfl (fun K hK => ?_) AllReadyH.nil
        refine wp_store_one 29 (.tmp 12) (.tmp 10) rfl w.heap.size 7 (.slice Az x.zone.length cz) rfl rfl rfl strs_size 36 _ HB7.out.a _ rfl ?_
        intro w9 hV hG hZ
        have HB9 := Lib.hid (show OwF w (cellsF ({ x with A := An, c := cn, zA := Az, zc := cz } : FV)) w9 from HB7.out.put hV hG hZ)
        have HN9 := Lib.hid (own_keep HN7.out fun g e => hG.block g (HN7.out.lt g e).2 (by have := (HN7.out.lt g e).1; omega))
        have HZ9 := Lib.hid (own_keep HZ7.out fun g e => hG.block g (HZ7.out.lt g e).2 (by have := (HZ7.out.lt g e).1; omega))
        clear hV hG hZ
        refine hK.out _ _ (by trivial) (fun hHeld2 => ?_)
        clear hK K hHeld
        have hHeld := hHeld2
        clear hHeld2
        try simp only [Act.put]
        refine wpAnyH_done (by kernel_rfl) ?_ _
        go_wp2_with fail
        go_meet
        exact ⟨An, cn, Az, cz, HB9.out, HN9.out, HZ9.out⟩
      · have q7 : (W.drew).cell? ⟨w.heap.size, 7, none⟩ = some (.slice x.zA x.zone.length x.zc) := HB0.out.a.cell 7
        go_simp
        refine hK.out _ _ (by trivial) (fun hHeld2 => ?_)
        clear hK K hHeld
        have hHeld := hHeld2
        clear hHeld2
        try simp only [Act.put, List.setIfInBounds_toArray, List.set_cons_zero, List.set_cons_succ]
        refine wpAnyH_ready (rs := [2]) (by kernel_rfl) (by simp) ?_
        refine AllReadyH.cons (o := ⟨some 7, _, _, _, _, _⟩) rfl (fun K hK => ?_) AllReadyH.nil
        go_simp
        refine (HR1.out _ HB0.out).mono ?_
        rintro e w2 ⟨v2, rfl, hown, hb2⟩
        have HB2 := Lib.hid (HB0.out.step hb2)
        obtain ⟨An, cn, rfl, _, _⟩ := own_form hown
        have HN2 := Lib.hid (own_mono hown HB0.out.size)
        clear hown hb2
        refine hK.out _ _ (by trivial) (fun hHeld2 => ?_)
        clear hK K hHeld
        have hHeld := hHeld2
        clear hHeld2
        try simp only [Act.put, List.setIfInBounds_toArray, List.set_cons_zero, List.set_cons_succ]
        refine wpAnyH_take (i := 6) (oi := ⟨some 11, _, _, _, _, _⟩) (v := ?_) rfl (by kernel_rfl) (by kernel_rfl) (by kernel_rfl) (fun _ _ _ h => h) (Or.inl ⟨by kernel_rfl, ?_⟩) (by assumption) ?_
        rotate_left
        · intro W hSw
          try dsimp only at hSw
          go_simp
          all_goals (with_reducible rfl)
        try simp only [Act.put, List.setIfInBounds_toArray, List.set_cons_zero, List.set_cons_succ]
        refine wpAnyH_ready (rs := [5]) (by kernel_rfl) (by simp) ?_
        refine AllReadyH.cons (o := ⟨some 10, _, _, _, _, _⟩) rfl (fun K hK => ?_) AllReadyH.nil
        go_simp
        refine (HR2.out _ HB2.out).mono ?_
        rintro e w5 ⟨v5, rfl, hown, hb5⟩
        obtain ⟨Az, cz, rfl, _, _⟩ := own_form hown
        have HB5 := Lib.hid (HB2.out.step hb5)
        have HN5 := Lib.hid (own_keep HN2.out fun g e => hb5.block g (HN2.out.lt g e).2)
        have HZ5 := Lib.hid (own_mono hown HB2.out.size)
        clear hown hb5
        refine hK.out _ _ (by trivial) (fun hHeld2 => ?_)
        clear hK K hHeld
        have hHeld := hHeld2
        clear hHeld2
        try simp only [Act.put, List.setIfInBounds_toArray, List.set_cons_zero, List.set_cons_succ]
        refine wpAnyH_ready (rs := [7]) (by kernel_rfl) (by simp) ?_
        refine AllReadyH.cons (o := ⟨none, _, _, _, _, _⟩) rfl (fun K hK => ?_) AllReadyH.nil
        refine wp_store_one 29 (.tmp 11) (.tmp 7) rfl w.heap.size 0 (.slice An x.name.length cn) rfl rfl rfl strs_size 36 _ HB5.out.a _ rfl ?_
        intro w7 hV hG hZ
        have HB7 := Lib.hid (show OwF w (cellsF ({ x with A := An, c := cn } : FV)) w7 from HB5.out.put hV hG hZ)
        have HN7 := Lib.hid (own_keep HN5.out fun g e => hG.block g (HN5.out.lt g e).2 (by have := (HN5.out.lt g e).1; omega))
        have HZ7 := Lib.hid (own_keep HZ5.out fun g e => hG.block g (HZ5.out.lt g e).2 (by have := (HZ5.out.lt g e).1; omega))
        clear hV hG hZ
        refine hK.out _ _ (by trivial) (fun hHeld2 => ?_)
        clear hK K hHeld
        have hHeld := hHeld2
        clear hHeld2
        try simp only [Act.put]
        refine wpAnyH_take (i := 8) (oi := ⟨some 12, _, _, _, _, _⟩) (v := ?_) rfl (by kernel_rfl) (by kernel_rfl) (by kernel_rfl) (fun _ _ _ h => h) (Or.inl ⟨by kernel_rfl, ?_⟩) (by assumption) ?_
        rotate_left
        · intro W hSw
          try dsimp only at hSw
          go_simp
          all_goals (with_reducible rfl)
        try simp only [Act.put, List.setIfInBounds_toArray, List.set_cons_zero, List.set_cons_succ]
        refine wpAnyH_ready (rs := [9]) (by kernel_rfl) (by simp) ?_
        refine AllReadyH.cons (o := ⟨none, _, _, _, _, _⟩) rfl (fun K hK => ?_) AllReadyH.nil
        refine wp_store_one 29 (.tmp 12) (.tmp 10) rfl w.heap.size 7 (.slice Az x.zone.length cz) rfl rfl rfl strs_size 36 _ HB7.out.a _ rfl ?_
        intro w9 hV hG hZ
        have HB9 := Lib.hid (show OwF w (cellsF ({ x with A := An, c := cn, zA := Az, zc := cz } : FV)) w9 from HB7.out.put hV hG hZ)
        have HN9 := Lib.hid (own_keep HN7.out fun g e => hG.block g (HN7.out.lt g e).2 (by have := (HN7.out.lt g e).1; omega))
        have HZ9 := Lib.hid (own_keep HZ7.out fun g e => hG.block g (HZ7.out.lt g e).2 (by have := (HZ7.out.lt g e).1; omega))
        clear hV hG hZ
        refine hK.out _ _ (by trivial) (fun hHeld2 => ?_)
        clear hK K hHeld
        have hHeld := hHeld2
        clear hHeld2
        try simp only [Act.put]
        refine wpAnyH_done (by kernel_rfl) ?_ _
        go_wp2_with fail
        go_meet
        exact ⟨An, cn, Az, cz, HB9.out, HN9.out, HZ9.out⟩
    · have q7 : (W.drew).cell? ⟨w.heap.size, 7, none⟩ = some (.slice x.zA x.zone.length x.zc) := HB0.out.a.cell 7
      go_simp
      refine hK.out _ _ (by trivial) (fun hHeld2 => ?_)
      clear hK K hHeld
      have hHeld := hHeld2
      clear hHeld2
      try simp only [Act.put, List.setIfInBounds_toArray, List.set_cons_zero, List.set_cons_succ]
      refine wpAnyH_ready (rs := [1]) (by kernel_rfl) (by simp) ?_
      refine AllReadyH.cons (o := ⟨some 6, _, _, _, _, _⟩) rfl (fun K hK => ?_) AllReadyH.nil
      have q0 : (W.drew).cell? ⟨w.heap.size, 0, none⟩ = some (.slice x.A x.name.length x.c) := HB0.out.a.cell 0
      go_simp
      refine hK.out _ _ (by trivial) (fun hHeld2 => ?_)
      clear hK K hHeld
      have hHeld := hHeld2
      clear hHeld2
      try simp only [Act.put, List.setIfInBounds_toArray, List.set_cons_zero, List.set_cons_succ]
      refine wpAnyH_ready (rs := [2]) (by kernel_rfl) (by simp) ?_
      refine AllReadyH.cons (o := ⟨some 7, _, _, _, _, _⟩) rfl (fun K hK => ?_) AllReadyH.nil
      go_simp
      refine (HR1.out _ HB0.out).mono ?_
      rintro e w2 ⟨v2, rfl, hown, hb2⟩
      have HB2 := Lib.hid (HB0.out.step hb2)
      obtain ⟨An, cn, rfl, _, _⟩ := own_form hown
      have HN2 := Lib.hid (own_mono hown HB0.out.size)
      clear hown hb2
      refine hK.out _ _ (by trivial) (fun hHeld2 => ?_)
      clear hK K hHeld
      have hHeld := hHeld2
      clear hHeld2
      try simp only [Act.put, List.setIfInBounds_toArray, List.set_cons_zero, List.set_cons_succ]
      refine wpAnyH_take (i := 6) (oi := ⟨some 11, _, _, _, _, _⟩) (v := ?_) rfl (by kernel_rfl) (by kernel_rfl) (by kernel_rfl) (fun _ _ _ h => h) (Or.inl ⟨by kernel_rfl, ?_⟩) (by assumption) ?_
      rotate_left
      · intro W hSw
        try dsimp only at hSw
        go_simp
        all_goals (with_reducible rfl)
      try simp only [Act.put, List.setIfInBounds_toArray, List.set_cons_zero, List.set_cons_succ]
      refine wpAnyH_ready (rs := [5]) (by kernel_rfl) (by simp) ?_
      refine AllReadyH.cons (o := ⟨some 10, _, _, _, _, _⟩) rfl (fun K hK => ?_) AllReadyH.nil
      go_simp
      refine (HR2.out _ HB2.out).mono ?_
      rintro e w5 ⟨v5, rfl, hown, hb5⟩
      obtain ⟨Az, cz, rfl, _, _⟩ := own_form hown
      have HB5 := Lib.hid (HB2.out.step hb5)
      have HN5 := Lib.hid (own_keep HN2.out fun g e => hb5.block g (HN2.out.lt g e).2)
      have HZ5 := Lib.hid (own_mono hown HB2.out.size)
      clear hown hb5
      refine hK.out _ _ (by trivial) (fun hHeld2 => ?_)
      clear hK K hHeld
      have hHeld := hHeld2
      clear hHeld2
      try simp only [Act.put, List.setIfInBounds_toArray, List.set_cons_zero, List.set_cons_succ]
      refine wpAnyH_ready (rs := [7]) (by kernel_rfl) (by simp) ?_
      refine AllReadyH.cons (o := ⟨none, _, _, _, _, _⟩) rfl (fun K hK => ?_) AllReadyH.nil
      refine wp_store_one 29 (.tmp 11) (.tmp 7) rfl w.heap.size 0 (.slice An x.name.length cn) rfl rfl rfl strs_size 36 _ HB5.out.a _ rfl ?_
      intro w7 hV hG hZ
      have HB7 := Lib.hid (show OwF w (cellsF ({ x with A := An, c := cn } : FV)) w7 from HB5.out.put hV hG hZ)
      have HN7 := Lib.hid (own_keep HN5.out fun g e => hG.block g (HN5.out.lt g e).2 (by have := (HN5.out.lt g e).1; omega))
      have HZ7 := Lib.hid (own_keep HZ5.out fun g e => hG.block g (HZ5.out.lt g e).2 (by have := (HZ5.out.lt g e).1; omega))
      clear hV hG hZ
      refine hK.out _ _ (by trivial) (fun hHeld2 => ?_)
      clear hK K hHeld
      have hHeld := hHeld2
      clear hHeld2
      try simp only [Act.put]
      refine wpAnyH_take (i := 8) (oi := ⟨some 12, _, _, _, _, _⟩) (v := ?_) rfl (by kernel_rfl) (by kernel_rfl) (by kernel_rfl) (fun _ _ _ h => h) (Or.inl ⟨by kernel_rfl, ?_⟩) (by assumption) ?_
      rotate_left
      · intro W hSw
        try dsimp only at hSw
        go_simp
        all_goals (with_reducible rfl)
      try simp only [Act.put, List.setIfInBounds_toArray, List.set_cons_zero, List.set_cons_succ]
      refine wpAnyH_ready (rs := [9]) (by kernel_rfl) (by simp) ?_
      refine AllReadyH.cons (o := ⟨none, _, _, _, _, _⟩) rfl (fun K hK => ?_) AllReadyH.nil
      refine wp_store_one 29 (.tmp 12) (.tmp 10) rfl w.heap.size 7 (.slice Az x.zone.length cz) rfl rfl rfl strs_size 36 _ HB7.out.a _ rfl ?_
      intro w9 hV hG hZ
      have HB9 := Lib.hid (show OwF w (cellsF ({ x with A := An, c := cn, zA := Az, zc := cz } : FV)) w9 from HB7.out.put hV hG hZ)
      have HN9 := Lib.hid (own_keep HN7.out fun g e => hG.block g (HN7.out.lt g e).2 (by have := (HN7.out.lt g e).1; omega))
      have HZ9 := Lib.hid (own_keep HZ7.out fun g e => hG.block g (HZ7.out.lt g e).2 (by have := (HZ7.out.lt g e).1; omega))
      clear hV hG hZ
      refine hK.out _ _ (by trivial) (fun hHeld2 => ?_)
      clear hK K hHeld
      have hHeld := hHeld2
      clear hHeld2
      try simp only [Act.put]
      refine wpAnyH_done (by kernel_rfl) ?_ _
      go_wp2_with fail
      go_meet
      exact ⟨An, cn, Az, cz, HB9.out, HN9.out, HZ9.out⟩
  case rest =>
  obtain ⟨An, cn, Az, cz, hcl⟩ := hcut
  have HC := Lib.hid hcl
  clear hcl HR1 HR2 HB
  go_upto_region 2 with fail
  rename World => w3
  go_cut [] from 13 to 20 (fun wx => Cl2 w x wx)
  case first =>
    have HC0 := Lib.hid (HC.out.step (Below.refl _ _).drew)
    refine wp_region_held_drew (S := fun _ => True) (by kernel_rfl) (by trivial) (fun hHeld => ?_)
    refine wpAnyH_take (i := 0) (oi := ⟨some 13, _, _, _, _, _⟩) (v := ?_) rfl (by kernel_rfl) (by kernel_rfl) (by kernel_rfl) (fun _ _ _ h => h) (Or.inl ⟨by kernel_rfl, ?_⟩) (by assumption) ?_
    rotate_left
    · intro W hSw
      try dsimp only at hSw
      go_simp
      all_goals (with_reducible rfl)
    try simp only [Act.put, List.setIfInBounds_toArray, List.set_cons_zero, List.set_cons_succ]
    refine wpAnyH_take (i := 3) (oi := ⟨some 16, _, _, _, _, _⟩) (v := ?_) rfl (by kernel_rfl) (by kernel_rfl) (by kernel_rfl) (fun _ _ _ h => h) (Or.inl ⟨by kernel_rfl, ?_⟩) (by assumption) ?_
    rotate_left
    · intro W hSw
      try dsimp only at hSw
      go_simp
      all_goals (with_reducible rfl)
    try simp only [Act.put, List.setIfInBounds_toArray, List.set_cons_zero, List.set_cons_succ]
    refine wpAnyH_ready (rs := [1, 4]) (by kernel_rfl) (by simp) ?_
    refine AllReadyH.cons (o := ⟨some 14, _, _, _, _, _⟩) rfl (fun K hK => ?_) (AllReadyH.cons (o := ⟨some 17, _, _, _, _, _⟩) rfl (fun K hK => ?_) AllReadyH.nil)
    · have q6 : (w3.drew).cell? ⟨w.heap.size, 6, none⟩ = some (.slice x.sA x.sp.length x.sc) := HC0.out.x.a.cell 6
      go_simp
      refine hK.out _ _ (by trivial) (fun hHeld2 => ?_)
      clear hK K hHeld
      have hHeld := hHeld2
      clear hHeld2
      try simp only [Act.put, List.setIfInBounds_toArray, List.set_cons_zero, List.set_cons_succ]
      refine wpAnyH_ready (rs := [2, 4]) (by kernel_rfl) (by simp) ?_
      refine AllReadyH.cons (o := ⟨some 15, _, _, _, _, _⟩) rfl (fun K hK => ?_) (AllReadyH.cons (o := ⟨some 17, _, _, _, _, _⟩) rfl (fun K hK => ?_) AllReadyH.nil)
      · go_simp
        refine (HR3.out ({ x with A := An, c := cn, zA := Az, zc := cz } : FV) _ HC0.out.x).mono ?_
        rintro e w2 ⟨v2, rfl, hown, hb2⟩
        have HC2 := Lib.hid (HC0.out.step hb2)
        obtain ⟨A6, c6, rfl, _, _⟩ := own_form hown
        have HS2 := Lib.hid (own_mono hown HC0.out.x.size)
        clear hown hb2
        refine hK.out _ _ (by trivial) (fun hHeld2 => ?_)
        clear hK K hHeld
        have hHeld := hHeld2
        clear hHeld2
        try simp only [Act.put, List.setIfInBounds_toArray, List.set_cons_zero, List.set_cons_succ]
        refine wpAnyH_ready (rs := [4]) (by kernel_rfl) (by simp) ?_
        refine AllReadyH.cons (o := ⟨some 17, _, _, _, _, _⟩) rfl (fun K hK => ?_) AllReadyH.nil
        have q8 : (w2).cell? ⟨w.heap.size, 8, none⟩ = some (.slice x.d.Ab x.soa.bytes.length x.d.cb) := HC2.out.x.a.cell 8
        have q9 : (w2).cell? ⟨w.heap.size, 9, none⟩ = some (.slice x.d.Ah x.soa.host.length x.d.ch) := HC2.out.x.a.cell 9
        have q10 : (w2).cell? ⟨w.heap.size, 10, none⟩ = some (.slice x.d.Am x.soa.mail.length x.d.cm) := HC2.out.x.a.cell 10
        have q11 : (w2).cell? ⟨w.heap.size, 11, none⟩ = some (.slice x.d.An x.soa.nums.length x.d.cn) := HC2.out.x.a.cell 11
        have q12 : (w2).cell? ⟨w.heap.size, 12, none⟩ = some (.slice x.d.At x.soa.texts.length x.d.ct) := HC2.out.x.a.cell 12
        go_simp
        refine hK.out _ _ (by trivial) (fun hHeld2 => ?_)
        clear hK K hHeld
        have hHeld := hHeld2
        clear hHeld2
        try simp only [Act.put, List.setIfInBounds_toArray, List.set_cons_zero, List.set_cons_succ]
        refine wpAnyH_take (i := 6) (oi := ⟨some 19, _, _, _, _, _⟩) (v := ?_) rfl (by kernel_rfl) (by kernel_rfl) (by kernel_rfl) (fun _ _ _ h => h) (Or.inl ⟨by kernel_rfl, ?_⟩) (by assumption) ?_
        rotate_left
        · intro W hSw
          try dsimp only at hSw
          go_simp
          all_goals (with_reducible rfl)
        try simp only [Act.put, List.setIfInBounds_toArray, List.set_cons_zero, List.set_cons_succ]
        refine wpAnyH_ready (rs := [5]) (by kernel_rfl) (by simp) ?_
        refine AllReadyH.cons (o := ⟨some 18, _, _, _, _, _⟩) rfl (fun K hK => ?_) AllReadyH.nil
        go_simp
        refine (HR4.out ({ x with A := An, c := cn, zA := Az, zc := cz } : FV) _ HC2.out.x).mono ?_
        rintro e w5 ⟨yd, rfl, hyd, hb5⟩
        have HC5 := Lib.hid (HC2.out.step hb5)
        have HS5 := Lib.hid (own_keep HS2.out fun g e => hb5.block g (HS2.out.lt g e).2)
        have HD5 := Lib.hid (hyd.monoB HC2.out.x.size)
        clear hyd hb5
        refine hK.out _ _ (by trivial) (fun hHeld2 => ?_)
        clear hK K hHeld
        have hHeld := hHeld2
        clear hHeld2
        try simp only [Act.put, List.setIfInBounds_toArray, List.set_cons_zero, List.set_cons_succ]
        refine wpAnyH_ready (rs := [7]) (by kernel_rfl) (by simp) ?_
        refine AllReadyH.cons (o := ⟨none, _, _, _, _, _⟩) rfl (fun K hK => ?_) AllReadyH.nil
        refine wp_store_one 30 (.tmp 19) (.tmp 15) rfl w.heap.size 6 (.slice A6 x.sp.length c6) rfl rfl rfl dats_size 36 _ HC5.out.x.a _ rfl ?_
        intro w7 hV hG hZ
        have HC7 := Lib.hid (show ClA w ({ x with A := An, c := cn, zA := Az, zc := cz, sA := A6, sc := c6 } : FV) w7 from HC5.out.put hV hG hZ)
        have HS7 := Lib.hid (own_keep HS5.out fun g e => hG.block g (HS5.out.lt g e).2 (by have := (HS5.out.lt g e).1; omega))
        have HD7 := Lib.hid (HD5.out.keepB (w' := w7) fun g h1 h2 => hG.block g h2 (by omega))
        clear hV hG hZ
        refine hK.out _ _ (by trivial) (fun hHeld2 => ?_)
        clear hK K hHeld
        have hHeld := hHeld2
        clear hHeld2
        try simp only [Act.put]
        refine wpAnyH_take (i := 8) (oi := ⟨some 20, _, _, _, _, _⟩) (v := ?_) rfl (by kernel_rfl) (by kernel_rfl) (by kernel_rfl) (fun _ _ _ h => h) (Or.inl ⟨by kernel_rfl, ?_⟩) (by assumption) ?_
        rotate_left
        · intro W hSw
          try dsimp only at hSw
          go_simp
          all_goals (with_reducible rfl)
        try simp only [Act.put, List.setIfInBounds_toArray, List.set_cons_zero, List.set_cons_succ]
        refine wpAnyH_ready (rs := [9]) (by kernel_rfl) (by simp) ?_
        refine AllReadyH.cons (o := ⟨none, _, _, _, _, _⟩) rfl (fun K hK => ?_) AllReadyH.nil
        refine wp_store_at 34 (.tmp 20) (.tmp 18) rfl w.heap.size 8 (cellsD (yd, x.soa)) rfl rfl 36 _ HC7.out.x.a (Nat.le_refl 13) data_size (fun u hu => cellsD_one [(yd, x.soa)] u (by simpa using hu)) ?_
        intro w9 hV hG hZ
        have HC9 := Lib.hid (show ClA w ({ x with A := An, c := cn, zA := Az, zc := cz, d := yd, sA := A6, sc := c6 } : FV) w9 from HC7.out.put hV hG hZ)
        have HS9 := Lib.hid (own_keep HS7.out fun g e => hG.block g (HS7.out.lt g e).2 (by have := (HS7.out.lt g e).1; omega))
        have HD9 := Lib.hid (HD7.out.keepB (w' := w9) fun g h1 h2 => hG.block g h2 (by omega))
        clear hV hG hZ
        refine hK.out _ _ (by trivial) (fun hHeld2 => ?_)
        clear hK K hHeld
        have hHeld := hHeld2
        clear hHeld2
        try simp only [Act.put]
        refine wpAnyH_done (by kernel_rfl) ?_ _
        go_wp2_with fail
        go_meet
        exact ⟨An, cn, Az, cz, A6, c6, yd, HC9.out, HD9.out, HS9.out, fun _ h => absurd h (List.not_mem_nil)⟩
      · have q8 : (w3.drew).cell? ⟨w.heap.size, 8, none⟩ = some (.slice x.d.Ab x.soa.bytes.length x.d.cb) := HC0.out.x.a.cell 8
        have q9 : (w3.drew).cell? ⟨w.heap.size, 9, none⟩ = some (.slice x.d.Ah x.soa.host.length x.d.ch) := HC0.out.x.a.cell 9
        have q10 : (w3.drew).cell? ⟨w.heap.size, 10, none⟩ = some (.slice x.d.Am x.soa.mail.length x.d.cm) := HC0.out.x.a.cell 10
        have q11 : (w3.drew).cell? ⟨w.heap.size, 11, none⟩ = some (.slice x.d.An x.soa.nums.length x.d.cn) := HC0.out.x.a.cell 11
        have q12 : (w3.drew).cell? ⟨w.heap.size, 12, none⟩ = some (.slice x.d.At x.soa.texts.length x.d.ct) := HC0.out.x.a.cell 12
        go_simp
        refine hK.out _ _ (by trivial) (fun hHeld2 => ?_)
        clear hK K hHeld
        have hHeld := hHeld2
        clear hHeld2
        try simp only [Act.put, List.setIfInBounds_toArray, List.set_cons_zero, List.set_cons_succ]
        refine wpAnyH_ready (rs := [2]) (by kernel_rfl) (by simp) ?_
        refine AllReadyH.cons (o := ⟨some 15, _, _, _, _, _⟩) rfl (fun K hK => ?_) AllReadyH.nil
        go_simp
        refine (HR3.out ({ x with A := An, c := cn, zA := Az, zc := cz } : FV) _ HC0.out.x).mono ?_
        rintro e w2 ⟨v2, rfl, hown, hb2⟩
        have HC2 := Lib.hid (HC0.out.step hb2)
        obtain ⟨A6, c6, rfl, _, _⟩ := own_form hown
        have HS2 := Lib.hid (own_mono hown HC0.out.x.size)
        clear hown hb2
        refine hK.out _ _ (by trivial) (fun hHeld2 => ?_)
        clear hK K hHeld
        have hHeld := hHeld2
        clear hHeld2
        try simp only [Act.put, List.setIfInBounds_toArray, List.set_cons_zero, List.set_cons_succ]
        refine wpAnyH_take (i := 6) (oi := ⟨some 19, _, _, _, _, _⟩) (v := ?_) rfl (by kernel_rfl) (by kernel_rfl) (by kernel_rfl) (fun _ _ _ h => h) (Or.inl ⟨by kernel_rfl, ?_⟩) (by assumption) ?_
        rotate_left
        · intro W hSw
          try dsimp only at hSw
          go_simp
          all_goals (with_reducible rfl)
        try simp only [Act.put, List.setIfInBounds_toArray, List.set_cons_zero, List.set_cons_succ]
        refine wpAnyH_ready (rs := [5]) (by kernel_rfl) (by simp) ?_
        refine AllReadyH.cons (o := ⟨some 18, _, _, _, _, _⟩) rfl (fun K hK => ?_) AllReadyH.nil
        go_simp
        refine (HR4.out ({ x with A := An, c := cn, zA := Az, zc := cz } : FV) _ HC2.out.x).mono ?_
        rintro e w5 ⟨yd, rfl, hyd, hb5⟩
        have HC5 := Lib.hid (HC2.out.step hb5)
        have HS5 := Lib.hid (own_keep HS2.out fun g e => hb5.block g (HS2.out.lt g e).2)
        have HD5 := Lib.hid (hyd.monoB HC2.out.x.size)
        clear hyd hb5
        refine hK.out _ _ (by trivial) (fun hHeld2 => ?_)
        clear hK K hHeld
        have hHeld := hHeld2
        clear hHeld2
        try simp only [Act.put, List.setIfInBounds_toArray, List.set_cons_zero, List.set_cons_succ]
        refine wpAnyH_ready (rs := [7]) (by kernel_rfl) (by simp) ?_
        refine AllReadyH.cons (o := ⟨none, _, _, _, _, _⟩) rfl (fun K hK => ?_) AllReadyH.nil
        refine wp_store_one 30 (.tmp 19) (.tmp 15) rfl w.heap.size 6 (.slice A6 x.sp.length c6) rfl rfl rfl dats_size 36 _ HC5.out.x.a _ rfl ?_
        intro w7 hV hG hZ
        have HC7 := Lib.hid (show ClA w ({ x with A := An, c := cn, zA := Az, zc := cz, sA := A6, sc := c6 } : FV) w7 from HC5.out.put hV hG hZ)
        have HS7 := Lib.hid (own_keep HS5.out fun g e => hG.block g (HS5.out.lt g e).2 (by have := (HS5.out.lt g e).1; omega))
        have HD7 := Lib.hid (HD5.out.keepB (w' := w7) fun g h1 h2 => hG.block g h2 (by omega))
        clear hV hG hZ
        refine hK.out _ _ (by trivial) (fun hHeld2 => ?_)
        clear hK K hHeld
        have hHeld := hHeld2
        clear hHeld2
        try simp only [Act.put]
        refine wpAnyH_take (i := 8) (oi := ⟨some 20, _, _, _, _, _⟩) (v := ?_) rfl (by kernel_rfl) (by kernel_rfl) (by kernel_rfl) (fun _ _ _ h => h) (Or.inl ⟨by kernel_rfl, ?_⟩) (by assumption) ?_
        rotate_left
        · intro W hSw
          try dsimp only at hSw
          go_simp
          all_goals (with_reducible rfl)
        try simp only [Act.put, List.setIfInBounds_toArray, List.set_cons_zero, List.set_cons_succ]
        refine wpAnyH_ready (rs := [9]) (by kernel_rfl) (by simp) ?_
        refine AllReadyH.cons (o := ⟨none, _, _, _, _, _⟩) rfl (fun K hK => ?_) AllReadyH.nil
        refine wp_store_at 34 (.tmp 20) (.tmp 18) rfl w.heap.size 8 (cellsD (yd, x.soa)) rfl rfl 36 _ HC7.out.x.a (Nat.le_refl 13) data_size (fun u hu => cellsD_one [(yd, x.soa)] u (by simpa using hu)) ?_
        intro w9 hV hG hZ
        have HC9 := Lib.hid (show ClA w ({ x with A := An, c := cn, zA := Az, zc := cz, d := yd, sA := A6, sc := c6 } : FV) w9 from HC7.out.put hV hG hZ)
        have HS9 := Lib.hid (own_keep HS7.out fun g e => hG.block g (HS7.out.lt g e).2 (by have := (HS7.out.lt g e).1; omega))
        have HD9 := Lib.hid (HD7.out.keepB (w' := w9) fun g h1 h2 => hG.block g h2 (by omega))
        clear hV hG hZ
        refine hK.out _ _ (by trivial) (fun hHeld2 => ?_)
        clear hK K hHeld
        have hHeld := hHeld2
        clear hHeld2
        try simp only [Act.put]
        refine wpAnyH_done (by kernel_rfl) ?_ _
        go_wp2_with fail
        go_meet
        exact ⟨An, cn, Az, cz, A6, c6, yd, HC9.out, HD9.out, HS9.out, fun _ h => absurd h (List.not_mem_nil)⟩
    · have q8 : (w3.drew).cell? ⟨w.heap.size, 8, none⟩ = some (.slice x.d.Ab x.soa.bytes.length x.d.cb) := HC0.out.x.a.cell 8
      have q9 : (w3.drew).cell? ⟨w.heap.size, 9, none⟩ = some (.slice x.d.Ah x.soa.host.length x.d.ch) := HC0.out.x.a.cell 9
      have q10 : (w3.drew).cell? ⟨w.heap.size, 10, none⟩ = some (.slice x.d.Am x.soa.mail.length x.d.cm) := HC0.out.x.a.cell 10
      have q11 : (w3.drew).cell? ⟨w.heap.size, 11, none⟩ = some (.slice x.d.An x.soa.nums.length x.d.cn) := HC0.out.x.a.cell 11
      have q12 : (w3.drew).cell? ⟨w.heap.size, 12, none⟩ = some (.slice x.d.At x.soa.texts.length x.d.ct) := HC0.out.x.a.cell 12
      go_simp
      refine hK.out _ _ (by trivial) (fun hHeld2 => ?_)
      clear hK K hHeld
      have hHeld := hHeld2
      clear hHeld2
      try simp only [Act.put, List.setIfInBounds_toArray, List.set_cons_zero, List.set_cons_succ]
      refine wpAnyH_ready (rs := [1]) (by kernel_rfl) (by simp) ?_
      refine AllReadyH.cons (o := ⟨some 14, _, _, _, _, _⟩) rfl (fun K hK => ?_) AllReadyH.nil
      have q6 : (w3.drew).cell? ⟨w.heap.size, 6, none⟩ = some (.slice x.sA x.sp.length x.sc) := HC0.out.x.a.cell 6
      go_simp
      refine hK.out _ _ (by trivial) (fun hHeld2 => ?_)
      clear hK K hHeld
      have hHeld := hHeld2
      clear hHeld2
      try simp only [Act.put, List.setIfInBounds_toArray, List.set_cons_zero, List.set_cons_succ]
      refine wpAnyH_ready (rs := [2]) (by kernel_rfl) (by simp) ?_
      refine AllReadyH.cons (o := ⟨some 15, _, _, _, _, _⟩) rfl (fun K hK => ?_) AllReadyH.nil
      go_simp
      refine (HR3.out ({ x with A := An, c := cn, zA := Az, zc := cz } : FV) _ HC0.out.x).mono ?_
      rintro e w2 ⟨v2, rfl, hown, hb2⟩
      have HC2 := Lib.hid (HC0.out.step hb2)
      obtain ⟨A6, c6, rfl, _, _⟩ := own_form hown
      have HS2 := Lib.hid (own_mono hown HC0.out.x.size)
      clear hown hb2
      refine hK.out _ _ (by trivial) (fun hHeld2 => ?_)
      clear hK K hHeld
      have hHeld := hHeld2
      clear hHeld2
      try simp only [Act.put, List.setIfInBounds_toArray, List.set_cons_zero, List.set_cons_succ]
      refine wpAnyH_take (i := 6) (oi := ⟨some 19, _, _, _, _, _⟩) (v := ?_) rfl (by kernel_rfl) (by kernel_rfl) (by kernel_rfl) (fun _ _ _ h => h) (Or.inl ⟨by kernel_rfl, ?_⟩) (by assumption) ?_
      rotate_left
      · intro W hSw
        try dsimp only at hSw
        go_simp
        all_goals (with_reducible rfl)
      try simp only [Act.put, List.setIfInBounds_toArray, List.set_cons_zero, List.set_cons_succ]
      refine wpAnyH_ready (rs := [5]) (by kernel_rfl) (by simp) ?_
      refine AllReadyH.cons (o := ⟨some 18, _, _, _, _, _⟩) rfl (fun K hK => ?_) AllReadyH.nil
      go_simp
      refine (HR4.out ({ x with A := An, c := cn, zA := Az, zc := cz } : FV) _ HC2.out.x).mono ?_
      rintro e w5 ⟨yd, rfl, hyd, hb5⟩
      have HC5 := Lib.hid (HC2.out.step hb5)
      have HS5 := Lib.hid (own_keep HS2.out fun g e => hb5.block g (HS2.out.lt g e).2)
      have HD5 := Lib.hid (hyd.monoB HC2.out.x.size)
      clear hyd hb5
      refine hK.out _ _ (by trivial) (fun hHeld2 => ?_)
      clear hK K hHeld
      have hHeld := hHeld2
      clear hHeld2
      try simp only [Act.put, List.setIfInBounds_toArray, List.set_cons_zero, List.set_cons_succ]
      refine wpAnyH_ready (rs := [7]) (by kernel_rfl) (by simp) ?_
      refine AllReadyH.cons (o := ⟨none, _, _, _, _, _⟩) rfl (fun K hK => ?_) AllReadyH.nil
      refine wp_store_one 30 (.tmp 19) (.tmp 15) rfl w.heap.size 6 (.slice A6 x.sp.length c6) rfl rfl rfl dats_size 36 _ HC5.out.x.a _ rfl ?_
      intro w7 hV hG hZ
      have HC7 := Lib.hid (show ClA w ({ x with A := An, c := cn, zA := Az, zc := cz, sA := A6, sc := c6 } : FV) w7 from HC5.out.put hV hG hZ)
      have HS7 := Lib.hid (own_keep HS5.out fun g e => hG.block g (HS5.out.lt g e).2 (by have := (HS5.out.lt g e).1; omega))
      have HD7 := Lib.hid (HD5.out.keepB (w' := w7) fun g h1 h2 => hG.block g h2 (by omega))
      clear hV hG hZ
      refine hK.out _ _ (by trivial) (fun hHeld2 => ?_)
      clear hK K hHeld
      have hHeld := hHeld2
      clear hHeld2
      try simp only [Act.put]
      refine wpAnyH_take (i := 8) (oi := ⟨some 20, _, _, _, _, _⟩) (v := ?_) rfl (by kernel_rfl) (by kernel_rfl) (by kernel_rfl) (fun _ _ _ h => h) (Or.inl ⟨by kernel_rfl, ?_⟩) (by assumption) ?_
      rotate_left
      · intro W hSw
        try dsimp only at hSw
        go_simp
        all_goals (with_reducible rfl)
      try simp only [Act.put, List.setIfInBounds_toArray, List.set_cons_zero, List.set_cons_succ]
      refine wpAnyH_ready (rs := [9]) (by kernel_rfl) (by simp) ?_
      refine AllReadyH.cons (o := ⟨none, _, _, _, _, _⟩) rfl (fun K hK => ?_) AllReadyH.nil
      refine wp_store_at 34 (.tmp 20) (.tmp 18) rfl w.heap.size 8 (cellsD (yd, x.soa)) rfl rfl 36 _ HC7.out.x.a (Nat.le_refl 13) data_size (fun u hu => cellsD_one [(yd, x.soa)] u (by simpa using hu)) ?_
      intro w9 hV hG hZ
      have HC9 := Lib.hid (show ClA w ({ x with A := An, c := cn, zA := Az, zc := cz, d := yd, sA := A6, sc := c6 } : FV) w9 from HC7.out.put hV hG hZ)
      have HS9 := Lib.hid (own_keep HS7.out fun g e => hG.block g (HS7.out.lt g e).2 (by have := (HS7.out.lt g e).1; omega))
      have HD9 := Lib.hid (HD7.out.keepB (w' := w9) fun g h1 h2 => hG.block g h2 (by omega))
      clear hV hG hZ
      refine hK.out _ _ (by trivial) (fun hHeld2 => ?_)
      clear hK K hHeld
      have hHeld := hHeld2
      clear hHeld2
      try simp only [Act.put]
      refine wpAnyH_done (by kernel_rfl) ?_ _
      go_wp2_with fail
      go_meet
      exact ⟨An, cn, Az, cz, A6, c6, yd, HC9.out, HD9.out, HS9.out, fun _ h => absurd h (List.not_mem_nil)⟩
  case rest =>
  clear HC HR3 HR4
  obtain ⟨An, cn, Az, cz, A6, c6, yd, hcl⟩ := hcut
  have HC := Lib.hid hcl
  have q6 : wc.cell? ⟨w.heap.size, 6, none⟩ = some (.slice A6 x.sp.length c6) := hcl.a.x.a.cell 6
  clear hcl
  go_wp2
  go_loopw [24] (ClRel w x ({ x with A := An, c := cn, zA := Az, zc := cz, d := yd, sA := A6, sc := c6 } : FV)) (fun i _ => x.sp.length - (intOf i).toNat)
  case atStart => exact ⟨[], Nat.zero_le _, rfl, rfl, HC.out⟩
  case round =>
  clear q6 HC
  obtain ⟨qs, hq, rfl, hd, hc⟩ := hrel
  have HD := Lib.hid hd
  have HC := Lib.hid hc
  clear hd
  by_cases hlt : qs.length < x.sp.length
  · have hs := hc.s
    obtain ⟨g, rfl⟩ := own_some hs (show 0 < x.sp.length by omega)
    have hds : DsAt wr wr.heap.size (some ⟨g, 0, none⟩) (qs ++ x.sp.drop qs.length) := ⟨Row.of_own hs, fun p hp => by
      rcases List.mem_append.1 hp with hp | hp
      · exact (hc.e p hp).at_
      · have h0 := (HX.out wr hc.a.x.below).s.2 p (List.mem_of_mem_drop hp)
        exact h0.mono hc.a.x.below.size⟩
    obtain ⟨b, off, hA, _, hda, r0, r1, r2, r3, r4⟩ := hds.at_ (i := qs.length) (by simp; omega)
    injection hA with hA
    injection hA with hA1 hA2
    subst hA1 hA2
    have hel : (qs ++ x.sp.drop qs.length)[qs.length]'(by simp; omega) = x.sp[qs.length] := by simp
    rw [hel] at hda r0 r1 r2 r3 r4
    have HCP := Lib.hid (fun (W : World) (hb : Below w.heap.size w W) => copyOf_any (x.sp[qs.length]).1 (x.sp[qs.length]).2 W ((((HX.out w (Below.refl _ _)).s.2 _ (List.getElem_mem hlt)).below hb).mono hb.size) (HF.out.e _ (List.getElem_mem hlt)))
    have HDS := Lib.hid (dats_step13 hlt)
    revert r0 r1 r2 r3 r4 HCP HDS
    clear hda hds hs hel
    generalize x.sp[qs.length] = p
    obtain ⟨y, d⟩ := p
    intro r0 r1 r2 r3 r4 HCP HDS
    dsimp only at r0 r1 r2 r3 r4 HCP HDS
    simp only [Nat.zero_add] at r0 r1 r2 r3 r4
    clear hc
    go_upto_region 6 with fail
    have HC1 := Lib.hid (HC.out.step ((Below.refl wr.heap.size wr).alloc (Nat.le_refl _) (.cells #[.slice y.Ab d.bytes.length y.cb, .slice y.Ah d.host.length y.ch, .slice y.Am d.mail.length y.cm, .slice y.An d.nums.length y.cn, .slice y.At d.texts.length y.ct] 34)))
    have HY1 := Lib.hid (Whole.made wr (cellsD (y, d)) 34)
    obtain ⟨W6, hW6⟩ : ∃ W6, W6 = wr.alloc (.cells #[.slice y.Ab d.bytes.length y.cb, .slice y.Ah d.host.length y.ch, .slice y.Am d.mail.length y.cm, .slice y.An d.nums.length y.cn, .slice y.At d.texts.length y.ct] 34) := ⟨_, rfl⟩
    rw [← hW6] at HC1
    have HY2 := Lib.hid (show Whole W6 wr.heap.size 34 (cellsD (y, d)) from by rw [hW6]; exact HY1.out)
    rw [← hW6]
    clear hW6 HY1 r0 r1 r2 r3 r4
    have HC2 := Lib.hid (HC1.out.step (Below.refl _ _).drew)
    have HY3 := Lib.hid (HY2.out.below (Below.refl W6.heap.size W6).drew HY2.out.lt)
    have HZ := Lib.hid (show wr.heap.size < W6.heap.size from HY2.out.lt)
    refine wp_region_held_drew (S := fun _ => True) (by kernel_rfl) (by trivial) (fun hHeld => ?_)
    refine wpAnyH_take (i := 0) (oi := ⟨some 29, _, _, _, _, _⟩) (v := ?_) rfl (by kernel_rfl) (by kernel_rfl) (by kernel_rfl) (fun _ _ _ h => h) (Or.inl ⟨by kernel_rfl, ?_⟩) (by assumption) ?_
    rotate_left
    · intro W hSw
      try dsimp only at hSw
      go_simp
      all_goals (with_reducible rfl)
    try simp only [Act.put, List.setIfInBounds_toArray, List.set_cons_zero, List.set_cons_succ]
    refine wpAnyH_take (i := 2) (oi := ⟨some 31, _, _, _, _, _⟩) (v := ?_) rfl (by kernel_rfl) (by kernel_rfl) (by kernel_rfl) (fun _ _ _ h => h) (Or.inl ⟨by kernel_rfl, ?_⟩) (by assumption) ?_
    rotate_left
    · intro W hSw
      try dsimp only at hSw
      go_simp
      all_goals (with_reducible rfl)
    try simp only [Act.put, List.setIfInBounds_toArray, List.set_cons_zero, List.set_cons_succ]
    refine wpAnyH_ready (rs := [1, 3]) (by kernel_rfl) (by simp) ?_
    refine AllReadyH.cons (o := ⟨some 30, _, _, _, _, _⟩) rfl (fun K hK => ?_) (AllReadyH.cons (o := ⟨some 32, _, _, _, _, _⟩) rfl (fun K hK => ?_) AllReadyH.nil)
    · have q6 : (W6.drew).cell? ⟨w.heap.size, 6, none⟩ = some (.slice (some ⟨g, 0, none⟩) x.sp.length c6) := HC2.out.a.x.a.cell 6
      go_simp
      refine hK.out _ _ (by trivial) (fun hHeld2 => ?_)
      clear hK K hHeld
      have hHeld := hHeld2
      clear hHeld2
      try simp only [Act.put, List.setIfInBounds_toArray, List.set_cons_zero, List.set_cons_succ]
      refine wpAnyH_ready (rs := [3]) (by kernel_rfl) (by simp) ?_
      refine AllReadyH.cons (o := ⟨some 32, _, _, _, _, _⟩) rfl (fun K hK => ?_) AllReadyH.nil
      have y0 : (W6.drew).cell? ⟨wr.heap.size, 0, none⟩ = some (.slice y.Ab d.bytes.length y.cb) := HY3.out.cell 0
      have y1 : (W6.drew).cell? ⟨wr.heap.size, 1, none⟩ = some (.slice y.Ah d.host.length y.ch) := HY3.out.cell 1
      have y2 : (W6.drew).cell? ⟨wr.heap.size, 2, none⟩ = some (.slice y.Am d.mail.length y.cm) := HY3.out.cell 2
      have y3 : (W6.drew).cell? ⟨wr.heap.size, 3, none⟩ = some (.slice y.An d.nums.length y.cn) := HY3.out.cell 3
      have y4 : (W6.drew).cell? ⟨wr.heap.size, 4, none⟩ = some (.slice y.At d.texts.length y.ct) := HY3.out.cell 4
      go_simp
      refine hK.out _ _ (by trivial) (fun hHeld2 => ?_)
      clear hK K hHeld
      have hHeld := hHeld2
      clear hHeld2
      try simp only [Act.put, List.setIfInBounds_toArray, List.set_cons_zero, List.set_cons_succ]
      refine wpAnyH_ready (rs := [4]) (by kernel_rfl) (by simp) ?_
      refine AllReadyH.cons (o := ⟨some 33, _, _, _, _, _⟩) rfl (fun K hK => ?_) AllReadyH.nil
      go_simp
      refine (HCP.out _ HC2.out.a.x.below).mono ?_
      rintro e w8 ⟨yd8, rfl, hyd, hb8⟩
      have HC8 := Lib.hid (HC2.out.step hb8)
      have HD8 := Lib.hid (hyd.monoB HC2.out.a.x.size)
      clear hyd hb8
      refine hK.out _ _ (by trivial) (fun hHeld2 => ?_)
      clear hK K hHeld
      have hHeld := hHeld2
      clear hHeld2
      try simp only [Act.put, List.setIfInBounds_toArray, List.set_cons_zero, List.set_cons_succ]
      refine wpAnyH_take (i := 5) (oi := ⟨some 34, _, _, _, _, _⟩) (v := ?_) rfl (by kernel_rfl) (by kernel_rfl) (by kernel_rfl) (fun _ _ _ h => h) (Or.inl ⟨by kernel_rfl, ?_⟩) (by assumption) ?_
      rotate_left
      · intro W hSw
        try dsimp only at hSw
        go_simp
        all_goals (with_reducible rfl)
      try simp only [Act.put, List.setIfInBounds_toArray, List.set_cons_zero, List.set_cons_succ]
      refine wpAnyH_ready (rs := [6]) (by kernel_rfl) (by simp) ?_
      refine AllReadyH.cons (o := ⟨none, _, _, _, _, _⟩) rfl (fun K hK => ?_) AllReadyH.nil
      refine wp_store_own 34 (.tmp 34) (.tmp 33) rfl g (qs.length * 5) (cellsD (yd8, d)) rfl rfl (w.heap.size + 2) 34 5 x.sp.length c6 _ HC8.out.s (by rw [length_flat cellsD_len]; show _ + 5 ≤ _; simp; omega) data_size (fun u hu => cellsD_one [(yd8, d)] u (by simpa using hu)) ?_
      intro w9 hV hG hZ
      have HC9 := Lib.hid (HC8.out.put rfl (q := (yd8, d)) HD8.out hlt hV hG hZ)
      clear hV hG hZ
      refine hK.out _ _ (by trivial) (fun hHeld2 => ?_)
      clear hK K hHeld
      have hHeld := hHeld2
      clear hHeld2
      try simp only [Act.put]
      refine wpAnyH_done (by kernel_rfl) ?_ _
      go_wp2
      exact ⟨⟨qs ++ [(yd8, d)], by simp; omega, by simp, by rw [List.length_append, List.length_singleton, HDS.out, dats_append, HD.out]; rfl, HC9.out⟩, by simp [intOf]; omega⟩
    · have y0 : (W6.drew).cell? ⟨wr.heap.size, 0, none⟩ = some (.slice y.Ab d.bytes.length y.cb) := HY3.out.cell 0
      have y1 : (W6.drew).cell? ⟨wr.heap.size, 1, none⟩ = some (.slice y.Ah d.host.length y.ch) := HY3.out.cell 1
      have y2 : (W6.drew).cell? ⟨wr.heap.size, 2, none⟩ = some (.slice y.Am d.mail.length y.cm) := HY3.out.cell 2
      have y3 : (W6.drew).cell? ⟨wr.heap.size, 3, none⟩ = some (.slice y.An d.nums.length y.cn) := HY3.out.cell 3
      have y4 : (W6.drew).cell? ⟨wr.heap.size, 4, none⟩ = some (.slice y.At d.texts.length y.ct) := HY3.out.cell 4
      go_simp
      refine hK.out _ _ (by trivial) (fun hHeld2 => ?_)
      clear hK K hHeld
      have hHeld := hHeld2
      clear hHeld2
      try simp only [Act.put, List.setIfInBounds_toArray, List.set_cons_zero, List.set_cons_succ]
      refine wpAnyH_ready (rs := [1, 4]) (by kernel_rfl) (by simp) ?_
      refine AllReadyH.cons (o := ⟨some 30, _, _, _, _, _⟩) rfl (fun K hK => ?_) (AllReadyH.cons (o := ⟨some 33, _, _, _, _, _⟩) rfl (fun K hK => ?_) AllReadyH.nil)
      · have q6 : (W6.drew).cell? ⟨w.heap.size, 6, none⟩ = some (.slice (some ⟨g, 0, none⟩) x.sp.length c6) := HC2.out.a.x.a.cell 6
        go_simp
        refine hK.out _ _ (by trivial) (fun hHeld2 => ?_)
        clear hK K hHeld
        have hHeld := hHeld2
        clear hHeld2
        try simp only [Act.put, List.setIfInBounds_toArray, List.set_cons_zero, List.set_cons_succ]
        refine wpAnyH_ready (rs := [4]) (by kernel_rfl) (by simp) ?_
        refine AllReadyH.cons (o := ⟨some 33, _, _, _, _, _⟩) rfl (fun K hK => ?_) AllReadyH.nil
        go_simp
        refine (HCP.out _ HC2.out.a.x.below).mono ?_
        rintro e w8 ⟨yd8, rfl, hyd, hb8⟩
        have HC8 := Lib.hid (HC2.out.step hb8)
        have HD8 := Lib.hid (hyd.monoB HC2.out.a.x.size)
        clear hyd hb8
        refine hK.out _ _ (by trivial) (fun hHeld2 => ?_)
        clear hK K hHeld
        have hHeld := hHeld2
        clear hHeld2
        try simp only [Act.put, List.setIfInBounds_toArray, List.set_cons_zero, List.set_cons_succ]
        refine wpAnyH_take (i := 5) (oi := ⟨some 34, _, _, _, _, _⟩) (v := ?_) rfl (by kernel_rfl) (by kernel_rfl) (by kernel_rfl) (fun _ _ _ h => h) (Or.inl ⟨by kernel_rfl, ?_⟩) (by assumption) ?_
        rotate_left
        · intro W hSw
          try dsimp only at hSw
          go_simp
          all_goals (with_reducible rfl)
        try simp only [Act.put, List.setIfInBounds_toArray, List.set_cons_zero, List.set_cons_succ]
        refine wpAnyH_ready (rs := [6]) (by kernel_rfl) (by simp) ?_
        refine AllReadyH.cons (o := ⟨none, _, _, _, _, _⟩) rfl (fun K hK => ?_) AllReadyH.nil
        refine wp_store_own 34 (.tmp 34) (.tmp 33) rfl g (qs.length * 5) (cellsD (yd8, d)) rfl rfl (w.heap.size + 2) 34 5 x.sp.length c6 _ HC8.out.s (by rw [length_flat cellsD_len]; show _ + 5 ≤ _; simp; omega) data_size (fun u hu => cellsD_one [(yd8, d)] u (by simpa using hu)) ?_
        intro w9 hV hG hZ
        have HC9 := Lib.hid (HC8.out.put rfl (q := (yd8, d)) HD8.out hlt hV hG hZ)
        clear hV hG hZ
        refine hK.out _ _ (by trivial) (fun hHeld2 => ?_)
        clear hK K hHeld
        have hHeld := hHeld2
        clear hHeld2
        try simp only [Act.put]
        refine wpAnyH_done (by kernel_rfl) ?_ _
        go_wp2
        exact ⟨⟨qs ++ [(yd8, d)], by simp; omega, by simp, by rw [List.length_append, List.length_singleton, HDS.out, dats_append, HD.out]; rfl, HC9.out⟩, by simp [intOf]; omega⟩
      · go_simp
        refine (HCP.out _ HC2.out.a.x.below).mono ?_
        rintro e w8 ⟨yd8, rfl, hyd, hb8⟩
        have HC8 := Lib.hid (HC2.out.step hb8)
        have HD8 := Lib.hid (hyd.monoB HC2.out.a.x.size)
        clear hyd hb8
        refine hK.out _ _ (by trivial) (fun hHeld2 => ?_)
        clear hK K hHeld
        have hHeld := hHeld2
        clear hHeld2
        try simp only [Act.put, List.setIfInBounds_toArray, List.set_cons_zero, List.set_cons_succ]
        refine wpAnyH_ready (rs := [1]) (by kernel_rfl) (by simp) ?_
        refine AllReadyH.cons (o := ⟨some 30, _, _, _, _, _⟩) rfl (fun K hK => ?_) AllReadyH.nil
        have q6 : (w8).cell? ⟨w.heap.size, 6, none⟩ = some (.slice (some ⟨g, 0, none⟩) x.sp.length c6) := HC8.out.a.x.a.cell 6
        go_simp
        refine hK.out _ _ (by trivial) (fun hHeld2 => ?_)
        clear hK K hHeld
        have hHeld := hHeld2
        clear hHeld2
        try simp only [Act.put, List.setIfInBounds_toArray, List.set_cons_zero, List.set_cons_succ]
        refine wpAnyH_take (i := 5) (oi := ⟨some 34, _, _, _, _, _⟩) (v := ?_) rfl (by kernel_rfl) (by kernel_rfl) (by kernel_rfl) (fun _ _ _ h => h) (Or.inl ⟨by kernel_rfl, ?_⟩) (by assumption) ?_
        rotate_left
        · intro W hSw
          try dsimp only at hSw
          go_simp
          all_goals (with_reducible rfl)
        try simp only [Act.put, List.setIfInBounds_toArray, List.set_cons_zero, List.set_cons_succ]
        refine wpAnyH_ready (rs := [6]) (by kernel_rfl) (by simp) ?_
        refine AllReadyH.cons (o := ⟨none, _, _, _, _, _⟩) rfl (fun K hK => ?_) AllReadyH.nil
        refine wp_store_own 34 (.tmp 34) (.tmp 33) rfl g (qs.length * 5) (cellsD (yd8, d)) rfl rfl (w.heap.size + 2) 34 5 x.sp.length c6 _ HC8.out.s (by rw [length_flat cellsD_len]; show _ + 5 ≤ _; simp; omega) data_size (fun u hu => cellsD_one [(yd8, d)] u (by simpa using hu)) ?_
        intro w9 hV hG hZ
        have HC9 := Lib.hid (HC8.out.put rfl (q := (yd8, d)) HD8.out hlt hV hG hZ)
        clear hV hG hZ
        refine hK.out _ _ (by trivial) (fun hHeld2 => ?_)
        clear hK K hHeld
        have hHeld := hHeld2
        clear hHeld2
        try simp only [Act.put]
        refine wpAnyH_done (by kernel_rfl) ?_ _
        go_wp2
        exact ⟨⟨qs ++ [(yd8, d)], by simp; omega, by simp, by rw [List.length_append, List.length_singleton, HDS.out, dats_append, HD.out]; rfl, HC9.out⟩, by simp [intOf]; omega⟩
  · have hqe : qs.length = x.sp.length := by omega
    have HQ' := Lib.hid (show dats qs = dats x.sp by have h := HD.out; rwa [hqe, List.take_length] at h)
    have u0 : wr.cell? ⟨w.heap.size, 0, none⟩ = some (.slice An x.name.length cn) := hc.a.x.a.cell 0
    have u1 : wr.cell? ⟨w.heap.size, 1, none⟩ = some (.int .i64 x.h.typ) := hc.a.x.a.cell 1
    have u2 : wr.cell? ⟨w.heap.size, 2, none⟩ = some (.int .i64 x.h.knd) := hc.a.x.a.cell 2
    have u3 : wr.cell? ⟨w.heap.size, 3, none⟩ = some (.int .i64 x.h.rank) := hc.a.x.a.cell 3
    have u4 : wr.cell? ⟨w.heap.size, 4, none⟩ = some (.int .i64 x.h.got) := hc.a.x.a.cell 4
    have u5 : wr.cell? ⟨w.heap.size, 5, none⟩ = some (.int .i64 x.h.ttl) := hc.a.x.a.cell 5
    have u6 : wr.cell? ⟨w.heap.size, 6, none⟩ = some (.slice A6 x.sp.length c6) := hc.a.x.a.cell 6
    have u7 : wr.cell? ⟨w.heap.size, 7, none⟩ = some (.slice Az x.zone.length cz) := hc.a.x.a.cell 7
    have u8 : wr.cell? ⟨w.heap.size, 8, none⟩ = some (.slice yd.Ab x.soa.bytes.length yd.cb) := hc.a.x.a.cell 8
    have u9 : wr.cell? ⟨w.heap.size, 9, none⟩ = some (.slice yd.Ah x.soa.host.length yd.ch) := hc.a.x.a.cell 9
    have u10 : wr.cell? ⟨w.heap.size, 10, none⟩ = some (.slice yd.Am x.soa.mail.length yd.cm) := hc.a.x.a.cell 10
    have u11 : wr.cell? ⟨w.heap.size, 11, none⟩ = some (.slice yd.An x.soa.nums.length yd.cn) := hc.a.x.a.cell 11
    have u12 : wr.cell? ⟨w.heap.size, 12, none⟩ = some (.slice yd.At x.soa.texts.length yd.ct) := hc.a.x.a.cell 12
    have HCE := Lib.hid (show cellsF ({ x with A := An, c := cn, zA := Az, zc := cz, d := yd, sA := A6, sc := c6, sp := qs } : FV) = cellsF ({ x with A := An, c := cn, zA := Az, zc := cz, d := yd, sA := A6, sc := c6 } : FV) from by unfold cellsF; rw [hqe])
    have HO11 := Lib.hid (show FOwn wr (w.heap.size + 2) ({ x with A := An, c := cn, zA := Az, zc := cz, d := yd, sA := A6, sc := c6, sp := qs } : FV) from ⟨hc.a.n, hc.a.z, hc.d, by have h := hc.s; rw [hqe, List.drop_length, List.append_nil] at h; show wr.ownsRow _ _ _ (.slice A6 qs.length c6) qs.length _; rw [hqe]; exact h, hc.e⟩)
    clear hc
    go_wp2_with (
      refine wpList_store_at rfl 36 (.tmp 2) (.tmp 36) rfl (w.heap.size + 1) 0 (cellsF ({ x with A := An, c := cn, zA := Az, zc := cz, d := yd, sA := A6, sc := c6 } : FV)) rfl rfl 36 _ HC.out.a.x.b (Nat.le_refl 13) fact_size (fun u hu => cellsF_one [({ x with A := An, c := cn, zA := Az, zc := cz, d := yd, sA := A6, sc := c6 } : FV)] u (by simpa using hu)) ?_
      intro w12 hV hG hZ
      have HV12 := Lib.hid (show Whole w12 (w.heap.size + 1) 36 (cellsF ({ x with A := An, c := cn, zA := Az, zc := cz, d := yd, sA := A6, sc := c6 } : FV)) from hV)
      have HB12 := Lib.hid (show Below w.heap.size w w12 from HC.out.a.x.below.trans ((Grew.below (B := w.heap.size + 1) hG (fun j hj => by rw [hj]; exact Nat.le_refl _) (by have := HC.out.a.x.size; omega)).mono (Nat.le_succ _)))
      have HO12 := Lib.hid (FOwn.monoB (B' := w.heap.size) (HO11.out.keepB fun g h1 h2 => hG.block g h2 (by omega)) (by omega))
      clear hV hG hZ
      have v0 : w12.cell? ⟨w.heap.size + 1, 0, none⟩ = some (.slice An x.name.length cn) := HV12.out.cell 0
      have v1 : w12.cell? ⟨w.heap.size + 1, 1, none⟩ = some (.int .i64 x.h.typ) := HV12.out.cell 1
      have v2 : w12.cell? ⟨w.heap.size + 1, 2, none⟩ = some (.int .i64 x.h.knd) := HV12.out.cell 2
      have v3 : w12.cell? ⟨w.heap.size + 1, 3, none⟩ = some (.int .i64 x.h.rank) := HV12.out.cell 3
      have v4 : w12.cell? ⟨w.heap.size + 1, 4, none⟩ = some (.int .i64 x.h.got) := HV12.out.cell 4
      have v5 : w12.cell? ⟨w.heap.size + 1, 5, none⟩ = some (.int .i64 x.h.ttl) := HV12.out.cell 5
      have v6 : w12.cell? ⟨w.heap.size + 1, 6, none⟩ = some (.slice A6 x.sp.length c6) := HV12.out.cell 6
      have v7 : w12.cell? ⟨w.heap.size + 1, 7, none⟩ = some (.slice Az x.zone.length cz) := HV12.out.cell 7
      have v8 : w12.cell? ⟨w.heap.size + 1, 8, none⟩ = some (.slice yd.Ab x.soa.bytes.length yd.cb) := HV12.out.cell 8
      have v9 : w12.cell? ⟨w.heap.size + 1, 9, none⟩ = some (.slice yd.Ah x.soa.host.length yd.ch) := HV12.out.cell 9
      have v10 : w12.cell? ⟨w.heap.size + 1, 10, none⟩ = some (.slice yd.Am x.soa.mail.length yd.cm) := HV12.out.cell 10
      have v11 : w12.cell? ⟨w.heap.size + 1, 11, none⟩ = some (.slice yd.An x.soa.nums.length yd.cn) := HV12.out.cell 11
      have v12 : w12.cell? ⟨w.heap.size + 1, 12, none⟩ = some (.slice yd.At x.soa.texts.length yd.ct) := HV12.out.cell 12)
    refine ⟨rfl, FV.val ({ x with A := An, c := cn, zA := Az, zc := cz, d := yd, sA := A6, sc := c6, sp := qs } : FV), ?_, ({ x with A := An, c := cn, zA := Az, zc := cz, d := yd, sA := A6, sc := c6, sp := qs } : FV), rfl, ?_, HO12.out, HB12.out⟩
    · simp [results, Tryz.results27, go_sem, v0, v1, v2, v3, v4, v5, v6, v7, v8, v9, v10, v11, v12, hqe]
    · show (⟨x.name, x.h, dats qs, x.zone, x.soa⟩ : Fc) = ⟨x.name, x.h, dats x.sp, x.zone, x.soa⟩
      rw [HQ'.out]

end Go.Proofs.YtmbcbfalgdgmjaaGreatDoor

namespace Go.Proofs.YtmbcbfalgdgmjaaGreatDoor
open Go.RowKit

/-- What may have changed: blocks of its own; what is its own then. -/
def MovedC (F : Nat → Prop) (w w' : World) (F' : Nat → Prop) : Prop := Grew F w w' ∧ ∀ j, F' j → F j ∨ w.heap.size ≤ j
/-- A fact's slices, and those of its data. -/
def FV.vals (x : FV) : List Value := [.slice x.A x.name.length x.c, .slice x.sA x.sp.length x.sc, .slice x.zA x.zone.length x.zc, x.d.vb x.soa, x.d.vh x.soa, x.d.vm x.soa, x.d.vn x.soa, x.d.vt x.soa] ++ x.sp.flatMap cellsD
/-- None of a fact's memory is one of these blocks. -/
def FV.offs (x : FV) (F : Nat → Prop) : Prop := ∀ v ∈ x.vals, ∀ g, v.ownBlock = some g → ¬ F g
/-- A fact of one's own, off a cache's blocks. -/
structure FSafe (w : World) (B : Nat) (F : Nat → Prop) (x : FV) : Prop where
  own : FOwn w B x
  off : x.offs F
theorem FV.mem0 (x : FV) : .slice x.A x.name.length x.c ∈ x.vals := by simp [FV.vals]
theorem FV.mem1 (x : FV) : .slice x.sA x.sp.length x.sc ∈ x.vals := by simp [FV.vals]
theorem FV.mem2 (x : FV) : .slice x.zA x.zone.length x.zc ∈ x.vals := by simp [FV.vals]
theorem FV.memd (x : FV) : ∀ v ∈ cellsD (x.d, x.soa), v ∈ x.vals := by
  intro v hv
  simp only [cellsD, List.mem_cons, List.not_mem_nil, or_false] at hv
  rcases hv with rfl | rfl | rfl | rfl | rfl <;> simp [FV.vals]
theorem FV.meme (x : FV) {p : DV × Dt} (hp : p ∈ x.sp) : ∀ v ∈ cellsD p, v ∈ x.vals := fun _ hv => List.mem_append_right _ (List.mem_flatMap.2 ⟨p, hp, hv⟩)
theorem OwnD.keptV {w w' : World} {B : Nat} {x : DV} {d : Dt} (h : OwnD w B x d) (hk : ∀ v ∈ cellsD (x, d), ∀ g, v.ownBlock = some g → g < w.heap.size → w'.heap[g]? = w.heap[g]?) : OwnD w' B x d :=
  ⟨own_keep h.b fun g e => hk _ (by simp [cellsD]) g e (h.b.lt g e).2, own_keep h.h fun g e => hk _ (by simp [cellsD]) g e (h.h.lt g e).2, own_keep h.m fun g e => hk _ (by simp [cellsD]) g e (h.m.lt g e).2, own_keep h.n fun g e => hk _ (by simp [cellsD]) g e (h.n.lt g e).2, own_keep h.t fun g e => hk _ (by simp [cellsD]) g e (h.t.lt g e).2⟩
theorem FOwn.keptV {w w' : World} {B : Nat} {x : FV} (h : FOwn w B x) (hk : ∀ v ∈ x.vals, ∀ g, v.ownBlock = some g → g < w.heap.size → w'.heap[g]? = w.heap[g]?) : FOwn w' B x :=
  ⟨own_keep h.n fun g e => hk _ x.mem0 g e (h.n.lt g e).2, own_keep h.z fun g e => hk _ x.mem2 g e (h.z.lt g e).2, h.d.keptV fun v hv => hk v (x.memd v hv), own_keep h.s fun g e => hk _ x.mem1 g e (h.s.lt g e).2, fun p hp => (h.e p hp).keptV fun v hv => hk v (x.meme hp v hv)⟩
/-- Its blocks are there. -/
theorem FOwn.vlt {w : World} {B : Nat} {x : FV} (h : FOwn w B x) : ∀ v ∈ x.vals, ∀ g, v.ownBlock = some g → B ≤ g ∧ g < w.heap.size := by
  intro v hv g e
  rcases List.mem_append.1 hv with hv | hv
  · simp only [List.mem_cons, List.not_mem_nil, or_false] at hv
    rcases hv with rfl | rfl | rfl | rfl | rfl | rfl | rfl | rfl
    · exact h.n.lt g e
    · exact h.s.lt g e
    · exact h.z.lt g e
    · exact h.d.b.lt g e
    · exact h.d.h.lt g e
    · exact h.d.m.lt g e
    · exact h.d.n.lt g e
    · exact h.d.t.lt g e
  · obtain ⟨p, hp, hv⟩ := List.mem_flatMap.1 hv
    have hd := h.e p hp
    simp only [cellsD, List.mem_cons, List.not_mem_nil, or_false] at hv
    rcases hv with rfl | rfl | rfl | rfl | rfl
    · exact hd.b.lt g e
    · exact hd.h.lt g e
    · exact hd.m.lt g e
    · exact hd.n.lt g e
    · exact hd.t.lt g e
theorem FSafe.step {w w' : World} {B : Nat} {F : Nat → Prop} {x : FV} (h : FSafe w B F x) (hb : Below w.heap.size w w') : FSafe w' B F x :=
  ⟨h.own.keptV fun _ _ _ _ hg => hb.block _ hg, h.off⟩
theorem FSafe.moved {w w' : World} {B : Nat} {F F' : Nat → Prop} {x : FV} (h : FSafe w B F x) (hm : MovedC F w w' F') : FSafe w' B F' x :=
  ⟨h.own.keptV fun v hv g e hg => hm.1.block g hg (h.off v hv g e), fun v hv g e hf => by
    rcases hm.2 g hf with h1 | h1
    · exact h.off v hv g e h1
    · have := (h.own.vlt v hv g e).2
      omega⟩
/-- What a call tells: the fact, or an empty one; what it tells is new memory and no cache's own. -/
def ToldC (w : World) (o : Option Fc) (F' : Nat → Prop) (v : Value) (w' : World) : Prop :=
  ∃ x : FV, v = .tuple #[x.val, .bool o.isSome] ∧ FSafe w' w.heap.size F' x ∧ (∀ f, o = some f → x.fact = f) ∧ (o = none → x.name = [] ∧ x.h = ⟨0, 0, 0, 0, 0⟩ ∧ x.sp = [] ∧ x.zone = [] ∧ emptyD x.soa = true)
/-- A call of a nil cache: an empty fact, and false. -/
def NilC (w : World) (e : Ending) (w' : World) : Prop := ∃ x : FV, e = .returned (.tuple #[x.val, .bool false]) ∧ Below w.heap.size w w'

/-- How often a cache may be used: far more than any law does. -/
def maxUses : Nat := 1000000
/-- What CacheMost wants of a cache. -/
structure CacheCore where
  Vars : World → Prop
  vars : ∀ {w w'}, Vars w → Below w.heap.size w w' → Vars w'
  At : World → Nat → Value → Ca → (Nat → Prop) → Nat → Prop
  at_own : ∀ {w b cv C F u}, At w b cv C F u → b ≤ w.heap.size ∧ ∀ j, F j → b ≤ j ∧ j < w.heap.size
  at_ok : ∀ {w b cv C F u}, At w b cv C F u → C.ok
  at_keep : ∀ {w w' b cv C F u}, At w b cv C F u → Below b w w' → (∀ j, F j → w'.heap[j]? = w.heap[j]?) → At w' b cv C F u
  new_ok : ∀ (w : World) (most window : Int), Vars w → 1 ≤ most → most ≤ 4096 → timeB window = true → Calls Tryz.prog 7 #[.int .i64 most, .int .i64 window] w
    (fun e w' => ∃ cv F, e = .returned (.tuple #[cv, .int .i64 0]) ∧ At w' w.heap.size cv ⟨most.toNat, window, []⟩ F 0 ∧ Below w.heap.size w w')
  put : ∀ {w b cv C F u}, At w b cv C F u → u < maxUses → ∀ (x : FV) (now : Int), FAt w w.heap.size x → FIn x → FewF x → (Lit.int .i64 now).wf = true → Calls Tryz.prog 11 #[cv, x.val, .int .i64 now] w
    (fun e w' => ∃ F', e = .returned (.bool (C.putB x.fact now)) ∧ At w' b cv (C.put x.fact now) F' (u + 1) ∧ MovedC F w w' F')
  look : ∀ {w b cv C F u}, At w b cv C F u → ∀ (A : Option Addr) (c : Nat) (n : List (List UInt8)) (k : Int), Row w w.heap.size A (n.map sv) → WideN n → n.length ≤ 300 → n.length ≤ c → (Lit.int .i64 k).wf = true → Calls Tryz.prog 10 #[cv, .slice A n.length c, .int .i64 k] w
    (fun e w' => ∃ v F', e = .returned v ∧ ToldC w (C.find n k) F' v w' ∧ At w' b cv C F' u ∧ MovedC F w w' F')
  get : ∀ {w b cv C F u}, At w b cv C F u → u < maxUses → ∀ (A : Option Addr) (c : Nat) (n : List (List UInt8)) (k now : Int), Row w w.heap.size A (n.map sv) → WideN n → n.length ≤ 300 → n.length ≤ c → (Lit.int .i64 k).wf = true → (Lit.int .i64 now).wf = true → Calls Tryz.prog 22 #[cv, .slice A n.length c, .int .i64 k, .int .i64 now] w
    (fun e w' => ∃ v F', e = .returned v ∧ ToldC w (C.getF n k now) F' v w' ∧ At w' b cv (C.use (C.getF n k now)) F' (u + 1) ∧ MovedC F w w' F')
  len : ∀ {w b cv C F u}, At w b cv C F u → Calls Tryz.prog 19 #[cv] w (Gave w (.int .i64 (C.list.length : Nat)))
/-- .. and CacheStale. -/
structure CacheOld extends CacheCore where
  old : ∀ {w b cv C F u}, At w b cv C F u → u < maxUses → ∀ (A : Option Addr) (c : Nat) (n : List (List UInt8)) (k now : Int), Row w w.heap.size A (n.map sv) → WideN n → n.length ≤ 300 → n.length ≤ c → (Lit.int .i64 k).wf = true → (Lit.int .i64 now).wf = true → Calls Tryz.prog 23 #[cv, .slice A n.length c, .int .i64 k, .int .i64 now] w
    (fun e w' => ∃ v F', e = .returned v ∧ ToldC w (C.oldF n k now) F' v w' ∧ At w' b cv (C.use (C.oldF n k now)) F' (u + 1) ∧ MovedC F w w' F')
structure CacheSpec extends CacheOld where
  lay : ∀ {w b cv C F u}, At w b cv C F u → u < maxUses → ∀ (x : FV), FAt w w.heap.size x → FIn x → FewF x → Calls Tryz.prog 15 #[cv, x.val] w
    (fun e w' => ∃ F', e = .returned (.bool (soundF x.fact)) ∧ At w' b cv (C.lay x.fact) F' (u + 1) ∧ MovedC F w w' F')
  flush : ∀ {w b cv C F u}, At w b cv C F u → ∀ (A : Option Addr) (c : Nat) (z : List (List UInt8)), Row w w.heap.size A (z.map sv) → WideN z → z.length ≤ 300 → z.length ≤ c → Calls Tryz.prog 17 #[cv, .slice A z.length c] w
    (fun e w' => ∃ F', e = .returned (.int .i64 ((C.list.length : Int) - ((C.flush z).list.length : Int))) ∧ At w' b cv (C.flush z) F' u ∧ MovedC F w w' F')
  copy : ∀ {w b cv C F u}, At w b cv C F u → Calls Tryz.prog 21 #[cv] w
    (fun e w' => ∃ cv2 F2 F', e = .returned cv2 ∧ At w' w.heap.size cv2 C F2 u ∧ At w' b cv C F' u ∧ MovedC F w w' F' ∧ ∀ j, F2 j → ¬ F' j)
  nil_get : ∀ (w : World) (A : Option Addr) (m c : Nat) (k now : Int), Calls Tryz.prog 22 #[.pointer none, .slice A m c, .int .i64 k, .int .i64 now] w (NilC w)
  nil_old : ∀ (w : World) (A : Option Addr) (m c : Nat) (k now : Int), Calls Tryz.prog 23 #[.pointer none, .slice A m c, .int .i64 k, .int .i64 now] w (NilC w)
  nil_look : ∀ (w : World) (A : Option Addr) (m c : Nat) (k : Int), Calls Tryz.prog 10 #[.pointer none, .slice A m c, .int .i64 k] w (NilC w)
  nil_put : ∀ (w : World) (x : FV) (now : Int), Calls Tryz.prog 11 #[.pointer none, x.val, .int .i64 now] w (Gave w (.bool false))
  nil_lay : ∀ (w : World) (x : FV), Calls Tryz.prog 15 #[.pointer none, x.val] w (Gave w (.bool false))
  nil_len : ∀ (w : World), Calls Tryz.prog 19 #[.pointer none] w (Gave w (.int .i64 0))
  nil_flush : ∀ (w : World) (A : Option Addr) (m c : Nat), Calls Tryz.prog 17 #[.pointer none, .slice A m c] w (Gave w (.int .i64 0))
  nil_all : ∀ (w : World), Calls Tryz.prog 16 #[.pointer none] w (fun e w' => ∃ A c, e = .returned (.slice A 0 c) ∧ Below w.heap.size w w')
  nil_copy : ∀ (w : World), Calls Tryz.prog 21 #[.pointer none] w (Gave w (.pointer none))
/-- .. and CacheFlushes. -/
structure CacheAll extends CacheSpec where
  all : ∀ {w b cv C F u}, At w b cv C F u → Calls Tryz.prog 16 #[cv] w
    (fun e w' => ∃ A c xs F', e = .returned (.slice A xs.length c) ∧ w'.ownsRow w.heap.size 36 13 (.slice A xs.length c) xs.length (xs.flatMap cellsF) ∧ (∀ g, (Value.slice A xs.length c).ownBlock = some g → ¬ F' g) ∧ (∀ x ∈ xs, FSafe w' w.heap.size F' x) ∧ facts xs = C.list ∧ At w' b cv C F' u ∧ MovedC F w w' F')

section
variable {L : CacheCore} {w w' : World} {b : Nat} {cv : Value} {C : Ca} {F F' : Nat → Prop} {u : Nat}
theorem CacheCore.at_below (h : L.At w b cv C F u) (hb : Below w.heap.size w w') : L.At w' b cv C F u := by
  obtain ⟨h1, h2⟩ := L.at_own h
  exact L.at_keep h (hb.mono h1) fun j hj => hb.block j (h2 j hj).2
theorem MovedC.below (h : MovedC F w w' F') (hF : ∀ j, F j → b ≤ j) (hb : b ≤ w.heap.size) : Below b w w' := h.1.below hF hb
theorem MovedC.whole (h : MovedC F w w' F') {g : Nat} {t : TypeId} {X : List Value} (hw : Whole w g t X) (hf : ¬ F g) : Whole w' g t X := (h.1.block g hw.lt hf).trans hw
end

end Go.Proofs.YtmbcbfalgdgmjaaGreatDoor

namespace Go.Proofs.YtmbcbfalgdgmjaaGreatDoor
open Go.RowKit

/-- An item: its block, its fact, the number of its last use. -/
structure Im where
  g : Nat
  x : FV
  u : Nat
def cellsI (i : Im) : List Value := cellsF i.x ++ [.int .i64 i.u]
theorem cellsI_len (i : Im) : (cellsI i).length = 14 := rfl
def Im.key (i : Im) : List UInt8 := keyF i.x.fact
/-- A pointer to an item, or none. -/
def itv : Option Im → Value
  | none => .pointer none
  | some i => .pointer (some ⟨i.g, 0, none⟩)
/-- How a pointer to an item reads in a map. -/
def ptrE : Value → Option (DataW Unit × List MemPlace)
  | .pointer none => some (.lit (.bool false), [])
  | .pointer (some ⟨g, 0, none⟩) => some (.lit (.int .i64 g), [])
  | _ => none
theorem ptrE_inv {v : Value} {y : DataW Unit × List MemPlace} (h : ptrE v = some y) : (v = .pointer none ∧ y = (.lit (.bool false), [])) ∨ ∃ g : Nat, v = .pointer (some ⟨g, 0, none⟩) ∧ y = (.lit (.int .i64 g), []) := by
  unfold ptrE at h
  split at h
  · exact .inl ⟨rfl, (Option.some.inj h).symm⟩
  · exact .inr ⟨_, rfl, (Option.some.inj h).symm⟩
  · cases h
theorem ptr_keyed : Maps.Keyed Tryz.prog 9 := Maps.string_keyed Tryz.underlying9
theorem ptr_key {l : List UInt8} (h : l.length ≤ maxLen) : keyOf Tryz.prog 9 (.string ⟨l.toArray⟩) = some (.string l) := by
  have h1 := WideMaps.keyOf_string_mk (P := Tryz.prog) Tryz.underlying9 (s := ⟨l.toArray⟩) (by simpa [ByteArray.size] using h)
  simpa using h1
theorem ptr_zero (w : World) : (zeroValue 58).run Tryz.prog w = .ok (.pointer none) w := by kernel_rfl

/-- The item of a key. -/
def findI (its : List Im) (l : List UInt8) : Option Im := its.find? fun i => decide (i.key = l)
def restI (its : List Im) (l : List UInt8) : List Im := its.filter fun i => !decide (i.key = l)
/-- What the map says. -/
structure HasI (D : DataW Unit) (its : List Im) : Prop where
  m : Maps.Tidy D
  has : ∀ l, Maps.has D (.string l) = its.any fun i => decide (i.key = l)
  at_ : ∀ i ∈ its, ∀ z, D.atKey (.string i.key) z = .lit (.int .i64 i.g)
  size : Maps.size D = its.length
/-- A cache in memory. -/
structure CMem (w : World) (b cb mb most : Nat) (window : Int) (uses : Nat) (its : List Im) : Prop where
  cge : b ≤ cb
  mge : b ≤ mb
  blk : Whole w cb 57 [.int .i64 most, .int .i64 window, .int .i64 uses, .map (some mb)]
  map : ∃ D, w.ownsMap Tryz.prog 9 ptrE mb its.length D ∧ HasI D its
  ige : ∀ i ∈ its, b ≤ i.g
  item : ∀ i ∈ its, Whole w i.g 61 (cellsI i)
  own : ∀ i ∈ its, FOwn w b i.x
  used : its.Pairwise fun i j => i.u < j.u
  last : ∀ i ∈ its, i.u ≤ uses
  keys : its.Pairwise fun i j => i.key ≠ j.key
  snd : ∀ i ∈ its, soundF i.x.fact = true
  pows : PowsAt b w
/-- The blocks that are its own. -/
def Foot (cb mb : Nat) (its : List Im) (j : Nat) : Prop := j = cb ∨ j = mb ∨ ∃ i ∈ its, j = i.g ∨ ∃ v ∈ i.x.vals, v.ownBlock = some j

theorem ownsMap_size {w : World} {b n : Nat} {D : DataW Unit} {R : Value → Option (DataW Unit × List MemPlace)} {P : Program} {k : TypeId} (h : w.ownsMap P k R b n D) : w.ownsMap P k R b (Maps.size D) D := by
  obtain ⟨es, clock, hb, F, hs, hD⟩ := h
  refine ⟨es, clock, hb, F, ?_, hD⟩
  rw [hD]
  simp [Maps.size, length_sorted]
theorem ownsMap_keepB {w w' : World} {P : Program} {k : TypeId} {R : Value → Option (DataW Unit × List MemPlace)} {b n : Nat} {D : DataW Unit} (h : w.ownsMap P k R b n D) (hk : w'.heap[b]? = w.heap[b]?) : w'.ownsMap P k R b n D := by
  obtain ⟨es, clock, hb, r⟩ := h
  exact ⟨es, clock, hk.trans hb, r⟩

section
variable {w w' : World} {b cb mb most uses : Nat} {window : Int} {its : List Im}
theorem CMem.mlt (h : CMem w b cb mb most window uses its) : mb < w.heap.size := by
  obtain ⟨D, hD, _⟩ := h.map
  exact hD.lt
theorem CMem.low (h : CMem w b cb mb most window uses its) : b ≤ w.heap.size := by have := h.cge; have := h.blk.lt; omega
theorem CMem.keep (h : CMem w b cb mb most window uses its) (hb : Below b w w') (hk : ∀ j, Foot cb mb its j → w'.heap[j]? = w.heap[j]?) : CMem w' b cb mb most window uses its :=
  ⟨h.cge, h.mge, (hk cb (.inl rfl)).trans h.blk, by
    obtain ⟨D, hD, hh⟩ := h.map
    exact ⟨D, ownsMap_keepB hD (hk mb (.inr (.inl rfl))), hh⟩, h.ige, fun i hi => (hk i.g (.inr (.inr ⟨i, hi, .inl rfl⟩))).trans (h.item i hi),
    fun i hi => (h.own i hi).keptV fun v hv g e _ => hk g (.inr (.inr ⟨i, hi, .inr ⟨v, hv, e⟩⟩)), h.used, h.last, h.keys, h.snd, h.pows.next hb⟩
theorem CMem.foot (h : CMem w b cb mb most window uses its) : ∀ j, Foot cb mb its j → b ≤ j ∧ j < w.heap.size := by
  rintro j (rfl | rfl | ⟨i, hi, rfl | ⟨v, hv, e⟩⟩)
  · exact ⟨h.cge, h.blk.lt⟩
  · exact ⟨h.mge, h.mlt⟩
  · exact ⟨h.ige i hi, (h.item i hi).lt⟩
  · exact (h.own i hi).vlt v hv j e
theorem CMem.step (h : CMem w b cb mb most window uses its) (hb : Below w.heap.size w w') : CMem w' b cb mb most window uses its :=
  h.keep (hb.mono h.low) fun j hj => hb.block j (h.foot j hj).2
theorem findI_mem {l : List UInt8} {i : Im} (h : findI its l = some i) : i ∈ its ∧ i.key = l := ⟨List.mem_of_find?_eq_some h, by have := List.find?_some h; simpa using this⟩
theorem findI_none {l : List UInt8} (h : findI its l = none) : its.any (fun i => decide (i.key = l)) = false := by
  unfold findI at h
  rw [List.find?_eq_none] at h
  rw [List.any_eq_false]
  exact h
set_option maxRecDepth 8000 in
/-- What a look into the map answers. -/
theorem CMem.look (h : CMem w b cb mb most window uses its) {l : List UInt8} (hl : l.length ≤ maxLen) : (Instr.lookup 55 (.map (some mb)) (.string ⟨l.toArray⟩) false).run Tryz.prog w = .ok (itv (findI its l)) w := by
  obtain ⟨D, hD, hh⟩ := h.map
  obtain ⟨v, ps, hrun, hv⟩ := hD.lookup ptr_keyed Tryz.underlying55 (ptr_zero w) (zd := .lit (.bool false)) (zp := []) rfl (ptr_key hl)
  rw [hrun]
  congr 1
  cases hf : findI its l with
  | none =>
    have h1 : Maps.has D (.string l) = false := by rw [hh.has]; exact findI_none hf
    rw [Maps.atKey_of_not_has h1] at hv
    rcases ptrE_inv hv with ⟨rfl, _⟩ | ⟨g, _, e⟩
    · rfl
    · simp at e
  | some i =>
    obtain ⟨hi, rfl⟩ := findI_mem hf
    rw [hh.at_ i hi] at hv
    rcases ptrE_inv hv with ⟨_, e⟩ | ⟨g, rfl, e⟩
    · simp at e
    · simp at e
      show _ = Value.pointer (some ⟨i.g, 0, none⟩)
      rw [Int.ofNat.inj e.1]
end

/-- The cache that a list of facts is, in memory. -/
def CAt (w : World) (b : Nat) (cv : Value) (C : Ca) (F : Nat → Prop) (u : Nat) : Prop :=
  ∃ (cb mb uses : Nat) (its : List Im), cv = .pointer (some ⟨cb, 0, none⟩) ∧ CMem w b cb mb C.most C.window uses its ∧ C.list = its.map (fun i => i.x.fact) ∧ C.ok ∧ uses ≤ u ∧ F = Foot cb mb its
theorem keys_of_ok {C : Ca} {its : List Im} (hl : C.list = its.map fun i => i.x.fact) (h : C.ok) : its.Pairwise fun i j => i.key ≠ j.key := by
  have hk := h.k
  have hs := h.s
  rw [hl] at hk hs
  rw [List.pairwise_map] at hk
  refine hk.imp_of_mem fun {i j} hi hj hh e => ?_
  have s1 := hs _ (List.mem_map.2 ⟨i, hi, rfl⟩)
  have s2 := hs _ (List.mem_map.2 ⟨j, hj, rfl⟩)
  rw [keyB_keyS s2 (soundF_name s1)] at hh
  have hn := of_decide_eq_false hh
  exact hn e.symm
/-- What is found of a name and a type. -/
theorem find_its {C : Ca} {its : List Im} (hl : C.list = its.map fun i => i.x.fact) (h : C.ok) {n : List (List UInt8)} (hn : soundN n = true) (k : Int) : C.find n k = (findI its (keyS n k)).map fun i => i.x.fact := by
  have hs := h.s
  unfold Ca.find findI
  rw [hl] at hs ⊢
  rw [List.find?_map]
  congr 1
  clear hl h
  induction its with
  | nil => rfl
  | cons i its ih =>
    have s1 := hs i.x.fact List.mem_cons_self
    rw [List.find?_cons, List.find?_cons, ih fun f hf => hs f (List.mem_cons_of_mem _ hf)]
    show (match keyB n k i.x.fact with | true => some i | false => _) = _
    rw [keyB_keyS s1 hn]
    rfl

end Go.Proofs.YtmbcbfalgdgmjaaGreatDoor

namespace Go.Proofs.YtmbcbfalgdgmjaaGreatDoor
open Go.RowKit

theorem wp_run {P : Program} {w w' : World} {o : Oper} {a : Act} {K : Act → World → Prop} {Q : Exit → Act → World → Prop} (t : TypeId) (m x : Operand) (ho : o.op = .lookup t m x false) (mv key v : Value) (hm : a.eval m = mv) (hx : a.eval x = key)
    (hr : (Instr.lookup t mv key false).run P w = .ok v w') (h : K (a.put o.dst v) w') : o.wp P a w K Q := by
  unfold Oper.wp
  simp [execOp, ho, hm, hx, hr, Result.andThen]
  exact h
def kindV (A : Option Addr) (c : Nat) (n : List (List UInt8)) (k : Int) : FV := ⟨A, c, n, ⟨k, 0, 0, 0, 0⟩, none, 0, [], none, 0, [], emptyV, emptyT⟩
/-- What is there of a name and a type. -/
def atI (its : List Im) (n : List (List UInt8)) (k : Int) : Option Im := if soundN n = true then findI its (keyS n k) else none
theorem atI_no {its : List Im} {n : List (List UInt8)} {k : Int} (h : soundN n = false) : atI its n k = none := by unfold atI; rw [h]; rfl
theorem atI_yes {its : List Im} {n : List (List UInt8)} {k : Int} (h : soundN n = true) : atI its n k = findI its (keyS n k) := by unfold atI; rw [if_pos h]
theorem key_len {n : List (List UInt8)} {k : Int} (hn : soundN n = true) (hk : (Lit.int .i64 k).wf = true) : (keyS n k).length ≤ maxLen := by
  have h1 := itoa_len hk
  have h2 : (textA (lowN n)).length ≤ 1020 := by
    have nz := (soundN_parts hn).2
    unfold textA
    split
    · simp
    · have h1 := length_textN (lowN n)
      rw [szN_lowN] at h1
      omega
  unfold keyS maxLen
  simp only [List.length_append, List.length_cons]
  omega

set_option maxRecDepth 20000 in
set_option maxHeartbeats 2000000 in
theorem at_any {w : World} {b cb mb most uses : Nat} {window : Int} {its : List Im} (h : CMem w b cb mb most window uses its) (A : Option Addr) (c : Nat) (n : List (List UInt8)) (k : Int) (hn : Row w w.heap.size A (n.map sv)) (hw : WideN n) (hl : n.length ≤ 300) (hk : (Lit.int .i64 k).wf = true) :
    Calls Tryz.prog 26 #[.pointer (some ⟨cb, 0, none⟩), .slice A n.length c, .int .i64 k] w (Gave w (itv (atI its n k))) := by
  have HN := Lib.hid (fun W (hb : Below w.heap.size w W) => sound_wide A n.length c w.heap.size n W rfl (hn.below hb) (by omega) hw.2)
  have HM := Lib.hid (fun W (hb : Below w.heap.size w W) => h.step hb)
  have HKY := Lib.hid (fun W (hb : Below w.heap.size w W) (hs : soundN n = true) => key_any W b (h.pows.next (hb.mono h.low)) (Nat.le_trans h.low hb.size) (kindV A c n k) ((hn.below hb).mono hb.size) hs hk)
  have HL := Lib.hid (fun (hs : soundN n = true) => key_len hs hk)
  have HA := Lib.hid (show soundN n = false → atI its n k = none from atI_no)
  have HA2 := Lib.hid (show soundN n = true → atI its n k = findI its (keyS n k) from atI_yes)
  clear h hn hw hk
  generalize atI its n k = o at HA HA2 ⊢
  go_enter Tryz.func26, Tryz.ntmps26
  go_wp2_with fail
  refine (HN.out w (Below.refl _ _)).mono ?_
  rintro e w1 ⟨rfl, rfl⟩
  cases hs : soundN n with
  | false =>
    go_wp2
    go_ret
    exact ⟨by rw [HA.out hs]; rfl, Below.refl _ _⟩
  | true =>
  have HS := Lib.hid hs
  clear hs
  go_upto_region 3 with fail
  have c3 : (w.drew).cell? ⟨cb, 3, none⟩ = some (.map (some mb)) := (HM.out _ (Below.refl _ _).drew).blk.cell 3
  refine wp_region_held_drew (S := fun W => W.cell? ⟨cb, 3, none⟩ = some (.map (some mb))) (by kernel_rfl) (by exact c3) (fun hHeld => ?_)
  refine wpAnyH_take (i := 0) (oi := ⟨some 10, _, _, _, _, _⟩) (v := ?_) rfl (by kernel_rfl) (by kernel_rfl) (by kernel_rfl) (fun _ _ _ h => h) (Or.inl ⟨by kernel_rfl, ?_⟩) (by assumption) ?_
  rotate_left
  · intro W hSw
    try dsimp only at hSw
    go_simp
    all_goals (with_reducible rfl)
  try simp only [Act.put, List.setIfInBounds_toArray, List.set_cons_zero, List.set_cons_succ]
  refine wpAnyH_take (i := 1) (oi := ⟨some 11, _, _, _, _, _⟩) (v := ?_) rfl (by kernel_rfl) (by kernel_rfl) (by kernel_rfl) (fun _ _ _ h => h) (Or.inl ⟨by kernel_rfl, ?_⟩) (by assumption) ?_
  rotate_left
  · intro W hSw
    try dsimp only at hSw
    go_simp
    all_goals (with_reducible rfl)
  try simp only [Act.put, List.setIfInBounds_toArray, List.set_cons_zero, List.set_cons_succ]
  refine wpAnyH_take (i := 2) (oi := ⟨some 12, _, _, _, _, _⟩) (v := ?_) rfl (by kernel_rfl) (by kernel_rfl) (by kernel_rfl) (fun _ _ _ h => h) (Or.inl ⟨by kernel_rfl, ?_⟩) (by assumption) ?_
  rotate_left
  · intro W hSw
    try dsimp only at hSw
    go_simp
    all_goals (with_reducible rfl)
  try simp only [Act.put, List.setIfInBounds_toArray, List.set_cons_zero, List.set_cons_succ]
  refine wpAnyH_take (i := 3) (oi := ⟨some 13, _, _, _, _, _⟩) (v := ?_) rfl (by kernel_rfl) (by kernel_rfl) (by kernel_rfl) (fun _ _ _ h => h) (Or.inl ⟨by kernel_rfl, ?_⟩) (by assumption) ?_
  rotate_left
  · intro W hSw
    try dsimp only at hSw
    go_simp
    all_goals (with_reducible rfl)
  try simp only [Act.put, List.setIfInBounds_toArray, List.set_cons_zero, List.set_cons_succ]
  refine wpAnyH_take (i := 4) (oi := ⟨some 14, _, _, _, _, _⟩) (v := ?_) rfl (by kernel_rfl) (by kernel_rfl) (by kernel_rfl) (fun _ _ _ h => h) (Or.inl ⟨by kernel_rfl, ?_⟩) (by assumption) ?_
  rotate_left
  · intro W hSw
    try dsimp only at hSw
    go_simp
    all_goals (with_reducible rfl)
  try simp only [Act.put, List.setIfInBounds_toArray, List.set_cons_zero, List.set_cons_succ]
  refine wpAnyH_take (i := 5) (oi := ⟨some 15, _, _, _, _, _⟩) (v := ?_) rfl (by kernel_rfl) (by kernel_rfl) (by kernel_rfl) (fun _ _ _ h => h) (Or.inl ⟨by kernel_rfl, ?_⟩) (by assumption) ?_
  rotate_left
  · intro W hSw
    try dsimp only at hSw
    go_simp
    all_goals (with_reducible rfl)
  try simp only [Act.put, List.setIfInBounds_toArray, List.set_cons_zero, List.set_cons_succ]
  refine wpAnyH_take (i := 6) (oi := ⟨some 16, _, _, _, _, _⟩) (v := ?_) rfl (by kernel_rfl) (by kernel_rfl) (by kernel_rfl) (fun _ _ _ h => h) (Or.inl ⟨by kernel_rfl, ?_⟩) (by assumption) ?_
  rotate_left
  · intro W hSw
    try dsimp only at hSw
    go_simp
    all_goals (with_reducible rfl)
  try simp only [Act.put, List.setIfInBounds_toArray, List.set_cons_zero, List.set_cons_succ]
  refine wpAnyH_ready (rs := [7]) (by kernel_rfl) (by simp) ?_
  refine AllReadyH.cons (o := { dst := some 17, op := Go.Op.call { callee := Go.Callee.value (Go.Operand.func 51), args := #[Go.Operand.tmp 16], argTypes := #[36] }, type := 9, pos := "item.go:77", after := #[{ on := 6, ground := Go.Ground.data }], guard := none }) rfl (fun K hK => ?_) AllReadyH.nil
  go_simp
  refine (HKY.out _ (Below.refl _ _).drew HS.out).mono ?_
  rintro e w7 ⟨rfl, hb7⟩
  have HB7 := Lib.hid (show Below w.heap.size w w7 from (Below.refl _ _).drew.trans hb7)
  clear hb7
  refine hK.out _ _ (by exact (HM.out _ HB7.out).blk.cell 3) (fun hHeld2 => ?_)
  clear hK K hHeld
  have hHeld := hHeld2
  clear hHeld2
  try simp only [Act.put, List.setIfInBounds_toArray, List.set_cons_zero, List.set_cons_succ]
  refine wpAnyH_ready (rs := [8]) (by kernel_rfl) (by simp) ?_
  refine AllReadyH.cons (o := { dst := some 18, op := Go.Op.lookup 55 (Go.Operand.tmp 13) (Go.Operand.tmp 17) false, type := 58, pos := "item.go:77", after := #[{ on := 3, ground := Go.Ground.data }, { on := 7, ground := Go.Ground.data }], guard := none }) rfl (fun K hK => ?_) AllReadyH.nil
  refine wp_run 55 (.tmp 13) (.tmp 17) rfl _ _ _ rfl rfl ((HM.out _ HB7.out).look (HL.out HS.out)) ?_
  refine hK.out _ _ (by exact (HM.out _ HB7.out).blk.cell 3) (fun hHeld2 => ?_)
  clear hK K hHeld
  have hHeld := hHeld2
  clear hHeld2
  try simp only [Act.put, List.setIfInBounds_toArray, List.set_cons_zero, List.set_cons_succ]
  refine wpAnyH_take (i := 9) (oi := ⟨some 6, _, _, _, _, _⟩) (v := ?_) rfl (by kernel_rfl) (by kernel_rfl) (by kernel_rfl) (fun _ _ _ h => h) (Or.inl ⟨by kernel_rfl, ?_⟩) (by assumption) ?_
  rotate_left
  · intro W hSw
    try dsimp only at hSw
    go_simp
    all_goals (with_reducible rfl)
  try simp only [Act.put, List.setIfInBounds_toArray, List.set_cons_zero, List.set_cons_succ]
  refine wpAnyH_done (by kernel_rfl) ?_ _
  go_wp2
  go_ret
  exact ⟨by rw [HA2.out HS.out]; rfl, HB7.out⟩

theorem zint_one : (Tryz.prog.info? 3).map (·.size) = some 1 := by kernel_rfl
/-- What use leaves. -/
def Used (w : World) (cb g : Nat) (m s mp : Value) (uses : Nat) (L : List Value) (w' : World) : Prop :=
  Whole w' cb 57 [m, s, .int .i64 (uses + 1 : Nat), mp] ∧ Whole w' g 61 (L.set 13 (.int .i64 (uses + 1 : Nat))) ∧ Grew (fun j => j = cb ∨ j = g) w w' ∧ w'.heap.size = w.heap.size
set_option maxRecDepth 20000 in
set_option maxHeartbeats 1000000 in
theorem use_any (w : World) (cb g uses : Nat) (m s mp v : Value) (L : List Value) (hc : Whole w cb 57 [m, s, .int .i64 uses, mp]) (hi : Whole w g 61 L) (hL : L[13]? = some v) (hu : uses ≤ 2000000) :
    Calls Tryz.prog 58 #[.pointer (some ⟨cb, 0, none⟩), .pointer (some ⟨g, 0, none⟩)] w (fun e w' => e = .returned (.tuple #[]) ∧ Used w cb g m s mp uses L w') := by
  have hne : cb ≠ g := fun e => by
    subst e
    unfold Whole at hc hi
    rw [hc] at hi
    injection hi with hi
    injection hi with _ hi _
    exact absurd hi (by decide)
  have c2 : w.cell? ⟨cb, 2, none⟩ = some (.int .i64 uses) := hc.cell 2
  have HC := Lib.hid hc
  have HI := Lib.hid hi
  have HL := Lib.hid hL
  clear hc hi hL
  go_enter Tryz.func58, Tryz.ntmps58
  go_wp2_with (first
    | (refine wpList_store_one rfl 3 (.tmp 10) (.tmp 8) rfl cb 2 (.int .i64 (uses + 1 : Nat)) rfl (by simp [Act.eval]) rfl zint_one 57 _ HC.out _ rfl ?_
       intro w1 hV hG hZ
       have HC1 := Lib.hid (show Whole w1 cb 57 [m, s, .int .i64 (uses + 1 : Nat), mp] from hV)
       have HI1 := Lib.hid (show Whole w1 g 61 L from (hG.block g HI.out.lt (fun e => hne e.symm)).trans HI.out)
       have HG1 := Lib.hid hG
       have HZ1 := Lib.hid hZ
       have c2 : w1.cell? ⟨cb, 2, none⟩ = some (.int .i64 (uses + 1 : Nat)) := hV.cell 2
       clear hV hG hZ)
    | (refine wpList_store_one rfl 3 (.tmp 17) (.tmp 15) rfl g 13 (.int .i64 (uses + 1 : Nat)) rfl rfl rfl zint_one 61 _ HI1.out _ HL.out ?_
       intro w2 hV hG hZ
       have HC2 := Lib.hid ((hG.block cb HC1.out.lt hne).trans HC1.out)
       have HI2 := Lib.hid hV
       have HG2 := Lib.hid (show Grew (fun j => j = cb ∨ j = g) w w2 from (HG1.out.mono fun j hj => .inl (.inl hj)).trans hG fun j hj => .inl (.inr hj))
       have HZ2 := Lib.hid (hZ.trans HZ1.out)
       clear hV hG hZ))
  go_end0
  exact ⟨rfl, HC2.out, HI2.out, HG2.out, HZ2.out⟩

end Go.Proofs.YtmbcbfalgdgmjaaGreatDoor
