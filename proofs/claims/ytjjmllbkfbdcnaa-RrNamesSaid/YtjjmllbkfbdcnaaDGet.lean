/-
  The contract of rdata.Get.
-/
import Derived.Test.YtjjmllbkfbdcnaaDCatch
namespace Go.Proofs.Ytjjmllbkfbdcnaa
open Go.RowKit

theorem makeFunc_run (fn : Fn) (first cap : Array Value) (w : World) : (Instr.makeFunc fn first cap).run Try.prog w = .ok (.func fn first cap) w := rfl

set_option maxRecDepth 20000 in
set_option maxHeartbeats 2000000 in
theorem dget_fine (A : Option Addr) (m cap : Nat) (b : List UInt8) (p s : Nat) (kind : Int) (w : World) (hbl : b.length = m) (hrow : Row w w.heap.size A (b.map bc)) (hm : m ≤ cap) (hc : cap ≤ maxLen) (hk : kindB kind = true) (hs : p + s ≤ m) :
    Calls Try.prog 41 #[.slice A m cap, .int .i64 p, .int .i64 s, .int .i64 kind] w (GotD w (match readD b p (p + s) (shN kind) with | .ok d => (d, 0) | .error k => (⟨[], [], [], [], []⟩, k))) := by
  have hmf := makeFunc_run
  have hc2 := hc
  unfold maxLen at hc2
  have HIK := Lib.hid (fun W => isKind_any kind W)
  rw [hk] at HIK
  have HSH := Lib.hid (fun W => shapeOf_any kind W)
  have d1 : decide ((p : Int) < 0) = false := by simp
  have d2 : decide ((s : Int) < 0) = false := by simp
  have d3 : decide ((m : Int) - (p : Int) < (s : Int)) = false := by simp; omega
  have HD := Lib.hid (fun W g base hr hw hbg => data_any W g A m cap base b p (p + s) kind hr hbl hw hbg hm hc hs (Nat.le_add_right _ _))
  have HW := Lib.hid hrow
  obtain ⟨r, hr⟩ : ∃ r, r = readD b p (p + s) (shN kind) := ⟨_, rfl⟩
  rw [← hr] at HD ⊢
  clear hr hrow hbl hk
  go_enter_defers Try.func41, Try.ntmps41
  go_wp2_with fail
  refine (HIK.out _).mono ?_
  rintro e w' ⟨rfl, rfl⟩
  go_wp2_with fail
  obtain ⟨W0, hW0⟩ : ∃ W0, W0 = ((w.alloc (.cells #[.slice none 0 0, .slice none 0 0, .slice none 0 0, .slice none 0 0, .slice none 0 0] 26)).alloc (.cells #[.int .i64 0] 37)).alloc (.cells #[.slice A m cap, .int .i64 p, .int .i64 ((p : Int) + (s : Int))] 113) := ⟨_, rfl⟩
  rw [← hW0]
  have hd : Whole W0 w.heap.size 26 [.slice none 0 0, .slice none 0 0, .slice none 0 0, .slice none 0 0, .slice none 0 0] := by
    rw [hW0]
    exact ((Whole.made w [.slice none 0 0, .slice none 0 0, .slice none 0 0, .slice none 0 0, .slice none 0 0] _).alloc _).alloc _
  have he : Whole W0 (w.heap.size + 1) 37 [.int .i64 0] := by
    rw [hW0]
    have := Whole.made (w.alloc (.cells #[.slice none 0 0, .slice none 0 0, .slice none 0 0, .slice none 0 0, .slice none 0 0] 26)) [.int .i64 0] 37
    refine Whole.alloc ?_ _
    simpa using this
  have hrb : RB W0 (w.heap.size + 1 + 1) (.slice A m cap) p (p + s) := by
    rw [hW0]
    have := Whole.made ((w.alloc (.cells #[.slice none 0 0, .slice none 0 0, .slice none 0 0, .slice none 0 0, .slice none 0 0] 26)).alloc (.cells #[.int .i64 0] 37)) [.slice A m cap, .int .i64 p, .int .i64 ((p : Int) + (s : Int))] 113
    unfold RB
    rw [Int.natCast_add]
    simpa using this
  have hb : Below w.heap.size w W0 := by
    rw [hW0]
    exact (((Below.refl _ _).alloc (Nat.le_refl _) _).alloc (by simp) _).alloc (by simp; omega) _
  have hz : W0.heap.size = w.heap.size + 1 + 1 + 1 := by rw [hW0]; simp
  clear hW0
  refine (HSH.out _).mono ?_
  rintro e w1 ⟨rfl, hb1⟩
  replace hd := hd.below hb1 (by omega)
  replace he := he.below hb1 (by omega)
  replace hrb := Whole.below hrb hb1 (by omega)
  replace hb := hb.trans (hb1.mono (by omega))
  have hz1 := hb1.size
  clear hb1
  have H1 := Lib.hid hd
  have H2 := Lib.hid he
  have H3 := Lib.hid hrb
  have H4 := Lib.hid hb
  clear hd he hrb hb
  go_wp2_with fail
  refine (HD.out w1 (w.heap.size + 1 + 1) w.heap.size H3.out (HW.out.below H4.out) (by omega)).mono ?_
  intro e w2 hO
  obtain ⟨hg, hO⟩ := hO
  have hd := H1.out.grew hg (by omega)
  have he := H2.out.grew hg (by omega)
  have hb := H4.out.trans (hg.below (B := w.heap.size) (fun j e => by omega) (by omega))
  have hz2 : w.heap.size + 1 + 1 + 1 ≤ w2.heap.size := by have := hg.size; omega
  clear H1 H2 H3 H4 hg
  rcases r with k | d
  · obtain rfl : e = gaveE k := hO
    unfold gaveE
    have ce : w2.cell? ⟨w.heap.size + 1, 0, none⟩ = some (.int .i64 0) := he.cell 0
    have fe : w2.frozen? ⟨w.heap.size + 1, 0, none⟩ = false := he.frozen 0
    refine leaves_cons (f := 77) (args := #[.pointer (some ⟨w.heap.size + 1, 0, none⟩)]) (by simp) (by simp [go_sem]) ?_
    refine (catch_gave ⟨w.heap.size + 1, 0, none⟩ 0 k [] _ ce fe).mono ?_
    intro e u' w3 ⟨h1, h2, hw3⟩
    subst h1 h2
    have hd3 : Whole w3 w.heap.size 26 [.slice none 0 0, .slice none 0 0, .slice none 0 0, .slice none 0 0, .slice none 0 0] := by
      rw [hw3]
      exact (hd.alloc _).keep (Below.heap_setCell _ ⟨w.heap.size + 1, 0, none⟩ _ _ (by simp))
    have he3 : Whole w3 (w.heap.size + 1) 37 [.int .i64 k] := by
      rw [hw3]
      exact (he.alloc _).set_ 0 _
    have hb3 : Below w.heap.size w w3 := by
      rw [hw3]
      exact (hb.alloc (by omega) _).setCell (p := ⟨w.heap.size + 1, 0, none⟩) (by simp) _
    clear hw3 hd he hb ce fe
    have q0 := hd3.cell 0
    have q1 := hd3.cell 1
    have q2 := hd3.cell 2
    have q3 := hd3.cell 3
    have q4 := hd3.cell 4
    have q5 := he3.cell 0
    simp only [List.getElem?_cons_zero, List.getElem?_cons_succ] at q0 q1 q2 q3 q4 q5
    simp [Leaves, settle, results, Try.results41, go_sem, q0, q1, q2, q3, q4, q5]
    exact ⟨⟨none, none, none, none, none, 0, 0, 0, 0, 0⟩, rfl, ⟨World.ownsRow_nil _ _ _ _, World.ownsRow_nil _ _ _ _, World.ownsRow_nil _ _ _ _, World.ownsRow_nil _ _ _ _, World.ownsRow_nil _ _ _ _⟩, hb3⟩
  · obtain ⟨y, rfl, ho⟩ := hO
    have HO := Lib.hid ho
    have HB := Lib.hid hb
    have HDD := Lib.hid hd
    have HEE := Lib.hid he
    have q0 := hd.cell 0
    have q1 := hd.cell 1
    have q2 := hd.cell 2
    have q3 := hd.cell 3
    have q4 := hd.cell 4
    have q5 := he.cell 0
    simp only [List.getElem?_cons_zero, List.getElem?_cons_succ] at q0 q1 q2 q3 q4 q5
    have z0 := hd.frozen 0
    have z1 := hd.frozen 1
    have z2 := hd.frozen 2
    have z3 := hd.frozen 3
    have z4 := hd.frozen 4
    have z5 := he.frozen 0
    clear ho hb hd he
    go_wp2
    obtain ⟨V, hV⟩ : ∃ V, V = (((((w2.setCell ⟨w.heap.size, 0, none⟩ (y.vb d)).setCell ⟨w.heap.size, 1, none⟩ (y.vh d)).setCell ⟨w.heap.size, 2, none⟩ (y.vm d)).setCell ⟨w.heap.size, 3, none⟩ (y.vn d)).setCell ⟨w.heap.size, 4, none⟩ (y.vt d)).setCell ⟨w.heap.size + 1, 0, none⟩ (.int .i64 0) := ⟨_, rfl⟩
    rw [← hV]
    have hd3 : Whole V w.heap.size 26 [y.vb d, y.vh d, y.vm d, y.vn d, y.vt d] := by
      rw [hV]
      refine Whole.keep (w := ((((w2.setCell ⟨w.heap.size, 0, none⟩ (y.vb d)).setCell ⟨w.heap.size, 1, none⟩ (y.vh d)).setCell ⟨w.heap.size, 2, none⟩ (y.vm d)).setCell ⟨w.heap.size, 3, none⟩ (y.vn d)).setCell ⟨w.heap.size, 4, none⟩ (y.vt d)) ?_ (Below.heap_setCell _ ⟨w.heap.size + 1, 0, none⟩ _ _ (by simp))
      exact ((((HDD.out.set_ 0 _).set_ 1 _).set_ 2 _).set_ 3 _).set_ 4 _
    have hs5 (W : World) (i : Nat) (u : Value) (g : Nat) (hg : g ≠ w.heap.size) : (W.setCell ⟨w.heap.size, i, none⟩ u).heap[g]? = W.heap[g]? := Below.heap_setCell W ⟨w.heap.size, i, none⟩ u g hg
    have he3 : Whole V (w.heap.size + 1) 37 [.int .i64 0] := by
      rw [hV]
      refine Whole.set_ (L := [.int .i64 0]) ?_ 0 _
      refine HEE.out.keep ?_
      rw [hs5 _ _ _ _ (by simp), hs5 _ _ _ _ (by simp), hs5 _ _ _ _ (by simp), hs5 _ _ _ _ (by simp), hs5 _ _ _ _ (by simp)]
    have hf3 : ∀ g, w.heap.size + 1 < g → V.heap[g]? = w2.heap[g]? := fun g hg => by
      rw [hV, Below.heap_setCell _ ⟨w.heap.size + 1, 0, none⟩ _ g (by simp; omega), hs5 _ _ _ _ (by omega), hs5 _ _ _ _ (by omega), hs5 _ _ _ _ (by omega), hs5 _ _ _ _ (by omega), hs5 _ _ _ _ (by omega)]
    have hz3 : V.heap.size = w2.heap.size := by rw [hV]; simp
    have hb3 : Below w.heap.size w V := by
      have hs (W : World) (i : Nat) (u : Value) : Below w.heap.size W (W.setCell ⟨w.heap.size, i, none⟩ u) := (Below.refl _ W).setCell (p := ⟨w.heap.size, i, none⟩) (Nat.le_refl _) u
      rw [hV]
      exact ((((((HB.out.trans (hs _ 0 _)).trans (hs _ 1 _)).trans (hs _ 2 _)).trans (hs _ 3 _)).trans (hs _ 4 _))).setCell (p := ⟨w.heap.size + 1, 0, none⟩) (by simp) _
    have ho3 : OwnD V w.heap.size y d := by
      have h := HO.out
      exact ⟨own_mono (own_keep h.b fun g e => hf3 g (by have := (h.b.lt g e).1; omega)) (by omega), own_mono (own_keep h.h fun g e => hf3 g (by have := (h.h.lt g e).1; omega)) (by omega), own_mono (own_keep h.m fun g e => hf3 g (by have := (h.m.lt g e).1; omega)) (by omega),
        own_mono (own_keep h.n fun g e => hf3 g (by have := (h.n.lt g e).1; omega)) (by omega), own_mono (own_keep h.t fun g e => hf3 g (by have := (h.t.lt g e).1; omega)) (by omega)⟩
    clear hV hs5 hf3 q0 q1 q2 q3 q4 q5 z0 z1 z2 z3 z4 z5
    refine leaves_cons (f := 77) (args := #[.pointer (some ⟨w.heap.size + 1, 0, none⟩)]) (by simp) (by simp [go_sem]) ?_
    refine (catch_idle ⟨w.heap.size + 1, 0, none⟩ _).mono ?_
    intro e u' w3 ⟨h1, h2, hbi⟩
    subst h1 h2
    replace hd3 := hd3.below hbi (by omega)
    replace he3 := he3.below hbi (by omega)
    replace ho3 := ho3.keep fun g hg => hbi.block g hg
    replace hb3 := hb3.trans (hbi.mono (by omega))
    have q0 := hd3.cell 0
    have q1 := hd3.cell 1
    have q2 := hd3.cell 2
    have q3 := hd3.cell 3
    have q4 := hd3.cell 4
    have q5 := he3.cell 0
    simp only [List.getElem?_cons_zero, List.getElem?_cons_succ] at q0 q1 q2 q3 q4 q5
    clear hbi hd3 he3
    simp [Leaves, settle, results, Try.results41, go_sem, q0, q1, q2, q3, q4, q5]
    exact ⟨y, rfl, ho3, hb3⟩

theorem no_data (w : World) (B : Nat) : OwnD w B ⟨none, none, none, none, none, 0, 0, 0, 0, 0⟩ ⟨[], [], [], [], []⟩ :=
  ⟨World.ownsRow_nil _ _ _ _, World.ownsRow_nil _ _ _ _, World.ownsRow_nil _ _ _ _, World.ownsRow_nil _ _ _ _, World.ownsRow_nil _ _ _ _⟩

set_option maxRecDepth 20000 in
set_option maxHeartbeats 1000000 in
theorem dget_arg (A : Option Addr) (m cap : Nat) (p s kind : Int) (w : World) (h : p < 0 ∨ s < 0 ∨ kindB kind = false) :
    Calls Try.prog 41 #[.slice A m cap, .int .i64 p, .int .i64 s, .int .i64 kind] w (GotD w (⟨[], [], [], [], []⟩, 1)) := by
  have HIK := Lib.hid (fun W => isKind_any kind W)
  have HB := Lib.hid (((Below.refl w.heap.size w).alloc (Nat.le_refl _) (.cells #[.slice none 0 0, .slice none 0 0, .slice none 0 0, .slice none 0 0, .slice none 0 0] 26)).alloc (by simp) (.cells #[.int .i64 1] 37))
  by_cases h1 : p < 0
  · have d1 : decide (p < 0) = true := by simp; omega
    clear h
    go_enter_defers Try.func41, Try.ntmps41
    go_wp2
    simp [bodyPostD, Leaves, results, Try.results41, go_sem]
    exact ⟨⟨none, none, none, none, none, 0, 0, 0, 0, 0⟩, rfl, no_data _ _, HB.out⟩
  · have d1 : decide (p < 0) = false := by simp; omega
    by_cases h2 : s < 0
    · have d2 : decide (s < 0) = true := by simp; omega
      clear h
      go_enter_defers Try.func41, Try.ntmps41
      go_wp2
      simp [bodyPostD, Leaves, results, Try.results41, go_sem]
      exact ⟨⟨none, none, none, none, none, 0, 0, 0, 0, 0⟩, rfl, no_data _ _, HB.out⟩
    · have d2 : decide (s < 0) = false := by simp; omega
      have hk : kindB kind = false := by rcases h with h | h | h <;> first | exact h | exact absurd h (by assumption)
      rw [hk] at HIK
      clear h hk
      go_enter_defers Try.func41, Try.ntmps41
      go_wp2_with fail
      refine (HIK.out _).mono ?_
      rintro e w' ⟨rfl, rfl⟩
      go_wp2
      simp [bodyPostD, Leaves, results, Try.results41, go_sem]
      exact ⟨⟨none, none, none, none, none, 0, 0, 0, 0, 0⟩, rfl, no_data _ _, HB.out⟩

set_option maxRecDepth 20000 in
set_option maxHeartbeats 1000000 in
theorem dget_short (A : Option Addr) (m cap : Nat) (p s kind : Int) (w : World) (hm : m ≤ maxLen) (h1 : 0 ≤ p) (h2 : 0 ≤ s) (hp : p ≤ 9223372036854775807) (hk : kindB kind = true) (hs : (m : Int) - p < s) :
    Calls Try.prog 41 #[.slice A m cap, .int .i64 p, .int .i64 s, .int .i64 kind] w (GotD w (⟨[], [], [], [], []⟩, 3)) := by
  have HIK := Lib.hid (fun W => isKind_any kind W)
  rw [hk] at HIK
  unfold maxLen at hm
  have HB := Lib.hid (((Below.refl w.heap.size w).alloc (Nat.le_refl _) (.cells #[.slice none 0 0, .slice none 0 0, .slice none 0 0, .slice none 0 0, .slice none 0 0] 26)).alloc (by simp) (.cells #[.int .i64 3] 37))
  have d1 : decide (p < 0) = false := by simp; omega
  have d2 : decide (s < 0) = false := by simp; omega
  have d3 : decide ((m : Int) - p < s) = true := by simp; omega
  clear hk
  go_enter_defers Try.func41, Try.ntmps41
  go_wp2_with fail
  refine (HIK.out _).mono ?_
  rintro e w' ⟨rfl, rfl⟩
  go_wp2
  simp [bodyPostD, Leaves, results, Try.results41, go_sem]
  exact ⟨⟨none, none, none, none, none, 0, 0, 0, 0, 0⟩, rfl, no_data _ _, HB.out⟩

theorem dget_any (A : Option Addr) (m cap : Nat) (b : List UInt8) (p s kind : Int) (w : World) (hbl : b.length = m) (hrow : Row w w.heap.size A (b.map bc)) (hm : m ≤ cap) (hc : cap ≤ maxLen) (hp : p ≤ 9223372036854775807) :
    Calls Try.prog 41 #[.slice A m cap, .int .i64 p, .int .i64 s, .int .i64 kind] w (GotD w (getD b p s kind)) := by
  unfold getD
  by_cases h : p < 0 ∨ s < 0 ∨ kindB kind = false
  · rw [if_pos h]
    exact dget_arg A m cap p s kind w h
  · rw [if_neg h]
    have h1 : 0 ≤ p := by omega
    have h2 : 0 ≤ s := by omega
    have hk : kindB kind = true := by
      cases hx : kindB kind with
      | true => rfl
      | false => exact absurd (.inr (.inr hx)) h
    subst hbl
    by_cases hs : (b.length : Int) - p < s
    · rw [if_pos hs]
      exact dget_short A _ cap p s kind w (Nat.le_trans hm hc) h1 h2 hp hk hs
    · rw [if_neg hs]
      obtain ⟨p', rfl⟩ : ∃ n : Nat, p = n := ⟨p.toNat, by omega⟩
      obtain ⟨s', rfl⟩ : ∃ n : Nat, s = n := ⟨s.toNat, by omega⟩
      have := dget_fine A _ cap b p' s' kind w rfl hrow hm hc hk (by omega)
      rw [Int.toNat_natCast, show ((p' : Int) + (s' : Int)).toNat = p' + s' by omega]
      exact this

end Go.Proofs.Ytjjmllbkfbdcnaa
