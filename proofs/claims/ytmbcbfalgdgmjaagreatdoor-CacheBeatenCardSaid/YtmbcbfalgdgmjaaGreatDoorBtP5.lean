/-
  CacheBeaten, tied: whatever the facts and the second, what is believed more, and is fresh, is never taken away by what is believed less, and whatever is told was put. The library's table uint64pow10 holds what the program's text lays (the card ties it). No other condition.
-/
import Derived.Test.YtmbcbfalgdgmjaaGreatDoorKcP5
import Derived.Test.YtmbcbfalgdgmjaaGreatDoorBtP1
import Derived.Test.YtmbcbfalgdgmjaaGreatDoorBtP4
import Derived.Test.YtmbcbfalgdgmjaaGreatDoorKcP8
import Derived.Deep.CutRange
import Derived.Test.YtmbcbfalgdgmjaaGreatDoorKcP1
import Derived.Deep.Slices
import Derived.Deep.Grids
import Derived.ChangeArms
import Derived.Test.YtmbcbfalgdgmjaaGreatDoorKcP4
import Derived.SizedLaws
import Derived.Test.YtmbcbfalgdgmjaaGreatDoorKcP10
namespace Go.Proofs.YtmbcbfalgdgmjaaGreatDoor
open Go.RowKit

/-- The same fact elsewhere is as small. -/
theorem fact_inj {x y : FV} (h : y.fact = x.fact) : y.name = x.name ∧ y.h = x.h ∧ dats y.sp = dats x.sp ∧ y.zone = x.zone ∧ y.soa = x.soa := by
  unfold FV.fact at h
  injection h with h1 h2 h3 h4 h5
  exact ⟨h1, h2, h3, h4, h5⟩
theorem dats_eq {ps qs : List (DV × Dt)} (h : dats qs = dats ps) {P : Dt → Prop} (hp : ∀ p ∈ ps, P p.2) : ∀ q ∈ qs, P q.2 := by
  intro q hq
  have h1 : q.2 ∈ dats qs := List.mem_map.2 ⟨q, hq, rfl⟩
  rw [h] at h1
  obtain ⟨p, hp1, hp2⟩ := List.mem_map.1 h1
  rw [← hp2]
  exact hp p hp1
theorem fin_eq {x y : FV} (h : y.fact = x.fact) (hi : FIn x) : FIn y := by
  obtain ⟨h1, h2, h3, h4, h5⟩ := fact_inj h
  exact ⟨h2 ▸ hi.h, h1 ▸ hi.n, h4 ▸ hi.z, dats_eq h3 hi.s, h5 ▸ hi.d⟩
theorem few_eq {x y : FV} (h : y.fact = x.fact) (hi : FewF x) : FewF y := by
  obtain ⟨h1, h2, h3, h4, h5⟩ := fact_inj h
  have hs : y.sp.length = x.sp.length := by rw [← length_dats, h3, length_dats]
  exact ⟨h1 ▸ hi.n, h4 ▸ hi.z, by rw [hs]; exact hi.s, h5 ▸ hi.d, dats_eq h3 hi.e⟩

/-- A cache, in the law's walk. -/
structure BtAt (L : CacheCore) (w : World) (cv : Value) (C : Ca) (F : Nat → Prop) (u : Nat) (W : World) : Prop where
  cat : L.At W w.heap.size cv C F u
  below : Below w.heap.size w W
section
variable {L : CacheCore} {w W W' : World} {cv : Value} {C C' : Ca} {F F' : Nat → Prop} {u u' : Nat}
theorem BtAt.step (h : BtAt L w cv C F u W) (hb : Below W.heap.size W W') : BtAt L w cv C F u W' := ⟨L.at_below h.cat hb, h.below.trans (hb.mono h.below.size)⟩
theorem BtAt.moved (h : BtAt L w cv C F u W) (hm : MovedC F W W' F') (hc : L.At W' w.heap.size cv C' F' u') : BtAt L w cv C' F' u' W' :=
  ⟨hc, h.below.trans (hm.below (fun j hj => ((L.at_own h.cat).2 j hj).1) h.below.size)⟩
/-- A fact in a box of its own. -/
structure BoxO (F : Nat → Prop) (g : Nat) (y : FV) (W : World) : Prop where
  box : Whole W g 36 (cellsF y)
  off : ¬ F g
  f : ∃ B, FSafe W B F y
theorem BoxO.step {g : Nat} {y : FV} (h : BoxO F g y W) (hb : Below W.heap.size W W') : BoxO F g y W' := ⟨h.box.below hb h.box.lt, h.off, h.f.elim fun B hf => ⟨B, hf.step hb⟩⟩
theorem BoxO.moved {g : Nat} {y : FV} (h : BoxO F g y W) (hm : MovedC F W W' F') : BoxO F' g y W' :=
  ⟨hm.whole h.box h.off, fun hf => by
    rcases hm.2 g hf with h1 | h1
    · exact h.off h1
    · have := h.box.lt
      omega, h.f.elim fun B hf => ⟨B, hf.moved hm⟩⟩
theorem BoxO.at_ {g : Nat} {y : FV} (h : BoxO F g y W) : FAt W W.heap.size y := h.f.elim fun _ hf => hf.own.at_
/-- What a Look and its store leave. -/
def BoxOut (L : CacheCore) (w : World) (cv : Value) (C : Ca) (F : Nat → Prop) (u : Nat) (W : World) (ro : Option Fc) (o t : Value) (V : World) : Prop :=
  ∃ (y : FV) (g : Nat) (F' : Nat → Prop), o = .pointer (some ⟨g, 0, none⟩) ∧ t = .bool ro.isSome ∧ BtAt L w cv C F' u V ∧ MovedC F W V F' ∧ BoxO F' g y V ∧ ∀ f, ro = some f → y.fact = f
/-- A store into a box of one's own. -/
theorem FSafe.putB {W V : World} {B g : Nat} {F : Nat → Prop} {y : FV} (h : FSafe W B F y) (hG : Grew (fun j => j = g) W V) (hg : g < B ∨ W.heap.size ≤ g) : FSafe V B F y :=
  ⟨h.own.keptV fun v hv k e hk => hG.block k hk (by have := (h.own.vlt v hv k e).1; omega), h.off⟩
theorem box_after {w wa V : World} {Z : Obj} {ro : Option Fc} {y : FV} (h : BtAt L w cv C F u W) (hm : MovedC F W W' F') (hc : L.At W' w.heap.size cv C F' u) (hs : FSafe W' W.heap.size F' y) (hy : ∀ f, ro = some f → y.fact = f)
    (hwa : wa = W'.alloc Z) (hV : Whole V W'.heap.size 36 (cellsF y)) (hG : Grew (fun j => j = W'.heap.size) wa V) :
    BoxOut L w cv C F u W ro (.pointer (some ⟨W'.heap.size, 0, none⟩)) (.bool ro.isSome) V := by
  have hz : wa.heap.size = W'.heap.size + 1 := by rw [hwa]; simp
  have hb : Below W'.heap.size W' V := by
    have h1 : Below W'.heap.size W' wa := by rw [hwa]; exact (Below.refl _ _).alloc (Nat.le_refl _) _
    exact h1.trans (hG.below (fun j e => by omega) (by omega))
  refine ⟨y, W'.heap.size, F', rfl, rfl, (h.moved hm hc).step hb, ⟨hm.1.trans (G := fun _ => False) (Grew.all hb) (fun _ h => h.elim), hm.2⟩, ⟨hV, fun hf => ?_, W.heap.size, hs.step hb⟩, hy⟩
  have := ((L.at_own hc).2 _ hf).2
  omega
theorem box_before {w wa V : World} {Z : Obj} {ro : Option Fc} {y : FV} (h : BtAt L w cv C F u W) (hwa : wa = W.alloc Z) (hm : MovedC F wa W' F') (hc : L.At W' w.heap.size cv C F' u) (hs : FSafe W' wa.heap.size F' y) (hy : ∀ f, ro = some f → y.fact = f)
    (hV : Whole V W.heap.size 36 (cellsF y)) (hG : Grew (fun j => j = W.heap.size) W' V) :
    BoxOut L w cv C F u W ro (.pointer (some ⟨W.heap.size, 0, none⟩)) (.bool ro.isSome) V := by
  have hz : wa.heap.size = W.heap.size + 1 := by rw [hwa]; simp
  have hb : Below W.heap.size W wa := by rw [hwa]; exact (Below.refl _ _).alloc (Nat.le_refl _) _
  have ho := L.at_own h.cat
  have hnf : ∀ j, F' j → j ≠ W.heap.size := fun j hf => by
    rcases hm.2 j hf with h1 | h1
    · have := (ho.2 j h1).2; omega
    · omega
  have hGA : Grew F W W' := (Grew.all hb).trans hm.1 (fun j hj => .inl hj)
  have hGV : Grew F W V := hGA.trans hG (fun j e => .inr (by omega))
  have hbV : Below w.heap.size W' V := hG.below (fun j e => by have := h.below.size; omega) (by have := h.below.size; have := hm.1.size; omega)
  refine ⟨y, W.heap.size, F', rfl, rfl, ⟨L.at_keep hc hbV fun j hj => hG.block j ((L.at_own hc).2 j hj).2 (hnf j hj), h.below.trans (hGV.below (fun j hj => (ho.2 j hj).1) h.below.size)⟩, ⟨hGV, fun j hf => by
    rcases hm.2 j hf with h1 | h1
    · exact .inl h1
    · exact .inr (by omega)⟩, ⟨hV, fun hf => hnf _ hf rfl, wa.heap.size, hs.putB hG (.inl (by omega))⟩, hy⟩
end
def BtRel (L : CacheCore) (w : World) (cv : Value) (m : Nat) (i : Value) (wr : World) : Prop := ∃ (j : Nat) (C : Ca) (F : Nat → Prop), j ≤ m ∧ i = .int .i64 j ∧ BtAt L w cv C F j wr

set_option maxRecDepth 20000 in
set_option maxHeartbeats 16000000 in
theorem cabeaten_any (L : CacheCore) (w : World) (A : Option Addr) (c : Nat) (xs : List FV) (k : Nat) (hk : k < 256) (hA : FsAt w w.heap.size A xs) (hI : ∀ x ∈ xs, FIn x) (hF : ∀ x ∈ xs, lightC x.fact = true → FewF x) (hlm : xs.length ≤ maxLen) (hv : L.Vars w) :
    Calls Tryz.prog 3 #[.slice A xs.length c, .int .u8 k] w (TrueB w) := by
  unfold maxLen at hlm
  have HNEW := Lib.hid (show Calls _ _ _ _ _ from L.new_ok w 100 0 hv (by decide) (by decide) (by decide +kernel))
  have HAN := Lib.hid (fun W (hb : Below w.heap.size w W) => caanswers_any L W (L.vars hv hb))
  have HA := Lib.hid hA
  have HI := Lib.hid hI
  have HF := Lib.hid hF
  clear hA hv hI hF
  go_enter Tryz.func3, Tryz.ntmps3
  go_wp2_with fail
  refine HNEW.out.mono ?_
  rintro e w1 ⟨cv, F0, rfl, hat, hb1⟩
  have HA1 := Lib.hid (show BtAt L w cv ⟨(100 : Int).toNat, 0, []⟩ F0 0 w1 from ⟨hat, hb1⟩)
  clear hat hb1 HNEW
  go_wp2_with fail
  refine (HAN.out w1 HA1.out.below).mono ?_
  rintro e w2 ⟨rfl, hb2⟩
  have HA2 := Lib.hid (HA1.out.step hb2)
  clear HA1 hb2
  by_cases hl : 40 < xs.length
  · have t : decide ((40 : Int) < (xs.length : Int)) = true := decide_eq_true (by omega)
    have t2 : decide (40 < xs.length) = true := decide_eq_true hl
    go_wp2_with fail
    refine (HAN.out w2 HA2.out.below).mono ?_
    rintro e w3 ⟨rfl, hb3⟩
    go_wp2
    go_ret
    exact ⟨rfl, HA2.out.below.trans (hb3.mono HA2.out.below.size)⟩
  have t : decide ((40 : Int) < (xs.length : Int)) = false := decide_eq_false (by omega)
  have t2 : decide (40 < xs.length) = false := decide_eq_false hl
  clear HAN
  go_wp2
  go_loopw [7] (BtRel L w cv xs.length) (fun i _ => xs.length - (intOf i).toNat)
  case atStart => exact ⟨0, _, _, Nat.zero_le _, rfl, HA2.out⟩
  case round =>
  clear HA2 t t2
  obtain ⟨j, C, F, hj, rfl, hbt⟩ := hrel
  have HB := Lib.hid hbt
  clear hbt
  by_cases hlt : j < xs.length
  case neg =>
    obtain rfl : j = xs.length := by omega
    go_wp2
    go_ret
    exact ⟨rfl, HB.out.below⟩
  obtain ⟨b, off, rfl, hbH, _, _⟩ := HA.out.at_ hlt
  have HCE := Lib.hid (show ∀ W, Below w.heap.size w W → ∀ t v, (cellsF xs[j])[t]? = some v → W.cell? ⟨b, off + j * 13 + t, none⟩ = some v from fun W hb => by
    obtain ⟨b', off', e, _, _, h⟩ := (HA.out.below hb).at_ hlt
    injection e with e
    injection e with e1 e2
    subst e1 e2
    exact h)
  have HXA := Lib.hid (show ∀ W, Below w.heap.size w W → FAt W W.heap.size xs[j] from fun W hb => ((HA.out.2 _ (List.getElem_mem hlt)).below hb).mono hb.size)
  have HXI := Lib.hid (HI.out _ (List.getElem_mem hlt))
  have HXF := Lib.hid (HF.out _ (List.getElem_mem hlt))
  revert HCE HXA HXI HXF
  generalize xs[j] = x
  intro HCE HXA HXI HXF
  have q0 : wr.cell? ⟨b, off + j * 13, none⟩ = some (.slice x.A x.name.length x.c) := HCE.out _ HB.out.below 0 _ rfl
  have q1 : wr.cell? ⟨b, off + j * 13 + 1, none⟩ = some (.int .i64 x.h.typ) := HCE.out _ HB.out.below 1 _ rfl
  have q2 : wr.cell? ⟨b, off + j * 13 + 2, none⟩ = some (.int .i64 x.h.knd) := HCE.out _ HB.out.below 2 _ rfl
  have q3 : wr.cell? ⟨b, off + j * 13 + 3, none⟩ = some (.int .i64 x.h.rank) := HCE.out _ HB.out.below 3 _ rfl
  have q4 : wr.cell? ⟨b, off + j * 13 + 4, none⟩ = some (.int .i64 x.h.got) := HCE.out _ HB.out.below 4 _ rfl
  have q5 : wr.cell? ⟨b, off + j * 13 + 5, none⟩ = some (.int .i64 x.h.ttl) := HCE.out _ HB.out.below 5 _ rfl
  have q6 : wr.cell? ⟨b, off + j * 13 + 6, none⟩ = some (.slice x.sA x.sp.length x.sc) := HCE.out _ HB.out.below 6 _ rfl
  have q7 : wr.cell? ⟨b, off + j * 13 + 7, none⟩ = some (.slice x.zA x.zone.length x.zc) := HCE.out _ HB.out.below 7 _ rfl
  have q8 : wr.cell? ⟨b, off + j * 13 + 8, none⟩ = some (.slice x.d.Ab x.soa.bytes.length x.d.cb) := HCE.out _ HB.out.below 8 _ rfl
  have q9 : wr.cell? ⟨b, off + j * 13 + 9, none⟩ = some (.slice x.d.Ah x.soa.host.length x.d.ch) := HCE.out _ HB.out.below 9 _ rfl
  have q10 : wr.cell? ⟨b, off + j * 13 + 10, none⟩ = some (.slice x.d.Am x.soa.mail.length x.d.cm) := HCE.out _ HB.out.below 10 _ rfl
  have q11 : wr.cell? ⟨b, off + j * 13 + 11, none⟩ = some (.slice x.d.An x.soa.nums.length x.d.cn) := HCE.out _ HB.out.below 11 _ rfl
  have q12 : wr.cell? ⟨b, off + j * 13 + 12, none⟩ = some (.slice x.d.At x.soa.texts.length x.d.ct) := HCE.out _ HB.out.below 12 _ rfl
  have HLT := Lib.hid (calight_any wr x (HXA.out _ HB.out.below) HXI.out)
  go_wp2_with fail
  refine HLT.out.mono ?_
  rintro e w3 ⟨rfl, hb3⟩
  have HB3 := Lib.hid (HB.out.step hb3)
  cases hlc : lightC x.fact with
  | false =>
    go_wp2
    go_ret
    exact ⟨rfl, HB3.out.below⟩
  | true =>
  have HXW := Lib.hid (HXF.out hlc)
  clear HLT HB hb3 hlc HXF q0 q1 q2 q3 q4 q5 q6 q7 q8 q9 q10 q11 q12
  obtain ⟨ro, hro⟩ : ∃ ro, ro = C.find x.name x.h.typ := ⟨_, rfl⟩
  have HRO := Lib.hid hro
  have hnl : x.name.length ≤ 300 := HXW.out.n
  have HLK := Lib.hid (show ∀ (C : Ca) (F : Nat → Prop) (u : Nat) W, BtAt L w cv C F u W → Calls Tryz.prog 10 #[cv, .slice x.A x.name.length x.c, .int .i64 x.h.typ] W
      (fun e w' => ∃ v F', e = .returned v ∧ ToldC W (C.find x.name x.h.typ) F' v w' ∧ L.At w' w.heap.size cv C F' u ∧ MovedC F W w' F') from fun C F u W hb =>
    L.look hb.cat x.A x.c x.name x.h.typ (HXA.out _ hb.below).n HXI.out.n HXW.out.n (HXA.out _ hb.below).ln HXI.out.h.t)
  clear hro
  have HSC := Lib.hid (show ∀ W, Below w.heap.size w W → W.cell? ⟨b, off + j * 13, none⟩ = some (.slice x.A x.name.length x.c) ∧ W.cell? ⟨b, off + j * 13 + 1, none⟩ = some (.int .i64 x.h.typ) from fun W hb => ⟨HCE.out _ hb 0 _ rfl, HCE.out _ hb 1 _ rfl⟩)
  go_upto_region 9 with fail
  go_cut [8, 9] from 44 to 58 (fun o t wx => BoxOut L w cv C F j (w3.drew) ro o t wx)
  case first =>
    have HB0 := Lib.hid (HB3.out.step (Below.refl w3.heap.size w3).drew)
    refine wp_region_held_drew (S := fun W => W.cell? ⟨b, off + j * 13, none⟩ = some (.slice x.A x.name.length x.c) ∧ W.cell? ⟨b, off + j * 13 + 1, none⟩ = some (.int .i64 x.h.typ)) (by kernel_rfl) (HSC.out _ HB0.out.below) (fun hHeld => ?_)
    generalize w3.drew = wd at *
    refine takeY 0 ⟨some 45, _, _, _, _, _⟩ (v := ?_) ?_ ?_
    rotate_left
    · intro W hSw
      clear hSw
      go_simp
      all_goals (with_reducible rfl)
    try simp only [Act.put, List.setIfInBounds_toArray, List.set_cons_zero, List.set_cons_succ]
    refine takeY 1 ⟨some 46, _, _, _, _, _⟩ (v := ?_) ?_ ?_
    rotate_left
    · intro W hSw
      clear hSw
      go_simp
      all_goals (with_reducible rfl)
    try simp only [Act.put, List.setIfInBounds_toArray, List.set_cons_zero, List.set_cons_succ]
    refine takeY 2 ⟨some 47, _, _, _, _, _⟩ (v := ?_) ?_ ?_
    rotate_left
    · intro W hSw
      clear hSw
      go_simp
      all_goals (with_reducible rfl)
    try simp only [Act.put, List.setIfInBounds_toArray, List.set_cons_zero, List.set_cons_succ]
    refine takeY 3 ⟨some 48, _, _, _, _, _⟩ (v := ?_) ?_ ?_
    rotate_left
    · intro W hSw
      clear hSw
      go_simp
      all_goals (with_reducible rfl)
    try simp only [Act.put, List.setIfInBounds_toArray, List.set_cons_zero, List.set_cons_succ]
    refine takeY 4 ⟨some 49, _, _, _, _, _⟩ (v := ?_) ?_ ?_
    rotate_left
    · intro W hSw
      clear hSw
      go_simp
      all_goals (with_reducible rfl)
    try simp only [Act.put, List.setIfInBounds_toArray, List.set_cons_zero, List.set_cons_succ]
    refine takeY 5 ⟨some 50, _, _, _, _, _⟩ (v := ?_) ?_ ?_
    rotate_left
    · intro W hSw
      have q0 := hSw.1
      clear hSw
      go_simp
      all_goals (with_reducible rfl)
    try simp only [Act.put, List.setIfInBounds_toArray, List.set_cons_zero, List.set_cons_succ]
    refine takeY 6 ⟨some 51, _, _, _, _, _⟩ (v := ?_) ?_ ?_
    rotate_left
    · intro W hSw
      clear hSw
      go_simp
      all_goals (with_reducible rfl)
    try simp only [Act.put, List.setIfInBounds_toArray, List.set_cons_zero, List.set_cons_succ]
    refine takeY 7 ⟨some 52, _, _, _, _, _⟩ (v := ?_) ?_ ?_
    rotate_left
    · intro W hSw
      clear hSw
      go_simp
      all_goals (with_reducible rfl)
    try simp only [Act.put, List.setIfInBounds_toArray, List.set_cons_zero, List.set_cons_succ]
    refine takeY 8 ⟨some 53, _, _, _, _, _⟩ (v := ?_) ?_ ?_
    rotate_left
    · intro W hSw
      clear hSw
      go_simp
      all_goals (with_reducible rfl)
    try simp only [Act.put, List.setIfInBounds_toArray, List.set_cons_zero, List.set_cons_succ]
    refine takeY 9 ⟨some 54, _, _, _, _, _⟩ (v := ?_) ?_ ?_
    rotate_left
    · intro W hSw
      clear hSw
      go_simp
      all_goals (with_reducible rfl)
    try simp only [Act.put, List.setIfInBounds_toArray, List.set_cons_zero, List.set_cons_succ]
    refine takeY 10 ⟨some 55, _, _, _, _, _⟩ (v := ?_) ?_ ?_
    rotate_left
    · intro W hSw
      have q1 := hSw.2
      clear hSw
      go_simp
      all_goals (with_reducible rfl)
    try simp only [Act.put, List.setIfInBounds_toArray, List.set_cons_zero, List.set_cons_succ]
    refine wpAnyH_ready (rs := [11, 15]) (by kernel_rfl) (by simp) ?_
    refine AllReadyH.cons (o := { dst := some 56, op := Go.Op.call { callee := Go.Callee.value (Go.Operand.func 10), args := #[Go.Operand.tmp 45, Go.Operand.tmp 50, Go.Operand.tmp 55], argTypes := #[23, 29, 3] }, type := 37, pos := "law.go:123", after := #[{ on := 0, ground := Go.Ground.data }, { on := 5, ground := Go.Ground.data }, { on := 10, ground := Go.Ground.data }], guard := none }) rfl (fun K hK => ?_) (AllReadyH.cons (o := { dst := some 8, op := Go.Op.alloc 36, type := 0, pos := "law.go:123", after := #[], guard := none }) rfl (fun K hK => ?_) AllReadyH.nil)
    · go_simp
      refine (HLK.out _ _ _ _ HB0.out).mono ?_
      rintro e w8 ⟨v8, F8, rfl, htd, hat8, hmv8⟩
      rw [HRO.out.symm] at htd
      obtain ⟨y, rfl, hys, hyf, _⟩ := htd
      have HAT8 := Lib.hid hat8
      have HMV8 := Lib.hid hmv8
      have HYS := Lib.hid hys
      have HYF := Lib.hid hyf
      clear hat8 hmv8 hys hyf
      refine hK.out _ _ (by exact HSC.out _ (HB0.out.moved HMV8.out HAT8.out).below) (fun hHeld2 => ?_)
      clear hK K hHeld
      have hHeld := hHeld2
      clear hHeld2
      try simp only [Act.put, List.setIfInBounds_toArray, List.set_cons_zero, List.set_cons_succ]
      refine takeY 12 ⟨some 44, _, _, _, _, _⟩ (v := ?_) ?_ ?_
      rotate_left
      · intro W hSw
        clear hSw
        go_simp
        all_goals (with_reducible rfl)
      try simp only [Act.put, List.setIfInBounds_toArray, List.set_cons_zero, List.set_cons_succ]
      refine takeY 13 ⟨some 57, _, _, _, _, _⟩ (v := ?_) ?_ ?_
      rotate_left
      · intro W hSw
        clear hSw
        go_simp
        all_goals (with_reducible rfl)
      try simp only [Act.put, List.setIfInBounds_toArray, List.set_cons_zero, List.set_cons_succ]
      refine takeY 14 ⟨some 58, _, _, _, _, _⟩ (v := ?_) ?_ ?_
      rotate_left
      · intro W hSw
        clear hSw
        go_simp
        all_goals (with_reducible rfl)
      try simp only [Act.put, List.setIfInBounds_toArray, List.set_cons_zero, List.set_cons_succ]
      refine wpAnyH_ready (rs := [15]) (by kernel_rfl) (by simp) ?_
      refine AllReadyH.cons (o := { dst := some 8, op := Go.Op.alloc 36, type := 0, pos := "law.go:123", after := #[], guard := none }) rfl (fun K hK => ?_) AllReadyH.nil
      go_simp
      obtain ⟨wa, hwa⟩ : ∃ wa, wa = w8.alloc (.cells #[.slice none 0 0, .int .i64 0, .int .i64 0, .int .i64 0, .int .i64 0, .int .i64 0, .slice none 0 0, .slice none 0 0, .slice none 0 0, .slice none 0 0, .slice none 0 0, .slice none 0 0, .slice none 0 0] 36) := ⟨_, rfl⟩
      rw [← hwa]
      have HWA := Lib.hid hwa
      have HZ8 := Lib.hid (show Whole wa w8.heap.size 36 [.slice none 0 0, .int .i64 0, .int .i64 0, .int .i64 0, .int .i64 0, .int .i64 0, .slice none 0 0, .slice none 0 0, .slice none 0 0, .slice none 0 0, .slice none 0 0, .slice none 0 0, .slice none 0 0] from by rw [hwa]; exact Whole.made w8 [.slice none 0 0, .int .i64 0, .int .i64 0, .int .i64 0, .int .i64 0, .int .i64 0, .slice none 0 0, .slice none 0 0, .slice none 0 0, .slice none 0 0, .slice none 0 0, .slice none 0 0, .slice none 0 0] _)
      clear hwa
      refine hK.out _ _ (by exact HSC.out _ (((HB0.out.moved HMV8.out HAT8.out).step (show Below w8.heap.size w8 wa from by rw [HWA.out]; exact (Below.refl _ _).alloc (Nat.le_refl _) _)).below)) (fun hHeld2 => ?_)
      clear hK K hHeld
      have hHeld := hHeld2
      clear hHeld2
      try simp only [Act.put, List.setIfInBounds_toArray, List.set_cons_zero, List.set_cons_succ]
      refine wpAnyH_ready (rs := [16]) (by kernel_rfl) (by simp) ?_
      refine AllReadyH.cons (o := { dst := none, op := Go.Op.store 36 (Go.Operand.tmp 8) (Go.Operand.tmp 57), type := 0, pos := "law.go:123", after := #[{ on := 15, ground := Go.Ground.data }, { on := 13, ground := Go.Ground.data }, { on := 11, ground := Go.Ground.chain }, { on := 0, ground := Go.Ground.phase }, { on := 1, ground := Go.Ground.phase }, { on := 2, ground := Go.Ground.phase }, { on := 3, ground := Go.Ground.phase }, { on := 4, ground := Go.Ground.phase }, { on := 5, ground := Go.Ground.phase }, { on := 6, ground := Go.Ground.phase }, { on := 7, ground := Go.Ground.phase }, { on := 8, ground := Go.Ground.phase }, { on := 9, ground := Go.Ground.phase }, { on := 10, ground := Go.Ground.phase }, { on := 11, ground := Go.Ground.phase }, { on := 12, ground := Go.Ground.phase }, { on := 13, ground := Go.Ground.phase }, { on := 14, ground := Go.Ground.textOnly Go.Departure.lateStores }, { on := 15, ground := Go.Ground.phase }], guard := none }) rfl (fun K hK => ?_) AllReadyH.nil
      refine wp_store_at 36 (.tmp 8) (.tmp 57) rfl w8.heap.size 0 (cellsF y) rfl rfl 36 [.slice none 0 0, .int .i64 0, .int .i64 0, .int .i64 0, .int .i64 0, .int .i64 0, .slice none 0 0, .slice none 0 0, .slice none 0 0, .slice none 0 0, .slice none 0 0, .slice none 0 0, .slice none 0 0] HZ8.out (Nat.le_refl 13) fact_size (fun u hu => cellsF_one [y] u (by simpa using hu)) ?_
      intro V hV hG hZ
      have HBO := Lib.hid (box_after (ro := ro) HB0.out HMV8.out HAT8.out HYS.out HYF.out HWA.out (show Whole V _ _ (cellsF y) from hV) hG)
      clear hV hG hZ
      refine hK.out _ _ (by obtain ⟨_, _, _, _, _, hb, _⟩ := HBO.out; exact HSC.out _ hb.below) (fun hHeld2 => ?_)
      clear hK K hHeld
      have hHeld := hHeld2
      clear hHeld2
      try simp only [Act.put]
      refine takeY 17 ⟨some 9, _, _, _, _, _⟩ (v := ?_) ?_ ?_
      rotate_left
      · intro W hSw
        clear hSw
        go_simp
        all_goals (with_reducible rfl)
      try simp only [Act.put, List.setIfInBounds_toArray, List.set_cons_zero, List.set_cons_succ]
      refine wpAnyH_done (by kernel_rfl) ?_ _
      go_wp2_with fail
      go_meet
      exact HBO.out
    · go_simp
      obtain ⟨wa, hwa⟩ : ∃ wa, wa = (wd).alloc (.cells #[.slice none 0 0, .int .i64 0, .int .i64 0, .int .i64 0, .int .i64 0, .int .i64 0, .slice none 0 0, .slice none 0 0, .slice none 0 0, .slice none 0 0, .slice none 0 0, .slice none 0 0, .slice none 0 0] 36) := ⟨_, rfl⟩
      rw [← hwa]
      have HWA := Lib.hid hwa
      have HZA := Lib.hid (show Whole wa (wd).heap.size 36 [.slice none 0 0, .int .i64 0, .int .i64 0, .int .i64 0, .int .i64 0, .int .i64 0, .slice none 0 0, .slice none 0 0, .slice none 0 0, .slice none 0 0, .slice none 0 0, .slice none 0 0, .slice none 0 0] from by rw [hwa]; exact Whole.made (wd) [.slice none 0 0, .int .i64 0, .int .i64 0, .int .i64 0, .int .i64 0, .int .i64 0, .slice none 0 0, .slice none 0 0, .slice none 0 0, .slice none 0 0, .slice none 0 0, .slice none 0 0, .slice none 0 0] _)
      have HBA := Lib.hid (HB0.out.step (show Below (wd).heap.size (wd) wa from by rw [hwa]; exact (Below.refl _ _).alloc (Nat.le_refl _) _))
      clear hwa
      refine hK.out _ _ (by exact HSC.out _ HBA.out.below) (fun hHeld2 => ?_)
      clear hK K hHeld
      have hHeld := hHeld2
      clear hHeld2
      try simp only [Act.put, List.setIfInBounds_toArray, List.set_cons_zero, List.set_cons_succ]
      refine wpAnyH_ready (rs := [11]) (by kernel_rfl) (by simp) ?_
      refine AllReadyH.cons (o := { dst := some 56, op := Go.Op.call { callee := Go.Callee.value (Go.Operand.func 10), args := #[Go.Operand.tmp 45, Go.Operand.tmp 50, Go.Operand.tmp 55], argTypes := #[23, 29, 3] }, type := 37, pos := "law.go:123", after := #[{ on := 0, ground := Go.Ground.data }, { on := 5, ground := Go.Ground.data }, { on := 10, ground := Go.Ground.data }], guard := none }) rfl (fun K hK => ?_) AllReadyH.nil
      go_simp
      refine (HLK.out _ _ _ _ HBA.out).mono ?_
      rintro e w8 ⟨v8, F8, rfl, htd, hat8, hmv8⟩
      rw [HRO.out.symm] at htd
      obtain ⟨y, rfl, hys, hyf, _⟩ := htd
      have HAT8 := Lib.hid hat8
      have HMV8 := Lib.hid hmv8
      have HYS := Lib.hid hys
      have HYF := Lib.hid hyf
      clear hat8 hmv8 hys hyf
      refine hK.out _ _ (by exact HSC.out _ (HBA.out.moved HMV8.out HAT8.out).below) (fun hHeld2 => ?_)
      clear hK K hHeld
      have hHeld := hHeld2
      clear hHeld2
      try simp only [Act.put, List.setIfInBounds_toArray, List.set_cons_zero, List.set_cons_succ]
      refine takeY 12 ⟨some 44, _, _, _, _, _⟩ (v := ?_) ?_ ?_
      rotate_left
      · intro W hSw
        clear hSw
        go_simp
        all_goals (with_reducible rfl)
      try simp only [Act.put, List.setIfInBounds_toArray, List.set_cons_zero, List.set_cons_succ]
      refine takeY 13 ⟨some 57, _, _, _, _, _⟩ (v := ?_) ?_ ?_
      rotate_left
      · intro W hSw
        clear hSw
        go_simp
        all_goals (with_reducible rfl)
      try simp only [Act.put, List.setIfInBounds_toArray, List.set_cons_zero, List.set_cons_succ]
      refine takeY 14 ⟨some 58, _, _, _, _, _⟩ (v := ?_) ?_ ?_
      rotate_left
      · intro W hSw
        clear hSw
        go_simp
        all_goals (with_reducible rfl)
      try simp only [Act.put, List.setIfInBounds_toArray, List.set_cons_zero, List.set_cons_succ]
      refine wpAnyH_ready (rs := [16]) (by kernel_rfl) (by simp) ?_
      refine AllReadyH.cons (o := { dst := none, op := Go.Op.store 36 (Go.Operand.tmp 8) (Go.Operand.tmp 57), type := 0, pos := "law.go:123", after := #[{ on := 15, ground := Go.Ground.data }, { on := 13, ground := Go.Ground.data }, { on := 11, ground := Go.Ground.chain }, { on := 0, ground := Go.Ground.phase }, { on := 1, ground := Go.Ground.phase }, { on := 2, ground := Go.Ground.phase }, { on := 3, ground := Go.Ground.phase }, { on := 4, ground := Go.Ground.phase }, { on := 5, ground := Go.Ground.phase }, { on := 6, ground := Go.Ground.phase }, { on := 7, ground := Go.Ground.phase }, { on := 8, ground := Go.Ground.phase }, { on := 9, ground := Go.Ground.phase }, { on := 10, ground := Go.Ground.phase }, { on := 11, ground := Go.Ground.phase }, { on := 12, ground := Go.Ground.phase }, { on := 13, ground := Go.Ground.phase }, { on := 14, ground := Go.Ground.textOnly Go.Departure.lateStores }, { on := 15, ground := Go.Ground.phase }], guard := none }) rfl (fun K hK => ?_) AllReadyH.nil
      have HZW := Lib.hid (show Whole w8 wd.heap.size 36 [.slice none 0 0, .int .i64 0, .int .i64 0, .int .i64 0, .int .i64 0, .int .i64 0, .slice none 0 0, .slice none 0 0, .slice none 0 0, .slice none 0 0, .slice none 0 0, .slice none 0 0, .slice none 0 0] from HMV8.out.whole HZA.out (fun hf => by have := ((L.at_own HB0.out.cat).2 _ hf).2; omega))
      refine wp_store_at 36 (.tmp 8) (.tmp 57) rfl wd.heap.size 0 (cellsF y) rfl rfl 36 [.slice none 0 0, .int .i64 0, .int .i64 0, .int .i64 0, .int .i64 0, .int .i64 0, .slice none 0 0, .slice none 0 0, .slice none 0 0, .slice none 0 0, .slice none 0 0, .slice none 0 0, .slice none 0 0] HZW.out (Nat.le_refl 13) fact_size (fun u hu => cellsF_one [y] u (by simpa using hu)) ?_
      intro V hV hG hZ
      have HBO := Lib.hid (box_before (ro := ro) HB0.out HWA.out HMV8.out HAT8.out HYS.out HYF.out (show Whole V _ _ (cellsF y) from hV) hG)
      clear hV hG hZ
      refine hK.out _ _ (by obtain ⟨_, _, _, _, _, hb, _⟩ := HBO.out; exact HSC.out _ hb.below) (fun hHeld2 => ?_)
      clear hK K hHeld
      have hHeld := hHeld2
      clear hHeld2
      try simp only [Act.put]
      refine takeY 17 ⟨some 9, _, _, _, _, _⟩ (v := ?_) ?_ ?_
      rotate_left
      · intro W hSw
        clear hSw
        go_simp
        all_goals (with_reducible rfl)
      try simp only [Act.put, List.setIfInBounds_toArray, List.set_cons_zero, List.set_cons_succ]
      refine wpAnyH_done (by kernel_rfl) ?_ _
      go_wp2_with fail
      go_meet
      exact HBO.out
  case rest =>
  obtain ⟨y, g, F4, rfl, rfl, hb4, hm4, hx4, hy4⟩ := hcut
  rename World => w4
  have HB4 := Lib.hid hb4
  have HX4 := Lib.hid hx4
  have HY4 := Lib.hid hy4
  clear hb4 hm4 hx4 hy4 HB3
  have q0 : w4.cell? ⟨b, off + j * 13, none⟩ = some (.slice x.A x.name.length x.c) := HCE.out _ HB4.out.below 0 _ rfl
  have q1 : w4.cell? ⟨b, off + j * 13 + 1, none⟩ = some (.int .i64 x.h.typ) := HCE.out _ HB4.out.below 1 _ rfl
  have q2 : w4.cell? ⟨b, off + j * 13 + 2, none⟩ = some (.int .i64 x.h.knd) := HCE.out _ HB4.out.below 2 _ rfl
  have q3 : w4.cell? ⟨b, off + j * 13 + 3, none⟩ = some (.int .i64 x.h.rank) := HCE.out _ HB4.out.below 3 _ rfl
  have q4 : w4.cell? ⟨b, off + j * 13 + 4, none⟩ = some (.int .i64 x.h.got) := HCE.out _ HB4.out.below 4 _ rfl
  have q5 : w4.cell? ⟨b, off + j * 13 + 5, none⟩ = some (.int .i64 x.h.ttl) := HCE.out _ HB4.out.below 5 _ rfl
  have q6 : w4.cell? ⟨b, off + j * 13 + 6, none⟩ = some (.slice x.sA x.sp.length x.sc) := HCE.out _ HB4.out.below 6 _ rfl
  have q7 : w4.cell? ⟨b, off + j * 13 + 7, none⟩ = some (.slice x.zA x.zone.length x.zc) := HCE.out _ HB4.out.below 7 _ rfl
  have q8 : w4.cell? ⟨b, off + j * 13 + 8, none⟩ = some (.slice x.d.Ab x.soa.bytes.length x.d.cb) := HCE.out _ HB4.out.below 8 _ rfl
  have q9 : w4.cell? ⟨b, off + j * 13 + 9, none⟩ = some (.slice x.d.Ah x.soa.host.length x.d.ch) := HCE.out _ HB4.out.below 9 _ rfl
  have q10 : w4.cell? ⟨b, off + j * 13 + 10, none⟩ = some (.slice x.d.Am x.soa.mail.length x.d.cm) := HCE.out _ HB4.out.below 10 _ rfl
  have q11 : w4.cell? ⟨b, off + j * 13 + 11, none⟩ = some (.slice x.d.An x.soa.nums.length x.d.cn) := HCE.out _ HB4.out.below 11 _ rfl
  have q12 : w4.cell? ⟨b, off + j * 13 + 12, none⟩ = some (.slice x.d.At x.soa.texts.length x.d.ct) := HCE.out _ HB4.out.below 12 _ rfl
  have HOW := Lib.hid (ownfact_any w4 x (HXA.out _ HB4.out.below) HXW.out)
  go_wp2_with fail
  refine HOW.out.mono ?_
  rintro e w5 ⟨x', rfl, hxe, hxo, hb5⟩
  have HB5 := Lib.hid (HB4.out.step hb5)
  have HX5 := Lib.hid (HX4.out.step hb5)
  have HPU := Lib.hid (show Calls _ _ _ _ _ from L.put HB5.out.cat (by unfold maxUses; omega) x' (k : Int) hxo.at_ (fin_eq hxe HXI.out) (few_eq hxe HXW.out) (wf_i64 (by omega) (by omega)))
  rw [hxe] at HPU
  clear hxe hxo hb5 HOW HB4 HX4 q0 q1 q2 q3 q4 q5 q6 q7 q8 q9 q10 q11 q12
  go_wp2_with fail
  refine HPU.out.mono ?_
  rintro e w6 ⟨F6, rfl, hat6, hmv6⟩
  have HR := Lib.hid (put_round (f := x.fact) (now := (k : Int)) (L.at_ok HB5.out.cat))
  have HOK := Lib.hid (L.at_ok HB5.out.cat)
  have HB6 := Lib.hid (HB5.out.moved hmv6 hat6)
  have HX6 := Lib.hid (HX5.out.moved hmv6)
  clear hat6 hmv6 HPU HB5 HX5
  obtain ⟨C2, hC2⟩ : ∃ C2, C2 = C.put x.fact (k : Int) := ⟨_, rfl⟩
  rw [← hC2] at HR HB6
  obtain ⟨rp, hrp⟩ : ∃ rp, rp = C2.find x.name x.h.typ := ⟨_, rfl⟩
  have HRP := Lib.hid hrp
  have HRR := Lib.hid (show (rp = some x.fact ∧ soundF x.fact = true ∧ ∀ g, ro = some g → g.h.rank ≤ x.h.rank ∨ leftI g.h.got g.h.ttl (k : Int) = 0) ∨ rp = ro from by
    rw [hrp, HRO.out]
    exact HR.out)
  have HSF := Lib.hid (show ∀ f, ro = some f → soundF f = true from fun f hf => by
    rw [HRO.out] at hf
    exact HOK.out.s f (List.mem_of_find?_eq_some hf))
  clear hrp hC2 HR HOK HRO
  go_upto_region 11 with fail
  go_cut [10, 11] from 68 to 82 (fun o t wx => BoxOut L w cv C2 F6 (j + 1) (w6.drew) rp o t wx)
  case first =>
    have HB0 := Lib.hid (HB6.out.step (Below.refl w6.heap.size w6).drew)
    refine wp_region_held_drew (S := fun W => W.cell? ⟨b, off + j * 13, none⟩ = some (.slice x.A x.name.length x.c) ∧ W.cell? ⟨b, off + j * 13 + 1, none⟩ = some (.int .i64 x.h.typ)) (by kernel_rfl) (HSC.out _ HB0.out.below) (fun hHeld => ?_)
    generalize w6.drew = wd at *
    refine takeY 0 ⟨some 69, _, _, _, _, _⟩ (v := ?_) ?_ ?_
    rotate_left
    · intro W hSw
      clear hSw
      go_simp
      all_goals (with_reducible rfl)
    try simp only [Act.put, List.setIfInBounds_toArray, List.set_cons_zero, List.set_cons_succ]
    refine takeY 1 ⟨some 70, _, _, _, _, _⟩ (v := ?_) ?_ ?_
    rotate_left
    · intro W hSw
      clear hSw
      go_simp
      all_goals (with_reducible rfl)
    try simp only [Act.put, List.setIfInBounds_toArray, List.set_cons_zero, List.set_cons_succ]
    refine takeY 2 ⟨some 71, _, _, _, _, _⟩ (v := ?_) ?_ ?_
    rotate_left
    · intro W hSw
      clear hSw
      go_simp
      all_goals (with_reducible rfl)
    try simp only [Act.put, List.setIfInBounds_toArray, List.set_cons_zero, List.set_cons_succ]
    refine takeY 3 ⟨some 72, _, _, _, _, _⟩ (v := ?_) ?_ ?_
    rotate_left
    · intro W hSw
      clear hSw
      go_simp
      all_goals (with_reducible rfl)
    try simp only [Act.put, List.setIfInBounds_toArray, List.set_cons_zero, List.set_cons_succ]
    refine takeY 4 ⟨some 73, _, _, _, _, _⟩ (v := ?_) ?_ ?_
    rotate_left
    · intro W hSw
      clear hSw
      go_simp
      all_goals (with_reducible rfl)
    try simp only [Act.put, List.setIfInBounds_toArray, List.set_cons_zero, List.set_cons_succ]
    refine takeY 5 ⟨some 74, _, _, _, _, _⟩ (v := ?_) ?_ ?_
    rotate_left
    · intro W hSw
      have q0 := hSw.1
      clear hSw
      go_simp
      all_goals (with_reducible rfl)
    try simp only [Act.put, List.setIfInBounds_toArray, List.set_cons_zero, List.set_cons_succ]
    refine takeY 6 ⟨some 75, _, _, _, _, _⟩ (v := ?_) ?_ ?_
    rotate_left
    · intro W hSw
      clear hSw
      go_simp
      all_goals (with_reducible rfl)
    try simp only [Act.put, List.setIfInBounds_toArray, List.set_cons_zero, List.set_cons_succ]
    refine takeY 7 ⟨some 76, _, _, _, _, _⟩ (v := ?_) ?_ ?_
    rotate_left
    · intro W hSw
      clear hSw
      go_simp
      all_goals (with_reducible rfl)
    try simp only [Act.put, List.setIfInBounds_toArray, List.set_cons_zero, List.set_cons_succ]
    refine takeY 8 ⟨some 77, _, _, _, _, _⟩ (v := ?_) ?_ ?_
    rotate_left
    · intro W hSw
      clear hSw
      go_simp
      all_goals (with_reducible rfl)
    try simp only [Act.put, List.setIfInBounds_toArray, List.set_cons_zero, List.set_cons_succ]
    refine takeY 9 ⟨some 78, _, _, _, _, _⟩ (v := ?_) ?_ ?_
    rotate_left
    · intro W hSw
      clear hSw
      go_simp
      all_goals (with_reducible rfl)
    try simp only [Act.put, List.setIfInBounds_toArray, List.set_cons_zero, List.set_cons_succ]
    refine takeY 10 ⟨some 79, _, _, _, _, _⟩ (v := ?_) ?_ ?_
    rotate_left
    · intro W hSw
      have q1 := hSw.2
      clear hSw
      go_simp
      all_goals (with_reducible rfl)
    try simp only [Act.put, List.setIfInBounds_toArray, List.set_cons_zero, List.set_cons_succ]
    refine wpAnyH_ready (rs := [11, 15]) (by kernel_rfl) (by simp) ?_
    refine AllReadyH.cons (o := { dst := some 80, op := Go.Op.call { callee := Go.Callee.value (Go.Operand.func 10), args := #[Go.Operand.tmp 69, Go.Operand.tmp 74, Go.Operand.tmp 79], argTypes := #[23, 29, 3] }, type := 37, pos := "law.go:125", after := #[{ on := 0, ground := Go.Ground.data }, { on := 5, ground := Go.Ground.data }, { on := 10, ground := Go.Ground.data }], guard := none }) rfl (fun K hK => ?_) (AllReadyH.cons (o := { dst := some 10, op := Go.Op.alloc 36, type := 0, pos := "law.go:125", after := #[], guard := none }) rfl (fun K hK => ?_) AllReadyH.nil)
    · go_simp
      refine (HLK.out _ _ _ _ HB0.out).mono ?_
      rintro e w8 ⟨v8, F8, rfl, htd, hat8, hmv8⟩
      rw [HRP.out.symm] at htd
      obtain ⟨y, rfl, hys, hyf, _⟩ := htd
      have HAT8 := Lib.hid hat8
      have HMV8 := Lib.hid hmv8
      have HYS := Lib.hid hys
      have HYF := Lib.hid hyf
      clear hat8 hmv8 hys hyf
      refine hK.out _ _ (by exact HSC.out _ (HB0.out.moved HMV8.out HAT8.out).below) (fun hHeld2 => ?_)
      clear hK K hHeld
      have hHeld := hHeld2
      clear hHeld2
      try simp only [Act.put, List.setIfInBounds_toArray, List.set_cons_zero, List.set_cons_succ]
      refine takeY 12 ⟨some 68, _, _, _, _, _⟩ (v := ?_) ?_ ?_
      rotate_left
      · intro W hSw
        clear hSw
        go_simp
        all_goals (with_reducible rfl)
      try simp only [Act.put, List.setIfInBounds_toArray, List.set_cons_zero, List.set_cons_succ]
      refine takeY 13 ⟨some 81, _, _, _, _, _⟩ (v := ?_) ?_ ?_
      rotate_left
      · intro W hSw
        clear hSw
        go_simp
        all_goals (with_reducible rfl)
      try simp only [Act.put, List.setIfInBounds_toArray, List.set_cons_zero, List.set_cons_succ]
      refine takeY 14 ⟨some 82, _, _, _, _, _⟩ (v := ?_) ?_ ?_
      rotate_left
      · intro W hSw
        clear hSw
        go_simp
        all_goals (with_reducible rfl)
      try simp only [Act.put, List.setIfInBounds_toArray, List.set_cons_zero, List.set_cons_succ]
      refine wpAnyH_ready (rs := [15]) (by kernel_rfl) (by simp) ?_
      refine AllReadyH.cons (o := { dst := some 10, op := Go.Op.alloc 36, type := 0, pos := "law.go:125", after := #[], guard := none }) rfl (fun K hK => ?_) AllReadyH.nil
      go_simp
      obtain ⟨wa, hwa⟩ : ∃ wa, wa = w8.alloc (.cells #[.slice none 0 0, .int .i64 0, .int .i64 0, .int .i64 0, .int .i64 0, .int .i64 0, .slice none 0 0, .slice none 0 0, .slice none 0 0, .slice none 0 0, .slice none 0 0, .slice none 0 0, .slice none 0 0] 36) := ⟨_, rfl⟩
      rw [← hwa]
      have HWA := Lib.hid hwa
      have HZ8 := Lib.hid (show Whole wa w8.heap.size 36 [.slice none 0 0, .int .i64 0, .int .i64 0, .int .i64 0, .int .i64 0, .int .i64 0, .slice none 0 0, .slice none 0 0, .slice none 0 0, .slice none 0 0, .slice none 0 0, .slice none 0 0, .slice none 0 0] from by rw [hwa]; exact Whole.made w8 [.slice none 0 0, .int .i64 0, .int .i64 0, .int .i64 0, .int .i64 0, .int .i64 0, .slice none 0 0, .slice none 0 0, .slice none 0 0, .slice none 0 0, .slice none 0 0, .slice none 0 0, .slice none 0 0] _)
      clear hwa
      refine hK.out _ _ (by exact HSC.out _ (((HB0.out.moved HMV8.out HAT8.out).step (show Below w8.heap.size w8 wa from by rw [HWA.out]; exact (Below.refl _ _).alloc (Nat.le_refl _) _)).below)) (fun hHeld2 => ?_)
      clear hK K hHeld
      have hHeld := hHeld2
      clear hHeld2
      try simp only [Act.put, List.setIfInBounds_toArray, List.set_cons_zero, List.set_cons_succ]
      refine wpAnyH_ready (rs := [16]) (by kernel_rfl) (by simp) ?_
      refine AllReadyH.cons (o := { dst := none, op := Go.Op.store 36 (Go.Operand.tmp 10) (Go.Operand.tmp 81), type := 0, pos := "law.go:125", after := #[{ on := 15, ground := Go.Ground.data }, { on := 13, ground := Go.Ground.data }, { on := 11, ground := Go.Ground.chain }, { on := 0, ground := Go.Ground.phase }, { on := 1, ground := Go.Ground.phase }, { on := 2, ground := Go.Ground.phase }, { on := 3, ground := Go.Ground.phase }, { on := 4, ground := Go.Ground.phase }, { on := 5, ground := Go.Ground.phase }, { on := 6, ground := Go.Ground.phase }, { on := 7, ground := Go.Ground.phase }, { on := 8, ground := Go.Ground.phase }, { on := 9, ground := Go.Ground.phase }, { on := 10, ground := Go.Ground.phase }, { on := 11, ground := Go.Ground.phase }, { on := 12, ground := Go.Ground.phase }, { on := 13, ground := Go.Ground.phase }, { on := 14, ground := Go.Ground.textOnly Go.Departure.lateStores }, { on := 15, ground := Go.Ground.phase }], guard := none }) rfl (fun K hK => ?_) AllReadyH.nil
      refine wp_store_at 36 (.tmp 10) (.tmp 81) rfl w8.heap.size 0 (cellsF y) rfl rfl 36 [.slice none 0 0, .int .i64 0, .int .i64 0, .int .i64 0, .int .i64 0, .int .i64 0, .slice none 0 0, .slice none 0 0, .slice none 0 0, .slice none 0 0, .slice none 0 0, .slice none 0 0, .slice none 0 0] HZ8.out (Nat.le_refl 13) fact_size (fun u hu => cellsF_one [y] u (by simpa using hu)) ?_
      intro V hV hG hZ
      have HBO := Lib.hid (box_after (ro := rp) HB0.out HMV8.out HAT8.out HYS.out HYF.out HWA.out (show Whole V _ _ (cellsF y) from hV) hG)
      clear hV hG hZ
      refine hK.out _ _ (by obtain ⟨_, _, _, _, _, hb, _⟩ := HBO.out; exact HSC.out _ hb.below) (fun hHeld2 => ?_)
      clear hK K hHeld
      have hHeld := hHeld2
      clear hHeld2
      try simp only [Act.put]
      refine takeY 17 ⟨some 11, _, _, _, _, _⟩ (v := ?_) ?_ ?_
      rotate_left
      · intro W hSw
        clear hSw
        go_simp
        all_goals (with_reducible rfl)
      try simp only [Act.put, List.setIfInBounds_toArray, List.set_cons_zero, List.set_cons_succ]
      refine wpAnyH_done (by kernel_rfl) ?_ _
      go_wp2_with fail
      go_meet
      exact HBO.out
    · go_simp
      obtain ⟨wa, hwa⟩ : ∃ wa, wa = (wd).alloc (.cells #[.slice none 0 0, .int .i64 0, .int .i64 0, .int .i64 0, .int .i64 0, .int .i64 0, .slice none 0 0, .slice none 0 0, .slice none 0 0, .slice none 0 0, .slice none 0 0, .slice none 0 0, .slice none 0 0] 36) := ⟨_, rfl⟩
      rw [← hwa]
      have HWA := Lib.hid hwa
      have HZA := Lib.hid (show Whole wa (wd).heap.size 36 [.slice none 0 0, .int .i64 0, .int .i64 0, .int .i64 0, .int .i64 0, .int .i64 0, .slice none 0 0, .slice none 0 0, .slice none 0 0, .slice none 0 0, .slice none 0 0, .slice none 0 0, .slice none 0 0] from by rw [hwa]; exact Whole.made (wd) [.slice none 0 0, .int .i64 0, .int .i64 0, .int .i64 0, .int .i64 0, .int .i64 0, .slice none 0 0, .slice none 0 0, .slice none 0 0, .slice none 0 0, .slice none 0 0, .slice none 0 0, .slice none 0 0] _)
      have HBA := Lib.hid (HB0.out.step (show Below (wd).heap.size (wd) wa from by rw [hwa]; exact (Below.refl _ _).alloc (Nat.le_refl _) _))
      clear hwa
      refine hK.out _ _ (by exact HSC.out _ HBA.out.below) (fun hHeld2 => ?_)
      clear hK K hHeld
      have hHeld := hHeld2
      clear hHeld2
      try simp only [Act.put, List.setIfInBounds_toArray, List.set_cons_zero, List.set_cons_succ]
      refine wpAnyH_ready (rs := [11]) (by kernel_rfl) (by simp) ?_
      refine AllReadyH.cons (o := { dst := some 80, op := Go.Op.call { callee := Go.Callee.value (Go.Operand.func 10), args := #[Go.Operand.tmp 69, Go.Operand.tmp 74, Go.Operand.tmp 79], argTypes := #[23, 29, 3] }, type := 37, pos := "law.go:125", after := #[{ on := 0, ground := Go.Ground.data }, { on := 5, ground := Go.Ground.data }, { on := 10, ground := Go.Ground.data }], guard := none }) rfl (fun K hK => ?_) AllReadyH.nil
      go_simp
      refine (HLK.out _ _ _ _ HBA.out).mono ?_
      rintro e w8 ⟨v8, F8, rfl, htd, hat8, hmv8⟩
      rw [HRP.out.symm] at htd
      obtain ⟨y, rfl, hys, hyf, _⟩ := htd
      have HAT8 := Lib.hid hat8
      have HMV8 := Lib.hid hmv8
      have HYS := Lib.hid hys
      have HYF := Lib.hid hyf
      clear hat8 hmv8 hys hyf
      refine hK.out _ _ (by exact HSC.out _ (HBA.out.moved HMV8.out HAT8.out).below) (fun hHeld2 => ?_)
      clear hK K hHeld
      have hHeld := hHeld2
      clear hHeld2
      try simp only [Act.put, List.setIfInBounds_toArray, List.set_cons_zero, List.set_cons_succ]
      refine takeY 12 ⟨some 68, _, _, _, _, _⟩ (v := ?_) ?_ ?_
      rotate_left
      · intro W hSw
        clear hSw
        go_simp
        all_goals (with_reducible rfl)
      try simp only [Act.put, List.setIfInBounds_toArray, List.set_cons_zero, List.set_cons_succ]
      refine takeY 13 ⟨some 81, _, _, _, _, _⟩ (v := ?_) ?_ ?_
      rotate_left
      · intro W hSw
        clear hSw
        go_simp
        all_goals (with_reducible rfl)
      try simp only [Act.put, List.setIfInBounds_toArray, List.set_cons_zero, List.set_cons_succ]
      refine takeY 14 ⟨some 82, _, _, _, _, _⟩ (v := ?_) ?_ ?_
      rotate_left
      · intro W hSw
        clear hSw
        go_simp
        all_goals (with_reducible rfl)
      try simp only [Act.put, List.setIfInBounds_toArray, List.set_cons_zero, List.set_cons_succ]
      refine wpAnyH_ready (rs := [16]) (by kernel_rfl) (by simp) ?_
      refine AllReadyH.cons (o := { dst := none, op := Go.Op.store 36 (Go.Operand.tmp 10) (Go.Operand.tmp 81), type := 0, pos := "law.go:125", after := #[{ on := 15, ground := Go.Ground.data }, { on := 13, ground := Go.Ground.data }, { on := 11, ground := Go.Ground.chain }, { on := 0, ground := Go.Ground.phase }, { on := 1, ground := Go.Ground.phase }, { on := 2, ground := Go.Ground.phase }, { on := 3, ground := Go.Ground.phase }, { on := 4, ground := Go.Ground.phase }, { on := 5, ground := Go.Ground.phase }, { on := 6, ground := Go.Ground.phase }, { on := 7, ground := Go.Ground.phase }, { on := 8, ground := Go.Ground.phase }, { on := 9, ground := Go.Ground.phase }, { on := 10, ground := Go.Ground.phase }, { on := 11, ground := Go.Ground.phase }, { on := 12, ground := Go.Ground.phase }, { on := 13, ground := Go.Ground.phase }, { on := 14, ground := Go.Ground.textOnly Go.Departure.lateStores }, { on := 15, ground := Go.Ground.phase }], guard := none }) rfl (fun K hK => ?_) AllReadyH.nil
      have HZW := Lib.hid (show Whole w8 wd.heap.size 36 [.slice none 0 0, .int .i64 0, .int .i64 0, .int .i64 0, .int .i64 0, .int .i64 0, .slice none 0 0, .slice none 0 0, .slice none 0 0, .slice none 0 0, .slice none 0 0, .slice none 0 0, .slice none 0 0] from HMV8.out.whole HZA.out (fun hf => by have := ((L.at_own HB0.out.cat).2 _ hf).2; omega))
      refine wp_store_at 36 (.tmp 10) (.tmp 81) rfl wd.heap.size 0 (cellsF y) rfl rfl 36 [.slice none 0 0, .int .i64 0, .int .i64 0, .int .i64 0, .int .i64 0, .int .i64 0, .slice none 0 0, .slice none 0 0, .slice none 0 0, .slice none 0 0, .slice none 0 0, .slice none 0 0, .slice none 0 0] HZW.out (Nat.le_refl 13) fact_size (fun u hu => cellsF_one [y] u (by simpa using hu)) ?_
      intro V hV hG hZ
      have HBO := Lib.hid (box_before (ro := rp) HB0.out HWA.out HMV8.out HAT8.out HYS.out HYF.out (show Whole V _ _ (cellsF y) from hV) hG)
      clear hV hG hZ
      refine hK.out _ _ (by obtain ⟨_, _, _, _, _, hb, _⟩ := HBO.out; exact HSC.out _ hb.below) (fun hHeld2 => ?_)
      clear hK K hHeld
      have hHeld := hHeld2
      clear hHeld2
      try simp only [Act.put]
      refine takeY 17 ⟨some 11, _, _, _, _, _⟩ (v := ?_) ?_ ?_
      rotate_left
      · intro W hSw
        clear hSw
        go_simp
        all_goals (with_reducible rfl)
      try simp only [Act.put, List.setIfInBounds_toArray, List.set_cons_zero, List.set_cons_succ]
      refine wpAnyH_done (by kernel_rfl) ?_ _
      go_wp2_with fail
      go_meet
      exact HBO.out
  case rest =>
  obtain ⟨z, gz, F9, rfl, rfl, hb9, hm9, hz9, hzf⟩ := hcut
  rename World => w9
  have HB9 := Lib.hid hb9
  have HX9 := Lib.hid ((HX6.out.step (Below.refl _ _).drew).moved hm9)
  have HZ9 := Lib.hid hz9
  have HZF := Lib.hid hzf
  clear hb9 hm9 hz9 hzf HB6 HX6 HLK HRP
  have HTH := Lib.hid (show ro.isSome = true → rp.isSome = true ∧ soundF y.fact = true ∧ (z.h.rank < y.h.rank → leftI y.h.got y.h.ttl (k : Int) = 0) from fun h => by
    obtain ⟨fo, hfo⟩ := Option.isSome_iff_exists.1 h
    have hyf := HY4.out fo hfo
    have hso : soundF y.fact = true := by rw [hyf]; exact HSF.out fo hfo
    rcases HRR.out with ⟨h1, _, h3⟩ | h1
    · refine ⟨by rw [h1]; rfl, hso, fun hr => ?_⟩
      have hzf := HZF.out _ h1
      have e1 : z.h = x.h := (fact_inj (x := x) (y := z) hzf).2.1
      rcases h3 fo hfo with h4 | h4
      · rw [← hyf] at h4
        have h5 : y.h.rank ≤ x.h.rank := h4
        rw [e1] at hr
        omega
      · rw [← hyf] at h4
        exact h4
    · rw [hfo] at h1
      refine ⟨by rw [h1]; rfl, hso, fun hr => ?_⟩
      have hzf := HZF.out _ h1
      have e1 : z.h = y.h := (fact_inj (x := y) (y := z) (hzf.trans hyf.symm)).2.1
      rw [e1] at hr
      omega)
  have HOK := Lib.hid (show rp.isSome = true → soundF z.fact = true ∧ (sameF z.fact x.fact = true ∨ ro.isSome = true ∧ sameF z.fact y.fact = true) from fun h => by
    rcases HRR.out with ⟨h1, h2, _⟩ | h1
    · have hzf := HZF.out _ h1
      rw [hzf]
      exact ⟨h2, .inl (sameF_refl h2)⟩
    · obtain ⟨f, hf⟩ := Option.isSome_iff_exists.1 h
      have hzf := HZF.out _ hf
      have hro : ro = some f := by rw [← h1]; exact hf
      have hyf := HY4.out _ hro
      have hs := HSF.out f hro
      rw [hzf, hyf]
      exact ⟨hs, .inr ⟨by rw [hro]; rfl, sameF_refl hs⟩⟩)
  clear HRR HSF HY4 HZF
  revert HTH HOK
  generalize ro.isSome = th
  generalize rp.isSome = ok
  intro HTH HOK
  have y3 : w9.cell? ⟨g, 3, none⟩ = some (.int .i64 y.h.rank) := HX9.out.box.cell 3
  have y4 : w9.cell? ⟨g, 4, none⟩ = some (.int .i64 y.h.got) := HX9.out.box.cell 4
  have y5 : w9.cell? ⟨g, 5, none⟩ = some (.int .i64 y.h.ttl) := HX9.out.box.cell 5
  have z3 : w9.cell? ⟨gz, 3, none⟩ = some (.int .i64 z.h.rank) := HZ9.out.box.cell 3
  go_upto_region 12 with fail
  go_cut [104] from 83 to 103 (fun v wx => v = .bool false ∧ wx = w9)
  case first =>
    cases th with
    | false =>
      go_wp2_with fail
      go_meet
      exact ⟨rfl, rfl⟩
    | true =>
      obtain rfl : ok = true := (HTH.out rfl).1
      by_cases hr : z.h.rank < y.h.rank
      · have d1 : decide (z.h.rank < y.h.rank) = true := decide_eq_true hr
        have h := refleft_any y.h.got y.h.ttl (k : Int) w9
        rw [(HTH.out rfl).2.2 hr] at h
        have HLE := Lib.hid h
        clear h
        go_wp2_with fail
        refine HLE.out.mono ?_
        rintro e wl ⟨rfl, rfl⟩
        go_wp2_with fail
        go_meet
        exact ⟨rfl, rfl⟩
      · have d1 : decide (z.h.rank < y.h.rank) = false := decide_eq_false hr
        go_wp2_with fail
        go_meet
        exact ⟨rfl, rfl⟩
  case rest =>
  obtain ⟨rfl, rfl⟩ := hcut
  clear y3 y4 y5 z3
  go_upto_region 14 with fail
  go_cut [124] from 105 to 123 (fun v wx => v = .bool false ∧ BtAt L w cv C2 F9 (j + 1) wx)
  case first =>
    have HB0 := Lib.hid (HB9.out.step (Below.refl wc.heap.size wc).drew)
    have HX0 := Lib.hid (HX9.out.step (Below.refl wc.heap.size wc).drew)
    have HZ0 := Lib.hid (HZ9.out.step (Below.refl wc.heap.size wc).drew)
    refine wp_region_held_drew (S := fun W => BoxO F9 gz z W ∧ BoxO F9 g y W ∧ Below w.heap.size w W) (by kernel_rfl) ⟨HZ0.out, HX0.out, HB0.out.below⟩ (fun hHeld => ?_)
    generalize wc.drew = wd at *
    have HBL := Lib.hid HB0.out.below
    cases ok with
    | false =>
      refine takeY 0 ⟨some 105, _, _, _, _, _⟩ (v := ?_) ?_ ?_
      rotate_left
      · intro W hSw
        clear hSw
        go_simp
        all_goals (with_reducible rfl)
      try simp only [Act.put, List.setIfInBounds_toArray, List.set_cons_zero, List.set_cons_succ]
      refine takeY 1 ⟨some 106, _, _, _, _, _⟩ (v := ?_) ?_ ?_
      rotate_left
      · intro W hSw
        clear hSw
        go_simp
        all_goals (with_reducible rfl)
      try simp only [Act.put, List.setIfInBounds_toArray, List.set_cons_zero, List.set_cons_succ]
      refine takeN 2 ⟨some 107, _, _, _, _, _⟩ ?_
      try simp only [Act.put, List.setIfInBounds_toArray, List.set_cons_zero, List.set_cons_succ]
      refine takeN 3 ⟨some 108, _, _, _, _, _⟩ ?_
      try simp only [Act.put, List.setIfInBounds_toArray, List.set_cons_zero, List.set_cons_succ]
      refine takeN 4 ⟨some 109, _, _, _, _, _⟩ ?_
      try simp only [Act.put, List.setIfInBounds_toArray, List.set_cons_zero, List.set_cons_succ]
      refine takeN 5 ⟨some 110, _, _, _, _, _⟩ ?_
      try simp only [Act.put, List.setIfInBounds_toArray, List.set_cons_zero, List.set_cons_succ]
      refine takeN 6 ⟨some 111, _, _, _, _, _⟩ ?_
      try simp only [Act.put, List.setIfInBounds_toArray, List.set_cons_zero, List.set_cons_succ]
      refine takeN 7 ⟨some 112, _, _, _, _, _⟩ ?_
      try simp only [Act.put, List.setIfInBounds_toArray, List.set_cons_zero, List.set_cons_succ]
      refine takeN 8 ⟨some 113, _, _, _, _, _⟩ ?_
      try simp only [Act.put, List.setIfInBounds_toArray, List.set_cons_zero, List.set_cons_succ]
      refine takeY 9 ⟨some 114, _, _, _, _, _⟩ (v := ?_) ?_ ?_
      rotate_left
      · intro W hSw
        clear hSw
        go_simp
        all_goals (with_reducible rfl)
      try simp only [Act.put, List.setIfInBounds_toArray, List.set_cons_zero, List.set_cons_succ]
      refine takeY 10 ⟨some 115, _, _, _, _, _⟩ (v := ?_) ?_ ?_
      rotate_left
      · intro W hSw
        have q1 := hSw.2
        clear hSw
        go_simp
        all_goals (with_reducible rfl)
      try simp only [Act.put, List.setIfInBounds_toArray, List.set_cons_zero, List.set_cons_succ]
      refine takeN 11 ⟨some 116, _, _, _, _, _⟩ ?_
      try simp only [Act.put, List.setIfInBounds_toArray, List.set_cons_zero, List.set_cons_succ]
      refine takeN 12 ⟨some 117, _, _, _, _, _⟩ ?_
      try simp only [Act.put, List.setIfInBounds_toArray, List.set_cons_zero, List.set_cons_succ]
      refine takeN 13 ⟨some 118, _, _, _, _, _⟩ ?_
      try simp only [Act.put, List.setIfInBounds_toArray, List.set_cons_zero, List.set_cons_succ]
      refine takeN 14 ⟨some 119, _, _, _, _, _⟩ ?_
      try simp only [Act.put, List.setIfInBounds_toArray, List.set_cons_zero, List.set_cons_succ]
      refine takeN 15 ⟨some 120, _, _, _, _, _⟩ ?_
      try simp only [Act.put, List.setIfInBounds_toArray, List.set_cons_zero, List.set_cons_succ]
      refine takeN 16 ⟨some 121, _, _, _, _, _⟩ ?_
      try simp only [Act.put, List.setIfInBounds_toArray, List.set_cons_zero, List.set_cons_succ]
      refine takeN 17 ⟨some 122, _, _, _, _, _⟩ ?_
      try simp only [Act.put, List.setIfInBounds_toArray, List.set_cons_zero, List.set_cons_succ]
      refine takeN 18 ⟨some 123, _, _, _, _, _⟩ ?_
      try simp only [Act.put, List.setIfInBounds_toArray, List.set_cons_zero, List.set_cons_succ]
      refine takeY 19 ⟨some 124, _, _, _, _, _⟩ (v := ?_) ?_ ?_
      rotate_left
      · intro W hSw
        clear hSw
        go_simp
        all_goals (with_reducible rfl)
      try simp only [Act.put, List.setIfInBounds_toArray, List.set_cons_zero, List.set_cons_succ]
      refine wpAnyH_done (by kernel_rfl) ?_ _
      go_wp2_with fail
      go_meet
      exact ⟨rfl, HB0.out⟩
    | true =>
      obtain ⟨hzs, hor⟩ := HOK.out rfl
      have hzi := soundF_in hzs
      cases hs1 : sameF z.fact x.fact with
      | true =>
        have h := refsame_any wd z x HZ0.out.at_ (HXA.out _ HB0.out.below) hzi HXI.out
        rw [hs1] at h
        have HS1 := Lib.hid h
        clear h hs1 hor hzs hzi
        refine takeY 0 ⟨some 105, _, _, _, _, _⟩ (v := ?_) ?_ ?_
        rotate_left
        · intro W hSw
          clear hSw
          go_simp
          all_goals (with_reducible rfl)
        try simp only [Act.put, List.setIfInBounds_toArray, List.set_cons_zero, List.set_cons_succ]
        refine takeY 1 ⟨some 106, _, _, _, _, _⟩ (v := ?_) ?_ ?_
        rotate_left
        · intro W hSw
          clear hSw
          go_simp
          all_goals (with_reducible rfl)
        try simp only [Act.put, List.setIfInBounds_toArray, List.set_cons_zero, List.set_cons_succ]
        refine takeY 2 ⟨some 107, _, _, _, _, _⟩ (v := ?_) ?_ ?_
        rotate_left
        · intro W hSw
          have z0 : W.cell? ⟨gz, 0, none⟩ = some (.slice z.A z.name.length z.c) := hSw.1.box.cell 0
          have z1 : W.cell? ⟨gz, 1, none⟩ = some (.int .i64 z.h.typ) := hSw.1.box.cell 1
          have z2 : W.cell? ⟨gz, 2, none⟩ = some (.int .i64 z.h.knd) := hSw.1.box.cell 2
          have z3 : W.cell? ⟨gz, 3, none⟩ = some (.int .i64 z.h.rank) := hSw.1.box.cell 3
          have z4 : W.cell? ⟨gz, 4, none⟩ = some (.int .i64 z.h.got) := hSw.1.box.cell 4
          have z5 : W.cell? ⟨gz, 5, none⟩ = some (.int .i64 z.h.ttl) := hSw.1.box.cell 5
          have z6 : W.cell? ⟨gz, 6, none⟩ = some (.slice z.sA z.sp.length z.sc) := hSw.1.box.cell 6
          have z7 : W.cell? ⟨gz, 7, none⟩ = some (.slice z.zA z.zone.length z.zc) := hSw.1.box.cell 7
          have z8 : W.cell? ⟨gz, 8, none⟩ = some (.slice z.d.Ab z.soa.bytes.length z.d.cb) := hSw.1.box.cell 8
          have z9 : W.cell? ⟨gz, 9, none⟩ = some (.slice z.d.Ah z.soa.host.length z.d.ch) := hSw.1.box.cell 9
          have z10 : W.cell? ⟨gz, 10, none⟩ = some (.slice z.d.Am z.soa.mail.length z.d.cm) := hSw.1.box.cell 10
          have z11 : W.cell? ⟨gz, 11, none⟩ = some (.slice z.d.An z.soa.nums.length z.d.cn) := hSw.1.box.cell 11
          have z12 : W.cell? ⟨gz, 12, none⟩ = some (.slice z.d.At z.soa.texts.length z.d.ct) := hSw.1.box.cell 12
          clear hSw
          go_simp
          all_goals (with_reducible rfl)
        try simp only [Act.put, List.setIfInBounds_toArray, List.set_cons_zero, List.set_cons_succ]
        refine takeY 3 ⟨some 108, _, _, _, _, _⟩ (v := ?_) ?_ ?_
        rotate_left
        · intro W hSw
          clear hSw
          go_simp
          all_goals (with_reducible rfl)
        try simp only [Act.put, List.setIfInBounds_toArray, List.set_cons_zero, List.set_cons_succ]
        refine takeY 4 ⟨some 109, _, _, _, _, _⟩ (v := ?_) ?_ ?_
        rotate_left
        · intro W hSw
          clear hSw
          go_simp
          all_goals (with_reducible rfl)
        try simp only [Act.put, List.setIfInBounds_toArray, List.set_cons_zero, List.set_cons_succ]
        refine takeY 5 ⟨some 110, _, _, _, _, _⟩ (v := ?_) ?_ ?_
        rotate_left
        · intro W hSw
          clear hSw
          go_simp
          all_goals (with_reducible rfl)
        try simp only [Act.put, List.setIfInBounds_toArray, List.set_cons_zero, List.set_cons_succ]
        refine takeY 6 ⟨some 111, _, _, _, _, _⟩ (v := ?_) ?_ ?_
        rotate_left
        · intro W hSw
          have q0 : W.cell? ⟨b, off + j * 13, none⟩ = some (.slice x.A x.name.length x.c) := HCE.out _ hSw.2.2 0 _ rfl
          have q1 : W.cell? ⟨b, off + j * 13 + 1, none⟩ = some (.int .i64 x.h.typ) := HCE.out _ hSw.2.2 1 _ rfl
          have q2 : W.cell? ⟨b, off + j * 13 + 2, none⟩ = some (.int .i64 x.h.knd) := HCE.out _ hSw.2.2 2 _ rfl
          have q3 : W.cell? ⟨b, off + j * 13 + 3, none⟩ = some (.int .i64 x.h.rank) := HCE.out _ hSw.2.2 3 _ rfl
          have q4 : W.cell? ⟨b, off + j * 13 + 4, none⟩ = some (.int .i64 x.h.got) := HCE.out _ hSw.2.2 4 _ rfl
          have q5 : W.cell? ⟨b, off + j * 13 + 5, none⟩ = some (.int .i64 x.h.ttl) := HCE.out _ hSw.2.2 5 _ rfl
          have q6 : W.cell? ⟨b, off + j * 13 + 6, none⟩ = some (.slice x.sA x.sp.length x.sc) := HCE.out _ hSw.2.2 6 _ rfl
          have q7 : W.cell? ⟨b, off + j * 13 + 7, none⟩ = some (.slice x.zA x.zone.length x.zc) := HCE.out _ hSw.2.2 7 _ rfl
          have q8 : W.cell? ⟨b, off + j * 13 + 8, none⟩ = some (.slice x.d.Ab x.soa.bytes.length x.d.cb) := HCE.out _ hSw.2.2 8 _ rfl
          have q9 : W.cell? ⟨b, off + j * 13 + 9, none⟩ = some (.slice x.d.Ah x.soa.host.length x.d.ch) := HCE.out _ hSw.2.2 9 _ rfl
          have q10 : W.cell? ⟨b, off + j * 13 + 10, none⟩ = some (.slice x.d.Am x.soa.mail.length x.d.cm) := HCE.out _ hSw.2.2 10 _ rfl
          have q11 : W.cell? ⟨b, off + j * 13 + 11, none⟩ = some (.slice x.d.An x.soa.nums.length x.d.cn) := HCE.out _ hSw.2.2 11 _ rfl
          have q12 : W.cell? ⟨b, off + j * 13 + 12, none⟩ = some (.slice x.d.At x.soa.texts.length x.d.ct) := HCE.out _ hSw.2.2 12 _ rfl
          clear hSw
          go_simp
          all_goals (with_reducible rfl)
        try simp only [Act.put, List.setIfInBounds_toArray, List.set_cons_zero, List.set_cons_succ]
        refine wpAnyH_ready (rs := [7]) (by kernel_rfl) (by simp) ?_
        refine AllReadyH.cons (o := { dst := some 112, op := Go.Op.call { callee := Go.Callee.value (Go.Operand.func 14), args := #[Go.Operand.tmp 107, Go.Operand.tmp 111], argTypes := #[36, 36] }, type := 4, pos := "law.go:129", after := #[{ on := 2, ground := Go.Ground.data }, { on := 6, ground := Go.Ground.data }, { on := 1, ground := Go.Ground.chain }, { on := 1, ground := Go.Ground.guard }], guard := some (1, true) }) rfl (fun K hK => ?_) AllReadyH.nil
        go_simp
        refine HS1.out.mono ?_
        rintro e wa ⟨rfl, hba⟩
        have HBA := Lib.hid (HB0.out.step hba)
        have HXB := Lib.hid (HX0.out.step hba)
        have HZB := Lib.hid (HZ0.out.step hba)
        clear hba
        refine hK.out _ _ (by exact ⟨HZB.out, HXB.out, HBA.out.below⟩) (fun hHeld2 => ?_)
        clear hK K hHeld
        have hHeld := hHeld2
        clear hHeld2
        try simp only [Act.put, List.setIfInBounds_toArray, List.set_cons_zero, List.set_cons_succ]
        refine takeY 8 ⟨some 113, _, _, _, _, _⟩ (v := ?_) ?_ ?_
        rotate_left
        · intro W hSw
          clear hSw
          go_simp
          all_goals (with_reducible rfl)
        try simp only [Act.put, List.setIfInBounds_toArray, List.set_cons_zero, List.set_cons_succ]
        refine takeY 9 ⟨some 114, _, _, _, _, _⟩ (v := ?_) ?_ ?_
        rotate_left
        · intro W hSw
          clear hSw
          go_simp
          all_goals (with_reducible rfl)
        try simp only [Act.put, List.setIfInBounds_toArray, List.set_cons_zero, List.set_cons_succ]
        refine takeY 10 ⟨some 115, _, _, _, _, _⟩ (v := ?_) ?_ ?_
        rotate_left
        · intro W hSw
          clear hSw
          go_simp
          all_goals (with_reducible rfl)
        try simp only [Act.put, List.setIfInBounds_toArray, List.set_cons_zero, List.set_cons_succ]
        refine takeN 11 ⟨some 116, _, _, _, _, _⟩ ?_
        try simp only [Act.put, List.setIfInBounds_toArray, List.set_cons_zero, List.set_cons_succ]
        refine takeN 12 ⟨some 117, _, _, _, _, _⟩ ?_
        try simp only [Act.put, List.setIfInBounds_toArray, List.set_cons_zero, List.set_cons_succ]
        refine takeN 13 ⟨some 118, _, _, _, _, _⟩ ?_
        try simp only [Act.put, List.setIfInBounds_toArray, List.set_cons_zero, List.set_cons_succ]
        refine takeN 14 ⟨some 119, _, _, _, _, _⟩ ?_
        try simp only [Act.put, List.setIfInBounds_toArray, List.set_cons_zero, List.set_cons_succ]
        refine takeN 15 ⟨some 120, _, _, _, _, _⟩ ?_
        try simp only [Act.put, List.setIfInBounds_toArray, List.set_cons_zero, List.set_cons_succ]
        refine takeN 16 ⟨some 121, _, _, _, _, _⟩ ?_
        try simp only [Act.put, List.setIfInBounds_toArray, List.set_cons_zero, List.set_cons_succ]
        refine takeN 17 ⟨some 122, _, _, _, _, _⟩ ?_
        try simp only [Act.put, List.setIfInBounds_toArray, List.set_cons_zero, List.set_cons_succ]
        refine takeN 18 ⟨some 123, _, _, _, _, _⟩ ?_
        try simp only [Act.put, List.setIfInBounds_toArray, List.set_cons_zero, List.set_cons_succ]
        refine takeY 19 ⟨some 124, _, _, _, _, _⟩ (v := ?_) ?_ ?_
        rotate_left
        · intro W hSw
          clear hSw
          go_simp
          all_goals (with_reducible rfl)
        try simp only [Act.put, List.setIfInBounds_toArray, List.set_cons_zero, List.set_cons_succ]
        refine wpAnyH_done (by kernel_rfl) ?_ _
        go_wp2_with fail
        go_meet
        exact ⟨rfl, HBA.out⟩
      | false =>
        rw [hs1] at hor
        obtain ⟨rfl, hs2⟩ : th = true ∧ sameF z.fact y.fact = true := by
          rcases hor with h | h
          · cases h
          · exact h
        have h := refsame_any wd z x HZ0.out.at_ (HXA.out _ HB0.out.below) hzi HXI.out
        rw [hs1] at h
        have HS1 := Lib.hid h
        have HS2 := Lib.hid (show ∀ W, BoxO F9 gz z W → BoxO F9 g y W → Calls Tryz.prog 14 #[z.val, y.val] W (Gave W (.bool true)) from fun W h1 h2 => hs2 ▸ refsame_any W z y h1.at_ h2.at_ hzi (soundF_in (HTH.out rfl).2.1))
        clear h hs1 hs2 hor hzs hzi
        refine takeY 0 ⟨some 105, _, _, _, _, _⟩ (v := ?_) ?_ ?_
        rotate_left
        · intro W hSw
          clear hSw
          go_simp
          all_goals (with_reducible rfl)
        try simp only [Act.put, List.setIfInBounds_toArray, List.set_cons_zero, List.set_cons_succ]
        refine takeY 1 ⟨some 106, _, _, _, _, _⟩ (v := ?_) ?_ ?_
        rotate_left
        · intro W hSw
          clear hSw
          go_simp
          all_goals (with_reducible rfl)
        try simp only [Act.put, List.setIfInBounds_toArray, List.set_cons_zero, List.set_cons_succ]
        refine takeY 2 ⟨some 107, _, _, _, _, _⟩ (v := ?_) ?_ ?_
        rotate_left
        · intro W hSw
          have z0 : W.cell? ⟨gz, 0, none⟩ = some (.slice z.A z.name.length z.c) := hSw.1.box.cell 0
          have z1 : W.cell? ⟨gz, 1, none⟩ = some (.int .i64 z.h.typ) := hSw.1.box.cell 1
          have z2 : W.cell? ⟨gz, 2, none⟩ = some (.int .i64 z.h.knd) := hSw.1.box.cell 2
          have z3 : W.cell? ⟨gz, 3, none⟩ = some (.int .i64 z.h.rank) := hSw.1.box.cell 3
          have z4 : W.cell? ⟨gz, 4, none⟩ = some (.int .i64 z.h.got) := hSw.1.box.cell 4
          have z5 : W.cell? ⟨gz, 5, none⟩ = some (.int .i64 z.h.ttl) := hSw.1.box.cell 5
          have z6 : W.cell? ⟨gz, 6, none⟩ = some (.slice z.sA z.sp.length z.sc) := hSw.1.box.cell 6
          have z7 : W.cell? ⟨gz, 7, none⟩ = some (.slice z.zA z.zone.length z.zc) := hSw.1.box.cell 7
          have z8 : W.cell? ⟨gz, 8, none⟩ = some (.slice z.d.Ab z.soa.bytes.length z.d.cb) := hSw.1.box.cell 8
          have z9 : W.cell? ⟨gz, 9, none⟩ = some (.slice z.d.Ah z.soa.host.length z.d.ch) := hSw.1.box.cell 9
          have z10 : W.cell? ⟨gz, 10, none⟩ = some (.slice z.d.Am z.soa.mail.length z.d.cm) := hSw.1.box.cell 10
          have z11 : W.cell? ⟨gz, 11, none⟩ = some (.slice z.d.An z.soa.nums.length z.d.cn) := hSw.1.box.cell 11
          have z12 : W.cell? ⟨gz, 12, none⟩ = some (.slice z.d.At z.soa.texts.length z.d.ct) := hSw.1.box.cell 12
          clear hSw
          go_simp
          all_goals (with_reducible rfl)
        try simp only [Act.put, List.setIfInBounds_toArray, List.set_cons_zero, List.set_cons_succ]
        refine takeY 3 ⟨some 108, _, _, _, _, _⟩ (v := ?_) ?_ ?_
        rotate_left
        · intro W hSw
          clear hSw
          go_simp
          all_goals (with_reducible rfl)
        try simp only [Act.put, List.setIfInBounds_toArray, List.set_cons_zero, List.set_cons_succ]
        refine takeY 4 ⟨some 109, _, _, _, _, _⟩ (v := ?_) ?_ ?_
        rotate_left
        · intro W hSw
          clear hSw
          go_simp
          all_goals (with_reducible rfl)
        try simp only [Act.put, List.setIfInBounds_toArray, List.set_cons_zero, List.set_cons_succ]
        refine takeY 5 ⟨some 110, _, _, _, _, _⟩ (v := ?_) ?_ ?_
        rotate_left
        · intro W hSw
          clear hSw
          go_simp
          all_goals (with_reducible rfl)
        try simp only [Act.put, List.setIfInBounds_toArray, List.set_cons_zero, List.set_cons_succ]
        refine takeY 6 ⟨some 111, _, _, _, _, _⟩ (v := ?_) ?_ ?_
        rotate_left
        · intro W hSw
          have q0 : W.cell? ⟨b, off + j * 13, none⟩ = some (.slice x.A x.name.length x.c) := HCE.out _ hSw.2.2 0 _ rfl
          have q1 : W.cell? ⟨b, off + j * 13 + 1, none⟩ = some (.int .i64 x.h.typ) := HCE.out _ hSw.2.2 1 _ rfl
          have q2 : W.cell? ⟨b, off + j * 13 + 2, none⟩ = some (.int .i64 x.h.knd) := HCE.out _ hSw.2.2 2 _ rfl
          have q3 : W.cell? ⟨b, off + j * 13 + 3, none⟩ = some (.int .i64 x.h.rank) := HCE.out _ hSw.2.2 3 _ rfl
          have q4 : W.cell? ⟨b, off + j * 13 + 4, none⟩ = some (.int .i64 x.h.got) := HCE.out _ hSw.2.2 4 _ rfl
          have q5 : W.cell? ⟨b, off + j * 13 + 5, none⟩ = some (.int .i64 x.h.ttl) := HCE.out _ hSw.2.2 5 _ rfl
          have q6 : W.cell? ⟨b, off + j * 13 + 6, none⟩ = some (.slice x.sA x.sp.length x.sc) := HCE.out _ hSw.2.2 6 _ rfl
          have q7 : W.cell? ⟨b, off + j * 13 + 7, none⟩ = some (.slice x.zA x.zone.length x.zc) := HCE.out _ hSw.2.2 7 _ rfl
          have q8 : W.cell? ⟨b, off + j * 13 + 8, none⟩ = some (.slice x.d.Ab x.soa.bytes.length x.d.cb) := HCE.out _ hSw.2.2 8 _ rfl
          have q9 : W.cell? ⟨b, off + j * 13 + 9, none⟩ = some (.slice x.d.Ah x.soa.host.length x.d.ch) := HCE.out _ hSw.2.2 9 _ rfl
          have q10 : W.cell? ⟨b, off + j * 13 + 10, none⟩ = some (.slice x.d.Am x.soa.mail.length x.d.cm) := HCE.out _ hSw.2.2 10 _ rfl
          have q11 : W.cell? ⟨b, off + j * 13 + 11, none⟩ = some (.slice x.d.An x.soa.nums.length x.d.cn) := HCE.out _ hSw.2.2 11 _ rfl
          have q12 : W.cell? ⟨b, off + j * 13 + 12, none⟩ = some (.slice x.d.At x.soa.texts.length x.d.ct) := HCE.out _ hSw.2.2 12 _ rfl
          clear hSw
          go_simp
          all_goals (with_reducible rfl)
        try simp only [Act.put, List.setIfInBounds_toArray, List.set_cons_zero, List.set_cons_succ]
        refine wpAnyH_ready (rs := [7]) (by kernel_rfl) (by simp) ?_
        refine AllReadyH.cons (o := { dst := some 112, op := Go.Op.call { callee := Go.Callee.value (Go.Operand.func 14), args := #[Go.Operand.tmp 107, Go.Operand.tmp 111], argTypes := #[36, 36] }, type := 4, pos := "law.go:129", after := #[{ on := 2, ground := Go.Ground.data }, { on := 6, ground := Go.Ground.data }, { on := 1, ground := Go.Ground.chain }, { on := 1, ground := Go.Ground.guard }], guard := some (1, true) }) rfl (fun K hK => ?_) AllReadyH.nil
        go_simp
        refine HS1.out.mono ?_
        rintro e wa ⟨rfl, hba⟩
        have HBA := Lib.hid (HB0.out.step hba)
        have HXB := Lib.hid (HX0.out.step hba)
        have HZB := Lib.hid (HZ0.out.step hba)
        clear hba
        refine hK.out _ _ (by exact ⟨HZB.out, HXB.out, HBA.out.below⟩) (fun hHeld2 => ?_)
        clear hK K hHeld
        have hHeld := hHeld2
        clear hHeld2
        try simp only [Act.put, List.setIfInBounds_toArray, List.set_cons_zero, List.set_cons_succ]
        refine takeY 8 ⟨some 113, _, _, _, _, _⟩ (v := ?_) ?_ ?_
        rotate_left
        · intro W hSw
          clear hSw
          go_simp
          all_goals (with_reducible rfl)
        try simp only [Act.put, List.setIfInBounds_toArray, List.set_cons_zero, List.set_cons_succ]
        refine takeY 9 ⟨some 114, _, _, _, _, _⟩ (v := ?_) ?_ ?_
        rotate_left
        · intro W hSw
          clear hSw
          go_simp
          all_goals (with_reducible rfl)
        try simp only [Act.put, List.setIfInBounds_toArray, List.set_cons_zero, List.set_cons_succ]
        refine takeY 10 ⟨some 115, _, _, _, _, _⟩ (v := ?_) ?_ ?_
        rotate_left
        · intro W hSw
          clear hSw
          go_simp
          all_goals (with_reducible rfl)
        try simp only [Act.put, List.setIfInBounds_toArray, List.set_cons_zero, List.set_cons_succ]
        refine takeY 11 ⟨some 116, _, _, _, _, _⟩ (v := ?_) ?_ ?_
        rotate_left
        · intro W hSw
          clear hSw
          go_simp
          all_goals (with_reducible rfl)
        try simp only [Act.put, List.setIfInBounds_toArray, List.set_cons_zero, List.set_cons_succ]
        refine takeY 12 ⟨some 117, _, _, _, _, _⟩ (v := ?_) ?_ ?_
        rotate_left
        · intro W hSw
          clear hSw
          go_simp
          all_goals (with_reducible rfl)
        try simp only [Act.put, List.setIfInBounds_toArray, List.set_cons_zero, List.set_cons_succ]
        refine takeY 13 ⟨some 118, _, _, _, _, _⟩ (v := ?_) ?_ ?_
        rotate_left
        · intro W hSw
          clear hSw
          go_simp
          all_goals (with_reducible rfl)
        try simp only [Act.put, List.setIfInBounds_toArray, List.set_cons_zero, List.set_cons_succ]
        refine takeY 14 ⟨some 119, _, _, _, _, _⟩ (v := ?_) ?_ ?_
        rotate_left
        · intro W hSw
          have m0 : W.cell? ⟨gz, 0, none⟩ = some (.slice z.A z.name.length z.c) := hSw.1.box.cell 0
          have m1 : W.cell? ⟨gz, 1, none⟩ = some (.int .i64 z.h.typ) := hSw.1.box.cell 1
          have m2 : W.cell? ⟨gz, 2, none⟩ = some (.int .i64 z.h.knd) := hSw.1.box.cell 2
          have m3 : W.cell? ⟨gz, 3, none⟩ = some (.int .i64 z.h.rank) := hSw.1.box.cell 3
          have m4 : W.cell? ⟨gz, 4, none⟩ = some (.int .i64 z.h.got) := hSw.1.box.cell 4
          have m5 : W.cell? ⟨gz, 5, none⟩ = some (.int .i64 z.h.ttl) := hSw.1.box.cell 5
          have m6 : W.cell? ⟨gz, 6, none⟩ = some (.slice z.sA z.sp.length z.sc) := hSw.1.box.cell 6
          have m7 : W.cell? ⟨gz, 7, none⟩ = some (.slice z.zA z.zone.length z.zc) := hSw.1.box.cell 7
          have m8 : W.cell? ⟨gz, 8, none⟩ = some (.slice z.d.Ab z.soa.bytes.length z.d.cb) := hSw.1.box.cell 8
          have m9 : W.cell? ⟨gz, 9, none⟩ = some (.slice z.d.Ah z.soa.host.length z.d.ch) := hSw.1.box.cell 9
          have m10 : W.cell? ⟨gz, 10, none⟩ = some (.slice z.d.Am z.soa.mail.length z.d.cm) := hSw.1.box.cell 10
          have m11 : W.cell? ⟨gz, 11, none⟩ = some (.slice z.d.An z.soa.nums.length z.d.cn) := hSw.1.box.cell 11
          have m12 : W.cell? ⟨gz, 12, none⟩ = some (.slice z.d.At z.soa.texts.length z.d.ct) := hSw.1.box.cell 12
          clear hSw
          go_simp
          all_goals (with_reducible rfl)
        try simp only [Act.put, List.setIfInBounds_toArray, List.set_cons_zero, List.set_cons_succ]
        refine takeY 15 ⟨some 120, _, _, _, _, _⟩ (v := ?_) ?_ ?_
        rotate_left
        · intro W hSw
          have n0 : W.cell? ⟨g, 0, none⟩ = some (.slice y.A y.name.length y.c) := hSw.2.1.box.cell 0
          have n1 : W.cell? ⟨g, 1, none⟩ = some (.int .i64 y.h.typ) := hSw.2.1.box.cell 1
          have n2 : W.cell? ⟨g, 2, none⟩ = some (.int .i64 y.h.knd) := hSw.2.1.box.cell 2
          have n3 : W.cell? ⟨g, 3, none⟩ = some (.int .i64 y.h.rank) := hSw.2.1.box.cell 3
          have n4 : W.cell? ⟨g, 4, none⟩ = some (.int .i64 y.h.got) := hSw.2.1.box.cell 4
          have n5 : W.cell? ⟨g, 5, none⟩ = some (.int .i64 y.h.ttl) := hSw.2.1.box.cell 5
          have n6 : W.cell? ⟨g, 6, none⟩ = some (.slice y.sA y.sp.length y.sc) := hSw.2.1.box.cell 6
          have n7 : W.cell? ⟨g, 7, none⟩ = some (.slice y.zA y.zone.length y.zc) := hSw.2.1.box.cell 7
          have n8 : W.cell? ⟨g, 8, none⟩ = some (.slice y.d.Ab y.soa.bytes.length y.d.cb) := hSw.2.1.box.cell 8
          have n9 : W.cell? ⟨g, 9, none⟩ = some (.slice y.d.Ah y.soa.host.length y.d.ch) := hSw.2.1.box.cell 9
          have n10 : W.cell? ⟨g, 10, none⟩ = some (.slice y.d.Am y.soa.mail.length y.d.cm) := hSw.2.1.box.cell 10
          have n11 : W.cell? ⟨g, 11, none⟩ = some (.slice y.d.An y.soa.nums.length y.d.cn) := hSw.2.1.box.cell 11
          have n12 : W.cell? ⟨g, 12, none⟩ = some (.slice y.d.At y.soa.texts.length y.d.ct) := hSw.2.1.box.cell 12
          clear hSw
          go_simp
          all_goals (with_reducible rfl)
        try simp only [Act.put, List.setIfInBounds_toArray, List.set_cons_zero, List.set_cons_succ]
        refine wpAnyH_ready (rs := [16]) (by kernel_rfl) (by simp) ?_
        refine AllReadyH.cons (o := { dst := some 121, op := Go.Op.call { callee := Go.Callee.value (Go.Operand.func 14), args := #[Go.Operand.tmp 119, Go.Operand.tmp 120], argTypes := #[36, 36] }, type := 4, pos := "law.go:129", after := #[{ on := 14, ground := Go.Ground.data }, { on := 15, ground := Go.Ground.data }, { on := 13, ground := Go.Ground.chain }, { on := 13, ground := Go.Ground.guard }], guard := some (13, false) }) rfl (fun K hK => ?_) AllReadyH.nil
        go_simp
        refine (HS2.out _ HZB.out HXB.out).mono ?_
        rintro e wb ⟨rfl, hbb⟩
        have HBB := Lib.hid (HBA.out.step hbb)
        have HXC := Lib.hid (HXB.out.step hbb)
        have HZC := Lib.hid (HZB.out.step hbb)
        clear hbb
        refine hK.out _ _ (by exact ⟨HZC.out, HXC.out, HBB.out.below⟩) (fun hHeld2 => ?_)
        clear hK K hHeld
        have hHeld := hHeld2
        clear hHeld2
        try simp only [Act.put, List.setIfInBounds_toArray, List.set_cons_zero, List.set_cons_succ]
        refine takeY 17 ⟨some 122, _, _, _, _, _⟩ (v := ?_) ?_ ?_
        rotate_left
        · intro W hSw
          clear hSw
          go_simp
          all_goals (with_reducible rfl)
        try simp only [Act.put, List.setIfInBounds_toArray, List.set_cons_zero, List.set_cons_succ]
        refine takeY 18 ⟨some 123, _, _, _, _, _⟩ (v := ?_) ?_ ?_
        rotate_left
        · intro W hSw
          clear hSw
          go_simp
          all_goals (with_reducible rfl)
        try simp only [Act.put, List.setIfInBounds_toArray, List.set_cons_zero, List.set_cons_succ]
        refine takeY 19 ⟨some 124, _, _, _, _, _⟩ (v := ?_) ?_ ?_
        rotate_left
        · intro W hSw
          clear hSw
          go_simp
          all_goals (with_reducible rfl)
        try simp only [Act.put, List.setIfInBounds_toArray, List.set_cons_zero, List.set_cons_succ]
        refine wpAnyH_done (by kernel_rfl) ?_ _
        go_wp2_with fail
        go_meet
        exact ⟨rfl, HBB.out⟩
  case rest =>
  obtain ⟨rfl, hbe⟩ := hcut
  have HBE := Lib.hid hbe
  clear hbe
  go_wp2
  exact ⟨⟨j + 1, C2, F9, by omega, by go_num, HBE.out⟩, by simp [intOf]; omega⟩

end Go.Proofs.YtmbcbfalgdgmjaaGreatDoor

namespace Go.Proofs.YtmbcbfalgdgmjaaGreatDoor
open Go.RowKit

/-- What a statement's argument of names is. -/
def NamesIn (w : World) (H : Nat) (A : Option Addr) (vs : List Value) (ns : List (List (List UInt8))) : Prop :=
  Row w H A vs ∧ vs.length = ns.length ∧ ∀ k, k < ns.length → ∃ Ak ck, vs[k]? = some (.slice Ak (ns.getD k []).length ck) ∧ Row w H Ak ((ns.getD k []).map sv) ∧ (ns.getD k []).length ≤ maxLen ∧ ∀ i (h : i < (ns.getD k []).length), ((ns.getD k [])[i]).length ≤ maxLen
theorem NamesIn.below {w w' : World} {H : Nat} {A : Option Addr} {vs : List Value} {ns : List (List (List UInt8))} (h : NamesIn w H A vs ns) (hb : Below H w w') : NamesIn w' H A vs ns := by
  obtain ⟨h1, h2, h3⟩ := h
  refine ⟨h1.below hb, h2, fun k hk => ?_⟩
  obtain ⟨Ak, ck, h4, h5, h6⟩ := h3 k hk
  exact ⟨Ak, ck, h4, h5.below hb, h6⟩
/-- The k-th name's cell, and what it leads to. -/
theorem NamesIn.at_ {w : World} {H : Nat} {A : Option Addr} {vs : List Value} {ns : List (List (List UInt8))} (h : NamesIn w H A vs ns) {k : Nat} (hk : k < ns.length) :
    ∃ b off Ak ck, A = some ⟨b, off, none⟩ ∧ b < H ∧ w.cell? ⟨b, off + k, none⟩ = some (.slice Ak (ns.getD k []).length ck) ∧ Row w H Ak ((ns.getD k []).map sv) ∧ (ns.getD k []).length ≤ maxLen ∧ ∀ i (h : i < (ns.getD k []).length), ((ns.getD k [])[i]).length ≤ maxLen := by
  obtain ⟨h1, h2, h3⟩ := h
  obtain ⟨Ak, ck, h4, h5, h6⟩ := h3 k hk
  obtain ⟨b, off, rfl, hb, hc⟩ := h1.some_ (by omega)
  exact ⟨b, off, Ak, ck, rfl, hb, hc k _ h4, h5, h6⟩

end Go.Proofs.YtmbcbfalgdgmjaaGreatDoor

namespace Go.Proofs.YtmbcbfalgdgmjaaGreatDoor
open Go.ChangeShapes Go.WideShapes Go.ChangeAt Go.RowKit

set_option maxRecDepth 20000 in
/-- A name as it is read: whatever it is. -/
theorem read_name {H : Type} {enc : TypeId × Value → H} {W : World} {fuel : Nat} {v : Value} {x : DataW H × List MemPlace} (hc : Tryz.prog.cellsOf 9 = 1)
    (h : DataW.trod enc Tryz.prog W 0 (fun _ => true) true fuel 29 [v] = some x) (hlt : ∀ y ∈ x.2, y.block < W.heap.size) :
    ∃ (A : Option Addr) (c : Nat) (n : List (List UInt8)), v = .slice A n.length c ∧ Row W W.heap.size A (n.map sv) ∧ n.length ≤ maxLen ∧ (∀ k (h : k < n.length), (n[k]).length ≤ maxLen) ∧ n.length ≤ c := by
  rcases open_strings Tryz.underlying29 Tryz.underlying9 hc h with ⟨hcs, hx⟩ | ⟨a, len, cap, ss, hcs, _, hl, hm, hz, hx, hcell, hwz⟩
  · exact ⟨none, 0, [], by simpa using hcs, Row.empty _ _ _, Nat.zero_le _, fun k h => absurd h (Nat.not_lt_zero _), Nat.le_refl _⟩
  · simp only [List.cons.injEq, and_true] at hcs
    subst hcs
    subst hx
    simp only [if_true] at hz
    have hlen : ((ss.take len).map fun s => s.data.toList).length = len := by simp; omega
    refine ⟨some a, cap, (ss.take len).map fun s => s.data.toList, by rw [hlen], fun hne => ?_, by rw [hlen]; omega, ?_, by rw [hlen]; exact hl⟩
    · have hpos : 0 < ss.length := by
        rcases ss with _ | ⟨z, zs⟩
        · simp at hne
        · simp
      obtain ⟨b, off, spot⟩ := a
      have hspot : spot = none := by simpa [Addr.add] using World.cell?_spot (hcell 0 hpos)
      subst hspot
      refine ⟨b, off, rfl, hlt (.cell b off) (MemPlace.mem_row.2 ⟨0, hpos, by simp⟩), fun j u hu => ?_⟩
      have hjl : j < len := by
        have := (List.getElem?_eq_some_iff.1 hu).1
        simp at this
        omega
      have hj : j < ss.length := by omega
      have h1 := hcell j hj
      rw [addr_add] at h1
      rw [h1]
      have e : ss.getD j ByteArray.empty = ss[j] := by simp [List.getD, List.getElem?_eq_getElem hj]
      rw [List.getElem?_map, List.getElem?_map, List.getElem?_take, if_pos hjl, List.getElem?_eq_getElem hj] at hu
      simp only [Option.map_some] at hu
      rw [← hu, e, string_sv]
    · intro k hk
      have hk' : k < ss.length := by rw [hlen] at hk; omega
      have h2 := hwz ss[k] (List.getElem_mem hk')
      simpa using h2

theorem names_cells : Tryz.prog.cellsOf 29 = 1 := by kernel_rfl

set_option maxRecDepth 20000 in
/-- An argument of names: whatever it is, it reads as names; and no slice is longer than its room. -/
theorem open_row_namesC {H : Type} {enc : TypeId × Value → H} {W : World} {base : Nat} {t : TypeId} {v : Value} {d : DataW H} {p : List MemPlace} (ht : Tryz.prog.underlying t = some (.slice 29))
    (hval : Value.okWide Tryz.prog W .any base t v) (h : DataW.Trod enc Tryz.prog W 0 (fun _ => true) true t v d p) (hlt : ∀ x ∈ p, x.block < W.heap.size) :
    ∃ (A : Option Addr) (c : Nat) (vs : List Value) (ns : List (List (List UInt8))), v = .slice A ns.length c ∧ NamesIn W W.heap.size A vs ns ∧ ns.length ≤ c ∧ c ≤ maxLen ∧ ∀ (k : Nat) (A' : Option Addr) (m' c' : Nat), vs[k]? = some (Value.slice A' m' c') → m' ≤ c' := by
  obtain ⟨a0, len, cap, rfl⟩ := okWide_slice ht hval
  obtain ⟨fuel, hf⟩ := h
  rcases Deep.open_slice1 ht names_cells hf with ⟨hcs, hx⟩ | ⟨a, len', cap', m, n, V, D, Pl, hcs, _, hl, hm, hmm, hx, hy⟩
  · simp [Value.cells] at hcs
    obtain ⟨rfl, rfl, rfl⟩ := hcs
    exact ⟨none, 0, [], [], rfl, ⟨Row.empty _ _ _, rfl, fun k h => absurd h (Nat.not_lt_zero _)⟩, Nat.le_refl _, Nat.zero_le _, fun k A' m' c' h => by simp at h⟩
  · simp [Value.cells] at hcs
    obtain ⟨rfl, rfl, rfl⟩ := hcs
    simp only [if_true] at hmm
    subst hmm
    simp only [Prod.mk.injEq] at hx
    obtain ⟨rfl, rfl⟩ := hx
    have each : ∀ i, i < len → ∃ y : Option Addr × Nat × List (List UInt8), V i = .slice y.1 y.2.2.length y.2.1 ∧ Row W W.heap.size y.1 (y.2.2.map sv) ∧ y.2.2.length ≤ maxLen ∧ (∀ k (h : k < y.2.2.length), (y.2.2[k]).length ≤ maxLen) ∧ y.2.2.length ≤ y.2.1 := by
      intro i hi
      obtain ⟨A, c, n', h1, h2, h3, h4, h5⟩ := read_name str_cells (hy i (by omega)).2 (fun y hy' => hlt y (List.mem_append_right _ (List.mem_flatMap.2 ⟨i, List.mem_range.2 (by omega), hy'⟩)))
      exact ⟨(A, c, n'), h1, h2, h3, h4, h5⟩
    obtain ⟨Y, hY⟩ := Deep.choose_lt each
    have hnl : ((List.range len).map fun i => (Y i).2.2).length = len := by simp
    refine ⟨some a, m, (List.range len).map V, (List.range len).map fun i => (Y i).2.2, by rw [hnl], ⟨fun hne => ?_, by simp, fun k hk => ?_⟩, by rw [hnl]; exact hl, hm, fun k A' m' c' hv => ?_⟩
    · have hpos : 0 < len := by
        rcases len with _ | k
        · simp at hne
        · omega
      obtain ⟨b, off, spot⟩ := a
      have hspot : spot = none := by simpa [Addr.add] using World.cell?_spot (hy 0 (by omega)).1
      subst hspot
      refine ⟨b, off, rfl, hlt (.cell b off) (List.mem_append_left _ (MemPlace.mem_row.2 ⟨0, by omega, by simp⟩)), fun j u hu => ?_⟩
      have hjl : j < len := by
        have := (List.getElem?_eq_some_iff.1 hu).1
        simpa using this
      have h1 := (hy j (by omega)).1
      rw [addr_add] at h1
      rw [h1]
      rw [List.getElem?_map, List.getElem?_range hjl] at hu
      exact hu
    · rw [hnl] at hk
      have hg : ((List.range len).map fun i => (Y i).2.2).getD k [] = (Y k).2.2 := by simp [List.getD, hk]
      rw [hg]
      obtain ⟨h1, h2, h3, h4, _⟩ := hY k hk
      exact ⟨(Y k).1, (Y k).2.1, by simp [hk, h1], h2, h3, h4⟩
    · by_cases hk : k < len
      · rw [List.getElem?_map, List.getElem?_range hk] at hv
        obtain ⟨h1, _, _, _, h5⟩ := hY k hk
        simp only [Option.map_some, Option.some.injEq] at hv
        rw [h1] at hv
        injection hv with e1 e2 e3
        omega
      · rw [List.getElem?_eq_none (by simp; omega)] at hv
        cases hv
set_option maxRecDepth 20000 in
/-- An argument of names: whatever it is, it reads as names. -/
theorem open_row_names {H : Type} {enc : TypeId × Value → H} {W : World} {base : Nat} {t : TypeId} {v : Value} {d : DataW H} {p : List MemPlace} (ht : Tryz.prog.underlying t = some (.slice 29))
    (hval : Value.okWide Tryz.prog W .any base t v) (h : DataW.Trod enc Tryz.prog W 0 (fun _ => true) true t v d p) (hlt : ∀ x ∈ p, x.block < W.heap.size) :
    ∃ (A : Option Addr) (c : Nat) (vs : List Value) (ns : List (List (List UInt8))), v = .slice A ns.length c ∧ NamesIn W W.heap.size A vs ns ∧ ns.length ≤ c ∧ c ≤ maxLen := by
  obtain ⟨A, c, vs, ns, h1, h2, h3, h4, _⟩ := open_row_namesC ht hval h hlt
  exact ⟨A, c, vs, ns, h1, h2, h3, h4⟩

end Go.Proofs.YtmbcbfalgdgmjaaGreatDoor

namespace Go.Proofs.YtmbcbfalgdgmjaaGreatDoor
open Go.ChangeShapes Go.WideShapes Go.ChangeAt Go.RowKit

set_option maxRecDepth 20000 in
/-- Bytes as they are read: whatever they are. -/
theorem read_bytes_c {H : Type} {enc : TypeId × Value → H} {W : World} {fuel : Nat} {v : Value} {x : DataW H × List MemPlace}
    (h : DataW.trod enc Tryz.prog W 0 (fun _ => true) true fuel 31 [v] = some x) (hlt : ∀ y ∈ x.2, y.block < W.heap.size) :
    ∃ (A : Option Addr) (c : Nat) (l : List UInt8), v = .slice A l.length c ∧ Row W W.heap.size A (l.map bc) ∧ l.length ≤ c ∧ c ≤ maxLen := by
  rcases open_ints Tryz.underlying31 Tryz.underlying5 u8_cells h with ⟨hcs, hx⟩ | ⟨a, len, cap, zs, hcs, _, hl, hm, hz, hx, hcell, hwz⟩
  · exact ⟨none, 0, [], by simpa using hcs, Row.empty _ _ _, Nat.le_refl _, Nat.zero_le _⟩
  · simp only [List.cons.injEq, and_true] at hcs
    subst hcs
    subst hx
    simp only [if_true] at hz
    have hlen : ((zs.take len).map fun n => UInt8.ofNat n.toNat).length = len := by simp; omega
    refine ⟨some a, cap, (zs.take len).map fun n => UInt8.ofNat n.toNat, by rw [hlen], fun hne => ?_, by rw [hlen]; exact hl, hm⟩
    have hpos : 0 < zs.length := by
      rcases zs with _ | ⟨z, zs⟩
      · simp at hne
      · simp
    obtain ⟨b, off, spot⟩ := a
    have hspot : spot = none := by simpa [Addr.add] using World.cell?_spot (hcell 0 hpos)
    subst hspot
    refine ⟨b, off, rfl, hlt (.cell b off) (MemPlace.mem_row.2 ⟨0, hpos, by simp⟩), fun j u hu => ?_⟩
    have hjl : j < len := by
      have := (List.getElem?_eq_some_iff.1 hu).1
      simp at this
      omega
    have hj : j < zs.length := by omega
    have h1 := hcell j hj
    rw [addr_add] at h1
    rw [h1]
    have e : zs.getD j 0 = zs[j] := by simp [List.getD, List.getElem?_eq_getElem hj]
    rw [List.getElem?_map, List.getElem?_map, List.getElem?_take, if_pos hjl, List.getElem?_eq_getElem hj] at hu
    simp only [Option.map_some] at hu
    rw [← hu, e, bc_of_int _ (hwz _ (List.getElem_mem hj))]

theorem int_cells : Tryz.prog.cellsOf 3 = 1 := by kernel_rfl
set_option maxRecDepth 20000 in
/-- Numbers as they are read: whatever they are. -/
theorem read_ints {H : Type} {enc : TypeId × Value → H} {W : World} {fuel : Nat} {v : Value} {x : DataW H × List MemPlace}
    (h : DataW.trod enc Tryz.prog W 0 (fun _ => true) true fuel 32 [v] = some x) (hlt : ∀ y ∈ x.2, y.block < W.heap.size) :
    ∃ (A : Option Addr) (c : Nat) (l : List Int), v = .slice A l.length c ∧ Row W W.heap.size A (l.map zv) ∧ l.length ≤ c ∧ c ≤ maxLen ∧ ∀ n ∈ l, (Lit.int .i64 n).wf = true := by
  rcases open_ints Tryz.underlying32 Tryz.underlying3 int_cells h with ⟨hcs, hx⟩ | ⟨a, len, cap, zs, hcs, _, hl, hm, hz, hx, hcell, hwz⟩
  · exact ⟨none, 0, [], by simpa using hcs, Row.empty _ _ _, Nat.le_refl _, Nat.zero_le _, fun n hn => absurd hn (List.not_mem_nil)⟩
  · simp only [List.cons.injEq, and_true] at hcs
    subst hcs
    subst hx
    simp only [if_true] at hz
    have hlen : (zs.take len).length = len := by simp; omega
    refine ⟨some a, cap, zs.take len, by rw [hlen], fun hne => ?_, by rw [hlen]; exact hl, hm, fun n hn => hwz n (List.mem_of_mem_take hn)⟩
    have hpos : 0 < zs.length := by
      rcases zs with _ | ⟨z, zs⟩
      · simp at hne
      · simp
    obtain ⟨b, off, spot⟩ := a
    have hspot : spot = none := by simpa [Addr.add] using World.cell?_spot (hcell 0 hpos)
    subst hspot
    refine ⟨b, off, rfl, hlt (.cell b off) (MemPlace.mem_row.2 ⟨0, hpos, by simp⟩), fun j u hu => ?_⟩
    have hjl : j < len := by
      have := (List.getElem?_eq_some_iff.1 hu).1
      simp at this
      omega
    have hj : j < zs.length := by omega
    have h1 := hcell j hj
    rw [addr_add] at h1
    rw [h1]
    have e : zs.getD j 0 = zs[j] := by simp [List.getD, List.getElem?_eq_getElem hj]
    rw [List.getElem?_map, List.getElem?_take, if_pos hjl, List.getElem?_eq_getElem hj] at hu
    simp only [Option.map_some] at hu
    rw [← hu, e, zv]

/-- What a statement's data is. -/
structure DIn (d : Dt) : Prop where
  h : d.host.length ≤ maxLen
  m : d.mail.length ≤ maxLen
  t : d.texts.length ≤ maxLen
  lh : ∀ k (h : k < d.host.length), (d.host[k]).length ≤ maxLen
  lm : ∀ k (h : k < d.mail.length), (d.mail[k]).length ≤ maxLen
  lt : ∀ k (h : k < d.texts.length), (d.texts[k]).length ≤ maxLen
  n : ∀ n ∈ d.nums, (Lit.int .i64 n).wf = true

theorem byts_cells : Tryz.prog.cellsOf 31 = 1 := by kernel_rfl
theorem inss_cells : Tryz.prog.cellsOf 32 = 1 := by kernel_rfl
theorem data_cells : Tryz.prog.cellsOf 34 = 5 := by kernel_rfl

set_option maxRecDepth 20000 in
theorem open_data {H : Type} {enc : TypeId × Value → H} {W : World} {base : Nat} {v : Value} {d : DataW H} {p : List MemPlace}
    (hval : Value.okWide Tryz.prog W .any base 34 v) (h : DataW.Trod enc Tryz.prog W 0 (fun _ => true) true 34 v d p) (hlt : ∀ x ∈ p, x.block < W.heap.size) :
    ∃ (x : DV) (dd : Dt), v = x.val dd ∧ DataAt W W.heap.size x dd ∧ DIn dd := by
  unfold Value.okWide at hval
  rw [Tryz.underlying34] at hval
  obtain ⟨cs0, rfl, hsz, _⟩ := hval
  obtain ⟨fuel, hf⟩ := h
  obtain ⟨xs, k, _, hx, hcl, hxl, hfs⟩ := DataW.trod_struct Tryz.underlying34 hf
  obtain ⟨cs⟩ := cs0
  simp only [Value.cells] at hf hcl hfs
  have hp : p = xs.flatMap (·.2) := by simpa using congrArg Prod.snd hx
  have hin : ∀ z ∈ xs, ∀ y ∈ z.2, y.block < W.heap.size := fun z hz y hyz => hlt y (by rw [hp]; exact List.mem_flatMap.2 ⟨z, hz, hyz⟩)
  have hxl5 : xs.length = 5 := hxl
  have hc5 : cs.length = 5 := by rw [data_cells] at hcl; simpa using hcl
  clear hx hp hf hcl hsz
  match cs, hc5, xs, hxl5, hfs, hin with
  | [c0, c1, c2, c3, c4], _, [y0, y1, y2, y3, y4], _, hfs, hin =>
    have g0 := hfs 0 _ rfl
    have g1 := hfs 1 _ rfl
    have g2 := hfs 2 _ rfl
    have g3 := hfs 3 _ rfl
    have g4 := hfs 4 _ rfl
    simp only [List.getElem?_cons_zero, List.getElem?_cons_succ] at g0 g1 g2 g3 g4
    obtain ⟨Ab, cb, l0, e0, r0, a0, b0⟩ := read_bytes_c g0 (hin y0 (by simp))
    obtain ⟨Ah, ch, l1, e1, r1, a1, b1, d1⟩ := read_name str_cells g1 (hin y1 (by simp))
    obtain ⟨Am, cm, l2, e2, r2, a2, b2, d2⟩ := read_name str_cells g2 (hin y2 (by simp))
    obtain ⟨An, cn, l3, e3, r3, a3, b3, d3⟩ := read_ints g3 (hin y3 (by simp))
    obtain ⟨At, ct, l4, e4, r4, a4, b4, d4⟩ := read_name str_cells g4 (hin y4 (by simp))
    subst e0 e1 e2 e3 e4
    exact ⟨⟨Ab, Ah, Am, An, At, cb, ch, cm, cn, ct⟩, ⟨l0, l1, l2, l3, l4⟩, rfl, ⟨r0, r1, r2, r3, r4, a0, d1, d2, a3, d4, b0, b3⟩, ⟨a1, a2, a4, b1, b2, b4, d3⟩⟩

end Go.Proofs.YtmbcbfalgdgmjaaGreatDoor

namespace Go.Proofs.YtmbcbfalgdgmjaaGreatDoor
open Go.ChangeShapes Go.WideShapes Go.ChangeAt Go.RowKit

set_option maxRecDepth 20000 in
theorem read_data {H : Type} {enc : TypeId × Value → H} {W : World} {fuel : Nat} {cs : List Value} {z : DataW H × List MemPlace}
    (h : DataW.trod enc Tryz.prog W 0 (fun _ => true) true fuel 34 cs = some z) (hlt : ∀ y ∈ z.2, y.block < W.heap.size) :
    ∃ (x : DV) (dd : Dt), cs = cellsD (x, dd) ∧ DataAt W W.heap.size x dd ∧ DIn dd := by
  obtain ⟨xs, k, _, hx, hcl, hxl, hfs⟩ := DataW.trod_struct Tryz.underlying34 h
  have hp : z.2 = xs.flatMap (·.2) := by simpa using congrArg Prod.snd hx
  have hin : ∀ z ∈ xs, ∀ y ∈ z.2, y.block < W.heap.size := fun z hz y hyz => hlt y (by rw [hp]; exact List.mem_flatMap.2 ⟨z, hz, hyz⟩)
  have hxl5 : xs.length = 5 := hxl
  have hc5 : cs.length = 5 := by rw [data_cells] at hcl; exact hcl
  clear hx hp h hcl
  match cs, hc5, xs, hxl5, hfs, hin with
  | [c0, c1, c2, c3, c4], _, [y0, y1, y2, y3, y4], _, hfs, hin =>
    have g0 := hfs 0 _ rfl
    have g1 := hfs 1 _ rfl
    have g2 := hfs 2 _ rfl
    have g3 := hfs 3 _ rfl
    have g4 := hfs 4 _ rfl
    simp only [List.getElem?_cons_zero, List.getElem?_cons_succ] at g0 g1 g2 g3 g4
    obtain ⟨Ab, cb, l0, e0, r0, a0, b0⟩ := read_bytes_c g0 (hin y0 (by simp))
    obtain ⟨Ah, ch, l1, e1, r1, a1, b1, d1⟩ := read_name str_cells g1 (hin y1 (by simp))
    obtain ⟨Am, cm, l2, e2, r2, a2, b2, d2⟩ := read_name str_cells g2 (hin y2 (by simp))
    obtain ⟨An, cn, l3, e3, r3, a3, b3, d3⟩ := read_ints g3 (hin y3 (by simp))
    obtain ⟨At, ct, l4, e4, r4, a4, b4, d4⟩ := read_name str_cells g4 (hin y4 (by simp))
    subst e0 e1 e2 e3 e4
    exact ⟨⟨Ab, Ah, Am, An, At, cb, ch, cm, cn, ct⟩, ⟨l0, l1, l2, l3, l4⟩, rfl, ⟨r0, r1, r2, r3, r4, a0, d1, d2, a3, d4, b0, b3⟩, ⟨a1, a2, a4, b1, b2, b4, d3⟩⟩
theorem DIn.wide {d : Dt} (h : DIn d) : Wide d := ⟨⟨h.h, h.lh⟩, ⟨h.m, h.lm⟩, h.t⟩



































theorem addr_add_add (a : Addr) (m n : Nat) : (a.add m).add n = a.add (m + n) := by
  unfold Addr.add
  by_cases h1 : m = 0 <;> by_cases h2 : n = 0 <;> simp [h1, h2] <;> omega
set_option maxRecDepth 20000 in
/-- A slice of things that take k cells each, as it is read. -/
theorem open_parts {α : Type} (f : α → List Value) (k : Nat) (hf : ∀ p, (f p).length = k) (hk : 0 < k) (Q : World → Nat → α → Prop) {H : Type} {enc : TypeId × Value → H} {W : World} {base : Nat} {t e : TypeId} {v : Value} {d : DataW H} {p : List MemPlace}
    (ht : Tryz.prog.underlying t = some (.slice e)) (hce : Tryz.prog.cellsOf e = k) (hs : ∀ p : α, ∃ u, (f p)[0]? = some u)
    (hr : ∀ (fuel : Nat) (cs : List Value) (z : DataW H × List MemPlace), DataW.trod enc Tryz.prog W 0 (fun _ => true) true fuel e cs = some z → (∀ y ∈ z.2, y.block < W.heap.size) → ∃ p, cs = f p ∧ Q W W.heap.size p)
    (hval : Value.okWide Tryz.prog W .any base t v) (h : DataW.Trod enc Tryz.prog W 0 (fun _ => true) true t v d p) (hlt : ∀ x ∈ p, x.block < W.heap.size) :
    ∃ (A : Option Addr) (c : Nat) (ps : List α), v = .slice A ps.length c ∧ Row W W.heap.size A (ps.flatMap f) ∧ (∀ p ∈ ps, Q W W.heap.size p) ∧ ps.length ≤ c ∧ c ≤ maxLen := by
  obtain ⟨a0, len, cap, rfl⟩ := okWide_slice ht hval
  obtain ⟨fuel, hf1⟩ := h
  rcases Deep.open_slice ht hf1 with ⟨hcs, hx⟩ | ⟨a, len', cap', m, n, D, Pl, hcs, _, hl, hm, hmm, hx, hy⟩
  · simp [Value.cells] at hcs
    obtain ⟨rfl, rfl, rfl⟩ := hcs
    exact ⟨none, 0, [], rfl, Row.empty _ _ _, fun p h => absurd h (List.not_mem_nil), Nat.zero_le _, Nat.zero_le _⟩
  · simp [Value.cells] at hcs
    obtain ⟨rfl, rfl, rfl⟩ := hcs
    simp only [if_true] at hmm
    subst hmm
    simp only [Prod.mk.injEq] at hx
    obtain ⟨rfl, rfl⟩ := hx
    rw [hce] at hy hlt
    rcases Nat.eq_zero_or_pos len with rfl | hpos
    · exact ⟨some a, m, [], rfl, Row.empty _ _ _, fun p h => absurd h (List.not_mem_nil), Nat.zero_le _, hm⟩
    have each : ∀ i, i < len → ∃ y : α, (∀ j v, (f y)[j]? = some v → W.cell? (a.add (i * k + j)) = some v) ∧ Q W W.heap.size y := by
      intro i hi
      obtain ⟨cs, hc, hr1⟩ := hy i (by omega)
      obtain ⟨y, rfl, hq⟩ := hr _ _ _ hr1 fun y hyz => hlt y (List.mem_append_right _ (List.mem_flatMap.2 ⟨i, List.mem_range.2 (by omega), hyz⟩))
      obtain ⟨_, _, hat⟩ := World.cells?_some hc
      refine ⟨y, fun j v hj => ?_, hq⟩
      have hjk : j < k := by
        have := (List.getElem?_eq_some_iff.1 hj).1
        rwa [hf] at this
      have := hat j hjk
      rw [hj, addr_add_add] at this
      exact this
    obtain ⟨y0, hy0, _⟩ := each 0 hpos
    obtain ⟨u0, hu0⟩ := hs y0
    obtain ⟨b, off, spot⟩ := a
    have hspot : spot = none := by
      have h := World.cell?_spot (hy0 0 _ hu0)
      simpa [Addr.add] using h
    subst hspot
    haveI : Inhabited α := ⟨y0⟩
    obtain ⟨Y, hY⟩ := Deep.choose_lt each
    have hnl : ((List.range len).map Y).length = len := by simp
    refine ⟨some ⟨b, off, none⟩, m, (List.range len).map Y, by rw [hnl], fun _ => ⟨b, off, rfl, hlt (.cell b off) (List.mem_append_left _ (MemPlace.mem_row.2 ⟨0, Nat.mul_pos (by omega) hk, by simp⟩)), fun j u hu => ?_⟩, fun p hp => ?_, by rw [hnl]; exact hl, hm⟩
    · have hj := (List.getElem?_eq_some_iff.1 hu).1
      rw [length_flat hf, hnl] at hj
      have hq : j / k < len := (Nat.div_lt_iff_lt_mul hk).2 hj
      have hr := Nat.mod_lt j hk
      have e : j = j / k * k + j % k := by rw [Nat.mul_comm]; exact (Nat.div_add_mod j k).symm
      have h1 := (hY (j / k) hq).1 (j % k) u
      rw [e, flat_get hf _ _ _ (by rw [hnl]; exact hq) hr] at hu
      rw [← e, addr_add] at h1
      exact h1 (by simpa using hu)
    · obtain ⟨i, hi, rfl⟩ := List.mem_map.1 hp
      exact (hY i (List.mem_range.1 hi)).2










set_option maxRecDepth 20000 in
theorem open_dats {H : Type} {enc : TypeId × Value → H} {W : World} {base : Nat} {t : TypeId} {v : Value} {d : DataW H} {p : List MemPlace} (ht : Tryz.prog.underlying t = some (.slice 34))
    (hval : Value.okWide Tryz.prog W .any base t v) (h : DataW.Trod enc Tryz.prog W 0 (fun _ => true) true t v d p) (hlt : ∀ x ∈ p, x.block < W.heap.size) :
    ∃ (A : Option Addr) (c : Nat) (ps : List (DV × Dt)), v = .slice A ps.length c ∧ DsAt W W.heap.size A ps ∧ (∀ p ∈ ps, DIn p.2) ∧ ps.length ≤ c ∧ c ≤ maxLen := by
  obtain ⟨A, c, ps, hv, hR, hQ, h1, h2⟩ := open_parts cellsD 5 cellsD_len (by omega) (fun W H p => DataAt W H p.1 p.2 ∧ DIn p.2) ht data_cells (fun p => ⟨_, rfl⟩)
    (fun fuel cs z hz hlz => by
      obtain ⟨x, r, e, h1, h2⟩ := read_data hz hlz
      exact ⟨(x, r), e, h1, h2⟩) hval h hlt
  exact ⟨A, c, ps, hv, ⟨hR, fun p hp => (hQ p hp).1⟩, fun p hp => (hQ p hp).2, h1, h2⟩

end Go.Proofs.YtmbcbfalgdgmjaaGreatDoor

namespace Go.Proofs.YtmbcbfalgdgmjaaGreatDoor
open Go.ChangeShapes Go.WideShapes Go.ChangeAt Go.RowKit

/-- A reading none of whose parts weighs more than an argument can. -/
def Bears {H : Type} (t : TypeId) (d : DataW H) : Prop := ∀ k ∈ d.weights Tryz.prog t, k ≤ reachBytes
theorem slice_weight {H : Type} {enc : TypeId × Value → H} {W : World} {fuel : Nat} {t e : TypeId} {a : Option Addr} {n c : Nat} {x : DataW H × List MemPlace} (ht : Tryz.prog.underlying t = some (.slice e))
    (h : DataW.trod enc Tryz.prog W 0 (fun _ => true) true fuel t [.slice a n c] = some x) (hw : Bears t x.1) : n * Tryz.prog.bytesOf e ≤ reachBytes := by
  rcases Deep.open_slice ht h with ⟨hcs, hx⟩ | ⟨a', len, cap, m, n', D, Pl, hcs, _, hl, hm, hmm, hx, hy⟩
  · simp only [List.cons.injEq, Value.slice.injEq, and_true] at hcs
    obtain ⟨_, rfl, _⟩ := hcs
    rw [Nat.zero_mul]
    exact Nat.zero_le _
  · simp only [List.cons.injEq, Value.slice.injEq, and_true] at hcs
    obtain ⟨_, rfl, _⟩ := hcs
    have h1 := hw ((((List.range n).map D).length + ((List.range (m - n)).map fun j => D (n + j)).length) * Tryz.prog.bytesOf e) (by
      rw [hx]
      simp only [DataW.weights, ht]
      exact List.mem_cons_self)
    simp only [List.length_map, List.length_range] at h1
    exact Nat.le_trans (Nat.mul_le_mul_right _ (Nat.le_add_right _ _)) h1
theorem struct_weights {H : Type} {fs : Array Field} {t : TypeId} (ht : Tryz.prog.underlying t = some (.struct fs)) {xs : List (DataW H × List MemPlace)} (hw : Bears t (.agg (xs.map (·.1)))) {i : Nat} {f : Field} {y : DataW H × List MemPlace}
    (hf : fs[i]? = some f) (hy : xs[i]? = some y) : Bears f.type y.1 := by
  intro k hk
  refine hw k ?_
  simp only [DataW.weights, ht]
  exact DataW.weights_mem_each (j := i) (by rw [List.getElem?_map, Array.getElem?_toList, hf]; rfl) (by rw [List.getElem?_map, hy]; rfl) k hk
theorem mem_weightsAll {H : Type} {e : TypeId} {d : DataW H} {k : Nat} (hk : k ∈ d.weights Tryz.prog e) : ∀ {ds : List (DataW H)}, d ∈ ds → k ∈ DataW.weightsAll Tryz.prog e ds
  | d0 :: ds, h => by
    simp only [DataW.weightsAll, List.mem_append]
    rcases List.mem_cons.1 h with rfl | h
    · exact .inl hk
    · exact .inr (mem_weightsAll hk h)
theorem elem_weights {H : Type} {t e : TypeId} (ht : Tryz.prog.underlying t = some (.slice e)) {es sp : List (DataW H)} (hw : Bears t (.slice es sp)) {d : DataW H} (hd : d ∈ es) : Bears e d := by
  intro k hk
  refine hw k ?_
  simp only [DataW.weights, ht]
  exact List.mem_cons_of_mem _ (List.mem_append_left _ (mem_weightsAll hk hd))
theorem arg_weights {H : Type} {ts : List TypeId} {ds : List (DataW H)} (h : (DataW.weightsEach Tryz.prog ts ds).all (· ≤ reachBytes) = true) {j : Nat} {t : TypeId} {d : DataW H} (ht : ts[j]? = some t) (hd : ds[j]? = some d) : Bears t d :=
  fun k hk => by simpa using List.all_eq_true.1 h k (DataW.weights_mem_each ht hd k hk)

set_option maxRecDepth 20000 in
/-- A slice of things that take k cells each, as it is read, with its weights. -/
theorem read_parts {α : Type} (f : α → List Value) (k : Nat) (hf : ∀ p, (f p).length = k) (hk : 0 < k) (Q : World → Nat → α → Prop) {H : Type} {enc : TypeId × Value → H} {W : World} {fuel : Nat} {t e : TypeId} {v : Value} {x : DataW H × List MemPlace}
    (ht : Tryz.prog.underlying t = some (.slice e)) (hce : Tryz.prog.cellsOf e = k) (hs : ∀ p : α, ∃ u, (f p)[0]? = some u)
    (hr : ∀ (fuel : Nat) (cs : List Value) (z : DataW H × List MemPlace), DataW.trod enc Tryz.prog W 0 (fun _ => true) true fuel e cs = some z → (∀ y ∈ z.2, y.block < W.heap.size) → Bears e z.1 → ∃ p, cs = f p ∧ Q W W.heap.size p)
    (h : DataW.trod enc Tryz.prog W 0 (fun _ => true) true fuel t [v] = some x) (hlt : ∀ y ∈ x.2, y.block < W.heap.size) (hw : Bears t x.1) :
    ∃ (A : Option Addr) (c : Nat) (ps : List α), v = .slice A ps.length c ∧ Row W W.heap.size A (ps.flatMap f) ∧ (∀ p ∈ ps, Q W W.heap.size p) ∧ ps.length ≤ c ∧ c ≤ maxLen := by
  rcases Deep.open_slice ht h with ⟨hcs, hx⟩ | ⟨a, len, m, m', n, D, Pl, hcs, _, hl, hm, hmm, hx, hy⟩
  · simp only [List.cons.injEq, and_true] at hcs
    subst hcs
    exact ⟨none, 0, [], rfl, Row.empty _ _ _, fun p h => absurd h (List.not_mem_nil), Nat.zero_le _, Nat.zero_le _⟩
  · simp only [List.cons.injEq, and_true] at hcs
    subst hcs
    simp only [if_true] at hmm
    subst hmm
    subst hx
    rw [hce] at hy hlt
    rcases Nat.eq_zero_or_pos len with rfl | hpos
    · exact ⟨some a, m', [], rfl, Row.empty _ _ _, fun p h => absurd h (List.not_mem_nil), Nat.zero_le _, hm⟩
    have each : ∀ i, i < len → ∃ y : α, (∀ j v, (f y)[j]? = some v → W.cell? (a.add (i * k + j)) = some v) ∧ Q W W.heap.size y := by
      intro i hi
      obtain ⟨cs, hc, hr1⟩ := hy i (by omega)
      obtain ⟨y, rfl, hq⟩ := hr _ _ _ hr1 (fun y hyz => hlt y (List.mem_append_right _ (List.mem_flatMap.2 ⟨i, List.mem_range.2 (by omega), hyz⟩))) (elem_weights ht hw (List.mem_map.2 ⟨i, List.mem_range.2 hi, rfl⟩))
      obtain ⟨_, _, hat⟩ := World.cells?_some hc
      refine ⟨y, fun j v hj => ?_, hq⟩
      have hjk : j < k := by
        have := (List.getElem?_eq_some_iff.1 hj).1
        rwa [hf] at this
      have := hat j hjk
      rw [hj, addr_add_add] at this
      exact this
    obtain ⟨y0, hy0, _⟩ := each 0 hpos
    obtain ⟨u0, hu0⟩ := hs y0
    obtain ⟨b, off, spot⟩ := a
    have hspot : spot = none := by
      have h := World.cell?_spot (hy0 0 _ hu0)
      simpa [Addr.add] using h
    subst hspot
    haveI : Inhabited α := ⟨y0⟩
    obtain ⟨Y, hY⟩ := Deep.choose_lt each
    have hnl : ((List.range len).map Y).length = len := by simp
    refine ⟨some ⟨b, off, none⟩, m', (List.range len).map Y, by rw [hnl], fun _ => ⟨b, off, rfl, hlt (.cell b off) (List.mem_append_left _ (MemPlace.mem_row.2 ⟨0, Nat.mul_pos (by omega) hk, by simp⟩)), fun j u hu => ?_⟩, fun p hp => ?_, by rw [hnl]; exact hl, hm⟩
    · have hj := (List.getElem?_eq_some_iff.1 hu).1
      rw [length_flat hf, hnl] at hj
      have hq : j / k < len := (Nat.div_lt_iff_lt_mul hk).2 hj
      have hr := Nat.mod_lt j hk
      have e : j = j / k * k + j % k := by rw [Nat.mul_comm]; exact (Nat.div_add_mod j k).symm
      have h1 := (hY (j / k) hq).1 (j % k) u
      rw [e, flat_get hf _ _ _ (by rw [hnl]; exact hq) hr] at hu
      rw [← e, addr_add] at h1
      exact h1 (by simpa using hu)
    · obtain ⟨i, hi, rfl⟩ := List.mem_map.1 hp
      exact (hY i (List.mem_range.1 hi)).2

/-- What an argument can hold of a fact's own data. -/
structure Soaked (d : Dt) : Prop where
  b : d.bytes.length ≤ 140737488351232
  t : d.texts.length ≤ 8796093022208
set_option maxRecDepth 20000 in
theorem read_dataW {H : Type} {enc : TypeId × Value → H} {W : World} {fuel : Nat} {cs : List Value} {z : DataW H × List MemPlace}
    (h : DataW.trod enc Tryz.prog W 0 (fun _ => true) true fuel 34 cs = some z) (hlt : ∀ y ∈ z.2, y.block < W.heap.size) (hw : Bears 34 z.1) :
    ∃ (x : DV) (dd : Dt), cs = cellsD (x, dd) ∧ DataAt W W.heap.size x dd ∧ DIn dd ∧ Soaked dd := by
  obtain ⟨x, dd, rfl, hd, hi⟩ := read_data h hlt
  obtain ⟨xs, k, _, hx, hcl, hxl, hfs⟩ := DataW.trod_struct Tryz.underlying34 h
  have hxl5 : xs.length = 5 := hxl
  rw [hx] at hw
  refine ⟨x, dd, rfl, hd, hi, ?_⟩
  clear hx h hcl hlt
  match xs, hxl5, hfs, hw with
  | [y0, y1, y2, y3, y4], _, hfs, hw =>
    have g0 := hfs 0 _ rfl
    have g4 := hfs 4 _ rfl
    simp only [List.getElem?_cons_zero, List.getElem?_cons_succ] at g0 g4
    have h0 := slice_weight Tryz.underlying31 g0 (struct_weights Tryz.underlying34 hw (i := 0) rfl rfl)
    have h4 := slice_weight Tryz.underlying29 g4 (struct_weights Tryz.underlying34 hw (i := 4) rfl rfl)
    rw [u8_bytes] at h0
    rw [str_bytes] at h4
    unfold reachBytes at h0 h4
    dsimp only at h0 h4
    exact ⟨by omega, by omega⟩

set_option maxRecDepth 20000 in
theorem read_fact {H : Type} {enc : TypeId × Value → H} {W : World} {fuel : Nat} {cs : List Value} {z : DataW H × List MemPlace}
    (h : DataW.trod enc Tryz.prog W 0 (fun _ => true) true fuel 36 cs = some z) (hlt : ∀ y ∈ z.2, y.block < W.heap.size) (hw : Bears 36 z.1) :
    ∃ x : FV, cs = cellsF x ∧ FAt W W.heap.size x ∧ FIn x ∧ Soaked x.soa := by
  obtain ⟨xs, k, _, hx, hcl, hxl, hfs⟩ := DataW.trod_struct Tryz.underlying36 h
  have hp : z.2 = xs.flatMap (·.2) := by simpa using congrArg Prod.snd hx
  have hin : ∀ z ∈ xs, ∀ y ∈ z.2, y.block < W.heap.size := fun z hz y hyz => hlt y (by rw [hp]; exact List.mem_flatMap.2 ⟨z, hz, hyz⟩)
  have hxl9 : xs.length = 9 := hxl
  have hc13 : cs.length = 13 := by rw [fact_cells] at hcl; exact hcl
  rw [hx] at hw
  clear hx hp h hcl
  match cs, hc13, xs, hxl9, hfs, hin, hw with
  | [c0, c1, c2, c3, c4, c5, c6, c7, c8, c9, c10, c11, c12], _, [y0, y1, y2, y3, y4, y5, y6, y7, y8], _, hfs, hin, hw =>
    have g0 := hfs 0 _ rfl
    have g1 := hfs 1 _ rfl
    have g2 := hfs 2 _ rfl
    have g3 := hfs 3 _ rfl
    have g4 := hfs 4 _ rfl
    have g5 := hfs 5 _ rfl
    have g6 := hfs 6 _ rfl
    have g7 := hfs 7 _ rfl
    have g8 := hfs 8 _ rfl
    simp only [List.getElem?_cons_zero, List.getElem?_cons_succ] at g0 g1 g2 g3 g4 g5 g6 g7 g8
    obtain ⟨An, cn, n, e0, hRn, hn1, hn2, hn3⟩ := read_name str_cells g0 (hin y0 (by simp))
    obtain ⟨z1, e1, _, w1⟩ := DataW.trod_int Tryz.underlying3 g1
    obtain ⟨z2, e2, _, w2⟩ := DataW.trod_int Tryz.underlying3 g2
    obtain ⟨z3, e3, _, w3⟩ := DataW.trod_int Tryz.underlying3 g3
    obtain ⟨z4, e4, _, w4⟩ := DataW.trod_int Tryz.underlying3 g4
    obtain ⟨z5, e5, _, w5⟩ := DataW.trod_int Tryz.underlying3 g5
    obtain ⟨As, cS, ps, e6, hRs, hQs, hs1, hs2⟩ := read_parts cellsD 5 cellsD_len (by omega) (fun W H p => DataAt W H p.1 p.2 ∧ DIn p.2) Tryz.underlying30 data_cells (fun p => ⟨_, rfl⟩)
      (fun fuel cs z hz hlz _ => by
        obtain ⟨x, r, e, h1, h2⟩ := read_data hz hlz
        exact ⟨(x, r), e, h1, h2⟩) g6 (hin y6 (by simp)) (struct_weights Tryz.underlying36 hw (i := 6) rfl rfl)
    obtain ⟨Az, cz, zn, e7, hRz, hz1, hz2, hz3⟩ := read_name str_cells g7 (hin y7 (by simp))
    obtain ⟨x, dd, e8, hd, hi, hso⟩ := read_dataW g8 (hin y8 (by simp)) (struct_weights Tryz.underlying36 hw (i := 8) rfl rfl)
    cases e1; cases e2; cases e3; cases e4; cases e5
    subst e0 e6 e7
    unfold cellsD at e8
    injection e8 with f0 e8
    injection e8 with f1 e8
    injection e8 with f2 e8
    injection e8 with f3 e8
    injection e8 with f4 _
    subst f0 f1 f2 f3 f4
    exact ⟨⟨An, cn, n, ⟨z1, z2, z3, z4, z5⟩, As, cS, ps, Az, cz, zn, x, dd⟩, rfl, ⟨hRn, ⟨hRs, fun p hp => (hQs p hp).1⟩, hRz, hd, hn3, hz3, hs1, hs2⟩,
      ⟨⟨w1, w2, w3, w4, w5⟩, ⟨hn1, hn2⟩, ⟨hz1, hz2⟩, fun p hp => ⟨(hQs p hp).2.wide, (hQs p hp).2.lt, (hQs p hp).2.n⟩, ⟨hi.wide, hi.lt, hi.n⟩⟩, hso⟩

set_option maxRecDepth 20000 in
theorem open_facts {H : Type} {enc : TypeId × Value → H} {W : World} {base : Nat} {v : Value} {d : DataW H} {p : List MemPlace}
    (hval : Value.okWide Tryz.prog W .any base 22 v) (h : DataW.Trod enc Tryz.prog W 0 (fun _ => true) true 22 v d p) (hlt : ∀ x ∈ p, x.block < W.heap.size) (hw : Bears 22 d) :
    ∃ (A : Option Addr) (c : Nat) (xs : List FV), v = .slice A xs.length c ∧ FsAt W W.heap.size A xs ∧ (∀ x ∈ xs, FIn x) ∧ (∀ x ∈ xs, Soaked x.soa) ∧ xs.length ≤ c ∧ c ≤ maxLen := by
  obtain ⟨a0, len, cap, rfl⟩ := okWide_slice Tryz.underlying22 hval
  obtain ⟨fuel, hf1⟩ := h
  obtain ⟨A, c, xs, hv, hR, hQ, h1, h2⟩ := read_parts cellsF 13 cellsF_len (by omega) (fun W H x => FAt W H x ∧ FIn x ∧ Soaked x.soa) Tryz.underlying22 fact_cells (fun p => ⟨_, rfl⟩)
    (fun fuel cs z hz hlz hwz => by
      obtain ⟨x, e, h1, h2, h3⟩ := read_fact hz hlz hwz
      exact ⟨x, e, h1, h2, h3⟩) (v := .slice a0 len cap) hf1 hlt hw
  exact ⟨A, c, xs, hv, ⟨hR, fun p hp => (hQ p hp).1⟩, fun p hp => (hQ p hp).2.1, fun p hp => (hQ p hp).2.2, h1, h2⟩

end Go.Proofs.YtmbcbfalgdgmjaaGreatDoor

namespace Go.Proofs.YtmbcbfalgdgmjaaGreatDoor
open Go.RowKit

theorem small_few {d : Dt} (h : smallD d = true) : FewD d := by
  unfold smallD at h
  simp only [Bool.and_eq_true, decide_eq_true_eq] at h
  obtain ⟨h0, h1, h2, h3, h4⟩ := h
  exact ⟨by omega, by omega, by omega, by omega, by omega⟩
theorem light_few {x : FV} (h : lightC x.fact = true) (hs : Soaked x.soa) : FewF x := by
  unfold lightC at h
  simp only [Bool.and_eq_true, decide_eq_true_eq] at h
  obtain ⟨h0, h1, h2, h3, h4, h5, h6⟩ := h
  have h3' : x.sp.length ≤ 100 := by rw [← length_dats]; exact h3
  have h1' : x.name.length ≤ 200 := h1
  have h2' : x.zone.length ≤ 200 := h2
  have h4' : x.soa.host.length ≤ 200 := h4
  have h5' : x.soa.mail.length ≤ 200 := h5
  have h6' : x.soa.nums.length ≤ 100 := h6
  exact ⟨by omega, by omega, by omega, ⟨by omega, by omega, hs.t, by omega, hs.b⟩, fun p hp => small_few (List.all_eq_true.1 h0 _ (List.mem_map.2 ⟨p, hp, rfl⟩))⟩

end Go.Proofs.YtmbcbfalgdgmjaaGreatDoor

namespace Go.Proofs.YtmbcbfalgdgmjaaGreatDoor
open Go.ChangeShapes Go.WideShapes Go.ChangeAt Go.RowKit

set_option maxRecDepth 100000 in
theorem cabeaten_lifted (os : Os) (started : os.Started) (H : Type) (enc : TypeId × Value → H) :
    ReturnsInHanded {} Tryz.checked os 3 .any (fun w args => (Rows.cacheBeatenSpec.pre enc Tryz.prog Tryz.f3 [] false w args ∧ laidMetH Tryz.prog laidK w) ∧ sizedMet enc Tryz.prog Tryz.f3 (OpenSpec.ofChange Rows.cacheBeatenSpec) false w args)
      (Rows.cacheBeatenSpec.post enc Tryz.prog Tryz.f3 false true false false) := by
  refine returnsInHanded_of_change_and (C := Tryz.checked) (X := fun w _ => laidMetH Tryz.prog laidK w) (fun _ _ _ hh h => h.of_heap hh) Tryz.own started (by kernel_rfl) Tryz.func3
    (ChangeSpec.witness_shaped (enc := enc) (C := Tryz.checked) (os := os) (X := fun w _ => laidMetH Tryz.prog laidK w) false (World.laidAll Tryz.prog os laidK) #[.slice none 0 0, .int .u8 0] 8 (World.laidAll_os _ _ _)
      (World.shaped_of_ZipB (by kernel_rfl) (by kernel_rfl)) (by kernel_rfl) (by kernel_rfl) (by kernel_rfl)
      (by rw [MakeChecks.laidMetH_plain _ _ _ (by kernel_rfl)]; exact laidMet_laidAll _ (by kernel_rfl) (by kernel_rfl))) ?_
  intro W base args ds gs before hval0 hW _ hsz0 hL0 _
  have hL := pows_of_laid hL0
  clear hL0
  have hsz : (DataW.weightsEach Tryz.prog (Tryz.f3.params.toList ++ Rows.cacheBeatenSpec.plain.varTypes Tryz.prog) (ds ++ gs)).all (· ≤ reachBytes) = true := hsz0
  clear hsz0
  have hval : ∀ (j : Nat) t v, Tryz.f3.params[j]? = some t → args[j]? = some v → Value.okWide Tryz.prog W .any base t v := hval0
  have hW' := hW
  obtain ⟨p, q, hA0, hV, rfl, _, _⟩ := hW
  have hA : DataW.TrodAll enc Tryz.prog W 0 (fun _ => true) true Tryz.f3.params.toList args.toList ds p := hA0
  rw [Tryz.params3] at hA hval hsz
  obtain ⟨v0, v1, d0, d1, p0, p1, rfl, rfl, rfl, h0, h1⟩ := trodAll_two hA
  obtain ⟨rfl, rfl⟩ := trodVars_none hV
  obtain ⟨A0, c0, xs0, rfl, hx0, hi0, hs0, hc0, hm0⟩ := open_facts (hval 0 22 v0 rfl rfl) h0 (fun x hx => hW'.lt x (by simp [hx])) (arg_weights hsz (j := 0) rfl rfl)
  obtain ⟨z1, rfl, rfl, rfl, w1⟩ := open_int Tryz.underlying5 (hval 1 5 v1 rfl rfl) h1
  obtain ⟨n1, rfl, hn1⟩ := u8_natK w1
  have key : Calls Tryz.prog 3 #[.slice A0 xs0.length c0, .int .u8 (n1 : Int)] W (TrueB W) := by
    exact cabeaten_any theCore W A0 c0 xs0 n1 hn1 hx0 hi0 (fun x hx hl => light_few hl (hs0 x hx)) (Nat.le_trans hc0 hm0) hL
  refine key.mono fun e W' ⟨he, hb⟩ => ?_
  subst he
  exact ⟨_, rfl, law_post (P := Tryz.prog) (tb := 4) Tryz.laidOut (by kernel_rfl) (by kernel_rfl) (by kernel_rfl) Tryz.underlying4 rfl hW' rfl rfl rfl hb⟩

theorem cabeaten_holds : Rows.CacheBeatenSaid :=
  OpenClaim.holds_of_wide 3 Tryz.f3 rfl rfl rfl rfl rfl rfl rfl ⟨rfl, rfl, rfl, rfl, rfl⟩ rfl rfl rfl rfl rfl (by kernel_rfl) Tryz.func3 (by kernel_rfl)
    (of_decide_eq_true (by kernel_rfl)) (by unfold Func.isWrapper; first | (rw [if_pos (by decide +kernel)]; kernel_rfl) | (rw [if_neg (by decide +kernel)]; exact ⟨rfl, rfl⟩))
    (fun os started H enc _ => cabeaten_lifted os started H enc)

theorem cabeaten_card : Rows.CacheBeatenCardSaid :=
  Claim7.holds_tied_plain_at .later [] [.data, .data, .data] true Rows.cacheBeatenCard.stood.harness false cabeaten_holds (fun _ h => by cases h) (by kernel_rfl) (fun _ h => by cases h) cacheBeaten_row_tie rfl ⟨rfl, rfl⟩ (by kernel_rfl) rfl
    (fun f fn hf hfn => by
      obtain rfl : f = 3 := Option.some.inj ((show Tryz.prog.funcNamed "gazetteer/gazetteerlaw14.CacheBeaten" = some 3 by kernel_rfl).symm.trans hf) |>.symm
      obtain rfl : fn = Tryz.f3 := (Option.some.inj (Tryz.func3.symm.trans hfn)).symm
      exact ⟨by kernel_rfl, fun j t ht => by
        rw [Tryz.params3] at ht
        have hm : t ∈ [22, 5] := by simpa using Array.mem_of_getElem? ht
        have hall : ([22, 5].all fun u => !Tryz.prog.wantsStandIn u) = true := by kernel_rfl
        exact (show Tryz.prog.wantsStandIn t = false by simpa using List.all_eq_true.1 hall t hm)⟩)
    (by kernel_rfl)

end Go.Proofs.YtmbcbfalgdgmjaaGreatDoor
