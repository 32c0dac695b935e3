/-
  The contract of msg.Encode.
-/
import Derived.Test.YtjkjhpaeckkpjaaGreatWbP7
import Derived.Deep.CutRange
import Derived.Deep.RegionLaw
import Derived.Deep.RegionLawGrows
import Derived.Test.YtjkjhpaeckkpjaaGreatWbP5
import Derived.Deep.QuietTactic
import Derived.BigQuiet
import Derived.Test.YtjkjhpaeckkpjaaGreatWbP3
import Derived.Test.YtjkjhpaeckkpjaaGreatWbP4
import Derived.Test.YtjkjhpaeckkpjaaGreatWbP6
import Derived.Deep.AppendLies
import Derived.LaidEqlPtr
namespace Go.Proofs.YtjkjhpaeckkpjaaGreat
open Go.RowKit

/-- Slices of nothing. -/
def nilV : RV := ⟨none, 0, ⟨none, none, none, none, none, 0, 0, 0, 0, 0⟩⟩
theorem opt_own (w : World) (B : Nat) (n : Int) : OwnR w B nilV (optR n) :=
  ⟨World.ownsRow_nil _ _ _ _, ⟨World.ownsRow_nil _ _ _ _, World.ownsRow_nil _ _ _ _, World.ownsRow_nil _ _ _ _, World.ownsRow_nil _ _ _ _, World.ownsRow_nil _ _ _ _⟩⟩
/-- All records' slices are own ones. -/
def OwnedM (w : World) (m : MV) : Prop := ∀ i, ∀ p ∈ (m.sec i).ps, OwnR w 0 p.1 p.2
theorem OwnedM.below {w w' : World} {m : MV} (h : OwnedM w m) (hb : Below w.heap.size w w') : OwnedM w' m := fun i p hp => (h i p hp).keep fun g hg => hb.block g hg

set_option maxHeartbeats 400000 in
theorem clip_any (A : Option Addr) (n c : Nat) (w : World) (hn : n ≤ c) (_ : c ≤ maxLen) : Calls Tryz.prog 46 #[.slice A n c] w (Told w (.slice A n n)) := by
  have e1 : (0 : Int) ≤ n := by omega
  have e2 : (n : Int) ≤ c := by omega
  have e3 : (n : Int).toNat = n := by omega
  cases A with
  | none =>
    go_enter Tryz.func46, Tryz.ntmps46
    go_wp2
    go_ret
    exact ⟨rfl, rfl⟩
  | some a =>
    obtain ⟨b, o, s⟩ := a
    go_enter Tryz.func46, Tryz.ntmps46
    go_wp2
    go_ret
    exact ⟨by simp, rfl⟩

/-- What Encode answers. -/
def encE (m : Mt) : Except Nat (List UInt8) := if soundM m = true then (if 65535 < (encM m).length then .error 4 else .ok (encM m)) else .error 2
def EncOut (w : World) (r : Except Nat (List UInt8)) (e : Ending) (w' : World) : Prop :=
  Below w.heap.size w w' ∧ match r with
  | .ok l => ∃ A c, e = .returned (.tuple #[.slice A l.length c, .int .i64 0]) ∧ w'.ownsRow w.heap.size 5 1 (.slice A l.length c) l.length (l.map bc)
  | .error k => e = .returned (.tuple #[.slice none 0 0, .int .i64 k])
/-- The message with Extra as it is written. -/
def EdnsRel (w0 : World) (H : Nat) (m : MV) (wx : World) : Prop :=
  ∃ s : Sec, recs s.ps = m.msg.exX ∧ Whole wx H 25 (MV.cells ⟨m.h, m.qA, m.qc, m.qp, m.s0, m.s1, s⟩) ∧ RsAt wx wx.heap.size s.A s.ps ∧ (∀ p ∈ s.ps, OwnR wx 0 p.1 p.2) ∧ (∀ p ∈ s.ps, RIn p.2 ∧ LightR p.2) ∧ Below w0.heap.size w0 wx

theorem made_cells (w : World) (cs : Array Value) (t : TypeId) (j : Nat) (u : Value) (h : cs.toList[j]? = some u) : (w.alloc (.cells cs t)).cell? ((⟨w.heap.size, 0, none⟩ : Addr).add j) = some u := by
  rw [addr_add, Nat.zero_add, World.cell?_alloc_at _ _ _ _ rfl]
  simpa using h
theorem row_cells {w : World} {H : Nat} {A : Option Addr} {xs : List Value} (h : Row w H A xs) (b : Addr) (hb : A = some b) (j : Nat) (u : Value) (hu : xs[j]? = some u) : w.cell? (b.add j) = some u := by
  subst hb
  obtain ⟨b', off, e, hlt, hc⟩ := h.some_ (by have := (List.getElem?_eq_some_iff.1 hu).1; omega)
  injection e with e
  subst e
  rw [addr_add]
  exact hc j u hu
theorem none_empty {w : World} {H k : Nat} {α : Type} {f : α → List Value} {A : Option Addr} {ps : List α} (hf : ∀ p, (f p).length = k) (hk : 0 < k) (h : Row w H A (ps.flatMap f)) (hA : A = none) : ps.length = 0 ∧ ps.length = 0 := by
  subst hA
  rcases Nat.eq_zero_or_pos ps.length with h0 | h0
  · exact ⟨h0, h0⟩
  · obtain ⟨_, _, e, _⟩ := h.some_ (by rw [length_flat hf]; exact Nat.mul_pos h0 hk)
    cases e

theorem opt_in {n : Int} (h : (Lit.int .i64 n).wf = true) : RIn (optR n) ∧ LightR (optR n) := by
  have hw : WideN ([] : List (List UInt8)) := ⟨Nat.zero_le _, fun k hk => absurd hk (Nat.not_lt_zero _)⟩
  refine ⟨⟨hw, by show (Lit.int .i64 41).wf = true; decide, h, by show (Lit.int .i64 0).wf = true; decide, ⟨hw, hw, Nat.zero_le _⟩, fun k hk => absurd hk (Nat.not_lt_zero _), fun n hn => absurd hn (List.not_mem_nil)⟩, ⟨Nat.zero_le _, Nat.zero_le _, Nat.zero_le _, Nat.zero_le _, Nat.zero_le _, Nat.zero_le _⟩⟩
theorem edns_no {w w1 : World} {m : MV} (hed : m.h.edns = false) (hm : MAt w w.heap.size m) (hi : MIn m) (ho : OwnedM w m) (hb : Below w.heap.size w w1) (hw : Whole w1 w.heap.size 25 m.cells) : EdnsRel w w.heap.size m w1 := by
  refine ⟨m.s2, ?_, hw, (hm.below hb).s2.mono hb.size, fun p hp => ho.below hb 2 p hp, fun p hp => hi.r 2 p hp, hb⟩
  unfold Mt.exX MV.msg
  dsimp only
  rw [hed]
  simp
theorem edns_yes {w w1 w' : World} {m : MV} {A : Option Addr} {B n c : Nat} (hed : m.h.edns = true) (hm : MAt w w.heap.size m) (hi : MIn m) (ho : OwnedM w m) (hb : Below w.heap.size w w1) (hb3 : Below w1.heap.size w1 w') (hw : Whole w' w.heap.size 25 m.cells)
    (hr : w'.ownsRow B 42 9 (.slice A n c) n (m.s2.ps.flatMap cellsR ++ cellsR (nilV, optR m.h.size))) (hn : n = m.s2.ps.length + 1) (hB : w.heap.size < B) : EdnsRel w w.heap.size m (w'.setCell ⟨w.heap.size, 11, none⟩ (.slice A n c)) := by
  have hb2 : Below w.heap.size w w' := hb.trans (hb3.mono hb.size)
  have hbf : Below w.heap.size w (w'.setCell ⟨w.heap.size, 11, none⟩ (.slice A n c)) := hb2.setCell (p := ⟨w.heap.size, 11, none⟩) (Nat.le_refl _) _
  have hwf := hw.set_ 11 (.slice A n c)
  have hrf : (w'.setCell ⟨w.heap.size, 11, none⟩ (.slice A n c)).ownsRow B 42 9 (.slice A n c) n (m.s2.ps.flatMap cellsR ++ cellsR (nilV, optR m.h.size)) :=
    own_keep hr fun g hg => Below.heap_setCell w' ⟨w.heap.size, 11, none⟩ _ g (by have := (hr.lt g hg).1; show g ≠ w.heap.size; omega)
  have hl : (m.s2.ps ++ [(nilV, optR m.h.size)]).length = n := by rw [List.length_append, hn]; rfl
  refine ⟨⟨A, c, m.s2.ps ++ [(nilV, optR m.h.size)]⟩, ?_, ?_, ⟨?_, ?_⟩, ?_, ?_, hbf⟩
  · unfold Mt.exX MV.msg
    dsimp only
    rw [recs_append, hed]
    rfl
  · unfold MV.cells Sec.v
    dsimp only
    rw [hl]
    exact hwf
  · have h := Row.of_own hrf
    rw [List.flatMap_append]
    simpa using h
  · intro p hp
    rcases List.mem_append.1 hp with h | h
    · exact ((hm.s2.2 p h).below hbf).mono hbf.size
    · rw [List.mem_singleton.1 h]
      exact (opt_own _ 0 _).at_
  · intro p hp
    rcases List.mem_append.1 hp with h | h
    · exact ho.below hbf 2 p h
    · rw [List.mem_singleton.1 h]
      exact opt_own _ 0 _
  · intro p hp
    rcases List.mem_append.1 hp with h | h
    · exact hi.r 2 p h
    · rw [List.mem_singleton.1 h]
      exact opt_in hi.h.s

theorem allTo_len (m : MV) : ∀ j, (allTo m j).length + m.qp.length = sumTo m j
  | 0 => by show ([] : List Rt).length + m.qp.length = m.qp.length; simp
  | j + 1 => by
    have h := allTo_len m j
    show (allTo m j ++ recs (m.sec j).ps).length + m.qp.length = sumTo m j + (m.sec j).ps.length
    rw [List.length_append, length_recs]
    omega
theorem sumTo_up (m : MV) {j : Nat} (hj : j < 3) : sumTo m j + (m.sec j).ps.length ≤ sumTo m 3 := by
  have e1 : sumTo m 1 = sumTo m 0 + (m.sec 0).ps.length := rfl
  have e2 : sumTo m 2 = sumTo m 1 + (m.sec 1).ps.length := rfl
  have e3 : sumTo m 3 = sumTo m 2 + (m.sec 2).ps.length := rfl
  rcases (show j = 0 ∨ j = 1 ∨ j = 2 by omega) with rfl | rfl | rfl <;> omega
theorem allTo_sound {m : MV} (hr : ∀ i, ∀ p ∈ (m.sec i).ps, SoundR p.2) : ∀ j, ∀ r ∈ allTo m j, SoundR r
  | 0, r, h => absurd h (List.not_mem_nil)
  | j + 1, r, h => by
    have h' : r ∈ allTo m j ++ recs (m.sec j).ps := h
    rcases List.mem_append.1 h' with h1 | h1
    · exact allTo_sound hr j r h1
    · obtain ⟨p, hp, rfl⟩ := List.mem_map.1 h1
      exact hr j p hp
/-- What has been written is good, and not too long. -/
structure Fine (s : List UInt8 × Rs) : Prop where
  l : s.1.length ≤ 90000000
  r : s.2.length ≤ 700000
  g : GoodR s.1 s.2
def headS (m : MV) : List UInt8 × Rs := (headTo [] m 3, [])
theorem encS_fine {m : MV} (hq : ∀ q ∈ qsts m.qp, soundQ q = true) (hr : ∀ i, ∀ p ∈ (m.sec i).ps, SoundR p.2) (hn : sumTo m 3 ≤ 513) :
    (∀ k, k ≤ m.qp.length → Fine (putQs (qsts (m.qp.take k)) (headS m))) ∧ (∀ j, j < 3 → ∀ k, k ≤ (m.sec j).ps.length → Fine (putRs (allTo m j ++ recs ((m.sec j).ps.take k)) (putQs (qsts m.qp) (headS m)))) ∧ Fine (putRs (allTo m 3) (putQs (qsts m.qp) (headS m))) := by
  have hh : (headS m).1.length ≤ 42 := by have := length_headTo [] m 3; simpa [headS] using this
  have hq0 : m.qp.length ≤ sumTo m 3 := by have := allTo_len m 3; omega
  have hQ (k : Nat) (hk : k ≤ m.qp.length) : GrownS (headS m) (putQs (qsts (m.qp.take k)) (headS m)) k := by
    have h := putQs_good (qsts (m.qp.take k)) (headS m) (GoodR.nil _) fun q h => hq q (by
      obtain ⟨p, hp, e⟩ := List.mem_map.1 h
      exact List.mem_map.2 ⟨p, List.mem_of_mem_take hp, e⟩)
    rwa [length_qsts, List.length_take, Nat.min_eq_left hk] at h
  have hT := hQ m.qp.length (Nat.le_refl _)
  rw [List.take_length] at hT
  have hR (l : List Rt) (hl : ∀ r ∈ l, SoundR r) (n : Nat) (hn1 : l.length = n) (hn2 : n + m.qp.length ≤ 513) : Fine (putRs l (putQs (qsts m.qp) (headS m))) := by
    have h := putRs_good l _ hT.g hl
    rw [hn1] at h
    have a1 := h.l
    have a2 := h.r
    have a3 := hT.l
    have a4 := hT.r
    have a5 : (headS m).2.length = 0 := rfl
    exact ⟨by omega, by omega, h.g⟩
  refine ⟨fun k hk => ?_, fun j hj k hk => ?_, ?_⟩
  · have h := hQ k hk
    have a1 := h.l
    have a2 := h.r
    have a5 : (headS m).2.length = 0 := rfl
    exact ⟨by omega, by omega, h.g⟩
  · have h1 := allTo_len m j
    have h2 := sumTo_up m hj
    refine hR _ ?_ ((allTo m j).length + k) (by rw [List.length_append, length_recs, List.length_take, Nat.min_eq_left hk]) (by omega)
    intro r h
    rcases List.mem_append.1 h with h | h
    · exact allTo_sound hr j r h
    · obtain ⟨p, hp, rfl⟩ := List.mem_map.1 h
      exact hr j p (List.mem_of_mem_take hp)
  · have h1 := allTo_len m 3
    exact hR _ (allTo_sound hr 3) _ rfl (by omega)
/-- What is written in the end. -/
theorem encS_eq {m m' : MV} (e : m'.h = m.h) (eq : m'.qp = m.qp) (e0 : m'.s0 = m.s0) (e1 : m'.s1 = m.s1) (e2 : recs m'.s2.ps = m.msg.exX) : (putRs (allTo m' 3) (putQs (qsts m'.qp) (headS m'))).1 = encM m.msg := by
  have h1 : allTo m' 3 = m.msg.an ++ (m.msg.au ++ m.msg.exX) := by
    rw [allTo_three]
    show recs m'.s0.ps ++ (recs m'.s1.ps ++ recs m'.s2.ps) = _
    rw [e0, e1, e2]
    rfl
  have h2 : headS m' = (m.msg.head, []) := by
    show (headTo [] m' 3, []) = _
    have h3 : headTo [] m' 3 = headM m'.h m'.qp.length m'.s0.ps.length m'.s1.ps.length m'.s2.ps.length := rfl
    have h4 : m'.s2.ps.length = m.msg.exX.length := by rw [← e2, length_recs]
    have h5 : m.msg.head = headM m.h (qsts m.qp).length (recs m.s0.ps).length (recs m.s1.ps).length m.msg.exX.length := rfl
    rw [h3, h5, e, eq, e0, e1, h4, length_qsts, length_recs, length_recs]
  rw [h1, h2, eq]
  rfl
def QEncRel (base : Nat) (W : World) (g : Nat) (vB vM : Value) (qp : List (QV × Qt)) (S : List UInt8 × Rs) (i : Value) (wr : World) : Prop :=
  ∃ k : Nat, k ≤ qp.length ∧ i = .int .i64 k ∧ Penned base W g vB vM (putQs (qsts (qp.take k)) S).1 (putQs (qsts (qp.take k)) S).2 wr
def REncRel (base : Nat) (W : World) (g : Nat) (vB vM : Value) (m : MV) (T : List UInt8 × Rs) (i : Value) (wr : World) : Prop :=
  ∃ j : Nat, j ≤ 3 ∧ i = .int .i64 j ∧ Penned base W g vB vM (putRs (allTo m j) T).1 (putRs (allTo m j) T).2 wr
def IEncRel (base : Nat) (W : World) (g : Nat) (vB vM : Value) (l : List Rt) (ps : List (RV × Rt)) (T : List UInt8 × Rs) (i : Value) (wr : World) : Prop :=
  ∃ k : Nat, k ≤ ps.length ∧ i = .int .i64 k ∧ Penned base W g vB vM (putRs (l ++ recs (ps.take k)) T).1 (putRs (l ++ recs (ps.take k)) T).2 wr

set_option maxRecDepth 20000 in
set_option maxHeartbeats 8000000 in
theorem encode_core (w : World) (m : MV) (h : Hd) (qA : Option Addr) (qc : Nat) (qp : List (QV × Qt)) (s0 s1 s2 : Sec) (he : m = ⟨h, qA, qc, qp, s0, s1, s2⟩) (hm : MAt w w.heap.size m) (hi : MIn m) (ho : OwnedM w m) (hc2 : s2.ps.length ≤ s2.c) (hc2m : s2.c ≤ maxLen) :
    Calls Tryz.prog 30 #[valM h (.slice qA qp.length qc) s0.v s1.v s2.v] w (EncOut w (encE m.msg)) := by
  obtain ⟨i0, hi0, hz0, hz1, hz2⟩ := info_parts rr_info
  obtain ⟨W, hW⟩ : ∃ W, W = w.alloc (.cells #[.int .i64 h.id, .bool h.resp, .int .i64 h.op, .bool h.aa, .bool h.tc, .bool h.rd, .bool h.ra, .int .i64 h.rc, .slice qA qp.length qc, s0.v, s1.v, s2.v, .bool h.edns, .int .i64 h.size] 25) := ⟨_, rfl⟩
  have hB : Below w.heap.size w W := by rw [hW]; exact (Below.refl _ _).alloc (Nat.le_refl _) _
  have hwh : Whole W w.heap.size 25 m.cells := by rw [hW, he]; exact Whole.made w _ _
  have HB := Lib.hid hB
  have HW := Lib.hid hwh
  have HM := Lib.hid hm
  have HI := Lib.hid hi
  have HO := Lib.hid ho
  have HE := Lib.hid he
  have HS := Lib.hid (show Calls Tryz.prog 15 #[valM h (.slice qA qp.length qc) s0.v s1.v s2.v] W (Gave W (.bool (soundM m.msg))) from by
    have := msound_any W m ((hm.below hB).mono hB.size) hi
    rwa [he] at this ⊢)
  have hlt : w.heap.size < W.heap.size := hwh.lt
  clear hB hwh hm hi ho he
  subst hW
  go_enter Tryz.func30, Tryz.ntmps30
  go_wp2_with fail
  refine HS.out.mono ?_
  rintro e w1 ⟨rfl, hb1⟩
  have HB1 := Lib.hid (HB.out.trans (hb1.mono HB.out.size))
  have HW1 := Lib.hid (HW.out.below hb1 hlt)
  have hlt1 : w.heap.size < w1.heap.size := HW1.out.lt
  clear hb1 HB HW HS hlt
  cases hs : soundM m.msg with
  | false =>
    have HR := Lib.hid (show encE m.msg = .error 2 by unfold encE; rw [hs]; rfl)
    go_wp2
    refine ⟨rfl, .tuple #[.slice none 0 0, .int .i64 2], by simp [results, Tryz.results30, go_sem], ?_⟩
    rw [HR.out]
    exact ⟨HB1.out, rfl⟩
  | true =>
  have HSM := Lib.hid (soundM_iff.1 hs)
  clear hs
  obtain ⟨c8, c11, c12, c13⟩ : w1.cell? ⟨w.heap.size, 8, none⟩ = some (.slice qA qp.length qc) ∧ w1.cell? ⟨w.heap.size, 11, none⟩ = some (.slice s2.A s2.ps.length s2.c) ∧ w1.cell? ⟨w.heap.size, 12, none⟩ = some (.bool h.edns) ∧ w1.cell? ⟨w.heap.size, 13, none⟩ = some (.int .i64 h.size) := by
    have hw := HW1.out
    rw [HE.out] at hw
    exact ⟨hw.cell 8, hw.cell 11, hw.cell 12, hw.cell 13⟩
  have hf11 : w1.frozen? ⟨w.heap.size, 11, none⟩ = false := HW1.out.frozen 11
  go_upto_if 16 with fail
  go_cut [] from 12 to 33 (fun wx => EdnsRel w w.heap.size m wx)
  case first =>
    cases hed : h.edns with
    | false =>
      rw [hed] at c12
      go_wp2_with fail
      go_meet
      exact edns_no (by rw [HE.out]; exact hed) HM.out HI.out HO.out HB1.out HW1.out
    | true =>
      rw [hed] at c12
      have HCL := Lib.hid (fun W' => clip_any s2.A s2.ps.length s2.c W' hc2 hc2m)
      have HRW := Lib.hid (fun W' (hb : Below w1.heap.size w1 W') => (show Row W' w1.heap.size s2.A (s2.ps.flatMap cellsR) from by
        have h := (HM.out.below (HB1.out.trans (hb.mono HB1.out.size))).s2.1.mono HB1.out.size
        rwa [HE.out] at h))
      have HNN := Lib.hid (none_empty cellsR_len (by omega) (HRW.out w1 (Below.refl _ _)))
      have hl2 : s2.ps.length ≤ 1000 := by have h := HI.out.rl 2; rw [HE.out] at h; exact h
      have hbx0 : Below w1.heap.size w1 ((w1.alloc (.cells #[.slice none 0 0, .int .i64 41, .int .i64 h.size, .int .i64 0, .slice none 0 0, .slice none 0 0, .slice none 0 0, .slice none 0 0, .slice none 0 0] 42)).drew) := ((Below.refl _ _).alloc (Nat.le_refl _) _).drew
      have HBX := Lib.hid hbx0
      have HWX := Lib.hid (HW1.out.below hbx0 hlt1)
      clear hbx0
      go_upto_region 4 with fail
      go_region_law (first
        | (refine step_append_grows rfl (.tmp 19) (.tmp 23) _ rfl 42 i0 _ 9 168 Tryz.underlying23 hi0 hz0 hz1 hz2 rfl (by omega) s2.A s2.ps.length s2.ps.length (s2.ps.flatMap cellsR) rfl HNN.out (length_flat cellsR_len _)
             (fun b hb j u hu => row_cells (HRW.out _ (by first | exact (Below.refl _ _).alloc (Nat.le_refl _) _ | exact ((Below.refl _ _).alloc (Nat.le_refl _) _).drew | exact ((Below.refl _ _).drew).alloc (Nat.le_refl _) _)) b hb j u hu) _ 1 1 (cellsR (nilV, optR h.size)) rfl rfl (fun j u hu => made_cells _ _ _ j u hu) (cellsR_one1 _) (by omega) (by unfold maxLen; omega) (by omega) ?_
           intro v' w' hown' hg'
           obtain ⟨A', c', rfl, hc1', hc2'⟩ := own_form hown'
           have hwx := HWX.out.grown hg' (by simp)
           have HB3 := Lib.hid (own_below HBX.out (Nat.le_refl _) HBX.out.size (World.ownsRow_nil _ w1.heap.size 42 9) hg')
           have HW3 := Lib.hid hwx
           have HR3 := Lib.hid hown'
           rw [HE.out] at hwx
           have c11' : w'.cell? ⟨w.heap.size, 11, none⟩ = some (.slice s2.A s2.ps.length s2.c) := hwx.cell 11
           have f11' : w'.frozen? ⟨w.heap.size, 11, none⟩ = false := hwx.frozen 11
           clear hwx hown' hg')
        | (go_simp
           go_at_call 46
           refine (HCL.out _).mono ?_
           rintro e w' ⟨rfl, rfl⟩))
      all_goals
        have HBZ := HBX.out.size
        have HED := Lib.hid (edns_yes (A := A') (c := c') (by rw [HE.out]; exact hed) HM.out HI.out HO.out HB1.out HB3.out HW3.out (by rw [HE.out]; exact HR3.out) (by rw [HE.out]) (Nat.lt_of_lt_of_le hlt1 HBZ))
        clear c11' f11' HBZ HW3 HR3 HB3
        go_wp2
        go_meet
        exact HED.out
  case rest =>
    obtain ⟨s, hrs, hwx, hsx, hso, hsi, hbx⟩ := hcut
    obtain ⟨m', hm'⟩ : ∃ m' : MV, m' = ⟨h, qA, qc, qp, s0, s1, s⟩ := ⟨_, rfl⟩
    have hm2 := HM.out.below hbx
    have hql : qp.length ≤ 1000 := by have h := HI.out.ql; rw [HE.out] at h; exact h
    have hn513 : sumTo m' 3 ≤ 513 := by
      have h1 := HSM.out.n
      have h2 := length_exX m.msg
      rw [← hrs, length_recs] at h2
      have h3 : m.msg.qs.length = m.qp.length := length_qsts _
      have h4 : m.msg.an.length = m.s0.ps.length := length_recs _
      have h5 : m.msg.au.length = m.s1.ps.length := length_recs _
      have h6 : sumTo m' 3 = m.qp.length + m.s0.ps.length + m.s1.ps.length + s.ps.length := by rw [sumTo_three, hm', HE.out]
      have h7 : s.ps.length ≤ m.msg.ex.length + 1 := by rw [h2]; split <;> omega
      omega
    have H513 := Lib.hid hn513
    have HF := Lib.hid (encS_fine (m := m') (by have h := HSM.out.q; rw [HE.out] at h; rw [hm']; exact h) (fun i p hp => by
        have hx : ∀ r ∈ m.msg.an ++ (m.msg.au ++ m.msg.exX), SoundR r := fun r hr => by
          rcases List.mem_append.1 hr with h | h
          · exact (soundX_iff.1 (HSM.out.r r (List.mem_append_left _ h))).2
          · rcases List.mem_append.1 h with h | h
            · exact (soundX_iff.1 (HSM.out.r r (List.mem_append_right _ (List.mem_append_left _ h)))).2
            · exact Mt.exX_sound HSM.out r h
        rw [hm'] at hp
        unfold MV.sec at hp
        split at hp
        · exact hx _ (List.mem_append_left _ (by rw [HE.out]; exact List.mem_map.2 ⟨p, hp, rfl⟩))
        · split at hp
          · exact hx _ (List.mem_append_right _ (List.mem_append_left _ (by rw [HE.out]; exact List.mem_map.2 ⟨p, hp, rfl⟩)))
          · exact hx _ (List.mem_append_right _ (List.mem_append_right _ (by rw [← hrs]; exact List.mem_map.2 ⟨p, hp, rfl⟩)))) hn513)
    have HSQ := Lib.hid (show ∀ p ∈ qp, soundQ p.2 = true from fun p hp => HSM.out.q p.2 (by rw [HE.out]; exact List.mem_map.2 ⟨p, hp, rfl⟩))
    have HSR := Lib.hid (show ∀ i, ∀ p ∈ (m'.sec i).ps, SoundR p.2 from fun i p hp => by
        have hx : ∀ r ∈ m.msg.an ++ (m.msg.au ++ m.msg.exX), SoundR r := fun r hr => by
          rcases List.mem_append.1 hr with h | h
          · exact (soundX_iff.1 (HSM.out.r r (List.mem_append_left _ h))).2
          · rcases List.mem_append.1 h with h | h
            · exact (soundX_iff.1 (HSM.out.r r (List.mem_append_right _ (List.mem_append_left _ h)))).2
            · exact Mt.exX_sound HSM.out r h
        rw [hm'] at hp
        unfold MV.sec at hp
        split at hp
        · exact hx _ (List.mem_append_left _ (by rw [HE.out]; exact List.mem_map.2 ⟨p, hp, rfl⟩))
        · split at hp
          · exact hx _ (List.mem_append_right _ (List.mem_append_left _ (by rw [HE.out]; exact List.mem_map.2 ⟨p, hp, rfl⟩)))
          · exact hx _ (List.mem_append_right _ (List.mem_append_right _ (by rw [← hrs]; exact List.mem_map.2 ⟨p, hp, rfl⟩))))
    have HIN := Lib.hid (show ∀ i, ∀ p ∈ (m'.sec i).ps, RIn p.2 ∧ LightR p.2 from fun i p hp => by
        rw [hm'] at hp
        unfold MV.sec at hp
        split at hp
        · exact HI.out.r 0 p (by rw [HE.out]; exact hp)
        · split at hp
          · exact HI.out.r 1 p (by rw [HE.out]; exact hp)
          · exact hsi p hp)
    have HOW := Lib.hid (show ∀ i, ∀ p ∈ (m'.sec i).ps, OwnR wc 0 p.1 p.2 from fun i p hp => by
        rw [hm'] at hp
        unfold MV.sec at hp
        split at hp
        · exact HO.out.below hbx 0 p (by rw [HE.out]; exact hp)
        · split at hp
          · exact HO.out.below hbx 1 p (by rw [HE.out]; exact hp)
          · exact hso p hp)
    have HMX := Lib.hid (show MAt wc wc.heap.size m' from by
        have h2 := hm2.mono hbx.size
        rw [HE.out] at h2
        rw [hm']
        exact ⟨h2.q, h2.s0, h2.s1, hsx⟩)
    have hwx' : Whole wc w.heap.size 25 m'.cells := by
      have h2 := hwx
      rw [HE.out] at h2
      rw [hm']
      exact h2
    have HWX := Lib.hid hwx'
    have HEQ := Lib.hid (show (putRs (allTo m' 3) (putQs (qsts qp) (headS m'))).1 = encM m.msg from by
      have h2 := encS_eq (m := m) (m' := m') (by rw [hm', HE.out]) (by rw [hm', HE.out]) (by rw [hm', HE.out]) (by rw [hm', HE.out]) (by rw [hm']; exact hrs)
      have h3 : m'.qp = qp := by rw [hm']
      rwa [h3] at h2)
    have HFQ := Lib.hid (show ∀ k, k ≤ qp.length → Fine (putQs (qsts (qp.take k)) (headS m')) from by
      have h2 := HF.out.1
      have h3 : m'.qp = qp := by rw [hm']
      rwa [h3] at h2)
    have HFR := Lib.hid (show ∀ j, j < 3 → ∀ k, k ≤ (m'.sec j).ps.length → Fine (putRs (allTo m' j ++ recs ((m'.sec j).ps.take k)) (putQs (qsts qp) (headS m'))) from by
      have h2 := HF.out.2.1
      have h3 : m'.qp = qp := by rw [hm']
      rwa [h3] at h2)
    have HFE := Lib.hid (show Fine (putRs (allTo m' 3) (putQs (qsts qp) (headS m'))) from by
      have h2 := HF.out.2.2
      have h3 : m'.qp = qp := by rw [hm']
      rwa [h3] at h2)
    have HC := Lib.hid (fun (W' : World) (hw : Whole W' w.heap.size 25 m'.cells) => (show W'.cell? ⟨w.heap.size, 0, none⟩ = some (.int .i64 h.id) ∧ W'.cell? ⟨w.heap.size, 1, none⟩ = some (.bool h.resp) ∧ W'.cell? ⟨w.heap.size, 2, none⟩ = some (.int .i64 h.op) ∧ W'.cell? ⟨w.heap.size, 3, none⟩ = some (.bool h.aa) ∧
      W'.cell? ⟨w.heap.size, 4, none⟩ = some (.bool h.tc) ∧ W'.cell? ⟨w.heap.size, 5, none⟩ = some (.bool h.rd) ∧ W'.cell? ⟨w.heap.size, 6, none⟩ = some (.bool h.ra) ∧ W'.cell? ⟨w.heap.size, 7, none⟩ = some (.int .i64 h.rc) ∧ W'.cell? ⟨w.heap.size, 8, none⟩ = some (.slice qA qp.length qc) ∧
      W'.cell? ⟨w.heap.size, 9, none⟩ = some s0.v ∧ W'.cell? ⟨w.heap.size, 10, none⟩ = some s1.v ∧ W'.cell? ⟨w.heap.size, 11, none⟩ = some s.v ∧ W'.cell? ⟨w.heap.size, 12, none⟩ = some (.bool h.edns) ∧ W'.cell? ⟨w.heap.size, 13, none⟩ = some (.int .i64 h.size) by
      rw [hm'] at hw
      exact ⟨hw.cell 0, hw.cell 1, hw.cell 2, hw.cell 3, hw.cell 4, hw.cell 5, hw.cell 6, hw.cell 7, hw.cell 8, hw.cell 9, hw.cell 10, hw.cell 11, hw.cell 12, hw.cell 13⟩))
    have HQ0 := Lib.hid (fun (W' : World) (hb : Below wc.heap.size wc W') => (show QsAt W' wc.heap.size qA qp by have h2 := HMX.out.q.below hb; rw [hm'] at h2; exact h2))
    have HMS := Lib.hid (fun (W' : World) (hb : Below wc.heap.size wc W') => HMX.out.below hb)
    have HBC := Lib.hid hbx
    have HME := Lib.hid hm'
    have hcodes : codeB h.op = true ∧ codeB h.rc = true := by
      have h1 := HSM.out.h
      have h2 : m.msg.h = h := by rw [HE.out]; rfl
      rw [h2] at h1
      unfold soundH at h1
      simp only [Bool.and_eq_true] at h1
      exact ⟨h1.2.1, h1.2.2.1⟩
    have HCO := Lib.hid hcodes
    have HANS := Lib.hid (show encE m.msg = if 65535 < (encM m.msg).length then .error 4 else .ok (encM m.msg) by unfold encE; rw [if_pos (soundM_iff.2 HSM.out)])
    have hHc : w.heap.size < wc.heap.size := hwx'.lt
    clear hn513 hrs hwx hsx hso hsi hbx hm2 HF hwx' hcodes hm' c8 c11 c12 c13 hf11 HSM HM HI HO HB1 HW1 hlt1
    go_wp2_with fail
    refine (new_any wc).mono ?_
    rintro e w2 ⟨rfl, hwr, hb2⟩
    have HW2 := Lib.hid (HWX.out.below hb2 hHc)
    have HWR2 := Lib.hid hwr
    have HB2 := Lib.hid hb2
    clear hwr hb2
    obtain ⟨c0, c1, c2, c3, c4, c5, c6, c7, c8, c9, c10, c11, c12, c13⟩ := HC.out w2 HW2.out
    go_wp2_with fail
    refine (putHead_core wc.heap.size w2 wc.heap.size _ _ [] [] m' h qA qc qp s0 s1 s HME.out HWR2.out HCO.out.1 HCO.out.2 (by simp)).mono ?_
    rintro e w3 ⟨rfl, hp3⟩
    have HB3 := Lib.hid (HB2.out.trans (pen_below HWR2.out hp3))
    have HP3 := Lib.hid hp3
    clear hp3 c0 c1 c2 c3 c4 c5 c6 c7 c8 c9 c10 c11 c12 c13
    have HW3 := Lib.hid (HWX.out.below HB3.out hHc)
    have c8 := (HC.out w3 HW3.out).2.2.2.2.2.2.2.2.1
    clear HW2 HB2
    obtain ⟨vB3, vM3, hw3, _, _⟩ := HP3.out
    have HWR3 := Lib.hid hw3
    clear hw3 HP3 HWR2
    go_wp2
    go_loopw [33] (QEncRel wc.heap.size w3 wc.heap.size vB3 vM3 qp (headS m')) (fun i _ => qp.length - (intOf i).toNat)
    case atStart => exact ⟨0, Nat.zero_le _, rfl, Penned.refl HWR3.out⟩
    case round =>
      obtain ⟨k, hk, rfl, hp⟩ := hrel
      have HP := Lib.hid hp
      have HBR := Lib.hid (HB3.out.trans (pen_below HWR3.out hp))
      clear hp
      by_cases hlt2 : k < qp.length
      · obtain ⟨b1, o1, rfl, hb1, hda, q0, q1, q2⟩ := (HQ0.out _ HBR.out).at_ hlt2
        have HQS := Lib.hid (HSQ.out _ (List.getElem_mem hlt2))
        have HTS := Lib.hid (qsts_at hlt2)
        have HFK := Lib.hid (HFQ.out k hk)
        revert hda q0 q1 q2 HQS HTS
        generalize qp[k] = p1
        obtain ⟨y, q⟩ := p1
        intro hda q0 q1 q2 HQS HTS
        dsimp only at *
        have hba : Below wr.heap.size wr (wr.alloc (.cells #[.slice y.1 q.name.length y.2, .int .i64 q.kind, .int .i64 q.cls] 46)) := (Below.refl _ _).alloc (Nat.le_refl _) _
        obtain ⟨vB4, vM4, hw4, hg4, hf4⟩ := HP.out
        have HC4 := Lib.hid (putQuestion_any wc.heap.size (wr.alloc (.cells #[.slice y.1 q.name.length y.2, .int .i64 q.kind, .int .i64 q.cls] 46)) wc.heap.size vB4 vM4 _ _ y q (hw4.alloc _) (Row.below hda (hba.mono HBR.out.size)) HQS.out HFK.out.l HFK.out.r HFK.out.g)
        have HG4 := Lib.hid (hg4.alloc (.cells #[.slice y.1 q.name.length y.2, .int .i64 q.kind, .int .i64 q.cls] 46))
        have HF4 := Lib.hid hf4
        clear hda hba hw4 hg4 hf4
        go_wp2_with fail
        refine HC4.out.mono ?_
        rintro e w4 ⟨rfl, hpn⟩
        have HP4 := Lib.hid (show Penned wc.heap.size w3 wc.heap.size vB3 vM3 (putQs (qsts (qp.take (k + 1))) (headS m')).1 (putQs (qsts (qp.take (k + 1))) (headS m')).2 w4 from by
          rw [HTS.out, putQs_snoc]
          exact Penned.then HG4.out HF4.out hpn)
        clear hpn HC4 HG4 HF4 HTS HFK HQS q0 q1 q2
        go_wp2
        exact ⟨⟨k + 1, by omega, by go_num, HP4.out⟩, by simp [intOf]; omega⟩
      · obtain rfl : k = qp.length := by omega
        have HPQ := Lib.hid (show Penned wc.heap.size w3 wc.heap.size vB3 vM3 (putQs (qsts qp) (headS m')).1 (putQs (qsts qp) (headS m')).2 wr from by
          have h2 := HP.out
          rwa [List.take_length] at h2)
        clear HP c8
        go_wp2_with fail
        refine (sections_any wr w.heap.size).mono ?_
        rintro e w5 ⟨b5, rfl, hbb5, hwb5, hb5⟩
        obtain ⟨vB5, vM5, hw5, hg5, hf5⟩ := HPQ.out
        have HNB := Lib.hid (show ¬ ownF wc.heap.size vB5 vM5 b5 from fun hj => by have := (hw5.own hj).2; omega)
        have HNW := Lib.hid (show ¬ ownF wc.heap.size vB5 vM5 w.heap.size from fun hj => by have := (hw5.own hj).1; omega)
        have hB5 := HBR.out.trans (hb5.mono HBR.out.size)
        have HX5 := Lib.hid (Boxed.mk (m := m') (HWX.out.below hB5 hHc) hwb5)
        have HWR5 := Lib.hid (hw5.below hb5)
        have HB5 := Lib.hid hB5
        clear hwb5 hb5 hbb5 hw5 hg5 hf5 HPQ HBR hB5
        go_wp2
        go_loopw [43] (REncRel wc.heap.size w5 wc.heap.size vB5 vM5 m' (putQs (qsts qp) (headS m'))) (fun i _ => 3 - (intOf i).toNat)
        case atStart => exact ⟨0, by omega, rfl, Penned.refl HWR5.out⟩
        case round =>
          obtain ⟨j, hj, rfl, hp⟩ := hrel
          have HP := Lib.hid hp
          have HXR := Lib.hid (Boxed.mk (m := m') (pen_box hp HX5.out.bg HNW.out) (pen_box hp HX5.out.bb HNB.out))
          have HB6 := Lib.hid (HB5.out.trans (pen_below HWR5.out hp))
          clear hp
          by_cases hlt : j < 3
          · obtain ⟨p0, p1⟩ := HXR.out.ptr hlt
            have HFJ := Lib.hid (HFR.out j hlt)
            have HSJ := Lib.hid (HSR.out j)
            have HIJ := Lib.hid (HIN.out j)
            have HOJ := Lib.hid (HOW.out j)
            have HMJ := Lib.hid (fun W' (h : Below wc.heap.size wc W') => (HMS.out _ h).sec j)
            have HN := Lib.hid (show allTo m' (j + 1) = allTo m' j ++ recs (m'.sec j).ps from rfl)
            have hpl : (m'.sec j).ps.length ≤ 513 := by
              have h1 := sumTo_up m' hlt
              have h2 := H513.out
              omega
            revert p1 HFJ HSJ HIJ HOJ HMJ HN hpl
            generalize m'.sec j = sj
            obtain ⟨sA, sc, ps⟩ := sj
            intro p1 HFJ HSJ HIJ HOJ HMJ HN hpl
            dsimp only at *
            have hj1 : (j : Int) < 3 := by omega
            go_wp2
            go_loopw [51] (IEncRel wc.heap.size w5 wc.heap.size vB5 vM5 (allTo m' j) ps (putQs (qsts qp) (headS m'))) (fun i _ => ps.length - (intOf i).toNat)
            case atStart => exact ⟨0, Nat.zero_le _, rfl, by rw [List.take_zero, show recs ([] : List (RV × Rt)) = [] from rfl, List.append_nil]; exact HP.out⟩
            case round =>
              obtain ⟨k, hk, rfl, hp⟩ := hrel
              have HPI := Lib.hid hp
              have HB7 := Lib.hid (HB5.out.trans (pen_below HWR5.out hp))
              clear hp
              by_cases hlt3 : k < ps.length
              · obtain ⟨b1, o1, rfl, hb1, hra, q0, q1, q2, q3, q4, q5, q6, q7, q8⟩ := (HMJ.out _ HB7.out).at_ hlt3
                have HRI := Lib.hid (HIJ.out _ (List.getElem_mem hlt3))
                have HRS := Lib.hid (HSJ.out _ (List.getElem_mem hlt3))
                have HRO := Lib.hid (HOJ.out _ (List.getElem_mem hlt3))
                have HTS := Lib.hid (recs_at hlt3)
                have HFK := Lib.hid (HFJ.out k hk)
                revert hra q0 q1 q2 q3 q4 q5 q6 q7 q8 HRI HRS HRO HTS
                generalize ps[k] = p2
                obtain ⟨x, r⟩ := p2
                intro hra q0 q1 q2 q3 q4 q5 q6 q7 q8 HRI HRS HRO HTS
                dsimp only at *
                have hba : Below wr.heap.size wr (wr.alloc (.cells #[.slice x.A r.name.length x.c, .int .i64 r.kind, .int .i64 r.cls, .int .i64 r.ttl, .slice x.d.Ab r.data.bytes.length x.d.cb, .slice x.d.Ah r.data.host.length x.d.ch, .slice x.d.Am r.data.mail.length x.d.cm, .slice x.d.An r.data.nums.length x.d.cn, .slice x.d.At r.data.texts.length x.d.ct] 42)) := (Below.refl _ _).alloc (Nat.le_refl _) _
                obtain ⟨vB6, vM6, hw6, hg6, hf6⟩ := HPI.out
                have HC6 := Lib.hid (rrput_sound wc.heap.size (wr.alloc (.cells #[.slice x.A r.name.length x.c, .int .i64 r.kind, .int .i64 r.cls, .int .i64 r.ttl, .slice x.d.Ab r.data.bytes.length x.d.cb, .slice x.d.Ah r.data.host.length x.d.ch, .slice x.d.Am r.data.mail.length x.d.cm, .slice x.d.An r.data.nums.length x.d.cn, .slice x.d.At r.data.texts.length x.d.ct] 42)) wc.heap.size vB6 vM6 _ _ x r 0 (hw6.alloc _) (HRO.out.keep fun g hg => (HB7.out.trans (hba.mono HB7.out.size)).block g hg) (fun j hj ho => by
                  have h1 := (hw6.own hj).1
                  have h2 := (HRO.out.base ho).2
                  omega) HRS.out HRI.out.1 HRI.out.2 HFK.out.l HFK.out.r HFK.out.g)
                have HG6 := Lib.hid (hg6.alloc (.cells #[.slice x.A r.name.length x.c, .int .i64 r.kind, .int .i64 r.cls, .int .i64 r.ttl, .slice x.d.Ab r.data.bytes.length x.d.cb, .slice x.d.Ah r.data.host.length x.d.ch, .slice x.d.Am r.data.mail.length x.d.cm, .slice x.d.An r.data.nums.length x.d.cn, .slice x.d.At r.data.texts.length x.d.ct] 42))
                have HF6 := Lib.hid hf6
                clear hra hba hw6 hg6 hf6
                go_wp2_with fail
                refine HC6.out.mono ?_
                rintro e w6 ⟨rfl, hpn⟩
                have HP6 := Lib.hid (show Penned wc.heap.size w5 wc.heap.size vB5 vM5 (putRs (allTo m' j ++ recs (ps.take (k + 1))) (putQs (qsts qp) (headS m'))).1 (putRs (allTo m' j ++ recs (ps.take (k + 1))) (putQs (qsts qp) (headS m'))).2 w6 from by
                  rw [HTS.out, ← List.append_assoc, putRs_snoc]
                  exact Penned.then HG6.out HF6.out hpn)
                clear hpn HC6 HG6 HF6 HTS HFK HRI HRS HRO q0 q1 q2 q3 q4 q5 q6 q7 q8
                go_wp2
                exact ⟨⟨k + 1, by omega, by go_num, HP6.out⟩, by simp [intOf]; omega⟩
              · obtain rfl : k = ps.length := by omega
                have HPJ := Lib.hid (show Penned wc.heap.size w5 wc.heap.size vB5 vM5 (putRs (allTo m' (j + 1)) (putQs (qsts qp) (headS m'))).1 (putRs (allTo m' (j + 1)) (putQs (qsts qp) (headS m'))).2 wr from by
                  have h2 := HPI.out
                  rw [List.take_length] at h2
                  rw [HN.out]
                  exact h2)
                go_wp2
                exact ⟨⟨j + 1, by omega, by go_num, HPJ.out⟩, by simp [intOf]; omega⟩
          · obtain rfl : j = 3 := by omega
            obtain ⟨vB7, vM7, hw7, _, _⟩ := HP.out
            rw [HEQ.out] at hw7
            have hfl : (encM m.msg).length ≤ 90000000 := by have h2 := HFE.out.l; rwa [HEQ.out] at h2
            have HL := Lib.hid (len_any wc.heap.size wr wc.heap.size vB7 vM7 _ _ hw7)
            have HY := Lib.hid (bytes_any wc.heap.size wr wc.heap.size vB7 vM7 _ _ hw7 (by omega))
            have HBE := Lib.hid (HBC.out.trans (HB6.out.mono HBC.out.size))
            clear hw7 HP
            go_wp2_with fail
            refine HL.out.mono ?_
            rintro e w8 ⟨rfl, rfl⟩
            by_cases hbig : 65535 < (encM m.msg).length
            · have d1 : decide ((65535 : Int) < ((encM m.msg).length : Int)) = true := by rw [decide_eq_true_eq]; omega
              have HAN := Lib.hid (show encE m.msg = .error 4 by rw [HANS.out, if_pos hbig])
              clear hbig hfl
              go_wp2
              refine ⟨rfl, .tuple #[.slice none 0 0, .int .i64 4], by simp [results, Tryz.results30, go_sem], ?_⟩
              rw [HAN.out]
              exact ⟨HBE.out, rfl⟩
            · have d1 : decide ((65535 : Int) < ((encM m.msg).length : Int)) = false := decide_eq_false (by omega)
              have HAN := Lib.hid (show encE m.msg = .ok (encM m.msg) by rw [HANS.out, if_neg hbig])
              clear hbig hfl
              go_wp2_with fail
              refine HY.out.mono ?_
              rintro e w9 ⟨A9, c9, rfl, hown9, hb9⟩
              have HO9 := Lib.hid hown9
              have HB9 := Lib.hid (HBE.out.trans (hb9.mono HBE.out.size))
              clear hown9 hb9
              go_wp2
              refine ⟨rfl, .tuple #[.slice A9 (encM m.msg).length c9, .int .i64 0], by simp [results, Tryz.results30, go_sem], ?_⟩
              rw [HAN.out]
              exact ⟨HB9.out, A9, c9, rfl, own_mono HO9.out HBE.out.size⟩

theorem encode_any (w : World) (m : MV) (hm : MAt w w.heap.size m) (hi : MIn m) (ho : OwnedM w m) (hc : m.s2.ps.length ≤ m.s2.c ∧ m.s2.c ≤ maxLen) : Calls Tryz.prog 30 #[m.val] w (EncOut w (encE m.msg)) :=
  encode_core w m m.h m.qA m.qc m.qp m.s0 m.s1 m.s2 rfl hm hi ho hc.1 hc.2

end Go.Proofs.YtjkjhpaeckkpjaaGreat

namespace Go.Proofs.YtjkjhpaeckkpjaaGreat
open Go.RowKit

def nilSec : Sec := ⟨none, 0, []⟩
/-- A message that is a head alone. -/
def bareV (h : Hd) : MV := ⟨h, none, 0, [], nilSec, nilSec, nilSec⟩
theorem bare_at (h : Hd) (w : World) (H : Nat) : MAt w H (bareV h) :=
  ⟨⟨Row.empty _ _ _, fun _ h => absurd h (List.not_mem_nil)⟩, ⟨Row.empty _ _ _, fun _ h => absurd h (List.not_mem_nil)⟩, ⟨Row.empty _ _ _, fun _ h => absurd h (List.not_mem_nil)⟩, ⟨Row.empty _ _ _, fun _ h => absurd h (List.not_mem_nil)⟩⟩
theorem bare_sec (h : Hd) (i : Nat) : (bareV h).sec i = nilSec := by unfold MV.sec; split; rfl; split <;> rfl
theorem bare_in {h : Hd} (hh : HIn h) : MIn (bareV h) :=
  ⟨hh, fun _ h => absurd h (List.not_mem_nil), fun i p hp => by rw [bare_sec] at hp; exact absurd hp (List.not_mem_nil), Nat.zero_le _, fun i => by rw [bare_sec]; exact Nat.zero_le _⟩
theorem bare_own (h : Hd) (w : World) : OwnedM w (bareV h) := fun i p hp => by rw [bare_sec] at hp; exact absurd hp (List.not_mem_nil)
theorem bare_encode (h : Hd) (hh : HIn h) (w : World) : Calls Tryz.prog 30 #[valM h (.slice none 0 0) (.slice none 0 0) (.slice none 0 0) (.slice none 0 0)] w (EncOut w (encE (bareV h).msg)) :=
  encode_any w (bareV h) (bare_at h w _) (bare_in hh) (bare_own h w) ⟨Nat.le_refl _, Nat.zero_le _⟩

end Go.Proofs.YtjkjhpaeckkpjaaGreat

namespace Go.Proofs.YtjkjhpaeckkpjaaGreat
open Go.RowKit

/-- A reader's cells: the bytes, the place, the message. -/
def rdCells (vb : Value) (p : Nat) (h : Hd) (vq v0 v1 v2 : Value) : List Value :=
  [vb, .int .i64 p, .int .i64 h.id, .bool h.resp, .int .i64 h.op, .bool h.aa, .bool h.tc, .bool h.rd, .bool h.ra, .int .i64 h.rc, vq, v0, v1, v2, .bool h.edns, .int .i64 h.size]
abbrev RBlk (w : World) (g : Nat) (vb : Value) (p : Nat) (h : Hd) (vq : Value) (v : Nat → Value) : Prop := Whole w g 57 (rdCells vb p h vq (v 0) (v 1) (v 2))
/-- Only the block g may have turned. -/
abbrev GrewM (g : Nat) (w w' : World) : Prop := Grew (fun j => j = g) w w'
section
variable {w : World} {g p : Nat} {vb vq : Value} {h : Hd} {v : Nat → Value}
theorem RBlk.setP (hb : RBlk w g vb p h vq v) (y : Nat) : RBlk (w.setCell ⟨g, 1, none⟩ (.int .i64 y)) g vb y h vq v := hb.set_ 1 _
theorem RBlk.setId (hb : RBlk w g vb p h vq v) (y : Int) : RBlk (w.setCell ⟨g, 2, none⟩ (.int .i64 y)) g vb p { h with id := y } vq v := hb.set_ 2 _
theorem RBlk.setOp (hb : RBlk w g vb p h vq v) (y : Int) : RBlk (w.setCell ⟨g, 4, none⟩ (.int .i64 y)) g vb p { h with op := y } vq v := hb.set_ 4 _
theorem RBlk.setRc (hb : RBlk w g vb p h vq v) (y : Int) : RBlk (w.setCell ⟨g, 9, none⟩ (.int .i64 y)) g vb p { h with rc := y } vq v := hb.set_ 9 _
end

set_option maxHeartbeats 400000 in
theorem mnum_any (w : World) (g : Nat) (A : Option Addr) (m cap H : Nat) (b : List UInt8) (p : Nat) (h : Hd) (vq : Value) (v : Nat → Value) (hb : RBlk w g (.slice A m cap) p h vq v) (hbl : b.length = m) (hrow : Row w H A (b.map bc)) (hm : m ≤ cap) (hc : cap ≤ maxLen) (hp : p + 2 ≤ m) :
    Calls Tryz.prog 35 #[.pointer (some ⟨g, 0, none⟩)] w (fun e w' => e = .returned (.int .i64 (numAt b p 2)) ∧ RBlk w' g (.slice A m cap) (p + 2) h vq v ∧ GrewM g w w') := by
  have HG := Lib.hid (fun (k : Nat) => (show Calls Tryz.prog 54 #[.slice A m cap, .int .i64 (p : Int), .int .i64 2] (w.drewN k) (fun e w' => e = .returned (.tuple #[.int .i64 ((numAt b p 2 : Nat) : Int), .int .i64 (0 : Int)]) ∧ ∃ j, w' = w.drewN j) from
    (get_any A m cap H b (p : Int) 2 (w.drewN k) hbl (hrow.drewN k) (Nat.le_trans hm hc) hm).mono fun e w' ⟨he, hw⟩ => ⟨by rw [he, show getL b (p : Int) 2 = ((numAt b p 2 : Int), (0 : Int)) from getL_num (b := b) (p := p) (s := 2) (by omega) (by omega) (by omega)], k, hw.symm⟩))
  unfold maxLen at hc
  have c0 : w.cell? ⟨g, 0, none⟩ = some (.slice A m cap) := hb.cell 0
  have c1 : w.cell? ⟨g, 1, none⟩ = some (.int .i64 p) := hb.cell 1
  have f1 : w.frozen? ⟨g, 1, none⟩ = false := hb.frozen 1
  have HR := Lib.hid hb
  clear hb hbl hrow
  generalize numAt b p 2 = z at *
  go_enter Tryz.func35, Tryz.ntmps35
  go_wp2
  go_quiet ((go_at_call 54; exact HG.out _))
  go_wp2
  go_ret
  refine ⟨rfl, ?_, ?_⟩
  · have hr := HR.out.setP (p + 2)
    rw [show ((p + 2 : Nat) : Int) = (p : Int) + 2 by omega] at hr
    exact hr
  · exact Grew.setCell (F := fun j => j = g) ((Grew.refl _ w).drewN _) (a := ⟨g, 1, none⟩) (.inl rfl) _

def setF (h : Hd) (j : Nat) (b : Bool) : Hd := if j = 0 then { h with resp := b } else if j = 1 then { h with aa := b } else if j = 2 then { h with tc := b } else if j = 3 then { h with rd := b } else { h with ra := b }
/-- What is known of the flags, j of the five bits. -/
def flagsTo (h : Hd) (f : Nat) : Nat → Hd
  | 0 => { h with op := ((f / 2048 % 16 : Nat) : Int), rc := ((f % 16 : Nat) : Int) }
  | j + 1 => setF (flagsTo h f j) j (decide (f / 2 ^ posF j % 2 = 1))
theorem flagsTo_five (h : Hd) (f : Nat) : flagsTo h f 5 = { hdOf 0 f h.edns h.size with id := h.id } := rfl
theorem RBlk.setFlag {w : World} {g p : Nat} {vb vq : Value} {h : Hd} {v : Nat → Value} (hb : RBlk w g vb p h vq v) {j : Nat} (hj : j < 5) (y : Bool) : RBlk (w.setCell ⟨g, 2 + fldF j, none⟩ (.bool y)) g vb p (setF h j y) vq v := by
  rcases (show j = 0 ∨ j = 1 ∨ j = 2 ∨ j = 3 ∨ j = 4 by omega) with rfl | rfl | rfl | rfl | rfl
  · exact hb.set_ 3 _
  · exact hb.set_ 5 _
  · exact hb.set_ 6 _
  · exact hb.set_ 7 _
  · exact hb.set_ 8 _
theorem RBlk.flag {w : World} {g p : Nat} {vb vq : Value} {h : Hd} {v : Nat → Value} (hb : RBlk w g vb p h vq v) {j : Nat} (hj : j < 5) : w.cell? ⟨g, 2 + fldF j, none⟩ = some (.bool (onF h j)) ∧ w.frozen? ⟨g, 2 + fldF j, none⟩ = false := by
  refine ⟨?_, hb.frozen _⟩
  rcases (show j = 0 ∨ j = 1 ∨ j = 2 ∨ j = 3 ∨ j = 4 by omega) with rfl | rfl | rfl | rfl | rfl
  · exact hb.cell 3
  · exact hb.cell 5
  · exact hb.cell 6
  · exact hb.cell 7
  · exact hb.cell 8
theorem and_mask (x k : Nat) (hx : x < 65536) : bits .and .i64 (x : Int) ((2 ^ k - 1 : Nat) : Int) = ((x % 2 ^ k : Nat) : Int) ∨ 16 < k := by
  by_cases hk : 16 < k
  · exact .inr hk
  have hk2 : 2 ^ k ≤ 2 ^ 16 := Nat.pow_le_pow_right (by omega) (by omega)
  have hm : x % 2 ^ k ≤ x := Nat.mod_le _ _
  have h1 : (BitVec.ofInt 64 (x : Int)).toNat = x := by
    rw [BitVec.ofInt_natCast, BitVec.toNat_ofNat]; exact Nat.mod_eq_of_lt (by omega)
  have h2 : (BitVec.ofInt 64 ((2 ^ k - 1 : Nat) : Int)).toNat = 2 ^ k - 1 := by
    rw [BitVec.ofInt_natCast, BitVec.toNat_ofNat]; exact Nat.mod_eq_of_lt (by omega)
  left
  show IntKind.i64.wrap ((BitVec.ofInt 64 (x : Int) &&& BitVec.ofInt 64 ((2 ^ k - 1 : Nat) : Int)).toNat : Int) = _
  rw [BitVec.toNat_and, h1, h2, Nat.and_two_pow_sub_one_eq_mod, IntKind.wrap_i64]
  omega
theorem and_15 {x : Nat} (hx : x < 65536) : bits .and .i64 (x : Int) 15 = ((x % 16 : Nat) : Int) := by
  rcases and_mask x 4 hx with h | h
  · exact h
  · omega
theorem and_1 {x : Nat} (hx : x < 65536) : bits .and .i64 (x : Int) 1 = ((x % 2 : Nat) : Int) := by
  rcases and_mask x 1 hx with h | h
  · exact h
  · omega
theorem shift_bit {f j : Nat} (hf : f < 65536) (_ : j < 5) : bits .and .i64 ((f : Int) / 2 ^ posF j) 1 = (f : Int) / 2 ^ posF j % 2 ∧ ((f : Int) / 2 ^ posF j % 2 == 1) = decide (f / 2 ^ posF j % 2 = 1) := by
  have h0 : f / 2 ^ posF j ≤ f := Nat.div_le_self _ _
  have h1 := and_1 (x := f / 2 ^ posF j) (by omega)
  have e : ((f / 2 ^ posF j : Nat) : Int) = (f : Int) / 2 ^ posF j := by push_cast; rfl
  rw [e] at h1
  refine ⟨by rw [h1, ← e]; push_cast; rfl, ?_⟩
  rw [← e]
  generalize f / 2 ^ posF j = z
  by_cases hz : z % 2 = 1
  · rw [decide_eq_true hz, beq_iff_eq]; omega
  · rw [decide_eq_false hz, beq_eq_false_iff_ne]; omega
/-- The five pointers. -/
structure FPtrs (w : World) (g b : Nat) : Prop where
  bb : Whole w b 93 [.pointer (some ⟨g, 3, none⟩), .int .i64 15, .pointer (some ⟨g, 5, none⟩), .int .i64 10, .pointer (some ⟨g, 6, none⟩), .int .i64 9, .pointer (some ⟨g, 7, none⟩), .int .i64 8, .pointer (some ⟨g, 8, none⟩), .int .i64 7]
theorem FPtrs.ptr {w : World} {g b : Nat} (hx : FPtrs w g b) {j : Nat} (hj : j < 5) : w.cell? ⟨b, j * 2, none⟩ = some (.pointer (some ⟨g, 2 + fldF j, none⟩)) ∧ w.cell? ⟨b, j * 2 + 1, none⟩ = some (.int .i64 (posF j)) := by
  rcases (show j = 0 ∨ j = 1 ∨ j = 2 ∨ j = 3 ∨ j = 4 by omega) with rfl | rfl | rfl | rfl | rfl
  · exact ⟨hx.bb.cell 0, hx.bb.cell 1⟩
  · exact ⟨hx.bb.cell 2, hx.bb.cell 3⟩
  · exact ⟨hx.bb.cell 4, hx.bb.cell 5⟩
  · exact ⟨hx.bb.cell 6, hx.bb.cell 7⟩
  · exact ⟨hx.bb.cell 8, hx.bb.cell 9⟩
def FlagRel (W : World) (g b : Nat) (vb : Value) (p : Nat) (h : Hd) (f : Nat) (vq : Value) (v : Nat → Value) (i : Value) (wr : World) : Prop :=
  ∃ j : Nat, j ≤ 5 ∧ i = .int .i64 j ∧ RBlk wr g vb p (flagsTo h f j) vq v ∧ FPtrs wr g b ∧ GrewM g W wr

set_option maxRecDepth 20000 in
set_option maxHeartbeats 4000000 in
theorem setFlags_any (w : World) (g : Nat) (vb : Value) (p : Nat) (h : Hd) (vq : Value) (v : Nat → Value) (f : Nat) (hb : RBlk w g vb p h vq v) (hf : f < 65536) :
    Calls Tryz.prog 36 #[.pointer (some ⟨g, 0, none⟩), .int .i64 f] w (fun e w' => e = .returned (.tuple #[]) ∧ RBlk w' g vb p { hdOf 0 f h.edns h.size with id := h.id } vq v ∧ GrewM g w w') := by
  have c4 : w.cell? ⟨g, 4, none⟩ = some (.int .i64 h.op) := hb.cell 4
  have f4 : w.frozen? ⟨g, 4, none⟩ = false := hb.frozen 4
  have c9 : w.cell? ⟨g, 9, none⟩ = some (.int .i64 h.rc) := hb.cell 9
  have f9 : w.frozen? ⟨g, 9, none⟩ = false := hb.frozen 9
  have HR := Lib.hid hb
  have HF := Lib.hid (flagsTo_five h f)
  have h15 := and_15 hf
  have hsh : bits .and .i64 ((f : Int) / 2048) 15 = (f : Int) / 2048 % 16 := by
    have h1 := and_15 (x := f / 2048) (by omega)
    push_cast at h1
    exact h1
  have HS := Lib.hid (fun j (hj : j < 5) => shift_bit (j := j) hf hj)
  clear hb
  go_enter Tryz.func36, Tryz.ntmps36
  go_wp2_with fail
  refine (flags_at _ g 2).mono ?_
  rintro e w2 ⟨b, rfl, hbb, hwb, hb2⟩
  have HX2 := Lib.hid (FPtrs.mk hwb)
  have hz2 := hb2.size
  have hr2 : RBlk w2 g vb p (flagsTo h f 0) vq v := by
    have h1 := ((HR.out.setOp ((f : Int) / 2048 % 16)).setRc ((f : Int) % 16)).below hb2 (by simpa using HR.out.lt)
    have e1 : ({ { h with op := (f : Int) / 2048 % 16 } with rc := (f : Int) % 16 } : Hd) = flagsTo h f 0 := by unfold flagsTo; push_cast; rfl
    rw [e1] at h1
    exact h1
  have HR2 := Lib.hid hr2
  have HG2 := Lib.hid (show GrewM g w w2 from (((Grew.refl _ w).setCell (F := fun j => j = g) (a := ⟨g, 4, none⟩) (.inl rfl) _).setCell (a := ⟨g, 9, none⟩) (.inl rfl) _).then_below hb2)
  have hgb : g < b := by
    have h1 := HR.out.lt
    have h2 : (((w.setCell ⟨g, 4, none⟩ (.int .i64 ((f : Int) / 2048 % 16))).setCell ⟨g, 9, none⟩ (.int .i64 ((f : Int) % 16))).heap.size) = w.heap.size := by simp
    omega
  clear hr2 hb2 hwb hbb hz2 c4 f4 c9 f9
  go_wp2
  go_loopw [24] (FlagRel w2 g b vb p h f vq v) (fun i _ => 5 - (intOf i).toNat)
  case atStart => exact ⟨0, by omega, rfl, HR2.out, HX2.out, Grew.refl _ _⟩
  case round =>
    obtain ⟨j, hj, rfl, hr, hx, hg⟩ := hrel
    have HRR := Lib.hid hr
    have HX := Lib.hid hx
    have HG := Lib.hid hg
    clear hr hx hg
    by_cases hlt : j < 5
    · obtain ⟨p0, p1⟩ := HX.out.ptr hlt
      have hba : Below wr.heap.size wr (wr.alloc (.cells #[.pointer (some ⟨g, 2 + fldF j, none⟩), .int .i64 (posF j)] 93)) := (Below.refl _ _).alloc (Nat.le_refl _) _
      have hr3 : RBlk (wr.alloc (.cells #[.pointer (some ⟨g, 2 + fldF j, none⟩), .int .i64 (posF j)] 93)) g vb p (flagsTo h f j) vq v := Whole.below HRR.out hba (Whole.lt HRR.out)
      obtain ⟨q2, q3⟩ := RBlk.flag hr3 hlt
      have HFL := Lib.hid (show FlagRel w2 g b vb p h f vq v (.int .i64 ((j + 1 : Nat) : Int)) (((wr.setCell ⟨g, 2 + fldF j, none⟩ (.bool (decide (f / 2 ^ posF j % 2 = 1)))).alloc (.cells #[.pointer (some ⟨g, 2 + fldF j, none⟩), .int .i64 (posF j)] 93)).drew) from
        ⟨j + 1, by omega, rfl, (Whole.alloc (RBlk.setFlag HRR.out hlt _) _), ⟨(Whole.alloc (HX.out.bb.keep (Below.heap_setCell _ ⟨g, 2 + fldF j, none⟩ _ b (by show b ≠ g; omega))) _)⟩, ((HG.out.setCell (a := ⟨g, 2 + fldF j, none⟩) (.inl rfl) _).alloc _).drewN 1⟩)
      have hgw := HRR.out.lt
      obtain ⟨hs1, hs2⟩ := HS.out j hlt
      have hpos : posF j < 16 := by unfold posF; split <;> omega
      clear hba hr3
      go_wp2
      go_region
      go_wp2
      have ej : ((j + 1 : Nat) : Int) = (j : Int) + 1 := by omega
      have hfl := HFL.out
      rw [ej] at hfl
      exact ⟨hfl, by simp [intOf]; omega⟩
    · obtain rfl : j = 5 := by omega
      go_wp2
      go_end0
      have hr := HRR.out
      rw [HF.out] at hr
      exact ⟨rfl, hr, HG2.out.trans HG.out fun j hj => .inl hj⟩

end Go.Proofs.YtjkjhpaeckkpjaaGreat

namespace Go.Proofs.YtjkjhpaeckkpjaaGreat
open Go.RowKit

theorem int_info : (Tryz.prog.info? 3).map (fun i => (i.zero, i.size, i.bytes)) = some (some (.int .i64 0), 1, 8) := by kernel_rfl
/-- A number as a cell. -/
def iv (n : Nat) : Value := .int .i64 (n : Int)
theorem iv_one (l : List Nat) : ∀ u ∈ l.map iv, u.oneCell' = true := by
  intro u hu
  obtain ⟨x, _, rfl⟩ := List.mem_map.1 hu
  rfl

structure Two (w : World) (base g1 : Nat) (vB1 vM1 : Value) (B1 : List UInt8) (R1 : Rs) (g2 : Nat) (vB2 vM2 : Value) (B2 : List UInt8) (R2 : Rs) (va : Value) (ats : List Nat) : Prop where
  w1 : Wr w base g1 vB1 vM1 B1 R1
  w2 : Wr w base g2 vB2 vM2 B2 R2
  row : w.ownsRow base 3 1 va ats.length (ats.map iv)
  d12 : ∀ j, ownF g1 vB1 vM1 j → ¬ ownF g2 vB2 vM2 j
  d1 : ∀ j, ownF g1 vB1 vM1 j → va.ownBlock ≠ some j
  d2 : ∀ j, ownF g2 vB2 vM2 j → va.ownBlock ≠ some j

theorem own_capM {w : World} {base : Nat} {t : TypeId} {A : Option Addr} {n c : Nat} {xs : List Value} {size : Nat} (h : w.ownsRow base t size (.slice A n c) n xs) : c ≤ maxLen := by
  obtain ⟨A', c', e, _, h2⟩ := own_form h
  injection e with _ _ e
  omega
theorem ownF_new {g j : Nat} (h : ownF g (.slice none 0 0) (.map none) j) : j = g := by
  rcases h with h | h | h
  · exact h
  · simp [Value.ownBlock] at h
  · cases h
section
variable {w w' : World} {base g1 : Nat} {vB1 vM1 : Value} {B1 : List UInt8} {R1 : Rs} {g2 : Nat} {vB2 vM2 : Value} {B2 : List UInt8} {R2 : Rs} {va : Value} {ats : List Nat}
theorem Two.swap (h : Two w base g1 vB1 vM1 B1 R1 g2 vB2 vM2 B2 R2 va ats) : Two w base g2 vB2 vM2 B2 R2 g1 vB1 vM1 B1 R1 va ats :=
  ⟨h.w2, h.w1, h.row, fun j h2 h1 => h.d12 j h1 h2, h.d2, h.d1⟩
theorem Two.below (h : Two w base g1 vB1 vM1 B1 R1 g2 vB2 vM2 B2 R2 va ats) (hb : Below w.heap.size w w') : Two w' base g1 vB1 vM1 B1 R1 g2 vB2 vM2 B2 R2 va ats :=
  ⟨h.w1.below hb, h.w2.below hb, own_keep h.row fun j hj => hb.block j (h.row.lt j hj).2, h.d12, h.d1, h.d2⟩
theorem Penned.below {B : List UInt8} {R : Rs} {g : Nat} {vB vM : Value} {B0 : List UInt8} {R0 : Rs} (hw : Wr w base g vB vM B0 R0) (h : Penned base w g vB vM B R w') : Below base w w' := by
  obtain ⟨_, _, _, hg, _⟩ := h
  exact hg.below (fun j hj => (hw.own hj).1) hw.size
theorem Two.pen (h : Two w base g1 vB1 vM1 B1 R1 g2 vB2 vM2 B2 R2 va ats) {B : List UInt8} {R : Rs} (hp : Penned base w g1 vB1 vM1 B R w') : ∃ vB vM, Two w' base g1 vB vM B R g2 vB2 vM2 B2 R2 va ats := by
  obtain ⟨vB, vM, h1, hg, hf⟩ := hp
  refine ⟨vB, vM, h1, h.w2.grew hg fun j hj h1 => h.d12 j h1 hj, own_grew h.row hg fun j hj h1 => h.d1 j h1 hj, fun j hj h2 => ?_, fun j hj => ?_, h.d2⟩
  · rcases hf j hj with h3 | h3
    · exact h.d12 j h3 h2
    · have := (h.w2.own h2).2; omega
  · rcases hf j hj with h3 | h3
    · exact h.d1 j h3
    · intro e
      have := (h.row.lt j e).2; omega
/-- The row has grown. -/
theorem Two.grown (h : Two w base g1 vB1 vM1 B1 R1 g2 vB2 vM2 B2 R2 va ats) {va' : Value} {a : Nat} (ho : w'.ownsRow base 3 1 va' (ats.length + 1) (ats.map iv ++ [iv a])) (hg : w.grownBy w' va.ownBlock) (hat : va'.ownBlock = va.ownBlock ∨ va'.ownBlock = some w.heap.size) :
    Two w' base g1 vB1 vM1 B1 R1 g2 vB2 vM2 B2 R2 va' (ats ++ [a]) := by
  have hG : Grew (fun j => va.ownBlock = some j) w w' := Grew.of_grown hg fun j hj => .inl hj
  have hn : ∀ j, va'.ownBlock = some j → va.ownBlock = some j ∨ w.heap.size ≤ j := fun j hj => by
    rcases hat with e | e
    · exact .inl (by rw [← e]; exact hj)
    · rw [e] at hj; injection hj with hj; exact .inr (by omega)
  refine ⟨h.w1.grew hG fun j hj e => h.d1 j hj e, h.w2.grew hG fun j hj e => h.d2 j hj e, by simpa using ho, h.d12, fun j hj e => ?_, fun j hj e => ?_⟩
  · rcases hn j e with h3 | h3
    · exact h.d1 j hj h3
    · have := (h.w1.own hj).2; omega
  · rcases hn j e with h3 | h3
    · exact h.d2 j hj h3
    · have := (h.w2.own hj).2; omega
end

set_option maxHeartbeats 400000 in
/-- The document's Sound of any name, however large. -/
theorem ref_sound_free (A : Option Addr) (c H : Nat) (n : List (List UInt8)) (w : World) (hA : Row w H A (n.map sv)) (_ : n.length ≤ maxLen) (hs : ∀ k (h : k < n.length), (n[k]).length ≤ maxLen) :
    Calls Tryz.prog 12 #[.slice A n.length c] w (Told w (.bool (soundN n))) := by
  have HA := Lib.hid hA
  have HS := Lib.hid hs
  clear hA hs
  by_cases h127 : n.length ≤ 127
  · have d1 : decide (127 < (n.length : Int)) = false := by simp; omega
    go_enter Tryz.func12, Tryz.ntmps12
    go_wp2
    go_loop [3] (EveryRel n) (fun i => n.length - (intOf i).toNat)
    case atStart => exact ⟨0, Nat.zero_le _, rfl, by simp⟩
    case round =>
      obtain ⟨k, hk, rfl, hall⟩ := hrel
      have HK := Lib.hid hall
      clear hall
      by_cases hlt : k < n.length
      · obtain ⟨b, off, rfl, _, hc⟩ := HA.out.name_at hlt
        have hle := HS.out k hlt
        unfold maxLen at hle
        by_cases e1 : 1 ≤ (n[k]).length
        · have d2 : decide (((n[k]).length : Int) < 1) = false := by simp; omega
          by_cases e2 : (n[k]).length ≤ 63
          · have d3 : decide (63 < ((n[k]).length : Int)) = false := by simp; omega
            have HF := Lib.hid (all_snoc fitL hlt HK.out (by simp [fitL]; omega))
            go_wp2
            exact ⟨⟨k + 1, by omega, by go_num, HF.out⟩, by simp [intOf]; omega⟩
          · have d3 : decide (63 < ((n[k]).length : Int)) = true := by simp; omega
            have HF := Lib.hid (all_not fitL hlt (by simp [fitL]; omega))
            go_wp2
            go_ret
            exact ⟨ret_bool (by simp [soundN, HF.out]), rfl⟩
        · have d2 : decide (((n[k]).length : Int) < 1) = true := by simp; omega
          have HF := Lib.hid (all_not fitL hlt (by simp [fitL]; omega))
          go_wp2
          go_ret
          exact ⟨ret_bool (by simp [soundN, HF.out]), rfl⟩
      · obtain rfl : k = n.length := by omega
        have hall := HK.out
        rw [List.take_length] at hall
        have hsz : szN n ≤ n.length * (63 + 1) + 1 := szN_le 63 n fun l hl => (fitL_iff.1 (List.all_eq_true.1 hall l hl)).2
        have HZ := Lib.hid (ref_size_any A n.length c H n w rfl HA.out (by unfold maxLen; omega))
        have HALL := Lib.hid hall
        clear hall
        go_wp2_with fail
        refine HZ.out.mono ?_
        rintro e w' ⟨rfl, rfl⟩
        go_wp2
        go_ret
        refine ⟨ret_bool ?_, rfl⟩
        simp [soundN, HALL.out]
        omega
  · have HF := Lib.hid (soundN_long (n := n) (by omega))
    have d1 : decide (127 < (n.length : Int)) = true := by simp; omega
    go_enter Tryz.func12, Tryz.ntmps12
    go_wp2
    go_ret
    exact ⟨ret_bool HF.out.symm, rfl⟩

/-- The names ns stand in B at the places ats, one behind the other, and B ends with the last one. -/
def Laid (ns : List (List (List UInt8))) (B : List UInt8) (ats : List Nat) : Prop :=
  ats.length = ns.length ∧ ∀ i, i < ns.length → AtN B (ats.getD i 0) (ats.getD i 0) (ns.getD i []) ((ats ++ [B.length]).getD (i + 1) 0)
theorem Laid.nil (B : List UInt8) : Laid [] B [] := ⟨rfl, fun _ h => absurd h (Nat.not_lt_zero _)⟩
theorem getD_left {α : Type} {l m : List α} {i : Nat} {d : α} (h : i < l.length) : (l ++ m).getD i d = l.getD i d := by
  simp [List.getD, List.getElem?_append_left h]
theorem getD_at {α : Type} {l : List α} {a d : α} {i : Nat} (h : i = l.length) : (l ++ [a]).getD i d = a := by
  subst h
  simp [List.getD]
theorem Laid.snoc {ns : List (List (List UInt8))} {B B' S : List UInt8} {ats : List Nat} {n : List (List UInt8)} (h : Laid ns B ats) (hB : B' = B ++ S) (hn : AtN B' B.length B.length n B'.length) : Laid (ns ++ [n]) B' (ats ++ [B.length]) := by
  obtain ⟨h1, h2⟩ := h
  refine ⟨by simp [h1], fun i hi => ?_⟩
  simp only [List.length_append, List.length_cons, List.length_nil] at hi
  by_cases hlt : i < ns.length
  · rw [getD_left (by omega), getD_left hlt, getD_left (by simp; omega)]
    rw [hB]
    exact (h2 i hlt).more S
  · obtain rfl : i = ns.length := by omega
    rw [getD_at h1.symm, getD_at rfl, getD_at (by simp [h1])]
    exact hn

/-- append onto a row of the call's own, as one step of a region that draws. -/
theorem step_append_any {P : Program} {w : World} {ops : Array Oper} {o : Oper} {a : Act} {K : Act → World → Prop} {Q : Exit → Act → World → Prop} {E : Prop} (hgd : o.guard = none) (s x : Operand) (t : TypeId)
    (ho : o.op = .call { callee := .builtin .append, args := #[s, x], argTypes := #[t, t] })
    (base : Nat) (e : TypeId) (i : TypeInfo) (z : Value) (size bytes : Nat) (ht : P.underlying t = some (.slice e)) (hi : P.info? e = some i) (hz : i.zero = some z)
    (hsize : i.size = size) (hby : i.bytes = bytes) (hzs : z.cells.size = size) (hsz : 0 < size)
    (v : Value) (n : Nat) (xs : List Value) (hs : a.eval s = v) (hown : w.ownsRow base e size v n xs)
    (A : Option Addr) (m c H : Nat) (news : List Value) (hx : a.eval x = .slice A m c) (hl : news.length = m * size) (hr : Row w H A news) (h1 : ∀ u ∈ news, u.oneCell' = true)
    (h63 : n + m ≤ maxLen) (hbytes : (n + m) * bytes ≤ 140737488355328) (hbase : base ≤ w.heap.size)
    (h : ∀ v' w', w'.ownsRow base e size v' (n + m) (xs ++ news) → w.grownBy w' v.ownBlock → K (a.put o.dst v') w') : if Region.wanted o (yielded ops a.tmps) = true then Oper.wp P o a w K Q else E := by
  have hw : Region.wanted o (yielded ops a.tmps) = true := by simp [Region.wanted, hgd]
  rw [if_pos hw]
  obtain ⟨v', w', hrun, h2, h3⟩ := append_row_run (P := P) w base t o.type e i z size bytes ht hi hz hsize hby hzs hsz v n xs hown A m c H news hl hr h1 h63 hbytes hbase
  unfold Oper.wp
  simp [execOp, ho, resolve, invoke, builtin, hs, hx, hrun, Result.andThen]
  exact h v' w' h2 h3

end Go.Proofs.YtjkjhpaeckkpjaaGreat

namespace Go.Proofs.YtjkjhpaeckkpjaaGreat
open Go.RowKit

theorem q_info : (Tryz.prog.info? 46).map (fun i => (i.zero, i.size, i.bytes)) = some (some (.agg #[.slice none 0 0, .int .i64 0, .int .i64 0]), 3, 40) := by kernel_rfl
/-- A row of questions of the call's own. -/
structure QRow (w : World) (B : Nat) (v : Value) (qs : List (QV × Qt)) : Prop where
  row : w.ownsRow B 46 3 v qs.length (qs.flatMap cellsQ)
  each : ∀ q ∈ qs, w.ownsRow B 9 1 (.slice q.1.1 q.2.name.length q.1.2) q.2.name.length (q.2.name.map sv)
section
variable {w w' : World} {B : Nat} {v v' : Value} {qs : List (QV × Qt)}
theorem QRow.keep (h : QRow w B v qs) (hk : ∀ j, B ≤ j → j < w.heap.size → w'.heap[j]? = w.heap[j]?) : QRow w' B v qs :=
  ⟨own_keep h.row fun j hj => hk j (h.row.lt j hj).1 (h.row.lt j hj).2, fun q hq => own_keep (h.each q hq) fun j hj => hk j ((h.each q hq).lt j hj).1 ((h.each q hq).lt j hj).2⟩
theorem QRow.nil (w : World) (B : Nat) : QRow w B (.slice none 0 0) [] := ⟨World.ownsRow_nil _ _ _ _, fun _ h => absurd h (List.not_mem_nil)⟩
theorem QRow.snoc (h : QRow w B v qs) {y : QV} {q : Qt} (hy : w.ownsRow B 9 1 (.slice y.1 q.name.length y.2) q.name.length (q.name.map sv)) (ho : w'.ownsRow B 46 3 v' (qs.length + 1) (qs.flatMap cellsQ ++ cellsQ (y, q)))
    (hg : w.grownBy w' v.ownBlock) : QRow w' B v' (qs ++ [(y, q)]) := by
  have hk : ∀ {u : Value} {n : Nat} {ys : List Value}, w.ownsRow B 9 1 u n ys → ∀ j, u.ownBlock = some j → w'.heap[j]? = w.heap[j]? := fun hs j hj =>
    hg.block j (hs.lt j hj).2 (Ne.symm (own_apartR hs h.row (by decide) hj))
  refine ⟨by rw [List.length_append, List.flatMap_append]; simpa using ho, fun p hp => ?_⟩
  rcases List.mem_append.1 hp with hp | hp
  · exact own_keep (h.each p hp) (hk (h.each p hp))
  · rw [List.mem_singleton.1 hp]
    exact own_keep hy (hk hy)
end
/-- Only the block g, and those from B on, may have turned. -/
abbrev GrewB (g B : Nat) (w w' : World) : Prop := Grew (fun j => j = g ∨ B ≤ j) w w'
theorem GrewM.wide {g B : Nat} {w w' : World} (h : GrewM g w w') : GrewB g B w w' := Grew.mono h fun _ hj => .inl (.inl hj)
theorem GrewB.step {g B : Nat} {w w' w'' : World} (h : GrewB g B w w') (k : GrewB g B w' w'') : GrewB g B w w'' := Grew.trans h k fun _ hj => .inl hj
theorem row_under {w w' : World} {g B : Nat} {A : Option Addr} {xs : List Value} (h : Row w g A xs) (hg : GrewB g B w w') (hgw : g ≤ w.heap.size) (hgB : g < B) : Row w' g A xs := h.grew hg hgw fun j hj => by rcases hj with h1 | h1 <;> omega
def NameRel1 (w : World) (n : List (List UInt8)) (x k : Nat) (s3 s4 s5 : Value) (wx : World) : Prop :=
  ∃ A c, s3 = .slice A n.length c ∧ s4 = .int .i64 x ∧ s5 = .int .i64 k ∧ wx.ownsRow w.heap.size 9 1 (.slice A n.length c) n.length (n.map sv) ∧ Below w.heap.size w wx
def QOut (w : World) (g B : Nat) (vb : Value) (h : Hd) (v : Nat → Value) (qs : List (QV × Qt)) (r : Qt × Nat × Nat) (e : Ending) (w' : World) : Prop :=
  GrewB g B w w' ∧ e = .returned (.int .i64 r.2.2) ∧ (r.2.2 = 0 → ∃ vq y, RBlk w' g vb r.2.1 h vq v ∧ QRow w' B vq (qs ++ [(y, r.1)]))

set_option maxRecDepth 20000 in
set_option maxHeartbeats 8000000 in
theorem mquestion_any (w : World) (g : Nat) (A : Option Addr) (m cap : Nat) (b : List UInt8) (p : Nat) (h : Hd) (vq : Value) (v : Nat → Value) (qs : List (QV × Qt)) (B : Nat) (hb : RBlk w g (.slice A m cap) p h vq v) (hbl : b.length = m) (hrow : Row w g A (b.map bc)) (hm : m ≤ cap) (hc : cap ≤ maxLen)
    (hm2 : m ≤ 70000) (hp : p ≤ m) (hq : QRow w B vq qs) (hgB : g < B) (hB : B ≤ w.heap.size) (hn : qs.length ≤ 70000) :
    Calls Tryz.prog 56 #[.pointer (some ⟨g, 0, none⟩)] w (QOut w g B (.slice A m cap) h v qs (getQ b p)) := by
  obtain ⟨i0, hi0, hz0, hz1, hz2⟩ := info_parts q_info
  have hgl : g < w.heap.size := Whole.lt hb
  have hle := getW_le b (p : Int)
  have HG := Lib.hid (fun W (hW : Below w.heap.size w W) => wget_any A m cap b (p : Int) W hbl ((hrow.below (hW.mono (by omega))).mono (Nat.le_trans (by omega) hW.size)) hc hm (by omega))
  have c0 : w.cell? ⟨g, 0, none⟩ = some (.slice A m cap) := Whole.cell hb 0
  have c1 : w.cell? ⟨g, 1, none⟩ = some (.int .i64 p) := Whole.cell hb 1
  have HR := Lib.hid hb
  have HRW := Lib.hid hrow
  have HBL := Lib.hid hbl
  have HQ := Lib.hid hq
  obtain ⟨n, x, k, hGW⟩ : ∃ n x k, getW b (p : Int) = (n, x, k) := ⟨_, _, _, rfl⟩
  rw [hGW] at HG hle
  have HF := Lib.hid (show getQ b p = if k ≠ 0 then (⟨[], 0, 0⟩, 0, k) else if b.length < x + 4 then (⟨[], 0, 0⟩, 0, 3) else if numAt b x 2 = 0 then (⟨[], 0, 0⟩, 0, 2) else (⟨n, numAt b x 2, numAt b (x + 2) 2⟩, x + 4, 0) by unfold getQ; rw [hGW])
  dsimp only at hle
  have hxm : x ≤ m := by omega
  have hc' := hc
  clear hb hrow hbl hq hGW hle
  unfold maxLen at hc'
  go_enter Tryz.func56, Tryz.ntmps56
  go_upto_region 1 with fail
  go_cut [3, 4, 5] from 7 to 55 (fun s3 s4 s5 wx => NameRel1 w n x k s3 s4 s5 wx)
  case first =>
    go_region_with (
      go_at_call 78
      refine (HG.out _ (by first | exact Below.refl _ _ | exact (Below.refl _ _).drew)).mono ?_
      rintro e w1 ⟨v1, rfl, hown1, hb1⟩
      obtain ⟨A1, c1', rfl, _, _⟩ := own_form hown1
      have HO1 := Lib.hid (show w1.ownsRow w.heap.size 9 1 (.slice A1 n.length c1') n.length (n.map sv) from hown1)
      have HB1 := Lib.hid (show Below w.heap.size w w1 from (Below.refl _ _).drew.trans hb1)
      clear hown1 hb1)
    all_goals
      go_wp2
      go_meet
      exact ⟨A1, c1', rfl, rfl, rfl, HO1.out, HB1.out⟩
  case rest =>
    obtain ⟨A1, c1', rfl, rfl, rfl, hown1, hb1⟩ := hcut
    have HO1 := Lib.hid hown1
    have HB1 := Lib.hid hb1
    clear hown1 hb1 HG c0 c1
    by_cases hk : k = 0
    case neg =>
      have b1 : ((k : Int) != 0) = true := by rw [bne_iff_ne]; omega
      have HF2 := Lib.hid (show getQ b p = (⟨[], 0, 0⟩, 0, k) by rw [HF.out, if_pos hk])
      have hk0 : k ≠ 0 := hk
      clear HF hk
      go_wp2
      go_ret
      rw [HF2.out]
      exact ⟨Grew.all HB1.out, rfl, fun h => absurd h hk0⟩
    have b1 : ((k : Int) != 0) = false := by rw [hk]; rfl
    have HF3 := Lib.hid (HF.out.trans (if_neg (by omega)))
    clear HF hk
    have HRC := Lib.hid (show RBlk wc g (.slice A m cap) p h vq v from Whole.below HR.out HB1.out hgl)
    have hgc : g < wc.heap.size := Whole.lt HRC.out
    have c0 : wc.cell? ⟨g, 0, none⟩ = some (.slice A m cap) := Whole.cell HRC.out 0
    have c1 : wc.cell? ⟨g, 1, none⟩ = some (.int .i64 p) := Whole.cell HRC.out 1
    have f1 : wc.frozen? ⟨g, 1, none⟩ = false := Whole.frozen HRC.out 1
    by_cases hsh : m < x + 4
    case pos =>
      have d1 : decide ((m : Int) - (x : Int) < 4) = true := by simp; omega
      have HF2 := Lib.hid (show getQ b p = (⟨[], 0, 0⟩, 0, 3) by rw [HF3.out, if_pos (by rw [HBL.out]; exact hsh)])
      clear HF3
      go_wp2
      go_ret
      rw [HF2.out]
      exact ⟨Grew.all HB1.out, rfl, fun h => absurd h (by decide)⟩
    have d1 : decide ((m : Int) - (x : Int) < 4) = false := by simp; omega
    have HF4 := Lib.hid (HF3.out.trans (if_neg (by rw [HBL.out]; exact hsh)))
    clear HF3
    have HR2 := Lib.hid (RBlk.setP HRC.out x)
    have HG2 := Lib.hid (show GrewM g w (wc.setCell ⟨g, 1, none⟩ (.int .i64 x)) from Grew.setCell (F := fun j => j = g) (Grew.all HB1.out) (a := ⟨g, 1, none⟩) (.inl rfl) _)
    have HO2 := Lib.hid (own_keep (w' := wc.setCell ⟨g, 1, none⟩ (.int .i64 x)) HO1.out fun j hj => Below.heap_setCell _ ⟨g, 1, none⟩ _ j (by have := (HO1.out.lt j hj).1; show j ≠ g; omega))
    have HRW2 := Lib.hid (row_under HRW.out (GrewM.wide HG2.out) (by omega) hgB)
    have HM2 := Lib.hid (mnum_any (wc.setCell ⟨g, 1, none⟩ (.int .i64 x)) g A m cap g b x h vq v HR2.out HBL.out HRW2.out hm hc (by omega))
    go_wp2_with fail
    refine HM2.out.mono ?_
    rintro e w3 ⟨rfl, hr3, hg3⟩
    have HR3 := Lib.hid hr3
    have HG3 := Lib.hid (HG2.out.trans hg3 fun _ hj => .inl hj)
    have HO3 := Lib.hid (own_grew HO2.out hg3 fun j hj e => by have := (HO2.out.lt j hj).1; omega)
    have HRW3 := Lib.hid (row_under HRW.out (GrewM.wide HG3.out) (by omega) hgB)
    have HM3 := Lib.hid (mnum_any w3 g A m cap g b (x + 2) h vq v hr3 HBL.out HRW3.out hm hc (by omega))
    clear hr3 hg3 HM2 HR2 HG2 HO2 HRW2
    go_wp2_with fail
    refine HM3.out.mono ?_
    rintro e w4 ⟨rfl, hr4, hg4⟩
    have HR4 := Lib.hid hr4
    have HG4 := Lib.hid (HG3.out.trans hg4 fun _ hj => .inl hj)
    have HO4 := Lib.hid (own_grew HO3.out hg4 fun j hj e => by have := (HO3.out.lt j hj).1; omega)
    clear hr4 hg4 HM3 HR3 HG3 HO3 HRW3
    have HF5 := Lib.hid (show getQ b p = if numAt b x 2 = 0 then (⟨[], 0, 0⟩, 0, 2) else (⟨n, numAt b x 2, numAt b (x + 2) 2⟩, x + 4, 0) from HF4.out)
    have y0 := numAt_lt b x 2
    have y1 := numAt_lt b (x + 2) 2
    clear HF4
    revert y0 y1 HF5
    generalize numAt b x 2 = z0
    generalize numAt b (x + 2) 2 = z1
    intro HF5 y0 y1
    have hg4 : g < w4.heap.size := Whole.lt HR4.out
    by_cases hz : z0 = 0
    · have t : ((z0 : Int) == 0) = true := by rw [beq_iff_eq]; omega
      have HF6 := Lib.hid (show getQ b p = (⟨[], 0, 0⟩, 0, 2) by rw [HF5.out, if_pos hz])
      have HG5 := Lib.hid (HG4.out.alloc (.cells #[.slice A1 n.length c1', .int .i64 (z0 : Int), .int .i64 (z1 : Int)] 46))
      clear HF5 hz
      go_wp2
      go_ret
      rw [HF6.out]
      exact ⟨GrewM.wide HG5.out, rfl, fun h => absurd h (by decide)⟩
    have t : ((z0 : Int) == 0) = false := by rw [beq_eq_false_iff_ne]; omega
    have HF6 := Lib.hid (show getQ b p = (⟨n, z0, z1⟩, x + 4, 0) by rw [HF5.out, if_neg hz])
    clear HF5 hz
    obtain ⟨w5, hw5⟩ : ∃ w5, w5 = ((w4.alloc (.cells #[.slice A1 n.length c1', .int .i64 (z0 : Int), .int .i64 (z1 : Int)] 46)).alloc (.cells #[.slice A1 n.length c1', .int .i64 (z0 : Int), .int .i64 (z1 : Int)] 46)).drew := ⟨_, rfl⟩
    have hb5 : Below w4.heap.size w4 w5 := by rw [hw5]; exact (((Below.refl _ _).alloc (Nat.le_refl _) _).alloc (by simp) _).drew
    have hz5 : w5.heap.size = w4.heap.size + 2 := by rw [hw5]; simp
    have HG5 := Lib.hid (HG4.out.then_below hb5)
    have hr5 : RBlk w5 g (.slice A m cap) (x + 2 + 2) h vq v := Whole.below HR4.out hb5 hg4
    have HR5 := Lib.hid hr5
    have HQ5 := Lib.hid (show QRow w5 B vq qs from HQ.out.keep fun j hj hjw => HG5.out.block j hjw (by omega))
    obtain ⟨Aq, cq, hvq, _, _⟩ := own_form HQ5.out.row
    subst hvq
    have HRB := Lib.hid (show Row w5 (w5.heap.size) (some ⟨w4.heap.size + 1, 0, none⟩) (cellsQ ((A1, c1'), ⟨n, z0, z1⟩)) from by
      rw [hw5]
      have h1 := Row.made (w4.alloc (.cells #[.slice A1 n.length c1', .int .i64 (z0 : Int), .int .i64 (z1 : Int)] 46)) #[.slice A1 n.length c1', .int .i64 (z0 : Int), .int .i64 (z1 : Int)] 46
      rw [show (w4.alloc (.cells #[.slice A1 n.length c1', .int .i64 (z0 : Int), .int .i64 (z1 : Int)] 46)).heap.size = w4.heap.size + 1 by simp] at h1
      exact (h1.drewN 1).mono (by simp))
    have HO5 := Lib.hid (own_mono (own_keep HO4.out fun j hj => hb5.block j (HO4.out.lt j hj).2) hB)
    have c10 : w4.cell? ⟨g, 10, none⟩ = some (.slice Aq qs.length cq) := Whole.cell HR4.out 10
    have hzq : qs.length + 1 ≤ maxLen := by unfold maxLen; omega
    have HQA := Lib.hid HQ5.out.row
    have HNW := Lib.hid (own_not_whole HQ5.out.row hr5 (by decide))
    have hBz : B ≤ w5.heap.size := by have := HG4.out.size; omega
    subst hw5
    go_wp2
    go_region_law (first
      | (refine step_append_any rfl (.tmp 49) (.tmp 51) _ rfl B 46 i0 _ 3 40 Tryz.underlying22 hi0 hz0 hz1 hz2 rfl (by omega) (.slice Aq qs.length cq) qs.length _ rfl HQA.out
           (some ⟨w4.heap.size + 1, 0, none⟩) 1 1 _ (cellsQ ((A1, c1'), ⟨n, z0, z1⟩)) rfl rfl HRB.out (cellsQ_one1 _) hzq (by omega) hBz ?_
         intro v7 w7 hown7 hg7
         obtain ⟨A7, c7, rfl, _, _⟩ := own_form hown7
         have hr7 := Whole.grown HR5.out hg7 (Ne.symm HNW.out)
         have c10' : w7.cell? ⟨g, 10, none⟩ = some (.slice Aq qs.length cq) := hr7.cell 10
         have f10' : w7.frozen? ⟨g, 10, none⟩ = false := hr7.frozen 10
         have HR7 := Lib.hid hr7
         have HO7 := Lib.hid hown7
         have HG7 := Lib.hid hg7
         clear hown7 hg7 hr7))
    all_goals
      have HQ7 := Lib.hid (HQ5.out.snoc (y := (A1, c1')) (q := ⟨n, z0, z1⟩) HO5.out HO7.out HG7.out)
      have HG8 := Lib.hid (((GrewM.wide HG5.out).grown HG7.out fun j hj => .inl (.inr (HQA.out.lt j hj).1)).setCell (a := ⟨g, 10, none⟩) (.inl (.inl rfl)) (.slice A7 (qs.length + 1) c7))
      have HR8 := Lib.hid (show RBlk (w7.setCell ⟨g, 10, none⟩ (.slice A7 (qs.length + 1) c7)) g (.slice A m cap) (x + 4) h (.slice A7 (qs.length + 1) c7) v from Whole.set_ HR7.out 10 _)
      have HQ8 := Lib.hid (show QRow (w7.setCell ⟨g, 10, none⟩ (.slice A7 (qs.length + 1) c7)) B (.slice A7 (qs.length + 1) c7) (qs ++ [((A1, c1'), ⟨n, z0, z1⟩)]) from HQ7.out.keep fun j hj _ => Below.heap_setCell _ ⟨g, 10, none⟩ _ j (by show j ≠ g; omega))
      clear c10' f10'
      go_wp2
      go_ret
      rw [HF6.out]
      exact ⟨HG8.out, rfl, fun _ => ⟨_, (A1, c1'), HR8.out, HQ8.out⟩⟩

theorem getQ_le {b : List UInt8} {p : Nat} (_ : (getQ b p).2.2 = 0) : (getQ b p).2.1 ≤ b.length := by
  unfold getQ at *
  split
  · exact Nat.zero_le _
  · split
    · exact Nat.zero_le _
    · split
      · exact Nat.zero_le _
      · dsimp only
        omega
/-- What questions leaves. -/
def QsOut (w : World) (g B : Nat) (vb : Value) (h : Hd) (v : Nat → Value) (m : Nat) (r : Except Nat (List Qt × Nat)) (e : Ending) (w' : World) : Prop :=
  GrewB g B w w' ∧ match r with
  | .error k => e = .returned (.int .i64 k) ∧ k ≠ 0
  | .ok q => e = .returned (.int .i64 0) ∧ ∃ vq qp, RBlk w' g vb q.2 h vq v ∧ QRow w' B vq qp ∧ qsts qp = q.1 ∧ q.2 ≤ m
def QsRel (w : World) (g B : Nat) (vb : Value) (h : Hd) (v : Nat → Value) (b : List UInt8) (cnt p0 : Nat) (i : Value) (wr : World) : Prop :=
  ∃ k : Nat, k ≤ cnt ∧ i = .int .i64 k ∧ ∃ vq qp p, RBlk wr g vb p h vq v ∧ QRow wr B vq qp ∧ getQs b cnt p0 [] = getQs b (cnt - k) p (qsts qp) ∧ GrewB g B w wr ∧ p ≤ b.length ∧ qp.length = k

set_option maxRecDepth 20000 in
set_option maxHeartbeats 4000000 in
theorem mquestions_any (w : World) (g : Nat) (A : Option Addr) (m cap : Nat) (b : List UInt8) (p cnt : Nat) (h : Hd) (v : Nat → Value) (hb : RBlk w g (.slice A m cap) p h (.slice none 0 0) v) (hbl : b.length = m) (hrow : Row w g A (b.map bc)) (hm : m ≤ cap) (hc : cap ≤ maxLen)
    (hm2 : m ≤ 70000) (hp : p ≤ m) (hn : cnt ≤ 60000) :
    Calls Tryz.prog 37 #[.pointer (some ⟨g, 0, none⟩), .int .i64 cnt] w (QsOut w g w.heap.size (.slice A m cap) h v m (getQs b cnt p [])) := by
  have hgl : g < w.heap.size := Whole.lt hb
  have HR := Lib.hid hb
  have HRW := Lib.hid hrow
  have HBL := Lib.hid hbl
  clear hb hrow hbl
  go_enter Tryz.func37, Tryz.ntmps37
  go_wp2
  go_loopw [7] (QsRel w g w.heap.size (.slice A m cap) h v b cnt p) (fun i _ => cnt - (intOf i).toNat)
  case atStart => exact ⟨0, Nat.zero_le _, rfl, _, [], p, HR.out, QRow.nil _ _, by simp [qsts], Grew.refl _ _, by rw [HBL.out]; exact hp, rfl⟩
  case round =>
    obtain ⟨k, hk, rfl, vq, qp, q, hr, hq, he, hg, hql, hqk⟩ := hrel
    have HR1 := Lib.hid hr
    have HQ1 := Lib.hid hq
    have HE1 := Lib.hid he
    have HG1 := Lib.hid hg
    have hqm : q ≤ m := by rw [← HBL.out]; exact hql
    have hqn : qp.length ≤ 70000 := by omega
    have hsz := hg.size
    have HQK := Lib.hid hqk
    have HQL := Lib.hid (fun h0 : (getQ b q).2.2 = 0 => getQ_le h0)
    clear hr hq he hg hqk hql
    by_cases hlt : k < cnt
    · have HC := Lib.hid (mquestion_any wr g A m cap b q h vq v qp w.heap.size HR1.out HBL.out (row_under HRW.out HG1.out (by omega) hgl) hm hc hm2 hqm HQ1.out hgl hsz hqn)
      have HST := Lib.hid (show getQs b (cnt - k) q (qsts qp) = if (getQ b q).2.2 ≠ 0 then .error (getQ b q).2.2 else getQs b (cnt - (k + 1)) (getQ b q).2.1 (qsts qp ++ [(getQ b q).1]) by
        rw [show cnt - k = (cnt - (k + 1)) + 1 by omega]
        rfl)
      revert HC HST HQL
      generalize getQ b q = r
      obtain ⟨qt, x, kk⟩ := r
      intro HQL HC HST
      dsimp only at *
      go_wp2_with fail
      refine HC.out.mono ?_
      rintro e w1 ⟨hg1, rfl, hok⟩
      have HG2 := Lib.hid (HG1.out.step hg1)
      have HOK := Lib.hid hok
      clear hg1 hok HC
      by_cases hkk : kk = 0
      · have t : ((kk : Int) != 0) = false := by rw [hkk]; rfl
        obtain ⟨vq2, y, hr2, hq2⟩ := HOK.out hkk
        have HREL := Lib.hid (show QsRel w g w.heap.size (.slice A m cap) h v b cnt p (.int .i64 ((k + 1 : Nat) : Int)) w1 from
          ⟨k + 1, by omega, rfl, vq2, qp ++ [(y, qt)], x, hr2, hq2, by rw [HE1.out, HST.out, if_neg (by omega), qsts_append]; rfl, HG2.out, HQL.out hkk, by rw [List.length_append, HQK.out]; rfl⟩)
        clear hr2 hq2 hkk
        go_wp2
        have hrl := HREL.out
        rw [show ((k + 1 : Nat) : Int) = (k : Int) + 1 by omega] at hrl
        exact ⟨hrl, by simp [intOf]; omega⟩
      · have t : ((kk : Int) != 0) = true := by rw [bne_iff_ne]; omega
        have HRES := Lib.hid (show getQs b cnt p [] = .error kk by rw [HE1.out, HST.out, if_pos hkk])
        have hk0 := hkk
        clear hkk
        go_wp2
        go_ret
        rw [HRES.out]
        exact ⟨HG2.out, rfl, hk0⟩
    · obtain rfl : k = cnt := by omega
      have HRES := Lib.hid (show getQs b k p [] = .ok (qsts qp, q) by rw [HE1.out, Nat.sub_self]; rfl)
      go_wp2
      go_ret
      rw [HRES.out]
      exact ⟨HG1.out, rfl, vq, qp, HR1.out, HQ1.out, rfl, hqm⟩

end Go.Proofs.YtjkjhpaeckkpjaaGreat

namespace Go.Proofs.YtjkjhpaeckkpjaaGreat
open Go.RowKit

/-- A row of records of the call's own. -/
structure RecRow (w : World) (B : Nat) (v : Value) (ps : List (RV × Rt)) : Prop where
  row : w.ownsRow B 42 9 v ps.length (ps.flatMap cellsR)
  each : ∀ p ∈ ps, OwnR w B p.1 p.2
section
variable {w w' : World} {B : Nat} {v v' : Value} {ps : List (RV × Rt)}
theorem RecRow.keep (h : RecRow w B v ps) (hk : ∀ j, B ≤ j → j < w.heap.size → w'.heap[j]? = w.heap[j]?) : RecRow w' B v ps :=
  ⟨own_keep h.row fun j hj => hk j (h.row.lt j hj).1 (h.row.lt j hj).2, fun q hq => (h.each q hq).keepB hk⟩
theorem RecRow.nil (w : World) (B : Nat) : RecRow w B (.slice none 0 0) [] := ⟨World.ownsRow_nil _ _ _ _, fun _ h => absurd h (List.not_mem_nil)⟩
theorem RecRow.snoc (h : RecRow w B v ps) {y : RV} {r : Rt} (hy : OwnR w B y r) (ho : w'.ownsRow B 42 9 v' (ps.length + 1) (ps.flatMap cellsR ++ cellsR (y, r))) (hg : w.grownBy w' v.ownBlock) : RecRow w' B v' (ps ++ [(y, r)]) := by
  refine ⟨by rw [List.length_append, List.flatMap_append]; simpa using ho, fun q hq => ?_⟩
  rcases List.mem_append.1 hq with hq | hq
  · exact (h.each q hq).grown h.row hg
  · rw [List.mem_singleton.1 hq]
    exact hy.grown h.row hg
end
def upd (v : Nat → Value) (i : Nat) (u : Value) : Nat → Value := fun j => if j = i then u else v j
section
variable {w : World} {g p : Nat} {vb vq : Value} {h : Hd} {v : Nat → Value}
theorem RBlk.setSec (hb : RBlk w g vb p h vq v) {i : Nat} (hi : i < 3) (u : Value) : RBlk (w.setCell ⟨g, 11 + i, none⟩ u) g vb p h vq (upd v i u) := by
  rcases (show i = 0 ∨ i = 1 ∨ i = 2 by omega) with rfl | rfl | rfl
  · exact hb.set_ 11 _
  · exact hb.set_ 12 _
  · exact hb.set_ 13 _
theorem RBlk.sec (hb : RBlk w g vb p h vq v) {i : Nat} (hi : i < 3) : w.cell? ⟨g, 11 + i, none⟩ = some (v i) := by
  rcases (show i = 0 ∨ i = 1 ∨ i = 2 by omega) with rfl | rfl | rfl
  · exact hb.cell 11
  · exact hb.cell 12
  · exact hb.cell 13
theorem RBlk.setE (hb : RBlk w g vb p h vq v) (s : Int) : RBlk ((w.setCell ⟨g, 14, none⟩ (.bool true)).setCell ⟨g, 15, none⟩ (.int .i64 s)) g vb p { h with edns := true, size := s } vq v := (hb.set_ 14 _).set_ 15 _
theorem upd_same (v : Nat → Value) (i : Nat) : upd v i (v i) = v := by
  funext j
  unfold upd
  split
  · rename_i h; rw [h]
  · rfl
end
theorem getRR_le {b : List UInt8} {p : Nat} (_ : (getRR b (p : Int)).2.2 = 0) : (getRR b (p : Int)).2.1 ≤ b.length := by
  unfold getRR at *
  split
  · exact Nat.zero_le _
  · split
    · exact Nat.zero_le _
    · split
      · exact Nat.zero_le _
      · split
        · exact Nat.zero_le _
        · rename_i h1 h2 h3 h4
          dsimp only
          have h5 : (getD b (((getW b (p : Int)).2.1 : Int) + 10) (numAt b ((getW b (p : Int)).2.1 + 8) 2) (numAt b (getW b (p : Int)).2.1 2)).2 = 0 := by omega
          unfold getD at h5
          split at h5
          · cases h5
          · split at h5
            · cases h5
            · omega
theorem run_neq_ptr_same {P : Program} (w : World) {tp te : TypeId} {j : TypeInfo} (a : Addr) (hp : P.underlying tp = some (.pointer te)) (hte : P.info? te = some j) :
    (binOp .neq tp (.pointer (some a)) (.pointer (some a))).run P w = .ok (.bool false) w := by
  have h : ∀ d : Nat, (Op.equalIn (d + 1) tp (.pointer (some a)) (.pointer (some a))).run P w = .ok true w := fun d => by
    simp [Op.equalIn, run_underlying hp, sizeOf, typeInfo, hte, run_sameAddr_same]
  simp only [binOp]
  simp [Op.equal, Op.maxDepth, h 9999]
theorem run_neq_ptr_other {P : Program} (w : World) {tp te : TypeId} {j : TypeInfo} {a b : Addr} {ca cb : Array Value} {ta tb : TypeId} (hp : P.underlying tp = some (.pointer te)) (hte : P.info? te = some j) (hsz : j.size ≠ 0)
    (hne : a ≠ b) (ha : w.heap[a.block]? = some (.cells ca ta (0, 0))) (hb : w.heap[b.block]? = some (.cells cb tb (0, 0))) :
    (binOp .neq tp (.pointer (some a)) (.pointer (some b))).run P w = .ok (.bool true) w := by
  have h : ∀ d : Nat, (Op.equalIn (d + 1) tp (.pointer (some a)) (.pointer (some b))).run P w = .ok false w := fun d => by
    simp [Op.equalIn, run_underlying hp, sizeOf, typeInfo, hte, hsz, run_sameAddr_other w hne ha hb]
  simp only [binOp]
  simp [Op.equal, Op.maxDepth, h 9999]
theorem rrs_info : (Tryz.prog.info? 23).map (fun i => i.size) = some 1 := by kernel_rfl
/-- What edns leaves. -/
def EdOut (w : World) (g : Nat) (vb vq : Value) (p : Nat) (h : Hd) (v : Nat → Value) (i : Nat) (r : Rt) (e : Ending) (w' : World) : Prop :=
  GrewM g w w' ∧ ((decide (i = 2) = false ∨ h.edns = true ∨ r.name ≠ []) → e = .returned (.int .i64 2)) ∧ (¬ (decide (i = 2) = false ∨ h.edns = true ∨ r.name ≠ []) → e = .returned (.int .i64 0) ∧ RBlk w' g vb p { h with edns := true, size := r.cls } vq v)

set_option maxRecDepth 20000 in
set_option maxHeartbeats 8000000 in
theorem medns_any (w : World) (g : Nat) (vb vq : Value) (p : Nat) (h : Hd) (v : Nat → Value) (i : Nat) (x : RV) (r : Rt) (hb : RBlk w g vb p h vq v) (hi : i < 3) :
    Calls Tryz.prog 80 #[.pointer (some ⟨g, 0, none⟩), .pointer (some ⟨g, 11 + i, none⟩), x.val r] w (EdOut w g vb vq p h v i r) := by
  have hgl : g < w.heap.size := Whole.lt hb
  obtain ⟨W, hW⟩ : ∃ W, W = w.alloc (.cells #[.slice x.A r.name.length x.c, .int .i64 r.kind, .int .i64 r.cls, .int .i64 r.ttl, .slice x.d.Ab r.data.bytes.length x.d.cb, .slice x.d.Ah r.data.host.length x.d.ch, .slice x.d.Am r.data.mail.length x.d.cm, .slice x.d.An r.data.nums.length x.d.cn, .slice x.d.At r.data.texts.length x.d.ct] 42) := ⟨_, rfl⟩
  have hB : Below w.heap.size w W := by rw [hW]; exact (Below.refl _ _).alloc (Nat.le_refl _) _
  have hr : RBlk W g vb p h vq v := Whole.below hb hB hgl
  obtain ⟨j0, hj0, hj1⟩ := Option.map_eq_some_iff.1 rrs_info
  have hcmp : ∀ k, (binOp .neq 66 (.pointer (some ⟨g, 11 + k, none⟩)) (.pointer (some ⟨g, 13, none⟩))).run Tryz.prog W = .ok (.bool (decide (k ≠ 2))) W := fun k => by
    by_cases hk : k = 2
    · subst hk
      exact run_neq_ptr_same W _ Tryz.underlying66 hj0
    · rw [decide_eq_true hk]
      exact run_neq_ptr_other W Tryz.underlying66 hj0 (by omega) (fun e => hk (by injection e; omega)) hr hr
  have c14 : W.cell? ⟨g, 14, none⟩ = some (.bool h.edns) := Whole.cell hr 14
  have c15 : W.cell? ⟨g, 15, none⟩ = some (.int .i64 h.size) := Whole.cell hr 15
  have f14 : W.frozen? ⟨g, 14, none⟩ = false := Whole.frozen hr 14
  have f15 : W.frozen? ⟨g, 15, none⟩ = false := Whole.frozen hr 15
  have HR := Lib.hid hb
  have HB := Lib.hid (show GrewM g w W from Grew.all hB)
  have d14 : w.cell? ⟨g, 14, none⟩ = some (.bool h.edns) := Whole.cell hb 14
  have d15 : w.cell? ⟨g, 15, none⟩ = some (.int .i64 h.size) := Whole.cell hb 15
  have e14 : w.frozen? ⟨g, 14, none⟩ = false := Whole.frozen hb 14
  have e15 : w.frozen? ⟨g, 15, none⟩ = false := Whole.frozen hb 15
  have HCMP := Lib.hid hcmp
  clear hB hr hb hcmp hj0 hj1
  by_cases h2 : i = 2
  case neg =>
    have t : ((11 + i : Nat) != 13) = true := by rw [bne_iff_ne]; omega
    have t2 : ¬ (11 + i = 13) := by omega
    have HD := Lib.hid (decide_eq_false h2)
    subst hW
    clear h2
    rcases (show i = 0 ∨ i = 1 ∨ i = 2 by omega) with rfl | rfl | rfl
    · have hc0 := HCMP.out 0
      go_enter Tryz.func80, Tryz.ntmps80
      go_wp2
      go_ret
      exact ⟨HB.out, fun _ => rfl, fun h => absurd (.inl HD.out) h⟩
    · have hc1 := HCMP.out 1
      go_enter Tryz.func80, Tryz.ntmps80
      go_wp2
      go_ret
      exact ⟨HB.out, fun _ => rfl, fun h => absurd (.inl HD.out) h⟩
    · omega
  subst h2
  have hc2 := HCMP.out 2
  cases hed : h.edns with
  | true =>
    rw [hed] at c14 d14
    subst hW
    go_enter Tryz.func80, Tryz.ntmps80
    go_wp2
    go_ret
    exact ⟨HB.out, fun _ => rfl, fun h0 => absurd (.inr (.inl hed)) h0⟩
  | false =>
    rw [hed] at c14 d14
    cases hnm : r.name with
    | cons l n =>
      have hlen : 0 < r.name.length := by rw [hnm]; simp
      have d1 : decide ((0 : Int) < (r.name.length : Int)) = true := by rw [decide_eq_true_eq]; omega
      have HN := Lib.hid (show r.name ≠ [] by rw [hnm]; exact List.cons_ne_nil _ _)
      have HED := Lib.hid hed
      clear hnm hed
      subst hW
      go_enter Tryz.func80, Tryz.ntmps80
      go_wp2
      go_ret
      exact ⟨HB.out, fun _ => rfl, fun h0 => absurd (.inr (.inr HN.out)) h0⟩
    | nil =>
      have HED := Lib.hid hed
      have HNM := Lib.hid hnm
      have hlen : ¬ 0 < r.name.length := by rw [hnm]; exact Nat.lt_irrefl 0
      have HG := Lib.hid (show GrewM g w ((((w.setCell ⟨g, 14, none⟩ (.bool true)).setCell ⟨g, 15, none⟩ (.int .i64 r.cls)).alloc (.cells #[.slice x.A r.name.length x.c, .int .i64 r.kind, .int .i64 r.cls, .int .i64 r.ttl, .slice x.d.Ab r.data.bytes.length x.d.cb, .slice x.d.Ah r.data.host.length x.d.ch, .slice x.d.Am r.data.mail.length x.d.cm, .slice x.d.An r.data.nums.length x.d.cn, .slice x.d.At r.data.texts.length x.d.ct] 42)).drew) from ((((Grew.refl _ w).setCell (F := fun j => j = g) (a := ⟨g, 14, none⟩) (.inl rfl) _).setCell (a := ⟨g, 15, none⟩) (.inl rfl) _).alloc _).drewN 1)
      have HE := Lib.hid (show RBlk ((((w.setCell ⟨g, 14, none⟩ (.bool true)).setCell ⟨g, 15, none⟩ (.int .i64 r.cls)).alloc (.cells #[.slice x.A r.name.length x.c, .int .i64 r.kind, .int .i64 r.cls, .int .i64 r.ttl, .slice x.d.Ab r.data.bytes.length x.d.cb, .slice x.d.Ah r.data.host.length x.d.ch, .slice x.d.Am r.data.mail.length x.d.cm, .slice x.d.An r.data.nums.length x.d.cn, .slice x.d.At r.data.texts.length x.d.ct] 42)).drew) g vb p { h with edns := true, size := r.cls } vq v from Whole.alloc (RBlk.setE HR.out r.cls) _)
      have c2 : W.cell? ⟨w.heap.size, 2, none⟩ = some (.int .i64 r.cls) := by rw [hW]; exact Whole.cell (L := cellsR (x, r)) (Whole.made w _ _) 2
      clear hed hnm
      subst hW
      go_enter Tryz.func80, Tryz.ntmps80
      go_wp2
      go_region
      all_goals
        go_wp2
        go_ret
        exact ⟨HG.out, fun h0 => absurd h0 (by rw [HED.out, HNM.out]; simp), fun _ => ⟨rfl, HE.out⟩⟩

/-- Behind the first statement of record: the record in a block, the place, the error. -/
def GotRel1 (w : World) (r : Rt × Nat × Nat) (s5 s6 s7 : Value) (wx : World) : Prop :=
  ∃ gr x, s5 = .pointer (some ⟨gr, 0, none⟩) ∧ s6 = .int .i64 r.2.1 ∧ s7 = .int .i64 r.2.2 ∧ w.heap.size ≤ gr ∧ Whole wx gr 42 (cellsR (x, r.1)) ∧ OwnR wx w.heap.size x r.1 ∧ Below w.heap.size w wx
theorem stored9 {w w1 : World} {x : RV} {r : Rt} (x0 k : Nat) (hw : Whole w1 w.heap.size 42 [.slice none 0 0, .int .i64 0, .int .i64 0, .int .i64 0, .slice none 0 0, .slice none 0 0, .slice none 0 0, .slice none 0 0, .slice none 0 0]) (ho : OwnR w1 (w.heap.size + 1) x r) (hb : Below w.heap.size w w1) :
    GotRel1 w (r, x0, k) (.pointer (some ⟨w.heap.size, 0, none⟩)) (.int .i64 x0) (.int .i64 k) (((((((((w1.setCell ⟨w.heap.size, 0, none⟩ (.slice x.A r.name.length x.c)).setCell ⟨w.heap.size, 1, none⟩ (.int .i64 r.kind)).setCell ⟨w.heap.size, 2, none⟩ (.int .i64 r.cls)).setCell ⟨w.heap.size, 3, none⟩ (.int .i64 r.ttl)).setCell ⟨w.heap.size, 4, none⟩ (.slice x.d.Ab r.data.bytes.length x.d.cb)).setCell ⟨w.heap.size, 5, none⟩ (.slice x.d.Ah r.data.host.length x.d.ch)).setCell ⟨w.heap.size, 6, none⟩ (.slice x.d.Am r.data.mail.length x.d.cm)).setCell ⟨w.heap.size, 7, none⟩ (.slice x.d.An r.data.nums.length x.d.cn)).setCell ⟨w.heap.size, 8, none⟩ (.slice x.d.At r.data.texts.length x.d.ct)) := by
  have hs (W : World) (i : Nat) (u : Value) : Below w.heap.size W (W.setCell ⟨w.heap.size, i, none⟩ u) := (Below.refl _ W).setCell (p := ⟨w.heap.size, i, none⟩) (Nat.le_refl _) u
  have hh (W : World) (i : Nat) (u : Value) (j : Nat) (hj : j ≠ w.heap.size) : (W.setCell ⟨w.heap.size, i, none⟩ u).heap[j]? = W.heap[j]? := Below.heap_setCell W ⟨w.heap.size, i, none⟩ u j hj
  have ho2 : OwnR (((((((((w1.setCell ⟨w.heap.size, 0, none⟩ (.slice x.A r.name.length x.c)).setCell ⟨w.heap.size, 1, none⟩ (.int .i64 r.kind)).setCell ⟨w.heap.size, 2, none⟩ (.int .i64 r.cls)).setCell ⟨w.heap.size, 3, none⟩ (.int .i64 r.ttl)).setCell ⟨w.heap.size, 4, none⟩ (.slice x.d.Ab r.data.bytes.length x.d.cb)).setCell ⟨w.heap.size, 5, none⟩ (.slice x.d.Ah r.data.host.length x.d.ch)).setCell ⟨w.heap.size, 6, none⟩ (.slice x.d.Am r.data.mail.length x.d.cm)).setCell ⟨w.heap.size, 7, none⟩ (.slice x.d.An r.data.nums.length x.d.cn)).setCell ⟨w.heap.size, 8, none⟩ (.slice x.d.At r.data.texts.length x.d.ct)) (w.heap.size + 1) x r := ho.keepB fun j hj _ => by
    have hjn : j ≠ w.heap.size := by omega
    rw [hh _ _ _ _ hjn, hh _ _ _ _ hjn, hh _ _ _ _ hjn, hh _ _ _ _ hjn, hh _ _ _ _ hjn, hh _ _ _ _ hjn, hh _ _ _ _ hjn, hh _ _ _ _ hjn, hh _ _ _ _ hjn]
  refine ⟨w.heap.size, x, rfl, rfl, rfl, Nat.le_refl _, (((((((((hw.set_ 0 _).set_ 1 _).set_ 2 _).set_ 3 _).set_ 4 _).set_ 5 _).set_ 6 _).set_ 7 _).set_ 8 _), ⟨own_mono ho2.n (by omega), ho2.d.monoB (by omega)⟩, ?_⟩
  exact (((((((((hb.trans (hs _ 0 _)).trans (hs _ 1 _)).trans (hs _ 2 _)).trans (hs _ 3 _)).trans (hs _ 4 _)).trans (hs _ 5 _)).trans (hs _ 6 _)).trans (hs _ 7 _)).trans (hs _ 8 _))
theorem stored1 {w w1 : World} {x : RV} {r : Rt} (x0 k : Nat) (ho : OwnR w1 w.heap.size x r) (hb : Below w.heap.size w w1) :
    GotRel1 w (r, x0, k) (.pointer (some ⟨w1.heap.size, 0, none⟩)) (.int .i64 x0) (.int .i64 k) (w1.alloc (.cells #[.slice x.A r.name.length x.c, .int .i64 r.kind, .int .i64 r.cls, .int .i64 r.ttl, .slice x.d.Ab r.data.bytes.length x.d.cb, .slice x.d.Ah r.data.host.length x.d.ch, .slice x.d.Am r.data.mail.length x.d.cm, .slice x.d.An r.data.nums.length x.d.cn, .slice x.d.At r.data.texts.length x.d.ct] 42)) :=
  ⟨w1.heap.size, x, rfl, rfl, rfl, hb.size, Whole.made w1 _ _, ho.keep fun j hj => Below.heap_alloc w1 _ j hj, hb.alloc hb.size _⟩
/-- What record leaves. -/
def ROut (w : World) (g B : Nat) (vb vq : Value) (h : Hd) (v : Nat → Value) (i m : Nat) (r : Except Nat Rd) (e : Ending) (w' : World) : Prop :=
  GrewB g B w w' ∧ match r with
  | .error k => e = .returned (.int .i64 k) ∧ k ≠ 0
  | .ok s => e = .returned (.int .i64 0) ∧ ∃ u ps, RBlk w' g vb s.p { h with edns := s.e, size := s.s } vq (upd v i u) ∧ RecRow w' B u ps ∧ recs ps = s.rs ∧ s.p ≤ m

set_option maxRecDepth 20000 in
set_option maxHeartbeats 8000000 in
theorem mrecord_any (w : World) (g : Nat) (A : Option Addr) (m cap : Nat) (b : List UInt8) (p : Nat) (h : Hd) (vq : Value) (v : Nat → Value) (i : Nat) (ps : List (RV × Rt)) (B : Nat) (hb : RBlk w g (.slice A m cap) p h vq v) (hbl : b.length = m) (hrow : Row w g A (b.map bc)) (hm : m ≤ cap) (hc : cap ≤ maxLen)
    (hm2 : m ≤ 70000) (hp : p ≤ m) (hq : RecRow w B (v i) ps) (hi : i < 3) (hgB : g < B) (hB : B ≤ w.heap.size) (hn : ps.length ≤ 70000) :
    Calls Tryz.prog 57 #[.pointer (some ⟨g, 0, none⟩), .pointer (some ⟨g, 11 + i, none⟩)] w (ROut w g B (.slice A m cap) vq h v i m (stepR b (decide (i = 2)) ⟨recs ps, p, h.edns, h.size⟩)) := by
  obtain ⟨i0, hi0, hz0, hz1, hz2⟩ := info_parts rr_info
  have hgl : g < w.heap.size := Whole.lt hb
  have HG := Lib.hid (fun W (hW : Below w.heap.size w W) => rget_any A m cap b (p : Int) W hbl ((hrow.below (hW.mono (by omega))).mono (Nat.le_trans (by omega) hW.size)) hm hc (by omega))
  have c0 : w.cell? ⟨g, 0, none⟩ = some (.slice A m cap) := Whole.cell hb 0
  have c1 : w.cell? ⟨g, 1, none⟩ = some (.int .i64 p) := Whole.cell hb 1
  have HR := Lib.hid hb
  have HBL := Lib.hid hbl
  have HQ := Lib.hid hq
  have HLE := Lib.hid (fun h0 : (getRR b (p : Int)).2.2 = 0 => (show (getRR b (p : Int)).2.1 ≤ m by rw [← hbl]; exact getRR_le h0))
  have HST := Lib.hid (show stepR b (decide (i = 2)) ⟨recs ps, p, h.edns, h.size⟩ = if (getRR b (p : Int)).2.2 ≠ 0 then .error (getRR b (p : Int)).2.2 else addR (decide (i = 2)) (getRR b (p : Int)).1 (getRR b (p : Int)).2.1 ⟨recs ps, p, h.edns, h.size⟩ from rfl)
  revert HG HLE HST
  generalize getRR b (p : Int) = rr
  generalize stepR b (decide (i = 2)) ⟨recs ps, p, h.edns, h.size⟩ = sr
  obtain ⟨r, x0, k⟩ := rr
  intro HG HLE HST
  dsimp only at HLE HST
  clear hb hrow hbl hq
  go_enter Tryz.func57, Tryz.ntmps57
  go_upto_region 1 with fail
  go_cut [5, 6, 7] from 8 to 42 (fun s5 s6 s7 wx => GotRel1 w (r, x0, k) s5 s6 s7 wx)
  case first =>
    have hbz : Below w.heap.size w ((w.alloc (.cells #[.slice none 0 0, .int .i64 0, .int .i64 0, .int .i64 0, .slice none 0 0, .slice none 0 0, .slice none 0 0, .slice none 0 0, .slice none 0 0] 42)).drew) := ((Below.refl _ _).alloc (Nat.le_refl _) _).drew
    have HBZ := Lib.hid hbz
    have HWZ := Lib.hid (show Whole ((w.alloc (.cells #[.slice none 0 0, .int .i64 0, .int .i64 0, .int .i64 0, .slice none 0 0, .slice none 0 0, .slice none 0 0, .slice none 0 0, .slice none 0 0] 42)).drew) w.heap.size 42 [.slice none 0 0, .int .i64 0, .int .i64 0, .int .i64 0, .slice none 0 0, .slice none 0 0, .slice none 0 0, .slice none 0 0, .slice none 0 0] from Whole.drewN (Whole.made w _ _) 1)
    have hgz : w.heap.size ≤ w.heap.size := Nat.le_refl _
    clear hbz
    go_region_law (first
      | (go_simp
         go_at_call 79
         refine (HG.out ((w.alloc (.cells #[.slice none 0 0, .int .i64 0, .int .i64 0, .int .i64 0, .slice none 0 0, .slice none 0 0, .slice none 0 0, .slice none 0 0, .slice none 0 0] 42)).drew) HBZ.out).mono ?_
         rintro e w1 ⟨x, rfl, hown1, hb1⟩
         have HO1 := Lib.hid (show OwnR w1 (w.heap.size + 1) x r from by simpa using hown1)
         have HB1 := Lib.hid (show Below w.heap.size w w1 from HBZ.out.trans (hb1.mono HBZ.out.size))
         have hw1 := Whole.below HWZ.out hb1 (by simp)
         have HW1 := Lib.hid hw1
         have q0 : w1.cell? ⟨w.heap.size, 0, none⟩ = some (.slice none 0 0) := hw1.cell 0
         have q1 : w1.cell? ⟨w.heap.size, 1, none⟩ = some (.int .i64 0) := hw1.cell 1
         have q2 : w1.cell? ⟨w.heap.size, 2, none⟩ = some (.int .i64 0) := hw1.cell 2
         have q3 : w1.cell? ⟨w.heap.size, 3, none⟩ = some (.int .i64 0) := hw1.cell 3
         have q4 : w1.cell? ⟨w.heap.size, 4, none⟩ = some (.slice none 0 0) := hw1.cell 4
         have q5 : w1.cell? ⟨w.heap.size, 5, none⟩ = some (.slice none 0 0) := hw1.cell 5
         have q6 : w1.cell? ⟨w.heap.size, 6, none⟩ = some (.slice none 0 0) := hw1.cell 6
         have q7 : w1.cell? ⟨w.heap.size, 7, none⟩ = some (.slice none 0 0) := hw1.cell 7
         have q8 : w1.cell? ⟨w.heap.size, 8, none⟩ = some (.slice none 0 0) := hw1.cell 8
         have z0 : w1.frozen? ⟨w.heap.size, 0, none⟩ = false := hw1.frozen 0
         have z1 : w1.frozen? ⟨w.heap.size, 1, none⟩ = false := hw1.frozen 1
         have z2 : w1.frozen? ⟨w.heap.size, 2, none⟩ = false := hw1.frozen 2
         have z3 : w1.frozen? ⟨w.heap.size, 3, none⟩ = false := hw1.frozen 3
         have z4 : w1.frozen? ⟨w.heap.size, 4, none⟩ = false := hw1.frozen 4
         have z5 : w1.frozen? ⟨w.heap.size, 5, none⟩ = false := hw1.frozen 5
         have z6 : w1.frozen? ⟨w.heap.size, 6, none⟩ = false := hw1.frozen 6
         have z7 : w1.frozen? ⟨w.heap.size, 7, none⟩ = false := hw1.frozen 7
         have z8 : w1.frozen? ⟨w.heap.size, 8, none⟩ = false := hw1.frozen 8
         clear hown1 hb1 hw1)
      | (go_simp
         go_at_call 79
         refine (HG.out w.drew ((Below.refl _ _).drew)).mono ?_
         rintro e w1 ⟨x, rfl, hown1, hb1⟩
         have HO1 := Lib.hid (show OwnR w1 w.heap.size x r from hown1)
         have HB1 := Lib.hid (show Below w.heap.size w w1 from (Below.refl _ _).drew.trans hb1)
         clear hown1 hb1))
    all_goals
      first
        | (have hst := stored9 x0 k HW1.out HO1.out HB1.out
           clear q0 q1 q2 q3 q4 q5 q6 q7 q8 z0 z1 z2 z3 z4 z5 z6 z7 z8
           revert hst
           generalize (((((((((w1.setCell ⟨w.heap.size, 0, none⟩ (.slice x.A r.name.length x.c)).setCell ⟨w.heap.size, 1, none⟩ (.int .i64 r.kind)).setCell ⟨w.heap.size, 2, none⟩ (.int .i64 r.cls)).setCell ⟨w.heap.size, 3, none⟩ (.int .i64 r.ttl)).setCell ⟨w.heap.size, 4, none⟩ (.slice x.d.Ab r.data.bytes.length x.d.cb)).setCell ⟨w.heap.size, 5, none⟩ (.slice x.d.Ah r.data.host.length x.d.ch)).setCell ⟨w.heap.size, 6, none⟩ (.slice x.d.Am r.data.mail.length x.d.cm)).setCell ⟨w.heap.size, 7, none⟩ (.slice x.d.An r.data.nums.length x.d.cn)).setCell ⟨w.heap.size, 8, none⟩ (.slice x.d.At r.data.texts.length x.d.ct)) = V
           intro hst
           have HST1 := Lib.hid hst
           clear hst
           go_wp2
           go_meet
           exact HST1.out)
        | (go_wp2
           go_meet
           exact stored1 x0 k HO1.out HB1.out)
  case rest =>
    obtain ⟨gr, x, rfl, rfl, rfl, hgr, hwr, hown, hb1⟩ := hcut
    dsimp only at hwr hown
    have HB1 := Lib.hid hb1
    have HO1 := Lib.hid hown
    have HRC := Lib.hid (show RBlk wc g (.slice A m cap) p h vq v from Whole.below HR.out hb1 hgl)
    have hgc : g < wc.heap.size := Whole.lt HRC.out
    have hne : gr ≠ g := by omega
    have hne2 : g ≠ gr := by omega
    have q0 : wc.cell? ⟨gr, 0, none⟩ = some (.slice x.A r.name.length x.c) := hwr.cell 0
    have q1 : wc.cell? ⟨gr, 1, none⟩ = some (.int .i64 r.kind) := hwr.cell 1
    have q2 : wc.cell? ⟨gr, 2, none⟩ = some (.int .i64 r.cls) := hwr.cell 2
    have q3 : wc.cell? ⟨gr, 3, none⟩ = some (.int .i64 r.ttl) := hwr.cell 3
    have q4 : wc.cell? ⟨gr, 4, none⟩ = some (.slice x.d.Ab r.data.bytes.length x.d.cb) := hwr.cell 4
    have q5 : wc.cell? ⟨gr, 5, none⟩ = some (.slice x.d.Ah r.data.host.length x.d.ch) := hwr.cell 5
    have q6 : wc.cell? ⟨gr, 6, none⟩ = some (.slice x.d.Am r.data.mail.length x.d.cm) := hwr.cell 6
    have q7 : wc.cell? ⟨gr, 7, none⟩ = some (.slice x.d.An r.data.nums.length x.d.cn) := hwr.cell 7
    have q8 : wc.cell? ⟨gr, 8, none⟩ = some (.slice x.d.At r.data.texts.length x.d.ct) := hwr.cell 8
    have d1 : wc.cell? ⟨g, 1, none⟩ = some (.int .i64 p) := Whole.cell HRC.out 1
    have f1 : wc.frozen? ⟨g, 1, none⟩ = false := Whole.frozen HRC.out 1
    clear hb1 hown hwr HG c0 c1
    by_cases hk : k = 0
    case neg =>
      have b1 : ((k : Int) != 0) = true := by rw [bne_iff_ne]; omega
      have HF2 := Lib.hid (show sr = .error k by rw [HST.out, if_pos hk])
      have hk0 : k ≠ 0 := hk
      clear HST hk
      go_wp2
      go_ret
      rw [HF2.out]
      exact ⟨Grew.all HB1.out, rfl, hk0⟩
    have b1 : ((k : Int) != 0) = false := by rw [hk]; rfl
    have HS2 := Lib.hid (show sr = addR (decide (i = 2)) r x0 ⟨recs ps, p, h.edns, h.size⟩ by rw [HST.out, if_neg (by omega)])
    have HXM := Lib.hid (HLE.out hk)
    clear HST HLE hk
    have HR2 := Lib.hid (RBlk.setP HRC.out x0)
    have HG2 := Lib.hid (show GrewM g w (wc.setCell ⟨g, 1, none⟩ (.int .i64 x0)) from Grew.setCell (F := fun j => j = g) (Grew.all HB1.out) (a := ⟨g, 1, none⟩) (.inl rfl) _)
    have HQ2 := Lib.hid (show RecRow (wc.setCell ⟨g, 1, none⟩ (.int .i64 x0)) B (v i) ps from HQ.out.keep fun j hj hjw => HG2.out.block j hjw (by omega))
    have HO2 := Lib.hid (show OwnR (wc.setCell ⟨g, 1, none⟩ (.int .i64 x0)) B x r from by
      have h1 : OwnR (wc.setCell ⟨g, 1, none⟩ (.int .i64 x0)) w.heap.size x r := HO1.out.keepB fun j hj _ => Below.heap_setCell _ ⟨g, 1, none⟩ _ j (by show j ≠ g; omega)
      exact ⟨own_mono h1.n hB, h1.d.monoB hB⟩)
    by_cases h41 : r.kind = 41
    · have t : (r.kind == 41) = true := by rw [beq_iff_eq]; exact h41
      have HS3 := Lib.hid (show sr = if decide (i = 2) = false ∨ h.edns = true ∨ r.name ≠ [] then .error 2 else .ok ⟨recs ps, x0, true, r.cls⟩ by rw [HS2.out]; unfold addR; rw [if_pos h41])
      have HED := Lib.hid (medns_any (wc.setCell ⟨g, 1, none⟩ (.int .i64 x0)) g (.slice A m cap) vq x0 h v i x r HR2.out hi)
      clear HS2 h41
      go_wp2_with fail
      refine HED.out.mono ?_
      rintro e w3 ⟨hg3, hno, hyes⟩
      have HG3 := Lib.hid (HG2.out.trans hg3 fun _ hj => .inl hj)
      have HQ3 := Lib.hid (show RecRow w3 B (v i) ps from HQ2.out.keep fun j hj hjw => hg3.block j hjw (by omega))
      by_cases hcnd : decide (i = 2) = false ∨ h.edns = true ∨ r.name ≠ []
      · obtain rfl := hno hcnd
        have HS4 := Lib.hid (show sr = .error 2 by rw [HS3.out, if_pos hcnd])
        clear HS3 hcnd hno hyes hg3 HED
        go_wp2
        go_ret
        rw [HS4.out]
        exact ⟨GrewM.wide HG3.out, rfl, by decide⟩
      · obtain ⟨rfl, hr3⟩ := hyes hcnd
        have HR3 := Lib.hid hr3
        have HS4 := Lib.hid (show sr = .ok ⟨recs ps, x0, true, r.cls⟩ by rw [HS3.out, if_neg hcnd])
        clear HS3 hcnd hno hyes hg3 hr3 HED
        go_wp2
        go_ret
        rw [HS4.out]
        exact ⟨GrewM.wide HG3.out, rfl, v i, ps, by rw [upd_same]; exact HR3.out, HQ3.out, rfl, HXM.out⟩
    · have t : (r.kind == 41) = false := by rw [beq_eq_false_iff_ne]; exact h41
      have HS3 := Lib.hid (show sr = .ok ⟨recs ps ++ [r], x0, h.edns, h.size⟩ by rw [HS2.out]; unfold addR; rw [if_neg h41])
      clear HS2 h41
      obtain ⟨Av, cv, hvi, _, _⟩ := own_form HQ2.out.row
      have cs : wc.cell? ⟨g, 11 + i, none⟩ = some (.slice Av ps.length cv) := by rw [← hvi]; exact RBlk.sec HRC.out hi
      have fs : wc.frozen? ⟨g, 11 + i, none⟩ = false := Whole.frozen HRC.out _
      obtain ⟨w5, hw5⟩ : ∃ w5, w5 = ((wc.setCell ⟨g, 1, none⟩ (.int .i64 x0)).alloc (.cells #[.slice x.A r.name.length x.c, .int .i64 r.kind, .int .i64 r.cls, .int .i64 r.ttl, .slice x.d.Ab r.data.bytes.length x.d.cb, .slice x.d.Ah r.data.host.length x.d.ch, .slice x.d.Am r.data.mail.length x.d.cm, .slice x.d.An r.data.nums.length x.d.cn, .slice x.d.At r.data.texts.length x.d.ct] 42)).drew := ⟨_, rfl⟩
      have hb5 : Below wc.heap.size (wc.setCell ⟨g, 1, none⟩ (.int .i64 x0)) w5 := by rw [hw5]; exact ((Below.refl _ _).alloc (by simp) _).drew
      have hz5 : w5.heap.size = wc.heap.size + 1 := by rw [hw5]; simp
      have hr5 : RBlk w5 g (.slice A m cap) x0 h vq v := Whole.below HR2.out hb5 hgc
      have HR5 := Lib.hid hr5
      have HG5 := Lib.hid (HG2.out.trans (show GrewM g (wc.setCell ⟨g, 1, none⟩ (.int .i64 x0)) w5 from by rw [hw5]; exact ((Grew.refl _ _).alloc _).drewN 1) fun _ hj => .inl hj)
      have HQ5 := Lib.hid (show RecRow w5 B (v i) ps from HQ2.out.keep fun j _ hjw => hb5.block j (by simpa using hjw))
      have HO5 := Lib.hid (show OwnR w5 B x r from HO2.out.keepB fun j _ hjw => hb5.block j (by simpa using hjw))
      have HQA := Lib.hid (show w5.ownsRow B 42 9 (.slice Av ps.length cv) ps.length (ps.flatMap cellsR) by rw [← hvi]; exact HQ5.out.row)
      have HNW := Lib.hid (own_not_whole HQA.out hr5 (by decide))
      have HRB := Lib.hid (show Row w5 (w5.heap.size) (some ⟨wc.heap.size, 0, none⟩) (cellsR (x, r)) from by
        have h1 := Row.made (wc.setCell ⟨g, 1, none⟩ (.int .i64 x0)) #[.slice x.A r.name.length x.c, .int .i64 r.kind, .int .i64 r.cls, .int .i64 r.ttl, .slice x.d.Ab r.data.bytes.length x.d.cb, .slice x.d.Ah r.data.host.length x.d.ch, .slice x.d.Am r.data.mail.length x.d.cm, .slice x.d.An r.data.nums.length x.d.cn, .slice x.d.At r.data.texts.length x.d.ct] 42
        rw [show (wc.setCell ⟨g, 1, none⟩ (.int .i64 x0)).heap.size = wc.heap.size by simp] at h1
        rw [hz5, hw5]
        exact h1.drewN 1)
      have hzq : ps.length + 1 ≤ maxLen := by unfold maxLen; omega
      have hBz : B ≤ w5.heap.size := by have := HB1.out.size; omega
      have HVI := Lib.hid hvi
      clear hvi hr5 hz5 hb5
      subst hw5
      go_wp2
      go_region_law (first
        | (refine step_append_any rfl (.tmp 38) (.tmp 40) _ rfl B 42 i0 _ 9 168 Tryz.underlying23 hi0 hz0 hz1 hz2 rfl (by omega) (.slice Av ps.length cv) ps.length _ rfl HQA.out
             (some ⟨wc.heap.size, 0, none⟩) 1 1 _ (cellsR (x, r)) rfl rfl HRB.out (cellsR_one1 _) hzq (by omega) hBz ?_
           intro v7 w7 hown7 hg7
           obtain ⟨A7, c7, rfl, _, _⟩ := own_form hown7
           have hr7 := Whole.grown HR5.out hg7 (Ne.symm HNW.out)
           have cs' : w7.cell? ⟨g, 11 + i, none⟩ = some (.slice Av ps.length cv) := by rw [← HVI.out]; exact RBlk.sec hr7 hi
           have fs' : w7.frozen? ⟨g, 11 + i, none⟩ = false := Whole.frozen hr7 _
           have HO7 := Lib.hid hown7
           have HG7 := Lib.hid hg7
           have HR7 := Lib.hid hr7
           clear hown7 hg7 hr7))
      all_goals
        have HQ7 := Lib.hid (show RecRow w7 B (.slice A7 (ps.length + 1) c7) (ps ++ [(x, r)]) from by
          have h1 := HQ5.out.snoc (y := x) (r := r) (v' := .slice A7 (ps.length + 1) c7) HO5.out HO7.out (by rw [HVI.out]; exact HG7.out)
          exact h1)
        have HG8 := Lib.hid (((GrewM.wide HG5.out).grown HG7.out fun j hj => .inl (.inr (HQA.out.lt j hj).1)).setCell (a := ⟨g, 11 + i, none⟩) (.inl (.inl rfl)) (.slice A7 (ps.length + 1) c7))
        have HR8 := Lib.hid (show RBlk (w7.setCell ⟨g, 11 + i, none⟩ (.slice A7 (ps.length + 1) c7)) g (.slice A m cap) x0 h vq (upd v i (.slice A7 (ps.length + 1) c7)) from RBlk.setSec HR7.out hi _)
        have HQ8 := Lib.hid (show RecRow (w7.setCell ⟨g, 11 + i, none⟩ (.slice A7 (ps.length + 1) c7)) B (.slice A7 (ps.length + 1) c7) (ps ++ [(x, r)]) from HQ7.out.keep fun j hj _ => Below.heap_setCell _ ⟨g, 11 + i, none⟩ _ j (by show j ≠ g; omega))
        clear cs' fs'
        go_wp2
        go_ret
        rw [HS3.out]
        exact ⟨HG8.out, rfl, _, ps ++ [(x, r)], HR8.out, HQ8.out, by rw [recs_append]; rfl, HXM.out⟩


end Go.Proofs.YtjkjhpaeckkpjaaGreat

namespace Go.Proofs.YtjkjhpaeckkpjaaGreat
open Go.RowKit

def RsRel (w : World) (g B : Nat) (vb vq : Value) (h : Hd) (v : Nat → Value) (i : Nat) (b : List UInt8) (cnt p0 : Nat) (j : Value) (wr : World) : Prop :=
  ∃ k : Nat, k ≤ cnt ∧ j = .int .i64 k ∧ ∃ u ps s, RBlk wr g vb s.p { h with edns := s.e, size := s.s } vq (upd v i u) ∧ RecRow wr B u ps ∧ recs ps = s.rs ∧ getRs b (decide (i = 2)) cnt ⟨[], p0, h.edns, h.size⟩ = getRs b (decide (i = 2)) (cnt - k) s ∧ GrewB g B w wr ∧ s.p ≤ b.length ∧ ps.length ≤ k
theorem upd_upd (v : Nat → Value) (i : Nat) (u u' : Value) : upd (upd v i u) i u' = upd v i u' := by
  funext j
  unfold upd
  split <;> rfl
theorem upd_at (v : Nat → Value) (i : Nat) (u : Value) : upd v i u i = u := by unfold upd; rw [if_pos rfl]
theorem step_len {b : List UInt8} {last : Bool} {s t : Rd} (h : stepR b last s = .ok t) : t.rs.length ≤ s.rs.length + 1 := by
  unfold stepR addR at h
  split at h
  · cases h
  · split at h
    · split at h
      · cases h
      · injection h with h
        subst h
        exact Nat.le_succ _
    · injection h with h
      subst h
      simp

set_option maxRecDepth 20000 in
set_option maxHeartbeats 4000000 in
theorem mrecords_any (w : World) (g : Nat) (A : Option Addr) (m cap : Nat) (b : List UInt8) (p cnt : Nat) (h : Hd) (vq : Value) (v : Nat → Value) (i : Nat) (hb : RBlk w g (.slice A m cap) p h vq v) (hbl : b.length = m) (hrow : Row w g A (b.map bc)) (hm : m ≤ cap) (hc : cap ≤ maxLen)
    (hm2 : m ≤ 70000) (hp : p ≤ m) (hi : i < 3) (hv : v i = .slice none 0 0) (hn : cnt ≤ 60000) :
    Calls Tryz.prog 38 #[.pointer (some ⟨g, 0, none⟩), .pointer (some ⟨g, 11 + i, none⟩), .int .i64 cnt] w (ROut w g w.heap.size (.slice A m cap) vq h v i m (getRs b (decide (i = 2)) cnt ⟨[], p, h.edns, h.size⟩)) := by
  have hgl : g < w.heap.size := Whole.lt hb
  have HR := Lib.hid hb
  have HRW := Lib.hid hrow
  have HBL := Lib.hid hbl
  have HV := Lib.hid hv
  have hpb : p ≤ b.length := by rw [hbl]; exact hp
  have HPB := Lib.hid hpb
  clear hb hrow hbl hv hpb
  go_enter Tryz.func38, Tryz.ntmps38
  go_wp2
  go_loopw [9] (RsRel w g w.heap.size (.slice A m cap) vq h v i b cnt p) (fun j _ => cnt - (intOf j).toNat)
  case atStart => exact ⟨0, Nat.zero_le _, rfl, v i, [], ⟨[], p, h.edns, h.size⟩, by rw [upd_same]; exact HR.out, by rw [HV.out]; exact RecRow.nil _ _, rfl, rfl, Grew.refl _ _, HPB.out, Nat.le_refl _⟩
  case round =>
    obtain ⟨k, hk, rfl, u, ps, s, hr, hq, hrs, he, hg, hsl, hpk⟩ := hrel
    have HR1 := Lib.hid hr
    have HQ1 := Lib.hid hq
    have HE1 := Lib.hid he
    have HG1 := Lib.hid hg
    have HRS := Lib.hid hrs
    have HSP := Lib.hid (show s.p ≤ m by rw [← HBL.out]; exact hsl)
    have hpn : ps.length ≤ 70000 := by omega
    have hsz := hg.size
    have HPK := Lib.hid hpk
    clear hr hq he hg hrs hsl hpk
    by_cases hlt : k < cnt
    · have HC := Lib.hid (mrecord_any wr g A m cap b s.p { h with edns := s.e, size := s.s } vq (upd v i u) i ps w.heap.size HR1.out HBL.out (row_under HRW.out HG1.out (by omega) hgl) hm hc hm2 HSP.out (by rw [upd_at]; exact HQ1.out) hi hgl hsz hpn)
      have HST := Lib.hid (show getRs b (decide (i = 2)) (cnt - k) s = stepR b (decide (i = 2)) ⟨recs ps, s.p, s.e, s.s⟩ >>= getRs b (decide (i = 2)) (cnt - (k + 1)) by
        rw [show cnt - k = (cnt - (k + 1)) + 1 by omega, HRS.out]
        rfl)
      have HLN := Lib.hid (fun t (ht : stepR b (decide (i = 2)) ⟨recs ps, s.p, s.e, s.s⟩ = .ok t) => step_len ht)
      dsimp only at HC
      revert HC HST HLN
      generalize stepR b (decide (i = 2)) ⟨recs ps, s.p, s.e, s.s⟩ = sr
      intro HC HST HLN
      go_wp2_with fail
      refine HC.out.mono ?_
      rintro e w1 ⟨hg1, hres⟩
      have HG2 := Lib.hid (HG1.out.step hg1)
      clear hg1 HC
      cases sr with
      | error kk =>
        obtain ⟨rfl, hk0⟩ := hres
        have t : ((kk : Int) != 0) = true := by rw [bne_iff_ne]; omega
        have HRES := Lib.hid (show getRs b (decide (i = 2)) cnt ⟨[], p, h.edns, h.size⟩ = .error kk by rw [HE1.out, HST.out]; rfl)
        have HK0 := Lib.hid hk0
        clear hk0
        go_wp2
        go_ret
        rw [HRES.out]
        exact ⟨HG2.out, rfl, HK0.out⟩
      | ok s2 =>
        obtain ⟨rfl, u2, ps2, hr2, hq2, hrs2, hsp2⟩ := hres
        have HREL := Lib.hid (show RsRel w g w.heap.size (.slice A m cap) vq h v i b cnt p (.int .i64 ((k + 1 : Nat) : Int)) w1 from
          ⟨k + 1, by omega, rfl, u2, ps2, s2, by rw [upd_upd] at hr2; exact hr2, hq2, hrs2, by rw [HE1.out, HST.out]; rfl, HG2.out, by rw [HBL.out]; exact hsp2, by
            have h1 := HLN.out s2 rfl
            rw [← hrs2, length_recs] at h1
            have h2 : (recs ps).length = ps.length := length_recs _
            have h3 := HPK.out
            omega⟩)
        clear hr2 hq2 hrs2 hsp2
        go_wp2
        have hrl := HREL.out
        rw [show ((k + 1 : Nat) : Int) = (k : Int) + 1 by omega] at hrl
        exact ⟨hrl, by simp [intOf]; omega⟩
    · obtain rfl : k = cnt := by omega
      have HRES := Lib.hid (show getRs b (decide (i = 2)) k ⟨[], p, h.edns, h.size⟩ = .ok s by rw [HE1.out, Nat.sub_self]; rfl)
      go_wp2
      go_ret
      rw [HRES.out]
      exact ⟨HG1.out, rfl, u, ps, HR1.out, HQ1.out, HRS.out, HSP.out⟩

end Go.Proofs.YtjkjhpaeckkpjaaGreat
