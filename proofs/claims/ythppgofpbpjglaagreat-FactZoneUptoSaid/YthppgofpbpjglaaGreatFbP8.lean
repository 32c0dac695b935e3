/-
  The contract of msg.Encode.
-/
import Derived.Test.YthppgofpbpjglaaGreatFbP7
import Derived.Deep.CutRange
import Derived.Deep.RegionLaw
import Derived.Deep.RegionLawGrows
import Derived.Test.YthppgofpbpjglaaGreatFbP6
import Derived.StillTailTactics
import Derived.BigQuiet
import Derived.Test.YthppgofpbpjglaaGreatFbP4
import Derived.Test.YthppgofpbpjglaaGreatFbP1
import Derived.Test.YthppgofpbpjglaaGreatFbP3
namespace Go.Proofs.YthppgofpbpjglaaGreat
open Go.RowKit

/-- Slices of nothing. -/
def nilV : RV := ⟨none, 0, ⟨none, none, none, none, none, 0, 0, 0, 0, 0⟩⟩
theorem opt_own (w : World) (B : Nat) (n : Int) : OwnR w B nilV (optR n) :=
  ⟨World.ownsRow_nil _ _ _ _, ⟨World.ownsRow_nil _ _ _ _, World.ownsRow_nil _ _ _ _, World.ownsRow_nil _ _ _ _, World.ownsRow_nil _ _ _ _, World.ownsRow_nil _ _ _ _⟩⟩
/-- All records' slices are own ones. -/
def OwnedM (w : World) (m : MV) : Prop := ∀ i, ∀ p ∈ (m.sec i).ps, OwnR w 0 p.1 p.2
theorem OwnedM.below {w w' : World} {m : MV} (h : OwnedM w m) (hb : Below w.heap.size w w') : OwnedM w' m := fun i p hp => (h i p hp).keep fun g hg => hb.block g hg



















/-- What Encode answers. -/
def encE (m : Mt) : Except Nat (List UInt8) := if soundM m = true then (if 65535 < (encM m).length then .error 4 else .ok (encM m)) else .error 2
def EncOut (w : World) (r : Except Nat (List UInt8)) (e : Ending) (w' : World) : Prop :=
  Below w.heap.size w w' ∧ match r with
  | .ok l => ∃ A c, e = .returned (.tuple #[.slice A l.length c, .int .i64 0]) ∧ w'.ownsRow w.heap.size 5 1 (.slice A l.length c) l.length (l.map bc)
  | .error k => e = .returned (.tuple #[.slice none 0 0, .int .i64 k])
/-- The message with Extra as it is written. -/
def EdnsRel (w0 : World) (H : Nat) (m : MV) (wx : World) : Prop :=
  ∃ s : Sec, recs s.ps = m.msg.exX ∧ Whole wx H 28 (MV.cells ⟨m.h, m.qA, m.qc, m.qp, m.s0, m.s1, s⟩) ∧ RsAt wx wx.heap.size s.A s.ps ∧ (∀ p ∈ s.ps, OwnR wx 0 p.1 p.2) ∧ (∀ p ∈ s.ps, RIn p.2 ∧ LightR p.2) ∧ Below w0.heap.size w0 wx

theorem made_cells (w : World) (cs : Array Value) (t : TypeId) (j : Nat) (u : Value) (h : cs.toList[j]? = some u) : (w.alloc (.cells cs t)).cell? ((⟨w.heap.size, 0, none⟩ : Addr).add j) = some u := by
  rw [addr_add, Nat.zero_add, World.cell?_alloc_at _ _ _ _ rfl]
  simpa using h
theorem row_cells {w : World} {H : Nat} {A : Option Addr} {xs : List Value} (h : Row w H A xs) (b : Addr) (hb : A = some b) (j : Nat) (u : Value) (hu : xs[j]? = some u) : w.cell? (b.add j) = some u := by
  subst hb
  obtain ⟨b', off, e, hlt, hc⟩ := h.some_ (by have := (List.getElem?_eq_some_iff.1 hu).1; omega)
  injection e with e
  subst e
  rw [addr_add]
  exact hc j u hu
theorem none_empty {w : World} {H k : Nat} {α : Type} {f : α → List Value} {A : Option Addr} {ps : List α} (hf : ∀ p, (f p).length = k) (hk : 0 < k) (h : Row w H A (ps.flatMap f)) (hA : A = none) : ps.length = 0 ∧ ps.length = 0 := by
  subst hA
  rcases Nat.eq_zero_or_pos ps.length with h0 | h0
  · exact ⟨h0, h0⟩
  · obtain ⟨_, _, e, _⟩ := h.some_ (by rw [length_flat hf]; exact Nat.mul_pos h0 hk)
    cases e

theorem opt_in {n : Int} (h : (Lit.int .i64 n).wf = true) : RIn (optR n) ∧ LightR (optR n) := by
  have hw : WideN ([] : List (List UInt8)) := ⟨Nat.zero_le _, fun k hk => absurd hk (Nat.not_lt_zero _)⟩
  refine ⟨⟨hw, by show (Lit.int .i64 41).wf = true; decide, h, by show (Lit.int .i64 0).wf = true; decide, ⟨hw, hw, Nat.zero_le _⟩, fun k hk => absurd hk (Nat.not_lt_zero _), fun n hn => absurd hn (List.not_mem_nil)⟩, ⟨Nat.zero_le _, Nat.zero_le _, Nat.zero_le _, Nat.zero_le _, Nat.zero_le _, Nat.zero_le _⟩⟩
theorem edns_no {w w1 : World} {m : MV} (hed : m.h.edns = false) (hm : MAt w w.heap.size m) (hi : MIn m) (ho : OwnedM w m) (hb : Below w.heap.size w w1) (hw : Whole w1 w.heap.size 28 m.cells) : EdnsRel w w.heap.size m w1 := by
  refine ⟨m.s2, ?_, hw, (hm.below hb).s2.mono hb.size, fun p hp => ho.below hb 2 p hp, fun p hp => hi.r 2 p hp, hb⟩
  unfold Mt.exX MV.msg
  dsimp only
  rw [hed]
  simp
theorem edns_yes {w w1 w' : World} {m : MV} {A : Option Addr} {B n c : Nat} (hed : m.h.edns = true) (hm : MAt w w.heap.size m) (hi : MIn m) (ho : OwnedM w m) (hb : Below w.heap.size w w1) (hb3 : Below w1.heap.size w1 w') (hw : Whole w' w.heap.size 28 m.cells)
    (hr : w'.ownsRow B 46 9 (.slice A n c) n (m.s2.ps.flatMap cellsR ++ cellsR (nilV, optR m.h.size))) (hn : n = m.s2.ps.length + 1) (hB : w.heap.size < B) : EdnsRel w w.heap.size m (w'.setCell ⟨w.heap.size, 11, none⟩ (.slice A n c)) := by
  have hb2 : Below w.heap.size w w' := hb.trans (hb3.mono hb.size)
  have hbf : Below w.heap.size w (w'.setCell ⟨w.heap.size, 11, none⟩ (.slice A n c)) := hb2.setCell (p := ⟨w.heap.size, 11, none⟩) (Nat.le_refl _) _
  have hwf := hw.set_ 11 (.slice A n c)
  have hrf : (w'.setCell ⟨w.heap.size, 11, none⟩ (.slice A n c)).ownsRow B 46 9 (.slice A n c) n (m.s2.ps.flatMap cellsR ++ cellsR (nilV, optR m.h.size)) :=
    own_keep hr fun g hg => Below.heap_setCell w' ⟨w.heap.size, 11, none⟩ _ g (by have := (hr.lt g hg).1; show g ≠ w.heap.size; omega)
  have hl : (m.s2.ps ++ [(nilV, optR m.h.size)]).length = n := by rw [List.length_append, hn]; rfl
  refine ⟨⟨A, c, m.s2.ps ++ [(nilV, optR m.h.size)]⟩, ?_, ?_, ⟨?_, ?_⟩, ?_, ?_, hbf⟩
  · unfold Mt.exX MV.msg
    dsimp only
    rw [recs_append, hed]
    rfl
  · unfold MV.cells Sec.v
    dsimp only
    rw [hl]
    exact hwf
  · have h := Row.of_own hrf
    rw [List.flatMap_append]
    simpa using h
  · intro p hp
    rcases List.mem_append.1 hp with h | h
    · exact ((hm.s2.2 p h).below hbf).mono hbf.size
    · rw [List.mem_singleton.1 h]
      exact (opt_own _ 0 _).at_
  · intro p hp
    rcases List.mem_append.1 hp with h | h
    · exact ho.below hbf 2 p h
    · rw [List.mem_singleton.1 h]
      exact opt_own _ 0 _
  · intro p hp
    rcases List.mem_append.1 hp with h | h
    · exact hi.r 2 p h
    · rw [List.mem_singleton.1 h]
      exact opt_in hi.h.s

theorem allTo_len (m : MV) : ∀ j, (allTo m j).length + m.qp.length = sumTo m j
  | 0 => by show ([] : List Rt).length + m.qp.length = m.qp.length; simp
  | j + 1 => by
    have h := allTo_len m j
    show (allTo m j ++ recs (m.sec j).ps).length + m.qp.length = sumTo m j + (m.sec j).ps.length
    rw [List.length_append, length_recs]
    omega
theorem sumTo_up (m : MV) {j : Nat} (hj : j < 3) : sumTo m j + (m.sec j).ps.length ≤ sumTo m 3 := by
  have e1 : sumTo m 1 = sumTo m 0 + (m.sec 0).ps.length := rfl
  have e2 : sumTo m 2 = sumTo m 1 + (m.sec 1).ps.length := rfl
  have e3 : sumTo m 3 = sumTo m 2 + (m.sec 2).ps.length := rfl
  rcases (show j = 0 ∨ j = 1 ∨ j = 2 by omega) with rfl | rfl | rfl <;> omega
theorem allTo_sound {m : MV} (hr : ∀ i, ∀ p ∈ (m.sec i).ps, SoundR p.2) : ∀ j, ∀ r ∈ allTo m j, SoundR r
  | 0, r, h => absurd h (List.not_mem_nil)
  | j + 1, r, h => by
    have h' : r ∈ allTo m j ++ recs (m.sec j).ps := h
    rcases List.mem_append.1 h' with h1 | h1
    · exact allTo_sound hr j r h1
    · obtain ⟨p, hp, rfl⟩ := List.mem_map.1 h1
      exact hr j p hp
/-- What has been written is good, and not too long. -/
structure Fine (s : List UInt8 × Rs) : Prop where
  l : s.1.length ≤ 90000000
  r : s.2.length ≤ 700000
  g : GoodR s.1 s.2
def headS (m : MV) : List UInt8 × Rs := (headTo [] m 3, [])
theorem encS_fine {m : MV} (hq : ∀ q ∈ qsts m.qp, soundQ q = true) (hr : ∀ i, ∀ p ∈ (m.sec i).ps, SoundR p.2) (hn : sumTo m 3 ≤ 513) :
    (∀ k, k ≤ m.qp.length → Fine (putQs (qsts (m.qp.take k)) (headS m))) ∧ (∀ j, j < 3 → ∀ k, k ≤ (m.sec j).ps.length → Fine (putRs (allTo m j ++ recs ((m.sec j).ps.take k)) (putQs (qsts m.qp) (headS m)))) ∧ Fine (putRs (allTo m 3) (putQs (qsts m.qp) (headS m))) := by
  have hh : (headS m).1.length ≤ 42 := by have := length_headTo [] m 3; simpa [headS] using this
  have hq0 : m.qp.length ≤ sumTo m 3 := by have := allTo_len m 3; omega
  have hQ (k : Nat) (hk : k ≤ m.qp.length) : GrownS (headS m) (putQs (qsts (m.qp.take k)) (headS m)) k := by
    have h := putQs_good (qsts (m.qp.take k)) (headS m) (GoodR.nil _) fun q h => hq q (by
      obtain ⟨p, hp, e⟩ := List.mem_map.1 h
      exact List.mem_map.2 ⟨p, List.mem_of_mem_take hp, e⟩)
    rwa [length_qsts, List.length_take, Nat.min_eq_left hk] at h
  have hT := hQ m.qp.length (Nat.le_refl _)
  rw [List.take_length] at hT
  have hR (l : List Rt) (hl : ∀ r ∈ l, SoundR r) (n : Nat) (hn1 : l.length = n) (hn2 : n + m.qp.length ≤ 513) : Fine (putRs l (putQs (qsts m.qp) (headS m))) := by
    have h := putRs_good l _ hT.g hl
    rw [hn1] at h
    have a1 := h.l
    have a2 := h.r
    have a3 := hT.l
    have a4 := hT.r
    have a5 : (headS m).2.length = 0 := rfl
    exact ⟨by omega, by omega, h.g⟩
  refine ⟨fun k hk => ?_, fun j hj k hk => ?_, ?_⟩
  · have h := hQ k hk
    have a1 := h.l
    have a2 := h.r
    have a5 : (headS m).2.length = 0 := rfl
    exact ⟨by omega, by omega, h.g⟩
  · have h1 := allTo_len m j
    have h2 := sumTo_up m hj
    refine hR _ ?_ ((allTo m j).length + k) (by rw [List.length_append, length_recs, List.length_take, Nat.min_eq_left hk]) (by omega)
    intro r h
    rcases List.mem_append.1 h with h | h
    · exact allTo_sound hr j r h
    · obtain ⟨p, hp, rfl⟩ := List.mem_map.1 h
      exact hr j p (List.mem_of_mem_take hp)
  · have h1 := allTo_len m 3
    exact hR _ (allTo_sound hr 3) _ rfl (by omega)
/-- What is written in the end. -/
theorem encS_eq {m m' : MV} (e : m'.h = m.h) (eq : m'.qp = m.qp) (e0 : m'.s0 = m.s0) (e1 : m'.s1 = m.s1) (e2 : recs m'.s2.ps = m.msg.exX) : (putRs (allTo m' 3) (putQs (qsts m'.qp) (headS m'))).1 = encM m.msg := by
  have h1 : allTo m' 3 = m.msg.an ++ (m.msg.au ++ m.msg.exX) := by
    rw [allTo_three]
    show recs m'.s0.ps ++ (recs m'.s1.ps ++ recs m'.s2.ps) = _
    rw [e0, e1, e2]
    rfl
  have h2 : headS m' = (m.msg.head, []) := by
    show (headTo [] m' 3, []) = _
    have h3 : headTo [] m' 3 = headM m'.h m'.qp.length m'.s0.ps.length m'.s1.ps.length m'.s2.ps.length := rfl
    have h4 : m'.s2.ps.length = m.msg.exX.length := by rw [← e2, length_recs]
    have h5 : m.msg.head = headM m.h (qsts m.qp).length (recs m.s0.ps).length (recs m.s1.ps).length m.msg.exX.length := rfl
    rw [h3, h5, e, eq, e0, e1, h4, length_qsts, length_recs, length_recs]
  rw [h1, h2, eq]
  rfl






























































































































































































































































































































































































end Go.Proofs.YthppgofpbpjglaaGreat

namespace Go.Proofs.YthppgofpbpjglaaGreat
open Go.RowKit

def nilSec : Sec := ⟨none, 0, []⟩
/-- A message that is a head alone. -/
def bareV (h : Hd) : MV := ⟨h, none, 0, [], nilSec, nilSec, nilSec⟩
theorem bare_at (h : Hd) (w : World) (H : Nat) : MAt w H (bareV h) :=
  ⟨⟨Row.empty _ _ _, fun _ h => absurd h (List.not_mem_nil)⟩, ⟨Row.empty _ _ _, fun _ h => absurd h (List.not_mem_nil)⟩, ⟨Row.empty _ _ _, fun _ h => absurd h (List.not_mem_nil)⟩, ⟨Row.empty _ _ _, fun _ h => absurd h (List.not_mem_nil)⟩⟩
theorem bare_sec (h : Hd) (i : Nat) : (bareV h).sec i = nilSec := by unfold MV.sec; split; rfl; split <;> rfl
theorem bare_in {h : Hd} (hh : HIn h) : MIn (bareV h) :=
  ⟨hh, fun _ h => absurd h (List.not_mem_nil), fun i p hp => by rw [bare_sec] at hp; exact absurd hp (List.not_mem_nil), Nat.zero_le _, fun i => by rw [bare_sec]; exact Nat.zero_le _⟩
theorem bare_own (h : Hd) (w : World) : OwnedM w (bareV h) := fun i p hp => by rw [bare_sec] at hp; exact absurd hp (List.not_mem_nil)



end Go.Proofs.YthppgofpbpjglaaGreat

namespace Go.Proofs.YthppgofpbpjglaaGreat
open Go.RowKit

theorem wide_255 {n : List (List UInt8)} (h : szN n ≤ 255) : WideN n := wide_sz (Nat.le_trans h (by unfold maxLen; omega))
theorem sound_few {n : List (List UInt8)} (h : soundN n = true) : n.length ≤ 127 := by
  obtain ⟨h1, h2⟩ := soundN_parts h
  have := szN_ge n h1
  omega
theorem fit_wf {n s : Int} (h : fitB n s = true) : (Lit.int .i64 n).wf = true := by
  unfold fitB at h
  simp only [decide_eq_true_eq] at h
  obtain ⟨h1, h2, h3, h4⟩ := h
  have h5 : (2 : Int) ^ (8 * s.toNat) ≤ 72057594037927936 := by
    obtain ⟨k, hk⟩ : ∃ k, k = s.toNat := ⟨_, rfl⟩
    rw [← hk]
    rcases (show k = 1 ∨ k = 2 ∨ k = 3 ∨ k = 4 ∨ k = 5 ∨ k = 6 ∨ k = 7 by omega) with h | h | h | h | h | h | h <;> rw [h] <;> decide +kernel
  have e1 : IntKind.i64.min = -9223372036854775808 := rfl
  have e2 : IntKind.i64.max = 9223372036854775807 := rfl
  simp only [Lit.wf, Bool.and_eq_true, decide_eq_true_eq]
  omega
/-- What is sound is small. -/
theorem SoundR.small {r : Rt} (h : SoundR r) : RIn r ∧ LightR r := by
  have sp := soundP h.d
  have hn := soundN_parts h.n
  have e1 : szN ([] : List (List UInt8)) = 1 := rfl
  have hh : szN r.data.host ≤ 255 ∧ r.data.host.length ≤ 127 := by
    cases hs : (shN r.kind).host with
    | true => exact ⟨(soundN_parts (sp.h hs)).2, sound_few (sp.h hs)⟩
    | false => rw [sp.h0 hs]; exact ⟨by rw [e1]; omega, by simp⟩
  have hm : szN r.data.mail ≤ 255 ∧ r.data.mail.length ≤ 127 := by
    cases hs : (shN r.kind).mail with
    | true => exact ⟨(soundN_parts (sp.m hs)).2, sound_few (sp.m hs)⟩
    | false => rw [sp.m0 hs]; exact ⟨by rw [e1]; omega, by simp⟩
  have hf := sound_few h.n
  have h1 := shN_small r.kind
  have h2 := sp.n
  have h3 := sp.b
  have h4 : (shN r.kind).most ≤ 65535 := by
    unfold shN
    repeat' split
    all_goals decide
  have h5 := sp.t
  have hk : kindB r.kind = true := by have h := h.d; unfold soundD at h; simp only [Bool.and_eq_true] at h; exact h.1
  unfold kindB at hk
  simp only [decide_eq_true_eq] at hk
  obtain ⟨f2, f4⟩ := nums_fit sp.ok
  have e6 : IntKind.i64.min = -9223372036854775808 := rfl
  have e7 : IntKind.i64.max = 9223372036854775807 := rfl
  refine ⟨⟨wide_255 hn.2, ?_, fit_wf h.c, ?_, ⟨wide_255 hh.1, wide_255 hm.1, by unfold maxLen; omega⟩, fun k hk => ?_, fun n hn => ?_⟩, ⟨by omega, by omega, by omega, by omega, by omega, by omega⟩⟩
  · simp only [Lit.wf, Bool.and_eq_true, decide_eq_true_eq]
    omega
  · have := h.t0
    have := h.t1
    simp only [Lit.wf, Bool.and_eq_true, decide_eq_true_eq]
    omega
  · have := sp.tl _ (List.getElem_mem hk)
    unfold maxLen
    omega
  · rw [← List.take_append_drop (shN r.kind).ahead r.data.nums] at hn
    rcases List.mem_append.1 hn with h6 | h6
    · exact fit_wf (f2 n h6)
    · exact fit_wf (f4 n h6)

def SameRsRel (w : World) (k0 : Nat) (i : Value) (wr : World) : Prop := ∃ k : Nat, k ≤ k0 ∧ i = .int .i64 k ∧ Below w.heap.size w wr










































































end Go.Proofs.YthppgofpbpjglaaGreat

namespace Go.Proofs.YthppgofpbpjglaaGreat
open Go.RowKit

/-- What is sound is small. -/
theorem soundD_in {k : Int} {d : Dt} (h : soundD k d = true) : DatIn d :=
  (SoundR.small (r := ⟨[], k, 1, 0, d⟩) ⟨(by decide +kernel : soundN [] = true), h, (by decide +kernel : fitB 1 2 = true), (by decide : (0 : Int) ≤ 0), (by decide : (0 : Int) ≤ 2147483647)⟩).1.dat
theorem dat_empty {d : Dt} (h : emptyD d = true) : DatIn d := by
  unfold emptyD at h
  simp only [Bool.and_eq_true, decide_eq_true_eq] at h
  obtain ⟨h0, h1, h2, h3, h4⟩ := h
  have e1 := List.eq_nil_of_length_eq_zero h1
  have e2 := List.eq_nil_of_length_eq_zero h2
  have e3 := List.eq_nil_of_length_eq_zero h3
  have e4 := List.eq_nil_of_length_eq_zero h4
  refine ⟨⟨?_, ?_, by omega⟩, fun k hk => by omega, fun n hn => by rw [e3] at hn; exact absurd hn (List.not_mem_nil)⟩
  · rw [e1]; exact ⟨Nat.zero_le _, fun k hk => absurd hk (Nat.not_lt_zero _)⟩
  · rw [e2]; exact ⟨Nat.zero_le _, fun k hk => absurd hk (Nat.not_lt_zero _)⟩
theorem soundN_wide {n : List (List UInt8)} (h : soundN n = true) : WideN n := wide_255 (soundN_parts h).2
theorem wf_i64 {n : Int} (h1 : -9223372036854775808 ≤ n) (h2 : n ≤ 9223372036854775807) : (Lit.int .i64 n).wf = true := by
  have e1 : IntKind.i64.min = -9223372036854775808 := rfl
  have e2 : IntKind.i64.max = 9223372036854775807 := rfl
  simp only [Lit.wf, Bool.and_eq_true, decide_eq_true_eq]
  omega
theorem typedB_in {k : Int} (h : typedB k = true) : 1 ≤ k ∧ k ≤ 65534 := by
  unfold typedB at h
  simp only [Bool.and_eq_true, decide_eq_true_eq] at h
  exact ⟨h.1, h.2.1⟩
theorem soundF_in {x : FV} (h : soundF x.fact = true) : FIn x := by
  obtain ⟨hh, hk⟩ := soundF_parts h
  obtain ⟨a1, a2, a3, a4, a5, a6⟩ := headB_parts hh
  have a4' := timeB_yes a4
  have wn : WideN x.name := soundN_wide a1
  rcases hk with ⟨k1, hb⟩ | ⟨k1, hb⟩
  · unfold hasB at hb
    simp only [Bool.and_eq_true, decide_eq_true_eq] at hb
    obtain ⟨b1, b2, b3, b4, b5, b6⟩ := hb
    have b1' := typedB_in b1
    have ez : x.zone = [] := List.eq_nil_of_length_eq_zero b4
    have k1' : x.h.knd = 1 := k1
    refine ⟨⟨wf_i64 (by have := b1'.1; show _ ≤ x.fact.h.typ; omega) (by have := b1'.2; show x.fact.h.typ ≤ _; omega), wf_i64 (by omega) (by omega), wf_i64 (by show _ ≤ x.fact.h.rank; omega) (by show x.fact.h.rank ≤ _; omega), wf_i64 (by show _ ≤ x.fact.h.got; omega) (by show x.fact.h.got ≤ _; omega), wf_i64 (by show _ ≤ x.fact.h.ttl; omega) (by show x.fact.h.ttl ≤ _; omega)⟩, wn, ?_, fun p hp => ?_, dat_empty b5⟩
    · rw [ez]; exact ⟨Nat.zero_le _, fun k hk => absurd hk (Nat.not_lt_zero _)⟩
    · exact soundD_in (setOk_each b6 (List.mem_map.2 ⟨p, hp, rfl⟩))
  · obtain ⟨p1, p2, p3, p4, p5, p6, p7⟩ := noB_parts hb
    have e0 : x.sp = [] := by
      have e : (dats x.sp).length = 0 := p3
      rw [length_dats] at e
      exact List.eq_nil_of_length_eq_zero e
    have k1' : x.h.knd = 2 ∨ x.h.knd = 3 := k1
    have ht : -1 ≤ x.h.typ ∧ x.h.typ ≤ 65535 := by
      rcases k1' with k2 | k3
      · have e : typedB x.h.typ = true := by
          have e1 : (decide (x.h.knd = 2) == typedB x.h.typ) = true := p1
          rw [decide_eq_true k2] at e1
          simpa using e1
        have := typedB_in e
        omega
      · rcases p2 with p | p
        · have : x.h.knd = 2 := p
          omega
        · have : x.h.typ = 0 := p
          omega
    refine ⟨⟨wf_i64 (by omega) (by omega), wf_i64 (by omega) (by omega), wf_i64 (by show _ ≤ x.fact.h.rank; omega) (by show x.fact.h.rank ≤ _; omega), wf_i64 (by show _ ≤ x.fact.h.got; omega) (by show x.fact.h.got ≤ _; omega), wf_i64 (by show _ ≤ x.fact.h.ttl; omega) (by show x.fact.h.ttl ≤ _; omega)⟩, wn, soundN_wide p5, fun p hp => ?_, soundD_in p7⟩
    rw [e0] at hp
    exact absurd hp (List.not_mem_nil)

end Go.Proofs.YthppgofpbpjglaaGreat

namespace Go.Proofs.YthppgofpbpjglaaGreat
open Go.RowKit

/-- Is this record one of class IN, of this name and type, that says so? -/
def isB (n : List (List UInt8)) (kd : Int) (d : Dt) (r : Rt) : Bool := decide (r.cls = 1) && (decide (r.kind = kd) && (eqN r.name n && sameD r.data d))
def thereB (rs : List Rt) (n : List (List UInt8)) (kd : Int) (d : Dt) : Bool := rs.any (isB n kd d)
theorem thereB_yes {rs : List Rt} {n : List (List UInt8)} {kd : Int} {d : Dt} {r : Rt} (h : r ∈ rs) (hr : isB n kd d r = true) : thereB rs n kd d = true := List.any_eq_true.2 ⟨r, h, hr⟩

def ThereRel (w : World) (z : DV) (d : Dt) (ps : List (RV × Rt)) (n : List (List UInt8)) (kd : Int) (i : Value) (wr : World) : Prop :=
  ∃ k : Nat, k ≤ ps.length ∧ i = .int .i64 k ∧ thereB (recs (ps.take k)) n kd d = false ∧ Whole wr w.heap.size 38 [.slice z.Ab d.bytes.length z.cb, .slice z.Ah d.host.length z.ch, .slice z.Am d.mail.length z.cm, .slice z.An d.nums.length z.cn, .slice z.At d.texts.length z.ct] ∧ Below w.heap.size w wr

set_option maxRecDepth 20000 in
set_option maxHeartbeats 8000000 in
theorem there_any (w : World) (A : Option Addr) (c : Nat) (ps : List (RV × Rt)) (An : Option Addr) (cn : Nat) (n : List (List UInt8)) (kd : Int) (z : DV) (d : Dt) (hp : RsAt w w.heap.size A ps) (hr : ∀ p ∈ ps, RIn p.2) (hl : ps.length ≤ maxLen)
    (hn : Row w w.heap.size An (n.map sv)) (hw : WideN n) (hz : DataAt w w.heap.size z d) (hd : Wide d) :
    Calls Tryz.prog 10 #[.slice A ps.length c, .slice An n.length cn, .int .i64 kd, z.val d] w (Gave w (.bool (thereB (recs ps) n kd d))) := by
  unfold maxLen at hl
  have HP := Lib.hid hp
  have HR := Lib.hid hr
  have HN := Lib.hid hn
  have HWN := Lib.hid hw
  have HZ := Lib.hid hz
  have HD := Lib.hid hd
  have HB0 := Lib.hid ((Below.refl w.heap.size w).alloc (Nat.le_refl _) (.cells #[.slice z.Ab d.bytes.length z.cb, .slice z.Ah d.host.length z.ch, .slice z.Am d.mail.length z.cm, .slice z.An d.nums.length z.cn, .slice z.At d.texts.length z.ct] 38))
  have HW0 := Lib.hid (Whole.made w [.slice z.Ab d.bytes.length z.cb, .slice z.Ah d.host.length z.ch, .slice z.Am d.mail.length z.cm, .slice z.An d.nums.length z.cn, .slice z.At d.texts.length z.ct] 38)
  clear hp hr hn hw hz hd
  go_enter Tryz.func10, Tryz.ntmps10
  go_wp2
  go_loopw [9] (ThereRel w z d ps n kd) (fun i _ => ps.length - (intOf i).toNat)
  case atStart => exact ⟨0, Nat.zero_le _, rfl, rfl, HW0.out, HB0.out⟩
  case round =>
    obtain ⟨k, hk, rfl, hno, hwx, hb⟩ := hrel
    have HNN0 := Lib.hid hno
    have HBX := Lib.hid hb
    have HWX := Lib.hid hwx
    have HBW := Lib.hid hb.drew
    have HW := Lib.hid (show Whole wr.drew w.heap.size 38 [.slice z.Ab d.bytes.length z.cb, .slice z.Ah d.host.length z.ch, .slice z.Am d.mail.length z.cm, .slice z.An d.nums.length z.cn, .slice z.At d.texts.length z.ct] from hwx)
    have hwz := hwx
    clear hno hb hwx
    by_cases hlt : k < ps.length
    · obtain ⟨b, off, hA, hbH, hra, q0, q1, q2, q3, q4, q5, q6, q7, q8⟩ := HP.out.at_ hlt
      subst hA
      have hri := HR.out _ (List.getElem_mem hlt)
      have HIN := Lib.hid (show (ps[k]).2 ∈ recs ps from List.mem_map.2 ⟨ps[k], List.getElem_mem hlt, rfl⟩)
      have HNO := Lib.hid (fun h : isB n kd d (ps[k]).2 = false => (show thereB (recs (ps.take (k + 1))) n kd d = false from by
        have h0 := HNN0.out
        unfold thereB at h0 ⊢
        rw [recs_at hlt, List.any_append, h0]
        simp [h]))
      revert hra q0 q1 q2 q3 q4 q5 q6 q7 q8 hri HIN HNO
      generalize ps[k] = p
      obtain ⟨x, r⟩ := p
      intro hra q0 q1 q2 q3 q4 q5 q6 q7 q8 hri HIN HNO
      dsimp only at hra q0 q1 q2 q3 q4 q5 q6 q7 q8 hri HIN HNO
      have hk0 : (0 : Int) ≤ (k : Int) := by omega
      have hk1 : (k : Int) < (ps.length : Int) := by omega
      have HCS := Lib.hid (show ∀ W, Below w.heap.size w W → Whole W w.heap.size 38 [.slice z.Ab d.bytes.length z.cb, .slice z.Ah d.host.length z.ch, .slice z.Am d.mail.length z.cm, .slice z.An d.nums.length z.cn, .slice z.At d.texts.length z.ct] → ((W.cell? ⟨b, off + k * 9, none⟩ = some (.slice x.A r.name.length x.c) ∧ W.cell? ⟨b, off + k * 9 + 1, none⟩ = some (.int .i64 r.kind) ∧ W.cell? ⟨b, off + k * 9 + 2, none⟩ = some (.int .i64 r.cls) ∧ W.cell? ⟨b, off + k * 9 + 4, none⟩ = some (.slice x.d.Ab r.data.bytes.length x.d.cb) ∧ W.cell? ⟨b, off + k * 9 + 5, none⟩ = some (.slice x.d.Ah r.data.host.length x.d.ch) ∧ W.cell? ⟨b, off + k * 9 + 6, none⟩ = some (.slice x.d.Am r.data.mail.length x.d.cm) ∧ W.cell? ⟨b, off + k * 9 + 7, none⟩ = some (.slice x.d.An r.data.nums.length x.d.cn) ∧ W.cell? ⟨b, off + k * 9 + 8, none⟩ = some (.slice x.d.At r.data.texts.length x.d.ct)) ∧ (W.cell? ⟨w.heap.size, 0, none⟩ = some (.slice z.Ab d.bytes.length z.cb) ∧ W.cell? ⟨w.heap.size, 1, none⟩ = some (.slice z.Ah d.host.length z.ch) ∧ W.cell? ⟨w.heap.size, 2, none⟩ = some (.slice z.Am d.mail.length z.cm) ∧ W.cell? ⟨w.heap.size, 3, none⟩ = some (.slice z.An d.nums.length z.cn) ∧ W.cell? ⟨w.heap.size, 4, none⟩ = some (.slice z.At d.texts.length z.ct))) from fun W hb hw =>
        have g : ∀ {o : Nat} {v : Value}, w.cell? ⟨b, o, none⟩ = some v → W.cell? ⟨b, o, none⟩ = some v := fun h => (hb.cell (p := ⟨b, _, none⟩) hbH).trans h
        ⟨⟨g q0, g q1, g q2, g q4, g q5, g q6, g q7, g q8⟩, hw.cell 0, hw.cell 1, hw.cell 2, hw.cell 3, hw.cell 4⟩)
      have HEQ := Lib.hid (fun W (hb : Below w.heap.size w W) => ref_equal_wide x.A An r.name.length n.length x.c cn w.heap.size r.name n W rfl rfl (hra.n.below hb) (HN.out.below hb) hb.size hri.n HWN.out)
      have HSM := Lib.hid (fun W (hb : Below w.heap.size w W) => ref_dsame_wide x.d z r.data d W ((hra.d.below hb).mono hb.size) ((HZ.out.below hb).mono hb.size) hri.d HD.out)
      clear hra hri q0 q1 q2 q3 q4 q5 q6 q7 q8
      go_wp2
      by_cases e1 : r.cls = 1
      case neg =>
        have b1 : (r.cls == 1) = false := beq_eq_false_iff_ne.2 e1
        have HNN := Lib.hid (HNO.out (by unfold isB; rw [decide_eq_false e1]; rfl))
        clear e1
        refine wp_region_held_drew (S := fun W => ((W.cell? ⟨b, off + k * 9, none⟩ = some (.slice x.A r.name.length x.c) ∧ W.cell? ⟨b, off + k * 9 + 1, none⟩ = some (.int .i64 r.kind) ∧ W.cell? ⟨b, off + k * 9 + 2, none⟩ = some (.int .i64 r.cls) ∧ W.cell? ⟨b, off + k * 9 + 4, none⟩ = some (.slice x.d.Ab r.data.bytes.length x.d.cb) ∧ W.cell? ⟨b, off + k * 9 + 5, none⟩ = some (.slice x.d.Ah r.data.host.length x.d.ch) ∧ W.cell? ⟨b, off + k * 9 + 6, none⟩ = some (.slice x.d.Am r.data.mail.length x.d.cm) ∧ W.cell? ⟨b, off + k * 9 + 7, none⟩ = some (.slice x.d.An r.data.nums.length x.d.cn) ∧ W.cell? ⟨b, off + k * 9 + 8, none⟩ = some (.slice x.d.At r.data.texts.length x.d.ct)) ∧ (W.cell? ⟨w.heap.size, 0, none⟩ = some (.slice z.Ab d.bytes.length z.cb) ∧ W.cell? ⟨w.heap.size, 1, none⟩ = some (.slice z.Ah d.host.length z.ch) ∧ W.cell? ⟨w.heap.size, 2, none⟩ = some (.slice z.Am d.mail.length z.cm) ∧ W.cell? ⟨w.heap.size, 3, none⟩ = some (.slice z.An d.nums.length z.cn) ∧ W.cell? ⟨w.heap.size, 4, none⟩ = some (.slice z.At d.texts.length z.ct)))) (by kernel_rfl) (by exact HCS.out _ HBW.out HW.out) (fun hHeld => ?_)
        refine wpAnyH_take (i := 0) (oi := ⟨some 16, _, _, _, _, _⟩) (v := ?_) rfl (by kernel_rfl) (by kernel_rfl) (by kernel_rfl) (fun _ _ _ h => h) (Or.inl ⟨by kernel_rfl, ?_⟩) (by assumption) ?_
        rotate_left
        · intro W hSw
          try dsimp only at hSw
          go_simp
          all_goals (with_reducible rfl)
        try simp only [Act.put, List.setIfInBounds_toArray, List.set_cons_zero, List.set_cons_succ]
        refine wpAnyH_take (i := 1) (oi := ⟨some 17, _, _, _, _, _⟩) (v := ?_) rfl (by kernel_rfl) (by kernel_rfl) (by kernel_rfl) (fun _ _ _ h => h) (Or.inl ⟨by kernel_rfl, ?_⟩) (by assumption) ?_
        rotate_left
        · intro W hSw
          try dsimp only at hSw
          go_simp
          all_goals (with_reducible rfl)
        try simp only [Act.put, List.setIfInBounds_toArray, List.set_cons_zero, List.set_cons_succ]
        refine wpAnyH_take (i := 2) (oi := ⟨some 18, _, _, _, _, _⟩) (v := ?_) rfl (by kernel_rfl) (by kernel_rfl) (by kernel_rfl) (fun _ _ _ h => h) (Or.inl ⟨by kernel_rfl, ?_⟩) (by assumption) ?_
        rotate_left
        · intro W hSw
          try dsimp only at hSw
          go_simp
          all_goals (with_reducible rfl)
        try simp only [Act.put, List.setIfInBounds_toArray, List.set_cons_zero, List.set_cons_succ]
        refine wpAnyH_take (i := 3) (oi := ⟨some 19, _, _, _, _, _⟩) (v := ?_) rfl (by kernel_rfl) (by kernel_rfl) (by kernel_rfl) (fun _ _ _ h => h) (Or.inl ⟨by kernel_rfl, ?_⟩) (by assumption) ?_
        rotate_left
        · intro W hSw
          try dsimp only at hSw
          go_simp
          all_goals (with_reducible rfl)
        try simp only [Act.put, List.setIfInBounds_toArray, List.set_cons_zero, List.set_cons_succ]
        refine wpAnyH_take (i := 4) (oi := ⟨some 20, _, _, _, _, _⟩) (v := ?_) rfl (by kernel_rfl) (by kernel_rfl) (by kernel_rfl) (fun _ _ _ h => h) (Or.inl ⟨by kernel_rfl, ?_⟩) (by assumption) ?_
        rotate_left
        · intro W hSw
          try dsimp only at hSw
          go_simp
          all_goals (with_reducible rfl)
        try simp only [Act.put, List.setIfInBounds_toArray, List.set_cons_zero, List.set_cons_succ]
        refine wpAnyH_take (i := 5) (oi := ⟨some 21, _, _, _, _, _⟩) (v := ?_) rfl (by kernel_rfl) (by kernel_rfl) (by kernel_rfl) (fun _ _ _ h => h) (Or.inl ⟨by kernel_rfl, ?_⟩) (by assumption) ?_
        rotate_left
        · intro W hSw
          try dsimp only at hSw
          go_simp
          all_goals (with_reducible rfl)
        try simp only [Act.put, List.setIfInBounds_toArray, List.set_cons_zero, List.set_cons_succ]
        refine wpAnyH_take (i := 6) (oi := ⟨some 22, _, _, _, _, _⟩) (v := ?_) rfl (by kernel_rfl) (by kernel_rfl) (by kernel_rfl) (fun _ _ _ h => h) (Or.inl ⟨by kernel_rfl, ?_⟩) (by assumption) ?_
        rotate_left
        · intro W hSw
          try dsimp only at hSw
          go_simp
          all_goals (with_reducible rfl)
        try simp only [Act.put, List.setIfInBounds_toArray, List.set_cons_zero, List.set_cons_succ]
        refine wpAnyH_take (i := 7) (oi := ⟨some 23, _, _, _, _, _⟩) rfl (by kernel_rfl) (by kernel_rfl) (by kernel_rfl) (fun _ _ _ h => h) (Or.inr ⟨by kernel_rfl, rfl⟩) (by assumption) ?_
        try simp only [Act.put, List.setIfInBounds_toArray, List.set_cons_zero, List.set_cons_succ]
        refine wpAnyH_take (i := 8) (oi := ⟨some 24, _, _, _, _, _⟩) rfl (by kernel_rfl) (by kernel_rfl) (by kernel_rfl) (fun _ _ _ h => h) (Or.inr ⟨by kernel_rfl, rfl⟩) (by assumption) ?_
        try simp only [Act.put, List.setIfInBounds_toArray, List.set_cons_zero, List.set_cons_succ]
        refine wpAnyH_take (i := 9) (oi := ⟨some 25, _, _, _, _, _⟩) rfl (by kernel_rfl) (by kernel_rfl) (by kernel_rfl) (fun _ _ _ h => h) (Or.inr ⟨by kernel_rfl, rfl⟩) (by assumption) ?_
        try simp only [Act.put, List.setIfInBounds_toArray, List.set_cons_zero, List.set_cons_succ]
        refine wpAnyH_take (i := 10) (oi := ⟨some 26, _, _, _, _, _⟩) rfl (by kernel_rfl) (by kernel_rfl) (by kernel_rfl) (fun _ _ _ h => h) (Or.inr ⟨by kernel_rfl, rfl⟩) (by assumption) ?_
        try simp only [Act.put, List.setIfInBounds_toArray, List.set_cons_zero, List.set_cons_succ]
        refine wpAnyH_take (i := 11) (oi := ⟨some 27, _, _, _, _, _⟩) rfl (by kernel_rfl) (by kernel_rfl) (by kernel_rfl) (fun _ _ _ h => h) (Or.inr ⟨by kernel_rfl, rfl⟩) (by assumption) ?_
        try simp only [Act.put, List.setIfInBounds_toArray, List.set_cons_zero, List.set_cons_succ]
        refine wpAnyH_take (i := 12) (oi := ⟨some 28, _, _, _, _, _⟩) rfl (by kernel_rfl) (by kernel_rfl) (by kernel_rfl) (fun _ _ _ h => h) (Or.inr ⟨by kernel_rfl, rfl⟩) (by assumption) ?_
        try simp only [Act.put, List.setIfInBounds_toArray, List.set_cons_zero, List.set_cons_succ]
        refine wpAnyH_take (i := 13) (oi := ⟨some 29, _, _, _, _, _⟩) rfl (by kernel_rfl) (by kernel_rfl) (by kernel_rfl) (fun _ _ _ h => h) (Or.inr ⟨by kernel_rfl, rfl⟩) (by assumption) ?_
        try simp only [Act.put, List.setIfInBounds_toArray, List.set_cons_zero, List.set_cons_succ]
        refine wpAnyH_take (i := 14) (oi := ⟨some 30, _, _, _, _, _⟩) (v := ?_) rfl (by kernel_rfl) (by kernel_rfl) (by kernel_rfl) (fun _ _ _ h => h) (Or.inl ⟨by kernel_rfl, ?_⟩) (by assumption) ?_
        rotate_left
        · intro W hSw
          try dsimp only at hSw
          go_simp
          all_goals (with_reducible rfl)
        try simp only [Act.put, List.setIfInBounds_toArray, List.set_cons_zero, List.set_cons_succ]
        refine wpAnyH_take (i := 15) (oi := ⟨some 31, _, _, _, _, _⟩) (v := ?_) rfl (by kernel_rfl) (by kernel_rfl) (by kernel_rfl) (fun _ _ _ h => h) (Or.inl ⟨by kernel_rfl, ?_⟩) (by assumption) ?_
        rotate_left
        · intro W hSw
          try dsimp only at hSw
          go_simp
          all_goals (with_reducible rfl)
        try simp only [Act.put, List.setIfInBounds_toArray, List.set_cons_zero, List.set_cons_succ]
        refine wpAnyH_take (i := 16) (oi := ⟨some 32, _, _, _, _, _⟩) rfl (by kernel_rfl) (by kernel_rfl) (by kernel_rfl) (fun _ _ _ h => h) (Or.inr ⟨by kernel_rfl, rfl⟩) (by assumption) ?_
        try simp only [Act.put, List.setIfInBounds_toArray, List.set_cons_zero, List.set_cons_succ]
        refine wpAnyH_take (i := 17) (oi := ⟨some 33, _, _, _, _, _⟩) rfl (by kernel_rfl) (by kernel_rfl) (by kernel_rfl) (fun _ _ _ h => h) (Or.inr ⟨by kernel_rfl, rfl⟩) (by assumption) ?_
        try simp only [Act.put, List.setIfInBounds_toArray, List.set_cons_zero, List.set_cons_succ]
        refine wpAnyH_take (i := 18) (oi := ⟨some 34, _, _, _, _, _⟩) rfl (by kernel_rfl) (by kernel_rfl) (by kernel_rfl) (fun _ _ _ h => h) (Or.inr ⟨by kernel_rfl, rfl⟩) (by assumption) ?_
        try simp only [Act.put, List.setIfInBounds_toArray, List.set_cons_zero, List.set_cons_succ]
        refine wpAnyH_take (i := 19) (oi := ⟨some 35, _, _, _, _, _⟩) rfl (by kernel_rfl) (by kernel_rfl) (by kernel_rfl) (fun _ _ _ h => h) (Or.inr ⟨by kernel_rfl, rfl⟩) (by assumption) ?_
        try simp only [Act.put, List.setIfInBounds_toArray, List.set_cons_zero, List.set_cons_succ]
        refine wpAnyH_take (i := 20) (oi := ⟨some 36, _, _, _, _, _⟩) rfl (by kernel_rfl) (by kernel_rfl) (by kernel_rfl) (fun _ _ _ h => h) (Or.inr ⟨by kernel_rfl, rfl⟩) (by assumption) ?_
        try simp only [Act.put, List.setIfInBounds_toArray, List.set_cons_zero, List.set_cons_succ]
        refine wpAnyH_take (i := 21) (oi := ⟨some 37, _, _, _, _, _⟩) rfl (by kernel_rfl) (by kernel_rfl) (by kernel_rfl) (fun _ _ _ h => h) (Or.inr ⟨by kernel_rfl, rfl⟩) (by assumption) ?_
        try simp only [Act.put, List.setIfInBounds_toArray, List.set_cons_zero, List.set_cons_succ]
        refine wpAnyH_take (i := 22) (oi := ⟨some 38, _, _, _, _, _⟩) rfl (by kernel_rfl) (by kernel_rfl) (by kernel_rfl) (fun _ _ _ h => h) (Or.inr ⟨by kernel_rfl, rfl⟩) (by assumption) ?_
        try simp only [Act.put, List.setIfInBounds_toArray, List.set_cons_zero, List.set_cons_succ]
        refine wpAnyH_take (i := 23) (oi := ⟨some 39, _, _, _, _, _⟩) (v := ?_) rfl (by kernel_rfl) (by kernel_rfl) (by kernel_rfl) (fun _ _ _ h => h) (Or.inl ⟨by kernel_rfl, ?_⟩) (by assumption) ?_
        rotate_left
        · intro W hSw
          try dsimp only at hSw
          go_simp
          all_goals (with_reducible rfl)
        try simp only [Act.put, List.setIfInBounds_toArray, List.set_cons_zero, List.set_cons_succ]
        refine wpAnyH_take (i := 24) (oi := ⟨some 40, _, _, _, _, _⟩) (v := ?_) rfl (by kernel_rfl) (by kernel_rfl) (by kernel_rfl) (fun _ _ _ h => h) (Or.inl ⟨by kernel_rfl, ?_⟩) (by assumption) ?_
        rotate_left
        · intro W hSw
          try dsimp only at hSw
          go_simp
          all_goals (with_reducible rfl)
        try simp only [Act.put, List.setIfInBounds_toArray, List.set_cons_zero, List.set_cons_succ]
        refine wpAnyH_take (i := 25) (oi := ⟨some 41, _, _, _, _, _⟩) rfl (by kernel_rfl) (by kernel_rfl) (by kernel_rfl) (fun _ _ _ h => h) (Or.inr ⟨by kernel_rfl, rfl⟩) (by assumption) ?_
        try simp only [Act.put, List.setIfInBounds_toArray, List.set_cons_zero, List.set_cons_succ]
        refine wpAnyH_take (i := 26) (oi := ⟨some 42, _, _, _, _, _⟩) rfl (by kernel_rfl) (by kernel_rfl) (by kernel_rfl) (fun _ _ _ h => h) (Or.inr ⟨by kernel_rfl, rfl⟩) (by assumption) ?_
        try simp only [Act.put, List.setIfInBounds_toArray, List.set_cons_zero, List.set_cons_succ]
        refine wpAnyH_take (i := 27) (oi := ⟨some 43, _, _, _, _, _⟩) rfl (by kernel_rfl) (by kernel_rfl) (by kernel_rfl) (fun _ _ _ h => h) (Or.inr ⟨by kernel_rfl, rfl⟩) (by assumption) ?_
        try simp only [Act.put, List.setIfInBounds_toArray, List.set_cons_zero, List.set_cons_succ]
        refine wpAnyH_take (i := 28) (oi := ⟨some 44, _, _, _, _, _⟩) rfl (by kernel_rfl) (by kernel_rfl) (by kernel_rfl) (fun _ _ _ h => h) (Or.inr ⟨by kernel_rfl, rfl⟩) (by assumption) ?_
        try simp only [Act.put, List.setIfInBounds_toArray, List.set_cons_zero, List.set_cons_succ]
        refine wpAnyH_take (i := 29) (oi := ⟨some 45, _, _, _, _, _⟩) rfl (by kernel_rfl) (by kernel_rfl) (by kernel_rfl) (fun _ _ _ h => h) (Or.inr ⟨by kernel_rfl, rfl⟩) (by assumption) ?_
        try simp only [Act.put, List.setIfInBounds_toArray, List.set_cons_zero, List.set_cons_succ]
        refine wpAnyH_take (i := 30) (oi := ⟨some 46, _, _, _, _, _⟩) rfl (by kernel_rfl) (by kernel_rfl) (by kernel_rfl) (fun _ _ _ h => h) (Or.inr ⟨by kernel_rfl, rfl⟩) (by assumption) ?_
        try simp only [Act.put, List.setIfInBounds_toArray, List.set_cons_zero, List.set_cons_succ]
        refine wpAnyH_take (i := 31) (oi := ⟨some 47, _, _, _, _, _⟩) rfl (by kernel_rfl) (by kernel_rfl) (by kernel_rfl) (fun _ _ _ h => h) (Or.inr ⟨by kernel_rfl, rfl⟩) (by assumption) ?_
        try simp only [Act.put, List.setIfInBounds_toArray, List.set_cons_zero, List.set_cons_succ]
        refine wpAnyH_take (i := 32) (oi := ⟨some 48, _, _, _, _, _⟩) (v := ?_) rfl (by kernel_rfl) (by kernel_rfl) (by kernel_rfl) (fun _ _ _ h => h) (Or.inl ⟨by kernel_rfl, ?_⟩) (by assumption) ?_
        rotate_left
        · intro W hSw
          try dsimp only at hSw
          go_simp
          all_goals (with_reducible rfl)
        try simp only [Act.put, List.setIfInBounds_toArray, List.set_cons_zero, List.set_cons_succ]
        refine wpAnyH_done (by kernel_rfl) ?_ _
        go_wp2
        exact ⟨⟨k + 1, by omega, by go_num, HNN.out, HW.out, HBW.out⟩, by simp [intOf]; omega⟩
      have b1 : (r.cls == 1) = true := by rw [e1]; rfl
      by_cases e2 : r.kind = kd
      case neg =>
        have b2 : (r.kind == kd) = false := beq_eq_false_iff_ne.2 e2
        have HNN := Lib.hid (HNO.out (by unfold isB; rw [decide_eq_false e2]; simp))
        clear e1 e2
        refine wp_region_held_drew (S := fun W => ((W.cell? ⟨b, off + k * 9, none⟩ = some (.slice x.A r.name.length x.c) ∧ W.cell? ⟨b, off + k * 9 + 1, none⟩ = some (.int .i64 r.kind) ∧ W.cell? ⟨b, off + k * 9 + 2, none⟩ = some (.int .i64 r.cls) ∧ W.cell? ⟨b, off + k * 9 + 4, none⟩ = some (.slice x.d.Ab r.data.bytes.length x.d.cb) ∧ W.cell? ⟨b, off + k * 9 + 5, none⟩ = some (.slice x.d.Ah r.data.host.length x.d.ch) ∧ W.cell? ⟨b, off + k * 9 + 6, none⟩ = some (.slice x.d.Am r.data.mail.length x.d.cm) ∧ W.cell? ⟨b, off + k * 9 + 7, none⟩ = some (.slice x.d.An r.data.nums.length x.d.cn) ∧ W.cell? ⟨b, off + k * 9 + 8, none⟩ = some (.slice x.d.At r.data.texts.length x.d.ct)) ∧ (W.cell? ⟨w.heap.size, 0, none⟩ = some (.slice z.Ab d.bytes.length z.cb) ∧ W.cell? ⟨w.heap.size, 1, none⟩ = some (.slice z.Ah d.host.length z.ch) ∧ W.cell? ⟨w.heap.size, 2, none⟩ = some (.slice z.Am d.mail.length z.cm) ∧ W.cell? ⟨w.heap.size, 3, none⟩ = some (.slice z.An d.nums.length z.cn) ∧ W.cell? ⟨w.heap.size, 4, none⟩ = some (.slice z.At d.texts.length z.ct)))) (by kernel_rfl) (by exact HCS.out _ HBW.out HW.out) (fun hHeld => ?_)
        refine wpAnyH_take (i := 0) (oi := ⟨some 16, _, _, _, _, _⟩) (v := ?_) rfl (by kernel_rfl) (by kernel_rfl) (by kernel_rfl) (fun _ _ _ h => h) (Or.inl ⟨by kernel_rfl, ?_⟩) (by assumption) ?_
        rotate_left
        · intro W hSw
          try dsimp only at hSw
          go_simp
          all_goals (with_reducible rfl)
        try simp only [Act.put, List.setIfInBounds_toArray, List.set_cons_zero, List.set_cons_succ]
        refine wpAnyH_take (i := 1) (oi := ⟨some 17, _, _, _, _, _⟩) (v := ?_) rfl (by kernel_rfl) (by kernel_rfl) (by kernel_rfl) (fun _ _ _ h => h) (Or.inl ⟨by kernel_rfl, ?_⟩) (by assumption) ?_
        rotate_left
        · intro W hSw
          try dsimp only at hSw
          go_simp
          all_goals (with_reducible rfl)
        try simp only [Act.put, List.setIfInBounds_toArray, List.set_cons_zero, List.set_cons_succ]
        refine wpAnyH_take (i := 2) (oi := ⟨some 18, _, _, _, _, _⟩) (v := ?_) rfl (by kernel_rfl) (by kernel_rfl) (by kernel_rfl) (fun _ _ _ h => h) (Or.inl ⟨by kernel_rfl, ?_⟩) (by assumption) ?_
        rotate_left
        · intro W hSw
          try dsimp only at hSw
          go_simp
          all_goals (with_reducible rfl)
        try simp only [Act.put, List.setIfInBounds_toArray, List.set_cons_zero, List.set_cons_succ]
        refine wpAnyH_take (i := 3) (oi := ⟨some 19, _, _, _, _, _⟩) (v := ?_) rfl (by kernel_rfl) (by kernel_rfl) (by kernel_rfl) (fun _ _ _ h => h) (Or.inl ⟨by kernel_rfl, ?_⟩) (by assumption) ?_
        rotate_left
        · intro W hSw
          try dsimp only at hSw
          go_simp
          all_goals (with_reducible rfl)
        try simp only [Act.put, List.setIfInBounds_toArray, List.set_cons_zero, List.set_cons_succ]
        refine wpAnyH_take (i := 4) (oi := ⟨some 20, _, _, _, _, _⟩) (v := ?_) rfl (by kernel_rfl) (by kernel_rfl) (by kernel_rfl) (fun _ _ _ h => h) (Or.inl ⟨by kernel_rfl, ?_⟩) (by assumption) ?_
        rotate_left
        · intro W hSw
          try dsimp only at hSw
          go_simp
          all_goals (with_reducible rfl)
        try simp only [Act.put, List.setIfInBounds_toArray, List.set_cons_zero, List.set_cons_succ]
        refine wpAnyH_take (i := 5) (oi := ⟨some 21, _, _, _, _, _⟩) (v := ?_) rfl (by kernel_rfl) (by kernel_rfl) (by kernel_rfl) (fun _ _ _ h => h) (Or.inl ⟨by kernel_rfl, ?_⟩) (by assumption) ?_
        rotate_left
        · intro W hSw
          try dsimp only at hSw
          go_simp
          all_goals (with_reducible rfl)
        try simp only [Act.put, List.setIfInBounds_toArray, List.set_cons_zero, List.set_cons_succ]
        refine wpAnyH_take (i := 6) (oi := ⟨some 22, _, _, _, _, _⟩) (v := ?_) rfl (by kernel_rfl) (by kernel_rfl) (by kernel_rfl) (fun _ _ _ h => h) (Or.inl ⟨by kernel_rfl, ?_⟩) (by assumption) ?_
        rotate_left
        · intro W hSw
          try dsimp only at hSw
          go_simp
          all_goals (with_reducible rfl)
        try simp only [Act.put, List.setIfInBounds_toArray, List.set_cons_zero, List.set_cons_succ]
        refine wpAnyH_take (i := 7) (oi := ⟨some 23, _, _, _, _, _⟩) (v := ?_) rfl (by kernel_rfl) (by kernel_rfl) (by kernel_rfl) (fun _ _ _ h => h) (Or.inl ⟨by kernel_rfl, ?_⟩) (by assumption) ?_
        rotate_left
        · intro W hSw
          try dsimp only at hSw
          go_simp
          all_goals (with_reducible rfl)
        try simp only [Act.put, List.setIfInBounds_toArray, List.set_cons_zero, List.set_cons_succ]
        refine wpAnyH_take (i := 8) (oi := ⟨some 24, _, _, _, _, _⟩) (v := ?_) rfl (by kernel_rfl) (by kernel_rfl) (by kernel_rfl) (fun _ _ _ h => h) (Or.inl ⟨by kernel_rfl, ?_⟩) (by assumption) ?_
        rotate_left
        · intro W hSw
          try dsimp only at hSw
          go_simp
          all_goals (with_reducible rfl)
        try simp only [Act.put, List.setIfInBounds_toArray, List.set_cons_zero, List.set_cons_succ]
        refine wpAnyH_take (i := 9) (oi := ⟨some 25, _, _, _, _, _⟩) (v := ?_) rfl (by kernel_rfl) (by kernel_rfl) (by kernel_rfl) (fun _ _ _ h => h) (Or.inl ⟨by kernel_rfl, ?_⟩) (by assumption) ?_
        rotate_left
        · intro W hSw
          try dsimp only at hSw
          go_simp
          all_goals (with_reducible rfl)
        try simp only [Act.put, List.setIfInBounds_toArray, List.set_cons_zero, List.set_cons_succ]
        refine wpAnyH_take (i := 10) (oi := ⟨some 26, _, _, _, _, _⟩) (v := ?_) rfl (by kernel_rfl) (by kernel_rfl) (by kernel_rfl) (fun _ _ _ h => h) (Or.inl ⟨by kernel_rfl, ?_⟩) (by assumption) ?_
        rotate_left
        · intro W hSw
          try dsimp only at hSw
          go_simp
          all_goals (with_reducible rfl)
        try simp only [Act.put, List.setIfInBounds_toArray, List.set_cons_zero, List.set_cons_succ]
        refine wpAnyH_take (i := 11) (oi := ⟨some 27, _, _, _, _, _⟩) (v := ?_) rfl (by kernel_rfl) (by kernel_rfl) (by kernel_rfl) (fun _ _ _ h => h) (Or.inl ⟨by kernel_rfl, ?_⟩) (by assumption) ?_
        rotate_left
        · intro W hSw
          try dsimp only at hSw
          go_simp
          all_goals (with_reducible rfl)
        try simp only [Act.put, List.setIfInBounds_toArray, List.set_cons_zero, List.set_cons_succ]
        refine wpAnyH_take (i := 12) (oi := ⟨some 28, _, _, _, _, _⟩) (v := ?_) rfl (by kernel_rfl) (by kernel_rfl) (by kernel_rfl) (fun _ _ _ h => h) (Or.inl ⟨by kernel_rfl, ?_⟩) (by assumption) ?_
        rotate_left
        · intro W hSw
          try dsimp only at hSw
          go_simp
          all_goals (with_reducible rfl)
        try simp only [Act.put, List.setIfInBounds_toArray, List.set_cons_zero, List.set_cons_succ]
        refine wpAnyH_take (i := 13) (oi := ⟨some 29, _, _, _, _, _⟩) (v := ?_) rfl (by kernel_rfl) (by kernel_rfl) (by kernel_rfl) (fun _ _ _ h => h) (Or.inl ⟨by kernel_rfl, ?_⟩) (by assumption) ?_
        rotate_left
        · intro W hSw
          try dsimp only at hSw
          go_simp
          all_goals (with_reducible rfl)
        try simp only [Act.put, List.setIfInBounds_toArray, List.set_cons_zero, List.set_cons_succ]
        refine wpAnyH_take (i := 14) (oi := ⟨some 30, _, _, _, _, _⟩) (v := ?_) rfl (by kernel_rfl) (by kernel_rfl) (by kernel_rfl) (fun _ _ _ h => h) (Or.inl ⟨by kernel_rfl, ?_⟩) (by assumption) ?_
        rotate_left
        · intro W hSw
          try dsimp only at hSw
          go_simp
          all_goals (with_reducible rfl)
        try simp only [Act.put, List.setIfInBounds_toArray, List.set_cons_zero, List.set_cons_succ]
        refine wpAnyH_take (i := 15) (oi := ⟨some 31, _, _, _, _, _⟩) (v := ?_) rfl (by kernel_rfl) (by kernel_rfl) (by kernel_rfl) (fun _ _ _ h => h) (Or.inl ⟨by kernel_rfl, ?_⟩) (by assumption) ?_
        rotate_left
        · intro W hSw
          try dsimp only at hSw
          go_simp
          all_goals (with_reducible rfl)
        try simp only [Act.put, List.setIfInBounds_toArray, List.set_cons_zero, List.set_cons_succ]
        refine wpAnyH_take (i := 16) (oi := ⟨some 32, _, _, _, _, _⟩) rfl (by kernel_rfl) (by kernel_rfl) (by kernel_rfl) (fun _ _ _ h => h) (Or.inr ⟨by kernel_rfl, rfl⟩) (by assumption) ?_
        try simp only [Act.put, List.setIfInBounds_toArray, List.set_cons_zero, List.set_cons_succ]
        refine wpAnyH_take (i := 17) (oi := ⟨some 33, _, _, _, _, _⟩) rfl (by kernel_rfl) (by kernel_rfl) (by kernel_rfl) (fun _ _ _ h => h) (Or.inr ⟨by kernel_rfl, rfl⟩) (by assumption) ?_
        try simp only [Act.put, List.setIfInBounds_toArray, List.set_cons_zero, List.set_cons_succ]
        refine wpAnyH_take (i := 18) (oi := ⟨some 34, _, _, _, _, _⟩) rfl (by kernel_rfl) (by kernel_rfl) (by kernel_rfl) (fun _ _ _ h => h) (Or.inr ⟨by kernel_rfl, rfl⟩) (by assumption) ?_
        try simp only [Act.put, List.setIfInBounds_toArray, List.set_cons_zero, List.set_cons_succ]
        refine wpAnyH_take (i := 19) (oi := ⟨some 35, _, _, _, _, _⟩) rfl (by kernel_rfl) (by kernel_rfl) (by kernel_rfl) (fun _ _ _ h => h) (Or.inr ⟨by kernel_rfl, rfl⟩) (by assumption) ?_
        try simp only [Act.put, List.setIfInBounds_toArray, List.set_cons_zero, List.set_cons_succ]
        refine wpAnyH_take (i := 20) (oi := ⟨some 36, _, _, _, _, _⟩) rfl (by kernel_rfl) (by kernel_rfl) (by kernel_rfl) (fun _ _ _ h => h) (Or.inr ⟨by kernel_rfl, rfl⟩) (by assumption) ?_
        try simp only [Act.put, List.setIfInBounds_toArray, List.set_cons_zero, List.set_cons_succ]
        refine wpAnyH_take (i := 21) (oi := ⟨some 37, _, _, _, _, _⟩) rfl (by kernel_rfl) (by kernel_rfl) (by kernel_rfl) (fun _ _ _ h => h) (Or.inr ⟨by kernel_rfl, rfl⟩) (by assumption) ?_
        try simp only [Act.put, List.setIfInBounds_toArray, List.set_cons_zero, List.set_cons_succ]
        refine wpAnyH_take (i := 22) (oi := ⟨some 38, _, _, _, _, _⟩) rfl (by kernel_rfl) (by kernel_rfl) (by kernel_rfl) (fun _ _ _ h => h) (Or.inr ⟨by kernel_rfl, rfl⟩) (by assumption) ?_
        try simp only [Act.put, List.setIfInBounds_toArray, List.set_cons_zero, List.set_cons_succ]
        refine wpAnyH_take (i := 23) (oi := ⟨some 39, _, _, _, _, _⟩) (v := ?_) rfl (by kernel_rfl) (by kernel_rfl) (by kernel_rfl) (fun _ _ _ h => h) (Or.inl ⟨by kernel_rfl, ?_⟩) (by assumption) ?_
        rotate_left
        · intro W hSw
          try dsimp only at hSw
          go_simp
          all_goals (with_reducible rfl)
        try simp only [Act.put, List.setIfInBounds_toArray, List.set_cons_zero, List.set_cons_succ]
        refine wpAnyH_take (i := 24) (oi := ⟨some 40, _, _, _, _, _⟩) (v := ?_) rfl (by kernel_rfl) (by kernel_rfl) (by kernel_rfl) (fun _ _ _ h => h) (Or.inl ⟨by kernel_rfl, ?_⟩) (by assumption) ?_
        rotate_left
        · intro W hSw
          try dsimp only at hSw
          go_simp
          all_goals (with_reducible rfl)
        try simp only [Act.put, List.setIfInBounds_toArray, List.set_cons_zero, List.set_cons_succ]
        refine wpAnyH_take (i := 25) (oi := ⟨some 41, _, _, _, _, _⟩) rfl (by kernel_rfl) (by kernel_rfl) (by kernel_rfl) (fun _ _ _ h => h) (Or.inr ⟨by kernel_rfl, rfl⟩) (by assumption) ?_
        try simp only [Act.put, List.setIfInBounds_toArray, List.set_cons_zero, List.set_cons_succ]
        refine wpAnyH_take (i := 26) (oi := ⟨some 42, _, _, _, _, _⟩) rfl (by kernel_rfl) (by kernel_rfl) (by kernel_rfl) (fun _ _ _ h => h) (Or.inr ⟨by kernel_rfl, rfl⟩) (by assumption) ?_
        try simp only [Act.put, List.setIfInBounds_toArray, List.set_cons_zero, List.set_cons_succ]
        refine wpAnyH_take (i := 27) (oi := ⟨some 43, _, _, _, _, _⟩) rfl (by kernel_rfl) (by kernel_rfl) (by kernel_rfl) (fun _ _ _ h => h) (Or.inr ⟨by kernel_rfl, rfl⟩) (by assumption) ?_
        try simp only [Act.put, List.setIfInBounds_toArray, List.set_cons_zero, List.set_cons_succ]
        refine wpAnyH_take (i := 28) (oi := ⟨some 44, _, _, _, _, _⟩) rfl (by kernel_rfl) (by kernel_rfl) (by kernel_rfl) (fun _ _ _ h => h) (Or.inr ⟨by kernel_rfl, rfl⟩) (by assumption) ?_
        try simp only [Act.put, List.setIfInBounds_toArray, List.set_cons_zero, List.set_cons_succ]
        refine wpAnyH_take (i := 29) (oi := ⟨some 45, _, _, _, _, _⟩) rfl (by kernel_rfl) (by kernel_rfl) (by kernel_rfl) (fun _ _ _ h => h) (Or.inr ⟨by kernel_rfl, rfl⟩) (by assumption) ?_
        try simp only [Act.put, List.setIfInBounds_toArray, List.set_cons_zero, List.set_cons_succ]
        refine wpAnyH_take (i := 30) (oi := ⟨some 46, _, _, _, _, _⟩) rfl (by kernel_rfl) (by kernel_rfl) (by kernel_rfl) (fun _ _ _ h => h) (Or.inr ⟨by kernel_rfl, rfl⟩) (by assumption) ?_
        try simp only [Act.put, List.setIfInBounds_toArray, List.set_cons_zero, List.set_cons_succ]
        refine wpAnyH_take (i := 31) (oi := ⟨some 47, _, _, _, _, _⟩) rfl (by kernel_rfl) (by kernel_rfl) (by kernel_rfl) (fun _ _ _ h => h) (Or.inr ⟨by kernel_rfl, rfl⟩) (by assumption) ?_
        try simp only [Act.put, List.setIfInBounds_toArray, List.set_cons_zero, List.set_cons_succ]
        refine wpAnyH_take (i := 32) (oi := ⟨some 48, _, _, _, _, _⟩) (v := ?_) rfl (by kernel_rfl) (by kernel_rfl) (by kernel_rfl) (fun _ _ _ h => h) (Or.inl ⟨by kernel_rfl, ?_⟩) (by assumption) ?_
        rotate_left
        · intro W hSw
          try dsimp only at hSw
          go_simp
          all_goals (with_reducible rfl)
        try simp only [Act.put, List.setIfInBounds_toArray, List.set_cons_zero, List.set_cons_succ]
        refine wpAnyH_done (by kernel_rfl) ?_ _
        go_wp2
        exact ⟨⟨k + 1, by omega, by go_num, HNN.out, HW.out, HBW.out⟩, by simp [intOf]; omega⟩
      have b2 : (r.kind == kd) = true := by rw [e2]; simp
      cases e3 : eqN r.name n with
      | false =>
        rw [e3] at HEQ
        have HNN := Lib.hid (HNO.out (by unfold isB; rw [e3]; simp))
        clear e1 e2 e3
        refine wp_region_held_drew (S := fun W => ((W.cell? ⟨b, off + k * 9, none⟩ = some (.slice x.A r.name.length x.c) ∧ W.cell? ⟨b, off + k * 9 + 1, none⟩ = some (.int .i64 r.kind) ∧ W.cell? ⟨b, off + k * 9 + 2, none⟩ = some (.int .i64 r.cls) ∧ W.cell? ⟨b, off + k * 9 + 4, none⟩ = some (.slice x.d.Ab r.data.bytes.length x.d.cb) ∧ W.cell? ⟨b, off + k * 9 + 5, none⟩ = some (.slice x.d.Ah r.data.host.length x.d.ch) ∧ W.cell? ⟨b, off + k * 9 + 6, none⟩ = some (.slice x.d.Am r.data.mail.length x.d.cm) ∧ W.cell? ⟨b, off + k * 9 + 7, none⟩ = some (.slice x.d.An r.data.nums.length x.d.cn) ∧ W.cell? ⟨b, off + k * 9 + 8, none⟩ = some (.slice x.d.At r.data.texts.length x.d.ct)) ∧ (W.cell? ⟨w.heap.size, 0, none⟩ = some (.slice z.Ab d.bytes.length z.cb) ∧ W.cell? ⟨w.heap.size, 1, none⟩ = some (.slice z.Ah d.host.length z.ch) ∧ W.cell? ⟨w.heap.size, 2, none⟩ = some (.slice z.Am d.mail.length z.cm) ∧ W.cell? ⟨w.heap.size, 3, none⟩ = some (.slice z.An d.nums.length z.cn) ∧ W.cell? ⟨w.heap.size, 4, none⟩ = some (.slice z.At d.texts.length z.ct)))) (by kernel_rfl) (by exact HCS.out _ HBW.out HW.out) (fun hHeld => ?_)
        refine wpAnyH_take (i := 0) (oi := ⟨some 16, _, _, _, _, _⟩) (v := ?_) rfl (by kernel_rfl) (by kernel_rfl) (by kernel_rfl) (fun _ _ _ h => h) (Or.inl ⟨by kernel_rfl, ?_⟩) (by assumption) ?_
        rotate_left
        · intro W hSw
          try dsimp only at hSw
          go_simp
          all_goals (with_reducible rfl)
        try simp only [Act.put, List.setIfInBounds_toArray, List.set_cons_zero, List.set_cons_succ]
        refine wpAnyH_take (i := 1) (oi := ⟨some 17, _, _, _, _, _⟩) (v := ?_) rfl (by kernel_rfl) (by kernel_rfl) (by kernel_rfl) (fun _ _ _ h => h) (Or.inl ⟨by kernel_rfl, ?_⟩) (by assumption) ?_
        rotate_left
        · intro W hSw
          try dsimp only at hSw
          go_simp
          all_goals (with_reducible rfl)
        try simp only [Act.put, List.setIfInBounds_toArray, List.set_cons_zero, List.set_cons_succ]
        refine wpAnyH_take (i := 2) (oi := ⟨some 18, _, _, _, _, _⟩) (v := ?_) rfl (by kernel_rfl) (by kernel_rfl) (by kernel_rfl) (fun _ _ _ h => h) (Or.inl ⟨by kernel_rfl, ?_⟩) (by assumption) ?_
        rotate_left
        · intro W hSw
          try dsimp only at hSw
          go_simp
          all_goals (with_reducible rfl)
        try simp only [Act.put, List.setIfInBounds_toArray, List.set_cons_zero, List.set_cons_succ]
        refine wpAnyH_take (i := 3) (oi := ⟨some 19, _, _, _, _, _⟩) (v := ?_) rfl (by kernel_rfl) (by kernel_rfl) (by kernel_rfl) (fun _ _ _ h => h) (Or.inl ⟨by kernel_rfl, ?_⟩) (by assumption) ?_
        rotate_left
        · intro W hSw
          try dsimp only at hSw
          go_simp
          all_goals (with_reducible rfl)
        try simp only [Act.put, List.setIfInBounds_toArray, List.set_cons_zero, List.set_cons_succ]
        refine wpAnyH_take (i := 4) (oi := ⟨some 20, _, _, _, _, _⟩) (v := ?_) rfl (by kernel_rfl) (by kernel_rfl) (by kernel_rfl) (fun _ _ _ h => h) (Or.inl ⟨by kernel_rfl, ?_⟩) (by assumption) ?_
        rotate_left
        · intro W hSw
          try dsimp only at hSw
          go_simp
          all_goals (with_reducible rfl)
        try simp only [Act.put, List.setIfInBounds_toArray, List.set_cons_zero, List.set_cons_succ]
        refine wpAnyH_take (i := 5) (oi := ⟨some 21, _, _, _, _, _⟩) (v := ?_) rfl (by kernel_rfl) (by kernel_rfl) (by kernel_rfl) (fun _ _ _ h => h) (Or.inl ⟨by kernel_rfl, ?_⟩) (by assumption) ?_
        rotate_left
        · intro W hSw
          try dsimp only at hSw
          go_simp
          all_goals (with_reducible rfl)
        try simp only [Act.put, List.setIfInBounds_toArray, List.set_cons_zero, List.set_cons_succ]
        refine wpAnyH_take (i := 6) (oi := ⟨some 22, _, _, _, _, _⟩) (v := ?_) rfl (by kernel_rfl) (by kernel_rfl) (by kernel_rfl) (fun _ _ _ h => h) (Or.inl ⟨by kernel_rfl, ?_⟩) (by assumption) ?_
        rotate_left
        · intro W hSw
          try dsimp only at hSw
          go_simp
          all_goals (with_reducible rfl)
        try simp only [Act.put, List.setIfInBounds_toArray, List.set_cons_zero, List.set_cons_succ]
        refine wpAnyH_take (i := 7) (oi := ⟨some 23, _, _, _, _, _⟩) (v := ?_) rfl (by kernel_rfl) (by kernel_rfl) (by kernel_rfl) (fun _ _ _ h => h) (Or.inl ⟨by kernel_rfl, ?_⟩) (by assumption) ?_
        rotate_left
        · intro W hSw
          try dsimp only at hSw
          go_simp
          all_goals (with_reducible rfl)
        try simp only [Act.put, List.setIfInBounds_toArray, List.set_cons_zero, List.set_cons_succ]
        refine wpAnyH_take (i := 8) (oi := ⟨some 24, _, _, _, _, _⟩) (v := ?_) rfl (by kernel_rfl) (by kernel_rfl) (by kernel_rfl) (fun _ _ _ h => h) (Or.inl ⟨by kernel_rfl, ?_⟩) (by assumption) ?_
        rotate_left
        · intro W hSw
          try dsimp only at hSw
          go_simp
          all_goals (with_reducible rfl)
        try simp only [Act.put, List.setIfInBounds_toArray, List.set_cons_zero, List.set_cons_succ]
        refine wpAnyH_take (i := 9) (oi := ⟨some 25, _, _, _, _, _⟩) (v := ?_) rfl (by kernel_rfl) (by kernel_rfl) (by kernel_rfl) (fun _ _ _ h => h) (Or.inl ⟨by kernel_rfl, ?_⟩) (by assumption) ?_
        rotate_left
        · intro W hSw
          try dsimp only at hSw
          go_simp
          all_goals (with_reducible rfl)
        try simp only [Act.put, List.setIfInBounds_toArray, List.set_cons_zero, List.set_cons_succ]
        refine wpAnyH_take (i := 10) (oi := ⟨some 26, _, _, _, _, _⟩) (v := ?_) rfl (by kernel_rfl) (by kernel_rfl) (by kernel_rfl) (fun _ _ _ h => h) (Or.inl ⟨by kernel_rfl, ?_⟩) (by assumption) ?_
        rotate_left
        · intro W hSw
          try dsimp only at hSw
          go_simp
          all_goals (with_reducible rfl)
        try simp only [Act.put, List.setIfInBounds_toArray, List.set_cons_zero, List.set_cons_succ]
        refine wpAnyH_take (i := 11) (oi := ⟨some 27, _, _, _, _, _⟩) (v := ?_) rfl (by kernel_rfl) (by kernel_rfl) (by kernel_rfl) (fun _ _ _ h => h) (Or.inl ⟨by kernel_rfl, ?_⟩) (by assumption) ?_
        rotate_left
        · intro W hSw
          try dsimp only at hSw
          go_simp
          all_goals (with_reducible rfl)
        try simp only [Act.put, List.setIfInBounds_toArray, List.set_cons_zero, List.set_cons_succ]
        refine wpAnyH_take (i := 12) (oi := ⟨some 28, _, _, _, _, _⟩) (v := ?_) rfl (by kernel_rfl) (by kernel_rfl) (by kernel_rfl) (fun _ _ _ h => h) (Or.inl ⟨by kernel_rfl, ?_⟩) (by assumption) ?_
        rotate_left
        · intro W hSw
          try dsimp only at hSw
          go_simp
          all_goals (with_reducible rfl)
        try simp only [Act.put, List.setIfInBounds_toArray, List.set_cons_zero, List.set_cons_succ]
        refine wpAnyH_take (i := 13) (oi := ⟨some 29, _, _, _, _, _⟩) (v := ?_) rfl (by kernel_rfl) (by kernel_rfl) (by kernel_rfl) (fun _ _ _ h => h) (Or.inl ⟨by kernel_rfl, ?_⟩) (by assumption) ?_
        rotate_left
        · intro W hSw
          try dsimp only at hSw
          go_simp
          all_goals (with_reducible rfl)
        try simp only [Act.put, List.setIfInBounds_toArray, List.set_cons_zero, List.set_cons_succ]
        refine wpAnyH_take (i := 14) (oi := ⟨some 30, _, _, _, _, _⟩) (v := ?_) rfl (by kernel_rfl) (by kernel_rfl) (by kernel_rfl) (fun _ _ _ h => h) (Or.inl ⟨by kernel_rfl, ?_⟩) (by assumption) ?_
        rotate_left
        · intro W hSw
          try dsimp only at hSw
          go_simp
          all_goals (with_reducible rfl)
        try simp only [Act.put, List.setIfInBounds_toArray, List.set_cons_zero, List.set_cons_succ]
        refine wpAnyH_take (i := 15) (oi := ⟨some 31, _, _, _, _, _⟩) (v := ?_) rfl (by kernel_rfl) (by kernel_rfl) (by kernel_rfl) (fun _ _ _ h => h) (Or.inl ⟨by kernel_rfl, ?_⟩) (by assumption) ?_
        rotate_left
        · intro W hSw
          try dsimp only at hSw
          go_simp
          all_goals (with_reducible rfl)
        try simp only [Act.put, List.setIfInBounds_toArray, List.set_cons_zero, List.set_cons_succ]
        refine wpAnyH_take (i := 16) (oi := ⟨some 32, _, _, _, _, _⟩) (v := ?_) rfl (by kernel_rfl) (by kernel_rfl) (by kernel_rfl) (fun _ _ _ h => h) (Or.inl ⟨by kernel_rfl, ?_⟩) (by assumption) ?_
        rotate_left
        · intro W hSw
          try dsimp only at hSw
          go_simp
          all_goals (with_reducible rfl)
        try simp only [Act.put, List.setIfInBounds_toArray, List.set_cons_zero, List.set_cons_succ]
        refine wpAnyH_take (i := 17) (oi := ⟨some 33, _, _, _, _, _⟩) (v := ?_) rfl (by kernel_rfl) (by kernel_rfl) (by kernel_rfl) (fun _ _ _ h => h) (Or.inl ⟨by kernel_rfl, ?_⟩) (by assumption) ?_
        rotate_left
        · intro W hSw
          try dsimp only at hSw
          go_simp
          all_goals (with_reducible rfl)
        try simp only [Act.put, List.setIfInBounds_toArray, List.set_cons_zero, List.set_cons_succ]
        refine wpAnyH_take (i := 18) (oi := ⟨some 34, _, _, _, _, _⟩) (v := ?_) rfl (by kernel_rfl) (by kernel_rfl) (by kernel_rfl) (fun _ _ _ h => h) (Or.inl ⟨by kernel_rfl, ?_⟩) (by assumption) ?_
        rotate_left
        · intro W hSw
          try dsimp only at hSw
          go_simp
          all_goals (with_reducible rfl)
        try simp only [Act.put, List.setIfInBounds_toArray, List.set_cons_zero, List.set_cons_succ]
        refine wpAnyH_take (i := 19) (oi := ⟨some 35, _, _, _, _, _⟩) (v := ?_) rfl (by kernel_rfl) (by kernel_rfl) (by kernel_rfl) (fun _ _ _ h => h) (Or.inl ⟨by kernel_rfl, ?_⟩) (by assumption) ?_
        rotate_left
        · intro W hSw
          try dsimp only at hSw
          go_simp
          all_goals (with_reducible rfl)
        try simp only [Act.put, List.setIfInBounds_toArray, List.set_cons_zero, List.set_cons_succ]
        refine wpAnyH_take (i := 20) (oi := ⟨some 36, _, _, _, _, _⟩) (v := ?_) rfl (by kernel_rfl) (by kernel_rfl) (by kernel_rfl) (fun _ _ _ h => h) (Or.inl ⟨by kernel_rfl, ?_⟩) (by assumption) ?_
        rotate_left
        · intro W hSw
          try dsimp only at hSw
          go_simp
          all_goals (with_reducible rfl)
        try simp only [Act.put, List.setIfInBounds_toArray, List.set_cons_zero, List.set_cons_succ]
        refine wpAnyH_take (i := 21) (oi := ⟨some 37, _, _, _, _, _⟩) (v := ?_) rfl (by kernel_rfl) (by kernel_rfl) (by kernel_rfl) (fun _ _ _ h => h) (Or.inl ⟨by kernel_rfl, ?_⟩) (by assumption) ?_
        rotate_left
        · intro W hSw
          try dsimp only at hSw
          go_simp
          all_goals (with_reducible rfl)
        try simp only [Act.put, List.setIfInBounds_toArray, List.set_cons_zero, List.set_cons_succ]
        refine wpAnyH_ready (rs := [22]) (by kernel_rfl) (by simp) ?_
        refine AllReadyH.cons (o := { dst := some 38, op := Go.Op.call { callee := Go.Callee.value (Go.Operand.func 26), args := #[Go.Operand.tmp 36, Go.Operand.tmp 37], argTypes := #[22, 22] }, type := 4, pos := "law.go:90", after := #[{ on := 20, ground := Go.Ground.data }, { on := 21, ground := Go.Ground.data }, { on := 15, ground := Go.Ground.chain }, { on := 15, ground := Go.Ground.guard }], guard := some (15, true) }) rfl (fun K hK => ?_) AllReadyH.nil
        go_simp
        refine (HEQ.out _ HBW.out).mono ?_
        rintro e w1 ⟨rfl, hb1⟩
        have HB1 := Lib.hid (HBW.out.trans (hb1.mono HBW.out.size))
        have HW1 := Lib.hid (HW.out.below hb1 HW.out.lt)
        clear hb1
        refine hK.out _ _ (by exact HCS.out _ HB1.out HW1.out) (fun hHeld2 => ?_)
        clear hK K hHeld
        have hHeld := hHeld2
        clear hHeld2
        try simp only [Act.put, List.setIfInBounds_toArray, List.set_cons_zero, List.set_cons_succ]
        refine wpAnyH_take (i := 23) (oi := ⟨some 39, _, _, _, _, _⟩) (v := ?_) rfl (by kernel_rfl) (by kernel_rfl) (by kernel_rfl) (fun _ _ _ h => h) (Or.inl ⟨by kernel_rfl, ?_⟩) (by assumption) ?_
        rotate_left
        · intro W hSw
          try dsimp only at hSw
          go_simp
          all_goals (with_reducible rfl)
        try simp only [Act.put, List.setIfInBounds_toArray, List.set_cons_zero, List.set_cons_succ]
        refine wpAnyH_take (i := 24) (oi := ⟨some 40, _, _, _, _, _⟩) (v := ?_) rfl (by kernel_rfl) (by kernel_rfl) (by kernel_rfl) (fun _ _ _ h => h) (Or.inl ⟨by kernel_rfl, ?_⟩) (by assumption) ?_
        rotate_left
        · intro W hSw
          try dsimp only at hSw
          go_simp
          all_goals (with_reducible rfl)
        try simp only [Act.put, List.setIfInBounds_toArray, List.set_cons_zero, List.set_cons_succ]
        refine wpAnyH_take (i := 25) (oi := ⟨some 41, _, _, _, _, _⟩) rfl (by kernel_rfl) (by kernel_rfl) (by kernel_rfl) (fun _ _ _ h => h) (Or.inr ⟨by kernel_rfl, rfl⟩) (by assumption) ?_
        try simp only [Act.put, List.setIfInBounds_toArray, List.set_cons_zero, List.set_cons_succ]
        refine wpAnyH_take (i := 26) (oi := ⟨some 42, _, _, _, _, _⟩) rfl (by kernel_rfl) (by kernel_rfl) (by kernel_rfl) (fun _ _ _ h => h) (Or.inr ⟨by kernel_rfl, rfl⟩) (by assumption) ?_
        try simp only [Act.put, List.setIfInBounds_toArray, List.set_cons_zero, List.set_cons_succ]
        refine wpAnyH_take (i := 27) (oi := ⟨some 43, _, _, _, _, _⟩) rfl (by kernel_rfl) (by kernel_rfl) (by kernel_rfl) (fun _ _ _ h => h) (Or.inr ⟨by kernel_rfl, rfl⟩) (by assumption) ?_
        try simp only [Act.put, List.setIfInBounds_toArray, List.set_cons_zero, List.set_cons_succ]
        refine wpAnyH_take (i := 28) (oi := ⟨some 44, _, _, _, _, _⟩) rfl (by kernel_rfl) (by kernel_rfl) (by kernel_rfl) (fun _ _ _ h => h) (Or.inr ⟨by kernel_rfl, rfl⟩) (by assumption) ?_
        try simp only [Act.put, List.setIfInBounds_toArray, List.set_cons_zero, List.set_cons_succ]
        refine wpAnyH_take (i := 29) (oi := ⟨some 45, _, _, _, _, _⟩) rfl (by kernel_rfl) (by kernel_rfl) (by kernel_rfl) (fun _ _ _ h => h) (Or.inr ⟨by kernel_rfl, rfl⟩) (by assumption) ?_
        try simp only [Act.put, List.setIfInBounds_toArray, List.set_cons_zero, List.set_cons_succ]
        refine wpAnyH_take (i := 30) (oi := ⟨some 46, _, _, _, _, _⟩) rfl (by kernel_rfl) (by kernel_rfl) (by kernel_rfl) (fun _ _ _ h => h) (Or.inr ⟨by kernel_rfl, rfl⟩) (by assumption) ?_
        try simp only [Act.put, List.setIfInBounds_toArray, List.set_cons_zero, List.set_cons_succ]
        refine wpAnyH_take (i := 31) (oi := ⟨some 47, _, _, _, _, _⟩) rfl (by kernel_rfl) (by kernel_rfl) (by kernel_rfl) (fun _ _ _ h => h) (Or.inr ⟨by kernel_rfl, rfl⟩) (by assumption) ?_
        try simp only [Act.put, List.setIfInBounds_toArray, List.set_cons_zero, List.set_cons_succ]
        refine wpAnyH_take (i := 32) (oi := ⟨some 48, _, _, _, _, _⟩) (v := ?_) rfl (by kernel_rfl) (by kernel_rfl) (by kernel_rfl) (fun _ _ _ h => h) (Or.inl ⟨by kernel_rfl, ?_⟩) (by assumption) ?_
        rotate_left
        · intro W hSw
          try dsimp only at hSw
          go_simp
          all_goals (with_reducible rfl)
        try simp only [Act.put, List.setIfInBounds_toArray, List.set_cons_zero, List.set_cons_succ]
        refine wpAnyH_done (by kernel_rfl) ?_ _
        go_wp2
        exact ⟨⟨k + 1, by omega, by go_num, HNN.out, HW1.out, HB1.out⟩, by simp [intOf]; omega⟩
      | true =>
        rw [e3] at HEQ
        cases e4 : sameD r.data d with
        | false =>
          rw [e4] at HSM
          have HNN := Lib.hid (HNO.out (by unfold isB; rw [e4]; simp))
          clear e1 e2 e3 e4
          refine wp_region_held_drew (S := fun W => ((W.cell? ⟨b, off + k * 9, none⟩ = some (.slice x.A r.name.length x.c) ∧ W.cell? ⟨b, off + k * 9 + 1, none⟩ = some (.int .i64 r.kind) ∧ W.cell? ⟨b, off + k * 9 + 2, none⟩ = some (.int .i64 r.cls) ∧ W.cell? ⟨b, off + k * 9 + 4, none⟩ = some (.slice x.d.Ab r.data.bytes.length x.d.cb) ∧ W.cell? ⟨b, off + k * 9 + 5, none⟩ = some (.slice x.d.Ah r.data.host.length x.d.ch) ∧ W.cell? ⟨b, off + k * 9 + 6, none⟩ = some (.slice x.d.Am r.data.mail.length x.d.cm) ∧ W.cell? ⟨b, off + k * 9 + 7, none⟩ = some (.slice x.d.An r.data.nums.length x.d.cn) ∧ W.cell? ⟨b, off + k * 9 + 8, none⟩ = some (.slice x.d.At r.data.texts.length x.d.ct)) ∧ (W.cell? ⟨w.heap.size, 0, none⟩ = some (.slice z.Ab d.bytes.length z.cb) ∧ W.cell? ⟨w.heap.size, 1, none⟩ = some (.slice z.Ah d.host.length z.ch) ∧ W.cell? ⟨w.heap.size, 2, none⟩ = some (.slice z.Am d.mail.length z.cm) ∧ W.cell? ⟨w.heap.size, 3, none⟩ = some (.slice z.An d.nums.length z.cn) ∧ W.cell? ⟨w.heap.size, 4, none⟩ = some (.slice z.At d.texts.length z.ct)))) (by kernel_rfl) (by exact HCS.out _ HBW.out HW.out) (fun hHeld => ?_)
          refine wpAnyH_take (i := 0) (oi := ⟨some 16, _, _, _, _, _⟩) (v := ?_) rfl (by kernel_rfl) (by kernel_rfl) (by kernel_rfl) (fun _ _ _ h => h) (Or.inl ⟨by kernel_rfl, ?_⟩) (by assumption) ?_
          rotate_left
          · intro W hSw
            try dsimp only at hSw
            go_simp
            all_goals (with_reducible rfl)
          try simp only [Act.put, List.setIfInBounds_toArray, List.set_cons_zero, List.set_cons_succ]
          refine wpAnyH_take (i := 1) (oi := ⟨some 17, _, _, _, _, _⟩) (v := ?_) rfl (by kernel_rfl) (by kernel_rfl) (by kernel_rfl) (fun _ _ _ h => h) (Or.inl ⟨by kernel_rfl, ?_⟩) (by assumption) ?_
          rotate_left
          · intro W hSw
            try dsimp only at hSw
            go_simp
            all_goals (with_reducible rfl)
          try simp only [Act.put, List.setIfInBounds_toArray, List.set_cons_zero, List.set_cons_succ]
          refine wpAnyH_take (i := 2) (oi := ⟨some 18, _, _, _, _, _⟩) (v := ?_) rfl (by kernel_rfl) (by kernel_rfl) (by kernel_rfl) (fun _ _ _ h => h) (Or.inl ⟨by kernel_rfl, ?_⟩) (by assumption) ?_
          rotate_left
          · intro W hSw
            try dsimp only at hSw
            go_simp
            all_goals (with_reducible rfl)
          try simp only [Act.put, List.setIfInBounds_toArray, List.set_cons_zero, List.set_cons_succ]
          refine wpAnyH_take (i := 3) (oi := ⟨some 19, _, _, _, _, _⟩) (v := ?_) rfl (by kernel_rfl) (by kernel_rfl) (by kernel_rfl) (fun _ _ _ h => h) (Or.inl ⟨by kernel_rfl, ?_⟩) (by assumption) ?_
          rotate_left
          · intro W hSw
            try dsimp only at hSw
            go_simp
            all_goals (with_reducible rfl)
          try simp only [Act.put, List.setIfInBounds_toArray, List.set_cons_zero, List.set_cons_succ]
          refine wpAnyH_take (i := 4) (oi := ⟨some 20, _, _, _, _, _⟩) (v := ?_) rfl (by kernel_rfl) (by kernel_rfl) (by kernel_rfl) (fun _ _ _ h => h) (Or.inl ⟨by kernel_rfl, ?_⟩) (by assumption) ?_
          rotate_left
          · intro W hSw
            try dsimp only at hSw
            go_simp
            all_goals (with_reducible rfl)
          try simp only [Act.put, List.setIfInBounds_toArray, List.set_cons_zero, List.set_cons_succ]
          refine wpAnyH_take (i := 5) (oi := ⟨some 21, _, _, _, _, _⟩) (v := ?_) rfl (by kernel_rfl) (by kernel_rfl) (by kernel_rfl) (fun _ _ _ h => h) (Or.inl ⟨by kernel_rfl, ?_⟩) (by assumption) ?_
          rotate_left
          · intro W hSw
            try dsimp only at hSw
            go_simp
            all_goals (with_reducible rfl)
          try simp only [Act.put, List.setIfInBounds_toArray, List.set_cons_zero, List.set_cons_succ]
          refine wpAnyH_take (i := 6) (oi := ⟨some 22, _, _, _, _, _⟩) (v := ?_) rfl (by kernel_rfl) (by kernel_rfl) (by kernel_rfl) (fun _ _ _ h => h) (Or.inl ⟨by kernel_rfl, ?_⟩) (by assumption) ?_
          rotate_left
          · intro W hSw
            try dsimp only at hSw
            go_simp
            all_goals (with_reducible rfl)
          try simp only [Act.put, List.setIfInBounds_toArray, List.set_cons_zero, List.set_cons_succ]
          refine wpAnyH_take (i := 7) (oi := ⟨some 23, _, _, _, _, _⟩) (v := ?_) rfl (by kernel_rfl) (by kernel_rfl) (by kernel_rfl) (fun _ _ _ h => h) (Or.inl ⟨by kernel_rfl, ?_⟩) (by assumption) ?_
          rotate_left
          · intro W hSw
            try dsimp only at hSw
            go_simp
            all_goals (with_reducible rfl)
          try simp only [Act.put, List.setIfInBounds_toArray, List.set_cons_zero, List.set_cons_succ]
          refine wpAnyH_take (i := 8) (oi := ⟨some 24, _, _, _, _, _⟩) (v := ?_) rfl (by kernel_rfl) (by kernel_rfl) (by kernel_rfl) (fun _ _ _ h => h) (Or.inl ⟨by kernel_rfl, ?_⟩) (by assumption) ?_
          rotate_left
          · intro W hSw
            try dsimp only at hSw
            go_simp
            all_goals (with_reducible rfl)
          try simp only [Act.put, List.setIfInBounds_toArray, List.set_cons_zero, List.set_cons_succ]
          refine wpAnyH_take (i := 9) (oi := ⟨some 25, _, _, _, _, _⟩) (v := ?_) rfl (by kernel_rfl) (by kernel_rfl) (by kernel_rfl) (fun _ _ _ h => h) (Or.inl ⟨by kernel_rfl, ?_⟩) (by assumption) ?_
          rotate_left
          · intro W hSw
            try dsimp only at hSw
            go_simp
            all_goals (with_reducible rfl)
          try simp only [Act.put, List.setIfInBounds_toArray, List.set_cons_zero, List.set_cons_succ]
          refine wpAnyH_take (i := 10) (oi := ⟨some 26, _, _, _, _, _⟩) (v := ?_) rfl (by kernel_rfl) (by kernel_rfl) (by kernel_rfl) (fun _ _ _ h => h) (Or.inl ⟨by kernel_rfl, ?_⟩) (by assumption) ?_
          rotate_left
          · intro W hSw
            try dsimp only at hSw
            go_simp
            all_goals (with_reducible rfl)
          try simp only [Act.put, List.setIfInBounds_toArray, List.set_cons_zero, List.set_cons_succ]
          refine wpAnyH_take (i := 11) (oi := ⟨some 27, _, _, _, _, _⟩) (v := ?_) rfl (by kernel_rfl) (by kernel_rfl) (by kernel_rfl) (fun _ _ _ h => h) (Or.inl ⟨by kernel_rfl, ?_⟩) (by assumption) ?_
          rotate_left
          · intro W hSw
            try dsimp only at hSw
            go_simp
            all_goals (with_reducible rfl)
          try simp only [Act.put, List.setIfInBounds_toArray, List.set_cons_zero, List.set_cons_succ]
          refine wpAnyH_take (i := 12) (oi := ⟨some 28, _, _, _, _, _⟩) (v := ?_) rfl (by kernel_rfl) (by kernel_rfl) (by kernel_rfl) (fun _ _ _ h => h) (Or.inl ⟨by kernel_rfl, ?_⟩) (by assumption) ?_
          rotate_left
          · intro W hSw
            try dsimp only at hSw
            go_simp
            all_goals (with_reducible rfl)
          try simp only [Act.put, List.setIfInBounds_toArray, List.set_cons_zero, List.set_cons_succ]
          refine wpAnyH_take (i := 13) (oi := ⟨some 29, _, _, _, _, _⟩) (v := ?_) rfl (by kernel_rfl) (by kernel_rfl) (by kernel_rfl) (fun _ _ _ h => h) (Or.inl ⟨by kernel_rfl, ?_⟩) (by assumption) ?_
          rotate_left
          · intro W hSw
            try dsimp only at hSw
            go_simp
            all_goals (with_reducible rfl)
          try simp only [Act.put, List.setIfInBounds_toArray, List.set_cons_zero, List.set_cons_succ]
          refine wpAnyH_take (i := 14) (oi := ⟨some 30, _, _, _, _, _⟩) (v := ?_) rfl (by kernel_rfl) (by kernel_rfl) (by kernel_rfl) (fun _ _ _ h => h) (Or.inl ⟨by kernel_rfl, ?_⟩) (by assumption) ?_
          rotate_left
          · intro W hSw
            try dsimp only at hSw
            go_simp
            all_goals (with_reducible rfl)
          try simp only [Act.put, List.setIfInBounds_toArray, List.set_cons_zero, List.set_cons_succ]
          refine wpAnyH_take (i := 15) (oi := ⟨some 31, _, _, _, _, _⟩) (v := ?_) rfl (by kernel_rfl) (by kernel_rfl) (by kernel_rfl) (fun _ _ _ h => h) (Or.inl ⟨by kernel_rfl, ?_⟩) (by assumption) ?_
          rotate_left
          · intro W hSw
            try dsimp only at hSw
            go_simp
            all_goals (with_reducible rfl)
          try simp only [Act.put, List.setIfInBounds_toArray, List.set_cons_zero, List.set_cons_succ]
          refine wpAnyH_take (i := 16) (oi := ⟨some 32, _, _, _, _, _⟩) (v := ?_) rfl (by kernel_rfl) (by kernel_rfl) (by kernel_rfl) (fun _ _ _ h => h) (Or.inl ⟨by kernel_rfl, ?_⟩) (by assumption) ?_
          rotate_left
          · intro W hSw
            try dsimp only at hSw
            go_simp
            all_goals (with_reducible rfl)
          try simp only [Act.put, List.setIfInBounds_toArray, List.set_cons_zero, List.set_cons_succ]
          refine wpAnyH_take (i := 17) (oi := ⟨some 33, _, _, _, _, _⟩) (v := ?_) rfl (by kernel_rfl) (by kernel_rfl) (by kernel_rfl) (fun _ _ _ h => h) (Or.inl ⟨by kernel_rfl, ?_⟩) (by assumption) ?_
          rotate_left
          · intro W hSw
            try dsimp only at hSw
            go_simp
            all_goals (with_reducible rfl)
          try simp only [Act.put, List.setIfInBounds_toArray, List.set_cons_zero, List.set_cons_succ]
          refine wpAnyH_take (i := 18) (oi := ⟨some 34, _, _, _, _, _⟩) (v := ?_) rfl (by kernel_rfl) (by kernel_rfl) (by kernel_rfl) (fun _ _ _ h => h) (Or.inl ⟨by kernel_rfl, ?_⟩) (by assumption) ?_
          rotate_left
          · intro W hSw
            try dsimp only at hSw
            go_simp
            all_goals (with_reducible rfl)
          try simp only [Act.put, List.setIfInBounds_toArray, List.set_cons_zero, List.set_cons_succ]
          refine wpAnyH_take (i := 19) (oi := ⟨some 35, _, _, _, _, _⟩) (v := ?_) rfl (by kernel_rfl) (by kernel_rfl) (by kernel_rfl) (fun _ _ _ h => h) (Or.inl ⟨by kernel_rfl, ?_⟩) (by assumption) ?_
          rotate_left
          · intro W hSw
            try dsimp only at hSw
            go_simp
            all_goals (with_reducible rfl)
          try simp only [Act.put, List.setIfInBounds_toArray, List.set_cons_zero, List.set_cons_succ]
          refine wpAnyH_take (i := 20) (oi := ⟨some 36, _, _, _, _, _⟩) (v := ?_) rfl (by kernel_rfl) (by kernel_rfl) (by kernel_rfl) (fun _ _ _ h => h) (Or.inl ⟨by kernel_rfl, ?_⟩) (by assumption) ?_
          rotate_left
          · intro W hSw
            try dsimp only at hSw
            go_simp
            all_goals (with_reducible rfl)
          try simp only [Act.put, List.setIfInBounds_toArray, List.set_cons_zero, List.set_cons_succ]
          refine wpAnyH_take (i := 21) (oi := ⟨some 37, _, _, _, _, _⟩) (v := ?_) rfl (by kernel_rfl) (by kernel_rfl) (by kernel_rfl) (fun _ _ _ h => h) (Or.inl ⟨by kernel_rfl, ?_⟩) (by assumption) ?_
          rotate_left
          · intro W hSw
            try dsimp only at hSw
            go_simp
            all_goals (with_reducible rfl)
          try simp only [Act.put, List.setIfInBounds_toArray, List.set_cons_zero, List.set_cons_succ]
          refine wpAnyH_ready (rs := [22]) (by kernel_rfl) (by simp) ?_
          refine AllReadyH.cons (o := { dst := some 38, op := Go.Op.call { callee := Go.Callee.value (Go.Operand.func 26), args := #[Go.Operand.tmp 36, Go.Operand.tmp 37], argTypes := #[22, 22] }, type := 4, pos := "law.go:90", after := #[{ on := 20, ground := Go.Ground.data }, { on := 21, ground := Go.Ground.data }, { on := 15, ground := Go.Ground.chain }, { on := 15, ground := Go.Ground.guard }], guard := some (15, true) }) rfl (fun K hK => ?_) AllReadyH.nil
          go_simp
          refine (HEQ.out _ HBW.out).mono ?_
          rintro e w1 ⟨rfl, hb1⟩
          have HB1 := Lib.hid (HBW.out.trans (hb1.mono HBW.out.size))
          have HW1 := Lib.hid (HW.out.below hb1 HW.out.lt)
          clear hb1
          refine hK.out _ _ (by exact HCS.out _ HB1.out HW1.out) (fun hHeld2 => ?_)
          clear hK K hHeld
          have hHeld := hHeld2
          clear hHeld2
          try simp only [Act.put, List.setIfInBounds_toArray, List.set_cons_zero, List.set_cons_succ]
          refine wpAnyH_take (i := 23) (oi := ⟨some 39, _, _, _, _, _⟩) (v := ?_) rfl (by kernel_rfl) (by kernel_rfl) (by kernel_rfl) (fun _ _ _ h => h) (Or.inl ⟨by kernel_rfl, ?_⟩) (by assumption) ?_
          rotate_left
          · intro W hSw
            try dsimp only at hSw
            go_simp
            all_goals (with_reducible rfl)
          try simp only [Act.put, List.setIfInBounds_toArray, List.set_cons_zero, List.set_cons_succ]
          refine wpAnyH_take (i := 24) (oi := ⟨some 40, _, _, _, _, _⟩) (v := ?_) rfl (by kernel_rfl) (by kernel_rfl) (by kernel_rfl) (fun _ _ _ h => h) (Or.inl ⟨by kernel_rfl, ?_⟩) (by assumption) ?_
          rotate_left
          · intro W hSw
            try dsimp only at hSw
            go_simp
            all_goals (with_reducible rfl)
          try simp only [Act.put, List.setIfInBounds_toArray, List.set_cons_zero, List.set_cons_succ]
          refine wpAnyH_take (i := 25) (oi := ⟨some 41, _, _, _, _, _⟩) (v := ?_) rfl (by kernel_rfl) (by kernel_rfl) (by kernel_rfl) (fun _ _ _ h => h) (Or.inl ⟨by kernel_rfl, ?_⟩) (by assumption) ?_
          rotate_left
          · intro W hSw
            try dsimp only at hSw
            go_simp
            all_goals (with_reducible rfl)
          try simp only [Act.put, List.setIfInBounds_toArray, List.set_cons_zero, List.set_cons_succ]
          refine wpAnyH_take (i := 26) (oi := ⟨some 42, _, _, _, _, _⟩) (v := ?_) rfl (by kernel_rfl) (by kernel_rfl) (by kernel_rfl) (fun _ _ _ h => h) (Or.inl ⟨by kernel_rfl, ?_⟩) (by assumption) ?_
          rotate_left
          · intro W hSw
            try dsimp only at hSw
            go_simp
            all_goals (with_reducible rfl)
          try simp only [Act.put, List.setIfInBounds_toArray, List.set_cons_zero, List.set_cons_succ]
          refine wpAnyH_take (i := 27) (oi := ⟨some 43, _, _, _, _, _⟩) (v := ?_) rfl (by kernel_rfl) (by kernel_rfl) (by kernel_rfl) (fun _ _ _ h => h) (Or.inl ⟨by kernel_rfl, ?_⟩) (by assumption) ?_
          rotate_left
          · intro W hSw
            try dsimp only at hSw
            go_simp
            all_goals (with_reducible rfl)
          try simp only [Act.put, List.setIfInBounds_toArray, List.set_cons_zero, List.set_cons_succ]
          refine wpAnyH_take (i := 28) (oi := ⟨some 44, _, _, _, _, _⟩) (v := ?_) rfl (by kernel_rfl) (by kernel_rfl) (by kernel_rfl) (fun _ _ _ h => h) (Or.inl ⟨by kernel_rfl, ?_⟩) (by assumption) ?_
          rotate_left
          · intro W hSw
            try dsimp only at hSw
            go_simp
            all_goals (with_reducible rfl)
          try simp only [Act.put, List.setIfInBounds_toArray, List.set_cons_zero, List.set_cons_succ]
          refine wpAnyH_take (i := 29) (oi := ⟨some 45, _, _, _, _, _⟩) (v := ?_) rfl (by kernel_rfl) (by kernel_rfl) (by kernel_rfl) (fun _ _ _ h => h) (Or.inl ⟨by kernel_rfl, ?_⟩) (by assumption) ?_
          rotate_left
          · intro W hSw
            try dsimp only at hSw
            go_simp
            all_goals (with_reducible rfl)
          try simp only [Act.put, List.setIfInBounds_toArray, List.set_cons_zero, List.set_cons_succ]
          refine wpAnyH_take (i := 30) (oi := ⟨some 46, _, _, _, _, _⟩) (v := ?_) rfl (by kernel_rfl) (by kernel_rfl) (by kernel_rfl) (fun _ _ _ h => h) (Or.inl ⟨by kernel_rfl, ?_⟩) (by assumption) ?_
          rotate_left
          · intro W hSw
            try dsimp only at hSw
            go_simp
            all_goals (with_reducible rfl)
          try simp only [Act.put, List.setIfInBounds_toArray, List.set_cons_zero, List.set_cons_succ]
          refine wpAnyH_ready (rs := [31]) (by kernel_rfl) (by simp) ?_
          refine AllReadyH.cons (o := { dst := some 47, op := Go.Op.call { callee := Go.Callee.value (Go.Operand.func 27), args := #[Go.Operand.tmp 45, Go.Operand.tmp 46], argTypes := #[38, 38] }, type := 4, pos := "law.go:90", after := #[{ on := 29, ground := Go.Ground.data }, { on := 30, ground := Go.Ground.data }, { on := 24, ground := Go.Ground.chain }, { on := 24, ground := Go.Ground.guard }], guard := some (24, true) }) rfl (fun K hK => ?_) AllReadyH.nil
          go_simp
          refine (HSM.out _ HB1.out).mono ?_
          rintro e w2 ⟨rfl, hb2⟩
          have HB2 := Lib.hid (HB1.out.trans (hb2.mono HB1.out.size))
          have HW2 := Lib.hid (HW1.out.below hb2 HW1.out.lt)
          clear hb2
          refine hK.out _ _ (by exact HCS.out _ HB2.out HW2.out) (fun hHeld2 => ?_)
          clear hK K hHeld
          have hHeld := hHeld2
          clear hHeld2
          try simp only [Act.put, List.setIfInBounds_toArray, List.set_cons_zero, List.set_cons_succ]
          refine wpAnyH_take (i := 32) (oi := ⟨some 48, _, _, _, _, _⟩) (v := ?_) rfl (by kernel_rfl) (by kernel_rfl) (by kernel_rfl) (fun _ _ _ h => h) (Or.inl ⟨by kernel_rfl, ?_⟩) (by assumption) ?_
          rotate_left
          · intro W hSw
            try dsimp only at hSw
            go_simp
            all_goals (with_reducible rfl)
          try simp only [Act.put, List.setIfInBounds_toArray, List.set_cons_zero, List.set_cons_succ]
          refine wpAnyH_done (by kernel_rfl) ?_ _
          go_wp2
          exact ⟨⟨k + 1, by omega, by go_num, HNN.out, HW2.out, HB2.out⟩, by simp [intOf]; omega⟩
        | true =>
          rw [e4] at HSM
          have HYY := Lib.hid (thereB_yes HIN.out (show isB n kd d r = true by unfold isB; rw [e3, e4, decide_eq_true e1, decide_eq_true e2]; rfl))
          clear e1 e2 e3 e4
          refine wp_region_held_drew (S := fun W => ((W.cell? ⟨b, off + k * 9, none⟩ = some (.slice x.A r.name.length x.c) ∧ W.cell? ⟨b, off + k * 9 + 1, none⟩ = some (.int .i64 r.kind) ∧ W.cell? ⟨b, off + k * 9 + 2, none⟩ = some (.int .i64 r.cls) ∧ W.cell? ⟨b, off + k * 9 + 4, none⟩ = some (.slice x.d.Ab r.data.bytes.length x.d.cb) ∧ W.cell? ⟨b, off + k * 9 + 5, none⟩ = some (.slice x.d.Ah r.data.host.length x.d.ch) ∧ W.cell? ⟨b, off + k * 9 + 6, none⟩ = some (.slice x.d.Am r.data.mail.length x.d.cm) ∧ W.cell? ⟨b, off + k * 9 + 7, none⟩ = some (.slice x.d.An r.data.nums.length x.d.cn) ∧ W.cell? ⟨b, off + k * 9 + 8, none⟩ = some (.slice x.d.At r.data.texts.length x.d.ct)) ∧ (W.cell? ⟨w.heap.size, 0, none⟩ = some (.slice z.Ab d.bytes.length z.cb) ∧ W.cell? ⟨w.heap.size, 1, none⟩ = some (.slice z.Ah d.host.length z.ch) ∧ W.cell? ⟨w.heap.size, 2, none⟩ = some (.slice z.Am d.mail.length z.cm) ∧ W.cell? ⟨w.heap.size, 3, none⟩ = some (.slice z.An d.nums.length z.cn) ∧ W.cell? ⟨w.heap.size, 4, none⟩ = some (.slice z.At d.texts.length z.ct)))) (by kernel_rfl) (by exact HCS.out _ HBW.out HW.out) (fun hHeld => ?_)
          refine wpAnyH_take (i := 0) (oi := ⟨some 16, _, _, _, _, _⟩) (v := ?_) rfl (by kernel_rfl) (by kernel_rfl) (by kernel_rfl) (fun _ _ _ h => h) (Or.inl ⟨by kernel_rfl, ?_⟩) (by assumption) ?_
          rotate_left
          · intro W hSw
            try dsimp only at hSw
            go_simp
            all_goals (with_reducible rfl)
          try simp only [Act.put, List.setIfInBounds_toArray, List.set_cons_zero, List.set_cons_succ]
          refine wpAnyH_take (i := 1) (oi := ⟨some 17, _, _, _, _, _⟩) (v := ?_) rfl (by kernel_rfl) (by kernel_rfl) (by kernel_rfl) (fun _ _ _ h => h) (Or.inl ⟨by kernel_rfl, ?_⟩) (by assumption) ?_
          rotate_left
          · intro W hSw
            try dsimp only at hSw
            go_simp
            all_goals (with_reducible rfl)
          try simp only [Act.put, List.setIfInBounds_toArray, List.set_cons_zero, List.set_cons_succ]
          refine wpAnyH_take (i := 2) (oi := ⟨some 18, _, _, _, _, _⟩) (v := ?_) rfl (by kernel_rfl) (by kernel_rfl) (by kernel_rfl) (fun _ _ _ h => h) (Or.inl ⟨by kernel_rfl, ?_⟩) (by assumption) ?_
          rotate_left
          · intro W hSw
            try dsimp only at hSw
            go_simp
            all_goals (with_reducible rfl)
          try simp only [Act.put, List.setIfInBounds_toArray, List.set_cons_zero, List.set_cons_succ]
          refine wpAnyH_take (i := 3) (oi := ⟨some 19, _, _, _, _, _⟩) (v := ?_) rfl (by kernel_rfl) (by kernel_rfl) (by kernel_rfl) (fun _ _ _ h => h) (Or.inl ⟨by kernel_rfl, ?_⟩) (by assumption) ?_
          rotate_left
          · intro W hSw
            try dsimp only at hSw
            go_simp
            all_goals (with_reducible rfl)
          try simp only [Act.put, List.setIfInBounds_toArray, List.set_cons_zero, List.set_cons_succ]
          refine wpAnyH_take (i := 4) (oi := ⟨some 20, _, _, _, _, _⟩) (v := ?_) rfl (by kernel_rfl) (by kernel_rfl) (by kernel_rfl) (fun _ _ _ h => h) (Or.inl ⟨by kernel_rfl, ?_⟩) (by assumption) ?_
          rotate_left
          · intro W hSw
            try dsimp only at hSw
            go_simp
            all_goals (with_reducible rfl)
          try simp only [Act.put, List.setIfInBounds_toArray, List.set_cons_zero, List.set_cons_succ]
          refine wpAnyH_take (i := 5) (oi := ⟨some 21, _, _, _, _, _⟩) (v := ?_) rfl (by kernel_rfl) (by kernel_rfl) (by kernel_rfl) (fun _ _ _ h => h) (Or.inl ⟨by kernel_rfl, ?_⟩) (by assumption) ?_
          rotate_left
          · intro W hSw
            try dsimp only at hSw
            go_simp
            all_goals (with_reducible rfl)
          try simp only [Act.put, List.setIfInBounds_toArray, List.set_cons_zero, List.set_cons_succ]
          refine wpAnyH_take (i := 6) (oi := ⟨some 22, _, _, _, _, _⟩) (v := ?_) rfl (by kernel_rfl) (by kernel_rfl) (by kernel_rfl) (fun _ _ _ h => h) (Or.inl ⟨by kernel_rfl, ?_⟩) (by assumption) ?_
          rotate_left
          · intro W hSw
            try dsimp only at hSw
            go_simp
            all_goals (with_reducible rfl)
          try simp only [Act.put, List.setIfInBounds_toArray, List.set_cons_zero, List.set_cons_succ]
          refine wpAnyH_take (i := 7) (oi := ⟨some 23, _, _, _, _, _⟩) (v := ?_) rfl (by kernel_rfl) (by kernel_rfl) (by kernel_rfl) (fun _ _ _ h => h) (Or.inl ⟨by kernel_rfl, ?_⟩) (by assumption) ?_
          rotate_left
          · intro W hSw
            try dsimp only at hSw
            go_simp
            all_goals (with_reducible rfl)
          try simp only [Act.put, List.setIfInBounds_toArray, List.set_cons_zero, List.set_cons_succ]
          refine wpAnyH_take (i := 8) (oi := ⟨some 24, _, _, _, _, _⟩) (v := ?_) rfl (by kernel_rfl) (by kernel_rfl) (by kernel_rfl) (fun _ _ _ h => h) (Or.inl ⟨by kernel_rfl, ?_⟩) (by assumption) ?_
          rotate_left
          · intro W hSw
            try dsimp only at hSw
            go_simp
            all_goals (with_reducible rfl)
          try simp only [Act.put, List.setIfInBounds_toArray, List.set_cons_zero, List.set_cons_succ]
          refine wpAnyH_take (i := 9) (oi := ⟨some 25, _, _, _, _, _⟩) (v := ?_) rfl (by kernel_rfl) (by kernel_rfl) (by kernel_rfl) (fun _ _ _ h => h) (Or.inl ⟨by kernel_rfl, ?_⟩) (by assumption) ?_
          rotate_left
          · intro W hSw
            try dsimp only at hSw
            go_simp
            all_goals (with_reducible rfl)
          try simp only [Act.put, List.setIfInBounds_toArray, List.set_cons_zero, List.set_cons_succ]
          refine wpAnyH_take (i := 10) (oi := ⟨some 26, _, _, _, _, _⟩) (v := ?_) rfl (by kernel_rfl) (by kernel_rfl) (by kernel_rfl) (fun _ _ _ h => h) (Or.inl ⟨by kernel_rfl, ?_⟩) (by assumption) ?_
          rotate_left
          · intro W hSw
            try dsimp only at hSw
            go_simp
            all_goals (with_reducible rfl)
          try simp only [Act.put, List.setIfInBounds_toArray, List.set_cons_zero, List.set_cons_succ]
          refine wpAnyH_take (i := 11) (oi := ⟨some 27, _, _, _, _, _⟩) (v := ?_) rfl (by kernel_rfl) (by kernel_rfl) (by kernel_rfl) (fun _ _ _ h => h) (Or.inl ⟨by kernel_rfl, ?_⟩) (by assumption) ?_
          rotate_left
          · intro W hSw
            try dsimp only at hSw
            go_simp
            all_goals (with_reducible rfl)
          try simp only [Act.put, List.setIfInBounds_toArray, List.set_cons_zero, List.set_cons_succ]
          refine wpAnyH_take (i := 12) (oi := ⟨some 28, _, _, _, _, _⟩) (v := ?_) rfl (by kernel_rfl) (by kernel_rfl) (by kernel_rfl) (fun _ _ _ h => h) (Or.inl ⟨by kernel_rfl, ?_⟩) (by assumption) ?_
          rotate_left
          · intro W hSw
            try dsimp only at hSw
            go_simp
            all_goals (with_reducible rfl)
          try simp only [Act.put, List.setIfInBounds_toArray, List.set_cons_zero, List.set_cons_succ]
          refine wpAnyH_take (i := 13) (oi := ⟨some 29, _, _, _, _, _⟩) (v := ?_) rfl (by kernel_rfl) (by kernel_rfl) (by kernel_rfl) (fun _ _ _ h => h) (Or.inl ⟨by kernel_rfl, ?_⟩) (by assumption) ?_
          rotate_left
          · intro W hSw
            try dsimp only at hSw
            go_simp
            all_goals (with_reducible rfl)
          try simp only [Act.put, List.setIfInBounds_toArray, List.set_cons_zero, List.set_cons_succ]
          refine wpAnyH_take (i := 14) (oi := ⟨some 30, _, _, _, _, _⟩) (v := ?_) rfl (by kernel_rfl) (by kernel_rfl) (by kernel_rfl) (fun _ _ _ h => h) (Or.inl ⟨by kernel_rfl, ?_⟩) (by assumption) ?_
          rotate_left
          · intro W hSw
            try dsimp only at hSw
            go_simp
            all_goals (with_reducible rfl)
          try simp only [Act.put, List.setIfInBounds_toArray, List.set_cons_zero, List.set_cons_succ]
          refine wpAnyH_take (i := 15) (oi := ⟨some 31, _, _, _, _, _⟩) (v := ?_) rfl (by kernel_rfl) (by kernel_rfl) (by kernel_rfl) (fun _ _ _ h => h) (Or.inl ⟨by kernel_rfl, ?_⟩) (by assumption) ?_
          rotate_left
          · intro W hSw
            try dsimp only at hSw
            go_simp
            all_goals (with_reducible rfl)
          try simp only [Act.put, List.setIfInBounds_toArray, List.set_cons_zero, List.set_cons_succ]
          refine wpAnyH_take (i := 16) (oi := ⟨some 32, _, _, _, _, _⟩) (v := ?_) rfl (by kernel_rfl) (by kernel_rfl) (by kernel_rfl) (fun _ _ _ h => h) (Or.inl ⟨by kernel_rfl, ?_⟩) (by assumption) ?_
          rotate_left
          · intro W hSw
            try dsimp only at hSw
            go_simp
            all_goals (with_reducible rfl)
          try simp only [Act.put, List.setIfInBounds_toArray, List.set_cons_zero, List.set_cons_succ]
          refine wpAnyH_take (i := 17) (oi := ⟨some 33, _, _, _, _, _⟩) (v := ?_) rfl (by kernel_rfl) (by kernel_rfl) (by kernel_rfl) (fun _ _ _ h => h) (Or.inl ⟨by kernel_rfl, ?_⟩) (by assumption) ?_
          rotate_left
          · intro W hSw
            try dsimp only at hSw
            go_simp
            all_goals (with_reducible rfl)
          try simp only [Act.put, List.setIfInBounds_toArray, List.set_cons_zero, List.set_cons_succ]
          refine wpAnyH_take (i := 18) (oi := ⟨some 34, _, _, _, _, _⟩) (v := ?_) rfl (by kernel_rfl) (by kernel_rfl) (by kernel_rfl) (fun _ _ _ h => h) (Or.inl ⟨by kernel_rfl, ?_⟩) (by assumption) ?_
          rotate_left
          · intro W hSw
            try dsimp only at hSw
            go_simp
            all_goals (with_reducible rfl)
          try simp only [Act.put, List.setIfInBounds_toArray, List.set_cons_zero, List.set_cons_succ]
          refine wpAnyH_take (i := 19) (oi := ⟨some 35, _, _, _, _, _⟩) (v := ?_) rfl (by kernel_rfl) (by kernel_rfl) (by kernel_rfl) (fun _ _ _ h => h) (Or.inl ⟨by kernel_rfl, ?_⟩) (by assumption) ?_
          rotate_left
          · intro W hSw
            try dsimp only at hSw
            go_simp
            all_goals (with_reducible rfl)
          try simp only [Act.put, List.setIfInBounds_toArray, List.set_cons_zero, List.set_cons_succ]
          refine wpAnyH_take (i := 20) (oi := ⟨some 36, _, _, _, _, _⟩) (v := ?_) rfl (by kernel_rfl) (by kernel_rfl) (by kernel_rfl) (fun _ _ _ h => h) (Or.inl ⟨by kernel_rfl, ?_⟩) (by assumption) ?_
          rotate_left
          · intro W hSw
            try dsimp only at hSw
            go_simp
            all_goals (with_reducible rfl)
          try simp only [Act.put, List.setIfInBounds_toArray, List.set_cons_zero, List.set_cons_succ]
          refine wpAnyH_take (i := 21) (oi := ⟨some 37, _, _, _, _, _⟩) (v := ?_) rfl (by kernel_rfl) (by kernel_rfl) (by kernel_rfl) (fun _ _ _ h => h) (Or.inl ⟨by kernel_rfl, ?_⟩) (by assumption) ?_
          rotate_left
          · intro W hSw
            try dsimp only at hSw
            go_simp
            all_goals (with_reducible rfl)
          try simp only [Act.put, List.setIfInBounds_toArray, List.set_cons_zero, List.set_cons_succ]
          refine wpAnyH_ready (rs := [22]) (by kernel_rfl) (by simp) ?_
          refine AllReadyH.cons (o := { dst := some 38, op := Go.Op.call { callee := Go.Callee.value (Go.Operand.func 26), args := #[Go.Operand.tmp 36, Go.Operand.tmp 37], argTypes := #[22, 22] }, type := 4, pos := "law.go:90", after := #[{ on := 20, ground := Go.Ground.data }, { on := 21, ground := Go.Ground.data }, { on := 15, ground := Go.Ground.chain }, { on := 15, ground := Go.Ground.guard }], guard := some (15, true) }) rfl (fun K hK => ?_) AllReadyH.nil
          go_simp
          refine (HEQ.out _ HBW.out).mono ?_
          rintro e w1 ⟨rfl, hb1⟩
          have HB1 := Lib.hid (HBW.out.trans (hb1.mono HBW.out.size))
          have HW1 := Lib.hid (HW.out.below hb1 HW.out.lt)
          clear hb1
          refine hK.out _ _ (by exact HCS.out _ HB1.out HW1.out) (fun hHeld2 => ?_)
          clear hK K hHeld
          have hHeld := hHeld2
          clear hHeld2
          try simp only [Act.put, List.setIfInBounds_toArray, List.set_cons_zero, List.set_cons_succ]
          refine wpAnyH_take (i := 23) (oi := ⟨some 39, _, _, _, _, _⟩) (v := ?_) rfl (by kernel_rfl) (by kernel_rfl) (by kernel_rfl) (fun _ _ _ h => h) (Or.inl ⟨by kernel_rfl, ?_⟩) (by assumption) ?_
          rotate_left
          · intro W hSw
            try dsimp only at hSw
            go_simp
            all_goals (with_reducible rfl)
          try simp only [Act.put, List.setIfInBounds_toArray, List.set_cons_zero, List.set_cons_succ]
          refine wpAnyH_take (i := 24) (oi := ⟨some 40, _, _, _, _, _⟩) (v := ?_) rfl (by kernel_rfl) (by kernel_rfl) (by kernel_rfl) (fun _ _ _ h => h) (Or.inl ⟨by kernel_rfl, ?_⟩) (by assumption) ?_
          rotate_left
          · intro W hSw
            try dsimp only at hSw
            go_simp
            all_goals (with_reducible rfl)
          try simp only [Act.put, List.setIfInBounds_toArray, List.set_cons_zero, List.set_cons_succ]
          refine wpAnyH_take (i := 25) (oi := ⟨some 41, _, _, _, _, _⟩) (v := ?_) rfl (by kernel_rfl) (by kernel_rfl) (by kernel_rfl) (fun _ _ _ h => h) (Or.inl ⟨by kernel_rfl, ?_⟩) (by assumption) ?_
          rotate_left
          · intro W hSw
            try dsimp only at hSw
            go_simp
            all_goals (with_reducible rfl)
          try simp only [Act.put, List.setIfInBounds_toArray, List.set_cons_zero, List.set_cons_succ]
          refine wpAnyH_take (i := 26) (oi := ⟨some 42, _, _, _, _, _⟩) (v := ?_) rfl (by kernel_rfl) (by kernel_rfl) (by kernel_rfl) (fun _ _ _ h => h) (Or.inl ⟨by kernel_rfl, ?_⟩) (by assumption) ?_
          rotate_left
          · intro W hSw
            try dsimp only at hSw
            go_simp
            all_goals (with_reducible rfl)
          try simp only [Act.put, List.setIfInBounds_toArray, List.set_cons_zero, List.set_cons_succ]
          refine wpAnyH_take (i := 27) (oi := ⟨some 43, _, _, _, _, _⟩) (v := ?_) rfl (by kernel_rfl) (by kernel_rfl) (by kernel_rfl) (fun _ _ _ h => h) (Or.inl ⟨by kernel_rfl, ?_⟩) (by assumption) ?_
          rotate_left
          · intro W hSw
            try dsimp only at hSw
            go_simp
            all_goals (with_reducible rfl)
          try simp only [Act.put, List.setIfInBounds_toArray, List.set_cons_zero, List.set_cons_succ]
          refine wpAnyH_take (i := 28) (oi := ⟨some 44, _, _, _, _, _⟩) (v := ?_) rfl (by kernel_rfl) (by kernel_rfl) (by kernel_rfl) (fun _ _ _ h => h) (Or.inl ⟨by kernel_rfl, ?_⟩) (by assumption) ?_
          rotate_left
          · intro W hSw
            try dsimp only at hSw
            go_simp
            all_goals (with_reducible rfl)
          try simp only [Act.put, List.setIfInBounds_toArray, List.set_cons_zero, List.set_cons_succ]
          refine wpAnyH_take (i := 29) (oi := ⟨some 45, _, _, _, _, _⟩) (v := ?_) rfl (by kernel_rfl) (by kernel_rfl) (by kernel_rfl) (fun _ _ _ h => h) (Or.inl ⟨by kernel_rfl, ?_⟩) (by assumption) ?_
          rotate_left
          · intro W hSw
            try dsimp only at hSw
            go_simp
            all_goals (with_reducible rfl)
          try simp only [Act.put, List.setIfInBounds_toArray, List.set_cons_zero, List.set_cons_succ]
          refine wpAnyH_take (i := 30) (oi := ⟨some 46, _, _, _, _, _⟩) (v := ?_) rfl (by kernel_rfl) (by kernel_rfl) (by kernel_rfl) (fun _ _ _ h => h) (Or.inl ⟨by kernel_rfl, ?_⟩) (by assumption) ?_
          rotate_left
          · intro W hSw
            try dsimp only at hSw
            go_simp
            all_goals (with_reducible rfl)
          try simp only [Act.put, List.setIfInBounds_toArray, List.set_cons_zero, List.set_cons_succ]
          refine wpAnyH_ready (rs := [31]) (by kernel_rfl) (by simp) ?_
          refine AllReadyH.cons (o := { dst := some 47, op := Go.Op.call { callee := Go.Callee.value (Go.Operand.func 27), args := #[Go.Operand.tmp 45, Go.Operand.tmp 46], argTypes := #[38, 38] }, type := 4, pos := "law.go:90", after := #[{ on := 29, ground := Go.Ground.data }, { on := 30, ground := Go.Ground.data }, { on := 24, ground := Go.Ground.chain }, { on := 24, ground := Go.Ground.guard }], guard := some (24, true) }) rfl (fun K hK => ?_) AllReadyH.nil
          go_simp
          refine (HSM.out _ HB1.out).mono ?_
          rintro e w2 ⟨rfl, hb2⟩
          have HB2 := Lib.hid (HB1.out.trans (hb2.mono HB1.out.size))
          have HW2 := Lib.hid (HW1.out.below hb2 HW1.out.lt)
          clear hb2
          refine hK.out _ _ (by exact HCS.out _ HB2.out HW2.out) (fun hHeld2 => ?_)
          clear hK K hHeld
          have hHeld := hHeld2
          clear hHeld2
          try simp only [Act.put, List.setIfInBounds_toArray, List.set_cons_zero, List.set_cons_succ]
          refine wpAnyH_take (i := 32) (oi := ⟨some 48, _, _, _, _, _⟩) (v := ?_) rfl (by kernel_rfl) (by kernel_rfl) (by kernel_rfl) (fun _ _ _ h => h) (Or.inl ⟨by kernel_rfl, ?_⟩) (by assumption) ?_
          rotate_left
          · intro W hSw
            try dsimp only at hSw
            go_simp
            all_goals (with_reducible rfl)
          try simp only [Act.put, List.setIfInBounds_toArray, List.set_cons_zero, List.set_cons_succ]
          refine wpAnyH_done (by kernel_rfl) ?_ _
          go_wp2
          go_ret
          exact ⟨by rw [HYY.out]; rfl, HB2.out⟩
    · obtain rfl : k = ps.length := by omega
      have HNN := Lib.hid (show thereB (recs ps) n kd d = false by have h := HNN0.out; rwa [List.take_length] at h)
      go_wp2
      go_ret
      exact ⟨by rw [HNN.out]; rfl, HBX.out⟩

end Go.Proofs.YthppgofpbpjglaaGreat

namespace Go.Proofs.YthppgofpbpjglaaGreat
open Go.RowKit

/-- append onto a row of the call's own, as one step of a region that draws. -/
theorem step_append_any {P : Program} {w : World} {ops : Array Oper} {o : Oper} {a : Act} {K : Act → World → Prop} {Q : Exit → Act → World → Prop} {E : Prop} (hgd : o.guard = none) (s x : Operand) (t : TypeId)
    (ho : o.op = .call { callee := .builtin .append, args := #[s, x], argTypes := #[t, t] })
    (base : Nat) (e : TypeId) (i : TypeInfo) (z : Value) (size bytes : Nat) (ht : P.underlying t = some (.slice e)) (hi : P.info? e = some i) (hz : i.zero = some z)
    (hsize : i.size = size) (hby : i.bytes = bytes) (hzs : z.cells.size = size) (hsz : 0 < size)
    (v : Value) (n : Nat) (xs : List Value) (hs : a.eval s = v) (hown : w.ownsRow base e size v n xs)
    (A : Option Addr) (m c H : Nat) (news : List Value) (hx : a.eval x = .slice A m c) (hl : news.length = m * size) (hr : Row w H A news) (h1 : ∀ u ∈ news, u.oneCell' = true)
    (h63 : n + m ≤ maxLen) (hbytes : (n + m) * bytes ≤ 140737488355328) (hbase : base ≤ w.heap.size)
    (h : ∀ v' w', w'.ownsRow base e size v' (n + m) (xs ++ news) → w.grownBy w' v.ownBlock → K (a.put o.dst v') w') : if Region.wanted o (yielded ops a.tmps) = true then Oper.wp P o a w K Q else E := by
  have hw : Region.wanted o (yielded ops a.tmps) = true := by simp [Region.wanted, hgd]
  rw [if_pos hw]
  obtain ⟨v', w', hrun, h2, h3⟩ := append_row_run (P := P) w base t o.type e i z size bytes ht hi hz hsize hby hzs hsz v n xs hown A m c H news hl hr h1 h63 hbytes hbase
  unfold Oper.wp
  simp [execOp, ho, resolve, invoke, builtin, hs, hx, hrun, Result.andThen]
  exact h v' w' h2 h3

end Go.Proofs.YthppgofpbpjglaaGreat

namespace Go.Proofs.YthppgofpbpjglaaGreat
open Go.RowKit

theorem int_info : (Tryz.prog.info? 3).map (fun i => (i.zero, i.size, i.bytes)) = some (some (.int .i64 0), 1, 8) := by kernel_rfl
/-- A number as a cell. -/
def iv (n : Nat) : Value := .int .i64 (n : Int)
theorem iv_one (l : List Nat) : ∀ u ∈ l.map iv, u.oneCell' = true := by
  intro u hu
  obtain ⟨x, _, rfl⟩ := List.mem_map.1 hu
  rfl









theorem own_capM {w : World} {base : Nat} {t : TypeId} {A : Option Addr} {n c : Nat} {xs : List Value} {size : Nat} (h : w.ownsRow base t size (.slice A n c) n xs) : c ≤ maxLen := by
  obtain ⟨A', c', e, _, h2⟩ := own_form h
  injection e with _ _ e
  omega
theorem ownF_new {g j : Nat} (h : ownF g (.slice none 0 0) (.map none) j) : j = g := by
  rcases h with h | h | h
  · exact h
  · simp [Value.ownBlock] at h
  · cases h
section
variable {w w' : World} {base g1 : Nat} {vB1 vM1 : Value} {B1 : List UInt8} {R1 : Rs} {g2 : Nat} {vB2 vM2 : Value} {B2 : List UInt8} {R2 : Rs} {va : Value} {ats : List Nat}
































end

set_option maxHeartbeats 400000 in
/-- The document's Sound of any name, however large. -/
theorem ref_sound_free (A : Option Addr) (c H : Nat) (n : List (List UInt8)) (w : World) (hA : Row w H A (n.map sv)) (_ : n.length ≤ maxLen) (hs : ∀ k (h : k < n.length), (n[k]).length ≤ maxLen) :
    Calls Tryz.prog 21 #[.slice A n.length c] w (Told w (.bool (soundN n))) := by
  have HA := Lib.hid hA
  have HS := Lib.hid hs
  clear hA hs
  by_cases h127 : n.length ≤ 127
  · have d1 : decide (127 < (n.length : Int)) = false := by simp; omega
    go_enter Tryz.func21, Tryz.ntmps21
    go_wp2
    go_loop [3] (EveryRel n) (fun i => n.length - (intOf i).toNat)
    case atStart => exact ⟨0, Nat.zero_le _, rfl, by simp⟩
    case round =>
      obtain ⟨k, hk, rfl, hall⟩ := hrel
      have HK := Lib.hid hall
      clear hall
      by_cases hlt : k < n.length
      · obtain ⟨b, off, rfl, _, hc⟩ := HA.out.name_at hlt
        have hle := HS.out k hlt
        unfold maxLen at hle
        by_cases e1 : 1 ≤ (n[k]).length
        · have d2 : decide (((n[k]).length : Int) < 1) = false := by simp; omega
          by_cases e2 : (n[k]).length ≤ 63
          · have d3 : decide (63 < ((n[k]).length : Int)) = false := by simp; omega
            have HF := Lib.hid (all_snoc fitL hlt HK.out (by simp [fitL]; omega))
            go_wp2
            exact ⟨⟨k + 1, by omega, by go_num, HF.out⟩, by simp [intOf]; omega⟩
          · have d3 : decide (63 < ((n[k]).length : Int)) = true := by simp; omega
            have HF := Lib.hid (all_not fitL hlt (by simp [fitL]; omega))
            go_wp2
            go_ret
            exact ⟨ret_bool (by simp [soundN, HF.out]), rfl⟩
        · have d2 : decide (((n[k]).length : Int) < 1) = true := by simp; omega
          have HF := Lib.hid (all_not fitL hlt (by simp [fitL]; omega))
          go_wp2
          go_ret
          exact ⟨ret_bool (by simp [soundN, HF.out]), rfl⟩
      · obtain rfl : k = n.length := by omega
        have hall := HK.out
        rw [List.take_length] at hall
        have hsz : szN n ≤ n.length * (63 + 1) + 1 := szN_le 63 n fun l hl => (fitL_iff.1 (List.all_eq_true.1 hall l hl)).2
        have HZ := Lib.hid (ref_size_any A n.length c H n w rfl HA.out (by unfold maxLen; omega))
        have HALL := Lib.hid hall
        clear hall
        go_wp2_with fail
        refine HZ.out.mono ?_
        rintro e w' ⟨rfl, rfl⟩
        go_wp2
        go_ret
        refine ⟨ret_bool ?_, rfl⟩
        simp [soundN, HALL.out]
        omega
  · have HF := Lib.hid (soundN_long (n := n) (by omega))
    have d1 : decide (127 < (n.length : Int)) = true := by simp; omega
    go_enter Tryz.func21, Tryz.ntmps21
    go_wp2
    go_ret
    exact ⟨ret_bool HF.out.symm, rfl⟩

/-- The names ns stand in B at the places ats, one behind the other, and B ends with the last one. -/
def Laid (ns : List (List (List UInt8))) (B : List UInt8) (ats : List Nat) : Prop :=
  ats.length = ns.length ∧ ∀ i, i < ns.length → AtN B (ats.getD i 0) (ats.getD i 0) (ns.getD i []) ((ats ++ [B.length]).getD (i + 1) 0)
theorem Laid.nil (B : List UInt8) : Laid [] B [] := ⟨rfl, fun _ h => absurd h (Nat.not_lt_zero _)⟩
theorem getD_left {α : Type} {l m : List α} {i : Nat} {d : α} (h : i < l.length) : (l ++ m).getD i d = l.getD i d := by
  simp [List.getD, List.getElem?_append_left h]
theorem getD_at {α : Type} {l : List α} {a d : α} {i : Nat} (h : i = l.length) : (l ++ [a]).getD i d = a := by
  subst h
  simp [List.getD]
theorem Laid.snoc {ns : List (List (List UInt8))} {B B' S : List UInt8} {ats : List Nat} {n : List (List UInt8)} (h : Laid ns B ats) (hB : B' = B ++ S) (hn : AtN B' B.length B.length n B'.length) : Laid (ns ++ [n]) B' (ats ++ [B.length]) := by
  obtain ⟨h1, h2⟩ := h
  refine ⟨by simp [h1], fun i hi => ?_⟩
  simp only [List.length_append, List.length_cons, List.length_nil] at hi
  by_cases hlt : i < ns.length
  · rw [getD_left (by omega), getD_left hlt, getD_left (by simp; omega)]
    rw [hB]
    exact (h2 i hlt).more S
  · obtain rfl : i = ns.length := by omega
    rw [getD_at h1.symm, getD_at rfl, getD_at (by simp [h1])]
    exact hn

end Go.Proofs.YthppgofpbpjglaaGreat

namespace Go.Proofs.YthppgofpbpjglaaGreat
open Go.RowKit

/-- Has a record few parts, its bytes apart? -/
def fewR (r : Rt) : Bool := decide (r.name.length ≤ 200) && (decide (r.data.host.length ≤ 200) && (decide (r.data.mail.length ≤ 200) && (decide (r.data.texts.length ≤ 100) && decide (r.data.nums.length ≤ 100))))
def sumB (rs : List Rt) : Nat := (rs.map fun r => r.data.bytes.length).sum
def fewQ (q : Qt) : Bool := decide (q.name.length ≤ 200)
def lightM (m : Mt) : Bool := decide (m.all.length ≤ 600) && (decide (m.qs.length ≤ 600) && (m.all.all fewR && (m.qs.all fewQ && decide (sumB m.all < 200000))))
theorem sumB_append (a b : List Rt) : sumB (a ++ b) = sumB a + sumB b := by simp [sumB]
theorem len_le_sumB {rs : List Rt} {r : Rt} (h : r ∈ rs) : r.data.bytes.length ≤ sumB rs := by
  induction rs with
  | nil => exact absurd h (List.not_mem_nil)
  | cons x rs ih =>
    have e : sumB (x :: rs) = x.data.bytes.length + sumB rs := by simp [sumB]
    rcases List.mem_cons.1 h with rfl | h
    · omega
    · have := ih h
      omega
/-- What a light message is. -/
structure LightM (m : Mt) : Prop where
  n : m.all.length ≤ 600
  q : m.qs.length ≤ 600
  r : ∀ r ∈ m.all, LightR r
  k : ∀ q ∈ m.qs, q.name.length ≤ 200
theorem lightM_iff {m : Mt} (h : lightM m = true) : LightM m := by
  unfold lightM at h
  simp only [Bool.and_eq_true, decide_eq_true_eq, List.all_eq_true] at h
  obtain ⟨h0, h1, h2, h3, h4⟩ := h
  refine ⟨h0, h1, fun r hr => ?_, fun q hq => by have := h3 q hq; unfold fewQ at this; simpa using this⟩
  have h5 := h2 r hr
  unfold fewR at h5
  simp only [Bool.and_eq_true, decide_eq_true_eq] at h5
  obtain ⟨e0, e1, e2, e3, e4⟩ := h5
  exact ⟨e0, e1, e2, e3, e4, by have := len_le_sumB hr; omega⟩

theorem sumB_le {M : Nat} : ∀ {rs : List Rt}, (∀ r ∈ rs, r.data.bytes.length ≤ M) → sumB rs ≤ rs.length * M
  | [], _ => Nat.zero_le _
  | r :: rs, h => by
    have h1 := sumB_le (rs := rs) fun x hx => h x (List.mem_cons_of_mem _ hx)
    have h2 := h r (List.mem_cons_self)
    have e : sumB (r :: rs) = r.data.bytes.length + sumB rs := by simp [sumB]
    rw [e, List.length_cons, Nat.succ_mul]
    omega
theorem qsts_step {ps : List (QV × Qt)} {k : Nat} (hk : k < ps.length) : qsts (ps.take (k + 1)) = qsts (ps.take k) ++ [(ps[k]).2] := by
  rw [List.take_succ_eq_append_getElem hk, qsts_append]
  rfl
def SumRelL (W : World) (ps : List (RV × Rt)) (s i : Value) (wr : World) : Prop := ∃ k : Nat, k ≤ ps.length ∧ i = .int .i64 k ∧ s = .int .i64 (sumB (recs (ps.take k)) : Nat) ∧ (recs (ps.take k)).all fewR = true ∧ Below W.heap.size W wr
def FewQRel (w : World) (L : List Value) (qp : List (QV × Qt)) (i : Value) (wr : World) : Prop := ∃ k : Nat, k ≤ qp.length ∧ i = .int .i64 k ∧ (qsts (qp.take k)).all fewQ = true ∧ Whole wr w.heap.size 28 L ∧ Below w.heap.size w wr
def AllRel (w : World) (L : List Value) (ps : List (RV × Rt)) (v : Value) (wx : World) : Prop :=
  ∃ (A : Option Addr) (c : Nat), v = .slice A ps.length c ∧ Row wx wx.heap.size A (ps.flatMap cellsR) ∧ Whole wx w.heap.size 28 L ∧ Below w.heap.size w wx

end Go.Proofs.YthppgofpbpjglaaGreat
