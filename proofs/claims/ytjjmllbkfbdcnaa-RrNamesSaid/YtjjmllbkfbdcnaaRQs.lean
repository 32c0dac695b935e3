/-
  Questions as they lie in memory; the contracts of asked and of has over questions.
-/
import Derived.Test.YtjjmllbkfbdcnaaRHas
namespace Go.Proofs.Ytjjmllbkfbdcnaa
open Go.RowKit

/-- A question. -/
structure Qt where
  name : List (List UInt8)
  kind : Int
  cls : Int
/-- Where its name lies, and what room it has. -/
abbrev QV := Option Addr × Nat
def cellsQ (p : QV × Qt) : List Value := [.slice p.1.1 p.2.name.length p.1.2, .int .i64 p.2.kind, .int .i64 p.2.cls]
abbrev valQ (x : QV) (a : Qt) : Value := .agg #[.slice x.1 a.name.length x.2, .int .i64 a.kind, .int .i64 a.cls]
theorem cellsQ_len (p : QV × Qt) : (cellsQ p).length = 3 := rfl
theorem cellsQ_one (ps : List (QV × Qt)) : ∀ u ∈ ps.flatMap cellsQ, u.oneCell' = true := by
  intro u hu
  obtain ⟨p, _, hp⟩ := List.mem_flatMap.1 hu
  simp only [cellsQ, List.mem_cons, List.not_mem_nil, or_false] at hp
  rcases hp with rfl | rfl | rfl <;> rfl
theorem cellsQ_one1 (p : QV × Qt) : ∀ u ∈ cellsQ p, u.oneCell' = true := fun u hu => cellsQ_one [p] u (by simpa using hu)
def QAt (w : World) (H : Nat) (x : QV) (a : Qt) : Prop := Row w H x.1 (a.name.map sv)
def QsAt (w : World) (H : Nat) (A : Option Addr) (ps : List (QV × Qt)) : Prop := Row w H A (ps.flatMap cellsQ) ∧ ∀ p ∈ ps, QAt w H p.1 p.2
theorem QsAt.below {w w' : World} {H : Nat} {A : Option Addr} {ps : List (QV × Qt)} (h : QsAt w H A ps) (hb : Below H w w') : QsAt w' H A ps := ⟨h.1.below hb, fun p hp => Row.below (h.2 p hp) hb⟩
theorem QsAt.mono {w : World} {H H' : Nat} {A : Option Addr} {ps : List (QV × Qt)} (h : QsAt w H A ps) (hb : H ≤ H') : QsAt w H' A ps := ⟨h.1.mono hb, fun p hp => Row.mono (h.2 p hp) hb⟩
theorem QsAt.at_ {w : World} {H : Nat} {A : Option Addr} {ps : List (QV × Qt)} (h : QsAt w H A ps) {i : Nat} (hi : i < ps.length) :
    ∃ b off, A = some ⟨b, off, none⟩ ∧ b < H ∧ QAt w H (ps[i]).1 (ps[i]).2 ∧ w.cell? ⟨b, off + i * 3, none⟩ = some (.slice (ps[i]).1.1 (ps[i]).2.name.length (ps[i]).1.2) ∧ w.cell? ⟨b, off + i * 3 + 1, none⟩ = some (.int .i64 (ps[i]).2.kind) ∧ w.cell? ⟨b, off + i * 3 + 2, none⟩ = some (.int .i64 (ps[i]).2.cls) := by
  obtain ⟨b, off, e, hb, hc⟩ := h.1.part cellsQ_len (by omega) hi
  exact ⟨b, off, e, hb, h.2 _ (List.getElem_mem hi), hc 0 _ rfl, hc 1 _ rfl, hc 2 _ rfl⟩
def qsts (ps : List (QV × Qt)) : List Qt := ps.map (·.2)
theorem length_qsts (ps : List (QV × Qt)) : (qsts ps).length = ps.length := by simp [qsts]
theorem qsts_append (ps qs : List (QV × Qt)) : qsts (ps ++ qs) = qsts ps ++ qsts qs := by simp [qsts]
/-- Do two questions ask the same? -/
def askQ (a b : Qt) : Bool := decide (a.kind = b.kind) && eqN a.name b.name
def hasQ (l : List Qt) (q : Qt) : Bool := l.any (fun e => askQ q e)
theorem eqN_turn (a b : List (List UInt8)) : eqN a b = eqN b a := by unfold eqN; exact decide_eq_decide.2 ⟨Eq.symm, Eq.symm⟩
theorem askQ_turn (a b : Qt) : askQ a b = askQ b a := by
  unfold askQ
  rw [eqN_turn, show decide (a.kind = b.kind) = decide (b.kind = a.kind) from decide_eq_decide.2 ⟨Eq.symm, Eq.symm⟩]

set_option maxRecDepth 20000 in
set_option maxHeartbeats 2000000 in
theorem asked_any (w : World) (x y : QV) (a b : Qt) (hx : QAt w w.heap.size x a) (hy : QAt w w.heap.size y b) (la : WideN a.name) (lb : WideN b.name) :
    Calls Try.prog 75 #[valQ x a, valQ y b] w (Gave w (.bool (askQ a b))) := by
  obtain ⟨W, hW⟩ : ∃ W, W = (w.alloc (.cells #[.slice x.1 a.name.length x.2, .int .i64 a.kind, .int .i64 a.cls] 69)).alloc (.cells #[.slice y.1 b.name.length y.2, .int .i64 b.kind, .int .i64 b.cls] 69) := ⟨_, rfl⟩
  have hB : Below w.heap.size w W := by rw [hW]; exact ((Below.refl _ _).alloc (Nat.le_refl _) _).alloc (by simp) _
  have HC := Lib.hid (equal_wide x.1 y.1 a.name.length b.name.length x.2 y.2 w.heap.size a.name b.name W rfl rfl (Row.below hx hB) (Row.below hy hB) hB.size la lb)
  have HS := Lib.hid (show askQ a b = (decide (a.kind = b.kind) && eqN a.name b.name) from rfl)
  have HB := Lib.hid hB
  clear hB hx hy la lb
  subst hW
  by_cases hk : a.kind = b.kind
  · have t : (a.kind == b.kind) = true := by rw [beq_iff_eq]; exact hk
    rw [show decide (a.kind = b.kind) = true from decide_eq_true hk] at HS
    clear hk
    go_enter Try.func75, Try.ntmps75
    go_wp2_with fail
    refine HC.out.mono ?_
    rintro e w1 ⟨rfl, hb1⟩
    have HB1 := Lib.hid (HB.out.trans (hb1.mono HB.out.size))
    clear hb1
    go_wp2
    go_ret
    exact ⟨by rw [HS.out]; simp, HB1.out⟩
  · have t : (a.kind == b.kind) = false := by rw [beq_eq_false_iff_ne]; exact hk
    rw [show decide (a.kind = b.kind) = false from decide_eq_false hk] at HS
    clear hk
    go_enter Try.func75, Try.ntmps75
    go_wp2
    go_ret
    exact ⟨by rw [HS.out]; rfl, HB.out⟩

structure HasBoxQ (w : World) (g f : Nat) (x : QV) (a : Qt) : Prop where
  bg : Whole w g 69 [.slice x.1 a.name.length x.2, .int .i64 a.kind, .int .i64 a.cls]
  bf : Whole w f 106 [.func (.func 75) #[] #[]]
  d : QAt w w.heap.size x a
theorem HasBoxQ.below {w w' : World} {g f : Nat} {x : QV} {a : Qt} (h : HasBoxQ w g f x a) (hb : Below w.heap.size w w') : HasBoxQ w' g f x a :=
  ⟨h.bg.below hb h.bg.lt, h.bf.below hb h.bf.lt, Row.mono (Row.below h.d hb) hb.size⟩

set_option maxHeartbeats 1000000 in
theorem has1_anyQ (w : World) (g f : Nat) (x y : QV) (a b : Qt) (h : HasBoxQ w g f x a) (hy : QAt w w.heap.size y b) (la : WideN a.name) (lb : WideN b.name) :
    Calls Try.prog 101 #[valQ y b, .pointer (some ⟨f, 0, none⟩), .pointer (some ⟨g, 0, none⟩)] w (Gave w (.bool (askQ a b))) := by
  obtain ⟨W, hW⟩ : ∃ W, W = w.alloc (.cells #[.slice y.1 b.name.length y.2, .int .i64 b.kind, .int .i64 b.cls] 69) := ⟨_, rfl⟩
  have hB : Below w.heap.size w W := by rw [hW]; exact (Below.refl _ _).alloc (Nat.le_refl _) _
  have hx := h.below hB
  have hwh : Whole W w.heap.size 69 [.slice y.1 b.name.length y.2, .int .i64 b.kind, .int .i64 b.cls] := by rw [hW]; exact Whole.made w _ _
  have c0 : W.cell? ⟨w.heap.size, 0, none⟩ = some (.slice y.1 b.name.length y.2) := hwh.cell 0
  have c1 : W.cell? ⟨w.heap.size, 1, none⟩ = some (.int .i64 b.kind) := hwh.cell 1
  have c2 : W.cell? ⟨w.heap.size, 2, none⟩ = some (.int .i64 b.cls) := hwh.cell 2
  have d0 : W.cell? ⟨g, 0, none⟩ = some (.slice x.1 a.name.length x.2) := hx.bg.cell 0
  have d1 : W.cell? ⟨g, 1, none⟩ = some (.int .i64 a.kind) := hx.bg.cell 1
  have d2 : W.cell? ⟨g, 2, none⟩ = some (.int .i64 a.cls) := hx.bg.cell 2
  have f0 : W.cell? ⟨f, 0, none⟩ = some (.func (.func 75) #[] #[]) := hx.bf.cell 0
  have HC := Lib.hid (asked_any W x y a b hx.d (Row.mono (Row.below hy hB) hB.size) la lb)
  have HB := Lib.hid hB
  clear hB hx hwh hy la lb h
  subst hW
  go_enter Try.func101, Try.ntmps101
  go_wp2_with fail
  refine HC.out.mono ?_
  rintro e w1 ⟨rfl, hb1⟩
  have HB1 := Lib.hid hb1
  clear hb1
  go_wp2
  go_ret
  exact ⟨rfl, HB.out.trans (HB1.out.mono HB.out.size)⟩

def IndexRelQ (w : World) (ps : List (QV × Qt)) (P : Qt → Bool) (i : Value) (wr : World) : Prop :=
  ∃ k : Nat, k ≤ ps.length ∧ i = .int .i64 k ∧ (qsts (ps.take k)).any P = false ∧ Below w.heap.size w wr
theorem any_snocQ {ps : List (QV × Qt)} {k : Nat} (P : Qt → Bool) (hk : k < ps.length) (h : (qsts (ps.take k)).any P = false) :
    (P (ps[k]).2 = true → (qsts ps).any P = true) ∧ (P (ps[k]).2 = false → (qsts (ps.take (k + 1))).any P = false) := by
  constructor
  · intro hp
    rw [List.any_eq_true]
    exact ⟨(ps[k]).2, List.mem_map.2 ⟨ps[k], List.getElem_mem hk, rfl⟩, hp⟩
  · intro hp
    rw [List.take_succ_eq_append_getElem hk, qsts_append, List.any_append, h]
    simpa [qsts] using hp

set_option maxHeartbeats 2000000 in
theorem index_hasQ (w : World) (g f : Nat) (x : QV) (a : Qt) (A : Option Addr) (c : Nat) (ps : List (QV × Qt)) (h : HasBoxQ w g f x a) (hp : QsAt w w.heap.size A ps) (la : WideN a.name) (hc : ∀ p ∈ ps, WideN p.2.name) (hl : ps.length ≤ maxLen) :
    Calls Try.prog 112 #[.slice A ps.length c, .func (.func 101) #[] #[.pointer (some ⟨f, 0, none⟩), .pointer (some ⟨g, 0, none⟩)]] w (IndexOut w ((qsts ps).any (fun e => askQ a e))) := by
  unfold maxLen at hl
  have HX := Lib.hid h
  have HP := Lib.hid hp
  have HC := Lib.hid hc
  clear h hp hc
  go_enter Try.func112, Try.ntmps112
  go_wp2
  go_loopw [8] (IndexRelQ w ps (fun e => askQ a e)) (fun i _ => ps.length - (intOf i).toNat)
  case atStart => exact ⟨0, Nat.zero_le _, rfl, rfl, Below.refl _ _⟩
  case round =>
    obtain ⟨k, hk, rfl, hn, hb⟩ := hrel
    have HN := Lib.hid hn
    have HB := Lib.hid hb
    have hz := hb.size
    clear hn hb
    by_cases hlt : k < ps.length
    · obtain ⟨b, off, rfl, hbH, hd, q0, q1, q2⟩ := (HP.out.below HB.out).at_ hlt
      have HCL := Lib.hid (has1_anyQ wr g f x (ps[k]).1 a (ps[k]).2 (HX.out.below HB.out) (Row.mono hd HB.out.size) la (HC.out _ (List.getElem_mem hlt)))
      have HI := Lib.hid (any_snocQ (fun e => askQ a e) hlt HN.out)
      clear hd
      revert q0 q1 q2 HCL HI
      generalize ps[k] = p
      obtain ⟨y, d⟩ := p
      intro q0 q1 q2 HCL HI
      dsimp only at *
      go_wp2_with fail
      refine HCL.out.mono ?_
      rintro e w1 ⟨rfl, hb1⟩
      have HB1 := Lib.hid (HB.out.trans (hb1.mono hz))
      clear hb1
      cases hv : askQ a d with
      | true =>
        have HT := Lib.hid (HI.out.1 hv)
        clear HI
        go_wp2
        go_ret
        exact ⟨_, rfl, by rw [HT.out]; simp, HB1.out⟩
      | false =>
        have HT := Lib.hid (HI.out.2 hv)
        clear HI
        go_wp2
        exact ⟨⟨k + 1, by omega, by go_num, HT.out, HB1.out⟩, by simp [intOf]; omega⟩
    · obtain rfl : k = ps.length := by omega
      have HF := Lib.hid (show (qsts ps).any (fun e => askQ a e) = false by have h := HN.out; rwa [List.take_length] at h)
      go_wp2
      go_ret
      exact ⟨_, rfl, by rw [HF.out]; rfl, HB.out⟩

set_option maxHeartbeats 1000000 in
theorem contains_hasQ (w : World) (g f : Nat) (x : QV) (a : Qt) (A : Option Addr) (c : Nat) (ps : List (QV × Qt)) (h : HasBoxQ w g f x a) (hp : QsAt w w.heap.size A ps) (la : WideN a.name) (hc : ∀ p ∈ ps, WideN p.2.name) (hl : ps.length ≤ maxLen) :
    Calls Try.prog 100 #[.slice A ps.length c, .func (.func 101) #[] #[.pointer (some ⟨f, 0, none⟩), .pointer (some ⟨g, 0, none⟩)]] w (Gave w (.bool ((qsts ps).any (fun e => askQ a e)))) := by
  have HC := Lib.hid (index_hasQ w g f x a A c ps h hp la hc hl)
  clear h hp hc
  go_enter Try.func100, Try.ntmps100
  go_wp2_with fail
  refine HC.out.mono ?_
  rintro e w1 ⟨i, rfl, hi, hb1⟩
  have HB1 := Lib.hid hb1
  have HI := Lib.hid hi
  clear hb1 hi
  go_wp2
  go_ret
  exact ⟨ret_bool HI.out, HB1.out⟩

set_option maxHeartbeats 1000000 in
theorem has_anyQ (w : World) (x : QV) (a : Qt) (A : Option Addr) (c : Nat) (ps : List (QV × Qt)) (hx : QAt w w.heap.size x a) (hp : QsAt w w.heap.size A ps) (la : WideN a.name) (hc : ∀ p ∈ ps, WideN p.2.name) (hl : ps.length ≤ maxLen) :
    Calls Try.prog 74 #[.slice A ps.length c, valQ x a, .func (.func 75) #[] #[]] w (Gave w (.bool (hasQ (qsts ps) a))) := by
  obtain ⟨W, hW⟩ : ∃ W, W = (w.alloc (.cells #[.slice x.1 a.name.length x.2, .int .i64 a.kind, .int .i64 a.cls] 69)).alloc (.cells #[.func (.func 75) #[] #[]] 106) := ⟨_, rfl⟩
  have hB : Below w.heap.size w W := by rw [hW]; exact ((Below.refl _ _).alloc (Nat.le_refl _) _).alloc (by simp) _
  have hb : HasBoxQ W w.heap.size (w.heap.size + 1) x a := by
    have hg := (Whole.made w [.slice x.1 a.name.length x.2, .int .i64 a.kind, .int .i64 a.cls] 69).alloc (.cells #[.func (.func 75) #[] #[]] 106)
    have hf := Whole.made (w.alloc (.cells #[.slice x.1 a.name.length x.2, .int .i64 a.kind, .int .i64 a.cls] 69)) [.func (.func 75) #[] #[]] 106
    rw [show (w.alloc (.cells #[.slice x.1 a.name.length x.2, .int .i64 a.kind, .int .i64 a.cls] 69)).heap.size = w.heap.size + 1 by simp] at hf
    refine ⟨?_, ?_, Row.mono (Row.below hx hB) hB.size⟩
    · rw [hW]; exact hg
    · rw [hW]; exact hf
  have HC := Lib.hid (contains_hasQ W w.heap.size (w.heap.size + 1) x a A c ps hb ((hp.below hB).mono hB.size) la hc hl)
  have HB := Lib.hid hB
  clear hB hb hx hp hc
  subst hW
  go_enter Try.func74, Try.ntmps74
  go_wp2_with fail
  refine HC.out.mono ?_
  rintro e w1 ⟨rfl, hb1⟩
  have HB1 := Lib.hid hb1
  clear hb1
  go_wp2
  go_ret
  exact ⟨rfl, HB.out.trans (HB1.out.mono HB.out.size)⟩


end Go.Proofs.Ytjjmllbkfbdcnaa
