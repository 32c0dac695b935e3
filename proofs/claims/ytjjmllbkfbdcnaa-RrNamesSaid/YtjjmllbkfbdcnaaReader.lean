/-
  The contracts of the reader's behind and label.
-/
import Derived.Test.YtjjmllbkfbdcnaaFrame
import Derived.Test.YtjjmllbkfbdcnaaNGet
import Derived.Test.YtjjmllbkfbdcnaaGet
import Derived.Test.YtjjmllbkfbdcnaaExact
import Derived.Deep.RegionLaw
import Derived.Deep.AppendLies
import Derived.Deep.RegionHeld3
import Derived.BigRegion
namespace Go.Proofs.Ytjjmllbkfbdcnaa
open Go.RowKit

/-- The cells of a reader. -/
def rdL (vb : Value) (p q x s : Nat) (vl : Value) (d : Bool) : List Value := [vb, .int .i64 p, .int .i64 q, .int .i64 x, .int .i64 s, vl, .bool d]
abbrev RD (w : World) (g : Nat) (vb : Value) (p q x s : Nat) (vl : Value) (d : Bool) : Prop := Whole w g 119 (rdL vb p q x s vl d)

section
variable {w : World} {g : Nat} {vb : Value} {p q x s : Nat} {vl : Value} {d : Bool}
theorem RD.c0 (h : RD w g vb p q x s vl d) : w.cell? ⟨g, 0, none⟩ = some vb := h.cell 0
theorem RD.c1 (h : RD w g vb p q x s vl d) : w.cell? ⟨g, 1, none⟩ = some (.int .i64 p) := h.cell 1
theorem RD.c2 (h : RD w g vb p q x s vl d) : w.cell? ⟨g, 2, none⟩ = some (.int .i64 q) := h.cell 2
theorem RD.c3 (h : RD w g vb p q x s vl d) : w.cell? ⟨g, 3, none⟩ = some (.int .i64 x) := h.cell 3
theorem RD.c4 (h : RD w g vb p q x s vl d) : w.cell? ⟨g, 4, none⟩ = some (.int .i64 s) := h.cell 4
theorem RD.c5 (h : RD w g vb p q x s vl d) : w.cell? ⟨g, 5, none⟩ = some vl := h.cell 5
theorem RD.c6 (h : RD w g vb p q x s vl d) : w.cell? ⟨g, 6, none⟩ = some (.bool d) := h.cell 6
theorem RD.set1 (h : RD w g vb p q x s vl d) (y : Nat) : RD (w.setCell ⟨g, 1, none⟩ (.int .i64 y)) g vb y q x s vl d := h.set_ 1 _
theorem RD.set2 (h : RD w g vb p q x s vl d) (y : Nat) : RD (w.setCell ⟨g, 2, none⟩ (.int .i64 y)) g vb p y x s vl d := h.set_ 2 _
theorem RD.set3 (h : RD w g vb p q x s vl d) (y : Nat) : RD (w.setCell ⟨g, 3, none⟩ (.int .i64 y)) g vb p q y s vl d := h.set_ 3 _
theorem RD.set4 (h : RD w g vb p q x s vl d) (y : Nat) : RD (w.setCell ⟨g, 4, none⟩ (.int .i64 y)) g vb p q x y vl d := h.set_ 4 _
theorem RD.set5 (h : RD w g vb p q x s vl d) (y : Value) : RD (w.setCell ⟨g, 5, none⟩ y) g vb p q x s y d := h.set_ 5 _
theorem RD.set6 (h : RD w g vb p q x s vl d) (y : Bool) : RD (w.setCell ⟨g, 6, none⟩ (.bool y)) g vb p q x s vl y := h.set_ 6 _
end

theorem below_set {w : World} {base g : Nat} (hg : base ≤ g) (i : Nat) (u : Value) : Below base w (w.setCell ⟨g, i, none⟩ u) := (Below.refl base w).setCell (p := ⟨g, i, none⟩) hg u

/-- The call has put the place in, if none was there. -/
def Behind (base : Nat) (w : World) (g : Nat) (vb : Value) (p q x s : Nat) (vl : Value) (d : Bool) (y : Nat) (e : Ending) (w' : World) : Prop :=
  e = .returned (.tuple #[]) ∧ RD w' g vb p q (nextR x y) s vl d ∧ Below base w w' ∧ ∀ j, j ≠ g → w'.heap[j]? = w.heap[j]?

set_option maxHeartbeats 400000 in
theorem behind_any (base : Nat) (w : World) (g : Nat) (vb : Value) (p q x s : Nat) (vl : Value) (d : Bool) (y : Nat) (hg : base ≤ g) (h : RD w g vb p q x s vl d) :
    Calls Try.prog 107 #[.pointer (some ⟨g, 0, none⟩), .int .i64 y] w (Behind base w g vb p q x s vl d y) := by
  have h3 := h.c3
  have f3 : w.frozen? ⟨g, 3, none⟩ = false := h.frozen 3
  have HR := Lib.hid h
  clear h
  by_cases hx : x = 0
  · subst hx
    go_enter Try.func107, Try.ntmps107
    go_wp2
    go_end0
    exact ⟨rfl, HR.out.set3 y, below_set hg _ _, fun j hj => Below.heap_setCell w ⟨g, 3, none⟩ _ j hj⟩
  · have t1 : ((x : Int) == 0) = false := by rw [beq_eq_false_iff_ne]; omega
    have HX := Lib.hid (show nextR x y = x by rw [nextR, if_neg hx])
    clear hx
    go_enter Try.func107, Try.ntmps107
    go_wp2
    go_end0
    exact ⟨rfl, by rw [HX.out]; exact HR.out, Below.refl _ _, fun _ _ => rfl⟩

/-- The call answers the error k. -/
def Erred (base : Nat) (w : World) (g : Nat) (vb : Value) (k : Int) (e : Ending) (w' : World) : Prop := e = .returned (.int .i64 k) ∧ Below base w w' ∧ ∃ vl p q x s d, RD w' g vb p q x s vl d

set_option maxHeartbeats 400000 in
theorem label_short (base : Nat) (w : World) (g : Nat) (A : Option Addr) (m cap : Nat) (p q x s f c : Nat) (vl : Value) (d : Bool) (h : RD w g (.slice A m cap) p q x s vl d) (hm : m ≤ maxLen) (hc : c < 64) (hs : m < f + c) :
    Calls Try.prog 108 #[.pointer (some ⟨g, 0, none⟩), .int .i64 f, .int .i64 c] w (Erred base w g (.slice A m cap) 3) := by
  unfold maxLen at hm
  have h0 := h.c0
  have d1 : decide ((m : Int) - (c : Int) < (f : Int)) = true := by simp; omega
  have HR := Lib.hid h
  clear h
  go_enter Try.func108, Try.ntmps108
  go_wp2
  go_ret
  exact ⟨rfl, Below.refl _ _, _, _, _, _, _, _, HR.out⟩

set_option maxHeartbeats 400000 in
theorem label_long (base : Nat) (w : World) (g : Nat) (A : Option Addr) (m cap : Nat) (p q x s f c : Nat) (vl : Value) (d : Bool) (hg : base ≤ g) (h : RD w g (.slice A m cap) p q x s vl d) (hm : m ≤ maxLen) (hc : c < 64) (hs : f + c ≤ m) (hsz : s ≤ 255) (hl : 255 < s + 1 + c) :
    Calls Try.prog 108 #[.pointer (some ⟨g, 0, none⟩), .int .i64 f, .int .i64 c] w (Erred base w g (.slice A m cap) 5) := by
  unfold maxLen at hm
  have h0 := h.c0
  have h4 := h.c4
  have f4 : w.frozen? ⟨g, 4, none⟩ = false := h.frozen 4
  have d1 : decide ((m : Int) - (c : Int) < (f : Int)) = false := by simp; omega
  have d2 : decide (255 < (s : Int) + (1 + (c : Int))) = true := by simp; omega
  have HR := Lib.hid h
  clear h
  go_enter Try.func108, Try.ntmps108
  go_wp2
  go_ret
  refine ⟨rfl, below_set hg _ _, vl, p, q, x, s + (1 + c), d, ?_⟩
  have h := RD.set4 HR.out (s + (1 + c))
  rw [show ((s + (1 + c) : Nat) : Int) = (s : Int) + (1 + (c : Int)) by omega] at h
  exact h

/-- The call has read on: the labels are n now. -/
def Labeled (base : Nat) (w : World) (g : Nat) (vb : Value) (p q x : Nat) (n : List (List UInt8)) (d : Bool) (e : Ending) (w' : World) : Prop :=
  e = .returned (.int .i64 0) ∧ ∃ vl', RD w' g vb p q x (szN n) vl' d ∧ w'.ownsRow base 9 1 vl' n.length (n.map sv) ∧ Below base w w'

set_option maxHeartbeats 1000000 in
theorem label_ok (base : Nat) (w : World) (g : Nat) (bb off m cap : Nat) (b : List UInt8) (p q x f c : Nat) (vl : Value) (n : List (List UInt8)) (d : Bool) (hg : base ≤ g) (h : RD w g (.slice (some ⟨bb, off, none⟩) m cap) p q x (szN n) vl d)
    (hbl : b.length = m) (hrow : Row w base (some ⟨bb, off, none⟩) (b.map bc)) (hown : w.ownsRow base 9 1 vl n.length (n.map sv)) (hz : base ≤ w.heap.size)
    (hm : m ≤ cap) (hcap : cap ≤ maxLen) (hc1 : 1 ≤ c) (hc : c < 64) (hs : f + c ≤ m) (hl : szN n + 1 + c ≤ 255) :
    Calls Try.prog 108 #[.pointer (some ⟨g, 0, none⟩), .int .i64 f, .int .i64 c] w (Labeled base w g (.slice (some ⟨bb, off, none⟩) m cap) (f + c) q x (n ++ [cutL b f c]) d) := by
  unfold maxLen at hcap
  obtain ⟨i0, hi0, hz0, hz1, hz2⟩ := info_parts str_info
  have h0 := h.c0
  have h1 := h.c1
  have h4 := h.c4
  have f1 : w.frozen? ⟨g, 1, none⟩ = false := h.frozen 1
  have f4 : w.frozen? ⟨g, 4, none⟩ = false := h.frozen 4
  have d1 : decide ((m : Int) - (c : Int) < (f : Int)) = false := by simp; omega
  have d2 : decide (255 < (szN n : Int) + (1 + (c : Int))) = false := by simp; omega
  have HR := Lib.hid h
  have HW := Lib.hid hrow
  have HO := Lib.hid hown
  have HL := Lib.hid hbl
  clear h hrow hown hbl
  go_enter Try.func108, Try.ntmps108
  go_wp2
  obtain ⟨W, hW⟩ : ∃ W, W = (w.setCell ⟨g, 4, none⟩ (.int .i64 ((szN n : Int) + (1 + (c : Int))))).setCell ⟨g, 1, none⟩ (.int .i64 ((f : Int) + (c : Int))) := ⟨_, rfl⟩
  rw [← hW]
  have hB : Below base w W := by rw [hW]; exact (below_set hg _ _).trans (below_set hg _ _)
  have hr : RD W g (.slice (some ⟨bb, off, none⟩) m cap) (f + c) q x (szN n + (1 + c)) vl d := by
    rw [hW, show (szN n : Int) + (1 + (c : Int)) = ((szN n + (1 + c) : Nat) : Int) by omega, show (f : Int) + (c : Int) = ((f + c : Nat) : Int) by omega]
    exact (HR.out.set4 _).set1 _
  have hgl := hr.lt
  have ho : W.ownsRow base 9 1 vl n.length (n.map sv) := by
    rw [hW]
    exact own_set_far (own_set_far HO.out (own_not_whole HO.out HR.out (by decide)) _) (own_not_whole HO.out HR.out (by decide)) _
  have hrw := HW.out.below hB
  have hne : vl.ownBlock ≠ some g := own_not_whole HO.out HR.out (by decide)
  clear hW h0 h1 h4 f1 f4 d1 d2 HR HW HO
  replace hz := Nat.le_trans hz hB.size
  have HB := Lib.hid hB
  have h0 := hr.c0
  have h1 : W.cell? ⟨g, 1, none⟩ = some (.int .i64 ((f : Int) + (c : Int))) := hr.c1
  have h5 := hr.c5
  have hcv := convert_row_run (P := Try.prog) W.drew 22 9 5 Try.underlying22 Try.underlying5 Try.underlying9 (some ⟨bb, off + f, none⟩) c (cap - f) base (cutL b f c) (length_cutL (by rw [HL.out]; exact hs))
    (by have := ((hrw.drop rfl (k := f)).take c); rw [← List.map_drop, ← List.map_take] at this; exact this)
  have HO := Lib.hid ho
  have HR := Lib.hid hr
  have HN := Lib.hid hne
  clear hB ho hr hne hrw
  have e0 : (0 : Int) ≤ f := by omega
  have e1 : (f : Int) ≤ (f : Int) + c := by omega
  have e2 : (f : Int) + c ≤ cap := by omega
  have hnl : n.length ≤ 254 := by have := length_lt_szN n; omega
  have hcf : (cap = f) = False := by simp; omega
  have htn : ((f : Int) + (c : Int)).toNat - f = c := by omega
  go_region_law (first
    | (refine step_append_lies _ (by rfl) (.tmp 40) (.tmp 52) _ (by rfl) base 9 i0 _ 1 16 Try.underlying23 hi0 hz0 hz1 hz2 rfl (by omega) vl n.length (n.map sv) (by rfl) ((HO.out.drew).alloc _)
        ⟨W.heap.size, 0, none⟩ 1 1 [.string ⟨(cutL b f c).toArray⟩] (by rfl) (by rfl) (World.news_of_block (heap_alloc_new _ _)) (by simp [Value.oneCell']) (by omega) (by unfold maxLen; omega) (by omega) (by simp; omega) (W.heap.size + 1) (by simp) ?_
       intro gg cap2 w1 hown1 hgrow hat hlt
       have hr1 := HR.out.keep ((hgrow.block g (by simp; omega) (Ne.symm HN.out)).trans (Below.heap_alloc W.drew _ g (by simpa using hgl)))
       have h5' := RD.c5 hr1
       have f5' : w1.frozen? ⟨g, 5, none⟩ = false := Whole.frozen hr1 5
       have HR1 := Lib.hid hr1
       have HO1 := Lib.hid hown1
       have HB1 := Lib.hid (own_below (((Below.refl base W).drew).alloc (by simpa using hz) _) (Nat.le_refl _) (by simp; omega) ((HO.out.drew).alloc _) hgrow)
       clear hr1 hown1 hgrow hat hlt))
  all_goals
    go_wp2
    go_ret
    have hr2 := RD.set5 HR1.out (.slice (some ⟨gg, 0, none⟩) (n.length + 1) cap2)
    refine ⟨rfl, .slice (some ⟨gg, 0, none⟩) (n.length + 1) cap2, ?_, ?_, (HB.out.trans HB1.out).trans (below_set hg _ _)⟩
    · rw [show szN (n ++ [cutL b f c]) = szN n + (1 + c) by rw [szN_snoc, length_cutL (by rw [HL.out]; exact hs)]; omega]
      exact hr2
    · have ho2 := own_set_far HO1.out (a := ⟨g, 5, none⟩) (own_not_whole HO1.out HR1.out (by decide)) (.slice (some ⟨gg, 0, none⟩) (n.length + 1) cap2)
      simpa [sv] using ho2

end Go.Proofs.Ytjjmllbkfbdcnaa
