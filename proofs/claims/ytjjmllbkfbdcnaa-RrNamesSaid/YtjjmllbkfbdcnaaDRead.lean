/-
  The reader of rdata: giving up, a number, the next bytes.
-/
import Derived.Test.YtjjmllbkfbdcnaaFrame
import Derived.Test.YtjjmllbkfbdcnaaGet
import Derived.Test.YtjjmllbkfbdcnaaExact
import Derived.Deep.QuietTactic
import Derived.BigQuiet
namespace Go.Proofs.Ytjjmllbkfbdcnaa
open Go.RowKit

/-- The call gives up with the error k. -/
def gaveE (k : Int) : Ending := .panicked [{ v := .iface 109 (.agg #[.int .i64 k]), recovered := false }]

/-- A reader's block: the bytes, the place, the end. -/
abbrev RB (w : World) (g : Nat) (vb : Value) (p en : Nat) : Prop := Whole w g 113 [vb, .int .i64 p, .int .i64 en]
section
variable {w : World} {g : Nat} {vb : Value} {p en : Nat}
theorem RB.c0 (h : RB w g vb p en) : w.cell? ⟨g, 0, none⟩ = some vb := h.cell 0
theorem RB.c1 (h : RB w g vb p en) : w.cell? ⟨g, 1, none⟩ = some (.int .i64 p) := h.cell 1
theorem RB.c2 (h : RB w g vb p en) : w.cell? ⟨g, 2, none⟩ = some (.int .i64 en) := h.cell 2
theorem RB.set1 (h : RB w g vb p en) (y : Nat) : RB (w.setCell ⟨g, 1, none⟩ (.int .i64 y)) g vb y en := h.set_ 1 _
end
/-- Only the block g may have turned. -/
abbrev GrewG (g : Nat) (w w' : World) : Prop := Grew (fun j => j = g) w w'

set_option maxHeartbeats 400000 in
theorem giveUp_any (k : Int) (w : World) : Calls Try.prog 106 #[.int .i64 k] w (fun e w' => e = gaveE k ∧ w = w') := by
  go_enter Try.func106, Try.ntmps106
  go_wp2
  exact ⟨rfl, rfl, rfl⟩

theorem cutL_take {b : List UInt8} {p s en : Nat} (h : p + s ≤ en) : cutL (b.take en) p s = cutL b p s := by
  unfold cutL
  rw [List.drop_take, List.take_take]
  congr 1
  omega

theorem num_quiet {A : Option Addr} {m cap base en : Nat} {b : List UInt8} {a s r1 r2 : Int} {w : World} (hbl : b.length = m) (hm : m ≤ cap) (hc : cap ≤ maxLen) (hen : en ≤ m) (hg : getL (b.take en) a s = (r1, r2)) (hrow : Row w base A (b.map bc)) (k : Nat) :
    Calls Try.prog 86 #[.slice A en cap, .int .i64 a, .int .i64 s] (w.drewN k) fun e w' => e = .returned (.tuple #[.int .i64 r1, .int .i64 r2]) ∧ ∃ j, w' = w.drewN j :=
  (get_any A en cap base (b.take en) a s (w.drewN k) (by rw [List.length_take]; omega) (by rw [List.map_take]; exact (hrow.take en).drewN k) (by omega) (by omega)).mono fun e w' ⟨he, hw⟩ => ⟨by rw [he, hg], k, hw.symm⟩

/-- The call answers v, and stands at p' now. -/
def Went (w : World) (g : Nat) (vb : Value) (p' en : Nat) (v : Value) (e : Ending) (w' : World) : Prop := e = .returned v ∧ RB w' g vb p' en ∧ GrewG g w w'
/-- The call gives up. -/
def Quit (g : Nat) (w : World) (k : Int) (e : Ending) (w' : World) : Prop := e = gaveE k ∧ GrewG g w w'

set_option maxHeartbeats 400000 in
theorem dnum_ok (w : World) (g : Nat) (A : Option Addr) (m cap base : Nat) (b : List UInt8) (p en s : Nat) (h : RB w g (.slice A m cap) p en) (hbl : b.length = m) (hrow : Row w base A (b.map bc)) (hm : m ≤ cap) (hc : cap ≤ maxLen) (hen : en ≤ m)
    (h1 : 1 ≤ s) (h2 : s ≤ 7) (hp : p + s ≤ en) :
    Calls Try.prog 113 #[.pointer (some ⟨g, 0, none⟩), .int .i64 s] w (Went w g (.slice A m cap) (p + s) en (.int .i64 (numN (cutL b p s)))) := by
  have HG := Lib.hid (num_quiet (en := en) (a := (p : Int)) (s := (s : Int)) (r1 := numN (cutL b p s)) (r2 := 0) hbl hm hc hen (by rw [getL_ok h1 h2 (by rw [List.length_take]; omega), cutL_take hp]) hrow)
  unfold maxLen at hc
  have c0 := h.c0
  have c1 := h.c1
  have c2 := h.c2
  have f1 : w.frozen? ⟨g, 1, none⟩ = false := h.frozen 1
  have e1 : (0 : Int) ≤ en := by omega
  have e2 : (en : Int) ≤ cap := by omega
  have HR := Lib.hid h
  clear h hbl hrow
  go_enter Try.func113, Try.ntmps113
  go_wp2
  go_quiet ((go_at_call 86; exact HG.out _))
  go_wp2
  go_ret
  refine ⟨rfl, ?_, ?_⟩
  · have hr := HR.out.set1 (p + s)
    rw [show ((p + s : Nat) : Int) = (p : Int) + (s : Int) by omega] at hr
    exact hr
  · exact Grew.setCell (F := fun j => j = g) ((Grew.refl _ w).drewN _) (a := ⟨g, 1, none⟩) (.inl rfl) _

set_option maxHeartbeats 400000 in
theorem dnum_short (w : World) (g : Nat) (A : Option Addr) (m cap base : Nat) (b : List UInt8) (p en s : Nat) (h : RB w g (.slice A m cap) p en) (hbl : b.length = m) (hrow : Row w base A (b.map bc)) (hm : m ≤ cap) (hc : cap ≤ maxLen) (hen : en ≤ m)
    (h1 : 1 ≤ s) (h2 : s ≤ 7) (hp : en < p + s) :
    Calls Try.prog 113 #[.pointer (some ⟨g, 0, none⟩), .int .i64 s] w (Quit g w 3) := by
  have HG := Lib.hid (num_quiet (en := en) (a := (p : Int)) (s := (s : Int)) (r1 := 0) (r2 := 3) hbl hm hc hen (getL_short (a := p) (s := s) (by omega) (by omega) (by omega) (by rw [List.length_take]; omega)) hrow)
  unfold maxLen at hc
  have c0 := h.c0
  have c1 := h.c1
  have c2 := h.c2
  have e1 : (0 : Int) ≤ en := by omega
  have e2 : (en : Int) ≤ cap := by omega
  clear h hbl hrow
  go_enter Try.func113, Try.ntmps113
  go_wp2
  go_quiet ((go_at_call 86; exact HG.out _))
  go_wp2_with fail
  refine (giveUp_any _ _).mono ?_
  rintro e w' ⟨rfl, rfl⟩
  exact ⟨rfl, rfl, (Grew.refl _ w).drewN _⟩

/-- The call answers the next s bytes, where they lie. -/
def Took (w : World) (g base : Nat) (vb : Value) (b : List UInt8) (p s en : Nat) (e : Ending) (w' : World) : Prop :=
  ∃ A' c', e = .returned (.slice A' s c') ∧ s ≤ c' ∧ c' ≤ maxLen ∧ Row w base A' ((cutL b p s).map bc) ∧ RB w' g vb (p + s) en ∧ GrewG g w w'

theorem row_cut {w : World} {base m p s : Nat} {A : Option Addr} {b : List UInt8} (hbl : b.length = m) (hrow : Row w base A (b.map bc)) (hp : p + s ≤ m) : Row w base (A.map fun x => x.add p) ((cutL b p s).map bc) := by
  rcases Nat.eq_zero_or_pos s with rfl | hs
  · simp only [cutL, List.take_zero, List.map_nil]
    exact Row.empty _ _ _
  · obtain ⟨bb, off, rfl, _, _⟩ := hrow.some_ (by rw [List.length_map]; omega)
    simp only [Option.map_some, addr_add]
    have h := (hrow.drop rfl (k := p)).take s
    rw [← List.map_drop, ← List.map_take] at h
    exact h

set_option maxHeartbeats 400000 in
theorem take_ok (w : World) (g : Nat) (A : Option Addr) (m cap base : Nat) (b : List UInt8) (p en s : Nat) (h : RB w g (.slice A m cap) p en) (hbl : b.length = m) (hrow : Row w base A (b.map bc)) (hm : m ≤ cap) (hc : cap ≤ maxLen) (hen : en ≤ m) (hp : p + s ≤ en) :
    Calls Try.prog 114 #[.pointer (some ⟨g, 0, none⟩), .int .i64 s] w (Took w g base (.slice A m cap) b p s en) := by
  have HC := Lib.hid (row_cut (p := p) (s := s) hbl hrow (by omega))
  have H0 : ∀ k, RB (w.drewN k) g (.slice A m cap) p en := fun k => h
  have HK : ∀ k, RB ((w.drewN k).setCell ⟨g, 1, none⟩ (.int .i64 ((p : Int) + (s : Int)))) g (.slice A m cap) (p + s) en := fun k => by
    have hr := (H0 k).set1 (p + s)
    rw [show ((p + s : Nat) : Int) = (p : Int) + (s : Int) by omega] at hr
    exact hr
  have HL := Lib.hid HK
  have HG := Lib.hid (fun k => Grew.setCell (F := fun j => j = g) ((Grew.refl _ w).drewN k) (a := ⟨g, 1, none⟩) (.inl rfl) (.int .i64 ((p : Int) + (s : Int))))
  have HM := Lib.hid hc
  have HW := Lib.hid hrow
  have HB := Lib.hid hbl
  unfold maxLen at hc
  have c0 := h.c0
  have c1 := h.c1
  have c2 := h.c2
  have f1 : w.frozen? ⟨g, 1, none⟩ = false := h.frozen 1
  have e1 : (0 : Int) ≤ p := by omega
  have e2 : (p : Int) + s ≤ cap := by omega
  have e3 : (p : Int) ≤ (p : Int) + s := by omega
  have d1 : decide ((en : Int) - (p : Int) < (s : Int)) = false := by simp; omega
  clear h hrow hbl H0 HK
  go_enter Try.func114, Try.ntmps114
  go_wp2
  go_quiet (fail)
  go_wp2
  go_quiet (fail)
  go_wp2
  case inl =>
    obtain rfl : s = 0 := by omega
    go_ret
    refine ⟨A, 0, rfl, Nat.le_refl _, by unfold maxLen; omega, by simp only [cutL, List.take_zero, List.map_nil]; exact Row.empty _ _ _, ?_, HG.out _⟩
    have hr := HL.out
    rw [h] at hr
    exact hr _
  case inr =>
    go_ret
    exact ⟨_, cap - p, rfl, by omega, Nat.le_trans (Nat.sub_le _ _) HM.out, HC.out, HL.out _, HG.out _⟩

set_option maxHeartbeats 400000 in
theorem take_short (w : World) (g : Nat) (vb : Value) (p en s : Nat) (h : RB w g vb p en) (hs : s ≤ 70000) (hen : en ≤ maxLen) (hpe : p ≤ maxLen) (hp : en < p + s) :
    Calls Try.prog 114 #[.pointer (some ⟨g, 0, none⟩), .int .i64 s] w (Quit g w 3) := by
  unfold maxLen at hen hpe
  have c1 := h.c1
  have c2 := h.c2
  have d1 : decide ((en : Int) - (p : Int) < (s : Int)) = true := by simp; omega
  clear h
  go_enter Try.func114, Try.ntmps114
  go_wp2
  go_quiet (fail)
  go_wp2_with fail
  refine (giveUp_any _ _).mono ?_
  rintro e w' ⟨rfl, rfl⟩
  exact ⟨rfl, rfl, (Grew.refl _ w).drewN _⟩

end Go.Proofs.Ytjjmllbkfbdcnaa
