/-
  The contract of num.Get.
-/
import Derived.Test.YthppgofpbpjglaaProg
import Derived.Test.YthppgofpbpjglaaFbP1
import Derived.Test.YthppgofpbpjglaaFbP2
import Derived.Deep.QuietTactic
import Derived.BigQuiet
import Derived.Deep.RegionLaw
import Derived.Deep.AppendLies
import Derived.Deep.RegionHeld3
import Derived.BigRegion
import Derived.Deep.LoopGhost
namespace Go.Proofs.Ythppgofpbpjglaa
open Go.RowKit

def Gets (w : World) (r : Int × Int) (e : Ending) (w' : World) : Prop := e = .returned (.tuple #[.int .i64 r.1, .int .i64 r.2]) ∧ w = w'
def GetRel (l : List UInt8) (a s : Nat) (n i : Value) : Prop := ∃ k : Nat, k ≤ s ∧ i = .int .i64 k ∧ n = .int .i64 (numN (cutL l a k))

theorem getL_size {l : List UInt8} {a s : Int} (h : ¬ (1 ≤ s ∧ s ≤ 7)) : getL l a s = (0, 1) := by unfold getL; rw [szB_false h, if_pos (.inl rfl)]
theorem getL_neg {l : List UInt8} {a s : Int} (h : a < 0) : getL l a s = (0, 1) := by unfold getL; rw [if_pos (.inr h)]
theorem getL_short {l : List UInt8} {a s : Int} (h1 : 1 ≤ s) (h2 : s ≤ 7) (h3 : 0 ≤ a) (h : (l.length : Int) < a + s) : getL l a s = (0, 3) := by
  unfold getL; rw [szB_true ⟨h1, h2⟩, if_neg (by simp; omega), if_pos h]
theorem getL_ok {l : List UInt8} {a s : Nat} (h1 : 1 ≤ s) (h2 : s ≤ 7) (h : a + s ≤ l.length) : getL l a s = ((numN (cutL l a s) : Int), (0 : Int)) := by
  unfold getL; rw [szB_true ⟨by omega, by omega⟩, if_neg (by simp), if_neg (by omega)]; simp

set_option maxHeartbeats 400000 in
theorem get_ok (A : Option Addr) (n c H : Nat) (l : List UInt8) (a s : Nat) (w : World) (hl : l.length = n) (hA : Row w H A (l.map bc)) (hm : n ≤ maxLen) (hc : n ≤ c) (h1 : 1 ≤ s) (h2 : s ≤ 7) (h3 : a + s ≤ n) :
    Calls Try.prog 89 #[.slice A n c, .int .i64 a, .int .i64 s] w (Gets w (getL l a s)) := by
  rw [getL_ok h1 h2 (by omega)]
  unfold maxLen at hm
  obtain ⟨b, off, rfl, _, hcell⟩ := hA.some_ (by rw [List.length_map]; omega)
  have d3 : decide ((a : Int) < 0) = false := by simp
  have d4 : decide ((n : Int) - (s : Int) < (a : Int)) = false := by simp; omega
  have HL := Lib.hid hl
  have HC := Lib.hid hcell
  clear hl hcell hA
  go_enter Try.func89, Try.ntmps89
  go_wp2_with (go_at_call 109; refine (sized_yes _ _ (by omega) (by omega)).mono ?_; rintro e w' ⟨rfl, rfl⟩)
  go_loop [8, 31] (GetRel l a s) (fun _ i => s - (intOf i).toNat)
  case atStart => exact ⟨0, by omega, rfl, rfl⟩
  case round =>
    obtain ⟨k, hk, rfl, rfl⟩ := hrel
    by_cases hlt : k < s
    · have hb : a + k < l.length := by rw [HL.out]; omega
      have hcel : w.cell? ⟨b, off + a + k, none⟩ = some (.int .u8 (l[a + k]).toNat) := by
        rw [Nat.add_assoc, HC.out (a + k) (bc l[a + k]) (by rw [List.getElem?_map, List.getElem?_eq_getElem hb]; rfl)]; rfl
      have hsn := cutL_succ hb
      have HS := Lib.hid hsn
      have hq := numN_le48 (cutL l a k) (by rw [length_cutL (by omega)]; omega)
      have hx := (l[a + k]).toNat_lt
      clear hsn
      go_wp2
      refine ⟨⟨k + 1, by omega, by go_num, ?_⟩, by simp [intOf]; omega⟩
      rw [HS.out, numN_snoc, or_byte _ _ hq hx]
    · obtain rfl : k = s := by omega
      go_wp2
      go_ret2
      exact ⟨rfl, rfl⟩

set_option maxHeartbeats 400000 in
theorem get_short (A : Option Addr) (n c : Nat) (a s : Int) (w : World) (hm : n ≤ maxLen) (h1 : 1 ≤ s) (h2 : s ≤ 7) (h0 : 0 ≤ a) (h3 : (n : Int) < a + s) :
    Calls Try.prog 89 #[.slice A n c, .int .i64 a, .int .i64 s] w (Gets w (0, 3)) := by
  unfold maxLen at hm
  have d3 : decide (a < 0) = false := by simp; omega
  have d4 : decide ((n : Int) - s < a) = true := by simp; omega
  go_enter Try.func89, Try.ntmps89
  go_wp2_with (go_at_call 109; refine (sized_yes _ _ h1 h2).mono ?_; rintro e w' ⟨rfl, rfl⟩)
  go_ret2
  exact ⟨rfl, rfl⟩

set_option maxHeartbeats 400000 in
theorem get_arg (A : Option Addr) (n c : Nat) (a s : Int) (w : World) (h : ¬ (1 ≤ s ∧ s ≤ 7) ∨ a < 0) :
    Calls Try.prog 89 #[.slice A n c, .int .i64 a, .int .i64 s] w (Gets w (0, 1)) := by
  by_cases hs : 1 ≤ s ∧ s ≤ 7
  · obtain ⟨h1, h2⟩ := hs
    have h0 : a < 0 := by omega
    have d3 : decide (a < 0) = true := by simp; omega
    clear h
    go_enter Try.func89, Try.ntmps89
    go_wp2_with (go_at_call 109; refine (sized_yes _ _ h1 h2).mono ?_; rintro e w' ⟨rfl, rfl⟩)
    go_ret2
    exact ⟨rfl, rfl⟩
  · have hs' : s < 1 ∨ 7 < s := by omega
    clear h
    go_enter Try.func89, Try.ntmps89
    go_wp2_with (go_at_call 109; refine (sized_no _ _ hs').mono ?_; rintro e w' ⟨rfl, rfl⟩)
    go_ret2
    exact ⟨rfl, rfl⟩

theorem get_any (A : Option Addr) (n c H : Nat) (l : List UInt8) (a s : Int) (w : World) (hl : l.length = n) (hA : Row w H A (l.map bc)) (hm : n ≤ maxLen) (hc : n ≤ c) :
    Calls Try.prog 89 #[.slice A n c, .int .i64 a, .int .i64 s] w (Gets w (getL l a s)) := by
  by_cases hs : 1 ≤ s ∧ s ≤ 7
  · obtain ⟨h1, h2⟩ := hs
    by_cases h0 : a < 0
    · rw [getL_neg h0]
      exact get_arg A n c a s w (.inr h0)
    · by_cases h3 : (n : Int) < a + s
      · rw [getL_short h1 h2 (by omega) (by rw [hl]; exact h3)]
        exact get_short A n c a s w hm h1 h2 (by omega) h3
      · obtain ⟨a', rfl⟩ : ∃ m : Nat, a = m := ⟨a.toNat, by omega⟩
        obtain ⟨s', rfl⟩ : ∃ m : Nat, s = m := ⟨s.toNat, by omega⟩
        exact get_ok A n c H l a' s' w hl hA hm hc (by omega) (by omega) (by omega)
  · rw [getL_size hs]
    exact get_arg A n c a s w (.inl hs)

end Go.Proofs.Ythppgofpbpjglaa

namespace Go.Proofs.Ythppgofpbpjglaa
open Go.RowKit

/-- The call gives up with the error k. -/
def gaveE (k : Int) : Ending := .panicked [{ v := .iface 115 (.agg #[.int .i64 k]), recovered := false }]

/-- A reader's block: the bytes, the place, the end. -/
abbrev RB (w : World) (g : Nat) (vb : Value) (p en : Nat) : Prop := Whole w g 119 [vb, .int .i64 p, .int .i64 en]
section
variable {w : World} {g : Nat} {vb : Value} {p en : Nat}
theorem RB.c0 (h : RB w g vb p en) : w.cell? ⟨g, 0, none⟩ = some vb := h.cell 0
theorem RB.c1 (h : RB w g vb p en) : w.cell? ⟨g, 1, none⟩ = some (.int .i64 p) := h.cell 1
theorem RB.c2 (h : RB w g vb p en) : w.cell? ⟨g, 2, none⟩ = some (.int .i64 en) := h.cell 2
theorem RB.set1 (h : RB w g vb p en) (y : Nat) : RB (w.setCell ⟨g, 1, none⟩ (.int .i64 y)) g vb y en := h.set_ 1 _
end
/-- Only the block g may have turned. -/
abbrev GrewG (g : Nat) (w w' : World) : Prop := Grew (fun j => j = g) w w'

set_option maxHeartbeats 400000 in
theorem giveUp_any (k : Int) (w : World) : Calls Try.prog 115 #[.int .i64 k] w (fun e w' => e = gaveE k ∧ w = w') := by
  go_enter Try.func115, Try.ntmps115
  go_wp2
  exact ⟨rfl, rfl, rfl⟩

theorem cutL_take {b : List UInt8} {p s en : Nat} (h : p + s ≤ en) : cutL (b.take en) p s = cutL b p s := by
  unfold cutL
  rw [List.drop_take, List.take_take]
  congr 1
  omega

theorem num_quiet {A : Option Addr} {m cap base en : Nat} {b : List UInt8} {a s r1 r2 : Int} {w : World} (hbl : b.length = m) (hm : m ≤ cap) (hc : cap ≤ maxLen) (hen : en ≤ m) (hg : getL (b.take en) a s = (r1, r2)) (hrow : Row w base A (b.map bc)) (k : Nat) :
    Calls Try.prog 89 #[.slice A en cap, .int .i64 a, .int .i64 s] (w.drewN k) fun e w' => e = .returned (.tuple #[.int .i64 r1, .int .i64 r2]) ∧ ∃ j, w' = w.drewN j :=
  (get_any A en cap base (b.take en) a s (w.drewN k) (by rw [List.length_take]; omega) (by rw [List.map_take]; exact (hrow.take en).drewN k) (by omega) (by omega)).mono fun e w' ⟨he, hw⟩ => ⟨by rw [he, hg], k, hw.symm⟩

/-- The call answers v, and stands at p' now. -/
def Went (w : World) (g : Nat) (vb : Value) (p' en : Nat) (v : Value) (e : Ending) (w' : World) : Prop := e = .returned v ∧ RB w' g vb p' en ∧ GrewG g w w'
/-- The call gives up. -/
def Quit (g : Nat) (w : World) (k : Int) (e : Ending) (w' : World) : Prop := e = gaveE k ∧ GrewG g w w'

set_option maxHeartbeats 400000 in
theorem dnum_ok (w : World) (g : Nat) (A : Option Addr) (m cap base : Nat) (b : List UInt8) (p en s : Nat) (h : RB w g (.slice A m cap) p en) (hbl : b.length = m) (hrow : Row w base A (b.map bc)) (hm : m ≤ cap) (hc : cap ≤ maxLen) (hen : en ≤ m)
    (h1 : 1 ≤ s) (h2 : s ≤ 7) (hp : p + s ≤ en) :
    Calls Try.prog 123 #[.pointer (some ⟨g, 0, none⟩), .int .i64 s] w (Went w g (.slice A m cap) (p + s) en (.int .i64 (numN (cutL b p s)))) := by
  have HG := Lib.hid (num_quiet (en := en) (a := (p : Int)) (s := (s : Int)) (r1 := numN (cutL b p s)) (r2 := 0) hbl hm hc hen (by rw [getL_ok h1 h2 (by rw [List.length_take]; omega), cutL_take hp]) hrow)
  unfold maxLen at hc
  have c0 := h.c0
  have c1 := h.c1
  have c2 := h.c2
  have f1 : w.frozen? ⟨g, 1, none⟩ = false := h.frozen 1
  have e1 : (0 : Int) ≤ en := by omega
  have e2 : (en : Int) ≤ cap := by omega
  have HR := Lib.hid h
  clear h hbl hrow
  go_enter Try.func123, Try.ntmps123
  go_wp2
  go_quiet ((go_at_call 89; exact HG.out _))
  go_wp2
  go_ret
  refine ⟨rfl, ?_, ?_⟩
  · have hr := HR.out.set1 (p + s)
    rw [show ((p + s : Nat) : Int) = (p : Int) + (s : Int) by omega] at hr
    exact hr
  · exact Grew.setCell (F := fun j => j = g) ((Grew.refl _ w).drewN _) (a := ⟨g, 1, none⟩) (.inl rfl) _

set_option maxHeartbeats 400000 in
theorem dnum_short (w : World) (g : Nat) (A : Option Addr) (m cap base : Nat) (b : List UInt8) (p en s : Nat) (h : RB w g (.slice A m cap) p en) (hbl : b.length = m) (hrow : Row w base A (b.map bc)) (hm : m ≤ cap) (hc : cap ≤ maxLen) (hen : en ≤ m)
    (h1 : 1 ≤ s) (h2 : s ≤ 7) (hp : en < p + s) :
    Calls Try.prog 123 #[.pointer (some ⟨g, 0, none⟩), .int .i64 s] w (Quit g w 3) := by
  have HG := Lib.hid (num_quiet (en := en) (a := (p : Int)) (s := (s : Int)) (r1 := 0) (r2 := 3) hbl hm hc hen (getL_short (a := p) (s := s) (by omega) (by omega) (by omega) (by rw [List.length_take]; omega)) hrow)
  unfold maxLen at hc
  have c0 := h.c0
  have c1 := h.c1
  have c2 := h.c2
  have e1 : (0 : Int) ≤ en := by omega
  have e2 : (en : Int) ≤ cap := by omega
  clear h hbl hrow
  go_enter Try.func123, Try.ntmps123
  go_wp2
  go_quiet ((go_at_call 89; exact HG.out _))
  go_wp2_with fail
  refine (giveUp_any _ _).mono ?_
  rintro e w' ⟨rfl, rfl⟩
  exact ⟨rfl, rfl, (Grew.refl _ w).drewN _⟩

/-- The call answers the next s bytes, where they lie. -/
def Took (w : World) (g base : Nat) (vb : Value) (b : List UInt8) (p s en : Nat) (e : Ending) (w' : World) : Prop :=
  ∃ A' c', e = .returned (.slice A' s c') ∧ s ≤ c' ∧ c' ≤ maxLen ∧ Row w base A' ((cutL b p s).map bc) ∧ RB w' g vb (p + s) en ∧ GrewG g w w'

theorem row_cut {w : World} {base m p s : Nat} {A : Option Addr} {b : List UInt8} (hbl : b.length = m) (hrow : Row w base A (b.map bc)) (hp : p + s ≤ m) : Row w base (A.map fun x => x.add p) ((cutL b p s).map bc) := by
  rcases Nat.eq_zero_or_pos s with rfl | hs
  · simp only [cutL, List.take_zero, List.map_nil]
    exact Row.empty _ _ _
  · obtain ⟨bb, off, rfl, _, _⟩ := hrow.some_ (by rw [List.length_map]; omega)
    simp only [Option.map_some, addr_add]
    have h := (hrow.drop rfl (k := p)).take s
    rw [← List.map_drop, ← List.map_take] at h
    exact h

set_option maxHeartbeats 400000 in
theorem take_ok (w : World) (g : Nat) (A : Option Addr) (m cap base : Nat) (b : List UInt8) (p en s : Nat) (h : RB w g (.slice A m cap) p en) (hbl : b.length = m) (hrow : Row w base A (b.map bc)) (hm : m ≤ cap) (hc : cap ≤ maxLen) (hen : en ≤ m) (hp : p + s ≤ en) :
    Calls Try.prog 124 #[.pointer (some ⟨g, 0, none⟩), .int .i64 s] w (Took w g base (.slice A m cap) b p s en) := by
  have HC := Lib.hid (row_cut (p := p) (s := s) hbl hrow (by omega))
  have H0 : ∀ k, RB (w.drewN k) g (.slice A m cap) p en := fun k => h
  have HK : ∀ k, RB ((w.drewN k).setCell ⟨g, 1, none⟩ (.int .i64 ((p : Int) + (s : Int)))) g (.slice A m cap) (p + s) en := fun k => by
    have hr := (H0 k).set1 (p + s)
    rw [show ((p + s : Nat) : Int) = (p : Int) + (s : Int) by omega] at hr
    exact hr
  have HL := Lib.hid HK
  have HG := Lib.hid (fun k => Grew.setCell (F := fun j => j = g) ((Grew.refl _ w).drewN k) (a := ⟨g, 1, none⟩) (.inl rfl) (.int .i64 ((p : Int) + (s : Int))))
  have HM := Lib.hid hc
  have HW := Lib.hid hrow
  have HB := Lib.hid hbl
  unfold maxLen at hc
  have c0 := h.c0
  have c1 := h.c1
  have c2 := h.c2
  have f1 : w.frozen? ⟨g, 1, none⟩ = false := h.frozen 1
  have e1 : (0 : Int) ≤ p := by omega
  have e2 : (p : Int) + s ≤ cap := by omega
  have e3 : (p : Int) ≤ (p : Int) + s := by omega
  have d1 : decide ((en : Int) - (p : Int) < (s : Int)) = false := by simp; omega
  clear h hrow hbl H0 HK
  go_enter Try.func124, Try.ntmps124
  go_wp2
  go_quiet (fail)
  go_wp2
  go_quiet (fail)
  go_wp2
  case inl =>
    obtain rfl : s = 0 := by omega
    go_ret
    refine ⟨A, 0, rfl, Nat.le_refl _, by unfold maxLen; omega, by simp only [cutL, List.take_zero, List.map_nil]; exact Row.empty _ _ _, ?_, HG.out _⟩
    have hr := HL.out
    rw [h] at hr
    exact hr _
  case inr =>
    go_ret
    exact ⟨_, cap - p, rfl, by omega, Nat.le_trans (Nat.sub_le _ _) HM.out, HC.out, HL.out _, HG.out _⟩

set_option maxHeartbeats 400000 in
theorem take_short (w : World) (g : Nat) (vb : Value) (p en s : Nat) (h : RB w g vb p en) (hs : s ≤ 70000) (hen : en ≤ maxLen) (hpe : p ≤ maxLen) (hp : en < p + s) :
    Calls Try.prog 124 #[.pointer (some ⟨g, 0, none⟩), .int .i64 s] w (Quit g w 3) := by
  unfold maxLen at hen hpe
  have c1 := h.c1
  have c2 := h.c2
  have d1 : decide ((en : Int) - (p : Int) < (s : Int)) = true := by simp; omega
  clear h
  go_enter Try.func124, Try.ntmps124
  go_wp2
  go_quiet (fail)
  go_wp2_with fail
  refine (giveUp_any _ _).mono ?_
  rintro e w' ⟨rfl, rfl⟩
  exact ⟨rfl, rfl, (Grew.refl _ w).drewN _⟩

end Go.Proofs.Ythppgofpbpjglaa

namespace Go.Proofs.Ythppgofpbpjglaa
open Go.RowKit

/-- The cells of a reader. -/
def rdL (vb : Value) (p q x s : Nat) (vl : Value) (d : Bool) : List Value := [vb, .int .i64 p, .int .i64 q, .int .i64 x, .int .i64 s, vl, .bool d]
abbrev RD (w : World) (g : Nat) (vb : Value) (p q x s : Nat) (vl : Value) (d : Bool) : Prop := Whole w g 110 (rdL vb p q x s vl d)

section
variable {w : World} {g : Nat} {vb : Value} {p q x s : Nat} {vl : Value} {d : Bool}
theorem RD.c0 (h : RD w g vb p q x s vl d) : w.cell? ⟨g, 0, none⟩ = some vb := h.cell 0
theorem RD.c1 (h : RD w g vb p q x s vl d) : w.cell? ⟨g, 1, none⟩ = some (.int .i64 p) := h.cell 1
theorem RD.c2 (h : RD w g vb p q x s vl d) : w.cell? ⟨g, 2, none⟩ = some (.int .i64 q) := h.cell 2
theorem RD.c3 (h : RD w g vb p q x s vl d) : w.cell? ⟨g, 3, none⟩ = some (.int .i64 x) := h.cell 3
theorem RD.c4 (h : RD w g vb p q x s vl d) : w.cell? ⟨g, 4, none⟩ = some (.int .i64 s) := h.cell 4
theorem RD.c5 (h : RD w g vb p q x s vl d) : w.cell? ⟨g, 5, none⟩ = some vl := h.cell 5
theorem RD.c6 (h : RD w g vb p q x s vl d) : w.cell? ⟨g, 6, none⟩ = some (.bool d) := h.cell 6
theorem RD.set1 (h : RD w g vb p q x s vl d) (y : Nat) : RD (w.setCell ⟨g, 1, none⟩ (.int .i64 y)) g vb y q x s vl d := h.set_ 1 _
theorem RD.set2 (h : RD w g vb p q x s vl d) (y : Nat) : RD (w.setCell ⟨g, 2, none⟩ (.int .i64 y)) g vb p y x s vl d := h.set_ 2 _
theorem RD.set3 (h : RD w g vb p q x s vl d) (y : Nat) : RD (w.setCell ⟨g, 3, none⟩ (.int .i64 y)) g vb p q y s vl d := h.set_ 3 _
theorem RD.set4 (h : RD w g vb p q x s vl d) (y : Nat) : RD (w.setCell ⟨g, 4, none⟩ (.int .i64 y)) g vb p q x y vl d := h.set_ 4 _
theorem RD.set5 (h : RD w g vb p q x s vl d) (y : Value) : RD (w.setCell ⟨g, 5, none⟩ y) g vb p q x s y d := h.set_ 5 _
theorem RD.set6 (h : RD w g vb p q x s vl d) (y : Bool) : RD (w.setCell ⟨g, 6, none⟩ (.bool y)) g vb p q x s vl y := h.set_ 6 _
end

theorem below_set {w : World} {base g : Nat} (hg : base ≤ g) (i : Nat) (u : Value) : Below base w (w.setCell ⟨g, i, none⟩ u) := (Below.refl base w).setCell (p := ⟨g, i, none⟩) hg u

/-- The call has put the place in, if none was there. -/
def Behind (base : Nat) (w : World) (g : Nat) (vb : Value) (p q x s : Nat) (vl : Value) (d : Bool) (y : Nat) (e : Ending) (w' : World) : Prop :=
  e = .returned (.tuple #[]) ∧ RD w' g vb p q (nextR x y) s vl d ∧ Below base w w' ∧ ∀ j, j ≠ g → w'.heap[j]? = w.heap[j]?

set_option maxHeartbeats 400000 in
theorem behind_any (base : Nat) (w : World) (g : Nat) (vb : Value) (p q x s : Nat) (vl : Value) (d : Bool) (y : Nat) (hg : base ≤ g) (h : RD w g vb p q x s vl d) :
    Calls Try.prog 106 #[.pointer (some ⟨g, 0, none⟩), .int .i64 y] w (Behind base w g vb p q x s vl d y) := by
  have h3 := h.c3
  have f3 : w.frozen? ⟨g, 3, none⟩ = false := h.frozen 3
  have HR := Lib.hid h
  clear h
  by_cases hx : x = 0
  · subst hx
    go_enter Try.func106, Try.ntmps106
    go_wp2
    go_end0
    exact ⟨rfl, HR.out.set3 y, below_set hg _ _, fun j hj => Below.heap_setCell w ⟨g, 3, none⟩ _ j hj⟩
  · have t1 : ((x : Int) == 0) = false := by rw [beq_eq_false_iff_ne]; omega
    have HX := Lib.hid (show nextR x y = x by rw [nextR, if_neg hx])
    clear hx
    go_enter Try.func106, Try.ntmps106
    go_wp2
    go_end0
    exact ⟨rfl, by rw [HX.out]; exact HR.out, Below.refl _ _, fun _ _ => rfl⟩

/-- The call answers the error k. -/
def Erred (base : Nat) (w : World) (g : Nat) (vb : Value) (k : Int) (e : Ending) (w' : World) : Prop := e = .returned (.int .i64 k) ∧ Below base w w' ∧ ∃ vl p q x s d, RD w' g vb p q x s vl d

set_option maxHeartbeats 400000 in
theorem label_short (base : Nat) (w : World) (g : Nat) (A : Option Addr) (m cap : Nat) (p q x s f c : Nat) (vl : Value) (d : Bool) (h : RD w g (.slice A m cap) p q x s vl d) (hm : m ≤ maxLen) (hc : c < 64) (hs : m < f + c) :
    Calls Try.prog 107 #[.pointer (some ⟨g, 0, none⟩), .int .i64 f, .int .i64 c] w (Erred base w g (.slice A m cap) 3) := by
  unfold maxLen at hm
  have h0 := h.c0
  have d1 : decide ((m : Int) - (c : Int) < (f : Int)) = true := by simp; omega
  have HR := Lib.hid h
  clear h
  go_enter Try.func107, Try.ntmps107
  go_wp2
  go_ret
  exact ⟨rfl, Below.refl _ _, _, _, _, _, _, _, HR.out⟩

set_option maxHeartbeats 400000 in
theorem label_long (base : Nat) (w : World) (g : Nat) (A : Option Addr) (m cap : Nat) (p q x s f c : Nat) (vl : Value) (d : Bool) (hg : base ≤ g) (h : RD w g (.slice A m cap) p q x s vl d) (hm : m ≤ maxLen) (hc : c < 64) (hs : f + c ≤ m) (hsz : s ≤ 255) (hl : 255 < s + 1 + c) :
    Calls Try.prog 107 #[.pointer (some ⟨g, 0, none⟩), .int .i64 f, .int .i64 c] w (Erred base w g (.slice A m cap) 5) := by
  unfold maxLen at hm
  have h0 := h.c0
  have h4 := h.c4
  have f4 : w.frozen? ⟨g, 4, none⟩ = false := h.frozen 4
  have d1 : decide ((m : Int) - (c : Int) < (f : Int)) = false := by simp; omega
  have d2 : decide (255 < (s : Int) + (1 + (c : Int))) = true := by simp; omega
  have HR := Lib.hid h
  clear h
  go_enter Try.func107, Try.ntmps107
  go_wp2
  go_ret
  refine ⟨rfl, below_set hg _ _, vl, p, q, x, s + (1 + c), d, ?_⟩
  have h := RD.set4 HR.out (s + (1 + c))
  rw [show ((s + (1 + c) : Nat) : Int) = (s : Int) + (1 + (c : Int)) by omega] at h
  exact h

/-- The call has read on: the labels are n now. -/
def Labeled (base : Nat) (w : World) (g : Nat) (vb : Value) (p q x : Nat) (n : List (List UInt8)) (d : Bool) (e : Ending) (w' : World) : Prop :=
  e = .returned (.int .i64 0) ∧ ∃ vl', RD w' g vb p q x (szN n) vl' d ∧ w'.ownsRow base 9 1 vl' n.length (n.map sv) ∧ Below base w w'

set_option maxHeartbeats 1000000 in
theorem label_ok (base : Nat) (w : World) (g : Nat) (bb off m cap : Nat) (b : List UInt8) (p q x f c : Nat) (vl : Value) (n : List (List UInt8)) (d : Bool) (hg : base ≤ g) (h : RD w g (.slice (some ⟨bb, off, none⟩) m cap) p q x (szN n) vl d)
    (hbl : b.length = m) (hrow : Row w base (some ⟨bb, off, none⟩) (b.map bc)) (hown : w.ownsRow base 9 1 vl n.length (n.map sv)) (hz : base ≤ w.heap.size)
    (hm : m ≤ cap) (hcap : cap ≤ maxLen) (hc1 : 1 ≤ c) (hc : c < 64) (hs : f + c ≤ m) (hl : szN n + 1 + c ≤ 255) :
    Calls Try.prog 107 #[.pointer (some ⟨g, 0, none⟩), .int .i64 f, .int .i64 c] w (Labeled base w g (.slice (some ⟨bb, off, none⟩) m cap) (f + c) q x (n ++ [cutL b f c]) d) := by
  unfold maxLen at hcap
  obtain ⟨i0, hi0, hz0, hz1, hz2⟩ := info_parts str_info
  have h0 := h.c0
  have h1 := h.c1
  have h4 := h.c4
  have f1 : w.frozen? ⟨g, 1, none⟩ = false := h.frozen 1
  have f4 : w.frozen? ⟨g, 4, none⟩ = false := h.frozen 4
  have d1 : decide ((m : Int) - (c : Int) < (f : Int)) = false := by simp; omega
  have d2 : decide (255 < (szN n : Int) + (1 + (c : Int))) = false := by simp; omega
  have HR := Lib.hid h
  have HW := Lib.hid hrow
  have HO := Lib.hid hown
  have HL := Lib.hid hbl
  clear h hrow hown hbl
  go_enter Try.func107, Try.ntmps107
  go_wp2
  obtain ⟨W, hW⟩ : ∃ W, W = (w.setCell ⟨g, 4, none⟩ (.int .i64 ((szN n : Int) + (1 + (c : Int))))).setCell ⟨g, 1, none⟩ (.int .i64 ((f : Int) + (c : Int))) := ⟨_, rfl⟩
  rw [← hW]
  have hB : Below base w W := by rw [hW]; exact (below_set hg _ _).trans (below_set hg _ _)
  have hr : RD W g (.slice (some ⟨bb, off, none⟩) m cap) (f + c) q x (szN n + (1 + c)) vl d := by
    rw [hW, show (szN n : Int) + (1 + (c : Int)) = ((szN n + (1 + c) : Nat) : Int) by omega, show (f : Int) + (c : Int) = ((f + c : Nat) : Int) by omega]
    exact (HR.out.set4 _).set1 _
  have hgl := hr.lt
  have ho : W.ownsRow base 9 1 vl n.length (n.map sv) := by
    rw [hW]
    exact own_set_far (own_set_far HO.out (own_not_whole HO.out HR.out (by decide)) _) (own_not_whole HO.out HR.out (by decide)) _
  have hrw := HW.out.below hB
  have hne : vl.ownBlock ≠ some g := own_not_whole HO.out HR.out (by decide)
  clear hW h0 h1 h4 f1 f4 d1 d2 HR HW HO
  replace hz := Nat.le_trans hz hB.size
  have HB := Lib.hid hB
  have h0 := hr.c0
  have h1 : W.cell? ⟨g, 1, none⟩ = some (.int .i64 ((f : Int) + (c : Int))) := hr.c1
  have h5 := hr.c5
  have hcv := convert_row_run (P := Try.prog) W.drew 31 9 5 Try.underlying31 Try.underlying5 Try.underlying9 (some ⟨bb, off + f, none⟩) c (cap - f) base (cutL b f c) (length_cutL (by rw [HL.out]; exact hs))
    (by have := ((hrw.drop rfl (k := f)).take c); rw [← List.map_drop, ← List.map_take] at this; exact this)
  have HO := Lib.hid ho
  have HR := Lib.hid hr
  have HN := Lib.hid hne
  clear hB ho hr hne hrw
  have e0 : (0 : Int) ≤ f := by omega
  have e1 : (f : Int) ≤ (f : Int) + c := by omega
  have e2 : (f : Int) + c ≤ cap := by omega
  have hnl : n.length ≤ 254 := by have := length_lt_szN n; omega
  have hcf : (cap = f) = False := by simp; omega
  have htn : ((f : Int) + (c : Int)).toNat - f = c := by omega
  go_region_law (first
    | (refine step_append_lies _ (by rfl) (.tmp 40) (.tmp 52) _ (by rfl) base 9 i0 _ 1 16 Try.underlying23 hi0 hz0 hz1 hz2 rfl (by omega) vl n.length (n.map sv) (by rfl) ((HO.out.drew).alloc _)
        ⟨W.heap.size, 0, none⟩ 1 1 [.string ⟨(cutL b f c).toArray⟩] (by rfl) (by rfl) (World.news_of_block (heap_alloc_new _ _)) (by simp [Value.oneCell']) (by omega) (by unfold maxLen; omega) (by omega) (by simp; omega) (W.heap.size + 1) (by simp) ?_
       intro gg cap2 w1 hown1 hgrow hat hlt
       have hr1 := HR.out.keep ((hgrow.block g (by simp; omega) (Ne.symm HN.out)).trans (Below.heap_alloc W.drew _ g (by simpa using hgl)))
       have h5' := RD.c5 hr1
       have f5' : w1.frozen? ⟨g, 5, none⟩ = false := Whole.frozen hr1 5
       have HR1 := Lib.hid hr1
       have HO1 := Lib.hid hown1
       have HB1 := Lib.hid (own_below (((Below.refl base W).drew).alloc (by simpa using hz) _) (Nat.le_refl _) (by simp; omega) ((HO.out.drew).alloc _) hgrow)
       clear hr1 hown1 hgrow hat hlt))
  all_goals
    go_wp2
    go_ret
    have hr2 := RD.set5 HR1.out (.slice (some ⟨gg, 0, none⟩) (n.length + 1) cap2)
    refine ⟨rfl, .slice (some ⟨gg, 0, none⟩) (n.length + 1) cap2, ?_, ?_, (HB.out.trans HB1.out).trans (below_set hg _ _)⟩
    · rw [show szN (n ++ [cutL b f c]) = szN n + (1 + c) by rw [szN_snoc, length_cutL (by rw [HL.out]; exact hs)]; omega]
      exact hr2
    · have ho2 := own_set_far HO1.out (a := ⟨g, 5, none⟩) (own_not_whole HO1.out HR1.out (by decide)) (.slice (some ⟨gg, 0, none⟩) (n.length + 1) cap2)
      simpa [sv] using ho2

end Go.Proofs.Ythppgofpbpjglaa

namespace Go.Proofs.Ythppgofpbpjglaa
open Go.RowKit

/-- What a step leaves: an error; or the name's end; or a reading that goes on, and comes to the same. -/
def Stepped (base : Nat) (w : World) (g : Nat) (vb : Value) (b : List UInt8) (p q x : Nat) (n : List (List UInt8)) (e : Ending) (w' : World) : Prop :=
  Below base w w' ∧ ((∃ k : Nat, k ≠ 0 ∧ e = .returned (.int .i64 k) ∧ getR b p q x n = ([], 0, k) ∧ ∃ vl' p' q' x' s' d', RD w' g vb p' q' x' s' vl' d') ∨
    (e = .returned (.int .i64 0) ∧ ∃ vl' p' q' x' n' d', RD w' g vb p' q' x' (szN n') vl' d' ∧ w'.ownsRow base 9 1 vl' n'.length (n'.map sv) ∧ szN n' ≤ 255 ∧ (p' ≤ b.length ∧ q' ≤ p') ∧
      if d' = true then getR b p q x n = (n', x', 0) else getR b p q x n = getR b p' q' x' n' ∧ (q' < q ∨ q' = q ∧ szN n < szN n')))

theorem get_quiet {A : Option Addr} {m cap base : Nat} {b : List UInt8} {a s r1 r2 : Int} {w : World} (hbl : b.length = m) (hm : m ≤ maxLen) (hc : m ≤ cap) (hg : getL b a s = (r1, r2)) (hrow : Row w base A (b.map bc)) (k : Nat) :
    Calls Try.prog 89 #[.slice A m cap, .int .i64 a, .int .i64 s] (w.drewN k) fun e w' => e = .returned (.tuple #[.int .i64 r1, .int .i64 r2]) ∧ ∃ j, w' = w.drewN j :=
  (get_any A m cap base b a s (w.drewN k) hbl (hrow.drewN k) hm hc).mono fun e w' ⟨he, hw⟩ => ⟨by rw [he, hg], k, hw.symm⟩

set_option maxHeartbeats 400000 in
theorem follow_short (base : Nat) (w : World) (g : Nat) (A : Option Addr) (m cap : Nat) (b : List UInt8) (p q x s : Nat) (vl : Value) (d : Bool) (h : RD w g (.slice A m cap) p q x s vl d)
    (hbl : b.length = m) (hrow : Row w base A (b.map bc)) (hm : m ≤ maxLen) (hc : m ≤ cap) (hs : m < p + 2) :
    Calls Try.prog 108 #[.pointer (some ⟨g, 0, none⟩)] w (fun e w' => e = .returned (.int .i64 3) ∧ ∃ k, w' = w.drewN k) := by
  have h0 := h.c0
  have h1 := h.c1
  have HG := Lib.hid (get_quiet hbl hm hc (getL_short (a := p) (s := 2) (by omega) (by omega) (by omega) (by rw [hbl]; omega)) hrow)
  clear h hbl hrow
  go_enter Try.func108, Try.ntmps108
  go_wp2
  go_quiet ((go_at_call 89; exact HG.out _))
  go_wp2
  go_ret
  exact ⟨rfl, _, rfl⟩

/-- The number that the two bytes of a pointer are. -/
theorem getL_two {b : List UInt8} {p : Nat} (hp : p < b.length) (h : p + 1 < b.length) : getL b p 2 = ((((b[p]).toNat * 256 + (b[p + 1]).toNat : Nat) : Int), 0) := by
  have e := getL_ok (l := b) (a := p) (s := 2) (by omega) (by omega) (by omega)
  have h1 := cutL_succ (l := b) (a := p) (k := 0) (by omega)
  have h2 := cutL_succ (l := b) (a := p) (k := 1) h
  have h0 : cutL b p 0 = [] := by simp [cutL]
  rw [h0] at h1
  simp only [Nat.zero_add, List.nil_append, Nat.add_zero] at h1
  rw [h1] at h2
  rw [show (2 : Int) = ((2 : Nat) : Int) from rfl, e, h2]
  simp [numN]
theorem getL_one {b : List UInt8} {p : Nat} (h : p < b.length) : getL b p 1 = (((b[p]).toNat : Int), 0) := by
  have e := getL_ok (l := b) (a := p) (s := 1) (by omega) (by omega) (by omega)
  have h1 := cutL_succ (l := b) (a := p) (k := 0) (by omega)
  have h0 : cutL b p 0 = [] := by simp [cutL]
  rw [h0] at h1
  simp only [Nat.zero_add, List.nil_append, Nat.add_zero] at h1
  rw [show (1 : Int) = ((1 : Nat) : Int) from rfl, e, h1]
  simp [numN]

set_option maxHeartbeats 400000 in
theorem follow_loop (base : Nat) (w : World) (g : Nat) (A : Option Addr) (m cap : Nat) (b : List UInt8) (p q x s : Nat) (vl : Value) (d : Bool) (h : RD w g (.slice A m cap) p q x s vl d)
    (hbl : b.length = m) (hrow : Row w base A (b.map bc)) (hm : m ≤ maxLen) (hc : m ≤ cap) (hp : p < b.length) (hs : p + 1 < b.length) (y z : UInt8) (hy : b[p] = y) (hz : b[p + 1] = z) (h192 : 192 ≤ y.toNat) (hq : q ≤ toR y z) :
    Calls Try.prog 108 #[.pointer (some ⟨g, 0, none⟩)] w (fun e w' => e = .returned (.int .i64 6) ∧ ∃ k, w' = w.drewN k) := by
  have h0 := h.c0
  have h1 := h.c1
  have h2 := h.c2
  have HG := Lib.hid (get_quiet hbl hm hc (getL_two hp hs) hrow)
  rw [hy, hz] at HG
  clear hy hz
  have u1 := y.toNat_lt
  have u2 := z.toNat_lt
  unfold toR at hq
  generalize y.toNat = c1 at *
  generalize z.toNat = c2 at *
  have hv : ((c1 * 256 + c2 : Nat) : Int) = (c1 : Int) * 256 + c2 := by omega
  have d1 : decide ((q : Int) ≤ (c1 : Int) * 256 + c2 - 49152) = true := by simp; omega
  rw [hv] at HG
  clear h hbl hrow hv
  go_enter Try.func108, Try.ntmps108
  go_wp2
  go_quiet ((go_at_call 89; exact HG.out _))
  go_wp2
  go_ret
  exact ⟨rfl, _, rfl⟩

set_option maxHeartbeats 1000000 in
theorem follow_ok (base : Nat) (w : World) (g : Nat) (A : Option Addr) (m cap : Nat) (b : List UInt8) (p q x s : Nat) (vl : Value) (d : Bool) (hg : base ≤ g) (h : RD w g (.slice A m cap) p q x s vl d)
    (hbl : b.length = m) (hrow : Row w base A (b.map bc)) (hm : m ≤ maxLen) (hc : m ≤ cap) (hp : p < b.length) (hs : p + 1 < b.length) (y z : UInt8) (hy : b[p] = y) (hz : b[p + 1] = z) (h192 : 192 ≤ y.toNat) (hq : toR y z < q) :
    Calls Try.prog 108 #[.pointer (some ⟨g, 0, none⟩)] w (fun e w' => e = .returned (.int .i64 0) ∧ RD w' g (.slice A m cap) (toR y z) (toR y z) (nextR x (p + 2)) s vl d ∧ Below base w w' ∧ ∀ j, j ≠ g → w'.heap[j]? = w.heap[j]?) := by
  unfold maxLen at hm
  have h0 := h.c0
  have h1 := h.c1
  have h2 := h.c2
  have HG := Lib.hid (get_quiet hbl hm hc (getL_two hp hs) hrow)
  rw [hy, hz] at HG
  clear hy hz
  have u1 := y.toNat_lt
  have u2 := z.toNat_lt
  have hs' : p + 1 < m := by rw [← hbl]; exact hs
  have HT := Lib.hid (show toR y z = (y.toNat - 192) * 256 + z.toNat from rfl)
  rw [HT.out] at hq
  generalize toR y z = t at *
  generalize y.toNat = c1 at *
  generalize z.toNat = c2 at *
  have hv : ((c1 * 256 + c2 : Nat) : Int) = (c1 : Int) * 256 + c2 := by omega
  have ht : (c1 : Int) * 256 + c2 - 49152 = ((t : Nat) : Int) := by have := HT.out; omega
  have d1 : decide ((q : Int) ≤ (t : Int)) = false := by have := HT.out; simp; omega
  have HB := Lib.hid (fun W hr => behind_any base W g (.slice A m cap) p q x s vl d (p + 2) hg hr)
  have hv2 : ((p + 2 : Nat) : Int) = (p : Int) + 2 := by omega
  rw [hv] at HG
  rw [hv2] at HB
  have HR := Lib.hid h
  clear h hbl hrow hv hv2
  go_enter Try.func108, Try.ntmps108
  go_wp2
  go_quiet ((go_at_call 89; exact HG.out _))
  go_wp2_with fail
  refine (HB.out (w.drewN nq) (HR.out.drewN nq)).mono ?_
  rintro e w1 ⟨rfl, hr1, hb1, hj1⟩
  have f1 : w1.frozen? ⟨g, 1, none⟩ = false := hr1.frozen 1
  have f2 : w1.frozen? ⟨g, 2, none⟩ = false := hr1.frozen 2
  have c1' := RD.c1 hr1
  have c2' := RD.c2 hr1
  have HR1 := Lib.hid hr1
  have HB1 := Lib.hid hb1
  have HJ1 := Lib.hid hj1
  clear hr1 hb1 hj1
  go_wp2
  go_ret
  refine ⟨rfl, RD.set2 (RD.set1 HR1.out t) t, (((below_drewN' (Below.refl base w) nq).trans HB1.out).trans (below_set hg _ _)).trans (below_set hg _ _), fun j hj => ?_⟩
  exact (Below.heap_setCell _ ⟨g, 2, none⟩ _ j hj).trans ((Below.heap_setCell _ ⟨g, 1, none⟩ _ j hj).trans (HJ1.out j hj))

set_option maxHeartbeats 400000 in
theorem step_end (base : Nat) (w : World) (g : Nat) (A : Option Addr) (m cap : Nat) (b : List UInt8) (p q x : Nat) (vl : Value) (n : List (List UInt8)) (d : Bool) (h : RD w g (.slice A m cap) p q x (szN n) vl d)
    (hbl : b.length = m) (hrow : Row w base A (b.map bc)) (hm : m ≤ maxLen) (hc : m ≤ cap) (hp : b.length ≤ p) :
    Calls Try.prog 88 #[.pointer (some ⟨g, 0, none⟩)] w (Stepped base w g (.slice A m cap) b p q x n) := by
  have h0 := h.c0
  have h1 := h.c1
  have HG := Lib.hid (get_quiet hbl hm hc (getL_short (a := p) (s := 1) (by omega) (by omega) (by omega) (by omega)) hrow)
  have HE := Lib.hid (getR_end (q := q) (x := x) (n := n) hp)
  have HR := Lib.hid h
  clear h hbl hrow hp
  go_enter Try.func88, Try.ntmps88
  go_wp2
  go_quiet ((go_at_call 89; exact HG.out _))
  go_wp2
  go_ret
  exact ⟨below_drewN' (Below.refl base w) _, .inl ⟨3, by decide, rfl, HE.out, _, _, _, _, _, _, HR.out.drewN _⟩⟩

set_option maxHeartbeats 400000 in
theorem step_bad (base : Nat) (w : World) (g : Nat) (A : Option Addr) (m cap : Nat) (b : List UInt8) (p q x : Nat) (vl : Value) (n : List (List UInt8)) (d : Bool) (h : RD w g (.slice A m cap) p q x (szN n) vl d)
    (hbl : b.length = m) (hrow : Row w base A (b.map bc)) (hm : m ≤ maxLen) (hc : m ≤ cap) (hp : p < b.length) (y : UInt8) (hy : b[p] = y) (h64 : 64 ≤ y.toNat) (h192 : y.toNat < 192) :
    Calls Try.prog 88 #[.pointer (some ⟨g, 0, none⟩)] w (Stepped base w g (.slice A m cap) b p q x n) := by
  have h0 := h.c0
  have h1 := h.c1
  have HG := Lib.hid (get_quiet hbl hm hc (getL_one hp) hrow)
  have HE := Lib.hid (getR_bad (q := q) (x := x) (n := n) hp (by rw [hy]; exact h64) (by rw [hy]; exact h192))
  rw [hy] at HG
  have HR := Lib.hid h
  clear h hbl hrow hy hp
  generalize y.toNat = c at *
  have t0 : ((c : Int) == 0) = false := by rw [beq_eq_false_iff_ne]; omega
  have t1 : decide ((c : Int) ≤ 63) = false := by simp; omega
  have t2 : decide ((c : Int) < 192) = true := by simp; omega
  go_enter Try.func88, Try.ntmps88
  go_wp2
  go_quiet ((go_at_call 89; exact HG.out _))
  go_wp2
  go_ret
  exact ⟨below_drewN' (Below.refl base w) _, .inl ⟨5, by decide, rfl, HE.out, _, _, _, _, _, _, HR.out.drewN _⟩⟩

set_option maxHeartbeats 1000000 in
theorem step_zero (base : Nat) (w : World) (g : Nat) (A : Option Addr) (m cap : Nat) (b : List UInt8) (p q x : Nat) (vl : Value) (n : List (List UInt8)) (d : Bool) (hg : base ≤ g) (h : RD w g (.slice A m cap) p q x (szN n) vl d)
    (hbl : b.length = m) (hrow : Row w base A (b.map bc)) (hm : m ≤ maxLen) (hc : m ≤ cap) (hown : w.ownsRow base 9 1 vl n.length (n.map sv)) (hsz : szN n ≤ 255) (hqp : q ≤ p) (hp : p < b.length) (y : UInt8) (hy : b[p] = y) (h00 : y.toNat = 0) :
    Calls Try.prog 88 #[.pointer (some ⟨g, 0, none⟩)] w (Stepped base w g (.slice A m cap) b p q x n) := by
  unfold maxLen at hm
  have h0 := h.c0
  have h1 := h.c1
  have HG := Lib.hid (get_quiet hbl hm hc (getL_one hp) hrow)
  have HE := Lib.hid (getR_zero (q := q) (x := x) (n := n) hp (by rw [hy]; exact h00))
  rw [hy, h00] at HG
  have HB := Lib.hid (fun W hr => behind_any base W g (.slice A m cap) p q x (szN n) vl d (p + 1) hg hr)
  rw [show ((p + 1 : Nat) : Int) = (p : Int) + 1 by omega] at HB
  have HR := Lib.hid h
  have HO := Lib.hid hown
  have hne := own_not_whole hown h (by decide)
  have HN := Lib.hid hne
  have hp' : p < m := by rw [← hbl]; exact hp
  have hpl : p ≤ b.length := Nat.le_of_lt hp
  clear h hbl hrow hy hp h00 hown hne
  go_enter Try.func88, Try.ntmps88
  go_wp2
  go_quiet ((go_at_call 89; exact HG.out _))
  go_wp2_with fail
  refine (HB.out (w.drewN nq) (HR.out.drewN nq)).mono ?_
  rintro e w1 ⟨rfl, hr1, hb1, hj1⟩
  have f6 : w1.frozen? ⟨g, 6, none⟩ = false := hr1.frozen 6
  have c6' := RD.c6 hr1
  have HR1 := Lib.hid hr1
  have HB1 := Lib.hid hb1
  have HO1 := Lib.hid (own_keep (w := w) (w' := w1) HO.out fun j hj => hj1 j (fun e => HN.out (by rw [hj, e])))
  clear hr1 hb1 hj1
  go_wp2
  go_ret
  refine ⟨((below_drewN' (Below.refl base w) nq).trans HB1.out).trans (below_set hg _ _), .inr ⟨rfl, vl, _, _, _, n, true, RD.set6 HR1.out true, own_set_far HO1.out HN.out _, hsz, ⟨hpl, hqp⟩, ?_⟩⟩
  rw [if_pos rfl]
  exact HE.out

end Go.Proofs.Ythppgofpbpjglaa

namespace Go.Proofs.Ythppgofpbpjglaa
open Go.RowKit

theorem Stepped.drew {base : Nat} {w : World} {g : Nat} {vb : Value} {b : List UInt8} {p q x : Nat} {n : List (List UInt8)} {e : Ending} {w' : World} {k : Nat} (h : Stepped base (w.drewN k) g vb b p q x n e w') : Stepped base w g vb b p q x n e w' :=
  ⟨(below_drewN' (Below.refl base w) k).trans h.1, h.2⟩

set_option maxHeartbeats 1000000 in
theorem step_label (base : Nat) (w : World) (g : Nat) (bb off m cap : Nat) (b : List UInt8) (p q x : Nat) (vl : Value) (n : List (List UInt8)) (hg : base ≤ g) (h : RD w g (.slice (some ⟨bb, off, none⟩) m cap) p q x (szN n) vl false)
    (hbl : b.length = m) (hrow : Row w base (some ⟨bb, off, none⟩) (b.map bc)) (hcap : cap ≤ maxLen) (hc : m ≤ cap) (hown : w.ownsRow base 9 1 vl n.length (n.map sv)) (hz : base ≤ w.heap.size) (hsz : szN n ≤ 255) (hqp : q ≤ p)
    (hp : p < b.length) (y : UInt8) (hy : b[p] = y) (h00 : y.toNat ≠ 0) (h64 : y.toNat < 64) :
    Calls Try.prog 88 #[.pointer (some ⟨g, 0, none⟩)] w (Stepped base w g (.slice (some ⟨bb, off, none⟩) m cap) b p q x n) := by
  have hm : m ≤ maxLen := Nat.le_trans hc hcap
  have h0 := h.c0
  have h1 := h.c1
  have HG := Lib.hid (get_quiet hbl hm hc (getL_one hp) hrow)
  rw [hy] at HG
  have hp' : p < m := by rw [← hbl]; exact hp
  have key : ∀ W, RD W g (.slice (some ⟨bb, off, none⟩) m cap) p q x (szN n) vl false → Row W base (some ⟨bb, off, none⟩) (b.map bc) → W.ownsRow base 9 1 vl n.length (n.map sv) → base ≤ W.heap.size →
      Calls Try.prog 107 #[.pointer (some ⟨g, 0, none⟩), .int .i64 ((p : Int) + 1), .int .i64 (y.toNat : Int)] W (fun e w' => ∃ k : Int, e = .returned (.int .i64 k) ∧ Stepped base W g (.slice (some ⟨bb, off, none⟩) m cap) b p q x n e w') := by
    intro W hr hrw ho hzz
    rw [show (p : Int) + 1 = ((p + 1 : Nat) : Int) by omega]
    by_cases hs : p + 1 + y.toNat ≤ m
    · by_cases hl : szN n + 1 + y.toNat ≤ 255
      · refine (label_ok base W g bb off m cap b p q x (p + 1) y.toNat vl n false hg hr hbl hrw ho hzz hc hcap (by omega) h64 hs hl).mono ?_
        rintro e w' ⟨rfl, vl', h2, h3, h4⟩
        refine ⟨0, rfl, h4, .inr ⟨rfl, vl', _, _, _, _, false, h2, h3, ?_, ⟨by rw [hbl]; exact hs, by omega⟩, ?_⟩⟩
        · rw [szN_snoc, length_cutL (by rw [hbl]; exact hs)]; omega
        · rw [if_neg (by decide), getR_label hp (by rw [hy]; exact h00) (by rw [hy]; exact h64) (by rw [hy, hbl]; exact hs) (by rw [hy]; omega)]
          rw [hy]
          refine ⟨rfl, .inr ⟨rfl, ?_⟩⟩
          rw [szN_snoc]; omega
      · refine (label_long base W g _ m cap p q x (szN n) (p + 1) y.toNat vl false hg hr hm h64 hs hsz (by omega)).mono ?_
        rintro e w' ⟨rfl, h4, vl', p', q', x', s', d', h5⟩
        refine ⟨5, rfl, h4, .inl ⟨5, by decide, rfl, ?_, ?_⟩⟩
        · exact getR_long hp (by rw [hy]; exact h00) (by rw [hy]; exact h64) (by rw [hy, hbl]; exact hs) (by rw [hy]; omega)
        · exact ⟨_, _, _, _, _, _, h5⟩
    · refine (label_short base W g _ m cap p q x (szN n) (p + 1) y.toNat vl false hr hm h64 (by omega)).mono ?_
      rintro e w' ⟨rfl, h4, vl', p', q', x', s', d', h5⟩
      refine ⟨3, rfl, h4, .inl ⟨3, by decide, rfl, ?_, ?_⟩⟩
      · exact getR_short hp (by rw [hy]; exact h00) (by rw [hy]; exact h64) (by rw [hy, hbl]; omega)
      · exact ⟨_, _, _, _, _, _, h5⟩
  have HK := Lib.hid key
  have HR := Lib.hid h
  have HO := Lib.hid hown
  have HW := Lib.hid hrow
  clear h hbl hrow hy hp hown key
  generalize y.toNat = c at *
  have t0 : ((c : Int) == 0) = false := by rw [beq_eq_false_iff_ne]; omega
  have t1 : decide ((c : Int) ≤ 63) = true := by simp; omega
  have hpm : (p : Int) < 9223372036854775807 := by unfold maxLen at hm; omega
  go_enter Try.func88, Try.ntmps88
  go_wp2
  go_quiet ((go_at_call 89; exact HG.out _))
  go_wp2_with fail
  refine (HK.out (w.drewN nq) (HR.out.drewN nq) (HW.out.drewN nq) HO.out hz).mono ?_
  rintro e w1 ⟨k, rfl, hst⟩
  have HS := Lib.hid hst
  clear hst
  go_wp2
  go_ret
  exact Stepped.drew HS.out

set_option maxHeartbeats 1000000 in
theorem step_ptr (base : Nat) (w : World) (g : Nat) (A : Option Addr) (m cap : Nat) (b : List UInt8) (p q x : Nat) (vl : Value) (n : List (List UInt8)) (hg : base ≤ g) (h : RD w g (.slice A m cap) p q x (szN n) vl false)
    (hbl : b.length = m) (hrow : Row w base A (b.map bc)) (hm : m ≤ maxLen) (hc : m ≤ cap) (hown : w.ownsRow base 9 1 vl n.length (n.map sv)) (hsz : szN n ≤ 255) (hqp : q ≤ p)
    (hp : p < b.length) (y : UInt8) (hy : b[p] = y) (h192 : 192 ≤ y.toNat) :
    Calls Try.prog 88 #[.pointer (some ⟨g, 0, none⟩)] w (Stepped base w g (.slice A m cap) b p q x n) := by
  have h0 := h.c0
  have h1 := h.c1
  have HG := Lib.hid (get_quiet hbl hm hc (getL_one hp) hrow)
  rw [hy] at HG
  have key : ∀ W, RD W g (.slice A m cap) p q x (szN n) vl false → Row W base A (b.map bc) → W.ownsRow base 9 1 vl n.length (n.map sv) →
      Calls Try.prog 108 #[.pointer (some ⟨g, 0, none⟩)] W (fun e w' => ∃ k : Int, e = .returned (.int .i64 k) ∧ Stepped base W g (.slice A m cap) b p q x n e w') := by
    intro W hr hrw ho
    by_cases hs : p + 1 < b.length
    · obtain ⟨z, hz⟩ : ∃ z, b[p + 1] = z := ⟨_, rfl⟩
      by_cases hq : toR y z < q
      · refine (follow_ok base W g A m cap b p q x (szN n) vl false hg hr hbl hrw hm hc hp hs y z hy hz h192 hq).mono ?_
        rintro e w' ⟨rfl, h2, h3, h4⟩
        have hpz := getR_ptr (x := x) (n := n) hp hs (by rw [hy]; exact h192) (by rw [hy, hz]; exact hq)
        rw [hy, hz] at hpz
        refine ⟨0, rfl, h3, .inr ⟨rfl, vl, _, _, _, n, false, h2, own_keep ho fun j hj => h4 j (fun e => own_not_whole ho hr (by decide) (by rw [hj, e])), hsz, ?_, ?_⟩⟩
        · exact ⟨by omega, Nat.le_refl _⟩
        · rw [if_neg (by decide)]
          exact ⟨hpz, .inl hq⟩
      · refine (follow_loop base W g A m cap b p q x (szN n) vl false hr hbl hrw hm hc hp hs y z hy hz h192 (by omega)).mono ?_
        rintro e w' ⟨rfl, k, rfl⟩
        exact ⟨6, rfl, below_drewN' (Below.refl base W) k, .inl ⟨6, by decide, rfl, getR_loop hp hs (by rw [hy]; exact h192) (by rw [hy, hz]; omega), _, _, _, _, _, _, hr.drewN k⟩⟩
    · refine (follow_short base W g A m cap b p q x (szN n) vl false hr hbl hrw hm hc (by omega)).mono ?_
      rintro e w' ⟨rfl, k, rfl⟩
      exact ⟨3, rfl, below_drewN' (Below.refl base W) k, .inl ⟨3, by decide, rfl, getR_half hp (by rw [hy]; exact h192) (by omega), _, _, _, _, _, _, hr.drewN k⟩⟩
  have HK := Lib.hid key
  have HR := Lib.hid h
  have HO := Lib.hid hown
  have HW := Lib.hid hrow
  clear h hbl hrow hy hp hown key
  generalize y.toNat = c at *
  have t0 : ((c : Int) == 0) = false := by rw [beq_eq_false_iff_ne]; omega
  have t1 : decide ((c : Int) ≤ 63) = false := by simp; omega
  have t2 : decide ((c : Int) < 192) = false := by simp; omega
  go_enter Try.func88, Try.ntmps88
  go_wp2
  go_quiet ((go_at_call 89; exact HG.out _))
  go_wp2_with fail
  refine (HK.out (w.drewN nq) (HR.out.drewN nq) (HW.out.drewN nq) HO.out).mono ?_
  rintro e w1 ⟨k, rfl, hst⟩
  have HS := Lib.hid hst
  clear hst
  go_wp2
  go_ret
  exact Stepped.drew HS.out

theorem step_any (base : Nat) (w : World) (g : Nat) (A : Option Addr) (m cap : Nat) (b : List UInt8) (p q x : Nat) (vl : Value) (n : List (List UInt8)) (hg : base ≤ g) (h : RD w g (.slice A m cap) p q x (szN n) vl false)
    (hbl : b.length = m) (hrow : Row w base A (b.map bc)) (hcap : cap ≤ maxLen) (hc : m ≤ cap) (hown : w.ownsRow base 9 1 vl n.length (n.map sv)) (hz : base ≤ w.heap.size) (hsz : szN n ≤ 255) (hqp : q ≤ p) :
    Calls Try.prog 88 #[.pointer (some ⟨g, 0, none⟩)] w (Stepped base w g (.slice A m cap) b p q x n) := by
  have hm : m ≤ maxLen := Nat.le_trans hc hcap
  by_cases hp : p < b.length
  · obtain ⟨y, hy⟩ : ∃ y, b[p] = y := ⟨_, rfl⟩
    by_cases h1 : y.toNat = 0
    · exact step_zero base w g A m cap b p q x vl n false hg h hbl hrow hm hc hown hsz hqp hp y hy h1
    · by_cases h2 : y.toNat < 64
      · obtain ⟨bb, off, rfl, _⟩ := hrow.some_ (by rw [List.length_map]; omega)
        exact step_label base w g bb off m cap b p q x vl n hg h hbl hrow hcap hc hown hz hsz hqp hp y hy h1 h2
      · by_cases h3 : y.toNat < 192
        · exact step_bad base w g A m cap b p q x vl n false h hbl hrow hm hc hp y hy (by omega) h3
        · exact step_ptr base w g A m cap b p q x vl n hg h hbl hrow hm hc hown hsz hqp hp y hy (by omega)
  · exact step_end base w g A m cap b p q x vl n false h hbl hrow hm hc (by omega)

end Go.Proofs.Ythppgofpbpjglaa

namespace Go.Proofs.Ythppgofpbpjglaa
open Go.RowKit

/-- The call answers what is read: a name in new memory, a place, an error. -/
def Read (w : World) (r : List (List UInt8) × Nat × Nat) (e : Ending) (w' : World) : Prop :=
  ∃ v, e = .returned (.tuple #[v, .int .i64 r.2.1, .int .i64 r.2.2]) ∧ w'.ownsRow w.heap.size 9 1 v r.1.length (r.1.map sv) ∧ Below w.heap.size w w'

/-- At the loop's head: what is still to be read, or the error. -/
def WGetRel (w : World) (g : Nat) (vb : Value) (b : List UInt8) (a : Nat) (e : Value) (wr : World) : Prop :=
  ∃ k p q x s vl d, e = .int .i64 (k : Nat) ∧ RD wr g vb p q x s vl d ∧ Below w.heap.size w wr ∧ w.heap.size ≤ wr.heap.size ∧
    (if k = 0 then ∃ n, s = szN n ∧ szN n ≤ 255 ∧ q ≤ p ∧ p ≤ max a b.length ∧ wr.ownsRow w.heap.size 9 1 vl n.length (n.map sv) ∧ (if d = true then getR b a a 0 [] = (n, x, 0) else getR b a a 0 [] = getR b p q x n)
     else getR b a a 0 [] = ([], 0, k))

def doneV : Option Value → Bool
  | some (.bool false) => false
  | _ => true
def numV : Option Value → Nat
  | some v => (intOf v).toNat
  | none => 0
/-- What is left to read, as a number. -/
def leftR (g : Nat) (e : Value) (wr : World) : Nat :=
  if intOf e = 0 then (if doneV (wr.cell? ⟨g, 6, none⟩) = true then 0 else 1 + numV (wr.cell? ⟨g, 2, none⟩) * 256 + (255 - numV (wr.cell? ⟨g, 4, none⟩))) else 0
section
variable {wr : World} {g : Nat} {vb : Value} {p q x s : Nat} {vl : Value} {d : Bool}
theorem leftR_on (h : RD wr g vb p q x s vl false) : leftR g (.int .i64 0) wr = 1 + q * 256 + (255 - s) := by
  simp [leftR, h.c2, h.c4, h.c6, doneV, numV, intOf]
theorem leftR_off (h : RD wr g vb p q x s vl true) : leftR g (.int .i64 0) wr = 0 := by
  simp [leftR, h.c6, doneV, intOf]
theorem leftR_err {k : Nat} (hk : k ≠ 0) : leftR g (.int .i64 (k : Int)) wr = 0 := by
  simp [leftR, intOf, hk]
end

set_option maxHeartbeats 1000000 in
theorem wget_at (A : Option Addr) (m cap : Nat) (b : List UInt8) (a : Nat) (w : World) (hbl : b.length = m) (hrow : Row w w.heap.size A (b.map bc)) (hcap : cap ≤ maxLen) (hc : m ≤ cap) (_ha : a ≤ 9223372036854775807) :
    Calls Try.prog 46 #[.slice A m cap, .int .i64 a] w (Read w (getR b a a 0 [])) := by
  have HS := Lib.hid (fun W p q x vl n hr hrw ho hz hsz hqp => step_any w.heap.size W w.heap.size A m cap b p q x vl n (Nat.le_refl _) hr hbl hrw hcap hc ho hz hsz hqp)
  have HW := Lib.hid hrow
  have hcl : cap ≤ maxLen := hcap
  clear hrow hbl
  go_enter Try.func46, Try.ntmps46
  go_wp2
  go_loopw [6] (WGetRel w w.heap.size (.slice A m cap) b a) (fun e wr => leftR w.heap.size e wr)
  case atStart =>
    refine ⟨0, a, a, 0, 1, .slice none 0 0, false, rfl, heap_alloc_new w _, (Below.refl _ _).alloc (Nat.le_refl _) _, by simp, ?_⟩
    rw [if_pos rfl]
    exact ⟨[], rfl, by decide, Nat.le_refl _, by omega, World.ownsRow_nil _ _ _ _, by rw [if_neg (by decide)]⟩
  case round =>
    obtain ⟨k, p, q, x, s, vl, d, rfl, hr, hb, hz, hk⟩ := hrel
    by_cases hk0 : k = 0
    · subst hk0
      rw [if_pos rfl] at hk
      obtain ⟨n, rfl, hsz, hqp, hpl, ho, hgr⟩ := hk
      have c6 := hr.c6
      cases d
      · rw [if_neg (by decide)] at hgr
        have HR := Lib.hid hr
        have HB := Lib.hid hb
        have HO := Lib.hid ho
        have HGR := Lib.hid hgr
        clear hr hb ho hgr
        go_wp2_with fail
        refine (HS.out wr p q x vl n HR.out (HW.out.below HB.out) HO.out hz hsz hqp).mono ?_
        rintro e w1 ⟨hb1, h1⟩
        have HB1 := Lib.hid (HB.out.trans hb1)
        have hz1 : w.heap.size ≤ w1.heap.size := Nat.le_trans hz hb1.size
        clear hb1
        rcases h1 with ⟨k, hk, rfl, hg1, vl', p', q', x', s', d', hr1⟩ | ⟨rfl, vl', p', q', x', n', d', hr1, ho1, hsz1, ⟨hp1, hq1⟩, hg1⟩
        · have HG1 := Lib.hid (HGR.out.trans hg1)
          have HR1 := Lib.hid hr1
          clear hg1 hr1
          go_wp2
          refine ⟨⟨k, p', q', x', s', vl', d', rfl, HR1.out, HB1.out, hz1, by rw [if_neg hk]; exact HG1.out⟩, ?_⟩
          show leftR w.heap.size (.int .i64 (k : Int)) w1 < leftR w.heap.size (.int .i64 0) wr
          rw [leftR_err hk, leftR_on HR.out]
          omega
        · have HG1 := Lib.hid hg1
          have HR1 := Lib.hid hr1
          have HO1 := Lib.hid ho1
          clear hg1 hr1 ho1
          go_wp2
          refine ⟨⟨0, p', q', x', _, vl', d', rfl, HR1.out, HB1.out, hz1, ?_⟩, ?_⟩
          · rw [if_pos rfl]
            refine ⟨n', rfl, hsz1, hq1, by omega, HO1.out, ?_⟩
            have h := HG1.out
            split
            · rename_i hd
              rw [if_pos hd] at h
              exact HGR.out.trans h
            · rename_i hd
              rw [if_neg hd] at h
              exact HGR.out.trans h.1
          · have h := HG1.out
            have hl := leftR_on HR.out
            cases d'
            · rw [if_neg (by decide)] at h
              have hl1 := leftR_on HR1.out
              show leftR w.heap.size (.int .i64 0) w1 < leftR w.heap.size (.int .i64 0) wr
              rw [hl, hl1]
              omega
            · have hl1 := leftR_off HR1.out
              show leftR w.heap.size (.int .i64 0) w1 < leftR w.heap.size (.int .i64 0) wr
              rw [hl, hl1]
              omega
      · rw [if_pos rfl] at hgr
        have h3 := hr.c3
        have h5 := hr.c5
        have HR := Lib.hid hr
        have HB := Lib.hid hb
        have HO := Lib.hid ho
        have HGR := Lib.hid hgr
        clear hr hb ho hgr
        go_wp2
        go_quiet (fail)
        go_wp2
        go_ret3
        exact ⟨vl, by rw [HGR.out]; rfl, by rw [HGR.out]; exact HO.out, below_drewN' HB.out _⟩
    · rw [if_neg hk0] at hk
      have c6 := hr.c6
      have t1 : ((k : Int) == 0) = false := by rw [beq_eq_false_iff_ne]; omega
      have t2 : ((k : Int) != 0) = true := by rw [bne_iff_ne]; omega
      have HB := Lib.hid hb
      have HK := Lib.hid hk
      clear hr hb hk hk0
      cases d
      all_goals
        go_wp2
        go_ret3
        exact ⟨.slice none 0 0, by rw [HK.out]; rfl, by rw [HK.out]; exact World.ownsRow_nil _ _ _ _, HB.out⟩

set_option maxHeartbeats 400000 in
theorem step_neg (g : Nat) (A : Option Addr) (m cap : Nat) (a : Int) (w : World) (c0 : w.cell? ⟨g, 0, none⟩ = some (.slice A m cap)) (c1 : w.cell? ⟨g, 1, none⟩ = some (.int .i64 a)) (ha : a < 0) :
    Calls Try.prog 88 #[.pointer (some ⟨g, 0, none⟩)] w (Drewn w (.int .i64 1)) := by
  have hG : ∀ k, Calls Try.prog 89 #[.slice A m cap, .int .i64 a, .int .i64 1] (w.drewN k) fun e w' => e = .returned (.tuple #[.int .i64 0, .int .i64 1]) ∧ ∃ j, w' = w.drewN j :=
    fun k => (get_arg A m cap a 1 (w.drewN k) (.inr ha)).mono fun e w' ⟨he, hw⟩ => ⟨he, k, hw.symm⟩
  have HG := Lib.hid hG
  clear hG
  go_enter Try.func88, Try.ntmps88
  go_wp2
  go_quiet ((go_at_call 89; exact HG.out _))
  go_wp2
  go_ret
  exact ⟨rfl, _, rfl⟩

def NegRel (w : World) (g : Nat) (A : Option Addr) (m cap : Nat) (a : Int) (e : Value) (wr : World) : Prop :=
  ∃ k : Nat, k ≤ 1 ∧ e = .int .i64 k ∧ wr.cell? ⟨g, 0, none⟩ = some (.slice A m cap) ∧ wr.cell? ⟨g, 1, none⟩ = some (.int .i64 a) ∧ wr.cell? ⟨g, 6, none⟩ = some (.bool false) ∧ Below w.heap.size w wr

set_option maxHeartbeats 400000 in
theorem wget_neg (A : Option Addr) (m cap : Nat) (a : Int) (w : World) (ha : a < 0) :
    Calls Try.prog 46 #[.slice A m cap, .int .i64 a] w (Read w ([], 0, 1)) := by
  go_enter Try.func46, Try.ntmps46
  go_wp2
  go_loopw [6] (NegRel w w.heap.size A m cap a) (fun e _ => if intOf e = 0 then 1 else 0)
  case atStart =>
    have h (i : Nat) : (w.alloc (.cells #[.slice A m cap, .int .i64 a, .int .i64 a, .int .i64 0, .int .i64 1, .slice none 0 0, .bool false] 110)).cell? ⟨w.heap.size, i, none⟩ = [.slice A m cap, .int .i64 a, .int .i64 a, .int .i64 0, .int .i64 1, .slice none 0 0, .bool false][i]? :=
      Whole.cell (Whole.made w [.slice A m cap, .int .i64 a, .int .i64 a, .int .i64 0, .int .i64 1, .slice none 0 0, .bool false] 110) i
    exact ⟨0, by omega, rfl, h 0, h 1, h 6, (Below.refl _ _).alloc (Nat.le_refl _) _⟩
  case round =>
    obtain ⟨k, hk, rfl, c0, c1, c6, hb⟩ := hrel
    have HB := Lib.hid hb
    clear hb
    by_cases hk0 : k = 0
    · subst hk0
      go_wp2_with fail
      refine (step_neg w.heap.size A m cap a wr c0 c1 ha).mono ?_
      rintro e w1 ⟨rfl, j, rfl⟩
      go_wp2
      exact ⟨⟨1, by omega, rfl, c0, c1, c6, below_drewN' HB.out _⟩, by simp [intOf]⟩
    · obtain rfl : k = 1 := by omega
      go_wp2
      go_ret3
      exact ⟨.slice none 0 0, rfl, World.ownsRow_nil _ _ _ _, HB.out⟩

theorem wget_any (A : Option Addr) (m cap : Nat) (b : List UInt8) (a : Int) (w : World) (hbl : b.length = m) (hrow : Row w w.heap.size A (b.map bc)) (hcap : cap ≤ maxLen) (hc : m ≤ cap) (ha : a ≤ 9223372036854775807) :
    Calls Try.prog 46 #[.slice A m cap, .int .i64 a] w (Read w (getW b a)) := by
  by_cases h : a < 0
  · rw [getW_neg h]
    exact wget_neg A m cap a w h
  · obtain ⟨n, rfl⟩ : ∃ n : Nat, a = n := ⟨a.toNat, by omega⟩
    rw [getW_at]
    exact wget_at A m cap b n w hbl hrow hcap hc (by omega)

end Go.Proofs.Ythppgofpbpjglaa

namespace Go.Proofs.Ythppgofpbpjglaa
open Go.RowKit

/-- What a reader's call leaves: it stands at a place and answers a value, or gives up. -/
def Outc {α : Type} (w : World) (g : Nat) (vb : Value) (en : Nat) (r : Except Nat (α × Nat)) (V : α → Value → World → Prop) (e : Ending) (w' : World) : Prop :=
  GrewG g w w' ∧ match r with
  | .ok x => ∃ v, e = .returned v ∧ RB w' g vb x.2 en ∧ V x.1 v w'
  | .error k => e = gaveE k
theorem Outc.ok {α : Type} {w : World} {g : Nat} {vb : Value} {en p' : Nat} {r : Except Nat (α × Nat)} {x : α} {V : α → Value → World → Prop} {v : Value} {w' : World} (hr : r = .ok (x, p')) (hg : GrewG g w w') (h : RB w' g vb p' en) (hv : V x v w') :
    Outc w g vb en r V (.returned v) w' := by
  subst hr
  exact ⟨hg, v, rfl, h, hv⟩
theorem Outc.err {α : Type} {w : World} {g : Nat} {vb : Value} {en k : Nat} {r : Except Nat (α × Nat)} {V : α → Value → World → Prop} {w' : World} (hr : r = .error k) (hg : GrewG g w w') : Outc w g vb en r V (gaveE k) w' := by
  subst hr
  exact ⟨hg, rfl⟩
theorem Outc.cases {α : Type} {w : World} {g : Nat} {vb : Value} {en : Nat} {r : Except Nat (α × Nat)} {V : α → Value → World → Prop} {e : Ending} {w' : World} (h : Outc w g vb en r V e w') :
    GrewG g w w' ∧ ((∃ x p' v, r = .ok (x, p') ∧ e = .returned v ∧ RB w' g vb p' en ∧ V x v w') ∨ ∃ k, r = .error k ∧ e = gaveE k) := by
  obtain ⟨hg, h⟩ := h
  refine ⟨hg, ?_⟩
  rcases r with k | ⟨x, p'⟩
  · exact .inr ⟨k, rfl, h⟩
  · obtain ⟨v, h1, h2, h3⟩ := h
    exact .inl ⟨x, p', v, rfl, h1, h2, h3⟩

/-- k numbers of s bytes from p on. -/
def numsL (b : List UInt8) (p s : Nat) : Nat → List Int
  | 0 => []
  | k + 1 => numsL b p s k ++ [(numN (cutL b (p + k * s) s) : Int)]
theorem length_numsL (b : List UInt8) (p s : Nat) : ∀ k, (numsL b p s k).length = k
  | 0 => rfl
  | k + 1 => by simp [numsL, length_numsL b p s k]

/-- What is read of k numbers. -/
def numsR (b : List UInt8) (p en s k : Nat) : Except Nat (List Int × Nat) := if p + k * s ≤ en then .ok (numsL b p s k, p + k * s) else .error 3
/-- A slice of the call's own, which reads as the numbers. -/
def OwnI (B : Nat) (l : List Int) (v : Value) (w : World) : Prop := w.ownsRow B 3 1 v l.length (l.map zv)
/-- A slice of the call's own, which reads as the strings. -/
def OwnT (B : Nat) (l : List (List UInt8)) (v : Value) (w : World) : Prop := w.ownsRow B 9 1 v l.length (l.map sv)
/-- A slice of the call's own, which reads as the bytes. -/
def OwnB (B : Nat) (l : List UInt8) (v : Value) (w : World) : Prop := w.ownsRow B 5 1 v l.length (l.map bc)

def NumsRel (w : World) (g : Nat) (vb : Value) (b : List UInt8) (p s en k : Nat) (v i : Value) (wr : World) : Prop :=
  ∃ j : Nat, j ≤ k ∧ i = .int .i64 j ∧ p + j * s ≤ en ∧ RB wr g vb (p + j * s) en ∧ wr.ownsRow w.heap.size 3 1 v j ((numsL b p s j).map zv) ∧ GrewG g w wr

set_option maxRecDepth 4000 in
set_option maxHeartbeats 1000000 in
theorem nums_any (w : World) (g : Nat) (A : Option Addr) (m cap base : Nat) (b : List UInt8) (p en s k : Nat) (h : RB w g (.slice A m cap) p en) (hbl : b.length = m) (hrow : Row w base A (b.map bc)) (hbg : base ≤ g) (hm : m ≤ cap) (hc : cap ≤ maxLen) (hen : en ≤ m)
    (hp : p ≤ en) (h1 : 1 ≤ s) (h2 : s ≤ 7) (hk : k ≤ 10) :
    Calls Try.prog 111 #[.pointer (some ⟨g, 0, none⟩), .int .i64 k, .int .i64 s] w
      (Outc w g (.slice A m cap) en (numsR b p en s k) (OwnI w.heap.size)) := by
  obtain ⟨i0, hi0, hz0, hz1, hz2⟩ := info_parts zint_info
  have hgl := h.lt
  have HOK := Lib.hid (fun W q hr hw hq => dnum_ok W g A m cap base b q en s hr hbl hw hm hc hen h1 h2 hq)
  have HNO := Lib.hid (fun W q hr hw hq => dnum_short W g A m cap base b q en s hr hbl hw hm hc hen h1 h2 hq)
  have HW := Lib.hid hrow
  have HR := Lib.hid h
  clear h hrow hbl
  go_enter Try.func111, Try.ntmps111
  go_wp2
  go_loopw [7, 9] (NumsRel w g (.slice A m cap) b p s en k) (fun _ i _ => k - (intOf i).toNat)
  case atStart =>
    exact ⟨0, Nat.zero_le _, rfl, by omega, by rw [Nat.zero_mul, Nat.add_zero]; exact HR.out, World.ownsRow_nil _ _ _ _, Grew.refl _ _⟩
  case round =>
    obtain ⟨j, hj, rfl, hpj, hr, ho, hg⟩ := hrel
    obtain ⟨Av, cv, rfl, _, hcv⟩ := own_form ho
    have HRJ := Lib.hid hr
    have HO := Lib.hid ho
    have HG := Lib.hid hg
    have HWJ := Lib.hid (HW.out.below (hg.below (fun q e => by subst e; exact hbg) (by omega)))
    have hsz : w.heap.size ≤ wr.heap.size := hg.size
    clear hr ho hg
    by_cases hjk : j < k
    · by_cases hfit : p + j * s + s ≤ en
      · have e1 : (j + 1) * s = j * s + s := Nat.succ_mul j s
        go_wp2_with fail
        refine (HOK.out wr _ HRJ.out HWJ.out hfit).mono ?_
        rintro e w1 ⟨rfl, hr1, hg1⟩
        have HR1 := Lib.hid hr1
        have HO1 := Lib.hid (own_grew HO.out hg1 fun q hq e => by subst e; have := (HO.out.lt q hq).1; omega)
        have HG1 := Lib.hid (HG.out.trans hg1 fun q hq => .inl hq)
        have hsz1 : w.heap.size ≤ w1.heap.size := HG1.out.size
        have hrm := Row.made w1 #[.int .i64 (numN (cutL b (p + j * s) s) : Nat)] 3
        have HRM := Lib.hid hrm
        clear hr1 hg1 hrm
        go_wp2_with (
          at_builtin
          refine wpList_append_at rfl (.tmp 11) (.tmp 15) _ rfl w.heap.size 3 i0 _ 1 8 Try.underlying32 hi0 hz0 hz1 hz2 rfl (by omega) (.slice Av j cv) j _ rfl (HO1.out.alloc _)
            (some ⟨w1.heap.size, 0, none⟩) 1 1 (w1.heap.size + 1) [.int .i64 (numN (cutL b (p + j * s) s) : Nat)] rfl rfl HRM.out (by simp [Value.oneCell']) (by unfold maxLen; omega) (by omega) (by simp; omega) ?_
          intro v2 w2 hown2 hg2 hat2)
        refine ⟨⟨j + 1, by omega, by go_num, by omega, ?_, ?_, ?_⟩, ?_⟩
        · rw [e1, ← Nat.add_assoc]
          have h3 : RB (w1.alloc (.cells #[.int .i64 (numN (cutL b (p + j * s) s) : Nat)] 3)) g (.slice A m cap) (p + j * s + s) en := HR1.out.alloc _
          refine h3.grown hg2 ?_
          intro e
          have := (HO1.out.lt g e.symm).1
          omega
        · rw [numsL, List.map_append]
          exact hown2
        · exact (HG1.out.alloc _).grown hg2 fun q e => .inr (HO1.out.lt q e).1
        · simp [intOf]; omega
      · have hno : ¬ p + k * s ≤ en := by
          have : (j + 1) * s ≤ k * s := Nat.mul_le_mul_right s hjk
          have e1 : (j + 1) * s = j * s + s := Nat.succ_mul j s
          omega
        go_wp2_with fail
        refine (HNO.out wr _ HRJ.out HWJ.out (by omega)).mono ?_
        rintro e w1 ⟨rfl, hg1⟩
        exact ⟨rfl, Outc.err (by rw [numsR, if_neg hno]) (HG.out.trans hg1 fun q hq => .inl hq)⟩
    · obtain rfl : j = k := by omega
      go_wp2
      go_ret
      exact Outc.ok (by rw [numsR, if_pos hpj]) HG.out HRJ.out (by unfold OwnI; rw [length_numsL]; exact HO.out)

/-- What is read of a name, up to an end. -/
def nameF (r : List (List UInt8) × Nat × Nat) (en : Nat) : Except Nat (List (List UInt8) × Nat) := if r.2.2 ≠ 0 then .error r.2.2 else if en < r.2.1 then .error 3 else .ok (r.1, r.2.1)
def nameR (b : List UInt8) (p en : Nat) : Except Nat (List (List UInt8) × Nat) := nameF (getR b p p 0 []) en

set_option maxHeartbeats 1000000 in
theorem rname_read (w : World) (g : Nat) (A : Option Addr) (m cap base : Nat) (b : List UInt8) (p en : Nat) (h : RB w g (.slice A m cap) p en) (hbl : b.length = m) (hrow : Row w base A (b.map bc)) (hbg : base ≤ w.heap.size) (hm : m ≤ cap) (hc : cap ≤ maxLen) (hen : en ≤ m)
    (hp : p ≤ en) :
    Calls Try.prog 112 #[.pointer (some ⟨g, 0, none⟩)] w (Outc w g (.slice A m cap) en (nameR b p en) (OwnT w.heap.size)) := by
  have HG := Lib.hid (fun W hr => wget_at A m cap b p W hbl hr hc hm (by unfold maxLen at hc; omega))
  unfold nameR
  generalize getR b p p 0 [] = r at HG
  obtain ⟨n, x, k⟩ := r
  have c0 := h.c0
  have c1 := h.c1
  have hgl := h.lt
  have HW := Lib.hid (hrow.mono hbg)
  have HR := Lib.hid h
  clear h hrow hbl
  go_enter Try.func112, Try.ntmps112
  go_wp2
  go_region_held3 (fun w' => w'.cell? ⟨g, 0, none⟩ = some (.slice A m cap) ∧ w'.cell? ⟨g, 1, none⟩ = some (.int .i64 p))
    (first | exact ⟨c0, c1⟩ | exact ⟨C0.out, C1.out⟩)
    ((go_at_call 46
      refine (HG.out w.drew HW.out).mono ?_
      rintro e w1 ⟨v, rfl, ho, hb⟩
      obtain ⟨Av, cv, rfl, _, _⟩ := own_form ho
      have C0 := Lib.hid ((hb.cell (p := ⟨g, 0, none⟩) hgl).trans c0)
      have C1 := Lib.hid ((hb.cell (p := ⟨g, 1, none⟩) hgl).trans c1)
      have HB := Lib.hid (show Below w.heap.size w w1 from ((Below.refl _ w).drew).trans hb)
      have HO := Lib.hid ho
      clear ho hb))
  have hr1 : RB w1 g (.slice A m cap) p en := HR.out.below HB.out hgl
  have c2 := hr1.c2
  have f1 : w1.frozen? ⟨g, 1, none⟩ = false := Whole.frozen hr1 1
  have HR1 := Lib.hid hr1
  have HGW := Lib.hid (show GrewG g w w1 from Grew.all HB.out)
  clear hr1 C0 C1 c0 c1
  by_cases hk : k = 0
  · subst hk
    by_cases hx : en < x
    · have d1 : decide ((en : Int) < (x : Int)) = true := by simp; omega
      go_wp2_with fail
      refine (giveUp_any _ _).mono ?_
      rintro e w' ⟨rfl, rfl⟩
      exact ⟨rfl, Outc.err (by simp [nameF, hx]) HGW.out⟩
    · have d1 : decide ((en : Int) < (x : Int)) = false := by simp; omega
      go_wp2
      go_ret
      exact Outc.ok (by simp [nameF, hx]) (Grew.setCell (F := fun j => j = g) HGW.out (a := ⟨g, 1, none⟩) (.inl rfl) _) (HR1.out.set1 x) (own_set_far HO.out (fun e => by have := (HO.out.lt g e).1; simp at this; omega) _)
  · have t1 : ((k : Int) != 0) = true := by rw [bne_iff_ne]; omega
    go_wp2_with fail
    refine (giveUp_any _ _).mono ?_
    rintro e w' ⟨rfl, rfl⟩
    exact ⟨rfl, Outc.err (by simp [nameF, hk]) HGW.out⟩

end Go.Proofs.Ythppgofpbpjglaa

namespace Go.Proofs.Ythppgofpbpjglaa
open Go.RowKit

/-- What is read of texts, from p on; acc are read already. -/
def textsR (b : List UInt8) (p en : Nat) (acc : List (List UInt8)) : Except Nat (List (List UInt8) × Nat) :=
  if _h : p < en then
    if acc.length = 64 then .error 4
    else if en < p + 1 + numN (cutL b p 1) then .error 3
    else textsR b (p + 1 + numN (cutL b p 1)) en (acc ++ [cutL b (p + 1) (numN (cutL b p 1))])
  else if acc = [] then .error 2 else .ok (acc, p)
termination_by en - p
section
variable {b : List UInt8} {p en : Nat} {acc : List (List UInt8)}
theorem textsR_large (h : p < en) (h1 : acc.length = 64) : textsR b p en acc = .error 4 := by rw [textsR, dif_pos h, if_pos h1]
theorem textsR_short (h : p < en) (h1 : acc.length ≠ 64) (h2 : en < p + 1 + numN (cutL b p 1)) : textsR b p en acc = .error 3 := by rw [textsR, dif_pos h, if_neg h1, if_pos h2]
theorem textsR_next (h : p < en) (h1 : acc.length ≠ 64) (h2 : p + 1 + numN (cutL b p 1) ≤ en) : textsR b p en acc = textsR b (p + 1 + numN (cutL b p 1)) en (acc ++ [cutL b (p + 1) (numN (cutL b p 1))]) := by
  rw [textsR, dif_pos h, if_neg h1, if_neg (by omega)]
theorem textsR_none (h : en ≤ p) : textsR b p en [] = .error 2 := by rw [textsR, dif_neg (by omega), if_pos rfl]
theorem textsR_end (h : en ≤ p) (h1 : acc ≠ []) : textsR b p en acc = .ok (acc, p) := by rw [textsR, dif_neg (by omega), if_neg h1]
end

theorem numN_one_lt (b : List UInt8) (p : Nat) : numN (cutL b p 1) < 256 := by
  have h := numN_lt (cutL b p 1)
  have hl : (cutL b p 1).length ≤ 1 := by simp [cutL]; omega
  have : 256 ^ (cutL b p 1).length ≤ 256 ^ 1 := Nat.pow_le_pow_right (by omega) hl
  omega

def TextsRel (w : World) (g : Nat) (vb : Value) (b : List UInt8) (p en : Nat) (v : Value) (wr : World) : Prop :=
  ∃ q acc, RB wr g vb q en ∧ q ≤ en ∧ acc.length ≤ 64 ∧ wr.ownsRow w.heap.size 9 1 v acc.length (acc.map sv) ∧ textsR b p en [] = textsR b q en acc ∧ GrewG g w wr

set_option maxRecDepth 4000 in
set_option maxHeartbeats 1000000 in
theorem texts_any (w : World) (g : Nat) (A : Option Addr) (m cap base : Nat) (b : List UInt8) (p en : Nat) (h : RB w g (.slice A m cap) p en) (hbl : b.length = m) (hrow : Row w base A (b.map bc)) (hbg : base ≤ g) (hm : m ≤ cap) (hc : cap ≤ maxLen) (hen : en ≤ m)
    (hp : p ≤ en) :
    Calls Try.prog 113 #[.pointer (some ⟨g, 0, none⟩)] w (Outc w g (.slice A m cap) en (textsR b p en []) (OwnT w.heap.size)) := by
  obtain ⟨i0, hi0, hz0, hz1, hz2⟩ := info_parts str_info
  have hgl := h.lt
  have HNUM := Lib.hid (fun W q hr hw hq => dnum_ok W g A m cap base b q en 1 hr hbl hw hm hc hen (by omega) (by omega) hq)
  have HTK := Lib.hid (fun W q s hr hw hq => take_ok W g A m cap base b q en s hr hbl hw hm hc hen hq)
  have HTS := Lib.hid (fun W q s hr hs hqe hq => take_short W g (.slice A m cap) q en s hr hs (Nat.le_trans hen (Nat.le_trans hm hc)) hqe hq)
  have HEN := Lib.hid (Nat.le_trans hen (Nat.le_trans hm hc))
  have HBL := Lib.hid hbl
  have HW := Lib.hid hrow
  have HR := Lib.hid h
  clear h hrow hbl
  go_enter Try.func113, Try.ntmps113
  go_wp2
  go_loopw [3] (TextsRel w g (.slice A m cap) b p en) (fun _ wr => en - numV (wr.cell? ⟨g, 1, none⟩))
  case atStart =>
    exact ⟨p, [], HR.out, hp, Nat.zero_le _, World.ownsRow_nil _ _ _ _, rfl, Grew.refl _ _⟩
  case round =>
    obtain ⟨q, acc, hr, hq, hacc, ho, hgr, hg⟩ := hrel
    obtain ⟨Av, cv, rfl, _, hcv⟩ := own_form ho
    have c1 := hr.c1
    have c2 := hr.c2
    have HG := Lib.hid hg
    have HGR := Lib.hid hgr
    have HRQ := Lib.hid hr
    have HO := Lib.hid ho
    have HWQ := Lib.hid (HW.out.below (hg.below (fun q e => by subst e; exact hbg) (by omega)))
    have hsz : w.heap.size ≤ wr.heap.size := hg.size
    clear hr hg hgr ho
    by_cases hqe : q < en
    · have d1 : decide ((q : Int) < (en : Int)) = true := by simp; omega
      by_cases h64 : acc.length = 64
      · have t1 : ((acc.length : Int) == 64) = true := by rw [beq_iff_eq]; omega
        go_wp2
        go_quiet (fail)
        go_wp2_with fail
        refine (giveUp_any _ _).mono ?_
        rintro e w' ⟨rfl, rfl⟩
        exact ⟨rfl, Outc.err (by rw [HGR.out]; exact textsR_large hqe h64) (HG.out.drewN _)⟩
      · have t1 : ((acc.length : Int) == 64) = false := by rw [beq_eq_false_iff_ne]; omega
        go_wp2
        go_quiet (fail)
        go_wp2_with fail
        refine (HNUM.out _ q (HRQ.out.drewN _) (HWQ.out.drewN _) hqe).mono ?_
        rintro e w1 ⟨he, hr1, hg1⟩
        have hn := numN_one_lt b q
        obtain ⟨n, hnn⟩ : ∃ n, n = numN (cutL b q 1) := ⟨_, rfl⟩
        rw [← hnn] at he hn
        subst he
        have HR1 := Lib.hid hr1
        have HG1 := Lib.hid ((HG.out.drewN _).trans hg1 fun q hq => .inl hq)
        have HO1 := Lib.hid (own_grew HO.out (show GrewG g wr w1 from ((Grew.refl _ wr).drewN _).trans hg1 fun q hq => .inl hq) fun q hq e => by subst e; have := (HO.out.lt q hq).1; omega)
        have HW1 := Lib.hid (HW.out.below (HG1.out.below (fun q e => by subst e; exact hbg) (by omega)))
        clear hr1 hg1 c1 c2
        have HNN := Lib.hid hnn
        clear hnn
        by_cases hfit : q + 1 + n ≤ en
        · go_wp2_with fail
          refine (HTK.out w1 (q + 1) n HR1.out HW1.out hfit).mono ?_
          rintro e w2 ⟨A2, c2, rfl, hc2, hc3, hrw2, hr2, hg2⟩
          have hcl := length_cutL (l := b) (a := q + 1) (k := n) (by rw [HBL.out]; omega)
          have hcv2 := convert_row_run (P := Try.prog) w2 31 9 5 Try.underlying31 Try.underlying5 Try.underlying9 A2 n c2 base (cutL b (q + 1) n) hcl (hrw2.below (hg2.below (fun q e => by subst e; exact hbg) (by have := HG1.out.size; omega)))
          have HR2 := Lib.hid hr2
          have HG2 := Lib.hid (HG1.out.trans hg2 fun q hq => .inl hq)
          have HO2 := Lib.hid (own_grew HO1.out hg2 fun q hq e => by subst e; have := (HO1.out.lt q hq).1; omega)
          have hsz2 : w.heap.size ≤ w2.heap.size := HG2.out.size
          have hrm := Row.made w2 #[.string ⟨(cutL b (q + 1) n).toArray⟩] 9
          have HRM := Lib.hid hrm
          clear hrw2 hr2 hg2 hrm
          have hnx := textsR_next hqe h64 (show q + 1 + numN (cutL b q 1) ≤ en by rw [← HNN.out]; exact hfit)
          rw [← HNN.out] at hnx
          have HNX := Lib.hid hnx
          clear hnx
          go_wp2_with (
            at_builtin
            refine wpList_append_at rfl (.tmp 17) (.tmp 23) _ rfl w.heap.size 9 i0 _ 1 16 Try.underlying23 hi0 hz0 hz1 hz2 rfl (by omega) (.slice Av acc.length cv) acc.length _ rfl (HO2.out.alloc _)
              (some ⟨w2.heap.size, 0, none⟩) 1 1 (w2.heap.size + 1) [.string ⟨(cutL b (q + 1) n).toArray⟩] rfl rfl HRM.out (by simp [Value.oneCell']) (by unfold maxLen; omega) (by omega) (by simp; omega) ?_
            intro v3 w3 hown3 hg3 hat3)
          have hrb3 : RB w3 g (.slice A m cap) (q + 1 + n) en := by
            have h3 : RB (w2.alloc (.cells #[.string ⟨(cutL b (q + 1) n).toArray⟩] 9)) g (.slice A m cap) (q + 1 + n) en := HR2.out.alloc _
            exact h3.grown hg3 (fun e => by have := (HO2.out.lt g e.symm).1; omega)
          refine ⟨⟨q + 1 + n, acc ++ [cutL b (q + 1) n], hrb3, hfit, by rw [List.length_append]; simp; omega, ?_, HGR.out.trans HNX.out, ?_⟩, ?_⟩
          · rw [List.length_append, List.map_append]
            exact hown3
          · exact (HG2.out.alloc _).grown hg3 fun q e => .inr (HO2.out.lt q e).1
          · rw [hrb3.c1, HRQ.out.c1]
            simp [numV, intOf]
            omega
        · go_wp2_with fail
          refine (HTS.out w1 (q + 1) n HR1.out (by omega) (by have := HEN.out; omega) (by omega)).mono ?_
          rintro e w2 ⟨rfl, hg2⟩
          exact ⟨rfl, Outc.err (by rw [HGR.out]; exact textsR_short hqe h64 (by rw [← HNN.out]; omega)) (HG1.out.trans hg2 fun q hq => .inl hq)⟩
    · have d1 : decide ((q : Int) < (en : Int)) = false := by simp; omega
      by_cases h0 : acc = []
      · subst h0
        go_wp2
        go_quiet (fail)
        go_wp2_with fail
        refine (giveUp_any _ _).mono ?_
        rintro e w' ⟨rfl, rfl⟩
        exact ⟨rfl, Outc.err (by rw [HGR.out]; exact textsR_none (by omega)) (HG.out.drewN _)⟩
      · have hl : 0 < acc.length := List.length_pos_iff.2 h0
        have t1 : ((acc.length : Int) == 0) = false := by rw [beq_eq_false_iff_ne]; omega
        go_wp2
        go_quiet (fail)
        go_wp2
        go_ret
        exact Outc.ok (by rw [HGR.out]; exact textsR_end (by omega) h0) (HG.out.drewN _) (HRQ.out.drewN _) HO.out

/-- What is read of bytes. -/
def bytesR (b : List UInt8) (p en least most : Nat) : Except Nat (List UInt8 × Nat) :=
  if en < p + max least (min most (en - p)) then .error 3 else .ok (cutL b p (max least (min most (en - p))), p + max least (min most (en - p)))

set_option maxRecDepth 4000 in
set_option maxHeartbeats 1000000 in
theorem dbytes_any (w : World) (g : Nat) (A : Option Addr) (m cap base : Nat) (b : List UInt8) (p en least most : Nat) (h : RB w g (.slice A m cap) p en) (hbl : b.length = m) (hrow : Row w base A (b.map bc)) (hbg : base ≤ g) (hm : m ≤ cap) (hc : cap ≤ maxLen) (hen : en ≤ m)
    (hp : p ≤ en) (hl : least ≤ 16) (hmo : most ≤ 65535) :
    Calls Try.prog 114 #[.pointer (some ⟨g, 0, none⟩), .int .i64 least, .int .i64 most] w (Outc w g (.slice A m cap) en (bytesR b p en least most) (OwnB w.heap.size)) := by
  obtain ⟨i0, hi0, hz0, hz1, hz2⟩ := info_parts u8_info
  obtain ⟨s, hs⟩ : ∃ s, s = max least (min most (en - p)) := ⟨_, rfl⟩
  have HTK := Lib.hid (fun W hr hw hq => take_ok W g A m cap base b p en s hr hbl hw hm hc hen hq)
  have HTS := Lib.hid (fun W hr hq => take_short W g (.slice A m cap) p en s hr (by omega) (Nat.le_trans hen (Nat.le_trans hm hc)) (Nat.le_trans hp (Nat.le_trans hen (Nat.le_trans hm hc))) hq)
  have hf : bytesR b p en least most = if en < p + s then .error 3 else .ok (cutL b p s, p + s) := by rw [bytesR, ← hs]
  have HF := Lib.hid hf
  have hs65 : s ≤ 65535 := by omega
  have hgl := h.lt
  have c1 := h.c1
  have c2 := h.c2
  have t0 : wrap64 ((en : Int) - (p : Int)) = (en : Int) - (p : Int) := by
    have := Nat.le_trans hen (Nat.le_trans hm hc)
    unfold maxLen at this
    rw [wrap64]
    omega
  have t1 : (if (least : Int) < if (en : Int) - (p : Int) < (most : Int) then (en : Int) - (p : Int) else (most : Int) then if (en : Int) - (p : Int) < (most : Int) then (en : Int) - (p : Int) else (most : Int) else (least : Int)) = (s : Int) := by
    split <;> split at * <;> omega
  have HBL := Lib.hid hbl
  have HW := Lib.hid hrow
  have HR := Lib.hid h
  have HSS := Lib.hid hs
  clear h hrow hbl hf hs
  go_enter Try.func114, Try.ntmps114
  go_wp2
  go_region
  obtain ⟨z, t2⟩ : ∃ z : Int, (if (en : Int) - (p : Int) < (most : Int) then (en : Int) - (p : Int) else (most : Int)) = z := ⟨_, rfl⟩
  rw [t2]
  clear t2 t0 t1 c1 c2
  by_cases hfit : p + s ≤ en
  · go_wp2_with fail
    refine (HTK.out _ (HR.out.drewN 1) (HW.out.drewN 1) hfit).mono ?_
    rintro e w1 ⟨A1, c1, rfl, hc1, hc2, hrw1, hr1, hg1⟩
    have hcl := length_cutL (l := b) (a := p) (k := s) (by rw [HBL.out]; omega)
    have hrw := hrw1.below (hg1.below (fun q e => by subst e; exact hbg) (by simp; omega))
    have HRW := Lib.hid hrw
    have HR1 := Lib.hid hr1
    have HG1 := Lib.hid (show GrewG g w w1 from ((Grew.refl _ w).drewN 1).trans hg1 fun q hq => .inl hq)
    have hsz : w.heap.size ≤ w1.heap.size := HG1.out.size
    clear hrw1 hr1 hg1 hrw
    go_wp2_with (
      at_builtin
      refine wpList_append_at rfl (.const (.slice none 0 0)) (.tmp 23) _ rfl w.heap.size 5 i0 _ 1 1 Try.underlying31 hi0 hz0 hz1 hz2 rfl (by omega) (.slice none 0 0) 0 [] rfl (World.ownsRow_nil _ _ _ _)
        A1 s c1 base ((cutL b p s).map bc) rfl (by rw [List.length_map, hcl, Nat.mul_one]) HRW.out (bc_one _) (by unfold maxLen; omega) (by omega) hsz ?_
      intro v2 w2 hown2 hg2 hat2)
    go_ret
    rw [Nat.zero_add, List.nil_append] at hown2
    refine Outc.ok (by rw [HF.out, if_neg (by omega)]) (HG1.out.grown hg2 fun q e => by cases e) (HR1.out.grown hg2 (by simp [Value.ownBlock])) ?_
    unfold OwnB
    rw [hcl]
    exact hown2
  · go_wp2_with fail
    refine (HTS.out _ (HR.out.drewN 1) (by omega)).mono ?_
    rintro e w1 ⟨rfl, hg1⟩
    exact ⟨rfl, Outc.err (by rw [HF.out, if_pos (by omega)]) (((Grew.refl _ w).drewN 1).trans hg1 fun q hq => .inl hq)⟩

end Go.Proofs.Ythppgofpbpjglaa

namespace Go.Proofs.Ythppgofpbpjglaa
open Go.RowKit

/-- What is read of data. -/
def readD (b : List UInt8) (p en : Nat) (s : Sh) : Except Nat Dt :=
  numsR b p en 2 s.ahead >>= fun n1 => (if s.host = true then nameR b n1.2 en else .ok ([], n1.2)) >>= fun h => (if s.mail = true then nameR b h.2 en else .ok ([], h.2)) >>= fun m =>
    numsR b m.2 en 4 s.behind >>= fun n2 => (if s.texts = true then textsR b n2.2 en [] else .ok ([], n2.2)) >>= fun t => bytesR b t.2 en s.least s.most >>= fun y =>
      if y.2 < en then .error 7 else .ok ⟨y.1, h.1, m.1, n1.1 ++ n2.1, t.1⟩

theorem numsR_le {b : List UInt8} {p en s k q : Nat} {l : List Int} (h : numsR b p en s k = .ok (l, q)) : q ≤ en ∧ l.length = k := by
  unfold numsR at h
  split at h
  · injection h with h
    injection h with h1 h2
    subst h1; subst h2
    exact ⟨by assumption, length_numsL _ _ _ _⟩
  · cases h
theorem nameR_le {b : List UInt8} {p en q : Nat} {n : List (List UInt8)} (h : nameR b p en = .ok (n, q)) : q ≤ en := by
  unfold nameR nameF at h
  split at h
  · cases h
  · split at h
    · cases h
    · injection h with h
      injection h with h1 h2
      omega
theorem textsR_le {b : List UInt8} {en : Nat} : ∀ (d p q : Nat) (acc l : List (List UInt8)), en - p ≤ d → p ≤ en → textsR b p en acc = .ok (l, q) → q ≤ en
  | d, p, q, acc, l, hd, hp, h => by
    rw [textsR] at h
    split at h
    · split at h
      · cases h
      · split at h
        · cases h
        · exact textsR_le (d - 1) _ q _ l (by omega) (by omega) h
    · split at h
      · cases h
      · injection h with h
        injection h with h1 h2
        omega
termination_by _ p => en - p

/-- What the call leaves: data, in slices of its own, or it gives up. -/
def DataOut (w : World) (g : Nat) (r : Except Nat Dt) (e : Ending) (w' : World) : Prop :=
  GrewG g w w' ∧ match r with
  | .ok d => ∃ y : DV, e = .returned (y.val d) ∧ OwnD w' w.heap.size y d
  | .error k => e = gaveE k
theorem DataOut.err {w : World} {g k : Nat} {r : Except Nat Dt} {w' : World} (hr : r = .error k) (hg : GrewG g w w') : DataOut w g r (gaveE k) w' := by
  subst hr
  exact ⟨hg, rfl⟩
theorem DataOut.ok {w : World} {g : Nat} {r : Except Nat Dt} {d : Dt} {w' : World} (y : DV) (hr : r = .ok d) (hg : GrewG g w w') (ho : OwnD w' w.heap.size y d) : DataOut w g r (.returned (y.val d)) w' := by
  subst hr
  exact ⟨hg, y, rfl, ho⟩

/-- The reader's block, the shape's, the data's. -/
structure DS (w : World) (g : Nat) (vb : Value) (s : Sh) (q en : Nat) (L : List Value) (W : World) : Prop where
  rb : RB W g vb q en
  sh : Whole W w.heap.size 122 [.int .i64 s.ahead, .bool s.host, .bool s.mail, .bool s.short, .int .i64 s.behind, .bool s.texts, .int .i64 s.least, .int .i64 s.most]
  dt : Whole W (w.heap.size + 1) 34 L
  gr : GrewG g w W
  lt : g < w.heap.size
section
variable {w W W' : World} {g : Nat} {vb : Value} {s : Sh} {q q' en : Nat} {L : List Value}
theorem DS.step (h : DS w g vb s q en L W) (hg : GrewG g W W') (hr : RB W' g vb q' en) : DS w g vb s q' en L W' :=
  ⟨hr, h.sh.grew hg (by have := h.lt; omega), h.dt.grew hg (by have := h.lt; omega), h.gr.trans hg fun _ e => .inl e, h.lt⟩
theorem DS.alloc (h : DS w g vb s q en L W) (o : Obj) : DS w g vb s q en L (W.alloc o) := ⟨h.rb.alloc o, h.sh.alloc o, h.dt.alloc o, h.gr.alloc o, h.lt⟩
theorem DS.store (h : DS w g vb s q en L W) (i : Nat) (v : Value) : DS w g vb s q en (L.set i v) (W.setCell ⟨w.heap.size + 1, i, none⟩ v) :=
  ⟨h.rb.keep (Below.heap_setCell W ⟨w.heap.size + 1, i, none⟩ v g (by have := h.lt; simp; omega)), h.sh.keep (Below.heap_setCell W ⟨w.heap.size + 1, i, none⟩ v _ (by simp)), h.dt.set_ i v, Grew.setCell (F := fun j => j = g) h.gr (a := ⟨w.heap.size + 1, i, none⟩) (.inr (by simp)) v, h.lt⟩
theorem DS.grown {v : Value} {t : TypeId} {n : Nat} {xs : List Value} (h : DS w g vb s q en L W) (ho : W.ownsRow w.heap.size t 1 v n xs) (ht : t ≠ 122) (ht2 : t ≠ 34) (hg : W.grownBy W' v.ownBlock) : DS w g vb s q en L W' :=
  ⟨h.rb.grown hg (fun e => by have := (ho.lt g e.symm).1; have := h.lt; omega), h.sh.grown hg (fun e => own_not_whole ho h.sh ht e.symm), h.dt.grown hg (fun e => own_not_whole ho h.dt ht2 e.symm), h.gr.grown hg fun j e => .inr (ho.lt j e).1, h.lt⟩
theorem DS.hs (h : DS w g vb s q en L W) (k : Nat) : W.cell? ⟨w.heap.size, k, none⟩ = [.int .i64 s.ahead, .bool s.host, .bool s.mail, .bool s.short, .int .i64 s.behind, .bool s.texts, .int .i64 s.least, .int .i64 s.most][k]? := h.sh.cell k
theorem DS.hd (h : DS w g vb s q en L W) (k : Nat) : W.cell? ⟨w.heap.size + 1, k, none⟩ = L[k]? := h.dt.cell k
theorem DS.fd (h : DS w g vb s q en L W) (k : Nat) : W.frozen? ⟨w.heap.size + 1, k, none⟩ = false := h.dt.frozen k
theorem DS.row (h : DS w g vb s q en L W) {base : Nat} {A : Option Addr} {xs : List Value} (hr : Row w base A xs) (hb : base ≤ g) : Row W base A xs :=
  hr.below (h.gr.below (fun j e => by subst e; exact hb) (by have := h.lt; omega))
/-- A row of the call's own stays while the reader reads. -/
theorem DS.own {t : TypeId} {v : Value} {n : Nat} {xs : List Value} (h : DS w g vb s q en L W) (ho : W.ownsRow w.heap.size t 1 v n xs) (hg : GrewG g W W') : W'.ownsRow w.heap.size t 1 v n xs :=
  own_grew ho hg fun k hk e => by subst e; have := (ho.lt k hk).1; have := h.lt; omega
theorem DS.ownset {t : TypeId} {v : Value} {n : Nat} {xs : List Value} (h : DS w g vb s q en L W) (ho : W.ownsRow w.heap.size t 1 v n xs) (ht : t ≠ 34) (i : Nat) (u : Value) : (W.setCell ⟨w.heap.size + 1, i, none⟩ u).ownsRow w.heap.size t 1 v n xs :=
  own_set_far ho (own_not_whole ho h.dt ht) u
/-- All parts are stored once more. -/
theorem DS.restore (h : DS w g vb s q en L W) (k : Nat) (v0 v1 v2 v3 v4 : Value) :
    DS w g vb s q en (((((L.set 0 v0).set 1 v1).set 2 v2).set 3 v3).set 4 v4) ((((((W.drewN k).setCell ⟨w.heap.size + 1, 0, none⟩ v0).setCell ⟨w.heap.size + 1, 1, none⟩ v1).setCell ⟨w.heap.size + 1, 2, none⟩ v2).setCell ⟨w.heap.size + 1, 3, none⟩ v3).setCell ⟨w.heap.size + 1, 4, none⟩ v4) ∧
    ∀ (t : TypeId) (v : Value) (n : Nat) (xs : List Value), W.ownsRow w.heap.size t 1 v n xs → t ≠ 34 →
      ((((((W.drewN k).setCell ⟨w.heap.size + 1, 0, none⟩ v0).setCell ⟨w.heap.size + 1, 1, none⟩ v1).setCell ⟨w.heap.size + 1, 2, none⟩ v2).setCell ⟨w.heap.size + 1, 3, none⟩ v3).setCell ⟨w.heap.size + 1, 4, none⟩ v4).ownsRow w.heap.size t 1 v n xs := by
  have h0 : DS w g vb s q en L (W.drewN k) := ⟨h.rb.drewN k, h.sh.drewN k, h.dt.drewN k, h.gr.drewN k, h.lt⟩
  have h1 := h0.store 0 v0
  have h2 := h1.store 1 v1
  have h3 := h2.store 2 v2
  have h4 := h3.store 3 v3
  refine ⟨h4.store 4 v4, fun t v n xs ho ht => ?_⟩
  have ho0 : (W.drewN k).ownsRow w.heap.size t 1 v n xs := ho
  exact h4.ownset (h3.ownset (h2.ownset (h1.ownset (h0.ownset ho0 ht 0 v0) ht 1 v1) ht 2 v2) ht 3 v3) ht 4 v4
theorem rows_apart {w : World} {b1 b2 s1 s2 n1 n2 : Nat} {e1 e2 : TypeId} {v1 v2 : Value} {xs1 xs2 : List Value} (h1 : w.ownsRow b1 e1 s1 v1 n1 xs1) (h2 : w.ownsRow b2 e2 s2 v2 n2 xs2) (hne : e1 ≠ e2) : v1.ownBlock = none ∨ v1.ownBlock ≠ v2.ownBlock := by
  rcases h1.2 with ⟨rfl, _⟩ | ⟨g, cap, cur, rfl, _, hh, _⟩
  · exact .inl rfl
  · right
    rcases h2.2 with ⟨rfl, _⟩ | ⟨g', cap', cur', rfl, _, hh', _⟩
    · simp [Value.ownBlock]
    · intro e
      have : g = g' := by simpa [Value.ownBlock] using e
      subst this
      rw [hh] at hh'
      injection hh' with hh'
      injection hh' with _ ht
      exact hne ht
end

end Go.Proofs.Ythppgofpbpjglaa
