/-
  The contract of the document's Seal.
-/
import Derived.Test.YtbojdhhgholgjaaDoorJSeal
import Derived.Test.YtbojdhhgholgjaaDoorPutRef
namespace Go.Proofs.YtbojdhhgholgjaaDoor
open Go.RowKit

theorem fitB_max {n s : Int} (h : fitB n s = true) : n ≤ 9223372036854775807 := by
  simp only [fitB, decide_eq_true_eq] at h
  obtain ⟨h1, h2, _, h4⟩ := h
  have h5 := Nat.pow_le_pow_right (n := 2) (by omega) (show 8 * s.toNat ≤ 56 by omega)
  have h6 : (2 : Int) ^ (8 * s.toNat) ≤ 2 ^ 56 := by exact_mod_cast h5
  omega
/-- The head's numbers are int64's. -/
structure SH.Wide (h : SH) : Prop where
  kind : h.kind ≤ 9223372036854775807
  epoch : h.epoch ≤ 9223372036854775807
  seq : h.seq ≤ 9223372036854775807
  part : h.part ≤ 9223372036854775807
  parts : h.parts ≤ 9223372036854775807

set_option maxHeartbeats 400000 in
set_option maxRecDepth 4000 in
theorem refseal_bad0 (A : Option Addr) (c n : Nat) (h : SH) (l : List UInt8) (w : World) (hw : h.Wide) (hb : headB h = false) (f0 : fitB h.kind 1 = false) :
    Calls Tryd.prog 9 #[.int .i64 h.kind, .int .i64 h.epoch, .int .i64 h.seq, .int .i64 h.part, .int .i64 h.parts, .slice A n c] w (SealOut w h l) := by
  have HE := Lib.hid (sealE_head (n := l.length) hb)
  have HBB := Lib.hid (sealB_head (l := l) hb)
  have HF0 := Lib.hid (show ∀ W, Calls Tryd.prog 16 #[.int .i64 h.kind, .int .i64 1] W fun e w' => e = .returned (.bool false) ∧ W = w' from fun W => by have := ref_fits_any h.kind 1 W hw.kind; rwa [f0] at this)
  clear hw hb f0
  go_enter Tryd.func9, Tryd.ntmps9
  go_wp2_with (first
    | (go_at_call 16; ((with_reducible refine (HF0.out _).mono ?_)); rintro e w' ⟨rfl, rfl⟩))
  go_ret2
  exact ⟨.slice none 0 0, by rw [HE.out]; rfl, by rw [HBB.out]; exact World.ownsRow_nil _ _ _ _, Below.refl _ _⟩

set_option maxHeartbeats 400000 in
set_option maxRecDepth 4000 in
theorem refseal_bad1 (A : Option Addr) (c n : Nat) (h : SH) (l : List UInt8) (w : World) (hw : h.Wide) (hb : headB h = false) (f0 : fitB h.kind 1 = true) (f1 : fitB h.epoch 4 = false) :
    Calls Tryd.prog 9 #[.int .i64 h.kind, .int .i64 h.epoch, .int .i64 h.seq, .int .i64 h.part, .int .i64 h.parts, .slice A n c] w (SealOut w h l) := by
  have HE := Lib.hid (sealE_head (n := l.length) hb)
  have HBB := Lib.hid (sealB_head (l := l) hb)
  have HF0 := Lib.hid (show ∀ W, Calls Tryd.prog 16 #[.int .i64 h.kind, .int .i64 1] W fun e w' => e = .returned (.bool true) ∧ W = w' from fun W => by have := ref_fits_any h.kind 1 W hw.kind; rwa [f0] at this)
  have HF1 := Lib.hid (show ∀ W, Calls Tryd.prog 16 #[.int .i64 h.epoch, .int .i64 4] W fun e w' => e = .returned (.bool false) ∧ W = w' from fun W => by have := ref_fits_any h.epoch 4 W hw.epoch; rwa [f1] at this)
  clear hw hb f0 f1
  go_enter Tryd.func9, Tryd.ntmps9
  go_wp2_with (first
    | (go_at_call 16; ((with_reducible refine (HF0.out _).mono ?_)); rintro e w' ⟨rfl, rfl⟩)
    | (go_at_call 16; ((with_reducible refine (HF1.out _).mono ?_)); rintro e w' ⟨rfl, rfl⟩))
  go_ret2
  exact ⟨.slice none 0 0, by rw [HE.out]; rfl, by rw [HBB.out]; exact World.ownsRow_nil _ _ _ _, Below.refl _ _⟩

set_option maxHeartbeats 400000 in
set_option maxRecDepth 4000 in
theorem refseal_bad2 (A : Option Addr) (c n : Nat) (h : SH) (l : List UInt8) (w : World) (hw : h.Wide) (hb : headB h = false) (f0 : fitB h.kind 1 = true) (f1 : fitB h.epoch 4 = true) (f2 : fitB h.seq 7 = false) :
    Calls Tryd.prog 9 #[.int .i64 h.kind, .int .i64 h.epoch, .int .i64 h.seq, .int .i64 h.part, .int .i64 h.parts, .slice A n c] w (SealOut w h l) := by
  have HE := Lib.hid (sealE_head (n := l.length) hb)
  have HBB := Lib.hid (sealB_head (l := l) hb)
  have HF0 := Lib.hid (show ∀ W, Calls Tryd.prog 16 #[.int .i64 h.kind, .int .i64 1] W fun e w' => e = .returned (.bool true) ∧ W = w' from fun W => by have := ref_fits_any h.kind 1 W hw.kind; rwa [f0] at this)
  have HF1 := Lib.hid (show ∀ W, Calls Tryd.prog 16 #[.int .i64 h.epoch, .int .i64 4] W fun e w' => e = .returned (.bool true) ∧ W = w' from fun W => by have := ref_fits_any h.epoch 4 W hw.epoch; rwa [f1] at this)
  have HF2 := Lib.hid (show ∀ W, Calls Tryd.prog 16 #[.int .i64 h.seq, .int .i64 7] W fun e w' => e = .returned (.bool false) ∧ W = w' from fun W => by have := ref_fits_any h.seq 7 W hw.seq; rwa [f2] at this)
  clear hw hb f0 f1 f2
  go_enter Tryd.func9, Tryd.ntmps9
  go_wp2_with (first
    | (go_at_call 16; ((with_reducible refine (HF0.out _).mono ?_)); rintro e w' ⟨rfl, rfl⟩)
    | (go_at_call 16; ((with_reducible refine (HF1.out _).mono ?_)); rintro e w' ⟨rfl, rfl⟩)
    | (go_at_call 16; ((with_reducible refine (HF2.out _).mono ?_)); rintro e w' ⟨rfl, rfl⟩))
  go_ret2
  exact ⟨.slice none 0 0, by rw [HE.out]; rfl, by rw [HBB.out]; exact World.ownsRow_nil _ _ _ _, Below.refl _ _⟩

set_option maxHeartbeats 400000 in
set_option maxRecDepth 4000 in
theorem refseal_bad3 (A : Option Addr) (c n : Nat) (h : SH) (l : List UInt8) (w : World) (hw : h.Wide) (hb : headB h = false) (f0 : fitB h.kind 1 = true) (f1 : fitB h.epoch 4 = true) (f2 : fitB h.seq 7 = true) (f3 : fitB h.part 1 = false) :
    Calls Tryd.prog 9 #[.int .i64 h.kind, .int .i64 h.epoch, .int .i64 h.seq, .int .i64 h.part, .int .i64 h.parts, .slice A n c] w (SealOut w h l) := by
  have HE := Lib.hid (sealE_head (n := l.length) hb)
  have HBB := Lib.hid (sealB_head (l := l) hb)
  have HF0 := Lib.hid (show ∀ W, Calls Tryd.prog 16 #[.int .i64 h.kind, .int .i64 1] W fun e w' => e = .returned (.bool true) ∧ W = w' from fun W => by have := ref_fits_any h.kind 1 W hw.kind; rwa [f0] at this)
  have HF1 := Lib.hid (show ∀ W, Calls Tryd.prog 16 #[.int .i64 h.epoch, .int .i64 4] W fun e w' => e = .returned (.bool true) ∧ W = w' from fun W => by have := ref_fits_any h.epoch 4 W hw.epoch; rwa [f1] at this)
  have HF2 := Lib.hid (show ∀ W, Calls Tryd.prog 16 #[.int .i64 h.seq, .int .i64 7] W fun e w' => e = .returned (.bool true) ∧ W = w' from fun W => by have := ref_fits_any h.seq 7 W hw.seq; rwa [f2] at this)
  have HF3 := Lib.hid (show ∀ W, Calls Tryd.prog 16 #[.int .i64 h.part, .int .i64 1] W fun e w' => e = .returned (.bool false) ∧ W = w' from fun W => by have := ref_fits_any h.part 1 W hw.part; rwa [f3] at this)
  clear hw hb f0 f1 f2 f3
  go_enter Tryd.func9, Tryd.ntmps9
  go_wp2_with (first
    | (go_at_call 16; ((with_reducible refine (HF0.out _).mono ?_)); rintro e w' ⟨rfl, rfl⟩)
    | (go_at_call 16; ((with_reducible refine (HF1.out _).mono ?_)); rintro e w' ⟨rfl, rfl⟩)
    | (go_at_call 16; ((with_reducible refine (HF2.out _).mono ?_)); rintro e w' ⟨rfl, rfl⟩)
    | (go_at_call 16; ((with_reducible refine (HF3.out _).mono ?_)); rintro e w' ⟨rfl, rfl⟩))
  go_ret2
  exact ⟨.slice none 0 0, by rw [HE.out]; rfl, by rw [HBB.out]; exact World.ownsRow_nil _ _ _ _, Below.refl _ _⟩

set_option maxHeartbeats 400000 in
set_option maxRecDepth 4000 in
theorem refseal_bad4 (A : Option Addr) (c n : Nat) (h : SH) (l : List UInt8) (w : World) (hw : h.Wide) (hb : headB h = false) (f0 : fitB h.kind 1 = true) (f1 : fitB h.epoch 4 = true) (f2 : fitB h.seq 7 = true) (f3 : fitB h.part 1 = true) (f4 : fitB h.parts 1 = false) :
    Calls Tryd.prog 9 #[.int .i64 h.kind, .int .i64 h.epoch, .int .i64 h.seq, .int .i64 h.part, .int .i64 h.parts, .slice A n c] w (SealOut w h l) := by
  have HE := Lib.hid (sealE_head (n := l.length) hb)
  have HBB := Lib.hid (sealB_head (l := l) hb)
  have HF0 := Lib.hid (show ∀ W, Calls Tryd.prog 16 #[.int .i64 h.kind, .int .i64 1] W fun e w' => e = .returned (.bool true) ∧ W = w' from fun W => by have := ref_fits_any h.kind 1 W hw.kind; rwa [f0] at this)
  have HF1 := Lib.hid (show ∀ W, Calls Tryd.prog 16 #[.int .i64 h.epoch, .int .i64 4] W fun e w' => e = .returned (.bool true) ∧ W = w' from fun W => by have := ref_fits_any h.epoch 4 W hw.epoch; rwa [f1] at this)
  have HF2 := Lib.hid (show ∀ W, Calls Tryd.prog 16 #[.int .i64 h.seq, .int .i64 7] W fun e w' => e = .returned (.bool true) ∧ W = w' from fun W => by have := ref_fits_any h.seq 7 W hw.seq; rwa [f2] at this)
  have HF3 := Lib.hid (show ∀ W, Calls Tryd.prog 16 #[.int .i64 h.part, .int .i64 1] W fun e w' => e = .returned (.bool true) ∧ W = w' from fun W => by have := ref_fits_any h.part 1 W hw.part; rwa [f3] at this)
  have HF4 := Lib.hid (show ∀ W, Calls Tryd.prog 16 #[.int .i64 h.parts, .int .i64 1] W fun e w' => e = .returned (.bool false) ∧ W = w' from fun W => by have := ref_fits_any h.parts 1 W hw.parts; rwa [f4] at this)
  clear hw hb f0 f1 f2 f3 f4
  go_enter Tryd.func9, Tryd.ntmps9
  go_wp2_with (first
    | (go_at_call 16; ((with_reducible refine (HF0.out _).mono ?_)); rintro e w' ⟨rfl, rfl⟩)
    | (go_at_call 16; ((with_reducible refine (HF1.out _).mono ?_)); rintro e w' ⟨rfl, rfl⟩)
    | (go_at_call 16; ((with_reducible refine (HF2.out _).mono ?_)); rintro e w' ⟨rfl, rfl⟩)
    | (go_at_call 16; ((with_reducible refine (HF3.out _).mono ?_)); rintro e w' ⟨rfl, rfl⟩)
    | (go_at_call 16; ((with_reducible refine (HF4.out _).mono ?_)); rintro e w' ⟨rfl, rfl⟩))
  go_ret2
  exact ⟨.slice none 0 0, by rw [HE.out]; rfl, by rw [HBB.out]; exact World.ownsRow_nil _ _ _ _, Below.refl _ _⟩

set_option maxHeartbeats 400000 in
set_option maxRecDepth 4000 in
theorem refseal_bad5 (A : Option Addr) (c n : Nat) (h : SH) (l : List UInt8) (w : World) (hw : h.Wide) (hb : headB h = false) (f0 : fitB h.kind 1 = true) (f1 : fitB h.epoch 4 = true) (f2 : fitB h.seq 7 = true) (f3 : fitB h.part 1 = true) (f4 : fitB h.parts 1 = true) (z0 : (h.kind == 0) = true) :
    Calls Tryd.prog 9 #[.int .i64 h.kind, .int .i64 h.epoch, .int .i64 h.seq, .int .i64 h.part, .int .i64 h.parts, .slice A n c] w (SealOut w h l) := by
  have HE := Lib.hid (sealE_head (n := l.length) hb)
  have HBB := Lib.hid (sealB_head (l := l) hb)
  have HF0 := Lib.hid (show ∀ W, Calls Tryd.prog 16 #[.int .i64 h.kind, .int .i64 1] W fun e w' => e = .returned (.bool true) ∧ W = w' from fun W => by have := ref_fits_any h.kind 1 W hw.kind; rwa [f0] at this)
  have HF1 := Lib.hid (show ∀ W, Calls Tryd.prog 16 #[.int .i64 h.epoch, .int .i64 4] W fun e w' => e = .returned (.bool true) ∧ W = w' from fun W => by have := ref_fits_any h.epoch 4 W hw.epoch; rwa [f1] at this)
  have HF2 := Lib.hid (show ∀ W, Calls Tryd.prog 16 #[.int .i64 h.seq, .int .i64 7] W fun e w' => e = .returned (.bool true) ∧ W = w' from fun W => by have := ref_fits_any h.seq 7 W hw.seq; rwa [f2] at this)
  have HF3 := Lib.hid (show ∀ W, Calls Tryd.prog 16 #[.int .i64 h.part, .int .i64 1] W fun e w' => e = .returned (.bool true) ∧ W = w' from fun W => by have := ref_fits_any h.part 1 W hw.part; rwa [f3] at this)
  have HF4 := Lib.hid (show ∀ W, Calls Tryd.prog 16 #[.int .i64 h.parts, .int .i64 1] W fun e w' => e = .returned (.bool true) ∧ W = w' from fun W => by have := ref_fits_any h.parts 1 W hw.parts; rwa [f4] at this)
  clear hw hb f0 f1 f2 f3 f4
  go_enter Tryd.func9, Tryd.ntmps9
  go_wp2_with (first
    | (go_at_call 16; ((with_reducible refine (HF0.out _).mono ?_)); rintro e w' ⟨rfl, rfl⟩)
    | (go_at_call 16; ((with_reducible refine (HF1.out _).mono ?_)); rintro e w' ⟨rfl, rfl⟩)
    | (go_at_call 16; ((with_reducible refine (HF2.out _).mono ?_)); rintro e w' ⟨rfl, rfl⟩)
    | (go_at_call 16; ((with_reducible refine (HF3.out _).mono ?_)); rintro e w' ⟨rfl, rfl⟩)
    | (go_at_call 16; ((with_reducible refine (HF4.out _).mono ?_)); rintro e w' ⟨rfl, rfl⟩))
  go_ret2
  exact ⟨.slice none 0 0, by rw [HE.out]; rfl, by rw [HBB.out]; exact World.ownsRow_nil _ _ _ _, Below.refl _ _⟩

set_option maxHeartbeats 400000 in
set_option maxRecDepth 4000 in
theorem refseal_bad6 (A : Option Addr) (c n : Nat) (h : SH) (l : List UInt8) (w : World) (hw : h.Wide) (hb : headB h = false) (f0 : fitB h.kind 1 = true) (f1 : fitB h.epoch 4 = true) (f2 : fitB h.seq 7 = true) (f3 : fitB h.part 1 = true) (f4 : fitB h.parts 1 = true) (z0 : (h.kind == 0) = false) (z1 : (h.parts == 0) = true) :
    Calls Tryd.prog 9 #[.int .i64 h.kind, .int .i64 h.epoch, .int .i64 h.seq, .int .i64 h.part, .int .i64 h.parts, .slice A n c] w (SealOut w h l) := by
  have HE := Lib.hid (sealE_head (n := l.length) hb)
  have HBB := Lib.hid (sealB_head (l := l) hb)
  have HF0 := Lib.hid (show ∀ W, Calls Tryd.prog 16 #[.int .i64 h.kind, .int .i64 1] W fun e w' => e = .returned (.bool true) ∧ W = w' from fun W => by have := ref_fits_any h.kind 1 W hw.kind; rwa [f0] at this)
  have HF1 := Lib.hid (show ∀ W, Calls Tryd.prog 16 #[.int .i64 h.epoch, .int .i64 4] W fun e w' => e = .returned (.bool true) ∧ W = w' from fun W => by have := ref_fits_any h.epoch 4 W hw.epoch; rwa [f1] at this)
  have HF2 := Lib.hid (show ∀ W, Calls Tryd.prog 16 #[.int .i64 h.seq, .int .i64 7] W fun e w' => e = .returned (.bool true) ∧ W = w' from fun W => by have := ref_fits_any h.seq 7 W hw.seq; rwa [f2] at this)
  have HF3 := Lib.hid (show ∀ W, Calls Tryd.prog 16 #[.int .i64 h.part, .int .i64 1] W fun e w' => e = .returned (.bool true) ∧ W = w' from fun W => by have := ref_fits_any h.part 1 W hw.part; rwa [f3] at this)
  have HF4 := Lib.hid (show ∀ W, Calls Tryd.prog 16 #[.int .i64 h.parts, .int .i64 1] W fun e w' => e = .returned (.bool true) ∧ W = w' from fun W => by have := ref_fits_any h.parts 1 W hw.parts; rwa [f4] at this)
  clear hw hb f0 f1 f2 f3 f4
  go_enter Tryd.func9, Tryd.ntmps9
  go_wp2_with (first
    | (go_at_call 16; ((with_reducible refine (HF0.out _).mono ?_)); rintro e w' ⟨rfl, rfl⟩)
    | (go_at_call 16; ((with_reducible refine (HF1.out _).mono ?_)); rintro e w' ⟨rfl, rfl⟩)
    | (go_at_call 16; ((with_reducible refine (HF2.out _).mono ?_)); rintro e w' ⟨rfl, rfl⟩)
    | (go_at_call 16; ((with_reducible refine (HF3.out _).mono ?_)); rintro e w' ⟨rfl, rfl⟩)
    | (go_at_call 16; ((with_reducible refine (HF4.out _).mono ?_)); rintro e w' ⟨rfl, rfl⟩))
  go_ret2
  exact ⟨.slice none 0 0, by rw [HE.out]; rfl, by rw [HBB.out]; exact World.ownsRow_nil _ _ _ _, Below.refl _ _⟩

set_option maxHeartbeats 400000 in
set_option maxRecDepth 4000 in
theorem refseal_bad7 (A : Option Addr) (c n : Nat) (h : SH) (l : List UInt8) (w : World) (hw : h.Wide) (hb : headB h = false) (f0 : fitB h.kind 1 = true) (f1 : fitB h.epoch 4 = true) (f2 : fitB h.seq 7 = true) (f3 : fitB h.part 1 = true) (f4 : fitB h.parts 1 = true) (z0 : (h.kind == 0) = false) (z1 : (h.parts == 0) = false) (z2 : decide (h.parts ≤ h.part) = true) :
    Calls Tryd.prog 9 #[.int .i64 h.kind, .int .i64 h.epoch, .int .i64 h.seq, .int .i64 h.part, .int .i64 h.parts, .slice A n c] w (SealOut w h l) := by
  have HE := Lib.hid (sealE_head (n := l.length) hb)
  have HBB := Lib.hid (sealB_head (l := l) hb)
  have HF0 := Lib.hid (show ∀ W, Calls Tryd.prog 16 #[.int .i64 h.kind, .int .i64 1] W fun e w' => e = .returned (.bool true) ∧ W = w' from fun W => by have := ref_fits_any h.kind 1 W hw.kind; rwa [f0] at this)
  have HF1 := Lib.hid (show ∀ W, Calls Tryd.prog 16 #[.int .i64 h.epoch, .int .i64 4] W fun e w' => e = .returned (.bool true) ∧ W = w' from fun W => by have := ref_fits_any h.epoch 4 W hw.epoch; rwa [f1] at this)
  have HF2 := Lib.hid (show ∀ W, Calls Tryd.prog 16 #[.int .i64 h.seq, .int .i64 7] W fun e w' => e = .returned (.bool true) ∧ W = w' from fun W => by have := ref_fits_any h.seq 7 W hw.seq; rwa [f2] at this)
  have HF3 := Lib.hid (show ∀ W, Calls Tryd.prog 16 #[.int .i64 h.part, .int .i64 1] W fun e w' => e = .returned (.bool true) ∧ W = w' from fun W => by have := ref_fits_any h.part 1 W hw.part; rwa [f3] at this)
  have HF4 := Lib.hid (show ∀ W, Calls Tryd.prog 16 #[.int .i64 h.parts, .int .i64 1] W fun e w' => e = .returned (.bool true) ∧ W = w' from fun W => by have := ref_fits_any h.parts 1 W hw.parts; rwa [f4] at this)
  clear hw hb f0 f1 f2 f3 f4
  go_enter Tryd.func9, Tryd.ntmps9
  go_wp2_with (first
    | (go_at_call 16; ((with_reducible refine (HF0.out _).mono ?_)); rintro e w' ⟨rfl, rfl⟩)
    | (go_at_call 16; ((with_reducible refine (HF1.out _).mono ?_)); rintro e w' ⟨rfl, rfl⟩)
    | (go_at_call 16; ((with_reducible refine (HF2.out _).mono ?_)); rintro e w' ⟨rfl, rfl⟩)
    | (go_at_call 16; ((with_reducible refine (HF3.out _).mono ?_)); rintro e w' ⟨rfl, rfl⟩)
    | (go_at_call 16; ((with_reducible refine (HF4.out _).mono ?_)); rintro e w' ⟨rfl, rfl⟩))
  go_ret2
  exact ⟨.slice none 0 0, by rw [HE.out]; rfl, by rw [HBB.out]; exact World.ownsRow_nil _ _ _ _, Below.refl _ _⟩

theorem refseal_head (A : Option Addr) (c n : Nat) (h : SH) (l : List UInt8) (w : World) (hw : h.Wide) (hb : headB h = false) :
    Calls Tryd.prog 9 #[.int .i64 h.kind, .int .i64 h.epoch, .int .i64 h.seq, .int .i64 h.part, .int .i64 h.parts, .slice A n c] w (SealOut w h l) := by
  cases f0 : fitB h.kind 1 with
  | false => exact refseal_bad0 A c n h l w hw hb f0
  | true =>
    cases f1 : fitB h.epoch 4 with
    | false => exact refseal_bad1 A c n h l w hw hb f0 f1
    | true =>
      cases f2 : fitB h.seq 7 with
      | false => exact refseal_bad2 A c n h l w hw hb f0 f1 f2
      | true =>
        cases f3 : fitB h.part 1 with
        | false => exact refseal_bad3 A c n h l w hw hb f0 f1 f2 f3
        | true =>
          cases f4 : fitB h.parts 1 with
          | false => exact refseal_bad4 A c n h l w hw hb f0 f1 f2 f3 f4
          | true =>
            cases z0 : h.kind == 0 with
            | true => exact refseal_bad5 A c n h l w hw hb f0 f1 f2 f3 f4 z0
            | false =>
              cases z1 : h.parts == 0 with
              | true => exact refseal_bad6 A c n h l w hw hb f0 f1 f2 f3 f4 z0 z1
              | false =>
                refine refseal_bad7 A c n h l w hw hb f0 f1 f2 f3 f4 z0 z1 ?_
                simp only [headB, fitsTo_five, f0, f1, f2, f3, f4, z0, Bool.and_self, Bool.not_false, Bool.true_and, decide_eq_false_iff_not] at hb
                simp only [decide_eq_true_eq]
                omega

/-- What a head that may be gives. -/
structure HeadOk (h : SH) : Prop where
  f0 : fitB h.kind 1 = true
  f1 : fitB h.epoch 4 = true
  f2 : fitB h.seq 7 = true
  f3 : fitB h.part 1 = true
  f4 : fitB h.parts 1 = true
  z0 : (h.kind == 0) = false
  z1 : (h.parts == 0) = false
  z2 : decide (h.parts ≤ h.part) = false
theorem headOk {h : SH} (hb : headB h = true) : HeadOk h := by
  obtain ⟨z0, z1, z2, _⟩ := headB_parts hb
  have hf := headB_fits hb
  rw [fitsTo_five] at hf
  simp only [Bool.and_eq_true] at hf
  exact ⟨hf.1.1.1.1, hf.1.1.1.2, hf.1.1.2, hf.1.2, hf.2, z0, z1, by simp; omega⟩

set_option maxHeartbeats 400000 in
set_option maxRecDepth 4000 in
theorem refseal_large (A : Option Addr) (c n : Nat) (h : SH) (l : List UInt8) (w : World) (hl : l.length = n) (hb : headB h = true) (hn : 496 < n) (_ : n ≤ maxLen) :
    Calls Tryd.prog 9 #[.int .i64 h.kind, .int .i64 h.epoch, .int .i64 h.seq, .int .i64 h.part, .int .i64 h.parts, .slice A n c] w (SealOut w h l) := by
  have HE := Lib.hid (sealE_large (n := l.length) hb (by omega))
  have HBB := Lib.hid (sealB_large (h := h) (l := l) (by omega))
  have ho := headOk hb
  have HF0 := Lib.hid (show ∀ W, Calls Tryd.prog 16 #[.int .i64 h.kind, .int .i64 1] W fun e w' => e = .returned (.bool true) ∧ W = w' from fun W => by have := ref_fits_any h.kind 1 W (fitB_max ho.f0); rwa [ho.f0] at this)
  have HF1 := Lib.hid (show ∀ W, Calls Tryd.prog 16 #[.int .i64 h.epoch, .int .i64 4] W fun e w' => e = .returned (.bool true) ∧ W = w' from fun W => by have := ref_fits_any h.epoch 4 W (fitB_max ho.f1); rwa [ho.f1] at this)
  have HF2 := Lib.hid (show ∀ W, Calls Tryd.prog 16 #[.int .i64 h.seq, .int .i64 7] W fun e w' => e = .returned (.bool true) ∧ W = w' from fun W => by have := ref_fits_any h.seq 7 W (fitB_max ho.f2); rwa [ho.f2] at this)
  have HF3 := Lib.hid (show ∀ W, Calls Tryd.prog 16 #[.int .i64 h.part, .int .i64 1] W fun e w' => e = .returned (.bool true) ∧ W = w' from fun W => by have := ref_fits_any h.part 1 W (fitB_max ho.f3); rwa [ho.f3] at this)
  have HF4 := Lib.hid (show ∀ W, Calls Tryd.prog 16 #[.int .i64 h.parts, .int .i64 1] W fun e w' => e = .returned (.bool true) ∧ W = w' from fun W => by have := ref_fits_any h.parts 1 W (fitB_max ho.f4); rwa [ho.f4] at this)
  have z0 := ho.z0
  have z1 := ho.z1
  have z2 := ho.z2
  have d1 : decide ((496 : Int) < (n : Int)) = true := by simp; omega
  clear hb hl ho
  go_enter Tryd.func9, Tryd.ntmps9
  go_wp2_with (first
    | (go_at_call 16; ((with_reducible refine (HF0.out _).mono ?_)); rintro e w' ⟨rfl, rfl⟩)
    | (go_at_call 16; ((with_reducible refine (HF1.out _).mono ?_)); rintro e w' ⟨rfl, rfl⟩)
    | (go_at_call 16; ((with_reducible refine (HF2.out _).mono ?_)); rintro e w' ⟨rfl, rfl⟩)
    | (go_at_call 16; ((with_reducible refine (HF3.out _).mono ?_)); rintro e w' ⟨rfl, rfl⟩)
    | (go_at_call 16; ((with_reducible refine (HF4.out _).mono ?_)); rintro e w' ⟨rfl, rfl⟩))
  go_ret2
  exact ⟨.slice none 0 0, by rw [HE.out]; rfl, by rw [HBB.out]; exact World.ownsRow_nil _ _ _ _, Below.refl _ _⟩

/-- How long a slice is. -/
def lenV (v : Value) : Nat := match v with
  | .slice _ m _ => m
  | _ => 0
structure Padded (wr : World) (B : Nat) (v : Value) (m k : Nat) (L : List UInt8) : Prop where
  len : L.length = m
  own : wr.ownsRow B 5 1 v (m + k) ((L ++ nought k).map bc)
def RefSealRel (L : List UInt8) (m : Nat) (w : World) (v : Value) (wr : World) : Prop :=
  ∃ k : Nat, m + k ≤ 512 ∧ Padded wr w.heap.size v m k L ∧ Below w.heap.size w wr

set_option maxHeartbeats 1000000 in
set_option maxRecDepth 4000 in
theorem refseal_ok (A : Option Addr) (c n : Nat) (h : SH) (l : List UInt8) (w : World) (hl : l.length = n) (hA : Row w w.heap.size A (l.map bc)) (hb : headB h = true) (hn : n ≤ 496) :
    Calls Tryd.prog 9 #[.int .i64 h.kind, .int .i64 h.epoch, .int .i64 h.seq, .int .i64 h.part, .int .i64 h.parts, .slice A n c] w (SealOut w h l) := by
  have HE := Lib.hid (sealE_ok (n := l.length) hb (by omega))
  have HBB := Lib.hid (sealB_ok (l := l) hb (by omega))
  have HBL := Lib.hid (length_sealB (l := l) hb (by omega))
  have ho := headOk hb
  have HF0 := Lib.hid (show ∀ W, Calls Tryd.prog 16 #[.int .i64 h.kind, .int .i64 1] W fun e w' => e = .returned (.bool true) ∧ W = w' from fun W => by have := ref_fits_any h.kind 1 W (fitB_max ho.f0); rwa [ho.f0] at this)
  have HF1 := Lib.hid (show ∀ W, Calls Tryd.prog 16 #[.int .i64 h.epoch, .int .i64 4] W fun e w' => e = .returned (.bool true) ∧ W = w' from fun W => by have := ref_fits_any h.epoch 4 W (fitB_max ho.f1); rwa [ho.f1] at this)
  have HF2 := Lib.hid (show ∀ W, Calls Tryd.prog 16 #[.int .i64 h.seq, .int .i64 7] W fun e w' => e = .returned (.bool true) ∧ W = w' from fun W => by have := ref_fits_any h.seq 7 W (fitB_max ho.f2); rwa [ho.f2] at this)
  have HF3 := Lib.hid (show ∀ W, Calls Tryd.prog 16 #[.int .i64 h.part, .int .i64 1] W fun e w' => e = .returned (.bool true) ∧ W = w' from fun W => by have := ref_fits_any h.part 1 W (fitB_max ho.f3); rwa [ho.f3] at this)
  have HF4 := Lib.hid (show ∀ W, Calls Tryd.prog 16 #[.int .i64 h.parts, .int .i64 1] W fun e w' => e = .returned (.bool true) ∧ W = w' from fun W => by have := ref_fits_any h.parts 1 W (fitB_max ho.f4); rwa [ho.f4] at this)
  have HLH : HdLen h n := ⟨length_hdB (n := n) (headB_fits hb) hn⟩
  have HM := Lib.hid ho
  have z0 := ho.z0
  have z1 := ho.z1
  have z2 := ho.z2
  have d1 : decide ((496 : Int) < (n : Int)) = false := by simp; omega
  have HL := Lib.hid hl
  have HA := Lib.hid hA
  obtain ⟨i0, hi0, hz0, hz1, hz2⟩ := info_parts u8_info
  clear hb hl hA ho
  go_enter Tryd.func9, Tryd.ntmps9
  go_wp2_with (first
    | (go_at_call 16; ((with_reducible refine (HF0.out _).mono ?_)); rintro e w' ⟨rfl, rfl⟩)
    | (go_at_call 16; ((with_reducible refine (HF1.out _).mono ?_)); rintro e w' ⟨rfl, rfl⟩)
    | (go_at_call 16; ((with_reducible refine (HF2.out _).mono ?_)); rintro e w' ⟨rfl, rfl⟩)
    | (go_at_call 16; ((with_reducible refine (HF3.out _).mono ?_)); rintro e w' ⟨rfl, rfl⟩)
    | (go_at_call 16; ((with_reducible refine (HF4.out _).mono ?_)); rintro e w' ⟨rfl, rfl⟩))
  refine (ref_put_any none 0 0 w.heap.size (hdP h 0) h.kind 1 w rfl (Row.empty _ _ _) (Nat.le_refl _) (by have := length_hdP h 0; omega) (fitB_max HM.out.f0)).mono ?_
  rintro e w0 ⟨A0, c0, rfl, hown0, hb0⟩
  have HB0 := Lib.hid hb0
  have HO0 := Lib.hid hown0
  have hz0w := hb0.size
  clear hown0 hb0
  go_wp2_with fail
  refine (ref_put_any A0 (hdP h 1).length c0 w0.heap.size (hdP h 1) h.epoch 4 w0 rfl (Row.of_own HO0.out) (Nat.le_refl _) (by have := length_hdP h 1; omega) (fitB_max HM.out.f1)).mono ?_
  rintro e w1 ⟨A1, c1, rfl, hown1, hb1⟩
  have HB1 := Lib.hid (HB0.out.trans (hb1.mono hz0w))
  have HO1 := Lib.hid (own_mono hown1 hz0w)
  have hz1w := Nat.le_trans hz0w hb1.size
  clear hown1 hb1
  go_wp2_with fail
  refine (ref_put_any A1 (hdP h 2).length c1 w1.heap.size (hdP h 2) h.seq 7 w1 rfl (Row.of_own HO1.out) (Nat.le_refl _) (by have := length_hdP h 2; omega) (fitB_max HM.out.f2)).mono ?_
  rintro e w2 ⟨A2, c2, rfl, hown2, hb2⟩
  have HB2 := Lib.hid (HB1.out.trans (hb2.mono hz1w))
  have HO2 := Lib.hid (own_mono hown2 hz1w)
  have hz2w := Nat.le_trans hz1w hb2.size
  clear hown2 hb2
  go_wp2_with fail
  refine (ref_put_any A2 (hdP h 3).length c2 w2.heap.size (hdP h 3) h.part 1 w2 rfl (Row.of_own HO2.out) (Nat.le_refl _) (by have := length_hdP h 3; omega) (fitB_max HM.out.f3)).mono ?_
  rintro e w3 ⟨A3, c3, rfl, hown3, hb3⟩
  have HB3 := Lib.hid (HB2.out.trans (hb3.mono hz2w))
  have HO3 := Lib.hid (own_mono hown3 hz2w)
  have hz3w := Nat.le_trans hz2w hb3.size
  clear hown3 hb3
  go_wp2_with fail
  refine (ref_put_any A3 (hdP h 4).length c3 w3.heap.size (hdP h 4) h.parts 1 w3 rfl (Row.of_own HO3.out) (Nat.le_refl _) (by have := length_hdP h 4; omega) (fitB_max HM.out.f4)).mono ?_
  rintro e w4 ⟨A4, c4, rfl, hown4, hb4⟩
  have HB4 := Lib.hid (HB3.out.trans (hb4.mono hz3w))
  have HO4 := Lib.hid (own_mono hown4 hz3w)
  have hz4w := Nat.le_trans hz3w hb4.size
  clear hown4 hb4
  go_wp2_with fail
  refine (ref_put_any A4 (hdP h 5).length c4 w4.heap.size (hdP h 5) (n : Int) 2 w4 rfl (Row.of_own HO4.out) (Nat.le_refl _) (by have := length_hdP h 5; omega) (by omega)).mono ?_
  rintro e w5 ⟨A5, c5, rfl, hown5, hb5⟩
  have HB5 := Lib.hid (HB4.out.trans (hb5.mono hz4w))
  have HO5 := Lib.hid (own_mono hown5 hz4w)
  have hz5w := Nat.le_trans hz4w hb5.size
  clear hown5 hb5
  have hlen : (putL (hdP h 5) n 2).length = 16 := HLH.out
  rw [hlen] at HO5 ⊢
  have HA5 := Lib.hid (HA.out.below HB5.out)
  clear hlen
  go_wp2_with (
    at_builtin
    refine wpList_append_row rfl (.tmp 72) (.tmp 73) _ rfl w.heap.size 5 i0 _ 1 1 Tryd.underlying24 hi0 hz0 hz1 hz2 rfl (by omega) (.slice A5 16 c5) 16 ((putL (hdP h 5) n 2).map bc) rfl HO5.out
      A n c w.heap.size (l.map bc) rfl (by rw [List.length_map, HL.out]; omega) HA5.out (bc_one l) (by unfold maxLen; omega) (by omega) hz5w ?_
    intro v6 w6 hown6 hg6
    have hb6 := own_below HB5.out (Nat.le_refl _) hz5w HO5.out hg6
    rw [← List.map_append] at hown6
    have HP6 : Padded w6 w.heap.size v6 (16 + n) 0 (hdB h n ++ l) := ⟨by rw [List.length_append, HLH.out, HL.out], by simpa [nought, hdB] using hown6⟩
    have HB6 := Lib.hid hb6
    clear hown6 hg6 hb6)
  go_loopw [14] (RefSealRel (hdB h n ++ l) (16 + n) w) (fun v _ => 512 - lenV v)
  case atStart => exact ⟨0, by omega, HP6, HB6.out⟩
  case round =>
    obtain ⟨k, hk, hp, hbr⟩ := hrel
    obtain ⟨Ar, cr, rfl, hc1, hc2⟩ := own_form hp.own
    have HB := Lib.hid hbr
    have hzr := hbr.size
    clear hbr hc1 hc2
    by_cases hlt : 16 + n + k < 512
    · have hr := Row.made wr #[.int .u8 0] 5
      have HR := Lib.hid hr
      clear hr
      go_wp2_with (
        at_builtin
        refine wpList_append_row rfl (.tmp 78) (.tmp 79) _ rfl w.heap.size 5 i0 _ 1 1 Tryd.underlying24 hi0 hz0 hz1 hz2 rfl (by omega) (.slice Ar (16 + n + k) cr) (16 + n + k) _ rfl (hp.own.alloc _)
          (some ⟨wr.heap.size, 0, none⟩) 1 1 (wr.heap.size + 1) [.int .u8 0] rfl rfl HR.out (by simp [Value.oneCell']) (by unfold maxLen; omega) (by omega) (by simp; omega) ?_
        intro v1 w1 hown1 hg1
        have HB1 := Lib.hid (own_below (HB.out.alloc hzr _) (Nat.le_refl _) (by simp; omega) (hp.own.alloc _) hg1)
        have HP1 : Padded w1 w.heap.size v1 (16 + n) (k + 1) (hdB h n ++ l) := ⟨hp.len, by
          rw [← nought_snoc, ← List.append_assoc, List.map_append (l₁ := hdB h n ++ l ++ nought k)]
          exact hown1⟩
        obtain ⟨A1, c1, rfl, _, _⟩ := own_form hown1
        clear hown1 hg1)
      exact ⟨⟨k + 1, by omega, HP1, HB1.out⟩, by simp [lenV]; omega⟩
    · obtain rfl : k = 496 - n := by omega
      have e512 : 16 + n + (496 - n) = 512 := by omega
      have HP : Padded wr w.heap.size (.slice Ar 512 cr) (16 + n) (496 - n) (hdB h n ++ l) := by rw [← e512]; exact hp
      rw [e512]
      clear hp hlt
      go_wp2
      go_ret2
      refine ⟨.slice Ar 512 cr, by rw [HE.out]; rfl, ?_, HB.out⟩
      have ho := HP.own
      rw [e512] at ho
      rw [HBL.out, HBB.out, HL.out]
      exact ho

theorem refseal_any (A : Option Addr) (c n : Nat) (h : SH) (l : List UInt8) (w : World) (hl : l.length = n) (hA : Row w w.heap.size A (l.map bc)) (hw : h.Wide) (hm : n ≤ maxLen) :
    Calls Tryd.prog 9 #[.int .i64 h.kind, .int .i64 h.epoch, .int .i64 h.seq, .int .i64 h.part, .int .i64 h.parts, .slice A n c] w (SealOut w h l) := by
  cases hb : headB h with
  | false => exact refseal_head A c n h l w hw hb
  | true =>
    by_cases hn : n ≤ 496
    · exact refseal_ok A c n h l w hl hA hb hn
    · exact refseal_large A c n h l w hl hb (by omega) hm

end Go.Proofs.YtbojdhhgholgjaaDoor
