/-
  The contract of the document's Open.
-/
import Derived.Test.YtbojdhhgholgjaaDoorJOpen
import Derived.Test.YtbojdhhgholgjaaDoorGetRef
import Derived.Test.YtbojdhhgholgjaaDoorStepA
import Derived.IntWalk
import Derived.Deep.RegionHeld3
namespace Go.Proofs.YtbojdhhgholgjaaDoor
open Go.RowKit

set_option maxHeartbeats 400000 in
theorem refopen_short (A : Option Addr) (n c : Nat) (l : List UInt8) (w : World) (hl : l.length = n) (hn : n ≠ 512) : Calls Tryd.prog 12 #[.slice A n c] w (OpenOut w l) := by
  have he := openE_short (l := l) (by omega)
  have HH := Lib.hid (openH_no (l := l) (by rw [he]; decide))
  have HB := Lib.hid (openB_no (l := l) (by rw [he]; decide))
  have HE := Lib.hid he
  have d1 : ((n : Int) != 512) = true := by rw [bne_iff_ne]; omega
  clear he hn hl
  go_enter Tryd.func12, Tryd.ntmps12
  go_wp2
  exact bodyPost_ret (v := .tuple #[hzero.val, .slice none 0 0, .int .i64 3]) (by simp [results, Tryd.results12, go_sem, SH.val, hzero]) rfl
    ⟨.slice none 0 0, by rw [HE.out, HH.out], by rw [HB.out]; exact World.ownsRow_nil _ _ _ _, ((Below.refl _ _).alloc (Nat.le_refl _) _).alloc (by simp) _⟩

/-- The six numbers, as they are read. -/
structure Gots (l : List UInt8) (hd : SH) (cn : Nat) : Prop where
  g0 : getL l 0 1 = (hd.kind, 0)
  g1 : getL l 1 4 = (hd.epoch, 0)
  g2 : getL l 5 7 = (hd.seq, 0)
  g3 : getL l 12 1 = (hd.part, 0)
  g4 : getL l 13 1 = (hd.parts, 0)
  g5 : getL l 14 2 = ((cn : Int), 0)
theorem gots {l : List UInt8} (hl : l.length = 512) : Gots l (readH l) (readC l) :=
  ⟨getL_ok (a := 0) (s := 1) (by omega) (by omega) (by omega), getL_ok (a := 1) (s := 4) (by omega) (by omega) (by omega), getL_ok (a := 5) (s := 7) (by omega) (by omega) (by omega),
   getL_ok (a := 12) (s := 1) (by omega) (by omega) (by omega), getL_ok (a := 13) (s := 1) (by omega) (by omega) (by omega), getL_ok (a := 14) (s := 2) (by omega) (by omega) (by omega)⟩
def RGot (A : Option Addr) (c : Nat) (w : World) (a s v : Int) : Prop :=
  ∀ g h : List Value, Calls Tryd.prog 20 #[.slice A 512 c, .int .i64 a, .int .i64 s] ((w.alloc (.cells g.toArray 36)).alloc (.cells h.toArray 36))
    fun e w' => e = .returned (.tuple #[.int .i64 v, .int .i64 0]) ∧ ((w.alloc (.cells g.toArray 36)).alloc (.cells h.toArray 36)) = w'
theorem rgot {A : Option Addr} {c : Nat} {l : List UInt8} {w : World} {a s v : Int} (hl : l.length = 512) (hA : Row w w.heap.size A (l.map bc)) (h : getL l a s = (v, 0)) : RGot A c w a s v := fun g k => by
  refine (ref_get_any A 512 c w.heap.size l a s _ hl ((hA.alloc (Nat.le_refl _) _).alloc (by simp) _) (by decide)).mono ?_
  rw [h]
  rintro e w' ⟨rfl, rfl⟩
  exact ⟨rfl, rfl⟩

/-- GENERATED (gen_jrefopen.py): what all ways know. -/
structure OpenKnow (l : List UInt8) (hd : SH) (cn : Nat) (A : Option Addr) (c : Nat) (w : World) : Prop where
  hd_ : readH l = hd
  cn_ : readC l = cn
  len : l.length = 512
  r0 : RGot A c w 0 1 hd.kind
  r1 : RGot A c w 1 4 hd.epoch
  r2 : RGot A c w 5 7 hd.seq
  r3 : RGot A c w 12 1 hd.part
  r4 : RGot A c w 13 1 hd.parts
  r5 : RGot A c w 14 2 (cn : Int)
theorem openKnow {A : Option Addr} {c : Nat} {l : List UInt8} {w : World} (hl : l.length = 512) (hA : Row w w.heap.size A (l.map bc)) : OpenKnow l (readH l) (readC l) A c w :=
  have hg := gots hl
  ⟨rfl, rfl, hl, rgot hl hA hg.g0, rgot hl hA hg.g1, rgot hl hA hg.g2, rgot hl hA hg.g3, rgot hl hA hg.g4, rgot hl hA hg.g5⟩
theorem OpenKnow.lt {l : List UInt8} {hd : SH} {cn : Nat} {A : Option Addr} {c : Nat} {w : World} (h : OpenKnow l hd cn A c w) : cn < 65536 := by
  have h1 := numN_lt (cutL l 14 2)
  rw [length_cutL (by have := h.len; omega)] at h1
  have h2 := h.cn_
  unfold readC at h2
  omega

set_option maxHeartbeats 1000000 in
set_option maxRecDepth 4000 in
theorem refopen_bad0 (A : Option Addr) (c : Nat) (l : List UInt8) (w : World) (hd : SH) (cn : Nat) (K : OpenKnow l hd cn A c w) (hm : madeB l = false) (d1 : decide ((496 : Int) < (cn : Int)) = true) :
    Calls Tryd.prog 12 #[.slice A 512 c] w (OpenOut w l) := by
  have he := openE_bad K.len hm
  have hlt := K.lt
  have HH := Lib.hid (openH_no (l := l) (by rw [he]; decide))
  have HB := Lib.hid (openB_no (l := l) (by rw [he]; decide))
  have HE := Lib.hid he
  clear he hm
  go_enter Tryd.func12, Tryd.ntmps12
  go_wp2_with fail
  refine (K.r0 [.int .i64 0, .int .i64 0, .int .i64 0, .int .i64 0, .int .i64 0] [.int .i64 0, .int .i64 0, .int .i64 0, .int .i64 0, .int .i64 0]).mono ?_
  rintro e w' ⟨rfl, rfl⟩
  go_wp2_with fail
  refine (K.r1 [.int .i64 0, .int .i64 0, .int .i64 0, .int .i64 0, .int .i64 0] [.int .i64 hd.kind, .int .i64 0, .int .i64 0, .int .i64 0, .int .i64 0]).mono ?_
  rintro e w' ⟨rfl, rfl⟩
  go_wp2_with fail
  refine (K.r2 [.int .i64 0, .int .i64 0, .int .i64 0, .int .i64 0, .int .i64 0] [.int .i64 hd.kind, .int .i64 hd.epoch, .int .i64 0, .int .i64 0, .int .i64 0]).mono ?_
  rintro e w' ⟨rfl, rfl⟩
  go_wp2_with fail
  refine (K.r3 [.int .i64 0, .int .i64 0, .int .i64 0, .int .i64 0, .int .i64 0] [.int .i64 hd.kind, .int .i64 hd.epoch, .int .i64 hd.seq, .int .i64 0, .int .i64 0]).mono ?_
  rintro e w' ⟨rfl, rfl⟩
  go_wp2_with fail
  refine (K.r4 [.int .i64 0, .int .i64 0, .int .i64 0, .int .i64 0, .int .i64 0] [.int .i64 hd.kind, .int .i64 hd.epoch, .int .i64 hd.seq, .int .i64 hd.part, .int .i64 0]).mono ?_
  rintro e w' ⟨rfl, rfl⟩
  go_wp2_with fail
  refine (K.r5 [.int .i64 0, .int .i64 0, .int .i64 0, .int .i64 0, .int .i64 0] [.int .i64 hd.kind, .int .i64 hd.epoch, .int .i64 hd.seq, .int .i64 hd.part, .int .i64 hd.parts]).mono ?_
  rintro e w' ⟨rfl, rfl⟩
  go_wp2
  exact bodyPost_ret (v := .tuple #[hzero.val, .slice none 0 0, .int .i64 14]) (by simp [results, Tryd.results12, go_sem, SH.val, hzero]) rfl
    ⟨.slice none 0 0, by rw [HE.out, HH.out], by rw [HB.out]; exact World.ownsRow_nil _ _ _ _, (((Below.refl _ _).alloc (Nat.le_refl _) _).alloc (by simp) _).alloc (by simp; omega) _⟩

set_option maxHeartbeats 1000000 in
set_option maxRecDepth 4000 in
theorem refopen_bad1 (A : Option Addr) (c : Nat) (l : List UInt8) (w : World) (hd : SH) (cn : Nat) (K : OpenKnow l hd cn A c w) (hm : madeB l = false) (d1 : decide ((496 : Int) < (cn : Int)) = false) (z0 : (hd.kind == 0) = true) :
    Calls Tryd.prog 12 #[.slice A 512 c] w (OpenOut w l) := by
  have he := openE_bad K.len hm
  have hlt := K.lt
  have HH := Lib.hid (openH_no (l := l) (by rw [he]; decide))
  have HB := Lib.hid (openB_no (l := l) (by rw [he]; decide))
  have HE := Lib.hid he
  clear he hm
  go_enter Tryd.func12, Tryd.ntmps12
  go_wp2_with fail
  refine (K.r0 [.int .i64 0, .int .i64 0, .int .i64 0, .int .i64 0, .int .i64 0] [.int .i64 0, .int .i64 0, .int .i64 0, .int .i64 0, .int .i64 0]).mono ?_
  rintro e w' ⟨rfl, rfl⟩
  go_wp2_with fail
  refine (K.r1 [.int .i64 0, .int .i64 0, .int .i64 0, .int .i64 0, .int .i64 0] [.int .i64 hd.kind, .int .i64 0, .int .i64 0, .int .i64 0, .int .i64 0]).mono ?_
  rintro e w' ⟨rfl, rfl⟩
  go_wp2_with fail
  refine (K.r2 [.int .i64 0, .int .i64 0, .int .i64 0, .int .i64 0, .int .i64 0] [.int .i64 hd.kind, .int .i64 hd.epoch, .int .i64 0, .int .i64 0, .int .i64 0]).mono ?_
  rintro e w' ⟨rfl, rfl⟩
  go_wp2_with fail
  refine (K.r3 [.int .i64 0, .int .i64 0, .int .i64 0, .int .i64 0, .int .i64 0] [.int .i64 hd.kind, .int .i64 hd.epoch, .int .i64 hd.seq, .int .i64 0, .int .i64 0]).mono ?_
  rintro e w' ⟨rfl, rfl⟩
  go_wp2_with fail
  refine (K.r4 [.int .i64 0, .int .i64 0, .int .i64 0, .int .i64 0, .int .i64 0] [.int .i64 hd.kind, .int .i64 hd.epoch, .int .i64 hd.seq, .int .i64 hd.part, .int .i64 0]).mono ?_
  rintro e w' ⟨rfl, rfl⟩
  go_wp2_with fail
  refine (K.r5 [.int .i64 0, .int .i64 0, .int .i64 0, .int .i64 0, .int .i64 0] [.int .i64 hd.kind, .int .i64 hd.epoch, .int .i64 hd.seq, .int .i64 hd.part, .int .i64 hd.parts]).mono ?_
  rintro e w' ⟨rfl, rfl⟩
  go_wp2
  exact bodyPost_ret (v := .tuple #[hzero.val, .slice none 0 0, .int .i64 14]) (by simp [results, Tryd.results12, go_sem, SH.val, hzero]) rfl
    ⟨.slice none 0 0, by rw [HE.out, HH.out], by rw [HB.out]; exact World.ownsRow_nil _ _ _ _, (((Below.refl _ _).alloc (Nat.le_refl _) _).alloc (by simp) _).alloc (by simp; omega) _⟩

set_option maxHeartbeats 1000000 in
set_option maxRecDepth 4000 in
theorem refopen_bad2 (A : Option Addr) (c : Nat) (l : List UInt8) (w : World) (hd : SH) (cn : Nat) (K : OpenKnow l hd cn A c w) (hm : madeB l = false) (d1 : decide ((496 : Int) < (cn : Int)) = false) (z0 : (hd.kind == 0) = false) (z1 : (hd.parts == 0) = true) :
    Calls Tryd.prog 12 #[.slice A 512 c] w (OpenOut w l) := by
  have he := openE_bad K.len hm
  have hlt := K.lt
  have HH := Lib.hid (openH_no (l := l) (by rw [he]; decide))
  have HB := Lib.hid (openB_no (l := l) (by rw [he]; decide))
  have HE := Lib.hid he
  clear he hm
  go_enter Tryd.func12, Tryd.ntmps12
  go_wp2_with fail
  refine (K.r0 [.int .i64 0, .int .i64 0, .int .i64 0, .int .i64 0, .int .i64 0] [.int .i64 0, .int .i64 0, .int .i64 0, .int .i64 0, .int .i64 0]).mono ?_
  rintro e w' ⟨rfl, rfl⟩
  go_wp2_with fail
  refine (K.r1 [.int .i64 0, .int .i64 0, .int .i64 0, .int .i64 0, .int .i64 0] [.int .i64 hd.kind, .int .i64 0, .int .i64 0, .int .i64 0, .int .i64 0]).mono ?_
  rintro e w' ⟨rfl, rfl⟩
  go_wp2_with fail
  refine (K.r2 [.int .i64 0, .int .i64 0, .int .i64 0, .int .i64 0, .int .i64 0] [.int .i64 hd.kind, .int .i64 hd.epoch, .int .i64 0, .int .i64 0, .int .i64 0]).mono ?_
  rintro e w' ⟨rfl, rfl⟩
  go_wp2_with fail
  refine (K.r3 [.int .i64 0, .int .i64 0, .int .i64 0, .int .i64 0, .int .i64 0] [.int .i64 hd.kind, .int .i64 hd.epoch, .int .i64 hd.seq, .int .i64 0, .int .i64 0]).mono ?_
  rintro e w' ⟨rfl, rfl⟩
  go_wp2_with fail
  refine (K.r4 [.int .i64 0, .int .i64 0, .int .i64 0, .int .i64 0, .int .i64 0] [.int .i64 hd.kind, .int .i64 hd.epoch, .int .i64 hd.seq, .int .i64 hd.part, .int .i64 0]).mono ?_
  rintro e w' ⟨rfl, rfl⟩
  go_wp2_with fail
  refine (K.r5 [.int .i64 0, .int .i64 0, .int .i64 0, .int .i64 0, .int .i64 0] [.int .i64 hd.kind, .int .i64 hd.epoch, .int .i64 hd.seq, .int .i64 hd.part, .int .i64 hd.parts]).mono ?_
  rintro e w' ⟨rfl, rfl⟩
  go_wp2
  exact bodyPost_ret (v := .tuple #[hzero.val, .slice none 0 0, .int .i64 14]) (by simp [results, Tryd.results12, go_sem, SH.val, hzero]) rfl
    ⟨.slice none 0 0, by rw [HE.out, HH.out], by rw [HB.out]; exact World.ownsRow_nil _ _ _ _, (((Below.refl _ _).alloc (Nat.le_refl _) _).alloc (by simp) _).alloc (by simp; omega) _⟩

set_option maxHeartbeats 1000000 in
set_option maxRecDepth 4000 in
theorem refopen_bad3 (A : Option Addr) (c : Nat) (l : List UInt8) (w : World) (hd : SH) (cn : Nat) (K : OpenKnow l hd cn A c w) (hm : madeB l = false) (d1 : decide ((496 : Int) < (cn : Int)) = false) (z0 : (hd.kind == 0) = false) (z1 : (hd.parts == 0) = false) (z2 : decide (hd.parts ≤ hd.part) = true) :
    Calls Tryd.prog 12 #[.slice A 512 c] w (OpenOut w l) := by
  have he := openE_bad K.len hm
  have hlt := K.lt
  have HH := Lib.hid (openH_no (l := l) (by rw [he]; decide))
  have HB := Lib.hid (openB_no (l := l) (by rw [he]; decide))
  have HE := Lib.hid he
  clear he hm
  go_enter Tryd.func12, Tryd.ntmps12
  go_wp2_with fail
  refine (K.r0 [.int .i64 0, .int .i64 0, .int .i64 0, .int .i64 0, .int .i64 0] [.int .i64 0, .int .i64 0, .int .i64 0, .int .i64 0, .int .i64 0]).mono ?_
  rintro e w' ⟨rfl, rfl⟩
  go_wp2_with fail
  refine (K.r1 [.int .i64 0, .int .i64 0, .int .i64 0, .int .i64 0, .int .i64 0] [.int .i64 hd.kind, .int .i64 0, .int .i64 0, .int .i64 0, .int .i64 0]).mono ?_
  rintro e w' ⟨rfl, rfl⟩
  go_wp2_with fail
  refine (K.r2 [.int .i64 0, .int .i64 0, .int .i64 0, .int .i64 0, .int .i64 0] [.int .i64 hd.kind, .int .i64 hd.epoch, .int .i64 0, .int .i64 0, .int .i64 0]).mono ?_
  rintro e w' ⟨rfl, rfl⟩
  go_wp2_with fail
  refine (K.r3 [.int .i64 0, .int .i64 0, .int .i64 0, .int .i64 0, .int .i64 0] [.int .i64 hd.kind, .int .i64 hd.epoch, .int .i64 hd.seq, .int .i64 0, .int .i64 0]).mono ?_
  rintro e w' ⟨rfl, rfl⟩
  go_wp2_with fail
  refine (K.r4 [.int .i64 0, .int .i64 0, .int .i64 0, .int .i64 0, .int .i64 0] [.int .i64 hd.kind, .int .i64 hd.epoch, .int .i64 hd.seq, .int .i64 hd.part, .int .i64 0]).mono ?_
  rintro e w' ⟨rfl, rfl⟩
  go_wp2_with fail
  refine (K.r5 [.int .i64 0, .int .i64 0, .int .i64 0, .int .i64 0, .int .i64 0] [.int .i64 hd.kind, .int .i64 hd.epoch, .int .i64 hd.seq, .int .i64 hd.part, .int .i64 hd.parts]).mono ?_
  rintro e w' ⟨rfl, rfl⟩
  go_wp2
  exact bodyPost_ret (v := .tuple #[hzero.val, .slice none 0 0, .int .i64 14]) (by simp [results, Tryd.results12, go_sem, SH.val, hzero]) rfl
    ⟨.slice none 0 0, by rw [HE.out, HH.out], by rw [HB.out]; exact World.ownsRow_nil _ _ _ _, (((Below.refl _ _).alloc (Nat.le_refl _) _).alloc (by simp) _).alloc (by simp; omega) _⟩


end Go.Proofs.YtbojdhhgholgjaaDoor
