/-
  The contract of rr.Get.
-/
import Derived.Test.YtjjmllbkfbdcnaaRrbackP6
import Derived.Test.YtjjmllbkfbdcnaaRrbackP4
import Derived.Test.YtjjmllbkfbdcnaaRrbackP5
import Derived.Test.YtjjmllbkfbdcnaaRrbackP3
import Derived.Deep.RegionHeld3
import Derived.Deep.RegionLaw
import Derived.Test.YtjjmllbkfbdcnaaRrbackP2
namespace Go.Proofs.Ytjjmllbkfbdcnaa
open Go.RowKit

theorem nextR_le {b : List UInt8} {x p : Nat} (hx : x ≤ b.length) (hp : p ≤ b.length) : nextR x p ≤ b.length := by
  unfold nextR
  split <;> assumption
theorem getR_le (b : List UInt8) (p q x : Nat) (n : List (List UInt8)) (hx : x ≤ b.length) : (getR b p q x n).2.1 ≤ b.length := by
  fun_induction getR b p q x n
  all_goals first
    | exact Nat.zero_le _
    | exact nextR_le hx (by omega)
    | (rename_i ih; exact ih (nextR_le hx (by omega)))
    | (rename_i ih; exact ih hx)
theorem getW_le (b : List UInt8) (a : Int) : (getW b a).2.1 ≤ b.length := by
  unfold getW
  split
  · exact Nat.zero_le _
  · exact getR_le b _ _ 0 [] (Nat.zero_le _)

def zeroR : Rt := ⟨[], 0, 0, 0, ⟨[], [], [], [], []⟩⟩
def zeroV : RV := ⟨none, 0, ⟨none, none, none, none, none, 0, 0, 0, 0, 0⟩⟩
theorem zero_own (w : World) (B : Nat) : OwnR w B zeroV zeroR := ⟨World.ownsRow_nil _ _ _ _, no_data w B⟩
/-- The record that begins at a, and the place behind it. -/
def getRR (b : List UInt8) (a : Int) : Rt × Nat × Nat :=
  if (getW b a).2.2 ≠ 0 then (zeroR, 0, (getW b a).2.2) else
  if b.length < (getW b a).2.1 + 10 then (zeroR, 0, 3) else
  if numAt b (getW b a).2.1 2 = 0 then (zeroR, 0, 2) else
  if (getD b (((getW b a).2.1 : Int) + 10) (numAt b ((getW b a).2.1 + 8) 2) (numAt b (getW b a).2.1 2)).2 ≠ 0 then (zeroR, 0, (getD b (((getW b a).2.1 : Int) + 10) (numAt b ((getW b a).2.1 + 8) 2) (numAt b (getW b a).2.1 2)).2) else
  (⟨(getW b a).1, numAt b (getW b a).2.1 2, numAt b ((getW b a).2.1 + 2) 2, ttlAt b ((getW b a).2.1 + 4), (getD b (((getW b a).2.1 : Int) + 10) (numAt b ((getW b a).2.1 + 8) 2) (numAt b (getW b a).2.1 2)).1⟩, (getW b a).2.1 + 10 + numAt b ((getW b a).2.1 + 8) 2, 0)
/-- What the call leaves: a record in slices of its own, the place, the error. -/
def GotR (w : World) (r : Rt × Nat × Nat) (e : Ending) (w' : World) : Prop :=
  ∃ x : RV, e = .returned (.tuple #[x.val r.1, .int .i64 r.2.1, .int .i64 r.2.2]) ∧ OwnR w' w.heap.size x r.1 ∧ Below w.heap.size w w'

/-- A whole record is stored; of the new world this much is told. -/
theorem wpList_storeRR {w : World} {ops : Array Oper} {rest : List Oper} {o : Oper} {a : Act} {Q : Exit → Act → World → Prop} (g k1 k2 : Nat) (y : RV) (r : Rt) (L : List Value) (hg : o.guard = none) (ho : o.op = .store 51 (.tmp k1) (.tmp k2))
    (h2 : a.tmps[k1]? = some (.pointer (some ⟨g, 0, none⟩))) (hu : a.tmps[k2]? = some (y.val r)) (hw : Whole w g 51 L) (hl : L.length = 9)
    (h : ∀ V, Whole V g 51 (cellsR (y, r)) → Below g w V → (∀ j, j ≠ g → V.heap[j]? = w.heap[j]?) → V.heap.size = w.heap.size → wpList Try.prog ops Q rest (a.put o.dst undef) V) : wpList Try.prog ops Q (o :: rest) a w := by
  match L, hl with
  | [u0, u1, u2, u3, u4, u5, u6, u7, u8], _ =>
  have q0 : w.cell? ⟨g, 0, none⟩ = some u0 := hw.cell 0
  have z0 : w.frozen? ⟨g, 0, none⟩ = false := hw.frozen 0
  have q1 : w.cell? ⟨g, 1, none⟩ = some u1 := hw.cell 1
  have z1 : w.frozen? ⟨g, 1, none⟩ = false := hw.frozen 1
  have q2 : w.cell? ⟨g, 2, none⟩ = some u2 := hw.cell 2
  have z2 : w.frozen? ⟨g, 2, none⟩ = false := hw.frozen 2
  have q3 : w.cell? ⟨g, 3, none⟩ = some u3 := hw.cell 3
  have z3 : w.frozen? ⟨g, 3, none⟩ = false := hw.frozen 3
  have q4 : w.cell? ⟨g, 4, none⟩ = some u4 := hw.cell 4
  have z4 : w.frozen? ⟨g, 4, none⟩ = false := hw.frozen 4
  have q5 : w.cell? ⟨g, 5, none⟩ = some u5 := hw.cell 5
  have z5 : w.frozen? ⟨g, 5, none⟩ = false := hw.frozen 5
  have q6 : w.cell? ⟨g, 6, none⟩ = some u6 := hw.cell 6
  have z6 : w.frozen? ⟨g, 6, none⟩ = false := hw.frozen 6
  have q7 : w.cell? ⟨g, 7, none⟩ = some u7 := hw.cell 7
  have z7 : w.frozen? ⟨g, 7, none⟩ = false := hw.frozen 7
  have q8 : w.cell? ⟨g, 8, none⟩ = some u8 := hw.cell 8
  have z8 : w.frozen? ⟨g, 8, none⟩ = false := hw.frozen 8
  have hk := h (((((((((w.setCell ⟨g, 0, none⟩ (.slice y.A r.name.length y.c)).setCell ⟨g, 1, none⟩ (.int .i64 r.kind)).setCell ⟨g, 2, none⟩ (.int .i64 r.cls)).setCell ⟨g, 3, none⟩ (.int .i64 r.ttl)).setCell ⟨g, 4, none⟩ (.slice y.d.Ab r.data.bytes.length y.d.cb)).setCell ⟨g, 5, none⟩ (.slice y.d.Ah r.data.host.length y.d.ch)).setCell ⟨g, 6, none⟩ (.slice y.d.Am r.data.mail.length y.d.cm)).setCell ⟨g, 7, none⟩ (.slice y.d.An r.data.nums.length y.d.cn)).setCell ⟨g, 8, none⟩ (.slice y.d.At r.data.texts.length y.d.ct))
    (((((((((hw.set_ 0 _).set_ 1 _).set_ 2 _).set_ 3 _).set_ 4 _).set_ 5 _).set_ 6 _).set_ 7 _).set_ 8 _)
    (by
      have hs (W : World) (i : Nat) (u : Value) : Below g W (W.setCell ⟨g, i, none⟩ u) := (Below.refl _ W).setCell (p := ⟨g, i, none⟩) (Nat.le_refl _) u
      exact ((((((((hs _ 0 _).trans (hs _ 1 _)).trans (hs _ 2 _)).trans (hs _ 3 _)).trans (hs _ 4 _)).trans (hs _ 5 _)).trans (hs _ 6 _)).trans (hs _ 7 _)).trans (hs _ 8 _))
    (fun j hj => by
      have hs (W : World) (i : Nat) (u : Value) : (W.setCell ⟨g, i, none⟩ u).heap[j]? = W.heap[j]? := Below.heap_setCell W ⟨g, i, none⟩ u j hj
      rw [hs, hs, hs, hs, hs, hs, hs, hs, hs])
    (by simp)
  refine wpList_plain hg fun K hK => ?_
  have hk2 := hK _ _ hk
  unfold Oper.wp
  simp [execOp, ho, go_sem, h2, hu, q0, q1, q2, q3, q4, q5, q6, q7, q8, z0, z1, z2, z3, z4, z5, z6, z7, z8]
  exact hk2

set_option maxRecDepth 20000 in
set_option maxHeartbeats 8000000 in
theorem rget_any (A : Option Addr) (m cap : Nat) (b : List UInt8) (a : Int) (w : World) (hbl : b.length = m) (hrow : Row w w.heap.size A (b.map bc)) (hm : m ≤ cap) (hc : cap ≤ maxLen) (ha : a ≤ 9223372036854775807) :
    Calls Try.prog 30 #[.slice A m cap, .int .i64 a] w (GotR w (getRR b a)) := by
  have hle := getW_le b a
  obtain ⟨W0, hW0⟩ : ∃ W0, W0 = w.alloc (.cells #[.slice none 0 0, .int .i64 0, .int .i64 0, .int .i64 0, .slice none 0 0, .slice none 0 0, .slice none 0 0, .slice none 0 0, .slice none 0 0] 51) := ⟨_, rfl⟩
  have hb0 : Below w.heap.size w W0 := by rw [hW0]; exact (Below.refl _ _).alloc (Nat.le_refl _) _
  have hwh : Whole W0 w.heap.size 51 [.slice none 0 0, .int .i64 0, .int .i64 0, .int .i64 0, .slice none 0 0, .slice none 0 0, .slice none 0 0, .slice none 0 0, .slice none 0 0] := by rw [hW0]; exact Whole.made w _ _
  have hs0 : w.heap.size < W0.heap.size := by rw [hW0]; simp
  have HG := Lib.hid (wget_any A m cap b a W0 hbl ((hrow.below hb0).mono (Nat.le_of_lt hs0)) hc hm ha)
  have HR := Lib.hid hrow
  have HBL := Lib.hid hbl
  have HB0 := Lib.hid hb0
  have HW0 := Lib.hid hwh
  obtain ⟨n, p, k, hG⟩ : ∃ n p k, getW b a = (n, p, k) := ⟨_, _, _, rfl⟩
  have HF := Lib.hid (show getRR b a = if k ≠ 0 then (zeroR, 0, k) else
      if b.length < p + 10 then (zeroR, 0, 3) else
      if numAt b p 2 = 0 then (zeroR, 0, 2) else
      if (getD b ((p : Int) + 10) (numAt b (p + 8) 2) (numAt b p 2)).2 ≠ 0 then (zeroR, 0, (getD b ((p : Int) + 10) (numAt b (p + 8) 2) (numAt b p 2)).2) else
      (⟨n, numAt b p 2, numAt b (p + 2) 2, ttlAt b (p + 4), (getD b ((p : Int) + 10) (numAt b (p + 8) 2) (numAt b p 2)).1⟩, p + 10 + numAt b (p + 8) 2, 0) by
    unfold getRR
    rw [hG])
  rw [hG] at HG hle
  dsimp only at hle
  clear hrow hb0 hwh hG
  have hle2 : p ≤ m := by rw [← hbl]; exact hle
  clear hle hbl
  unfold maxLen at hc
  subst hW0
  go_enter Try.func30, Try.ntmps30
  go_wp2_with fail
  refine HG.out.mono ?_
  rintro e w1 ⟨v1, rfl, hown1, hb1⟩
  obtain ⟨A1, c1, rfl, _, _⟩ := own_form hown1
  have HO1 := Lib.hid hown1
  have HB1 := Lib.hid (HB0.out.trans (hb1.mono (Nat.le_of_lt hs0)))
  have HW1 := Lib.hid (HW0.out.below hb1 hs0)
  have hs1 : w.heap.size < w1.heap.size := Nat.lt_of_lt_of_le hs0 hb1.size
  clear hown1 hb1 HB0 HW0 HG
  by_cases hk : k = 0
  case neg =>
    have b1 : ((k : Int) != 0) = true := by rw [bne_iff_ne]; omega
    have HF2 := Lib.hid (show getRR b a = (zeroR, 0, k) by rw [HF.out, if_pos hk])
    clear HF hk
    go_wp2_with (
      refine wpList_storeRR w.heap.size 4 19 zeroV zeroR _ rfl rfl rfl rfl HW1.out rfl ?_
      intro V hWV hbv hhv hvs
      have v0 : V.cell? ⟨w.heap.size, 0, none⟩ = some (.slice none 0 0) := Whole.cell (L := [.slice none 0 0, .int .i64 0, .int .i64 0, .int .i64 0, .slice none 0 0, .slice none 0 0, .slice none 0 0, .slice none 0 0, .slice none 0 0]) hWV 0
      have v1 : V.cell? ⟨w.heap.size, 1, none⟩ = some (.int .i64 0) := Whole.cell (L := [.slice none 0 0, .int .i64 0, .int .i64 0, .int .i64 0, .slice none 0 0, .slice none 0 0, .slice none 0 0, .slice none 0 0, .slice none 0 0]) hWV 1
      have v2 : V.cell? ⟨w.heap.size, 2, none⟩ = some (.int .i64 0) := Whole.cell (L := [.slice none 0 0, .int .i64 0, .int .i64 0, .int .i64 0, .slice none 0 0, .slice none 0 0, .slice none 0 0, .slice none 0 0, .slice none 0 0]) hWV 2
      have v3 : V.cell? ⟨w.heap.size, 3, none⟩ = some (.int .i64 0) := Whole.cell (L := [.slice none 0 0, .int .i64 0, .int .i64 0, .int .i64 0, .slice none 0 0, .slice none 0 0, .slice none 0 0, .slice none 0 0, .slice none 0 0]) hWV 3
      have v4 : V.cell? ⟨w.heap.size, 4, none⟩ = some (.slice none 0 0) := Whole.cell (L := [.slice none 0 0, .int .i64 0, .int .i64 0, .int .i64 0, .slice none 0 0, .slice none 0 0, .slice none 0 0, .slice none 0 0, .slice none 0 0]) hWV 4
      have v5 : V.cell? ⟨w.heap.size, 5, none⟩ = some (.slice none 0 0) := Whole.cell (L := [.slice none 0 0, .int .i64 0, .int .i64 0, .int .i64 0, .slice none 0 0, .slice none 0 0, .slice none 0 0, .slice none 0 0, .slice none 0 0]) hWV 5
      have v6 : V.cell? ⟨w.heap.size, 6, none⟩ = some (.slice none 0 0) := Whole.cell (L := [.slice none 0 0, .int .i64 0, .int .i64 0, .int .i64 0, .slice none 0 0, .slice none 0 0, .slice none 0 0, .slice none 0 0, .slice none 0 0]) hWV 6
      have v7 : V.cell? ⟨w.heap.size, 7, none⟩ = some (.slice none 0 0) := Whole.cell (L := [.slice none 0 0, .int .i64 0, .int .i64 0, .int .i64 0, .slice none 0 0, .slice none 0 0, .slice none 0 0, .slice none 0 0, .slice none 0 0]) hWV 7
      have v8 : V.cell? ⟨w.heap.size, 8, none⟩ = some (.slice none 0 0) := Whole.cell (L := [.slice none 0 0, .int .i64 0, .int .i64 0, .int .i64 0, .slice none 0 0, .slice none 0 0, .slice none 0 0, .slice none 0 0, .slice none 0 0]) hWV 8
      have HBV := Lib.hid (HB1.out.trans hbv)
      clear hWV hbv hhv hvs)
    rw [HF2.out]
    refine ⟨rfl, .tuple #[zeroV.val zeroR, .int .i64 ((0 : Nat) : Int), .int .i64 (k : Int)], ?_, zeroV, rfl, zero_own _ _, HBV.out⟩
    simp [results, Try.results30, go_sem, v0, v1, v2, v3, v4, v5, v6, v7, v8, zeroV, zeroR]
  have b1 : ((k : Int) != 0) = false := by rw [hk]; rfl
  have HF3 := Lib.hid (HF.out.trans (if_neg (by omega)))
  clear HF hk
  by_cases hsh : m < p + 10
  case pos =>
    have d1 : decide ((m : Int) - (p : Int) < 10) = true := by simp; omega
    have HF2 := Lib.hid (show getRR b a = (zeroR, 0, 3) by rw [HF3.out, if_pos (by rw [HBL.out]; exact hsh)])
    clear HF3
    go_wp2_with (
      refine wpList_storeRR w.heap.size 4 26 zeroV zeroR _ rfl rfl rfl rfl HW1.out rfl ?_
      intro V hWV hbv hhv hvs
      have v0 : V.cell? ⟨w.heap.size, 0, none⟩ = some (.slice none 0 0) := Whole.cell (L := [.slice none 0 0, .int .i64 0, .int .i64 0, .int .i64 0, .slice none 0 0, .slice none 0 0, .slice none 0 0, .slice none 0 0, .slice none 0 0]) hWV 0
      have v1 : V.cell? ⟨w.heap.size, 1, none⟩ = some (.int .i64 0) := Whole.cell (L := [.slice none 0 0, .int .i64 0, .int .i64 0, .int .i64 0, .slice none 0 0, .slice none 0 0, .slice none 0 0, .slice none 0 0, .slice none 0 0]) hWV 1
      have v2 : V.cell? ⟨w.heap.size, 2, none⟩ = some (.int .i64 0) := Whole.cell (L := [.slice none 0 0, .int .i64 0, .int .i64 0, .int .i64 0, .slice none 0 0, .slice none 0 0, .slice none 0 0, .slice none 0 0, .slice none 0 0]) hWV 2
      have v3 : V.cell? ⟨w.heap.size, 3, none⟩ = some (.int .i64 0) := Whole.cell (L := [.slice none 0 0, .int .i64 0, .int .i64 0, .int .i64 0, .slice none 0 0, .slice none 0 0, .slice none 0 0, .slice none 0 0, .slice none 0 0]) hWV 3
      have v4 : V.cell? ⟨w.heap.size, 4, none⟩ = some (.slice none 0 0) := Whole.cell (L := [.slice none 0 0, .int .i64 0, .int .i64 0, .int .i64 0, .slice none 0 0, .slice none 0 0, .slice none 0 0, .slice none 0 0, .slice none 0 0]) hWV 4
      have v5 : V.cell? ⟨w.heap.size, 5, none⟩ = some (.slice none 0 0) := Whole.cell (L := [.slice none 0 0, .int .i64 0, .int .i64 0, .int .i64 0, .slice none 0 0, .slice none 0 0, .slice none 0 0, .slice none 0 0, .slice none 0 0]) hWV 5
      have v6 : V.cell? ⟨w.heap.size, 6, none⟩ = some (.slice none 0 0) := Whole.cell (L := [.slice none 0 0, .int .i64 0, .int .i64 0, .int .i64 0, .slice none 0 0, .slice none 0 0, .slice none 0 0, .slice none 0 0, .slice none 0 0]) hWV 6
      have v7 : V.cell? ⟨w.heap.size, 7, none⟩ = some (.slice none 0 0) := Whole.cell (L := [.slice none 0 0, .int .i64 0, .int .i64 0, .int .i64 0, .slice none 0 0, .slice none 0 0, .slice none 0 0, .slice none 0 0, .slice none 0 0]) hWV 7
      have v8 : V.cell? ⟨w.heap.size, 8, none⟩ = some (.slice none 0 0) := Whole.cell (L := [.slice none 0 0, .int .i64 0, .int .i64 0, .int .i64 0, .slice none 0 0, .slice none 0 0, .slice none 0 0, .slice none 0 0, .slice none 0 0]) hWV 8
      have HBV := Lib.hid (HB1.out.trans hbv)
      clear hWV hbv hhv hvs)
    rw [HF2.out]
    refine ⟨rfl, .tuple #[zeroV.val zeroR, .int .i64 ((0 : Nat) : Int), .int .i64 ((3 : Nat) : Int)], ?_, zeroV, rfl, zero_own _ _, HBV.out⟩
    simp [results, Try.results30, go_sem, v0, v1, v2, v3, v4, v5, v6, v7, v8, zeroV, zeroR]
  have d1 : decide ((m : Int) - (p : Int) < 10) = false := by simp; omega
  have HF4 := Lib.hid (HF3.out.trans (if_neg (by rw [HBL.out]; exact hsh)))
  clear HF3
  have HH := Lib.hid (head_any A m cap b p w1 HBL.out ((HR.out.below HB1.out).mono (Nat.le_of_lt hs1)) hm hc (by omega))
  go_wp2_with fail
  refine HH.out.mono ?_
  rintro e w2 ⟨rfl, hb2⟩
  have HW2 := Lib.hid (HW1.out.below hb2 hs1)
  have HB2 := Lib.hid (HB1.out.trans (hb2.mono (Nat.le_of_lt hs1)))
  have HO2 := Lib.hid (own_keep HO1.out fun g e => hb2.block g (HO1.out.lt g e).2)
  have hs2 : w.heap.size < w2.heap.size := Nat.lt_of_lt_of_le hs1 hb2.size
  clear hb2 HH HW1 HB1 HO1
  have y0 := numAt_lt b p 2
  have y1 := numAt_lt b (p + 2) 2
  have y3 := numAt_lt b (p + 8) 2
  revert y0 y1 y3 HF4
  generalize numAt b p 2 = z0
  generalize numAt b (p + 2) 2 = z1
  generalize ttlAt b (p + 4) = z2
  generalize numAt b (p + 8) 2 = z3
  intro HF4 y0 y1 y3
  have hb3 : Below w.heap.size w2 (w2.alloc (.cells #[.int .i64 (z0 : Int), .int .i64 (z1 : Int), .int .i64 (z2 : Int), .int .i64 (z3 : Int)] 100)) := (Below.refl _ _).alloc (Nat.le_of_lt hs2) _
  have hb3' : Below w2.heap.size w2 (w2.alloc (.cells #[.int .i64 (z0 : Int), .int .i64 (z1 : Int), .int .i64 (z2 : Int), .int .i64 (z3 : Int)] 100)) := (Below.refl _ _).alloc (Nat.le_refl _) _
  have HW3 := Lib.hid (HW2.out.alloc (.cells #[.int .i64 (z0 : Int), .int .i64 (z1 : Int), .int .i64 (z2 : Int), .int .i64 (z3 : Int)] 100))
  have HN3 := Lib.hid (Whole.made w2 [.int .i64 (z0 : Int), .int .i64 (z1 : Int), .int .i64 (z2 : Int), .int .i64 (z3 : Int)] 100)
  have HB3 := Lib.hid (HB2.out.trans hb3)
  have HO3 := Lib.hid (own_keep HO2.out fun g e => hb3'.block g (HO2.out.lt g e).2)
  clear hb3 hb3' HW2 HB2 HO2
  by_cases hkd : z0 = 0
  case pos =>
    have b2 : ((z0 : Int) == 0) = true := by rw [beq_iff_eq]; omega
    have HF2 := Lib.hid (show getRR b a = (zeroR, 0, 2) by rw [HF4.out, if_pos hkd])
    clear HF4 hkd
    go_wp2_with (
      refine wpList_storeRR w.heap.size 4 33 zeroV zeroR _ rfl rfl rfl rfl HW3.out rfl ?_
      intro V hWV hbv hhv hvs
      have v0 : V.cell? ⟨w.heap.size, 0, none⟩ = some (.slice none 0 0) := Whole.cell (L := [.slice none 0 0, .int .i64 0, .int .i64 0, .int .i64 0, .slice none 0 0, .slice none 0 0, .slice none 0 0, .slice none 0 0, .slice none 0 0]) hWV 0
      have v1 : V.cell? ⟨w.heap.size, 1, none⟩ = some (.int .i64 0) := Whole.cell (L := [.slice none 0 0, .int .i64 0, .int .i64 0, .int .i64 0, .slice none 0 0, .slice none 0 0, .slice none 0 0, .slice none 0 0, .slice none 0 0]) hWV 1
      have v2 : V.cell? ⟨w.heap.size, 2, none⟩ = some (.int .i64 0) := Whole.cell (L := [.slice none 0 0, .int .i64 0, .int .i64 0, .int .i64 0, .slice none 0 0, .slice none 0 0, .slice none 0 0, .slice none 0 0, .slice none 0 0]) hWV 2
      have v3 : V.cell? ⟨w.heap.size, 3, none⟩ = some (.int .i64 0) := Whole.cell (L := [.slice none 0 0, .int .i64 0, .int .i64 0, .int .i64 0, .slice none 0 0, .slice none 0 0, .slice none 0 0, .slice none 0 0, .slice none 0 0]) hWV 3
      have v4 : V.cell? ⟨w.heap.size, 4, none⟩ = some (.slice none 0 0) := Whole.cell (L := [.slice none 0 0, .int .i64 0, .int .i64 0, .int .i64 0, .slice none 0 0, .slice none 0 0, .slice none 0 0, .slice none 0 0, .slice none 0 0]) hWV 4
      have v5 : V.cell? ⟨w.heap.size, 5, none⟩ = some (.slice none 0 0) := Whole.cell (L := [.slice none 0 0, .int .i64 0, .int .i64 0, .int .i64 0, .slice none 0 0, .slice none 0 0, .slice none 0 0, .slice none 0 0, .slice none 0 0]) hWV 5
      have v6 : V.cell? ⟨w.heap.size, 6, none⟩ = some (.slice none 0 0) := Whole.cell (L := [.slice none 0 0, .int .i64 0, .int .i64 0, .int .i64 0, .slice none 0 0, .slice none 0 0, .slice none 0 0, .slice none 0 0, .slice none 0 0]) hWV 6
      have v7 : V.cell? ⟨w.heap.size, 7, none⟩ = some (.slice none 0 0) := Whole.cell (L := [.slice none 0 0, .int .i64 0, .int .i64 0, .int .i64 0, .slice none 0 0, .slice none 0 0, .slice none 0 0, .slice none 0 0, .slice none 0 0]) hWV 7
      have v8 : V.cell? ⟨w.heap.size, 8, none⟩ = some (.slice none 0 0) := Whole.cell (L := [.slice none 0 0, .int .i64 0, .int .i64 0, .int .i64 0, .slice none 0 0, .slice none 0 0, .slice none 0 0, .slice none 0 0, .slice none 0 0]) hWV 8
      have HBV := Lib.hid (HB3.out.trans hbv)
      clear hWV hbv hhv hvs)
    rw [HF2.out]
    refine ⟨rfl, .tuple #[zeroV.val zeroR, .int .i64 ((0 : Nat) : Int), .int .i64 ((2 : Nat) : Int)], ?_, zeroV, rfl, zero_own _ _, HBV.out⟩
    simp [results, Try.results30, go_sem, v0, v1, v2, v3, v4, v5, v6, v7, v8, zeroV, zeroR]
  have b2 : ((z0 : Int) == 0) = false := by rw [beq_eq_false_iff_ne]; omega
  have HF5 := Lib.hid (HF4.out.trans (if_neg hkd))
  clear HF4 hkd
  have HD := Lib.hid (dget_any A m cap b ((p : Int) + 10) z3 z0 (w2.alloc (.cells #[.int .i64 (z0 : Int), .int .i64 (z1 : Int), .int .i64 (z2 : Int), .int .i64 (z3 : Int)] 100)) HBL.out ((HR.out.below HB3.out).mono (by simp; omega)) hm hc (by omega))
  go_wp2_with fail
  refine HD.out.mono ?_
  rintro e w4 ⟨y, rfl, hy, hb4⟩
  have hsz : (w2.alloc (.cells #[.int .i64 (z0 : Int), .int .i64 (z1 : Int), .int .i64 (z2 : Int), .int .i64 (z3 : Int)] 100)).heap.size = w2.heap.size + 1 := by simp
  rw [hsz] at hy hb4
  have HW4 := Lib.hid (HW3.out.below hb4 (by omega))
  have HN4 := Lib.hid (HN3.out.below hb4 (by omega))
  have HB4 := Lib.hid (HB3.out.trans (hb4.mono (by omega)))
  have HO4 := Lib.hid (own_keep HO3.out fun g e => hb4.block g (by have := (HO3.out.lt g e).2; omega))
  have HY4 := Lib.hid hy
  have hs4 : w2.heap.size < w4.heap.size := by have := hb4.size; rw [hsz] at this; omega
  clear hy hb4 hsz HD HW3 HN3 HB3 HO3
  have hfit0 : (getD b ((p : Int) + 10) z3 z0).2 = 0 → p + 10 + z3 ≤ m := by
    intro h
    have hl := HBL.out
    unfold getD at h
    split at h
    · cases h
    · split at h
      · cases h
      · omega
  revert HF5 HY4 hfit0
  generalize getD b ((p : Int) + 10) z3 z0 = D
  obtain ⟨d, k2⟩ := D
  intro HF5 HY4 hfit0
  dsimp only at *
  have hb5 : Below w4.heap.size w4 (w4.alloc (.cells #[.slice y.Ab d.bytes.length y.cb, .slice y.Ah d.host.length y.ch, .slice y.Am d.mail.length y.cm, .slice y.An d.nums.length y.cn, .slice y.At d.texts.length y.ct] 26)) := (Below.refl _ _).alloc (Nat.le_refl _) _
  have HW5 := Lib.hid (HW4.out.alloc (.cells #[.slice y.Ab d.bytes.length y.cb, .slice y.Ah d.host.length y.ch, .slice y.Am d.mail.length y.cm, .slice y.An d.nums.length y.cn, .slice y.At d.texts.length y.ct] 26))
  have HN5 := Lib.hid (HN4.out.alloc (.cells #[.slice y.Ab d.bytes.length y.cb, .slice y.Ah d.host.length y.ch, .slice y.Am d.mail.length y.cm, .slice y.An d.nums.length y.cn, .slice y.At d.texts.length y.ct] 26))
  have HB5 := Lib.hid (HB4.out.trans (hb5.mono (by omega)))
  have HO5 := Lib.hid (own_keep HO4.out fun g e => hb5.block g (HO4.out.lt g e).2)
  have HY5 := Lib.hid (HY4.out.keep (fun g hg => hb5.block g hg))
  clear hb5 HW4 HN4 HB4 HO4 HY4
  by_cases hk2 : k2 = 0
  case neg =>
    have b3 : ((k2 : Int) != 0) = true := by rw [bne_iff_ne]; omega
    have HF2 := Lib.hid (show getRR b a = (zeroR, 0, k2) by rw [HF5.out, if_pos hk2])
    clear HF5 hk2 hfit0
    go_wp2_with (
      refine wpList_storeRR w.heap.size 4 48 zeroV zeroR _ rfl rfl rfl rfl HW5.out rfl ?_
      intro V hWV hbv hhv hvs
      have v0 : V.cell? ⟨w.heap.size, 0, none⟩ = some (.slice none 0 0) := Whole.cell (L := [.slice none 0 0, .int .i64 0, .int .i64 0, .int .i64 0, .slice none 0 0, .slice none 0 0, .slice none 0 0, .slice none 0 0, .slice none 0 0]) hWV 0
      have v1 : V.cell? ⟨w.heap.size, 1, none⟩ = some (.int .i64 0) := Whole.cell (L := [.slice none 0 0, .int .i64 0, .int .i64 0, .int .i64 0, .slice none 0 0, .slice none 0 0, .slice none 0 0, .slice none 0 0, .slice none 0 0]) hWV 1
      have v2 : V.cell? ⟨w.heap.size, 2, none⟩ = some (.int .i64 0) := Whole.cell (L := [.slice none 0 0, .int .i64 0, .int .i64 0, .int .i64 0, .slice none 0 0, .slice none 0 0, .slice none 0 0, .slice none 0 0, .slice none 0 0]) hWV 2
      have v3 : V.cell? ⟨w.heap.size, 3, none⟩ = some (.int .i64 0) := Whole.cell (L := [.slice none 0 0, .int .i64 0, .int .i64 0, .int .i64 0, .slice none 0 0, .slice none 0 0, .slice none 0 0, .slice none 0 0, .slice none 0 0]) hWV 3
      have v4 : V.cell? ⟨w.heap.size, 4, none⟩ = some (.slice none 0 0) := Whole.cell (L := [.slice none 0 0, .int .i64 0, .int .i64 0, .int .i64 0, .slice none 0 0, .slice none 0 0, .slice none 0 0, .slice none 0 0, .slice none 0 0]) hWV 4
      have v5 : V.cell? ⟨w.heap.size, 5, none⟩ = some (.slice none 0 0) := Whole.cell (L := [.slice none 0 0, .int .i64 0, .int .i64 0, .int .i64 0, .slice none 0 0, .slice none 0 0, .slice none 0 0, .slice none 0 0, .slice none 0 0]) hWV 5
      have v6 : V.cell? ⟨w.heap.size, 6, none⟩ = some (.slice none 0 0) := Whole.cell (L := [.slice none 0 0, .int .i64 0, .int .i64 0, .int .i64 0, .slice none 0 0, .slice none 0 0, .slice none 0 0, .slice none 0 0, .slice none 0 0]) hWV 6
      have v7 : V.cell? ⟨w.heap.size, 7, none⟩ = some (.slice none 0 0) := Whole.cell (L := [.slice none 0 0, .int .i64 0, .int .i64 0, .int .i64 0, .slice none 0 0, .slice none 0 0, .slice none 0 0, .slice none 0 0, .slice none 0 0]) hWV 7
      have v8 : V.cell? ⟨w.heap.size, 8, none⟩ = some (.slice none 0 0) := Whole.cell (L := [.slice none 0 0, .int .i64 0, .int .i64 0, .int .i64 0, .slice none 0 0, .slice none 0 0, .slice none 0 0, .slice none 0 0, .slice none 0 0]) hWV 8
      have HBV := Lib.hid (HB5.out.trans hbv)
      clear hWV hbv hhv hvs)
    rw [HF2.out]
    refine ⟨rfl, .tuple #[zeroV.val zeroR, .int .i64 ((0 : Nat) : Int), .int .i64 (k2 : Int)], ?_, zeroV, rfl, zero_own _ _, HBV.out⟩
    simp [results, Try.results30, go_sem, v0, v1, v2, v3, v4, v5, v6, v7, v8, zeroV, zeroR]
  have b3 : ((k2 : Int) != 0) = false := by rw [hk2]; rfl
  have HF6 := Lib.hid (HF5.out.trans (if_neg (by omega)))
  have hfit := hfit0 hk2
  clear HF5 hk2 hfit0
  have g0 : (w4.alloc (.cells #[.slice y.Ab d.bytes.length y.cb, .slice y.Ah d.host.length y.ch, .slice y.Am d.mail.length y.cm, .slice y.An d.nums.length y.cn, .slice y.At d.texts.length y.ct] 26)).cell? ⟨w2.heap.size, 0, none⟩ = some (.int .i64 (z0 : Int)) := HN5.out.cell 0
  have g1 : (w4.alloc (.cells #[.slice y.Ab d.bytes.length y.cb, .slice y.Ah d.host.length y.ch, .slice y.Am d.mail.length y.cm, .slice y.An d.nums.length y.cn, .slice y.At d.texts.length y.ct] 26)).cell? ⟨w2.heap.size, 1, none⟩ = some (.int .i64 (z1 : Int)) := HN5.out.cell 1
  have g2 : (w4.alloc (.cells #[.slice y.Ab d.bytes.length y.cb, .slice y.Ah d.host.length y.ch, .slice y.Am d.mail.length y.cm, .slice y.An d.nums.length y.cn, .slice y.At d.texts.length y.ct] 26)).cell? ⟨w2.heap.size, 2, none⟩ = some (.int .i64 (z2 : Int)) := HN5.out.cell 2
  have g3 : (w4.alloc (.cells #[.slice y.Ab d.bytes.length y.cb, .slice y.Ah d.host.length y.ch, .slice y.Am d.mail.length y.cm, .slice y.An d.nums.length y.cn, .slice y.At d.texts.length y.ct] 26)).cell? ⟨w2.heap.size, 3, none⟩ = some (.int .i64 (z3 : Int)) := HN5.out.cell 3
  have r0 : (w4.alloc (.cells #[.slice y.Ab d.bytes.length y.cb, .slice y.Ah d.host.length y.ch, .slice y.Am d.mail.length y.cm, .slice y.An d.nums.length y.cn, .slice y.At d.texts.length y.ct] 26)).cell? ⟨w.heap.size, 0, none⟩ = some (.slice none 0 0) := Whole.cell (L := [.slice none 0 0, .int .i64 0, .int .i64 0, .int .i64 0, .slice none 0 0, .slice none 0 0, .slice none 0 0, .slice none 0 0, .slice none 0 0]) HW5.out 0
  have f0 : (w4.alloc (.cells #[.slice y.Ab d.bytes.length y.cb, .slice y.Ah d.host.length y.ch, .slice y.Am d.mail.length y.cm, .slice y.An d.nums.length y.cn, .slice y.At d.texts.length y.ct] 26)).frozen? ⟨w.heap.size, 0, none⟩ = false := Whole.frozen (L := [.slice none 0 0, .int .i64 0, .int .i64 0, .int .i64 0, .slice none 0 0, .slice none 0 0, .slice none 0 0, .slice none 0 0, .slice none 0 0]) HW5.out 0
  have r1 : (w4.alloc (.cells #[.slice y.Ab d.bytes.length y.cb, .slice y.Ah d.host.length y.ch, .slice y.Am d.mail.length y.cm, .slice y.An d.nums.length y.cn, .slice y.At d.texts.length y.ct] 26)).cell? ⟨w.heap.size, 1, none⟩ = some (.int .i64 0) := Whole.cell (L := [.slice none 0 0, .int .i64 0, .int .i64 0, .int .i64 0, .slice none 0 0, .slice none 0 0, .slice none 0 0, .slice none 0 0, .slice none 0 0]) HW5.out 1
  have f1 : (w4.alloc (.cells #[.slice y.Ab d.bytes.length y.cb, .slice y.Ah d.host.length y.ch, .slice y.Am d.mail.length y.cm, .slice y.An d.nums.length y.cn, .slice y.At d.texts.length y.ct] 26)).frozen? ⟨w.heap.size, 1, none⟩ = false := Whole.frozen (L := [.slice none 0 0, .int .i64 0, .int .i64 0, .int .i64 0, .slice none 0 0, .slice none 0 0, .slice none 0 0, .slice none 0 0, .slice none 0 0]) HW5.out 1
  have r2 : (w4.alloc (.cells #[.slice y.Ab d.bytes.length y.cb, .slice y.Ah d.host.length y.ch, .slice y.Am d.mail.length y.cm, .slice y.An d.nums.length y.cn, .slice y.At d.texts.length y.ct] 26)).cell? ⟨w.heap.size, 2, none⟩ = some (.int .i64 0) := Whole.cell (L := [.slice none 0 0, .int .i64 0, .int .i64 0, .int .i64 0, .slice none 0 0, .slice none 0 0, .slice none 0 0, .slice none 0 0, .slice none 0 0]) HW5.out 2
  have f2 : (w4.alloc (.cells #[.slice y.Ab d.bytes.length y.cb, .slice y.Ah d.host.length y.ch, .slice y.Am d.mail.length y.cm, .slice y.An d.nums.length y.cn, .slice y.At d.texts.length y.ct] 26)).frozen? ⟨w.heap.size, 2, none⟩ = false := Whole.frozen (L := [.slice none 0 0, .int .i64 0, .int .i64 0, .int .i64 0, .slice none 0 0, .slice none 0 0, .slice none 0 0, .slice none 0 0, .slice none 0 0]) HW5.out 2
  have r3 : (w4.alloc (.cells #[.slice y.Ab d.bytes.length y.cb, .slice y.Ah d.host.length y.ch, .slice y.Am d.mail.length y.cm, .slice y.An d.nums.length y.cn, .slice y.At d.texts.length y.ct] 26)).cell? ⟨w.heap.size, 3, none⟩ = some (.int .i64 0) := Whole.cell (L := [.slice none 0 0, .int .i64 0, .int .i64 0, .int .i64 0, .slice none 0 0, .slice none 0 0, .slice none 0 0, .slice none 0 0, .slice none 0 0]) HW5.out 3
  have f3 : (w4.alloc (.cells #[.slice y.Ab d.bytes.length y.cb, .slice y.Ah d.host.length y.ch, .slice y.Am d.mail.length y.cm, .slice y.An d.nums.length y.cn, .slice y.At d.texts.length y.ct] 26)).frozen? ⟨w.heap.size, 3, none⟩ = false := Whole.frozen (L := [.slice none 0 0, .int .i64 0, .int .i64 0, .int .i64 0, .slice none 0 0, .slice none 0 0, .slice none 0 0, .slice none 0 0, .slice none 0 0]) HW5.out 3
  have r4 : (w4.alloc (.cells #[.slice y.Ab d.bytes.length y.cb, .slice y.Ah d.host.length y.ch, .slice y.Am d.mail.length y.cm, .slice y.An d.nums.length y.cn, .slice y.At d.texts.length y.ct] 26)).cell? ⟨w.heap.size, 4, none⟩ = some (.slice none 0 0) := Whole.cell (L := [.slice none 0 0, .int .i64 0, .int .i64 0, .int .i64 0, .slice none 0 0, .slice none 0 0, .slice none 0 0, .slice none 0 0, .slice none 0 0]) HW5.out 4
  have f4 : (w4.alloc (.cells #[.slice y.Ab d.bytes.length y.cb, .slice y.Ah d.host.length y.ch, .slice y.Am d.mail.length y.cm, .slice y.An d.nums.length y.cn, .slice y.At d.texts.length y.ct] 26)).frozen? ⟨w.heap.size, 4, none⟩ = false := Whole.frozen (L := [.slice none 0 0, .int .i64 0, .int .i64 0, .int .i64 0, .slice none 0 0, .slice none 0 0, .slice none 0 0, .slice none 0 0, .slice none 0 0]) HW5.out 4
  have r5 : (w4.alloc (.cells #[.slice y.Ab d.bytes.length y.cb, .slice y.Ah d.host.length y.ch, .slice y.Am d.mail.length y.cm, .slice y.An d.nums.length y.cn, .slice y.At d.texts.length y.ct] 26)).cell? ⟨w.heap.size, 5, none⟩ = some (.slice none 0 0) := Whole.cell (L := [.slice none 0 0, .int .i64 0, .int .i64 0, .int .i64 0, .slice none 0 0, .slice none 0 0, .slice none 0 0, .slice none 0 0, .slice none 0 0]) HW5.out 5
  have f5 : (w4.alloc (.cells #[.slice y.Ab d.bytes.length y.cb, .slice y.Ah d.host.length y.ch, .slice y.Am d.mail.length y.cm, .slice y.An d.nums.length y.cn, .slice y.At d.texts.length y.ct] 26)).frozen? ⟨w.heap.size, 5, none⟩ = false := Whole.frozen (L := [.slice none 0 0, .int .i64 0, .int .i64 0, .int .i64 0, .slice none 0 0, .slice none 0 0, .slice none 0 0, .slice none 0 0, .slice none 0 0]) HW5.out 5
  have r6 : (w4.alloc (.cells #[.slice y.Ab d.bytes.length y.cb, .slice y.Ah d.host.length y.ch, .slice y.Am d.mail.length y.cm, .slice y.An d.nums.length y.cn, .slice y.At d.texts.length y.ct] 26)).cell? ⟨w.heap.size, 6, none⟩ = some (.slice none 0 0) := Whole.cell (L := [.slice none 0 0, .int .i64 0, .int .i64 0, .int .i64 0, .slice none 0 0, .slice none 0 0, .slice none 0 0, .slice none 0 0, .slice none 0 0]) HW5.out 6
  have f6 : (w4.alloc (.cells #[.slice y.Ab d.bytes.length y.cb, .slice y.Ah d.host.length y.ch, .slice y.Am d.mail.length y.cm, .slice y.An d.nums.length y.cn, .slice y.At d.texts.length y.ct] 26)).frozen? ⟨w.heap.size, 6, none⟩ = false := Whole.frozen (L := [.slice none 0 0, .int .i64 0, .int .i64 0, .int .i64 0, .slice none 0 0, .slice none 0 0, .slice none 0 0, .slice none 0 0, .slice none 0 0]) HW5.out 6
  have r7 : (w4.alloc (.cells #[.slice y.Ab d.bytes.length y.cb, .slice y.Ah d.host.length y.ch, .slice y.Am d.mail.length y.cm, .slice y.An d.nums.length y.cn, .slice y.At d.texts.length y.ct] 26)).cell? ⟨w.heap.size, 7, none⟩ = some (.slice none 0 0) := Whole.cell (L := [.slice none 0 0, .int .i64 0, .int .i64 0, .int .i64 0, .slice none 0 0, .slice none 0 0, .slice none 0 0, .slice none 0 0, .slice none 0 0]) HW5.out 7
  have f7 : (w4.alloc (.cells #[.slice y.Ab d.bytes.length y.cb, .slice y.Ah d.host.length y.ch, .slice y.Am d.mail.length y.cm, .slice y.An d.nums.length y.cn, .slice y.At d.texts.length y.ct] 26)).frozen? ⟨w.heap.size, 7, none⟩ = false := Whole.frozen (L := [.slice none 0 0, .int .i64 0, .int .i64 0, .int .i64 0, .slice none 0 0, .slice none 0 0, .slice none 0 0, .slice none 0 0, .slice none 0 0]) HW5.out 7
  have r8 : (w4.alloc (.cells #[.slice y.Ab d.bytes.length y.cb, .slice y.Ah d.host.length y.ch, .slice y.Am d.mail.length y.cm, .slice y.An d.nums.length y.cn, .slice y.At d.texts.length y.ct] 26)).cell? ⟨w.heap.size, 8, none⟩ = some (.slice none 0 0) := Whole.cell (L := [.slice none 0 0, .int .i64 0, .int .i64 0, .int .i64 0, .slice none 0 0, .slice none 0 0, .slice none 0 0, .slice none 0 0, .slice none 0 0]) HW5.out 8
  have f8 : (w4.alloc (.cells #[.slice y.Ab d.bytes.length y.cb, .slice y.Ah d.host.length y.ch, .slice y.Am d.mail.length y.cm, .slice y.An d.nums.length y.cn, .slice y.At d.texts.length y.ct] 26)).frozen? ⟨w.heap.size, 8, none⟩ = false := Whole.frozen (L := [.slice none 0 0, .int .i64 0, .int .i64 0, .int .i64 0, .slice none 0 0, .slice none 0 0, .slice none 0 0, .slice none 0 0, .slice none 0 0]) HW5.out 8
  go_wp2
  go_region
  obtain ⟨V, hV⟩ : ∃ V, V = (((((((((w4.alloc (.cells #[.slice y.Ab d.bytes.length y.cb, .slice y.Ah d.host.length y.ch, .slice y.Am d.mail.length y.cm, .slice y.An d.nums.length y.cn, .slice y.At d.texts.length y.ct] 26)).setCell ⟨w.heap.size, 0, none⟩ (.slice A1 n.length c1)).setCell ⟨w.heap.size, 1, none⟩ (.int .i64 (z0 : Int))).setCell ⟨w.heap.size, 2, none⟩ (.int .i64 (z1 : Int))).setCell ⟨w.heap.size, 3, none⟩ (.int .i64 (z2 : Int))).setCell ⟨w.heap.size, 4, none⟩ (.slice y.Ab d.bytes.length y.cb)).setCell ⟨w.heap.size, 5, none⟩ (.slice y.Ah d.host.length y.ch)).setCell ⟨w.heap.size, 6, none⟩ (.slice y.Am d.mail.length y.cm)).setCell ⟨w.heap.size, 7, none⟩ (.slice y.An d.nums.length y.cn)).setCell ⟨w.heap.size, 8, none⟩ (.slice y.At d.texts.length y.ct) := ⟨_, rfl⟩
  rw [← hV]
  have HWV := Lib.hid (show Whole V w.heap.size 51 [.slice A1 n.length c1, .int .i64 (z0 : Int), .int .i64 (z1 : Int), .int .i64 (z2 : Int), .slice y.Ab d.bytes.length y.cb, .slice y.Ah d.host.length y.ch, .slice y.Am d.mail.length y.cm, .slice y.An d.nums.length y.cn, .slice y.At d.texts.length y.ct] by rw [hV]; exact ((((((((HW5.out.set_ 0 _).set_ 1 _).set_ 2 _).set_ 3 _).set_ 4 _).set_ 5 _).set_ 6 _).set_ 7 _).set_ 8 _)
  have hbv : Below w.heap.size (w4.alloc (.cells #[.slice y.Ab d.bytes.length y.cb, .slice y.Ah d.host.length y.ch, .slice y.Am d.mail.length y.cm, .slice y.An d.nums.length y.cn, .slice y.At d.texts.length y.ct] 26)) V := by
    rw [hV]
    have hs (W : World) (i : Nat) (u : Value) : Below w.heap.size W (W.setCell ⟨w.heap.size, i, none⟩ u) := (Below.refl _ W).setCell (p := ⟨w.heap.size, i, none⟩) (Nat.le_refl _) u
    exact ((((((((hs _ 0 _).trans (hs _ 1 _)).trans (hs _ 2 _)).trans (hs _ 3 _)).trans (hs _ 4 _)).trans (hs _ 5 _)).trans (hs _ 6 _)).trans (hs _ 7 _)).trans (hs _ 8 _)
  have hhv : ∀ j, j ≠ w.heap.size → V.heap[j]? = (w4.alloc (.cells #[.slice y.Ab d.bytes.length y.cb, .slice y.Ah d.host.length y.ch, .slice y.Am d.mail.length y.cm, .slice y.An d.nums.length y.cn, .slice y.At d.texts.length y.ct] 26)).heap[j]? := fun j hj => by
    rw [hV]
    have hs (W : World) (i : Nat) (u : Value) : (W.setCell ⟨w.heap.size, i, none⟩ u).heap[j]? = W.heap[j]? := Below.heap_setCell W ⟨w.heap.size, i, none⟩ u j hj
    rw [hs, hs, hs, hs, hs, hs, hs, hs, hs]
  have HBV := Lib.hid (HB5.out.trans hbv)
  have hs0' : w.heap.size + 1 ≤ (w.alloc (.cells #[.slice none 0 0, .int .i64 0, .int .i64 0, .int .i64 0, .slice none 0 0, .slice none 0 0, .slice none 0 0, .slice none 0 0, .slice none 0 0] 51)).heap.size := by simp
  have HOV := Lib.hid (show OwnR V w.heap.size ⟨A1, c1, y⟩ ⟨n, z0, z1, z2, d⟩ from by
    have hk : ∀ {B : Nat} {e : TypeId} {s m : Nat} {u : Value} {ys : List Value}, (w4.alloc (.cells #[.slice y.Ab d.bytes.length y.cb, .slice y.Ah d.host.length y.ch, .slice y.Am d.mail.length y.cm, .slice y.An d.nums.length y.cn, .slice y.At d.texts.length y.ct] 26)).ownsRow B e s u m ys → w.heap.size + 1 ≤ B → ∀ g, u.ownBlock = some g → V.heap[g]? = (w4.alloc (.cells #[.slice y.Ab d.bytes.length y.cb, .slice y.Ah d.host.length y.ch, .slice y.Am d.mail.length y.cm, .slice y.An d.nums.length y.cn, .slice y.At d.texts.length y.ct] 26)).heap[g]? := fun ho hB g hj => hhv g (by have := (ho.lt g hj).1; omega)
    have hd := HY5.out
    have hq : w.heap.size + 1 ≤ w2.heap.size + 1 := by omega
    exact ⟨own_mono (own_keep HO5.out (hk HO5.out hs0')) (by omega), OwnD.monoB ⟨own_keep hd.b (hk hd.b hq), own_keep hd.h (hk hd.h hq), own_keep hd.m (hk hd.m hq), own_keep hd.n (hk hd.n hq), own_keep hd.t (hk hd.t hq)⟩ (by omega)⟩)
  have v0 : V.cell? ⟨w.heap.size, 0, none⟩ = some (.slice A1 n.length c1) := Whole.cell (L := [.slice A1 n.length c1, .int .i64 (z0 : Int), .int .i64 (z1 : Int), .int .i64 (z2 : Int), .slice y.Ab d.bytes.length y.cb, .slice y.Ah d.host.length y.ch, .slice y.Am d.mail.length y.cm, .slice y.An d.nums.length y.cn, .slice y.At d.texts.length y.ct]) HWV.out 0
  have v1 : V.cell? ⟨w.heap.size, 1, none⟩ = some (.int .i64 (z0 : Int)) := Whole.cell (L := [.slice A1 n.length c1, .int .i64 (z0 : Int), .int .i64 (z1 : Int), .int .i64 (z2 : Int), .slice y.Ab d.bytes.length y.cb, .slice y.Ah d.host.length y.ch, .slice y.Am d.mail.length y.cm, .slice y.An d.nums.length y.cn, .slice y.At d.texts.length y.ct]) HWV.out 1
  have v2 : V.cell? ⟨w.heap.size, 2, none⟩ = some (.int .i64 (z1 : Int)) := Whole.cell (L := [.slice A1 n.length c1, .int .i64 (z0 : Int), .int .i64 (z1 : Int), .int .i64 (z2 : Int), .slice y.Ab d.bytes.length y.cb, .slice y.Ah d.host.length y.ch, .slice y.Am d.mail.length y.cm, .slice y.An d.nums.length y.cn, .slice y.At d.texts.length y.ct]) HWV.out 2
  have v3 : V.cell? ⟨w.heap.size, 3, none⟩ = some (.int .i64 (z2 : Int)) := Whole.cell (L := [.slice A1 n.length c1, .int .i64 (z0 : Int), .int .i64 (z1 : Int), .int .i64 (z2 : Int), .slice y.Ab d.bytes.length y.cb, .slice y.Ah d.host.length y.ch, .slice y.Am d.mail.length y.cm, .slice y.An d.nums.length y.cn, .slice y.At d.texts.length y.ct]) HWV.out 3
  have v4 : V.cell? ⟨w.heap.size, 4, none⟩ = some (.slice y.Ab d.bytes.length y.cb) := Whole.cell (L := [.slice A1 n.length c1, .int .i64 (z0 : Int), .int .i64 (z1 : Int), .int .i64 (z2 : Int), .slice y.Ab d.bytes.length y.cb, .slice y.Ah d.host.length y.ch, .slice y.Am d.mail.length y.cm, .slice y.An d.nums.length y.cn, .slice y.At d.texts.length y.ct]) HWV.out 4
  have v5 : V.cell? ⟨w.heap.size, 5, none⟩ = some (.slice y.Ah d.host.length y.ch) := Whole.cell (L := [.slice A1 n.length c1, .int .i64 (z0 : Int), .int .i64 (z1 : Int), .int .i64 (z2 : Int), .slice y.Ab d.bytes.length y.cb, .slice y.Ah d.host.length y.ch, .slice y.Am d.mail.length y.cm, .slice y.An d.nums.length y.cn, .slice y.At d.texts.length y.ct]) HWV.out 5
  have v6 : V.cell? ⟨w.heap.size, 6, none⟩ = some (.slice y.Am d.mail.length y.cm) := Whole.cell (L := [.slice A1 n.length c1, .int .i64 (z0 : Int), .int .i64 (z1 : Int), .int .i64 (z2 : Int), .slice y.Ab d.bytes.length y.cb, .slice y.Ah d.host.length y.ch, .slice y.Am d.mail.length y.cm, .slice y.An d.nums.length y.cn, .slice y.At d.texts.length y.ct]) HWV.out 6
  have v7 : V.cell? ⟨w.heap.size, 7, none⟩ = some (.slice y.An d.nums.length y.cn) := Whole.cell (L := [.slice A1 n.length c1, .int .i64 (z0 : Int), .int .i64 (z1 : Int), .int .i64 (z2 : Int), .slice y.Ab d.bytes.length y.cb, .slice y.Ah d.host.length y.ch, .slice y.Am d.mail.length y.cm, .slice y.An d.nums.length y.cn, .slice y.At d.texts.length y.ct]) HWV.out 7
  have v8 : V.cell? ⟨w.heap.size, 8, none⟩ = some (.slice y.At d.texts.length y.ct) := Whole.cell (L := [.slice A1 n.length c1, .int .i64 (z0 : Int), .int .i64 (z1 : Int), .int .i64 (z2 : Int), .slice y.Ab d.bytes.length y.cb, .slice y.Ah d.host.length y.ch, .slice y.Am d.mail.length y.cm, .slice y.An d.nums.length y.cn, .slice y.At d.texts.length y.ct]) HWV.out 8
  clear hV hbv hhv r0 f0 r1 f1 r2 f2 r3 f3 r4 f4 r5 f5 r6 f6 r7 f7 r8 f8 g0 g1 g2 g3
  go_wp2
  have HF7 := Lib.hid (show getRR b a = (⟨n, z0, z1, z2, d⟩, p + 10 + z3, 0) from HF6.out)
  rw [HF7.out]
  refine ⟨rfl, .tuple #[RV.val ⟨A1, c1, y⟩ ⟨n, z0, z1, z2, d⟩, .int .i64 ((p + 10 + z3 : Nat) : Int), .int .i64 ((0 : Nat) : Int)], ?_, ⟨A1, c1, y⟩, rfl, HOV.out.keep (fun _ _ => rfl), HBV.out.drew⟩
  simp [results, Try.results30, go_sem, v0, v1, v2, v3, v4, v5, v6, v7, v8]

end Go.Proofs.Ytjjmllbkfbdcnaa

namespace Go.Proofs.Ytjjmllbkfbdcnaa
open Go.RowKit

/-- What stands where. -/
theorem partsR {s : Sh} {d : Dt} (X : List UInt8) {R : Rs} (G0 : GoodR X R) (sp : SoundP s d) : ∃ B1 x2 x3 : List UInt8,
    (putD s d X R).1 = ((x3 ++ numsW 4 (d.nums.drop s.ahead)) ++ textsW d.texts) ++ d.bytes ∧ B1 = X ++ numsW 2 (d.nums.take s.ahead) ∧ (∃ S, x2 = B1 ++ S) ∧ (∃ S, x3 = x2 ++ S) ∧
    (∀ C en, x2.length ≤ en → (if s.host = true then nameR (x2 ++ C) B1.length en else .ok ([], B1.length)) = .ok (d.host, x2.length)) ∧
    (∀ C en, x3.length ≤ en → (if s.mail = true then nameR (x3 ++ C) x2.length en else .ok ([], x2.length)) = .ok (d.mail, x3.length)) ∧
    (s.host = true → B1.length < x2.length ∧ ∀ C en, en < x2.length → nameR (x2 ++ C) B1.length en = .error 3) ∧ (s.host = false → x2 = B1) ∧ (s.mail = false → x3 = x2) ∧ GoodR (putD s d X R).1 (putD s d X R).2 := by
  obtain ⟨B1, hB1⟩ : ∃ x, x = X ++ numsW 2 (d.nums.take s.ahead) := ⟨_, rfl⟩
  have G1 : GoodR B1 R := by rw [hB1]; exact G0.more _
  obtain ⟨x2, hx2⟩ : ∃ x, x = putH s d X R := ⟨_, rfl⟩
  have h2 : (∃ S, x2.1 = B1 ++ S) ∧ GoodR x2.1 x2.2 ∧ (∀ C en, x2.1.length ≤ en → (if s.host = true then nameR (x2.1 ++ C) B1.length en else .ok ([], B1.length)) = .ok (d.host, x2.1.length)) ∧
      (s.host = true → B1.length < x2.1.length ∧ ∀ C en, en < x2.1.length → nameR (x2.1 ++ C) B1.length en = .error 3) ∧ (s.host = false → x2.1 = B1) := by
    cases hh : s.host
    · have e : x2 = (B1, R) := by rw [hx2, putH, hh, if_neg (by decide), hB1]
      rw [e, sp.h0 hh]
      exact ⟨⟨[], by simp⟩, G1, fun C en _ => rfl, fun h => (by cases h), fun _ => rfl⟩
    · have hs := soundN_parts (sp.h hh)
      have e : x2 = nameW s.short d.host B1 R := by rw [hx2, putH, hh, if_pos rfl, hB1]
      obtain ⟨hS, hat, hg⟩ := nameW_good (short := s.short) hs.1 G1
      rw [← e] at hS hat hg
      refine ⟨hS, hg, fun C en he => ?_, fun _ => ⟨hat.pos, fun C en he => ?_⟩, fun h => (by cases h)⟩
      · rw [if_pos rfl]
        exact (nameR_back (en := en) (hat.more C) (by have := hat.pos; omega) hs.2).2.1 he
      · exact (nameR_back (en := en) (hat.more C) (by have := hat.pos; omega) hs.2).2.2 he
  obtain ⟨hS2, G2, R2, E2, N2⟩ := h2
  obtain ⟨x3, hx3⟩ : ∃ x, x = putM s d x2 := ⟨_, rfl⟩
  have h3 : (∃ S, x3.1 = x2.1 ++ S) ∧ GoodR x3.1 x3.2 ∧ (∀ C en, x3.1.length ≤ en → (if s.mail = true then nameR (x3.1 ++ C) x2.1.length en else .ok ([], x2.1.length)) = .ok (d.mail, x3.1.length)) ∧ (s.mail = false → x3.1 = x2.1) := by
    cases hh : s.mail
    · have e : x3 = x2 := by rw [hx3, putM, hh, if_neg (by decide)]
      rw [e, sp.m0 hh]
      exact ⟨⟨[], by simp⟩, G2, fun C en _ => rfl, fun _ => rfl⟩
    · have hs := soundN_parts (sp.m hh)
      have e : x3 = nameW s.short d.mail x2.1 x2.2 := by rw [hx3, putM, hh, if_pos rfl]
      obtain ⟨hS, hat, hg⟩ := nameW_good (short := s.short) hs.1 G2
      rw [← e] at hS hat hg
      refine ⟨hS, hg, fun C en he => ?_, fun h => (by cases h)⟩
      rw [if_pos rfl]
      exact (nameR_back (en := en) (hat.more C) (by have := hat.pos; omega) hs.2).2.1 he
  obtain ⟨hS3, G3, R3, N3⟩ := h3
  exact ⟨B1, x2.1, x3.1, by rw [putD, ← hx2, ← hx3], hB1, hS2, hS3, R2, R3, E2, N2, N3, by rw [putD, ← hx2, ← hx3]; exact ((G3.more _).more _).more _⟩

/-- The data that was written is read, whatever stands ahead and behind. -/
theorem readR {s : Sh} {d : Dt} {X Y : List UInt8} {R : Rs} (G0 : GoodR X R) (sp : SoundP s d) (sh : ShP s) : readD ((putD s d X R).1 ++ Y) X.length (putD s d X R).1.length s = .ok d := by
  have hn := nums_fit sp.ok
  have hlt : (d.nums.take s.ahead).length = s.ahead := by rw [List.length_take, sp.n]; omega
  have hld : (d.nums.drop s.ahead).length = s.behind := by rw [List.length_drop, sp.n]; omega
  obtain ⟨B1, x2, x3, hput, hB1, ⟨S2, hS2⟩, ⟨S3, hS3⟩, R2, R3, _, _, _, _⟩ := partsR X G0 sp
  rw [hput]
  obtain ⟨T, hT⟩ : ∃ T, T = (((x3 ++ numsW 4 (d.nums.drop s.ahead)) ++ textsW d.texts) ++ d.bytes) ++ Y := ⟨_, rfl⟩
  obtain ⟨en, hen⟩ : ∃ en, en = (((x3 ++ numsW 4 (d.nums.drop s.ahead)) ++ textsW d.texts) ++ d.bytes).length := ⟨_, rfl⟩
  rw [← hT, ← hen]
  have l1 : x3.length ≤ en := by rw [hen]; simp only [List.length_append]; omega
  have l2 : x2.length ≤ x3.length := by rw [hS3, List.length_append]; omega
  have l3 : B1.length ≤ x2.length := by rw [hS2, List.length_append]; omega
  have q1 : numsR T X.length en 2 s.ahead = .ok (d.nums.take s.ahead, B1.length) := by
    have hTx : T = (X ++ numsW ((2 : Nat) : Int) (d.nums.take s.ahead)) ++ ((S2 ++ S3) ++ (numsW 4 (d.nums.drop s.ahead) ++ (textsW d.texts ++ (d.bytes ++ Y)))) := by
      rw [hT, hS3, hS2, hB1]
      simp [List.append_assoc]
    have hle : (X ++ numsW ((2 : Nat) : Int) (d.nums.take s.ahead)).length ≤ en := by
      have h1 : B1.length ≤ en := by omega
      rw [hB1] at h1
      exact h1
    have h := numsR_back (X := X) (Y := (S2 ++ S3) ++ (numsW 4 (d.nums.drop s.ahead) ++ (textsW d.texts ++ (d.bytes ++ Y)))) (en := en) hlt hn.1 hle
    rw [← hTx] at h
    rw [hB1]
    exact h
  have q2 := R2 (S3 ++ (numsW 4 (d.nums.drop s.ahead) ++ (textsW d.texts ++ (d.bytes ++ Y)))) en (by omega)
  rw [show x2 ++ (S3 ++ (numsW 4 (d.nums.drop s.ahead) ++ (textsW d.texts ++ (d.bytes ++ Y)))) = T by rw [hT, hS3]; simp [List.append_assoc]] at q2
  have q3 := R3 (numsW 4 (d.nums.drop s.ahead) ++ (textsW d.texts ++ (d.bytes ++ Y))) en l1
  rw [show x3 ++ (numsW 4 (d.nums.drop s.ahead) ++ (textsW d.texts ++ (d.bytes ++ Y))) = T by rw [hT]; simp [List.append_assoc]] at q3
  have l4 : (x3 ++ numsW 4 (d.nums.drop s.ahead)).length ≤ en := by rw [hen]; simp only [List.length_append]; omega
  have q4 : numsR T x3.length en 4 s.behind = .ok (d.nums.drop s.ahead, (x3 ++ numsW 4 (d.nums.drop s.ahead)).length) := by
    have h := numsR_back (s := 4) (X := x3) (Y := textsW d.texts ++ (d.bytes ++ Y)) (en := en) hld hn.2 l4
    rw [show (x3 ++ numsW ((4 : Nat) : Int) (d.nums.drop s.ahead)) ++ (textsW d.texts ++ (d.bytes ++ Y)) = T by rw [hT]; simp [List.append_assoc]] at h
    exact h
  obtain ⟨x4, hx4⟩ : ∃ x, x = x3 ++ numsW 4 (d.nums.drop s.ahead) := ⟨_, rfl⟩
  rw [← hx4] at q4 l4 hT hen
  have q5 : (if s.texts = true then textsR T x4.length en [] else .ok ([], x4.length)) = .ok (d.texts, (x4 ++ textsW d.texts).length) := by
    cases ht : s.texts
    · rw [sp.t0 ht, if_neg (by decide)]
      simp [textsW]
    · rw [if_pos rfl]
      have hb0 : d.bytes = [] := List.eq_nil_of_length_eq_zero (by have h1 := sp.b; have h2 := (sh.t ht).2.2.2.2.2; omega)
      have h := textsR_back d.texts [] x4 Y (by rw [List.nil_append]; intro e; have := sp.t1 ht; rw [e] at this; simp at this) (by have := sp.t; simpa using this) sp.tl
      have e1 : (x4 ++ textsW d.texts) ++ Y = T := by rw [hT, hb0]; simp
      have e2 : (x4 ++ textsW d.texts).length = en := by rw [hen, hb0]; simp
      rw [e1, e2, List.nil_append] at h
      rw [e2]
      exact h
  have q6 : bytesR T (x4 ++ textsW d.texts).length en s.least s.most = .ok (d.bytes, en) := by
    have h := bytesR_back (X := x4 ++ textsW d.texts) (Y := Y) sp.bl sp.b
    rw [← hT, ← hen] at h
    exact h
  unfold readD
  rw [q1]
  simp only [bind, Except.bind]
  rw [q2]
  simp only []
  rw [q3]
  simp only []
  rw [q4]
  simp only []
  rw [q5]
  simp only []
  rw [q6]
  simp


/-- The read of what was written. -/
theorem getR_data {k : Int} {d : Dt} {X Y : List UInt8} {R : Rs} (G0 : GoodR X R) (hs : soundD k d = true) : X.length ≤ (putD (shN k) d X R).1.length ∧ (∃ S, (putD (shN k) d X R).1 = X ++ S) ∧ GoodR (putD (shN k) d X R).1 (putD (shN k) d X R).2 ∧
    getD ((putD (shN k) d X R).1 ++ Y) X.length (((putD (shN k) d X R).1.length - X.length : Nat) : Int) k = (d, 0) := by
  have sp := soundP hs
  have hk : kindB k = true := by unfold soundD at hs; simp only [Bool.and_eq_true] at hs; exact hs.1
  obtain ⟨B1, x2, x3, hput, hB1, ⟨S2, hS2⟩, ⟨S3, hS3⟩, _, _, _, _, _, hg⟩ := partsR X G0 sp
  have hS : ∃ S, (putD (shN k) d X R).1 = X ++ S := ⟨_, by rw [hput, hS3, hS2, hB1]; simp only [List.append_assoc]; rfl⟩
  have hle : X.length ≤ (putD (shN k) d X R).1.length := by obtain ⟨S, e⟩ := hS; rw [e, List.length_append]; omega
  have hr := readR (Y := Y) G0 sp (shP k)
  refine ⟨hle, hS, hg, ?_⟩
  unfold getD
  rw [if_neg (by rw [hk]; first | (simp; done) | (simp; omega)), if_neg (by rw [List.length_append]; omega), Int.toNat_natCast, show ((X.length : Int) + (((putD (shN k) d X R).1.length - X.length : Nat) : Int)).toNat = (putD (shN k) d X R).1.length by omega, hr]

/-- What is written of a name hangs on the place alone. -/
theorem nameW_shift (short : Bool) : ∀ (n : List (List UInt8)) (B C : List UInt8) (R : Rs), B.length = C.length → ∃ W R', nameW short n B R = (B ++ W, R') ∧ nameW short n C R = (C ++ W, R')
  | [], B, C, R, _ => ⟨[0], R, rfl, rfl⟩
  | l :: n, B, C, R, h => by
    cases hf : findR R (l :: n) with
    | none =>
      obtain ⟨W, R', h1, h2⟩ := nameW_shift short n (B ++ UInt8.ofNat l.length :: l) (C ++ UInt8.ofNat l.length :: l) (if B.length < 16384 then R ++ [(l :: n, B.length)] else R) (by simp [h])
      refine ⟨(UInt8.ofNat l.length :: l) ++ W, R', ?_, ?_⟩
      · rw [nameW_miss hf, h1]; simp
      · rw [nameW_miss hf, ← h, h2]; simp
    | some k =>
      cases short with
      | false =>
        obtain ⟨W, R', h1, h2⟩ := nameW_shift false n (B ++ UInt8.ofNat l.length :: l) (C ++ UInt8.ofNat l.length :: l) (if B.length < 16384 then R ++ [(l :: n, B.length)] else R) (by simp [h])
        refine ⟨(UInt8.ofNat l.length :: l) ++ W, R', ?_, ?_⟩
        · rw [nameW_long, h1]; simp
        · rw [nameW_long, ← h, h2]; simp
      | true => exact ⟨digs (49152 + k) 2, R, nameW_hit hf, nameW_hit hf⟩
theorem putD_shift (s : Sh) (d : Dt) (B C : List UInt8) (R : Rs) (h : B.length = C.length) : ∃ W R', putD s d B R = (B ++ W, R') ∧ putD s d C R = (C ++ W, R') := by
  have hH : ∃ W R', putH s d B R = (B ++ W, R') ∧ putH s d C R = (C ++ W, R') := by
    unfold putH
    split
    · obtain ⟨W, R', h1, h2⟩ := nameW_shift s.short d.host (B ++ numsW 2 (d.nums.take s.ahead)) (C ++ numsW 2 (d.nums.take s.ahead)) R (by simp [h])
      exact ⟨numsW 2 (d.nums.take s.ahead) ++ W, R', by rw [h1]; simp, by rw [h2]; simp⟩
    · exact ⟨numsW 2 (d.nums.take s.ahead), R, rfl, rfl⟩
  obtain ⟨W, R1, h1, h2⟩ := hH
  have hM : ∃ W2 R', putM s d (B ++ W, R1) = (B ++ W2, R') ∧ putM s d (C ++ W, R1) = (C ++ W2, R') := by
    unfold putM
    split
    · obtain ⟨W2, R', h3, h4⟩ := nameW_shift s.short d.mail (B ++ W) (C ++ W) R1 (by simp [h])
      exact ⟨W ++ W2, R', by rw [h3]; simp, by rw [h4]; simp⟩
    · exact ⟨W, R1, rfl, rfl⟩
  obtain ⟨W2, R', h3, h4⟩ := hM
  refine ⟨(W2 ++ numsW 4 (d.nums.drop s.ahead)) ++ textsW d.texts ++ d.bytes, R', ?_, ?_⟩
  · unfold putD
    rw [h1, h3]
    simp
  · unfold putD
    rw [h2, h4]
    simp

end Go.Proofs.Ytjjmllbkfbdcnaa

namespace Go.Proofs.Ytjjmllbkfbdcnaa
open Go.RowKit

/-- copy into a row that is known whole, as one step of a region that draws: nothing but that row turns. -/
theorem step_copy_at {P : Program} {ops : Array Oper} {o : Oper} {a : Act} {w : World} {K : Act → World → Prop} {Q : Exit → Act → World → Prop} {E : Prop} (hgd : o.guard = none) (d s : Operand) (dT sT : TypeId)
    (ho : o.op = .call { callee := .builtin .copy, args := #[d, s], argTypes := #[dT, sT] }) (elem : TypeId) (hu : P.underlying dT = some (.slice elem)) (hsz : (P.info? elem).map (·.size) = some 1)
    (sp : Option Addr) (dLen dCap sLen sCap : Nat) (g off : Nat) (hd : a.eval d = .slice (some ⟨g, off, none⟩) dLen dCap) (hs : a.eval s = .slice sp sLen sCap)
    (cur : List Value) (t : TypeId) (hg : w.heap[g]? = some (.cells cur.toArray t (0, 0))) (H : Nat) (cs : List Value) (hn : cs.length = Nat.min sLen dLen) (hpos : 0 < cs.length) (hr : Row w H sp cs)
    (hfit : off + cs.length ≤ cur.length) (h1 : ∀ v ∈ cs, v.oneCell' = true)
    (h : ∀ w', Hid (w'.heap[g]? = some (.cells (splice cur off cs).toArray t (0, 0))) → Grew (· = g) w w' → K (a.put o.dst (goInt cs.length)) w') :
    if Region.wanted o (yielded ops a.tmps) = true then Oper.wp P o a w K Q else E := by
  have hw : Region.wanted o (yielded ops a.tmps) = true := by simp [Region.wanted, hgd]
  rw [if_pos hw]
  obtain ⟨ad, rfl, hsrc⟩ := hr.pos hpos
  have hrun := run_copy_row (P := P) w dT sT o.type elem g off dLen dCap ad sLen sCap cur.toArray t cs hu hsz hg hn hsrc (by simpa using hfit) h1
  unfold Oper.wp
  simp [execOp, ho, resolve, invoke, builtin, hd, hs, hrun, Result.andThen]
  refine h _ (show _ = _ by simpa [splice] using setRow_heap w g _ _ t _ hg) ⟨rfl, rfl, rfl, by simp, fun k _ hk => ?_⟩
  exact setRow_other w g k _ hk

/-- B with l in the place of the bytes from p on. -/
def setB (B : List UInt8) (p : Nat) (l : List UInt8) : List UInt8 := B.take p ++ (l ++ B.drop (p + l.length))
theorem length_setB {B : List UInt8} {p : Nat} {l : List UInt8} (h : p + l.length ≤ B.length) : (setB B p l).length = B.length := by
  simp [setB]; omega
theorem take_splice {α : Type} {L M : List α} {p m : Nat} {cs : List α} (hL : L.take m = M) (hm : M.length = m) (hp : p + cs.length ≤ m) : (splice L p cs).take m = M.take p ++ (cs ++ M.drop (p + cs.length)) := by
  have hml : m ≤ L.length := by rw [← hL, List.length_take] at hm; omega
  unfold splice
  rw [← hL, List.take_take, Nat.min_eq_left (by omega), List.take_append, List.take_append]
  simp only [List.length_take, List.drop_take]
  congr 1
  · rw [List.take_take]; congr 1; omega
  · congr 1
    · exact List.take_of_length_le (by omega)
    · congr 1; omega

set_option maxHeartbeats 400000 in
theorem set_misfit (p : Value) (q n s : Int) (w : World) (hf : fitB n s = false) :
    Calls Try.prog 61 #[p, .int .i64 q, .int .i64 n, .int .i64 s] w (Told w (.int .i64 1)) := by
  have HF := Lib.hid (fun W => fits_any n s W)
  rw [hf] at HF
  clear hf
  go_enter Try.func61, Try.ntmps61
  go_wp2_with fail
  refine (HF.out _).mono ?_
  rintro e w' ⟨rfl, rfl⟩
  go_wp2
  go_ret
  exact ⟨rfl, rfl⟩

set_option maxHeartbeats 400000 in
theorem set_neg (p : Value) (q n s : Int) (w : World) (hf : fitB n s = true) (hq : q < 0) :
    Calls Try.prog 61 #[p, .int .i64 q, .int .i64 n, .int .i64 s] w (Told w (.int .i64 1)) := by
  have HF := Lib.hid (fun W => fits_any n s W)
  rw [hf] at HF
  have d1 : decide (q < 0) = true := by simp; omega
  clear hf
  go_enter Try.func61, Try.ntmps61
  go_wp2_with fail
  refine (HF.out _).mono ?_
  rintro e w' ⟨rfl, rfl⟩
  go_wp2
  go_ret
  exact ⟨rfl, rfl⟩

theorem fitB_size {n s : Int} (hf : fitB n s = true) : 1 ≤ s ∧ s ≤ 7 ∧ 0 ≤ n := by
  simp only [fitB, decide_eq_true_eq] at hf
  exact ⟨hf.1, hf.2.1, hf.2.2.1⟩

set_option maxHeartbeats 400000 in
theorem set_far (base : Nat) (w : World) (g : Nat) (vB vM : Value) (B : List UInt8) (R : Rs) (q n s : Int) (h : Wr w base g vB vM B R) (hB : B.length ≤ 1000000000) (hf : fitB n s = true) (hq : 0 ≤ q) (hq2 : (B.length : Int) - s < q) :
    Calls Try.prog 61 #[.pointer (some ⟨g, 0, none⟩), .int .i64 q, .int .i64 n, .int .i64 s] w (Told w (.int .i64 1)) := by
  have HF := Lib.hid (fun W => fits_any n s W)
  rw [hf] at HF
  obtain ⟨hs1, hs2, _⟩ := fitB_size hf
  have HL := Lib.hid (len_any base w g vB vM B R h)
  have d1 : decide (q < 0) = false := by simp; omega
  have d2 : decide ((B.length : Int) - s < q) = true := by simp; omega
  clear hf h
  go_enter Try.func61, Try.ntmps61
  go_wp2_with fail
  refine (HF.out _).mono ?_
  rintro e w' ⟨rfl, rfl⟩
  go_wp2_with fail
  refine HL.out.mono ?_
  rintro e w' ⟨rfl, rfl⟩
  go_wp2
  go_ret
  exact ⟨rfl, rfl⟩

set_option maxHeartbeats 400000 in
theorem set_nil (w : World) : Calls Try.prog 61 #[.pointer none, .int .i64 0, .int .i64 0, .int .i64 1] w (Told w (.int .i64 1)) := by
  have HF := Lib.hid (fun W => fits_any 0 1 W)
  rw [show fitB 0 1 = true by decide +kernel] at HF
  go_enter Try.func61, Try.ntmps61
  go_wp2_with fail
  refine (HF.out _).mono ?_
  rintro e w' ⟨rfl, rfl⟩
  go_wp2_with fail
  refine (len_nil _).mono ?_
  rintro e w' ⟨rfl, rfl⟩
  go_wp2
  go_ret
  exact ⟨rfl, rfl⟩

set_option maxRecDepth 20000 in
set_option maxHeartbeats 2000000 in
theorem set_ok (base : Nat) (w : World) (g : Nat) (vB vM : Value) (B : List UInt8) (R : Rs) (q n s : Nat) (h : Wr w base g vB vM B R) (hB : B.length ≤ 1000000000) (hf : fitB n s = true) (hq : q + s ≤ B.length) :
    Calls Try.prog 61 #[.pointer (some ⟨g, 0, none⟩), .int .i64 q, .int .i64 n, .int .i64 s] w (fun e w' => e = .returned (.int .i64 0) ∧ Penned base w g vB vM (setB B q (digs n s)) R w') := by
  have HF := Lib.hid (fun W => fits_any n s W)
  rw [hf] at HF
  obtain ⟨hs1, hs2, _⟩ := fitB_size hf
  have HL := Lib.hid (len_any base w g vB vM B R h)
  have HP := Lib.hid (fun W => put_any none 0 0 0 [] (n : Int) (s : Int) W rfl (Row.empty _ _ _) (by omega) (by omega))
  rw [putL_yes hf, List.nil_append] at HP
  have hdl := length_digs n s
  have hbs := h.size
  have hgl := h.blk.lt
  have hap := h.apart
  rcases h.row.2 with ⟨_, h0⟩ | ⟨gB, cap, cur, rfl, hgB, hcur, hcap, hcm, hcs, htk⟩
  · omega
  have hBl := (h.row.lt gB rfl).2
  have h0 := h.c0
  have hgne : gB ≠ g := fun e => hap.1 (by rw [← e]; rfl)
  have d1 : decide ((q : Int) < 0) = false := by simp
  have d2 : decide ((B.length : Int) - (s : Int) < (q : Int)) = false := by simp; omega
  have e0 : (0 : Int) ≤ q := by omega
  have e1 : (q : Int) ≤ (B.length : Int) := by omega
  have hcf : (cap = q) = False := by simp; omega
  have hw1 : w.heap.size = w.drew.heap.size := rfl
  have HW := Lib.hid h
  have HCUR := Lib.hid hcur
  have HCS := Lib.hid hcs
  have HTK := Lib.hid htk
  have HD := Lib.hid hdl
  have HAP := Lib.hid hap
  clear h hf hcur hcs htk hdl hw1 hap
  go_enter Try.func61, Try.ntmps61
  go_wp2_with fail
  refine (HF.out _).mono ?_
  rintro e w' ⟨rfl, rfl⟩
  go_wp2_with fail
  refine HL.out.mono ?_
  rintro e w' ⟨rfl, rfl⟩
  go_wp2
  go_region_held3 (fun w' => w'.cell? ⟨g, 0, none⟩ = some (.slice (some ⟨gB, 0, none⟩) B.length cap))
    (first | go_keep)
    ((first
      | (go_at_call 82
         refine (HP.out _).mono ?_
         rintro e w1 ⟨A1, c1, rfl, ho1, hb1⟩
         have c0' : w1.cell? ⟨g, 0, none⟩ = some (.slice (some ⟨gB, 0, none⟩) B.length cap) := (hb1.cell (p := ⟨g, 0, none⟩) hgl).trans h0
         have HR1 := Lib.hid (Row.of_own ho1)
         have HB1 := Lib.hid (show Below w.heap.size w w1 from ⟨hb1.os, hb1.tape, hb1.output, hb1.size, hb1.block⟩)
         clear ho1 hb1)
      | (refine step_copy_at rfl (.tmp 30) (.tmp 33) _ _ rfl 5 Try.underlying22 u8_size A1 (B.length - q) (cap - q) (digs n s).length c1 gB q rfl rfl cur.toList 5 ((HB1.out.block gB hBl).trans HCUR.out) w1.heap.size ((digs n s).map bc) (by rw [List.length_map, HD.out]; exact (Nat.min_eq_left (by omega)).symm) (by rw [List.length_map, HD.out]; omega) HR1.out (by rw [List.length_map, HD.out, Array.length_toList, HCS.out]; omega) (bc_one _) ?_
         intro w2 hg2 hgr2
         have c0' : w2.cell? ⟨g, 0, none⟩ = some (.slice (some ⟨gB, 0, none⟩) B.length cap) := (World.cell?_of_block (a := ⟨g, 0, none⟩) (hgr2.block g (Nat.lt_of_lt_of_le hgl HB1.out.size) (Ne.symm hgne))).trans c0'
         have HG2 := Lib.hid hgr2
         clear hgr2)))
  go_wp2
  go_ret
  have hdl := HD.out
  have hBl2 : gB < w1.heap.size := Nat.lt_of_lt_of_le hBl HB1.out.size
  have hset := length_setB (B := B) (p := q) (l := digs n s) (by rw [hdl]; exact hq)
  have hk : ∀ j, j < w.heap.size → j ≠ gB → w2.heap[j]? = w.heap[j]? := fun j hj hne => (HG2.out.block j (Nat.lt_of_lt_of_le hj HB1.out.size) hne).trans (HB1.out.block j hj)
  refine ⟨rfl, .slice (some ⟨gB, 0, none⟩) B.length cap, vM, ⟨HW.out.blk.keep (hk g hgl (Ne.symm hgne)), HW.out.low, ?_, HW.out.map.keep fun j hj => hk j (HW.out.map.lt hj).2 (fun e => HAP.out.2.2 gB rfl (by rw [hj, e]))⟩, ?_, fun j hj => .inl hj⟩
  · rw [hset]
    refine ⟨by simp [hset], .inr ⟨gB, cap, _, rfl, hgB, hg2.out, hcap, hcm, ?_, ?_⟩⟩
    · rw [List.size_toArray, length_splice _ _ _ (by rw [List.length_map, hdl, Array.length_toList, HCS.out]; omega), Array.length_toList, HCS.out]
    · have htk := HTK.out
      rw [Nat.mul_one] at htk ⊢
      rw [List.toList_toArray, take_splice htk (by rw [List.length_map]) (by rw [List.length_map, hdl]; exact hq)]
      simp [setB, hdl]
  · exact (Grew.all HB1.out).trans HG2.out fun j hj => .inl (.inr (.inl (by rw [hj]; rfl)))

end Go.Proofs.Ytjjmllbkfbdcnaa

namespace Go.Proofs.Ytjjmllbkfbdcnaa
open Go.RowKit

/-- May a record be? -/
def soundR (r : Rt) : Bool := soundN r.name && (soundD r.kind r.data && (fitB r.cls 2 && (decide (0 ≤ r.ttl) && decide (r.ttl ≤ 2147483647))))
structure SoundR (r : Rt) : Prop where
  n : soundN r.name = true
  d : soundD r.kind r.data = true
  c : fitB r.cls 2 = true
  t0 : 0 ≤ r.ttl
  t1 : r.ttl ≤ 2147483647
theorem soundR_iff {r : Rt} : soundR r = true ↔ SoundR r := by
  unfold soundR
  simp only [Bool.and_eq_true, decide_eq_true_eq]
  exact ⟨fun ⟨a, b, c, d, e⟩ => ⟨a, b, c, d, e⟩, fun ⟨a, b, c, d, e⟩ => ⟨a, b, c, d, e⟩⟩

/-- A record's name, and what stands ahead of the number that tells its data's length. -/
def putH8 (r : Rt) (B : List UInt8) (R : Rs) : List UInt8 := (((nameW true r.name B R).1 ++ putL [] r.kind 2) ++ putL [] r.cls 2) ++ putL [] r.ttl 4
/-- Its data, behind a length that is still 0. -/
def putD0 (r : Rt) (B : List UInt8) (R : Rs) : List UInt8 × Rs := putD (shN r.kind) r.data (putH8 r B R ++ putL [] 0 2) (nameW true r.name B R).2
/-- A record, behind B with the rests R. -/
def putRR (r : Rt) (B : List UInt8) (R : Rs) : List UInt8 × Rs :=
  (setB (putD0 r B R).1 (putH8 r B R).length (digs ((putD0 r B R).1.length - ((putH8 r B R).length + 2)) 2), (putD0 r B R).2)

theorem putD_room {k : Int} {d : Dt} (hs : soundD k d = true) (B : List UInt8) (R : Rs) : (putD (shN k) d B R).1.length ≤ B.length + 65535 := by
  have sp := soundP hs
  have n1 := length_numsW 2 (d.nums.take (shN k).ahead)
  have n2 := length_numsW 4 (d.nums.drop (shN k).ahead)
  rw [List.length_take] at n1
  rw [List.length_drop] at n2
  have n3 := sp.n
  have n4 := length_textsW 255 d.texts sp.tl
  have n5 : (255 + 7) * d.texts.length ≤ (255 + 7) * 64 := Nat.mul_le_mul_left _ sp.t
  have n6 := sp.b
  have hH : (putH (shN k) d B R).1.length ≤ B.length + (numsW 2 (d.nums.take (shN k).ahead)).length + (if (shN k).host = true then 255 else 0) := by
    unfold putH
    cases hh : (shN k).host
    · simp only [Bool.false_eq_true, if_false, List.length_append]
      omega
    · have hs := soundN_parts (sp.h hh)
      simp only [if_true]
      have := length_nameW_le (shN k).short d.host (B ++ numsW 2 (d.nums.take (shN k).ahead)) R hs.1
      rw [List.length_append] at this
      omega
  have hM : (putM (shN k) d (putH (shN k) d B R)).1.length ≤ B.length + (numsW 2 (d.nums.take (shN k).ahead)).length + (if (shN k).host = true then 255 else 0) + (if (shN k).mail = true then 255 else 0) := by
    unfold putM
    cases hh : (shN k).mail
    · simp only [Bool.false_eq_true, if_false]
      omega
    · have hs := soundN_parts (sp.m hh)
      simp only [if_true]
      have := length_nameW_le (shN k).short d.mail (putH (shN k) d B R).1 (putH (shN k) d B R).2 hs.1
      omega
  have hlen : (putD (shN k) d B R).1.length = (putM (shN k) d (putH (shN k) d B R)).1.length + (numsW 4 (d.nums.drop (shN k).ahead)).length + (textsW d.texts).length + d.bytes.length := by
    unfold putD
    simp only [List.length_append]
  have h10 := shN_small k
  rcases shN_cases k with hk | hk | hk | hk | hk | hk | hk | hk | hk | hk
  case inr.inr.inr.inr.inr.inr.inr.inr.inr =>
    rw [shN_other hk] at *
    have t0 := sp.t0 rfl
    rw [t0] at hlen
    simp only [textsW, List.length_nil, Bool.false_eq_true, if_false] at *
    omega
  all_goals
    have hm : (shN k).most ≤ 16 := by rw [hk]; decide
    have i1 : (if (shN k).host = true then 255 else 0) ≤ 255 := by split <;> omega
    have i2 : (if (shN k).mail = true then 255 else 0) ≤ 255 := by split <;> omega
    omega

theorem length_putD_rests {k : Int} {d : Dt} (hs : soundD k d = true) (B : List UInt8) (R : Rs) : (putD (shN k) d B R).2.length ≤ R.length + 600 := by
  have sp := soundP hs
  have hH : (putH (shN k) d B R).2.length ≤ R.length + 255 := by
    unfold putH
    cases hh : (shN k).host
    · simp only [Bool.false_eq_true, if_false]
      omega
    · have hs := soundN_parts (sp.h hh)
      simp only [if_true]
      have h1 := length_nameW_rests (shN k).short d.host (B ++ numsW 2 (d.nums.take (shN k).ahead)) R
      have h2 := length_lt_szN d.host
      omega
  unfold putD
  dsimp only
  unfold putM
  cases hh : (shN k).mail
  · simp only [Bool.false_eq_true, if_false]
    omega
  · have hs := soundN_parts (sp.m hh)
    simp only [if_true]
    have h1 := length_nameW_rests (shN k).short d.mail (putH (shN k) d B R).1 (putH (shN k) d B R).2
    have h2 := length_lt_szN d.mail
    omega

theorem numAt_digs {P Q : List UInt8} {m s : Nat} (hm : m < 2 ^ (8 * s)) : numAt ((P ++ digs m s) ++ Q) P.length s = m := by
  unfold numAt cutL
  rw [List.append_assoc, List.drop_left, List.take_append_of_le_length (by rw [length_digs]; exact Nat.le_refl _), List.take_of_length_le (by rw [length_digs]; exact Nat.le_refl _), numN_digs hm]

theorem setB_mid (P l W : List UInt8) (m : List UInt8) (h : l.length = m.length) : setB ((P ++ l) ++ W) P.length m = (P ++ m) ++ W := by
  unfold setB
  rw [List.append_assoc, List.take_left, ← h, List.drop_append, List.drop_of_length_le (by omega)]
  simp

/-- What Put writes is what is written of the data behind its length. -/
theorem putRR_eq {r : Rt} {B : List UInt8} {R : Rs} (hs : SoundR r) : ∃ W : List UInt8, W.length ≤ 65535 ∧
    putRR r B R = putD (shN r.kind) r.data (putH8 r B R ++ digs W.length 2) (nameW true r.name B R).2 ∧ (putRR r B R).1 = (putH8 r B R ++ digs W.length 2) ++ W ∧ (putD0 r B R).1 = (putH8 r B R ++ putL [] 0 2) ++ W := by
  have h0 : putL [] 0 2 = digs 0 2 := by decide +kernel
  obtain ⟨W, R', h1, _⟩ := putD_shift (shN r.kind) r.data (putH8 r B R ++ putL [] 0 2) (putH8 r B R ++ putL [] 0 2) (nameW true r.name B R).2 rfl
  obtain ⟨W2, R2, h3, h4⟩ := putD_shift (shN r.kind) r.data (putH8 r B R ++ putL [] 0 2) (putH8 r B R ++ digs W.length 2) (nameW true r.name B R).2 (by rw [h0]; simp [length_digs])
  rw [h1] at h3
  injection h3 with h5 h6
  have hW := List.append_cancel_left h5
  subst hW; subst h6
  have hd : putD0 r B R = ((putH8 r B R ++ putL [] 0 2) ++ W, R') := h1
  have hlen : (putD0 r B R).1.length - ((putH8 r B R).length + 2) = W.length := by rw [hd, h0]; simp [length_digs]; omega
  have hroom := putD_room hs.d (putH8 r B R ++ putL [] 0 2) (nameW true r.name B R).2
  rw [h1] at hroom
  simp only [List.length_append] at hroom
  have he : putRR r B R = ((putH8 r B R ++ digs W.length 2) ++ W, R') := by
    unfold putRR
    rw [hlen, hd]
    dsimp only
    rw [setB_mid _ _ _ _ (by rw [h0]; simp [length_digs])]
  exact ⟨W, by omega, by rw [he, h4], by rw [he], by rw [hd]⟩

/-- A record that was put is read as it is, whatever stands behind it. -/
theorem putRR_back {r : Rt} {B : List UInt8} {R : Rs} (hs : SoundR r) (G : GoodR B R) :
    (∃ S, (putRR r B R).1 = B ++ S) ∧ GoodR (putRR r B R).1 (putRR r B R).2 ∧ (putRR r B R).1.length ≤ B.length + 70000 ∧ (putRR r B R).2.length ≤ R.length + 900 ∧ ∀ Y, getRR ((putRR r B R).1 ++ Y) B.length = (r, (putRR r B R).1.length, 0) := by
  have hp := soundN_parts hs.n
  obtain ⟨⟨S0, hS0⟩, hat, hg⟩ := nameW_good (short := true) hp.1 G
  have hlx := length_nameW_le true r.name B R hp.1
  obtain ⟨W, hW, h1, h2, _⟩ := putRR_eq (B := B) (R := R) hs
  have hkd : kindB r.kind = true := by have h := hs.d; unfold soundD at h; simp only [Bool.and_eq_true] at h; exact h.1
  simp only [kindB, decide_eq_true_eq] at hkd
  obtain ⟨k, hk⟩ : ∃ k : Nat, r.kind = k := ⟨r.kind.toNat, by omega⟩
  obtain ⟨c, s2, hc, hs2, _, hclt, _⟩ := putL_fit hs.c
  obtain rfl : s2 = 2 := by omega
  obtain ⟨t, ht⟩ : ∃ t : Nat, r.ttl = t := ⟨r.ttl.toNat, by have := hs.t0; omega⟩
  have htb := hs.t1
  have hk16 : k < 2 ^ (8 * 2) := by simp; omega
  have ht32 : t < 2 ^ (8 * 4) := by simp; omega
  have fk : putL [] r.kind 2 = digs k 2 := by
    have h := putL_yes (l := []) (n := k) (s := 2) (fitB_true (by omega) (by omega) (by omega) (by simp; omega))
    rw [List.nil_append] at h
    rw [hk]; exact h
  have fc : putL [] r.cls 2 = digs c 2 := by
    have hcf := hs.c
    rw [hc] at hcf
    have h := putL_yes (l := []) (n := c) (s := 2) hcf
    rw [List.nil_append] at h
    rw [hc]; exact h
  have ft : putL [] r.ttl 4 = digs t 4 := by
    have h := putL_yes (l := []) (n := t) (s := 4) (fitB_true (by omega) (by omega) (by omega) (by simp; omega))
    rw [List.nil_append] at h
    rw [ht]; exact h
  obtain ⟨P, hP⟩ : ∃ P, P = (nameW true r.name B R).1 := ⟨_, rfl⟩
  have h8 : putH8 r B R = ((P ++ digs k 2) ++ digs c 2) ++ digs t 4 := by unfold putH8; rw [fk, fc, ft, hP]
  obtain ⟨X, hX⟩ : ∃ X, X = putH8 r B R ++ digs W.length 2 := ⟨_, rfl⟩
  have hXl : X.length = P.length + 10 := by rw [hX, h8]; simp [length_digs]
  have GX : GoodR X (nameW true r.name B R).2 := by
    rw [hX, h8, hP]
    exact (((hg.more _).more _).more _).more _
  rw [← hX] at h1 h2
  obtain ⟨_, ⟨S1, hS1⟩, hG2, _⟩ := getR_data (Y := []) GX hs.d
  have hlen : (putRR r B R).1.length = X.length + W.length := by rw [h2, List.length_append]
  have hrest : (putRR r B R).2.length ≤ R.length + 900 := by
    rw [h1]
    have a1 := length_nameW_rests true r.name B R
    have a2 := length_lt_szN r.name
    have a3 := length_putD_rests hs.d X (nameW true r.name B R).2
    omega
  refine ⟨?_, by rw [h1]; exact hG2, ?_, hrest, fun Y => ?_⟩
  · rw [h2, hX, h8, hP, hS0]
    exact ⟨_, by simp only [List.append_assoc]; rfl⟩
  · rw [hlen, hXl, hP]
    omega
  · have hgd := (getR_data (Y := Y) GX hs.d).2.2.2
    rw [← h1, h2] at hgd
    have e1 : (X ++ W).length - X.length = W.length := by rw [List.length_append]; omega
    rw [e1] at hgd
    have hB : (putRR r B R).1 ++ Y = P ++ ((digs k 2 ++ (digs c 2 ++ (digs t 4 ++ digs W.length 2))) ++ (W ++ Y)) := by
      rw [h2, hX, h8]
      simp only [List.append_assoc]
    have hw : getW ((putRR r B R).1 ++ Y) B.length = (r.name, P.length, 0) := by
      rw [getW_at, hB]
      have := (nameR_back (en := 0) (hat.more ((digs k 2 ++ (digs c 2 ++ (digs t 4 ++ digs W.length 2))) ++ (W ++ Y))) (by have := hat.pos; omega) hp.2).1
      rw [← hP] at this
      exact this
    have n0 : numAt ((putRR r B R).1 ++ Y) P.length 2 = k := by
      rw [hB]
      have := numAt_digs (P := P) (Q := (digs c 2 ++ (digs t 4 ++ digs W.length 2)) ++ (W ++ Y)) hk16
      simpa only [List.append_assoc] using this
    have n1 : numAt ((putRR r B R).1 ++ Y) (P.length + 2) 2 = c := by
      rw [hB]
      have := numAt_digs (P := P ++ digs k 2) (Q := (digs t 4 ++ digs W.length 2) ++ (W ++ Y)) hclt
      rw [List.length_append, length_digs] at this
      simpa only [List.append_assoc] using this
    have n2 : numAt ((putRR r B R).1 ++ Y) (P.length + 4) 4 = t := by
      rw [hB]
      have := numAt_digs (P := (P ++ digs k 2) ++ digs c 2) (Q := digs W.length 2 ++ (W ++ Y)) ht32
      rw [List.length_append, List.length_append, length_digs, length_digs] at this
      simpa only [List.append_assoc, Nat.add_assoc] using this
    have n3 : numAt ((putRR r B R).1 ++ Y) (P.length + 8) 2 = W.length := by
      rw [hB]
      have := numAt_digs (P := ((P ++ digs k 2) ++ digs c 2) ++ digs t 4) (Q := W ++ Y) (m := W.length) (s := 2) (by simp; omega)
      simp only [List.length_append, length_digs] at this
      simpa only [List.append_assoc, Nat.add_assoc] using this
    have hgd2 : getD ((putRR r B R).1 ++ Y) ((P.length : Int) + 10) W.length k = (r.data, 0) := by
      rw [h2, ← hk]
      have e2 : ((X.length : Nat) : Int) = (P.length : Int) + 10 := by omega
      rw [← e2]
      exact hgd
    unfold getRR
    rw [hw]
    dsimp only
    rw [if_neg (by simp), if_neg (by rw [List.length_append, hlen, hXl]; omega), n0, n3, if_neg (by omega), hgd2]
    dsimp only
    rw [if_neg (by simp), n1]
    have ht2 : ttlAt ((putRR r B R).1 ++ Y) (P.length + 4) = t := by
      unfold ttlAt
      rw [n2, if_neg (by omega)]
    rw [ht2, hlen, hXl, ← hk, ← hc, ← ht]

end Go.Proofs.Ytjjmllbkfbdcnaa

namespace Go.Proofs.Ytjjmllbkfbdcnaa
open Go.RowKit

theorem i64_top {n : Int} (h : (Lit.int .i64 n).wf = true) : n ≤ 9223372036854775807 := by
  have h1 : IntKind.i64.min = -9223372036854775808 := rfl
  have h2 : IntKind.i64.max = 9223372036854775807 := rfl
  simp only [Lit.wf, Bool.and_eq_true, decide_eq_true_eq] at h
  omega

set_option maxRecDepth 20000 in
set_option maxHeartbeats 4000000 in
theorem rsound_any (x : RV) (r : Rt) (w : World) (hx : RAt w w.heap.size x r) (hi : RIn r) (hl : LightR r) :
    Calls Try.prog 27 #[x.val r] w (Gave w (.bool (soundR r))) := by
  obtain ⟨W, hW⟩ : ∃ W, W = w.alloc (.cells #[.slice x.A r.name.length x.c, .int .i64 r.kind, .int .i64 r.cls, .int .i64 r.ttl, .slice x.d.Ab r.data.bytes.length x.d.cb, .slice x.d.Ah r.data.host.length x.d.ch, .slice x.d.Am r.data.mail.length x.d.cm, .slice x.d.An r.data.nums.length x.d.cn, .slice x.d.At r.data.texts.length x.d.ct] 51) := ⟨_, rfl⟩
  have hB : Below w.heap.size w W := by rw [hW]; exact (Below.refl _ _).alloc (Nat.le_refl _) _
  have hwh : Whole W w.heap.size 51 [.slice x.A r.name.length x.c, .int .i64 r.kind, .int .i64 r.cls, .int .i64 r.ttl, .slice x.d.Ab r.data.bytes.length x.d.cb, .slice x.d.Ah r.data.host.length x.d.ch, .slice x.d.Am r.data.mail.length x.d.cm, .slice x.d.An r.data.nums.length x.d.cn, .slice x.d.At r.data.texts.length x.d.ct] := by rw [hW]; exact Whole.made w _ _
  have HX := Lib.hid (fun W' (h : Below w.heap.size w W') => (hx.below h).mono h.size)
  have HB0 := Lib.hid hB
  have HW0 := Lib.hid hwh
  have h200 := hl.l0
  have h201 := hl.l1
  have h202 := hl.l2
  have HI := Lib.hid hi
  have HS := Lib.hid (show soundR r = (soundN r.name && (soundD r.kind r.data && (fitB r.cls 2 && (decide (0 ≤ r.ttl) && decide (r.ttl ≤ 2147483647))))) from rfl)
  have HN := Lib.hid (fun W' (h : Below w.heap.size w W') => sound_wide x.A r.name.length x.c w.heap.size r.name W' rfl ((hx.below h).n) (by omega) hi.n.2)
  have HD := Lib.hid (fun W' (h : Below w.heap.size w W') => dsound_wide r.kind x.d r.data W' ((hx.below h).mono h.size).d (by omega) hi.d.h.2 (by omega) hi.d.m.2 hi.d.t hi.lt)
  have HF := Lib.hid (fun W' => fits_any r.cls 2 W')
  clear hB hwh hx hi hl
  subst hW
  go_enter Try.func27, Try.ntmps27
  go_wp2_with fail
  refine (HN.out _ HB0.out).mono ?_
  rintro e w1 ⟨rfl, rfl⟩
  cases h1 : soundN r.name with
  | false =>
    rw [h1] at HS
    go_wp2
    go_ret
    exact ⟨by rw [HS.out]; rfl, HB0.out⟩
  | true =>
  rw [h1] at HS
  go_wp2_with fail
  refine (HD.out _ HB0.out).mono ?_
  rintro e w2 ⟨rfl, hb2⟩
  have HW2 := Lib.hid (HW0.out.below hb2 (by simp))
  have HB2 := Lib.hid (HB0.out.trans (hb2.mono HB0.out.size))
  clear hb2 HW0 HB0
  cases h2 : soundD r.kind r.data with
  | false =>
    rw [h2] at HS
    go_wp2
    go_ret
    exact ⟨by rw [HS.out]; rfl, HB2.out⟩
  | true =>
  rw [h2] at HS
  have p2 : w2.cell? ⟨w.heap.size, 2, none⟩ = some (.int .i64 r.cls) := Whole.cell (L := [.slice x.A r.name.length x.c, .int .i64 r.kind, .int .i64 r.cls, .int .i64 r.ttl, .slice x.d.Ab r.data.bytes.length x.d.cb, .slice x.d.Ah r.data.host.length x.d.ch, .slice x.d.Am r.data.mail.length x.d.cm, .slice x.d.An r.data.nums.length x.d.cn, .slice x.d.At r.data.texts.length x.d.ct]) HW2.out 2
  have p3 : w2.cell? ⟨w.heap.size, 3, none⟩ = some (.int .i64 r.ttl) := Whole.cell (L := [.slice x.A r.name.length x.c, .int .i64 r.kind, .int .i64 r.cls, .int .i64 r.ttl, .slice x.d.Ab r.data.bytes.length x.d.cb, .slice x.d.Ah r.data.host.length x.d.ch, .slice x.d.Am r.data.mail.length x.d.cm, .slice x.d.An r.data.nums.length x.d.cn, .slice x.d.At r.data.texts.length x.d.ct]) HW2.out 3
  go_wp2_with fail
  refine (HF.out _).mono ?_
  rintro e w3 ⟨rfl, rfl⟩
  cases h3 : fitB r.cls 2 with
  | false =>
    rw [h3] at HS
    go_wp2
    go_ret
    exact ⟨by rw [HS.out]; rfl, HB2.out⟩
  | true =>
  rw [h3] at HS
  cases h4 : decide (0 ≤ r.ttl) with
  | false =>
    rw [h4] at HS
    go_wp2
    go_ret
    exact ⟨by rw [HS.out]; rfl, HB2.out⟩
  | true =>
  rw [h4] at HS
  skip
  go_wp2
  go_ret
  exact ⟨by rw [HS.out]; simp, HB2.out⟩

set_option maxRecDepth 20000 in
set_option maxHeartbeats 4000000 in
theorem ref_rsound_any (x : RV) (r : Rt) (w : World) (hx : RAt w w.heap.size x r) (hi : RIn r) (hl : LightR r) :
    Calls Try.prog 26 #[x.val r] w (Gave w (.bool (soundR r))) := by
  obtain ⟨W, hW⟩ : ∃ W, W = w.alloc (.cells #[.slice x.A r.name.length x.c, .int .i64 r.kind, .int .i64 r.cls, .int .i64 r.ttl, .slice x.d.Ab r.data.bytes.length x.d.cb, .slice x.d.Ah r.data.host.length x.d.ch, .slice x.d.Am r.data.mail.length x.d.cm, .slice x.d.An r.data.nums.length x.d.cn, .slice x.d.At r.data.texts.length x.d.ct] 51) := ⟨_, rfl⟩
  have hB : Below w.heap.size w W := by rw [hW]; exact (Below.refl _ _).alloc (Nat.le_refl _) _
  have hwh : Whole W w.heap.size 51 [.slice x.A r.name.length x.c, .int .i64 r.kind, .int .i64 r.cls, .int .i64 r.ttl, .slice x.d.Ab r.data.bytes.length x.d.cb, .slice x.d.Ah r.data.host.length x.d.ch, .slice x.d.Am r.data.mail.length x.d.cm, .slice x.d.An r.data.nums.length x.d.cn, .slice x.d.At r.data.texts.length x.d.ct] := by rw [hW]; exact Whole.made w _ _
  have HX := Lib.hid (fun W' (h : Below w.heap.size w W') => (hx.below h).mono h.size)
  have HB0 := Lib.hid hB
  have HW0 := Lib.hid hwh
  have h200 := hl.l0
  have h201 := hl.l1
  have h202 := hl.l2
  have HI := Lib.hid hi
  have HS := Lib.hid (show soundR r = (soundN r.name && (soundD r.kind r.data && (fitB r.cls 2 && (decide (0 ≤ r.ttl) && decide (r.ttl ≤ 2147483647))))) from rfl)
  have HN := Lib.hid (fun W' (h : Below w.heap.size w W') => ref_sound_wide x.A x.c w.heap.size r.name W' ((hx.below h).n) hi.n.1 hi.n.2)
  have HD := Lib.hid (fun W' (h : Below w.heap.size w W') => refData_any r.kind x.d r.data W' ((hx.below h).mono h.size).d ⟨hi.d.h, hi.d.m, hi.d.t, hi.lt, fun n hn => i64_top (hi.nm n hn)⟩)
  have HF := Lib.hid (fun W' => ref_fits_any r.cls 2 W' (i64_top hi.c))
  clear hB hwh hx hi hl
  subst hW
  go_enter Try.func26, Try.ntmps26
  go_wp2_with fail
  refine (HN.out _ HB0.out).mono ?_
  rintro e w1 ⟨rfl, rfl⟩
  cases h1 : soundN r.name with
  | false =>
    rw [h1] at HS
    go_wp2
    go_ret
    exact ⟨by rw [HS.out]; rfl, HB0.out⟩
  | true =>
  rw [h1] at HS
  go_wp2_with fail
  refine (HD.out _ HB0.out).mono ?_
  rintro e w2 ⟨rfl, hb2⟩
  have HW2 := Lib.hid (HW0.out.below hb2 (by simp))
  have HB2 := Lib.hid (HB0.out.trans (hb2.mono HB0.out.size))
  clear hb2 HW0 HB0
  cases h2 : soundD r.kind r.data with
  | false =>
    rw [h2] at HS
    go_wp2
    go_ret
    exact ⟨by rw [HS.out]; rfl, HB2.out⟩
  | true =>
  rw [h2] at HS
  have p2 : w2.cell? ⟨w.heap.size, 2, none⟩ = some (.int .i64 r.cls) := Whole.cell (L := [.slice x.A r.name.length x.c, .int .i64 r.kind, .int .i64 r.cls, .int .i64 r.ttl, .slice x.d.Ab r.data.bytes.length x.d.cb, .slice x.d.Ah r.data.host.length x.d.ch, .slice x.d.Am r.data.mail.length x.d.cm, .slice x.d.An r.data.nums.length x.d.cn, .slice x.d.At r.data.texts.length x.d.ct]) HW2.out 2
  have p3 : w2.cell? ⟨w.heap.size, 3, none⟩ = some (.int .i64 r.ttl) := Whole.cell (L := [.slice x.A r.name.length x.c, .int .i64 r.kind, .int .i64 r.cls, .int .i64 r.ttl, .slice x.d.Ab r.data.bytes.length x.d.cb, .slice x.d.Ah r.data.host.length x.d.ch, .slice x.d.Am r.data.mail.length x.d.cm, .slice x.d.An r.data.nums.length x.d.cn, .slice x.d.At r.data.texts.length x.d.ct]) HW2.out 3
  go_wp2_with fail
  refine (HF.out _).mono ?_
  rintro e w3 ⟨rfl, rfl⟩
  cases h3 : fitB r.cls 2 with
  | false =>
    rw [h3] at HS
    go_wp2
    go_ret
    exact ⟨by rw [HS.out]; rfl, HB2.out⟩
  | true =>
  rw [h3] at HS
  cases h4 : decide (0 ≤ r.ttl) with
  | false =>
    rw [h4] at HS
    go_wp2
    go_ret
    exact ⟨by rw [HS.out]; rfl, HB2.out⟩
  | true =>
  rw [h4] at HS
  have hlast : decide (r.ttl < 2147483648) = decide (r.ttl ≤ 2147483647) := decide_eq_decide.2 (by omega)
  go_wp2
  go_ret
  exact ⟨by rw [HS.out]; rw [← hlast]; simp, HB2.out⟩

end Go.Proofs.Ytjjmllbkfbdcnaa

namespace Go.Proofs.Ytjjmllbkfbdcnaa
open Go.RowKit

/-- The block j holds a slice of the record. -/
def RV.owns (x : RV) (r : Rt) (j : Nat) : Prop := (x.vn r).ownBlock = some j ∨ x.d.owns r.data j
theorem OwnR.base {w : World} {B : Nat} {x : RV} {r : Rt} (h : OwnR w B x r) {j : Nat} (hj : x.owns r j) : B ≤ j ∧ j < w.heap.size := by
  rcases hj with e | e
  · exact h.n.lt j e
  · exact h.d.base e
section
variable {base g H : Nat} {W1 wk : World} {vB vM : Value} {B : List UInt8} {R : Rs}
theorem pen_box {t : TypeId} {L : List Value} (hp : Penned base W1 g vB vM B R wk) (hb : Whole W1 H t L) (hn : ¬ ownF g vB vM H) : Whole wk H t L := by
  obtain ⟨_, _, _, hg, _⟩ := hp
  exact hb.grew hg hn
theorem pen_own {x : RV} {r : Rt} {Bd : Nat} (hp : Penned base W1 g vB vM B R wk) (ho : OwnR W1 Bd x r) (hs : ∀ j, ownF g vB vM j → ¬ x.owns r j) : OwnR wk Bd x r := by
  obtain ⟨_, _, _, hg, _⟩ := hp
  have hk : ∀ {e : TypeId} {s m : Nat} {u : Value} {ys : List Value}, W1.ownsRow Bd e s u m ys → (∀ j, u.ownBlock = some j → x.owns r j) → wk.ownsRow Bd e s u m ys := fun h1 h2 => own_grew h1 hg fun j e hj => hs j hj (h2 j e)
  exact ⟨hk ho.n fun j e => .inl e, hk ho.d.b fun j e => .inr (.inl e), hk ho.d.h fun j e => .inr (.inr (.inl e)), hk ho.d.m fun j e => .inr (.inr (.inr (.inl e))), hk ho.d.n fun j e => .inr (.inr (.inr (.inr (.inl e)))), hk ho.d.t fun j e => .inr (.inr (.inr (.inr (.inr e))))⟩
end

set_option maxRecDepth 200000 in
set_option maxHeartbeats 8000000 in
theorem rrput_sound (base : Nat) (w : World) (g : Nat) (vB vM : Value) (B : List UInt8) (R : Rs) (x : RV) (r : Rt) (Bd : Nat) (h : Wr w base g vB vM B R) (ho : OwnR w Bd x r) (hsep : ∀ j, ownF g vB vM j → ¬ x.owns r j) (hs : SoundR r) (hi : RIn r) (hl : LightR r)
    (hB : B.length ≤ 90000000) (hR : R.length ≤ 700000) (hG : GoodR B R) :
    Calls Try.prog 24 #[.pointer (some ⟨g, 0, none⟩), x.val r] w (fun e w' => e = .returned (.int .i64 0) ∧ Penned base w g vB vM (putRR r B R).1 (putRR r B R).2 w') := by
  obtain ⟨W, hW⟩ : ∃ W, W = w.alloc (.cells #[.slice x.A r.name.length x.c, .int .i64 r.kind, .int .i64 r.cls, .int .i64 r.ttl, .slice x.d.Ab r.data.bytes.length x.d.cb, .slice x.d.Ah r.data.host.length x.d.ch, .slice x.d.Am r.data.mail.length x.d.cm, .slice x.d.An r.data.nums.length x.d.cn, .slice x.d.At r.data.texts.length x.d.ct] 51) := ⟨_, rfl⟩
  have hB0 : Below w.heap.size w W := by rw [hW]; exact (Below.refl _ _).alloc (Nat.le_refl _) _
  have hwh : Whole W w.heap.size 51 [.slice x.A r.name.length x.c, .int .i64 r.kind, .int .i64 r.cls, .int .i64 r.ttl, .slice x.d.Ab r.data.bytes.length x.d.cb, .slice x.d.Ah r.data.host.length x.d.ch, .slice x.d.Am r.data.mail.length x.d.cm, .slice x.d.An r.data.nums.length x.d.cn, .slice x.d.At r.data.texts.length x.d.ct] := by rw [hW]; exact Whole.made w _ _
  have hlow : ∀ j, ownF g vB vM j → j < w.heap.size := fun j hj => (h.own hj).2
  have HB0 := Lib.hid hB0
  have HW0 := Lib.hid hwh
  have HS := Lib.hid (rsound_any x r W ((ho.at_.below hB0).mono hB0.size) hi hl)
  rw [soundR_iff.2 hs] at HS
  have HWR := Lib.hid h
  have HO := Lib.hid ho
  have HSEP := Lib.hid hsep
  have HSR := Lib.hid hs
  have HGD := Lib.hid hG
  have HLOW := Lib.hid hlow
  have hp := soundN_parts hs.n
  have hnl := length_nameW_le true r.name B R hp.1
  have hnr := length_nameW_rests true r.name B R
  have hnz := length_lt_szN r.name
  have hn255 := hp.2
  have hgn := nameW_good (short := true) hp.1 hG
  have HGN := Lib.hid hgn.2.2
  obtain ⟨WL, hWL, _, _, hD0⟩ := putRR_eq (B := B) (R := R) hs
  have HD0 := Lib.hid hD0
  have hl0 : (putL [] 0 2).length = 2 := by decide +kernel
  have hl123 : (putL [] r.kind 2).length = 2 ∧ (putL [] r.cls 2).length = 2 ∧ (putL [] r.ttl 4).length = 4 := by
    have hkd : kindB r.kind = true := by have h := hs.d; unfold soundD at h; simp only [Bool.and_eq_true] at h; exact h.1
    simp only [kindB, decide_eq_true_eq] at hkd
    obtain ⟨_, s1, _, es1, _, _, l1⟩ := putL_fit (n := r.kind) (s := 2) (fitB_true (by omega) (by omega) (by omega) (by simp; omega))
    obtain ⟨_, s2, _, es2, _, _, l2⟩ := putL_fit hs.c
    obtain ⟨_, s3, _, es3, _, _, l3⟩ := putL_fit (n := r.ttl) (s := 4) (fitB_true (by omega) (by omega) hs.t0 (by have := hs.t1; simp; omega))
    omega
  obtain ⟨hl1, hl2, hl3⟩ := hl123
  have hHL : (putH8 r B R).length = (nameW true r.name B R).1.length + 8 := by
    unfold putH8
    simp only [List.length_append]
    omega
  have hD0L : (putD0 r B R).1.length = (putH8 r B R).length + 2 + WL.length := by
    rw [hD0]
    simp only [List.length_append, hl0]
  clear hB0 hwh h ho hsep hs hG hlow hp hgn hi hl hD0
  subst hW
  go_enter Try.func24, Try.ntmps24
  go_wp2_with fail
  refine HS.out.mono ?_
  rintro e w1 ⟨rfl, hb1⟩
  have hz1 : w.heap.size < w1.heap.size := by have := hb1.size; simp at this; omega
  have HWB := Lib.hid (HW0.out.below hb1 (by simp))
  have HB1 := Lib.hid (HB0.out.trans (hb1.mono HB0.out.size))
  clear hb1 HS HB0 HW0
  have HWR1 := Lib.hid (HWR.out.below HB1.out)
  have HOR := Lib.hid (HO.out.keep fun j hj => HB1.out.block j hj)
  have HNB := Lib.hid (show ¬ ownF g vB vM w.heap.size from fun hj => Nat.lt_irrefl _ (HLOW.out _ hj))
  have HP := Lib.hid (Penned.refl HWR1.out)
  have p0 : w1.cell? ⟨w.heap.size, 0, none⟩ = some (.slice x.A r.name.length x.c) := Whole.cell (L := [.slice x.A r.name.length x.c, .int .i64 r.kind, .int .i64 r.cls, .int .i64 r.ttl, .slice x.d.Ab r.data.bytes.length x.d.cb, .slice x.d.Ah r.data.host.length x.d.ch, .slice x.d.Am r.data.mail.length x.d.cm, .slice x.d.An r.data.nums.length x.d.cn, .slice x.d.At r.data.texts.length x.d.ct]) (pen_box HP.out HWB.out HNB.out) 0
  go_wp2_with fail
  refine (name_sound base w1 g vB vM B R x.A r.name.length x.c w1.heap.size r.name true HWR1.out rfl HOR.out.at_.n (Nat.le_refl _) HSR.out.n (by omega) (by omega) fun q hq => (HGD.out q hq).1).mono ?_
  rintro e w2 ⟨rfl, hpn⟩
  have HP := Lib.hid hpn
  clear hpn p0
  have p1 : w2.cell? ⟨w.heap.size, 1, none⟩ = some (.int .i64 r.kind) := Whole.cell (L := [.slice x.A r.name.length x.c, .int .i64 r.kind, .int .i64 r.cls, .int .i64 r.ttl, .slice x.d.Ab r.data.bytes.length x.d.cb, .slice x.d.Ah r.data.host.length x.d.ch, .slice x.d.Am r.data.mail.length x.d.cm, .slice x.d.An r.data.nums.length x.d.cn, .slice x.d.At r.data.texts.length x.d.ct]) (pen_box HP.out HWB.out HNB.out) 1
  go_wp2_with fail
  obtain ⟨vB0, vM0, hw0, hg0, hf0⟩ := HP.out
  refine (num_any base w2 g vB0 vM0 _ _ r.kind 2 hw0 (by first | omega | (simp only [List.length_append]; omega))).mono ?_
  rintro e w3 ⟨rfl, hpn⟩
  have HP := Lib.hid (Penned.then hg0 hf0 hpn)
  clear hpn hw0 hg0 hf0 p1
  have p2 : w3.cell? ⟨w.heap.size, 2, none⟩ = some (.int .i64 r.cls) := Whole.cell (L := [.slice x.A r.name.length x.c, .int .i64 r.kind, .int .i64 r.cls, .int .i64 r.ttl, .slice x.d.Ab r.data.bytes.length x.d.cb, .slice x.d.Ah r.data.host.length x.d.ch, .slice x.d.Am r.data.mail.length x.d.cm, .slice x.d.An r.data.nums.length x.d.cn, .slice x.d.At r.data.texts.length x.d.ct]) (pen_box HP.out HWB.out HNB.out) 2
  go_wp2_with fail
  obtain ⟨vB1, vM1, hw1, hg1, hf1⟩ := HP.out
  refine (num_any base w3 g vB1 vM1 _ _ r.cls 2 hw1 (by first | omega | (simp only [List.length_append]; omega))).mono ?_
  rintro e w4 ⟨rfl, hpn⟩
  have HP := Lib.hid (Penned.then hg1 hf1 hpn)
  clear hpn hw1 hg1 hf1 p2
  have p3 : w4.cell? ⟨w.heap.size, 3, none⟩ = some (.int .i64 r.ttl) := Whole.cell (L := [.slice x.A r.name.length x.c, .int .i64 r.kind, .int .i64 r.cls, .int .i64 r.ttl, .slice x.d.Ab r.data.bytes.length x.d.cb, .slice x.d.Ah r.data.host.length x.d.ch, .slice x.d.Am r.data.mail.length x.d.cm, .slice x.d.An r.data.nums.length x.d.cn, .slice x.d.At r.data.texts.length x.d.ct]) (pen_box HP.out HWB.out HNB.out) 3
  go_wp2_with fail
  obtain ⟨vB2, vM2, hw2, hg2, hf2⟩ := HP.out
  refine (num_any base w4 g vB2 vM2 _ _ r.ttl 4 hw2 (by first | omega | (simp only [List.length_append]; omega))).mono ?_
  rintro e w5 ⟨rfl, hpn⟩
  have HP := Lib.hid (Penned.then hg2 hf2 hpn)
  clear hpn hw2 hg2 hf2 p3
  rw [show (((nameW true r.name B R).1 ++ putL [] r.kind 2) ++ putL [] r.cls 2) ++ putL [] r.ttl 4 = putH8 r B R from rfl] at HP
  obtain ⟨vB3, vM3, hw3, hg3, hf3⟩ := HP.out
  have HL := Lib.hid (len_any base w5 g vB3 vM3 _ _ hw3)
  go_wp2_with fail
  refine HL.out.mono ?_
  rintro e w6 ⟨rfl, rfl⟩
  clear HL
  go_wp2_with fail
  refine (num_any base w5 g vB3 vM3 _ _ 0 2 hw3 (by omega)).mono ?_
  rintro e w7 ⟨rfl, hpn⟩
  have HP := Lib.hid (Penned.then hg3 hf3 hpn)
  clear hpn hw3 hg3 hf3
  have p1 : w7.cell? ⟨w.heap.size, 1, none⟩ = some (.int .i64 r.kind) := Whole.cell (L := [.slice x.A r.name.length x.c, .int .i64 r.kind, .int .i64 r.cls, .int .i64 r.ttl, .slice x.d.Ab r.data.bytes.length x.d.cb, .slice x.d.Ah r.data.host.length x.d.ch, .slice x.d.Am r.data.mail.length x.d.cm, .slice x.d.An r.data.nums.length x.d.cn, .slice x.d.At r.data.texts.length x.d.ct]) (pen_box HP.out HWB.out HNB.out) 1
  have p4 : w7.cell? ⟨w.heap.size, 4, none⟩ = some (.slice x.d.Ab r.data.bytes.length x.d.cb) := Whole.cell (L := [.slice x.A r.name.length x.c, .int .i64 r.kind, .int .i64 r.cls, .int .i64 r.ttl, .slice x.d.Ab r.data.bytes.length x.d.cb, .slice x.d.Ah r.data.host.length x.d.ch, .slice x.d.Am r.data.mail.length x.d.cm, .slice x.d.An r.data.nums.length x.d.cn, .slice x.d.At r.data.texts.length x.d.ct]) (pen_box HP.out HWB.out HNB.out) 4
  have p5 : w7.cell? ⟨w.heap.size, 5, none⟩ = some (.slice x.d.Ah r.data.host.length x.d.ch) := Whole.cell (L := [.slice x.A r.name.length x.c, .int .i64 r.kind, .int .i64 r.cls, .int .i64 r.ttl, .slice x.d.Ab r.data.bytes.length x.d.cb, .slice x.d.Ah r.data.host.length x.d.ch, .slice x.d.Am r.data.mail.length x.d.cm, .slice x.d.An r.data.nums.length x.d.cn, .slice x.d.At r.data.texts.length x.d.ct]) (pen_box HP.out HWB.out HNB.out) 5
  have p6 : w7.cell? ⟨w.heap.size, 6, none⟩ = some (.slice x.d.Am r.data.mail.length x.d.cm) := Whole.cell (L := [.slice x.A r.name.length x.c, .int .i64 r.kind, .int .i64 r.cls, .int .i64 r.ttl, .slice x.d.Ab r.data.bytes.length x.d.cb, .slice x.d.Ah r.data.host.length x.d.ch, .slice x.d.Am r.data.mail.length x.d.cm, .slice x.d.An r.data.nums.length x.d.cn, .slice x.d.At r.data.texts.length x.d.ct]) (pen_box HP.out HWB.out HNB.out) 6
  have p7 : w7.cell? ⟨w.heap.size, 7, none⟩ = some (.slice x.d.An r.data.nums.length x.d.cn) := Whole.cell (L := [.slice x.A r.name.length x.c, .int .i64 r.kind, .int .i64 r.cls, .int .i64 r.ttl, .slice x.d.Ab r.data.bytes.length x.d.cb, .slice x.d.Ah r.data.host.length x.d.ch, .slice x.d.Am r.data.mail.length x.d.cm, .slice x.d.An r.data.nums.length x.d.cn, .slice x.d.At r.data.texts.length x.d.ct]) (pen_box HP.out HWB.out HNB.out) 7
  have p8 : w7.cell? ⟨w.heap.size, 8, none⟩ = some (.slice x.d.At r.data.texts.length x.d.ct) := Whole.cell (L := [.slice x.A r.name.length x.c, .int .i64 r.kind, .int .i64 r.cls, .int .i64 r.ttl, .slice x.d.Ab r.data.bytes.length x.d.cb, .slice x.d.Ah r.data.host.length x.d.ch, .slice x.d.Am r.data.mail.length x.d.cm, .slice x.d.An r.data.nums.length x.d.cn, .slice x.d.At r.data.texts.length x.d.ct]) (pen_box HP.out HWB.out HNB.out) 8
  go_wp2_with fail
  obtain ⟨vB4, vM4, hw4, hg4, hf4⟩ := HP.out
  have HOD := Lib.hid (pen_own HP.out HOR.out HSEP.out).d
  have hsep4 : ∀ j, ownF g vB4 vM4 j → ¬ x.d.owns r.data j := fun j hj ho => by
    rcases hf4 j hj with h1 | h1
    · exact HSEP.out j h1 (.inr ho)
    · have := (HOR.out.base (.inr ho)).2
      omega
  refine (put_apart base w7 g vB4 vM4 _ _ r.kind x.d r.data Bd hw4 HOD.out hsep4 HSR.out.d (by rw [List.length_append]; omega) (by omega) ?_).mono ?_
  · have h1 := (((HGN.out.more (putL [] r.kind 2)).more (putL [] r.cls 2)).more (putL [] r.ttl 4)).more (putL [] 0 2)
    exact h1
  rintro e w8 ⟨rfl, hpn⟩
  have HP := Lib.hid (show Penned base w1 g vB vM (putD0 r B R).1 (putD0 r B R).2 w8 from Penned.then hg4 hf4 hpn)
  clear hpn hw4 hg4 hf4 hsep4 HOD p1 p4 p5 p6 p7 p8
  obtain ⟨vB5, vM5, hw5, hg5, hf5⟩ := HP.out
  have HL := Lib.hid (len_any base w8 g vB5 vM5 _ _ hw5)
  go_wp2_with fail
  refine HL.out.mono ?_
  rintro e w9 ⟨rfl, rfl⟩
  clear HL
  go_wp2_with fail
  have e2 : ((nameW true r.name B R).1.length : Int) + 8 + 2 + (WL.length : Int) - (((nameW true r.name B R).1.length : Int) + 8) - 2 = (((putD0 r B R).1.length - ((putH8 r B R).length + 2) : Nat) : Int) := by omega
  have e1 : ((nameW true r.name B R).1.length : Int) + 8 = (((putH8 r B R).length : Nat) : Int) := by omega
  rw [e2, e1]
  refine (set_ok base w8 g vB5 vM5 _ _ (putH8 r B R).length ((putD0 r B R).1.length - ((putH8 r B R).length + 2)) 2 hw5 (by omega) (fitB_true (by omega) (by omega) (by omega) (by simp; omega)) (by omega)).mono ?_
  rintro e w10 ⟨rfl, hpn⟩
  have HP := Lib.hid (show Penned base w1 g vB vM (putRR r B R).1 (putRR r B R).2 w10 from Penned.then hg5 hf5 hpn)
  clear hpn hw5 hg5 hf5 e1 e2 hHL hD0L
  go_wp2
  go_ret
  exact ⟨rfl, Penned.from HB1.out HP.out⟩

end Go.Proofs.Ytjjmllbkfbdcnaa

namespace Go.Proofs.Ytjjmllbkfbdcnaa
open Go.RowKit

/-- Is data the same, byte by byte? -/
def exactD (a b : Dt) : Bool := sameD a b && (decide (a.host = b.host) && decide (a.mail = b.mail))
theorem exactD_self (d : Dt) : exactD d d = true := by simp [exactD, sameD, eqN]

set_option maxRecDepth 4000 in
set_option maxHeartbeats 2000000 in
theorem dexact_any (x y : DV) (a b : Dt) (w : World) (hx : DataAt w w.heap.size x a) (hy : DataAt w w.heap.size y b) (la : Sized a) (lb : Sized b) (kh : a.host.length ≤ maxLen) (km : a.mail.length ≤ maxLen) :
    Calls Try.prog 35 #[x.val a, y.val b] w (Gave w (.bool (exactD a b))) := by
  have HC1 := Lib.hid (fun W (h : Boxes w x y a b W) => ref_dsame_any x y a b W h.atA h.atB la lb)
  have HC2 := Lib.hid (fun W (h : Boxes w x y a b W) => exact_any x.Ah y.Ah a.host.length b.host.length x.ch y.ch w.heap.size a.host b.host W rfl rfl h.da.h h.db.h kh)
  have HC3 := Lib.hid (fun W (h : Boxes w x y a b W) => exact_any x.Am y.Am a.mail.length b.mail.length x.cm y.cm w.heap.size a.mail b.mail W rfl rfl h.da.m h.db.m km)
  have HX := Lib.hid (Boxes.made hx hy)
  have HS := Lib.hid (show exactD a b = (sameD a b && (decide (a.host = b.host) && decide (a.mail = b.mail))) from rfl)
  clear hx hy la lb kh km
  go_enter Try.func35, Try.ntmps35
  go_wp2_with fail
  obtain ⟨W0, hW0⟩ : ∃ W0, W0 = (w.alloc (.cells #[.slice x.Ab a.bytes.length x.cb, .slice x.Ah a.host.length x.ch, .slice x.Am a.mail.length x.cm, .slice x.An a.nums.length x.cn, .slice x.At a.texts.length x.ct] 26)).alloc (.cells #[.slice y.Ab b.bytes.length y.cb, .slice y.Ah b.host.length y.ch, .slice y.Am b.mail.length y.cm, .slice y.An b.nums.length y.cn, .slice y.At b.texts.length y.ct] 26) := ⟨_, rfl⟩
  rw [← hW0]
  have hx0 : Boxes w x y a b W0 := by rw [hW0]; exact HX.out
  clear HX hW0
  refine (HC1.out W0 hx0).mono ?_
  intro e W1 hO
  obtain ⟨he, hb⟩ := hO
  have hx1 := hx0.step hb
  clear hb hx0
  cases hv : sameD a b with
  | false =>
    rw [hv] at he HS
    subst he
    have HB := Lib.hid hx1.below
    clear hx1
    go_wp2
    go_ret
    exact ⟨by rw [HS.out]; rfl, HB.out⟩
  | true =>
  rw [hv] at he HS
  subst he
  have p1 : W1.cell? ⟨w.heap.size, 1, none⟩ = some (.slice x.Ah a.host.length x.ch) := hx1.ba.cell 1
  have q1 : W1.cell? ⟨w.heap.size + 1, 1, none⟩ = some (.slice y.Ah b.host.length y.ch) := hx1.bb.cell 1
  go_wp2_with fail
  refine (HC2.out W1 hx1).mono ?_
  intro e W2 hO
  obtain ⟨he, hb⟩ := gave_drewn hO
  have hx2 := hx1.step hb
  clear hO hb hx1 p1 q1
  cases hv : decide (a.host = b.host) with
  | false =>
    rw [hv] at he HS
    subst he
    have HB := Lib.hid hx2.below
    clear hx2
    go_wp2
    go_ret
    exact ⟨by rw [HS.out]; rfl, HB.out⟩
  | true =>
  rw [hv] at he HS
  subst he
  have p2 : W2.cell? ⟨w.heap.size, 2, none⟩ = some (.slice x.Am a.mail.length x.cm) := hx2.ba.cell 2
  have q2 : W2.cell? ⟨w.heap.size + 1, 2, none⟩ = some (.slice y.Am b.mail.length y.cm) := hx2.bb.cell 2
  go_wp2_with fail
  refine (HC3.out W2 hx2).mono ?_
  intro e W3 hO
  obtain ⟨he, hb⟩ := gave_drewn hO
  have hx3 := hx2.step hb
  clear hO hb hx2 p2 q2
  subst he
  have HB := Lib.hid hx3.below
  clear hx3
  go_wp2
  go_ret
  refine ⟨?_, HB.out⟩
  rw [HS.out]
  simp

end Go.Proofs.Ytjjmllbkfbdcnaa

namespace Go.Proofs.Ytjjmllbkfbdcnaa
open Go.RowKit

def OwnOne (w : World) (r : Rt) (e : Ending) (w' : World) : Prop := ∃ y : RV, e = .returned (y.val r) ∧ OwnR w' w.heap.size y r ∧ Below w.heap.size w w'

set_option maxRecDepth 100000 in
set_option maxHeartbeats 4000000 in
theorem own_one (x : RV) (r : Rt) (w : World) (hx : RAt w w.heap.size x r) (hl : LightR r) :
    Calls Try.prog 25 #[x.val r] w (OwnOne w r) := by
  obtain ⟨W1, hW1⟩ : ∃ W, W = (w.alloc (.cells #[.slice x.A r.name.length x.c, .int .i64 r.kind, .int .i64 r.cls, .int .i64 r.ttl, .slice x.d.Ab r.data.bytes.length x.d.cb, .slice x.d.Ah r.data.host.length x.d.ch, .slice x.d.Am r.data.mail.length x.d.cm, .slice x.d.An r.data.nums.length x.d.cn, .slice x.d.At r.data.texts.length x.d.ct] 51)).alloc (.cells #[.slice none 0 0, .int .i64 0, .int .i64 0, .int .i64 0, .slice none 0 0, .slice none 0 0, .slice none 0 0, .slice none 0 0, .slice none 0 0] 51) := ⟨_, rfl⟩
  obtain ⟨W2, hW2⟩ : ∃ W, W = W1.alloc (.cells #[.slice x.A r.name.length x.c, .int .i64 r.kind, .int .i64 r.cls, .int .i64 r.ttl, .slice x.d.Ab r.data.bytes.length x.d.cb, .slice x.d.Ah r.data.host.length x.d.ch, .slice x.d.Am r.data.mail.length x.d.cm, .slice x.d.An r.data.nums.length x.d.cn, .slice x.d.At r.data.texts.length x.d.ct] 51) := ⟨_, rfl⟩
  have hz1 : W1.heap.size = w.heap.size + 2 := by rw [hW1]; simp
  have hz2 : W2.heap.size = w.heap.size + 3 := by rw [hW2]; simp [hz1]
  have hb1 : Below w.heap.size w W1 := by rw [hW1]; exact ((Below.refl _ _).alloc (Nat.le_refl _) _).alloc (by simp) _
  have hb2 : Below w.heap.size w W2 := by rw [hW2]; exact hb1.alloc (by omega) _
  have hwh : Whole W2 (w.heap.size + 1) 51 [.slice none 0 0, .int .i64 0, .int .i64 0, .int .i64 0, .slice none 0 0, .slice none 0 0, .slice none 0 0, .slice none 0 0, .slice none 0 0] := by
    rw [hW2, hW1]
    have h := (Whole.made (w.alloc (.cells #[.slice x.A r.name.length x.c, .int .i64 r.kind, .int .i64 r.cls, .int .i64 r.ttl, .slice x.d.Ab r.data.bytes.length x.d.cb, .slice x.d.Ah r.data.host.length x.d.ch, .slice x.d.Am r.data.mail.length x.d.cm, .slice x.d.An r.data.nums.length x.d.cn, .slice x.d.At r.data.texts.length x.d.ct] 51)) [.slice none 0 0, .int .i64 0, .int .i64 0, .int .i64 0, .slice none 0 0, .slice none 0 0, .slice none 0 0, .slice none 0 0, .slice none 0 0] 51)
    rw [show (w.alloc (.cells #[.slice x.A r.name.length x.c, .int .i64 r.kind, .int .i64 r.cls, .int .i64 r.ttl, .slice x.d.Ab r.data.bytes.length x.d.cb, .slice x.d.Ah r.data.host.length x.d.ch, .slice x.d.Am r.data.mail.length x.d.cm, .slice x.d.An r.data.nums.length x.d.cn, .slice x.d.At r.data.texts.length x.d.ct] 51)).heap.size = w.heap.size + 1 by simp] at h
    exact h.alloc _
  have hrow : Row W2 W2.heap.size (some ⟨w.heap.size + 2, 0, none⟩) ([(x, r)].flatMap cellsR) := by
    have h := Row.made W1 #[.slice x.A r.name.length x.c, .int .i64 r.kind, .int .i64 r.cls, .int .i64 r.ttl, .slice x.d.Ab r.data.bytes.length x.d.cb, .slice x.d.Ah r.data.host.length x.d.ch, .slice x.d.Am r.data.mail.length x.d.cm, .slice x.d.An r.data.nums.length x.d.cn, .slice x.d.At r.data.texts.length x.d.ct] 51
    rw [hz1, ← hW2] at h
    rw [hz2]
    exact h
  have HC := Lib.hid (ownRRs_rows W2 (some ⟨w.heap.size + 2, 0, none⟩) 1 [(x, r)] ⟨hrow, fun p hp => by rw [List.mem_singleton.1 hp]; exact (hx.below hb2).mono hb2.size⟩ (fun p hp => by rw [List.mem_singleton.1 hp]; exact hl) (by simp))
  have HB2 := Lib.hid hb2
  have HW2 := Lib.hid hwh
  have HZ2 := Lib.hid hz2
  clear hb1 hb2 hwh hrow hx hl hz1 hz2
  subst hW2
  subst hW1
  go_enter Try.func25, Try.ntmps25
  go_wp2_with fail
  refine HC.out.mono ?_
  rintro e w3 ⟨A3, c3, qs, rfl, hq, hrs⟩
  have hql : qs.length = 1 := by rw [← length_recs, hq]; rfl
  match qs, hql, hq, hrs with
  | [(y, r2)], _, hq, hrs =>
  obtain rfl : r2 = r := by simpa [recs] using hq
  obtain ⟨b, off, rfl, hbH, _, q0, q1, q2, q3, q4, q5, q6, q7, q8⟩ := hrs.reads.at_ (i := 0) (by simp)
  simp only [List.getElem_cons_zero, Nat.zero_mul, Nat.add_zero] at q0 q1 q2 q3 q4 q5 q6 q7 q8
  have HY := Lib.hid (hrs.each (y, r2) (by simp))
  have hzz := hrs.size
  rw [HZ2.out] at hzz
  have HB3 := Lib.hid (HB2.out.trans (hrs.below.mono (by rw [HZ2.out]; omega)))
  have HW3 := Lib.hid (HW2.out.below hrs.below (by rw [HZ2.out]; omega))
  clear hrs hq HB2 HW2 HC
  go_wp2_with (
    refine wpList_storeRR (w.heap.size + 1) 2 7 y r2 _ rfl rfl rfl rfl HW3.out rfl ?_
    intro V hWV hbv hhv hvs
    have v0 : V.cell? ⟨w.heap.size + 1, 0, none⟩ = some (.slice y.A r2.name.length y.c) := hWV.cell 0
    have v1 : V.cell? ⟨w.heap.size + 1, 1, none⟩ = some (.int .i64 r2.kind) := hWV.cell 1
    have v2 : V.cell? ⟨w.heap.size + 1, 2, none⟩ = some (.int .i64 r2.cls) := hWV.cell 2
    have v3 : V.cell? ⟨w.heap.size + 1, 3, none⟩ = some (.int .i64 r2.ttl) := hWV.cell 3
    have v4 : V.cell? ⟨w.heap.size + 1, 4, none⟩ = some (.slice y.d.Ab r2.data.bytes.length y.d.cb) := hWV.cell 4
    have v5 : V.cell? ⟨w.heap.size + 1, 5, none⟩ = some (.slice y.d.Ah r2.data.host.length y.d.ch) := hWV.cell 5
    have v6 : V.cell? ⟨w.heap.size + 1, 6, none⟩ = some (.slice y.d.Am r2.data.mail.length y.d.cm) := hWV.cell 6
    have v7 : V.cell? ⟨w.heap.size + 1, 7, none⟩ = some (.slice y.d.An r2.data.nums.length y.d.cn) := hWV.cell 7
    have v8 : V.cell? ⟨w.heap.size + 1, 8, none⟩ = some (.slice y.d.At r2.data.texts.length y.d.ct) := hWV.cell 8
    have HBV := Lib.hid (HB3.out.trans (hbv.mono (Nat.le_succ _)))
    have HYV := Lib.hid (HY.out.keepB (w' := V) fun g h1 _ => hhv g (by rw [HZ2.out] at h1; omega))
    clear hWV hbv hhv hvs)
  refine ⟨rfl, y.val r2, ?_, y, rfl, ?_, HBV.out⟩
  · simp [results, Try.results25, go_sem, v0, v1, v2, v3, v4, v5, v6, v7, v8]
  · have h := HYV.out
    rw [HZ2.out] at h
    exact ⟨own_mono h.n (by omega), h.d.monoB (by omega)⟩

end Go.Proofs.Ytjjmllbkfbdcnaa

namespace Go.Proofs.Ytjjmllbkfbdcnaa
open Go.RowKit

def sameR (a b : Rt) : Bool := decide (a.name = b.name) && (decide (a.kind = b.kind) && (decide (a.cls = b.cls) && (decide (a.ttl = b.ttl) && exactD a.data b.data)))
theorem sameR_self (r : Rt) : sameR r r = true := by simp [sameR, exactD_self]

set_option maxRecDepth 100000 in
set_option maxHeartbeats 4000000 in
theorem sameRR_any (x y : RV) (a b : Rt) (w : World) (hx : RAt w w.heap.size x a) (hy : RAt w w.heap.size y b) (hn : a.name.length ≤ maxLen) (la : Sized a.data) (lb : Sized b.data) (kh : a.data.host.length ≤ maxLen) (km : a.data.mail.length ≤ maxLen) :
    Calls Try.prog 31 #[x.val a, y.val b] w (Gave w (.bool (sameR a b))) := by
  obtain ⟨W, hW⟩ : ∃ W, W = (w.alloc (.cells #[.slice x.A a.name.length x.c, .int .i64 a.kind, .int .i64 a.cls, .int .i64 a.ttl, .slice x.d.Ab a.data.bytes.length x.d.cb, .slice x.d.Ah a.data.host.length x.d.ch, .slice x.d.Am a.data.mail.length x.d.cm, .slice x.d.An a.data.nums.length x.d.cn, .slice x.d.At a.data.texts.length x.d.ct] 51)).alloc (.cells #[.slice y.A b.name.length y.c, .int .i64 b.kind, .int .i64 b.cls, .int .i64 b.ttl, .slice y.d.Ab b.data.bytes.length y.d.cb, .slice y.d.Ah b.data.host.length y.d.ch, .slice y.d.Am b.data.mail.length y.d.cm, .slice y.d.An b.data.nums.length y.d.cn, .slice y.d.At b.data.texts.length y.d.ct] 51) := ⟨_, rfl⟩
  have hz : (w.alloc (.cells #[.slice x.A a.name.length x.c, .int .i64 a.kind, .int .i64 a.cls, .int .i64 a.ttl, .slice x.d.Ab a.data.bytes.length x.d.cb, .slice x.d.Ah a.data.host.length x.d.ch, .slice x.d.Am a.data.mail.length x.d.cm, .slice x.d.An a.data.nums.length x.d.cn, .slice x.d.At a.data.texts.length x.d.ct] 51)).heap.size = w.heap.size + 1 := by simp
  have hB : Below w.heap.size w W := by rw [hW]; exact ((Below.refl _ _).alloc (Nat.le_refl _) _).alloc (by rw [hz]; omega) _
  have ha : Whole W w.heap.size 51 [.slice x.A a.name.length x.c, .int .i64 a.kind, .int .i64 a.cls, .int .i64 a.ttl, .slice x.d.Ab a.data.bytes.length x.d.cb, .slice x.d.Ah a.data.host.length x.d.ch, .slice x.d.Am a.data.mail.length x.d.cm, .slice x.d.An a.data.nums.length x.d.cn, .slice x.d.At a.data.texts.length x.d.ct] := by rw [hW]; exact (Whole.made w _ _).alloc _
  have hb : Whole W (w.heap.size + 1) 51 [.slice y.A b.name.length y.c, .int .i64 b.kind, .int .i64 b.cls, .int .i64 b.ttl, .slice y.d.Ab b.data.bytes.length y.d.cb, .slice y.d.Ah b.data.host.length y.d.ch, .slice y.d.Am b.data.mail.length y.d.cm, .slice y.d.An b.data.nums.length y.d.cn, .slice y.d.At b.data.texts.length y.d.ct] := by
    rw [hW]
    have h := Whole.made (w.alloc (.cells #[.slice x.A a.name.length x.c, .int .i64 a.kind, .int .i64 a.cls, .int .i64 a.ttl, .slice x.d.Ab a.data.bytes.length x.d.cb, .slice x.d.Ah a.data.host.length x.d.ch, .slice x.d.Am a.data.mail.length x.d.cm, .slice x.d.An a.data.nums.length x.d.cn, .slice x.d.At a.data.texts.length x.d.ct] 51)) [.slice y.A b.name.length y.c, .int .i64 b.kind, .int .i64 b.cls, .int .i64 b.ttl, .slice y.d.Ab b.data.bytes.length y.d.cb, .slice y.d.Ah b.data.host.length y.d.ch, .slice y.d.Am b.data.mail.length y.d.cm, .slice y.d.An b.data.nums.length y.d.cn, .slice y.d.At b.data.texts.length y.d.ct] 51
    rw [hz] at h
    exact h
  have hsz : w.heap.size + 2 ≤ W.heap.size := by rw [hW]; simp
  have HB0 := Lib.hid hB
  have HA0 := Lib.hid ha
  have HBB := Lib.hid hb
  have HX := Lib.hid hx
  have HY := Lib.hid hy
  have HE := Lib.hid (fun W' (h : Below w.heap.size w W') => exact_any x.A y.A a.name.length b.name.length x.c y.c w.heap.size a.name b.name W' rfl rfl (hx.below h).n (hy.below h).n hn)
  have HD := Lib.hid (fun W' (h : Below w.heap.size w W') => dexact_any x.d y.d a.data b.data W' ((hx.below h).mono h.size).d ((hy.below h).mono h.size).d la lb kh km)
  have HS := Lib.hid (show sameR a b = (decide (a.name = b.name) && (decide (a.kind = b.kind) && (decide (a.cls = b.cls) && (decide (a.ttl = b.ttl) && exactD a.data b.data)))) from rfl)
  clear hB ha hb hx hy hz
  subst hW
  go_enter Try.func31, Try.ntmps31
  go_wp2_with fail
  refine (HE.out _ HB0.out).mono ?_
  intro e w1 hg1
  obtain ⟨rfl, hb1⟩ := gave_drewn hg1
  have HWA := Lib.hid (HA0.out.below hb1 (by omega))
  have HWB := Lib.hid (HBB.out.below hb1 (by omega))
  have HB1 := Lib.hid (HB0.out.trans (hb1.mono HB0.out.size))
  clear hb1 hg1 HA0 HBB HB0 hsz
  cases h1 : decide (a.name = b.name) with
  | false =>
    rw [h1] at HS
    go_wp2
    go_ret
    exact ⟨by rw [HS.out]; rfl, HB1.out⟩
  | true =>
  rw [h1] at HS
  have p1 : w1.cell? ⟨w.heap.size, 1, none⟩ = some (.int .i64 a.kind) := Whole.cell (L := [.slice x.A a.name.length x.c, .int .i64 a.kind, .int .i64 a.cls, .int .i64 a.ttl, .slice x.d.Ab a.data.bytes.length x.d.cb, .slice x.d.Ah a.data.host.length x.d.ch, .slice x.d.Am a.data.mail.length x.d.cm, .slice x.d.An a.data.nums.length x.d.cn, .slice x.d.At a.data.texts.length x.d.ct]) HWA.out 1
  have p2 : w1.cell? ⟨w.heap.size, 2, none⟩ = some (.int .i64 a.cls) := Whole.cell (L := [.slice x.A a.name.length x.c, .int .i64 a.kind, .int .i64 a.cls, .int .i64 a.ttl, .slice x.d.Ab a.data.bytes.length x.d.cb, .slice x.d.Ah a.data.host.length x.d.ch, .slice x.d.Am a.data.mail.length x.d.cm, .slice x.d.An a.data.nums.length x.d.cn, .slice x.d.At a.data.texts.length x.d.ct]) HWA.out 2
  have p3 : w1.cell? ⟨w.heap.size, 3, none⟩ = some (.int .i64 a.ttl) := Whole.cell (L := [.slice x.A a.name.length x.c, .int .i64 a.kind, .int .i64 a.cls, .int .i64 a.ttl, .slice x.d.Ab a.data.bytes.length x.d.cb, .slice x.d.Ah a.data.host.length x.d.ch, .slice x.d.Am a.data.mail.length x.d.cm, .slice x.d.An a.data.nums.length x.d.cn, .slice x.d.At a.data.texts.length x.d.ct]) HWA.out 3
  have p4 : w1.cell? ⟨w.heap.size, 4, none⟩ = some (.slice x.d.Ab a.data.bytes.length x.d.cb) := Whole.cell (L := [.slice x.A a.name.length x.c, .int .i64 a.kind, .int .i64 a.cls, .int .i64 a.ttl, .slice x.d.Ab a.data.bytes.length x.d.cb, .slice x.d.Ah a.data.host.length x.d.ch, .slice x.d.Am a.data.mail.length x.d.cm, .slice x.d.An a.data.nums.length x.d.cn, .slice x.d.At a.data.texts.length x.d.ct]) HWA.out 4
  have p5 : w1.cell? ⟨w.heap.size, 5, none⟩ = some (.slice x.d.Ah a.data.host.length x.d.ch) := Whole.cell (L := [.slice x.A a.name.length x.c, .int .i64 a.kind, .int .i64 a.cls, .int .i64 a.ttl, .slice x.d.Ab a.data.bytes.length x.d.cb, .slice x.d.Ah a.data.host.length x.d.ch, .slice x.d.Am a.data.mail.length x.d.cm, .slice x.d.An a.data.nums.length x.d.cn, .slice x.d.At a.data.texts.length x.d.ct]) HWA.out 5
  have p6 : w1.cell? ⟨w.heap.size, 6, none⟩ = some (.slice x.d.Am a.data.mail.length x.d.cm) := Whole.cell (L := [.slice x.A a.name.length x.c, .int .i64 a.kind, .int .i64 a.cls, .int .i64 a.ttl, .slice x.d.Ab a.data.bytes.length x.d.cb, .slice x.d.Ah a.data.host.length x.d.ch, .slice x.d.Am a.data.mail.length x.d.cm, .slice x.d.An a.data.nums.length x.d.cn, .slice x.d.At a.data.texts.length x.d.ct]) HWA.out 6
  have p7 : w1.cell? ⟨w.heap.size, 7, none⟩ = some (.slice x.d.An a.data.nums.length x.d.cn) := Whole.cell (L := [.slice x.A a.name.length x.c, .int .i64 a.kind, .int .i64 a.cls, .int .i64 a.ttl, .slice x.d.Ab a.data.bytes.length x.d.cb, .slice x.d.Ah a.data.host.length x.d.ch, .slice x.d.Am a.data.mail.length x.d.cm, .slice x.d.An a.data.nums.length x.d.cn, .slice x.d.At a.data.texts.length x.d.ct]) HWA.out 7
  have p8 : w1.cell? ⟨w.heap.size, 8, none⟩ = some (.slice x.d.At a.data.texts.length x.d.ct) := Whole.cell (L := [.slice x.A a.name.length x.c, .int .i64 a.kind, .int .i64 a.cls, .int .i64 a.ttl, .slice x.d.Ab a.data.bytes.length x.d.cb, .slice x.d.Ah a.data.host.length x.d.ch, .slice x.d.Am a.data.mail.length x.d.cm, .slice x.d.An a.data.nums.length x.d.cn, .slice x.d.At a.data.texts.length x.d.ct]) HWA.out 8
  have q1 : w1.cell? ⟨w.heap.size + 1, 1, none⟩ = some (.int .i64 b.kind) := Whole.cell (L := [.slice y.A b.name.length y.c, .int .i64 b.kind, .int .i64 b.cls, .int .i64 b.ttl, .slice y.d.Ab b.data.bytes.length y.d.cb, .slice y.d.Ah b.data.host.length y.d.ch, .slice y.d.Am b.data.mail.length y.d.cm, .slice y.d.An b.data.nums.length y.d.cn, .slice y.d.At b.data.texts.length y.d.ct]) HWB.out 1
  have q2 : w1.cell? ⟨w.heap.size + 1, 2, none⟩ = some (.int .i64 b.cls) := Whole.cell (L := [.slice y.A b.name.length y.c, .int .i64 b.kind, .int .i64 b.cls, .int .i64 b.ttl, .slice y.d.Ab b.data.bytes.length y.d.cb, .slice y.d.Ah b.data.host.length y.d.ch, .slice y.d.Am b.data.mail.length y.d.cm, .slice y.d.An b.data.nums.length y.d.cn, .slice y.d.At b.data.texts.length y.d.ct]) HWB.out 2
  have q3 : w1.cell? ⟨w.heap.size + 1, 3, none⟩ = some (.int .i64 b.ttl) := Whole.cell (L := [.slice y.A b.name.length y.c, .int .i64 b.kind, .int .i64 b.cls, .int .i64 b.ttl, .slice y.d.Ab b.data.bytes.length y.d.cb, .slice y.d.Ah b.data.host.length y.d.ch, .slice y.d.Am b.data.mail.length y.d.cm, .slice y.d.An b.data.nums.length y.d.cn, .slice y.d.At b.data.texts.length y.d.ct]) HWB.out 3
  have q4 : w1.cell? ⟨w.heap.size + 1, 4, none⟩ = some (.slice y.d.Ab b.data.bytes.length y.d.cb) := Whole.cell (L := [.slice y.A b.name.length y.c, .int .i64 b.kind, .int .i64 b.cls, .int .i64 b.ttl, .slice y.d.Ab b.data.bytes.length y.d.cb, .slice y.d.Ah b.data.host.length y.d.ch, .slice y.d.Am b.data.mail.length y.d.cm, .slice y.d.An b.data.nums.length y.d.cn, .slice y.d.At b.data.texts.length y.d.ct]) HWB.out 4
  have q5 : w1.cell? ⟨w.heap.size + 1, 5, none⟩ = some (.slice y.d.Ah b.data.host.length y.d.ch) := Whole.cell (L := [.slice y.A b.name.length y.c, .int .i64 b.kind, .int .i64 b.cls, .int .i64 b.ttl, .slice y.d.Ab b.data.bytes.length y.d.cb, .slice y.d.Ah b.data.host.length y.d.ch, .slice y.d.Am b.data.mail.length y.d.cm, .slice y.d.An b.data.nums.length y.d.cn, .slice y.d.At b.data.texts.length y.d.ct]) HWB.out 5
  have q6 : w1.cell? ⟨w.heap.size + 1, 6, none⟩ = some (.slice y.d.Am b.data.mail.length y.d.cm) := Whole.cell (L := [.slice y.A b.name.length y.c, .int .i64 b.kind, .int .i64 b.cls, .int .i64 b.ttl, .slice y.d.Ab b.data.bytes.length y.d.cb, .slice y.d.Ah b.data.host.length y.d.ch, .slice y.d.Am b.data.mail.length y.d.cm, .slice y.d.An b.data.nums.length y.d.cn, .slice y.d.At b.data.texts.length y.d.ct]) HWB.out 6
  have q7 : w1.cell? ⟨w.heap.size + 1, 7, none⟩ = some (.slice y.d.An b.data.nums.length y.d.cn) := Whole.cell (L := [.slice y.A b.name.length y.c, .int .i64 b.kind, .int .i64 b.cls, .int .i64 b.ttl, .slice y.d.Ab b.data.bytes.length y.d.cb, .slice y.d.Ah b.data.host.length y.d.ch, .slice y.d.Am b.data.mail.length y.d.cm, .slice y.d.An b.data.nums.length y.d.cn, .slice y.d.At b.data.texts.length y.d.ct]) HWB.out 7
  have q8 : w1.cell? ⟨w.heap.size + 1, 8, none⟩ = some (.slice y.d.At b.data.texts.length y.d.ct) := Whole.cell (L := [.slice y.A b.name.length y.c, .int .i64 b.kind, .int .i64 b.cls, .int .i64 b.ttl, .slice y.d.Ab b.data.bytes.length y.d.cb, .slice y.d.Ah b.data.host.length y.d.ch, .slice y.d.Am b.data.mail.length y.d.cm, .slice y.d.An b.data.nums.length y.d.cn, .slice y.d.At b.data.texts.length y.d.ct]) HWB.out 8
  by_cases h2 : a.kind = b.kind
  case neg =>
    have t2 : (a.kind == b.kind) = false := by rw [beq_eq_false_iff_ne]; exact h2
    rw [show decide (a.kind = b.kind) = false from decide_eq_false h2] at HS
    clear h2
    go_wp2
    go_ret
    exact ⟨by rw [HS.out]; rfl, HB1.out⟩
  have t2 : (a.kind == b.kind) = true := by rw [beq_iff_eq]; exact h2
  rw [show decide (a.kind = b.kind) = true from decide_eq_true h2] at HS
  clear h2
  by_cases h3 : a.cls = b.cls
  case neg =>
    have t3 : (a.cls == b.cls) = false := by rw [beq_eq_false_iff_ne]; exact h3
    rw [show decide (a.cls = b.cls) = false from decide_eq_false h3] at HS
    clear h3
    go_wp2
    go_ret
    exact ⟨by rw [HS.out]; rfl, HB1.out⟩
  have t3 : (a.cls == b.cls) = true := by rw [beq_iff_eq]; exact h3
  rw [show decide (a.cls = b.cls) = true from decide_eq_true h3] at HS
  clear h3
  by_cases h4 : a.ttl = b.ttl
  case neg =>
    have t4 : (a.ttl == b.ttl) = false := by rw [beq_eq_false_iff_ne]; exact h4
    rw [show decide (a.ttl = b.ttl) = false from decide_eq_false h4] at HS
    clear h4
    go_wp2
    go_ret
    exact ⟨by rw [HS.out]; rfl, HB1.out⟩
  have t4 : (a.ttl == b.ttl) = true := by rw [beq_iff_eq]; exact h4
  rw [show decide (a.ttl = b.ttl) = true from decide_eq_true h4] at HS
  clear h4
  go_wp2_with fail
  refine (HD.out _ HB1.out).mono ?_
  rintro e w2 ⟨rfl, hb2⟩
  have HB2 := Lib.hid (HB1.out.trans (hb2.mono HB1.out.size))
  clear hb2
  go_wp2
  go_ret
  exact ⟨by rw [HS.out]; simp, HB2.out⟩

end Go.Proofs.Ytjjmllbkfbdcnaa

namespace Go.Proofs.Ytjjmllbkfbdcnaa
open Go.RowKit

set_option maxRecDepth 20000 in
theorem getRR_example : getRR [0, 0, 1, 0, 1, 0, 0, 0, 5, 0, 4, 1, 2, 3, 4] 0 = (⟨[], 1, 1, 5, ⟨[1, 2, 3, 4], [], [], [], []⟩⟩, 15, 0) := by
  have h : getW [0, 0, 1, 0, 1, 0, 0, 0, 5, 0, 4, 1, 2, 3, 4] 0 = ([], 1, 0) := by
    rw [show (0 : Int) = ((0 : Nat) : Int) from rfl, getW_at, getR_zero (by decide) (by decide)]
    rfl
  unfold getRR
  rw [h]
  rfl

set_option maxRecDepth 8000 in
set_option maxHeartbeats 2000000 in
theorem ranswers_any (w : World) : Calls Try.prog 22 #[] w (TrueB w) := by
  have HG := Lib.hid (fun W A c hr hc1 hc2 => rget_any A 15 c [0, 0, 1, 0, 1, 0, 0, 0, 5, 0, 4, 1, 2, 3, 4] 0 W rfl hr hc1 hc2 (by omega))
  rw [getRR_example] at HG
  go_enter Try.func22, Try.ntmps22
  go_wp2_with fail
  refine (HG.out _ (some ⟨w.heap.size, 0, none⟩) 15 ?_ (by decide) (by decide)).mono ?_
  · exact (Row.made w #[.int .u8 0, .int .u8 0, .int .u8 1, .int .u8 0, .int .u8 1, .int .u8 0, .int .u8 0, .int .u8 0, .int .u8 5, .int .u8 0, .int .u8 4, .int .u8 1, .int .u8 2, .int .u8 3, .int .u8 4] 5).mono (by simp)
  rintro e w1 ⟨⟨A, c, ⟨Ab, Ah, Am, An, At, cb, ch, cm, cn, ct⟩⟩, rfl, _, hb⟩
  have HB := Lib.hid hb
  clear hb
  go_wp2
  go_ret
  exact ⟨rfl, (((Below.refl _ _).alloc (Nat.le_refl _) _).trans (HB.out.mono (by simp))).alloc (Nat.le_trans (by simp) HB.out.size) _⟩

end Go.Proofs.Ytjjmllbkfbdcnaa
