/-
  The contract of rr.Get.
-/
import Derived.Test.YtjjmllbkfbdcnaaRHead
import Derived.Test.YtjjmllbkfbdcnaaROwn
namespace Go.Proofs.Ytjjmllbkfbdcnaa
open Go.RowKit

theorem nextR_le {b : List UInt8} {x p : Nat} (hx : x ≤ b.length) (hp : p ≤ b.length) : nextR x p ≤ b.length := by
  unfold nextR
  split <;> assumption
theorem getR_le (b : List UInt8) (p q x : Nat) (n : List (List UInt8)) (hx : x ≤ b.length) : (getR b p q x n).2.1 ≤ b.length := by
  fun_induction getR b p q x n
  all_goals first
    | exact Nat.zero_le _
    | exact nextR_le hx (by omega)
    | (rename_i ih; exact ih (nextR_le hx (by omega)))
    | (rename_i ih; exact ih hx)
theorem getW_le (b : List UInt8) (a : Int) : (getW b a).2.1 ≤ b.length := by
  unfold getW
  split
  · exact Nat.zero_le _
  · exact getR_le b _ _ 0 [] (Nat.zero_le _)

def zeroR : Rt := ⟨[], 0, 0, 0, ⟨[], [], [], [], []⟩⟩
def zeroV : RV := ⟨none, 0, ⟨none, none, none, none, none, 0, 0, 0, 0, 0⟩⟩
theorem zero_own (w : World) (B : Nat) : OwnR w B zeroV zeroR := ⟨World.ownsRow_nil _ _ _ _, no_data w B⟩
/-- The record that begins at a, and the place behind it. -/
def getRR (b : List UInt8) (a : Int) : Rt × Nat × Nat :=
  if (getW b a).2.2 ≠ 0 then (zeroR, 0, (getW b a).2.2) else
  if b.length < (getW b a).2.1 + 10 then (zeroR, 0, 3) else
  if numAt b (getW b a).2.1 2 = 0 then (zeroR, 0, 2) else
  if (getD b (((getW b a).2.1 : Int) + 10) (numAt b ((getW b a).2.1 + 8) 2) (numAt b (getW b a).2.1 2)).2 ≠ 0 then (zeroR, 0, (getD b (((getW b a).2.1 : Int) + 10) (numAt b ((getW b a).2.1 + 8) 2) (numAt b (getW b a).2.1 2)).2) else
  (⟨(getW b a).1, numAt b (getW b a).2.1 2, numAt b ((getW b a).2.1 + 2) 2, ttlAt b ((getW b a).2.1 + 4), (getD b (((getW b a).2.1 : Int) + 10) (numAt b ((getW b a).2.1 + 8) 2) (numAt b (getW b a).2.1 2)).1⟩, (getW b a).2.1 + 10 + numAt b ((getW b a).2.1 + 8) 2, 0)
/-- What the call leaves: a record in slices of its own, the place, the error. -/
def GotR (w : World) (r : Rt × Nat × Nat) (e : Ending) (w' : World) : Prop :=
  ∃ x : RV, e = .returned (.tuple #[x.val r.1, .int .i64 r.2.1, .int .i64 r.2.2]) ∧ OwnR w' w.heap.size x r.1 ∧ Below w.heap.size w w'

/-- A whole record is stored; of the new world this much is told. -/
theorem wpList_storeRR {w : World} {ops : Array Oper} {rest : List Oper} {o : Oper} {a : Act} {Q : Exit → Act → World → Prop} (g k1 k2 : Nat) (y : RV) (r : Rt) (L : List Value) (hg : o.guard = none) (ho : o.op = .store 51 (.tmp k1) (.tmp k2))
    (h2 : a.tmps[k1]? = some (.pointer (some ⟨g, 0, none⟩))) (hu : a.tmps[k2]? = some (y.val r)) (hw : Whole w g 51 L) (hl : L.length = 9)
    (h : ∀ V, Whole V g 51 (cellsR (y, r)) → Below g w V → (∀ j, j ≠ g → V.heap[j]? = w.heap[j]?) → V.heap.size = w.heap.size → wpList Try.prog ops Q rest (a.put o.dst undef) V) : wpList Try.prog ops Q (o :: rest) a w := by
  match L, hl with
  | [u0, u1, u2, u3, u4, u5, u6, u7, u8], _ =>
  have q0 : w.cell? ⟨g, 0, none⟩ = some u0 := hw.cell 0
  have z0 : w.frozen? ⟨g, 0, none⟩ = false := hw.frozen 0
  have q1 : w.cell? ⟨g, 1, none⟩ = some u1 := hw.cell 1
  have z1 : w.frozen? ⟨g, 1, none⟩ = false := hw.frozen 1
  have q2 : w.cell? ⟨g, 2, none⟩ = some u2 := hw.cell 2
  have z2 : w.frozen? ⟨g, 2, none⟩ = false := hw.frozen 2
  have q3 : w.cell? ⟨g, 3, none⟩ = some u3 := hw.cell 3
  have z3 : w.frozen? ⟨g, 3, none⟩ = false := hw.frozen 3
  have q4 : w.cell? ⟨g, 4, none⟩ = some u4 := hw.cell 4
  have z4 : w.frozen? ⟨g, 4, none⟩ = false := hw.frozen 4
  have q5 : w.cell? ⟨g, 5, none⟩ = some u5 := hw.cell 5
  have z5 : w.frozen? ⟨g, 5, none⟩ = false := hw.frozen 5
  have q6 : w.cell? ⟨g, 6, none⟩ = some u6 := hw.cell 6
  have z6 : w.frozen? ⟨g, 6, none⟩ = false := hw.frozen 6
  have q7 : w.cell? ⟨g, 7, none⟩ = some u7 := hw.cell 7
  have z7 : w.frozen? ⟨g, 7, none⟩ = false := hw.frozen 7
  have q8 : w.cell? ⟨g, 8, none⟩ = some u8 := hw.cell 8
  have z8 : w.frozen? ⟨g, 8, none⟩ = false := hw.frozen 8
  have hk := h (((((((((w.setCell ⟨g, 0, none⟩ (.slice y.A r.name.length y.c)).setCell ⟨g, 1, none⟩ (.int .i64 r.kind)).setCell ⟨g, 2, none⟩ (.int .i64 r.cls)).setCell ⟨g, 3, none⟩ (.int .i64 r.ttl)).setCell ⟨g, 4, none⟩ (.slice y.d.Ab r.data.bytes.length y.d.cb)).setCell ⟨g, 5, none⟩ (.slice y.d.Ah r.data.host.length y.d.ch)).setCell ⟨g, 6, none⟩ (.slice y.d.Am r.data.mail.length y.d.cm)).setCell ⟨g, 7, none⟩ (.slice y.d.An r.data.nums.length y.d.cn)).setCell ⟨g, 8, none⟩ (.slice y.d.At r.data.texts.length y.d.ct))
    (((((((((hw.set_ 0 _).set_ 1 _).set_ 2 _).set_ 3 _).set_ 4 _).set_ 5 _).set_ 6 _).set_ 7 _).set_ 8 _)
    (by
      have hs (W : World) (i : Nat) (u : Value) : Below g W (W.setCell ⟨g, i, none⟩ u) := (Below.refl _ W).setCell (p := ⟨g, i, none⟩) (Nat.le_refl _) u
      exact ((((((((hs _ 0 _).trans (hs _ 1 _)).trans (hs _ 2 _)).trans (hs _ 3 _)).trans (hs _ 4 _)).trans (hs _ 5 _)).trans (hs _ 6 _)).trans (hs _ 7 _)).trans (hs _ 8 _))
    (fun j hj => by
      have hs (W : World) (i : Nat) (u : Value) : (W.setCell ⟨g, i, none⟩ u).heap[j]? = W.heap[j]? := Below.heap_setCell W ⟨g, i, none⟩ u j hj
      rw [hs, hs, hs, hs, hs, hs, hs, hs, hs])
    (by simp)
  refine wpList_plain hg fun K hK => ?_
  have hk2 := hK _ _ hk
  unfold Oper.wp
  simp [execOp, ho, go_sem, h2, hu, q0, q1, q2, q3, q4, q5, q6, q7, q8, z0, z1, z2, z3, z4, z5, z6, z7, z8]
  exact hk2

set_option maxRecDepth 20000 in
set_option maxHeartbeats 8000000 in
theorem rget_any (A : Option Addr) (m cap : Nat) (b : List UInt8) (a : Int) (w : World) (hbl : b.length = m) (hrow : Row w w.heap.size A (b.map bc)) (hm : m ≤ cap) (hc : cap ≤ maxLen) (ha : a ≤ 9223372036854775807) :
    Calls Try.prog 30 #[.slice A m cap, .int .i64 a] w (GotR w (getRR b a)) := by
  have hle := getW_le b a
  obtain ⟨W0, hW0⟩ : ∃ W0, W0 = w.alloc (.cells #[.slice none 0 0, .int .i64 0, .int .i64 0, .int .i64 0, .slice none 0 0, .slice none 0 0, .slice none 0 0, .slice none 0 0, .slice none 0 0] 51) := ⟨_, rfl⟩
  have hb0 : Below w.heap.size w W0 := by rw [hW0]; exact (Below.refl _ _).alloc (Nat.le_refl _) _
  have hwh : Whole W0 w.heap.size 51 [.slice none 0 0, .int .i64 0, .int .i64 0, .int .i64 0, .slice none 0 0, .slice none 0 0, .slice none 0 0, .slice none 0 0, .slice none 0 0] := by rw [hW0]; exact Whole.made w _ _
  have hs0 : w.heap.size < W0.heap.size := by rw [hW0]; simp
  have HG := Lib.hid (wget_any A m cap b a W0 hbl ((hrow.below hb0).mono (Nat.le_of_lt hs0)) hc hm ha)
  have HR := Lib.hid hrow
  have HBL := Lib.hid hbl
  have HB0 := Lib.hid hb0
  have HW0 := Lib.hid hwh
  obtain ⟨n, p, k, hG⟩ : ∃ n p k, getW b a = (n, p, k) := ⟨_, _, _, rfl⟩
  have HF := Lib.hid (show getRR b a = if k ≠ 0 then (zeroR, 0, k) else
      if b.length < p + 10 then (zeroR, 0, 3) else
      if numAt b p 2 = 0 then (zeroR, 0, 2) else
      if (getD b ((p : Int) + 10) (numAt b (p + 8) 2) (numAt b p 2)).2 ≠ 0 then (zeroR, 0, (getD b ((p : Int) + 10) (numAt b (p + 8) 2) (numAt b p 2)).2) else
      (⟨n, numAt b p 2, numAt b (p + 2) 2, ttlAt b (p + 4), (getD b ((p : Int) + 10) (numAt b (p + 8) 2) (numAt b p 2)).1⟩, p + 10 + numAt b (p + 8) 2, 0) by
    unfold getRR
    rw [hG])
  rw [hG] at HG hle
  dsimp only at hle
  clear hrow hb0 hwh hG
  have hle2 : p ≤ m := by rw [← hbl]; exact hle
  clear hle hbl
  unfold maxLen at hc
  subst hW0
  go_enter Try.func30, Try.ntmps30
  go_wp2_with fail
  refine HG.out.mono ?_
  rintro e w1 ⟨v1, rfl, hown1, hb1⟩
  obtain ⟨A1, c1, rfl, _, _⟩ := own_form hown1
  have HO1 := Lib.hid hown1
  have HB1 := Lib.hid (HB0.out.trans (hb1.mono (Nat.le_of_lt hs0)))
  have HW1 := Lib.hid (HW0.out.below hb1 hs0)
  have hs1 : w.heap.size < w1.heap.size := Nat.lt_of_lt_of_le hs0 hb1.size
  clear hown1 hb1 HB0 HW0 HG
  by_cases hk : k = 0
  case neg =>
    have b1 : ((k : Int) != 0) = true := by rw [bne_iff_ne]; omega
    have HF2 := Lib.hid (show getRR b a = (zeroR, 0, k) by rw [HF.out, if_pos hk])
    clear HF hk
    go_wp2_with (
      refine wpList_storeRR w.heap.size 4 19 zeroV zeroR _ rfl rfl rfl rfl HW1.out rfl ?_
      intro V hWV hbv hhv hvs
      have v0 : V.cell? ⟨w.heap.size, 0, none⟩ = some (.slice none 0 0) := Whole.cell (L := [.slice none 0 0, .int .i64 0, .int .i64 0, .int .i64 0, .slice none 0 0, .slice none 0 0, .slice none 0 0, .slice none 0 0, .slice none 0 0]) hWV 0
      have v1 : V.cell? ⟨w.heap.size, 1, none⟩ = some (.int .i64 0) := Whole.cell (L := [.slice none 0 0, .int .i64 0, .int .i64 0, .int .i64 0, .slice none 0 0, .slice none 0 0, .slice none 0 0, .slice none 0 0, .slice none 0 0]) hWV 1
      have v2 : V.cell? ⟨w.heap.size, 2, none⟩ = some (.int .i64 0) := Whole.cell (L := [.slice none 0 0, .int .i64 0, .int .i64 0, .int .i64 0, .slice none 0 0, .slice none 0 0, .slice none 0 0, .slice none 0 0, .slice none 0 0]) hWV 2
      have v3 : V.cell? ⟨w.heap.size, 3, none⟩ = some (.int .i64 0) := Whole.cell (L := [.slice none 0 0, .int .i64 0, .int .i64 0, .int .i64 0, .slice none 0 0, .slice none 0 0, .slice none 0 0, .slice none 0 0, .slice none 0 0]) hWV 3
      have v4 : V.cell? ⟨w.heap.size, 4, none⟩ = some (.slice none 0 0) := Whole.cell (L := [.slice none 0 0, .int .i64 0, .int .i64 0, .int .i64 0, .slice none 0 0, .slice none 0 0, .slice none 0 0, .slice none 0 0, .slice none 0 0]) hWV 4
      have v5 : V.cell? ⟨w.heap.size, 5, none⟩ = some (.slice none 0 0) := Whole.cell (L := [.slice none 0 0, .int .i64 0, .int .i64 0, .int .i64 0, .slice none 0 0, .slice none 0 0, .slice none 0 0, .slice none 0 0, .slice none 0 0]) hWV 5
      have v6 : V.cell? ⟨w.heap.size, 6, none⟩ = some (.slice none 0 0) := Whole.cell (L := [.slice none 0 0, .int .i64 0, .int .i64 0, .int .i64 0, .slice none 0 0, .slice none 0 0, .slice none 0 0, .slice none 0 0, .slice none 0 0]) hWV 6
      have v7 : V.cell? ⟨w.heap.size, 7, none⟩ = some (.slice none 0 0) := Whole.cell (L := [.slice none 0 0, .int .i64 0, .int .i64 0, .int .i64 0, .slice none 0 0, .slice none 0 0, .slice none 0 0, .slice none 0 0, .slice none 0 0]) hWV 7
      have v8 : V.cell? ⟨w.heap.size, 8, none⟩ = some (.slice none 0 0) := Whole.cell (L := [.slice none 0 0, .int .i64 0, .int .i64 0, .int .i64 0, .slice none 0 0, .slice none 0 0, .slice none 0 0, .slice none 0 0, .slice none 0 0]) hWV 8
      have HBV := Lib.hid (HB1.out.trans hbv)
      clear hWV hbv hhv hvs)
    rw [HF2.out]
    refine ⟨rfl, .tuple #[zeroV.val zeroR, .int .i64 ((0 : Nat) : Int), .int .i64 (k : Int)], ?_, zeroV, rfl, zero_own _ _, HBV.out⟩
    simp [results, Try.results30, go_sem, v0, v1, v2, v3, v4, v5, v6, v7, v8, zeroV, zeroR]
  have b1 : ((k : Int) != 0) = false := by rw [hk]; rfl
  have HF3 := Lib.hid (HF.out.trans (if_neg (by omega)))
  clear HF hk
  by_cases hsh : m < p + 10
  case pos =>
    have d1 : decide ((m : Int) - (p : Int) < 10) = true := by simp; omega
    have HF2 := Lib.hid (show getRR b a = (zeroR, 0, 3) by rw [HF3.out, if_pos (by rw [HBL.out]; exact hsh)])
    clear HF3
    go_wp2_with (
      refine wpList_storeRR w.heap.size 4 26 zeroV zeroR _ rfl rfl rfl rfl HW1.out rfl ?_
      intro V hWV hbv hhv hvs
      have v0 : V.cell? ⟨w.heap.size, 0, none⟩ = some (.slice none 0 0) := Whole.cell (L := [.slice none 0 0, .int .i64 0, .int .i64 0, .int .i64 0, .slice none 0 0, .slice none 0 0, .slice none 0 0, .slice none 0 0, .slice none 0 0]) hWV 0
      have v1 : V.cell? ⟨w.heap.size, 1, none⟩ = some (.int .i64 0) := Whole.cell (L := [.slice none 0 0, .int .i64 0, .int .i64 0, .int .i64 0, .slice none 0 0, .slice none 0 0, .slice none 0 0, .slice none 0 0, .slice none 0 0]) hWV 1
      have v2 : V.cell? ⟨w.heap.size, 2, none⟩ = some (.int .i64 0) := Whole.cell (L := [.slice none 0 0, .int .i64 0, .int .i64 0, .int .i64 0, .slice none 0 0, .slice none 0 0, .slice none 0 0, .slice none 0 0, .slice none 0 0]) hWV 2
      have v3 : V.cell? ⟨w.heap.size, 3, none⟩ = some (.int .i64 0) := Whole.cell (L := [.slice none 0 0, .int .i64 0, .int .i64 0, .int .i64 0, .slice none 0 0, .slice none 0 0, .slice none 0 0, .slice none 0 0, .slice none 0 0]) hWV 3
      have v4 : V.cell? ⟨w.heap.size, 4, none⟩ = some (.slice none 0 0) := Whole.cell (L := [.slice none 0 0, .int .i64 0, .int .i64 0, .int .i64 0, .slice none 0 0, .slice none 0 0, .slice none 0 0, .slice none 0 0, .slice none 0 0]) hWV 4
      have v5 : V.cell? ⟨w.heap.size, 5, none⟩ = some (.slice none 0 0) := Whole.cell (L := [.slice none 0 0, .int .i64 0, .int .i64 0, .int .i64 0, .slice none 0 0, .slice none 0 0, .slice none 0 0, .slice none 0 0, .slice none 0 0]) hWV 5
      have v6 : V.cell? ⟨w.heap.size, 6, none⟩ = some (.slice none 0 0) := Whole.cell (L := [.slice none 0 0, .int .i64 0, .int .i64 0, .int .i64 0, .slice none 0 0, .slice none 0 0, .slice none 0 0, .slice none 0 0, .slice none 0 0]) hWV 6
      have v7 : V.cell? ⟨w.heap.size, 7, none⟩ = some (.slice none 0 0) := Whole.cell (L := [.slice none 0 0, .int .i64 0, .int .i64 0, .int .i64 0, .slice none 0 0, .slice none 0 0, .slice none 0 0, .slice none 0 0, .slice none 0 0]) hWV 7
      have v8 : V.cell? ⟨w.heap.size, 8, none⟩ = some (.slice none 0 0) := Whole.cell (L := [.slice none 0 0, .int .i64 0, .int .i64 0, .int .i64 0, .slice none 0 0, .slice none 0 0, .slice none 0 0, .slice none 0 0, .slice none 0 0]) hWV 8
      have HBV := Lib.hid (HB1.out.trans hbv)
      clear hWV hbv hhv hvs)
    rw [HF2.out]
    refine ⟨rfl, .tuple #[zeroV.val zeroR, .int .i64 ((0 : Nat) : Int), .int .i64 ((3 : Nat) : Int)], ?_, zeroV, rfl, zero_own _ _, HBV.out⟩
    simp [results, Try.results30, go_sem, v0, v1, v2, v3, v4, v5, v6, v7, v8, zeroV, zeroR]
  have d1 : decide ((m : Int) - (p : Int) < 10) = false := by simp; omega
  have HF4 := Lib.hid (HF3.out.trans (if_neg (by rw [HBL.out]; exact hsh)))
  clear HF3
  have HH := Lib.hid (head_any A m cap b p w1 HBL.out ((HR.out.below HB1.out).mono (Nat.le_of_lt hs1)) hm hc (by omega))
  go_wp2_with fail
  refine HH.out.mono ?_
  rintro e w2 ⟨rfl, hb2⟩
  have HW2 := Lib.hid (HW1.out.below hb2 hs1)
  have HB2 := Lib.hid (HB1.out.trans (hb2.mono (Nat.le_of_lt hs1)))
  have HO2 := Lib.hid (own_keep HO1.out fun g e => hb2.block g (HO1.out.lt g e).2)
  have hs2 : w.heap.size < w2.heap.size := Nat.lt_of_lt_of_le hs1 hb2.size
  clear hb2 HH HW1 HB1 HO1
  have y0 := numAt_lt b p 2
  have y1 := numAt_lt b (p + 2) 2
  have y3 := numAt_lt b (p + 8) 2
  revert y0 y1 y3 HF4
  generalize numAt b p 2 = z0
  generalize numAt b (p + 2) 2 = z1
  generalize ttlAt b (p + 4) = z2
  generalize numAt b (p + 8) 2 = z3
  intro HF4 y0 y1 y3
  have hb3 : Below w.heap.size w2 (w2.alloc (.cells #[.int .i64 (z0 : Int), .int .i64 (z1 : Int), .int .i64 (z2 : Int), .int .i64 (z3 : Int)] 100)) := (Below.refl _ _).alloc (Nat.le_of_lt hs2) _
  have hb3' : Below w2.heap.size w2 (w2.alloc (.cells #[.int .i64 (z0 : Int), .int .i64 (z1 : Int), .int .i64 (z2 : Int), .int .i64 (z3 : Int)] 100)) := (Below.refl _ _).alloc (Nat.le_refl _) _
  have HW3 := Lib.hid (HW2.out.alloc (.cells #[.int .i64 (z0 : Int), .int .i64 (z1 : Int), .int .i64 (z2 : Int), .int .i64 (z3 : Int)] 100))
  have HN3 := Lib.hid (Whole.made w2 [.int .i64 (z0 : Int), .int .i64 (z1 : Int), .int .i64 (z2 : Int), .int .i64 (z3 : Int)] 100)
  have HB3 := Lib.hid (HB2.out.trans hb3)
  have HO3 := Lib.hid (own_keep HO2.out fun g e => hb3'.block g (HO2.out.lt g e).2)
  clear hb3 hb3' HW2 HB2 HO2
  by_cases hkd : z0 = 0
  case pos =>
    have b2 : ((z0 : Int) == 0) = true := by rw [beq_iff_eq]; omega
    have HF2 := Lib.hid (show getRR b a = (zeroR, 0, 2) by rw [HF4.out, if_pos hkd])
    clear HF4 hkd
    go_wp2_with (
      refine wpList_storeRR w.heap.size 4 33 zeroV zeroR _ rfl rfl rfl rfl HW3.out rfl ?_
      intro V hWV hbv hhv hvs
      have v0 : V.cell? ⟨w.heap.size, 0, none⟩ = some (.slice none 0 0) := Whole.cell (L := [.slice none 0 0, .int .i64 0, .int .i64 0, .int .i64 0, .slice none 0 0, .slice none 0 0, .slice none 0 0, .slice none 0 0, .slice none 0 0]) hWV 0
      have v1 : V.cell? ⟨w.heap.size, 1, none⟩ = some (.int .i64 0) := Whole.cell (L := [.slice none 0 0, .int .i64 0, .int .i64 0, .int .i64 0, .slice none 0 0, .slice none 0 0, .slice none 0 0, .slice none 0 0, .slice none 0 0]) hWV 1
      have v2 : V.cell? ⟨w.heap.size, 2, none⟩ = some (.int .i64 0) := Whole.cell (L := [.slice none 0 0, .int .i64 0, .int .i64 0, .int .i64 0, .slice none 0 0, .slice none 0 0, .slice none 0 0, .slice none 0 0, .slice none 0 0]) hWV 2
      have v3 : V.cell? ⟨w.heap.size, 3, none⟩ = some (.int .i64 0) := Whole.cell (L := [.slice none 0 0, .int .i64 0, .int .i64 0, .int .i64 0, .slice none 0 0, .slice none 0 0, .slice none 0 0, .slice none 0 0, .slice none 0 0]) hWV 3
      have v4 : V.cell? ⟨w.heap.size, 4, none⟩ = some (.slice none 0 0) := Whole.cell (L := [.slice none 0 0, .int .i64 0, .int .i64 0, .int .i64 0, .slice none 0 0, .slice none 0 0, .slice none 0 0, .slice none 0 0, .slice none 0 0]) hWV 4
      have v5 : V.cell? ⟨w.heap.size, 5, none⟩ = some (.slice none 0 0) := Whole.cell (L := [.slice none 0 0, .int .i64 0, .int .i64 0, .int .i64 0, .slice none 0 0, .slice none 0 0, .slice none 0 0, .slice none 0 0, .slice none 0 0]) hWV 5
      have v6 : V.cell? ⟨w.heap.size, 6, none⟩ = some (.slice none 0 0) := Whole.cell (L := [.slice none 0 0, .int .i64 0, .int .i64 0, .int .i64 0, .slice none 0 0, .slice none 0 0, .slice none 0 0, .slice none 0 0, .slice none 0 0]) hWV 6
      have v7 : V.cell? ⟨w.heap.size, 7, none⟩ = some (.slice none 0 0) := Whole.cell (L := [.slice none 0 0, .int .i64 0, .int .i64 0, .int .i64 0, .slice none 0 0, .slice none 0 0, .slice none 0 0, .slice none 0 0, .slice none 0 0]) hWV 7
      have v8 : V.cell? ⟨w.heap.size, 8, none⟩ = some (.slice none 0 0) := Whole.cell (L := [.slice none 0 0, .int .i64 0, .int .i64 0, .int .i64 0, .slice none 0 0, .slice none 0 0, .slice none 0 0, .slice none 0 0, .slice none 0 0]) hWV 8
      have HBV := Lib.hid (HB3.out.trans hbv)
      clear hWV hbv hhv hvs)
    rw [HF2.out]
    refine ⟨rfl, .tuple #[zeroV.val zeroR, .int .i64 ((0 : Nat) : Int), .int .i64 ((2 : Nat) : Int)], ?_, zeroV, rfl, zero_own _ _, HBV.out⟩
    simp [results, Try.results30, go_sem, v0, v1, v2, v3, v4, v5, v6, v7, v8, zeroV, zeroR]
  have b2 : ((z0 : Int) == 0) = false := by rw [beq_eq_false_iff_ne]; omega
  have HF5 := Lib.hid (HF4.out.trans (if_neg hkd))
  clear HF4 hkd
  have HD := Lib.hid (dget_any A m cap b ((p : Int) + 10) z3 z0 (w2.alloc (.cells #[.int .i64 (z0 : Int), .int .i64 (z1 : Int), .int .i64 (z2 : Int), .int .i64 (z3 : Int)] 100)) HBL.out ((HR.out.below HB3.out).mono (by simp; omega)) hm hc (by omega))
  go_wp2_with fail
  refine HD.out.mono ?_
  rintro e w4 ⟨y, rfl, hy, hb4⟩
  have hsz : (w2.alloc (.cells #[.int .i64 (z0 : Int), .int .i64 (z1 : Int), .int .i64 (z2 : Int), .int .i64 (z3 : Int)] 100)).heap.size = w2.heap.size + 1 := by simp
  rw [hsz] at hy hb4
  have HW4 := Lib.hid (HW3.out.below hb4 (by omega))
  have HN4 := Lib.hid (HN3.out.below hb4 (by omega))
  have HB4 := Lib.hid (HB3.out.trans (hb4.mono (by omega)))
  have HO4 := Lib.hid (own_keep HO3.out fun g e => hb4.block g (by have := (HO3.out.lt g e).2; omega))
  have HY4 := Lib.hid hy
  have hs4 : w2.heap.size < w4.heap.size := by have := hb4.size; rw [hsz] at this; omega
  clear hy hb4 hsz HD HW3 HN3 HB3 HO3
  have hfit0 : (getD b ((p : Int) + 10) z3 z0).2 = 0 → p + 10 + z3 ≤ m := by
    intro h
    have hl := HBL.out
    unfold getD at h
    split at h
    · cases h
    · split at h
      · cases h
      · omega
  revert HF5 HY4 hfit0
  generalize getD b ((p : Int) + 10) z3 z0 = D
  obtain ⟨d, k2⟩ := D
  intro HF5 HY4 hfit0
  dsimp only at *
  have hb5 : Below w4.heap.size w4 (w4.alloc (.cells #[.slice y.Ab d.bytes.length y.cb, .slice y.Ah d.host.length y.ch, .slice y.Am d.mail.length y.cm, .slice y.An d.nums.length y.cn, .slice y.At d.texts.length y.ct] 26)) := (Below.refl _ _).alloc (Nat.le_refl _) _
  have HW5 := Lib.hid (HW4.out.alloc (.cells #[.slice y.Ab d.bytes.length y.cb, .slice y.Ah d.host.length y.ch, .slice y.Am d.mail.length y.cm, .slice y.An d.nums.length y.cn, .slice y.At d.texts.length y.ct] 26))
  have HN5 := Lib.hid (HN4.out.alloc (.cells #[.slice y.Ab d.bytes.length y.cb, .slice y.Ah d.host.length y.ch, .slice y.Am d.mail.length y.cm, .slice y.An d.nums.length y.cn, .slice y.At d.texts.length y.ct] 26))
  have HB5 := Lib.hid (HB4.out.trans (hb5.mono (by omega)))
  have HO5 := Lib.hid (own_keep HO4.out fun g e => hb5.block g (HO4.out.lt g e).2)
  have HY5 := Lib.hid (HY4.out.keep (fun g hg => hb5.block g hg))
  clear hb5 HW4 HN4 HB4 HO4 HY4
  by_cases hk2 : k2 = 0
  case neg =>
    have b3 : ((k2 : Int) != 0) = true := by rw [bne_iff_ne]; omega
    have HF2 := Lib.hid (show getRR b a = (zeroR, 0, k2) by rw [HF5.out, if_pos hk2])
    clear HF5 hk2 hfit0
    go_wp2_with (
      refine wpList_storeRR w.heap.size 4 48 zeroV zeroR _ rfl rfl rfl rfl HW5.out rfl ?_
      intro V hWV hbv hhv hvs
      have v0 : V.cell? ⟨w.heap.size, 0, none⟩ = some (.slice none 0 0) := Whole.cell (L := [.slice none 0 0, .int .i64 0, .int .i64 0, .int .i64 0, .slice none 0 0, .slice none 0 0, .slice none 0 0, .slice none 0 0, .slice none 0 0]) hWV 0
      have v1 : V.cell? ⟨w.heap.size, 1, none⟩ = some (.int .i64 0) := Whole.cell (L := [.slice none 0 0, .int .i64 0, .int .i64 0, .int .i64 0, .slice none 0 0, .slice none 0 0, .slice none 0 0, .slice none 0 0, .slice none 0 0]) hWV 1
      have v2 : V.cell? ⟨w.heap.size, 2, none⟩ = some (.int .i64 0) := Whole.cell (L := [.slice none 0 0, .int .i64 0, .int .i64 0, .int .i64 0, .slice none 0 0, .slice none 0 0, .slice none 0 0, .slice none 0 0, .slice none 0 0]) hWV 2
      have v3 : V.cell? ⟨w.heap.size, 3, none⟩ = some (.int .i64 0) := Whole.cell (L := [.slice none 0 0, .int .i64 0, .int .i64 0, .int .i64 0, .slice none 0 0, .slice none 0 0, .slice none 0 0, .slice none 0 0, .slice none 0 0]) hWV 3
      have v4 : V.cell? ⟨w.heap.size, 4, none⟩ = some (.slice none 0 0) := Whole.cell (L := [.slice none 0 0, .int .i64 0, .int .i64 0, .int .i64 0, .slice none 0 0, .slice none 0 0, .slice none 0 0, .slice none 0 0, .slice none 0 0]) hWV 4
      have v5 : V.cell? ⟨w.heap.size, 5, none⟩ = some (.slice none 0 0) := Whole.cell (L := [.slice none 0 0, .int .i64 0, .int .i64 0, .int .i64 0, .slice none 0 0, .slice none 0 0, .slice none 0 0, .slice none 0 0, .slice none 0 0]) hWV 5
      have v6 : V.cell? ⟨w.heap.size, 6, none⟩ = some (.slice none 0 0) := Whole.cell (L := [.slice none 0 0, .int .i64 0, .int .i64 0, .int .i64 0, .slice none 0 0, .slice none 0 0, .slice none 0 0, .slice none 0 0, .slice none 0 0]) hWV 6
      have v7 : V.cell? ⟨w.heap.size, 7, none⟩ = some (.slice none 0 0) := Whole.cell (L := [.slice none 0 0, .int .i64 0, .int .i64 0, .int .i64 0, .slice none 0 0, .slice none 0 0, .slice none 0 0, .slice none 0 0, .slice none 0 0]) hWV 7
      have v8 : V.cell? ⟨w.heap.size, 8, none⟩ = some (.slice none 0 0) := Whole.cell (L := [.slice none 0 0, .int .i64 0, .int .i64 0, .int .i64 0, .slice none 0 0, .slice none 0 0, .slice none 0 0, .slice none 0 0, .slice none 0 0]) hWV 8
      have HBV := Lib.hid (HB5.out.trans hbv)
      clear hWV hbv hhv hvs)
    rw [HF2.out]
    refine ⟨rfl, .tuple #[zeroV.val zeroR, .int .i64 ((0 : Nat) : Int), .int .i64 (k2 : Int)], ?_, zeroV, rfl, zero_own _ _, HBV.out⟩
    simp [results, Try.results30, go_sem, v0, v1, v2, v3, v4, v5, v6, v7, v8, zeroV, zeroR]
  have b3 : ((k2 : Int) != 0) = false := by rw [hk2]; rfl
  have HF6 := Lib.hid (HF5.out.trans (if_neg (by omega)))
  have hfit := hfit0 hk2
  clear HF5 hk2 hfit0
  have g0 : (w4.alloc (.cells #[.slice y.Ab d.bytes.length y.cb, .slice y.Ah d.host.length y.ch, .slice y.Am d.mail.length y.cm, .slice y.An d.nums.length y.cn, .slice y.At d.texts.length y.ct] 26)).cell? ⟨w2.heap.size, 0, none⟩ = some (.int .i64 (z0 : Int)) := HN5.out.cell 0
  have g1 : (w4.alloc (.cells #[.slice y.Ab d.bytes.length y.cb, .slice y.Ah d.host.length y.ch, .slice y.Am d.mail.length y.cm, .slice y.An d.nums.length y.cn, .slice y.At d.texts.length y.ct] 26)).cell? ⟨w2.heap.size, 1, none⟩ = some (.int .i64 (z1 : Int)) := HN5.out.cell 1
  have g2 : (w4.alloc (.cells #[.slice y.Ab d.bytes.length y.cb, .slice y.Ah d.host.length y.ch, .slice y.Am d.mail.length y.cm, .slice y.An d.nums.length y.cn, .slice y.At d.texts.length y.ct] 26)).cell? ⟨w2.heap.size, 2, none⟩ = some (.int .i64 (z2 : Int)) := HN5.out.cell 2
  have g3 : (w4.alloc (.cells #[.slice y.Ab d.bytes.length y.cb, .slice y.Ah d.host.length y.ch, .slice y.Am d.mail.length y.cm, .slice y.An d.nums.length y.cn, .slice y.At d.texts.length y.ct] 26)).cell? ⟨w2.heap.size, 3, none⟩ = some (.int .i64 (z3 : Int)) := HN5.out.cell 3
  have r0 : (w4.alloc (.cells #[.slice y.Ab d.bytes.length y.cb, .slice y.Ah d.host.length y.ch, .slice y.Am d.mail.length y.cm, .slice y.An d.nums.length y.cn, .slice y.At d.texts.length y.ct] 26)).cell? ⟨w.heap.size, 0, none⟩ = some (.slice none 0 0) := Whole.cell (L := [.slice none 0 0, .int .i64 0, .int .i64 0, .int .i64 0, .slice none 0 0, .slice none 0 0, .slice none 0 0, .slice none 0 0, .slice none 0 0]) HW5.out 0
  have f0 : (w4.alloc (.cells #[.slice y.Ab d.bytes.length y.cb, .slice y.Ah d.host.length y.ch, .slice y.Am d.mail.length y.cm, .slice y.An d.nums.length y.cn, .slice y.At d.texts.length y.ct] 26)).frozen? ⟨w.heap.size, 0, none⟩ = false := Whole.frozen (L := [.slice none 0 0, .int .i64 0, .int .i64 0, .int .i64 0, .slice none 0 0, .slice none 0 0, .slice none 0 0, .slice none 0 0, .slice none 0 0]) HW5.out 0
  have r1 : (w4.alloc (.cells #[.slice y.Ab d.bytes.length y.cb, .slice y.Ah d.host.length y.ch, .slice y.Am d.mail.length y.cm, .slice y.An d.nums.length y.cn, .slice y.At d.texts.length y.ct] 26)).cell? ⟨w.heap.size, 1, none⟩ = some (.int .i64 0) := Whole.cell (L := [.slice none 0 0, .int .i64 0, .int .i64 0, .int .i64 0, .slice none 0 0, .slice none 0 0, .slice none 0 0, .slice none 0 0, .slice none 0 0]) HW5.out 1
  have f1 : (w4.alloc (.cells #[.slice y.Ab d.bytes.length y.cb, .slice y.Ah d.host.length y.ch, .slice y.Am d.mail.length y.cm, .slice y.An d.nums.length y.cn, .slice y.At d.texts.length y.ct] 26)).frozen? ⟨w.heap.size, 1, none⟩ = false := Whole.frozen (L := [.slice none 0 0, .int .i64 0, .int .i64 0, .int .i64 0, .slice none 0 0, .slice none 0 0, .slice none 0 0, .slice none 0 0, .slice none 0 0]) HW5.out 1
  have r2 : (w4.alloc (.cells #[.slice y.Ab d.bytes.length y.cb, .slice y.Ah d.host.length y.ch, .slice y.Am d.mail.length y.cm, .slice y.An d.nums.length y.cn, .slice y.At d.texts.length y.ct] 26)).cell? ⟨w.heap.size, 2, none⟩ = some (.int .i64 0) := Whole.cell (L := [.slice none 0 0, .int .i64 0, .int .i64 0, .int .i64 0, .slice none 0 0, .slice none 0 0, .slice none 0 0, .slice none 0 0, .slice none 0 0]) HW5.out 2
  have f2 : (w4.alloc (.cells #[.slice y.Ab d.bytes.length y.cb, .slice y.Ah d.host.length y.ch, .slice y.Am d.mail.length y.cm, .slice y.An d.nums.length y.cn, .slice y.At d.texts.length y.ct] 26)).frozen? ⟨w.heap.size, 2, none⟩ = false := Whole.frozen (L := [.slice none 0 0, .int .i64 0, .int .i64 0, .int .i64 0, .slice none 0 0, .slice none 0 0, .slice none 0 0, .slice none 0 0, .slice none 0 0]) HW5.out 2
  have r3 : (w4.alloc (.cells #[.slice y.Ab d.bytes.length y.cb, .slice y.Ah d.host.length y.ch, .slice y.Am d.mail.length y.cm, .slice y.An d.nums.length y.cn, .slice y.At d.texts.length y.ct] 26)).cell? ⟨w.heap.size, 3, none⟩ = some (.int .i64 0) := Whole.cell (L := [.slice none 0 0, .int .i64 0, .int .i64 0, .int .i64 0, .slice none 0 0, .slice none 0 0, .slice none 0 0, .slice none 0 0, .slice none 0 0]) HW5.out 3
  have f3 : (w4.alloc (.cells #[.slice y.Ab d.bytes.length y.cb, .slice y.Ah d.host.length y.ch, .slice y.Am d.mail.length y.cm, .slice y.An d.nums.length y.cn, .slice y.At d.texts.length y.ct] 26)).frozen? ⟨w.heap.size, 3, none⟩ = false := Whole.frozen (L := [.slice none 0 0, .int .i64 0, .int .i64 0, .int .i64 0, .slice none 0 0, .slice none 0 0, .slice none 0 0, .slice none 0 0, .slice none 0 0]) HW5.out 3
  have r4 : (w4.alloc (.cells #[.slice y.Ab d.bytes.length y.cb, .slice y.Ah d.host.length y.ch, .slice y.Am d.mail.length y.cm, .slice y.An d.nums.length y.cn, .slice y.At d.texts.length y.ct] 26)).cell? ⟨w.heap.size, 4, none⟩ = some (.slice none 0 0) := Whole.cell (L := [.slice none 0 0, .int .i64 0, .int .i64 0, .int .i64 0, .slice none 0 0, .slice none 0 0, .slice none 0 0, .slice none 0 0, .slice none 0 0]) HW5.out 4
  have f4 : (w4.alloc (.cells #[.slice y.Ab d.bytes.length y.cb, .slice y.Ah d.host.length y.ch, .slice y.Am d.mail.length y.cm, .slice y.An d.nums.length y.cn, .slice y.At d.texts.length y.ct] 26)).frozen? ⟨w.heap.size, 4, none⟩ = false := Whole.frozen (L := [.slice none 0 0, .int .i64 0, .int .i64 0, .int .i64 0, .slice none 0 0, .slice none 0 0, .slice none 0 0, .slice none 0 0, .slice none 0 0]) HW5.out 4
  have r5 : (w4.alloc (.cells #[.slice y.Ab d.bytes.length y.cb, .slice y.Ah d.host.length y.ch, .slice y.Am d.mail.length y.cm, .slice y.An d.nums.length y.cn, .slice y.At d.texts.length y.ct] 26)).cell? ⟨w.heap.size, 5, none⟩ = some (.slice none 0 0) := Whole.cell (L := [.slice none 0 0, .int .i64 0, .int .i64 0, .int .i64 0, .slice none 0 0, .slice none 0 0, .slice none 0 0, .slice none 0 0, .slice none 0 0]) HW5.out 5
  have f5 : (w4.alloc (.cells #[.slice y.Ab d.bytes.length y.cb, .slice y.Ah d.host.length y.ch, .slice y.Am d.mail.length y.cm, .slice y.An d.nums.length y.cn, .slice y.At d.texts.length y.ct] 26)).frozen? ⟨w.heap.size, 5, none⟩ = false := Whole.frozen (L := [.slice none 0 0, .int .i64 0, .int .i64 0, .int .i64 0, .slice none 0 0, .slice none 0 0, .slice none 0 0, .slice none 0 0, .slice none 0 0]) HW5.out 5
  have r6 : (w4.alloc (.cells #[.slice y.Ab d.bytes.length y.cb, .slice y.Ah d.host.length y.ch, .slice y.Am d.mail.length y.cm, .slice y.An d.nums.length y.cn, .slice y.At d.texts.length y.ct] 26)).cell? ⟨w.heap.size, 6, none⟩ = some (.slice none 0 0) := Whole.cell (L := [.slice none 0 0, .int .i64 0, .int .i64 0, .int .i64 0, .slice none 0 0, .slice none 0 0, .slice none 0 0, .slice none 0 0, .slice none 0 0]) HW5.out 6
  have f6 : (w4.alloc (.cells #[.slice y.Ab d.bytes.length y.cb, .slice y.Ah d.host.length y.ch, .slice y.Am d.mail.length y.cm, .slice y.An d.nums.length y.cn, .slice y.At d.texts.length y.ct] 26)).frozen? ⟨w.heap.size, 6, none⟩ = false := Whole.frozen (L := [.slice none 0 0, .int .i64 0, .int .i64 0, .int .i64 0, .slice none 0 0, .slice none 0 0, .slice none 0 0, .slice none 0 0, .slice none 0 0]) HW5.out 6
  have r7 : (w4.alloc (.cells #[.slice y.Ab d.bytes.length y.cb, .slice y.Ah d.host.length y.ch, .slice y.Am d.mail.length y.cm, .slice y.An d.nums.length y.cn, .slice y.At d.texts.length y.ct] 26)).cell? ⟨w.heap.size, 7, none⟩ = some (.slice none 0 0) := Whole.cell (L := [.slice none 0 0, .int .i64 0, .int .i64 0, .int .i64 0, .slice none 0 0, .slice none 0 0, .slice none 0 0, .slice none 0 0, .slice none 0 0]) HW5.out 7
  have f7 : (w4.alloc (.cells #[.slice y.Ab d.bytes.length y.cb, .slice y.Ah d.host.length y.ch, .slice y.Am d.mail.length y.cm, .slice y.An d.nums.length y.cn, .slice y.At d.texts.length y.ct] 26)).frozen? ⟨w.heap.size, 7, none⟩ = false := Whole.frozen (L := [.slice none 0 0, .int .i64 0, .int .i64 0, .int .i64 0, .slice none 0 0, .slice none 0 0, .slice none 0 0, .slice none 0 0, .slice none 0 0]) HW5.out 7
  have r8 : (w4.alloc (.cells #[.slice y.Ab d.bytes.length y.cb, .slice y.Ah d.host.length y.ch, .slice y.Am d.mail.length y.cm, .slice y.An d.nums.length y.cn, .slice y.At d.texts.length y.ct] 26)).cell? ⟨w.heap.size, 8, none⟩ = some (.slice none 0 0) := Whole.cell (L := [.slice none 0 0, .int .i64 0, .int .i64 0, .int .i64 0, .slice none 0 0, .slice none 0 0, .slice none 0 0, .slice none 0 0, .slice none 0 0]) HW5.out 8
  have f8 : (w4.alloc (.cells #[.slice y.Ab d.bytes.length y.cb, .slice y.Ah d.host.length y.ch, .slice y.Am d.mail.length y.cm, .slice y.An d.nums.length y.cn, .slice y.At d.texts.length y.ct] 26)).frozen? ⟨w.heap.size, 8, none⟩ = false := Whole.frozen (L := [.slice none 0 0, .int .i64 0, .int .i64 0, .int .i64 0, .slice none 0 0, .slice none 0 0, .slice none 0 0, .slice none 0 0, .slice none 0 0]) HW5.out 8
  go_wp2
  go_region
  obtain ⟨V, hV⟩ : ∃ V, V = (((((((((w4.alloc (.cells #[.slice y.Ab d.bytes.length y.cb, .slice y.Ah d.host.length y.ch, .slice y.Am d.mail.length y.cm, .slice y.An d.nums.length y.cn, .slice y.At d.texts.length y.ct] 26)).setCell ⟨w.heap.size, 0, none⟩ (.slice A1 n.length c1)).setCell ⟨w.heap.size, 1, none⟩ (.int .i64 (z0 : Int))).setCell ⟨w.heap.size, 2, none⟩ (.int .i64 (z1 : Int))).setCell ⟨w.heap.size, 3, none⟩ (.int .i64 (z2 : Int))).setCell ⟨w.heap.size, 4, none⟩ (.slice y.Ab d.bytes.length y.cb)).setCell ⟨w.heap.size, 5, none⟩ (.slice y.Ah d.host.length y.ch)).setCell ⟨w.heap.size, 6, none⟩ (.slice y.Am d.mail.length y.cm)).setCell ⟨w.heap.size, 7, none⟩ (.slice y.An d.nums.length y.cn)).setCell ⟨w.heap.size, 8, none⟩ (.slice y.At d.texts.length y.ct) := ⟨_, rfl⟩
  rw [← hV]
  have HWV := Lib.hid (show Whole V w.heap.size 51 [.slice A1 n.length c1, .int .i64 (z0 : Int), .int .i64 (z1 : Int), .int .i64 (z2 : Int), .slice y.Ab d.bytes.length y.cb, .slice y.Ah d.host.length y.ch, .slice y.Am d.mail.length y.cm, .slice y.An d.nums.length y.cn, .slice y.At d.texts.length y.ct] by rw [hV]; exact ((((((((HW5.out.set_ 0 _).set_ 1 _).set_ 2 _).set_ 3 _).set_ 4 _).set_ 5 _).set_ 6 _).set_ 7 _).set_ 8 _)
  have hbv : Below w.heap.size (w4.alloc (.cells #[.slice y.Ab d.bytes.length y.cb, .slice y.Ah d.host.length y.ch, .slice y.Am d.mail.length y.cm, .slice y.An d.nums.length y.cn, .slice y.At d.texts.length y.ct] 26)) V := by
    rw [hV]
    have hs (W : World) (i : Nat) (u : Value) : Below w.heap.size W (W.setCell ⟨w.heap.size, i, none⟩ u) := (Below.refl _ W).setCell (p := ⟨w.heap.size, i, none⟩) (Nat.le_refl _) u
    exact ((((((((hs _ 0 _).trans (hs _ 1 _)).trans (hs _ 2 _)).trans (hs _ 3 _)).trans (hs _ 4 _)).trans (hs _ 5 _)).trans (hs _ 6 _)).trans (hs _ 7 _)).trans (hs _ 8 _)
  have hhv : ∀ j, j ≠ w.heap.size → V.heap[j]? = (w4.alloc (.cells #[.slice y.Ab d.bytes.length y.cb, .slice y.Ah d.host.length y.ch, .slice y.Am d.mail.length y.cm, .slice y.An d.nums.length y.cn, .slice y.At d.texts.length y.ct] 26)).heap[j]? := fun j hj => by
    rw [hV]
    have hs (W : World) (i : Nat) (u : Value) : (W.setCell ⟨w.heap.size, i, none⟩ u).heap[j]? = W.heap[j]? := Below.heap_setCell W ⟨w.heap.size, i, none⟩ u j hj
    rw [hs, hs, hs, hs, hs, hs, hs, hs, hs]
  have HBV := Lib.hid (HB5.out.trans hbv)
  have hs0' : w.heap.size + 1 ≤ (w.alloc (.cells #[.slice none 0 0, .int .i64 0, .int .i64 0, .int .i64 0, .slice none 0 0, .slice none 0 0, .slice none 0 0, .slice none 0 0, .slice none 0 0] 51)).heap.size := by simp
  have HOV := Lib.hid (show OwnR V w.heap.size ⟨A1, c1, y⟩ ⟨n, z0, z1, z2, d⟩ from by
    have hk : ∀ {B : Nat} {e : TypeId} {s m : Nat} {u : Value} {ys : List Value}, (w4.alloc (.cells #[.slice y.Ab d.bytes.length y.cb, .slice y.Ah d.host.length y.ch, .slice y.Am d.mail.length y.cm, .slice y.An d.nums.length y.cn, .slice y.At d.texts.length y.ct] 26)).ownsRow B e s u m ys → w.heap.size + 1 ≤ B → ∀ g, u.ownBlock = some g → V.heap[g]? = (w4.alloc (.cells #[.slice y.Ab d.bytes.length y.cb, .slice y.Ah d.host.length y.ch, .slice y.Am d.mail.length y.cm, .slice y.An d.nums.length y.cn, .slice y.At d.texts.length y.ct] 26)).heap[g]? := fun ho hB g hj => hhv g (by have := (ho.lt g hj).1; omega)
    have hd := HY5.out
    have hq : w.heap.size + 1 ≤ w2.heap.size + 1 := by omega
    exact ⟨own_mono (own_keep HO5.out (hk HO5.out hs0')) (by omega), OwnD.monoB ⟨own_keep hd.b (hk hd.b hq), own_keep hd.h (hk hd.h hq), own_keep hd.m (hk hd.m hq), own_keep hd.n (hk hd.n hq), own_keep hd.t (hk hd.t hq)⟩ (by omega)⟩)
  have v0 : V.cell? ⟨w.heap.size, 0, none⟩ = some (.slice A1 n.length c1) := Whole.cell (L := [.slice A1 n.length c1, .int .i64 (z0 : Int), .int .i64 (z1 : Int), .int .i64 (z2 : Int), .slice y.Ab d.bytes.length y.cb, .slice y.Ah d.host.length y.ch, .slice y.Am d.mail.length y.cm, .slice y.An d.nums.length y.cn, .slice y.At d.texts.length y.ct]) HWV.out 0
  have v1 : V.cell? ⟨w.heap.size, 1, none⟩ = some (.int .i64 (z0 : Int)) := Whole.cell (L := [.slice A1 n.length c1, .int .i64 (z0 : Int), .int .i64 (z1 : Int), .int .i64 (z2 : Int), .slice y.Ab d.bytes.length y.cb, .slice y.Ah d.host.length y.ch, .slice y.Am d.mail.length y.cm, .slice y.An d.nums.length y.cn, .slice y.At d.texts.length y.ct]) HWV.out 1
  have v2 : V.cell? ⟨w.heap.size, 2, none⟩ = some (.int .i64 (z1 : Int)) := Whole.cell (L := [.slice A1 n.length c1, .int .i64 (z0 : Int), .int .i64 (z1 : Int), .int .i64 (z2 : Int), .slice y.Ab d.bytes.length y.cb, .slice y.Ah d.host.length y.ch, .slice y.Am d.mail.length y.cm, .slice y.An d.nums.length y.cn, .slice y.At d.texts.length y.ct]) HWV.out 2
  have v3 : V.cell? ⟨w.heap.size, 3, none⟩ = some (.int .i64 (z2 : Int)) := Whole.cell (L := [.slice A1 n.length c1, .int .i64 (z0 : Int), .int .i64 (z1 : Int), .int .i64 (z2 : Int), .slice y.Ab d.bytes.length y.cb, .slice y.Ah d.host.length y.ch, .slice y.Am d.mail.length y.cm, .slice y.An d.nums.length y.cn, .slice y.At d.texts.length y.ct]) HWV.out 3
  have v4 : V.cell? ⟨w.heap.size, 4, none⟩ = some (.slice y.Ab d.bytes.length y.cb) := Whole.cell (L := [.slice A1 n.length c1, .int .i64 (z0 : Int), .int .i64 (z1 : Int), .int .i64 (z2 : Int), .slice y.Ab d.bytes.length y.cb, .slice y.Ah d.host.length y.ch, .slice y.Am d.mail.length y.cm, .slice y.An d.nums.length y.cn, .slice y.At d.texts.length y.ct]) HWV.out 4
  have v5 : V.cell? ⟨w.heap.size, 5, none⟩ = some (.slice y.Ah d.host.length y.ch) := Whole.cell (L := [.slice A1 n.length c1, .int .i64 (z0 : Int), .int .i64 (z1 : Int), .int .i64 (z2 : Int), .slice y.Ab d.bytes.length y.cb, .slice y.Ah d.host.length y.ch, .slice y.Am d.mail.length y.cm, .slice y.An d.nums.length y.cn, .slice y.At d.texts.length y.ct]) HWV.out 5
  have v6 : V.cell? ⟨w.heap.size, 6, none⟩ = some (.slice y.Am d.mail.length y.cm) := Whole.cell (L := [.slice A1 n.length c1, .int .i64 (z0 : Int), .int .i64 (z1 : Int), .int .i64 (z2 : Int), .slice y.Ab d.bytes.length y.cb, .slice y.Ah d.host.length y.ch, .slice y.Am d.mail.length y.cm, .slice y.An d.nums.length y.cn, .slice y.At d.texts.length y.ct]) HWV.out 6
  have v7 : V.cell? ⟨w.heap.size, 7, none⟩ = some (.slice y.An d.nums.length y.cn) := Whole.cell (L := [.slice A1 n.length c1, .int .i64 (z0 : Int), .int .i64 (z1 : Int), .int .i64 (z2 : Int), .slice y.Ab d.bytes.length y.cb, .slice y.Ah d.host.length y.ch, .slice y.Am d.mail.length y.cm, .slice y.An d.nums.length y.cn, .slice y.At d.texts.length y.ct]) HWV.out 7
  have v8 : V.cell? ⟨w.heap.size, 8, none⟩ = some (.slice y.At d.texts.length y.ct) := Whole.cell (L := [.slice A1 n.length c1, .int .i64 (z0 : Int), .int .i64 (z1 : Int), .int .i64 (z2 : Int), .slice y.Ab d.bytes.length y.cb, .slice y.Ah d.host.length y.ch, .slice y.Am d.mail.length y.cm, .slice y.An d.nums.length y.cn, .slice y.At d.texts.length y.ct]) HWV.out 8
  clear hV hbv hhv r0 f0 r1 f1 r2 f2 r3 f3 r4 f4 r5 f5 r6 f6 r7 f7 r8 f8 g0 g1 g2 g3
  go_wp2
  have HF7 := Lib.hid (show getRR b a = (⟨n, z0, z1, z2, d⟩, p + 10 + z3, 0) from HF6.out)
  rw [HF7.out]
  refine ⟨rfl, .tuple #[RV.val ⟨A1, c1, y⟩ ⟨n, z0, z1, z2, d⟩, .int .i64 ((p + 10 + z3 : Nat) : Int), .int .i64 ((0 : Nat) : Int)], ?_, ⟨A1, c1, y⟩, rfl, HOV.out.keep (fun _ _ => rfl), HBV.out.drew⟩
  simp [results, Try.results30, go_sem, v0, v1, v2, v3, v4, v5, v6, v7, v8]

end Go.Proofs.Ytjjmllbkfbdcnaa
