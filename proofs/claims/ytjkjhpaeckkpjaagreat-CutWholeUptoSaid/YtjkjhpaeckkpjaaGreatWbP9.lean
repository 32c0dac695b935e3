/-
  The contract of the reader's message.
-/
import Derived.Test.YtjkjhpaeckkpjaaGreatWbP8
import Derived.Test.YtjkjhpaeckkpjaaGreatWbP1
import Derived.Lib.AppendZeros
import Derived.Test.YtjkjhpaeckkpjaaGreatWbP2
import Derived.OpenShut
import Derived.JoinedCond
import Derived.Deep.CondSized
namespace Go.Proofs.YtjkjhpaeckkpjaaGreat
open Go.RowKit

def hd0 : Hd := ⟨0, false, 0, false, false, false, false, 0, false, 0⟩
def nilS : Nat → Value := fun _ => .slice none 0 0
/-- The last words: is something left? -/
def finR (b : List UInt8) (q : List Qt) (acc : List (List Rt)) (p : Nat) (e : Bool) (s : Int) : Except Nat Mt :=
  if p < b.length then .error 7 else .ok ⟨hdOf (numAt b 0 2) (numAt b 2 2) e s, q, acc.getD 0 [], acc.getD 1 [], acc.getD 2 []⟩
/-- So many sections are still to be read. -/
def restS (b : List UInt8) (q : List Qt) : Nat → List (List Rt) → Nat → Bool → Int → Except Nat Mt
  | 0, acc, p, e, s => finR b q acc p e s
  | k + 1, acc, p, e, s => getRs b (decide (2 - k = 2)) (numAt b (6 + 2 * (2 - k)) 2) ⟨[], p, e, s⟩ >>= fun x => restS b q k (acc ++ [x.rs]) x.p x.e x.s
/-- What follows the head. -/
def decB (b : List UInt8) : Except Nat Mt :=
  if 513 < numAt b 4 2 + numAt b 6 2 + numAt b 8 2 + numAt b 10 2 then .error 4 else
  getQs b (numAt b 4 2) 12 [] >>= fun q => restS b q.1 3 [] q.2 false 0
theorem decM_eq (b : List UInt8) : decM b = if 65535 < b.length then .error 4 else if b.length < 12 then .error 3 else decB b := rfl
def cntV (b : List UInt8) (j i : Nat) : Nat := if i < j then numAt b (4 + 2 * i) 2 else 0
def cntL (b : List UInt8) (j : Nat) : List Value := [.int .i64 (cntV b j 0), .int .i64 (cntV b j 1), .int .i64 (cntV b j 2), .int .i64 (cntV b j 3)]
def cntS (b : List UInt8) : Nat → Nat
  | 0 => 0
  | j + 1 => cntS b j + numAt b (4 + 2 * j) 2
theorem cntL_set (b : List UInt8) {j : Nat} (hj : j < 4) : (cntL b j).set j (.int .i64 (numAt b (4 + 2 * j) 2)) = cntL b (j + 1) := by
  rcases (show j = 0 ∨ j = 1 ∨ j = 2 ∨ j = 3 by omega) with rfl | rfl | rfl | rfl <;> rfl
theorem cntL_at (b : List UInt8) {j : Nat} (hj : j < 4) (k : Nat) : (cntL b k)[j]? = some (.int .i64 (cntV b k j)) := by
  rcases (show j = 0 ∨ j = 1 ∨ j = 2 ∨ j = 3 by omega) with rfl | rfl | rfl | rfl <;> rfl
theorem cntS_le (b : List UInt8) : ∀ j, cntS b j ≤ 65536 * j
  | 0 => Nat.le_refl _
  | j + 1 => by
    have h1 := cntS_le b j
    have h2 := numAt_lt b (4 + 2 * j) 2
    have h3 : (2 : Nat) ^ (8 * 2) = 65536 := rfl
    show cntS b j + numAt b (4 + 2 * j) 2 ≤ 65536 * (j + 1)
    omega
theorem cntS_four (b : List UInt8) : cntS b 4 = numAt b 4 2 + numAt b 6 2 + numAt b 8 2 + numAt b 10 2 := by
  show (((0 + numAt b 4 2) + numAt b 6 2) + numAt b 8 2) + numAt b 10 2 = _
  omega
theorem getD_last (acc : List (List Rt)) (x : List Rt) : (acc ++ [x]).getD acc.length [] = x := by simp
theorem getD_old (acc : List (List Rt)) (x : List Rt) {k : Nat} (hk : k < acc.length) : (acc ++ [x]).getD k [] = acc.getD k [] := by
  rw [List.getD_eq_getElem?_getD, List.getD_eq_getElem?_getD, List.getElem?_append_left hk]
/-- The rows of a message that was read. -/
structure DOwn (w : World) (B : Nat) (m : MV) : Prop where
  q : QRow w B m.vq m.qp
  s0 : RecRow w B m.s0.v m.s0.ps
  s1 : RecRow w B m.s1.v m.s1.ps
  s2 : RecRow w B m.s2.v m.s2.ps
def MOut (w : World) (g : Nat) (vb : Value) (r : Except Nat Mt) (e : Ending) (w' : World) : Prop :=
  GrewM g w w' ∧ match r with
  | .error k => e = .returned (.int .i64 k) ∧ k ≠ 0
  | .ok x => e = .returned (.int .i64 0) ∧ ∃ (m : MV) (p : Nat) (v : Nat → Value), m.msg = x ∧ RBlk w' g vb p m.h m.vq v ∧ v 0 = m.s0.v ∧ v 1 = m.s1.v ∧ v 2 = m.s2.v ∧ DOwn w' w.heap.size m
def CntRel (W : World) (g gc : Nat) (vb : Value) (h : Hd) (b : List UInt8) (s i : Value) (wr : World) : Prop :=
  ∃ j : Nat, j ≤ 4 ∧ i = .int .i64 j ∧ s = .int .i64 (cntS b j) ∧ RBlk wr g vb (4 + 2 * j) h (.slice none 0 0) nilS ∧ Whole wr gc 75 (cntL b j) ∧ GrewM g W wr
def SecRel (w : World) (g gc bs : Nat) (vb vq : Value) (qp : List (QV × Qt)) (h : Hd) (b : List UInt8) (i : Value) (wr : World) : Prop :=
  ∃ j : Nat, j ≤ 3 ∧ i = .int .i64 j ∧ ∃ (v : Nat → Value) (ps : Nat → List (RV × Rt)) (acc : List (List Rt)) (p : Nat) (e : Bool) (s : Int), RBlk wr g vb p { h with edns := e, size := s } vq v ∧ acc.length = j ∧ (∀ k, k < j → RecRow wr w.heap.size (v k) (ps k) ∧ recs (ps k) = acc.getD k []) ∧
    (∀ k, j ≤ k → v k = .slice none 0 0) ∧ QRow wr w.heap.size vq qp ∧ decB b = restS b (qsts qp) (3 - j) acc p e s ∧ p ≤ b.length ∧ Whole wr gc 75 (cntL b 4) ∧ Whole wr bs 66 [.pointer (some ⟨g, 11, none⟩), .pointer (some ⟨g, 12, none⟩), .pointer (some ⟨g, 13, none⟩)] ∧ GrewM g w wr

set_option maxRecDepth 20000 in
set_option maxHeartbeats 8000000 in
theorem message_any (w : World) (g : Nat) (A : Option Addr) (m cap : Nat) (b : List UInt8) (hb : RBlk w g (.slice A m cap) 0 hd0 (.slice none 0 0) nilS) (hbl : b.length = m) (hrow : Row w g A (b.map bc)) (hm : m ≤ cap) (hc : cap ≤ maxLen) (hm1 : 12 ≤ m) (hm2 : m ≤ 65535) :
    Calls Tryz.prog 21 #[.pointer (some ⟨g, 0, none⟩)] w (MOut w g (.slice A m cap) (decB b)) := by
  have hgl : g < w.heap.size := Whole.lt hb
  have HR := Lib.hid hb
  have HRW := Lib.hid hrow
  have HBL := Lib.hid hbl
  have HN0 := Lib.hid (mnum_any w g A m cap g b 0 hd0 (.slice none 0 0) nilS hb hbl hrow hm hc (by omega))
  clear hb hrow hbl
  go_enter Tryz.func21, Tryz.ntmps21
  go_wp2_with fail
  refine HN0.out.mono ?_
  rintro e w1 ⟨rfl, hr1, hg1⟩
  have HR1 := Lib.hid hr1
  have HG1 := Lib.hid hg1
  have c2 : w1.cell? ⟨g, 2, none⟩ = some (.int .i64 0) := Whole.cell hr1 2
  have f2 : w1.frozen? ⟨g, 2, none⟩ = false := Whole.frozen hr1 2
  have HR2 := Lib.hid (RBlk.setId hr1 (numAt b 0 2))
  have HG2 := Lib.hid (show GrewM g w (w1.setCell ⟨g, 2, none⟩ (.int .i64 (numAt b 0 2))) from Grew.setCell (F := fun j => j = g) hg1 (a := ⟨g, 2, none⟩) (.inl rfl) _)
  have HN2 := Lib.hid (mnum_any _ g A m cap g b 2 _ (.slice none 0 0) nilS HR2.out HBL.out (row_under HRW.out (GrewM.wide (B := g + 1) HG2.out) (by omega) (by omega)) hm hc (by omega))
  clear hr1 hg1 HN0
  go_wp2_with fail
  refine HN2.out.mono ?_
  rintro e w3 ⟨rfl, hr3, hg3⟩
  have HR3 := Lib.hid hr3
  have HG3 := Lib.hid (HG2.out.trans hg3 fun _ hj => .inl hj)
  have HS3 := Lib.hid (setFlags_any w3 g (.slice A m cap) (2 + 2) _ (.slice none 0 0) nilS (numAt b 2 2) hr3 (numAt_lt b 2 2))
  clear hr3 hg3 HN2 c2 f2 HR1 HG1
  go_wp2_with fail
  refine HS3.out.mono ?_
  rintro e w4 ⟨rfl, hr4, hg4⟩
  have HR4 := Lib.hid (show RBlk w4 g (.slice A m cap) 4 (hdOf (numAt b 0 2) (numAt b 2 2) false 0) (.slice none 0 0) nilS from hr4)
  have HG4 := Lib.hid (HG3.out.trans hg4 fun _ hj => .inl hj)
  have hz4 : g < w4.heap.size := Whole.lt hr4
  have hww4 : w.heap.size ≤ w4.heap.size := Nat.le_trans HG3.out.size hg4.size
  clear hr4 hg4 HS3 HR2 HG2 HR3 HG3
  have hgc : g ≠ w4.heap.size := by omega
  have hgc2 : w4.heap.size ≠ g := by omega
  have hba : Below w4.heap.size w4 (w4.alloc (.cells #[.int .i64 0, .int .i64 0, .int .i64 0, .int .i64 0] 75)) := (Below.refl _ _).alloc (Nat.le_refl _) _
  have HR5 := Lib.hid (show RBlk (w4.alloc (.cells #[.int .i64 0, .int .i64 0, .int .i64 0, .int .i64 0] 75)) g (.slice A m cap) (4 + 2 * 0) (hdOf (numAt b 0 2) (numAt b 2 2) false 0) (.slice none 0 0) nilS from Whole.below HR4.out hba hz4)
  have HC5 := Lib.hid (show Whole (w4.alloc (.cells #[.int .i64 0, .int .i64 0, .int .i64 0, .int .i64 0] 75)) w4.heap.size 75 (cntL b 0) from Whole.made w4 [_, _, _, _] _)
  have HG5 := Lib.hid (show GrewM g w (w4.alloc (.cells #[.int .i64 0, .int .i64 0, .int .i64 0, .int .i64 0] 75)) from HG4.out.alloc _)
  clear hba HR4 HG4
  go_wp2
  go_loopw [4, 20] (CntRel w g w4.heap.size (.slice A m cap) (hdOf (numAt b 0 2) (numAt b 2 2) false 0) b) (fun _ i _ => 4 - (intOf i).toNat)
  case atStart => exact ⟨0, by omega, rfl, rfl, HR5.out, HC5.out, HG5.out⟩
  case round =>
    obtain ⟨j, hj, rfl, rfl, hr, hcn, hg⟩ := hrel
    have HRJ := Lib.hid hr
    have HCJ := Lib.hid hcn
    have HGJ := Lib.hid hg
    have hgw : g < wr.heap.size := Whole.lt hr
    have hcw : w4.heap.size < wr.heap.size := Whole.lt hcn
    clear hr hcn hg
    by_cases hlt : j < 4
    · have HNJ := Lib.hid (mnum_any wr g A m cap g b (4 + 2 * j) _ (.slice none 0 0) nilS HRJ.out HBL.out (row_under HRW.out (GrewM.wide (B := g + 1) HGJ.out) (by omega) (by omega)) hm hc (by omega))
      have hcs := cntS_le b j
      have hnl := numAt_lt b (4 + 2 * j) 2
      have HSJ := Lib.hid (show cntS b (j + 1) = cntS b j + numAt b (4 + 2 * j) 2 from rfl)
      have HLS := Lib.hid (cntL_set b hlt)
      have hj1 : (j : Int) < 4 := by omega
      go_wp2_with fail
      refine HNJ.out.mono ?_
      rintro e w6 ⟨rfl, hr6, hg6⟩
      have HR6 := Lib.hid hr6
      have HG6 := Lib.hid (HGJ.out.trans hg6 fun _ hj => .inl hj)
      have hc6 : Whole w6 w4.heap.size 75 (cntL b j) := Whole.keep HCJ.out (hg6.block _ hcw (by omega))
      have HC6 := Lib.hid hc6
      have cc : w6.cell? ⟨w4.heap.size, j, none⟩ = some (.int .i64 (cntV b j j)) := by rw [Whole.cell hc6 j]; exact cntL_at b hlt j
      have fc : w6.frozen? ⟨w4.heap.size, j, none⟩ = false := Whole.frozen hc6 j
      clear hr6 hg6 hc6 HNJ
      revert HSJ HLS hnl
      generalize numAt b (4 + 2 * j) 2 = z
      intro hnl HSJ HLS
      have HREL := Lib.hid (show CntRel w g w4.heap.size (.slice A m cap) (hdOf (numAt b 0 2) (numAt b 2 2) false 0) b (.int .i64 ((cntS b (j + 1) : Nat) : Int)) (.int .i64 ((j + 1 : Nat) : Int)) (w6.setCell ⟨w4.heap.size, j, none⟩ (.int .i64 z)) from
        ⟨j + 1, by omega, rfl, rfl, Whole.keep HR6.out (Below.heap_setCell _ ⟨w4.heap.size, j, none⟩ _ g hgc), by rw [← HLS.out]; exact HC6.out.set_ j _, Grew.setCell (F := fun j => j = g) HG6.out (a := ⟨w4.heap.size, j, none⟩) (.inr hww4) _⟩)
      go_wp2
      have hrl := HREL.out
      rw [show ((j + 1 : Nat) : Int) = (j : Int) + 1 by omega, HSJ.out, show ((cntS b j + z : Nat) : Int) = (cntS b j : Int) + (z : Int) by omega] at hrl
      exact ⟨hrl, by simp [intOf]; omega⟩
    · obtain rfl : j = 4 := by omega
      have HS4 := Lib.hid (cntS_four b)
      have HDB := Lib.hid (show decB b = if 513 < cntS b 4 then .error 4 else getQs b (numAt b 4 2) 12 [] >>= fun q => restS b q.1 3 [] q.2 false 0 by rw [HS4.out]; rfl)
      clear hlt hj
      by_cases hbig : 513 < cntS b 4
      · have d1 : decide ((513 : Int) < ((cntS b 4 : Nat) : Int)) = true := by rw [decide_eq_true_eq]; omega
        have HE := Lib.hid (show decB b = .error 4 by rw [HDB.out, if_pos hbig])
        clear hbig
        go_wp2
        go_ret
        rw [HE.out]
        exact ⟨HGJ.out, rfl, by decide⟩
      have d1 : decide ((513 : Int) < ((cntS b 4 : Nat) : Int)) = false := decide_eq_false (by omega)
      have hcnt : ∀ k, k < 4 → numAt b (4 + 2 * k) 2 ≤ 513 := fun k hk => by
        have h4 := HS4.out
        rcases (show k = 0 ∨ k = 1 ∨ k = 2 ∨ k = 3 by omega) with rfl | rfl | rfl | rfl
        · show numAt b 4 2 ≤ 513
          omega
        · show numAt b 6 2 ≤ 513
          omega
        · show numAt b 8 2 ≤ 513
          omega
        · show numAt b 10 2 ≤ 513
          omega
      have HCN := Lib.hid hcnt
      have HE := Lib.hid (show decB b = getQs b (numAt b 4 2) 12 [] >>= fun q => restS b q.1 3 [] q.2 false 0 by rw [HDB.out, if_neg hbig])
      have hn0 : numAt b 4 2 ≤ 60000 := Nat.le_trans (hcnt 0 (by omega)) (by omega)
      clear hbig hcnt HDB
      have cc0 : wr.cell? ⟨w4.heap.size, 0, none⟩ = some (.int .i64 (numAt b 4 2)) := by rw [Whole.cell HCJ.out 0]; exact cntL_at b (by omega) 4
      have HQC := Lib.hid (mquestions_any wr g A m cap b 12 (numAt b 4 2) _ nilS HRJ.out HBL.out (row_under HRW.out (GrewM.wide (B := g + 1) HGJ.out) (by omega) (by omega)) hm hc (by omega) (by omega) hn0)
      clear hn0
      revert HQC cc0 HE
      generalize numAt b 4 2 = z0
      intro HE cc0 HQC
      go_wp2_with fail
      refine HQC.out.mono ?_
      rintro e w7 ⟨hg7, hres⟩
      have HG7 := Lib.hid (show GrewM g w w7 from HGJ.out.trans hg7 fun j hj => by
        rcases hj with h1 | h1
        · exact .inl h1
        · exact .inr (Nat.le_trans HGJ.out.size h1))
      have HC7 := Lib.hid (show Whole w7 w4.heap.size 75 (cntL b 4) from Whole.keep HCJ.out (hg7.block _ hcw (by rintro (h1 | h1) <;> omega)))
      have hg7s := hg7.size
      clear hg7 HQC cc0
      revert hres HE
      cases getQs b z0 12 [] with
      | error kk =>
        intro HE hres
        obtain ⟨rfl, hk0⟩ := hres
        have t : ((kk : Int) != 0) = true := by rw [bne_iff_ne]; omega
        have HE2 := Lib.hid (show decB b = .error kk from HE.out)
        have HK0 := Lib.hid hk0
        clear hk0 HE
        go_wp2
        go_ret
        rw [HE2.out]
        exact ⟨HG7.out, rfl, HK0.out⟩
      | ok q =>
        intro HE hres
        obtain ⟨rfl, vq, qp, hr7, hq7, hqs, hqm⟩ := hres
        have HR7 := Lib.hid hr7
        have HQ7 := Lib.hid (show QRow w7 w.heap.size vq qp from ⟨own_mono hq7.row HGJ.out.size, fun q hq => own_mono (hq7.each q hq) HGJ.out.size⟩)
        have HE2 := Lib.hid (show decB b = restS b (qsts qp) 3 [] q.2 false 0 by rw [hqs]; exact HE.out)
        have HQM := Lib.hid hqm
        have hgw7 : g < w7.heap.size := Whole.lt hr7
        clear hr7 hq7 hqs hqm HE
        go_wp2_with fail
        refine (sections_at w7 g 2).mono ?_
        rintro e w8 ⟨bs, rfl, hbs, hwb, hb8⟩
        have HB8 := Lib.hid hb8
        have HBS := Lib.hid hwb
        have HR8 := Lib.hid (show RBlk w8 g (.slice A m cap) q.2 _ vq nilS from Whole.below HR7.out hb8 hgw7)
        have HQ8 := Lib.hid (show QRow w8 w.heap.size vq qp from HQ7.out.keep fun j _ hj => hb8.block j hj)
        have HC8 := Lib.hid (Whole.below HC7.out hb8 (Whole.lt HC7.out))
        have HG8 := Lib.hid (show GrewM g w w8 from HG7.out.then_below hb8)
        have hgbs : bs ≠ g := by omega
        clear hb8 hwb HR7 HQ7 HC7 HG7 HB8 HRJ HCJ HGJ HC5 HR5 HG5
        go_wp2
        go_loopw [47] (SecRel w g w4.heap.size bs (.slice A m cap) vq qp (hdOf (numAt b 0 2) (numAt b 2 2) false 0) b) (fun i _ => 3 - (intOf i).toNat)
        case atStart => exact ⟨0, by omega, rfl, nilS, fun _ => [], [], q.2, false, 0, HR8.out, rfl, fun k hk => absurd hk (Nat.not_lt_zero _), fun k _ => rfl, HQ8.out, HE2.out, by rw [HBL.out]; exact HQM.out, HC8.out, HBS.out, HG8.out⟩
        case round =>
          obtain ⟨j, hj, rfl, v, ps, acc, p, ed, sz, hr, hacc, hrec, hnil, hq, he, hp, hcn, hbp, hg⟩ := hrel
          have HRK := Lib.hid hr
          have HCK := Lib.hid hcn
          have HGK := Lib.hid hg
          have HQK := Lib.hid hq
          have HRC := Lib.hid hrec
          have HNI := Lib.hid hnil
          have HEK := Lib.hid he
          have HPK := Lib.hid (show p ≤ m by rw [← HBL.out]; exact hp)
          have HBK := Lib.hid hbp
          have HAC := Lib.hid hacc
          have hgw9 : g < wr.heap.size := Whole.lt hr
          have hcw9 : w4.heap.size < wr.heap.size := Whole.lt hcn
          clear hr hcn hg hq hrec hnil he hp hbp hacc
          by_cases hlt : j < 3
          · have cp : wr.cell? ⟨bs, j, none⟩ = some (.pointer (some ⟨g, 11 + j, none⟩)) := by
              rcases (show j = 0 ∨ j = 1 ∨ j = 2 by omega) with rfl | rfl | rfl
              · exact HBK.out.cell 0
              · exact HBK.out.cell 1
              · exact HBK.out.cell 2
            have cn : wr.cell? ⟨w4.heap.size, j + 1, none⟩ = some (.int .i64 (numAt b (6 + 2 * j) 2)) := by
              rw [Whole.cell HCK.out (j + 1), cntL_at b (by omega) 4]
              have h1 : cntV b 4 (j + 1) = numAt b (6 + 2 * j) 2 := by
                unfold cntV
                rw [if_pos (by omega), show 4 + 2 * (j + 1) = 6 + 2 * j by omega]
              rw [h1]
            have hcb : numAt b (6 + 2 * j) 2 ≤ 60000 := by
              have h1 := HCN.out (j + 1) (by omega)
              rw [show 4 + 2 * (j + 1) = 6 + 2 * j by omega] at h1
              omega
            have HST := Lib.hid (show decB b = getRs b (decide (j = 2)) (numAt b (6 + 2 * j) 2) ⟨[], p, ed, sz⟩ >>= fun x => restS b (qsts qp) (3 - (j + 1)) (acc ++ [x.rs]) x.p x.e x.s by
              rw [HEK.out]
              rcases (show j = 0 ∨ j = 1 ∨ j = 2 by omega) with rfl | rfl | rfl <;> rfl)
            have HRX := Lib.hid (mrecords_any wr g A m cap b p (numAt b (6 + 2 * j) 2) { hdOf (numAt b 0 2) (numAt b 2 2) false 0 with edns := ed, size := sz } vq v j HRK.out HBL.out (row_under HRW.out (GrewM.wide (B := g + 1) HGK.out) (by omega) (by omega)) hm hc (by omega) HPK.out hlt (HNI.out j (Nat.le_refl _)) hcb)
            have hj1 : (j : Int) < 3 := by omega
            have hcb0 : 0 ≤ numAt b (6 + 2 * j) 2 := Nat.zero_le _
            dsimp only at HRX
            revert HRX HST cn hcb
            generalize numAt b (6 + 2 * j) 2 = zc
            intro cn hcb HST HRX
            go_wp2_with fail
            refine HRX.out.mono ?_
            rintro e w9 ⟨hg9, hres⟩
            have HG9 := Lib.hid (show GrewM g w w9 from HGK.out.trans hg9 fun k hk => by
              rcases hk with h1 | h1
              · exact .inl h1
              · exact .inr (Nat.le_trans HGK.out.size h1))
            have HKEEP := Lib.hid (fun (k : Nat) (hk : k < wr.heap.size) (hkg : k ≠ g) => (show w9.heap[k]? = wr.heap[k]? from hg9.block k hk (by rintro (h1 | h1) <;> omega)))
            clear hg9 HRX cp cn hcb hcb0
            revert hres HST
            generalize getRs b (decide (j = 2)) zc ⟨[], p, ed, sz⟩ = rs
            intro HST hres
            cases rs with
            | error kk =>
              obtain ⟨rfl, hk0⟩ := hres
              have t : ((kk : Int) != 0) = true := by rw [bne_iff_ne]; omega
              have HE3 := Lib.hid (show decB b = .error kk from HST.out)
              have HK0 := Lib.hid hk0
              clear hk0 HST
              go_wp2
              go_ret
              rw [HE3.out]
              exact ⟨HG9.out, rfl, HK0.out⟩
            | ok s2 =>
              obtain ⟨rfl, u2, ps2, hr9, hq9, hrs9, hsp9⟩ := hres
              have HE3 := Lib.hid (show decB b = restS b (qsts qp) (3 - (j + 1)) (acc ++ [s2.rs]) s2.p s2.e s2.s from HST.out)
              have HREL := Lib.hid (show SecRel w g w4.heap.size bs (.slice A m cap) vq qp (hdOf (numAt b 0 2) (numAt b 2 2) false 0) b (.int .i64 ((j + 1 : Nat) : Int)) w9 from by
                refine ⟨j + 1, by omega, rfl, upd v j u2, fun k => if k = j then ps2 else ps k, acc ++ [s2.rs], s2.p, s2.e, s2.s, hr9, by rw [List.length_append, HAC.out]; rfl, fun k hk => ?_, fun k hk => ?_, HQK.out.keep fun k hk hkw => HKEEP.out k hkw (by omega), HE3.out, by rw [HBL.out]; exact hsp9,
                  Whole.keep HCK.out (HKEEP.out _ hcw9 (by omega)), Whole.keep HBK.out (HKEEP.out _ (Whole.lt HBK.out) hgbs), HG9.out⟩
                · show RecRow w9 w.heap.size (upd v j u2 k) (if k = j then ps2 else ps k) ∧ recs (if k = j then ps2 else ps k) = (acc ++ [s2.rs]).getD k []
                  by_cases hkj : k = j
                  · subst hkj
                    rw [upd_at, if_pos rfl]
                    refine ⟨⟨own_mono hq9.row HGK.out.size, fun q hq => ⟨own_mono (hq9.each q hq).n HGK.out.size, (hq9.each q hq).d.monoB HGK.out.size⟩⟩, ?_⟩
                    have h1 := getD_last acc s2.rs
                    rw [HAC.out] at h1
                    rw [hrs9, h1]
                  · have h1 := HRC.out k (by omega)
                    rw [if_neg hkj, show upd v j u2 k = v k by unfold upd; rw [if_neg hkj]]
                    refine ⟨h1.1.keep fun q hq hqw => HKEEP.out q hqw (by omega), ?_⟩
                    rw [h1.2, getD_old acc s2.rs (by rw [HAC.out]; omega)]
                · rw [show upd v j u2 k = v k by unfold upd; rw [if_neg (by omega)]]
                  exact HNI.out k (by omega))
              clear hr9 hq9 hrs9 hsp9 HST
              go_wp2
              have hrl := HREL.out
              rw [show ((j + 1 : Nat) : Int) = (j : Int) + 1 by omega] at hrl
              exact ⟨hrl, by simp [intOf]; omega⟩
          · obtain rfl : j = 3 := by omega
            have c0 : wr.cell? ⟨g, 0, none⟩ = some (.slice A m cap) := Whole.cell HRK.out 0
            have c1 : wr.cell? ⟨g, 1, none⟩ = some (.int .i64 p) := Whole.cell HRK.out 1
            have HFN := Lib.hid (show decB b = finR b (qsts qp) acc p ed sz from HEK.out)
            by_cases hpl : p < m
            · have d2 : decide ((p : Int) < (m : Int)) = true := by rw [decide_eq_true_eq]; omega
              have HE3 := Lib.hid (show decB b = .error 7 by rw [HFN.out]; unfold finR; rw [if_pos (by rw [HBL.out]; exact hpl)])
              go_wp2
              go_region
              go_wp2
              go_ret
              rw [HE3.out]
              exact ⟨HGK.out.drewN 1, rfl, by decide⟩
            · have d2 : decide ((p : Int) < (m : Int)) = false := decide_eq_false (by omega)
              have HE3 := Lib.hid (show decB b = .ok ⟨hdOf (numAt b 0 2) (numAt b 2 2) ed sz, qsts qp, acc.getD 0 [], acc.getD 1 [], acc.getD 2 []⟩ by rw [HFN.out]; unfold finR; rw [if_neg (by rw [HBL.out]; exact hpl)])
              go_wp2
              go_region
              go_wp2
              go_ret
              rw [HE3.out]
              obtain ⟨r0, e0⟩ := HRC.out 0 (by omega)
              obtain ⟨r1, e1⟩ := HRC.out 1 (by omega)
              obtain ⟨r2, e2⟩ := HRC.out 2 (by omega)
              obtain ⟨A0, k0, v0, _, _⟩ := own_form r0.row
              obtain ⟨A1, k1, v1, _, _⟩ := own_form r1.row
              obtain ⟨A2, k2, v2, _, _⟩ := own_form r2.row
              obtain ⟨Aq, kq, vqe, _, _⟩ := own_form HQK.out.row
              have hqk := HQK.out
              have hrk := HRK.out
              rw [v0] at r0
              rw [v1] at r1
              rw [v2] at r2
              rw [vqe] at hqk hrk
              refine ⟨HGK.out.drewN 1, rfl, ⟨hdOf (numAt b 0 2) (numAt b 2 2) ed sz, Aq, kq, qp, ⟨A0, k0, ps 0⟩, ⟨A1, k1, ps 1⟩, ⟨A2, k2, ps 2⟩⟩, p, v, ?_, hrk, v0, v1, v2, hqk.keep fun _ _ _ => rfl, r0.keep fun _ _ _ => rfl, r1.keep fun _ _ _ => rfl, r2.keep fun _ _ _ => rfl⟩
              show (⟨_, qsts qp, recs (ps 0), recs (ps 1), recs (ps 2)⟩ : Mt) = _
              rw [e0, e1, e2]

end Go.Proofs.YtjkjhpaeckkpjaaGreat

namespace Go.Proofs.YtjkjhpaeckkpjaaGreat
open Go.RowKit

set_option maxHeartbeats 2000000 in
/-- A whole message is stored; of the new world this much is told. -/
theorem wpList_storeM {w : World} {ops : Array Oper} {rest : List Oper} {o : Oper} {a : Act} {Q : Exit → Act → World → Prop} (g k1 k2 : Nat) (h : Hd) (Aq A0 A1 A2 : Option Addr) (nq cq n0 c0 n1 c1 n2 c2 : Nat) (L : List Value) (hg : o.guard = none) (ho : o.op = .store 25 (.tmp k1) (.tmp k2))
    (ha : a.tmps[k1]? = some (.pointer (some ⟨g, 0, none⟩))) (hu : a.tmps[k2]? = some (valM h (.slice Aq nq cq) (.slice A0 n0 c0) (.slice A1 n1 c1) (.slice A2 n2 c2))) (hw : Whole w g 25 L) (hl : L.length = 14)
    (hK : ∀ V, Whole V g 25 (cellsM h (.slice Aq nq cq) (.slice A0 n0 c0) (.slice A1 n1 c1) (.slice A2 n2 c2)) → Below g w V → (∀ j, j ≠ g → V.heap[j]? = w.heap[j]?) → V.heap.size = w.heap.size → wpList Tryz.prog ops Q rest (a.put o.dst undef) V) : wpList Tryz.prog ops Q (o :: rest) a w := by
  match L, hl with
  | [u0, u1, u2, u3, u4, u5, u6, u7, u8, u9, u10, u11, u12, u13], _ =>
  have q0 : w.cell? ⟨g, 0, none⟩ = some u0 := hw.cell 0
  have z0 : w.frozen? ⟨g, 0, none⟩ = false := hw.frozen 0
  have q1 : w.cell? ⟨g, 1, none⟩ = some u1 := hw.cell 1
  have z1 : w.frozen? ⟨g, 1, none⟩ = false := hw.frozen 1
  have q2 : w.cell? ⟨g, 2, none⟩ = some u2 := hw.cell 2
  have z2 : w.frozen? ⟨g, 2, none⟩ = false := hw.frozen 2
  have q3 : w.cell? ⟨g, 3, none⟩ = some u3 := hw.cell 3
  have z3 : w.frozen? ⟨g, 3, none⟩ = false := hw.frozen 3
  have q4 : w.cell? ⟨g, 4, none⟩ = some u4 := hw.cell 4
  have z4 : w.frozen? ⟨g, 4, none⟩ = false := hw.frozen 4
  have q5 : w.cell? ⟨g, 5, none⟩ = some u5 := hw.cell 5
  have z5 : w.frozen? ⟨g, 5, none⟩ = false := hw.frozen 5
  have q6 : w.cell? ⟨g, 6, none⟩ = some u6 := hw.cell 6
  have z6 : w.frozen? ⟨g, 6, none⟩ = false := hw.frozen 6
  have q7 : w.cell? ⟨g, 7, none⟩ = some u7 := hw.cell 7
  have z7 : w.frozen? ⟨g, 7, none⟩ = false := hw.frozen 7
  have q8 : w.cell? ⟨g, 8, none⟩ = some u8 := hw.cell 8
  have z8 : w.frozen? ⟨g, 8, none⟩ = false := hw.frozen 8
  have q9 : w.cell? ⟨g, 9, none⟩ = some u9 := hw.cell 9
  have z9 : w.frozen? ⟨g, 9, none⟩ = false := hw.frozen 9
  have q10 : w.cell? ⟨g, 10, none⟩ = some u10 := hw.cell 10
  have z10 : w.frozen? ⟨g, 10, none⟩ = false := hw.frozen 10
  have q11 : w.cell? ⟨g, 11, none⟩ = some u11 := hw.cell 11
  have z11 : w.frozen? ⟨g, 11, none⟩ = false := hw.frozen 11
  have q12 : w.cell? ⟨g, 12, none⟩ = some u12 := hw.cell 12
  have z12 : w.frozen? ⟨g, 12, none⟩ = false := hw.frozen 12
  have q13 : w.cell? ⟨g, 13, none⟩ = some u13 := hw.cell 13
  have z13 : w.frozen? ⟨g, 13, none⟩ = false := hw.frozen 13
  have hk := hK ((((((((((((((w.setCell ⟨g, 0, none⟩ (.int .i64 h.id)).setCell ⟨g, 1, none⟩ (.bool h.resp)).setCell ⟨g, 2, none⟩ (.int .i64 h.op)).setCell ⟨g, 3, none⟩ (.bool h.aa)).setCell ⟨g, 4, none⟩ (.bool h.tc)).setCell ⟨g, 5, none⟩ (.bool h.rd)).setCell ⟨g, 6, none⟩ (.bool h.ra)).setCell ⟨g, 7, none⟩ (.int .i64 h.rc)).setCell ⟨g, 8, none⟩ (.slice Aq nq cq)).setCell ⟨g, 9, none⟩ (.slice A0 n0 c0)).setCell ⟨g, 10, none⟩ (.slice A1 n1 c1)).setCell ⟨g, 11, none⟩ (.slice A2 n2 c2)).setCell ⟨g, 12, none⟩ (.bool h.edns)).setCell ⟨g, 13, none⟩ (.int .i64 h.size))
    ((((((((((((((hw.set_ 0 _).set_ 1 _).set_ 2 _).set_ 3 _).set_ 4 _).set_ 5 _).set_ 6 _).set_ 7 _).set_ 8 _).set_ 9 _).set_ 10 _).set_ 11 _).set_ 12 _).set_ 13 _)
    (by
      have hs (W : World) (i : Nat) (u : Value) : Below g W (W.setCell ⟨g, i, none⟩ u) := (Below.refl _ W).setCell (p := ⟨g, i, none⟩) (Nat.le_refl _) u
      exact ((((((((((((((hs _ 0 _).trans (hs _ 1 _)).trans (hs _ 2 _)).trans (hs _ 3 _)).trans (hs _ 4 _)).trans (hs _ 5 _)).trans (hs _ 6 _)).trans (hs _ 7 _)).trans (hs _ 8 _)).trans (hs _ 9 _)).trans (hs _ 10 _)).trans (hs _ 11 _)).trans (hs _ 12 _)).trans (hs _ 13 _)))
    (fun j hj => by
      have hs (W : World) (i : Nat) (u : Value) : (W.setCell ⟨g, i, none⟩ u).heap[j]? = W.heap[j]? := Below.heap_setCell W ⟨g, i, none⟩ u j hj
      rw [hs, hs, hs, hs, hs, hs, hs, hs, hs, hs, hs, hs, hs, hs])
    (by simp)
  refine wpList_plain hg fun K hKK => ?_
  have hk2 := hKK _ _ hk
  unfold Oper.wp
  simp [execOp, ho, go_sem, ha, hu, q0, q1, q2, q3, q4, q5, q6, q7, q8, q9, q10, q11, q12, q13, z0, z1, z2, z3, z4, z5, z6, z7, z8, z9, z10, z11, z12, z13]
  exact hk2

theorem RecRow.widen {w : World} {B B' : Nat} {v : Value} {ps : List (RV × Rt)} (h : RecRow w B v ps) (hb : B' ≤ B) : RecRow w B' v ps := ⟨own_mono h.row hb, fun p hp => ⟨own_mono (h.each p hp).n hb, (h.each p hp).d.monoB hb⟩⟩
theorem DOwn.keep {w w' : World} {B : Nat} {m : MV} (h : DOwn w B m) (hk : ∀ j, B ≤ j → j < w.heap.size → w'.heap[j]? = w.heap[j]?) : DOwn w' B m := ⟨h.q.keep hk, h.s0.keep hk, h.s1.keep hk, h.s2.keep hk⟩
/-- What Decode leaves. -/
def DecOut (w : World) (r : Except Nat Mt) (e : Ending) (w' : World) : Prop :=
  Below w.heap.size w w' ∧ match r with
  | .ok x => ∃ m : MV, e = .returned (.tuple #[m.val, .int .i64 0]) ∧ m.msg = x ∧ DOwn w' w.heap.size m
  | .error k => e = .returned (.tuple #[valM hd0 (.slice none 0 0) (.slice none 0 0) (.slice none 0 0) (.slice none 0 0), .int .i64 k]) ∧ k ≠ 0

set_option maxRecDepth 20000 in
set_option maxHeartbeats 8000000 in
theorem decode_any (A : Option Addr) (m cap : Nat) (b : List UInt8) (w : World) (hbl : b.length = m) (hrow : Row w w.heap.size A (b.map bc)) (hm : m ≤ cap) (hc : cap ≤ maxLen) :
    Calls Tryz.prog 9 #[.slice A m cap] w (DecOut w (decM b)) := by
  have HBL := Lib.hid hbl
  have HRW := Lib.hid hrow
  have HDM := Lib.hid (decM_eq b)
  clear hbl hrow
  by_cases hbig : 65535 < m
  · have d1 : decide ((65535 : Int) < (m : Int)) = true := by rw [decide_eq_true_eq]; omega
    have HE := Lib.hid (show decM b = .error 4 by rw [HDM.out, if_pos (by rw [HBL.out]; exact hbig)])
    go_enter Tryz.func9, Tryz.ntmps9
    go_wp2
    refine ⟨rfl, .tuple #[valM hd0 (.slice none 0 0) (.slice none 0 0) (.slice none 0 0) (.slice none 0 0), .int .i64 4], by simp [results, Tryz.results9, go_sem, hd0], ?_⟩
    rw [HE.out]
    exact ⟨(Below.refl _ _).alloc (Nat.le_refl _) _, rfl, by decide⟩
  have d1 : decide ((65535 : Int) < (m : Int)) = false := decide_eq_false (by omega)
  by_cases hsm : m < 12
  · have d2 : decide ((m : Int) < 12) = true := by rw [decide_eq_true_eq]; omega
    have HE := Lib.hid (show decM b = .error 3 by rw [HDM.out, if_neg (by rw [HBL.out]; exact hbig), if_pos (by rw [HBL.out]; exact hsm)])
    go_enter Tryz.func9, Tryz.ntmps9
    go_wp2
    refine ⟨rfl, .tuple #[valM hd0 (.slice none 0 0) (.slice none 0 0) (.slice none 0 0) (.slice none 0 0), .int .i64 3], by simp [results, Tryz.results9, go_sem, hd0], ?_⟩
    rw [HE.out]
    exact ⟨(Below.refl _ _).alloc (Nat.le_refl _) _, rfl, by decide⟩
  have d2 : decide ((m : Int) < 12) = false := decide_eq_false (by omega)
  have HE := Lib.hid (show decM b = decB b by rw [HDM.out, if_neg (by rw [HBL.out]; exact hbig), if_neg (by rw [HBL.out]; exact hsm)])
  obtain ⟨W, hW⟩ : ∃ W, W = (w.alloc (.cells #[.int .i64 0, .bool false, .int .i64 0, .bool false, .bool false, .bool false, .bool false, .int .i64 0, .slice none 0 0, .slice none 0 0, .slice none 0 0, .slice none 0 0, .bool false, .int .i64 0] 25)).alloc (.cells #[.slice A m cap, .int .i64 0, .int .i64 0, .bool false, .int .i64 0, .bool false, .bool false, .bool false, .bool false, .int .i64 0, .slice none 0 0, .slice none 0 0, .slice none 0 0, .slice none 0 0, .bool false, .int .i64 0] 57) := ⟨_, rfl⟩
  have hB : Below w.heap.size w W := by rw [hW]; exact ((Below.refl _ _).alloc (Nat.le_refl _) _).alloc (by simp) _
  have hwz : Whole W w.heap.size 25 [.int .i64 0, .bool false, .int .i64 0, .bool false, .bool false, .bool false, .bool false, .int .i64 0, .slice none 0 0, .slice none 0 0, .slice none 0 0, .slice none 0 0, .bool false, .int .i64 0] := by rw [hW]; exact (Whole.made w [.int .i64 0, .bool false, .int .i64 0, .bool false, .bool false, .bool false, .bool false, .int .i64 0, .slice none 0 0, .slice none 0 0, .slice none 0 0, .slice none 0 0, .bool false, .int .i64 0] _).alloc _
  have hrb : RBlk W (w.heap.size + 1) (.slice A m cap) 0 hd0 (.slice none 0 0) nilS := by
    rw [hW]
    have h1 := Whole.made (w.alloc (.cells #[.int .i64 0, .bool false, .int .i64 0, .bool false, .bool false, .bool false, .bool false, .int .i64 0, .slice none 0 0, .slice none 0 0, .slice none 0 0, .slice none 0 0, .bool false, .int .i64 0] 25)) [.slice A m cap, .int .i64 0, .int .i64 0, .bool false, .int .i64 0, .bool false, .bool false, .bool false, .bool false, .int .i64 0, .slice none 0 0, .slice none 0 0, .slice none 0 0, .slice none 0 0, .bool false, .int .i64 0] 57
    rw [show (w.alloc (.cells #[.int .i64 0, .bool false, .int .i64 0, .bool false, .bool false, .bool false, .bool false, .int .i64 0, .slice none 0 0, .slice none 0 0, .slice none 0 0, .slice none 0 0, .bool false, .int .i64 0] 25)).heap.size = w.heap.size + 1 by simp] at h1
    exact h1
  have HM := Lib.hid (message_any W (w.heap.size + 1) A m cap b hrb HBL.out ((HRW.out.below hB).mono (by omega)) hm hc (by omega) (by omega))
  have HB := Lib.hid hB
  have HWZ := Lib.hid hwz
  have hzW : W.heap.size = w.heap.size + 2 := by rw [hW]; simp
  have HZW := Lib.hid hzW
  clear hB hwz hrb hzW
  subst hW
  go_enter Tryz.func9, Tryz.ntmps9
  go_wp2_with fail
  refine HM.out.mono ?_
  rintro e w1 ⟨hg1, hres⟩
  have hzz := HZW.out
  have HB1 := Lib.hid (show Below w.heap.size w w1 from HB.out.trans (hg1.below (fun j hj => by omega) (by omega)))
  have HW1 := Lib.hid (show Whole w1 w.heap.size 25 [.int .i64 0, .bool false, .int .i64 0, .bool false, .bool false, .bool false, .bool false, .int .i64 0, .slice none 0 0, .slice none 0 0, .slice none 0 0, .slice none 0 0, .bool false, .int .i64 0] from Whole.keep HWZ.out (hg1.block _ (by omega) (by omega)))
  clear hg1 HM HB HWZ
  revert hres HE
  generalize decB b = r
  intro HE hres
  cases r with
  | error kk =>
    obtain ⟨rfl, hk0⟩ := hres
    have t : ((kk : Int) != 0) = true := by rw [bne_iff_ne]; omega
    have HK0 := Lib.hid hk0
    clear hk0 hzz
    go_wp2_with (
      refine wpList_storeM w.heap.size 2 19 hd0 none none none none 0 0 0 0 0 0 0 0 _ rfl rfl rfl rfl HW1.out rfl ?_
      intro V hWV hbv hhv hvs
      have v0 : V.cell? ⟨w.heap.size, 0, none⟩ = some (.int .i64 0) := Whole.cell hWV 0
      have v1 : V.cell? ⟨w.heap.size, 1, none⟩ = some (.bool false) := Whole.cell hWV 1
      have v2 : V.cell? ⟨w.heap.size, 2, none⟩ = some (.int .i64 0) := Whole.cell hWV 2
      have v3 : V.cell? ⟨w.heap.size, 3, none⟩ = some (.bool false) := Whole.cell hWV 3
      have v4 : V.cell? ⟨w.heap.size, 4, none⟩ = some (.bool false) := Whole.cell hWV 4
      have v5 : V.cell? ⟨w.heap.size, 5, none⟩ = some (.bool false) := Whole.cell hWV 5
      have v6 : V.cell? ⟨w.heap.size, 6, none⟩ = some (.bool false) := Whole.cell hWV 6
      have v7 : V.cell? ⟨w.heap.size, 7, none⟩ = some (.int .i64 0) := Whole.cell hWV 7
      have v8 : V.cell? ⟨w.heap.size, 8, none⟩ = some (.slice none 0 0) := Whole.cell hWV 8
      have v9 : V.cell? ⟨w.heap.size, 9, none⟩ = some (.slice none 0 0) := Whole.cell hWV 9
      have v10 : V.cell? ⟨w.heap.size, 10, none⟩ = some (.slice none 0 0) := Whole.cell hWV 10
      have v11 : V.cell? ⟨w.heap.size, 11, none⟩ = some (.slice none 0 0) := Whole.cell hWV 11
      have v12 : V.cell? ⟨w.heap.size, 12, none⟩ = some (.bool false) := Whole.cell hWV 12
      have v13 : V.cell? ⟨w.heap.size, 13, none⟩ = some (.int .i64 0) := Whole.cell hWV 13
      have HBV := Lib.hid (HB1.out.trans hbv)
      clear hWV hbv hhv hvs)
    rw [HE.out]
    refine ⟨rfl, .tuple #[valM hd0 (.slice none 0 0) (.slice none 0 0) (.slice none 0 0) (.slice none 0 0), .int .i64 kk], ?_, HBV.out, rfl, HK0.out⟩
    simp [results, Tryz.results9, go_sem, v0, v1, v2, v3, v4, v5, v6, v7, v8, v9, v10, v11, v12, v13, hd0]
  | ok x =>
    obtain ⟨rfl, mv, p, v, hmx, hr1, e0, e1, e2, hown⟩ := hres
    obtain ⟨h, Aq, cq, qp, ⟨A0, c0, p0⟩, ⟨A1, c1, p1⟩, ⟨A2, c2, p2⟩⟩ := mv
    have HMX := Lib.hid hmx
    have HOW := Lib.hid hown
    have hr2 : Whole w1 (w.heap.size + 1) 57 (rdCells (.slice A m cap) p h (.slice Aq qp.length cq) (.slice A0 p0.length c0) (.slice A1 p1.length c1) (.slice A2 p2.length c2)) := by
      have h1 : Whole w1 (w.heap.size + 1) 57 (rdCells (.slice A m cap) p h (.slice Aq qp.length cq) (v 0) (v 1) (v 2)) := hr1
      rw [e0, e1, e2] at h1
      exact h1
    have d0 : w1.cell? ⟨w.heap.size + 1, 2, none⟩ = some (.int .i64 h.id) := Whole.cell hr2 (0 + 2)
    have d1 : w1.cell? ⟨w.heap.size + 1, 3, none⟩ = some (.bool h.resp) := Whole.cell hr2 (1 + 2)
    have d2 : w1.cell? ⟨w.heap.size + 1, 4, none⟩ = some (.int .i64 h.op) := Whole.cell hr2 (2 + 2)
    have d3 : w1.cell? ⟨w.heap.size + 1, 5, none⟩ = some (.bool h.aa) := Whole.cell hr2 (3 + 2)
    have d4 : w1.cell? ⟨w.heap.size + 1, 6, none⟩ = some (.bool h.tc) := Whole.cell hr2 (4 + 2)
    have d5 : w1.cell? ⟨w.heap.size + 1, 7, none⟩ = some (.bool h.rd) := Whole.cell hr2 (5 + 2)
    have d6 : w1.cell? ⟨w.heap.size + 1, 8, none⟩ = some (.bool h.ra) := Whole.cell hr2 (6 + 2)
    have d7 : w1.cell? ⟨w.heap.size + 1, 9, none⟩ = some (.int .i64 h.rc) := Whole.cell hr2 (7 + 2)
    have d8 : w1.cell? ⟨w.heap.size + 1, 10, none⟩ = some (.slice Aq qp.length cq) := Whole.cell hr2 (8 + 2)
    have d9 : w1.cell? ⟨w.heap.size + 1, 11, none⟩ = some (.slice A0 p0.length c0) := Whole.cell hr2 (9 + 2)
    have d10 : w1.cell? ⟨w.heap.size + 1, 12, none⟩ = some (.slice A1 p1.length c1) := Whole.cell hr2 (10 + 2)
    have d11 : w1.cell? ⟨w.heap.size + 1, 13, none⟩ = some (.slice A2 p2.length c2) := Whole.cell hr2 (11 + 2)
    have d12 : w1.cell? ⟨w.heap.size + 1, 14, none⟩ = some (.bool h.edns) := Whole.cell hr2 (12 + 2)
    have d13 : w1.cell? ⟨w.heap.size + 1, 15, none⟩ = some (.int .i64 h.size) := Whole.cell hr2 (13 + 2)
    clear hmx hr1 e0 e1 e2 hown hr2
    go_wp2_with (
      refine wpList_storeM w.heap.size 2 22 h Aq A0 A1 A2 qp.length cq p0.length c0 p1.length c1 p2.length c2 _ rfl rfl rfl rfl HW1.out rfl ?_
      intro V hWV hbv hhv hvs
      have v0 : V.cell? ⟨w.heap.size, 0, none⟩ = some (.int .i64 h.id) := Whole.cell hWV 0
      have v1 : V.cell? ⟨w.heap.size, 1, none⟩ = some (.bool h.resp) := Whole.cell hWV 1
      have v2 : V.cell? ⟨w.heap.size, 2, none⟩ = some (.int .i64 h.op) := Whole.cell hWV 2
      have v3 : V.cell? ⟨w.heap.size, 3, none⟩ = some (.bool h.aa) := Whole.cell hWV 3
      have v4 : V.cell? ⟨w.heap.size, 4, none⟩ = some (.bool h.tc) := Whole.cell hWV 4
      have v5 : V.cell? ⟨w.heap.size, 5, none⟩ = some (.bool h.rd) := Whole.cell hWV 5
      have v6 : V.cell? ⟨w.heap.size, 6, none⟩ = some (.bool h.ra) := Whole.cell hWV 6
      have v7 : V.cell? ⟨w.heap.size, 7, none⟩ = some (.int .i64 h.rc) := Whole.cell hWV 7
      have v8 : V.cell? ⟨w.heap.size, 8, none⟩ = some (.slice Aq qp.length cq) := Whole.cell hWV 8
      have v9 : V.cell? ⟨w.heap.size, 9, none⟩ = some (.slice A0 p0.length c0) := Whole.cell hWV 9
      have v10 : V.cell? ⟨w.heap.size, 10, none⟩ = some (.slice A1 p1.length c1) := Whole.cell hWV 10
      have v11 : V.cell? ⟨w.heap.size, 11, none⟩ = some (.slice A2 p2.length c2) := Whole.cell hWV 11
      have v12 : V.cell? ⟨w.heap.size, 12, none⟩ = some (.bool h.edns) := Whole.cell hWV 12
      have v13 : V.cell? ⟨w.heap.size, 13, none⟩ = some (.int .i64 h.size) := Whole.cell hWV 13
      have HBV := Lib.hid (HB1.out.trans hbv)
      have HOV := Lib.hid (show DOwn V w.heap.size ⟨h, Aq, cq, qp, ⟨A0, c0, p0⟩, ⟨A1, c1, p1⟩, ⟨A2, c2, p2⟩⟩ from by
        have hh := HOW.out
        have hk : ∀ j, w.heap.size + 2 ≤ j → j < w1.heap.size → V.heap[j]? = w1.heap[j]? := fun j hj _ => hhv j (by omega)
        rw [HZW.out] at hh
        have o := DOwn.keep hh hk
        exact ⟨⟨own_mono o.q.row (by omega), fun q hq => own_mono (o.q.each q hq) (by omega)⟩, o.s0.widen (by omega), o.s1.widen (by omega), o.s2.widen (by omega)⟩)
      clear hWV hbv hhv hvs)
    rw [HE.out]
    refine ⟨rfl, .tuple #[valM h (.slice Aq qp.length cq) (.slice A0 p0.length c0) (.slice A1 p1.length c1) (.slice A2 p2.length c2), .int .i64 0], ?_, HBV.out, ⟨h, Aq, cq, qp, ⟨A0, c0, p0⟩, ⟨A1, c1, p1⟩, ⟨A2, c2, p2⟩⟩, rfl, HMX.out, HOV.out⟩
    simp [results, Tryz.results9, go_sem, v0, v1, v2, v3, v4, v5, v6, v7, v8, v9, v10, v11, v12, v13]

end Go.Proofs.YtjkjhpaeckkpjaaGreat

namespace Go.Proofs.YtjkjhpaeckkpjaaGreat
open Go.RowKit

def flB (i f : Nat) : List UInt8 := ((((digs i 2 ++ digs f 2) ++ digs 0 2) ++ digs 0 2) ++ digs 0 2) ++ digs 0 2
theorem flB_eq (i f : Nat) : flB i f = (digs i 2 ++ digs f 2) ++ List.replicate 8 0 := by
  unfold flB
  rw [show digs 0 2 = [0, 0] by decide +kernel]
  simp [List.replicate]
theorem digs2 (n : Nat) : digs n 2 = [UInt8.ofNat (n / 256), UInt8.ofNat n] := by simp [digs, List.range, List.range.loop]
theorem dec_flags {i f : Nat} (hi : i < 65536) (hf : f < 65536) : decM (flB i f) = .ok ⟨hdOf i f false 0, [], [], [], []⟩ := by
  have h := head_nums (a := i) (b := f) (c := 0) (d := 0) (e := 0) (f := 0) hi hf (by omega) (by omega) (by omega) (by omega) []
  simp only [List.append_nil] at h
  obtain ⟨n0, n1, n2, n3, n4, n5⟩ := h
  have hl : (flB i f).length = 12 := by unfold flB; simp [length_digs]
  unfold decM
  rw [if_neg (by omega), if_neg (by omega)]
  change (if 513 < numAt (flB i f) 4 2 + numAt (flB i f) 6 2 + numAt (flB i f) 8 2 + numAt (flB i f) 10 2 then _ else _) = _
  have e0 : numAt (flB i f) 0 2 = i := n0
  have e1 : numAt (flB i f) 2 2 = f := n1
  have e2 : numAt (flB i f) 4 2 = 0 := n2
  have e3 : numAt (flB i f) 6 2 = 0 := n3
  have e4 : numAt (flB i f) 8 2 = 0 := n4
  have e5 : numAt (flB i f) 10 2 = 0 := n5
  rw [e2, e3, e4, e5, if_neg (by omega)]
  change (if (12 : Nat) < (flB i f).length then Except.error 7 else Except.ok _) = _
  rw [if_neg (by omega), e0, e1]
/-- The flags without the three bits. -/
def clear3 (f : Nat) : Nat := f / 256 * 256 + f % 256 / 128 * 128 + f % 16
theorem bit_dec (x n : Nat) : bit (decide (x % 2 = 1)) n = x % 2 * n := by
  rcases (show x % 2 = 0 ∨ x % 2 = 1 by omega) with h | h <;> rw [h] <;> simp [bit]
theorem bits_clear {i f : Nat} (hf : f < 65536) (e : Bool) (s : Int) : bitsH (hdOf i f e s) = clear3 f := by
  unfold bitsH hdOf clear3
  dsimp only
  rw [bit_dec, bit_dec, bit_dec, bit_dec, bit_dec, Int.toNat_natCast, Int.toNat_natCast]
  omega
theorem clear3_lt {f : Nat} (hf : f < 65536) : clear3 f < 65536 := by unfold clear3; omega
theorem codeB_of {n : Nat} (h : n < 16) : codeB (n : Int) = true := by
  unfold codeB
  simp only [Bool.and_eq_true, decide_eq_true_eq]
  omega
theorem sound_flags {i f : Nat} (hi : i < 65536) : soundM ⟨hdOf i f false 0, [], [], [], []⟩ = true := by
  refine soundM_iff.2 ⟨?_, Nat.zero_le _, fun q h => absurd h (List.not_mem_nil), fun q h => absurd h (List.not_mem_nil)⟩
  unfold soundH hdOf
  dsimp only
  rw [fit2_of (n := (i : Int)) (by omega) (by omega), codeB_of (by omega), codeB_of (by omega), show fitB 0 2 = true by decide +kernel]
  rfl
theorem enc_flags {i f : Nat} (hi : i < 65536) (hf : f < 65536) : encE ⟨hdOf i f false 0, [], [], [], []⟩ = .ok (flB i (clear3 f)) := by
  have hs := sound_flags (f := f) hi
  have h : encM ⟨hdOf i f false 0, [], [], [], []⟩ = flB i (clear3 f) := by
    have h1 : encM ⟨hdOf i f false 0, [], [], [], []⟩ = Mt.head ⟨hdOf i f false 0, [], [], [], []⟩ := rfl
    have h2 := head_eq (soundM_iff.1 hs)
    dsimp only at h2
    rw [h1, h2, bits_clear hf]
    rfl
  have hl : (flB i (clear3 f)).length = 12 := by unfold flB; simp [length_digs]
  unfold encE
  rw [if_pos hs, h, if_neg (by omega)]

end Go.Proofs.YtjkjhpaeckkpjaaGreat

namespace Go.Proofs.YtjkjhpaeckkpjaaGreat
open Go.RowKit

theorem zeroCells_toList (z : Value) (hz : z.cells = #[z]) (m : Nat) : (Builtin.zeroCells z.cells m).toList = List.replicate m z := by
  rw [hz]
  refine List.eq_replicate_iff.2 ⟨by simp [Builtin.zeroCells], fun b hb => ?_⟩
  simp only [Builtin.zeroCells, Array.toList_map, List.mem_map] at hb
  obtain ⟨i, _, rfl⟩ := hb
  have h0 : i % (#[z] : Array Value).size = 0 := Nat.mod_one i
  rw [h0]
  rfl

theorem append_zeros_run {P : Program} (w : World) (base : Nat) (t tn ty e : TypeId) (i : TypeInfo) (z : Value) (k kn : IntKind) (ht : P.underlying t = some (.slice e)) (htn : P.underlying tn = some (.int kn)) (hi : P.info? e = some i) (hz : i.zero = some z)
    (hsize : i.size = 1) (hby : i.bytes = 1) (hzs : z.cells = #[z]) (hz1 : z.oneCell' = true) (g n cap : Nat) (xs : List Value) (hown : w.ownsRow base e 1 (.slice (some ⟨g, 0, none⟩) n cap) n xs) (m : Nat) (h0 : 0 < m) (h63 : n + m ≤ 1000000) (hbase : base ≤ w.heap.size) :
    ∃ v' w', (Builtin.append_ #[t, tn] ty #[.slice (some ⟨g, 0, none⟩) n cap, .int k m]).run P w = .ok v' w' ∧ w'.ownsRow base e 1 v' (n + m) (xs ++ List.replicate m z) ∧ w.grownBy w' (some g) := by
  have hw : IntKind.i64.wrap (m : Int) = m := by rw [IntKind.wrap_i64]; omega
  have hneg : ¬ ((m : Int) < 0) := by omega
  have hm0 : m ≠ 0 := by omega
  have h48i : ¬ (281474976710656 < (m : Int)) := by omega
  have hzl := zeroCells_toList z hzs m
  have hsz : (Builtin.zeroCells z.cells m).size = m := by rw [← Array.length_toList, hzl, List.length_replicate]
  have hxl : xs.length = n := by have := hown.1; omega
  rcases hown.2 with ⟨hv, _⟩ | ⟨g', cap', cur, hv, hbg, hg, hnc, hcm, hcs, htake⟩
  · cases hv
  injection hv with hv _ hc
  injection hv with hv
  injection hv with hv
  subst hv
  subst hc
  by_cases hroom : n + m ≤ cap
  · have hfit : n * 1 + (List.replicate m z).length ≤ cur.size := by rw [List.length_replicate, hcs]; omega
    have hst := run_storeCells_at P g (n * 1) e (List.replicate m z) 0 cur w hg (by simpa using hfit) (fun u hu => by rw [(List.mem_replicate.1 hu).2]; exact hz1)
    simp only [Nat.add_zero, Nat.mul_one] at hst
    refine ⟨.slice (some ⟨g, 0, none⟩) (n + m) cap, w.setRow g (cur.toList.take n ++ List.replicate m z ++ cur.toList.drop (n + m)).toArray, ?_, ⟨by simp; omega, .inr ⟨g, cap, _, rfl, hbg, setRow_heap w g cur _ e _ hg, hroom, hcm, ?_, ?_⟩⟩, ⟨rfl, rfl, rfl, by simp, fun j _ hj => setRow_other w g j _ (fun e => hj (by rw [e]))⟩⟩
    · simp [Builtin.append_, run_underlying ht, run_underlying htn, sizeOf, typeInfo, zeroValue, hi, hz, asInt, asIntOf, hw, hneg, hm0, hsize, hby, h48i, hroom, Addr.add_lit, hzl, hst]
    · simp
      omega
    · rw [Nat.mul_one] at htake
      rw [htake]
      have hl2 : (xs ++ List.replicate m z).length = (n + m) * 1 := by simp; omega
      rw [← hl2]
      exact List.take_left
  · have h63' : ¬ (9223372036854775807 < ((n : Int) + (m : Int))) := by omega
    have h48' : ¬ (281474976710656 < Builtin.nextslicecap (n + m) cap) := by
      have := growslice_fits (need := n + m) (old := cap) (bytes := 1) (by omega) (by omega)
      omega
    have holds : ∀ j u, xs[j]? = some u → w.cell? ((⟨g, 0, none⟩ : Addr).add j) = some u := hown.cells (g := g) rfl
    have hfo := run_firstCells_some (P := P) w.drew 1 n ⟨g, 0, none⟩ n cap xs (by omega) (by simpa using holds)
    have hge := grownCap_ge w (n + m) cap e
    have hcm2 : grownCap w (n + m) cap e ≤ maxLen := grownCap_le_maxLen w (n + m) cap e (by unfold maxLen; omega)
    have hxs : (Builtin.zeroCells z.cells (grownCap w (n + m) cap e - (n + m))).size = grownCap w (n + m) cap e - (n + m) := by rw [size_zeroCells, hzs]; simp
    refine ⟨.slice (some ⟨w.heap.size, 0, none⟩) (n + m) (grownCap w (n + m) cap e), w.drew.alloc (.cells (xs.toArray ++ Builtin.zeroCells z.cells m ++ Builtin.zeroCells z.cells (grownCap w (n + m) cap e - (n + m))) e), ?_, ⟨by simp; omega, .inr ⟨w.heap.size, _, _, rfl, hbase, heap_alloc_new w.drew _, hge, hcm2, ?_, ?_⟩⟩, ⟨rfl, rfl, rfl, by simp, fun k hk _ => heap_alloc_old w.drew _ hk⟩⟩
    · simp [Builtin.append_, run_underlying ht, run_underlying htn, sizeOf, typeInfo, zeroValue, hi, hz, asInt, asIntOf, hw, hneg, hm0, hsize, hby, h48i, hroom, h63', h48', Question.forced, hfo, newRow, grownCap]
    · simp only [Array.size_append, List.size_toArray, hsz, hxs, hxl]
      omega
    · simp only [Array.toList_append, List.append_assoc, hzl]
      rw [← List.append_assoc]
      have hl2 : (xs ++ List.replicate m z).length = (n + m) * 1 := by simp; omega
      rw [← hl2]
      exact List.take_left

end Go.Proofs.YtjkjhpaeckkpjaaGreat

namespace Go.Proofs.YtjkjhpaeckkpjaaGreat
open Go.RowKit

theorem DOwn.at_ {w : World} {B : Nat} {m : MV} (h : DOwn w B m) : MAt w w.heap.size m :=
  ⟨⟨Row.of_own h.q.row, fun p hp => Row.of_own (h.q.each p hp)⟩, ⟨Row.of_own h.s0.row, fun p hp => (h.s0.each p hp).at_⟩, ⟨Row.of_own h.s1.row, fun p hp => (h.s1.each p hp).at_⟩, ⟨Row.of_own h.s2.row, fun p hp => (h.s2.each p hp).at_⟩⟩
theorem DOwn.owned {w : World} {B : Nat} {m : MV} (h : DOwn w B m) : OwnedM w m := fun i p hp => by
  have k : ∀ {v : Value} {ps : List (RV × Rt)}, RecRow w B v ps → ∀ p ∈ ps, OwnR w 0 p.1 p.2 := fun hr p hp => ⟨own_mono (hr.each p hp).n (Nat.zero_le _), (hr.each p hp).d.monoB (Nat.zero_le _)⟩
  unfold MV.sec at hp
  split at hp
  · exact k h.s0 p hp
  · split at hp
    · exact k h.s1 p hp
    · exact k h.s2 p hp
theorem cells4 {i f : Nat} (hi : i < 65536) (hf : f < 65536) : ([.int .u8 ((i : Int) / 256), .int .u8 ((i : Int) % 256), .int .u8 ((f : Int) / 256), .int .u8 ((f : Int) % 256)] : List Value) = (digs i 2 ++ digs f 2).map bc := by
  rw [digs2, digs2]
  simp only [List.cons_append, List.nil_append, List.map_cons, List.map_nil, bc, List.cons.injEq, Value.int.injEq, true_and, and_true]
  refine ⟨?_, ?_, ?_, ?_⟩ <;> simp <;> omega

theorem flB_set {i f : Nat} (_ : i < 65536) (_ : f < 65536) : ((flB i f).map bc).set 3 (.int .u8 ((f : Int) % 256 / 128 * 128 + (f : Int) % 16)) = (flB i (clear3 f)).map bc := by
  have h0 : digs 0 2 = [0, 0] := by decide +kernel
  have e1 : clear3 f / 256 = f / 256 := by unfold clear3; omega
  have e2 : ((UInt8.ofNat (clear3 f)).toNat : Int) = (f : Int) % 256 / 128 * 128 + (f : Int) % 16 := by
    simp only [UInt8.toNat_ofNat']
    unfold clear3
    omega
  unfold flB
  rw [digs2, digs2, digs2 (clear3 f), h0, e1]
  simp only [List.cons_append, List.nil_append, List.map_cons, List.map_nil, List.set_cons_succ, List.set_cons_zero]
  unfold bc
  rw [e2]
theorem i64_small {n : Nat} (h : n < 65536) : (Lit.int .i64 ((n : Nat) : Int)).wf = true := by
  have h1 : IntKind.i64.min = -9223372036854775808 := rfl
  have h2 : IntKind.i64.max = 9223372036854775807 := rfl
  simp only [Lit.wf, Bool.and_eq_true, decide_eq_true_eq]
  omega
theorem flag_bit (f n : Nat) : ((f : Int) / (n : Int) % 2 == 1) = decide (f / n % 2 = 1) := by
  have e : (f : Int) / (n : Int) % 2 = ((f / n % 2 : Nat) : Int) := by push_cast; rfl
  rw [e]
  by_cases h : f / n % 2 = 1
  · rw [h]; rfl
  · rw [decide_eq_false h, beq_eq_false_iff_ne]; omega
theorem flag_top {f : Nat} (hf : f < 65536) : ((f : Int) / 32768 == 1) = decide (f / 32768 % 2 = 1) := by
  by_cases h : f / 32768 % 2 = 1
  · rw [decide_eq_true h, beq_iff_eq]; omega
  · rw [decide_eq_false h, beq_eq_false_iff_ne]; omega

end Go.Proofs.YtjkjhpaeckkpjaaGreat

namespace Go.Proofs.YtjkjhpaeckkpjaaGreat
open Go.RowKit

/-- What OwnMsg leaves: a message of its own that reads as the one that was handed in. -/
def OwnMOut (w : World) (m : Mt) (e : Ending) (w' : World) : Prop := ∃ m' : MV, e = .returned m'.val ∧ m'.msg = m ∧ DOwn w' w.heap.size m' ∧ Below w.heap.size w w'
def OwnQRel (w : World) (L : List Value) (qp : List (QV × Qt)) (v i : Value) (wr : World) : Prop :=
  ∃ (j : Nat) (qs : List (QV × Qt)), j ≤ qp.length ∧ i = .int .i64 j ∧ qsts qs = qsts (qp.take j) ∧ qs.length = j ∧ QRow wr (w.heap.size + 2) v qs ∧ Whole wr w.heap.size 25 L ∧ Whole wr (w.heap.size + 1) 25 [.int .i64 0, .bool false, .int .i64 0, .bool false, .bool false, .bool false, .bool false, .int .i64 0, .slice none 0 0, .slice none 0 0, .slice none 0 0, .slice none 0 0, .bool false, .int .i64 0] ∧ Below w.heap.size w wr ∧ w.heap.size + 2 ≤ wr.heap.size

/-- The two messages of OwnMsg, while their slices are laid. -/
structure TwoM (w0 w : World) (L : List Value) : Prop where
  m0 : Whole w w0.heap.size 25 L
  m1 : Whole w (w0.heap.size + 1) 25 [.int .i64 0, .bool false, .int .i64 0, .bool false, .bool false, .bool false, .bool false, .int .i64 0, .slice none 0 0, .slice none 0 0, .slice none 0 0, .slice none 0 0, .bool false, .int .i64 0]
  below : Below w0.heap.size w0 w
  size : w0.heap.size + 2 ≤ w.heap.size
theorem TwoM.frozen {w0 w1 w2 : World} {L : List Value} {v : Value} {qs : List (RV × Rt)} (h : TwoM w0 w1 L) (hr : RowsAt w1 v qs w2) (i : Nat) : w2.frozen? ⟨w0.heap.size, i, none⟩ = false :=
  Whole.frozen (Whole.below h.m0 hr.below (by have := h.size; omega)) i
theorem TwoM.step {w0 w1 w2 : World} {L : List Value} {v : Value} {qs : List (RV × Rt)} (h : TwoM w0 w1 L) (hr : RowsAt w1 v qs w2) (i : Nat) :
    TwoM w0 (w2.setCell ⟨w0.heap.size, i, none⟩ v) (L.set i v) ∧ RecRow (w2.setCell ⟨w0.heap.size, i, none⟩ v) (w0.heap.size + 2) v qs ∧ (∀ j, w0.heap.size + 2 ≤ j → j < w1.heap.size → (w2.setCell ⟨w0.heap.size, i, none⟩ v).heap[j]? = w1.heap[j]?) := by
  have hz := h.size
  have hs (j : Nat) (hj : j ≠ w0.heap.size) : (w2.setCell ⟨w0.heap.size, i, none⟩ v).heap[j]? = w2.heap[j]? := Below.heap_setCell w2 ⟨w0.heap.size, i, none⟩ v j hj
  have hrr : RecRow w2 (w0.heap.size + 2) v qs := ⟨own_mono hr.row hz, fun p hp => ⟨own_mono (hr.each p hp).n hz, (hr.each p hp).d.monoB hz⟩⟩
  refine ⟨⟨(Whole.below h.m0 hr.below (by omega)).set_ i v, (hs _ (by omega)).trans (Whole.below h.m1 hr.below (by omega)), (h.below.trans (hr.below.mono (by omega))).setCell (p := ⟨w0.heap.size, i, none⟩) (Nat.le_refl _) _, ?_⟩, hrr.keep fun j hj _ => hs j (by omega), fun j hj hjw => (hs j (by omega)).trans (hr.below.block j hjw)⟩
  have h1 := hr.size
  have h2 : (w2.setCell ⟨w0.heap.size, i, none⟩ v).heap.size = w2.heap.size := by simp
  omega

set_option maxRecDepth 20000 in
set_option maxHeartbeats 8000000 in
theorem ownMsg_core (w : World) (m : MV) (h : Hd) (qA : Option Addr) (qc : Nat) (qp : List (QV × Qt)) (A0 A1 A2 : Option Addr) (k0 k1 k2 : Nat) (p0 p1 p2 : List (RV × Rt)) (he : m = ⟨h, qA, qc, qp, ⟨A0, k0, p0⟩, ⟨A1, k1, p1⟩, ⟨A2, k2, p2⟩⟩) (hm : MAt w w.heap.size m) (hi : MIn m) (hl : ∀ i, (m.sec i).ps.length ≤ 700) (hql : qp.length ≤ 1000) :
    Calls Tryz.prog 8 #[valM h (.slice qA qp.length qc) (.slice A0 p0.length k0) (.slice A1 p1.length k1) (.slice A2 p2.length k2)] w (OwnMOut w m.msg) := by
  obtain ⟨i0, hi0, hz0, hz1, hz2⟩ := info_parts q_info
  obtain ⟨t0, ht0, hx0, hx1, hx2⟩ := info_parts str_info
  obtain ⟨W, hW⟩ : ∃ W, W = (w.alloc (.cells #[.int .i64 h.id, .bool h.resp, .int .i64 h.op, .bool h.aa, .bool h.tc, .bool h.rd, .bool h.ra, .int .i64 h.rc, .slice qA qp.length qc, (.slice A0 p0.length k0), (.slice A1 p1.length k1), (.slice A2 p2.length k2), .bool h.edns, .int .i64 h.size] 25)).alloc (.cells #[.int .i64 0, .bool false, .int .i64 0, .bool false, .bool false, .bool false, .bool false, .int .i64 0, .slice none 0 0, .slice none 0 0, .slice none 0 0, .slice none 0 0, .bool false, .int .i64 0] 25) := ⟨_, rfl⟩
  have hB : Below w.heap.size w W := by rw [hW]; exact ((Below.refl _ _).alloc (Nat.le_refl _) _).alloc (by simp) _
  have hzW : W.heap.size = w.heap.size + 2 := by rw [hW]; simp
  have hwm : Whole W w.heap.size 25 (cellsM h (.slice qA qp.length qc) (.slice A0 p0.length k0) (.slice A1 p1.length k1) (.slice A2 p2.length k2)) := by rw [hW]; exact (Whole.made w [.int .i64 h.id, .bool h.resp, .int .i64 h.op, .bool h.aa, .bool h.tc, .bool h.rd, .bool h.ra, .int .i64 h.rc, .slice qA qp.length qc, (.slice A0 p0.length k0), (.slice A1 p1.length k1), (.slice A2 p2.length k2), .bool h.edns, .int .i64 h.size] _).alloc _
  have hwr : Whole W (w.heap.size + 1) 25 [.int .i64 0, .bool false, .int .i64 0, .bool false, .bool false, .bool false, .bool false, .int .i64 0, .slice none 0 0, .slice none 0 0, .slice none 0 0, .slice none 0 0, .bool false, .int .i64 0] := by
    rw [hW]
    have h1 := Whole.made (w.alloc (.cells #[.int .i64 h.id, .bool h.resp, .int .i64 h.op, .bool h.aa, .bool h.tc, .bool h.rd, .bool h.ra, .int .i64 h.rc, .slice qA qp.length qc, (.slice A0 p0.length k0), (.slice A1 p1.length k1), (.slice A2 p2.length k2), .bool h.edns, .int .i64 h.size] 25)) [.int .i64 0, .bool false, .int .i64 0, .bool false, .bool false, .bool false, .bool false, .int .i64 0, .slice none 0 0, .slice none 0 0, .slice none 0 0, .slice none 0 0, .bool false, .int .i64 0] 25
    rw [show (w.alloc (.cells #[.int .i64 h.id, .bool h.resp, .int .i64 h.op, .bool h.aa, .bool h.tc, .bool h.rd, .bool h.ra, .int .i64 h.rc, .slice qA qp.length qc, (.slice A0 p0.length k0), (.slice A1 p1.length k1), (.slice A2 p2.length k2), .bool h.edns, .int .i64 h.size] 25)).heap.size = w.heap.size + 1 by simp] at h1
    exact h1
  have HB := Lib.hid hB
  have HWM := Lib.hid hwm
  have HWR := Lib.hid hwr
  have HZW := Lib.hid hzW
  have HM := Lib.hid hm
  have HE := Lib.hid he
  have HQ := Lib.hid (fun W' (hb : Below w.heap.size w W') => (show QsAt W' w.heap.size qA qp by have h2 := hm.q.below hb; rw [he] at h2; exact h2))
  have HQI := Lib.hid (show ∀ p ∈ qp, QIn p.2 by have h2 := hi.q; rw [he] at h2; exact h2)
  have HO0 := Lib.hid (fun W' (hb : Below w.heap.size w W') => ownRRs_rows W' A0 k0 p0 (by have h2 := (hm.s0.below hb).mono hb.size; rw [he] at h2; exact h2) (fun p hp => (hi.r 0 p (by rw [he]; exact hp)).2) (by have h2 := hl 0; rw [he] at h2; exact h2))
  have HO1 := Lib.hid (fun W' (hb : Below w.heap.size w W') => ownRRs_rows W' A1 k1 p1 (by have h2 := (hm.s1.below hb).mono hb.size; rw [he] at h2; exact h2) (fun p hp => (hi.r 1 p (by rw [he]; exact hp)).2) (by have h2 := hl 1; rw [he] at h2; exact h2))
  have HO2 := Lib.hid (fun W' (hb : Below w.heap.size w W') => ownRRs_rows W' A2 k2 p2 (by have h2 := (hm.s2.below hb).mono hb.size; rw [he] at h2; exact h2) (fun p hp => (hi.r 2 p (by rw [he]; exact hp)).2) (by have h2 := hl 2; rw [he] at h2; exact h2))
  clear hB hzW hwm hwr hm hi he hl
  subst hW
  go_enter Tryz.func8, Tryz.ntmps8
  go_wp2
  go_loopw [3, 4] (OwnQRel w (cellsM h (.slice qA qp.length qc) (.slice A0 p0.length k0) (.slice A1 p1.length k1) (.slice A2 p2.length k2)) qp) (fun _ i _ => qp.length - (intOf i).toNat)
  case atStart => exact ⟨0, [], Nat.zero_le _, rfl, rfl, rfl, QRow.nil _ _, HWM.out, HWR.out, HB.out, by rw [HZW.out]; exact Nat.le_refl _⟩
  case round =>
    obtain ⟨j, qs, hj, rfl, hqs, hqj, hq, hw0, hw1, hb, hz⟩ := hrel
    have HQS := Lib.hid hqs
    have HQR := Lib.hid hq
    have HW0 := Lib.hid hw0
    have HW1 := Lib.hid hw1
    have HBR := Lib.hid hb
    obtain ⟨Aq, cq, rfl, _, _⟩ := own_form hq.row
    have d8 : wr.cell? ⟨w.heap.size, 8, none⟩ = some (.slice qA qp.length qc) := Whole.cell hw0 8
    have hqj1 : qs.length ≤ 1000 := by omega
    have HQJ := Lib.hid hqj
    clear hqs hq hw0 hw1 hb hqj
    by_cases hlt : j < qp.length
    · obtain ⟨b, off, rfl, hbH, hqa, q0, q1, q2⟩ := (HQ.out _ HBR.out).at_ hlt
      have hri := HQI.out _ (List.getElem_mem hlt)
      have HF := Lib.hid (qsts_at hlt)
      revert hqa q0 q1 q2 hri HF
      generalize qp[j] = p
      obtain ⟨x, r⟩ := p
      intro hqa q0 q1 q2 hri HF
      dsimp only at *
      have hln := hri.l
      have hnew2 : Below wr.heap.size wr ((wr.alloc (.cells #[.slice x.1 r.name.length x.2, .int .i64 r.kind, .int .i64 r.cls] 46)).alloc (.cells #[] 9)) := ((Below.refl _ _).alloc (Nat.le_refl _) _).alloc (by simp) _
      have HNR := Lib.hid (Row.below hqa (hnew2.mono HBR.out.size))
      have HN2 := Lib.hid hnew2
      have HWP := Lib.hid (show Whole ((wr.alloc (.cells #[.slice x.1 r.name.length x.2, .int .i64 r.kind, .int .i64 r.cls] 46)).alloc (.cells #[] 9)) wr.heap.size 46 [.slice x.1 r.name.length x.2, .int .i64 r.kind, .int .i64 r.cls] from (Whole.made wr _ _).alloc _)
      have HL := Lib.hid (show ((wr.alloc (.cells #[.slice x.1 r.name.length x.2, .int .i64 r.kind, .int .i64 r.cls] 46)).alloc (.cells #[] 9)).ownsRow (wr.heap.size + 1) 9 1 (.slice (some ⟨wr.heap.size + 1, 0, none⟩) 0 0) 0 [] from by
        have h := own_lit (wr.alloc (.cells #[.slice x.1 r.name.length x.2, .int .i64 r.kind, .int .i64 r.cls] 46)) 9 1
        rwa [show (wr.alloc (.cells #[.slice x.1 r.name.length x.2, .int .i64 r.kind, .int .i64 r.cls] 46)).heap.size = wr.heap.size + 1 by simp] at h)
      clear hqa hri hnew2
      go_wp2_with (first
        | (at_builtin
           refine wpList_append_row rfl (.tmp 18) (.tmp 20) _ rfl (wr.heap.size + 1) 9 t0 _ 1 16 Tryz.underlying37 ht0 hx0 hx1 hx2 rfl (by omega) (.slice (some ⟨wr.heap.size + 1, 0, none⟩) 0 0) 0 [] rfl
             HL.out x.1 r.name.length x.2 w.heap.size (r.name.map sv) rfl (by rw [List.length_map, Nat.mul_one]) HNR.out (sv_one _) (by unfold maxLen; omega) (by omega) (by simp) ?_
           intro v2 w2 hown2 hg2
           simp only [Nat.zero_add, List.nil_append] at hown2
           obtain ⟨An, cn, rfl, _, _⟩ := own_form hown2
           have HO2 := Lib.hid hown2
           have HW2 := Lib.hid (HWP.out.grown hg2 (by simp [Value.ownBlock]))
           have HB2 := Lib.hid (show Below wr.heap.size wr w2 from HN2.out.trans ((own_below (Below.refl (wr.heap.size + 1) _) (Nat.le_refl _) (by simp) HL.out hg2).mono (by omega)))
           have t0' : w2.cell? ⟨wr.heap.size, 0, none⟩ = some (.slice x.1 r.name.length x.2) := HW2.out.cell 0
           have f0' : w2.frozen? ⟨wr.heap.size, 0, none⟩ = false := HW2.out.frozen 0
           have t1' : w2.cell? ⟨wr.heap.size, 1, none⟩ = some (.int .i64 r.kind) := HW2.out.cell 1
           have t2' : w2.cell? ⟨wr.heap.size, 2, none⟩ = some (.int .i64 r.cls) := HW2.out.cell 2
           have hzw2 : wr.heap.size < w2.heap.size := HW2.out.lt
           obtain ⟨W3, hW3⟩ : ∃ W3, W3 = (w2.setCell ⟨wr.heap.size, 0, none⟩ (.slice An r.name.length cn)).alloc (.cells #[.slice An r.name.length cn, .int .i64 r.kind, .int .i64 r.cls] 46) := ⟨_, rfl⟩
           have hb3 : Below wr.heap.size wr W3 := by rw [hW3]; exact (HB2.out.setCell (p := ⟨wr.heap.size, 0, none⟩) (Nat.le_refl _) _).alloc (by simp; omega) _
           have hz3 : W3.heap.size = w2.heap.size + 1 := by rw [hW3]; simp
           have HO3 := Lib.hid (show W3.ownsRow (w.heap.size + 2) 9 1 (.slice An r.name.length cn) r.name.length (r.name.map sv) from by
             rw [hW3]
             refine own_mono (own_keep (own_keep HO2.out fun g hg => Below.heap_setCell _ ⟨wr.heap.size, 0, none⟩ _ g (by have := (HO2.out.lt g hg).1; show g ≠ wr.heap.size; omega)) fun g hg => Below.heap_alloc _ _ g (by have := (HO2.out.lt g hg).2; simpa using this)) (by omega))
           have HRB := Lib.hid (show Row W3 W3.heap.size (some ⟨w2.heap.size, 0, none⟩) (cellsQ ((An, cn), r)) from by
             rw [hW3]
             have h1 := Row.made (w2.setCell ⟨wr.heap.size, 0, none⟩ (.slice An r.name.length cn)) #[.slice An r.name.length cn, .int .i64 r.kind, .int .i64 r.cls] 46
             rw [show (w2.setCell ⟨wr.heap.size, 0, none⟩ (.slice An r.name.length cn)).heap.size = w2.heap.size by simp] at h1
             exact h1.mono (by simp))
           have HQ3 := Lib.hid (show QRow W3 (w.heap.size + 2) (.slice Aq qs.length cq) qs from HQR.out.keep fun g _ hg => hb3.block g hg)
           have HB3 := Lib.hid hb3
           have HZ3 := Lib.hid hz3
           clear hb3 hz3
           subst hW3
           clear hown2 hg2)
        | (at_builtin
           refine wpList_append_row rfl (.tmp 23) (.tmp 25) _ rfl (w.heap.size + 2) 46 i0 _ 3 40 Tryz.underlying22 hi0 hz0 hz1 hz2 rfl (by omega) (.slice Aq qs.length cq) qs.length _ rfl HQ3.out.row
             (some ⟨w2.heap.size, 0, none⟩) 1 1 _ (cellsQ ((An, cn), r)) rfl rfl HRB.out (cellsQ_one1 _) (by unfold maxLen; omega) (by omega) (by have := HZ3.out; omega) ?_
           intro v4 w4 hown4 hg4
           obtain ⟨A4, c4, rfl, _, _⟩ := own_form hown4
           have hn0 : (Value.slice Aq qs.length cq).ownBlock ≠ some w.heap.size := fun h => by have := (HQ3.out.row.lt _ h).1; omega
           have hn1 : (Value.slice Aq qs.length cq).ownBlock ≠ some (w.heap.size + 1) := fun h => by have := (HQ3.out.row.lt _ h).1; omega
           have HREL := Lib.hid (show OwnQRel w (cellsM h (.slice (some ⟨b, off, none⟩) qp.length qc) (.slice A0 p0.length k0) (.slice A1 p1.length k1) (.slice A2 p2.length k2)) qp (.slice A4 (qs.length + 1) c4) (.int .i64 ((j + 1 : Nat) : Int)) w4 from
             ⟨j + 1, qs ++ [((An, cn), r)], by omega, rfl, by rw [HF.out, ← HQS.out]; simp [qsts], by rw [List.length_append, HQJ.out]; rfl, HQ3.out.snoc (y := (An, cn)) (q := r) HO3.out hown4 hg4, (Whole.below HW0.out HB3.out (by omega)).grown hg4 (Ne.symm hn0), (Whole.below HW1.out HB3.out (by omega)).grown hg4 (Ne.symm hn1),
               own_below (HBR.out.trans (HB3.out.mono (by omega))) (by omega) (by have := HZ3.out; omega) HQ3.out.row hg4, by have := HZ3.out; have := hg4.size; omega⟩)
           clear hown4 hg4 hn0 hn1))
      all_goals
        have hrl := HREL.out
        rw [show ((j + 1 : Nat) : Int) = (j : Int) + 1 by omega] at hrl
        exact ⟨hrl, by simp [intOf]; omega⟩
    · obtain rfl : j = qp.length := by omega
      have HQX := Lib.hid (show qsts qs = qsts qp from by rw [HQS.out, List.take_length])
      have f8 : wr.frozen? ⟨w.heap.size, 8, none⟩ = false := Whole.frozen HW0.out 8
      obtain ⟨w1, hw1⟩ : ∃ w1, w1 = wr.setCell ⟨w.heap.size, 8, none⟩ (.slice Aq qs.length cq) := ⟨_, rfl⟩
      have hb1 : Below w.heap.size w w1 := by rw [hw1]; exact HBR.out.setCell (p := ⟨w.heap.size, 8, none⟩) (Nat.le_refl _) _
      have hz1' : w.heap.size + 2 ≤ w1.heap.size := by rw [hw1]; simpa using hz
      have hm0 : Whole w1 w.heap.size 25 (cellsM h (.slice Aq qs.length cq) (.slice A0 p0.length k0) (.slice A1 p1.length k1) (.slice A2 p2.length k2)) := by rw [hw1]; exact HW0.out.set_ 8 _
      have hm1 : Whole w1 (w.heap.size + 1) 25 [.int .i64 0, .bool false, .int .i64 0, .bool false, .bool false, .bool false, .bool false, .int .i64 0, .slice none 0 0, .slice none 0 0, .slice none 0 0, .slice none 0 0, .bool false, .int .i64 0] := by rw [hw1]; exact (Below.heap_setCell _ ⟨w.heap.size, 8, none⟩ _ (w.heap.size + 1) (by show w.heap.size + 1 ≠ w.heap.size; omega)).trans HW1.out
      have hq1 : QRow w1 (w.heap.size + 2) (.slice Aq qs.length cq) qs := by rw [hw1]; exact HQR.out.keep fun g hg _ => Below.heap_setCell _ ⟨w.heap.size, 8, none⟩ _ g (by show g ≠ w.heap.size; omega)
      have HT := Lib.hid (show TwoM w w1 _ from ⟨hm0, hm1, hb1, hz1'⟩)
      have HQ1 := Lib.hid hq1
      have c9 : w1.cell? ⟨w.heap.size, 9, none⟩ = some (.slice A0 p0.length k0) := Whole.cell hm0 9
      have HX := Lib.hid (HO0.out _ hb1)
      clear hb1 hm0 hm1 hq1 HQR HW0 HW1 HBR HQS hlt hj hz1' hz
      subst hw1
      go_wp2_with fail
      refine HX.out.mono ?_
      rintro e w2 ⟨B0, d0, qs0, rfl, hr0, hra⟩
      obtain ⟨hT, hR, hK⟩ := HT.out.step hra 9
      have f9 : w2.frozen? ⟨w.heap.size, 9, none⟩ = false := HT.out.frozen hra 9
      have HR0 := Lib.hid hr0
      have HQ2 := Lib.hid (HQ1.out.keep hK)
      have c9' : w2.cell? ⟨w.heap.size, 9, none⟩ = some (.slice A0 p0.length k0) := Whole.cell (Whole.below HT.out.m0 hra.below (by have := HT.out.size; omega)) 9
      have c10' : w2.cell? ⟨w.heap.size, 10, none⟩ = some (.slice A1 p1.length k1) := Whole.cell (Whole.below HT.out.m0 hra.below (by have := HT.out.size; omega)) 10
      have c10 : (w2.setCell ⟨w.heap.size, 9, none⟩ (.slice B0 qs0.length d0)).cell? ⟨w.heap.size, 10, none⟩ = some (.slice A1 p1.length k1) := Whole.cell hT.m0 10
      have HT2 := Lib.hid hT
      have HS2 := Lib.hid hR
      have HX2 := Lib.hid (HO1.out _ hT.below)
      obtain ⟨w3, hw3⟩ : ∃ w3, w3 = w2.setCell ⟨w.heap.size, 9, none⟩ (.slice B0 qs0.length d0) := ⟨_, rfl⟩
      rw [← hw3] at c10 HT2 HS2 HX2 HQ2
      clear hT hR hK hra hr0 HT HQ1 HX HO0 c9 f8
      subst hw3
      go_wp2_with fail
      refine HX2.out.mono ?_
      rintro e w4 ⟨B1, d1, qs1, rfl, hr1, hra⟩
      obtain ⟨hT, hR, hK⟩ := HT2.out.step hra 10
      have f10 : w4.frozen? ⟨w.heap.size, 10, none⟩ = false := HT2.out.frozen hra 10
      have HR1 := Lib.hid hr1
      have HQ3 := Lib.hid (HQ2.out.keep hK)
      have HS3 := Lib.hid (HS2.out.keep hK)
      have HU3 := Lib.hid hR
      have c10'' : w4.cell? ⟨w.heap.size, 10, none⟩ = some (.slice A1 p1.length k1) := Whole.cell (Whole.below HT2.out.m0 hra.below (by have := HT2.out.size; omega)) 10
      have c11' : w4.cell? ⟨w.heap.size, 11, none⟩ = some (.slice A2 p2.length k2) := Whole.cell (Whole.below HT2.out.m0 hra.below (by have := HT2.out.size; omega)) 11
      have c11 : (w4.setCell ⟨w.heap.size, 10, none⟩ (.slice B1 qs1.length d1)).cell? ⟨w.heap.size, 11, none⟩ = some (.slice A2 p2.length k2) := Whole.cell hT.m0 11
      have HT3 := Lib.hid hT
      have HX3 := Lib.hid (HO2.out _ hT.below)
      clear hT hR hK hra hr1 HT2 HQ2 HX2 HS2 HO1 c10 c10' c9' f9
      go_wp2_with fail
      refine HX3.out.mono ?_
      rintro e w6 ⟨B2, d2, qs2, rfl, hr2, hra⟩
      obtain ⟨hT, hR, hK⟩ := HT3.out.step hra 11
      have f11 : w6.frozen? ⟨w.heap.size, 11, none⟩ = false := HT3.out.frozen hra 11
      have HR2 := Lib.hid hr2
      have HQ4 := Lib.hid (HQ3.out.keep hK)
      have HS4 := Lib.hid (HS3.out.keep hK)
      have HU4 := Lib.hid (HU3.out.keep hK)
      have HV4 := Lib.hid hR
      have hm6 : Whole w6 w.heap.size 25 (cellsM h (.slice Aq qs.length cq) (.slice B0 qs0.length d0) (.slice B1 qs1.length d1) (.slice A2 p2.length k2)) := Whole.below HT3.out.m0 hra.below (by have := HT3.out.size; omega)
      have hm0 : Whole (w6.setCell ⟨w.heap.size, 11, none⟩ (.slice B2 qs2.length d2)) w.heap.size 25 (cellsM h (.slice Aq qs.length cq) (.slice B0 qs0.length d0) (.slice B1 qs1.length d1) (.slice B2 qs2.length d2)) := hT.m0
      have HT4 := Lib.hid hT
      clear hT hR hK hra hr2 HT3 HQ3 HX3 HS3 HU3 HO2 c11 c11' c10'' f10
      have e0 : w6.cell? ⟨w.heap.size, 0, none⟩ = some (.int .i64 h.id) := Whole.cell hm6 0
      have e1 : w6.cell? ⟨w.heap.size, 1, none⟩ = some (.bool h.resp) := Whole.cell hm6 1
      have e2 : w6.cell? ⟨w.heap.size, 2, none⟩ = some (.int .i64 h.op) := Whole.cell hm6 2
      have e3 : w6.cell? ⟨w.heap.size, 3, none⟩ = some (.bool h.aa) := Whole.cell hm6 3
      have e4 : w6.cell? ⟨w.heap.size, 4, none⟩ = some (.bool h.tc) := Whole.cell hm6 4
      have e5 : w6.cell? ⟨w.heap.size, 5, none⟩ = some (.bool h.rd) := Whole.cell hm6 5
      have e6 : w6.cell? ⟨w.heap.size, 6, none⟩ = some (.bool h.ra) := Whole.cell hm6 6
      have e7 : w6.cell? ⟨w.heap.size, 7, none⟩ = some (.int .i64 h.rc) := Whole.cell hm6 7
      have e8 : w6.cell? ⟨w.heap.size, 8, none⟩ = some (.slice Aq qs.length cq) := Whole.cell hm6 8
      have e9 : w6.cell? ⟨w.heap.size, 9, none⟩ = some (.slice B0 qs0.length d0) := Whole.cell hm6 9
      have e10 : w6.cell? ⟨w.heap.size, 10, none⟩ = some (.slice B1 qs1.length d1) := Whole.cell hm6 10
      have e11' : w6.cell? ⟨w.heap.size, 11, none⟩ = some (.slice A2 p2.length k2) := Whole.cell hm6 11
      have e11 : (w6.setCell ⟨w.heap.size, 11, none⟩ (.slice B2 qs2.length d2)).cell? ⟨w.heap.size, 11, none⟩ = some (.slice B2 qs2.length d2) := Whole.cell hm0 11
      have e12 : w6.cell? ⟨w.heap.size, 12, none⟩ = some (.bool h.edns) := Whole.cell hm6 12
      have e13 : w6.cell? ⟨w.heap.size, 13, none⟩ = some (.int .i64 h.size) := Whole.cell hm6 13
      clear hm0 hm6
      go_wp2_with (
        refine wpList_storeM (w.heap.size + 1) 2 41 h Aq B0 B1 B2 qs.length cq qs0.length d0 qs1.length d1 qs2.length d2 _ rfl rfl rfl rfl HT4.out.m1 rfl ?_
        intro V hWV hbv hhv hvs
        have v0 : V.cell? ⟨w.heap.size + 1, 0, none⟩ = some (.int .i64 h.id) := Whole.cell hWV 0
        have v1 : V.cell? ⟨w.heap.size + 1, 1, none⟩ = some (.bool h.resp) := Whole.cell hWV 1
        have v2 : V.cell? ⟨w.heap.size + 1, 2, none⟩ = some (.int .i64 h.op) := Whole.cell hWV 2
        have v3 : V.cell? ⟨w.heap.size + 1, 3, none⟩ = some (.bool h.aa) := Whole.cell hWV 3
        have v4 : V.cell? ⟨w.heap.size + 1, 4, none⟩ = some (.bool h.tc) := Whole.cell hWV 4
        have v5 : V.cell? ⟨w.heap.size + 1, 5, none⟩ = some (.bool h.rd) := Whole.cell hWV 5
        have v6 : V.cell? ⟨w.heap.size + 1, 6, none⟩ = some (.bool h.ra) := Whole.cell hWV 6
        have v7 : V.cell? ⟨w.heap.size + 1, 7, none⟩ = some (.int .i64 h.rc) := Whole.cell hWV 7
        have v8 : V.cell? ⟨w.heap.size + 1, 8, none⟩ = some (.slice Aq qs.length cq) := Whole.cell hWV 8
        have v9 : V.cell? ⟨w.heap.size + 1, 9, none⟩ = some (.slice B0 qs0.length d0) := Whole.cell hWV 9
        have v10 : V.cell? ⟨w.heap.size + 1, 10, none⟩ = some (.slice B1 qs1.length d1) := Whole.cell hWV 10
        have v11 : V.cell? ⟨w.heap.size + 1, 11, none⟩ = some (.slice B2 qs2.length d2) := Whole.cell hWV 11
        have v12 : V.cell? ⟨w.heap.size + 1, 12, none⟩ = some (.bool h.edns) := Whole.cell hWV 12
        have v13 : V.cell? ⟨w.heap.size + 1, 13, none⟩ = some (.int .i64 h.size) := Whole.cell hWV 13
        have HBV := Lib.hid (HT4.out.below.trans (hbv.mono (by omega)))
        have HOV := Lib.hid (show DOwn V w.heap.size ⟨h, Aq, cq, qs, ⟨B0, d0, qs0⟩, ⟨B1, d1, qs1⟩, ⟨B2, d2, qs2⟩⟩ from by
          have hk : ∀ j, w.heap.size + 2 ≤ j → j < (w6.setCell ⟨w.heap.size, 11, none⟩ (.slice B2 qs2.length d2)).heap.size → V.heap[j]? = (w6.setCell ⟨w.heap.size, 11, none⟩ (.slice B2 qs2.length d2)).heap[j]? := fun j hj _ => hhv j (by omega)
          have q := HQ4.out.keep hk
          exact ⟨⟨own_mono q.row (by omega), fun x hx => own_mono (q.each x hx) (by omega)⟩, (HS4.out.keep hk).widen (by omega), (HU4.out.keep hk).widen (by omega), (HV4.out.keep hk).widen (by omega)⟩)
        clear hWV hbv hhv hvs)
      refine ⟨rfl, valM h (.slice Aq qs.length cq) (.slice B0 qs0.length d0) (.slice B1 qs1.length d1) (.slice B2 qs2.length d2), ?_, ⟨h, Aq, cq, qs, ⟨B0, d0, qs0⟩, ⟨B1, d1, qs1⟩, ⟨B2, d2, qs2⟩⟩, rfl, ?_, HOV.out, HBV.out⟩
      · simp [results, Tryz.results8, go_sem, v0, v1, v2, v3, v4, v5, v6, v7, v8, v9, v10, v11, v12, v13]
      · rw [HE.out]
        show (⟨h, qsts qs, recs qs0, recs qs1, recs qs2⟩ : Mt) = ⟨h, qsts qp, recs p0, recs p1, recs p2⟩
        rw [HQX.out, HR0.out, HR1.out, HR2.out]
theorem ownMsg_any (w : World) (m : MV) (hm : MAt w w.heap.size m) (hi : MIn m) (hl : ∀ i, (m.sec i).ps.length ≤ 700) : Calls Tryz.prog 8 #[m.val] w (OwnMOut w m.msg) := by
  obtain ⟨h, qA, qc, qp, ⟨A0, k0, p0⟩, ⟨A1, k1, p1⟩, ⟨A2, k2, p2⟩⟩ := m
  exact ownMsg_core w _ h qA qc qp A0 A1 A2 k0 k1 k2 p0 p1 p2 rfl hm hi hl hi.ql

end Go.Proofs.YtjkjhpaeckkpjaaGreat

namespace Go.Proofs.YtjkjhpaeckkpjaaGreat
open Go.RowKit

/-- Has a record few parts, its bytes apart? -/
def fewR (r : Rt) : Bool := decide (r.name.length ≤ 200) && (decide (r.data.host.length ≤ 200) && (decide (r.data.mail.length ≤ 200) && (decide (r.data.texts.length ≤ 100) && decide (r.data.nums.length ≤ 100))))
def sumB (rs : List Rt) : Nat := (rs.map fun r => r.data.bytes.length).sum
def fewQ (q : Qt) : Bool := decide (q.name.length ≤ 200)
def lightM (m : Mt) : Bool := decide (m.all.length ≤ 600) && (decide (m.qs.length ≤ 600) && (m.all.all fewR && (m.qs.all fewQ && decide (sumB m.all < 200000))))
theorem sumB_append (a b : List Rt) : sumB (a ++ b) = sumB a + sumB b := by simp [sumB]
theorem len_le_sumB {rs : List Rt} {r : Rt} (h : r ∈ rs) : r.data.bytes.length ≤ sumB rs := by
  induction rs with
  | nil => exact absurd h (List.not_mem_nil)
  | cons x rs ih =>
    have e : sumB (x :: rs) = x.data.bytes.length + sumB rs := by simp [sumB]
    rcases List.mem_cons.1 h with rfl | h
    · omega
    · have := ih h
      omega
/-- What a light message is. -/
structure LightM (m : Mt) : Prop where
  n : m.all.length ≤ 600
  q : m.qs.length ≤ 600
  r : ∀ r ∈ m.all, LightR r
  k : ∀ q ∈ m.qs, q.name.length ≤ 200
theorem lightM_iff {m : Mt} (h : lightM m = true) : LightM m := by
  unfold lightM at h
  simp only [Bool.and_eq_true, decide_eq_true_eq, List.all_eq_true] at h
  obtain ⟨h0, h1, h2, h3, h4⟩ := h
  refine ⟨h0, h1, fun r hr => ?_, fun q hq => by have := h3 q hq; unfold fewQ at this; simpa using this⟩
  have h5 := h2 r hr
  unfold fewR at h5
  simp only [Bool.and_eq_true, decide_eq_true_eq] at h5
  obtain ⟨e0, e1, e2, e3, e4⟩ := h5
  exact ⟨e0, e1, e2, e3, e4, by have := len_le_sumB hr; omega⟩

theorem sumB_le {M : Nat} : ∀ {rs : List Rt}, (∀ r ∈ rs, r.data.bytes.length ≤ M) → sumB rs ≤ rs.length * M
  | [], _ => Nat.zero_le _
  | r :: rs, h => by
    have h1 := sumB_le (rs := rs) fun x hx => h x (List.mem_cons_of_mem _ hx)
    have h2 := h r (List.mem_cons_self)
    have e : sumB (r :: rs) = r.data.bytes.length + sumB rs := by simp [sumB]
    rw [e, List.length_cons, Nat.succ_mul]
    omega
theorem qsts_step {ps : List (QV × Qt)} {k : Nat} (hk : k < ps.length) : qsts (ps.take (k + 1)) = qsts (ps.take k) ++ [(ps[k]).2] := by
  rw [List.take_succ_eq_append_getElem hk, qsts_append]
  rfl
def SumRelL (W : World) (ps : List (RV × Rt)) (s i : Value) (wr : World) : Prop := ∃ k : Nat, k ≤ ps.length ∧ i = .int .i64 k ∧ s = .int .i64 (sumB (recs (ps.take k)) : Nat) ∧ (recs (ps.take k)).all fewR = true ∧ Below W.heap.size W wr
def FewQRel (w : World) (L : List Value) (qp : List (QV × Qt)) (i : Value) (wr : World) : Prop := ∃ k : Nat, k ≤ qp.length ∧ i = .int .i64 k ∧ (qsts (qp.take k)).all fewQ = true ∧ Whole wr w.heap.size 25 L ∧ Below w.heap.size w wr
def AllRel (w : World) (L : List Value) (ps : List (RV × Rt)) (v : Value) (wx : World) : Prop :=
  ∃ (A : Option Addr) (c : Nat), v = .slice A ps.length c ∧ Row wx wx.heap.size A (ps.flatMap cellsR) ∧ Whole wx w.heap.size 25 L ∧ Below w.heap.size w wx

end Go.Proofs.YtjkjhpaeckkpjaaGreat

namespace Go.Proofs.YtjkjhpaeckkpjaaGreat
open Go.ChangeShapes Go.WideShapes Go.ChangeAt Go.RowKit

theorem bulk_pos {H : Type} (d : DataW H) : 1 ≤ Rows.uptoBulk d := by
  cases d with
  | lit l => cases l <;> simp [Rows.uptoBulk]
  | _ => simp [Rows.uptoBulk]
theorem bulk_len {H : Type} : ∀ l : List (DataW H), l.length ≤ Rows.uptoBulkAll l
  | [] => by simp [Rows.uptoBulkAll]
  | d :: l => by
    have h1 := bulk_len l
    have h2 := bulk_pos d
    simp only [Rows.uptoBulkAll, List.length_cons]
    omega
theorem bulk_in {H : Type} {d : DataW H} : ∀ {l : List (DataW H)}, d ∈ l → Rows.uptoBulk d ≤ Rows.uptoBulkAll l
  | x :: l, h => by
    simp only [Rows.uptoBulkAll]
    rcases List.mem_cons.1 h with rfl | h
    · omega
    · have := bulk_in h
      omega

theorem bytes_bulk {H : Type} {enc : TypeId × Value → H} {W : World} {fuel : Nat} {A : Option Addr} {n c : Nat} {x : DataW H × List MemPlace}
    (h : DataW.trod enc Tryz.prog W 0 (fun _ => true) true fuel 29 [.slice A n c] = some x) : n ≤ Rows.uptoBulk x.1 := by
  rcases Deep.open_slice Tryz.underlying29 h with ⟨hcs, hx⟩ | ⟨a, len', cap', m, k, D, Pl, hcs, _, hl, hm, hmm, hx, hy⟩
  · simp at hcs
    obtain ⟨rfl, rfl, rfl⟩ := hcs
    exact Nat.zero_le _
  · simp at hcs
    obtain ⟨rfl, rfl, rfl⟩ := hcs
    subst hx
    have := bulk_len ((List.range n).map D)
    simp only [Rows.uptoBulk]
    simp only [List.length_map, List.length_range] at this
    omega

set_option maxRecDepth 20000 in
theorem data_bulk {H : Type} {enc : TypeId × Value → H} {W : World} {fuel : Nat} {x : DV} {dd : Dt} {z : DataW H × List MemPlace}
    (h : DataW.trod enc Tryz.prog W 0 (fun _ => true) true fuel 40 (cellsD (x, dd)) = some z) : dd.bytes.length ≤ Rows.uptoBulk z.1 := by
  obtain ⟨xs, k, _, hx, hcl, hxl, hfs⟩ := DataW.trod_struct Tryz.underlying40 h
  have hxl5 : xs.length = 5 := hxl
  subst hx
  match xs, hxl5, hfs with
  | [y0, y1, y2, y3, y4], _, hfs =>
    have g0 := hfs 0 _ rfl
    simp only [List.getElem?_cons_zero] at g0
    have h1 : dd.bytes.length ≤ Rows.uptoBulk y0.1 := bytes_bulk g0
    simp only [Rows.uptoBulk, List.map_cons, Rows.uptoBulkAll]
    omega

set_option maxRecDepth 20000 in
theorem rr_bulk {H : Type} {enc : TypeId × Value → H} {W : World} {fuel : Nat} {x : RV} {r : Rt} {z : DataW H × List MemPlace}
    (h : DataW.trod enc Tryz.prog W 0 (fun _ => true) true fuel 42 (cellsR (x, r)) = some z) : r.data.bytes.length ≤ Rows.uptoBulk z.1 := by
  obtain ⟨xs, k, _, hx, hcl, hxl, hfs⟩ := DataW.trod_struct Tryz.underlying42 h
  have hxl5 : xs.length = 5 := hxl
  subst hx
  match xs, hxl5, hfs with
  | [y0, y1, y2, y3, y4], _, hfs =>
    have g4 := hfs 4 _ rfl
    simp only [List.getElem?_cons_zero, List.getElem?_cons_succ] at g4
    have h1 : r.data.bytes.length ≤ Rows.uptoBulk y4.1 := data_bulk (x := x.d) (dd := r.data) g4
    simp only [Rows.uptoBulk, List.map_cons, Rows.uptoBulkAll]
    omega

set_option maxRecDepth 20000 in
theorem read_question {H : Type} {enc : TypeId × Value → H} {W : World} {fuel : Nat} {cs : List Value} {z : DataW H × List MemPlace}
    (h : DataW.trod enc Tryz.prog W 0 (fun _ => true) true fuel 46 cs = some z) (hlt : ∀ y ∈ z.2, y.block < W.heap.size) :
    ∃ (y : QV) (q : Qt), cs = cellsQ (y, q) ∧ QAt W W.heap.size y q ∧ WideN q.name ∧ (Lit.int .i64 q.kind).wf = true ∧ (Lit.int .i64 q.cls).wf = true ∧ q.name.length ≤ y.2 := by
  obtain ⟨xs, k, _, hx, hcl, hxl, hfs⟩ := DataW.trod_struct Tryz.underlying46 h
  have hp : z.2 = xs.flatMap (·.2) := by simpa using congrArg Prod.snd hx
  have hin : ∀ z ∈ xs, ∀ y ∈ z.2, y.block < W.heap.size := fun z hz y hyz => hlt y (by rw [hp]; exact List.mem_flatMap.2 ⟨z, hz, hyz⟩)
  have hxl3 : xs.length = 3 := hxl
  have hc3 : cs.length = 3 := by rw [quest_cells] at hcl; exact hcl
  clear hx hp h hcl
  match cs, hc3, xs, hxl3, hfs, hin with
  | [c0, c1, c2], _, [y0, y1, y2], _, hfs, hin =>
    have g0 := hfs 0 _ rfl
    have g1 := hfs 1 _ rfl
    have g2 := hfs 2 _ rfl
    simp only [List.getElem?_cons_zero, List.getElem?_cons_succ] at g0 g1 g2
    obtain ⟨An, cn, n, e0, hRn, hn1, hn2, hn3⟩ := read_name str_cells g0 (hin y0 (by simp))
    obtain ⟨z1, e1, _, w1⟩ := DataW.trod_int Tryz.underlying3 g1
    obtain ⟨z2, e2, _, w2⟩ := DataW.trod_int Tryz.underlying3 g2
    cases e1
    cases e2
    subst e0
    exact ⟨(An, cn), ⟨n, z1, z2⟩, rfl, hRn, ⟨hn1, hn2⟩, w1, w2, hn3⟩

set_option maxRecDepth 20000 in
/-- A slice of things that take k cells each, as it is read, with its bulk. -/
theorem read_partsB {α : Type} (f : α → List Value) (k : Nat) (hf : ∀ p, (f p).length = k) (hk : 0 < k) (Q : World → Nat → α → Prop) {H : Type} {enc : TypeId × Value → H} {W : World} {fuel : Nat} {t e : TypeId} {cs0 : List Value} {z : DataW H × List MemPlace} {N : Nat}
    (ht : Tryz.prog.underlying t = some (.slice e)) (hce : Tryz.prog.cellsOf e = k) (hs : ∀ p : α, ∃ u, (f p)[0]? = some u)
    (hr : ∀ (fuel : Nat) (cs : List Value) (z : DataW H × List MemPlace), DataW.trod enc Tryz.prog W 0 (fun _ => true) true fuel e cs = some z → (∀ y ∈ z.2, y.block < W.heap.size) → Rows.uptoBulk z.1 ≤ N → ∃ p, cs = f p ∧ Q W W.heap.size p)
    (hf1 : DataW.trod enc Tryz.prog W 0 (fun _ => true) true fuel t cs0 = some z) (hlt : ∀ x ∈ z.2, x.block < W.heap.size) (hw : Rows.uptoBulk z.1 ≤ N) :
    ∃ (A : Option Addr) (c : Nat) (ps : List α), cs0 = [.slice A ps.length c] ∧ Row W W.heap.size A (ps.flatMap f) ∧ (∀ p ∈ ps, Q W W.heap.size p) ∧ ps.length ≤ c ∧ c ≤ maxLen ∧ ps.length ≤ N := by
  rcases Deep.open_slice ht hf1 with ⟨hcs, hx⟩ | ⟨a, len, cap, m, n, D, Pl, hcs, _, hl, hm, hmm, hx, hy⟩
  · exact ⟨none, 0, [], hcs, Row.empty _ _ _, fun p h => absurd h (List.not_mem_nil), Nat.zero_le _, Nat.zero_le _, Nat.zero_le _⟩
  · simp only [if_true] at hmm
    subst hmm
    subst hx
    subst hcs
    have hwl := bulk_len ((List.range len).map D)
    simp only [Rows.uptoBulk] at hw
    simp only [List.length_map, List.length_range] at hwl
    rw [hce] at hy hlt
    rcases Nat.eq_zero_or_pos len with rfl | hpos
    · exact ⟨some a, m, [], rfl, Row.empty _ _ _, fun p h => absurd h (List.not_mem_nil), Nat.zero_le _, hm, Nat.zero_le _⟩
    have each : ∀ i, i < len → ∃ y : α, (∀ j v, (f y)[j]? = some v → W.cell? (a.add (i * k + j)) = some v) ∧ Q W W.heap.size y := by
      intro i hi
      obtain ⟨cs, hc, hr1⟩ := hy i (by omega)
      obtain ⟨y, rfl, hq⟩ := hr _ _ _ hr1 (fun y hyz => hlt y (List.mem_append_right _ (List.mem_flatMap.2 ⟨i, List.mem_range.2 (by omega), hyz⟩)))
        (by
          have := bulk_in (List.mem_map.2 ⟨i, List.mem_range.2 hi, rfl⟩ : D i ∈ (List.range len).map D)
          show Rows.uptoBulk (D i) ≤ N
          omega)
      obtain ⟨_, _, hat⟩ := World.cells?_some hc
      refine ⟨y, fun j v hj => ?_, hq⟩
      have hjk : j < k := by
        have := (List.getElem?_eq_some_iff.1 hj).1
        rwa [hf] at this
      have := hat j hjk
      rw [hj, addr_add_add] at this
      exact this
    obtain ⟨y0, hy0, _⟩ := each 0 hpos
    obtain ⟨u0, hu0⟩ := hs y0
    obtain ⟨b, off, spot⟩ := a
    have hspot : spot = none := by
      have h := World.cell?_spot (hy0 0 _ hu0)
      simpa [Addr.add] using h
    subst hspot
    haveI : Inhabited α := ⟨y0⟩
    obtain ⟨Y, hY⟩ := Deep.choose_lt each
    have hnl : ((List.range len).map Y).length = len := by simp
    refine ⟨some ⟨b, off, none⟩, m, (List.range len).map Y, by rw [hnl], fun _ => ⟨b, off, rfl, hlt (.cell b off) (List.mem_append_left _ (MemPlace.mem_row.2 ⟨0, Nat.mul_pos (by omega) hk, by simp⟩)), fun j u hu => ?_⟩, fun p hp => ?_, by rw [hnl]; exact hl, hm, by rw [hnl]; omega⟩
    · have hj := (List.getElem?_eq_some_iff.1 hu).1
      rw [length_flat hf, hnl] at hj
      have hq : j / k < len := (Nat.div_lt_iff_lt_mul hk).2 hj
      have hr := Nat.mod_lt j hk
      have e : j = j / k * k + j % k := by rw [Nat.mul_comm]; exact (Nat.div_add_mod j k).symm
      have h1 := (hY (j / k) hq).1 (j % k) u
      rw [e, flat_get hf _ _ _ (by rw [hnl]; exact hq) hr] at hu
      rw [← e, addr_add] at h1
      exact h1 (by simpa using hu)
    · obtain ⟨i, hi, rfl⟩ := List.mem_map.1 hp
      exact (hY i (List.mem_range.1 hi)).2

/-- What is known of a message that came in. -/
structure MSafe (m : MV) : Prop where
  h : HIn m.h
  q : ∀ p ∈ m.qp, WideN p.2.name ∧ (Lit.int .i64 p.2.kind).wf = true ∧ (Lit.int .i64 p.2.cls).wf = true ∧ p.2.name.length ≤ p.1.2
  r : ∀ i, ∀ p ∈ (m.sec i).ps, RIn p.2 ∧ p.2.data.bytes.length ≤ 1048576
  n : m.qp.length ≤ 1048576 ∧ ∀ i, (m.sec i).ps.length ≤ 1048576
  c : m.qp.length ≤ m.qc ∧ m.qc ≤ maxLen ∧ ∀ i, (m.sec i).ps.length ≤ (m.sec i).c ∧ (m.sec i).c ≤ maxLen
theorem sec_all {m : MV} {P : Sec → Prop} (h0 : P m.s0) (h1 : P m.s1) (h2 : P m.s2) (i : Nat) : P (m.sec i) := by
  unfold MV.sec
  split
  · exact h0
  · split
    · exact h1
    · exact h2
theorem mem_all {m : MV} {r : Rt} (h : r ∈ m.msg.all) : ∃ i, ∃ p ∈ (m.sec i).ps, p.2 = r := by
  unfold Mt.all at h
  rcases List.mem_append.1 h with h4 | h4
  · obtain ⟨p, hp, e⟩ := List.mem_map.1 h4
    exact ⟨0, p, hp, e⟩
  · rcases List.mem_append.1 h4 with h4 | h4
    · obtain ⟨p, hp, e⟩ := List.mem_map.1 h4
      exact ⟨1, p, hp, e⟩
    · obtain ⟨p, hp, e⟩ := List.mem_map.1 h4
      exact ⟨2, p, hp, e⟩
theorem in_all {m : MV} {i : Nat} {p : RV × Rt} (h : p ∈ (m.sec i).ps) : p.2 ∈ m.msg.all := by
  unfold MV.sec at h
  unfold Mt.all
  split at h
  · exact List.mem_append_left _ (List.mem_map.2 ⟨p, h, rfl⟩)
  · split at h
    · exact List.mem_append_right _ (List.mem_append_left _ (List.mem_map.2 ⟨p, h, rfl⟩))
    · exact List.mem_append_right _ (List.mem_append_right _ (List.mem_map.2 ⟨p, h, rfl⟩))
theorem all_len (m : MV) : m.msg.all.length = m.s0.ps.length + (m.s1.ps.length + m.s2.ps.length) := by
  show (recs m.s0.ps ++ (recs m.s1.ps ++ recs m.s2.ps)).length = _
  rw [List.length_append, List.length_append, length_recs, length_recs, length_recs]
/-- A light one is small throughout. -/
theorem MSafe.small {m : MV} (h : MSafe m) (hl : LightM m.msg) : MIn m ∧ ∀ i, (m.sec i).ps.length ≤ 700 := by
  have h1 := all_len m
  have h2 := hl.n
  have h3 : ∀ i, (m.sec i).ps.length ≤ 700 := fun i => sec_all (P := fun s => s.ps.length ≤ 700) (by omega) (by omega) (by omega) i
  refine ⟨⟨h.h, fun p hp => ?_, fun i p hp => ⟨(h.r i p hp).1, hl.r _ (in_all hp)⟩, ?_, fun i => by have := h3 i; omega⟩, h3⟩
  · obtain ⟨a, b, c, _⟩ := h.q p hp
    exact ⟨a, b, c, hl.k _ (List.mem_map.2 ⟨p, hp, rfl⟩)⟩
  · have h4 := hl.q
    have h5 : m.msg.qs.length = m.qp.length := length_qsts _
    omega

theorem MIn.same {m m' : MV} (h : m'.msg = m.msg) (hi : MIn m) : MIn m' := by
  unfold MV.msg at h
  injection h with h0 h1 h2 h3 h4
  have hs : ∀ i, recs (m'.sec i).ps = recs (m.sec i).ps := fun i => by
    unfold MV.sec
    split
    · exact h2
    · split
      · exact h3
      · exact h4
  refine ⟨by rw [h0]; exact hi.h, fun p hp => ?_, fun i p hp => ?_, ?_, fun i => ?_⟩
  · have h5 : p.2 ∈ qsts m.qp := by rw [← h1]; exact List.mem_map.2 ⟨p, hp, rfl⟩
    obtain ⟨p', hp', e⟩ := List.mem_map.1 h5
    rw [← e]
    exact hi.q p' hp'
  · have h5 : p.2 ∈ recs (m.sec i).ps := by rw [← hs i]; exact List.mem_map.2 ⟨p, hp, rfl⟩
    obtain ⟨p', hp', e⟩ := List.mem_map.1 h5
    rw [← e]
    exact hi.r i p' hp'
  · rw [← length_qsts, h1, length_qsts]
    exact hi.ql
  · rw [← length_recs, hs i, length_recs]
    exact hi.rl i
/-- A message's cells, one by one. -/
def Cells14 (W : World) (g : Nat) (h : Hd) (vq va vu vx : Value) : Prop :=
  W.cell? ⟨g, 0, none⟩ = some (.int .i64 h.id) ∧ W.cell? ⟨g, 1, none⟩ = some (.bool h.resp) ∧ W.cell? ⟨g, 2, none⟩ = some (.int .i64 h.op) ∧ W.cell? ⟨g, 3, none⟩ = some (.bool h.aa) ∧ W.cell? ⟨g, 4, none⟩ = some (.bool h.tc) ∧ W.cell? ⟨g, 5, none⟩ = some (.bool h.rd) ∧ W.cell? ⟨g, 6, none⟩ = some (.bool h.ra) ∧
    W.cell? ⟨g, 7, none⟩ = some (.int .i64 h.rc) ∧ W.cell? ⟨g, 8, none⟩ = some vq ∧ W.cell? ⟨g, 9, none⟩ = some va ∧ W.cell? ⟨g, 10, none⟩ = some vu ∧ W.cell? ⟨g, 11, none⟩ = some vx ∧ W.cell? ⟨g, 12, none⟩ = some (.bool h.edns) ∧ W.cell? ⟨g, 13, none⟩ = some (.int .i64 h.size)
theorem cells14 {W : World} {g : Nat} {h : Hd} {vq va vu vx : Value} (hw : Whole W g 25 (cellsM h vq va vu vx)) : Cells14 W g h vq va vu vx :=
  ⟨hw.cell 0, hw.cell 1, hw.cell 2, hw.cell 3, hw.cell 4, hw.cell 5, hw.cell 6, hw.cell 7, hw.cell 8, hw.cell 9, hw.cell 10, hw.cell 11, hw.cell 12, hw.cell 13⟩

theorem u16_nat {n : Int} (h : (Lit.int .u16 n).wf = true) : ∃ m : Nat, n = m ∧ m < 65536 := by
  have h1 : IntKind.u16.min = 0 := rfl
  have h2 : IntKind.u16.max = 65535 := rfl
  simp only [Lit.wf, Bool.and_eq_true, decide_eq_true_eq] at h
  exact ⟨n.toNat, by omega, by omega⟩
theorem msg_size : Tryz.prog.cellsOf 25 = 14 := by kernel_rfl

set_option maxRecDepth 20000 in
set_option maxHeartbeats 1000000 in
theorem open_msg {H : Type} {enc : TypeId × Value → H} {W : World} {base : Nat} {v : Value} {d : DataW H} {p : List MemPlace}
    (hval : Value.okWide Tryz.prog W .any base 25 v) (h : DataW.Trod enc Tryz.prog W 0 (fun _ => true) true 25 v d p) (hlt : ∀ x ∈ p, x.block < W.heap.size) (hk : Rows.uptoBulk d ≤ 1048576) :
    ∃ m : MV, v = m.val ∧ MAt W W.heap.size m ∧ MSafe m := by
  unfold Value.okWide at hval
  rw [Tryz.underlying25] at hval
  obtain ⟨cs0, rfl, hsz, _⟩ := hval
  obtain ⟨fuel, hf⟩ := h
  obtain ⟨xs, k, _, hx, hcl, hxl, hfs⟩ := DataW.trod_struct Tryz.underlying25 hf
  obtain ⟨cs⟩ := cs0
  simp only [Value.cells] at hf hcl hfs
  have hp : p = xs.flatMap (·.2) := by simpa using congrArg Prod.snd hx
  have hd : d = .agg (xs.map (·.1)) := by simpa using congrArg Prod.fst hx
  have hin : ∀ z ∈ xs, ∀ y ∈ z.2, y.block < W.heap.size := fun z hz y hyz => hlt y (by rw [hp]; exact List.mem_flatMap.2 ⟨z, hz, hyz⟩)
  have hbk : ∀ z ∈ xs, Rows.uptoBulk z.1 ≤ 1048576 := fun z hz => by
    have h1 := bulk_in (List.mem_map.2 ⟨z, hz, rfl⟩ : z.1 ∈ xs.map (·.1))
    rw [hd] at hk
    simp only [Rows.uptoBulk] at hk
    omega
  have hxl14 : xs.length = 14 := hxl
  have hc14 : cs.length = 14 := by rw [msg_size] at hcl; simpa using hcl
  clear hx hp hf hcl hsz hd hk hlt
  match cs, hc14, xs, hxl14, hfs, hin, hbk with
  | [c0, c1, c2, c3, c4, c5, c6, c7, c8, c9, c10, c11, c12, c13], _, [y0, y1, y2, y3, y4, y5, y6, y7, y8, y9, y10, y11, y12, y13], _, hfs, hin, hbk =>
    have g0 := hfs 0 _ rfl
    have g1 := hfs 1 _ rfl
    have g2 := hfs 2 _ rfl
    have g3 := hfs 3 _ rfl
    have g4 := hfs 4 _ rfl
    have g5 := hfs 5 _ rfl
    have g6 := hfs 6 _ rfl
    have g7 := hfs 7 _ rfl
    have g8 := hfs 8 _ rfl
    have g9 := hfs 9 _ rfl
    have g10 := hfs 10 _ rfl
    have g11 := hfs 11 _ rfl
    have g12 := hfs 12 _ rfl
    have g13 := hfs 13 _ rfl
    simp only [List.getElem?_cons_zero, List.getElem?_cons_succ] at g0 g1 g2 g3 g4 g5 g6 g7 g8 g9 g10 g11 g12 g13
    obtain ⟨z0, e0, _, w0⟩ := DataW.trod_int Tryz.underlying3 g0
    obtain ⟨z1, e1, _⟩ := DataW.trod_bool Tryz.underlying4 g1
    obtain ⟨z2, e2, _, w2⟩ := DataW.trod_int Tryz.underlying3 g2
    obtain ⟨z3, e3, _⟩ := DataW.trod_bool Tryz.underlying4 g3
    obtain ⟨z4, e4, _⟩ := DataW.trod_bool Tryz.underlying4 g4
    obtain ⟨z5, e5, _⟩ := DataW.trod_bool Tryz.underlying4 g5
    obtain ⟨z6, e6, _⟩ := DataW.trod_bool Tryz.underlying4 g6
    obtain ⟨z7, e7, _, w7⟩ := DataW.trod_int Tryz.underlying3 g7
    obtain ⟨z12, e12, _⟩ := DataW.trod_bool Tryz.underlying4 g12
    obtain ⟨z13, e13, _, w13⟩ := DataW.trod_int Tryz.underlying3 g13
    obtain ⟨qA, qc, qp, e8, hq1, hq2, hq3, hq4, hq5⟩ := read_partsB cellsQ 3 cellsQ_len (by omega) (fun W H p => QAt W H p.1 p.2 ∧ WideN p.2.name ∧ (Lit.int .i64 p.2.kind).wf = true ∧ (Lit.int .i64 p.2.cls).wf = true ∧ p.2.name.length ≤ p.1.2) Tryz.underlying22 quest_cells (fun p => ⟨_, rfl⟩)
      (fun fuel cs z hz hlz _ => by
        obtain ⟨x, r, e, h1⟩ := read_question hz hlz
        exact ⟨(x, r), e, h1⟩) g8 (hin y8 (by simp)) (hbk y8 (by simp))
    have hrd : ∀ (fuel : Nat) (cs : List Value) (z : DataW H × List MemPlace), DataW.trod enc Tryz.prog W 0 (fun _ => true) true fuel 42 cs = some z → (∀ y ∈ z.2, y.block < W.heap.size) → Rows.uptoBulk z.1 ≤ 1048576 → ∃ p : RV × Rt, cs = cellsR p ∧ (RAt W W.heap.size p.1 p.2 ∧ RIn p.2 ∧ p.2.data.bytes.length ≤ 1048576) := fun fuel cs z hz hlz hb => by
      obtain ⟨x, r, e, h1, h2⟩ := read_rr hz hlz
      subst e
      exact ⟨(x, r), rfl, h1, h2, Nat.le_trans (rr_bulk hz) hb⟩
    obtain ⟨A0, a0, p0, e9, r01, r02, r03, r04, r05⟩ := read_partsB cellsR 9 cellsR_len (by omega) (fun W H p => RAt W H p.1 p.2 ∧ RIn p.2 ∧ p.2.data.bytes.length ≤ 1048576) Tryz.underlying23 rr_cells (fun p => ⟨_, rfl⟩) hrd g9 (hin y9 (by simp)) (hbk y9 (by simp))
    obtain ⟨A1, a1, p1, e10, r11, r12, r13, r14, r15⟩ := read_partsB cellsR 9 cellsR_len (by omega) (fun W H p => RAt W H p.1 p.2 ∧ RIn p.2 ∧ p.2.data.bytes.length ≤ 1048576) Tryz.underlying23 rr_cells (fun p => ⟨_, rfl⟩) hrd g10 (hin y10 (by simp)) (hbk y10 (by simp))
    obtain ⟨A2, a2, p2, e11, r21, r22, r23, r24, r25⟩ := read_partsB cellsR 9 cellsR_len (by omega) (fun W H p => RAt W H p.1 p.2 ∧ RIn p.2 ∧ p.2.data.bytes.length ≤ 1048576) Tryz.underlying23 rr_cells (fun p => ⟨_, rfl⟩) hrd g11 (hin y11 (by simp)) (hbk y11 (by simp))
    cases e0; cases e1; cases e2; cases e3; cases e4; cases e5; cases e6; cases e7; cases e8; cases e9; cases e10; cases e11; cases e12; cases e13
    refine ⟨⟨⟨z0, z1, z2, z3, z4, z5, z6, z7, z12, z13⟩, qA, qc, qp, ⟨A0, a0, p0⟩, ⟨A1, a1, p1⟩, ⟨A2, a2, p2⟩⟩, rfl, ⟨⟨hq1, fun p hp => (hq2 p hp).1⟩, ⟨r01, fun p hp => (r02 p hp).1⟩, ⟨r11, fun p hp => (r12 p hp).1⟩, ⟨r21, fun p hp => (r22 p hp).1⟩⟩, ⟨⟨w0, w2, w7, w13⟩, fun p hp => (hq2 p hp).2, fun i => ?_, ⟨hq5, fun i => ?_⟩, ⟨hq3, hq4, fun i => ?_⟩⟩⟩
    · exact sec_all (P := fun s => ∀ p ∈ s.ps, RIn p.2 ∧ p.2.data.bytes.length ≤ 1048576) (fun p hp => (r02 p hp).2) (fun p hp => (r12 p hp).2) (fun p hp => (r22 p hp).2) i
    · exact sec_all (P := fun s => s.ps.length ≤ 1048576) r05 r15 r25 i
    · exact sec_all (P := fun s => s.ps.length ≤ s.c ∧ s.c ≤ maxLen) ⟨r03, r04⟩ ⟨r13, r14⟩ ⟨r23, r24⟩ i

end Go.Proofs.YtjkjhpaeckkpjaaGreat

namespace Go.Proofs.YtjkjhpaeckkpjaaGreat
open Go.RowKit

def Sec.upto (s : Sec) (k : Nat) : Sec := ⟨s.A, min k s.ps.length, s.ps.take k⟩
/-- The message with the first n of its records alone. -/
def MV.first (m : MV) (n : Nat) : MV :=
  ⟨{ m.h with tc := m.h.tc || decide (n < m.s0.ps.length + m.s1.ps.length) }, m.qA, m.qc, m.qp, m.s0.upto n, m.s1.upto (n - m.s0.ps.length), m.s2.upto (n - m.s0.ps.length - m.s1.ps.length)⟩
theorem Sec.upto_v (s : Sec) (k : Nat) : (s.upto k).v = .slice s.A (min k s.ps.length) (min k s.ps.length) := by
  show Value.slice s.A (s.ps.take k).length (min k s.ps.length) = _
  rw [List.length_take]
theorem upto_at {w : World} {H : Nat} {s : Sec} (h : RsAt w H s.A s.ps) (k : Nat) : RsAt w H (s.upto k).A (s.upto k).ps := by
  refine ⟨?_, fun p hp => h.2 p (List.mem_of_mem_take hp)⟩
  have h1 := h.1.take (k * 9)
  have e : (s.ps.flatMap cellsR).take (k * 9) = (s.ps.take k).flatMap cellsR := by
    have hsplit : s.ps.flatMap cellsR = (s.ps.take k).flatMap cellsR ++ (s.ps.drop k).flatMap cellsR := by
      rw [← List.flatMap_append, List.take_append_drop]
    rcases Nat.le_total k s.ps.length with h2 | h2
    · have h3 : ((s.ps.take k).flatMap cellsR).length = k * 9 := by rw [length_flat cellsR_len, List.length_take, Nat.min_eq_left h2]
      rw [hsplit, ← h3, List.take_left]
    · rw [List.take_of_length_le h2, List.take_of_length_le (by rw [length_flat cellsR_len]; omega)]
  rwa [e] at h1
theorem first_at {w : World} {H : Nat} {m : MV} (h : MAt w H m) (n : Nat) : MAt w H (m.first n) := ⟨h.q, upto_at h.s0 _, upto_at h.s1 _, upto_at h.s2 _⟩
/-- What is left of n behind j lists. -/
def leftN (n a0 a1 a2 : Nat) : Nat → Nat
  | 0 => n
  | 1 => n - a0
  | 2 => n - a0 - a1
  | _ => n - a0 - a1 - a2
theorem if_min (r l : Nat) : (if l < r then (l : Int) else (r : Int)) = ((min r l : Nat) : Int) := by
  rcases Nat.lt_or_ge l r with h | h
  · rw [if_pos h, Nat.min_eq_right (Nat.le_of_lt h)]
  · rw [if_neg (by omega), Nat.min_eq_left h]
def cutV (A : Option Addr) (len c k : Nat) (done : Bool) : Value := if done = true then .slice A (min k len) (min k len) else .slice A len c
def FirstRel (w : World) (h : Hd) (vq : Value) (A0 A1 A2 : Option Addr) (a0 a1 a2 k0 k1 k2 n : Nat) (vn vi : Value) (wr : World) : Prop :=
  ∃ j : Nat, j ≤ 3 ∧ vi = .int .i64 j ∧ vn = .int .i64 (leftN n a0 a1 a2 j : Nat) ∧
    Whole wr w.heap.size 25 (cellsM h vq (cutV A0 a0 k0 n (decide (0 < j))) (cutV A1 a1 k1 (n - a0) (decide (1 < j))) (cutV A2 a2 k2 (n - a0 - a1) (decide (2 < j)))) ∧
    Whole wr (w.heap.size + 1) 25 [.int .i64 0, .bool false, .int .i64 0, .bool false, .bool false, .bool false, .bool false, .int .i64 0, .slice none 0 0, .slice none 0 0, .slice none 0 0, .slice none 0 0, .bool false, .int .i64 0] ∧
    Whole wr (w.heap.size + 1 + 1) 66 [.pointer (some ⟨w.heap.size, 9, none⟩), .pointer (some ⟨w.heap.size, 10, none⟩), .pointer (some ⟨w.heap.size, 11, none⟩)] ∧ Below w.heap.size w wr

set_option maxRecDepth 20000 in
set_option maxHeartbeats 4000000 in
theorem first_core (w : World) (n : Nat) (h : Hd) (qA : Option Addr) (qc : Nat) (qp : List (QV × Qt)) (A0 A1 A2 : Option Addr) (k0 k1 k2 : Nat) (p0 p1 p2 : List (RV × Rt)) (hn : n ≤ 100000) (l0 : p0.length ≤ 1000) (l1 : p1.length ≤ 1000) (l2 : p2.length ≤ 1000) (c0 : p0.length ≤ k0) (c1 : p1.length ≤ k1) (c2 : p2.length ≤ k2) :
    Calls Tryz.prog 19 #[valM h (.slice qA qp.length qc) (.slice A0 p0.length k0) (.slice A1 p1.length k1) (.slice A2 p2.length k2), .int .i64 n] w
      (Gave w (valM { h with tc := h.tc || decide (n < p0.length + p1.length) } (.slice qA qp.length qc) (.slice A0 (min n p0.length) (min n p0.length)) (.slice A1 (min (n - p0.length) p1.length) (min (n - p0.length) p1.length)) (.slice A2 (min (n - p0.length - p1.length) p2.length) (min (n - p0.length - p1.length) p2.length)))) := by
  obtain ⟨tb, htb⟩ : ∃ tb, decide (n < p0.length + p1.length) = tb := ⟨_, rfl⟩
  have d0 : decide ((n : Int) < (p0.length : Int) + (p1.length : Int)) = tb := by
    rw [← htb]
    by_cases ht : n < p0.length + p1.length
    · rw [decide_eq_true ht, decide_eq_true (by omega)]
    · rw [decide_eq_false ht, decide_eq_false (by omega)]
  rw [htb]
  go_enter Tryz.func19, Tryz.ntmps19
  go_upto_if 16 with fail
  go_cut [] from 17 to 17 (fun wx => wx = (w.alloc (.cells #[.int .i64 h.id, .bool h.resp, .int .i64 h.op, .bool h.aa, .bool (h.tc || tb), .bool h.rd, .bool h.ra, .int .i64 h.rc, .slice qA qp.length qc, .slice A0 p0.length k0, .slice A1 p1.length k1, .slice A2 p2.length k2, .bool h.edns, .int .i64 h.size] 25)).alloc (.cells #[.int .i64 0, .bool false, .int .i64 0, .bool false, .bool false, .bool false, .bool false, .int .i64 0, .slice none 0 0, .slice none 0 0, .slice none 0 0, .slice none 0 0, .bool false, .int .i64 0] 25))
  case first =>
    clear d0 htb
    cases tb with
    | true =>
      go_wp2
      go_meet
      rw [Bool.or_true]
    | false =>
      go_wp2
      go_meet
      rw [Bool.or_false]
  case rest =>
    subst hcut
    clear htb d0
    go_wp2
    go_loopw [1, 23] (FirstRel w { h with tc := h.tc || tb } (.slice qA qp.length qc) A0 A1 A2 p0.length p1.length p2.length k0 k1 k2 n) (fun _ i _ => 3 - (intOf i).toNat)
    case atStart =>
      refine ⟨0, by omega, rfl, rfl, ?_, ?_, ?_, (((Below.refl _ _).alloc (Nat.le_refl _) _).alloc (by simp) _).alloc (by simp; omega) _⟩
      · exact ((Whole.made w (cellsM { h with tc := h.tc || tb } (.slice qA qp.length qc) (.slice A0 p0.length k0) (.slice A1 p1.length k1) (.slice A2 p2.length k2)) _).alloc _).alloc _
      · have h1 := Whole.made (w.alloc (.cells (cellsM { h with tc := h.tc || tb } (.slice qA qp.length qc) (.slice A0 p0.length k0) (.slice A1 p1.length k1) (.slice A2 p2.length k2)).toArray 25)) [.int .i64 0, .bool false, .int .i64 0, .bool false, .bool false, .bool false, .bool false, .int .i64 0, .slice none 0 0, .slice none 0 0, .slice none 0 0, .slice none 0 0, .bool false, .int .i64 0] 25
        rw [show (w.alloc (.cells (cellsM { h with tc := h.tc || tb } (.slice qA qp.length qc) (.slice A0 p0.length k0) (.slice A1 p1.length k1) (.slice A2 p2.length k2)).toArray 25)).heap.size = w.heap.size + 1 by simp] at h1
        exact h1.alloc _
      · have h1 := Whole.made ((w.alloc (.cells (cellsM { h with tc := h.tc || tb } (.slice qA qp.length qc) (.slice A0 p0.length k0) (.slice A1 p1.length k1) (.slice A2 p2.length k2)).toArray 25)).alloc (.cells [.int .i64 0, .bool false, .int .i64 0, .bool false, .bool false, .bool false, .bool false, .int .i64 0, .slice none 0 0, .slice none 0 0, .slice none 0 0, .slice none 0 0, .bool false, .int .i64 0].toArray 25)) [.pointer (some ⟨w.heap.size, 9, none⟩), .pointer (some ⟨w.heap.size, 10, none⟩), .pointer (some ⟨w.heap.size, 11, none⟩)] 66
        rw [show ((w.alloc (.cells (cellsM { h with tc := h.tc || tb } (.slice qA qp.length qc) (.slice A0 p0.length k0) (.slice A1 p1.length k1) (.slice A2 p2.length k2)).toArray 25)).alloc (.cells [.int .i64 0, .bool false, .int .i64 0, .bool false, .bool false, .bool false, .bool false, .int .i64 0, .slice none 0 0, .slice none 0 0, .slice none 0 0, .slice none 0 0, .bool false, .int .i64 0].toArray 25)).heap.size = w.heap.size + 1 + 1 by simp] at h1
        exact h1
    case round =>
    obtain ⟨j, hj, rfl, rfl, hw, hz, hp, hb⟩ := hrel
    have HW := Lib.hid hw
    have HZ := Lib.hid hz
    have HPP := Lib.hid hp
    have HB := Lib.hid hb
    rcases (show j = 0 ∨ j = 1 ∨ j = 2 ∨ j = 3 by omega) with rfl | rfl | rfl | rfl
    case inl =>
      obtain ⟨r, hr⟩ : ∃ r : Nat, r = n := ⟨_, rfl⟩
      rw [show leftN n p0.length p1.length p2.length 0 = r from hr.symm]
      have hrn : r ≤ 100000 := by omega
      have HR := Lib.hid hr
      have q0 : wr.cell? ⟨w.heap.size, 9, none⟩ = some (.slice A0 p0.length k0) := hw.cell 9
      have f0 : wr.frozen? ⟨w.heap.size, 9, none⟩ = false := hw.frozen 9
      have z0 : wr.cell? ⟨w.heap.size + 1 + 1, 0, none⟩ = some (.pointer (some ⟨w.heap.size, 9, none⟩)) := hp.cell 0
      clear hw hz hp hb hr
      go_wp2
      rw [if_min, Int.toNat_natCast]
      refine ⟨⟨1, by omega, rfl, ?_, ?_, ?_, ?_, HB.out.setCell (p := ⟨w.heap.size, 9, none⟩) (Nat.le_refl _) _⟩, by simp [intOf]⟩
      · rw [show leftN n p0.length p1.length p2.length 1 = r - p0.length by rw [HR.out]; rfl]
        congr 1
        omega
      · have h1 := HW.out.set_ 9 (.slice A0 (min r p0.length) (min r p0.length))
        rw [HR.out] at h1 ⊢
        exact h1
      · exact HZ.out.keep (Below.heap_setCell wr ⟨w.heap.size, 9, none⟩ _ _ (by dsimp only; omega))
      · exact HPP.out.keep (Below.heap_setCell wr ⟨w.heap.size, 9, none⟩ _ _ (by dsimp only; omega))
    case inr.inl =>
      obtain ⟨r, hr⟩ : ∃ r : Nat, r = n - p0.length := ⟨_, rfl⟩
      rw [show leftN n p0.length p1.length p2.length 1 = r from hr.symm]
      have hrn : r ≤ 100000 := by omega
      have HR := Lib.hid hr
      have q0 : wr.cell? ⟨w.heap.size, 10, none⟩ = some (.slice A1 p1.length k1) := hw.cell 10
      have f0 : wr.frozen? ⟨w.heap.size, 10, none⟩ = false := hw.frozen 10
      have z0 : wr.cell? ⟨w.heap.size + 1 + 1, 1, none⟩ = some (.pointer (some ⟨w.heap.size, 10, none⟩)) := hp.cell 1
      clear hw hz hp hb hr
      go_wp2
      rw [if_min, Int.toNat_natCast]
      refine ⟨⟨2, by omega, rfl, ?_, ?_, ?_, ?_, HB.out.setCell (p := ⟨w.heap.size, 10, none⟩) (Nat.le_refl _) _⟩, by simp [intOf]⟩
      · rw [show leftN n p0.length p1.length p2.length 2 = r - p1.length by rw [HR.out]; rfl]
        congr 1
        omega
      · have h1 := HW.out.set_ 10 (.slice A1 (min r p1.length) (min r p1.length))
        rw [HR.out] at h1 ⊢
        exact h1
      · exact HZ.out.keep (Below.heap_setCell wr ⟨w.heap.size, 10, none⟩ _ _ (by dsimp only; omega))
      · exact HPP.out.keep (Below.heap_setCell wr ⟨w.heap.size, 10, none⟩ _ _ (by dsimp only; omega))
    case inr.inr.inl =>
      obtain ⟨r, hr⟩ : ∃ r : Nat, r = n - p0.length - p1.length := ⟨_, rfl⟩
      rw [show leftN n p0.length p1.length p2.length 2 = r from hr.symm]
      have hrn : r ≤ 100000 := by omega
      have HR := Lib.hid hr
      have q0 : wr.cell? ⟨w.heap.size, 11, none⟩ = some (.slice A2 p2.length k2) := hw.cell 11
      have f0 : wr.frozen? ⟨w.heap.size, 11, none⟩ = false := hw.frozen 11
      have z0 : wr.cell? ⟨w.heap.size + 1 + 1, 2, none⟩ = some (.pointer (some ⟨w.heap.size, 11, none⟩)) := hp.cell 2
      clear hw hz hp hb hr
      go_wp2
      rw [if_min, Int.toNat_natCast]
      refine ⟨⟨3, by omega, rfl, ?_, ?_, ?_, ?_, HB.out.setCell (p := ⟨w.heap.size, 11, none⟩) (Nat.le_refl _) _⟩, by simp [intOf]⟩
      · rw [show leftN n p0.length p1.length p2.length 3 = r - p2.length by rw [HR.out]; rfl]
        congr 1
        omega
      · have h1 := HW.out.set_ 11 (.slice A2 (min r p2.length) (min r p2.length))
        rw [HR.out] at h1 ⊢
        exact h1
      · exact HZ.out.keep (Below.heap_setCell wr ⟨w.heap.size, 11, none⟩ _ _ (by dsimp only; omega))
      · exact HPP.out.keep (Below.heap_setCell wr ⟨w.heap.size, 11, none⟩ _ _ (by dsimp only; omega))
    case inr.inr.inr =>
      have q0 : wr.cell? ⟨w.heap.size, 0, none⟩ = some (.int .i64 h.id) := hw.cell 0
      have q1 : wr.cell? ⟨w.heap.size, 1, none⟩ = some (.bool h.resp) := hw.cell 1
      have q2 : wr.cell? ⟨w.heap.size, 2, none⟩ = some (.int .i64 h.op) := hw.cell 2
      have q3 : wr.cell? ⟨w.heap.size, 3, none⟩ = some (.bool h.aa) := hw.cell 3
      have q4 : wr.cell? ⟨w.heap.size, 4, none⟩ = some (.bool (h.tc || tb)) := hw.cell 4
      have q5 : wr.cell? ⟨w.heap.size, 5, none⟩ = some (.bool h.rd) := hw.cell 5
      have q6 : wr.cell? ⟨w.heap.size, 6, none⟩ = some (.bool h.ra) := hw.cell 6
      have q7 : wr.cell? ⟨w.heap.size, 7, none⟩ = some (.int .i64 h.rc) := hw.cell 7
      have q8 : wr.cell? ⟨w.heap.size, 8, none⟩ = some (.slice qA qp.length qc) := hw.cell 8
      have q9 : wr.cell? ⟨w.heap.size, 9, none⟩ = some (.slice A0 (min n p0.length) (min n p0.length)) := hw.cell 9
      have q10 : wr.cell? ⟨w.heap.size, 10, none⟩ = some (.slice A1 (min (n - p0.length) p1.length) (min (n - p0.length) p1.length)) := hw.cell 10
      have q11 : wr.cell? ⟨w.heap.size, 11, none⟩ = some (.slice A2 (min (n - p0.length - p1.length) p2.length) (min (n - p0.length - p1.length) p2.length)) := hw.cell 11
      have q12 : wr.cell? ⟨w.heap.size, 12, none⟩ = some (.bool h.edns) := hw.cell 12
      have q13 : wr.cell? ⟨w.heap.size, 13, none⟩ = some (.int .i64 h.size) := hw.cell 13
      clear hw hz hp hb
      go_wp2_with (
        refine wpList_storeM (w.heap.size + 1) 4 45 { h with tc := h.tc || tb } qA A0 A1 A2 qp.length qc (min n p0.length) (min n p0.length) (min (n - p0.length) p1.length) (min (n - p0.length) p1.length) (min (n - p0.length - p1.length) p2.length) (min (n - p0.length - p1.length) p2.length) _ rfl rfl rfl rfl HZ.out rfl ?_
        intro V hWV hbv hhv hvs
        have v0 : V.cell? ⟨w.heap.size + 1, 0, none⟩ = some (.int .i64 h.id) := Whole.cell hWV 0
        have v1 : V.cell? ⟨w.heap.size + 1, 1, none⟩ = some (.bool h.resp) := Whole.cell hWV 1
        have v2 : V.cell? ⟨w.heap.size + 1, 2, none⟩ = some (.int .i64 h.op) := Whole.cell hWV 2
        have v3 : V.cell? ⟨w.heap.size + 1, 3, none⟩ = some (.bool h.aa) := Whole.cell hWV 3
        have v4 : V.cell? ⟨w.heap.size + 1, 4, none⟩ = some (.bool (h.tc || tb)) := Whole.cell hWV 4
        have v5 : V.cell? ⟨w.heap.size + 1, 5, none⟩ = some (.bool h.rd) := Whole.cell hWV 5
        have v6 : V.cell? ⟨w.heap.size + 1, 6, none⟩ = some (.bool h.ra) := Whole.cell hWV 6
        have v7 : V.cell? ⟨w.heap.size + 1, 7, none⟩ = some (.int .i64 h.rc) := Whole.cell hWV 7
        have v8 : V.cell? ⟨w.heap.size + 1, 8, none⟩ = some (.slice qA qp.length qc) := Whole.cell hWV 8
        have v9 : V.cell? ⟨w.heap.size + 1, 9, none⟩ = some (.slice A0 (min n p0.length) (min n p0.length)) := Whole.cell hWV 9
        have v10 : V.cell? ⟨w.heap.size + 1, 10, none⟩ = some (.slice A1 (min (n - p0.length) p1.length) (min (n - p0.length) p1.length)) := Whole.cell hWV 10
        have v11 : V.cell? ⟨w.heap.size + 1, 11, none⟩ = some (.slice A2 (min (n - p0.length - p1.length) p2.length) (min (n - p0.length - p1.length) p2.length)) := Whole.cell hWV 11
        have v12 : V.cell? ⟨w.heap.size + 1, 12, none⟩ = some (.bool h.edns) := Whole.cell hWV 12
        have v13 : V.cell? ⟨w.heap.size + 1, 13, none⟩ = some (.int .i64 h.size) := Whole.cell hWV 13
        have HBV := Lib.hid (HB.out.trans (hbv.mono (Nat.le_succ _)))
        clear hWV hbv hhv hvs)
      refine ⟨rfl, valM { h with tc := h.tc || tb } (.slice qA qp.length qc) (.slice A0 (min n p0.length) (min n p0.length)) (.slice A1 (min (n - p0.length) p1.length) (min (n - p0.length) p1.length)) (.slice A2 (min (n - p0.length - p1.length) p2.length) (min (n - p0.length - p1.length) p2.length)), ?_, rfl, HBV.out⟩
      simp [results, Tryz.results19, go_sem, v0, v1, v2, v3, v4, v5, v6, v7, v8, v9, v10, v11, v12, v13]
theorem first_any (w : World) (m : MV) (n : Nat) (hn : n ≤ 100000) (hl : ∀ i, (m.sec i).ps.length ≤ 1000) (hc : ∀ i, (m.sec i).ps.length ≤ (m.sec i).c) :
    Calls Tryz.prog 19 #[m.val, .int .i64 n] w (Gave w (m.first n).val) := by
  obtain ⟨h, qA, qc, qp, ⟨A0, k0, p0⟩, ⟨A1, k1, p1⟩, ⟨A2, k2, p2⟩⟩ := m
  have h1 := first_core w n h qA qc qp A0 A1 A2 k0 k1 k2 p0 p1 p2 hn (hl 0) (hl 1) (hl 2) (hc 0) (hc 1) (hc 2)
  have e0 := Sec.upto_v ⟨A0, k0, p0⟩ n
  have e1 := Sec.upto_v ⟨A1, k1, p1⟩ (n - p0.length)
  have e2 := Sec.upto_v ⟨A2, k2, p2⟩ (n - p0.length - p1.length)
  unfold MV.first
  dsimp only at e0 e1 e2 ⊢
  unfold MV.val
  dsimp only
  rw [e0, e1, e2]
  exact h1

end Go.Proofs.YtjkjhpaeckkpjaaGreat

namespace Go.Proofs.YtjkjhpaeckkpjaaGreat
open Go.RowKit

/-- r is the first of n places at which f says yes; n, if there is none. -/
structure FirstYes (f : Nat → Bool) (n r : Nat) : Prop where
  le : r ≤ n
  no : ∀ i, i < r → f i = false
  yes : r < n → f r = true
def SearchRel (w : World) (f : Nat → Bool) (n : Nat) (vi vj : Value) (wr : World) : Prop :=
  ∃ i j : Nat, i ≤ j ∧ j ≤ n ∧ vi = .int .i64 i ∧ vj = .int .i64 j ∧ (∀ x, x < i → f x = false) ∧ (j < n → f j = true) ∧ Below w.heap.size w wr

set_option maxRecDepth 20000 in
set_option maxHeartbeats 4000000 in
theorem search_any (w : World) (v1 v2 : Value) (f : Nat → Bool) (n : Nat) (hn : n ≤ 100000) (hf : ∀ (i : Nat) (W' : World), i < n → Below w.heap.size w W' → Calls Tryz.prog 33 #[.int .i64 i, v1, v2] W' (Gave W' (.bool (f i))))
    (hmono : ∀ a b, a ≤ b → b < n → f a = true → f b = true) :
    Calls Tryz.prog 32 #[.int .i64 n, .func (.func 33) #[] #[v1, v2]] w (fun e w' => Below w.heap.size w w' ∧ ∃ r : Nat, e = .returned (.int .i64 r) ∧ FirstYes f n r) := by
  have HF := Lib.hid hf
  have HM := Lib.hid hmono
  clear hf hmono
  go_enter Tryz.func32, Tryz.ntmps32
  go_wp2
  go_loopw [5, 6] (SearchRel w f n) (fun i j _ => (intOf j).toNat - (intOf i).toNat)
  case atStart => exact ⟨0, n, Nat.zero_le _, Nat.le_refl _, rfl, rfl, fun x h => absurd h (Nat.not_lt_zero _), fun h => absurd h (Nat.lt_irrefl _), Below.refl _ _⟩
  case round =>
  obtain ⟨i, j, hij, hjn, rfl, rfl, hno, hyes, hb⟩ := hrel
  have HNO := Lib.hid hno
  have HYES := Lib.hid hyes
  have HB := Lib.hid hb
  clear hno hyes hb
  by_cases hlt : i < j
  · obtain ⟨h, hh⟩ : ∃ h : Nat, h = (i + j) / 2 := ⟨_, rfl⟩
    have hi : i ≤ h := by omega
    have hj : h < j := by omega
    have hc : ((i : Int) + (j : Int)) / 2 = ((h : Nat) : Int) := by omega
    have HH := Lib.hid hh
    clear hh
    go_wp2_with fail
    refine (HF.out h _ (by omega) HB.out).mono ?_
    rintro e w1 ⟨rfl, hb1⟩
    have HB1 := Lib.hid (HB.out.trans (hb1.mono HB.out.size))
    clear hb1 hc
    cases hfh : f h with
    | false =>
      have HN1 := Lib.hid (show ∀ x, x < h + 1 → f x = false from fun x hx => by
        cases hfx : f x with
        | false => rfl
        | true =>
          have h1 := HM.out x h (by omega) (by omega) hfx
          rw [hfh] at h1
          cases h1)
      clear hfh
      go_wp2
      exact ⟨⟨h + 1, j, by omega, hjn, by go_num, rfl, HN1.out, HYES.out, HB1.out⟩, by simp [intOf]; omega⟩
    | true =>
      have HY1 := Lib.hid (show h < n → f h = true from fun _ => hfh)
      clear hfh
      go_wp2
      exact ⟨⟨i, h, hi, by omega, rfl, rfl, HNO.out, HY1.out, HB1.out⟩, by simp [intOf]; omega⟩
  · obtain rfl : i = j := by omega
    go_wp2
    go_ret
    exact ⟨HB.out, i, rfl, hjn, HNO.out, HYES.out⟩

end Go.Proofs.YtjkjhpaeckkpjaaGreat
