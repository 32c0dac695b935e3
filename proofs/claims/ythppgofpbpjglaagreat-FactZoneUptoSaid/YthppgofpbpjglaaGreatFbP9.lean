/-
  The contract of 'lightMsg' of the statements of layer 13.
-/
import Derived.Test.YthppgofpbpjglaaGreatFbP8
import Derived.Test.YthppgofpbpjglaaGreatFbP4
import Derived.Test.YthppgofpbpjglaaGreatFbP1
import Derived.Deep.MidRow
import Derived.Deep.CutRange
import Derived.BigRegion
import Derived.Test.YthppgofpbpjglaaGreatFbP6
import Derived.Test.YthppgofpbpjglaaGreatRows
import Derived.ProofKit
import Derived.SizedLaws
import Derived.Carry
import Derived.SliceStrings
import Derived.Deep.Slices
import Derived.Deep.Grids
import Derived.ChangeArms
import Derived.Test.YthppgofpbpjglaaGreatFbP7
import Derived.Deep.QuietTactic
import Derived.BigQuiet
import Derived.Deep.RegionLaw
import Derived.Deep.AppendLies
import Derived.LaidEqlPtr
namespace Go.Proofs.YthppgofpbpjglaaGreat
open Go.RowKit

def smallR (r : Rt) : Bool := decide (r.name.length ≤ 200) && (decide (r.data.bytes.length ≤ 3000) && (decide (r.data.host.length ≤ 200) && (decide (r.data.mail.length ≤ 200) && (decide (r.data.texts.length ≤ 100) && decide (r.data.nums.length ≤ 100)))))
def lightG (m : Mt) : Bool := m.all.all smallR && (decide (m.all.length ≤ 150) && decide (m.qs.length ≤ 50))
/-- What a light message is. -/
structure LightG (m : Mt) : Prop where
  n : m.all.length ≤ 150
  q : m.qs.length ≤ 50
  r : ∀ r ∈ m.all, LightR r
  b : ∀ r ∈ m.all, r.data.bytes.length ≤ 3000
theorem lightG_iff {m : Mt} (h : lightG m = true) : LightG m := by
  unfold lightG at h
  simp only [Bool.and_eq_true, decide_eq_true_eq, List.all_eq_true] at h
  obtain ⟨h0, h1, h2⟩ := h
  have h3 : ∀ r ∈ m.all, LightR r ∧ r.data.bytes.length ≤ 3000 := fun r hr => by
    have h5 := h0 r hr
    unfold smallR at h5
    simp only [Bool.and_eq_true, decide_eq_true_eq] at h5
    obtain ⟨e0, e1, e2, e3, e4, e5⟩ := h5
    exact ⟨⟨e0, e2, e3, e4, e5, by omega⟩, e1⟩
  exact ⟨h1, h2, fun r hr => (h3 r hr).1, fun r hr => (h3 r hr).2⟩
def SmallRRel (W : World) (ps : List (RV × Rt)) (i : Value) (wr : World) : Prop := ∃ k : Nat, k ≤ ps.length ∧ i = .int .i64 k ∧ (recs (ps.take k)).all smallR = true ∧ Below W.heap.size W wr

set_option maxRecDepth 20000 in
set_option maxHeartbeats 8000000 in
theorem flight_core (w : World) (m : MV) (h : Hd) (qA : Option Addr) (qc : Nat) (qp : List (QV × Qt)) (A0 A1 A2 : Option Addr) (k0 k1 k2 : Nat) (p0 p1 p2 : List (RV × Rt)) (he : m = ⟨h, qA, qc, qp, ⟨A0, k0, p0⟩, ⟨A1, k1, p1⟩, ⟨A2, k2, p2⟩⟩) (hm : MAt w w.heap.size m)
    (hn : (p0.length + p1.length + p2.length) * 168 ≤ 140737488355328) (hq : qp.length ≤ maxLen) :
    Calls Tryz.prog 5 #[valM h (.slice qA qp.length qc) (.slice A0 p0.length k0) (.slice A1 p1.length k1) (.slice A2 p2.length k2)] w (Gave w (.bool (lightG m.msg))) := by
  obtain ⟨i0, hi0, hz0, hz1, hz2⟩ := info_parts rr_info
  obtain ⟨W, hW⟩ : ∃ W, W = w.alloc (.cells #[.int .i64 h.id, .bool h.resp, .int .i64 h.op, .bool h.aa, .bool h.tc, .bool h.rd, .bool h.ra, .int .i64 h.rc, .slice qA qp.length qc, .slice A0 p0.length k0, .slice A1 p1.length k1, .slice A2 p2.length k2, .bool h.edns, .int .i64 h.size] 28) := ⟨_, rfl⟩
  have hB : Below w.heap.size w W := by rw [hW]; exact (Below.refl _ _).alloc (Nat.le_refl _) _
  have hzW : W.heap.size = w.heap.size + 1 := by rw [hW]; simp
  have hwm : Whole W w.heap.size 28 (cellsM h (.slice qA qp.length qc) (.slice A0 p0.length k0) (.slice A1 p1.length k1) (.slice A2 p2.length k2)) := by rw [hW]; exact Whole.made w [.int .i64 h.id, .bool h.resp, .int .i64 h.op, .bool h.aa, .bool h.tc, .bool h.rd, .bool h.ra, .int .i64 h.rc, .slice qA qp.length qc, .slice A0 p0.length k0, .slice A1 p1.length k1, .slice A2 p2.length k2, .bool h.edns, .int .i64 h.size] _
  have hbl : Below W.heap.size W (W.alloc (.cells #[] 46)).drew := ((Below.refl _ _).alloc (Nat.le_refl _) _).drew
  have HL := Lib.hid (show (W.alloc (.cells #[] 46)).drew.ownsRow (w.heap.size + 1) 46 9 (.slice (some ⟨w.heap.size + 1, 0, none⟩) 0 0) 0 [] from by
    have h1 := own_lit W 46 9
    rw [hzW] at h1
    exact own_keep h1 fun _ _ => rfl)
  have HBL := Lib.hid (hB.trans (hbl.mono hB.size))
  have HWL := Lib.hid (hwm.below hbl hwm.lt)
  have hzl : w.heap.size + 1 ≤ (W.alloc (.cells #[] 46)).drew.heap.size := by have := hbl.size; omega
  have HZL := Lib.hid hzl
  have HS0 := Lib.hid (fun W' (hb : Below w.heap.size w W') => (show RsAt W' w.heap.size A0 p0 by have h2 := hm.s0.below hb; rw [he] at h2; exact h2))
  have HS1 := Lib.hid (fun W' (hb : Below w.heap.size w W') => (show RsAt W' w.heap.size A1 p1 by have h2 := hm.s1.below hb; rw [he] at h2; exact h2))
  have HS2 := Lib.hid (fun W' (hb : Below w.heap.size w W') => (show RsAt W' w.heap.size A2 p2 by have h2 := hm.s2.below hb; rw [he] at h2; exact h2))
  have HE := Lib.hid he
  have c9 : (W.alloc (.cells #[] 46)).drew.cell? ⟨w.heap.size, 9, none⟩ = some (.slice A0 p0.length k0) := HWL.out.cell 9
  have c10 : (W.alloc (.cells #[] 46)).drew.cell? ⟨w.heap.size, 10, none⟩ = some (.slice A1 p1.length k1) := HWL.out.cell 10
  have c11 : (W.alloc (.cells #[] 46)).drew.cell? ⟨w.heap.size, 11, none⟩ = some (.slice A2 p2.length k2) := HWL.out.cell 11
  clear hB hwm hbl hm he hzl hzW
  subst hW
  go_enter Tryz.func5, Tryz.ntmps5
  go_upto_region 1 with fail
  go_cut [3] from 6 to 15 (fun s3 wx => AllRel w (cellsM h (.slice qA qp.length qc) (.slice A0 p0.length k0) (.slice A1 p1.length k1) (.slice A2 p2.length k2)) (p0 ++ p1 ++ p2) s3 wx)
  case first =>
   go_region_law (first
     | (refine step_append_any rfl (.tmp 6) (.tmp 8) _ rfl (w.heap.size + 1) 46 i0 _ 9 168 Tryz.underlying26 hi0 hz0 hz1 hz2 rfl (by omega) (.slice (some ⟨w.heap.size + 1, 0, none⟩) 0 0) 0 _ rfl HL.out
          A0 p0.length k0 w.heap.size (p0.flatMap cellsR) rfl (length_flat cellsR_len p0) (HS0.out _ HBL.out).1 (cellsR_one p0) (by unfold maxLen; omega) (by omega) HZL.out ?_
        intro v1 w1 hown1 hg1
        rw [Nat.zero_add, List.nil_append] at hown1
        have HB1 := Lib.hid (own_below HBL.out (Nat.le_succ _) HBL.out.size HL.out hg1)
        have HW1 := Lib.hid (HWL.out.grown hg1 (by simp [Value.ownBlock]))
        have HZ1 := Lib.hid (Nat.le_trans HZL.out hg1.size)
        obtain ⟨B1, d1, rfl, _, _⟩ := own_form hown1
        have HO1 := Lib.hid hown1
        have c10 : w1.cell? ⟨w.heap.size, 10, none⟩ = some (.slice A1 p1.length k1) := HW1.out.cell 10
        have c11 : w1.cell? ⟨w.heap.size, 11, none⟩ = some (.slice A2 p2.length k2) := HW1.out.cell 11
        clear hown1 hg1)
     | (refine step_append_any rfl (.tmp 9) (.tmp 11) _ rfl (w.heap.size + 1) 46 i0 _ 9 168 Tryz.underlying26 hi0 hz0 hz1 hz2 rfl (by omega) (.slice B1 p0.length d1) p0.length _ rfl HO1.out
          A1 p1.length k1 w.heap.size (p1.flatMap cellsR) rfl (length_flat cellsR_len p1) (HS1.out _ HB1.out).1 (cellsR_one p1) (by unfold maxLen; omega) (by omega) HZ1.out ?_
        intro v2 w2 hown2 hg2
        have HB2 := Lib.hid (own_below HB1.out (Nat.le_succ _) HB1.out.size HO1.out hg2)
        have HW2 := Lib.hid (HW1.out.grown hg2 (fun h => by have := (HO1.out.lt _ h.symm).1; omega))
        have HZ2 := Lib.hid (Nat.le_trans HZ1.out hg2.size)
        obtain ⟨B2, d2, rfl, _, _⟩ := own_form hown2
        have HO2 := Lib.hid hown2
        have c11 : w2.cell? ⟨w.heap.size, 11, none⟩ = some (.slice A2 p2.length k2) := HW2.out.cell 11
        clear hown2 hg2)
     | (refine step_append_any rfl (.tmp 12) (.tmp 14) _ rfl (w.heap.size + 1) 46 i0 _ 9 168 Tryz.underlying26 hi0 hz0 hz1 hz2 rfl (by omega) (.slice B2 (p0.length + p1.length) d2) (p0.length + p1.length) _ rfl HO2.out
          A2 p2.length k2 w.heap.size (p2.flatMap cellsR) rfl (length_flat cellsR_len p2) (HS2.out _ HB2.out).1 (cellsR_one p2) (by unfold maxLen; omega) (by omega) HZ2.out ?_
        intro v3 w3 hown3 hg3
        have HB3 := Lib.hid (own_below HB2.out (Nat.le_succ _) HB2.out.size HO2.out hg3)
        have HW3 := Lib.hid (HW2.out.grown hg3 (fun h => by have := (HO2.out.lt _ h.symm).1; omega))
        obtain ⟨B3, d3, rfl, _, _⟩ := own_form hown3
        have HO3 := Lib.hid hown3
        clear hown3 hg3))
   all_goals
    have HRR := Lib.hid (show AllRel w (cellsM h (.slice qA qp.length qc) (.slice A0 p0.length k0) (.slice A1 p1.length k1) (.slice A2 p2.length k2)) (p0 ++ p1 ++ p2) (.slice B3 (p0.length + p1.length + p2.length) d3) w3 from
      ⟨B3, d3, by rw [List.length_append, List.length_append], by rw [List.flatMap_append, List.flatMap_append]; exact Row.of_own HO3.out, HW3.out, HB3.out⟩)
    go_wp2
    go_meet
    exact HRR.out
  case rest =>
    obtain ⟨A, c, rfl, hrow, hw, hb⟩ := hcut
    have HB := Lib.hid hb
    have HW := Lib.hid hw
    have HPS := Lib.hid (show RsAt wc wc.heap.size A (p0 ++ p1 ++ p2) from ⟨hrow, fun p hp => by
      rcases List.mem_append.1 hp with h1 | h1
      · rcases List.mem_append.1 h1 with h1 | h1
        · exact ((HS0.out _ hb).2 p h1).mono hb.size
        · exact ((HS1.out _ hb).2 p h1).mono hb.size
      · exact ((HS2.out _ hb).2 p h1).mono hb.size⟩)
    have HLM := Lib.hid (show lightG m.msg = ((recs (p0 ++ p1 ++ p2)).all smallR && (decide ((p0 ++ p1 ++ p2).length ≤ 150) && decide (qp.length ≤ 50))) from by
      have e1 : m.msg.all = recs (p0 ++ p1 ++ p2) := by rw [HE.out]; show recs p0 ++ (recs p1 ++ recs p2) = _; simp [recs_append]
      have e2 : m.msg.qs = qsts qp := by rw [HE.out]; rfl
      unfold lightG
      rw [e1, e2, length_recs, length_qsts])
    have hlp : (p0 ++ p1 ++ p2).length * 168 ≤ 140737488355328 := by rw [List.length_append, List.length_append]; exact hn
    clear hrow hw hb HS0 HS1 HS2 HBL HWL HZL HL hn
    revert HPS HLM hlp
    generalize p0 ++ p1 ++ p2 = ps
    intro HPS HLM hlp
    unfold maxLen at hq
    go_wp2
    go_loopw [4] (SmallRRel wc ps) (fun i _ => ps.length - (intOf i).toNat)
    case atStart => exact ⟨0, Nat.zero_le _, rfl, rfl, Below.refl _ _⟩
    case round =>
    obtain ⟨k, hk, rfl, hal, hbr⟩ := hrel
    have HAL := Lib.hid hal
    have HBR := Lib.hid hbr
    have HB1 := Lib.hid (HB.out.trans (hbr.mono HB.out.size))
    have hz := hbr.size
    have hzz := HB.out.size
    clear hal hbr
    by_cases hlt : k < ps.length
    · obtain ⟨b, off, rfl, hbH, hra, q0, q1, q2, q3, q4, q5, q6, q7, q8⟩ := (show RsAt wr wc.heap.size A ps from HPS.out.below HBR.out).at_ hlt
      have HF := Lib.hid (show smallR (ps[k]).2 = false → (recs ps).all smallR = false by
        intro h
        rw [List.all_eq_false]
        exact ⟨(ps[k]).2, List.mem_map.2 ⟨ps[k], List.getElem_mem hlt, rfl⟩, by rw [h]; decide⟩)
      have HT := Lib.hid (show smallR (ps[k]).2 = true → (recs (ps.take (k + 1))).all smallR = true by
        intro h
        rw [recs_at hlt, List.all_append, HAL.out]
        simp [h])
      have hld := hra.d
      have hl0 : (ps[k]).2.data.bytes.length ≤ maxLen := Nat.le_trans hld.lb hld.kb
      clear hra hld
      revert hl0 q0 q1 q2 q3 q4 q5 q6 q7 q8 HF HT
      generalize ps[k] = p
      obtain ⟨x, r⟩ := p
      intro q0 q1 q2 q3 q4 q5 q6 q7 q8 HF HT hl0
      dsimp only at *
      unfold maxLen at hl0
      have r0 : (wr.alloc (.cells #[.slice x.d.Ab r.data.bytes.length x.d.cb, .slice x.d.Ah r.data.host.length x.d.ch, .slice x.d.Am r.data.mail.length x.d.cm, .slice x.d.An r.data.nums.length x.d.cn, .slice x.d.At r.data.texts.length x.d.ct] 38)).cell? ⟨b, off + k * 9, none⟩ = some (.slice x.A r.name.length x.c) := (World.cell?_alloc_lt wr _ ⟨b, off + k * 9, none⟩ (by dsimp only; omega)).trans q0
      have HB2 := Lib.hid (HB1.out.alloc (by omega) (.cells #[.slice x.d.Ab r.data.bytes.length x.d.cb, .slice x.d.Ah r.data.host.length x.d.ch, .slice x.d.Am r.data.mail.length x.d.cm, .slice x.d.An r.data.nums.length x.d.cn, .slice x.d.At r.data.texts.length x.d.ct] 38))
      have HBR2 := Lib.hid (HBR.out.alloc hz (.cells #[.slice x.d.Ab r.data.bytes.length x.d.cb, .slice x.d.Ah r.data.host.length x.d.ch, .slice x.d.Am r.data.mail.length x.d.cm, .slice x.d.An r.data.nums.length x.d.cn, .slice x.d.At r.data.texts.length x.d.ct] 38))
      by_cases e1 : r.name.length ≤ 200
      case neg =>
        have d1 : decide ((200 : Int) < (r.name.length : Int)) = true := by simp; omega
        have HX := Lib.hid (HF.out (by unfold smallR; rw [decide_eq_false e1]; simp))
        go_wp2
        go_ret
        exact ⟨by rw [HLM.out, HX.out]; rfl, HB2.out⟩
      have d1 : decide ((200 : Int) < (r.name.length : Int)) = false := by simp; omega
      by_cases e2 : r.data.bytes.length ≤ 3000
      case neg =>
        have d2 : decide ((3000 : Int) < (r.data.bytes.length : Int)) = true := by simp; omega
        have HX := Lib.hid (HF.out (by unfold smallR; rw [decide_eq_false e2]; simp))
        go_wp2
        go_ret
        exact ⟨by rw [HLM.out, HX.out]; rfl, HB2.out⟩
      have d2 : decide ((3000 : Int) < (r.data.bytes.length : Int)) = false := by simp; omega
      by_cases e3 : r.data.host.length ≤ 200
      case neg =>
        have d3 : decide ((200 : Int) < (r.data.host.length : Int)) = true := by simp; omega
        have HX := Lib.hid (HF.out (by unfold smallR; rw [decide_eq_false e3]; simp))
        go_wp2
        go_ret
        exact ⟨by rw [HLM.out, HX.out]; rfl, HB2.out⟩
      have d3 : decide ((200 : Int) < (r.data.host.length : Int)) = false := by simp; omega
      by_cases e4 : r.data.mail.length ≤ 200
      case neg =>
        have d4 : decide ((200 : Int) < (r.data.mail.length : Int)) = true := by simp; omega
        have HX := Lib.hid (HF.out (by unfold smallR; rw [decide_eq_false e4]; simp))
        go_wp2
        go_ret
        exact ⟨by rw [HLM.out, HX.out]; rfl, HB2.out⟩
      have d4 : decide ((200 : Int) < (r.data.mail.length : Int)) = false := by simp; omega
      by_cases e5 : r.data.texts.length ≤ 100
      case neg =>
        have d5 : decide ((100 : Int) < (r.data.texts.length : Int)) = true := by simp; omega
        have HX := Lib.hid (HF.out (by unfold smallR; rw [decide_eq_false e5]; simp))
        go_wp2
        go_ret
        exact ⟨by rw [HLM.out, HX.out]; rfl, HB2.out⟩
      have d5 : decide ((100 : Int) < (r.data.texts.length : Int)) = false := by simp; omega
      by_cases e6 : r.data.nums.length ≤ 100
      case neg =>
        have d6 : decide ((100 : Int) < (r.data.nums.length : Int)) = true := by simp; omega
        have HX := Lib.hid (HF.out (by unfold smallR; rw [decide_eq_false e6]; simp))
        go_wp2
        go_ret
        exact ⟨by rw [HLM.out, HX.out]; rfl, HB2.out⟩
      have d6 : decide ((100 : Int) < (r.data.nums.length : Int)) = false := by simp; omega
      have HX := Lib.hid (HT.out (by unfold smallR; simp [e1, e2, e3, e4, e5, e6]))
      go_wp2
      exact ⟨⟨k + 1, by omega, by go_num, HX.out, HBR2.out⟩, by simp [intOf]; omega⟩
    · obtain rfl : k = ps.length := by omega
      have hal := HAL.out
      rw [List.take_length] at hal
      rw [hal] at HLM
      have hwr : Whole wr w.heap.size 28 (cellsM h (.slice qA qp.length qc) (.slice A0 p0.length k0) (.slice A1 p1.length k1) (.slice A2 p2.length k2)) := HW.out.below HBR.out HW.out.lt
      have c8 : wr.cell? ⟨w.heap.size, 8, none⟩ = some (.slice qA qp.length qc) := Whole.cell hwr 8
      clear hal hwr HAL HPS hlt
      by_cases e7 : ps.length ≤ 150
      case neg =>
        have d7 : decide ((ps.length : Int) ≤ 150) = false := decide_eq_false (by omega)
        rw [decide_eq_false e7] at HLM
        go_wp2
        go_ret
        exact ⟨by rw [HLM.out]; rfl, HB1.out⟩
      have d7 : decide ((ps.length : Int) ≤ 150) = true := decide_eq_true (by omega)
      rw [decide_eq_true e7] at HLM
      by_cases e8 : qp.length ≤ 50
      case neg =>
        have d8 : decide ((qp.length : Int) ≤ 50) = false := decide_eq_false (by omega)
        rw [decide_eq_false e8] at HLM
        go_wp2
        go_ret
        exact ⟨by rw [HLM.out]; rfl, HB1.out⟩
      have d8 : decide ((qp.length : Int) ≤ 50) = true := decide_eq_true (by omega)
      rw [decide_eq_true e8] at HLM
      go_wp2
      go_ret
      exact ⟨by rw [HLM.out]; rfl, HB1.out⟩

theorem flight_any (w : World) (m : MV) (hm : MAt w w.heap.size m) (hn : (m.s0.ps.length + m.s1.ps.length + m.s2.ps.length) * 168 ≤ 140737488355328) (hq : m.qp.length ≤ maxLen) :
    Calls Tryz.prog 5 #[m.val] w (Gave w (.bool (lightG m.msg))) := by
  obtain ⟨h, qA, qc, qp, ⟨A0, k0, p0⟩, ⟨A1, k1, p1⟩, ⟨A2, k2, p2⟩⟩ := m
  exact flight_core w _ h qA qc qp A0 A1 A2 k0 k1 k2 p0 p1 p2 rfl hm hn hq

end Go.Proofs.YthppgofpbpjglaaGreat

namespace Go.Proofs.YthppgofpbpjglaaGreat
open Go.RowKit

/-- May the question q be the one of these? -/
def okQ (q : Qt) (l : List Qt) : Bool := match l with
  | [x] => eqN x.name q.name && (decide (x.kind = q.kind) && decide (x.cls = q.cls))
  | _ => false
/-- May facts come of this response? -/
def fromOk (q : Qt) (m : Mt) (z : List (List UInt8)) (now : Int) : Bool :=
  soundN q.name && (soundN z && (timeB now && (soundM m && (m.h.resp && (decide (m.h.op = 0) && ((decide (m.h.rc = 0) || decide (m.h.rc = 3)) && okQ q m.qs))))))
/-- What is asked of each fact that comes of a response of a server of zone z. -/
structure ToldF (m : Mt) (z : List (List UInt8)) (now : Int) (f : Fc) : Prop where
  s : soundF f = true
  u : underN f.name z = true
  g : f.h.got = now
  n : f.h.knd ≠ 1 → underN f.zone z = true ∧ thereB m.all f.zone 6 f.soa = true
  h : f.h.knd = 1 → ∀ d ∈ f.set, thereB m.all f.name f.h.typ d = true

/-- The first n cells from A on lie in a block of type T, of B or above. -/
def NewT (w : World) (B : Nat) (A : Option Addr) (n : Nat) (T : TypeId) : Prop :=
  0 < n → ∃ b off L, A = some ⟨b, off, none⟩ ∧ B ≤ b ∧ w.heap[b]? = some (.cells L T (0, 0))
theorem NewT.below {w w' : World} {B H : Nat} {A : Option Addr} {n : Nat} {T : TypeId} (h : NewT w B A n T) (hb : Below H w w') (hw : w.heap.size ≤ H) : NewT w' B A n T := fun hn => by
  obtain ⟨b, off, L, e, hB, hh⟩ := h hn
  have hlt : b < w.heap.size := by
    rcases Nat.lt_or_ge b w.heap.size with hl | hl
    · exact hl
    · rw [Array.getElem?_eq_none hl] at hh; cases hh
  exact ⟨b, off, L, e, hB, (hb.block b (by omega)).trans hh⟩
theorem NewT.of_own {w : World} {B : Nat} {T : TypeId} {size n c : Nat} {A : Option Addr} {xs : List Value} (h : w.ownsRow B T size (.slice A n c) n xs) : NewT w B A n T := fun hn => by
  rcases h.2 with ⟨_, h0⟩ | ⟨g, cap, cur, hv, hg, hh, _⟩
  · omega
  · have hA : A = some ⟨g, 0, none⟩ := by injection hv
    exact ⟨g, 0, cur, hA, hg, hh⟩
/-- A fact's memory is new. -/
structure FactT (w : World) (B : Nat) (x : FV) : Prop where
  n : NewT w B x.A x.name.length 9
  s : NewT w B x.sA x.sp.length 38
  b : ∀ p ∈ x.sp, NewT w B p.1.Ab p.2.bytes.length 5
  h : ∀ p ∈ x.sp, NewT w B p.1.Ah p.2.host.length 9
theorem FactT.below {w w' : World} {B H : Nat} {x : FV} (h : FactT w B x) (hb : Below H w w') (hw : w.heap.size ≤ H) : FactT w' B x :=
  ⟨h.n.below hb hw, h.s.below hb hw, fun p hp => (h.b p hp).below hb hw, fun p hp => (h.h p hp).below hb hw⟩

/-- What From answers. -/
def FromOut (w : World) (q : Qt) (m : Mt) (z : List (List UInt8)) (now : Int) (e : Ending) (w' : World) : Prop :=
  ∃ A c xs, e = .returned (.slice A xs.length c) ∧ FsAt w' w'.heap.size A xs ∧ NewT w' w.heap.size A xs.length 40 ∧ (∀ x ∈ xs, FactT w' w.heap.size x) ∧ xs.length ≤ maxLen ∧ (fromOk q m z now = false → xs = []) ∧
    (∀ x ∈ xs, ToldF m z now x.fact) ∧ Below w.heap.size w w'

/-- What the statements ask of the program. -/
structure FactSpec : Prop where
  snd : ∀ (w : World) (x : FV), FAt w w.heap.size x → FIn x → soundF x.fact = true → Calls Tryz.prog 11 #[x.val] w (Gave w (.bool true))
  frm : ∀ (w : World) (y : QV) (q : Qt) (m : MV) (A : Option Addr) (c : Nat) (z : List (List UInt8)) (now : Int), QAt w w.heap.size y q → QIn q → q.name.length ≤ 200 → q.name.length ≤ y.2 → MAt w w.heap.size m → MIn m → LightG m.msg →
    Row w w.heap.size A (z.map sv) → szN z ≤ maxLen → z.length ≤ 200 → z.length ≤ c → (Lit.int .i64 now).wf = true →
    Calls Tryz.prog 6 #[valQ y q, m.val, .slice A z.length c, .int .i64 now] w (FromOut w q m.msg z now)

end Go.Proofs.YthppgofpbpjglaaGreat

namespace Go.Proofs.YthppgofpbpjglaaGreat
open Go.RowKit

theorem sameD_refl (d : Dt) : sameD d d = true := by simp [sameD, eqN]
theorem isB_of {n : List (List UInt8)} {k : Int} {r : Rt} (h : selR n k r = true) : isB n k r.data r = true := by
  unfold selR at h
  unfold isB
  simp only [Bool.and_eq_true] at h ⊢
  exact ⟨h.1, h.2.1, h.2.2, sameD_refl _⟩
theorem stepS_mem {s : List Dt × Int} {r : Rt} {d : Dt} (h : d ∈ (stepS s r).1) : d ∈ s.1 ∨ d = r.data := by
  unfold stepS at h
  dsimp only at h
  split at h
  · exact .inl h
  · rcases List.mem_append.1 h with h | h
    · exact .inl h
    · exact .inr (List.mem_singleton.1 h)
theorem fold_mem {d : Dt} : ∀ (l : List Rt) (s : List Dt × Int), d ∈ (l.foldl stepS s).1 → d ∈ s.1 ∨ ∃ r ∈ l, d = r.data
  | [], _, h => .inl h
  | r :: l, s, h => by
    rcases fold_mem l (stepS s r) h with h1 | ⟨r', h1, h2⟩
    · rcases stepS_mem h1 with h2 | h2
      · exact .inl h2
      · exact .inr ⟨r, List.mem_cons_self, h2⟩
    · exact .inr ⟨r', List.mem_cons_of_mem _ h1, h2⟩
/-- What the set of a name and a type has, one of the records says. -/
theorem setF_mem {rs : List Rt} {n : List (List UInt8)} {k : Int} {d : Dt} (h : d ∈ (setF rs n k).1) : ∃ r ∈ rs, selR n k r = true ∧ r.data = d := by
  unfold setF at h
  rcases fold_mem _ _ h with h1 | ⟨r, h1, h2⟩
  · exact absurd h1 (List.not_mem_nil)
  · obtain ⟨h3, h4⟩ := List.mem_filter.1 h1
    exact ⟨r, h3, h4, h2.symm⟩
theorem setF_there {rs all : List Rt} {n : List (List UInt8)} {k : Int} {d : Dt} (h : d ∈ (setF rs n k).1) (hs : ∀ r ∈ rs, r ∈ all) : thereB all n k d = true := by
  obtain ⟨r, h1, h2, h3⟩ := setF_mem h
  have h4 := isB_of h2
  rw [h3] at h4
  exact thereB_yes (hs r h1) h4
/-- The names may be spelled otherwise. -/
theorem eqN_lowers {a b c : List (List UInt8)} (h1 : eqN a b = true) (h2 : eqN b c = true) : eqN a c = true := by
  unfold eqN at h1 h2 ⊢
  simp only [decide_eq_true_eq] at h1 h2 ⊢
  exact h1.trans h2
theorem thereB_name {rs : List Rt} {n m : List (List UInt8)} {k : Int} {d : Dt} (h : thereB rs n k d = true) (hn : eqN n m = true) : thereB rs m k d = true := by
  obtain ⟨r, h1, h2⟩ := List.any_eq_true.1 h
  refine thereB_yes h1 ?_
  unfold isB at h2 ⊢
  simp only [Bool.and_eq_true] at h2 ⊢
  exact ⟨h2.1, h2.2.1, eqN_lowers h2.2.2.1 hn, h2.2.2.2⟩
theorem an_all {m : Mt} {r : Rt} (h : r ∈ m.an) : r ∈ m.all := List.mem_append_left _ h
theorem au_all {m : Mt} {r : Rt} (h : r ∈ m.au) : r ∈ m.all := List.mem_append_right _ (List.mem_append_left _ h)
theorem ex_all {m : Mt} {r : Rt} (h : r ∈ m.ex) : r ∈ m.all := List.mem_append_right _ (List.mem_append_right _ h)
/-- A record of a sound message is sound. -/
theorem soundM_rec {m : Mt} (h : soundM m = true) {r : Rt} (hr : r ∈ m.all) : SoundR r := by
  unfold soundM at h
  simp only [Bool.and_eq_true] at h
  have h1 := h.2.2.2
  have h2 := List.all_eq_true.1 h1 r hr
  unfold soundX at h2
  rw [Bool.and_eq_true] at h2
  exact soundR_iff.1 h2.2
/-- A fact that has a set of the message. -/
theorem toldF_set {m : Mt} {z : List (List UInt8)} {now : Int} {rs : List Rt} {f : Fc} (hs : soundF f = true) (hu : underN f.name z = true) (hg : f.h.got = now) (hk : f.h.knd = 1) (hsub : ∀ r ∈ rs, r ∈ m.all) (hset : ∀ d ∈ f.set, d ∈ (setF rs f.name f.h.typ).1) : ToldF m z now f :=
  ⟨hs, hu, hg, fun h => absurd hk h, fun _ d hd => setF_there (hset d hd) hsub⟩
/-- A fact that says there is nothing, by a record of the message. -/
theorem toldF_no {m : Mt} {z : List (List UInt8)} {now : Int} {r : Rt} {f : Fc} (hs : soundF f = true) (hu : underN f.name z = true) (hg : f.h.got = now) (hk : f.h.knd ≠ 1) (hr : r ∈ m.all) (h1 : r.cls = 1) (h6 : r.kind = 6) (hz : eqN r.name f.zone = true) (hd : f.soa = r.data) (hzu : underN f.zone z = true) : ToldF m z now f := by
  refine ⟨hs, hu, hg, fun _ => ⟨hzu, thereB_yes hr ?_⟩, fun h => absurd h hk⟩
  unfold isB
  rw [hd, sameD_refl, hz, decide_eq_true h1, decide_eq_true h6]
  rfl

end Go.Proofs.YthppgofpbpjglaaGreat

namespace Go.Proofs.YthppgofpbpjglaaGreat
open Go.RowKit

theorem Whole.range {w : World} {g : Nat} {t : TypeId} {L : List Value} (h : Whole w g t L) {o : Nat} {cs : List Value} (hc : ∀ j v, cs[j]? = some v → L[o + j]? = some v) : w.rangeAt g o cs := fun j v hv => by
  rw [h.cell]; exact hc j v hv
theorem Whole.there {w : World} {g : Nat} {t : TypeId} {L : List Value} (h : Whole w g t L) {o n : Nat} (hn : o + n ≤ L.length) : w.there g o n := fun j hj => by
  refine ⟨?_, h.frozen _⟩
  rw [h.cell, List.getElem?_eq_getElem (by omega)]
  rfl
theorem splice_nil {α : Type} (L : List α) (o : Nat) : splice L o [] = L := by simp [splice]
theorem splice_cons {L : List Value} {o : Nat} {v : Value} {r : List Value} (h : o < L.length) : splice (L.set o v) (o + 1) r = splice L o (v :: r) := by
  unfold splice
  rw [List.take_succ_eq_append_getElem (by simpa using h)]
  simp only [List.getElem_set_self, List.take_set_of_le (Nat.le_refl o), List.length_cons]
  rw [List.drop_set_of_lt (by omega), show o + 1 + r.length = o + (r.length + 1) by omega]
  simp
theorem Whole.setCells {g : Nat} {t : TypeId} : ∀ (vs : List Value) (o : Nat) {w : World} {L : List Value}, Whole w g t L → o + vs.length ≤ L.length → Whole (w.setCells g o vs) g t (splice L o vs)
  | [], o, w, L, h, _ => by rw [splice_nil]; exact h
  | v :: r, o, w, L, h, hl => by
    simp only [List.length_cons] at hl
    have h1 := Whole.setCells r (o + 1) (h.set_ o v) (by simp; omega)
    rw [splice_cons (by omega)] at h1
    exact h1
theorem grew_setCells {F : Nat → Prop} {g : Nat} {w0 : World} : ∀ (vs : List Value) (o : Nat) {w : World}, Grew F w0 w → (F g ∨ w0.heap.size ≤ g) → Grew F w0 (w.setCells g o vs)
  | [], _, _, h, _ => h
  | v :: r, o, _, h, hg => grew_setCells r (o + 1) (h.setCell (a := ⟨g, o, none⟩) hg v) hg
theorem size_setCells {g : Nat} : ∀ (vs : List Value) (o : Nat) (w : World), (w.setCells g o vs).heap.size = w.heap.size
  | [], _, _ => rfl
  | v :: r, o, w => by rw [World.setCells, size_setCells r (o + 1)]; simp
/-- Many cells are stored in a block that is known whole. -/
theorem wpList_store_at {P : Program} {w : World} {ops : Array Oper} {rest : List Oper} {op : Oper} {a : Act} {Q : Exit → Act → World → Prop} (hgd : op.guard = none) (ty : TypeId) (x y : Operand) (ho : op.op = .store ty x y)
    (b o : Nat) (cells : List Value) (hx : a.eval x = .pointer (some ⟨b, o, none⟩)) (hy : a.eval y = .agg cells.toArray) (t : TypeId) (L : List Value) (hw : Whole w b t L) (hfit : o + cells.length ≤ L.length)
    (hi : (P.info? ty).map (·.size) = some cells.length) (h1 : ∀ v ∈ cells, v.oneCell' = true)
    (h : ∀ V, Whole V b t (splice L o cells) → Grew (fun j => j = b) w V → V.heap.size = w.heap.size → wpList P ops Q rest (a.put op.dst undef) V) : wpList P ops Q (op :: rest) a w :=
  wpList_store_mid hgd ty x y ho b o cells.toArray hx hy (by simpa using hw.there hfit) (by simpa using hi) (all_oneCell_toArray h1)
    (h _ (hw.setCells cells o hfit) (grew_setCells cells o (Grew.refl _ _) (.inl rfl)) (size_setCells _ _ _))
theorem wpList_load_at {P : Program} {w : World} {ops : Array Oper} {rest : List Oper} {op : Oper} {a : Act} {Q : Exit → Act → World → Prop} (hgd : op.guard = none) (ty : TypeId) (x : Operand) (ho : op.op = .load ty x)
    (b o : Nat) (hx : a.eval x = .pointer (some ⟨b, o, none⟩)) (cs : List Value) (d : TypeDesc) (hu : P.underlying ty = some d) (hd : d.isRow = true) (hi : (P.info? ty).map (·.size) = some cs.length)
    (t : TypeId) (L : List Value) (hw : Whole w b t L) (hc : ∀ j v, cs[j]? = some v → L[o + j]? = some v)
    (h : wpList P ops Q rest (a.put op.dst (.agg cs.toArray)) w) : wpList P ops Q (op :: rest) a w :=
  wpList_load_mid hgd ty x ho b o hx cs d (hw.range hc) hu hd hi h

/-- A store into a row of the call's own, whatever its elements' size. -/
theorem own_storeG {w : World} {base g : Nat} {e : TypeId} {size n c : Nat} {xs : List Value} (h : w.ownsRow base e size (.slice (some ⟨g, 0, none⟩) n c) n xs) (k : Nat) (u : Value) :
    (w.setCell ⟨g, k, none⟩ u).ownsRow base e size (.slice (some ⟨g, 0, none⟩) n c) n (xs.set k u) := by
  obtain ⟨h1, h2⟩ := h
  refine ⟨by simpa using h1, ?_⟩
  rcases h2 with ⟨hv, _⟩ | ⟨g', cap, cur, hv, hg, hh, h3, h4, h5, h6⟩
  · cases hv
  · injection hv with hv _ hc
    injection hv with hv
    injection hv with hv
    subst hv
    subst hc
    refine .inr ⟨g, c, cur.setIfInBounds k u, rfl, hg, ?_, h3, h4, by simpa using h5, ?_⟩
    · simp [World.setCell, Array.getElem?_modify, hh]
    · rw [← h6]
      simp [List.take_set]
theorem own_setCells {base g : Nat} {e : TypeId} {size n c : Nat} : ∀ (vs : List Value) (o : Nat) {w : World} {xs : List Value}, w.ownsRow base e size (.slice (some ⟨g, 0, none⟩) n c) n xs → o + vs.length ≤ xs.length →
    (w.setCells g o vs).ownsRow base e size (.slice (some ⟨g, 0, none⟩) n c) n (splice xs o vs)
  | [], o, w, L, h, _ => by rw [splice_nil]; exact h
  | v :: r, o, w, L, h, hl => by
    simp only [List.length_cons] at hl
    have h1 := own_setCells r (o + 1) (own_storeG h o v) (by simp; omega)
    rw [splice_cons (by omega)] at h1
    exact h1
theorem own_range {w : World} {base g : Nat} {e : TypeId} {size n c : Nat} {xs : List Value} (h : w.ownsRow base e size (.slice (some ⟨g, 0, none⟩) n c) n xs) {o : Nat} {cs : List Value} (hc : ∀ j v, cs[j]? = some v → xs[o + j]? = some v) : w.rangeAt g o cs := fun j v hv => by
  obtain ⟨h1, h3⟩ := List.getElem?_eq_some_iff.1 (hc j v hv)
  rw [own_cell h h1, h3]
theorem own_there {w : World} {base g : Nat} {e : TypeId} {size n c : Nat} {xs : List Value} (h : w.ownsRow base e size (.slice (some ⟨g, 0, none⟩) n c) n xs) {o k : Nat} (hn : o + k ≤ xs.length) : w.there g o k := fun j hj => by
  refine ⟨?_, own_frozen h _⟩
  rw [own_cell h (by omega)]
  rfl
/-- Many cells are stored in a row of the call's own. -/
theorem wpList_store_own {P : Program} {w : World} {ops : Array Oper} {rest : List Oper} {op : Oper} {a : Act} {Q : Exit → Act → World → Prop} (hgd : op.guard = none) (ty : TypeId) (x y : Operand) (ho : op.op = .store ty x y)
    (b o : Nat) (cells : List Value) (hx : a.eval x = .pointer (some ⟨b, o, none⟩)) (hy : a.eval y = .agg cells.toArray) (base : Nat) (e : TypeId) (size n c : Nat) (L : List Value) (hw : w.ownsRow base e size (.slice (some ⟨b, 0, none⟩) n c) n L) (hfit : o + cells.length ≤ L.length)
    (hi : (P.info? ty).map (·.size) = some cells.length) (h1 : ∀ v ∈ cells, v.oneCell' = true)
    (h : ∀ V, V.ownsRow base e size (.slice (some ⟨b, 0, none⟩) n c) n (splice L o cells) → Grew (fun j => j = b) w V → V.heap.size = w.heap.size → wpList P ops Q rest (a.put op.dst undef) V) : wpList P ops Q (op :: rest) a w :=
  wpList_store_mid hgd ty x y ho b o cells.toArray hx hy (by simpa using own_there hw hfit) (by simpa using hi) (all_oneCell_toArray h1)
    (h _ (own_setCells cells o hw hfit) (grew_setCells cells o (Grew.refl _ _) (.inl rfl)) (size_setCells _ _ _))
theorem wpList_load_own {P : Program} {w : World} {ops : Array Oper} {rest : List Oper} {op : Oper} {a : Act} {Q : Exit → Act → World → Prop} (hgd : op.guard = none) (ty : TypeId) (x : Operand) (ho : op.op = .load ty x)
    (b o : Nat) (hx : a.eval x = .pointer (some ⟨b, o, none⟩)) (cs : List Value) (d : TypeDesc) (hu : P.underlying ty = some d) (hd : d.isRow = true) (hi : (P.info? ty).map (·.size) = some cs.length)
    (base : Nat) (e : TypeId) (size n c : Nat) (L : List Value) (hw : w.ownsRow base e size (.slice (some ⟨b, 0, none⟩) n c) n L) (hc : ∀ j v, cs[j]? = some v → L[o + j]? = some v)
    (h : wpList P ops Q rest (a.put op.dst (.agg cs.toArray)) w) : wpList P ops Q (op :: rest) a w :=
  wpList_load_mid hgd ty x ho b o hx cs d (own_range hw hc) hu hd hi h
/-- Rows of different elements are different blocks. -/
theorem own_not_own {w : World} {base base' : Nat} {e e' : TypeId} {size size' n n' g : Nat} {v v' : Value} {xs xs' : List Value} (h : w.ownsRow base e size v n xs) (h' : w.ownsRow base' e' size' v' n' xs') (ht : e ≠ e') (hg : v'.ownBlock = some g) : v.ownBlock ≠ some g := by
  intro hv
  rcases h'.2 with ⟨rfl, _⟩ | ⟨g', cap, cur, rfl, _, hh, _⟩
  · cases hg
  · simp [Value.ownBlock] at hg
    subst hg
    rcases h.2 with ⟨rfl, _⟩ | ⟨g', cap, cur, rfl, _, hh', _⟩
    · cases hv
    · simp [Value.ownBlock] at hv
      subst hv
      rw [hh] at hh'
      simp at hh'
      exact ht hh'.2.symm

end Go.Proofs.YthppgofpbpjglaaGreat

namespace Go.Proofs.YthppgofpbpjglaaGreat
open Go.RowKit

theorem wp_store_one {P : Program} {w : World} {op : Oper} {a : Act} {K : Act → World → Prop} {Q : Exit → Act → World → Prop} (ty : TypeId) (x y : Operand) (ho : op.op = .store ty x y)
    (b o : Nat) (v : Value) (hx : a.eval x = .pointer (some ⟨b, o, none⟩)) (hy : a.eval y = v) (hv : v.oneCell' = true) (hi : (P.info? ty).map (·.size) = some 1) (t : TypeId) (L : List Value) (hw : Whole w b t L) (u : Value) (hL : L[o]? = some u)
    (h : ∀ V, Whole V b t (L.set o v) → Grew (fun j => j = b) w V → V.heap.size = w.heap.size → K (a.put op.dst undef) V) : Oper.wp P op a w K Q := by
  have hc : w.cell? ⟨b, o, none⟩ = some u := by rw [hw.cell]; exact hL
  have hf : w.frozen? ⟨b, o, none⟩ = false := hw.frozen o
  obtain ⟨i, hi1, hi2⟩ := Option.map_eq_some_iff.1 hi
  have hvc : v.cells = #[v] := by
    cases v <;> first | rfl | (simp [Value.oneCell'] at hv)
  have hst : (storeVar ty ⟨b, o, none⟩ v).run P w = .ok () (w.setCell ⟨b, o, none⟩ v) := by
    have h1 := run_storeCells_cells (P := P) b o [v] 0 w (fun j hj => by
      have : j = 0 := by simpa using hj
      subst this
      rw [show (⟨b, o + (0 + 0), none⟩ : Addr) = ⟨b, o, none⟩ from rfl, hc]; rfl) (fun j hj => by
      have : j = 0 := by simpa using hj
      subst this
      exact hf) (fun x hx => by rw [List.mem_singleton.1 hx]; exact hv)
    simp only [Nat.add_zero] at h1
    simp [storeVar, sizeOf, typeInfo, hi1, hi2, hvc, h1, World.setCells]
  unfold Oper.wp execOp
  simp only [ho, hx, hy, Instr.storeAt, Instr.sureAddr, Sem.run_bind, Sem.run_pure, Result.andThen_ok, hst]
  exact h _ (hw.set_ o v) (Grew.setCell (F := fun j => j = b) (Grew.refl _ w) (a := ⟨b, o, none⟩) (.inl rfl) v) (by simp)

theorem wpList_store_one {P : Program} {w : World} {ops : Array Oper} {rest : List Oper} {op : Oper} {a : Act} {Q : Exit → Act → World → Prop} (hgd : op.guard = none) (ty : TypeId) (x y : Operand) (ho : op.op = .store ty x y)
    (b o : Nat) (v : Value) (hx : a.eval x = .pointer (some ⟨b, o, none⟩)) (hy : a.eval y = v) (hv : v.oneCell' = true) (hi : (P.info? ty).map (·.size) = some 1) (t : TypeId) (L : List Value) (hw : Whole w b t L) (u : Value) (hL : L[o]? = some u)
    (h : ∀ V, Whole V b t (L.set o v) → Grew (fun j => j = b) w V → V.heap.size = w.heap.size → wpList P ops Q rest (a.put op.dst undef) V) : wpList P ops Q (op :: rest) a w :=
  wpList_plain hgd fun _ hK => wp_store_one ty x y ho b o v hx hy hv hi t L hw u hL fun V h1 h2 h3 => hK _ _ (h V h1 h2 h3)

end Go.Proofs.YthppgofpbpjglaaGreat

namespace Go.Proofs.YthppgofpbpjglaaGreat
open Go.RowKit

/-- A fact of one's own. -/
structure FOwn (w : World) (B : Nat) (x : FV) : Prop where
  n : w.ownsRow B 9 1 (.slice x.A x.name.length x.c) x.name.length (x.name.map sv)
  z : w.ownsRow B 9 1 (.slice x.zA x.zone.length x.zc) x.zone.length (x.zone.map sv)
  d : OwnD w B x.d x.soa
  s : w.ownsRow B 38 5 (.slice x.sA x.sp.length x.sc) x.sp.length (x.sp.flatMap cellsD)
  e : ∀ p ∈ x.sp, OwnD w B p.1 p.2
theorem FOwn.at_ {w : World} {B : Nat} {x : FV} (h : FOwn w B x) : FAt w w.heap.size x :=
  ⟨Row.of_own h.n, ⟨Row.of_own h.s, fun p hp => (h.e p hp).at_⟩, Row.of_own h.z, h.d.at_, own_cap h.n, own_cap h.z, own_cap h.s, own_capZ h.s⟩
theorem FOwn.monoB {w : World} {B B' : Nat} {x : FV} (h : FOwn w B x) (hb : B' ≤ B) : FOwn w B' x := ⟨own_mono h.n hb, own_mono h.z hb, h.d.monoB hb, own_mono h.s hb, fun p hp => (h.e p hp).monoB hb⟩
/-- What holds of blocks from B on is kept where these are. -/
theorem OwnD.keepB {w w' : World} {B : Nat} {x : DV} {d : Dt} (h : OwnD w B x d) (hk : ∀ g, B ≤ g → g < w.heap.size → w'.heap[g]? = w.heap[g]?) : OwnD w' B x d :=
  ⟨own_keep h.b fun g e => hk g (h.b.lt g e).1 (h.b.lt g e).2, own_keep h.h fun g e => hk g (h.h.lt g e).1 (h.h.lt g e).2, own_keep h.m fun g e => hk g (h.m.lt g e).1 (h.m.lt g e).2, own_keep h.n fun g e => hk g (h.n.lt g e).1 (h.n.lt g e).2, own_keep h.t fun g e => hk g (h.t.lt g e).1 (h.t.lt g e).2⟩
theorem FOwn.keepB {w w' : World} {B : Nat} {x : FV} (h : FOwn w B x) (hk : ∀ g, B ≤ g → g < w.heap.size → w'.heap[g]? = w.heap[g]?) : FOwn w' B x :=
  ⟨own_keep h.n fun g e => hk g (h.n.lt g e).1 (h.n.lt g e).2, own_keep h.z fun g e => hk g (h.z.lt g e).1 (h.z.lt g e).2, h.d.keepB hk, own_keep h.s fun g e => hk g (h.s.lt g e).1 (h.s.lt g e).2, fun p hp => (h.e p hp).keepB hk⟩
theorem own_own_ne13 {w : World} {b1 b2 s1 s2 n1 n2 : Nat} {e1 e2 : TypeId} {v1 v2 : Value} {xs1 xs2 : List Value} (h1 : w.ownsRow b1 e1 s1 v1 n1 xs1) (h2 : w.ownsRow b2 e2 s2 v2 n2 xs2) (hne : e1 ≠ e2) : v1.ownBlock = none ∨ v1.ownBlock ≠ v2.ownBlock := by
  rcases h1.2 with ⟨rfl, _⟩ | ⟨g, cap, cur, rfl, _, hh, _⟩
  · exact .inl rfl
  · right
    rcases h2.2 with ⟨rfl, _⟩ | ⟨g', cap', cur', rfl, _, hh', _⟩
    · exact fun h => by cases h
    · intro h
      have e : g = g' := Option.some.inj h
      subst e
      rw [hh] at hh'
      injection hh' with hh'
      injection hh' with _ e2
      exact hne e2
theorem own_grownT {w w' : World} {b1 b2 s1 s2 n1 n2 : Nat} {e1 e2 : TypeId} {v1 v2 : Value} {xs1 xs2 : List Value} (h1 : w.ownsRow b1 e1 s1 v1 n1 xs1) (h2 : w.ownsRow b2 e2 s2 v2 n2 xs2) (hne : e1 ≠ e2) (hg : w.grownBy w' v2.ownBlock) : w'.ownsRow b1 e1 s1 v1 n1 xs1 :=
  own_keep h1 fun g e => hg.block g (h1.lt g e).2 (by
    rcases own_own_ne13 h1 h2 hne with h | h
    · rw [h] at e; cases e
    · rw [← e]; exact h)
theorem OwnD.grownD {w w' : World} {B b2 n2 : Nat} {x : DV} {d : Dt} {v2 : Value} {xs2 : List Value} (h : OwnD w B x d) (h2 : w.ownsRow b2 38 5 v2 n2 xs2) (hg : w.grownBy w' v2.ownBlock) : OwnD w' B x d :=
  ⟨own_grownT h.b h2 (by decide) hg, own_grownT h.h h2 (by decide) hg, own_grownT h.m h2 (by decide) hg, own_grownT h.n h2 (by decide) hg, own_grownT h.t h2 (by decide) hg⟩

theorem dats_step13 {ps : List (DV × Dt)} {k : Nat} (hk : k < ps.length) : dats (ps.take (k + 1)) = dats (ps.take k) ++ [(ps[k]).2] := by
  rw [List.take_succ_eq_append_getElem hk, dats_append]
  rfl
/-- The boxes of OwnFact. -/
structure OwF (w : World) (L : List Value) (W : World) : Prop where
  a : Whole W w.heap.size 40 L
  b : Whole W (w.heap.size + 1) 40 [.slice none 0 0, .int .i64 0, .int .i64 0, .int .i64 0, .int .i64 0, .int .i64 0, .slice none 0 0, .slice none 0 0, .slice none 0 0, .slice none 0 0, .slice none 0 0, .slice none 0 0, .slice none 0 0]
  below : Below w.heap.size w W
  size : w.heap.size + 2 ≤ W.heap.size
theorem OwF.step {w : World} {L : List Value} {W W' : World} (h : OwF w L W) (hb : Below W.heap.size W W') : OwF w L W' :=
  ⟨h.a.below hb h.a.lt, h.b.below hb h.b.lt, h.below.trans (hb.mono (by have := h.size; omega)), Nat.le_trans h.size hb.size⟩
theorem OwF.put {w : World} {L L' : List Value} {W V : World} (h : OwF w L W) (hV : Whole V w.heap.size 40 L') (hG : Grew (fun j => j = w.heap.size) W V) (hz : V.heap.size = W.heap.size) : OwF w L' V := by
  have hb : Below w.heap.size W V := Grew.below (B := w.heap.size) hG (fun j hj => by rw [hj]; exact Nat.le_refl _) (by have := h.size; omega)
  exact ⟨hV, (hG.block _ h.b.lt (by omega)).trans h.b, h.below.trans hb, by rw [hz]; exact h.size⟩
theorem OwF.grown {w : World} {L : List Value} {W V : World} {B n size : Nat} {e : TypeId} {v : Value} {xs : List Value} (h : OwF w L W) (ho : W.ownsRow B e size v n xs) (hB : w.heap.size + 2 ≤ B) (hg : W.grownBy V v.ownBlock) : OwF w L V :=
  ⟨h.a.grown hg (fun e => by have := (ho.lt _ e.symm).1; omega), h.b.grown hg (fun e => by have := (ho.lt _ e.symm).1; omega), own_below h.below (by omega) (by have := h.size; omega) ho hg, Nat.le_trans h.size hg.size⟩
theorem OwF.made (w : World) (x : FV) : OwF w (cellsF x) ((w.alloc (.cells #[.slice x.A x.name.length x.c, .int .i64 x.h.typ, .int .i64 x.h.knd, .int .i64 x.h.rank, .int .i64 x.h.got, .int .i64 x.h.ttl, .slice x.sA x.sp.length x.sc, .slice x.zA x.zone.length x.zc, .slice x.d.Ab x.soa.bytes.length x.d.cb, .slice x.d.Ah x.soa.host.length x.d.ch, .slice x.d.Am x.soa.mail.length x.d.cm, .slice x.d.An x.soa.nums.length x.d.cn, .slice x.d.At x.soa.texts.length x.d.ct] 40)).alloc (.cells #[.slice none 0 0, .int .i64 0, .int .i64 0, .int .i64 0, .int .i64 0, .int .i64 0, .slice none 0 0, .slice none 0 0, .slice none 0 0, .slice none 0 0, .slice none 0 0, .slice none 0 0, .slice none 0 0] 40)) := by
  have hz : (w.alloc (.cells #[.slice x.A x.name.length x.c, .int .i64 x.h.typ, .int .i64 x.h.knd, .int .i64 x.h.rank, .int .i64 x.h.got, .int .i64 x.h.ttl, .slice x.sA x.sp.length x.sc, .slice x.zA x.zone.length x.zc, .slice x.d.Ab x.soa.bytes.length x.d.cb, .slice x.d.Ah x.soa.host.length x.d.ch, .slice x.d.Am x.soa.mail.length x.d.cm, .slice x.d.An x.soa.nums.length x.d.cn, .slice x.d.At x.soa.texts.length x.d.ct] 40)).heap.size = w.heap.size + 1 := by simp
  refine ⟨(Whole.made w (cellsF x) _).alloc _, ?_, ((Below.refl _ _).alloc (Nat.le_refl _) _).alloc (by simp) _, by simp⟩
  have := Whole.made (w.alloc (.cells #[.slice x.A x.name.length x.c, .int .i64 x.h.typ, .int .i64 x.h.knd, .int .i64 x.h.rank, .int .i64 x.h.got, .int .i64 x.h.ttl, .slice x.sA x.sp.length x.sc, .slice x.zA x.zone.length x.zc, .slice x.d.Ab x.soa.bytes.length x.d.cb, .slice x.d.Ah x.soa.host.length x.d.ch, .slice x.d.Am x.soa.mail.length x.d.cm, .slice x.d.An x.soa.nums.length x.d.cn, .slice x.d.At x.soa.texts.length x.d.ct] 40)) [.slice none 0 0, .int .i64 0, .int .i64 0, .int .i64 0, .int .i64 0, .int .i64 0, .slice none 0 0, .slice none 0 0, .slice none 0 0, .slice none 0 0, .slice none 0 0, .slice none 0 0, .slice none 0 0] 40
  rw [hz] at this
  exact this

structure FewF (x : FV) : Prop where
  n : x.name.length ≤ 300
  z : x.zone.length ≤ 300
  s : x.sp.length ≤ 300
  d : FewD x.soa
  e : ∀ p ∈ x.sp, FewD p.2
def OwnFOut (w : World) (f : Fc) (e : Ending) (w' : World) : Prop := ∃ x' : FV, e = .returned x'.val ∧ x'.fact = f ∧ FOwn w' w.heap.size x' ∧ Below w.heap.size w w'
/-- What holds within OwnFact's loop. -/
structure OwL (w : World) (x3 : FV) (v : Value) (qs : List (DV × Dt)) (wr : World) : Prop where
  x : OwF w (cellsF x3) wr
  n : wr.ownsRow (w.heap.size + 2) 9 1 (.slice x3.A x3.name.length x3.c) x3.name.length (x3.name.map sv)
  z : wr.ownsRow (w.heap.size + 2) 9 1 (.slice x3.zA x3.zone.length x3.zc) x3.zone.length (x3.zone.map sv)
  d : OwnD wr (w.heap.size + 2) x3.d x3.soa
  s : wr.ownsRow (w.heap.size + 2) 38 5 v qs.length (qs.flatMap cellsD)
  e : ∀ p ∈ qs, OwnD wr (w.heap.size + 2) p.1 p.2
theorem OwL.step {w : World} {x3 : FV} {v : Value} {qs : List (DV × Dt)} {W W' : World} (h : OwL w x3 v qs W) (hb : Below W.heap.size W W') : OwL w x3 v qs W' :=
  have k : ∀ g, w.heap.size + 2 ≤ g → g < W.heap.size → W'.heap[g]? = W.heap[g]? := fun g _ hg => hb.block g hg
  ⟨h.x.step hb, own_keep h.n fun g e => k g (h.n.lt g e).1 (h.n.lt g e).2, own_keep h.z fun g e => k g (h.z.lt g e).1 (h.z.lt g e).2, h.d.keepB k, own_keep h.s fun g e => k g (h.s.lt g e).1 (h.s.lt g e).2, fun p hp => (h.e p hp).keepB k⟩
theorem OwL.snoc {w : World} {x3 : FV} {v v' : Value} {qs : List (DV × Dt)} {W W' : World} (h : OwL w x3 v qs W) {y : DV} {d : Dt} (hy : OwnD W (w.heap.size + 2) y d)
    (ho : W'.ownsRow (w.heap.size + 2) 38 5 v' (qs.length + 1) (qs.flatMap cellsD ++ cellsD (y, d))) (hg : W.grownBy W' v.ownBlock) : OwL w x3 v' (qs ++ [(y, d)]) W' := by
  refine ⟨h.x.grown h.s (Nat.le_refl _) hg, own_grownT h.n h.s (by decide) hg, own_grownT h.z h.s (by decide) hg, h.d.grownD h.s hg, by rw [List.length_append, List.flatMap_append]; simpa using ho, fun p hp => ?_⟩
  rcases List.mem_append.1 hp with hp | hp
  · exact (h.e p hp).grownD h.s hg
  · rw [List.mem_singleton.1 hp]
    exact hy.grownD h.s hg
def OwRel (w : World) (x x3 : FV) (v i : Value) (wr : World) : Prop := ∃ (j : Nat) (qs : List (DV × Dt)), j ≤ x.sp.length ∧ i = .int .i64 j ∧ dats qs = dats (x.sp.take j) ∧ qs.length = j ∧ OwL w x3 v qs wr

theorem fact_size : (Tryz.prog.info? 40).map (·.size) = some 13 := by kernel_rfl
theorem data_size : (Tryz.prog.info? 38).map (·.size) = some 5 := by kernel_rfl
theorem strs_size : (Tryz.prog.info? 22).map (·.size) = some 1 := by kernel_rfl
theorem dats_size : (Tryz.prog.info? 34).map (·.size) = some 1 := by kernel_rfl









































































































































































end Go.Proofs.YthppgofpbpjglaaGreat

namespace Go.Proofs.YthppgofpbpjglaaGreat
open Go.RowKit

/-- What From was given. -/
structure Te where
  y : QV
  q : Qt
  m : MV
  A : Option Addr
  c : Nat
  z : List (List UInt8)
  now : Int
/-- The teller's cells. -/
def cellsT (T : Te) (an au ex fs : Value) : List Value := [.slice T.y.1 T.q.name.length T.y.2, .int .i64 T.q.kind, .int .i64 T.q.cls,
  .int .i64 T.m.h.id, .bool T.m.h.resp, .int .i64 T.m.h.op, .bool T.m.h.aa, .bool T.m.h.tc, .bool T.m.h.rd, .bool T.m.h.ra, .int .i64 T.m.h.rc, .slice T.m.qA T.m.qp.length T.m.qc, .slice T.m.s0.A T.m.s0.ps.length T.m.s0.c, .slice T.m.s1.A T.m.s1.ps.length T.m.s1.c, .slice T.m.s2.A T.m.s2.ps.length T.m.s2.c, .bool T.m.h.edns, .int .i64 T.m.h.size,
  .slice T.A T.z.length T.c, .int .i64 T.now, an, au, ex, fs]

/-- Is it a type that a call on the teller writes in? -/
def teT (t : TypeId) : Prop := t = 40 ∨ t = 55
def KeptT (w w' : World) : Prop := ∀ (g : Nat) (o : Obj), w.heap[g]? = some o → (∀ cs t fr, o = Obj.cells cs t fr → ¬ teT t) → w'.heap[g]? = w.heap[g]?
theorem lt_of_some {w : World} {g : Nat} {o : Obj} (h : w.heap[g]? = some o) : g < w.heap.size := by
  rcases Nat.lt_or_ge g w.heap.size with h1 | h1
  · exact h1
  · rw [Array.getElem?_eq_none h1] at h; cases h
theorem KeptT.refl (w : World) : KeptT w w := fun _ _ _ _ => rfl
theorem KeptT.trans {w w' w'' : World} (h : KeptT w w') (k : KeptT w' w'') : KeptT w w'' := fun g o hg ho => (k g o ((h g o hg ho).trans hg) ho).trans (h g o hg ho)
theorem KeptT.below {w w' : World} (hb : Below w.heap.size w w') : KeptT w w' := fun _ _ hg _ => hb.block _ (lt_of_some hg)
theorem KeptT.whole {w w' : World} (h : KeptT w w') {g : Nat} {t : TypeId} {L : List Value} (hw : Whole w g t L) (ht : ¬ teT t) : Whole w' g t L :=
  (h g _ hw fun cs t' fr e => by injection e with _ e _; rw [← e]; exact ht).trans hw
theorem KeptT.own {w w' : World} (h : KeptT w w') {base : Nat} {e : TypeId} {size n : Nat} {v : Value} {xs : List Value} (hr : w.ownsRow base e size v n xs) (ht : ¬ teT e) : w'.ownsRow base e size v n xs := by
  refine own_keep hr fun g hv => ?_
  rcases hr.2 with ⟨rfl, _⟩ | ⟨g', cap, cur, rfl, _, hh, _⟩
  · cases hv
  · simp [Value.ownBlock] at hv
    subst hv
    exact h _ _ hh fun cs t' fr e => by injection e with _ e _; rw [← e]; exact ht
theorem KeptT.of_grown {w w' : World} {base n size : Nat} {v : Value} {xs : List Value} (hr : w.ownsRow base 40 size v n xs) (hg : w.grownBy w' v.ownBlock) : KeptT w w' := fun g o ho ht => by
  refine hg.block g (lt_of_some ho) fun e => ?_
  rcases hr.2 with ⟨rfl, _⟩ | ⟨g', cap, cur, rfl, _, hh, _⟩
  · cases e
  · simp [Value.ownBlock] at e
    subst e
    rw [hh] at ho
    exact ht _ _ _ (Option.some.inj ho).symm (.inl rfl)
theorem KeptT.of_set {w w' : World} {b : Nat} {L : List Value} (hw : Whole w b 55 L) (hg : Grew (fun j => j = b) w w') : KeptT w w' := fun g o ho ht => by
  refine hg.block g (lt_of_some ho) fun e => ?_
  subst e
  unfold Whole at hw
  rw [hw] at ho
  exact ht _ _ _ (Option.some.inj ho).symm (.inr rfl)
theorem str_notT : ¬ teT 9 := by unfold teT; decide
theorem dat_notT : ¬ teT 38 := by unfold teT; decide
theorem u8_notT : ¬ teT 5 := by unfold teT; decide
theorem int_notT : ¬ teT 3 := by unfold teT; decide
theorem rr_notT : ¬ teT 46 := by unfold teT; decide
theorem strs_notT : ¬ teT 22 := by unfold teT; decide
theorem qst_notT : ¬ teT 24 := by unfold teT; decide
theorem OwnD.keptT {w w' : World} {B : Nat} {x : DV} {d : Dt} (h : OwnD w B x d) (hk : KeptT w w') : OwnD w' B x d :=
  ⟨hk.own h.b u8_notT, hk.own h.h str_notT, hk.own h.m str_notT, hk.own h.n int_notT, hk.own h.t str_notT⟩
theorem FOwn.keptT {w w' : World} {B : Nat} {x : FV} (h : FOwn w B x) (hk : KeptT w w') : FOwn w' B x :=
  ⟨hk.own h.n str_notT, hk.own h.z str_notT, h.d.keptT hk, hk.own h.s dat_notT, fun p hp => (h.e p hp).keptT hk⟩
theorem FOwn.new {w : World} {B : Nat} {x : FV} (h : FOwn w B x) : FactT w B x :=
  ⟨NewT.of_own h.n, NewT.of_own h.s, fun p hp => NewT.of_own (h.e p hp).b, fun p hp => NewT.of_own (h.e p hp).h⟩

/-- One section's records that count: where their row lies, and what is known of each. -/
structure SecOk (w0 : World) (T : Te) (S : Sec) (l : List Rt) : Prop where
  r : ∀ p ∈ S.ps, RAt w0 w0.heap.size p.1 p.2
  i : ∀ p ∈ S.ps, p.2 ∈ l ∧ p.2.cls = 1 ∧ underN p.2.name T.z = true
  n : S.ps.length ≤ 1000
/-- What is known of what was given. -/
structure TeOk (w0 : World) (T : Te) : Prop where
  q : QAt w0 w0.heap.size T.y T.q
  qc : T.q.name.length ≤ T.y.2
  qs : soundN T.q.name = true
  m : MAt w0 w0.heap.size T.m
  mi : MIn T.m
  ms : soundM T.m.msg = true
  lg : LightG T.m.msg
  z : Row w0 w0.heap.size T.A (T.z.map sv)
  zs : soundN T.z = true
  zc : T.z.length ≤ T.c
  now : timeB T.now = true
/-- The teller in the world w. -/
structure TAt (w0 : World) (T : Te) (b : Nat) (an au ex : Sec) (v : Value) (xs : List FV) (w : World) : Prop where
  blk : Whole w b 55 (cellsT T an.v au.v ex.v v)
  ge : w0.heap.size ≤ b
  row : w.ownsRow w0.heap.size 40 13 v xs.length (xs.flatMap cellsF)
  each : ∀ x ∈ xs, FOwn w w0.heap.size x
  told : ∀ x ∈ xs, ToldF T.m.msg T.z T.now x.fact
  an : w.ownsRow w0.heap.size 46 9 an.v an.ps.length (an.ps.flatMap cellsR)
  au : w.ownsRow w0.heap.size 46 9 au.v au.ps.length (au.ps.flatMap cellsR)
  ex : w.ownsRow w0.heap.size 46 9 ex.v ex.ps.length (ex.ps.flatMap cellsR)
  below : Below w0.heap.size w0 w
section
variable {w0 w w' : World} {T : Te} {b : Nat} {an au ex : Sec} {v : Value} {xs : List FV}
theorem TAt.step (h : TAt w0 T b an au ex v xs w) (hb : Below w.heap.size w w') : TAt w0 T b an au ex v xs w' :=
  have kr : ∀ {base n size : Nat} {e : TypeId} {u : Value} {l : List Value}, w.ownsRow base e size u n l → w'.ownsRow base e size u n l := fun ho => own_keep ho fun g e => hb.block g (ho.lt g e).2
  ⟨h.blk.below hb h.blk.lt, h.ge, kr h.row, fun x hx => (h.each x hx).keepB fun g _ hg => hb.block g hg, h.told, kr h.an, kr h.au, kr h.ex, h.below.trans (hb.mono h.below.size)⟩
theorem TAt.bsz (h : TAt w0 T b an au ex v xs w) : b < w.heap.size := h.blk.lt
theorem TAt.size (h : TAt w0 T b an au ex v xs w) : w0.heap.size ≤ w.heap.size := h.below.size
theorem secRs {S : Sec} {l : List Rt} (hs : SecOk w0 T S l) (ho : w.ownsRow w0.heap.size 46 9 S.v S.ps.length (S.ps.flatMap cellsR)) (hb : Below w0.heap.size w0 w) : RsAt w w.heap.size S.A S.ps :=
  ⟨Row.of_own ho, fun p hp => ((hs.r p hp).below hb).mono hb.size⟩
/-- A fact more, appended and stored. -/
theorem TAt.push {A : Option Addr} {k c : Nat} (h : TAt w0 T b an au ex (.slice A k c) xs w) {x : FV} (hx : FOwn w w0.heap.size x) (ht : ToldF T.m.msg T.z T.now x.fact) {v' : Value} (ho : w'.ownsRow w0.heap.size 40 13 v' (xs.length + 1) (xs.flatMap cellsF ++ cellsF x))
    (hg : w.grownBy w' (Value.slice A k c).ownBlock) {V : World} (hV : Whole V b 55 (cellsT T an.v au.v ex.v v')) (hG : Grew (fun j => j = b) w' V) (_ : V.heap.size = w'.heap.size) :
    TAt w0 T b an au ex v' (xs ++ [x]) V ∧ KeptT w V := by
  have k1 : KeptT w w' := KeptT.of_grown h.row hg
  have hw' : Whole w' b 55 (cellsT T an.v au.v ex.v (.slice A k c)) := h.blk.grown hg (fun e => own_not_whole h.row h.blk (by decide) e.symm)
  have k2 : KeptT w' V := KeptT.of_set hw' hG
  have k := k1.trans k2
  have hbw : Below w0.heap.size w0 w' := own_below h.below (Nat.le_refl _) h.size h.row hg
  refine ⟨⟨hV, h.ge, ?_, fun u hu => ?_, fun u hu => ?_, k.own h.an rr_notT, k.own h.au rr_notT, k.own h.ex rr_notT, hbw.trans (hG.below (fun j e => e ▸ h.ge) (Nat.le_trans h.size hg.size))⟩, k⟩
  · rw [List.length_append, List.flatMap_append]
    have h1 := own_keep ho fun g e => hG.block g (ho.lt g e).2 (fun e2 => own_not_whole ho hw' (by decide) (e2 ▸ e))
    simpa using h1
  · rcases List.mem_append.1 hu with hu | hu
    · exact (h.each u hu).keptT k
    · rw [List.mem_singleton.1 hu]; exact hx.keptT k
  · rcases List.mem_append.1 hu with hu | hu
    · exact h.told u hu
    · rw [List.mem_singleton.1 hu]; exact ht
end

/-- What a call on the teller leaves: up to k facts more. -/
def TellOut (w0 : World) (T : Te) (b : Nat) (an au ex : Sec) (xs : List FV) (k : Nat) (w w' : World) : Prop :=
  ∃ v' xs', TAt w0 T b an au ex v' xs' w' ∧ xs'.length ≤ xs.length + k ∧ KeptT w w' ∧ w.heap.size ≤ w'.heap.size
theorem TellOut.refl {w0 w : World} {T : Te} {b : Nat} {an au ex : Sec} {v : Value} {xs : List FV} (h : TAt w0 T b an au ex v xs w) : TellOut w0 T b an au ex xs 0 w w := ⟨v, xs, h, Nat.le_refl _, KeptT.refl w, Nat.le_refl _⟩

/-- A name that stays: of what was given, or of one's own. -/
def Held (w0 w : World) (A : Option Addr) (c : Nat) (n : List (List UInt8)) : Prop :=
  (Row w0 w0.heap.size A (n.map sv) ∧ n.length ≤ c) ∨ w.ownsRow w0.heap.size 9 1 (.slice A n.length c) n.length (n.map sv)
section
variable {w0 w w' : World} {A : Option Addr} {c : Nat} {n : List (List UInt8)}
theorem Held.row (h : Held w0 w A c n) (hb : Below w0.heap.size w0 w) : Row w w.heap.size A (n.map sv) := by
  rcases h with h | h
  · exact (h.1.below hb).mono hb.size
  · exact Row.of_own h
theorem Held.cap (h : Held w0 w A c n) : n.length ≤ c := by
  rcases h with h | h
  · exact h.2
  · exact own_cap h
theorem Held.kept (h : Held w0 w A c n) (hk : KeptT w w') : Held w0 w' A c n := by
  rcases h with h | h
  · exact .inl h
  · exact .inr (hk.own h str_notT)
theorem Held.step (h : Held w0 w A c n) (hb : Below w.heap.size w w') : Held w0 w' A c n := h.kept (KeptT.below hb)
end

/-- The copy of a name. -/
def ClonedN (w : World) (n : List (List UInt8)) (e : Ending) (w' : World) : Prop :=
  ∃ A c, e = .returned (.slice A n.length c) ∧ w'.ownsRow w.heap.size 9 1 (.slice A n.length c) n.length (n.map sv) ∧ Below w.heap.size w w'
set_option maxHeartbeats 1000000 in
theorem cloneN_any (A : Option Addr) (c H : Nat) (n : List (List UInt8)) (w : World) (hA : Row w H A (n.map sv)) (hn : n.length ≤ 1000) :
    Calls Tryz.prog 49 #[.slice A n.length c] w (ClonedN w n) := by
  obtain ⟨i0, hi0, hz0, hz1, hz2⟩ := info_parts str_info
  have HA := Lib.hid hA
  clear hA
  rcases A with _ | ad
  · have h0 : n = [] := by
      rcases n with _ | ⟨u, us⟩
      · rfl
      · obtain ⟨_, _, h, _⟩ := HA.out (by simp)
        cases h
    subst h0
    have hq := fun (w : World) (a : Option Addr) (n c n' c' : Nat) => Lib.run_eql_slice_nil (P := Tryz.prog) w 22 9 a n c n' c' Tryz.underlying22
    go_enter Tryz.func49, Tryz.ntmps49
    go_wp2
    go_ret
    exact ⟨none, 0, rfl, World.ownsRow_nil _ _ _ _, Below.refl _ _⟩
  · have HW := Lib.hid (own_lit w 9 1)
    have hq := fun (w : World) (a : Option Addr) (n c n' c' : Nat) => Lib.run_eql_slice_nil (P := Tryz.prog) w 22 9 a n c n' c' Tryz.underlying22
    go_enter Tryz.func49, Tryz.ntmps49
    go_wp2_with (
      at_builtin
      refine wpList_append_row rfl (.tmp 5) (.tmp 6) _ rfl w.heap.size 9 i0 _ 1 16 Tryz.underlying22 hi0 hz0 hz1 hz2 rfl (by decide) _ 0 [] rfl HW.out (some ad) n.length c (H + 1) (n.map sv) rfl (by simp) ?c1 (sv_one _) ?c2 ?c3 ?c4 ?_
      case c1 =>
        intro hx
        obtain ⟨b, off, e, hb, hc⟩ := HA.out hx
        exact ⟨b, off, e, by omega, fun j u hu => by rw [World.cell?_alloc_lt _ _ _ (World.block_lt_of_cell? w _ (hc j u hu))]; exact hc j u hu⟩
      case c2 => unfold maxLen; omega
      case c3 => omega
      case c4 => simp
      intro v1 w1 hown1 hg1)
    go_ret
    rw [Nat.zero_add, List.nil_append] at hown1
    obtain ⟨A1, c1, rfl, _, _⟩ := own_form hown1
    exact ⟨A1, c1, rfl, hown1, own_below ((Below.refl _ _).alloc (Nat.le_refl _) _) (Nat.le_refl _) (by simp) HW.out hg1⟩

end Go.Proofs.YthppgofpbpjglaaGreat

namespace Go.Proofs.YthppgofpbpjglaaGreat
open Go.RowKit

/-- The fact of 'answers', as it lies. -/
def ansF (g : Nat) : FV := ⟨none, 0, [], ⟨1, 1, 1, 0, 0⟩, some ⟨g + 1, 0, none⟩, 1, [(⟨some ⟨g, 0, none⟩, none, none, none, none, 4, 0, 0, 0, 0⟩, ⟨[1, 2, 3, 4], [], [], [], []⟩)], none, 0, [], ⟨none, none, none, none, none, 0, 0, 0, 0, 0⟩, ⟨[], [], [], [], []⟩⟩
theorem ansF_sound (g : Nat) : soundF (ansF g).fact = true := by
  show soundF ⟨[], ⟨1, 1, 1, 0, 0⟩, [⟨[1, 2, 3, 4], [], [], [], []⟩], [], ⟨[], [], [], [], []⟩⟩ = true
  decide +kernel
theorem ansF_at (w : World) : FAt ((w.alloc (.cells #[.int .u8 1, .int .u8 2, .int .u8 3, .int .u8 4] 5)).alloc (.cells #[.slice (some ⟨w.heap.size, 0, none⟩) 4 4, .slice none 0 0, .slice none 0 0, .slice none 0 0, .slice none 0 0] 38))
    ((w.alloc (.cells #[.int .u8 1, .int .u8 2, .int .u8 3, .int .u8 4] 5)).alloc (.cells #[.slice (some ⟨w.heap.size, 0, none⟩) 4 4, .slice none 0 0, .slice none 0 0, .slice none 0 0, .slice none 0 0] 38)).heap.size (ansF w.heap.size) := by
  have h1 : Row (w.alloc (.cells #[.int .u8 1, .int .u8 2, .int .u8 3, .int .u8 4] 5)) (w.heap.size + 1) (some ⟨w.heap.size, 0, none⟩) (([1, 2, 3, 4] : List UInt8).map bc) := Row.made w _ _
  have h2 := Row.made (w.alloc (.cells #[.int .u8 1, .int .u8 2, .int .u8 3, .int .u8 4] 5)) #[.slice (some ⟨w.heap.size, 0, none⟩) 4 4, .slice none 0 0, .slice none 0 0, .slice none 0 0, .slice none 0 0] 38
  have hz : (w.alloc (.cells #[.int .u8 1, .int .u8 2, .int .u8 3, .int .u8 4] 5)).heap.size = w.heap.size + 1 := by simp
  rw [hz] at h2
  have hz2 : ((w.alloc (.cells #[.int .u8 1, .int .u8 2, .int .u8 3, .int .u8 4] 5)).alloc (.cells #[.slice (some ⟨w.heap.size, 0, none⟩) 4 4, .slice none 0 0, .slice none 0 0, .slice none 0 0, .slice none 0 0] 38)).heap.size = w.heap.size + 2 := by simp
  rw [hz2]
  have hb := (h1.alloc (by rw [hz]; exact Nat.le_refl _) (.cells #[.slice (some ⟨w.heap.size, 0, none⟩) 4 4, .slice none 0 0, .slice none 0 0, .slice none 0 0, .slice none 0 0] 38)).mono (Nat.le_succ _)
  refine ⟨Row.empty _ _ _, ⟨h2, fun p hp => ?_⟩, Row.empty _ _ _, ⟨Row.empty _ _ _, Row.empty _ _ _, Row.empty _ _ _, Row.empty _ _ _, Row.empty _ _ _, Nat.le_refl _, Nat.le_refl _, Nat.le_refl _, Nat.le_refl _, Nat.le_refl _, Nat.zero_le _, Nat.zero_le _⟩, Nat.le_refl _, Nat.le_refl _, Nat.le_refl _, by unfold ansF maxLen; dsimp only; omega⟩
  rw [List.mem_singleton.1 hp]
  exact ⟨hb, Row.empty _ _ _, Row.empty _ _ _, Row.empty _ _ _, Row.empty _ _ _, Nat.le_refl _, Nat.le_refl _, Nat.le_refl _, Nat.le_refl _, Nat.le_refl _, by unfold maxLen; dsimp only; omega, Nat.zero_le _⟩

set_option maxHeartbeats 400000 in
theorem fanswers_any (S : FactSpec) (w : World) : Calls Tryz.prog 4 #[] w (TrueB w) := by
  have HS := Lib.hid (S.snd _ (ansF w.heap.size) (ansF_at w) (soundF_in (ansF_sound _)) (ansF_sound _))
  have HB := Lib.hid (show Below w.heap.size w ((w.alloc (.cells #[.int .u8 1, .int .u8 2, .int .u8 3, .int .u8 4] 5)).alloc (.cells #[.slice (some ⟨w.heap.size, 0, none⟩) 4 4, .slice none 0 0, .slice none 0 0, .slice none 0 0, .slice none 0 0] 38)) from ((Below.refl _ _).alloc (Nat.le_refl _) _).alloc (by simp) _)
  go_enter Tryz.func4, Tryz.ntmps4
  go_wp2_with fail
  refine HS.out.mono ?_
  rintro e w1 ⟨rfl, hb1⟩
  have HB1 := Lib.hid (HB.out.trans (hb1.mono HB.out.size))
  clear hb1
  go_wp2
  go_ret
  exact ⟨rfl, HB1.out⟩

end Go.Proofs.YthppgofpbpjglaaGreat

namespace Go.Proofs.YthppgofpbpjglaaGreat
open Go.ChangeShapes Go.WideShapes Go.ChangeAt Go.RowKit

theorem Tryz.own : ownKnob Tryz.prog.godebug = none := by kernel_rfl
theorem Tryz.laidOut : laidOutB Tryz.prog = true := by kernel_rfl

theorem bc_of_int (n : Int) (h : (Lit.int .u8 n).wf = true) : Value.int .u8 n = bc (UInt8.ofNat n.toNat) := by
  have h1 : IntKind.u8.min = 0 := rfl
  have h2 : IntKind.u8.max = 255 := rfl
  simp only [Lit.wf, Bool.and_eq_true, decide_eq_true_eq] at h
  unfold bc
  rw [UInt8.toNat_ofNat', Nat.mod_eq_of_lt (by omega)]
  congr 1
  omega

set_option maxRecDepth 20000 in
/-- An argument of bytes: whatever it is, it reads as a list. -/
theorem open_row_u8c {H : Type} {enc : TypeId × Value → H} {W : World} {base : Nat} {t : TypeId} {v : Value} {d : DataW H} {p : List MemPlace} (hc : Tryz.prog.cellsOf 5 = 1) (ht : Tryz.prog.underlying t = some (.slice 5))
    (hval : Value.okWide Tryz.prog W .any base t v) (h : DataW.Trod enc Tryz.prog W 0 (fun _ => true) true t v d p) (hlt : ∀ x ∈ p, x.block < W.heap.size) :
    ∃ (A : Option Addr) (m c : Nat) (l : List UInt8), v = .slice A m c ∧ l.length = m ∧ Row W W.heap.size A (l.map bc) ∧ m ≤ c ∧ m ≤ maxLen ∧ c ≤ maxLen ∧ (m = 0 ∨ ∃ el sp, d = .slice el sp ∧ el.length = m) := by
  obtain ⟨a0, len, cap, rfl⟩ := okWide_slice ht hval
  obtain ⟨fuel, hf⟩ := h
  rcases open_ints ht Tryz.underlying5 hc hf with ⟨hcs, hx⟩ | ⟨a, len', cap', zs, hcs, _, hl, hm, hz, hx, hcell, hwz⟩
  · simp [Value.cells] at hcs
    obtain ⟨rfl, rfl, rfl⟩ := hcs
    exact ⟨none, 0, 0, [], rfl, rfl, Row.empty _ _ _, Nat.le_refl _, Nat.zero_le _, Nat.zero_le _, .inl rfl⟩
  · simp [Value.cells] at hcs
    obtain ⟨rfl, rfl, rfl⟩ := hcs
    simp only [Prod.mk.injEq] at hx
    obtain ⟨rfl, rfl⟩ := hx
    simp only [if_true] at hz
    refine ⟨some a, len, cap, (zs.take len).map fun n => UInt8.ofNat n.toNat, rfl, by simp; omega, fun hne => ?_, hl, Nat.le_trans hl hm, hm, .inr ⟨_, _, rfl, by simp [lits]; omega⟩⟩
    have hpos : 0 < zs.length := by
      rcases zs with _ | ⟨z, zs⟩
      · simp at hne
      · simp
    obtain ⟨b, off, spot⟩ := a
    have hspot : spot = none := by simpa [Addr.add] using World.cell?_spot (hcell 0 hpos)
    subst hspot
    refine ⟨b, off, rfl, hlt (.cell b off) (MemPlace.mem_row.2 ⟨0, hpos, by simp⟩), fun j u hu => ?_⟩
    have hj : j < zs.length := by
      have := (List.getElem?_eq_some_iff.1 hu).1
      simp at this
      omega
    have hjl : j < len := by
      have := (List.getElem?_eq_some_iff.1 hu).1
      simp at this
      omega
    have h1 := hcell j hj
    rw [addr_add] at h1
    rw [h1]
    have e : zs.getD j 0 = zs[j] := by simp [List.getD, List.getElem?_eq_getElem hj]
    rw [List.getElem?_map, List.getElem?_map, List.getElem?_take, if_pos hjl, List.getElem?_eq_getElem hj] at hu
    simp only [Option.map_some] at hu
    rw [← hu, e, bc_of_int _ (hwz _ (List.getElem_mem hj))]

set_option maxRecDepth 20000 in
theorem open_row_u8 {H : Type} {enc : TypeId × Value → H} {W : World} {base : Nat} {t : TypeId} {v : Value} {d : DataW H} {p : List MemPlace} (hc : Tryz.prog.cellsOf 5 = 1) (ht : Tryz.prog.underlying t = some (.slice 5))
    (hval : Value.okWide Tryz.prog W .any base t v) (h : DataW.Trod enc Tryz.prog W 0 (fun _ => true) true t v d p) (hlt : ∀ x ∈ p, x.block < W.heap.size) :
    ∃ (A : Option Addr) (m c : Nat) (l : List UInt8), v = .slice A m c ∧ l.length = m ∧ Row W W.heap.size A (l.map bc) ∧ m ≤ c ∧ m ≤ maxLen ∧ (m = 0 ∨ ∃ el sp, d = .slice el sp ∧ el.length = m) := by
  obtain ⟨A, m, c, l, h1, h2, h3, h4, h5, _, h6⟩ := open_row_u8c hc ht hval h hlt
  exact ⟨A, m, c, l, h1, h2, h3, h4, h5, h6⟩

theorem row_reach {H : Type} {P : Program} {ts : List TypeId} {ds : List (DataW H)} {d : DataW H} {m : Nat} (h : (DataW.weightsEach P ts ds).all (· ≤ reachBytes) = true) {j : Nat} {t e : TypeId} (ht : ts[j]? = some t) (hd : ds[j]? = some d) (hu : P.underlying t = some (.slice e))
    (hb : P.bytesOf e = 1) (hm : m = 0 ∨ ∃ el sp, d = .slice el sp ∧ el.length = m) : m ≤ 140737488351232 := by
  rcases hm with rfl | ⟨el, sp, rfl, hl⟩
  · omega
  · have := sized_slice h ht hd hu
    rw [hb] at this
    simp only [reachBytes] at this
    omega
theorem u8_cells : Tryz.prog.cellsOf 5 = 1 := by kernel_rfl
theorem u8_bytes : Tryz.prog.bytesOf 5 = 1 := by kernel_rfl

theorem below_trodAll {H : Type} {enc : TypeId × Value → H} {P : Program} (hl : laidOutB P = true) {W W' : World} (hb : Below W.heap.size W W') :
    ∀ {ts : List TypeId} {vs : List Value} {ds : List (DataW H)} {ps : List MemPlace}, ts.all (fun t => P.readableRec t && decide (t < P.types.size)) = true →
      DataW.TrodAll enc P W 0 (fun _ => true) true ts vs ds ps → (∀ x ∈ ps, x.block < W.heap.size) → DataW.TrodAll enc P W' 0 (fun b => decide (b < W.heap.size)) true ts vs ds ps
  | [], [], [], _, _, h, _ => h
  | [], [], _ :: _, _, _, h, _ => h.elim
  | [], _ :: _, _, _, _, h, _ => h.elim
  | _ :: _, [], _, _, _, h, _ => h.elim
  | _ :: _, _ :: _, [], _, _, h, _ => h.elim
  | t :: ts, v :: vs, d :: ds, ps, ht, h, hlt => by
    obtain ⟨p, q, h1, h2, rfl⟩ := h
    simp only [List.all_cons, Bool.and_eq_true, decide_eq_true_eq] at ht
    exact ⟨p, q, Below.trod hl ht.1.1 ht.1.2 h1 hb (fun x hx => hlt x (List.mem_append_left _ hx)), below_trodAll hl hb ht.2 h2 (fun x hx => hlt x (List.mem_append_right _ hx)), rfl⟩

/-- The end of a law: it has answered true, and nothing that was there has turned. -/
theorem law_post {H : Type} {enc : TypeId × Value → H} {P : Program} {f : Func} {s : ChangeSpec} {W W' : World} {args : Array Value} {ds gs : List (DataW H)} {before : List MemPlace} {tb : TypeId}
    (hl : laidOutB P = true) (hts : f.params.toList.all (fun t => P.readableRec t && decide (t < P.types.size)) = true) (hrt : f.resultTypes.toList = [tb]) (hsz : f.resultTypes.size = 1) (hbool : P.underlying tb = some .bool) (hsv : s.vars = [])
    (hW : DataW.Whole enc P f.params.toList s.vars false W args.toList ds gs before)
    (hres : (s.fn H (ds ++ gs)).results = [.lit (.bool true)]) (hargs : (s.fn H (ds ++ gs)).args = ds) (hvars : (s.fn H (ds ++ gs)).vars = [])
    (hb : Below W.heap.size W W') : s.post enc P f false true false false W args (.bool true) W' := by
  have hW' := hW
  obtain ⟨p, q, hA, hV, rfl, _, _⟩ := hW
  rw [hsv] at hV
  obtain ⟨rfl, rfl⟩ := trodVars_none hV
  have hlt : ∀ x ∈ p, x.block < W.heap.size := fun x hx => hW'.lt x (List.mem_append_left _ hx)
  refine ⟨ds, [], p ++ [], [], p, [], hW', ?_, ?_, ?_, hb.frame _, fun h => by cases h⟩
  · rw [hrt, hsz, hres]
    exact trodAll_mk1 (shut_bool hbool true)
  · rw [hargs]
    exact below_trodAll hl hb hts hA hlt
  · rw [hsv, hvars]
    rfl

theorem i64_le {n : Int} (h : (Lit.int .i64 n).wf = true) : -9223372036854775808 ≤ n ∧ n ≤ 9223372036854775807 := by
  have h1 : IntKind.i64.min = -9223372036854775808 := rfl
  have h2 : IntKind.i64.max = 9223372036854775807 := rfl
  simp only [Lit.wf, Bool.and_eq_true, decide_eq_true_eq] at h
  omega

end Go.Proofs.YthppgofpbpjglaaGreat

namespace Go.Proofs.YthppgofpbpjglaaGreat
open Go.ChangeShapes Go.WideShapes Go.ChangeAt Go.RowKit

theorem string_sv (s : ByteArray) : Value.string s = sv s.data.toList := by
  unfold sv
  rw [Array.toArray_toList]

theorem str_cells : Tryz.prog.cellsOf 9 = 1 := by kernel_rfl
theorem str_bytes : Tryz.prog.bytesOf 9 = 16 := by kernel_rfl

set_option maxRecDepth 20000 in
/-- An argument of strings: whatever it is, it reads as a name. -/
theorem open_row_str {H : Type} {enc : TypeId × Value → H} {W : World} {base : Nat} {t : TypeId} {v : Value} {d : DataW H} {p : List MemPlace} (hc : Tryz.prog.cellsOf 9 = 1) (ht : Tryz.prog.underlying t = some (.slice 9))
    (hval : Value.okWide Tryz.prog W .any base t v) (h : DataW.Trod enc Tryz.prog W 0 (fun _ => true) true t v d p) (hlt : ∀ x ∈ p, x.block < W.heap.size)
    {ts : List TypeId} {ds : List (DataW H)} (hsz : (DataW.weightsEach Tryz.prog ts ds).all (· ≤ reachBytes) = true) {j : Nat} (htj : ts[j]? = some t) (hdj : ds[j]? = some d) :
    ∃ (A : Option Addr) (c : Nat) (n : List (List UInt8)), v = .slice A n.length c ∧ NameIn W A n ∧ n.length ≤ c := by
  obtain ⟨a0, len, cap, rfl⟩ := okWide_slice ht hval
  obtain ⟨fuel, hf⟩ := h
  rcases open_strings ht Tryz.underlying9 hc hf with ⟨hcs, hx⟩ | ⟨a, len', cap', ss, hcs, _, hl, hm, hz, hx, hcell, hwz⟩
  · simp [Value.cells] at hcs
    obtain ⟨rfl, rfl, rfl⟩ := hcs
    exact ⟨none, 0, [], rfl, ⟨Row.empty _ _ _, Nat.zero_le _, fun k h => absurd h (Nat.not_lt_zero _)⟩, Nat.le_refl _⟩
  · simp [Value.cells] at hcs
    obtain ⟨rfl, rfl, rfl⟩ := hcs
    simp only [Prod.mk.injEq] at hx
    obtain ⟨rfl, rfl⟩ := hx
    simp only [if_true] at hz
    have hlen : ((ss.take len).map fun s => s.data.toList).length = len := by simp; omega
    have hw := sized_slice hsz htj hdj ht
    rw [str_bytes] at hw
    simp only [reachBytes] at hw
    refine ⟨some a, cap, (ss.take len).map fun s => s.data.toList, by rw [hlen], ⟨fun hne => ?_, ?_, ?_⟩, by rw [hlen]; exact hl⟩
    · have hpos : 0 < ss.length := by
        rcases ss with _ | ⟨z, zs⟩
        · simp at hne
        · simp
      obtain ⟨b, off, spot⟩ := a
      have hspot : spot = none := by simpa [Addr.add] using World.cell?_spot (hcell 0 hpos)
      subst hspot
      refine ⟨b, off, rfl, hlt (.cell b off) (MemPlace.mem_row.2 ⟨0, hpos, by simp⟩), fun j u hu => ?_⟩
      have hjl : j < len := by
        have := (List.getElem?_eq_some_iff.1 hu).1
        simp at this
        omega
      have hj : j < ss.length := by omega
      have h1 := hcell j hj
      rw [addr_add] at h1
      rw [h1]
      have e : ss.getD j ByteArray.empty = ss[j] := by simp [List.getD, List.getElem?_eq_getElem hj]
      rw [List.getElem?_map, List.getElem?_map, List.getElem?_take, if_pos hjl, List.getElem?_eq_getElem hj] at hu
      simp only [Option.map_some] at hu
      rw [← hu, e, string_sv]
    · rw [hlen]
      simp [strs] at hw
      omega
    · intro k hk
      have hk' : k < ss.length := by rw [hlen] at hk; omega
      have h2 := hwz ss[k] (List.getElem_mem hk')
      simpa using h2

end Go.Proofs.YthppgofpbpjglaaGreat

namespace Go.Proofs.YthppgofpbpjglaaGreat
open Go.RowKit

/-- What a statement's argument of names is. -/
def NamesIn (w : World) (H : Nat) (A : Option Addr) (vs : List Value) (ns : List (List (List UInt8))) : Prop :=
  Row w H A vs ∧ vs.length = ns.length ∧ ∀ k, k < ns.length → ∃ Ak ck, vs[k]? = some (.slice Ak (ns.getD k []).length ck) ∧ Row w H Ak ((ns.getD k []).map sv) ∧ (ns.getD k []).length ≤ maxLen ∧ ∀ i (h : i < (ns.getD k []).length), ((ns.getD k [])[i]).length ≤ maxLen
theorem NamesIn.below {w w' : World} {H : Nat} {A : Option Addr} {vs : List Value} {ns : List (List (List UInt8))} (h : NamesIn w H A vs ns) (hb : Below H w w') : NamesIn w' H A vs ns := by
  obtain ⟨h1, h2, h3⟩ := h
  refine ⟨h1.below hb, h2, fun k hk => ?_⟩
  obtain ⟨Ak, ck, h4, h5, h6⟩ := h3 k hk
  exact ⟨Ak, ck, h4, h5.below hb, h6⟩
/-- The k-th name's cell, and what it leads to. -/
theorem NamesIn.at_ {w : World} {H : Nat} {A : Option Addr} {vs : List Value} {ns : List (List (List UInt8))} (h : NamesIn w H A vs ns) {k : Nat} (hk : k < ns.length) :
    ∃ b off Ak ck, A = some ⟨b, off, none⟩ ∧ b < H ∧ w.cell? ⟨b, off + k, none⟩ = some (.slice Ak (ns.getD k []).length ck) ∧ Row w H Ak ((ns.getD k []).map sv) ∧ (ns.getD k []).length ≤ maxLen ∧ ∀ i (h : i < (ns.getD k []).length), ((ns.getD k [])[i]).length ≤ maxLen := by
  obtain ⟨h1, h2, h3⟩ := h
  obtain ⟨Ak, ck, h4, h5, h6⟩ := h3 k hk
  obtain ⟨b, off, rfl, hb, hc⟩ := h1.some_ (by omega)
  exact ⟨b, off, Ak, ck, rfl, hb, hc k _ h4, h5, h6⟩

end Go.Proofs.YthppgofpbpjglaaGreat

namespace Go.Proofs.YthppgofpbpjglaaGreat
open Go.ChangeShapes Go.WideShapes Go.ChangeAt Go.RowKit

set_option maxRecDepth 20000 in
/-- A name as it is read: whatever it is. -/
theorem read_name {H : Type} {enc : TypeId × Value → H} {W : World} {fuel : Nat} {v : Value} {x : DataW H × List MemPlace} (hc : Tryz.prog.cellsOf 9 = 1)
    (h : DataW.trod enc Tryz.prog W 0 (fun _ => true) true fuel 22 [v] = some x) (hlt : ∀ y ∈ x.2, y.block < W.heap.size) :
    ∃ (A : Option Addr) (c : Nat) (n : List (List UInt8)), v = .slice A n.length c ∧ Row W W.heap.size A (n.map sv) ∧ n.length ≤ maxLen ∧ (∀ k (h : k < n.length), (n[k]).length ≤ maxLen) ∧ n.length ≤ c := by
  rcases open_strings Tryz.underlying22 Tryz.underlying9 hc h with ⟨hcs, hx⟩ | ⟨a, len, cap, ss, hcs, _, hl, hm, hz, hx, hcell, hwz⟩
  · exact ⟨none, 0, [], by simpa using hcs, Row.empty _ _ _, Nat.zero_le _, fun k h => absurd h (Nat.not_lt_zero _), Nat.le_refl _⟩
  · simp only [List.cons.injEq, and_true] at hcs
    subst hcs
    subst hx
    simp only [if_true] at hz
    have hlen : ((ss.take len).map fun s => s.data.toList).length = len := by simp; omega
    refine ⟨some a, cap, (ss.take len).map fun s => s.data.toList, by rw [hlen], fun hne => ?_, by rw [hlen]; omega, ?_, by rw [hlen]; exact hl⟩
    · have hpos : 0 < ss.length := by
        rcases ss with _ | ⟨z, zs⟩
        · simp at hne
        · simp
      obtain ⟨b, off, spot⟩ := a
      have hspot : spot = none := by simpa [Addr.add] using World.cell?_spot (hcell 0 hpos)
      subst hspot
      refine ⟨b, off, rfl, hlt (.cell b off) (MemPlace.mem_row.2 ⟨0, hpos, by simp⟩), fun j u hu => ?_⟩
      have hjl : j < len := by
        have := (List.getElem?_eq_some_iff.1 hu).1
        simp at this
        omega
      have hj : j < ss.length := by omega
      have h1 := hcell j hj
      rw [addr_add] at h1
      rw [h1]
      have e : ss.getD j ByteArray.empty = ss[j] := by simp [List.getD, List.getElem?_eq_getElem hj]
      rw [List.getElem?_map, List.getElem?_map, List.getElem?_take, if_pos hjl, List.getElem?_eq_getElem hj] at hu
      simp only [Option.map_some] at hu
      rw [← hu, e, string_sv]
    · intro k hk
      have hk' : k < ss.length := by rw [hlen] at hk; omega
      have h2 := hwz ss[k] (List.getElem_mem hk')
      simpa using h2

theorem names_cells : Tryz.prog.cellsOf 22 = 1 := by kernel_rfl

set_option maxRecDepth 20000 in
/-- An argument of names: whatever it is, it reads as names; and no slice is longer than its room. -/
theorem open_row_namesC {H : Type} {enc : TypeId × Value → H} {W : World} {base : Nat} {t : TypeId} {v : Value} {d : DataW H} {p : List MemPlace} (ht : Tryz.prog.underlying t = some (.slice 22))
    (hval : Value.okWide Tryz.prog W .any base t v) (h : DataW.Trod enc Tryz.prog W 0 (fun _ => true) true t v d p) (hlt : ∀ x ∈ p, x.block < W.heap.size) :
    ∃ (A : Option Addr) (c : Nat) (vs : List Value) (ns : List (List (List UInt8))), v = .slice A ns.length c ∧ NamesIn W W.heap.size A vs ns ∧ ns.length ≤ c ∧ c ≤ maxLen ∧ ∀ (k : Nat) (A' : Option Addr) (m' c' : Nat), vs[k]? = some (Value.slice A' m' c') → m' ≤ c' := by
  obtain ⟨a0, len, cap, rfl⟩ := okWide_slice ht hval
  obtain ⟨fuel, hf⟩ := h
  rcases Deep.open_slice1 ht names_cells hf with ⟨hcs, hx⟩ | ⟨a, len', cap', m, n, V, D, Pl, hcs, _, hl, hm, hmm, hx, hy⟩
  · simp [Value.cells] at hcs
    obtain ⟨rfl, rfl, rfl⟩ := hcs
    exact ⟨none, 0, [], [], rfl, ⟨Row.empty _ _ _, rfl, fun k h => absurd h (Nat.not_lt_zero _)⟩, Nat.le_refl _, Nat.zero_le _, fun k A' m' c' h => by simp at h⟩
  · simp [Value.cells] at hcs
    obtain ⟨rfl, rfl, rfl⟩ := hcs
    simp only [if_true] at hmm
    subst hmm
    simp only [Prod.mk.injEq] at hx
    obtain ⟨rfl, rfl⟩ := hx
    have each : ∀ i, i < len → ∃ y : Option Addr × Nat × List (List UInt8), V i = .slice y.1 y.2.2.length y.2.1 ∧ Row W W.heap.size y.1 (y.2.2.map sv) ∧ y.2.2.length ≤ maxLen ∧ (∀ k (h : k < y.2.2.length), (y.2.2[k]).length ≤ maxLen) ∧ y.2.2.length ≤ y.2.1 := by
      intro i hi
      obtain ⟨A, c, n', h1, h2, h3, h4, h5⟩ := read_name str_cells (hy i (by omega)).2 (fun y hy' => hlt y (List.mem_append_right _ (List.mem_flatMap.2 ⟨i, List.mem_range.2 (by omega), hy'⟩)))
      exact ⟨(A, c, n'), h1, h2, h3, h4, h5⟩
    obtain ⟨Y, hY⟩ := Deep.choose_lt each
    have hnl : ((List.range len).map fun i => (Y i).2.2).length = len := by simp
    refine ⟨some a, m, (List.range len).map V, (List.range len).map fun i => (Y i).2.2, by rw [hnl], ⟨fun hne => ?_, by simp, fun k hk => ?_⟩, by rw [hnl]; exact hl, hm, fun k A' m' c' hv => ?_⟩
    · have hpos : 0 < len := by
        rcases len with _ | k
        · simp at hne
        · omega
      obtain ⟨b, off, spot⟩ := a
      have hspot : spot = none := by simpa [Addr.add] using World.cell?_spot (hy 0 (by omega)).1
      subst hspot
      refine ⟨b, off, rfl, hlt (.cell b off) (List.mem_append_left _ (MemPlace.mem_row.2 ⟨0, by omega, by simp⟩)), fun j u hu => ?_⟩
      have hjl : j < len := by
        have := (List.getElem?_eq_some_iff.1 hu).1
        simpa using this
      have h1 := (hy j (by omega)).1
      rw [addr_add] at h1
      rw [h1]
      rw [List.getElem?_map, List.getElem?_range hjl] at hu
      exact hu
    · rw [hnl] at hk
      have hg : ((List.range len).map fun i => (Y i).2.2).getD k [] = (Y k).2.2 := by simp [List.getD, hk]
      rw [hg]
      obtain ⟨h1, h2, h3, h4, _⟩ := hY k hk
      exact ⟨(Y k).1, (Y k).2.1, by simp [hk, h1], h2, h3, h4⟩
    · by_cases hk : k < len
      · rw [List.getElem?_map, List.getElem?_range hk] at hv
        obtain ⟨h1, _, _, _, h5⟩ := hY k hk
        simp only [Option.map_some, Option.some.injEq] at hv
        rw [h1] at hv
        injection hv with e1 e2 e3
        omega
      · rw [List.getElem?_eq_none (by simp; omega)] at hv
        cases hv
set_option maxRecDepth 20000 in
/-- An argument of names: whatever it is, it reads as names. -/
theorem open_row_names {H : Type} {enc : TypeId × Value → H} {W : World} {base : Nat} {t : TypeId} {v : Value} {d : DataW H} {p : List MemPlace} (ht : Tryz.prog.underlying t = some (.slice 22))
    (hval : Value.okWide Tryz.prog W .any base t v) (h : DataW.Trod enc Tryz.prog W 0 (fun _ => true) true t v d p) (hlt : ∀ x ∈ p, x.block < W.heap.size) :
    ∃ (A : Option Addr) (c : Nat) (vs : List Value) (ns : List (List (List UInt8))), v = .slice A ns.length c ∧ NamesIn W W.heap.size A vs ns ∧ ns.length ≤ c ∧ c ≤ maxLen := by
  obtain ⟨A, c, vs, ns, h1, h2, h3, h4, _⟩ := open_row_namesC ht hval h hlt
  exact ⟨A, c, vs, ns, h1, h2, h3, h4⟩

end Go.Proofs.YthppgofpbpjglaaGreat

namespace Go.Proofs.YthppgofpbpjglaaGreat
open Go.ChangeShapes Go.WideShapes Go.ChangeAt Go.RowKit

set_option maxRecDepth 20000 in
/-- Bytes as they are read: whatever they are. -/
theorem read_bytes_c {H : Type} {enc : TypeId × Value → H} {W : World} {fuel : Nat} {v : Value} {x : DataW H × List MemPlace}
    (h : DataW.trod enc Tryz.prog W 0 (fun _ => true) true fuel 35 [v] = some x) (hlt : ∀ y ∈ x.2, y.block < W.heap.size) :
    ∃ (A : Option Addr) (c : Nat) (l : List UInt8), v = .slice A l.length c ∧ Row W W.heap.size A (l.map bc) ∧ l.length ≤ c ∧ c ≤ maxLen := by
  rcases open_ints Tryz.underlying35 Tryz.underlying5 u8_cells h with ⟨hcs, hx⟩ | ⟨a, len, cap, zs, hcs, _, hl, hm, hz, hx, hcell, hwz⟩
  · exact ⟨none, 0, [], by simpa using hcs, Row.empty _ _ _, Nat.le_refl _, Nat.zero_le _⟩
  · simp only [List.cons.injEq, and_true] at hcs
    subst hcs
    subst hx
    simp only [if_true] at hz
    have hlen : ((zs.take len).map fun n => UInt8.ofNat n.toNat).length = len := by simp; omega
    refine ⟨some a, cap, (zs.take len).map fun n => UInt8.ofNat n.toNat, by rw [hlen], fun hne => ?_, by rw [hlen]; exact hl, hm⟩
    have hpos : 0 < zs.length := by
      rcases zs with _ | ⟨z, zs⟩
      · simp at hne
      · simp
    obtain ⟨b, off, spot⟩ := a
    have hspot : spot = none := by simpa [Addr.add] using World.cell?_spot (hcell 0 hpos)
    subst hspot
    refine ⟨b, off, rfl, hlt (.cell b off) (MemPlace.mem_row.2 ⟨0, hpos, by simp⟩), fun j u hu => ?_⟩
    have hjl : j < len := by
      have := (List.getElem?_eq_some_iff.1 hu).1
      simp at this
      omega
    have hj : j < zs.length := by omega
    have h1 := hcell j hj
    rw [addr_add] at h1
    rw [h1]
    have e : zs.getD j 0 = zs[j] := by simp [List.getD, List.getElem?_eq_getElem hj]
    rw [List.getElem?_map, List.getElem?_map, List.getElem?_take, if_pos hjl, List.getElem?_eq_getElem hj] at hu
    simp only [Option.map_some] at hu
    rw [← hu, e, bc_of_int _ (hwz _ (List.getElem_mem hj))]

theorem int_cells : Tryz.prog.cellsOf 3 = 1 := by kernel_rfl
set_option maxRecDepth 20000 in
/-- Numbers as they are read: whatever they are. -/
theorem read_ints {H : Type} {enc : TypeId × Value → H} {W : World} {fuel : Nat} {v : Value} {x : DataW H × List MemPlace}
    (h : DataW.trod enc Tryz.prog W 0 (fun _ => true) true fuel 36 [v] = some x) (hlt : ∀ y ∈ x.2, y.block < W.heap.size) :
    ∃ (A : Option Addr) (c : Nat) (l : List Int), v = .slice A l.length c ∧ Row W W.heap.size A (l.map zv) ∧ l.length ≤ c ∧ c ≤ maxLen ∧ ∀ n ∈ l, (Lit.int .i64 n).wf = true := by
  rcases open_ints Tryz.underlying36 Tryz.underlying3 int_cells h with ⟨hcs, hx⟩ | ⟨a, len, cap, zs, hcs, _, hl, hm, hz, hx, hcell, hwz⟩
  · exact ⟨none, 0, [], by simpa using hcs, Row.empty _ _ _, Nat.le_refl _, Nat.zero_le _, fun n hn => absurd hn (List.not_mem_nil)⟩
  · simp only [List.cons.injEq, and_true] at hcs
    subst hcs
    subst hx
    simp only [if_true] at hz
    have hlen : (zs.take len).length = len := by simp; omega
    refine ⟨some a, cap, zs.take len, by rw [hlen], fun hne => ?_, by rw [hlen]; exact hl, hm, fun n hn => hwz n (List.mem_of_mem_take hn)⟩
    have hpos : 0 < zs.length := by
      rcases zs with _ | ⟨z, zs⟩
      · simp at hne
      · simp
    obtain ⟨b, off, spot⟩ := a
    have hspot : spot = none := by simpa [Addr.add] using World.cell?_spot (hcell 0 hpos)
    subst hspot
    refine ⟨b, off, rfl, hlt (.cell b off) (MemPlace.mem_row.2 ⟨0, hpos, by simp⟩), fun j u hu => ?_⟩
    have hjl : j < len := by
      have := (List.getElem?_eq_some_iff.1 hu).1
      simp at this
      omega
    have hj : j < zs.length := by omega
    have h1 := hcell j hj
    rw [addr_add] at h1
    rw [h1]
    have e : zs.getD j 0 = zs[j] := by simp [List.getD, List.getElem?_eq_getElem hj]
    rw [List.getElem?_map, List.getElem?_take, if_pos hjl, List.getElem?_eq_getElem hj] at hu
    simp only [Option.map_some] at hu
    rw [← hu, e, zv]

/-- What a statement's data is. -/
structure DIn (d : Dt) : Prop where
  h : d.host.length ≤ maxLen
  m : d.mail.length ≤ maxLen
  t : d.texts.length ≤ maxLen
  lh : ∀ k (h : k < d.host.length), (d.host[k]).length ≤ maxLen
  lm : ∀ k (h : k < d.mail.length), (d.mail[k]).length ≤ maxLen
  lt : ∀ k (h : k < d.texts.length), (d.texts[k]).length ≤ maxLen
  n : ∀ n ∈ d.nums, (Lit.int .i64 n).wf = true

theorem byts_cells : Tryz.prog.cellsOf 35 = 1 := by kernel_rfl
theorem inss_cells : Tryz.prog.cellsOf 36 = 1 := by kernel_rfl
theorem data_cells : Tryz.prog.cellsOf 38 = 5 := by kernel_rfl

set_option maxRecDepth 20000 in
theorem open_data {H : Type} {enc : TypeId × Value → H} {W : World} {base : Nat} {v : Value} {d : DataW H} {p : List MemPlace}
    (hval : Value.okWide Tryz.prog W .any base 38 v) (h : DataW.Trod enc Tryz.prog W 0 (fun _ => true) true 38 v d p) (hlt : ∀ x ∈ p, x.block < W.heap.size) :
    ∃ (x : DV) (dd : Dt), v = x.val dd ∧ DataAt W W.heap.size x dd ∧ DIn dd := by
  unfold Value.okWide at hval
  rw [Tryz.underlying38] at hval
  obtain ⟨cs0, rfl, hsz, _⟩ := hval
  obtain ⟨fuel, hf⟩ := h
  obtain ⟨xs, k, _, hx, hcl, hxl, hfs⟩ := DataW.trod_struct Tryz.underlying38 hf
  obtain ⟨cs⟩ := cs0
  simp only [Value.cells] at hf hcl hfs
  have hp : p = xs.flatMap (·.2) := by simpa using congrArg Prod.snd hx
  have hin : ∀ z ∈ xs, ∀ y ∈ z.2, y.block < W.heap.size := fun z hz y hyz => hlt y (by rw [hp]; exact List.mem_flatMap.2 ⟨z, hz, hyz⟩)
  have hxl5 : xs.length = 5 := hxl
  have hc5 : cs.length = 5 := by rw [data_cells] at hcl; simpa using hcl
  clear hx hp hf hcl hsz
  match cs, hc5, xs, hxl5, hfs, hin with
  | [c0, c1, c2, c3, c4], _, [y0, y1, y2, y3, y4], _, hfs, hin =>
    have g0 := hfs 0 _ rfl
    have g1 := hfs 1 _ rfl
    have g2 := hfs 2 _ rfl
    have g3 := hfs 3 _ rfl
    have g4 := hfs 4 _ rfl
    simp only [List.getElem?_cons_zero, List.getElem?_cons_succ] at g0 g1 g2 g3 g4
    obtain ⟨Ab, cb, l0, e0, r0, a0, b0⟩ := read_bytes_c g0 (hin y0 (by simp))
    obtain ⟨Ah, ch, l1, e1, r1, a1, b1, d1⟩ := read_name str_cells g1 (hin y1 (by simp))
    obtain ⟨Am, cm, l2, e2, r2, a2, b2, d2⟩ := read_name str_cells g2 (hin y2 (by simp))
    obtain ⟨An, cn, l3, e3, r3, a3, b3, d3⟩ := read_ints g3 (hin y3 (by simp))
    obtain ⟨At, ct, l4, e4, r4, a4, b4, d4⟩ := read_name str_cells g4 (hin y4 (by simp))
    subst e0 e1 e2 e3 e4
    exact ⟨⟨Ab, Ah, Am, An, At, cb, ch, cm, cn, ct⟩, ⟨l0, l1, l2, l3, l4⟩, rfl, ⟨r0, r1, r2, r3, r4, a0, d1, d2, a3, d4, b0, b3⟩, ⟨a1, a2, a4, b1, b2, b4, d3⟩⟩

end Go.Proofs.YthppgofpbpjglaaGreat

namespace Go.Proofs.YthppgofpbpjglaaGreat
open Go.ChangeShapes Go.WideShapes Go.ChangeAt Go.RowKit

set_option maxRecDepth 20000 in
theorem read_data {H : Type} {enc : TypeId × Value → H} {W : World} {fuel : Nat} {cs : List Value} {z : DataW H × List MemPlace}
    (h : DataW.trod enc Tryz.prog W 0 (fun _ => true) true fuel 38 cs = some z) (hlt : ∀ y ∈ z.2, y.block < W.heap.size) :
    ∃ (x : DV) (dd : Dt), cs = cellsD (x, dd) ∧ DataAt W W.heap.size x dd ∧ DIn dd := by
  obtain ⟨xs, k, _, hx, hcl, hxl, hfs⟩ := DataW.trod_struct Tryz.underlying38 h
  have hp : z.2 = xs.flatMap (·.2) := by simpa using congrArg Prod.snd hx
  have hin : ∀ z ∈ xs, ∀ y ∈ z.2, y.block < W.heap.size := fun z hz y hyz => hlt y (by rw [hp]; exact List.mem_flatMap.2 ⟨z, hz, hyz⟩)
  have hxl5 : xs.length = 5 := hxl
  have hc5 : cs.length = 5 := by rw [data_cells] at hcl; exact hcl
  clear hx hp h hcl
  match cs, hc5, xs, hxl5, hfs, hin with
  | [c0, c1, c2, c3, c4], _, [y0, y1, y2, y3, y4], _, hfs, hin =>
    have g0 := hfs 0 _ rfl
    have g1 := hfs 1 _ rfl
    have g2 := hfs 2 _ rfl
    have g3 := hfs 3 _ rfl
    have g4 := hfs 4 _ rfl
    simp only [List.getElem?_cons_zero, List.getElem?_cons_succ] at g0 g1 g2 g3 g4
    obtain ⟨Ab, cb, l0, e0, r0, a0, b0⟩ := read_bytes_c g0 (hin y0 (by simp))
    obtain ⟨Ah, ch, l1, e1, r1, a1, b1, d1⟩ := read_name str_cells g1 (hin y1 (by simp))
    obtain ⟨Am, cm, l2, e2, r2, a2, b2, d2⟩ := read_name str_cells g2 (hin y2 (by simp))
    obtain ⟨An, cn, l3, e3, r3, a3, b3, d3⟩ := read_ints g3 (hin y3 (by simp))
    obtain ⟨At, ct, l4, e4, r4, a4, b4, d4⟩ := read_name str_cells g4 (hin y4 (by simp))
    subst e0 e1 e2 e3 e4
    exact ⟨⟨Ab, Ah, Am, An, At, cb, ch, cm, cn, ct⟩, ⟨l0, l1, l2, l3, l4⟩, rfl, ⟨r0, r1, r2, r3, r4, a0, d1, d2, a3, d4, b0, b3⟩, ⟨a1, a2, a4, b1, b2, b4, d3⟩⟩
theorem DIn.wide {d : Dt} (h : DIn d) : Wide d := ⟨⟨h.h, h.lh⟩, ⟨h.m, h.lm⟩, h.t⟩

set_option maxRecDepth 20000 in
theorem read_rr {H : Type} {enc : TypeId × Value → H} {W : World} {fuel : Nat} {cs : List Value} {z : DataW H × List MemPlace}
    (h : DataW.trod enc Tryz.prog W 0 (fun _ => true) true fuel 46 cs = some z) (hlt : ∀ y ∈ z.2, y.block < W.heap.size) :
    ∃ (x : RV) (r : Rt), cs = cellsR (x, r) ∧ RAt W W.heap.size x r ∧ RIn r := by
  obtain ⟨xs, k, _, hx, hcl, hxl, hfs⟩ := DataW.trod_struct Tryz.underlying46 h
  have hp : z.2 = xs.flatMap (·.2) := by simpa using congrArg Prod.snd hx
  have hin : ∀ z ∈ xs, ∀ y ∈ z.2, y.block < W.heap.size := fun z hz y hyz => hlt y (by rw [hp]; exact List.mem_flatMap.2 ⟨z, hz, hyz⟩)
  have hxl5 : xs.length = 5 := hxl
  have hc9 : cs.length = 9 := by rw [rr_cells] at hcl; exact hcl
  clear hx hp h hcl
  match cs, hc9, xs, hxl5, hfs, hin with
  | [c0, c1, c2, c3, c4, c5, c6, c7, c8], _, [y0, y1, y2, y3, y4], _, hfs, hin =>
    have g0 := hfs 0 _ rfl
    have g1 := hfs 1 _ rfl
    have g2 := hfs 2 _ rfl
    have g3 := hfs 3 _ rfl
    have g4 := hfs 4 _ rfl
    simp only [List.getElem?_cons_zero, List.getElem?_cons_succ] at g0 g1 g2 g3 g4
    obtain ⟨An, cn, n, e0, hRn, hn1, hn2, hn3⟩ := read_name str_cells g0 (hin y0 (by simp))
    obtain ⟨z1, e1, _, w1⟩ := DataW.trod_int Tryz.underlying3 g1
    obtain ⟨z2, e2, _, w2⟩ := DataW.trod_int Tryz.underlying3 g2
    obtain ⟨z3, e3, _, w3⟩ := DataW.trod_int Tryz.underlying3 g3
    obtain ⟨x, dd, e4, hd, hi⟩ := read_data g4 (hin y4 (by simp))
    cases e1; cases e2; cases e3
    subst e0
    unfold cellsD at e4
    injection e4 with f0 e4
    injection e4 with f1 e4
    injection e4 with f2 e4
    injection e4 with f3 e4
    injection e4 with f4 _
    subst f0 f1 f2 f3 f4
    exact ⟨⟨An, cn, x⟩, ⟨n, z1, z2, z3, dd⟩, rfl, ⟨hRn, hn3, hd⟩, ⟨⟨hn1, hn2⟩, w1, w2, w3, hi.wide, hi.lt, hi.n⟩⟩

theorem addr_add_add (a : Addr) (m n : Nat) : (a.add m).add n = a.add (m + n) := by
  unfold Addr.add
  by_cases h1 : m = 0 <;> by_cases h2 : n = 0 <;> simp [h1, h2] <;> omega
set_option maxRecDepth 20000 in
/-- A slice of things that take k cells each, as it is read. -/
theorem open_parts {α : Type} (f : α → List Value) (k : Nat) (hf : ∀ p, (f p).length = k) (hk : 0 < k) (Q : World → Nat → α → Prop) {H : Type} {enc : TypeId × Value → H} {W : World} {base : Nat} {t e : TypeId} {v : Value} {d : DataW H} {p : List MemPlace}
    (ht : Tryz.prog.underlying t = some (.slice e)) (hce : Tryz.prog.cellsOf e = k) (hs : ∀ p : α, ∃ u, (f p)[0]? = some u)
    (hr : ∀ (fuel : Nat) (cs : List Value) (z : DataW H × List MemPlace), DataW.trod enc Tryz.prog W 0 (fun _ => true) true fuel e cs = some z → (∀ y ∈ z.2, y.block < W.heap.size) → ∃ p, cs = f p ∧ Q W W.heap.size p)
    (hval : Value.okWide Tryz.prog W .any base t v) (h : DataW.Trod enc Tryz.prog W 0 (fun _ => true) true t v d p) (hlt : ∀ x ∈ p, x.block < W.heap.size) :
    ∃ (A : Option Addr) (c : Nat) (ps : List α), v = .slice A ps.length c ∧ Row W W.heap.size A (ps.flatMap f) ∧ (∀ p ∈ ps, Q W W.heap.size p) ∧ ps.length ≤ c ∧ c ≤ maxLen := by
  obtain ⟨a0, len, cap, rfl⟩ := okWide_slice ht hval
  obtain ⟨fuel, hf1⟩ := h
  rcases Deep.open_slice ht hf1 with ⟨hcs, hx⟩ | ⟨a, len', cap', m, n, D, Pl, hcs, _, hl, hm, hmm, hx, hy⟩
  · simp [Value.cells] at hcs
    obtain ⟨rfl, rfl, rfl⟩ := hcs
    exact ⟨none, 0, [], rfl, Row.empty _ _ _, fun p h => absurd h (List.not_mem_nil), Nat.zero_le _, Nat.zero_le _⟩
  · simp [Value.cells] at hcs
    obtain ⟨rfl, rfl, rfl⟩ := hcs
    simp only [if_true] at hmm
    subst hmm
    simp only [Prod.mk.injEq] at hx
    obtain ⟨rfl, rfl⟩ := hx
    rw [hce] at hy hlt
    rcases Nat.eq_zero_or_pos len with rfl | hpos
    · exact ⟨some a, m, [], rfl, Row.empty _ _ _, fun p h => absurd h (List.not_mem_nil), Nat.zero_le _, hm⟩
    have each : ∀ i, i < len → ∃ y : α, (∀ j v, (f y)[j]? = some v → W.cell? (a.add (i * k + j)) = some v) ∧ Q W W.heap.size y := by
      intro i hi
      obtain ⟨cs, hc, hr1⟩ := hy i (by omega)
      obtain ⟨y, rfl, hq⟩ := hr _ _ _ hr1 fun y hyz => hlt y (List.mem_append_right _ (List.mem_flatMap.2 ⟨i, List.mem_range.2 (by omega), hyz⟩))
      obtain ⟨_, _, hat⟩ := World.cells?_some hc
      refine ⟨y, fun j v hj => ?_, hq⟩
      have hjk : j < k := by
        have := (List.getElem?_eq_some_iff.1 hj).1
        rwa [hf] at this
      have := hat j hjk
      rw [hj, addr_add_add] at this
      exact this
    obtain ⟨y0, hy0, _⟩ := each 0 hpos
    obtain ⟨u0, hu0⟩ := hs y0
    obtain ⟨b, off, spot⟩ := a
    have hspot : spot = none := by
      have h := World.cell?_spot (hy0 0 _ hu0)
      simpa [Addr.add] using h
    subst hspot
    haveI : Inhabited α := ⟨y0⟩
    obtain ⟨Y, hY⟩ := Deep.choose_lt each
    have hnl : ((List.range len).map Y).length = len := by simp
    refine ⟨some ⟨b, off, none⟩, m, (List.range len).map Y, by rw [hnl], fun _ => ⟨b, off, rfl, hlt (.cell b off) (List.mem_append_left _ (MemPlace.mem_row.2 ⟨0, Nat.mul_pos (by omega) hk, by simp⟩)), fun j u hu => ?_⟩, fun p hp => ?_, by rw [hnl]; exact hl, hm⟩
    · have hj := (List.getElem?_eq_some_iff.1 hu).1
      rw [length_flat hf, hnl] at hj
      have hq : j / k < len := (Nat.div_lt_iff_lt_mul hk).2 hj
      have hr := Nat.mod_lt j hk
      have e : j = j / k * k + j % k := by rw [Nat.mul_comm]; exact (Nat.div_add_mod j k).symm
      have h1 := (hY (j / k) hq).1 (j % k) u
      rw [e, flat_get hf _ _ _ (by rw [hnl]; exact hq) hr] at hu
      rw [← e, addr_add] at h1
      exact h1 (by simpa using hu)
    · obtain ⟨i, hi, rfl⟩ := List.mem_map.1 hp
      exact (hY i (List.mem_range.1 hi)).2

set_option maxRecDepth 20000 in
theorem open_rrs {H : Type} {enc : TypeId × Value → H} {W : World} {base : Nat} {t : TypeId} {v : Value} {d : DataW H} {p : List MemPlace} (ht : Tryz.prog.underlying t = some (.slice 46))
    (hval : Value.okWide Tryz.prog W .any base t v) (h : DataW.Trod enc Tryz.prog W 0 (fun _ => true) true t v d p) (hlt : ∀ x ∈ p, x.block < W.heap.size) :
    ∃ (A : Option Addr) (c : Nat) (ps : List (RV × Rt)), v = .slice A ps.length c ∧ RsAt W W.heap.size A ps ∧ (∀ p ∈ ps, RIn p.2) ∧ ps.length ≤ c ∧ c ≤ maxLen := by
  obtain ⟨A, c, ps, hv, hR, hQ, h1, h2⟩ := open_parts cellsR 9 cellsR_len (by omega) (fun W H p => RAt W H p.1 p.2 ∧ RIn p.2) ht rr_cells (fun p => ⟨_, rfl⟩)
    (fun fuel cs z hz hlz => by
      obtain ⟨x, r, e, h1, h2⟩ := read_rr hz hlz
      exact ⟨(x, r), e, h1, h2⟩) hval h hlt
  exact ⟨A, c, ps, hv, ⟨hR, fun p hp => (hQ p hp).1⟩, fun p hp => (hQ p hp).2, h1, h2⟩
set_option maxRecDepth 20000 in
theorem open_dats {H : Type} {enc : TypeId × Value → H} {W : World} {base : Nat} {t : TypeId} {v : Value} {d : DataW H} {p : List MemPlace} (ht : Tryz.prog.underlying t = some (.slice 38))
    (hval : Value.okWide Tryz.prog W .any base t v) (h : DataW.Trod enc Tryz.prog W 0 (fun _ => true) true t v d p) (hlt : ∀ x ∈ p, x.block < W.heap.size) :
    ∃ (A : Option Addr) (c : Nat) (ps : List (DV × Dt)), v = .slice A ps.length c ∧ DsAt W W.heap.size A ps ∧ (∀ p ∈ ps, DIn p.2) ∧ ps.length ≤ c ∧ c ≤ maxLen := by
  obtain ⟨A, c, ps, hv, hR, hQ, h1, h2⟩ := open_parts cellsD 5 cellsD_len (by omega) (fun W H p => DataAt W H p.1 p.2 ∧ DIn p.2) ht data_cells (fun p => ⟨_, rfl⟩)
    (fun fuel cs z hz hlz => by
      obtain ⟨x, r, e, h1, h2⟩ := read_data hz hlz
      exact ⟨(x, r), e, h1, h2⟩) hval h hlt
  exact ⟨A, c, ps, hv, ⟨hR, fun p hp => (hQ p hp).1⟩, fun p hp => (hQ p hp).2, h1, h2⟩

end Go.Proofs.YthppgofpbpjglaaGreat

namespace Go.Proofs.YthppgofpbpjglaaGreat
open Go.ChangeShapes Go.WideShapes Go.ChangeAt Go.RowKit

theorem quest_cells : Tryz.prog.cellsOf 24 = 3 := by kernel_rfl

set_option maxRecDepth 20000 in
theorem open_question {H : Type} {enc : TypeId × Value → H} {W : World} {base : Nat} {v : Value} {d : DataW H} {p : List MemPlace}
    (hval : Value.okWide Tryz.prog W .any base 24 v) (h : DataW.Trod enc Tryz.prog W 0 (fun _ => true) true 24 v d p) (hlt : ∀ x ∈ p, x.block < W.heap.size) :
    ∃ (y : QV) (q : Qt), v = .agg #[.slice y.1 q.name.length y.2, .int .i64 q.kind, .int .i64 q.cls] ∧ QAt W W.heap.size y q ∧ WideN q.name ∧ (Lit.int .i64 q.kind).wf = true ∧ (Lit.int .i64 q.cls).wf = true := by
  unfold Value.okWide at hval
  rw [Tryz.underlying24] at hval
  obtain ⟨cs0, rfl, hsz, _⟩ := hval
  obtain ⟨fuel, hf⟩ := h
  obtain ⟨xs, k, _, hx, hcl, hxl, hfs⟩ := DataW.trod_struct Tryz.underlying24 hf
  obtain ⟨cs⟩ := cs0
  simp only [Value.cells] at hf hcl hfs
  have hp : p = xs.flatMap (·.2) := by simpa using congrArg Prod.snd hx
  have hin : ∀ z ∈ xs, ∀ y ∈ z.2, y.block < W.heap.size := fun z hz y hyz => hlt y (by rw [hp]; exact List.mem_flatMap.2 ⟨z, hz, hyz⟩)
  have hxl3 : xs.length = 3 := hxl
  have hc3 : cs.length = 3 := by rw [quest_cells] at hcl; simpa using hcl
  clear hx hp hf hcl hsz
  match cs, hc3, xs, hxl3, hfs, hin with
  | [c0, c1, c2], _, [y0, y1, y2], _, hfs, hin =>
    have g0 := hfs 0 _ rfl
    have g1 := hfs 1 _ rfl
    have g2 := hfs 2 _ rfl
    simp only [List.getElem?_cons_zero, List.getElem?_cons_succ] at g0 g1 g2
    obtain ⟨An, cn, n, e0, hRn, hn1, hn2, _⟩ := read_name str_cells g0 (hin y0 (by simp))
    obtain ⟨z1, e1, _, w1⟩ := DataW.trod_int Tryz.underlying3 g1
    obtain ⟨z2, e2, _, w2⟩ := DataW.trod_int Tryz.underlying3 g2
    cases e1
    cases e2
    subst e0
    exact ⟨(An, cn), ⟨n, z1, z2⟩, rfl, hRn, ⟨hn1, hn2⟩, w1, w2⟩

end Go.Proofs.YthppgofpbpjglaaGreat

namespace Go.Proofs.YthppgofpbpjglaaGreat
open Go.RowKit

/-- A reader's cells: the bytes, the place, the message. -/
def rdCells (vb : Value) (p : Nat) (h : Hd) (vq v0 v1 v2 : Value) : List Value :=
  [vb, .int .i64 p, .int .i64 h.id, .bool h.resp, .int .i64 h.op, .bool h.aa, .bool h.tc, .bool h.rd, .bool h.ra, .int .i64 h.rc, vq, v0, v1, v2, .bool h.edns, .int .i64 h.size]

/-- Only the block g may have turned. -/
abbrev GrewM (g : Nat) (w w' : World) : Prop := Grew (fun j => j = g) w w'
section
variable {w : World} {g p : Nat} {vb vq : Value} {h : Hd} {v : Nat → Value}




end
























def setHd (h : Hd) (j : Nat) (b : Bool) : Hd := if j = 0 then { h with resp := b } else if j = 1 then { h with aa := b } else if j = 2 then { h with tc := b } else if j = 3 then { h with rd := b } else { h with ra := b }
/-- What is known of the flags, j of the five bits. -/
def flagsTo (h : Hd) (f : Nat) : Nat → Hd
  | 0 => { h with op := ((f / 2048 % 16 : Nat) : Int), rc := ((f % 16 : Nat) : Int) }
  | j + 1 => setHd (flagsTo h f j) j (decide (f / 2 ^ posF j % 2 = 1))
theorem flagsTo_five (h : Hd) (f : Nat) : flagsTo h f 5 = { hdOf 0 f h.edns h.size with id := h.id } := rfl















theorem and_mask (x k : Nat) (hx : x < 65536) : bits .and .i64 (x : Int) ((2 ^ k - 1 : Nat) : Int) = ((x % 2 ^ k : Nat) : Int) ∨ 16 < k := by
  by_cases hk : 16 < k
  · exact .inr hk
  have hk2 : 2 ^ k ≤ 2 ^ 16 := Nat.pow_le_pow_right (by omega) (by omega)
  have hm : x % 2 ^ k ≤ x := Nat.mod_le _ _
  have h1 : (BitVec.ofInt 64 (x : Int)).toNat = x := by
    rw [BitVec.ofInt_natCast, BitVec.toNat_ofNat]; exact Nat.mod_eq_of_lt (by omega)
  have h2 : (BitVec.ofInt 64 ((2 ^ k - 1 : Nat) : Int)).toNat = 2 ^ k - 1 := by
    rw [BitVec.ofInt_natCast, BitVec.toNat_ofNat]; exact Nat.mod_eq_of_lt (by omega)
  left
  show IntKind.i64.wrap ((BitVec.ofInt 64 (x : Int) &&& BitVec.ofInt 64 ((2 ^ k - 1 : Nat) : Int)).toNat : Int) = _
  rw [BitVec.toNat_and, h1, h2, Nat.and_two_pow_sub_one_eq_mod, IntKind.wrap_i64]
  omega
theorem and_15 {x : Nat} (hx : x < 65536) : bits .and .i64 (x : Int) 15 = ((x % 16 : Nat) : Int) := by
  rcases and_mask x 4 hx with h | h
  · exact h
  · omega
theorem and_1 {x : Nat} (hx : x < 65536) : bits .and .i64 (x : Int) 1 = ((x % 2 : Nat) : Int) := by
  rcases and_mask x 1 hx with h | h
  · exact h
  · omega
theorem shift_bit {f j : Nat} (hf : f < 65536) (_ : j < 5) : bits .and .i64 ((f : Int) / 2 ^ posF j) 1 = (f : Int) / 2 ^ posF j % 2 ∧ ((f : Int) / 2 ^ posF j % 2 == 1) = decide (f / 2 ^ posF j % 2 = 1) := by
  have h0 : f / 2 ^ posF j ≤ f := Nat.div_le_self _ _
  have h1 := and_1 (x := f / 2 ^ posF j) (by omega)
  have e : ((f / 2 ^ posF j : Nat) : Int) = (f : Int) / 2 ^ posF j := by push_cast; rfl
  rw [e] at h1
  refine ⟨by rw [h1, ← e]; push_cast; rfl, ?_⟩
  rw [← e]
  generalize f / 2 ^ posF j = z
  by_cases hz : z % 2 = 1
  · rw [decide_eq_true hz, beq_iff_eq]; omega
  · rw [decide_eq_false hz, beq_eq_false_iff_ne]; omega


















































































end Go.Proofs.YthppgofpbpjglaaGreat

namespace Go.Proofs.YthppgofpbpjglaaGreat
open Go.RowKit

theorem q_info : (Tryz.prog.info? 24).map (fun i => (i.zero, i.size, i.bytes)) = some (some (.agg #[.slice none 0 0, .int .i64 0, .int .i64 0]), 3, 40) := by kernel_rfl
/-- A row of questions of the call's own. -/
structure QRow (w : World) (B : Nat) (v : Value) (qs : List (QV × Qt)) : Prop where
  row : w.ownsRow B 24 3 v qs.length (qs.flatMap cellsQ)
  each : ∀ q ∈ qs, w.ownsRow B 9 1 (.slice q.1.1 q.2.name.length q.1.2) q.2.name.length (q.2.name.map sv)
section
variable {w w' : World} {B : Nat} {v v' : Value} {qs : List (QV × Qt)}
theorem QRow.keep (h : QRow w B v qs) (hk : ∀ j, B ≤ j → j < w.heap.size → w'.heap[j]? = w.heap[j]?) : QRow w' B v qs :=
  ⟨own_keep h.row fun j hj => hk j (h.row.lt j hj).1 (h.row.lt j hj).2, fun q hq => own_keep (h.each q hq) fun j hj => hk j ((h.each q hq).lt j hj).1 ((h.each q hq).lt j hj).2⟩
theorem QRow.nil (w : World) (B : Nat) : QRow w B (.slice none 0 0) [] := ⟨World.ownsRow_nil _ _ _ _, fun _ h => absurd h (List.not_mem_nil)⟩
theorem QRow.snoc (h : QRow w B v qs) {y : QV} {q : Qt} (hy : w.ownsRow B 9 1 (.slice y.1 q.name.length y.2) q.name.length (q.name.map sv)) (ho : w'.ownsRow B 24 3 v' (qs.length + 1) (qs.flatMap cellsQ ++ cellsQ (y, q)))
    (hg : w.grownBy w' v.ownBlock) : QRow w' B v' (qs ++ [(y, q)]) := by
  have hk : ∀ {u : Value} {n : Nat} {ys : List Value}, w.ownsRow B 9 1 u n ys → ∀ j, u.ownBlock = some j → w'.heap[j]? = w.heap[j]? := fun hs j hj =>
    hg.block j (hs.lt j hj).2 (Ne.symm (own_apartR hs h.row (by decide) hj))
  refine ⟨by rw [List.length_append, List.flatMap_append]; simpa using ho, fun p hp => ?_⟩
  rcases List.mem_append.1 hp with hp | hp
  · exact own_keep (h.each p hp) (hk (h.each p hp))
  · rw [List.mem_singleton.1 hp]
    exact own_keep hy (hk hy)
end
/-- Only the block g, and those from B on, may have turned. -/
abbrev GrewB (g B : Nat) (w w' : World) : Prop := Grew (fun j => j = g ∨ B ≤ j) w w'
theorem GrewM.wide {g B : Nat} {w w' : World} (h : GrewM g w w') : GrewB g B w w' := Grew.mono h fun _ hj => .inl (.inl hj)
theorem GrewB.step {g B : Nat} {w w' w'' : World} (h : GrewB g B w w') (k : GrewB g B w' w'') : GrewB g B w w'' := Grew.trans h k fun _ hj => .inl hj
theorem row_under {w w' : World} {g B : Nat} {A : Option Addr} {xs : List Value} (h : Row w g A xs) (hg : GrewB g B w w') (hgw : g ≤ w.heap.size) (hgB : g < B) : Row w' g A xs := h.grew hg hgw fun j hj => by rcases hj with h1 | h1 <;> omega
def NameRel1 (w : World) (n : List (List UInt8)) (x k : Nat) (s3 s4 s5 : Value) (wx : World) : Prop :=
  ∃ A c, s3 = .slice A n.length c ∧ s4 = .int .i64 x ∧ s5 = .int .i64 k ∧ wx.ownsRow w.heap.size 9 1 (.slice A n.length c) n.length (n.map sv) ∧ Below w.heap.size w wx




































































































































































theorem getQ_le {b : List UInt8} {p : Nat} (_ : (getQ b p).2.2 = 0) : (getQ b p).2.1 ≤ b.length := by
  unfold getQ at *
  split
  · exact Nat.zero_le _
  · split
    · exact Nat.zero_le _
    · split
      · exact Nat.zero_le _
      · dsimp only
        omega











































































end Go.Proofs.YthppgofpbpjglaaGreat

namespace Go.Proofs.YthppgofpbpjglaaGreat
open Go.RowKit

/-- A row of records of the call's own. -/
structure RecRow (w : World) (B : Nat) (v : Value) (ps : List (RV × Rt)) : Prop where
  row : w.ownsRow B 46 9 v ps.length (ps.flatMap cellsR)
  each : ∀ p ∈ ps, OwnR w B p.1 p.2
section
variable {w w' : World} {B : Nat} {v v' : Value} {ps : List (RV × Rt)}
theorem RecRow.keep (h : RecRow w B v ps) (hk : ∀ j, B ≤ j → j < w.heap.size → w'.heap[j]? = w.heap[j]?) : RecRow w' B v ps :=
  ⟨own_keep h.row fun j hj => hk j (h.row.lt j hj).1 (h.row.lt j hj).2, fun q hq => (h.each q hq).keepB hk⟩
theorem RecRow.nil (w : World) (B : Nat) : RecRow w B (.slice none 0 0) [] := ⟨World.ownsRow_nil _ _ _ _, fun _ h => absurd h (List.not_mem_nil)⟩
theorem RecRow.snoc (h : RecRow w B v ps) {y : RV} {r : Rt} (hy : OwnR w B y r) (ho : w'.ownsRow B 46 9 v' (ps.length + 1) (ps.flatMap cellsR ++ cellsR (y, r))) (hg : w.grownBy w' v.ownBlock) : RecRow w' B v' (ps ++ [(y, r)]) := by
  refine ⟨by rw [List.length_append, List.flatMap_append]; simpa using ho, fun q hq => ?_⟩
  rcases List.mem_append.1 hq with hq | hq
  · exact (h.each q hq).grown h.row hg
  · rw [List.mem_singleton.1 hq]
    exact hy.grown h.row hg
end
def upd (v : Nat → Value) (i : Nat) (u : Value) : Nat → Value := fun j => if j = i then u else v j
section
variable {w : World} {g p : Nat} {vb vq : Value} {h : Hd} {v : Nat → Value}











theorem upd_same (v : Nat → Value) (i : Nat) : upd v i (v i) = v := by
  funext j
  unfold upd
  split
  · rename_i h; rw [h]
  · rfl
end
theorem getRR_le {b : List UInt8} {p : Nat} (_ : (getRR b (p : Int)).2.2 = 0) : (getRR b (p : Int)).2.1 ≤ b.length := by
  unfold getRR at *
  split
  · exact Nat.zero_le _
  · split
    · exact Nat.zero_le _
    · split
      · exact Nat.zero_le _
      · split
        · exact Nat.zero_le _
        · rename_i h1 h2 h3 h4
          dsimp only
          have h5 : (getD b (((getW b (p : Int)).2.1 : Int) + 10) (numAt b ((getW b (p : Int)).2.1 + 8) 2) (numAt b (getW b (p : Int)).2.1 2)).2 = 0 := by omega
          unfold getD at h5
          split at h5
          · cases h5
          · split at h5
            · cases h5
            · omega
theorem run_neq_ptr_same {P : Program} (w : World) {tp te : TypeId} {j : TypeInfo} (a : Addr) (hp : P.underlying tp = some (.pointer te)) (hte : P.info? te = some j) :
    (binOp .neq tp (.pointer (some a)) (.pointer (some a))).run P w = .ok (.bool false) w := by
  have h : ∀ d : Nat, (Op.equalIn (d + 1) tp (.pointer (some a)) (.pointer (some a))).run P w = .ok true w := fun d => by
    simp [Op.equalIn, run_underlying hp, sizeOf, typeInfo, hte, run_sameAddr_same]
  simp only [binOp]
  simp [Op.equal, Op.maxDepth, h 9999]
theorem run_neq_ptr_other {P : Program} (w : World) {tp te : TypeId} {j : TypeInfo} {a b : Addr} {ca cb : Array Value} {ta tb : TypeId} (hp : P.underlying tp = some (.pointer te)) (hte : P.info? te = some j) (hsz : j.size ≠ 0)
    (hne : a ≠ b) (ha : w.heap[a.block]? = some (.cells ca ta (0, 0))) (hb : w.heap[b.block]? = some (.cells cb tb (0, 0))) :
    (binOp .neq tp (.pointer (some a)) (.pointer (some b))).run P w = .ok (.bool true) w := by
  have h : ∀ d : Nat, (Op.equalIn (d + 1) tp (.pointer (some a)) (.pointer (some b))).run P w = .ok false w := fun d => by
    simp [Op.equalIn, run_underlying hp, sizeOf, typeInfo, hte, hsz, run_sameAddr_other w hne ha hb]
  simp only [binOp]
  simp [Op.equal, Op.maxDepth, h 9999]
theorem rrs_info : (Tryz.prog.info? 26).map (fun i => i.size) = some 1 := by kernel_rfl

























































































































































































































































































































end Go.Proofs.YthppgofpbpjglaaGreat

namespace Go.Proofs.YthppgofpbpjglaaGreat
open Go.RowKit



theorem upd_upd (v : Nat → Value) (i : Nat) (u u' : Value) : upd (upd v i u) i u' = upd v i u' := by
  funext j
  unfold upd
  split <;> rfl
theorem upd_at (v : Nat → Value) (i : Nat) (u : Value) : upd v i u i = u := by unfold upd; rw [if_pos rfl]
theorem step_len {b : List UInt8} {last : Bool} {s t : Rd} (h : stepR b last s = .ok t) : t.rs.length ≤ s.rs.length + 1 := by
  unfold stepR addR at h
  split at h
  · cases h
  · split at h
    · split at h
      · cases h
      · injection h with h
        subst h
        exact Nat.le_succ _
    · injection h with h
      subst h
      simp













































































end Go.Proofs.YthppgofpbpjglaaGreat

namespace Go.Proofs.YthppgofpbpjglaaGreat
open Go.RowKit

def hd0 : Hd := ⟨0, false, 0, false, false, false, false, 0, false, 0⟩
def nilS : Nat → Value := fun _ => .slice none 0 0
/-- The last words: is something left? -/
def finR (b : List UInt8) (q : List Qt) (acc : List (List Rt)) (p : Nat) (e : Bool) (s : Int) : Except Nat Mt :=
  if p < b.length then .error 7 else .ok ⟨hdOf (numAt b 0 2) (numAt b 2 2) e s, q, acc.getD 0 [], acc.getD 1 [], acc.getD 2 []⟩
/-- So many sections are still to be read. -/
def restS (b : List UInt8) (q : List Qt) : Nat → List (List Rt) → Nat → Bool → Int → Except Nat Mt
  | 0, acc, p, e, s => finR b q acc p e s
  | k + 1, acc, p, e, s => getRs b (decide (2 - k = 2)) (numAt b (6 + 2 * (2 - k)) 2) ⟨[], p, e, s⟩ >>= fun x => restS b q k (acc ++ [x.rs]) x.p x.e x.s
/-- What follows the head. -/
def decB (b : List UInt8) : Except Nat Mt :=
  if 513 < numAt b 4 2 + numAt b 6 2 + numAt b 8 2 + numAt b 10 2 then .error 4 else
  getQs b (numAt b 4 2) 12 [] >>= fun q => restS b q.1 3 [] q.2 false 0
theorem decM_eq (b : List UInt8) : decM b = if 65535 < b.length then .error 4 else if b.length < 12 then .error 3 else decB b := rfl
def cntV (b : List UInt8) (j i : Nat) : Nat := if i < j then numAt b (4 + 2 * i) 2 else 0
def cntL (b : List UInt8) (j : Nat) : List Value := [.int .i64 (cntV b j 0), .int .i64 (cntV b j 1), .int .i64 (cntV b j 2), .int .i64 (cntV b j 3)]
def cntS (b : List UInt8) : Nat → Nat
  | 0 => 0
  | j + 1 => cntS b j + numAt b (4 + 2 * j) 2
theorem cntL_set (b : List UInt8) {j : Nat} (hj : j < 4) : (cntL b j).set j (.int .i64 (numAt b (4 + 2 * j) 2)) = cntL b (j + 1) := by
  rcases (show j = 0 ∨ j = 1 ∨ j = 2 ∨ j = 3 by omega) with rfl | rfl | rfl | rfl <;> rfl
theorem cntL_at (b : List UInt8) {j : Nat} (hj : j < 4) (k : Nat) : (cntL b k)[j]? = some (.int .i64 (cntV b k j)) := by
  rcases (show j = 0 ∨ j = 1 ∨ j = 2 ∨ j = 3 by omega) with rfl | rfl | rfl | rfl <;> rfl
theorem cntS_le (b : List UInt8) : ∀ j, cntS b j ≤ 65536 * j
  | 0 => Nat.le_refl _
  | j + 1 => by
    have h1 := cntS_le b j
    have h2 := numAt_lt b (4 + 2 * j) 2
    have h3 : (2 : Nat) ^ (8 * 2) = 65536 := rfl
    show cntS b j + numAt b (4 + 2 * j) 2 ≤ 65536 * (j + 1)
    omega
theorem cntS_four (b : List UInt8) : cntS b 4 = numAt b 4 2 + numAt b 6 2 + numAt b 8 2 + numAt b 10 2 := by
  show (((0 + numAt b 4 2) + numAt b 6 2) + numAt b 8 2) + numAt b 10 2 = _
  omega
theorem getD_last (acc : List (List Rt)) (x : List Rt) : (acc ++ [x]).getD acc.length [] = x := by simp
theorem getD_old (acc : List (List Rt)) (x : List Rt) {k : Nat} (hk : k < acc.length) : (acc ++ [x]).getD k [] = acc.getD k [] := by
  rw [List.getD_eq_getElem?_getD, List.getD_eq_getElem?_getD, List.getElem?_append_left hk]
/-- The rows of a message that was read. -/
structure DOwn (w : World) (B : Nat) (m : MV) : Prop where
  q : QRow w B m.vq m.qp
  s0 : RecRow w B m.s0.v m.s0.ps
  s1 : RecRow w B m.s1.v m.s1.ps
  s2 : RecRow w B m.s2.v m.s2.ps









































































































































































































































































































end Go.Proofs.YthppgofpbpjglaaGreat
