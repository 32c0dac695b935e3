/-
  CutFits in its form for what is not too great: cut.Fit answers of every message and every size what the document says; of messages that take, with what else comes in, at most 1,048,576 values and letters in all. No other condition.
-/
import Derived.Test.YtjkjhpaeckkpjaaCfP1
import Derived.Test.YtjkjhpaeckkpjaaCfP4
namespace Go.Proofs.Ytjkjhpaeckkpjaa
open Go.RowKit

def lightC (m : Mt) : Bool := decide (m.all.length ≤ 150) && (decide (m.qs.length ≤ 150) && (m.all.all fewR && (m.qs.all fewQ && decide (sumB m.all < 200000))))
theorem lightC_M {m : Mt} (h : lightC m = true) : LightM m ∧ m.all.length ≤ 150 ∧ m.qs.length ≤ 150 := by
  unfold lightC at h
  simp only [Bool.and_eq_true, decide_eq_true_eq] at h
  obtain ⟨h0, h1, h2, h3, h4⟩ := h
  refine ⟨lightM_iff ?_, h0, h1⟩
  unfold lightM
  simp only [Bool.and_eq_true, decide_eq_true_eq]
  exact ⟨by omega, by omega, h2, h3, h4⟩
set_option maxRecDepth 20000 in
set_option maxHeartbeats 8000000 in
theorem clight_core (w : World) (m : MV) (h : Hd) (qA : Option Addr) (qc : Nat) (qp : List (QV × Qt)) (A0 A1 A2 : Option Addr) (k0 k1 k2 : Nat) (p0 p1 p2 : List (RV × Rt)) (he : m = ⟨h, qA, qc, qp, ⟨A0, k0, p0⟩, ⟨A1, k1, p1⟩, ⟨A2, k2, p2⟩⟩) (hm : MAt w w.heap.size m)
    (hn : (p0.length + p1.length + p2.length) * 168 ≤ 140737488355328) (hq : qp.length ≤ maxLen) (hql : ∀ p ∈ qp, p.2.name.length ≤ maxLen) (hb : ∀ r ∈ m.msg.all, r.data.bytes.length ≤ 140737488355328) :
    Calls Try.prog 22 #[valM h (.slice qA qp.length qc) (.slice A0 p0.length k0) (.slice A1 p1.length k1) (.slice A2 p2.length k2)] w (Gave w (.bool (lightC m.msg))) := by
  obtain ⟨i0, hi0, hz0, hz1, hz2⟩ := info_parts rr_info
  obtain ⟨W, hW⟩ : ∃ W, W = w.alloc (.cells #[.int .i64 h.id, .bool h.resp, .int .i64 h.op, .bool h.aa, .bool h.tc, .bool h.rd, .bool h.ra, .int .i64 h.rc, .slice qA qp.length qc, .slice A0 p0.length k0, .slice A1 p1.length k1, .slice A2 p2.length k2, .bool h.edns, .int .i64 h.size] 25) := ⟨_, rfl⟩
  have hB : Below w.heap.size w W := by rw [hW]; exact (Below.refl _ _).alloc (Nat.le_refl _) _
  have hzW : W.heap.size = w.heap.size + 1 := by rw [hW]; simp
  have hwm : Whole W w.heap.size 25 (cellsM h (.slice qA qp.length qc) (.slice A0 p0.length k0) (.slice A1 p1.length k1) (.slice A2 p2.length k2)) := by rw [hW]; exact Whole.made w [.int .i64 h.id, .bool h.resp, .int .i64 h.op, .bool h.aa, .bool h.tc, .bool h.rd, .bool h.ra, .int .i64 h.rc, .slice qA qp.length qc, .slice A0 p0.length k0, .slice A1 p1.length k1, .slice A2 p2.length k2, .bool h.edns, .int .i64 h.size] _
  have hbl : Below W.heap.size W (W.alloc (.cells #[] 48)).drew := ((Below.refl _ _).alloc (Nat.le_refl _) _).drew
  have HL := Lib.hid (show (W.alloc (.cells #[] 48)).drew.ownsRow (w.heap.size + 1) 48 9 (.slice (some ⟨w.heap.size + 1, 0, none⟩) 0 0) 0 [] from by
    have h1 := own_lit W 48 9
    rw [hzW] at h1
    exact own_keep h1 fun _ _ => rfl)
  have HBL := Lib.hid (hB.trans (hbl.mono hB.size))
  have HWL := Lib.hid (hwm.below hbl hwm.lt)
  have hzl : w.heap.size + 1 ≤ (W.alloc (.cells #[] 48)).drew.heap.size := by have := hbl.size; omega
  have HZL := Lib.hid hzl
  have HS0 := Lib.hid (fun W' (hb : Below w.heap.size w W') => (show RsAt W' w.heap.size A0 p0 by have h2 := hm.s0.below hb; rw [he] at h2; exact h2))
  have HS1 := Lib.hid (fun W' (hb : Below w.heap.size w W') => (show RsAt W' w.heap.size A1 p1 by have h2 := hm.s1.below hb; rw [he] at h2; exact h2))
  have HS2 := Lib.hid (fun W' (hb : Below w.heap.size w W') => (show RsAt W' w.heap.size A2 p2 by have h2 := hm.s2.below hb; rw [he] at h2; exact h2))
  have HQ := Lib.hid (fun W' (hb : Below w.heap.size w W') => (show QsAt W' w.heap.size qA qp by have h2 := hm.q.below hb; rw [he] at h2; exact h2))
  have HE := Lib.hid he
  have HBY := Lib.hid (show ∀ r ∈ recs (p0 ++ p1 ++ p2), r.data.bytes.length ≤ 140737488355328 by intro r hr; refine hb r ?_; rw [he]; show r ∈ recs p0 ++ (recs p1 ++ recs p2); simpa [recs_append] using hr)
  have c9 : (W.alloc (.cells #[] 48)).drew.cell? ⟨w.heap.size, 9, none⟩ = some (.slice A0 p0.length k0) := HWL.out.cell 9
  have c10 : (W.alloc (.cells #[] 48)).drew.cell? ⟨w.heap.size, 10, none⟩ = some (.slice A1 p1.length k1) := HWL.out.cell 10
  have c11 : (W.alloc (.cells #[] 48)).drew.cell? ⟨w.heap.size, 11, none⟩ = some (.slice A2 p2.length k2) := HWL.out.cell 11
  clear hB hwm hbl hm he hb hzl hzW
  subst hW
  go_enter Try.func22, Try.ntmps22
  go_upto_region 1 with fail
  go_cut [3] from 8 to 17 (fun s3 wx => AllRel w (cellsM h (.slice qA qp.length qc) (.slice A0 p0.length k0) (.slice A1 p1.length k1) (.slice A2 p2.length k2)) (p0 ++ p1 ++ p2) s3 wx)
  case first =>
   go_region_law (first
     | (refine step_append_any rfl (.tmp 8) (.tmp 10) _ rfl (w.heap.size + 1) 48 i0 _ 9 168 Try.underlying23 hi0 hz0 hz1 hz2 rfl (by omega) (.slice (some ⟨w.heap.size + 1, 0, none⟩) 0 0) 0 _ rfl HL.out
          A0 p0.length k0 w.heap.size (p0.flatMap cellsR) rfl (length_flat cellsR_len p0) (HS0.out _ HBL.out).1 (cellsR_one p0) (by unfold maxLen; omega) (by omega) HZL.out ?_
        intro v1 w1 hown1 hg1
        rw [Nat.zero_add, List.nil_append] at hown1
        have HB1 := Lib.hid (own_below HBL.out (Nat.le_succ _) HBL.out.size HL.out hg1)
        have HW1 := Lib.hid (HWL.out.grown hg1 (by simp [Value.ownBlock]))
        have HZ1 := Lib.hid (Nat.le_trans HZL.out hg1.size)
        obtain ⟨B1, d1, rfl, _, _⟩ := own_form hown1
        have HO1 := Lib.hid hown1
        have c10 : w1.cell? ⟨w.heap.size, 10, none⟩ = some (.slice A1 p1.length k1) := HW1.out.cell 10
        have c11 : w1.cell? ⟨w.heap.size, 11, none⟩ = some (.slice A2 p2.length k2) := HW1.out.cell 11
        clear hown1 hg1)
     | (refine step_append_any rfl (.tmp 11) (.tmp 13) _ rfl (w.heap.size + 1) 48 i0 _ 9 168 Try.underlying23 hi0 hz0 hz1 hz2 rfl (by omega) (.slice B1 p0.length d1) p0.length _ rfl HO1.out
          A1 p1.length k1 w.heap.size (p1.flatMap cellsR) rfl (length_flat cellsR_len p1) (HS1.out _ HB1.out).1 (cellsR_one p1) (by unfold maxLen; omega) (by omega) HZ1.out ?_
        intro v2 w2 hown2 hg2
        have HB2 := Lib.hid (own_below HB1.out (Nat.le_succ _) HB1.out.size HO1.out hg2)
        have HW2 := Lib.hid (HW1.out.grown hg2 (fun h => by have := (HO1.out.lt _ h.symm).1; omega))
        have HZ2 := Lib.hid (Nat.le_trans HZ1.out hg2.size)
        obtain ⟨B2, d2, rfl, _, _⟩ := own_form hown2
        have HO2 := Lib.hid hown2
        have c11 : w2.cell? ⟨w.heap.size, 11, none⟩ = some (.slice A2 p2.length k2) := HW2.out.cell 11
        clear hown2 hg2)
     | (refine step_append_any rfl (.tmp 14) (.tmp 16) _ rfl (w.heap.size + 1) 48 i0 _ 9 168 Try.underlying23 hi0 hz0 hz1 hz2 rfl (by omega) (.slice B2 (p0.length + p1.length) d2) (p0.length + p1.length) _ rfl HO2.out
          A2 p2.length k2 w.heap.size (p2.flatMap cellsR) rfl (length_flat cellsR_len p2) (HS2.out _ HB2.out).1 (cellsR_one p2) (by unfold maxLen; omega) (by omega) HZ2.out ?_
        intro v3 w3 hown3 hg3
        have HB3 := Lib.hid (own_below HB2.out (Nat.le_succ _) HB2.out.size HO2.out hg3)
        have HW3 := Lib.hid (HW2.out.grown hg3 (fun h => by have := (HO2.out.lt _ h.symm).1; omega))
        obtain ⟨B3, d3, rfl, _, _⟩ := own_form hown3
        have HO3 := Lib.hid hown3
        clear hown3 hg3))
   all_goals
    have HRR := Lib.hid (show AllRel w (cellsM h (.slice qA qp.length qc) (.slice A0 p0.length k0) (.slice A1 p1.length k1) (.slice A2 p2.length k2)) (p0 ++ p1 ++ p2) (.slice B3 (p0.length + p1.length + p2.length) d3) w3 from
      ⟨B3, d3, by rw [List.length_append, List.length_append], by rw [List.flatMap_append, List.flatMap_append]; exact Row.of_own HO3.out, HW3.out, HB3.out⟩)
    go_wp2
    go_meet
    exact HRR.out
  case rest =>
    obtain ⟨A, c, rfl, hrow, hw, hb⟩ := hcut
    have HB := Lib.hid hb
    have HW := Lib.hid hw
    have HPS := Lib.hid (show RsAt wc wc.heap.size A (p0 ++ p1 ++ p2) from ⟨hrow, fun p hp => by
      rcases List.mem_append.1 hp with h1 | h1
      · rcases List.mem_append.1 h1 with h1 | h1
        · exact ((HS0.out _ hb).2 p h1).mono hb.size
        · exact ((HS1.out _ hb).2 p h1).mono hb.size
      · exact ((HS2.out _ hb).2 p h1).mono hb.size⟩)
    have HLM := Lib.hid (show lightC m.msg = (decide ((p0 ++ p1 ++ p2).length ≤ 150) && (decide (qp.length ≤ 150) && ((recs (p0 ++ p1 ++ p2)).all fewR && ((qsts qp).all fewQ && decide (sumB (recs (p0 ++ p1 ++ p2)) < 200000))))) from by
      have e1 : m.msg.all = recs (p0 ++ p1 ++ p2) := by rw [HE.out]; show recs p0 ++ (recs p1 ++ recs p2) = _; simp [recs_append]
      have e2 : m.msg.qs = qsts qp := by rw [HE.out]; rfl
      unfold lightC
      rw [e1, e2, length_recs, length_qsts])
    have c8 : wc.cell? ⟨w.heap.size, 8, none⟩ = some (.slice qA qp.length qc) := Whole.cell hw 8
    have hlp : (p0 ++ p1 ++ p2).length * 168 ≤ 140737488355328 := by rw [List.length_append, List.length_append]; exact hn
    clear hrow hw hb HS0 HS1 HS2 HBL HWL HZL HL hn
    revert HBY HPS HLM hlp
    generalize p0 ++ p1 ++ p2 = ps
    intro HBY HPS HLM hlp
    unfold maxLen at hq
    by_cases e0 : ps.length ≤ 150
    case neg =>
      have d0 : decide ((150 : Int) < (ps.length : Int)) = true := by rw [decide_eq_true_eq]; omega
      rw [decide_eq_false e0] at HLM
      go_wp2
      go_ret
      exact ⟨by rw [HLM.out]; rfl, HB.out⟩
    have d0 : decide ((150 : Int) < (ps.length : Int)) = false := decide_eq_false (by omega)
    rw [decide_eq_true e0] at HLM
    by_cases e1 : qp.length ≤ 150
    case neg =>
      have d1 : decide ((150 : Int) < (qp.length : Int)) = true := by rw [decide_eq_true_eq]; omega
      rw [decide_eq_false e1] at HLM
      go_wp2
      go_ret
      exact ⟨by rw [HLM.out]; rfl, HB.out⟩
    have d1 : decide ((150 : Int) < (qp.length : Int)) = false := decide_eq_false (by omega)
    rw [decide_eq_true e1] at HLM
    go_wp2
    clear d0 d1 c8
    go_loopw [4, 5] (SumRelL wc ps) (fun _ i _ => ps.length - (intOf i).toNat)
    case atStart => exact ⟨0, Nat.zero_le _, rfl, rfl, rfl, Below.refl _ _⟩
    case round =>
    obtain ⟨k, hk, rfl, rfl, hal, hbr⟩ := hrel
    have HAL := Lib.hid hal
    have HBR := Lib.hid hbr
    have HB1 := Lib.hid (HB.out.trans (hbr.mono HB.out.size))
    have hz := hbr.size
    have hzz := HB.out.size
    have hsum : sumB (recs (ps.take k)) ≤ 150 * 140737488355328 := by
      have h1 := sumB_le (rs := recs (ps.take k)) (M := 140737488355328) fun r hr => HBY.out r (by
        obtain ⟨p, hp, rfl⟩ := List.mem_map.1 hr
        exact List.mem_map.2 ⟨p, List.mem_of_mem_take hp, rfl⟩)
      have h2 : (recs (ps.take k)).length ≤ 150 := by rw [length_recs, List.length_take]; omega
      exact Nat.le_trans h1 (Nat.mul_le_mul_right _ h2)
    clear hal hbr
    by_cases hlt : k < ps.length
    · obtain ⟨b, off, rfl, hbH, hra, q0, q1, q2, q3, q4, q5, q6, q7, q8⟩ := (show RsAt wr wc.heap.size A ps from HPS.out.below HBR.out).at_ hlt
      have hby := HBY.out _ (List.mem_map.2 ⟨ps[k], List.getElem_mem hlt, rfl⟩)
      have HF := Lib.hid (show fewR (ps[k]).2 = false → (recs ps).all fewR = false by
        intro h
        rw [List.all_eq_false]
        exact ⟨(ps[k]).2, List.mem_map.2 ⟨ps[k], List.getElem_mem hlt, rfl⟩, by rw [h]; decide⟩)
      have HT := Lib.hid (show fewR (ps[k]).2 = true → (recs (ps.take (k + 1))).all fewR = true by
        intro h
        rw [recs_at hlt, List.all_append, HAL.out]
        simp [h])
      have HSU := Lib.hid (show sumB (recs (ps.take (k + 1))) = sumB (recs (ps.take k)) + (ps[k]).2.data.bytes.length by
        rw [recs_at hlt, sumB_append]
        simp [sumB])
      clear hra
      revert hby q0 q1 q2 q3 q4 q5 q6 q7 q8 HF HT HSU
      generalize ps[k] = p
      obtain ⟨x, r⟩ := p
      intro q0 q1 q2 q3 q4 q5 q6 q7 q8 hby HF HT HSU
      dsimp only at *
      have r0 : (wr.alloc (.cells #[.slice x.d.Ab r.data.bytes.length x.d.cb, .slice x.d.Ah r.data.host.length x.d.ch, .slice x.d.Am r.data.mail.length x.d.cm, .slice x.d.An r.data.nums.length x.d.cn, .slice x.d.At r.data.texts.length x.d.ct] 46)).cell? ⟨b, off + k * 9, none⟩ = some (.slice x.A r.name.length x.c) := (World.cell?_alloc_lt wr _ ⟨b, off + k * 9, none⟩ (by dsimp only; omega)).trans q0
      have HB2 := Lib.hid (HB1.out.alloc (by omega) (.cells #[.slice x.d.Ab r.data.bytes.length x.d.cb, .slice x.d.Ah r.data.host.length x.d.ch, .slice x.d.Am r.data.mail.length x.d.cm, .slice x.d.An r.data.nums.length x.d.cn, .slice x.d.At r.data.texts.length x.d.ct] 46))
      have HBR2 := Lib.hid (HBR.out.alloc hz (.cells #[.slice x.d.Ab r.data.bytes.length x.d.cb, .slice x.d.Ah r.data.host.length x.d.ch, .slice x.d.Am r.data.mail.length x.d.cm, .slice x.d.An r.data.nums.length x.d.cn, .slice x.d.At r.data.texts.length x.d.ct] 46))
      by_cases e2 : r.name.length ≤ 200
      case neg =>
        have d2 : decide ((200 : Int) < (r.name.length : Int)) = true := by simp; omega
        have HX := Lib.hid (HF.out (by unfold fewR; rw [show decide (r.name.length ≤ 200) = false by simp; omega]; simp))
        go_wp2
        go_ret
        exact ⟨by rw [HLM.out, HX.out]; rfl, HB2.out⟩
      have d2 : decide ((200 : Int) < (r.name.length : Int)) = false := by simp; omega
      by_cases e3 : r.data.host.length ≤ 200
      case neg =>
        have d3 : decide ((200 : Int) < (r.data.host.length : Int)) = true := by simp; omega
        have HX := Lib.hid (HF.out (by unfold fewR; rw [show decide (r.data.host.length ≤ 200) = false by simp; omega]; simp))
        go_wp2
        go_ret
        exact ⟨by rw [HLM.out, HX.out]; rfl, HB2.out⟩
      have d3 : decide ((200 : Int) < (r.data.host.length : Int)) = false := by simp; omega
      by_cases e4 : r.data.mail.length ≤ 200
      case neg =>
        have d4 : decide ((200 : Int) < (r.data.mail.length : Int)) = true := by simp; omega
        have HX := Lib.hid (HF.out (by unfold fewR; rw [show decide (r.data.mail.length ≤ 200) = false by simp; omega]; simp))
        go_wp2
        go_ret
        exact ⟨by rw [HLM.out, HX.out]; rfl, HB2.out⟩
      have d4 : decide ((200 : Int) < (r.data.mail.length : Int)) = false := by simp; omega
      by_cases e5 : r.data.texts.length ≤ 100
      case neg =>
        have d5 : decide ((100 : Int) < (r.data.texts.length : Int)) = true := by simp; omega
        have HX := Lib.hid (HF.out (by unfold fewR; rw [show decide (r.data.texts.length ≤ 100) = false by simp; omega]; simp))
        go_wp2
        go_ret
        exact ⟨by rw [HLM.out, HX.out]; rfl, HB2.out⟩
      have d5 : decide ((100 : Int) < (r.data.texts.length : Int)) = false := by simp; omega
      by_cases e6 : r.data.nums.length ≤ 100
      case neg =>
        have d6 : decide ((100 : Int) < (r.data.nums.length : Int)) = true := by simp; omega
        have HX := Lib.hid (HF.out (by unfold fewR; rw [show decide (r.data.nums.length ≤ 100) = false by simp; omega]; simp))
        go_wp2
        go_ret
        exact ⟨by rw [HLM.out, HX.out]; rfl, HB2.out⟩
      have d6 : decide ((100 : Int) < (r.data.nums.length : Int)) = false := by simp; omega
      have HX := Lib.hid (HT.out (by unfold fewR; simp [e2, e3, e4, e5, e6]))
      go_wp2
      exact ⟨⟨k + 1, by omega, by go_num, by rw [HSU.out]; go_num, HX.out, HBR2.out⟩, by simp [intOf]; omega⟩
    · obtain rfl : k = ps.length := by omega
      have hal := HAL.out
      rw [List.take_length] at hsum hal ⊢
      rw [hal] at HLM
      have hwr : Whole wr w.heap.size 25 (cellsM h (.slice qA qp.length qc) (.slice A0 p0.length k0) (.slice A1 p1.length k1) (.slice A2 p2.length k2)) := HW.out.below HBR.out HW.out.lt
      have HWR := Lib.hid hwr
      have c8 : wr.cell? ⟨w.heap.size, 8, none⟩ = some (.slice qA qp.length qc) := Whole.cell hwr 8
      have HSS := Lib.hid hsum
      clear hal hwr HAL HBY HPS hlt
      revert HLM HSS hsum
      generalize sumB (recs ps) = S
      intro HLM hsum HSS
      go_wp2
      clear c8
      go_loopw [7] (FewQRel w (cellsM h (.slice qA qp.length qc) (.slice A0 p0.length k0) (.slice A1 p1.length k1) (.slice A2 p2.length k2)) qp) (fun i _ => qp.length - (intOf i).toNat)
      case atStart => exact ⟨0, Nat.zero_le _, rfl, rfl, HWR.out, HB1.out⟩
      case round =>
      obtain ⟨j, hj, rfl, haq, hwq, hbq⟩ := hrel
      have HAQ := Lib.hid haq
      have HBQ := Lib.hid hbq
      have HWQ := Lib.hid hwq
      have c8 : wr.cell? ⟨w.heap.size, 8, none⟩ = some (.slice qA qp.length qc) := Whole.cell hwq 8
      clear haq hwq hbq
      by_cases hlt : j < qp.length
      · obtain ⟨b, off, rfl, hbH, hqa, q0, q1, q2⟩ := (HQ.out _ HBQ.out).at_ hlt
        have hnl := hql _ (List.getElem_mem hlt)
        have HF := Lib.hid (show fewQ (qp[j]).2 = false → (qsts qp).all fewQ = false by
          intro h
          rw [List.all_eq_false]
          exact ⟨(qp[j]).2, List.mem_map.2 ⟨qp[j], List.getElem_mem hlt, rfl⟩, by rw [h]; decide⟩)
        have HT := Lib.hid (show fewQ (qp[j]).2 = true → (qsts (qp.take (j + 1))).all fewQ = true by
          intro h
          rw [qsts_step hlt, List.all_append, HAQ.out]
          simp [h])
        clear hqa
        revert hnl q0 q1 q2 HF HT
        generalize qp[j] = p
        obtain ⟨x, q⟩ := p
        intro q0 q1 q2 hnl HF HT
        dsimp only at *
        unfold maxLen at hnl
        by_cases e2 : q.name.length ≤ 200
        case neg =>
          have d2 : decide ((200 : Int) < (q.name.length : Int)) = true := by simp; omega
          have HX := Lib.hid (HF.out (by unfold fewQ; exact decide_eq_false e2))
          go_wp2
          go_ret
          exact ⟨by rw [HLM.out, HX.out]; rfl, HBQ.out⟩
        have d2 : decide ((200 : Int) < (q.name.length : Int)) = false := by simp; omega
        have HX := Lib.hid (HT.out (by unfold fewQ; exact decide_eq_true e2))
        go_wp2
        exact ⟨⟨j + 1, by omega, by go_num, HX.out, HWQ.out, HBQ.out⟩, by simp [intOf]; omega⟩
      · obtain rfl : j = qp.length := by omega
        have haq := HAQ.out
        rw [List.take_length] at haq
        rw [haq] at HLM
        go_wp2
        go_ret
        refine ⟨?_, HBQ.out⟩
        rw [HLM.out]
        simp
        omega
theorem clight_any (w : World) (m : MV) (hm : MAt w w.heap.size m) (hn : (m.s0.ps.length + m.s1.ps.length + m.s2.ps.length) * 168 ≤ 140737488355328) (hq : m.qp.length ≤ maxLen) (hql : ∀ p ∈ m.qp, p.2.name.length ≤ maxLen)
    (hb : ∀ r ∈ m.msg.all, r.data.bytes.length ≤ 140737488355328) : Calls Try.prog 22 #[m.val] w (Gave w (.bool (lightC m.msg))) := by
  obtain ⟨h, qA, qc, qp, ⟨A0, k0, p0⟩, ⟨A1, k1, p1⟩, ⟨A2, k2, p2⟩⟩ := m
  exact clight_core w _ h qA qc qp A0 A1 A2 k0 k1 k2 p0 p1 p2 rfl hm hn hq hql hb

end Go.Proofs.Ytjkjhpaeckkpjaa

namespace Go.Proofs.Ytjkjhpaeckkpjaa
open Go.RowKit

theorem FitIs.err {m : Mt} {s : Int} {res : Except Nat (List UInt8)} (h : FitIs m s res) : (encL res).length ≤ 65535 := by
  unfold FitIs at h
  split at h
  · rw [h]; exact Nat.zero_le _
  · split at h
    · rw [h]; exact Nat.zero_le _
    · obtain ⟨k, hk, rfl⟩ := h
      rename_i h1 h2
      have hs := soundM_iff.1 (Bool.not_eq_false _ ▸ h2)
      unfold cutR
      split
      · show (encM (m.first k)).length ≤ _
        rw [first_len hs]
        omega
      · exact Nat.zero_le _
theorem MSafe.lightC {m : MV} (h : MSafe m) (w : World) (hm : MAt w w.heap.size m) : Calls Try.prog 22 #[m.val] w (Gave w (.bool (lightC m.msg))) := by
  have h0 : m.s0.ps.length ≤ 1048576 := h.n.2 0
  have h1 : m.s1.ps.length ≤ 1048576 := h.n.2 1
  have h2 : m.s2.ps.length ≤ 1048576 := h.n.2 2
  have hq := h.n.1
  refine clight_any w m hm (by omega) (by unfold maxLen; omega) (fun p hp => (h.q p hp).1.1) fun r hr => ?_
  obtain ⟨i, p, hp, rfl⟩ := mem_all hr
  have := (h.r i p hp).2
  omega

set_option maxRecDepth 20000 in
set_option maxHeartbeats 8000000 in
theorem cfits_core (w : World) (s : Int) (m : MV) (h : Hd) (qA : Option Addr) (qc : Nat) (qp : List (QV × Qt)) (A0 A1 A2 : Option Addr) (k0 k1 k2 : Nat) (p0 p1 p2 : List (RV × Rt)) (he : m = ⟨h, qA, qc, qp, ⟨A0, k0, p0⟩, ⟨A1, k1, p1⟩, ⟨A2, k2, p2⟩⟩) (hm : MAt w w.heap.size m) (hs : MSafe m) :
    Calls Try.prog 7 #[valM h (.slice qA qp.length qc) (.slice A0 p0.length k0) (.slice A1 p1.length k1) (.slice A2 p2.length k2), .int .i64 s] w (TrueB w) := by
  have HA := Lib.hid (fun W' => canswers_any W')
  obtain ⟨W, hW⟩ : ∃ W, W = w.alloc (.cells #[.int .i64 h.id, .bool h.resp, .int .i64 h.op, .bool h.aa, .bool h.tc, .bool h.rd, .bool h.ra, .int .i64 h.rc, .slice qA qp.length qc, .slice A0 p0.length k0, .slice A1 p1.length k1, .slice A2 p2.length k2, .bool h.edns, .int .i64 h.size] 25) := ⟨_, rfl⟩
  have hB : Below w.heap.size w W := by rw [hW]; exact (Below.refl _ _).alloc (Nat.le_refl _) _
  have hzW : W.heap.size = w.heap.size + 1 := by rw [hW]; simp
  have hwm : Whole W w.heap.size 25 (cellsM h (.slice qA qp.length qc) (.slice A0 p0.length k0) (.slice A1 p1.length k1) (.slice A2 p2.length k2)) := by rw [hW]; exact Whole.made w [.int .i64 h.id, .bool h.resp, .int .i64 h.op, .bool h.aa, .bool h.tc, .bool h.rd, .bool h.ra, .int .i64 h.rc, .slice qA qp.length qc, .slice A0 p0.length k0, .slice A1 p1.length k1, .slice A2 p2.length k2, .bool h.edns, .int .i64 h.size] _
  have ev : m.val = valM h (.slice qA qp.length qc) (.slice A0 p0.length k0) (.slice A1 p1.length k1) (.slice A2 p2.length k2) := by rw [he]
  have HC := Lib.hid (fun (W' : World) (hb : Below W.heap.size W W') => cells14 (hwm.below hb (by omega)))
  have HMA := Lib.hid (fun (W' : World) (hb : Below W.heap.size W W') => (show MAt W' W'.heap.size m from by
    have hb2 := hB.trans (hb.mono hB.size)
    exact (hm.below hb2).mono hb2.size))
  have HLT := Lib.hid (fun (W' : World) (hb : Below W.heap.size W W') => (show Calls Try.prog 22 #[valM h (.slice qA qp.length qc) (.slice A0 p0.length k0) (.slice A1 p1.length k1) (.slice A2 p2.length k2)] W' (Gave W' (.bool (lightC m.msg))) from by
    have h1 := hs.lightC W' (HMA.out W' hb)
    rwa [ev] at h1))
  have HIN := Lib.hid (fun (m' : MV) (e : m'.msg = m.msg) (hl : LightM m.msg) => ((hs.small hl).1.same e))
  have HOM := Lib.hid (fun (W' : World) (hb : Below W.heap.size W W') (hl : LightM m.msg) => (show Calls Try.prog 13 #[valM h (.slice qA qp.length qc) (.slice A0 p0.length k0) (.slice A1 p1.length k1) (.slice A2 p2.length k2)] W' (OwnMOut W' m.msg) from by
    have h1 := ownMsg_any W' m (HMA.out W' hb) (hs.small hl).1 (hs.small hl).2
    rwa [ev] at h1))
  have HRF := Lib.hid (fun (res : Except Nat (List UInt8)) (hr : FitIs m.msg s res) (W' : World) (hb : Below W.heap.size W W') (hl : LightM m.msg) => (show Calls Try.prog 24 #[valM h (.slice qA qp.length qc) (.slice A0 p0.length k0) (.slice A1 p1.length k1) (.slice A2 p2.length k2), .int .i64 s] W' (EncOut W' res) from by
    have h1 := cref_any W' s m res (HMA.out W' hb) (hs.small hl).1 (fun p hp => (hs.q p hp).2.2.2) (fun i => (hs.c.2.2 i).1) hr
    rwa [ev] at h1))
  have HB := Lib.hid hB
  have HWB := Lib.hid (Below.refl W.heap.size W)
  clear hB hzW hwm hm hs he ev HMA
  generalize m.msg = M at *
  clear m
  subst hW
  go_enter Try.func7, Try.ntmps7
  go_wp2_with fail
  refine (HA.out _).mono ?_
  rintro e w1 ⟨rfl, hb1⟩
  generalize w.alloc (.cells #[.int .i64 h.id, .bool h.resp, .int .i64 h.op, .bool h.aa, .bool h.tc, .bool h.rd, .bool h.ra, .int .i64 h.rc, .slice qA qp.length qc, .slice A0 p0.length k0, .slice A1 p1.length k1, .slice A2 p2.length k2, .bool h.edns, .int .i64 h.size] 25) = V at *
  have HB1 := Lib.hid hb1
  obtain ⟨m0, m1, m2, m3, m4, m5, m6, m7, m8, m9, m10, m11, m12, m13⟩ := HC.out w1 HB1.out
  clear hb1
  go_wp2_with fail
  refine (HLT.out _ HB1.out).mono ?_
  rintro e w2 ⟨rfl, hb2⟩
  have HB2 := Lib.hid (HB1.out.trans (hb2.mono HB1.out.size))
  clear hb2 m0 m1 m2 m3 m4 m5 m6 m7 m8 m9 m10 m11 m12 m13
  cases hl : lightC M with
  | false =>
    go_wp2_with fail
    refine (HA.out _).mono ?_
    rintro e w3 ⟨rfl, hb3⟩
    have HB3 := Lib.hid (HB2.out.trans (hb3.mono HB2.out.size))
    clear hb3
    go_wp2
    go_ret
    exact ⟨rfl, HB.out.trans (HB3.out.mono HB.out.size)⟩
  | true =>
  have HLM := Lib.hid (lightC_M hl).1
  clear hl
  obtain ⟨m0, m1, m2, m3, m4, m5, m6, m7, m8, m9, m10, m11, m12, m13⟩ := HC.out w2 HB2.out
  go_wp2_with fail
  refine (HOM.out _ HB2.out HLM.out).mono ?_
  rintro e w4 ⟨m', rfl, hmsg, hown, hb4⟩
  have HB4 := Lib.hid (HB2.out.trans (hb4.mono HB2.out.size))
  have HEC := Lib.hid (show Calls Try.prog 23 #[m'.val, .int .i64 s] w4 (fun e w' => ∃ res, FitIs M s res ∧ EncOut w4 res e w') from by
    have h1 := cfit_any w4 s m' hown.at_ (HIN.out m' hmsg HLM.out) hown.owned (sec_all (P := fun s => s.ps.length ≤ s.c) (own_cap hown.s0.row) (own_cap hown.s1.row) (own_cap hown.s2.row)) (own_capM hown.s2.row)
    unfold CFitOut at h1
    rwa [hmsg] at h1)
  clear hb4 m0 m1 m2 m3 m4 m5 m6 m7 m8 m9 m10 m11 m12 m13 hmsg hown
  obtain ⟨h', qA', qc', qp', s0', s1', s2'⟩ := m'
  go_wp2_with fail
  refine HEC.out.mono ?_
  rintro e w5 ⟨res, hres, he5⟩
  have HRE := Lib.hid (fun W' hb => HRF.out res hres W' hb HLM.out)
  have hlr := hres.err
  obtain ⟨A5, c5, rfl, hr5, hb5⟩ := he5.form
  have HB5 := Lib.hid (HB4.out.trans (hb5.mono HB4.out.size))
  have HR5 := Lib.hid hr5
  clear he5 hb5 hr5 HEC hres HRF
  obtain ⟨m0, m1, m2, m3, m4, m5, m6, m7, m8, m9, m10, m11, m12, m13⟩ := HC.out w5 HB5.out
  go_wp2_with fail
  refine (HRE.out _ HB5.out).mono ?_
  intro e w6 he6
  obtain ⟨A6, c6, rfl, hr6, hb6⟩ := he6.form
  have HR5 := Lib.hid ((HR5.out.below hb6).mono hb6.size)
  have HR6 := Lib.hid hr6
  have HB6 := Lib.hid (HB5.out.trans (hb6.mono HB5.out.size))
  have HLE := Lib.hid (show (encL res).length ≤ maxLen by unfold maxLen; omega)
  clear he6 hb6 hr6 m0 m1 m2 m3 m4 m5 m6 m7 m8 m9 m10 m11 m12 m13 hlr HRE
  generalize encL res = B at *
  generalize encK res = K9 at *
  have hkk : ((K9 : Int) == (K9 : Int)) = true := by simp
  go_wp2_with fail
  refine (same_yes A5 A6 B.length B.length c5 c6 _ B _ rfl rfl HR5.out HR6.out HLE.out).mono ?_
  rintro e w7 ⟨rfl, k8, rfl⟩
  have HB7 := Lib.hid (HB6.out.trans ((below_drewN (Below.refl _ _) k8).mono HB6.out.size))
  go_wp2
  go_ret
  exact ⟨rfl, HB.out.trans (HB7.out.mono HB.out.size)⟩
theorem cfits_any (w : World) (s : Int) (m : MV) (hm : MAt w w.heap.size m) (hs : MSafe m) : Calls Try.prog 7 #[m.val, .int .i64 s] w (TrueB w) := by
  obtain ⟨h, qA, qc, qp, ⟨A0, k0, p0⟩, ⟨A1, k1, p1⟩, ⟨A2, k2, p2⟩⟩ := m
  exact cfits_core w s _ h qA qc qp A0 A1 A2 k0 k1 k2 p0 p1 p2 rfl hm hs

end Go.Proofs.Ytjkjhpaeckkpjaa

namespace Go.Proofs.Ytjkjhpaeckkpjaa
open Go.ChangeShapes Go.WideShapes Go.ChangeAt Go.RowKit

set_option maxRecDepth 100000 in
theorem cfits_lifted (os : Os) (started : os.Started) (H : Type) (enc : TypeId × Value → H) (F : Stop.Interp) :
    ReturnsInHanded {} Try.checked os 7 .any ((Rows.OpenSpec.upto Rows.cutFitsSpec).pre6 enc Try.prog Try.f7 Rows.cutFitsUptoRow.domain false) (((Rows.OpenSpec.upto Rows.cutFitsSpec).at F).post enc Try.prog Try.f7 false true false false) := by
  refine returnsInHanded_of_cond (C := Try.checked) (s := Rows.OpenSpec.upto Rows.cutFitsSpec) (k := Rows.uptoSmall) rfl Try.own started (by kernel_rfl) Try.func7
    (OpenSpec.witness (enc := enc) (C := Try.checked) (s := Rows.OpenSpec.upto Rows.cutFitsSpec) (k := Rows.uptoSmall) rfl false ⟨#[], #[.agg #[.int .i64 0, .bool false, .int .i64 0, .bool false, .bool false, .bool false, .bool false, .int .i64 0, .slice none 0 0, .slice none 0 0, .slice none 0 0, .slice none 0 0, .bool false, .int .i64 0], .int .i64 0], []⟩ 8 (by kernel_rfl) (by kernel_rfl) (by kernel_rfl)
      (x := ([.agg [.lit (.int .i64 0), .lit (.bool false), .lit (.int .i64 0), .lit (.bool false), .lit (.bool false), .lit (.bool false), .lit (.bool false), .lit (.int .i64 0), .nil, .nil, .nil, .nil, .lit (.bool false), .lit (.int .i64 0)], .lit (.int .i64 0)], [], [])) (by kernel_rfl) rfl (by kernel_rfl)) ?_
  intro W base args ds gs before hval0 hW _ hk0 _
  have hval : ∀ (j : Nat) t v, Try.f7.params[j]? = some t → args[j]? = some v → Value.okWide Try.prog W .any base t v := hval0
  have hW' := hW
  obtain ⟨p, q, hA0, hV, rfl, _, _⟩ := hW
  have hA : DataW.TrodAll enc Try.prog W 0 (fun _ => true) true Try.f7.params.toList args.toList ds p := hA0
  rw [Try.params7] at hA hval
  obtain ⟨v0, v1, d0, d1, p0, p1, rfl, rfl, rfl, h0, h1⟩ := trodAll_two hA
  obtain ⟨rfl, rfl⟩ := trodVars_none hV
  have hk : Rows.uptoBulkAll ([d0, d1] : List (DataW H)) ≤ 1048576 := of_decide_eq_true hk0
  simp only [Rows.uptoBulkAll] at hk
  clear hk0 hA0
  obtain ⟨m0, rfl, hm0, hs0⟩ := open_msg (hval 0 25 v0 rfl rfl) h0 (fun x hx => hW'.lt x (by simp [hx])) (by omega)
  obtain ⟨n1, rfl, rfl, rfl, w1⟩ := open_int Try.underlying3 (hval 1 3 v1 rfl rfl) h1
  have key : Calls Try.prog 7 #[m0.val, .int .i64 n1] W (TrueB W) := by
    exact cfits_any W n1 m0 hm0 hs0
  refine key.mono fun e W' ⟨he, hb⟩ => ?_
  subst he
  exact ⟨_, rfl, law_post (P := Try.prog) (tb := 4) Try.laidOut (by kernel_rfl) (by kernel_rfl) (by kernel_rfl) Try.underlying4 rfl hW' rfl rfl rfl hb⟩

theorem cfits_holds : Rows.CutFitsUptoSaid :=
  OpenClaim.holds_of_cond 7 Try.f7 rfl rfl rfl rfl rfl rfl rfl ⟨rfl, rfl, rfl, rfl, rfl⟩ rfl rfl rfl rfl rfl (by kernel_rfl) Try.func7 (by kernel_rfl)
    (of_decide_eq_true (by kernel_rfl)) (by unfold Func.isWrapper; first | (rw [if_pos (by decide +kernel)]; kernel_rfl) | (rw [if_neg (by decide +kernel)]; exact ⟨rfl, rfl⟩))
    (fun os started H enc _ F => cfits_lifted os started H enc F)

end Go.Proofs.Ytjkjhpaeckkpjaa
