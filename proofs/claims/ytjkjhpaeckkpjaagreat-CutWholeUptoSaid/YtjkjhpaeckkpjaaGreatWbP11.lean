/-
  What the law of CutWhole stands on, in one text.
-/
import Derived.Test.YtjkjhpaeckkpjaaGreatWbP10
import Derived.Test.YtjkjhpaeckkpjaaGreatWbP9
import Derived.Test.YtjkjhpaeckkpjaaGreatWbP7
import Derived.Test.YtjkjhpaeckkpjaaGreatWbP4
import Derived.Test.YtjkjhpaeckkpjaaGreatWbP2
import Derived.Test.YtjkjhpaeckkpjaaGreatWbP6
import Derived.Test.YtjkjhpaeckkpjaaGreatWbP8
import Derived.StillTailTactics
import Derived.BigQuiet
import Derived.Test.YtjkjhpaeckkpjaaGreatWbP1
namespace Go.Proofs.YtjkjhpaeckkpjaaGreat
open Go.RowKit

theorem MSafe.lightC {m : MV} (h : MSafe m) (w : World) (hm : MAt w w.heap.size m) : Calls Tryz.prog 5 #[m.val] w (Gave w (.bool (lightC m.msg))) := by
  have h0 : m.s0.ps.length ≤ 1048576 := h.n.2 0
  have h1 : m.s1.ps.length ≤ 1048576 := h.n.2 1
  have h2 : m.s2.ps.length ≤ 1048576 := h.n.2 2
  have hq := h.n.1
  refine clight_any w m hm (by omega) (by unfold maxLen; omega) (fun p hp => (h.q p hp).1.1) fun r hr => ?_
  obtain ⟨i, p, hp, rfl⟩ := mem_all hr
  have := (h.r i p hp).2
  omega

end Go.Proofs.YtjkjhpaeckkpjaaGreat

namespace Go.Proofs.YtjkjhpaeckkpjaaGreat
open Go.RowKit

theorem fitB2 (n : Int) : fitB n 2 = (decide (0 ≤ n) && decide (n < 65536)) := by
  unfold fitB
  rw [← Bool.decide_and]
  exact decide_eq_decide.2 (by simp)
theorem soundQ_low {q : Qt} (h : q.kind < 1) : soundQ q = false := by
  unfold soundQ
  by_cases h0 : q.kind = 0
  · rw [show decide (q.kind ≠ 0) = false by simp [h0]]
    simp
  · rw [show fitB q.kind 2 = false from fitB_neg (by omega)]
    simp
theorem soundQ_high {q : Qt} (h : 65535 < q.kind) : soundQ q = false := by
  unfold soundQ
  rw [fitB2 q.kind, decide_eq_false (show ¬ q.kind < 65536 by omega)]
  simp
theorem soundQ_mid {q : Qt} (h1 : ¬ q.kind < 1) (h2 : ¬ 65535 < q.kind) : soundQ q = (soundN q.name && fitB q.cls 2) := by
  unfold soundQ
  rw [fitB2 q.kind, decide_eq_true (show 0 ≤ q.kind by omega), decide_eq_true (show q.kind < 65536 by omega), show decide (q.kind ≠ 0) = true by rw [decide_eq_true_eq]; omega]
  simp
def RecsRel (w : World) (ps : List (RV × Rt)) (i : Value) (wr : World) : Prop := ∃ k : Nat, k ≤ ps.length ∧ i = .int .i64 k ∧ (recs (ps.take k)).all soundX = true ∧ Below w.heap.size w wr

set_option maxRecDepth 20000 in
set_option maxHeartbeats 8000000 in
theorem refrecords_any (w : World) (A : Option Addr) (c : Nat) (ps : List (RV × Rt)) (hp : RsAt w w.heap.size A ps) (hi : ∀ p ∈ ps, RIn p.2 ∧ LightR p.2) (hl : ps.length ≤ 1000) :
    Calls Tryz.prog 14 #[.slice A ps.length c] w (Gave w (.bool ((recs ps).all soundX))) := by
  have HP := Lib.hid hp
  have HI := Lib.hid hi
  clear hp hi
  go_enter Tryz.func14, Tryz.ntmps14
  go_wp2
  go_loopw [3] (RecsRel w ps) (fun i _ => ps.length - (intOf i).toNat)
  case atStart => exact ⟨0, Nat.zero_le _, rfl, rfl, Below.refl _ _⟩
  case round =>
    obtain ⟨k, hk, rfl, ha, hb⟩ := hrel
    have HA := Lib.hid ha
    have HB := Lib.hid hb
    clear ha hb
    by_cases hlt : k < ps.length
    · obtain ⟨b, off, rfl, hbH, hra, q0, q1, q2, q3, q4, q5, q6, q7, q8⟩ := (HP.out.below HB.out).at_ hlt
      have HRI := Lib.hid (HI.out _ (List.getElem_mem hlt))
      have HF := Lib.hid (show soundX (ps[k]).2 = false → (recs ps).all soundX = false from all_fails (List.mem_map.2 ⟨ps[k], List.getElem_mem hlt, rfl⟩))
      have HTS := Lib.hid (recs_at hlt)
      revert hra q0 q1 q2 q3 q4 q5 q6 q7 q8 HRI HF HTS
      generalize ps[k] = p
      obtain ⟨x, r⟩ := p
      intro hra q0 q1 q2 q3 q4 q5 q6 q7 q8 HRI HF HTS
      dsimp only at *
      have HSX := Lib.hid (show soundX r = (decide (r.kind ≠ 41) && soundR r) from rfl)
      have HC := Lib.hid (ref_rsound_any x r wr (hra.mono HB.out.size) HRI.out.1 HRI.out.2)
      clear hra
      by_cases h41 : r.kind = 41
      · have t : (r.kind == 41) = true := by rw [beq_iff_eq]; exact h41
        rw [show decide (r.kind ≠ 41) = false from decide_eq_false (by omega)] at HSX
        have HFX := Lib.hid (HF.out HSX.out)
        clear h41 HF HTS
        go_wp2
        go_ret
        exact ⟨by rw [HFX.out]; rfl, HB.out⟩
      have t : (r.kind == 41) = false := by rw [beq_eq_false_iff_ne]; exact h41
      rw [show decide (r.kind ≠ 41) = true from decide_eq_true h41, Bool.true_and] at HSX
      clear h41
      go_wp2_with fail
      refine HC.out.mono ?_
      rintro e w8 ⟨rfl, hb8⟩
      have HB8 := Lib.hid (HB.out.trans (hb8.mono HB.out.size))
      clear hb8 HC
      cases hv : soundR r with
      | false =>
        have HFX := Lib.hid (HF.out (HSX.out.trans hv))
        clear HF HTS
        go_wp2
        go_ret
        exact ⟨by rw [HFX.out]; rfl, HB8.out⟩
      | true =>
        have HT := Lib.hid (show (recs (ps.take (k + 1))).all soundX = true by rw [HTS.out, List.all_append, HA.out]; simp [HSX.out, hv])
        clear HF HTS hv HSX
        go_wp2
        exact ⟨⟨k + 1, by omega, by go_num, HT.out, HB8.out⟩, by simp [intOf]; omega⟩
    · obtain rfl : k = ps.length := by omega
      have HT := Lib.hid (show (recs ps).all soundX = true by have h := HA.out; rwa [List.take_length] at h)
      go_wp2
      go_ret
      exact ⟨by rw [HT.out]; rfl, HB.out⟩

def RefQRel (w : World) (L : List Value) (qp : List (QV × Qt)) (i : Value) (wr : World) : Prop := ∃ k : Nat, k ≤ qp.length ∧ i = .int .i64 k ∧ (qsts (qp.take k)).all soundQ = true ∧ Whole wr w.heap.size 25 L ∧ Below w.heap.size w wr
set_option maxRecDepth 20000 in
set_option maxHeartbeats 8000000 in
theorem refmsg_core (w : World) (m : MV) (h : Hd) (qA : Option Addr) (qc : Nat) (qp : List (QV × Qt)) (A0 A1 A2 : Option Addr) (k0 k1 k2 : Nat) (p0 p1 p2 : List (RV × Rt)) (he : m = ⟨h, qA, qc, qp, ⟨A0, k0, p0⟩, ⟨A1, k1, p1⟩, ⟨A2, k2, p2⟩⟩) (hm : MAt w w.heap.size m) (hi : MIn m) :
    Calls Tryz.prog 6 #[valM h (.slice qA qp.length qc) (.slice A0 p0.length k0) (.slice A1 p1.length k1) (.slice A2 p2.length k2)] w (Gave w (.bool (soundM m.msg))) := by
  obtain ⟨W, hW⟩ : ∃ W, W = w.alloc (.cells #[.int .i64 h.id, .bool h.resp, .int .i64 h.op, .bool h.aa, .bool h.tc, .bool h.rd, .bool h.ra, .int .i64 h.rc, .slice qA qp.length qc, .slice A0 p0.length k0, .slice A1 p1.length k1, .slice A2 p2.length k2, .bool h.edns, .int .i64 h.size] 25) := ⟨_, rfl⟩
  have hB : Below w.heap.size w W := by rw [hW]; exact (Below.refl _ _).alloc (Nat.le_refl _) _
  have hwm : Whole W w.heap.size 25 (cellsM h (.slice qA qp.length qc) (.slice A0 p0.length k0) (.slice A1 p1.length k1) (.slice A2 p2.length k2)) := by rw [hW]; exact Whole.made w [.int .i64 h.id, .bool h.resp, .int .i64 h.op, .bool h.aa, .bool h.tc, .bool h.rd, .bool h.ra, .int .i64 h.rc, .slice qA qp.length qc, .slice A0 p0.length k0, .slice A1 p1.length k1, .slice A2 p2.length k2, .bool h.edns, .int .i64 h.size] _
  have HB := Lib.hid hB
  have HW := Lib.hid hwm
  have HS := Lib.hid (show soundM m.msg = (soundH h && (decide (qp.length + p0.length + p1.length + p2.length ≤ 512) && ((qsts qp).all soundQ && ((recs p0).all soundX && ((recs p1).all soundX && (recs p2).all soundX))))) from by
    rw [he]
    unfold soundM MV.msg Mt.all
    dsimp only
    rw [length_qsts, length_recs, length_recs, length_recs, List.all_append, List.all_append])
  have HFH := Lib.hid (show soundH h = false → soundM m.msg = false from fun h1 => by rw [HS.out, h1]; rfl)
  have HFT := Lib.hid (show ¬ qp.length + p0.length + p1.length + p2.length ≤ 512 → soundM m.msg = false from fun h1 => by rw [HS.out, decide_eq_false h1]; simp)
  have HFQ := Lib.hid (show (qsts qp).all soundQ = false → soundM m.msg = false from fun h1 => by rw [HS.out, h1]; simp)
  have HF0 := Lib.hid (show (recs p0).all soundX = false → soundM m.msg = false from fun h1 => by rw [HS.out, h1]; simp)
  have HF1 := Lib.hid (show (recs p1).all soundX = false → soundM m.msg = false from fun h1 => by rw [HS.out, h1]; simp)
  have HF2 := Lib.hid (show (recs p2).all soundX = false → soundM m.msg = false from fun h1 => by rw [HS.out, h1]; simp)
  have hl0 : p0.length ≤ 1000 := by have h2 := hi.rl 0; rw [he] at h2; exact h2
  have hl1 : p1.length ≤ 1000 := by have h2 := hi.rl 1; rw [he] at h2; exact h2
  have hl2 : p2.length ≤ 1000 := by have h2 := hi.rl 2; rw [he] at h2; exact h2
  have hql : qp.length ≤ 1000 := by have h2 := hi.ql; rw [he] at h2; exact h2
  have HQA := Lib.hid (fun (W' : World) (hb : Below w.heap.size w W') => (show QsAt W' w.heap.size qA qp by have h := hm.q.below hb; rw [he] at h; exact h))
  have HQI := Lib.hid (show ∀ p ∈ qp, QIn p.2 by have h := hi.q; rw [he] at h; exact h)
  have HR0 := Lib.hid (fun (W' : World) (hb : Below w.heap.size w W') => refrecords_any W' A0 k0 p0 (by have h2 := (hm.s0.below hb).mono hb.size; rw [he] at h2; exact h2) (fun p hp => hi.r 0 p (by rw [he]; exact hp)) hl0)
  have HR1 := Lib.hid (fun (W' : World) (hb : Below w.heap.size w W') => refrecords_any W' A1 k1 p1 (by have h2 := (hm.s1.below hb).mono hb.size; rw [he] at h2; exact h2) (fun p hp => hi.r 1 p (by rw [he]; exact hp)) hl1)
  have HR2 := Lib.hid (fun (W' : World) (hb : Below w.heap.size w W') => refrecords_any W' A2 k2 p2 (by have h2 := (hm.s2.below hb).mono hb.size; rw [he] at h2; exact h2) (fun p hp => hi.r 2 p (by rw [he]; exact hp)) hl2)
  have HH := Lib.hid (show HIn h by have h2 := hi.h; rw [he] at h2; exact h2)
  clear hB hwm hm hi he
  subst hW
  go_enter Tryz.func6, Tryz.ntmps6
  by_cases a0 : qp.length ≤ 512
  case neg =>
    have d0 : decide ((512 : Int) < (qp.length : Int)) = true := by rw [decide_eq_true_eq]; omega
    have HX := Lib.hid (HFT.out (by omega))
    go_wp2
    go_ret
    exact ⟨by rw [HX.out]; rfl, HB.out⟩
  have d0 : decide ((512 : Int) < (qp.length : Int)) = false := decide_eq_false (by omega)
  by_cases a1 : p0.length ≤ 512
  case neg =>
    have d1 : decide ((512 : Int) < (p0.length : Int)) = true := by rw [decide_eq_true_eq]; omega
    have HX := Lib.hid (HFT.out (by omega))
    go_wp2
    go_ret
    exact ⟨by rw [HX.out]; rfl, HB.out⟩
  have d1 : decide ((512 : Int) < (p0.length : Int)) = false := decide_eq_false (by omega)
  by_cases a2 : p1.length ≤ 512
  case neg =>
    have d2 : decide ((512 : Int) < (p1.length : Int)) = true := by rw [decide_eq_true_eq]; omega
    have HX := Lib.hid (HFT.out (by omega))
    go_wp2
    go_ret
    exact ⟨by rw [HX.out]; rfl, HB.out⟩
  have d2 : decide ((512 : Int) < (p1.length : Int)) = false := decide_eq_false (by omega)
  by_cases a3 : p2.length ≤ 512
  case neg =>
    have d3 : decide ((512 : Int) < (p2.length : Int)) = true := by rw [decide_eq_true_eq]; omega
    have HX := Lib.hid (HFT.out (by omega))
    go_wp2
    go_ret
    exact ⟨by rw [HX.out]; rfl, HB.out⟩
  have d3 : decide ((512 : Int) < (p2.length : Int)) = false := decide_eq_false (by omega)
  by_cases a4 : qp.length + p0.length + p1.length + p2.length ≤ 512
  case neg =>
    have d4 : decide ((512 : Int) < (qp.length : Int) + (p0.length : Int) + (p1.length : Int) + (p2.length : Int)) = true := by rw [decide_eq_true_eq]; omega
    have HX := Lib.hid (HFT.out a4)
    go_wp2
    go_ret
    exact ⟨by rw [HX.out]; rfl, HB.out⟩
  have d4 : decide ((512 : Int) < (qp.length : Int) + (p0.length : Int) + (p1.length : Int) + (p2.length : Int)) = false := decide_eq_false (by omega)
  go_wp2
  clear d0 d1 d2 d3 d4
  go_loopw [3] (RefQRel w (cellsM h (.slice qA qp.length qc) (.slice A0 p0.length k0) (.slice A1 p1.length k1) (.slice A2 p2.length k2)) qp) (fun i _ => qp.length - (intOf i).toNat)
  case atStart => exact ⟨0, Nat.zero_le _, rfl, rfl, HW.out, HB.out⟩
  case round =>
    obtain ⟨j, hj, rfl, ha, hw, hb⟩ := hrel
    have HA := Lib.hid ha
    have HBR := Lib.hid hb
    have HWR := Lib.hid hw
    have c8 : wr.cell? ⟨w.heap.size, 8, none⟩ = some (.slice qA qp.length qc) := Whole.cell hw 8
    have hgl : w.heap.size < wr.heap.size := hw.lt
    clear ha hw hb
    by_cases hlt : j < qp.length
    · obtain ⟨b, off, rfl, hbH, hqa, q0, q1, q2⟩ := (HQA.out _ HBR.out).at_ hlt
      have HI := Lib.hid (HQI.out _ (List.getElem_mem hlt))
      have HF := Lib.hid (show soundQ (qp[j]).2 = false → (qsts qp).all soundQ = false from all_fails (List.mem_map.2 ⟨qp[j], List.getElem_mem hlt, rfl⟩))
      have HT := Lib.hid (show soundQ (qp[j]).2 = true → (qsts (qp.take (j + 1))).all soundQ = true by
        intro h
        rw [qsts_at hlt, List.all_append, HA.out]
        simp [h])
      revert hqa q0 q1 q2 HI HF HT
      generalize qp[j] = p
      obtain ⟨y, q⟩ := p
      intro hqa q0 q1 q2 HI HF HT
      dsimp only at *
      have hba : Below wr.heap.size wr (wr.alloc (.cells #[.slice y.1 q.name.length y.2, .int .i64 q.kind, .int .i64 q.cls] 46)) := (Below.refl _ _).alloc (Nat.le_refl _) _
      have HBA := Lib.hid (HBR.out.trans (hba.mono HBR.out.size))
      have HWA := Lib.hid (HWR.out.below hba hgl)
      have HC := Lib.hid (ref_sound_wide y.1 y.2 w.heap.size q.name (wr.alloc (.cells #[.slice y.1 q.name.length y.2, .int .i64 q.kind, .int .i64 q.cls] 46)) (Row.below hqa (hba.mono HBR.out.size)) HI.out.n.1 HI.out.n.2)
      have HSQ := Lib.hid (show soundQ q = (soundN q.name && (decide (q.kind ≠ 0) && (fitB q.kind 2 && fitB q.cls 2))) from rfl)
      clear hqa hba
      go_wp2_with fail
      refine HC.out.mono ?_
      rintro e w2 ⟨rfl, rfl⟩
      have HZ := Lib.hid (show soundN q.name = false → soundQ q = false from fun h1 => by unfold soundQ; rw [h1]; rfl)
      have HCF := Lib.hid (fun W' => ref_fits_any q.cls 2 W' (i64_top HI.out.c))
      clear c8 q0 q1 q2 hbH
      cases hv : soundN q.name with
      | false =>
        have HX := Lib.hid (HFQ.out (HF.out (HZ.out hv)))
        clear HSQ HT HF HZ
        go_wp2
        go_ret
        exact ⟨by rw [HX.out]; rfl, HBA.out⟩
      | true =>
      by_cases e1 : q.kind < 1
      · have d1 : decide (q.kind < 1) = true := decide_eq_true e1
        have HX := Lib.hid (HFQ.out (HF.out (soundQ_low e1)))
        clear HSQ HT HF HZ
        go_wp2
        go_ret
        exact ⟨by rw [HX.out]; rfl, HBA.out⟩
      have d1 : decide (q.kind < 1) = false := decide_eq_false e1
      by_cases e2 : 65535 < q.kind
      · have d2 : decide (65535 < q.kind) = true := decide_eq_true e2
        have HX := Lib.hid (HFQ.out (HF.out (soundQ_high e2)))
        clear HSQ HT HF HZ
        go_wp2
        go_ret
        exact ⟨by rw [HX.out]; rfl, HBA.out⟩
      have d2 : decide (65535 < q.kind) = false := decide_eq_false e2
      have HM := Lib.hid (show soundQ q = fitB q.cls 2 by rw [soundQ_mid e1 e2, hv]; rfl)
      clear e1 e2 HSQ HZ
      go_wp2_with fail
      refine (HCF.out _).mono ?_
      rintro e w3 ⟨rfl, rfl⟩
      cases hc : fitB q.cls 2 with
      | false =>
        have HX := Lib.hid (HFQ.out (HF.out (HM.out.trans hc)))
        clear HT HF HM
        go_wp2
        go_ret
        exact ⟨by rw [HX.out]; rfl, HBA.out⟩
      | true =>
        have HX := Lib.hid (HT.out (HM.out.trans hc))
        clear HT HF HM
        go_wp2
        exact ⟨⟨j + 1, by omega, by go_num, HX.out, HWA.out, HBA.out⟩, by simp [intOf]; omega⟩
    · obtain rfl : j = qp.length := by omega
      have HAQ := Lib.hid (show (qsts qp).all soundQ = true by have h := HA.out; rwa [List.take_length] at h)
      have HTT := Lib.hid (show soundH h = true → (recs p0).all soundX = true → (recs p1).all soundX = true → (recs p2).all soundX = true → soundM m.msg = true from fun h1 h2 h3 h4 => by
        rw [HS.out, h1, h2, h3, h4, HAQ.out, decide_eq_true a4]
        rfl)
      have g0 : wr.cell? ⟨w.heap.size, 0, none⟩ = some (.int .i64 h.id) := Whole.cell HWR.out 0
      have g2 : wr.cell? ⟨w.heap.size, 2, none⟩ = some (.int .i64 h.op) := Whole.cell HWR.out 2
      have g7 : wr.cell? ⟨w.heap.size, 7, none⟩ = some (.int .i64 h.rc) := Whole.cell HWR.out 7
      have g9 : wr.cell? ⟨w.heap.size, 9, none⟩ = some (.slice A0 p0.length k0) := Whole.cell HWR.out 9
      have g12 : wr.cell? ⟨w.heap.size, 12, none⟩ = some (.bool h.edns) := Whole.cell HWR.out 12
      have g13 : wr.cell? ⟨w.heap.size, 13, none⟩ = some (.int .i64 h.size) := Whole.cell HWR.out 13
      have HCI := Lib.hid (fun W' => ref_fits_any h.id 2 W' (i64_top HH.out.i))
      have HCS := Lib.hid (fun W' => ref_fits_any h.size 2 W' (i64_top HH.out.s))
      have HSH := Lib.hid (show soundH h = (fitB h.id 2 && (codeB h.op && (codeB h.rc && (fitB h.size 2 && (h.edns || decide (h.size = 0)))))) from rfl)
      have HCO := Lib.hid (show codeB h.op = (decide (0 ≤ h.op) && decide (h.op ≤ 15)) from rfl)
      have HCR := Lib.hid (show codeB h.rc = (decide (0 ≤ h.rc) && decide (h.rc ≤ 15)) from rfl)
      clear HFQ HFT HQA HQI HA HAQ hlt hj a0 a1 a2 a3
      go_wp2_with fail
      refine (HCI.out _).mono ?_
      rintro e w2 ⟨rfl, rfl⟩
      cases hi1 : fitB h.id 2 with
      | false =>
        have HX := Lib.hid (HFH.out (by rw [HSH.out, hi1]; rfl))
        clear HTT HSH HCO HCR
        go_wp2
        go_ret
        exact ⟨by rw [HX.out]; rfl, HBR.out⟩
      | true =>
      by_cases o1 : 0 ≤ h.op
      case neg =>
        have do1 : decide (0 ≤ h.op) = false := decide_eq_false o1
        have HX := Lib.hid (HFH.out (by rw [HSH.out, HCO.out, decide_eq_false o1]; simp))
        clear HTT HSH HCO HCR
        go_wp2
        go_ret
        exact ⟨by rw [HX.out]; rfl, HBR.out⟩
      have do1 : decide (0 ≤ h.op) = true := decide_eq_true o1
      by_cases o2 : h.op ≤ 15
      case neg =>
        have do2 : decide (h.op ≤ 15) = false := decide_eq_false o2
        have HX := Lib.hid (HFH.out (by rw [HSH.out, HCO.out, decide_eq_false o2]; simp))
        clear HTT HSH HCO HCR
        go_wp2
        go_ret
        exact ⟨by rw [HX.out]; rfl, HBR.out⟩
      have do2 : decide (h.op ≤ 15) = true := decide_eq_true o2
      by_cases o3 : 0 ≤ h.rc
      case neg =>
        have do3 : decide (0 ≤ h.rc) = false := decide_eq_false o3
        have HX := Lib.hid (HFH.out (by rw [HSH.out, HCR.out, decide_eq_false o3]; simp))
        clear HTT HSH HCO HCR
        go_wp2
        go_ret
        exact ⟨by rw [HX.out]; rfl, HBR.out⟩
      have do3 : decide (0 ≤ h.rc) = true := decide_eq_true o3
      by_cases o4 : h.rc ≤ 15
      case neg =>
        have do4 : decide (h.rc ≤ 15) = false := decide_eq_false o4
        have HX := Lib.hid (HFH.out (by rw [HSH.out, HCR.out, decide_eq_false o4]; simp))
        clear HTT HSH HCO HCR
        go_wp2
        go_ret
        exact ⟨by rw [HX.out]; rfl, HBR.out⟩
      have do4 : decide (h.rc ≤ 15) = true := decide_eq_true o4
      go_wp2_with fail
      refine (HCS.out _).mono ?_
      rintro e w2 ⟨rfl, rfl⟩
      cases hs1 : fitB h.size 2 with
      | false =>
        have HX := Lib.hid (HFH.out (by rw [HSH.out, hs1]; simp))
        clear HTT HSH HCO HCR
        go_wp2
        go_ret
        exact ⟨by rw [HX.out]; rfl, HBR.out⟩
      | true =>
      by_cases hx : h.edns = false ∧ h.size ≠ 0
      · obtain ⟨hx1, hx2⟩ := hx
        have t : (h.size == 0) = false := by rw [beq_eq_false_iff_ne]; exact hx2
        rw [hx1] at g12
        have HX := Lib.hid (HFH.out (by rw [HSH.out, hx1, decide_eq_false hx2]; simp))
        clear HTT HSH HCO HCR
        go_wp2
        go_ret
        exact ⟨by rw [HX.out]; rfl, HBR.out⟩
      have HHT := Lib.hid (show soundH h = true from by
        rw [HSH.out, HCO.out, HCR.out, hi1, hs1, decide_eq_true o1, decide_eq_true o2, decide_eq_true o3, decide_eq_true o4]
        cases h1 : h.edns with
        | true => rfl
        | false =>
          by_cases h2 : h.size = 0
          · rw [decide_eq_true h2]; rfl
          · exact absurd ⟨h1, h2⟩ hx)
      have HZ := Lib.hid (show h.edns = false → (h.size == 0) = true from fun h1 => by
        by_cases h2 : h.size = 0
        · rw [beq_iff_eq]; exact h2
        · exact absurd ⟨h1, h2⟩ hx)
      have HRC := Lib.hid (HR0.out _ HBR.out)
      clear HSH HCO HCR HR0 HCI HCS hx hi1 hs1 o1 o2 o3 o4
      cases hed : h.edns with
      | false =>
        have t := HZ.out hed
        rw [hed] at g12
        go_wp2_with fail
        refine HRC.out.mono ?_
        rintro e w3 ⟨rfl, hb3⟩
        have hw3 := HWR.out.below hb3 hgl
        have g10 : w3.cell? ⟨w.heap.size, 10, none⟩ = some (.slice A1 p1.length k1) := Whole.cell hw3 10
        have hgl3 : w.heap.size < w3.heap.size := hw3.lt
        have HW3 := Lib.hid hw3
        have HB3 := Lib.hid (HBR.out.trans (hb3.mono HBR.out.size))
        clear hb3 hw3 HRC g0 g2 g7 g9 g12 g13
        cases hr0 : (recs p0).all soundX with
        | false =>
          have HX := Lib.hid (HF0.out hr0)
          clear HTT
          go_wp2
          go_ret
          exact ⟨by rw [HX.out]; rfl, HB3.out⟩
        | true =>
        have HRC := Lib.hid (HR1.out _ HB3.out)
        go_wp2_with fail
        refine HRC.out.mono ?_
        rintro e w4 ⟨rfl, hb4⟩
        have hw4 := HW3.out.below hb4 hgl3
        have g11 : w4.cell? ⟨w.heap.size, 11, none⟩ = some (.slice A2 p2.length k2) := Whole.cell hw4 11
        have HB4 := Lib.hid (HB3.out.trans (hb4.mono HB3.out.size))
        clear hb4 hw4 HRC g10
        cases hr1 : (recs p1).all soundX with
        | false =>
          have HX := Lib.hid (HF1.out hr1)
          clear HTT
          go_wp2
          go_ret
          exact ⟨by rw [HX.out]; rfl, HB4.out⟩
        | true =>
        have HRC := Lib.hid (HR2.out _ HB4.out)
        go_wp2_with fail
        refine HRC.out.mono ?_
        rintro e w5 ⟨rfl, hb5⟩
        have HB5 := Lib.hid (HB4.out.trans (hb5.mono HB4.out.size))
        clear hb5 HRC g11
        cases hr2 : (recs p2).all soundX with
        | false =>
          have HX := Lib.hid (HF2.out hr2)
          clear HTT
          go_wp2
          go_ret
          exact ⟨by rw [HX.out]; rfl, HB5.out⟩
        | true =>
        have HX := Lib.hid (HTT.out HHT.out hr0 hr1 hr2)
        clear HTT
        go_wp2
        go_ret
        exact ⟨by rw [HX.out]; rfl, HB5.out⟩
      | true =>
        rw [hed] at g12
        go_wp2_with fail
        refine HRC.out.mono ?_
        rintro e w3 ⟨rfl, hb3⟩
        have hw3 := HWR.out.below hb3 hgl
        have g10 : w3.cell? ⟨w.heap.size, 10, none⟩ = some (.slice A1 p1.length k1) := Whole.cell hw3 10
        have hgl3 : w.heap.size < w3.heap.size := hw3.lt
        have HW3 := Lib.hid hw3
        have HB3 := Lib.hid (HBR.out.trans (hb3.mono HBR.out.size))
        clear hb3 hw3 HRC g0 g2 g7 g9 g12 g13
        cases hr0 : (recs p0).all soundX with
        | false =>
          have HX := Lib.hid (HF0.out hr0)
          clear HTT
          go_wp2
          go_ret
          exact ⟨by rw [HX.out]; rfl, HB3.out⟩
        | true =>
        have HRC := Lib.hid (HR1.out _ HB3.out)
        go_wp2_with fail
        refine HRC.out.mono ?_
        rintro e w4 ⟨rfl, hb4⟩
        have hw4 := HW3.out.below hb4 hgl3
        have g11 : w4.cell? ⟨w.heap.size, 11, none⟩ = some (.slice A2 p2.length k2) := Whole.cell hw4 11
        have HB4 := Lib.hid (HB3.out.trans (hb4.mono HB3.out.size))
        clear hb4 hw4 HRC g10
        cases hr1 : (recs p1).all soundX with
        | false =>
          have HX := Lib.hid (HF1.out hr1)
          clear HTT
          go_wp2
          go_ret
          exact ⟨by rw [HX.out]; rfl, HB4.out⟩
        | true =>
        have HRC := Lib.hid (HR2.out _ HB4.out)
        go_wp2_with fail
        refine HRC.out.mono ?_
        rintro e w5 ⟨rfl, hb5⟩
        have HB5 := Lib.hid (HB4.out.trans (hb5.mono HB4.out.size))
        clear hb5 HRC g11
        cases hr2 : (recs p2).all soundX with
        | false =>
          have HX := Lib.hid (HF2.out hr2)
          clear HTT
          go_wp2
          go_ret
          exact ⟨by rw [HX.out]; rfl, HB5.out⟩
        | true =>
        have HX := Lib.hid (HTT.out HHT.out hr0 hr1 hr2)
        clear HTT
        go_wp2
        go_ret
        exact ⟨by rw [HX.out]; rfl, HB5.out⟩
theorem refmsg_any (w : World) (m : MV) (hm : MAt w w.heap.size m) (hi : MIn m) : Calls Tryz.prog 6 #[m.val] w (Gave w (.bool (soundM m.msg))) := by
  obtain ⟨h, qA, qc, qp, ⟨A0, k0, p0⟩, ⟨A1, k1, p1⟩, ⟨A2, k2, p2⟩⟩ := m
  exact refmsg_core w _ h qA qc qp A0 A1 A2 k0 k1 k2 p0 p1 p2 rfl hm hi

end Go.Proofs.YtjkjhpaeckkpjaaGreat

namespace Go.Proofs.YtjkjhpaeckkpjaaGreat
open Go.RowKit

/-- Is data the same, byte by byte? -/
def exactD (a b : Dt) : Bool := sameD a b && (decide (a.host = b.host) && decide (a.mail = b.mail))
theorem exactD_self (d : Dt) : exactD d d = true := by simp [exactD, sameD, eqN]

set_option maxRecDepth 4000 in
set_option maxHeartbeats 2000000 in
theorem dexact_any (x y : DV) (a b : Dt) (w : World) (hx : DataAt w w.heap.size x a) (hy : DataAt w w.heap.size y b) (la : Sized a) (lb : Sized b) (kh : a.host.length ≤ maxLen) (km : a.mail.length ≤ maxLen) :
    Calls Tryz.prog 40 #[x.val a, y.val b] w (Gave w (.bool (exactD a b))) := by
  have HC1 := Lib.hid (fun W (h : Boxes w x y a b W) => ref_dsame_any x y a b W h.atA h.atB la lb)
  have HC2 := Lib.hid (fun W (h : Boxes w x y a b W) => exact_any x.Ah y.Ah a.host.length b.host.length x.ch y.ch w.heap.size a.host b.host W rfl rfl h.da.h h.db.h kh)
  have HC3 := Lib.hid (fun W (h : Boxes w x y a b W) => exact_any x.Am y.Am a.mail.length b.mail.length x.cm y.cm w.heap.size a.mail b.mail W rfl rfl h.da.m h.db.m km)
  have HX := Lib.hid (Boxes.made hx hy)
  have HS := Lib.hid (show exactD a b = (sameD a b && (decide (a.host = b.host) && decide (a.mail = b.mail))) from rfl)
  clear hx hy la lb kh km
  go_enter Tryz.func40, Tryz.ntmps40
  go_wp2_with fail
  obtain ⟨W0, hW0⟩ : ∃ W0, W0 = (w.alloc (.cells #[.slice x.Ab a.bytes.length x.cb, .slice x.Ah a.host.length x.ch, .slice x.Am a.mail.length x.cm, .slice x.An a.nums.length x.cn, .slice x.At a.texts.length x.ct] 40)).alloc (.cells #[.slice y.Ab b.bytes.length y.cb, .slice y.Ah b.host.length y.ch, .slice y.Am b.mail.length y.cm, .slice y.An b.nums.length y.cn, .slice y.At b.texts.length y.ct] 40) := ⟨_, rfl⟩
  rw [← hW0]
  have hx0 : Boxes w x y a b W0 := by rw [hW0]; exact HX.out
  clear HX hW0
  refine (HC1.out W0 hx0).mono ?_
  intro e W1 hO
  obtain ⟨he, hb⟩ := hO
  have hx1 := hx0.step hb
  clear hb hx0
  cases hv : sameD a b with
  | false =>
    rw [hv] at he HS
    subst he
    have HB := Lib.hid hx1.below
    clear hx1
    go_wp2
    go_ret
    exact ⟨by rw [HS.out]; rfl, HB.out⟩
  | true =>
  rw [hv] at he HS
  subst he
  have p1 : W1.cell? ⟨w.heap.size, 1, none⟩ = some (.slice x.Ah a.host.length x.ch) := hx1.ba.cell 1
  have q1 : W1.cell? ⟨w.heap.size + 1, 1, none⟩ = some (.slice y.Ah b.host.length y.ch) := hx1.bb.cell 1
  go_wp2_with fail
  refine (HC2.out W1 hx1).mono ?_
  intro e W2 hO
  obtain ⟨he, hb⟩ := gave_drewn hO
  have hx2 := hx1.step hb
  clear hO hb hx1 p1 q1
  cases hv : decide (a.host = b.host) with
  | false =>
    rw [hv] at he HS
    subst he
    have HB := Lib.hid hx2.below
    clear hx2
    go_wp2
    go_ret
    exact ⟨by rw [HS.out]; rfl, HB.out⟩
  | true =>
  rw [hv] at he HS
  subst he
  have p2 : W2.cell? ⟨w.heap.size, 2, none⟩ = some (.slice x.Am a.mail.length x.cm) := hx2.ba.cell 2
  have q2 : W2.cell? ⟨w.heap.size + 1, 2, none⟩ = some (.slice y.Am b.mail.length y.cm) := hx2.bb.cell 2
  go_wp2_with fail
  refine (HC3.out W2 hx2).mono ?_
  intro e W3 hO
  obtain ⟨he, hb⟩ := gave_drewn hO
  have hx3 := hx2.step hb
  clear hO hb hx2 p2 q2
  subst he
  have HB := Lib.hid hx3.below
  clear hx3
  go_wp2
  go_ret
  refine ⟨?_, HB.out⟩
  rw [HS.out]
  simp

end Go.Proofs.YtjkjhpaeckkpjaaGreat

namespace Go.Proofs.YtjkjhpaeckkpjaaGreat
open Go.RowKit

def sameR (a b : Rt) : Bool := decide (a.name = b.name) && (decide (a.kind = b.kind) && (decide (a.cls = b.cls) && (decide (a.ttl = b.ttl) && exactD a.data b.data)))
theorem sameR_self (r : Rt) : sameR r r = true := by simp [sameR, exactD_self]

set_option maxRecDepth 100000 in
set_option maxHeartbeats 4000000 in
theorem sameRR_any (x y : RV) (a b : Rt) (w : World) (hx : RAt w w.heap.size x a) (hy : RAt w w.heap.size y b) (hn : a.name.length ≤ maxLen) (la : Sized a.data) (lb : Sized b.data) (kh : a.data.host.length ≤ maxLen) (km : a.data.mail.length ≤ maxLen) :
    Calls Tryz.prog 22 #[x.val a, y.val b] w (Gave w (.bool (sameR a b))) := by
  obtain ⟨W, hW⟩ : ∃ W, W = (w.alloc (.cells #[.slice x.A a.name.length x.c, .int .i64 a.kind, .int .i64 a.cls, .int .i64 a.ttl, .slice x.d.Ab a.data.bytes.length x.d.cb, .slice x.d.Ah a.data.host.length x.d.ch, .slice x.d.Am a.data.mail.length x.d.cm, .slice x.d.An a.data.nums.length x.d.cn, .slice x.d.At a.data.texts.length x.d.ct] 42)).alloc (.cells #[.slice y.A b.name.length y.c, .int .i64 b.kind, .int .i64 b.cls, .int .i64 b.ttl, .slice y.d.Ab b.data.bytes.length y.d.cb, .slice y.d.Ah b.data.host.length y.d.ch, .slice y.d.Am b.data.mail.length y.d.cm, .slice y.d.An b.data.nums.length y.d.cn, .slice y.d.At b.data.texts.length y.d.ct] 42) := ⟨_, rfl⟩
  have hz : (w.alloc (.cells #[.slice x.A a.name.length x.c, .int .i64 a.kind, .int .i64 a.cls, .int .i64 a.ttl, .slice x.d.Ab a.data.bytes.length x.d.cb, .slice x.d.Ah a.data.host.length x.d.ch, .slice x.d.Am a.data.mail.length x.d.cm, .slice x.d.An a.data.nums.length x.d.cn, .slice x.d.At a.data.texts.length x.d.ct] 42)).heap.size = w.heap.size + 1 := by simp
  have hB : Below w.heap.size w W := by rw [hW]; exact ((Below.refl _ _).alloc (Nat.le_refl _) _).alloc (by rw [hz]; omega) _
  have ha : Whole W w.heap.size 42 [.slice x.A a.name.length x.c, .int .i64 a.kind, .int .i64 a.cls, .int .i64 a.ttl, .slice x.d.Ab a.data.bytes.length x.d.cb, .slice x.d.Ah a.data.host.length x.d.ch, .slice x.d.Am a.data.mail.length x.d.cm, .slice x.d.An a.data.nums.length x.d.cn, .slice x.d.At a.data.texts.length x.d.ct] := by rw [hW]; exact (Whole.made w _ _).alloc _
  have hb : Whole W (w.heap.size + 1) 42 [.slice y.A b.name.length y.c, .int .i64 b.kind, .int .i64 b.cls, .int .i64 b.ttl, .slice y.d.Ab b.data.bytes.length y.d.cb, .slice y.d.Ah b.data.host.length y.d.ch, .slice y.d.Am b.data.mail.length y.d.cm, .slice y.d.An b.data.nums.length y.d.cn, .slice y.d.At b.data.texts.length y.d.ct] := by
    rw [hW]
    have h := Whole.made (w.alloc (.cells #[.slice x.A a.name.length x.c, .int .i64 a.kind, .int .i64 a.cls, .int .i64 a.ttl, .slice x.d.Ab a.data.bytes.length x.d.cb, .slice x.d.Ah a.data.host.length x.d.ch, .slice x.d.Am a.data.mail.length x.d.cm, .slice x.d.An a.data.nums.length x.d.cn, .slice x.d.At a.data.texts.length x.d.ct] 42)) [.slice y.A b.name.length y.c, .int .i64 b.kind, .int .i64 b.cls, .int .i64 b.ttl, .slice y.d.Ab b.data.bytes.length y.d.cb, .slice y.d.Ah b.data.host.length y.d.ch, .slice y.d.Am b.data.mail.length y.d.cm, .slice y.d.An b.data.nums.length y.d.cn, .slice y.d.At b.data.texts.length y.d.ct] 42
    rw [hz] at h
    exact h
  have hsz : w.heap.size + 2 ≤ W.heap.size := by rw [hW]; simp
  have HB0 := Lib.hid hB
  have HA0 := Lib.hid ha
  have HBB := Lib.hid hb
  have HX := Lib.hid hx
  have HY := Lib.hid hy
  have HE := Lib.hid (fun W' (h : Below w.heap.size w W') => exact_any x.A y.A a.name.length b.name.length x.c y.c w.heap.size a.name b.name W' rfl rfl (hx.below h).n (hy.below h).n hn)
  have HD := Lib.hid (fun W' (h : Below w.heap.size w W') => dexact_any x.d y.d a.data b.data W' ((hx.below h).mono h.size).d ((hy.below h).mono h.size).d la lb kh km)
  have HS := Lib.hid (show sameR a b = (decide (a.name = b.name) && (decide (a.kind = b.kind) && (decide (a.cls = b.cls) && (decide (a.ttl = b.ttl) && exactD a.data b.data)))) from rfl)
  clear hB ha hb hx hy hz
  subst hW
  go_enter Tryz.func22, Tryz.ntmps22
  go_wp2_with fail
  refine (HE.out _ HB0.out).mono ?_
  intro e w1 hg1
  obtain ⟨rfl, hb1⟩ := gave_drewn hg1
  have HWA := Lib.hid (HA0.out.below hb1 (by omega))
  have HWB := Lib.hid (HBB.out.below hb1 (by omega))
  have HB1 := Lib.hid (HB0.out.trans (hb1.mono HB0.out.size))
  clear hb1 hg1 HA0 HBB HB0 hsz
  cases h1 : decide (a.name = b.name) with
  | false =>
    rw [h1] at HS
    go_wp2
    go_ret
    exact ⟨by rw [HS.out]; rfl, HB1.out⟩
  | true =>
  rw [h1] at HS
  have p1 : w1.cell? ⟨w.heap.size, 1, none⟩ = some (.int .i64 a.kind) := Whole.cell (L := [.slice x.A a.name.length x.c, .int .i64 a.kind, .int .i64 a.cls, .int .i64 a.ttl, .slice x.d.Ab a.data.bytes.length x.d.cb, .slice x.d.Ah a.data.host.length x.d.ch, .slice x.d.Am a.data.mail.length x.d.cm, .slice x.d.An a.data.nums.length x.d.cn, .slice x.d.At a.data.texts.length x.d.ct]) HWA.out 1
  have p2 : w1.cell? ⟨w.heap.size, 2, none⟩ = some (.int .i64 a.cls) := Whole.cell (L := [.slice x.A a.name.length x.c, .int .i64 a.kind, .int .i64 a.cls, .int .i64 a.ttl, .slice x.d.Ab a.data.bytes.length x.d.cb, .slice x.d.Ah a.data.host.length x.d.ch, .slice x.d.Am a.data.mail.length x.d.cm, .slice x.d.An a.data.nums.length x.d.cn, .slice x.d.At a.data.texts.length x.d.ct]) HWA.out 2
  have p3 : w1.cell? ⟨w.heap.size, 3, none⟩ = some (.int .i64 a.ttl) := Whole.cell (L := [.slice x.A a.name.length x.c, .int .i64 a.kind, .int .i64 a.cls, .int .i64 a.ttl, .slice x.d.Ab a.data.bytes.length x.d.cb, .slice x.d.Ah a.data.host.length x.d.ch, .slice x.d.Am a.data.mail.length x.d.cm, .slice x.d.An a.data.nums.length x.d.cn, .slice x.d.At a.data.texts.length x.d.ct]) HWA.out 3
  have p4 : w1.cell? ⟨w.heap.size, 4, none⟩ = some (.slice x.d.Ab a.data.bytes.length x.d.cb) := Whole.cell (L := [.slice x.A a.name.length x.c, .int .i64 a.kind, .int .i64 a.cls, .int .i64 a.ttl, .slice x.d.Ab a.data.bytes.length x.d.cb, .slice x.d.Ah a.data.host.length x.d.ch, .slice x.d.Am a.data.mail.length x.d.cm, .slice x.d.An a.data.nums.length x.d.cn, .slice x.d.At a.data.texts.length x.d.ct]) HWA.out 4
  have p5 : w1.cell? ⟨w.heap.size, 5, none⟩ = some (.slice x.d.Ah a.data.host.length x.d.ch) := Whole.cell (L := [.slice x.A a.name.length x.c, .int .i64 a.kind, .int .i64 a.cls, .int .i64 a.ttl, .slice x.d.Ab a.data.bytes.length x.d.cb, .slice x.d.Ah a.data.host.length x.d.ch, .slice x.d.Am a.data.mail.length x.d.cm, .slice x.d.An a.data.nums.length x.d.cn, .slice x.d.At a.data.texts.length x.d.ct]) HWA.out 5
  have p6 : w1.cell? ⟨w.heap.size, 6, none⟩ = some (.slice x.d.Am a.data.mail.length x.d.cm) := Whole.cell (L := [.slice x.A a.name.length x.c, .int .i64 a.kind, .int .i64 a.cls, .int .i64 a.ttl, .slice x.d.Ab a.data.bytes.length x.d.cb, .slice x.d.Ah a.data.host.length x.d.ch, .slice x.d.Am a.data.mail.length x.d.cm, .slice x.d.An a.data.nums.length x.d.cn, .slice x.d.At a.data.texts.length x.d.ct]) HWA.out 6
  have p7 : w1.cell? ⟨w.heap.size, 7, none⟩ = some (.slice x.d.An a.data.nums.length x.d.cn) := Whole.cell (L := [.slice x.A a.name.length x.c, .int .i64 a.kind, .int .i64 a.cls, .int .i64 a.ttl, .slice x.d.Ab a.data.bytes.length x.d.cb, .slice x.d.Ah a.data.host.length x.d.ch, .slice x.d.Am a.data.mail.length x.d.cm, .slice x.d.An a.data.nums.length x.d.cn, .slice x.d.At a.data.texts.length x.d.ct]) HWA.out 7
  have p8 : w1.cell? ⟨w.heap.size, 8, none⟩ = some (.slice x.d.At a.data.texts.length x.d.ct) := Whole.cell (L := [.slice x.A a.name.length x.c, .int .i64 a.kind, .int .i64 a.cls, .int .i64 a.ttl, .slice x.d.Ab a.data.bytes.length x.d.cb, .slice x.d.Ah a.data.host.length x.d.ch, .slice x.d.Am a.data.mail.length x.d.cm, .slice x.d.An a.data.nums.length x.d.cn, .slice x.d.At a.data.texts.length x.d.ct]) HWA.out 8
  have q1 : w1.cell? ⟨w.heap.size + 1, 1, none⟩ = some (.int .i64 b.kind) := Whole.cell (L := [.slice y.A b.name.length y.c, .int .i64 b.kind, .int .i64 b.cls, .int .i64 b.ttl, .slice y.d.Ab b.data.bytes.length y.d.cb, .slice y.d.Ah b.data.host.length y.d.ch, .slice y.d.Am b.data.mail.length y.d.cm, .slice y.d.An b.data.nums.length y.d.cn, .slice y.d.At b.data.texts.length y.d.ct]) HWB.out 1
  have q2 : w1.cell? ⟨w.heap.size + 1, 2, none⟩ = some (.int .i64 b.cls) := Whole.cell (L := [.slice y.A b.name.length y.c, .int .i64 b.kind, .int .i64 b.cls, .int .i64 b.ttl, .slice y.d.Ab b.data.bytes.length y.d.cb, .slice y.d.Ah b.data.host.length y.d.ch, .slice y.d.Am b.data.mail.length y.d.cm, .slice y.d.An b.data.nums.length y.d.cn, .slice y.d.At b.data.texts.length y.d.ct]) HWB.out 2
  have q3 : w1.cell? ⟨w.heap.size + 1, 3, none⟩ = some (.int .i64 b.ttl) := Whole.cell (L := [.slice y.A b.name.length y.c, .int .i64 b.kind, .int .i64 b.cls, .int .i64 b.ttl, .slice y.d.Ab b.data.bytes.length y.d.cb, .slice y.d.Ah b.data.host.length y.d.ch, .slice y.d.Am b.data.mail.length y.d.cm, .slice y.d.An b.data.nums.length y.d.cn, .slice y.d.At b.data.texts.length y.d.ct]) HWB.out 3
  have q4 : w1.cell? ⟨w.heap.size + 1, 4, none⟩ = some (.slice y.d.Ab b.data.bytes.length y.d.cb) := Whole.cell (L := [.slice y.A b.name.length y.c, .int .i64 b.kind, .int .i64 b.cls, .int .i64 b.ttl, .slice y.d.Ab b.data.bytes.length y.d.cb, .slice y.d.Ah b.data.host.length y.d.ch, .slice y.d.Am b.data.mail.length y.d.cm, .slice y.d.An b.data.nums.length y.d.cn, .slice y.d.At b.data.texts.length y.d.ct]) HWB.out 4
  have q5 : w1.cell? ⟨w.heap.size + 1, 5, none⟩ = some (.slice y.d.Ah b.data.host.length y.d.ch) := Whole.cell (L := [.slice y.A b.name.length y.c, .int .i64 b.kind, .int .i64 b.cls, .int .i64 b.ttl, .slice y.d.Ab b.data.bytes.length y.d.cb, .slice y.d.Ah b.data.host.length y.d.ch, .slice y.d.Am b.data.mail.length y.d.cm, .slice y.d.An b.data.nums.length y.d.cn, .slice y.d.At b.data.texts.length y.d.ct]) HWB.out 5
  have q6 : w1.cell? ⟨w.heap.size + 1, 6, none⟩ = some (.slice y.d.Am b.data.mail.length y.d.cm) := Whole.cell (L := [.slice y.A b.name.length y.c, .int .i64 b.kind, .int .i64 b.cls, .int .i64 b.ttl, .slice y.d.Ab b.data.bytes.length y.d.cb, .slice y.d.Ah b.data.host.length y.d.ch, .slice y.d.Am b.data.mail.length y.d.cm, .slice y.d.An b.data.nums.length y.d.cn, .slice y.d.At b.data.texts.length y.d.ct]) HWB.out 6
  have q7 : w1.cell? ⟨w.heap.size + 1, 7, none⟩ = some (.slice y.d.An b.data.nums.length y.d.cn) := Whole.cell (L := [.slice y.A b.name.length y.c, .int .i64 b.kind, .int .i64 b.cls, .int .i64 b.ttl, .slice y.d.Ab b.data.bytes.length y.d.cb, .slice y.d.Ah b.data.host.length y.d.ch, .slice y.d.Am b.data.mail.length y.d.cm, .slice y.d.An b.data.nums.length y.d.cn, .slice y.d.At b.data.texts.length y.d.ct]) HWB.out 7
  have q8 : w1.cell? ⟨w.heap.size + 1, 8, none⟩ = some (.slice y.d.At b.data.texts.length y.d.ct) := Whole.cell (L := [.slice y.A b.name.length y.c, .int .i64 b.kind, .int .i64 b.cls, .int .i64 b.ttl, .slice y.d.Ab b.data.bytes.length y.d.cb, .slice y.d.Ah b.data.host.length y.d.ch, .slice y.d.Am b.data.mail.length y.d.cm, .slice y.d.An b.data.nums.length y.d.cn, .slice y.d.At b.data.texts.length y.d.ct]) HWB.out 8
  by_cases h2 : a.kind = b.kind
  case neg =>
    have t2 : (a.kind == b.kind) = false := by rw [beq_eq_false_iff_ne]; exact h2
    rw [show decide (a.kind = b.kind) = false from decide_eq_false h2] at HS
    clear h2
    go_wp2
    go_ret
    exact ⟨by rw [HS.out]; rfl, HB1.out⟩
  have t2 : (a.kind == b.kind) = true := by rw [beq_iff_eq]; exact h2
  rw [show decide (a.kind = b.kind) = true from decide_eq_true h2] at HS
  clear h2
  by_cases h3 : a.cls = b.cls
  case neg =>
    have t3 : (a.cls == b.cls) = false := by rw [beq_eq_false_iff_ne]; exact h3
    rw [show decide (a.cls = b.cls) = false from decide_eq_false h3] at HS
    clear h3
    go_wp2
    go_ret
    exact ⟨by rw [HS.out]; rfl, HB1.out⟩
  have t3 : (a.cls == b.cls) = true := by rw [beq_iff_eq]; exact h3
  rw [show decide (a.cls = b.cls) = true from decide_eq_true h3] at HS
  clear h3
  by_cases h4 : a.ttl = b.ttl
  case neg =>
    have t4 : (a.ttl == b.ttl) = false := by rw [beq_eq_false_iff_ne]; exact h4
    rw [show decide (a.ttl = b.ttl) = false from decide_eq_false h4] at HS
    clear h4
    go_wp2
    go_ret
    exact ⟨by rw [HS.out]; rfl, HB1.out⟩
  have t4 : (a.ttl == b.ttl) = true := by rw [beq_iff_eq]; exact h4
  rw [show decide (a.ttl = b.ttl) = true from decide_eq_true h4] at HS
  clear h4
  go_wp2_with fail
  refine (HD.out _ HB1.out).mono ?_
  rintro e w2 ⟨rfl, hb2⟩
  have HB2 := Lib.hid (HB1.out.trans (hb2.mono HB1.out.size))
  clear hb2
  go_wp2
  go_ret
  exact ⟨by rw [HS.out]; simp, HB2.out⟩

end Go.Proofs.YtjkjhpaeckkpjaaGreat

namespace Go.Proofs.YtjkjhpaeckkpjaaGreat
open Go.RowKit

theorem wide_255 {n : List (List UInt8)} (h : szN n ≤ 255) : WideN n := wide_sz (Nat.le_trans h (by unfold maxLen; omega))
theorem sound_few {n : List (List UInt8)} (h : soundN n = true) : n.length ≤ 127 := by
  obtain ⟨h1, h2⟩ := soundN_parts h
  have := szN_ge n h1
  omega
theorem fit_wf {n s : Int} (h : fitB n s = true) : (Lit.int .i64 n).wf = true := by
  unfold fitB at h
  simp only [decide_eq_true_eq] at h
  obtain ⟨h1, h2, h3, h4⟩ := h
  have h5 : (2 : Int) ^ (8 * s.toNat) ≤ 72057594037927936 := by
    obtain ⟨k, hk⟩ : ∃ k, k = s.toNat := ⟨_, rfl⟩
    rw [← hk]
    rcases (show k = 1 ∨ k = 2 ∨ k = 3 ∨ k = 4 ∨ k = 5 ∨ k = 6 ∨ k = 7 by omega) with h | h | h | h | h | h | h <;> rw [h] <;> decide +kernel
  have e1 : IntKind.i64.min = -9223372036854775808 := rfl
  have e2 : IntKind.i64.max = 9223372036854775807 := rfl
  simp only [Lit.wf, Bool.and_eq_true, decide_eq_true_eq]
  omega
/-- What is sound is small. -/
theorem SoundR.small {r : Rt} (h : SoundR r) : RIn r ∧ LightR r := by
  have sp := soundP h.d
  have hn := soundN_parts h.n
  have e1 : szN ([] : List (List UInt8)) = 1 := rfl
  have hh : szN r.data.host ≤ 255 ∧ r.data.host.length ≤ 127 := by
    cases hs : (shN r.kind).host with
    | true => exact ⟨(soundN_parts (sp.h hs)).2, sound_few (sp.h hs)⟩
    | false => rw [sp.h0 hs]; exact ⟨by rw [e1]; omega, by simp⟩
  have hm : szN r.data.mail ≤ 255 ∧ r.data.mail.length ≤ 127 := by
    cases hs : (shN r.kind).mail with
    | true => exact ⟨(soundN_parts (sp.m hs)).2, sound_few (sp.m hs)⟩
    | false => rw [sp.m0 hs]; exact ⟨by rw [e1]; omega, by simp⟩
  have hf := sound_few h.n
  have h1 := shN_small r.kind
  have h2 := sp.n
  have h3 := sp.b
  have h4 : (shN r.kind).most ≤ 65535 := by
    unfold shN
    repeat' split
    all_goals decide
  have h5 := sp.t
  have hk : kindB r.kind = true := by have h := h.d; unfold soundD at h; simp only [Bool.and_eq_true] at h; exact h.1
  unfold kindB at hk
  simp only [decide_eq_true_eq] at hk
  obtain ⟨f2, f4⟩ := nums_fit sp.ok
  have e6 : IntKind.i64.min = -9223372036854775808 := rfl
  have e7 : IntKind.i64.max = 9223372036854775807 := rfl
  refine ⟨⟨wide_255 hn.2, ?_, fit_wf h.c, ?_, ⟨wide_255 hh.1, wide_255 hm.1, by unfold maxLen; omega⟩, fun k hk => ?_, fun n hn => ?_⟩, ⟨by omega, by omega, by omega, by omega, by omega, by omega⟩⟩
  · simp only [Lit.wf, Bool.and_eq_true, decide_eq_true_eq]
    omega
  · have := h.t0
    have := h.t1
    simp only [Lit.wf, Bool.and_eq_true, decide_eq_true_eq]
    omega
  · have := sp.tl _ (List.getElem_mem hk)
    unfold maxLen
    omega
  · rw [← List.take_append_drop (shN r.kind).ahead r.data.nums] at hn
    rcases List.mem_append.1 hn with h6 | h6
    · exact fit_wf (f2 n h6)
    · exact fit_wf (f4 n h6)

def SameRsRel (w : World) (k0 : Nat) (i : Value) (wr : World) : Prop := ∃ k : Nat, k ≤ k0 ∧ i = .int .i64 k ∧ Below w.heap.size w wr
set_option maxRecDepth 20000 in
set_option maxHeartbeats 4000000 in
theorem sameRRs_self (w : World) (A B : Option Addr) (c d : Nat) (ps qs : List (RV × Rt)) (hp : RsAt w w.heap.size A ps) (hq : RsAt w w.heap.size B qs) (he : recs ps = recs qs) (hs : ∀ r ∈ recs ps, SoundR r) (hl : ps.length ≤ 1000) :
    Calls Tryz.prog 10 #[.slice A ps.length c, .slice B qs.length d] w (Gave w (.bool true)) := by
  have hlen : qs.length = ps.length := by rw [← length_recs qs, ← he, length_recs]
  have HP := Lib.hid (fun W' (h : Below w.heap.size w W') => hp.below h)
  have HQ := Lib.hid (fun W' (h : Below w.heap.size w W') => hq.below h)
  have HS := Lib.hid hs
  have HE := Lib.hid (fun k (h1 : k < ps.length) (h2 : k < qs.length) => (show (qs[k]).2 = (ps[k]).2 from by
    have h3 : (recs qs)[k]? = (recs ps)[k]? := by rw [he]
    unfold recs at h3
    rw [List.getElem?_map, List.getElem?_map, List.getElem?_eq_getElem h1, List.getElem?_eq_getElem h2] at h3
    simpa using h3))
  clear hp hq hs he
  have HLQ := Lib.hid hlen
  rw [hlen]
  clear hlen
  go_enter Tryz.func10, Tryz.ntmps10
  go_wp2
  go_loopw [5] (SameRsRel w ps.length) (fun i _ => ps.length - (intOf i).toNat)
  case atStart => exact ⟨0, Nat.zero_le _, rfl, Below.refl _ _⟩
  case round =>
  obtain ⟨k, hk, rfl, hb⟩ := hrel
  have HB := Lib.hid hb
  clear hb
  by_cases hlt : k < ps.length
  · have hlq : k < qs.length := by rw [HLQ.out]; exact hlt
    obtain ⟨b1, o1, rfl, hb1, hra, q0, q1, q2, q3, q4, q5, q6, q7, q8⟩ := (HP.out _ HB.out).at_ hlt
    obtain ⟨b2, o2, rfl, hb2, hrb, r0, r1, r2, r3, r4, r5, r6, r7, r8⟩ := (HQ.out _ HB.out).at_ hlq
    have hsr := HS.out _ (List.mem_map.2 ⟨ps[k], List.getElem_mem hlt, rfl⟩)
    have hee := HE.out k hlt hlq
    revert hra hrb q0 q1 q2 q3 q4 q5 q6 q7 q8 r0 r1 r2 r3 r4 r5 r6 r7 r8 hsr hee
    generalize ps[k] = p
    generalize qs[k] = q
    obtain ⟨x, r⟩ := p
    obtain ⟨y, r'⟩ := q
    intro hra q0 q1 q2 q3 q4 q5 q6 q7 q8 hrb r0 r1 r2 r3 r4 r5 r6 r7 r8 hsr hee
    dsimp only at hra q0 q1 q2 q3 q4 q5 q6 q7 q8 hrb r0 r1 r2 r3 r4 r5 r6 r7 r8 hsr hee
    subst hee
    obtain ⟨hin, hlr⟩ := hsr.small
    have hw1 := hlr.l0
    have hw2 := hlr.l1
    have hw3 := hlr.l2
    have hsd := soundP hsr.d
    have hz : Sized r'.data := by
      have e1 : szN ([] : List (List UInt8)) = 1 := rfl
      have h5 := hsd.t
      refine ⟨?_, ?_, by unfold maxLen; omega⟩
      · cases hs : (shN r'.kind).host with
        | true => have := (soundN_parts (hsd.h hs)).2; unfold maxLen; omega
        | false => rw [hsd.h0 hs, e1]; unfold maxLen; omega
      · cases hs : (shN r'.kind).mail with
        | true => have := (soundN_parts (hsd.m hs)).2; unfold maxLen; omega
        | false => rw [hsd.m0 hs, e1]; unfold maxLen; omega
    have HCL := Lib.hid (sameRR_any x y r' r' wr.drew ((hra.below (Below.refl w.heap.size wr).drew).mono HB.out.size) ((hrb.below (Below.refl w.heap.size wr).drew).mono HB.out.size) (by unfold maxLen; omega) hz hz (by unfold maxLen; omega) (by unfold maxLen; omega))
    rw [sameR_self] at HCL
    clear hra hrb hsr hin hlr hw1 hw2 hw3 hsd hz
    go_wp2
    go_still_tail 8, (by kernel_rfl)
    change wpList _ _ _ _ _ wr.drew
    have HBD := Lib.hid HB.out.drew
    clear q0 q1 q2 q3 q4 q5 q6 q7 q8 r0 r1 r2 r3 r4 r5 r6 r7 r8
    go_wp2_with fail
    refine HCL.out.mono ?_
    rintro e w1 ⟨rfl, hb1⟩
    have HB1 := Lib.hid (HBD.out.trans (hb1.mono HBD.out.size))
    clear hb1
    go_wp2
    exact ⟨⟨k + 1, by omega, by go_num, HB1.out⟩, by simp [intOf]; omega⟩
  · obtain rfl : k = ps.length := by omega
    go_wp2
    go_ret
    exact ⟨rfl, HB.out⟩

end Go.Proofs.YtjkjhpaeckkpjaaGreat

namespace Go.Proofs.YtjkjhpaeckkpjaaGreat

end Go.Proofs.YtjkjhpaeckkpjaaGreat
