/-
  CutMore in its form for what is not too great: what cut.Fit answers of a message within a greater size is not shorter, has no fewer records in any section, and has TC only where that within the lesser size has it; of messages that take, with what else comes in, at most 1,048,576 values and letters in all. No other condition.
-/
import Derived.Test.YtjkjhpaeckkpjaaCmP4
import Derived.Deep.LoopGhost
import Derived.Test.YtjkjhpaeckkpjaaCmP1
import Derived.Test.YtjkjhpaeckkpjaaCmP2
namespace Go.Proofs.Ytjkjhpaeckkpjaa
open Go.RowKit

/-- The message that n records are left of, in memory; k is what it comes to. -/
def RFitRel (w : World) (h : Hd) (vq : Value) (A0 A1 A2 : Option Addr) (k0 k1 k2 a0 a1 a2 : Nat) (an : List Rt) (k n : Nat) (wr : World) : Prop :=
  ∃ (x0 x1 x2 : Nat) (tc : Bool), (x0 = min n a0 ∧ x1 = min (n - a0) a1 ∧ x2 = min (n - a0 - a1) a2 ∧ tc = (h.tc || decide (n < a0 + a1)) ∧ k ≤ n ∧ n ≤ a0 + a1 + a2 ∧ wholeN an n = n) ∧
    Whole wr w.heap.size 25 (cellsM { h with tc := tc } vq (.slice A0 x0 k0) (.slice A1 x1 k1) (.slice A2 x2 k2)) ∧ Below w.heap.size w wr
def RRunRel (W : World) (j0 : Nat) (p0 : List (RV × Rt)) (x : Rt) (i : Value) (wr : World) : Prop :=
  ∃ j : Nat, j ≤ j0 ∧ i = .int .i64 j ∧ (∀ q (h : q < p0.length), j ≤ q → q < j0 → alikeB (p0[q]).2 x = true) ∧ Below W.heap.size W wr
theorem u_le {w w' : World} (h : Below w.heap.size w w') : w.heap.size ≤ w'.heap.size := h.size

set_option maxRecDepth 20000 in
set_option maxHeartbeats 8000000 in
theorem cref_core (w : World) (s : Int) (k : Nat) (m : MV) (h : Hd) (qA : Option Addr) (qc : Nat) (qp : List (QV × Qt)) (A0 A1 A2 : Option Addr) (k0 k1 k2 : Nat) (p0 p1 p2 : List (RV × Rt)) (he : m = ⟨h, qA, qc, qp, ⟨A0, k0, p0⟩, ⟨A1, k1, p1⟩, ⟨A2, k2, p2⟩⟩)
    (hm : MAt w w.heap.size m) (hi : MIn m) (hs : SoundM m.msg) (hqc : ∀ p ∈ m.qp, p.2.name.length ≤ p.1.2) (hc : ∀ i, (m.sec i).ps.length ≤ (m.sec i).c) (h1 : ¬ s < 512) (h2 : ¬ 65535 < s) (hk : LastFit m.msg s k) :
    Calls Try.prog 24 #[valM h (.slice qA qp.length qc) (.slice A0 p0.length k0) (.slice A1 p1.length k1) (.slice A2 p2.length k2), .int .i64 s] w (EncOut w (cutR m.msg s k)) := by
  obtain ⟨W, hW⟩ : ∃ W, W = w.alloc (.cells #[.int .i64 h.id, .bool h.resp, .int .i64 h.op, .bool h.aa, .bool h.tc, .bool h.rd, .bool h.ra, .int .i64 h.rc, .slice qA qp.length qc, .slice A0 p0.length k0, .slice A1 p1.length k1, .slice A2 p2.length k2, .bool h.edns, .int .i64 h.size] 25) := ⟨_, rfl⟩
  have hB : Below w.heap.size w W := by rw [hW]; exact (Below.refl _ _).alloc (Nat.le_refl _) _
  have hzW : W.heap.size = w.heap.size + 1 := by rw [hW]; simp
  have hwm : Whole W w.heap.size 25 (cellsM h (.slice qA qp.length qc) (.slice A0 p0.length k0) (.slice A1 p1.length k1) (.slice A2 p2.length k2)) := by rw [hW]; exact Whole.made w [.int .i64 h.id, .bool h.resp, .int .i64 h.op, .bool h.aa, .bool h.tc, .bool h.rd, .bool h.ra, .int .i64 h.rc, .slice qA qp.length qc, .slice A0 p0.length k0, .slice A1 p1.length k1, .slice A2 p2.length k2, .bool h.edns, .int .i64 h.size] _
  have ev : m.val = valM h (.slice qA qp.length qc) (.slice A0 p0.length k0) (.slice A1 p1.length k1) (.slice A2 p2.length k2) := by rw [he]
  have HMS := Lib.hid (show Calls Try.prog 16 #[valM h (.slice qA qp.length qc) (.slice A0 p0.length k0) (.slice A1 p1.length k1) (.slice A2 p2.length k2)] W (Gave W (.bool true)) from by
    have h1 := refmsg_any W m ((hm.below hB).mono hB.size) hi
    rwa [ev, soundM_iff.2 hs] at h1)
  have HRW := Lib.hid (fun (n x0 x1 x2 : Nat) (tc : Bool) (hx : x0 = min n p0.length ∧ x1 = min (n - p0.length) p1.length ∧ x2 = min (n - p0.length - p1.length) p2.length ∧ tc = (h.tc || decide (n < p0.length + p1.length))) (W' : World) (hb : Below w.heap.size w W') =>
    (show Calls Try.prog 34 #[valM { h with tc := tc } (.slice qA qp.length qc) (.slice A0 x0 k0) (.slice A1 x1 k1) (.slice A2 x2 k2)] W' (RawOut W' (encM (m.msg.first n))) from by
      have h3 := refraw_any W' (m.down n) ((down_at (hm.below hb) n).mono hb.size) (down_in hi n) (by rw [down_msg]; exact first_sound hs n) hqc
      have ed : (m.down n).val = valM { h with tc := tc } (.slice qA qp.length qc) (.slice A0 x0 k0) (.slice A1 x1 k1) (.slice A2 x2 k2) := by
        obtain ⟨rfl, rfl, rfl, rfl⟩ := hx
        rw [he]
        show valM _ _ (.slice A0 (p0.take n).length k0) (.slice A1 (p1.take (n - p0.length)).length k1) (.slice A2 (p2.take (n - p0.length - p1.length)).length k2) = _
        rw [List.length_take, List.length_take, List.length_take]
        rfl
      rw [down_msg, ed] at h3
      exact h3))
  have HRS := Lib.hid (fun (W' : World) (hb : Below w.heap.size w W') => (show RsAt W' w.heap.size A0 p0 from by
    have h3 := (hm.below hb).s0
    rw [he] at h3
    exact h3))
  have HWN := Lib.hid (show ∀ p ∈ p0, WideN p.2.name from fun p hp => (hi.r 0 p (by rw [he]; exact hp)).1.n)
  have HLF := Lib.hid (show ∀ n, (encM (m.msg.first n)).length = lenF m.msg n from first_len hs)
  have l0 : p0.length ≤ 1000 := by have h3 := hi.rl 0; rw [he] at h3; exact h3
  have l1 : p1.length ≤ 1000 := by have h3 := hi.rl 1; rw [he] at h3; exact h3
  have l2 : p2.length ≤ 1000 := by have h3 := hi.rl 2; rw [he] at h3; exact h3
  have c0 : p0.length ≤ k0 := by have h3 := hc 0; rw [he] at h3; exact h3
  have c1 : p1.length ≤ k1 := by have h3 := hc 1; rw [he] at h3; exact h3
  have c2 : p2.length ≤ k2 := by have h3 := hc 2; rw [he] at h3; exact h3
  have hall : m.msg.all.length = p0.length + p1.length + p2.length := by rw [all_len, he]; show p0.length + (p1.length + p2.length) = _; omega
  have han : m.msg.an = recs p0 := by rw [he]; rfl
  have hkl := hk.le
  have hks := hk.stop
  have hkf := hk.last
  rw [hall] at hkl hkf
  rw [han] at hks hkf
  have HKF := Lib.hid hkf
  have HKS := Lib.hid hks
  have HKX := Lib.hid (show ¬ (lenF m.msg k : Int) ≤ s → k = 0 from fun h3 => by
    rcases hk.fits with h4 | h4
    · exact h4
    · exact absurd h4 h3)
  have HCR := Lib.hid (show cutR m.msg s k = if (lenF m.msg k : Int) ≤ s then .ok (encM (m.msg.first k)) else .error 4 from rfl)
  have HST := Lib.hid (show wholeN (recs p0) (p0.length + p1.length + p2.length) = p0.length + p1.length + p2.length from wholeN_big (by rw [length_recs]; omega))
  have HB := Lib.hid hB
  have HWM := Lib.hid hwm
  clear hB hzW hwm ev he hm hi hs hqc hc hk hks hkf hall han
  generalize cutR m.msg s k = R at *
  have d0 : decide (s < 512) = false := decide_eq_false h1
  have d1 : decide (65535 < s) = false := decide_eq_false h2
  clear h1 h2
  subst hW
  go_enter Try.func24, Try.ntmps24
  go_wp2_with fail
  refine HMS.out.mono ?_
  rintro e w1 ⟨rfl, hb1⟩
  generalize w.alloc (.cells #[.int .i64 h.id, .bool h.resp, .int .i64 h.op, .bool h.aa, .bool h.tc, .bool h.rd, .bool h.ra, .int .i64 h.rc, .slice qA qp.length qc, .slice A0 p0.length k0, .slice A1 p1.length k1, .slice A2 p2.length k2, .bool h.edns, .int .i64 h.size] 25) = V at *
  have HB1 := Lib.hid (HB.out.trans (hb1.mono HB.out.size))
  have HW1 := Lib.hid (HWM.out.below hb1 HWM.out.lt)
  clear hb1 HMS HWM HB d0 d1
  go_wp2
  go_loopg [] (p0.length + p1.length + p2.length) (fun n wr => RFitRel w h (.slice qA qp.length qc) A0 A1 A2 k0 k1 k2 p0.length p1.length p2.length (recs p0) k n wr)
  case atStart =>
    refine ⟨p0.length, p1.length, p2.length, h.tc, ⟨by omega, by omega, by omega, ?_, hkl, Nat.le_refl _, HST.out⟩, HW1.out, HB1.out⟩
    rw [decide_eq_false (by omega), Bool.or_false]
  case round =>
  obtain ⟨x0, x1, x2, tc, ⟨e0, e1, e2, et, hkn, hnl, hst⟩, hw, hb⟩ := hrel
  have HET := Lib.hid et
  have HST1 := Lib.hid hst
  have HW := Lib.hid hw
  have HB := Lib.hid hb
  have HR := Lib.hid (HRW.out gk x0 x1 x2 tc ⟨e0, e1, e2, et⟩ wr hb)
  have HMN := Lib.hid (show (0 < x2 → p0.length + p1.length < gk) ∧ (x2 = 0 → gk ≤ p0.length + p1.length) ∧ (x2 = 0 → 0 < x1 → p0.length < gk) ∧ (x2 = 0 → x1 = 0 → gk ≤ p0.length ∧ x0 = gk) ∧ x0 ≤ p0.length ∧ x1 ≤ p1.length ∧ x2 ≤ p2.length from by omega)
  have HMX := Lib.hid (show (p0.length + p1.length < gk → x0 = min (gk - 1) p0.length ∧ x1 = min (gk - 1 - p0.length) p1.length ∧ x2 - 1 = min (gk - 1 - p0.length - p1.length) p2.length) ∧ (gk ≤ p0.length + p1.length → p0.length < gk → x0 = min (gk - 1) p0.length ∧ x1 - 1 = min (gk - 1 - p0.length) p1.length ∧ 0 = min (gk - 1 - p0.length - p1.length) p2.length) from by omega)
  obtain ⟨q0, q1, q2, q3, q4, q5, q6, q7, q8, q9, q10, q11, q12, q13⟩ := cells14 hw
  clear hw hb e0 e1 e2 et hst
  dsimp only at q0 q1 q2 q3 q4 q5 q6 q7 q8 q9 q10 q11 q12 q13
  go_wp2_with fail
  refine HR.out.mono ?_
  rintro e w3 ⟨A3, c3, rfl, ho3, hb3⟩
  have HB3 := Lib.hid (HB.out.trans (hb3.mono HB.out.size))
  have HO := Lib.hid (own_mono ho3 HB.out.size)
  have HW3 := Lib.hid (HW.out.below hb3 HW.out.lt)
  have hlen := HLF.out gk
  clear ho3 hb3 HW HR q0 q1 q2 q3 q4 q5 q6 q7 q8 q9 q10 q11 q12 q13
  have HCG := Lib.hid (show gk = k → (lenF m.msg gk : Int) ≤ s → R = .ok (encM (m.msg.first gk)) from fun e hf => by rw [HCR.out, ← e, if_pos hf])
  have HCN := Lib.hid (show gk = k → ¬ (lenF m.msg gk : Int) ≤ s → k = 0 ∧ R = .error 4 from fun e hf => by
    rw [e] at hf
    exact ⟨HKX.out (by omega), by rw [HCR.out, if_neg hf]⟩)
  have HKG := Lib.hid (show (lenF m.msg gk : Int) ≤ s → gk = k from fun hf => by have h1 := HKF.out gk hnl HST1.out hf; omega)
  clear HRW HLF HKF HKX HCR
  revert hlen HCG HCN HKG HO
  generalize encM (m.msg.first gk) = b
  generalize lenF m.msg gk = bl
  intro HO hlen HCG HCN HKG
  by_cases hf : (bl : Int) ≤ s
  · have d2 : decide ((b.length : Int) ≤ s) = true := decide_eq_true (by rw [hlen]; exact hf)
    have HRR := Lib.hid (HCG.out (HKG.out (by omega)) (by omega))
    clear hf hlen HCG HCN HKG
    go_wp2
    refine ⟨rfl, .tuple #[.slice A3 b.length c3, .int .i64 0], by simp [results, Try.results24, go_sem], ?_⟩
    rw [HRR.out]
    exact ⟨HB3.out, A3, c3, rfl, HO.out⟩
  have d2 : decide ((b.length : Int) ≤ s) = false := decide_eq_false (by rw [hlen]; exact hf)
  have HCE := Lib.hid (fun (e : gk = k) => HCN.out e (by omega))
  clear hf hlen HCG HCN HKG HO
  by_cases hx2 : 0 < x2
  · have hgt := HMN.out.1 hx2
    have hl2 := HMN.out.2.2.2.2.2.2
    have hkg : k ≤ gk - 1 := by
      rcases Nat.lt_or_ge k gk with h1 | h1
      · omega
      · have := (HCE.out (by omega)).1
        omega
    have HMY := Lib.hid (HMX.out.1 hgt)
    have HET1 := Lib.hid (show tc = (h.tc || decide (gk - 1 < p0.length + p1.length)) from by
      rw [HET.out, decide_eq_false (by omega), decide_eq_false (by omega)])
    have HST2 := Lib.hid (show wholeN (recs p0) (gk - 1) = gk - 1 from wholeN_big (by rw [length_recs]; omega))
    have q11 : w3.cell? ⟨w.heap.size, 11, none⟩ = some (.slice A2 x2 k2) := HW3.out.cell 11
    have f11 : w3.frozen? ⟨w.heap.size, 11, none⟩ = false := HW3.out.frozen 11
    clear HMN HMX HCE
    go_wp2
    go_roundg (gk - 1)
    case measure => omega
    case rel =>
      exact ⟨x0, x1, x2 - 1, tc, ⟨HMY.out.1, HMY.out.2.1, HMY.out.2.2, HET1.out, hkg, by omega, HST2.out⟩, HW3.out.set_ 11 (.slice A2 (x2 - 1) k2), HB3.out.setCell (p := ⟨w.heap.size, 11, none⟩) (Nat.le_refl _) _⟩
  obtain rfl : x2 = 0 := by omega
  have hgl := HMN.out.2.1 rfl
  have HM1 := Lib.hid (HMN.out.2.2.1 rfl)
  have HM0 := Lib.hid (HMN.out.2.2.2.1 rfl)
  have hl1 := HMN.out.2.2.2.2.2.1
  clear HMN
  have q11 : w3.cell? ⟨w.heap.size, 11, none⟩ = some (.slice A2 0 k2) := HW3.out.cell 11
  have q10 : w3.cell? ⟨w.heap.size, 10, none⟩ = some (.slice A1 x1 k1) := HW3.out.cell 10
  have q4 : w3.cell? ⟨w.heap.size, 4, none⟩ = some (.bool tc) := HW3.out.cell 4
  have f4 : w3.frozen? ⟨w.heap.size, 4, none⟩ = false := HW3.out.frozen 4
  go_upto_if 41 with fail
  have HB4 := Lib.hid (HB3.out.setCell (p := ⟨w.heap.size, 4, none⟩) (Nat.le_refl _) (.bool true))
  have HW4 := Lib.hid (show Whole (w3.setCell ⟨w.heap.size, 4, none⟩ (.bool true)) w.heap.size 25 (cellsM { h with tc := true } (.slice qA qp.length qc) (.slice A0 x0 k0) (.slice A1 x1 k1) (.slice A2 0 k2)) from HW3.out.set_ 4 (.bool true))
  clear q11 q10 q4 f4 HW3 HB3
  generalize w3.setCell ⟨w.heap.size, 4, none⟩ (.bool true) = w4 at *
  by_cases hx1 : 0 < x1
  · have hgt := HM1.out hx1
    have hkg : k ≤ gk - 1 := by
      rcases Nat.lt_or_ge k gk with h1 | h1
      · omega
      · have := (HCE.out (by omega)).1
        omega
    have HMY := Lib.hid (HMX.out.2 hgl hgt)
    have HET1 := Lib.hid (show true = (h.tc || decide (gk - 1 < p0.length + p1.length)) from by
      rw [decide_eq_true (by omega), Bool.or_true])
    have HST2 := Lib.hid (show wholeN (recs p0) (gk - 1) = gk - 1 from wholeN_big (by rw [length_recs]; omega))
    have q10 : w4.cell? ⟨w.heap.size, 10, none⟩ = some (.slice A1 x1 k1) := HW4.out.cell 10
    have f10 : w4.frozen? ⟨w.heap.size, 10, none⟩ = false := HW4.out.frozen 10
    clear HM1 HM0 HMX HCE
    go_wp2
    go_roundg (gk - 1)
    case measure => omega
    case rel =>
      exact ⟨x0, x1 - 1, 0, true, ⟨HMY.out.1, HMY.out.2.1, HMY.out.2.2, HET1.out, hkg, by omega, HST2.out⟩, HW4.out.set_ 10 (.slice A1 (x1 - 1) k1), HB4.out.setCell (p := ⟨w.heap.size, 10, none⟩) (Nat.le_refl _) _⟩
  obtain rfl : x1 = 0 := by omega
  obtain ⟨hg0, hxg⟩ := HM0.out rfl
  subst hxg
  have q9 : w4.cell? ⟨w.heap.size, 9, none⟩ = some (.slice A0 x0 k0) := HW4.out.cell 9
  clear HM1 HM0 HMX hl1 HET
  by_cases hx0 : x0 = 0
  · subst hx0
    have HRR := Lib.hid ((HCE.out (by omega)).2)
    clear HCE
    go_wp2
    refine ⟨rfl, .tuple #[.slice none 0 0, .int .i64 4], by simp [results, Try.results24, go_sem], ?_⟩
    rw [HRR.out]
    exact ⟨HB4.out, rfl⟩
  have hj0 : x0 - 1 < p0.length := by omega
  obtain ⟨b, off, rfl, hbH, hra, q10, q11, q12, q13, q14, q15, q16, q17, q18⟩ := (HRS.out w4 HB4.out).at_ hj0
  have hwx := HWN.out _ (List.getElem_mem hj0)
  have HEND := Lib.hid (fun (j : Nat) (hj : j ≤ x0) (hal : ∀ q (h : q < p0.length), j ≤ q → q < x0 → alikeB (p0[q]).2 (p0[x0 - 1]).2 = true) (hst : j = 0 ∨ ∃ h : j - 1 < p0.length, alikeB (p0[j - 1]).2 (p0[x0 - 1]).2 = false) => (show j < x0 ∧ k ≤ j ∧ wholeN (recs p0) j = j from by
    have hjx : j < x0 := by
      rcases Nat.lt_or_ge j x0 with h1 | h1
      · exact h1
      · obtain rfl : j = x0 := by omega
        rcases hst with h2 | ⟨_, h2⟩
        · exact absurd h2 hx0
        · rw [alikeB_iff.2 ⟨rfl, rfl⟩] at h2
          cases h2
    obtain ⟨a1, a2⟩ := run_end (A := recs p0) (n := x0) (j := j) (x := (p0[x0 - 1]).2) (by rw [length_recs]; omega) hjx (fun i h h3 => by
      have h4 := hal i (by omega) h3 h
      simpa [recs] using h4) (fun h => by
      rcases hst with h2 | ⟨_, h2⟩
      · omega
      · simpa [recs] using h2)
    have hkx : k < x0 := by
      rcases Nat.lt_or_ge k x0 with h1 | h1
      · exact h1
      · have := (HCE.out (by omega)).1
        omega
    exact ⟨hjx, a2 k hkx HKS.out, a1⟩))
  have hx1 : (0 : Int) ≤ (x0 : Int) - 1 := by omega
  have hx2 : (x0 : Int) - 1 < p0.length := by omega
  have hx3 : ((x0 : Int) - 1).toNat = x0 - 1 := by omega
  clear HCE HKS
  revert hra q10 q11 q12 q13 q14 q15 q16 q17 q18 hwx HEND
  generalize p0[x0 - 1] = px
  obtain ⟨xv, r⟩ := px
  intro hra q10 q11 q12 q13 q14 q15 q16 q17 q18 hwx HEND
  dsimp only at hra q10 q11 q12 q13 q14 q15 q16 q17 q18 hwx
  have HRA := Lib.hid hra
  clear hra
  obtain ⟨W5, hW5⟩ : ∃ W5, W5 = w4.alloc (.cells #[.slice xv.A r.name.length xv.c, .int .i64 r.kind, .int .i64 r.cls, .int .i64 r.ttl, .slice xv.d.Ab r.data.bytes.length xv.d.cb, .slice xv.d.Ah r.data.host.length xv.d.ch, .slice xv.d.Am r.data.mail.length xv.d.cm, .slice xv.d.An r.data.nums.length xv.d.cn, .slice xv.d.At r.data.texts.length xv.d.ct] 48) := ⟨_, rfl⟩
  have HZ5 := Lib.hid (show W5.heap.size = w4.heap.size + 1 by rw [hW5]; simp)
  have hb5 : Below w4.heap.size w4 W5 := by rw [hW5]; exact (Below.refl _ _).alloc (Nat.le_refl _) _
  have HB5 := Lib.hid (HB4.out.trans (hb5.mono HB4.out.size))
  have HX5 := Lib.hid (show Whole W5 w4.heap.size 48 (cellsR (xv, r)) from by rw [hW5]; exact Whole.made w4 (cellsR (xv, r)) _)
  have HM5 := Lib.hid (HW4.out.below hb5 HW4.out.lt)
  have HRA := Lib.hid (HRA.out.below (hb5.mono HB4.out.size))
  clear hb5
  go_wp2
  rw [← hW5]
  clear hW5 q9 q10 q11 q12 q13 q14 q15 q16 q17 q18
  go_loopw [7] (RRunRel W5 x0 p0 r) (fun i _ => (intOf i).toNat)
  case atStart => exact ⟨x0, Nat.le_refl _, rfl, fun q _ h3 h4 => absurd h3 (by omega), Below.refl _ _⟩
  case round =>
  obtain ⟨j, hjl, rfl, hal, hbr⟩ := hrel
  have HAL := Lib.hid hal
  have HBW := Lib.hid (HB5.out.trans (hbr.mono HB5.out.size))
  have hz5 := HZ5.out
  have HMR := Lib.hid (HM5.out.below hbr HM5.out.lt)
  have HXR := Lib.hid (HX5.out.below hbr (by omega))
  have HBR := Lib.hid hbr
  have q9 : wr.cell? ⟨w.heap.size, 9, none⟩ = some (.slice (some ⟨b, off, none⟩) x0 k0) := HMR.out.cell 9
  have f9 : wr.frozen? ⟨w.heap.size, 9, none⟩ = false := HMR.out.frozen 9
  clear hal hbr
  by_cases hj1 : j = 0
  · subst hj1
    have HEN := Lib.hid (HEND.out 0 hjl HAL.out (.inl rfl))
    go_wp2
    go_quiet (fail)
    have HMZ := Lib.hid (HMR.out.below (below_drewN (Below.refl wr.heap.size wr) nq) HMR.out.lt)
    have HBZ := Lib.hid (below_drewN HBW.out nq)
    clear q9 f9 HMR HXR HBR HBW
    generalize wr.drewN nq = wz at *
    have f9 : wz.frozen? ⟨w.heap.size, 9, none⟩ = false := HMZ.out.frozen 9
    have q9 : wz.cell? ⟨w.heap.size, 9, none⟩ = some (.slice (some ⟨b, off, none⟩) x0 k0) := HMZ.out.cell 9
    obtain ⟨n1, n2, n3⟩ := HEN.out
    have HN3 := Lib.hid n3
    clear n3
    go_wp2
    go_roundg 0
    case measure => exact n1
    case rel =>
      exact ⟨0, 0, 0, true, ⟨by omega, by omega, by omega, by rw [decide_eq_true (by omega), Bool.or_true], n2, by omega, HN3.out⟩, HMZ.out.set_ 9 (.slice (some ⟨b, off, none⟩) 0 k0), HBZ.out.setCell (p := ⟨w.heap.size, 9, none⟩) (Nat.le_refl _) _⟩
  have hj2 : j - 1 < p0.length := by omega
  obtain ⟨b', off', e', _, hrj, r0, r1, r2, r3, r4, r5, r6, r7, r8⟩ := (HRS.out wr HBW.out).at_ hj2
  cases e'
  have hwj := HWN.out _ (List.getElem_mem hj2)
  have HEQ := Lib.hid (show alikeB (p0[j - 1]).2 r = (decide ((p0[j - 1]).2.kind = r.kind) && eqN (p0[j - 1]).2.name r.name) from rfl)
  have HSN := Lib.hid (fun (ha : alikeB (p0[j - 1]).2 r = true) => (show ∀ q (h : q < p0.length), j - 1 ≤ q → q < x0 → alikeB (p0[q]).2 r = true from fun q h h3 h4 => by
    rcases Nat.lt_or_ge q j with h5 | h5
    · have h6 : q = j - 1 := by omega
      subst h6
      exact ha
    · exact HAL.out q h h5 h4))
  have HEX := Lib.hid (fun (ha : alikeB (p0[j - 1]).2 r = false) => HEND.out j hjl HAL.out (.inr ⟨hj2, ha⟩))
  have d0 : decide ((0 : Int) < (j : Int)) = true := decide_eq_true (by omega)
  have d2 : decide (0 < j) = true := decide_eq_true (by omega)
  have wa1 : IntKind.i64.wrap ((j : Int) - 1) = (j : Int) - 1 := IntWalk.i64_in _ (by omega)
  have wa2 : (0 : Int) ≤ (j : Int) - 1 := by omega
  have wa3 : (j : Int) - 1 < x0 := by omega
  have wa4 : ((j : Int) - 1).toNat = j - 1 := by omega
  have wa5 : (1 : Int) ≤ (j : Int) := by omega
  have wa6 : 1 ≤ j := by omega
  have wa7 : j - 1 < x0 := by omega
  have z0 : wr.cell? ⟨w4.heap.size, 0, none⟩ = some (.slice xv.A r.name.length xv.c) := HXR.out.cell 0
  have z1 : wr.cell? ⟨w4.heap.size, 1, none⟩ = some (.int .i64 r.kind) := HXR.out.cell 1
  clear HAL HEND
  revert hrj r0 r1 r2 r3 r4 r5 r6 r7 r8 hwj HEQ HSN HEX
  generalize p0[j - 1] = pj
  obtain ⟨y, r'⟩ := pj
  intro hrj r0 r1 r2 r3 r4 r5 r6 r7 r8 hwj HEQ HSN HEX
  dsimp only at hrj r0 r1 r2 r3 r4 r5 r6 r7 r8 hwj HEQ HSN HEX
  by_cases hkd : r'.kind = r.kind
  case neg =>
    have HEN := Lib.hid (HEX.out (by rw [HEQ.out, decide_eq_false hkd]; rfl))
    have t1 : (r'.kind == r.kind) = false := by rw [beq_eq_false_iff_ne]; exact hkd
    clear HEQ HSN HEX hrj hkd
    go_wp2
    go_quiet (fail)
    have HMZ := Lib.hid (HMR.out.below (below_drewN (Below.refl wr.heap.size wr) nq) HMR.out.lt)
    have HBZ := Lib.hid (below_drewN HBW.out nq)
    clear q9 f9 HMR HXR HBR HBW
    generalize wr.drewN nq = wz at *
    have f9 : wz.frozen? ⟨w.heap.size, 9, none⟩ = false := HMZ.out.frozen 9
    have q9 : wz.cell? ⟨w.heap.size, 9, none⟩ = some (.slice (some ⟨b, off, none⟩) x0 k0) := HMZ.out.cell 9
    obtain ⟨n1, n2, n3⟩ := HEN.out
    have HN3 := Lib.hid n3
    clear n3
    go_wp2
    go_roundg j
    case measure => exact n1
    case rel =>
      exact ⟨j, 0, 0, true, ⟨by omega, by omega, by omega, by rw [decide_eq_true (by omega), Bool.or_true], n2, by omega, HN3.out⟩, HMZ.out.set_ 9 (.slice (some ⟨b, off, none⟩) j k0), HBZ.out.setCell (p := ⟨w.heap.size, 9, none⟩) (Nat.le_refl _) _⟩
  have t1 : (r'.kind == r.kind) = true := by rw [hkd]; simp
  rw [decide_eq_true hkd, Bool.true_and] at HEQ
  have HCE := Lib.hid (show Calls Try.prog 48 #[.slice y.A r'.name.length y.c, .slice xv.A r.name.length xv.c] wr.drew (Gave wr.drew (.bool (eqN r'.name r.name))) from
    ref_equal_wide y.A xv.A _ _ y.c xv.c w.heap.size r'.name r.name wr.drew rfl rfl (hrj.n.below (Below.refl w.heap.size wr).drew) ((HRA.out.below (HBR.out.mono HB5.out.size)).n.below (Below.refl w.heap.size wr).drew) HBW.out.size hwj hwx)
  clear hrj hkd
  go_wp2
  go_still_tail 24, (by kernel_rfl)
  change wpList _ _ _ _ _ wr.drew
  clear z0 z1 r0 r1 r2 r3 r4 r5 r6 r7 r8 q9 f9 wa1 wa2 wa3 wa4 wa6 wa7 d0 d2 t1
  go_wp2_with fail
  refine HCE.out.mono ?_
  rintro e w6 ⟨rfl, hb6⟩
  have HBZ := Lib.hid (HBW.out.drew.trans (hb6.mono HBW.out.drew.size))
  have HMZ := Lib.hid ((HMR.out.below (Below.refl wr.heap.size wr).drew HMR.out.lt).below hb6 HMR.out.lt)
  have HBS := Lib.hid (HBR.out.drew.trans (hb6.mono HBR.out.drew.size))
  clear hb6 HCE HMR HXR HBR HBW
  cases ha : eqN r'.name r.name with
  | true =>
    have HAL2 := Lib.hid (HSN.out (by rw [HEQ.out, ha]))
    clear HEQ HSN HEX ha
    go_wp2
    refine ⟨⟨j - 1, by omega, by go_num, HAL2.out, HBS.out⟩, by simp [intOf]; omega⟩
  | false =>
    have HEN := Lib.hid (HEX.out (by rw [HEQ.out, ha]))
    clear HEQ HSN HEX ha
    have f9 : w6.frozen? ⟨w.heap.size, 9, none⟩ = false := HMZ.out.frozen 9
    have q9 : w6.cell? ⟨w.heap.size, 9, none⟩ = some (.slice (some ⟨b, off, none⟩) x0 k0) := HMZ.out.cell 9
    obtain ⟨n1, n2, n3⟩ := HEN.out
    have HN3 := Lib.hid n3
    clear n3
    go_wp2
    go_roundg j
    case measure => exact n1
    case rel =>
      exact ⟨j, 0, 0, true, ⟨by omega, by omega, by omega, by rw [decide_eq_true (by omega), Bool.or_true], n2, by omega, HN3.out⟩, HMZ.out.set_ 9 (.slice (some ⟨b, off, none⟩) j k0), HBZ.out.setCell (p := ⟨w.heap.size, 9, none⟩) (Nat.le_refl _) _⟩
set_option maxRecDepth 20000 in
set_option maxHeartbeats 8000000 in
theorem crefbad_core (w : World) (s : Int) (kk : Nat) (hkk : kk = if s < 512 ∨ 65535 < s then 1 else 2) (m : MV) (h : Hd) (qA : Option Addr) (qc : Nat) (qp : List (QV × Qt)) (A0 A1 A2 : Option Addr) (k0 k1 k2 : Nat) (p0 p1 p2 : List (RV × Rt)) (he : m = ⟨h, qA, qc, qp, ⟨A0, k0, p0⟩, ⟨A1, k1, p1⟩, ⟨A2, k2, p2⟩⟩)
    (hm : MAt w w.heap.size m) (hi : MIn m) (hx : s < 512 ∨ 65535 < s ∨ soundM m.msg = false) :
    Calls Try.prog 24 #[valM h (.slice qA qp.length qc) (.slice A0 p0.length k0) (.slice A1 p1.length k1) (.slice A2 p2.length k2), .int .i64 s] w (EncOut w (.error kk)) := by
  obtain ⟨W, hW⟩ : ∃ W, W = w.alloc (.cells #[.int .i64 h.id, .bool h.resp, .int .i64 h.op, .bool h.aa, .bool h.tc, .bool h.rd, .bool h.ra, .int .i64 h.rc, .slice qA qp.length qc, .slice A0 p0.length k0, .slice A1 p1.length k1, .slice A2 p2.length k2, .bool h.edns, .int .i64 h.size] 25) := ⟨_, rfl⟩
  have hB : Below w.heap.size w W := by rw [hW]; exact (Below.refl _ _).alloc (Nat.le_refl _) _
  have ev : m.val = valM h (.slice qA qp.length qc) (.slice A0 p0.length k0) (.slice A1 p1.length k1) (.slice A2 p2.length k2) := by rw [he]
  have HMS := Lib.hid (show Calls Try.prog 16 #[valM h (.slice qA qp.length qc) (.slice A0 p0.length k0) (.slice A1 p1.length k1) (.slice A2 p2.length k2)] W (Gave W (.bool (soundM m.msg))) from by
    have h1 := refmsg_any W m ((hm.below hB).mono hB.size) hi
    rwa [ev] at h1)
  have HB := Lib.hid hB
  clear hB ev he hm hi
  by_cases h1 : s < 512
  · have d0 : decide (s < 512) = true := decide_eq_true h1
    have HK := Lib.hid (show kk = 1 from by rw [hkk, if_pos (.inl h1)])
    clear hkk h1 hx HMS
    subst hW
    go_enter Try.func24, Try.ntmps24
    go_wp2
    refine ⟨rfl, .tuple #[.slice none 0 0, .int .i64 1], by simp [results, Try.results24, go_sem], ?_⟩
    rw [HK.out]
    exact ⟨HB.out, rfl⟩
  by_cases h2 : 65535 < s
  · have d0 : decide (s < 512) = false := decide_eq_false h1
    have d1 : decide (65535 < s) = true := decide_eq_true h2
    have HK := Lib.hid (show kk = 1 from by rw [hkk, if_pos (.inr h2)])
    clear hkk h1 h2 hx HMS
    subst hW
    go_enter Try.func24, Try.ntmps24
    go_wp2
    refine ⟨rfl, .tuple #[.slice none 0 0, .int .i64 1], by simp [results, Try.results24, go_sem], ?_⟩
    rw [HK.out]
    exact ⟨HB.out, rfl⟩
  have d0 : decide (s < 512) = false := decide_eq_false h1
  have d1 : decide (65535 < s) = false := decide_eq_false h2
  have HK := Lib.hid (show kk = 2 from by rw [hkk, if_neg (by omega)])
  clear hkk
  have hsd : soundM m.msg = false := by
    rcases hx with h3 | h3 | h3
    · exact absurd h3 h1
    · exact absurd h3 h2
    · exact h3
  rw [hsd] at HMS
  clear h1 h2 hx hsd
  subst hW
  go_enter Try.func24, Try.ntmps24
  go_wp2_with fail
  refine HMS.out.mono ?_
  rintro e w1 ⟨rfl, hb1⟩
  have HB1 := Lib.hid (HB.out.trans (hb1.mono HB.out.size))
  clear hb1
  go_wp2
  refine ⟨rfl, .tuple #[.slice none 0 0, .int .i64 2], by simp [results, Try.results24, go_sem], ?_⟩
  rw [HK.out]
  exact ⟨HB1.out, rfl⟩
theorem cref_any (w : World) (s : Int) (m : MV) (res : Except Nat (List UInt8)) (hm : MAt w w.heap.size m) (hi : MIn m) (hqc : ∀ p ∈ m.qp, p.2.name.length ≤ p.1.2) (hc : ∀ i, (m.sec i).ps.length ≤ (m.sec i).c) (hr : FitIs m.msg s res) :
    Calls Try.prog 24 #[m.val, .int .i64 s] w (EncOut w res) := by
  by_cases hx : s < 512 ∨ 65535 < s ∨ soundM m.msg = false
  · have e : res = .error (if s < 512 ∨ 65535 < s then 1 else 2) := by
      unfold FitIs at hr
      split at hr
      · rw [if_pos (by assumption)]
        exact hr
      · rename_i h1
        rw [if_neg h1]
        rw [if_pos (by
          rcases hx with h3 | h3 | h3
          · exact absurd (.inl h3) h1
          · exact absurd (.inr h3) h1
          · exact h3)] at hr
        exact hr
    rw [e]
    obtain ⟨h, qA, qc, qp, ⟨A0, k0, p0⟩, ⟨A1, k1, p1⟩, ⟨A2, k2, p2⟩⟩ := m
    exact crefbad_core w s _ rfl _ h qA qc qp A0 A1 A2 k0 k1 k2 p0 p1 p2 rfl hm hi hx
  · unfold FitIs at hr
    rw [if_neg (fun h => hx (by rcases h with h | h; exact .inl h; exact .inr (.inl h))), if_neg (fun h => hx (.inr (.inr h)))] at hr
    obtain ⟨k, hk, rfl⟩ := hr
    have hs : SoundM m.msg := soundM_iff.1 (by
      cases h : soundM m.msg with
      | true => rfl
      | false => exact absurd (.inr (.inr h)) hx)
    obtain ⟨h, qA, qc, qp, ⟨A0, k0, p0⟩, ⟨A1, k1, p1⟩, ⟨A2, k2, p2⟩⟩ := m
    exact cref_core w s k _ h qA qc qp A0 A1 A2 k0 k1 k2 p0 p1 p2 rfl hm hi hs hqc hc (fun h => hx (.inl h)) (fun h => hx (.inr (.inl h))) hk

end Go.Proofs.Ytjkjhpaeckkpjaa

namespace Go.Proofs.Ytjkjhpaeckkpjaa
open Go.RowKit

def lightC (m : Mt) : Bool := decide (m.all.length ≤ 150) && (decide (m.qs.length ≤ 150) && (m.all.all fewR && (m.qs.all fewQ && decide (sumB m.all < 200000))))
theorem lightC_M {m : Mt} (h : lightC m = true) : LightM m ∧ m.all.length ≤ 150 ∧ m.qs.length ≤ 150 := by
  unfold lightC at h
  simp only [Bool.and_eq_true, decide_eq_true_eq] at h
  obtain ⟨h0, h1, h2, h3, h4⟩ := h
  refine ⟨lightM_iff ?_, h0, h1⟩
  unfold lightM
  simp only [Bool.and_eq_true, decide_eq_true_eq]
  exact ⟨by omega, by omega, h2, h3, h4⟩
set_option maxRecDepth 20000 in
set_option maxHeartbeats 8000000 in
theorem clight_core (w : World) (m : MV) (h : Hd) (qA : Option Addr) (qc : Nat) (qp : List (QV × Qt)) (A0 A1 A2 : Option Addr) (k0 k1 k2 : Nat) (p0 p1 p2 : List (RV × Rt)) (he : m = ⟨h, qA, qc, qp, ⟨A0, k0, p0⟩, ⟨A1, k1, p1⟩, ⟨A2, k2, p2⟩⟩) (hm : MAt w w.heap.size m)
    (hn : (p0.length + p1.length + p2.length) * 168 ≤ 140737488355328) (hq : qp.length ≤ maxLen) (hql : ∀ p ∈ qp, p.2.name.length ≤ maxLen) (hb : ∀ r ∈ m.msg.all, r.data.bytes.length ≤ 140737488355328) :
    Calls Try.prog 22 #[valM h (.slice qA qp.length qc) (.slice A0 p0.length k0) (.slice A1 p1.length k1) (.slice A2 p2.length k2)] w (Gave w (.bool (lightC m.msg))) := by
  obtain ⟨i0, hi0, hz0, hz1, hz2⟩ := info_parts rr_info
  obtain ⟨W, hW⟩ : ∃ W, W = w.alloc (.cells #[.int .i64 h.id, .bool h.resp, .int .i64 h.op, .bool h.aa, .bool h.tc, .bool h.rd, .bool h.ra, .int .i64 h.rc, .slice qA qp.length qc, .slice A0 p0.length k0, .slice A1 p1.length k1, .slice A2 p2.length k2, .bool h.edns, .int .i64 h.size] 25) := ⟨_, rfl⟩
  have hB : Below w.heap.size w W := by rw [hW]; exact (Below.refl _ _).alloc (Nat.le_refl _) _
  have hzW : W.heap.size = w.heap.size + 1 := by rw [hW]; simp
  have hwm : Whole W w.heap.size 25 (cellsM h (.slice qA qp.length qc) (.slice A0 p0.length k0) (.slice A1 p1.length k1) (.slice A2 p2.length k2)) := by rw [hW]; exact Whole.made w [.int .i64 h.id, .bool h.resp, .int .i64 h.op, .bool h.aa, .bool h.tc, .bool h.rd, .bool h.ra, .int .i64 h.rc, .slice qA qp.length qc, .slice A0 p0.length k0, .slice A1 p1.length k1, .slice A2 p2.length k2, .bool h.edns, .int .i64 h.size] _
  have hbl : Below W.heap.size W (W.alloc (.cells #[] 48)).drew := ((Below.refl _ _).alloc (Nat.le_refl _) _).drew
  have HL := Lib.hid (show (W.alloc (.cells #[] 48)).drew.ownsRow (w.heap.size + 1) 48 9 (.slice (some ⟨w.heap.size + 1, 0, none⟩) 0 0) 0 [] from by
    have h1 := own_lit W 48 9
    rw [hzW] at h1
    exact own_keep h1 fun _ _ => rfl)
  have HBL := Lib.hid (hB.trans (hbl.mono hB.size))
  have HWL := Lib.hid (hwm.below hbl hwm.lt)
  have hzl : w.heap.size + 1 ≤ (W.alloc (.cells #[] 48)).drew.heap.size := by have := hbl.size; omega
  have HZL := Lib.hid hzl
  have HS0 := Lib.hid (fun W' (hb : Below w.heap.size w W') => (show RsAt W' w.heap.size A0 p0 by have h2 := hm.s0.below hb; rw [he] at h2; exact h2))
  have HS1 := Lib.hid (fun W' (hb : Below w.heap.size w W') => (show RsAt W' w.heap.size A1 p1 by have h2 := hm.s1.below hb; rw [he] at h2; exact h2))
  have HS2 := Lib.hid (fun W' (hb : Below w.heap.size w W') => (show RsAt W' w.heap.size A2 p2 by have h2 := hm.s2.below hb; rw [he] at h2; exact h2))
  have HQ := Lib.hid (fun W' (hb : Below w.heap.size w W') => (show QsAt W' w.heap.size qA qp by have h2 := hm.q.below hb; rw [he] at h2; exact h2))
  have HE := Lib.hid he
  have HBY := Lib.hid (show ∀ r ∈ recs (p0 ++ p1 ++ p2), r.data.bytes.length ≤ 140737488355328 by intro r hr; refine hb r ?_; rw [he]; show r ∈ recs p0 ++ (recs p1 ++ recs p2); simpa [recs_append] using hr)
  have c9 : (W.alloc (.cells #[] 48)).drew.cell? ⟨w.heap.size, 9, none⟩ = some (.slice A0 p0.length k0) := HWL.out.cell 9
  have c10 : (W.alloc (.cells #[] 48)).drew.cell? ⟨w.heap.size, 10, none⟩ = some (.slice A1 p1.length k1) := HWL.out.cell 10
  have c11 : (W.alloc (.cells #[] 48)).drew.cell? ⟨w.heap.size, 11, none⟩ = some (.slice A2 p2.length k2) := HWL.out.cell 11
  clear hB hwm hbl hm he hb hzl hzW
  subst hW
  go_enter Try.func22, Try.ntmps22
  go_upto_region 1 with fail
  go_cut [3] from 8 to 17 (fun s3 wx => AllRel w (cellsM h (.slice qA qp.length qc) (.slice A0 p0.length k0) (.slice A1 p1.length k1) (.slice A2 p2.length k2)) (p0 ++ p1 ++ p2) s3 wx)
  case first =>
   go_region_law (first
     | (refine step_append_any rfl (.tmp 8) (.tmp 10) _ rfl (w.heap.size + 1) 48 i0 _ 9 168 Try.underlying23 hi0 hz0 hz1 hz2 rfl (by omega) (.slice (some ⟨w.heap.size + 1, 0, none⟩) 0 0) 0 _ rfl HL.out
          A0 p0.length k0 w.heap.size (p0.flatMap cellsR) rfl (length_flat cellsR_len p0) (HS0.out _ HBL.out).1 (cellsR_one p0) (by unfold maxLen; omega) (by omega) HZL.out ?_
        intro v1 w1 hown1 hg1
        rw [Nat.zero_add, List.nil_append] at hown1
        have HB1 := Lib.hid (own_below HBL.out (Nat.le_succ _) HBL.out.size HL.out hg1)
        have HW1 := Lib.hid (HWL.out.grown hg1 (by simp [Value.ownBlock]))
        have HZ1 := Lib.hid (Nat.le_trans HZL.out hg1.size)
        obtain ⟨B1, d1, rfl, _, _⟩ := own_form hown1
        have HO1 := Lib.hid hown1
        have c10 : w1.cell? ⟨w.heap.size, 10, none⟩ = some (.slice A1 p1.length k1) := HW1.out.cell 10
        have c11 : w1.cell? ⟨w.heap.size, 11, none⟩ = some (.slice A2 p2.length k2) := HW1.out.cell 11
        clear hown1 hg1)
     | (refine step_append_any rfl (.tmp 11) (.tmp 13) _ rfl (w.heap.size + 1) 48 i0 _ 9 168 Try.underlying23 hi0 hz0 hz1 hz2 rfl (by omega) (.slice B1 p0.length d1) p0.length _ rfl HO1.out
          A1 p1.length k1 w.heap.size (p1.flatMap cellsR) rfl (length_flat cellsR_len p1) (HS1.out _ HB1.out).1 (cellsR_one p1) (by unfold maxLen; omega) (by omega) HZ1.out ?_
        intro v2 w2 hown2 hg2
        have HB2 := Lib.hid (own_below HB1.out (Nat.le_succ _) HB1.out.size HO1.out hg2)
        have HW2 := Lib.hid (HW1.out.grown hg2 (fun h => by have := (HO1.out.lt _ h.symm).1; omega))
        have HZ2 := Lib.hid (Nat.le_trans HZ1.out hg2.size)
        obtain ⟨B2, d2, rfl, _, _⟩ := own_form hown2
        have HO2 := Lib.hid hown2
        have c11 : w2.cell? ⟨w.heap.size, 11, none⟩ = some (.slice A2 p2.length k2) := HW2.out.cell 11
        clear hown2 hg2)
     | (refine step_append_any rfl (.tmp 14) (.tmp 16) _ rfl (w.heap.size + 1) 48 i0 _ 9 168 Try.underlying23 hi0 hz0 hz1 hz2 rfl (by omega) (.slice B2 (p0.length + p1.length) d2) (p0.length + p1.length) _ rfl HO2.out
          A2 p2.length k2 w.heap.size (p2.flatMap cellsR) rfl (length_flat cellsR_len p2) (HS2.out _ HB2.out).1 (cellsR_one p2) (by unfold maxLen; omega) (by omega) HZ2.out ?_
        intro v3 w3 hown3 hg3
        have HB3 := Lib.hid (own_below HB2.out (Nat.le_succ _) HB2.out.size HO2.out hg3)
        have HW3 := Lib.hid (HW2.out.grown hg3 (fun h => by have := (HO2.out.lt _ h.symm).1; omega))
        obtain ⟨B3, d3, rfl, _, _⟩ := own_form hown3
        have HO3 := Lib.hid hown3
        clear hown3 hg3))
   all_goals
    have HRR := Lib.hid (show AllRel w (cellsM h (.slice qA qp.length qc) (.slice A0 p0.length k0) (.slice A1 p1.length k1) (.slice A2 p2.length k2)) (p0 ++ p1 ++ p2) (.slice B3 (p0.length + p1.length + p2.length) d3) w3 from
      ⟨B3, d3, by rw [List.length_append, List.length_append], by rw [List.flatMap_append, List.flatMap_append]; exact Row.of_own HO3.out, HW3.out, HB3.out⟩)
    go_wp2
    go_meet
    exact HRR.out
  case rest =>
    obtain ⟨A, c, rfl, hrow, hw, hb⟩ := hcut
    have HB := Lib.hid hb
    have HW := Lib.hid hw
    have HPS := Lib.hid (show RsAt wc wc.heap.size A (p0 ++ p1 ++ p2) from ⟨hrow, fun p hp => by
      rcases List.mem_append.1 hp with h1 | h1
      · rcases List.mem_append.1 h1 with h1 | h1
        · exact ((HS0.out _ hb).2 p h1).mono hb.size
        · exact ((HS1.out _ hb).2 p h1).mono hb.size
      · exact ((HS2.out _ hb).2 p h1).mono hb.size⟩)
    have HLM := Lib.hid (show lightC m.msg = (decide ((p0 ++ p1 ++ p2).length ≤ 150) && (decide (qp.length ≤ 150) && ((recs (p0 ++ p1 ++ p2)).all fewR && ((qsts qp).all fewQ && decide (sumB (recs (p0 ++ p1 ++ p2)) < 200000))))) from by
      have e1 : m.msg.all = recs (p0 ++ p1 ++ p2) := by rw [HE.out]; show recs p0 ++ (recs p1 ++ recs p2) = _; simp [recs_append]
      have e2 : m.msg.qs = qsts qp := by rw [HE.out]; rfl
      unfold lightC
      rw [e1, e2, length_recs, length_qsts])
    have c8 : wc.cell? ⟨w.heap.size, 8, none⟩ = some (.slice qA qp.length qc) := Whole.cell hw 8
    have hlp : (p0 ++ p1 ++ p2).length * 168 ≤ 140737488355328 := by rw [List.length_append, List.length_append]; exact hn
    clear hrow hw hb HS0 HS1 HS2 HBL HWL HZL HL hn
    revert HBY HPS HLM hlp
    generalize p0 ++ p1 ++ p2 = ps
    intro HBY HPS HLM hlp
    unfold maxLen at hq
    by_cases e0 : ps.length ≤ 150
    case neg =>
      have d0 : decide ((150 : Int) < (ps.length : Int)) = true := by rw [decide_eq_true_eq]; omega
      rw [decide_eq_false e0] at HLM
      go_wp2
      go_ret
      exact ⟨by rw [HLM.out]; rfl, HB.out⟩
    have d0 : decide ((150 : Int) < (ps.length : Int)) = false := decide_eq_false (by omega)
    rw [decide_eq_true e0] at HLM
    by_cases e1 : qp.length ≤ 150
    case neg =>
      have d1 : decide ((150 : Int) < (qp.length : Int)) = true := by rw [decide_eq_true_eq]; omega
      rw [decide_eq_false e1] at HLM
      go_wp2
      go_ret
      exact ⟨by rw [HLM.out]; rfl, HB.out⟩
    have d1 : decide ((150 : Int) < (qp.length : Int)) = false := decide_eq_false (by omega)
    rw [decide_eq_true e1] at HLM
    go_wp2
    clear d0 d1 c8
    go_loopw [4, 5] (SumRelL wc ps) (fun _ i _ => ps.length - (intOf i).toNat)
    case atStart => exact ⟨0, Nat.zero_le _, rfl, rfl, rfl, Below.refl _ _⟩
    case round =>
    obtain ⟨k, hk, rfl, rfl, hal, hbr⟩ := hrel
    have HAL := Lib.hid hal
    have HBR := Lib.hid hbr
    have HB1 := Lib.hid (HB.out.trans (hbr.mono HB.out.size))
    have hz := hbr.size
    have hzz := HB.out.size
    have hsum : sumB (recs (ps.take k)) ≤ 150 * 140737488355328 := by
      have h1 := sumB_le (rs := recs (ps.take k)) (M := 140737488355328) fun r hr => HBY.out r (by
        obtain ⟨p, hp, rfl⟩ := List.mem_map.1 hr
        exact List.mem_map.2 ⟨p, List.mem_of_mem_take hp, rfl⟩)
      have h2 : (recs (ps.take k)).length ≤ 150 := by rw [length_recs, List.length_take]; omega
      exact Nat.le_trans h1 (Nat.mul_le_mul_right _ h2)
    clear hal hbr
    by_cases hlt : k < ps.length
    · obtain ⟨b, off, rfl, hbH, hra, q0, q1, q2, q3, q4, q5, q6, q7, q8⟩ := (show RsAt wr wc.heap.size A ps from HPS.out.below HBR.out).at_ hlt
      have hby := HBY.out _ (List.mem_map.2 ⟨ps[k], List.getElem_mem hlt, rfl⟩)
      have HF := Lib.hid (show fewR (ps[k]).2 = false → (recs ps).all fewR = false by
        intro h
        rw [List.all_eq_false]
        exact ⟨(ps[k]).2, List.mem_map.2 ⟨ps[k], List.getElem_mem hlt, rfl⟩, by rw [h]; decide⟩)
      have HT := Lib.hid (show fewR (ps[k]).2 = true → (recs (ps.take (k + 1))).all fewR = true by
        intro h
        rw [recs_at hlt, List.all_append, HAL.out]
        simp [h])
      have HSU := Lib.hid (show sumB (recs (ps.take (k + 1))) = sumB (recs (ps.take k)) + (ps[k]).2.data.bytes.length by
        rw [recs_at hlt, sumB_append]
        simp [sumB])
      clear hra
      revert hby q0 q1 q2 q3 q4 q5 q6 q7 q8 HF HT HSU
      generalize ps[k] = p
      obtain ⟨x, r⟩ := p
      intro q0 q1 q2 q3 q4 q5 q6 q7 q8 hby HF HT HSU
      dsimp only at *
      have r0 : (wr.alloc (.cells #[.slice x.d.Ab r.data.bytes.length x.d.cb, .slice x.d.Ah r.data.host.length x.d.ch, .slice x.d.Am r.data.mail.length x.d.cm, .slice x.d.An r.data.nums.length x.d.cn, .slice x.d.At r.data.texts.length x.d.ct] 46)).cell? ⟨b, off + k * 9, none⟩ = some (.slice x.A r.name.length x.c) := (World.cell?_alloc_lt wr _ ⟨b, off + k * 9, none⟩ (by dsimp only; omega)).trans q0
      have HB2 := Lib.hid (HB1.out.alloc (by omega) (.cells #[.slice x.d.Ab r.data.bytes.length x.d.cb, .slice x.d.Ah r.data.host.length x.d.ch, .slice x.d.Am r.data.mail.length x.d.cm, .slice x.d.An r.data.nums.length x.d.cn, .slice x.d.At r.data.texts.length x.d.ct] 46))
      have HBR2 := Lib.hid (HBR.out.alloc hz (.cells #[.slice x.d.Ab r.data.bytes.length x.d.cb, .slice x.d.Ah r.data.host.length x.d.ch, .slice x.d.Am r.data.mail.length x.d.cm, .slice x.d.An r.data.nums.length x.d.cn, .slice x.d.At r.data.texts.length x.d.ct] 46))
      by_cases e2 : r.name.length ≤ 200
      case neg =>
        have d2 : decide ((200 : Int) < (r.name.length : Int)) = true := by simp; omega
        have HX := Lib.hid (HF.out (by unfold fewR; rw [show decide (r.name.length ≤ 200) = false by simp; omega]; simp))
        go_wp2
        go_ret
        exact ⟨by rw [HLM.out, HX.out]; rfl, HB2.out⟩
      have d2 : decide ((200 : Int) < (r.name.length : Int)) = false := by simp; omega
      by_cases e3 : r.data.host.length ≤ 200
      case neg =>
        have d3 : decide ((200 : Int) < (r.data.host.length : Int)) = true := by simp; omega
        have HX := Lib.hid (HF.out (by unfold fewR; rw [show decide (r.data.host.length ≤ 200) = false by simp; omega]; simp))
        go_wp2
        go_ret
        exact ⟨by rw [HLM.out, HX.out]; rfl, HB2.out⟩
      have d3 : decide ((200 : Int) < (r.data.host.length : Int)) = false := by simp; omega
      by_cases e4 : r.data.mail.length ≤ 200
      case neg =>
        have d4 : decide ((200 : Int) < (r.data.mail.length : Int)) = true := by simp; omega
        have HX := Lib.hid (HF.out (by unfold fewR; rw [show decide (r.data.mail.length ≤ 200) = false by simp; omega]; simp))
        go_wp2
        go_ret
        exact ⟨by rw [HLM.out, HX.out]; rfl, HB2.out⟩
      have d4 : decide ((200 : Int) < (r.data.mail.length : Int)) = false := by simp; omega
      by_cases e5 : r.data.texts.length ≤ 100
      case neg =>
        have d5 : decide ((100 : Int) < (r.data.texts.length : Int)) = true := by simp; omega
        have HX := Lib.hid (HF.out (by unfold fewR; rw [show decide (r.data.texts.length ≤ 100) = false by simp; omega]; simp))
        go_wp2
        go_ret
        exact ⟨by rw [HLM.out, HX.out]; rfl, HB2.out⟩
      have d5 : decide ((100 : Int) < (r.data.texts.length : Int)) = false := by simp; omega
      by_cases e6 : r.data.nums.length ≤ 100
      case neg =>
        have d6 : decide ((100 : Int) < (r.data.nums.length : Int)) = true := by simp; omega
        have HX := Lib.hid (HF.out (by unfold fewR; rw [show decide (r.data.nums.length ≤ 100) = false by simp; omega]; simp))
        go_wp2
        go_ret
        exact ⟨by rw [HLM.out, HX.out]; rfl, HB2.out⟩
      have d6 : decide ((100 : Int) < (r.data.nums.length : Int)) = false := by simp; omega
      have HX := Lib.hid (HT.out (by unfold fewR; simp [e2, e3, e4, e5, e6]))
      go_wp2
      exact ⟨⟨k + 1, by omega, by go_num, by rw [HSU.out]; go_num, HX.out, HBR2.out⟩, by simp [intOf]; omega⟩
    · obtain rfl : k = ps.length := by omega
      have hal := HAL.out
      rw [List.take_length] at hsum hal ⊢
      rw [hal] at HLM
      have hwr : Whole wr w.heap.size 25 (cellsM h (.slice qA qp.length qc) (.slice A0 p0.length k0) (.slice A1 p1.length k1) (.slice A2 p2.length k2)) := HW.out.below HBR.out HW.out.lt
      have HWR := Lib.hid hwr
      have c8 : wr.cell? ⟨w.heap.size, 8, none⟩ = some (.slice qA qp.length qc) := Whole.cell hwr 8
      have HSS := Lib.hid hsum
      clear hal hwr HAL HBY HPS hlt
      revert HLM HSS hsum
      generalize sumB (recs ps) = S
      intro HLM hsum HSS
      go_wp2
      clear c8
      go_loopw [7] (FewQRel w (cellsM h (.slice qA qp.length qc) (.slice A0 p0.length k0) (.slice A1 p1.length k1) (.slice A2 p2.length k2)) qp) (fun i _ => qp.length - (intOf i).toNat)
      case atStart => exact ⟨0, Nat.zero_le _, rfl, rfl, HWR.out, HB1.out⟩
      case round =>
      obtain ⟨j, hj, rfl, haq, hwq, hbq⟩ := hrel
      have HAQ := Lib.hid haq
      have HBQ := Lib.hid hbq
      have HWQ := Lib.hid hwq
      have c8 : wr.cell? ⟨w.heap.size, 8, none⟩ = some (.slice qA qp.length qc) := Whole.cell hwq 8
      clear haq hwq hbq
      by_cases hlt : j < qp.length
      · obtain ⟨b, off, rfl, hbH, hqa, q0, q1, q2⟩ := (HQ.out _ HBQ.out).at_ hlt
        have hnl := hql _ (List.getElem_mem hlt)
        have HF := Lib.hid (show fewQ (qp[j]).2 = false → (qsts qp).all fewQ = false by
          intro h
          rw [List.all_eq_false]
          exact ⟨(qp[j]).2, List.mem_map.2 ⟨qp[j], List.getElem_mem hlt, rfl⟩, by rw [h]; decide⟩)
        have HT := Lib.hid (show fewQ (qp[j]).2 = true → (qsts (qp.take (j + 1))).all fewQ = true by
          intro h
          rw [qsts_step hlt, List.all_append, HAQ.out]
          simp [h])
        clear hqa
        revert hnl q0 q1 q2 HF HT
        generalize qp[j] = p
        obtain ⟨x, q⟩ := p
        intro q0 q1 q2 hnl HF HT
        dsimp only at *
        unfold maxLen at hnl
        by_cases e2 : q.name.length ≤ 200
        case neg =>
          have d2 : decide ((200 : Int) < (q.name.length : Int)) = true := by simp; omega
          have HX := Lib.hid (HF.out (by unfold fewQ; exact decide_eq_false e2))
          go_wp2
          go_ret
          exact ⟨by rw [HLM.out, HX.out]; rfl, HBQ.out⟩
        have d2 : decide ((200 : Int) < (q.name.length : Int)) = false := by simp; omega
        have HX := Lib.hid (HT.out (by unfold fewQ; exact decide_eq_true e2))
        go_wp2
        exact ⟨⟨j + 1, by omega, by go_num, HX.out, HWQ.out, HBQ.out⟩, by simp [intOf]; omega⟩
      · obtain rfl : j = qp.length := by omega
        have haq := HAQ.out
        rw [List.take_length] at haq
        rw [haq] at HLM
        go_wp2
        go_ret
        refine ⟨?_, HBQ.out⟩
        rw [HLM.out]
        simp
        omega
theorem clight_any (w : World) (m : MV) (hm : MAt w w.heap.size m) (hn : (m.s0.ps.length + m.s1.ps.length + m.s2.ps.length) * 168 ≤ 140737488355328) (hq : m.qp.length ≤ maxLen) (hql : ∀ p ∈ m.qp, p.2.name.length ≤ maxLen)
    (hb : ∀ r ∈ m.msg.all, r.data.bytes.length ≤ 140737488355328) : Calls Try.prog 22 #[m.val] w (Gave w (.bool (lightC m.msg))) := by
  obtain ⟨h, qA, qc, qp, ⟨A0, k0, p0⟩, ⟨A1, k1, p1⟩, ⟨A2, k2, p2⟩⟩ := m
  exact clight_core w _ h qA qc qp A0 A1 A2 k0 k1 k2 p0 p1 p2 rfl hm hn hq hql hb

end Go.Proofs.Ytjkjhpaeckkpjaa

namespace Go.Proofs.Ytjkjhpaeckkpjaa
open Go.RowKit

theorem FitIs.err {m : Mt} {s : Int} {res : Except Nat (List UInt8)} (h : FitIs m s res) : (encL res).length ≤ 65535 := by
  unfold FitIs at h
  split at h
  · rw [h]; exact Nat.zero_le _
  · split at h
    · rw [h]; exact Nat.zero_le _
    · obtain ⟨k, hk, rfl⟩ := h
      rename_i h1 h2
      have hs := soundM_iff.1 (Bool.not_eq_false _ ▸ h2)
      unfold cutR
      split
      · show (encM (m.first k)).length ≤ _
        rw [first_len hs]
        omega
      · exact Nat.zero_le _
theorem MSafe.lightC {m : MV} (h : MSafe m) (w : World) (hm : MAt w w.heap.size m) : Calls Try.prog 22 #[m.val] w (Gave w (.bool (lightC m.msg))) := by
  have h0 : m.s0.ps.length ≤ 1048576 := h.n.2 0
  have h1 : m.s1.ps.length ≤ 1048576 := h.n.2 1
  have h2 : m.s2.ps.length ≤ 1048576 := h.n.2 2
  have hq := h.n.1
  refine clight_any w m hm (by omega) (by unfold maxLen; omega) (fun p hp => (h.q p hp).1.1) fun r hr => ?_
  obtain ⟨i, p, hp, rfl⟩ := mem_all hr
  have := (h.r i p hp).2
  omega

set_option maxRecDepth 20000 in
set_option maxHeartbeats 8000000 in
theorem cfits_core (w : World) (s : Int) (m : MV) (h : Hd) (qA : Option Addr) (qc : Nat) (qp : List (QV × Qt)) (A0 A1 A2 : Option Addr) (k0 k1 k2 : Nat) (p0 p1 p2 : List (RV × Rt)) (he : m = ⟨h, qA, qc, qp, ⟨A0, k0, p0⟩, ⟨A1, k1, p1⟩, ⟨A2, k2, p2⟩⟩) (hm : MAt w w.heap.size m) (hs : MSafe m) :
    Calls Try.prog 7 #[valM h (.slice qA qp.length qc) (.slice A0 p0.length k0) (.slice A1 p1.length k1) (.slice A2 p2.length k2), .int .i64 s] w (TrueB w) := by
  have HA := Lib.hid (fun W' => canswers_any W')
  obtain ⟨W, hW⟩ : ∃ W, W = w.alloc (.cells #[.int .i64 h.id, .bool h.resp, .int .i64 h.op, .bool h.aa, .bool h.tc, .bool h.rd, .bool h.ra, .int .i64 h.rc, .slice qA qp.length qc, .slice A0 p0.length k0, .slice A1 p1.length k1, .slice A2 p2.length k2, .bool h.edns, .int .i64 h.size] 25) := ⟨_, rfl⟩
  have hB : Below w.heap.size w W := by rw [hW]; exact (Below.refl _ _).alloc (Nat.le_refl _) _
  have hzW : W.heap.size = w.heap.size + 1 := by rw [hW]; simp
  have hwm : Whole W w.heap.size 25 (cellsM h (.slice qA qp.length qc) (.slice A0 p0.length k0) (.slice A1 p1.length k1) (.slice A2 p2.length k2)) := by rw [hW]; exact Whole.made w [.int .i64 h.id, .bool h.resp, .int .i64 h.op, .bool h.aa, .bool h.tc, .bool h.rd, .bool h.ra, .int .i64 h.rc, .slice qA qp.length qc, .slice A0 p0.length k0, .slice A1 p1.length k1, .slice A2 p2.length k2, .bool h.edns, .int .i64 h.size] _
  have ev : m.val = valM h (.slice qA qp.length qc) (.slice A0 p0.length k0) (.slice A1 p1.length k1) (.slice A2 p2.length k2) := by rw [he]
  have HC := Lib.hid (fun (W' : World) (hb : Below W.heap.size W W') => cells14 (hwm.below hb (by omega)))
  have HMA := Lib.hid (fun (W' : World) (hb : Below W.heap.size W W') => (show MAt W' W'.heap.size m from by
    have hb2 := hB.trans (hb.mono hB.size)
    exact (hm.below hb2).mono hb2.size))
  have HLT := Lib.hid (fun (W' : World) (hb : Below W.heap.size W W') => (show Calls Try.prog 22 #[valM h (.slice qA qp.length qc) (.slice A0 p0.length k0) (.slice A1 p1.length k1) (.slice A2 p2.length k2)] W' (Gave W' (.bool (lightC m.msg))) from by
    have h1 := hs.lightC W' (HMA.out W' hb)
    rwa [ev] at h1))
  have HIN := Lib.hid (fun (m' : MV) (e : m'.msg = m.msg) (hl : LightM m.msg) => ((hs.small hl).1.same e))
  have HOM := Lib.hid (fun (W' : World) (hb : Below W.heap.size W W') (hl : LightM m.msg) => (show Calls Try.prog 13 #[valM h (.slice qA qp.length qc) (.slice A0 p0.length k0) (.slice A1 p1.length k1) (.slice A2 p2.length k2)] W' (OwnMOut W' m.msg) from by
    have h1 := ownMsg_any W' m (HMA.out W' hb) (hs.small hl).1 (hs.small hl).2
    rwa [ev] at h1))
  have HRF := Lib.hid (fun (res : Except Nat (List UInt8)) (hr : FitIs m.msg s res) (W' : World) (hb : Below W.heap.size W W') (hl : LightM m.msg) => (show Calls Try.prog 24 #[valM h (.slice qA qp.length qc) (.slice A0 p0.length k0) (.slice A1 p1.length k1) (.slice A2 p2.length k2), .int .i64 s] W' (EncOut W' res) from by
    have h1 := cref_any W' s m res (HMA.out W' hb) (hs.small hl).1 (fun p hp => (hs.q p hp).2.2.2) (fun i => (hs.c.2.2 i).1) hr
    rwa [ev] at h1))
  have HB := Lib.hid hB
  have HWB := Lib.hid (Below.refl W.heap.size W)
  clear hB hzW hwm hm hs he ev HMA
  generalize m.msg = M at *
  clear m
  subst hW
  go_enter Try.func7, Try.ntmps7
  go_wp2_with fail
  refine (HA.out _).mono ?_
  rintro e w1 ⟨rfl, hb1⟩
  generalize w.alloc (.cells #[.int .i64 h.id, .bool h.resp, .int .i64 h.op, .bool h.aa, .bool h.tc, .bool h.rd, .bool h.ra, .int .i64 h.rc, .slice qA qp.length qc, .slice A0 p0.length k0, .slice A1 p1.length k1, .slice A2 p2.length k2, .bool h.edns, .int .i64 h.size] 25) = V at *
  have HB1 := Lib.hid hb1
  obtain ⟨m0, m1, m2, m3, m4, m5, m6, m7, m8, m9, m10, m11, m12, m13⟩ := HC.out w1 HB1.out
  clear hb1
  go_wp2_with fail
  refine (HLT.out _ HB1.out).mono ?_
  rintro e w2 ⟨rfl, hb2⟩
  have HB2 := Lib.hid (HB1.out.trans (hb2.mono HB1.out.size))
  clear hb2 m0 m1 m2 m3 m4 m5 m6 m7 m8 m9 m10 m11 m12 m13
  cases hl : lightC M with
  | false =>
    go_wp2_with fail
    refine (HA.out _).mono ?_
    rintro e w3 ⟨rfl, hb3⟩
    have HB3 := Lib.hid (HB2.out.trans (hb3.mono HB2.out.size))
    clear hb3
    go_wp2
    go_ret
    exact ⟨rfl, HB.out.trans (HB3.out.mono HB.out.size)⟩
  | true =>
  have HLM := Lib.hid (lightC_M hl).1
  clear hl
  obtain ⟨m0, m1, m2, m3, m4, m5, m6, m7, m8, m9, m10, m11, m12, m13⟩ := HC.out w2 HB2.out
  go_wp2_with fail
  refine (HOM.out _ HB2.out HLM.out).mono ?_
  rintro e w4 ⟨m', rfl, hmsg, hown, hb4⟩
  have HB4 := Lib.hid (HB2.out.trans (hb4.mono HB2.out.size))
  have HEC := Lib.hid (show Calls Try.prog 23 #[m'.val, .int .i64 s] w4 (fun e w' => ∃ res, FitIs M s res ∧ EncOut w4 res e w') from by
    have h1 := cfit_any w4 s m' hown.at_ (HIN.out m' hmsg HLM.out) hown.owned (sec_all (P := fun s => s.ps.length ≤ s.c) (own_cap hown.s0.row) (own_cap hown.s1.row) (own_cap hown.s2.row)) (own_capM hown.s2.row)
    unfold CFitOut at h1
    rwa [hmsg] at h1)
  clear hb4 m0 m1 m2 m3 m4 m5 m6 m7 m8 m9 m10 m11 m12 m13 hmsg hown
  obtain ⟨h', qA', qc', qp', s0', s1', s2'⟩ := m'
  go_wp2_with fail
  refine HEC.out.mono ?_
  rintro e w5 ⟨res, hres, he5⟩
  have HRE := Lib.hid (fun W' hb => HRF.out res hres W' hb HLM.out)
  have hlr := hres.err
  obtain ⟨A5, c5, rfl, hr5, hb5⟩ := he5.form
  have HB5 := Lib.hid (HB4.out.trans (hb5.mono HB4.out.size))
  have HR5 := Lib.hid hr5
  clear he5 hb5 hr5 HEC hres HRF
  obtain ⟨m0, m1, m2, m3, m4, m5, m6, m7, m8, m9, m10, m11, m12, m13⟩ := HC.out w5 HB5.out
  go_wp2_with fail
  refine (HRE.out _ HB5.out).mono ?_
  intro e w6 he6
  obtain ⟨A6, c6, rfl, hr6, hb6⟩ := he6.form
  have HR5 := Lib.hid ((HR5.out.below hb6).mono hb6.size)
  have HR6 := Lib.hid hr6
  have HB6 := Lib.hid (HB5.out.trans (hb6.mono HB5.out.size))
  have HLE := Lib.hid (show (encL res).length ≤ maxLen by unfold maxLen; omega)
  clear he6 hb6 hr6 m0 m1 m2 m3 m4 m5 m6 m7 m8 m9 m10 m11 m12 m13 hlr HRE
  generalize encL res = B at *
  generalize encK res = K9 at *
  have hkk : ((K9 : Int) == (K9 : Int)) = true := by simp
  go_wp2_with fail
  refine (same_yes A5 A6 B.length B.length c5 c6 _ B _ rfl rfl HR5.out HR6.out HLE.out).mono ?_
  rintro e w7 ⟨rfl, k8, rfl⟩
  have HB7 := Lib.hid (HB6.out.trans ((below_drewN (Below.refl _ _) k8).mono HB6.out.size))
  go_wp2
  go_ret
  exact ⟨rfl, HB.out.trans (HB7.out.mono HB.out.size)⟩
theorem cfits_any (w : World) (s : Int) (m : MV) (hm : MAt w w.heap.size m) (hs : MSafe m) : Calls Try.prog 7 #[m.val, .int .i64 s] w (TrueB w) := by
  obtain ⟨h, qA, qc, qp, ⟨A0, k0, p0⟩, ⟨A1, k1, p1⟩, ⟨A2, k2, p2⟩⟩ := m
  exact cfits_core w s _ h qA qc qp A0 A1 A2 k0 k1 k2 p0 p1 p2 rfl hm hs

end Go.Proofs.Ytjkjhpaeckkpjaa

namespace Go.Proofs.Ytjkjhpaeckkpjaa
open Go.RowKit

set_option maxRecDepth 20000 in
set_option maxHeartbeats 8000000 in
theorem cmore_core (w : World) (n1 n2 : Nat) (hn1 : n1 < 65536) (hn2 : n2 < 65536) (m : MV) (h : Hd) (qA : Option Addr) (qc : Nat) (qp : List (QV × Qt)) (A0 A1 A2 : Option Addr) (k0 k1 k2 : Nat) (p0 p1 p2 : List (RV × Rt)) (he : m = ⟨h, qA, qc, qp, ⟨A0, k0, p0⟩, ⟨A1, k1, p1⟩, ⟨A2, k2, p2⟩⟩) (hm : MAt w w.heap.size m) (hs : MSafe m) :
    Calls Try.prog 8 #[valM h (.slice qA qp.length qc) (.slice A0 p0.length k0) (.slice A1 p1.length k1) (.slice A2 p2.length k2), .int .u16 n1, .int .u16 n2] w (TrueB w) := by
  have HA := Lib.hid (fun W' => canswers_any W')
  obtain ⟨W, hW⟩ : ∃ W, W = w.alloc (.cells #[.int .i64 h.id, .bool h.resp, .int .i64 h.op, .bool h.aa, .bool h.tc, .bool h.rd, .bool h.ra, .int .i64 h.rc, .slice qA qp.length qc, .slice A0 p0.length k0, .slice A1 p1.length k1, .slice A2 p2.length k2, .bool h.edns, .int .i64 h.size] 25) := ⟨_, rfl⟩
  have hB : Below w.heap.size w W := by rw [hW]; exact (Below.refl _ _).alloc (Nat.le_refl _) _
  have hzW : W.heap.size = w.heap.size + 1 := by rw [hW]; simp
  have hwm : Whole W w.heap.size 25 (cellsM h (.slice qA qp.length qc) (.slice A0 p0.length k0) (.slice A1 p1.length k1) (.slice A2 p2.length k2)) := by rw [hW]; exact Whole.made w [.int .i64 h.id, .bool h.resp, .int .i64 h.op, .bool h.aa, .bool h.tc, .bool h.rd, .bool h.ra, .int .i64 h.rc, .slice qA qp.length qc, .slice A0 p0.length k0, .slice A1 p1.length k1, .slice A2 p2.length k2, .bool h.edns, .int .i64 h.size] _
  have ev : m.val = valM h (.slice qA qp.length qc) (.slice A0 p0.length k0) (.slice A1 p1.length k1) (.slice A2 p2.length k2) := by rw [he]
  have HC := Lib.hid (fun (W' : World) (hb : Below W.heap.size W W') => cells14 (hwm.below hb (by omega)))
  have HMA := Lib.hid (fun (W' : World) (hb : Below W.heap.size W W') => (show MAt W' W'.heap.size m from by
    have hb2 := hB.trans (hb.mono hB.size)
    exact (hm.below hb2).mono hb2.size))
  have HLT := Lib.hid (fun (W' : World) (hb : Below W.heap.size W W') => (show Calls Try.prog 22 #[valM h (.slice qA qp.length qc) (.slice A0 p0.length k0) (.slice A1 p1.length k1) (.slice A2 p2.length k2)] W' (Gave W' (.bool (lightC m.msg))) from by
    have h1 := hs.lightC W' (HMA.out W' hb)
    rwa [ev] at h1))
  have HIN := Lib.hid (fun (m' : MV) (e : m'.msg = m.msg) (hl : LightM m.msg) => ((hs.small hl).1.same e))
  have HOM := Lib.hid (fun (W' : World) (hb : Below W.heap.size W W') (hl : LightM m.msg) => (show Calls Try.prog 13 #[valM h (.slice qA qp.length qc) (.slice A0 p0.length k0) (.slice A1 p1.length k1) (.slice A2 p2.length k2)] W' (OwnMOut W' m.msg) from by
    have h1 := ownMsg_any W' m (HMA.out W' hb) (hs.small hl).1 (hs.small hl).2
    rwa [ev] at h1))
  have HRM := Lib.hid (fun (W' : World) (hb : Below W.heap.size W W') (hl : LightM m.msg) => (show Calls Try.prog 16 #[valM h (.slice qA qp.length qc) (.slice A0 p0.length k0) (.slice A1 p1.length k1) (.slice A2 p2.length k2)] W' (Gave W' (.bool (soundM m.msg))) from by
    have h1 := refmsg_any W' m (HMA.out W' hb) (hs.small hl).1
    rwa [ev] at h1))
  have HB := Lib.hid hB
  have HWB := Lib.hid (Below.refl W.heap.size W)
  clear hB hzW hwm hm hs he ev HMA
  generalize m.msg = M at *
  clear m
  subst hW
  go_enter Try.func8, Try.ntmps8
  go_wp2_with fail
  obtain ⟨N, hN⟩ : ∃ N : Int, N = 512 + (n1 : Int) % 3000 := ⟨_, rfl⟩
  obtain ⟨K, hK⟩ : ∃ K : Int, K = 512 + (n1 : Int) % 3000 + (n2 : Int) % 3000 := ⟨_, rfl⟩
  have hN1 : 512 ≤ N := by omega
  have hN2 : N ≤ K := by omega
  have hN3 : K ≤ 65535 := by omega
  rw [← hK, ← hN]
  clear hK hN
  refine (HA.out _).mono ?_
  rintro e w1 ⟨rfl, hb1⟩
  generalize w.alloc (.cells #[.int .i64 h.id, .bool h.resp, .int .i64 h.op, .bool h.aa, .bool h.tc, .bool h.rd, .bool h.ra, .int .i64 h.rc, .slice qA qp.length qc, .slice A0 p0.length k0, .slice A1 p1.length k1, .slice A2 p2.length k2, .bool h.edns, .int .i64 h.size] 25) = V at *
  have HB1 := Lib.hid hb1
  obtain ⟨m0, m1, m2, m3, m4, m5, m6, m7, m8, m9, m10, m11, m12, m13⟩ := HC.out w1 HB1.out
  clear hb1
  go_wp2_with fail
  refine (HLT.out _ HB1.out).mono ?_
  rintro e w2 ⟨rfl, hb2⟩
  have HB2 := Lib.hid (HB1.out.trans (hb2.mono HB1.out.size))
  clear hb2 m0 m1 m2 m3 m4 m5 m6 m7 m8 m9 m10 m11 m12 m13
  cases hl : lightC M with
  | false =>
    go_wp2_with fail
    refine (HA.out _).mono ?_
    rintro e w3 ⟨rfl, hb3⟩
    have HB3 := Lib.hid (HB2.out.trans (hb3.mono HB2.out.size))
    clear hb3
    go_wp2
    go_ret
    exact ⟨rfl, HB.out.trans (HB3.out.mono HB.out.size)⟩
  | true =>
  have HLM := Lib.hid (lightC_M hl).1
  clear hl
  obtain ⟨m0, m1, m2, m3, m4, m5, m6, m7, m8, m9, m10, m11, m12, m13⟩ := HC.out w2 HB2.out
  go_wp2_with fail
  refine (HRM.out _ HB2.out HLM.out).mono ?_
  rintro e w3 ⟨rfl, hb3⟩
  have HB3 := Lib.hid (HB2.out.trans (hb3.mono HB2.out.size))
  clear hb3 m0 m1 m2 m3 m4 m5 m6 m7 m8 m9 m10 m11 m12 m13
  cases hso : soundM M with
  | false =>
    go_wp2_with fail
    refine (HA.out _).mono ?_
    rintro e w4 ⟨rfl, hb4⟩
    have HB4 := Lib.hid (HB3.out.trans (hb4.mono HB3.out.size))
    clear hb4
    go_wp2
    go_ret
    exact ⟨rfl, HB.out.trans (HB4.out.mono HB.out.size)⟩
  | true =>
  have HMO := Lib.hid (fun r1 r2 (f1 : FitIs M N r1) (f2 : FitIs M K r2) => cut_more (soundM_iff.1 hso) hN1 hN2 hN3 f1 f2)
  clear hso hN1 hN2 hN3
  obtain ⟨m0, m1, m2, m3, m4, m5, m6, m7, m8, m9, m10, m11, m12, m13⟩ := HC.out w3 HB3.out
  go_wp2_with fail
  refine (HOM.out _ HB3.out HLM.out).mono ?_
  rintro e w4 ⟨m', rfl, hmsg, hown, hb4⟩
  have HB4 := Lib.hid (HB3.out.trans (hb4.mono HB3.out.size))
  have HEC := Lib.hid (show Calls Try.prog 23 #[m'.val, .int .i64 N] w4 (fun e w' => ∃ res, FitIs M N res ∧ EncOut w4 res e w') from by
    have h1 := cfit_any w4 N m' hown.at_ (HIN.out m' hmsg HLM.out) hown.owned (sec_all (P := fun s => s.ps.length ≤ s.c) (own_cap hown.s0.row) (own_cap hown.s1.row) (own_cap hown.s2.row)) (own_capM hown.s2.row)
    unfold CFitOut at h1
    rwa [hmsg] at h1)
  clear hb4 m0 m1 m2 m3 m4 m5 m6 m7 m8 m9 m10 m11 m12 m13 hmsg hown
  obtain ⟨h', qA', qc', qp', s0', s1', s2'⟩ := m'
  go_wp2_with fail
  refine HEC.out.mono ?_
  rintro e w5 ⟨r1, hr1, he5⟩
  have HF1 := Lib.hid hr1
  have hb5 : Below w4.heap.size w4 w5 := by
    obtain ⟨_, _, _, _, h1⟩ := he5.form
    exact h1
  have HB5 := Lib.hid (HB4.out.trans (hb5.mono HB4.out.size))
  obtain ⟨v5, k5, HV5⟩ : ∃ (v : Value) (k : Nat), Hid (e = .returned (.tuple #[v, .int .i64 k]) ∧ (∀ c, r1 = .error c → k = c) ∧ ∀ a, r1 = .ok a → k = 0 ∧ ∃ A c, v = .slice A a.length c ∧ w5.ownsRow w4.heap.size 5 1 (.slice A a.length c) a.length (a.map bc)) := by
    cases r1 with
    | error c =>
      obtain ⟨a1, _⟩ := encOut_no he5 rfl
      exact ⟨_, c, Lib.hid ⟨a1, fun c' h => by injection h, fun a h => by cases h⟩⟩
    | ok a =>
      obtain ⟨A, c, a1, a2, _⟩ := encOut_yes he5 rfl
      exact ⟨_, 0, Lib.hid ⟨a1, fun c' h => by (cases h), fun a' h => by
        injection h with h
        subst h
        exact ⟨rfl, A, c, rfl, a2⟩⟩⟩
  obtain rfl : e = _ := HV5.out.1
  clear he5 hb5 hr1 HEC
  obtain ⟨m0, m1, m2, m3, m4, m5, m6, m7, m8, m9, m10, m11, m12, m13⟩ := HC.out w5 HB5.out
  go_wp2_with fail
  refine (HOM.out _ HB5.out HLM.out).mono ?_
  rintro e w6 ⟨m', rfl, hmsg, hown, hb6⟩
  have HB6 := Lib.hid (HB5.out.trans (hb6.mono HB5.out.size))
  have HB56 := Lib.hid hb6
  have HEC := Lib.hid (show Calls Try.prog 23 #[m'.val, .int .i64 K] w6 (fun e w' => ∃ res, FitIs M K res ∧ EncOut w6 res e w') from by
    have h1 := cfit_any w6 K m' hown.at_ (HIN.out m' hmsg HLM.out) hown.owned (sec_all (P := fun s => s.ps.length ≤ s.c) (own_cap hown.s0.row) (own_cap hown.s1.row) (own_cap hown.s2.row)) (own_capM hown.s2.row)
    unfold CFitOut at h1
    rwa [hmsg] at h1)
  clear hb6 m0 m1 m2 m3 m4 m5 m6 m7 m8 m9 m10 m11 m12 m13 hmsg hown
  obtain ⟨h'', qA'', qc'', qp'', s0'', s1'', s2''⟩ := m'
  go_wp2_with fail
  refine HEC.out.mono ?_
  rintro e w7 ⟨r2, hr2, he7⟩
  have HCM := Lib.hid (HMO.out r1 r2 HF1.out hr2)
  have hb7 : Below w6.heap.size w6 w7 := by
    obtain ⟨_, _, _, _, h1⟩ := he7.form
    exact h1
  have HB7 := Lib.hid (HB6.out.trans (hb7.mono HB6.out.size))
  have HB57 := Lib.hid (HB56.out.trans (hb7.mono HB56.out.size))
  obtain ⟨v7, k7, HV7⟩ : ∃ (v : Value) (k : Nat), Hid (e = .returned (.tuple #[v, .int .i64 k]) ∧ (∀ c, r2 = .error c → k = c) ∧ ∀ a, r2 = .ok a → k = 0 ∧ ∃ A c, v = .slice A a.length c ∧ w7.ownsRow w6.heap.size 5 1 (.slice A a.length c) a.length (a.map bc)) := by
    cases r2 with
    | error c =>
      obtain ⟨a1, _⟩ := encOut_no he7 rfl
      exact ⟨_, c, Lib.hid ⟨a1, fun c' h => by injection h, fun a h => by cases h⟩⟩
    | ok a =>
      obtain ⟨A, c, a1, a2, _⟩ := encOut_yes he7 rfl
      exact ⟨_, 0, Lib.hid ⟨a1, fun c' h => by (cases h), fun a' h => by
        injection h with h
        subst h
        exact ⟨rfl, A, c, rfl, a2⟩⟩⟩
  obtain rfl : e = _ := HV7.out.1
  clear he7 hb7 hr2 HEC HF1 HMO HC HOM HRM HLT HIN HB56
  rcases HCM.out with he4 | ⟨a, b, x, y, ea, eb, da, db, lab, l0, l1, l2, htc⟩
  · have hk5 := HV5.out.2.1 4 he4
    subst hk5
    clear he4 HCM
    go_wp2
    go_ret
    exact ⟨rfl, HB.out.trans (HB7.out.mono HB.out.size)⟩
  obtain ⟨hk5, A5, c5, hv5, ho5⟩ := HV5.out.2.2 a ea
  obtain ⟨hk7, A7, c7, hv7, ho7⟩ := HV7.out.2.2 b eb
  subst hk5
  subst hk7
  subst hv5
  subst hv7
  have HD5 := Lib.hid (decode_any A5 a.length c5 a w7 rfl ((Row.of_own ho5).below HB57.out |>.mono HB57.out.size) (own_cap ho5) (own_capM ho5))
  have HO7 := Lib.hid ho7
  have HDA := Lib.hid da
  have HDB := Lib.hid db
  have HTC := Lib.hid htc
  have HL := Lib.hid (show x.an.length ≤ y.an.length ∧ x.au.length ≤ y.au.length ∧ x.ex.length ≤ y.ex.length from ⟨l0, l1, l2⟩)
  clear HCM HV5 HV7 ea eb da db ho5 ho7 htc l0 l1 l2
  go_wp2_with fail
  refine HD5.out.mono ?_
  intro e w8 he8
  obtain ⟨m3, rfl, hm3, _, hb8⟩ := decOut_yes he8 HDA.out
  have HB8 := Lib.hid (HB7.out.trans (hb8.mono HB7.out.size))
  have HM3 := Lib.hid hm3
  have HR7 := Lib.hid ((Row.of_own HO7.out).below hb8 |>.mono hb8.size)
  have hc7 := own_cap HO7.out
  have hc7m := own_capM HO7.out
  clear he8 hb8 hm3 HD5 HO7
  obtain ⟨h3, qA3, qc3, qp3, ⟨A30, k30, p30⟩, ⟨A31, k31, p31⟩, ⟨A32, k32, p32⟩⟩ := m3
  obtain ⟨W8, hW8⟩ : ∃ W8, W8 = w8.alloc (.cells #[.int .i64 h3.id, .bool h3.resp, .int .i64 h3.op, .bool h3.aa, .bool h3.tc, .bool h3.rd, .bool h3.ra, .int .i64 h3.rc, .slice qA3 qp3.length qc3, .slice A30 p30.length k30, .slice A31 p31.length k31, .slice A32 p32.length k32, .bool h3.edns, .int .i64 h3.size] 25) := ⟨_, rfl⟩
  have hb8 : Below w8.heap.size w8 W8 := by rw [hW8]; exact (Below.refl _ _).alloc (Nat.le_refl _) _
  have hz8 : W8.heap.size = w8.heap.size + 1 := by rw [hW8]; simp
  have HB9 := Lib.hid (HB8.out.trans (hb8.mono HB8.out.size))
  have HW8 := Lib.hid (show Whole W8 w8.heap.size 25 (cellsM h3 (.slice qA3 qp3.length qc3) (.slice A30 p30.length k30) (.slice A31 p31.length k31) (.slice A32 p32.length k32)) from by rw [hW8]; exact Whole.made w8 (cellsM h3 (.slice qA3 qp3.length qc3) (.slice A30 p30.length k30) (.slice A31 p31.length k31) (.slice A32 p32.length k32)) _)
  have HD7 := Lib.hid (decode_any A7 b.length c7 b W8 rfl ((HR7.out.below hb8).mono hb8.size) hc7 hc7m)
  clear hb8 HR7 hc7 hc7m
  go_wp2_with fail
  rw [← hW8]
  clear hW8
  refine HD7.out.mono ?_
  intro e w10 he10
  obtain ⟨m4, rfl, hm4, _, hb10⟩ := decOut_yes he10 HDB.out
  have HB10 := Lib.hid (HB9.out.trans (hb10.mono HB9.out.size))
  have HW10 := Lib.hid (HW8.out.below hb10 HW8.out.lt)
  obtain ⟨h4, qA4, qc4, qp4, ⟨A40, k40, p40⟩, ⟨A41, k41, p41⟩, ⟨A42, k42, p42⟩⟩ := m4
  have hl0 : p30.length ≤ p40.length := by
    have h1 := HL.out.1
    rw [← HM3.out, ← hm4] at h1
    simpa [MV.msg, length_recs] using h1
  have hl1 : p31.length ≤ p41.length := by
    have h1 := HL.out.2.1
    rw [← HM3.out, ← hm4] at h1
    simpa [MV.msg, length_recs] using h1
  have hl2 : p32.length ≤ p42.length := by
    have h1 := HL.out.2.2
    rw [← HM3.out, ← hm4] at h1
    simpa [MV.msg, length_recs] using h1
  have htc : h3.tc = true ∨ (h3.tc = false ∧ h4.tc = false) := by
    have h1 := HTC.out
    rw [← HM3.out, ← hm4] at h1
    exact h1
  have hz10 := hb10.size
  have HW12 := Lib.hid (HW10.out.below ((Below.refl w10.heap.size w10).alloc (Nat.le_refl _) (.cells #[.int .i64 h4.id, .bool h4.resp, .int .i64 h4.op, .bool h4.aa, .bool h4.tc, .bool h4.rd, .bool h4.ra, .int .i64 h4.rc, .slice qA4 qp4.length qc4, .slice A40 p40.length k40, .slice A41 p41.length k41, .slice A42 p42.length k42, .bool h4.edns, .int .i64 h4.size] 25)) HW10.out.lt)
  have q4 : (w10.alloc (.cells #[.int .i64 h4.id, .bool h4.resp, .int .i64 h4.op, .bool h4.aa, .bool h4.tc, .bool h4.rd, .bool h4.ra, .int .i64 h4.rc, .slice qA4 qp4.length qc4, .slice A40 p40.length k40, .slice A41 p41.length k41, .slice A42 p42.length k42, .bool h4.edns, .int .i64 h4.size] 25)).cell? ⟨w8.heap.size, 4, none⟩ = some (.bool h3.tc) := HW12.out.cell 4
  have q9 : (w10.alloc (.cells #[.int .i64 h4.id, .bool h4.resp, .int .i64 h4.op, .bool h4.aa, .bool h4.tc, .bool h4.rd, .bool h4.ra, .int .i64 h4.rc, .slice qA4 qp4.length qc4, .slice A40 p40.length k40, .slice A41 p41.length k41, .slice A42 p42.length k42, .bool h4.edns, .int .i64 h4.size] 25)).cell? ⟨w8.heap.size, 9, none⟩ = some (.slice A30 p30.length k30) := HW12.out.cell 9
  have q10 : (w10.alloc (.cells #[.int .i64 h4.id, .bool h4.resp, .int .i64 h4.op, .bool h4.aa, .bool h4.tc, .bool h4.rd, .bool h4.ra, .int .i64 h4.rc, .slice qA4 qp4.length qc4, .slice A40 p40.length k40, .slice A41 p41.length k41, .slice A42 p42.length k42, .bool h4.edns, .int .i64 h4.size] 25)).cell? ⟨w8.heap.size, 10, none⟩ = some (.slice A31 p31.length k31) := HW12.out.cell 10
  have q11 : (w10.alloc (.cells #[.int .i64 h4.id, .bool h4.resp, .int .i64 h4.op, .bool h4.aa, .bool h4.tc, .bool h4.rd, .bool h4.ra, .int .i64 h4.rc, .slice qA4 qp4.length qc4, .slice A40 p40.length k40, .slice A41 p41.length k41, .slice A42 p42.length k42, .bool h4.edns, .int .i64 h4.size] 25)).cell? ⟨w8.heap.size, 11, none⟩ = some (.slice A32 p32.length k32) := HW12.out.cell 11
  have HBF := Lib.hid (HB.out.trans ((HB10.out.alloc HB10.out.size (.cells #[.int .i64 h4.id, .bool h4.resp, .int .i64 h4.op, .bool h4.aa, .bool h4.tc, .bool h4.rd, .bool h4.ra, .int .i64 h4.rc, .slice qA4 qp4.length qc4, .slice A40 p40.length k40, .slice A41 p41.length k41, .slice A42 p42.length k42, .bool h4.edns, .int .i64 h4.size] 25)).mono HB.out.size))
  clear he10 hb10 hm4 HD7 HL HTC HM3 HDA HDB HW8 HW10 HW12 HB10 HB9 HB8 HB7
  rcases htc with ht | ⟨ht3, ht4⟩
  · rw [ht] at q4
    clear ht
    go_wp2
    go_ret
    exact ⟨rfl, HBF.out⟩
  · obtain ⟨i4, rs4, op4, aa4, tc4, rd4, ra4, rc4, ed4, sz4⟩ := h4
    dsimp only at ht4 q4 q9 q10 q11 HBF
    subst ht4
    rw [ht3] at q4
    clear ht3
    go_wp2
    go_ret
    exact ⟨rfl, HBF.out⟩
theorem cmore_any (w : World) (n1 n2 : Nat) (hn1 : n1 < 65536) (hn2 : n2 < 65536) (m : MV) (hm : MAt w w.heap.size m) (hs : MSafe m) : Calls Try.prog 8 #[m.val, .int .u16 n1, .int .u16 n2] w (TrueB w) := by
  obtain ⟨h, qA, qc, qp, ⟨A0, k0, p0⟩, ⟨A1, k1, p1⟩, ⟨A2, k2, p2⟩⟩ := m
  exact cmore_core w n1 n2 hn1 hn2 _ h qA qc qp A0 A1 A2 k0 k1 k2 p0 p1 p2 rfl hm hs

end Go.Proofs.Ytjkjhpaeckkpjaa

namespace Go.Proofs.Ytjkjhpaeckkpjaa
open Go.ChangeShapes Go.WideShapes Go.ChangeAt Go.RowKit

set_option maxRecDepth 100000 in
theorem cmore_lifted (os : Os) (started : os.Started) (H : Type) (enc : TypeId × Value → H) (F : Stop.Interp) :
    ReturnsInHanded {} Try.checked os 8 .any ((Rows.OpenSpec.upto Rows.cutMoreSpec).pre6 enc Try.prog Try.f8 Rows.cutMoreUptoRow.domain false) (((Rows.OpenSpec.upto Rows.cutMoreSpec).at F).post enc Try.prog Try.f8 false true false false) := by
  refine returnsInHanded_of_cond (C := Try.checked) (s := Rows.OpenSpec.upto Rows.cutMoreSpec) (k := Rows.uptoSmall) rfl Try.own started (by kernel_rfl) Try.func8
    (OpenSpec.witness (enc := enc) (C := Try.checked) (s := Rows.OpenSpec.upto Rows.cutMoreSpec) (k := Rows.uptoSmall) rfl false ⟨#[], #[.agg #[.int .i64 0, .bool false, .int .i64 0, .bool false, .bool false, .bool false, .bool false, .int .i64 0, .slice none 0 0, .slice none 0 0, .slice none 0 0, .slice none 0 0, .bool false, .int .i64 0], .int .u16 0, .int .u16 0], []⟩ 8 (by kernel_rfl) (by kernel_rfl) (by kernel_rfl)
      (x := ([.agg [.lit (.int .i64 0), .lit (.bool false), .lit (.int .i64 0), .lit (.bool false), .lit (.bool false), .lit (.bool false), .lit (.bool false), .lit (.int .i64 0), .nil, .nil, .nil, .nil, .lit (.bool false), .lit (.int .i64 0)], .lit (.int .u16 0), .lit (.int .u16 0)], [], [])) (by kernel_rfl) rfl (by kernel_rfl)) ?_
  intro W base args ds gs before hval0 hW _ hk0 _
  have hval : ∀ (j : Nat) t v, Try.f8.params[j]? = some t → args[j]? = some v → Value.okWide Try.prog W .any base t v := hval0
  have hW' := hW
  obtain ⟨p, q, hA0, hV, rfl, _, _⟩ := hW
  have hA : DataW.TrodAll enc Try.prog W 0 (fun _ => true) true Try.f8.params.toList args.toList ds p := hA0
  rw [Try.params8] at hA hval
  obtain ⟨v0, v1, v2, d0, d1, d2, p0, p1, p2, rfl, rfl, rfl, h0, h1, h2⟩ := trodAll_three hA
  obtain ⟨rfl, rfl⟩ := trodVars_none hV
  have hk : Rows.uptoBulkAll ([d0, d1, d2] : List (DataW H)) ≤ 1048576 := of_decide_eq_true hk0
  simp only [Rows.uptoBulkAll] at hk
  clear hk0 hA0
  obtain ⟨m0, rfl, hm0, hs0⟩ := open_msg (hval 0 25 v0 rfl rfl) h0 (fun x hx => hW'.lt x (by simp [hx])) (by omega)
  obtain ⟨n1, rfl, rfl, rfl, w1⟩ := open_int Try.underlying38 (hval 1 38 v1 rfl rfl) h1
  obtain ⟨n2, rfl, rfl, rfl, w2⟩ := open_int Try.underlying38 (hval 2 38 v2 rfl rfl) h2
  have key : Calls Try.prog 8 #[m0.val, .int .u16 n1, .int .u16 n2] W (TrueB W) := by
    obtain ⟨n, rfl, hn⟩ := u16_nat w1
    obtain ⟨k, rfl, hk2⟩ := u16_nat w2
    exact cmore_any W n k hn hk2 m0 hm0 hs0
  refine key.mono fun e W' ⟨he, hb⟩ => ?_
  subst he
  exact ⟨_, rfl, law_post (P := Try.prog) (tb := 4) Try.laidOut (by kernel_rfl) (by kernel_rfl) (by kernel_rfl) Try.underlying4 rfl hW' rfl rfl rfl hb⟩

theorem cmore_holds : Rows.CutMoreUptoSaid :=
  OpenClaim.holds_of_cond 8 Try.f8 rfl rfl rfl rfl rfl rfl rfl ⟨rfl, rfl, rfl, rfl, rfl⟩ rfl rfl rfl rfl rfl (by kernel_rfl) Try.func8 (by kernel_rfl)
    (of_decide_eq_true (by kernel_rfl)) (by unfold Func.isWrapper; first | (rw [if_pos (by decide +kernel)]; kernel_rfl) | (rw [if_neg (by decide +kernel)]; exact ⟨rfl, rfl⟩))
    (fun os started H enc _ F => cmore_lifted os started H enc F)

end Go.Proofs.Ytjkjhpaeckkpjaa
