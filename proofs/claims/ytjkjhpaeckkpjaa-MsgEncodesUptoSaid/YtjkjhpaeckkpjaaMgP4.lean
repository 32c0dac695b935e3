/-
  MsgEncodes in its form for what is not too great: msg.Sound and msg.Encode answer of every message what the document says; of messages that take, with what else comes in, at most 1,048,576 values and letters in all. No other condition.
-/
import Derived.Test.YtjkjhpaeckkpjaaMgP3
import Derived.Test.YtjkjhpaeckkpjaaMgP1
import Derived.Deep.RegionHeld3
namespace Go.Proofs.Ytjkjhpaeckkpjaa
open Go.RowKit

set_option maxRecDepth 20000 in
set_option maxHeartbeats 8000000 in
theorem refraw_core (w : World) (m : MV) (h : Hd) (qA : Option Addr) (qc : Nat) (qp : List (QV × Qt)) (A0 A1 A2 : Option Addr) (k0 k1 k2 : Nat) (p0 p1 p2 : List (RV × Rt)) (he : m = ⟨h, qA, qc, qp, ⟨A0, k0, p0⟩, ⟨A1, k1, p1⟩, ⟨A2, k2, p2⟩⟩) (hm : MAt w w.heap.size m) (hi : MIn m) (hs : SoundM m.msg) (hqc : ∀ p ∈ qp, p.2.name.length ≤ p.1.2) :
    Calls Try.prog 34 #[valM h (.slice qA qp.length qc) (.slice A0 p0.length k0) (.slice A1 p1.length k1) (.slice A2 p2.length k2)] w (RawOut w (encM m.msg)) := by
  obtain ⟨i0, hi0, hz0, hz1, hz2⟩ := info_parts rr_info
  obtain ⟨W, hW⟩ : ∃ W, W = w.alloc (.cells #[.int .i64 h.id, .bool h.resp, .int .i64 h.op, .bool h.aa, .bool h.tc, .bool h.rd, .bool h.ra, .int .i64 h.rc, .slice qA qp.length qc, .slice A0 p0.length k0, .slice A1 p1.length k1, .slice A2 p2.length k2, .bool h.edns, .int .i64 h.size] 25) := ⟨_, rfl⟩
  have hzW : W.heap.size = w.heap.size + 1 := by rw [hW]; simp
  obtain ⟨V, hV⟩ : ∃ V, V = W.alloc (.cells #[.slice none 0 0, .slice none 0 0] 94) := ⟨_, rfl⟩
  have hB : Below w.heap.size w V := by rw [hV, hW]; exact ((Below.refl _ _).alloc (Nat.le_refl _) _).alloc (by simp) _
  have hzV : V.heap.size = w.heap.size + 2 := by rw [hV]; simp [hzW]
  have hwm : Whole V w.heap.size 25 m.cells := by rw [hV, hW, he]; exact (Whole.made w [.int .i64 h.id, .bool h.resp, .int .i64 h.op, .bool h.aa, .bool h.tc, .bool h.rd, .bool h.ra, .int .i64 h.rc, .slice qA qp.length qc, .slice A0 p0.length k0, .slice A1 p1.length k1, .slice A2 p2.length k2, .bool h.edns, .int .i64 h.size] _).alloc _
  have hr0 : RPenned (w.heap.size + 1) V (fun j => j = w.heap.size + 1) (w.heap.size + 1) [] [] V := by
    have h1 := RWr.new W
    rw [← hV, hzW] at h1
    exact ⟨_, _, _, h1, Grew.refl _ _, fun _ hj => .inl hj⟩
  have HLOW := Lib.hid (fun B R W' (hp : RPenned (w.heap.size + 1) V (fun j => j = w.heap.size + 1) (w.heap.size + 1) B R W') => hp.low (fun j hj => by omega) (show w.heap.size + 1 ≤ V.heap.size by omega))
  have HC := Lib.hid (fun (W' : World) (hb : Below (w.heap.size + 1) V W') => (show W'.cell? ⟨w.heap.size, 0, none⟩ = some (.int .i64 h.id) ∧ W'.cell? ⟨w.heap.size, 1, none⟩ = some (.bool h.resp) ∧ W'.cell? ⟨w.heap.size, 2, none⟩ = some (.int .i64 h.op) ∧ W'.cell? ⟨w.heap.size, 3, none⟩ = some (.bool h.aa) ∧
    W'.cell? ⟨w.heap.size, 4, none⟩ = some (.bool h.tc) ∧ W'.cell? ⟨w.heap.size, 5, none⟩ = some (.bool h.rd) ∧ W'.cell? ⟨w.heap.size, 6, none⟩ = some (.bool h.ra) ∧ W'.cell? ⟨w.heap.size, 7, none⟩ = some (.int .i64 h.rc) ∧ W'.cell? ⟨w.heap.size, 8, none⟩ = some (.slice qA qp.length qc) ∧
    W'.cell? ⟨w.heap.size, 9, none⟩ = some (.slice A0 p0.length k0) ∧ W'.cell? ⟨w.heap.size, 10, none⟩ = some (.slice A1 p1.length k1) ∧ W'.cell? ⟨w.heap.size, 11, none⟩ = some (.slice A2 p2.length k2) ∧ W'.cell? ⟨w.heap.size, 12, none⟩ = some (.bool h.edns) ∧ W'.cell? ⟨w.heap.size, 13, none⟩ = some (.int .i64 h.size) by
      have hw := hwm.below hb (Nat.lt_succ_self _)
      rw [he] at hw
      exact ⟨hw.cell 0, hw.cell 1, hw.cell 2, hw.cell 3, hw.cell 4, hw.cell 5, hw.cell 6, hw.cell 7, hw.cell 8, hw.cell 9, hw.cell 10, hw.cell 11, hw.cell 12, hw.cell 13⟩))
  have HBV := Lib.hid (fun (W' : World) (hb : Below (w.heap.size + 1) V W') => hB.trans (hb.mono (Nat.le_succ _)))
  have HS0 := Lib.hid (fun W' (hb : Below w.heap.size w W') => (show RsAt W' w.heap.size A0 p0 by have h2 := hm.s0.below hb; rw [he] at h2; exact h2))
  have HS1 := Lib.hid (fun W' (hb : Below w.heap.size w W') => (show RsAt W' w.heap.size A1 p1 by have h2 := hm.s1.below hb; rw [he] at h2; exact h2))
  have HS2 := Lib.hid (fun W' (hb : Below w.heap.size w W') => (show RsAt W' w.heap.size A2 p2 by have h2 := hm.s2.below hb; rw [he] at h2; exact h2))
  have HQ := Lib.hid (fun W' (hb : Below w.heap.size w W') => (show QsAt W' w.heap.size qA qp by have h2 := hm.q.below hb; rw [he] at h2; exact h2))
  have e1 : m.msg.qs = qsts qp := by rw [he]; rfl
  have e2 : m.msg.all = recs (p0 ++ p1 ++ p2) := by rw [he]; show recs p0 ++ (recs p1 ++ recs p2) = _; simp [recs_append]
  have eh : m.msg.h = h := by rw [he]; rfl
  obtain ⟨S, hS⟩ : ∃ S : List UInt8 × Rs, S = (m.msg.head, []) := ⟨_, rfl⟩
  have HFQ := Lib.hid (fun k (hk : k ≤ qp.length) => (show Fine (putQs ((qsts qp).take k) S) ∧ Kept (putQs ((qsts qp).take k) S).2 from by
    rw [hS, ← e1]
    exact ⟨(fine_q hs k (by rw [e1, length_qsts]; exact hk)).1, Kept.putQs Kept.nil fun q hq => by
      have h3 := List.mem_of_mem_take hq
      rw [e1] at h3
      obtain ⟨p, hp, rfl⟩ := List.mem_map.1 h3
      exact (hi.q p (by rw [he]; exact hp)).l⟩))
  have HRL := Lib.hid (show ∀ r ∈ m.msg.all, SoundR r ∧ LightR r ∧ RIn r from fun r hr => ⟨(soundX_iff.1 (hs.r r hr)).2, by
    have h3 := hr
    unfold Mt.all at h3
    rcases List.mem_append.1 h3 with h4 | h4
    · obtain ⟨p, hp, rfl⟩ := List.mem_map.1 h4
      exact (hi.r 0 p hp).symm
    · rcases List.mem_append.1 h4 with h4 | h4
      · obtain ⟨p, hp, rfl⟩ := List.mem_map.1 h4
        exact (hi.r 1 p hp).symm
      · obtain ⟨p, hp, rfl⟩ := List.mem_map.1 h4
        exact (hi.r 2 p hp).symm⟩)
  have HFR := Lib.hid (fun k (hk : k ≤ (p0 ++ p1 ++ p2).length) => (show Fine (putRs ((recs (p0 ++ p1 ++ p2)).take k) (putQs (qsts qp) S)) ∧ Kept (putRs ((recs (p0 ++ p1 ++ p2)).take k) (putQs (qsts qp) S)).2 from by
    have h3 := (HFQ.out qp.length (Nat.le_refl _)).2
    rw [List.take_of_length_le (by rw [length_qsts]; exact Nat.le_refl _)] at h3
    refine ⟨?_, Kept.putRs h3 fun r hr => (HRL.out r (by rw [e2]; exact List.mem_of_mem_take hr)).2.1⟩
    have h4 := fine_r hs k (by rw [e2, length_recs]; exact hk)
    rw [e1, e2] at h4
    rw [hS]
    exact h4))
  have HQI := Lib.hid (show ∀ p ∈ qp, soundN p.2.name = true ∧ p.2.kind ≤ 9223372036854775807 ∧ p.2.cls ≤ 9223372036854775807 ∧ p.2.name.length ≤ p.1.2 from fun p hp => by
    have h3 := hi.q p (by rw [he]; exact hp)
    have h4 := hs.q p.2 (by rw [e1]; exact List.mem_map.2 ⟨p, hp, rfl⟩)
    unfold soundQ at h4
    simp only [Bool.and_eq_true] at h4
    exact ⟨h4.1, i64_top h3.k, i64_top h3.c, hqc p hp⟩)
  have hhs := hs.h
  rw [eh] at hhs
  unfold soundH at hhs
  simp only [Bool.and_eq_true] at hhs
  obtain ⟨hid, hop, hrc, hsz, _⟩ := hhs
  have HE2 := Lib.hid e2
  have HEN := Lib.hid (show encM m.msg = (putRs (if h.edns = true then [optR h.size] else []) (putRs (recs (p0 ++ p1 ++ p2)) (putQs (qsts qp) S))).1 from by rw [enc_all, eh, e1, e2, hS])
  have HSZ := Lib.hid hsz
  have hhd : S.1 = headM h qp.length p0.length p1.length ((p2.length + bit h.edns 1 : Nat) : Int) := by
    rw [hS]
    show headM m.msg.h _ _ _ _ = _
    rw [eh, e1, length_qsts, length_exX, eh]
    have a0 : m.msg.an.length = p0.length := by rw [he]; exact length_recs _
    have a1 : m.msg.au.length = p1.length := by rw [he]; exact length_recs _
    have a2 : m.msg.ex.length = p2.length := by rw [he]; exact length_recs _
    rw [a0, a1, a2]
    rfl
  have hS2 : S.2 = [] := by rw [hS]
  have HHD := Lib.hid hhd
  have HS2E := Lib.hid hS2
  have hn := hs.n
  have a0 : m.msg.an.length = p0.length := by rw [he]; exact length_recs _
  have a1 : m.msg.au.length = p1.length := by rw [he]; exact length_recs _
  have a2 : m.msg.ex.length = p2.length := by rw [he]; exact length_recs _
  rw [e1, length_qsts, a0, a1, a2] at hn
  have l1 := length_putL2 h.id
  have hid2 : h.id ≤ 9223372036854775807 := by have := (fit2 hid).2.1; omega
  obtain ⟨b1, hb1, c1⟩ : ∃ b, bit h.resp 32768 = b ∧ b ≤ 32768 := ⟨_, rfl, by unfold bit; split <;> omega⟩
  obtain ⟨b2, hb2, c2⟩ : ∃ b, bit h.aa 1024 = b ∧ b ≤ 1024 := ⟨_, rfl, by unfold bit; split <;> omega⟩
  obtain ⟨b3, hb3, c3⟩ : ∃ b, bit h.tc 512 = b ∧ b ≤ 512 := ⟨_, rfl, by unfold bit; split <;> omega⟩
  obtain ⟨b4, hb4, c4⟩ : ∃ b, bit h.rd 256 = b ∧ b ≤ 256 := ⟨_, rfl, by unfold bit; split <;> omega⟩
  obtain ⟨b5, hb5, c5⟩ : ∃ b, bit h.ra 128 = b ∧ b ≤ 128 := ⟨_, rfl, by unfold bit; split <;> omega⟩
  obtain ⟨b6, hb6, c6⟩ : ∃ b, bit h.edns 1 = b ∧ b ≤ 1 := ⟨_, rfl, by unfold bit; split <;> omega⟩
  unfold codeB at hop hrc
  simp only [Bool.and_eq_true, decide_eq_true_eq] at hop hrc
  obtain ⟨op0, op1⟩ := hop
  obtain ⟨rc0, rc1⟩ := hrc
  have HBI := Lib.hid (show (b1 : Int) + h.op * 2048 + b2 + b3 + b4 + b5 + h.rc = ((bitsH h : Nat) : Int) by
    unfold bitsH
    rw [hb1, hb2, hb3, hb4, hb5]
    omega)
  have hbl : bitsH h < 65536 := by
    unfold bitsH
    rw [hb1, hb2, hb3, hb4, hb5]
    omega
  have HF1 := Lib.hid (fun W' => flag_any h.resp 32768 W' (by omega))
  have HF2 := Lib.hid (fun W' => flag_any h.aa 1024 W' (by omega))
  have HF3 := Lib.hid (fun W' => flag_any h.tc 512 W' (by omega))
  have HF4 := Lib.hid (fun W' => flag_any h.rd 256 W' (by omega))
  have HF5 := Lib.hid (fun W' => flag_any h.ra 128 W' (by omega))
  have HF6 := Lib.hid (fun W' => flag_any h.edns 1 W' (by omega))
  rw [hb1] at HF1
  rw [hb2] at HF2
  rw [hb3] at HF3
  rw [hb4] at HF4
  rw [hb5] at HF5
  rw [hb6] at HF6 HHD
  have HB := Lib.hid hB
  have HP := Lib.hid hr0
  have HZV := Lib.hid hzV
  clear hr0 hB hwm hm he hi hs hhd hS2 hS e1 e2 eh hid hb1 hb2 hb3 hb4 hb5 hb6 hsz a0 a1 a2 hzV hzW hqc
  subst hV
  subst hW
  go_enter Try.func34, Try.ntmps34
  go_wp2_with fail
  refine (rnumP HP.out h.id 2 (by simp) hid2).mono ?_
  rintro e w1 ⟨rfl, hpn⟩
  rw [List.nil_append] at hpn
  generalize (w.alloc (.cells #[.int .i64 h.id, .bool h.resp, .int .i64 h.op, .bool h.aa, .bool h.tc, .bool h.rd, .bool h.ra, .int .i64 h.rc, .slice qA qp.length qc, .slice A0 p0.length k0, .slice A1 p1.length k1, .slice A2 p2.length k2, .bool h.edns, .int .i64 h.size] 25)).alloc (.cells #[.slice none 0 0, .slice none 0 0] 94) = V at *
  have HP := Lib.hid hpn
  clear hpn
  obtain ⟨q0, q1, q2, q3, q4, q5, q6, q7, q8, q9, q10, q11, q12, q13⟩ := HC.out w1 (HLOW.out _ _ _ HP.out)
  clear q0 q8 q9 q10 q11 q12 q13
  have r1 : IntKind.i64.wrap (h.op * 2048) = h.op * 2048 := IntWalk.i64_in _ (by omega)
  have r2 : IntKind.i64.wrap ((b1 : Int) + h.op * 2048) = (b1 : Int) + h.op * 2048 := IntWalk.i64_in _ (by omega)
  have r3 : IntKind.i64.wrap ((b1 : Int) + h.op * 2048 + b2) = (b1 : Int) + h.op * 2048 + b2 := IntWalk.i64_in _ (by omega)
  have r4 : IntKind.i64.wrap ((b1 : Int) + h.op * 2048 + b2 + b3) = (b1 : Int) + h.op * 2048 + b2 + b3 := IntWalk.i64_in _ (by omega)
  have r5 : IntKind.i64.wrap ((b1 : Int) + h.op * 2048 + b2 + b3 + b4) = (b1 : Int) + h.op * 2048 + b2 + b3 + b4 := IntWalk.i64_in _ (by omega)
  have r6 : IntKind.i64.wrap ((b1 : Int) + h.op * 2048 + b2 + b3 + b4 + b5) = (b1 : Int) + h.op * 2048 + b2 + b3 + b4 + b5 := IntWalk.i64_in _ (by omega)
  have r7 : IntKind.i64.wrap ((b1 : Int) + h.op * 2048 + b2 + b3 + b4 + b5 + h.rc) = (b1 : Int) + h.op * 2048 + b2 + b3 + b4 + b5 + h.rc := IntWalk.i64_in _ (by omega)
  go_upto_region 3 with fail
  refine wp_region_still_tail 27 (by kernel_rfl) (by kernel_rfl) ?_
  simp only [List.take_succ_cons, List.take_zero, List.drop_succ_cons, List.drop_zero]
  repeat (first | still_step | still_call (HF1.out _) | still_call (HF2.out _) | still_call (HF3.out _) | still_call (HF4.out _) | still_call (HF5.out _))
  refine wpStill_nil ?_
  clear r1 r2 r3 r4 r5 r6 r7 q1 q2 q3 q4 q5 q6 q7
  change wpList _ _ _ _ _ w1.drew
  rw [HBI.out]
  have HP := Lib.hid (HP.out.more (Below.refl _ _).drew)
  go_wp2_with fail
  refine (rnumP HP.out (bitsH h) 2 (by omega) (by omega)).mono ?_
  rintro e w2 ⟨rfl, hpn⟩
  have HP := Lib.hid hpn
  clear hpn
  have l2 := length_putL2 (bitsH h)
  have l3 := length_putL2 qp.length
  have l4 := length_putL2 p0.length
  have l5 := length_putL2 p1.length
  have q8 := (HC.out w2 (HLOW.out _ _ _ HP.out)).2.2.2.2.2.2.2.2.1
  go_wp2_with fail
  refine (rnumP HP.out qp.length 2 (by simp only [List.length_append]; omega) (by omega)).mono ?_
  rintro e w3 ⟨rfl, hpn⟩
  have HP := Lib.hid hpn
  clear hpn q8
  have q9 := (HC.out w3 (HLOW.out _ _ _ HP.out)).2.2.2.2.2.2.2.2.2.1
  go_wp2_with fail
  refine (rnumP HP.out p0.length 2 (by simp only [List.length_append]; omega) (by omega)).mono ?_
  rintro e w4 ⟨rfl, hpn⟩
  have HP := Lib.hid hpn
  clear hpn q9
  have q10 := (HC.out w4 (HLOW.out _ _ _ HP.out)).2.2.2.2.2.2.2.2.2.2.1
  go_wp2_with fail
  refine (rnumP HP.out p1.length 2 (by simp only [List.length_append]; omega) (by omega)).mono ?_
  rintro e w5 ⟨rfl, hpn⟩
  have HP := Lib.hid hpn
  clear hpn q10
  have q11 := (HC.out w5 (HLOW.out _ _ _ HP.out)).2.2.2.2.2.2.2.2.2.2.2.1
  have q12 := (HC.out w5 (HLOW.out _ _ _ HP.out)).2.2.2.2.2.2.2.2.2.2.2.2.1
  have r1 : IntKind.i64.wrap ((p2.length : Int) + b6) = (p2.length : Int) + b6 := IntWalk.i64_in _ (by omega)
  go_upto_region 7 with fail
  refine wp_region_still_tail 8 (by kernel_rfl) (by kernel_rfl) ?_
  simp only [List.take_succ_cons, List.take_zero, List.drop_succ_cons, List.drop_zero]
  repeat (first | still_step | still_call (HF6.out _))
  refine wpStill_nil ?_
  clear r1 q11 q12
  change wpList _ _ _ _ _ w5.drew
  have HP := Lib.hid (HP.out.more (Below.refl _ _).drew)
  rw [show (p2.length : Int) + b6 = ((p2.length + b6 : Nat) : Int) by omega]
  go_wp2_with fail
  refine (rnumP HP.out ((p2.length + b6 : Nat) : Int) 2 (by simp only [List.length_append]; omega) (by omega)).mono ?_
  rintro e w6 ⟨rfl, hpn⟩
  have HP := Lib.hid (show RPenned (w.heap.size + 1) V (fun j => j = w.heap.size + 1) (w.heap.size + 1) S.1 S.2 w6 by
    rw [HHD.out, HS2E.out]
    exact hpn)
  clear hpn l1 l2 l3 l4 l5 HHD HS2E HF1 HF2 HF3 HF4 HF5 HF6 HBI
  clear hbl c1 c2 c3 c4 c5 c6 op0 op1 rc0 rc1 hid2
  go_wp2
  go_loopw [4] (QRawRel (w.heap.size + 1) V (fun j => j = w.heap.size + 1) (w.heap.size + 1) (qsts qp) S) (fun i _ => qp.length - (intOf i).toNat)
  case atStart => exact ⟨0, Nat.zero_le _, rfl, HP.out⟩
  case round =>
  obtain ⟨k, hk, rfl, hp⟩ := hrel
  rw [length_qsts] at hk
  have HP := Lib.hid hp
  clear hp
  have q8 := (HC.out wr (HLOW.out _ _ _ HP.out)).2.2.2.2.2.2.2.2.1
  by_cases hlt : k < qp.length
  · obtain ⟨b, off, rfl, hbH, hqa, x0, x1, x2⟩ := (HQ.out _ (HBV.out _ (HLOW.out _ _ _ HP.out))).at_ hlt
    obtain ⟨y1, y2, y3, y4⟩ := HQI.out _ (List.getElem_mem hlt)
    obtain ⟨hfn, hkp⟩ := HFQ.out k (by omega)
    have hfl := hfn.l
    have hfr := hfn.r
    have HQK := Lib.hid (show putQs ((qsts qp).take (k + 1)) S = putQ (qp[k]).2 (putQs ((qsts qp).take k) S).1 (putQs ((qsts qp).take k) S).2 by
      rw [List.take_succ_eq_append_getElem (by rw [length_qsts]; exact hlt), putQs_snoc]
      simp [qsts])
    have HKP := Lib.hid hkp
    have HXC := Lib.hid (fun W' (hb : Below (w.heap.size + 1) V W') => (show W'.cell? ⟨b, off + k * 3 + 1, none⟩ = some (.int .i64 (qp[k]).2.kind) ∧ W'.cell? ⟨b, off + k * 3 + 2, none⟩ = some (.int .i64 (qp[k]).2.cls) from by
      obtain ⟨b', off', e', _, _, _, x1', x2'⟩ := (HQ.out _ (HBV.out _ hb)).at_ hlt
      cases e'
      exact ⟨x1', x2'⟩))
    have HNM := Lib.hid (fun W' (hb : Below (w.heap.size + 1) V W') => (show Row W' (w.heap.size + 1) (qp[k]).1.1 ((qp[k]).2.name.map sv) from by
      have h1 := (HQ.out _ (HBV.out _ hb)).2 _ (List.getElem_mem hlt)
      exact Row.mono h1 (Nat.le_succ _)))
    clear hqa hfn hkp x1 x2
    revert x0 y1 y2 y3 y4 HQK HNM HXC
    generalize qp[k] = p
    obtain ⟨⟨yA, yc⟩, q⟩ := p
    intro x0 y1 y2 y3 y4 HQK HXC HNM
    dsimp only at *
    have hns := soundN_parts y1
    have hnl := length_nameW_le true q.name (putQs ((qsts qp).take k) S).1 (putQs ((qsts qp).take k) S).2 hns.1
    have hn255 := hns.2
    clear hns
    go_wp2_with fail
    refine (rnameP HP.out yA yc q.name true (HNM.out _ (HLOW.out _ _ _ HP.out)) y4 y1 (by omega) (by omega) HKP.out).mono ?_
    rintro e w7 ⟨rfl, hpn⟩
    have HP := Lib.hid hpn
    clear hpn x0 q8
    have q8 := (HC.out w7 (HLOW.out _ _ _ HP.out)).2.2.2.2.2.2.2.2.1
    have x1 := (HXC.out w7 (HLOW.out _ _ _ HP.out)).1
    go_wp2_with fail
    refine (rnumP HP.out q.kind 2 (by omega) y2).mono ?_
    rintro e w8 ⟨rfl, hpn⟩
    have HP := Lib.hid hpn
    clear hpn x1 q8
    have l1 := length_putL2 q.kind
    have q8 := (HC.out w8 (HLOW.out _ _ _ HP.out)).2.2.2.2.2.2.2.2.1
    have x2 := (HXC.out w8 (HLOW.out _ _ _ HP.out)).2
    go_wp2_with fail
    refine (rnumP HP.out q.cls 2 (by rw [List.length_append]; omega) y3).mono ?_
    rintro e w9 ⟨rfl, hpn⟩
    have HP := Lib.hid hpn
    clear hpn x2 q8 l1
    go_wp2
    refine ⟨⟨k + 1, by rw [length_qsts]; omega, by go_num, ?_⟩, by simp [intOf]; omega⟩
    rw [HQK.out]
    exact HP.out
  · obtain rfl : k = qp.length := by omega
    have HP := Lib.hid (show RPenned (w.heap.size + 1) V (fun j => j = w.heap.size + 1) (w.heap.size + 1) (putQs (qsts qp) S).1 (putQs (qsts qp) S).2 wr from by
      have h1 := HP.out
      rwa [List.take_of_length_le (by rw [length_qsts]; exact Nat.le_refl _)] at h1)
    have HBW := Lib.hid (HBV.out _ (HLOW.out _ _ _ HP.out))
    obtain ⟨Gp, vB, vR, hw1, hg1, hf1⟩ := HP.out
    have HLO := Lib.hid hw1.low
    have HRW := Lib.hid hw1
    have HGR := Lib.hid hg1
    have HFR1 := Lib.hid hf1
    have hgs : w.heap.size + 1 < wr.heap.size := by have := (hw1.low _ hw1.fg).2; exact this
    clear hw1 hg1 hf1 hlt hk
    obtain ⟨_, _, _, _, _, _, _, _, _, q9, q10, q11, q12, q13⟩ := HC.out wr (HLOW.out _ _ _ HP.out)
    have HBD := Lib.hid (Below.refl wr.heap.size wr).drew
    have HBL := Lib.hid (show Below wr.heap.size wr (wr.drew.alloc (.cells #[] 48)) from (Below.refl wr.heap.size wr).drew.alloc (Nat.le_refl _) _)
    have HL := Lib.hid (show (wr.drew.alloc (.cells #[] 48)).ownsRow wr.heap.size 48 9 (.slice (some ⟨wr.heap.size, 0, none⟩) 0 0) 0 [] from own_lit wr.drew 48 9)
    have HCW := Lib.hid (fun (W' : World) (hb : Below wr.heap.size wr W') => (show W'.cell? ⟨w.heap.size, 9, none⟩ = some (.slice A0 p0.length k0) ∧ W'.cell? ⟨w.heap.size, 10, none⟩ = some (.slice A1 p1.length k1) ∧ W'.cell? ⟨w.heap.size, 11, none⟩ = some (.slice A2 p2.length k2) from
      ⟨(hb.cell (by dsimp only; omega)).trans q9, (hb.cell (by dsimp only; omega)).trans q10, (hb.cell (by dsimp only; omega)).trans q11⟩))
    have HT0 := Lib.hid (fun W' (hb : Below wr.heap.size wr W') => HS0.out _ (HBW.out.trans (hb.mono HBW.out.size)))
    have HT1 := Lib.hid (fun W' (hb : Below wr.heap.size wr W') => HS1.out _ (HBW.out.trans (hb.mono HBW.out.size)))
    have HT2 := Lib.hid (fun W' (hb : Below wr.heap.size wr W') => HS2.out _ (HBW.out.trans (hb.mono HBW.out.size)))
    have HQ12 := Lib.hid q12
    have HQ13 := Lib.hid q13
    clear q9 q10 q11 q12 q13
    have hgs2 : w.heap.size < wr.heap.size := by omega
    go_upto_region 14 with fail
    go_cut [5] from 96 to 106 (fun s5 wx => AllRawRel wr (p0 ++ p1 ++ p2) s5 wx)
    case first =>
      go_region_held3 (fun W => W.cell? ⟨w.heap.size, 9, none⟩ = some (.slice A0 p0.length k0) ∧ W.cell? ⟨w.heap.size, 10, none⟩ = some (.slice A1 p1.length k1) ∧ W.cell? ⟨w.heap.size, 11, none⟩ = some (.slice A2 p2.length k2))
        (first | exact HCW.out _ HBD.out | exact HCW.out _ HBL.out | exact HCW.out _ HB1.out | exact HCW.out _ HB2.out | exact HCW.out _ HB3.out)
        ((first
        | (refine step_append_any rfl (.tmp 96) (.tmp 98) _ rfl wr.heap.size 48 i0 _ 9 168 Try.underlying23 hi0 hz0 hz1 hz2 rfl (by omega) (.slice (some ⟨wr.heap.size, 0, none⟩) 0 0) 0 _ rfl HL.out
             A0 p0.length k0 w.heap.size (p0.flatMap cellsR) rfl (length_flat cellsR_len p0) (HT0.out _ HBL.out).1 (cellsR_one p0) (by unfold maxLen; omega) (by omega) HBL.out.size ?_
           intro v1 w1 hown1 hg1
           rw [Nat.zero_add, List.nil_append] at hown1
           have HB1 := Lib.hid (own_below HBL.out (Nat.le_refl _) HBL.out.size HL.out hg1)
           obtain ⟨B1, d1, rfl, _, _⟩ := own_form hown1
           have HO1 := Lib.hid hown1
           clear hown1 hg1)
        | (refine step_append_any rfl (.tmp 99) (.tmp 101) _ rfl wr.heap.size 48 i0 _ 9 168 Try.underlying23 hi0 hz0 hz1 hz2 rfl (by omega) (.slice B1 p0.length d1) p0.length _ rfl HO1.out
             A1 p1.length k1 w.heap.size (p1.flatMap cellsR) rfl (length_flat cellsR_len p1) (HT1.out _ HB1.out).1 (cellsR_one p1) (by unfold maxLen; omega) (by omega) HB1.out.size ?_
           intro v2 w2 hown2 hg2
           have HB2 := Lib.hid (own_below HB1.out (Nat.le_refl _) HB1.out.size HO1.out hg2)
           obtain ⟨B2, d2, rfl, _, _⟩ := own_form hown2
           have HO2 := Lib.hid hown2
           clear hown2 hg2)
        | (refine step_append_any rfl (.tmp 102) (.tmp 104) _ rfl wr.heap.size 48 i0 _ 9 168 Try.underlying23 hi0 hz0 hz1 hz2 rfl (by omega) (.slice B2 (p0.length + p1.length) d2) (p0.length + p1.length) _ rfl HO2.out
             A2 p2.length k2 w.heap.size (p2.flatMap cellsR) rfl (length_flat cellsR_len p2) (HT2.out _ HB2.out).1 (cellsR_one p2) (by unfold maxLen; omega) (by omega) HB2.out.size ?_
           intro v3 w3 hown3 hg3
           have HB3 := Lib.hid (own_below HB2.out (Nat.le_refl _) HB2.out.size HO2.out hg3)
           obtain ⟨B3, d3, rfl, _, _⟩ := own_form hown3
           have HO3 := Lib.hid hown3
           clear hown3 hg3)))
      all_goals
        have HRR := Lib.hid (show AllRawRel wr (p0 ++ p1 ++ p2) (.slice B3 (p0.length + p1.length + p2.length) d3) w3 from
          ⟨B3, d3, by rw [List.length_append, List.length_append], by rw [List.flatMap_append, List.flatMap_append, List.length_append, List.length_append]; exact HO3.out, HB3.out⟩)
        go_wp2
        go_meet
        exact HRR.out
    case rest =>
      obtain ⟨A, c, rfl, hrow, hb⟩ := hcut
      have HPS := Lib.hid (fun (W' : World) (hb2 : Below (w.heap.size + 1) V W') => (show ∀ p ∈ p0 ++ p1 ++ p2, RAt W' (w.heap.size + 1) p.1 p.2 from fun p hp => by
        rcases List.mem_append.1 hp with h1 | h1
        · rcases List.mem_append.1 h1 with h1 | h1
          · exact ((HS0.out _ (HBV.out _ hb2)).2 p h1).mono (Nat.le_succ _)
          · exact ((HS1.out _ (HBV.out _ hb2)).2 p h1).mono (Nat.le_succ _)
        · exact ((HS2.out _ (HBV.out _ hb2)).2 p h1).mono (Nat.le_succ _)))
      have HROW := Lib.hid (fun (W' : World) (hg : Grew Gp wc W') => (show Row W' W'.heap.size A ((p0 ++ p1 ++ p2).flatMap cellsR) from Row.of_own (own_grew hrow hg fun j hj hgp => by
        have h1 := (hrow.lt j hj).1
        have h2 := (HLO.out j hgp).2
        omega)))
      have HG2 := Lib.hid (show Grew (fun j => j = w.heap.size + 1) V wc from HGR.out.then_below hb)
      have HRL := Lib.hid (show ∀ p ∈ p0 ++ p1 ++ p2, SoundR p.2 ∧ RIn p.2 from fun p hp => by
        have h1 := HRL.out p.2 (by rw [HE2.out]; exact List.mem_map.2 ⟨p, hp, rfl⟩)
        exact ⟨h1.1, h1.2.2⟩)
      have HWC := Lib.hid (show RPenned (w.heap.size + 1) wc Gp (w.heap.size + 1) (putQs (qsts qp) S).1 (putQs (qsts qp) S).2 wc from ⟨Gp, vB, vR, HRW.out.below hb, Grew.refl _ _, fun _ hj => .inl hj⟩)
      have HLC := Lib.hid (fun B R W' (hp : RPenned (w.heap.size + 1) wc Gp (w.heap.size + 1) B R W') => (show Below (w.heap.size + 1) wc W' from hp.low (fun j hj => (HLO.out j hj).1) (by have := hb.size; omega)))
      have HBC := Lib.hid hb
      have HRO := Lib.hid hrow
      have HZC := Lib.hid hb.size
      have HXC := Lib.hid (show wc.cell? ⟨w.heap.size, 12, none⟩ = some (.bool h.edns) ∧ wc.cell? ⟨w.heap.size, 13, none⟩ = some (.int .i64 h.size) from
        ⟨(hb.cell (by dsimp only; omega)).trans HQ12.out, (hb.cell (by dsimp only; omega)).trans HQ13.out⟩)
      have HBL2 := Lib.hid (show Below (w.heap.size + 1) V wc from (HLOW.out _ _ _ HP.out).trans (hb.mono (by omega)))
      have hzc := hb.size
      have hpl : (p0 ++ p1 ++ p2).length ≤ 512 := by rw [List.length_append, List.length_append]; omega
      clear hrow hb HS0 HS1 HS2 HT0 HT1 HT2 HL HBL HBD HCW HQ HQI HFQ HC HRO HBC HGR HRW HP HE2 HB HBW hzc hgs hgs2
      obtain ⟨ps, hps⟩ : ∃ ps, ps = p0 ++ p1 ++ p2 := ⟨_, rfl⟩
      rw [← hps] at HPS HROW HRL HFR HEN hpl ⊢
      clear hps hn
      obtain ⟨T, hT⟩ : ∃ T, T = putQs (qsts qp) S := ⟨_, rfl⟩
      rw [← hT] at HWC HFR HEN
      clear hT
      go_wp2
      go_loopw [6] (RRawRel (w.heap.size + 1) wc Gp (w.heap.size + 1) (recs ps) T) (fun i _ => ps.length - (intOf i).toNat)
      case atStart => exact ⟨0, Nat.zero_le _, rfl, HWC.out⟩
      case round =>
      obtain ⟨k, hk, rfl, hp⟩ := hrel
      rw [length_recs] at hk
      have HP := Lib.hid hp
      have HB2 := Lib.hid (HBL2.out.trans (HLC.out _ _ _ hp))
      clear hp
      by_cases hlt : k < ps.length
      · obtain ⟨Gq, vB2, vR2, h1, hg, hf⟩ := HP.out
        obtain ⟨hfn, hkp⟩ := HFR.out k (by omega)
        have hfl := hfn.l
        have hfr := hfn.r
        have HQK := Lib.hid (show putRs ((recs ps).take (k + 1)) T = putRR (ps[k]).2 (putRs ((recs ps).take k) T).1 (putRs ((recs ps).take k) T).2 by
          rw [List.take_succ_eq_append_getElem (by rw [length_recs]; exact hlt), putRs_snoc]
          simp [recs])
        have hra := HPS.out _ HB2.out _ (List.getElem_mem hlt)
        obtain ⟨hsr, hir⟩ := HRL.out _ (List.getElem_mem hlt)
        obtain ⟨b, off, rfl, hbH, _, q0, q1, q2, q3, q4, q5, q6, q7, q8⟩ := (show RsAt wr wr.heap.size A ps from ⟨HROW.out wr hg, fun p hp => (HPS.out _ HB2.out p hp).mono h1.size⟩).at_ hlt
        revert hra hsr hir q0 q1 q2 q3 q4 q5 q6 q7 q8 HQK
        generalize ps[k] = p
        obtain ⟨x, r⟩ := p
        intro HQK hra hsr hir q0 q1 q2 q3 q4 q5 q6 q7 q8
        dsimp only at *
        have HCL := Lib.hid (rputRR_any (w.heap.size + 1) wr Gq (w.heap.size + 1) vB2 vR2 _ _ x r h1 hra hsr hir hfl hfr hkp)
        have HG := Lib.hid hg
        have HF := Lib.hid hf
        clear h1 hg hf hra hsr hir hfn hkp
        go_wp2_with fail
        refine HCL.out.mono ?_
        rintro e w7 ⟨rfl, hpn⟩
        have HP := Lib.hid (RPenned.then HG.out HF.out hpn)
        clear hpn HCL q0 q1 q2 q3 q4 q5 q6 q7 q8
        go_wp2
        refine ⟨⟨k + 1, by rw [length_recs]; omega, by go_num, ?_⟩, by simp [intOf]; omega⟩
        rw [HQK.out]
        exact HP.out
      · obtain rfl : k = ps.length := by omega
        have hfl := (HFR.out ps.length (Nat.le_refl _)).1.l
        have et : (recs ps).take ps.length = recs ps := List.take_of_length_le (by rw [length_recs]; exact Nat.le_refl _)
        rw [et] at HP hfl
        have m12 : wr.cell? ⟨w.heap.size, 12, none⟩ = some (.bool h.edns) := ((HLC.out _ _ _ HP.out).cell (by dsimp only; omega)).trans HXC.out.1
        obtain ⟨U, hU⟩ : ∃ U, U = putRs (recs ps) T := ⟨_, rfl⟩
        rw [← hU] at HP hfl HEN
        clear hU et hlt hk HFR HRL HROW HPS
        cases hed : h.edns with
        | false =>
          rw [hed] at m12 HEN
          have HEB := Lib.hid (show encM m.msg = U.1 from HEN.out)
          obtain ⟨Gq, vB2, vR2, h1, hg, hf⟩ := HP.out
          obtain ⟨A2', c2', rfl, _, _⟩ := own_form h1.row
          have s0 := h1.c0
          have HRO := Lib.hid (own_mono h1.row (Nat.le_succ _))
          have HBF := Lib.hid (HBV.out _ HB2.out)
          clear h1 hg hf HEN
          go_wp2
          go_ret
          rw [HEB.out]
          exact ⟨A2', c2', rfl, HRO.out, HBF.out⟩
        | true =>
          rw [hed] at m12 HEN
          have HEB := Lib.hid (show encM m.msg = ((U.1 ++ [0, 0, 41]) ++ putL [] h.size 2) ++ [0, 0, 0, 0, 0, 0] from by
            rw [HEN.out]
            show (putRR (optR h.size) U.1 U.2).1 = _
            rw [opt_bytes HSZ.out])
          obtain ⟨_, hz2, _, _⟩ := fit2 HSZ.out
          have lz := length_putL2 h.size
          clear HEN
          go_wp2_with fail
          refine (rrawP (HP.out.more ((Below.refl _ _).alloc (Nat.le_refl _) _)) _ 3 3 [0, 0, 41] rfl ((Row.made wr #[.int .u8 0, .int .u8 0, .int .u8 41] 5).mono (by simp)) (by omega)).mono ?_
          rintro e w7 ⟨rfl, hpn⟩
          have HP := Lib.hid hpn
          clear hpn m12
          have m13 : w7.cell? ⟨w.heap.size, 13, none⟩ = some (.int .i64 h.size) := ((HLC.out _ _ _ HP.out).cell (by dsimp only; omega)).trans HXC.out.2
          go_wp2_with fail
          refine (rnumP HP.out h.size 2 (by simp only [List.length_append, List.length_cons, List.length_nil]; omega) (by omega)).mono ?_
          rintro e w8 ⟨rfl, hpn⟩
          have HP := Lib.hid hpn
          clear hpn m13
          go_wp2_with fail
          refine (rrawP (HP.out.more ((Below.refl _ _).alloc (Nat.le_refl _) _)) _ 6 6 [0, 0, 0, 0, 0, 0] rfl ((Row.made w8 #[.int .u8 0, .int .u8 0, .int .u8 0, .int .u8 0, .int .u8 0, .int .u8 0] 5).mono (by simp)) (by simp only [List.length_append, List.length_cons, List.length_nil]; omega)).mono ?_
          rintro e w9 ⟨rfl, hpn⟩
          rw [← HEB.out] at hpn
          have HB9 := Lib.hid (HBV.out _ (HBL2.out.trans (HLC.out _ _ _ hpn)))
          obtain ⟨Gq, vB2, vR2, h1, hg, hf⟩ := hpn
          obtain ⟨A2', c2', rfl, _, _⟩ := own_form h1.row
          have s0 := h1.c0
          have HRO := Lib.hid (own_mono h1.row (Nat.le_succ _))
          clear h1 hg hf lz hz2 hfl
          go_wp2
          go_ret
          exact ⟨A2', c2', rfl, HRO.out, HB9.out⟩
theorem refraw_any (w : World) (m : MV) (hm : MAt w w.heap.size m) (hi : MIn m) (hs : SoundM m.msg) (hqc : ∀ p ∈ m.qp, p.2.name.length ≤ p.1.2) : Calls Try.prog 34 #[m.val] w (RawOut w (encM m.msg)) := by
  obtain ⟨h, qA, qc, qp, ⟨A0, k0, p0⟩, ⟨A1, k1, p1⟩, ⟨A2, k2, p2⟩⟩ := m
  exact refraw_core w _ h qA qc qp A0 A1 A2 k0 k1 k2 p0 p1 p2 rfl hm hi hs hqc

end Go.Proofs.Ytjkjhpaeckkpjaa

namespace Go.Proofs.Ytjkjhpaeckkpjaa
open Go.RowKit

def encL : Except Nat (List UInt8) → List UInt8
  | .ok l => l
  | .error _ => []
def encK : Except Nat (List UInt8) → Nat
  | .ok _ => 0
  | .error k => k
theorem EncOut.form {w w' : World} {r : Except Nat (List UInt8)} {e : Ending} (h : EncOut w r e w') :
    ∃ A c, e = .returned (.tuple #[.slice A (encL r).length c, .int .i64 (encK r : Nat)]) ∧ Row w' w'.heap.size A ((encL r).map bc) ∧ Below w.heap.size w w' := by
  obtain ⟨hb, h⟩ := h
  cases r with
  | ok l =>
    obtain ⟨A, c, rfl, ho⟩ := h
    exact ⟨A, c, rfl, Row.of_own ho, hb⟩
  | error k =>
    exact ⟨none, 0, h, Row.empty _ _ _, hb⟩

set_option maxRecDepth 20000 in
set_option maxHeartbeats 4000000 in
theorem refencode_core (w : World) (m : MV) (h : Hd) (qA : Option Addr) (qc : Nat) (qp : List (QV × Qt)) (A0 A1 A2 : Option Addr) (k0 k1 k2 : Nat) (p0 p1 p2 : List (RV × Rt)) (he : m = ⟨h, qA, qc, qp, ⟨A0, k0, p0⟩, ⟨A1, k1, p1⟩, ⟨A2, k2, p2⟩⟩) (hm : MAt w w.heap.size m) (hi : MIn m) (hqc : ∀ p ∈ m.qp, p.2.name.length ≤ p.1.2) :
    Calls Try.prog 14 #[valM h (.slice qA qp.length qc) (.slice A0 p0.length k0) (.slice A1 p1.length k1) (.slice A2 p2.length k2)] w (EncOut w (encE m.msg)) := by
  obtain ⟨W, hW⟩ : ∃ W, W = w.alloc (.cells #[.int .i64 h.id, .bool h.resp, .int .i64 h.op, .bool h.aa, .bool h.tc, .bool h.rd, .bool h.ra, .int .i64 h.rc, .slice qA qp.length qc, .slice A0 p0.length k0, .slice A1 p1.length k1, .slice A2 p2.length k2, .bool h.edns, .int .i64 h.size] 25) := ⟨_, rfl⟩
  have hB : Below w.heap.size w W := by rw [hW]; exact (Below.refl _ _).alloc (Nat.le_refl _) _
  have hwm : Whole W w.heap.size 25 (cellsM h (.slice qA qp.length qc) (.slice A0 p0.length k0) (.slice A1 p1.length k1) (.slice A2 p2.length k2)) := by rw [hW]; exact Whole.made w [.int .i64 h.id, .bool h.resp, .int .i64 h.op, .bool h.aa, .bool h.tc, .bool h.rd, .bool h.ra, .int .i64 h.rc, .slice qA qp.length qc, .slice A0 p0.length k0, .slice A1 p1.length k1, .slice A2 p2.length k2, .bool h.edns, .int .i64 h.size] _
  have ev : m.val = valM h (.slice qA qp.length qc) (.slice A0 p0.length k0) (.slice A1 p1.length k1) (.slice A2 p2.length k2) := by rw [he]
  have HM := Lib.hid (show Calls Try.prog 16 #[valM h (.slice qA qp.length qc) (.slice A0 p0.length k0) (.slice A1 p1.length k1) (.slice A2 p2.length k2)] W (Gave W (.bool (soundM m.msg))) from by
    have h1 := refmsg_any W m ((hm.below hB).mono hB.size) hi
    rwa [ev] at h1)
  have HR := Lib.hid (fun (W' : World) (hb : Below W.heap.size W W') (hs : SoundM m.msg) => (show Calls Try.prog 34 #[valM h (.slice qA qp.length qc) (.slice A0 p0.length k0) (.slice A1 p1.length k1) (.slice A2 p2.length k2)] W' (RawOut W' (encM m.msg)) from by
    have hb2 := hB.trans (hb.mono hB.size)
    have h1 := refraw_any W' m ((hm.below hb2).mono hb2.size) hi hs hqc
    rwa [ev] at h1))
  have HW := Lib.hid hwm
  have HB := Lib.hid hB
  have HE := Lib.hid (show encE m.msg = (if soundM m.msg = true then (if 65535 < (encM m.msg).length then .error 4 else .ok (encM m.msg)) else .error 2) from rfl)
  clear hB hwm hm hi he ev hqc
  generalize encE m.msg = E at *
  subst hW
  go_enter Try.func14, Try.ntmps14
  go_wp2_with fail
  refine HM.out.mono ?_
  rintro e w1 ⟨rfl, hb1⟩
  generalize w.alloc (.cells #[.int .i64 h.id, .bool h.resp, .int .i64 h.op, .bool h.aa, .bool h.tc, .bool h.rd, .bool h.ra, .int .i64 h.rc, .slice qA qp.length qc, .slice A0 p0.length k0, .slice A1 p1.length k1, .slice A2 p2.length k2, .bool h.edns, .int .i64 h.size] 25) = V at *
  have HB1 := Lib.hid hb1
  have hw1 := HW.out.below hb1 HW.out.lt
  clear hb1
  have m0 : w1.cell? ⟨w.heap.size, 0, none⟩ = some (.int .i64 h.id) := Whole.cell hw1 0
  have m1 : w1.cell? ⟨w.heap.size, 1, none⟩ = some (.bool h.resp) := Whole.cell hw1 1
  have m2 : w1.cell? ⟨w.heap.size, 2, none⟩ = some (.int .i64 h.op) := Whole.cell hw1 2
  have m3 : w1.cell? ⟨w.heap.size, 3, none⟩ = some (.bool h.aa) := Whole.cell hw1 3
  have m4 : w1.cell? ⟨w.heap.size, 4, none⟩ = some (.bool h.tc) := Whole.cell hw1 4
  have m5 : w1.cell? ⟨w.heap.size, 5, none⟩ = some (.bool h.rd) := Whole.cell hw1 5
  have m6 : w1.cell? ⟨w.heap.size, 6, none⟩ = some (.bool h.ra) := Whole.cell hw1 6
  have m7 : w1.cell? ⟨w.heap.size, 7, none⟩ = some (.int .i64 h.rc) := Whole.cell hw1 7
  have m8 : w1.cell? ⟨w.heap.size, 8, none⟩ = some (.slice qA qp.length qc) := Whole.cell hw1 8
  have m9 : w1.cell? ⟨w.heap.size, 9, none⟩ = some (.slice A0 p0.length k0) := Whole.cell hw1 9
  have m10 : w1.cell? ⟨w.heap.size, 10, none⟩ = some (.slice A1 p1.length k1) := Whole.cell hw1 10
  have m11 : w1.cell? ⟨w.heap.size, 11, none⟩ = some (.slice A2 p2.length k2) := Whole.cell hw1 11
  have m12 : w1.cell? ⟨w.heap.size, 12, none⟩ = some (.bool h.edns) := Whole.cell hw1 12
  have m13 : w1.cell? ⟨w.heap.size, 13, none⟩ = some (.int .i64 h.size) := Whole.cell hw1 13
  clear hw1
  cases hs : soundM m.msg with
  | false =>
    rw [hs] at HE
    go_wp2
    refine ⟨rfl, .tuple #[.slice none 0 0, .int .i64 2], by simp [results, Try.results14, go_sem], ?_⟩
    rw [HE.out]
    exact ⟨HB.out.trans (HB1.out.mono HB.out.size), rfl⟩
  | true =>
  rw [hs] at HE
  have HSM := Lib.hid (soundM_iff.1 hs)
  have HL := Lib.hid (show (encM m.msg).length ≤ 90000000 from by
    obtain ⟨h1, h2, h3, h4, h5⟩ := enc_parts (soundM_iff.1 hs)
    have a1 := h1.l
    have a2 := h2.l
    have a3 := h3.l
    have a4 := h4.l
    have a5 := h5.l
    have a6 := length_head (soundM_iff.1 hs)
    have a7 := (soundM_iff.1 hs).n
    have a8 := length_exX m.msg
    have a9 : (if m.msg.h.edns = true then 1 else 0) ≤ 1 := by split <;> omega
    rw [enc_eq]
    dsimp only at a1
    omega)
  clear hs
  go_wp2_with fail
  refine (HR.out _ HB1.out HSM.out).mono ?_
  rintro e w2 ⟨A2', c2', rfl, ho, hb2⟩
  have HO := Lib.hid (own_mono ho (Nat.le_trans HB.out.size HB1.out.size))
  have HB2 := Lib.hid (HB.out.trans ((HB1.out.trans (hb2.mono HB1.out.size)).mono HB.out.size))
  have hl := HL.out
  clear ho hb2 HB1 HR HM HL
  generalize encM m.msg = b at *
  by_cases hg : 65535 < b.length
  · have d1 : decide ((65535 : Int) < (b.length : Int)) = true := by simp; omega
    rw [if_pos hg] at HE
    clear hg
    go_wp2
    refine ⟨rfl, .tuple #[.slice none 0 0, .int .i64 4], by simp [results, Try.results14, go_sem], ?_⟩
    rw [HE.out]
    exact ⟨HB2.out, rfl⟩
  · have d1 : decide ((65535 : Int) < (b.length : Int)) = false := by simp; omega
    rw [if_neg hg] at HE
    clear hg
    go_wp2
    refine ⟨rfl, .tuple #[.slice A2' b.length c2', .int .i64 0], by simp [results, Try.results14, go_sem], ?_⟩
    rw [HE.out]
    exact ⟨HB2.out, A2', c2', rfl, HO.out⟩
theorem refencode_any (w : World) (m : MV) (hm : MAt w w.heap.size m) (hi : MIn m) (hqc : ∀ p ∈ m.qp, p.2.name.length ≤ p.1.2) : Calls Try.prog 14 #[m.val] w (EncOut w (encE m.msg)) := by
  obtain ⟨h, qA, qc, qp, ⟨A0, k0, p0⟩, ⟨A1, k1, p1⟩, ⟨A2, k2, p2⟩⟩ := m
  exact refencode_core w _ h qA qc qp A0 A1 A2 k0 k1 k2 p0 p1 p2 rfl hm hi hqc

end Go.Proofs.Ytjkjhpaeckkpjaa

namespace Go.Proofs.Ytjkjhpaeckkpjaa
open Go.RowKit

set_option maxRecDepth 20000 in
set_option maxHeartbeats 8000000 in
theorem mencodes_core (w : World) (m : MV) (h : Hd) (qA : Option Addr) (qc : Nat) (qp : List (QV × Qt)) (A0 A1 A2 : Option Addr) (k0 k1 k2 : Nat) (p0 p1 p2 : List (RV × Rt)) (he : m = ⟨h, qA, qc, qp, ⟨A0, k0, p0⟩, ⟨A1, k1, p1⟩, ⟨A2, k2, p2⟩⟩) (hm : MAt w w.heap.size m) (hs : MSafe m) :
    Calls Try.prog 3 #[valM h (.slice qA qp.length qc) (.slice A0 p0.length k0) (.slice A1 p1.length k1) (.slice A2 p2.length k2)] w (TrueB w) := by
  have HA := Lib.hid (fun W' => manswers_any W')
  obtain ⟨W, hW⟩ : ∃ W, W = w.alloc (.cells #[.int .i64 h.id, .bool h.resp, .int .i64 h.op, .bool h.aa, .bool h.tc, .bool h.rd, .bool h.ra, .int .i64 h.rc, .slice qA qp.length qc, .slice A0 p0.length k0, .slice A1 p1.length k1, .slice A2 p2.length k2, .bool h.edns, .int .i64 h.size] 25) := ⟨_, rfl⟩
  have hB : Below w.heap.size w W := by rw [hW]; exact (Below.refl _ _).alloc (Nat.le_refl _) _
  have hzW : W.heap.size = w.heap.size + 1 := by rw [hW]; simp
  have hwm : Whole W w.heap.size 25 (cellsM h (.slice qA qp.length qc) (.slice A0 p0.length k0) (.slice A1 p1.length k1) (.slice A2 p2.length k2)) := by rw [hW]; exact Whole.made w [.int .i64 h.id, .bool h.resp, .int .i64 h.op, .bool h.aa, .bool h.tc, .bool h.rd, .bool h.ra, .int .i64 h.rc, .slice qA qp.length qc, .slice A0 p0.length k0, .slice A1 p1.length k1, .slice A2 p2.length k2, .bool h.edns, .int .i64 h.size] _
  have ev : m.val = valM h (.slice qA qp.length qc) (.slice A0 p0.length k0) (.slice A1 p1.length k1) (.slice A2 p2.length k2) := by rw [he]
  have HC := Lib.hid (fun (W' : World) (hb : Below W.heap.size W W') => cells14 (hwm.below hb (by omega)))
  have HMA := Lib.hid (fun (W' : World) (hb : Below W.heap.size W W') => (show MAt W' W'.heap.size m from by
    have hb2 := hB.trans (hb.mono hB.size)
    exact (hm.below hb2).mono hb2.size))
  have HLT := Lib.hid (fun (W' : World) (hb : Below W.heap.size W W') => (show Calls Try.prog 11 #[valM h (.slice qA qp.length qc) (.slice A0 p0.length k0) (.slice A1 p1.length k1) (.slice A2 p2.length k2)] W' (Gave W' (.bool (lightM m.msg))) from by
    have h1 := hs.light W' (HMA.out W' hb)
    rwa [ev] at h1))
  have HIN := Lib.hid (fun (m' : MV) (e : m'.msg = m.msg) (hl : LightM m.msg) => ((hs.small hl).1.same e))
  have HRM := Lib.hid (fun (W' : World) (hb : Below W.heap.size W W') (hl : LightM m.msg) => (show Calls Try.prog 16 #[valM h (.slice qA qp.length qc) (.slice A0 p0.length k0) (.slice A1 p1.length k1) (.slice A2 p2.length k2)] W' (Gave W' (.bool (soundM m.msg))) from by
    have h1 := refmsg_any W' m (HMA.out W' hb) (hs.small hl).1
    rwa [ev] at h1))
  have HOM := Lib.hid (fun (W' : World) (hb : Below W.heap.size W W') (hl : LightM m.msg) => (show Calls Try.prog 13 #[valM h (.slice qA qp.length qc) (.slice A0 p0.length k0) (.slice A1 p1.length k1) (.slice A2 p2.length k2)] W' (OwnMOut W' m.msg) from by
    have h1 := ownMsg_any W' m (HMA.out W' hb) (hs.small hl).1 (hs.small hl).2
    rwa [ev] at h1))
  have HRE := Lib.hid (fun (W' : World) (hb : Below W.heap.size W W') (hl : LightM m.msg) => (show Calls Try.prog 14 #[valM h (.slice qA qp.length qc) (.slice A0 p0.length k0) (.slice A1 p1.length k1) (.slice A2 p2.length k2)] W' (EncOut W' (encE m.msg)) from by
    have h1 := refencode_any W' m (HMA.out W' hb) (hs.small hl).1 (fun p hp => (hs.q p hp).2.2.2)
    rwa [ev] at h1))
  have HB := Lib.hid hB
  have HWB := Lib.hid (Below.refl W.heap.size W)
  have HSD := Lib.hid (fun (W' : World) (m' : MV) (e : m'.msg = m.msg) (ha : MAt W' W'.heap.size m') (hl : LightM m.msg) => (show Calls Try.prog 15 #[m'.val] W' (Gave W' (.bool (soundM m.msg))) from by
    have h1 := msound_any W' m' ha ((hs.small hl).1.same e)
    rwa [e] at h1))
  clear hB hzW hwm hm hs he ev HMA
  generalize m.msg = M at *
  clear m
  have hc := HC.out _ HWB.out
  obtain ⟨m0, m1, m2, m3, m4, m5, m6, m7, m8, m9, m10, m11, m12, m13⟩ := hc
  clear m0 m1 m2 m3 m4 m5 m6 m7 m8 m9 m10 m11 m12 m13
  subst hW
  go_enter Try.func3, Try.ntmps3
  go_wp2_with fail
  refine (HA.out _).mono ?_
  rintro e w1 ⟨rfl, hb1⟩
  generalize w.alloc (.cells #[.int .i64 h.id, .bool h.resp, .int .i64 h.op, .bool h.aa, .bool h.tc, .bool h.rd, .bool h.ra, .int .i64 h.rc, .slice qA qp.length qc, .slice A0 p0.length k0, .slice A1 p1.length k1, .slice A2 p2.length k2, .bool h.edns, .int .i64 h.size] 25) = V at *
  have HB1 := Lib.hid hb1
  obtain ⟨m0, m1, m2, m3, m4, m5, m6, m7, m8, m9, m10, m11, m12, m13⟩ := HC.out w1 HB1.out
  clear hb1
  go_wp2_with fail
  refine (HLT.out _ HB1.out).mono ?_
  rintro e w2 ⟨rfl, hb2⟩
  have HB2 := Lib.hid (HB1.out.trans (hb2.mono HB1.out.size))
  clear hb2 m0 m1 m2 m3 m4 m5 m6 m7 m8 m9 m10 m11 m12 m13
  cases hl : lightM M with
  | false =>
    go_wp2_with fail
    refine (HA.out _).mono ?_
    rintro e w3 ⟨rfl, hb3⟩
    have HB3 := Lib.hid (HB2.out.trans (hb3.mono HB2.out.size))
    clear hb3
    go_wp2
    go_ret
    exact ⟨rfl, HB.out.trans (HB3.out.mono HB.out.size)⟩
  | true =>
  have HLM := Lib.hid (lightM_iff hl)
  clear hl
  obtain ⟨m0, m1, m2, m3, m4, m5, m6, m7, m8, m9, m10, m11, m12, m13⟩ := HC.out w2 HB2.out
  go_wp2_with fail
  refine (HOM.out _ HB2.out HLM.out).mono ?_
  rintro e w4 ⟨m', rfl, hmsg, hown, hb4⟩
  have HB4 := Lib.hid (HB2.out.trans (hb4.mono HB2.out.size))
  have HEC := Lib.hid (encode_any w4 m' hown.at_ (HIN.out m' hmsg HLM.out) hown.owned ⟨own_cap hown.s2.row, own_capM hown.s2.row⟩)
  rw [hmsg] at HEC
  clear hb4 m0 m1 m2 m3 m4 m5 m6 m7 m8 m9 m10 m11 m12 m13 hmsg hown
  obtain ⟨h', qA', qc', qp', s0', s1', s2'⟩ := m'
  go_wp2_with fail
  refine HEC.out.mono ?_
  intro e w5 he5
  obtain ⟨A5, c5, rfl, hr5, hb5⟩ := he5.form
  have HB5 := Lib.hid (HB4.out.trans (hb5.mono HB4.out.size))
  have HR5 := Lib.hid hr5
  clear he5 hb5 hr5 HEC
  obtain ⟨m0, m1, m2, m3, m4, m5, m6, m7, m8, m9, m10, m11, m12, m13⟩ := HC.out w5 HB5.out
  go_wp2_with fail
  refine (HRE.out _ HB5.out HLM.out).mono ?_
  intro e w6 he6
  obtain ⟨A6, c6, rfl, hr6, hb6⟩ := he6.form
  have HR5 := Lib.hid ((HR5.out.below hb6).mono hb6.size)
  have HR6 := Lib.hid hr6
  have HB6 := Lib.hid (HB5.out.trans (hb6.mono HB5.out.size))
  clear he6 hb6 hr6 m0 m1 m2 m3 m4 m5 m6 m7 m8 m9 m10 m11 m12 m13
  have HLE := Lib.hid (show (encL (encE M)).length ≤ maxLen by
    unfold encE maxLen
    split
    · split
      · show ([] : List UInt8).length ≤ _
        simp
      · show (encM M).length ≤ _
        omega
    · show ([] : List UInt8).length ≤ _
      simp)
  generalize encL (encE M) = B at *
  generalize encK (encE M) = K9 at *
  generalize soundM M = sb at *
  have hkk : ((K9 : Int) == (K9 : Int)) = true := by simp
  have hbb : (sb == sb) = true := by simp
  have HBX := Lib.hid (show Below V.heap.size V w6.drew from HB6.out.drew)
  have HR5 := Lib.hid (show Row w6.drew w6.drew.heap.size A5 (B.map bc) from HR5.out.drew)
  have HR6 := Lib.hid (show Row w6.drew w6.drew.heap.size A6 (B.map bc) from HR6.out.drew)
  clear HB1 HB2 HB4 HB5 HB6 HRE HLT
  go_wp2
  go_region_held3 (fun W => W.cell? ⟨w.heap.size, 0, none⟩ = some (.int .i64 h.id) ∧ W.cell? ⟨w.heap.size, 1, none⟩ = some (.bool h.resp) ∧ W.cell? ⟨w.heap.size, 2, none⟩ = some (.int .i64 h.op) ∧ W.cell? ⟨w.heap.size, 3, none⟩ = some (.bool h.aa) ∧ W.cell? ⟨w.heap.size, 4, none⟩ = some (.bool h.tc) ∧ W.cell? ⟨w.heap.size, 5, none⟩ = some (.bool h.rd) ∧ W.cell? ⟨w.heap.size, 6, none⟩ = some (.bool h.ra) ∧
    W.cell? ⟨w.heap.size, 7, none⟩ = some (.int .i64 h.rc) ∧ W.cell? ⟨w.heap.size, 8, none⟩ = some (.slice qA qp.length qc) ∧ W.cell? ⟨w.heap.size, 9, none⟩ = some (.slice A0 p0.length k0) ∧ W.cell? ⟨w.heap.size, 10, none⟩ = some (.slice A1 p1.length k1) ∧ W.cell? ⟨w.heap.size, 11, none⟩ = some (.slice A2 p2.length k2) ∧ W.cell? ⟨w.heap.size, 12, none⟩ = some (.bool h.edns) ∧ W.cell? ⟨w.heap.size, 13, none⟩ = some (.int .i64 h.size))
    (exact HC.out _ HBX.out)
    ((first
      | (go_at_call 13
         refine (HOM.out _ HBX.out HLM.out).mono ?_
         rintro e wn ⟨m', rfl, hmsg, hown, hb⟩
         have HSC := Lib.hid (fun (W' : World) (hb' : Below wn.heap.size wn W') => HSD.out W' m' hmsg ((hown.at_.below hb').mono hb'.size) HLM.out)
         have HBS := Lib.hid (Below.refl wn.heap.size wn)
         have HBX := Lib.hid (HBX.out.trans (hb.mono HBX.out.size))
         have HR5 := Lib.hid ((HR5.out.below hb).mono hb.size)
         have HR6 := Lib.hid ((HR6.out.below hb).mono hb.size)
         clear hb hown hmsg)
      | (go_at_call 15
         refine (HSC.out _ HBS.out).mono ?_
         rintro e wn ⟨rfl, hb⟩
         have HBS := Lib.hid (HBS.out.trans (hb.mono HBS.out.size))
         have HBX := Lib.hid (HBX.out.trans (hb.mono HBX.out.size))
         have HR5 := Lib.hid ((HR5.out.below hb).mono hb.size)
         have HR6 := Lib.hid ((HR6.out.below hb).mono hb.size)
         clear hb)
      | (go_at_call 16
         refine (HRM.out _ HBX.out HLM.out).mono ?_
         rintro e wn ⟨rfl, hb⟩
         first
           | (have HBS := Lib.hid (HBS.out.trans (hb.mono HBS.out.size)))
           | skip
         have HBX := Lib.hid (HBX.out.trans (hb.mono HBX.out.size))
         have HR5 := Lib.hid ((HR5.out.below hb).mono hb.size)
         have HR6 := Lib.hid ((HR6.out.below hb).mono hb.size)
         clear hb)
      | (go_at_call 17
         refine (same_yes A5 A6 B.length B.length c5 c6 _ B _ rfl rfl HR5.out HR6.out HLE.out).mono ?_
         rintro e wn ⟨rfl, k8, rfl⟩
         have HBX := Lib.hid (HBX.out.trans ((below_drewN (Below.refl _ _) k8).mono HBX.out.size)))))
  all_goals
    go_wp2
    go_ret
    exact ⟨rfl, HB.out.trans (HBX.out.mono HB.out.size)⟩
theorem mencodes_any (w : World) (m : MV) (hm : MAt w w.heap.size m) (hs : MSafe m) : Calls Try.prog 3 #[m.val] w (TrueB w) := by
  obtain ⟨h, qA, qc, qp, ⟨A0, k0, p0⟩, ⟨A1, k1, p1⟩, ⟨A2, k2, p2⟩⟩ := m
  exact mencodes_core w _ h qA qc qp A0 A1 A2 k0 k1 k2 p0 p1 p2 rfl hm hs

end Go.Proofs.Ytjkjhpaeckkpjaa

namespace Go.Proofs.Ytjkjhpaeckkpjaa
open Go.ChangeShapes Go.WideShapes Go.ChangeAt Go.RowKit

set_option maxRecDepth 100000 in
theorem mencodes_lifted (os : Os) (started : os.Started) (H : Type) (enc : TypeId × Value → H) (F : Stop.Interp) :
    ReturnsInHanded {} Try.checked os 3 .any ((Rows.OpenSpec.upto Rows.msgEncodesSpec).pre6 enc Try.prog Try.f3 Rows.msgEncodesUptoRow.domain false) (((Rows.OpenSpec.upto Rows.msgEncodesSpec).at F).post enc Try.prog Try.f3 false true false false) := by
  refine returnsInHanded_of_cond (C := Try.checked) (s := Rows.OpenSpec.upto Rows.msgEncodesSpec) (k := Rows.uptoSmall) rfl Try.own started (by kernel_rfl) Try.func3
    (OpenSpec.witness (enc := enc) (C := Try.checked) (s := Rows.OpenSpec.upto Rows.msgEncodesSpec) (k := Rows.uptoSmall) rfl false ⟨#[], #[.agg #[.int .i64 0, .bool false, .int .i64 0, .bool false, .bool false, .bool false, .bool false, .int .i64 0, .slice none 0 0, .slice none 0 0, .slice none 0 0, .slice none 0 0, .bool false, .int .i64 0]], []⟩ 8 (by kernel_rfl) (by kernel_rfl) (by kernel_rfl)
      (x := ([.agg [.lit (.int .i64 0), .lit (.bool false), .lit (.int .i64 0), .lit (.bool false), .lit (.bool false), .lit (.bool false), .lit (.bool false), .lit (.int .i64 0), .nil, .nil, .nil, .nil, .lit (.bool false), .lit (.int .i64 0)]], [], [])) (by kernel_rfl) rfl (by kernel_rfl)) ?_
  intro W base args ds gs before hval0 hW _ hk0 _
  have hval : ∀ (j : Nat) t v, Try.f3.params[j]? = some t → args[j]? = some v → Value.okWide Try.prog W .any base t v := hval0
  have hW' := hW
  obtain ⟨p, q, hA0, hV, rfl, _, _⟩ := hW
  have hA : DataW.TrodAll enc Try.prog W 0 (fun _ => true) true Try.f3.params.toList args.toList ds p := hA0
  rw [Try.params3] at hA hval
  obtain ⟨v0, d0, rfl, rfl, h0⟩ := trodAll_one hA
  obtain ⟨rfl, rfl⟩ := trodVars_none hV
  have hk : Rows.uptoBulkAll ([d0] : List (DataW H)) ≤ 1048576 := of_decide_eq_true hk0
  simp only [Rows.uptoBulkAll] at hk
  clear hk0 hA0
  obtain ⟨m0, rfl, hm0, hs0⟩ := open_msg (hval 0 25 v0 rfl rfl) h0 (fun x hx => hW'.lt x (by simp [hx])) (by omega)
  have key : Calls Try.prog 3 #[m0.val] W (TrueB W) := by
    exact mencodes_any W m0 hm0 hs0
  refine key.mono fun e W' ⟨he, hb⟩ => ?_
  subst he
  exact ⟨_, rfl, law_post (P := Try.prog) (tb := 4) Try.laidOut (by kernel_rfl) (by kernel_rfl) (by kernel_rfl) Try.underlying4 rfl hW' rfl rfl rfl hb⟩

theorem mencodes_holds : Rows.MsgEncodesUptoSaid :=
  OpenClaim.holds_of_cond 3 Try.f3 rfl rfl rfl rfl rfl rfl rfl ⟨rfl, rfl, rfl, rfl, rfl⟩ rfl rfl rfl rfl rfl (by kernel_rfl) Try.func3 (by kernel_rfl)
    (of_decide_eq_true (by kernel_rfl)) (by unfold Func.isWrapper; first | (rw [if_pos (by decide +kernel)]; kernel_rfl) | (rw [if_neg (by decide +kernel)]; exact ⟨rfl, rfl⟩))
    (fun os started H enc _ F => mencodes_lifted os started H enc F)

end Go.Proofs.Ytjkjhpaeckkpjaa
