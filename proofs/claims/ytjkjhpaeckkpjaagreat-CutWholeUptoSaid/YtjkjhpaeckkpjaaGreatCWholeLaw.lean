/-
  CutWhole: within its size a message is as it is; what is told within less is a beginning of it, and no set in part.
-/
import Derived.Test.YtjkjhpaeckkpjaaGreatWbP11
import Derived.Deep.RegionHeld3
import Derived.StillTailTactics
import Derived.BigQuiet
namespace Go.Proofs.YtjkjhpaeckkpjaaGreat
open Go.RowKit

theorem cut_whole {m : Mt} (hs : SoundM m) {n : Int} (h1 : 512 ≤ n) (h2 : n ≤ 65535) {r : Except Nat (List UInt8)} (f : FitIs m n r) :
    r = .error 4 ∨ ∃ k b, r = .ok b ∧ (b.length : Int) ≤ n ∧ decM b = .ok (m.first k) ∧ wholeN m.an k = k := by
  obtain ⟨k, hk, e⟩ := fitIs_sound hs h1 h2 f
  rcases e with ⟨e, _⟩ | ⟨hf, e1, e2, e3⟩
  · exact .inl e
  · exact .inr ⟨k, _, e1, by omega, e3, hk.stop⟩
theorem stop_ne {A : List Rt} {k : Nat} (h : wholeN A k = k) (h0 : 0 < k) (h1 : k < A.length) : alikeB A[k] (A[k - 1]'(by omega)) = false := by
  obtain ⟨i, rfl⟩ : ∃ i, k = i + 1 := ⟨k - 1, by omega⟩
  cases h2 : alikeB A[i + 1] (A[i + 1 - 1]'(by omega)) with
  | false => rfl
  | true =>
    have h3 : alikeB A[i + 1] (A[i]'(by omega)) = true := h2
    rw [alikeB_iff] at h3
    exact absurd h (wholeN_mid h1 (alikeB_iff.2 ⟨h3.1.symm, h3.2.symm⟩))
/-- SameRRs of records and the beginning of others that they are. -/
theorem samers_take (w : World) (A B : Option Addr) (c d k : Nat) (ps qs : List (RV × Rt)) (hp : RsAt w w.heap.size A ps) (hq : RsAt w w.heap.size B qs) (he : recs ps = (recs qs).take k) (hs : ∀ r ∈ recs qs, SoundR r) (hl : ps.length ≤ 1000) :
    Calls Tryz.prog 10 #[.slice A ps.length c, .slice B ps.length d] w (Gave w (.bool true)) := by
  have e1 : recs (qs.take k) = (recs qs).take k := by unfold recs; rw [List.map_take]
  have e2 : (qs.take k).length = ps.length := by
    have h1 := congrArg List.length he
    rw [← e1, length_recs, length_recs] at h1
    exact h1.symm
  have h1 := sameRRs_self w A B c d ps (qs.take k) hp (upto_at (s := ⟨B, d, qs⟩) hq k) (by rw [he, e1]) (fun r hr => hs r (by rw [he] at hr; exact List.mem_of_mem_take hr)) hl
  rwa [e2] at h1

set_option maxRecDepth 20000 in
set_option maxHeartbeats 8000000 in
theorem cwhole_core (w : World) (n1 : Nat) (hn1 : n1 < 65536) (m : MV) (h : Hd) (qA : Option Addr) (qc : Nat) (qp : List (QV × Qt)) (A0 A1 A2 : Option Addr) (k0 k1 k2 : Nat) (p0 p1 p2 : List (RV × Rt)) (he : m = ⟨h, qA, qc, qp, ⟨A0, k0, p0⟩, ⟨A1, k1, p1⟩, ⟨A2, k2, p2⟩⟩) (hm : MAt w w.heap.size m) (hs : MSafe m) :
    Calls Tryz.prog 3 #[valM h (.slice qA qp.length qc) (.slice A0 p0.length k0) (.slice A1 p1.length k1) (.slice A2 p2.length k2), .int .u16 n1] w (TrueB w) := by
  have HA := Lib.hid (fun W' => canswers_any W')
  obtain ⟨W, hW⟩ : ∃ W, W = w.alloc (.cells #[.int .i64 h.id, .bool h.resp, .int .i64 h.op, .bool h.aa, .bool h.tc, .bool h.rd, .bool h.ra, .int .i64 h.rc, .slice qA qp.length qc, .slice A0 p0.length k0, .slice A1 p1.length k1, .slice A2 p2.length k2, .bool h.edns, .int .i64 h.size] 25) := ⟨_, rfl⟩
  have hB : Below w.heap.size w W := by rw [hW]; exact (Below.refl _ _).alloc (Nat.le_refl _) _
  have hzW : W.heap.size = w.heap.size + 1 := by rw [hW]; simp
  have hwm : Whole W w.heap.size 25 (cellsM h (.slice qA qp.length qc) (.slice A0 p0.length k0) (.slice A1 p1.length k1) (.slice A2 p2.length k2)) := by rw [hW]; exact Whole.made w [.int .i64 h.id, .bool h.resp, .int .i64 h.op, .bool h.aa, .bool h.tc, .bool h.rd, .bool h.ra, .int .i64 h.rc, .slice qA qp.length qc, .slice A0 p0.length k0, .slice A1 p1.length k1, .slice A2 p2.length k2, .bool h.edns, .int .i64 h.size] _
  have ev : m.val = valM h (.slice qA qp.length qc) (.slice A0 p0.length k0) (.slice A1 p1.length k1) (.slice A2 p2.length k2) := by rw [he]
  have HC := Lib.hid (fun (W' : World) (hb : Below W.heap.size W W') => cells14 (hwm.below hb (by omega)))
  have HMA := Lib.hid (fun (W' : World) (hb : Below W.heap.size W W') => (show MAt W' W'.heap.size m from by
    have hb2 := hB.trans (hb.mono hB.size)
    exact (hm.below hb2).mono hb2.size))
  have HLT := Lib.hid (fun (W' : World) (hb : Below W.heap.size W W') => (show Calls Tryz.prog 5 #[valM h (.slice qA qp.length qc) (.slice A0 p0.length k0) (.slice A1 p1.length k1) (.slice A2 p2.length k2)] W' (Gave W' (.bool (lightC m.msg))) from by
    have h1 := hs.lightC W' (HMA.out W' hb)
    rwa [ev] at h1))
  have HIN := Lib.hid (fun (m' : MV) (e : m'.msg = m.msg) (hl : LightM m.msg) => ((hs.small hl).1.same e))
  have HOM := Lib.hid (fun (W' : World) (hb : Below W.heap.size W W') (hl : LightM m.msg) => (show Calls Tryz.prog 8 #[valM h (.slice qA qp.length qc) (.slice A0 p0.length k0) (.slice A1 p1.length k1) (.slice A2 p2.length k2)] W' (OwnMOut W' m.msg) from by
    have h1 := ownMsg_any W' m (HMA.out W' hb) (hs.small hl).1 (hs.small hl).2
    rwa [ev] at h1))
  have HRM := Lib.hid (fun (W' : World) (hb : Below W.heap.size W W') (hl : LightM m.msg) => (show Calls Tryz.prog 6 #[valM h (.slice qA qp.length qc) (.slice A0 p0.length k0) (.slice A1 p1.length k1) (.slice A2 p2.length k2)] W' (Gave W' (.bool (soundM m.msg))) from by
    have h1 := refmsg_any W' m (HMA.out W' hb) (hs.small hl).1
    rwa [ev] at h1))
  have HMM := Lib.hid (show m.msg = ⟨h, qsts qp, recs p0, recs p1, recs p2⟩ from by rw [he]; rfl)
  have HRS := Lib.hid (fun (W' : World) (hb : Below W.heap.size W W') => (show RsAt W' w.heap.size A0 p0 ∧ RsAt W' w.heap.size A1 p1 ∧ RsAt W' w.heap.size A2 p2 from by
    have h3 := hm.below (hB.trans (hb.mono hB.size))
    rw [he] at h3
    exact ⟨h3.s0, h3.s1, h3.s2⟩))
  have HWN := Lib.hid (show ∀ p ∈ p0, WideN p.2.name from fun p hp => (hs.r 0 p (by rw [he]; exact hp)).1.n)
  have HCP := Lib.hid (show p0.length ≤ k0 ∧ p1.length ≤ k1 ∧ p2.length ≤ k2 from by
    have h3 := fun i => (hs.c.2.2 i).1
    rw [he] at h3
    exact ⟨h3 0, h3 1, h3 2⟩)
  have HLN := Lib.hid (fun (hl : LightM m.msg) => (show p0.length ≤ 700 ∧ p1.length ≤ 700 ∧ p2.length ≤ 700 from by
    have h3 := (hs.small hl).2
    rw [he] at h3
    exact ⟨h3 0, h3 1, h3 2⟩))
  have HB := Lib.hid hB
  have HWB := Lib.hid (Below.refl W.heap.size W)
  clear hB hzW hwm hm hs he ev HMA
  generalize m.msg = M at *
  clear m
  subst hW
  go_enter Tryz.func3, Tryz.ntmps3
  go_wp2_with fail
  obtain ⟨N, hN⟩ : ∃ N : Int, N = 512 + (n1 : Int) % 4000 := ⟨_, rfl⟩
  have hN1 : 512 ≤ N := by omega
  have hN2 : N ≤ 65535 := by omega
  rw [← hN]
  clear hN
  refine (HA.out _).mono ?_
  rintro e w1 ⟨rfl, hb1⟩
  generalize w.alloc (.cells #[.int .i64 h.id, .bool h.resp, .int .i64 h.op, .bool h.aa, .bool h.tc, .bool h.rd, .bool h.ra, .int .i64 h.rc, .slice qA qp.length qc, .slice A0 p0.length k0, .slice A1 p1.length k1, .slice A2 p2.length k2, .bool h.edns, .int .i64 h.size] 25) = V at *
  have HB1 := Lib.hid hb1
  obtain ⟨m0, m1, m2, m3, m4, m5, m6, m7, m8, m9, m10, m11, m12, m13⟩ := HC.out w1 HB1.out
  clear hb1
  go_wp2_with fail
  refine (HLT.out _ HB1.out).mono ?_
  rintro e w2 ⟨rfl, hb2⟩
  have HB2 := Lib.hid (HB1.out.trans (hb2.mono HB1.out.size))
  clear hb2 m0 m1 m2 m3 m4 m5 m6 m7 m8 m9 m10 m11 m12 m13
  cases hl : lightC M with
  | false =>
    go_wp2_with fail
    refine (HA.out _).mono ?_
    rintro e w3 ⟨rfl, hb3⟩
    have HB3 := Lib.hid (HB2.out.trans (hb3.mono HB2.out.size))
    clear hb3
    go_wp2
    go_ret
    exact ⟨rfl, HB.out.trans (HB3.out.mono HB.out.size)⟩
  | true =>
  have HLM := Lib.hid (lightC_M hl).1
  clear hl
  obtain ⟨m0, m1, m2, m3, m4, m5, m6, m7, m8, m9, m10, m11, m12, m13⟩ := HC.out w2 HB2.out
  go_wp2_with fail
  refine (HRM.out _ HB2.out HLM.out).mono ?_
  rintro e w3 ⟨rfl, hb3⟩
  have HB3 := Lib.hid (HB2.out.trans (hb3.mono HB2.out.size))
  clear hb3 m0 m1 m2 m3 m4 m5 m6 m7 m8 m9 m10 m11 m12 m13
  cases hso : soundM M with
  | false =>
    go_wp2_with fail
    refine (HA.out _).mono ?_
    rintro e w4 ⟨rfl, hb4⟩
    have HB4 := Lib.hid (HB3.out.trans (hb4.mono HB3.out.size))
    clear hb4
    go_wp2
    go_ret
    exact ⟨rfl, HB.out.trans (HB4.out.mono HB.out.size)⟩
  | true =>
  have HSO := Lib.hid (soundM_iff.1 hso)
  have HCW := Lib.hid (fun r1 (f1 : FitIs M N r1) => cut_whole (soundM_iff.1 hso) hN1 hN2 f1)
  clear hso hN1 hN2
  obtain ⟨m0, m1, m2, m3, m4, m5, m6, m7, m8, m9, m10, m11, m12, m13⟩ := HC.out w3 HB3.out
  go_wp2_with fail
  refine (HOM.out _ HB3.out HLM.out).mono ?_
  rintro e w4 ⟨m', rfl, hmsg, hown, hb4⟩
  have HB4 := Lib.hid (HB3.out.trans (hb4.mono HB3.out.size))
  have HEC := Lib.hid (show Calls Tryz.prog 7 #[m'.val, .int .i64 N] w4 (fun e w' => ∃ res, FitIs M N res ∧ EncOut w4 res e w') from by
    have h1 := cfit_any w4 N m' hown.at_ (HIN.out m' hmsg HLM.out) hown.owned (sec_all (P := fun s => s.ps.length ≤ s.c) (own_cap hown.s0.row) (own_cap hown.s1.row) (own_cap hown.s2.row)) (own_capM hown.s2.row)
    unfold CFitOut at h1
    rwa [hmsg] at h1)
  clear hb4 m0 m1 m2 m3 m4 m5 m6 m7 m8 m9 m10 m11 m12 m13 hmsg hown
  obtain ⟨h', qA', qc', qp', s0', s1', s2'⟩ := m'
  go_wp2_with fail
  refine HEC.out.mono ?_
  rintro e w5 ⟨r1, hr1, he5⟩
  rcases HCW.out r1 hr1 with he4 | ⟨kk, b, eb, hbn, db, hst⟩
  · obtain ⟨rfl, hb5⟩ := encOut_no he5 he4
    have HB5 := Lib.hid (HB.out.trans ((HB4.out.trans (hb5.mono HB4.out.size)).mono HB.out.size))
    clear he5 hb5 he4 hr1 HEC HCW HC HOM HRM HLT HIN HRS HWN HCP HLN
    go_wp2
    go_ret
    exact ⟨rfl, HB5.out⟩
  obtain ⟨A5, c5, rfl, ho5, hb5⟩ := encOut_yes he5 eb
  have HB5 := Lib.hid (HB4.out.trans (hb5.mono HB4.out.size))
  have HD5 := Lib.hid (decode_any A5 b.length c5 b w5 rfl (Row.of_own ho5) (own_cap ho5) (own_capM ho5))
  have HDB := Lib.hid db
  have HST := Lib.hid (show wholeN (recs p0) kk = kk from by
    have h1 := hst
    rw [HMM.out] at h1
    exact h1)
  have dn : decide (N < (b.length : Int)) = false := decide_eq_false (by omega)
  obtain ⟨l0, l1, l2⟩ := HLN.out HLM.out
  obtain ⟨c0, c1, c2⟩ := HCP.out
  clear he5 ho5 hb5 db hst hbn eb hr1 HEC HCW HOM HRM HLT HIN HLN HCP HLM
  go_wp2_with fail
  refine HD5.out.mono ?_
  intro e w6 he6
  obtain ⟨m3, rfl, hm3, ho3, hb6⟩ := decOut_yes he6 HDB.out
  have HB6 := Lib.hid (HB5.out.trans (hb6.mono HB5.out.size))
  have HA3 := Lib.hid ho3.at_
  clear he6 hb6 ho3 HD5 HDB
  obtain ⟨h3, qA3, qc3, qp3, ⟨A30, k30, p30⟩, ⟨A31, k31, p31⟩, ⟨A32, k32, p32⟩⟩ := m3
  rw [HMM.out] at hm3
  have hm4 : (⟨h3, qsts qp3, recs p30, recs p31, recs p32⟩ : Mt) = ⟨{ h with tc := h.tc || decide (kk < (recs p0).length + (recs p1).length) }, qsts qp, (recs p0).take kk, (recs p1).take (kk - (recs p0).length), (recs p2).take (kk - (recs p0).length - (recs p1).length)⟩ := hm3
  injection hm4 with hh hq hr0 hr1 hr2
  rw [length_recs, length_recs] at hh hr2
  rw [length_recs] at hr1
  obtain ⟨tc3, htc3⟩ : ∃ tc3, tc3 = (h.tc || decide (kk < p0.length + p1.length)) := ⟨_, rfl⟩
  rw [← htc3] at hh
  subst hh
  have hql : qp3.length = qp.length := by
    have h1 := congrArg List.length hq
    rwa [length_qsts, length_qsts] at h1
  have hx0 : p30.length = min kk p0.length := by
    have h1 := congrArg List.length hr0
    rwa [List.length_take, length_recs, length_recs] at h1
  have hx1 : p31.length = min (kk - p0.length) p1.length := by
    have h1 := congrArg List.length hr1
    rwa [List.length_take, length_recs, length_recs] at h1
  have hx2 : p32.length = min (kk - p0.length - p1.length) p2.length := by
    have h1 := congrArg List.length hr2
    rwa [List.length_take, length_recs, length_recs] at h1
  have HX := Lib.hid (show (p30.length = min kk p0.length ∧ p31.length = min (kk - p0.length) p1.length ∧ p32.length = min (kk - p0.length - p1.length) p2.length) ∧ tc3 = (h.tc || decide (kk < p0.length + p1.length)) from ⟨⟨hx0, hx1, hx2⟩, htc3⟩)
  have hsr : ∀ r ∈ M.all, SoundR r := fun r hr => (soundX_iff.1 (HSO.out.r r hr)).2
  rw [HMM.out] at hsr
  obtain ⟨W8, hW8⟩ : ∃ W8, W8 = w6.alloc (.cells #[.int .i64 h.id, .bool h.resp, .int .i64 h.op, .bool h.aa, .bool tc3, .bool h.rd, .bool h.ra, .int .i64 h.rc, .slice qA3 qp3.length qc3, .slice A30 p30.length k30, .slice A31 p31.length k31, .slice A32 p32.length k32, .bool h.edns, .int .i64 h.size] 25) := ⟨_, rfl⟩
  have hb8 : Below w6.heap.size w6 W8 := by rw [hW8]; exact (Below.refl _ _).alloc (Nat.le_refl _) _
  have hz8 : W8.heap.size = w6.heap.size + 1 := by rw [hW8]; simp
  have HB68 := Lib.hid hb8
  have HB8 := Lib.hid (HB6.out.trans (hb8.mono HB6.out.size))
  have HX8 := Lib.hid (show Whole W8 w6.heap.size 25 (cellsM { h with tc := tc3 } (.slice qA3 qp3.length qc3) (.slice A30 p30.length k30) (.slice A31 p31.length k31) (.slice A32 p32.length k32)) from by rw [hW8]; exact Whole.made w6 (cellsM { h with tc := tc3 } (.slice qA3 qp3.length qc3) (.slice A30 p30.length k30) (.slice A31 p31.length k31) (.slice A32 p32.length k32)) _)
  have HZ8 := Lib.hid hz8
  have HS0 := Lib.hid (fun (W' : World) (hb : Below W8.heap.size W8 W') => (show Calls Tryz.prog 10 #[.slice A30 p30.length k30, .slice A0 p30.length k0] W' (Gave W' (.bool true)) from by
    have hb6 := HB68.out.trans (hb.mono HB68.out.size)
    have hbv := HB8.out.trans (hb.mono HB8.out.size)
    exact samers_take W' A30 A0 k30 k0 _ p30 p0 ((HA3.out.s0.below hb6).mono hb6.size) (((HRS.out W' hbv).1).mono (Nat.le_trans HB.out.size hbv.size)) hr0 (fun r hr => hsr r (List.mem_append_left _ hr)) (by omega)))
  have HS1 := Lib.hid (fun (W' : World) (hb : Below W8.heap.size W8 W') => (show Calls Tryz.prog 10 #[.slice A31 p31.length k31, .slice A1 p31.length k1] W' (Gave W' (.bool true)) from by
    have hb6 := HB68.out.trans (hb.mono HB68.out.size)
    have hbv := HB8.out.trans (hb.mono HB8.out.size)
    exact samers_take W' A31 A1 k31 k1 _ p31 p1 ((HA3.out.s1.below hb6).mono hb6.size) (((HRS.out W' hbv).2.1).mono (Nat.le_trans HB.out.size hbv.size)) hr1 (fun r hr => hsr r (List.mem_append_right _ (List.mem_append_left _ hr))) (by omega)))
  have HS2 := Lib.hid (fun (W' : World) (hb : Below W8.heap.size W8 W') => (show Calls Tryz.prog 10 #[.slice A32 p32.length k32, .slice A2 p32.length k2] W' (Gave W' (.bool true)) from by
    have hb6 := HB68.out.trans (hb.mono HB68.out.size)
    have hbv := HB8.out.trans (hb.mono HB8.out.size)
    exact samers_take W' A32 A2 k32 k2 _ p32 p2 ((HA3.out.s2.below hb6).mono hb6.size) (((HRS.out W' hbv).2.2).mono (Nat.le_trans HB.out.size hbv.size)) hr2 (fun r hr => hsr r (List.mem_append_right _ (List.mem_append_right _ hr))) (by omega)))
  have t0 : decide ((p0.length : Int) < (p30.length : Int)) = false := decide_eq_false (by omega)
  have t1 : decide ((p1.length : Int) < (p31.length : Int)) = false := decide_eq_false (by omega)
  have t2 : decide ((p2.length : Int) < (p32.length : Int)) = false := decide_eq_false (by omega)
  have t0' : decide (p0.length < p30.length) = false := decide_eq_false (by omega)
  have t1' : decide (p1.length < p31.length) = false := decide_eq_false (by omega)
  have t2' : decide (p2.length < p32.length) = false := decide_eq_false (by omega)
  have t3 : ((qp3.length : Int) != (qp.length : Int)) = false := by rw [hql]; simp
  have t3' : (qp3.length != qp.length) = false := by rw [hql]; simp
  have hp0 : p30.length ≤ p0.length := by omega
  have hp1 : p31.length ≤ p1.length := by omega
  have hp2 : p32.length ≤ p2.length := by omega
  have HC8 := Lib.hid (fun (W' : World) (hb : Below W8.heap.size W8 W') => (show (Cells14 W' w.heap.size h (.slice qA qp.length qc) (.slice A0 p0.length k0) (.slice A1 p1.length k1) (.slice A2 p2.length k2)) ∧ Cells14 W' w6.heap.size { h with tc := tc3 } (.slice qA3 qp3.length qc3) (.slice A30 p30.length k30) (.slice A31 p31.length k31) (.slice A32 p32.length k32) from
    ⟨HC.out W' (HB8.out.trans (hb.mono HB8.out.size)), cells14 (HX8.out.below hb (by omega))⟩))
  clear hm3 hq hr0 hr1 hr2 htc3 hql hx0 hx1 hx2 hsr hb8 hz8 HMM HA3 HSO
  have HSX := Lib.hid (fun (X : World) (hb : Below W8.heap.size W8 X) => (show X.cell? ⟨w.heap.size, 9, none⟩ = some (.slice A0 p0.length k0) ∧ X.cell? ⟨w.heap.size, 10, none⟩ = some (.slice A1 p1.length k1) ∧ X.cell? ⟨w.heap.size, 11, none⟩ = some (.slice A2 p2.length k2) ∧ X.cell? ⟨w6.heap.size, 9, none⟩ = some (.slice A30 p30.length k30) ∧ X.cell? ⟨w6.heap.size, 10, none⟩ = some (.slice A31 p31.length k31) ∧ X.cell? ⟨w6.heap.size, 11, none⟩ = some (.slice A32 p32.length k32) from by
    obtain ⟨⟨_, _, _, _, _, _, _, _, _, a9, a10, a11, _, _⟩, ⟨_, _, _, _, _, _, _, _, _, b9, b10, b11, _, _⟩⟩ := HC8.out X hb
    exact ⟨a9, a10, a11, b9, b10, b11⟩))
  have HFIN := Lib.hid (fun (X : World) (hb : Below W8.heap.size W8 X) => (show Below w.heap.size w X from by
    have hbv := HB8.out.trans (hb.mono HB8.out.size)
    exact HB.out.trans (hbv.mono HB.out.size)))
  have HP0 := Lib.hid (fun (X : World) (hb : Below W8.heap.size W8 X) => (show RsAt X w.heap.size A0 p0 from (HRS.out X (HB8.out.trans (hb.mono HB8.out.size))).1))
  have HBR := Lib.hid (Below.refl W8.heap.size W8)
  clear HC HRS HB68
  go_upto_region 8 with fail
  rw [← hW8]
  clear hW8
  obtain ⟨⟨m0, m1, m2, m3, m4, m5, m6, m7, m8, m9, m10, m11, m12, m13⟩, ⟨n0, n1', n2, n3, n4, n5, n6, n7, n8, n9, n10, n11, n12, n13⟩⟩ := HC8.out W8 HBR.out
  dsimp only at n0 n1' n2 n3 n4 n5 n6 n7 n8 n9 n10 n11 n12 n13
  go_upto_region 10 with fail
  clear m0 m1 m2 m3 m4 m5 m6 m7 m8 m9 m10 m11 m12 m13 n0 n1' n2 n3 n4 n5 n6 n7 n8 n9 n10 n11 n12 n13
  clear t0 t1 t2 t0' t1' t2' t3 t3' dn
  go_cut [143] from 110 to 143 (fun v wx => v = .bool false ∧ Below W8.heap.size W8 wx)
  case first =>
    have HBX := Lib.hid HBR.out.drew
    have u0 : (0 : Int) ≤ (p30.length : Int) := by omega
    have u1 : (0 : Int) ≤ (p31.length : Int) := by omega
    have u2 : (0 : Int) ≤ (p32.length : Int) := by omega
    have v0 : (p30.length : Int) ≤ (k0 : Int) := by omega
    have v1 : (p31.length : Int) ≤ (k1 : Int) := by omega
    have v2 : (p32.length : Int) ≤ (k2 : Int) := by omega
    have v0' : p30.length ≤ k0 := by omega
    have v1' : p31.length ≤ k1 := by omega
    have v2' : p32.length ≤ k2 := by omega
    go_wp2
    go_region_held3 (fun X => X.cell? ⟨w.heap.size, 9, none⟩ = some (.slice A0 p0.length k0) ∧ X.cell? ⟨w.heap.size, 10, none⟩ = some (.slice A1 p1.length k1) ∧ X.cell? ⟨w.heap.size, 11, none⟩ = some (.slice A2 p2.length k2) ∧ X.cell? ⟨w6.heap.size, 9, none⟩ = some (.slice A30 p30.length k30) ∧ X.cell? ⟨w6.heap.size, 10, none⟩ = some (.slice A31 p31.length k31) ∧ X.cell? ⟨w6.heap.size, 11, none⟩ = some (.slice A32 p32.length k32))
      (exact HSX.out _ HBX.out)
      ((first
        | (go_at_call 10
           with_reducible refine (HS0.out _ HBX.out).mono ?_
           rintro e wn ⟨rfl, hb⟩
           have HBX := Lib.hid (HBX.out.trans (hb.mono HBX.out.size))
           clear hb)
        | (go_at_call 10
           with_reducible refine (HS1.out _ HBX.out).mono ?_
           rintro e wn ⟨rfl, hb⟩
           have HBX := Lib.hid (HBX.out.trans (hb.mono HBX.out.size))
           clear hb)
        | (go_at_call 10
           with_reducible refine (HS2.out _ HBX.out).mono ?_
           rintro e wn ⟨rfl, hb⟩
           have HBX := Lib.hid (HBX.out.trans (hb.mono HBX.out.size))
           clear hb)))
    all_goals
      rename_i hheld
      clear hheld
      go_wp2
      go_meet
      exact ⟨rfl, HBX.out⟩
  case rest =>
  obtain ⟨rfl, hbc⟩ := hcut
  have HBC := Lib.hid hbc
  clear hbc HS0 HS1 HS2 HSX HBR
  obtain ⟨wh, hwh⟩ : ∃ wh, wh = (decide (p30.length = p0.length) && decide (p31.length = p1.length)) := ⟨_, rfl⟩
  have HT := Lib.hid (show (wh = true → tc3 = h.tc) ∧ (wh = false → tc3 = true ∧ p32.length = 0) ∧ (0 < p31.length → p30.length = p0.length) from by
    obtain ⟨⟨x0, x1, x2⟩, x3⟩ := HX.out
    refine ⟨fun hw => ?_, fun hw => ?_, fun h => by omega⟩
    · rw [hwh, Bool.and_eq_true, decide_eq_true_eq, decide_eq_true_eq] at hw
      rw [x3, decide_eq_false (by omega), Bool.or_false]
    · rw [hwh, Bool.and_eq_false_iff, decide_eq_false_iff_not, decide_eq_false_iff_not] at hw
      exact ⟨by rw [x3, decide_eq_true (by omega), Bool.or_true], by omega⟩)
  have HWH := Lib.hid hwh
  clear hwh
  obtain ⟨⟨_, _, _, _, m4, _, _, _, _, m9, m10, m11, _, _⟩, ⟨_, _, _, _, n4, _, _, _, _, n9, n10, n11, _, _⟩⟩ := HC8.out wc HBC.out
  dsimp only at n4
  go_upto_region 12 with fail
  go_cut [10] from 144 to 159 (fun v wx => v = .bool wh ∧ Below W8.heap.size W8 wx)
  case first =>
    by_cases e0 : p30.length = p0.length
    · have b0 : ((p30.length : Int) == (p0.length : Int)) = true := by rw [e0]; simp
      have b0' : (p30.length == p0.length) = true := by rw [e0]; simp
      by_cases e1 : p31.length = p1.length
      · have b1 : ((p31.length : Int) == (p1.length : Int)) = true := by rw [e1]; simp
        have b1' : (p31.length == p1.length) = true := by rw [e1]; simp
        have HW1 := Lib.hid (show wh = true from by rw [HWH.out, decide_eq_true e0, decide_eq_true e1]; rfl)
        clear e0 e1
        go_wp2
        go_meet
        exact ⟨by rw [HW1.out], HBC.out⟩
      · have b1 : ((p31.length : Int) == (p1.length : Int)) = false := by rw [beq_eq_false_iff_ne]; omega
        have b1' : (p31.length == p1.length) = false := by rw [beq_eq_false_iff_ne]; omega
        have HW1 := Lib.hid (show wh = false from by rw [HWH.out, decide_eq_true e0, decide_eq_false e1]; rfl)
        clear e0 e1
        go_wp2
        go_meet
        exact ⟨by rw [HW1.out], HBC.out⟩
    · have b0 : ((p30.length : Int) == (p0.length : Int)) = false := by rw [beq_eq_false_iff_ne]; omega
      have b0' : (p30.length == p0.length) = false := by rw [beq_eq_false_iff_ne]; omega
      have HW1 := Lib.hid (show wh = false from by rw [HWH.out, decide_eq_false e0]; rfl)
      clear e0
      go_wp2
      go_meet
      exact ⟨by rw [HW1.out], HBC.out⟩
  case rest =>
  obtain ⟨rfl, hbd⟩ := hcut
  clear m4 m9 m10 m11 n4 n9 n10 n11 HWH
  have HBC := Lib.hid hbd
  clear hbd
  obtain ⟨⟨_, _, _, _, m4, _, _, _, _, m9, m10, m11, _, _⟩, ⟨_, _, _, _, n4, _, _, _, _, n9, n10, n11, _, _⟩⟩ := HC8.out wc HBC.out
  dsimp only at n4
  go_upto_region 13 with fail
  go_cut [10, 193] from 160 to 193 (fun _ v wx => v = .bool false ∧ Below W8.heap.size W8 wx)
  case first =>
    cases hwh : wh with
    | true =>
      have hte := HT.out.1 hwh
      rw [hte] at n4
      clear hte hwh
      obtain ⟨tc0, htc⟩ : ∃ t, h.tc = t := ⟨_, rfl⟩
      rw [htc] at m4 n4
      clear htc
      cases tc0 with
      | false =>
        by_cases hx2 : 0 < p32.length
        · have d2 : decide ((0 : Int) < (p32.length : Int)) = true := decide_eq_true (by omega)
          have d2' : decide (0 < p32.length) = true := decide_eq_true hx2
          by_cases hx1 : 0 < p31.length
          · have d3 : decide ((0 : Int) < (p31.length : Int)) = true := decide_eq_true (by omega)
            have d3' : decide (0 < p31.length) = true := decide_eq_true hx1
            have hx0 := HT.out.2.2 hx1
            have d4 : decide ((p30.length : Int) < (p0.length : Int)) = false := decide_eq_false (by omega)
            have d4' : decide (p30.length < p0.length) = false := decide_eq_false (by omega)
            clear hx0
            go_wp2
            go_meet
            exact ⟨rfl, HBC.out⟩
          · have d3 : decide ((0 : Int) < (p31.length : Int)) = false := decide_eq_false (by omega)
            have d3' : decide (0 < p31.length) = false := decide_eq_false hx1
            go_wp2
            go_meet
            exact ⟨rfl, HBC.out⟩
        · have d2 : decide ((0 : Int) < (p32.length : Int)) = false := decide_eq_false (by omega)
          have d2' : decide (0 < p32.length) = false := decide_eq_false hx2
          by_cases hx1 : 0 < p31.length
          · have d3 : decide ((0 : Int) < (p31.length : Int)) = true := decide_eq_true (by omega)
            have d3' : decide (0 < p31.length) = true := decide_eq_true hx1
            have hx0 := HT.out.2.2 hx1
            have d4 : decide ((p30.length : Int) < (p0.length : Int)) = false := decide_eq_false (by omega)
            have d4' : decide (p30.length < p0.length) = false := decide_eq_false (by omega)
            clear hx0
            go_wp2
            go_meet
            exact ⟨rfl, HBC.out⟩
          · have d3 : decide ((0 : Int) < (p31.length : Int)) = false := decide_eq_false (by omega)
            have d3' : decide (0 < p31.length) = false := decide_eq_false hx1
            go_wp2
            go_meet
            exact ⟨rfl, HBC.out⟩
      | true =>
        by_cases hx2 : 0 < p32.length
        · have d2 : decide ((0 : Int) < (p32.length : Int)) = true := decide_eq_true (by omega)
          have d2' : decide (0 < p32.length) = true := decide_eq_true hx2
          by_cases hx1 : 0 < p31.length
          · have d3 : decide ((0 : Int) < (p31.length : Int)) = true := decide_eq_true (by omega)
            have d3' : decide (0 < p31.length) = true := decide_eq_true hx1
            have hx0 := HT.out.2.2 hx1
            have d4 : decide ((p30.length : Int) < (p0.length : Int)) = false := decide_eq_false (by omega)
            have d4' : decide (p30.length < p0.length) = false := decide_eq_false (by omega)
            clear hx0
            go_wp2
            go_meet
            exact ⟨rfl, HBC.out⟩
          · have d3 : decide ((0 : Int) < (p31.length : Int)) = false := decide_eq_false (by omega)
            have d3' : decide (0 < p31.length) = false := decide_eq_false hx1
            go_wp2
            go_meet
            exact ⟨rfl, HBC.out⟩
        · have d2 : decide ((0 : Int) < (p32.length : Int)) = false := decide_eq_false (by omega)
          have d2' : decide (0 < p32.length) = false := decide_eq_false hx2
          by_cases hx1 : 0 < p31.length
          · have d3 : decide ((0 : Int) < (p31.length : Int)) = true := decide_eq_true (by omega)
            have d3' : decide (0 < p31.length) = true := decide_eq_true hx1
            have hx0 := HT.out.2.2 hx1
            have d4 : decide ((p30.length : Int) < (p0.length : Int)) = false := decide_eq_false (by omega)
            have d4' : decide (p30.length < p0.length) = false := decide_eq_false (by omega)
            clear hx0
            go_wp2
            go_meet
            exact ⟨rfl, HBC.out⟩
          · have d3 : decide ((0 : Int) < (p31.length : Int)) = false := decide_eq_false (by omega)
            have d3' : decide (0 < p31.length) = false := decide_eq_false hx1
            go_wp2
            go_meet
            exact ⟨rfl, HBC.out⟩
    | false =>
      have hte := (HT.out.2.1 hwh).1
      have hx2 := (HT.out.2.1 hwh).2
      rw [hte] at n4
      clear hte hwh
      obtain ⟨tc0, htc⟩ : ∃ t, h.tc = t := ⟨_, rfl⟩
      rw [htc] at m4
      clear htc
      cases tc0 with
      | false =>
        have d2 : decide ((0 : Int) < (p32.length : Int)) = false := decide_eq_false (by omega)
        have d2' : decide (0 < p32.length) = false := decide_eq_false (by omega)
        clear hx2
        by_cases hx1 : 0 < p31.length
        · have d3 : decide ((0 : Int) < (p31.length : Int)) = true := decide_eq_true (by omega)
          have d3' : decide (0 < p31.length) = true := decide_eq_true hx1
          have hx0 := HT.out.2.2 hx1
          have d4 : decide ((p30.length : Int) < (p0.length : Int)) = false := decide_eq_false (by omega)
          have d4' : decide (p30.length < p0.length) = false := decide_eq_false (by omega)
          clear hx0
          go_wp2
          go_meet
          exact ⟨rfl, HBC.out⟩
        · have d3 : decide ((0 : Int) < (p31.length : Int)) = false := decide_eq_false (by omega)
          have d3' : decide (0 < p31.length) = false := decide_eq_false hx1
          go_wp2
          go_meet
          exact ⟨rfl, HBC.out⟩
      | true =>
        have d2 : decide ((0 : Int) < (p32.length : Int)) = false := decide_eq_false (by omega)
        have d2' : decide (0 < p32.length) = false := decide_eq_false (by omega)
        clear hx2
        by_cases hx1 : 0 < p31.length
        · have d3 : decide ((0 : Int) < (p31.length : Int)) = true := decide_eq_true (by omega)
          have d3' : decide (0 < p31.length) = true := decide_eq_true hx1
          have hx0 := HT.out.2.2 hx1
          have d4 : decide ((p30.length : Int) < (p0.length : Int)) = false := decide_eq_false (by omega)
          have d4' : decide (p30.length < p0.length) = false := decide_eq_false (by omega)
          clear hx0
          go_wp2
          go_meet
          exact ⟨rfl, HBC.out⟩
        · have d3 : decide ((0 : Int) < (p31.length : Int)) = false := decide_eq_false (by omega)
          have d3' : decide (0 < p31.length) = false := decide_eq_false hx1
          go_wp2
          go_meet
          exact ⟨rfl, HBC.out⟩
  case rest =>
  obtain ⟨rfl, hbd⟩ := hcut
  clear m4 m9 m10 m11 n4 n9 n10 n11 HT
  have HBC := Lib.hid hbd
  clear hbd
  obtain ⟨⟨_, _, _, _, _, _, _, _, _, m9, _, _, _, _⟩, ⟨_, _, _, _, _, _, _, _, _, n9, _, _, _, _⟩⟩ := HC8.out wc HBC.out
  by_cases e0 : p30.length = p0.length
  · have b0 : ((p30.length : Int) == (p0.length : Int)) = true := by rw [e0]; simp
    have b0' : (p30.length == p0.length) = true := by rw [e0]; simp
    clear e0
    go_wp2
    go_quiet (fail)
    go_wp2
    go_ret
    exact ⟨rfl, below_drewN' (HFIN.out _ HBC.out) _⟩
  have b0 : ((p30.length : Int) == (p0.length : Int)) = false := by rw [beq_eq_false_iff_ne]; omega
  have b0' : (p30.length == p0.length) = false := by rw [beq_eq_false_iff_ne]; omega
  by_cases e1 : p30.length = 0
  · have b1 : ((p30.length : Int) == 0) = true := by rw [e1]; rfl
    have b1' : (p30.length == 0) = true := by rw [e1]; rfl
    clear e0 e1
    go_wp2
    go_quiet (fail)
    go_wp2
    go_ret
    exact ⟨rfl, below_drewN' (HFIN.out _ HBC.out) _⟩
  have b1 : ((p30.length : Int) == 0) = false := by rw [beq_eq_false_iff_ne]; omega
  have b1' : (p30.length == 0) = false := by rw [beq_eq_false_iff_ne]; omega
  have hk0 : 0 < p30.length := by omega
  have hk1 : p30.length < p0.length := by omega
  have hk2 : p30.length - 1 < p0.length := by omega
  have HAL := Lib.hid (show alikeB (p0[p30.length]).2 (p0[p30.length - 1]).2 = false from by
    obtain ⟨⟨x0, _, _⟩, _⟩ := HX.out
    have hkk : kk = p30.length := by omega
    have h1 := HST.out
    rw [hkk] at h1
    have h2 := stop_ne h1 hk0 (by rw [length_recs]; exact hk1)
    simpa [recs] using h2)
  obtain ⟨b1, o1, rfl, hb1, hra, q0, q1, q2, q3, q4, q5, q6, q7, q8⟩ := (HP0.out _ HBC.out).at_ hk1
  obtain ⟨b2, o2, e2, hb2, hrb, r0, r1, r2, r3, r4, r5, r6, r7, r8⟩ := (HP0.out _ HBC.out).at_ hk2
  cases e2
  have hwa := HWN.out _ (List.getElem_mem hk1)
  have hwb := HWN.out _ (List.getElem_mem hk2)
  clear e0 e1 HX HST
  revert hra q0 q1 q2 q3 q4 q5 q6 q7 q8 hrb r0 r1 r2 r3 r4 r5 r6 r7 r8 hwa hwb HAL
  generalize p0[p30.length] = pa
  generalize p0[p30.length - 1] = pb
  obtain ⟨y, r⟩ := pa
  obtain ⟨z, r'⟩ := pb
  intro HAL hra q0 q1 q2 q3 q4 q5 q6 q7 q8 hrb r0 r1 r2 r3 r4 r5 r6 r7 r8 hwa hwb
  dsimp only at HAL hra q0 q1 q2 q3 q4 q5 q6 q7 q8 hrb r0 r1 r2 r3 r4 r5 r6 r7 r8 hwa hwb
  have wa1 : IntKind.i64.wrap ((p30.length : Int) - 1) = (p30.length : Int) - 1 := IntWalk.i64_in _ (by omega)
  have wa2 : (0 : Int) ≤ (p30.length : Int) - 1 := by omega
  have wa3 : (p30.length : Int) - 1 < p0.length := by omega
  have wa4 : ((p30.length : Int) - 1).toNat = p30.length - 1 := by omega
  have wa5 : (1 : Int) ≤ (p30.length : Int) := by omega
  have wa6 : 1 ≤ p30.length := by omega
  by_cases hkd : r.kind = r'.kind
  case neg =>
    have t1 : (r.kind == r'.kind) = false := by rw [beq_eq_false_iff_ne]; exact hkd
    clear hra hrb hkd HAL
    go_wp2
    go_quiet (fail)
    go_wp2
    go_ret
    exact ⟨rfl, below_drewN' (HFIN.out _ HBC.out) _⟩
  have t1 : (r.kind == r'.kind) = true := by rw [hkd]; simp
  have HNE := Lib.hid (show eqN r.name r'.name = false from by
    have h1 := HAL.out
    unfold alikeB at h1
    rw [decide_eq_true hkd, Bool.true_and] at h1
    exact h1)
  have hzw := (HFIN.out _ HBC.out).size
  have HCE := Lib.hid (show Calls Tryz.prog 11 #[.slice y.A r.name.length y.c, .slice z.A r'.name.length z.c] wc.drew (Gave wc.drew (.bool (eqN r.name r'.name))) from
    ref_equal_wide y.A z.A _ _ y.c z.c w.heap.size r.name r'.name wc.drew rfl rfl (hra.n.below (Below.refl w.heap.size wc).drew) (hrb.n.below (Below.refl w.heap.size wc).drew) hzw hwa hwb)
  rw [HNE.out] at HCE
  clear hra hrb hkd HAL HNE hzw
  go_wp2
  go_still_tail 38, (by kernel_rfl)
  change wpList _ _ _ _ _ wc.drew
  clear q0 q1 q2 q3 q4 q5 q6 q7 q8 r0 r1 r2 r3 r4 r5 r6 r7 r8 m9 n9 wa1 wa2 wa3 wa4 wa6 t1 b0 b0' b1' hk0 hk1 hk2
  go_wp2_with fail
  refine HCE.out.mono ?_
  rintro e w9 ⟨rfl, hb9⟩
  have HB9 := Lib.hid ((HFIN.out _ HBC.out).drew.trans (hb9.mono (HFIN.out _ HBC.out).drew.size))
  clear hb9 HCE
  go_wp2
  go_ret
  exact ⟨rfl, HB9.out⟩
theorem cwhole_any (w : World) (n1 : Nat) (hn1 : n1 < 65536) (m : MV) (hm : MAt w w.heap.size m) (hs : MSafe m) : Calls Tryz.prog 3 #[m.val, .int .u16 n1] w (TrueB w) := by
  obtain ⟨h, qA, qc, qp, ⟨A0, k0, p0⟩, ⟨A1, k1, p1⟩, ⟨A2, k2, p2⟩⟩ := m
  exact cwhole_core w n1 hn1 _ h qA qc qp A0 A1 A2 k0 k1 k2 p0 p1 p2 rfl hm hs

end Go.Proofs.YtjkjhpaeckkpjaaGreat
