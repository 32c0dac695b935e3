/-
  FactOthers in its form for what is not too great: of a response to another question, with an error, or none at all, fact.From tells no facts; of messages, questions and names that take at most 1,048,576 values and letters in all. No other condition.
-/
import Derived.Test.YthppgofpbpjglaaFbP10
import Derived.Test.YthppgofpbpjglaaFbP8
import Derived.Deep.CutBlock
import Derived.Test.YthppgofpbpjglaaFbP14
namespace Go.Proofs.Ythppgofpbpjglaa
open Go.RowKit

/-- The message that is handed on: nothing comes of it. -/
def OthersRel (w : World) (y : QV) (q : Qt) (z : List (List UInt8)) (wx : World) : Prop :=
  ∃ m2 : MV, QMBoxes w y q m2.cells wx ∧ MAt wx wx.heap.size m2 ∧ MIn m2 ∧ LightG m2.msg ∧ (∀ i, (m2.sec i).ps.length ≤ 700) ∧ fromOk q m2.msg z 5 = false
theorem okNo {q : Qt} {m : Mt} {z : List (List UInt8)} {now : Int} (h : m.h.resp = false ∨ m.h.op ≠ 0 ∨ (m.h.rc ≠ 0 ∧ m.h.rc ≠ 3) ∨ okQ q m.qs = false) : fromOk q m z now = false := by
  unfold fromOk
  rcases h with h | h | h | h
  · rw [h]; simp
  · rw [decide_eq_false h]; simp
  · rw [decide_eq_false h.1, decide_eq_false h.2]; simp
  · rw [h]; simp
theorem others_of {w wx : World} {y : QV} {q : Qt} {z : List (List UInt8)} {m : MV} (hd : Hd) (A : Option Addr) (c : Nat) (qp : List (QV × Qt)) (hb : QMBoxes w y q (cellsM hd (.slice A qp.length c) m.s0.v m.s1.v m.s2.v) wx) (hm : MAt wx wx.heap.size m) (hi : MIn m) (hl : LightG m.msg) (h7 : ∀ i, (m.sec i).ps.length ≤ 700)
    (hh : HIn hd) (hq : QsAt wx wx.heap.size A qp) (hqi : ∀ p ∈ qp, QIn p.2) (hn : qp.length ≤ 2) (hf : fromOk q ⟨hd, qsts qp, m.msg.an, m.msg.au, m.msg.ex⟩ z 5 = false) : OthersRel w y q z wx := by
  refine ⟨⟨hd, A, c, qp, m.s0, m.s1, m.s2⟩, hb, ⟨hq, hm.s0, hm.s1, hm.s2⟩, ⟨hh, hqi, hi.r, by show qp.length ≤ 1000; omega, hi.rl⟩, ⟨hl.n, ?_, hl.r, hl.b⟩, h7, hf⟩
  show (qsts qp).length ≤ 50
  rw [length_qsts]
  omega

theorem QMBoxes.grown {w : World} {y : QV} {q : Qt} {lm : List Value} {W V : World} {B n size : Nat} {e : TypeId} {v : Value} {xs : List Value} (h : QMBoxes w y q lm W) (ho : W.ownsRow B e size v n xs) (hB : w.heap.size + 2 ≤ B) (hg : W.grownBy V v.ownBlock) : QMBoxes w y q lm V :=
  ⟨h.bq.grown hg (fun e => by have := (ho.lt _ e.symm).1; omega), h.bm.grown hg (fun e => by have := (ho.lt _ e.symm).1; omega), own_below h.below (by omega) (by have := h.size; omega) ho hg, Nat.le_trans h.size hg.size⟩
theorem QMBoxes.put {w : World} {y : QV} {q : Qt} {lm lm' : List Value} {W V : World} (h : QMBoxes w y q lm W) (hV : Whole V (w.heap.size + 1) 43 lm') (hG : Grew (fun j => j = w.heap.size + 1) W V) (hz : V.heap.size = W.heap.size) : QMBoxes w y q lm' V := by
  have hb : Below (w.heap.size + 1) W V := Grew.below (B := w.heap.size + 1) hG (fun j hj => by rw [hj]; exact Nat.le_refl _) (by have := h.size; omega)
  exact ⟨h.bq.below hb (Nat.lt_succ_self _), hV, h.below.trans (hb.mono (Nat.le_succ _)), by rw [hz]; exact h.size⟩
/-- A store into a block that is neither box. -/
theorem QMBoxes.off {w : World} {y : QV} {q : Qt} {lm : List Value} {W V : World} {g : Nat} (h : QMBoxes w y q lm W) (hg : w.heap.size + 2 ≤ g) (hG : Grew (fun j => j = g) W V) (hz : V.heap.size = W.heap.size) : QMBoxes w y q lm V := by
  have hb : Below (w.heap.size + 2) W V := Grew.below (B := w.heap.size + 2) hG (fun j hj => by rw [hj]; exact hg) h.size
  exact ⟨h.bq.below hb (by omega), h.bm.below hb (by omega), h.below.trans (hb.mono (by omega)), by rw [hz]; exact h.size⟩
theorem own_one3 {w : World} {g base : Nat} {p : QV × Qt} (h : Whole w g 41 (cellsQ p)) (hg : base ≤ g) : w.ownsRow base 41 3 (.slice (some ⟨g, 0, none⟩) 1 1) 1 (cellsQ p) :=
  ⟨rfl, .inr ⟨g, 1, (cellsQ p).toArray, rfl, hg, h, Nat.le_refl _, by unfold maxLen; omega, rfl, rfl⟩⟩
theorem qs_single {w : World} {g : Nat} {p : QV × Qt} (h : Whole w g 41 (cellsQ p)) (hr : QAt w w.heap.size p.1 p.2) : QsAt w w.heap.size (some ⟨g, 0, none⟩) [p] := by
  refine ⟨?_, fun x hx => by rw [List.mem_singleton.1 hx]; exact hr⟩
  have h1 := h.row
  rwa [show [p].flatMap cellsQ = cellsQ p by simp]
theorem wf0 : (Lit.int .i64 0).wf = true := by decide
theorem wf1 : (Lit.int .i64 1).wf = true := by decide
theorem wf2 : (Lit.int .i64 2).wf = true := by decide
theorem bool_one : (Try.prog.info? 4).map (·.size) = some 1 := by kernel_rfl
theorem int_one : (Try.prog.info? 3).map (·.size) = some 1 := by kernel_rfl
theorem qs_one : (Try.prog.info? 37).map (·.size) = some 1 := by kernel_rfl
theorem strs_one : (Try.prog.info? 23).map (·.size) = some 1 := by kernel_rfl

set_option maxRecDepth 20000 in
set_option maxHeartbeats 16000000 in
theorem fothers_core (S : FactSpec) (w : World) (y : QV) (q : Qt) (m : MV) (h : Hd) (qA : Option Addr) (qc : Nat) (qp : List (QV × Qt)) (A0 A1 A2 : Option Addr) (k0 k1 k2 : Nat) (p0 p1 p2 : List (RV × Rt)) (he : m = ⟨h, qA, qc, qp, ⟨A0, k0, p0⟩, ⟨A1, k1, p1⟩, ⟨A2, k2, p2⟩⟩) (zA : Option Addr) (zc : Nat) (z : List (List UInt8)) (n : Nat) (hn : n < 256) (hq : QAt w w.heap.size y q) (hqi : QIn q) (hqc : q.name.length ≤ y.2) (hm : MAt w w.heap.size m) (hs : MSafe m) (hz : Row w w.heap.size zA (z.map sv)) (hzs : szN z ≤ maxLen) (hzc : z.length ≤ zc) :
    Calls Try.prog 5 #[valQ y q, valM h (.slice qA qp.length qc) (.slice A0 p0.length k0) (.slice A1 p1.length k1) (.slice A2 p2.length k2), .slice zA z.length zc, .int .u8 n] w (TrueB w) := by
  obtain ⟨i0, hi0, hz0, hz1, hz2⟩ := info_parts q_info
  obtain ⟨t0, ht0, hx0, hx1, hx2⟩ := info_parts str_info
  have ev : m.val = valM h (.slice qA qp.length qc) (.slice A0 p0.length k0) (.slice A1 p1.length k1) (.slice A2 p2.length k2) := by rw [he]
  have HA := Lib.hid (fun W' => fanswers_any S W')
  have hml := hs.n
  have HLT := Lib.hid (fun (W' : World) (hb : Below w.heap.size w W') => (show Calls Try.prog 19 #[valM h (.slice qA qp.length qc) (.slice A0 p0.length k0) (.slice A1 p1.length k1) (.slice A2 p2.length k2)] W' (Gave W' (.bool (lightG m.msg))) from by
    have e0 := hml.2 0
    have e1 := hml.2 1
    have e2 := hml.2 2
    have h1 := flight_any W' m ((hm.below hb).mono hb.size) (by
      have f0 : m.s0.ps.length ≤ 1048576 := e0
      have f1 : m.s1.ps.length ≤ 1048576 := e1
      have f2 : m.s2.ps.length ≤ 1048576 := e2
      omega) (by unfold maxLen; omega)
    rwa [ev] at h1))
  have HOM := Lib.hid (fun (W' : World) (hb : Below w.heap.size w W') (hl : LightG m.msg) => (show Calls Try.prog 21 #[valM h (.slice qA qp.length qc) (.slice A0 p0.length k0) (.slice A1 p1.length k1) (.slice A2 p2.length k2)] W' (OwnMOut W' m.msg) from by
    have h1 := ownMsg_any W' m ((hm.below hb).mono hb.size) (hs.smallG hl).1 (hs.smallG hl).2
    rwa [ev] at h1))
  have HIN := Lib.hid (fun (m' : MV) (e : m'.msg = m.msg) (hl : LightG m.msg) => ((hs.smallG hl).1.same e))
  have HBX := Lib.hid (QMBoxes.made w y q h (.slice qA qp.length qc) (.slice A0 p0.length k0) (.slice A1 p1.length k1) (.slice A2 p2.length k2))
  have HQ := Lib.hid (fun (W' : World) (hb : Below w.heap.size w W') => (show QAt W' W'.heap.size y q from (Row.below hq hb).mono hb.size))
  have HQI := Lib.hid hqi
  have HQC := Lib.hid hqc
  have HZ := Lib.hid (fun (W' : World) (hb : Below w.heap.size w W') => (hz.below hb).mono hb.size)
  have HZS := Lib.hid hzs
  have HZC := Lib.hid hzc
  have hzl := len_le_szN' hzs
  have hql := hqi.l
  have HNW := Lib.hid (show (Lit.int .i64 5).wf = true by decide)
  have HM := Lib.hid (fun (W' : World) (hb : Below w.heap.size w W') => (show MAt W' W'.heap.size m from (hm.below hb).mono hb.size))
  have HMI := Lib.hid (fun (hl : LightG m.msg) => hs.smallG hl)
  have HE := Lib.hid he
  have HMH := Lib.hid (show HIn h from by have h2 := hs.h; rw [he] at h2; exact h2)
  obtain ⟨M, hM⟩ : ∃ M, M = m.msg := ⟨_, rfl⟩
  have HMM := Lib.hid hM
  rw [← hM] at HLT
  clear HOM HIN
  obtain ⟨r, hr⟩ : ∃ r, r = n % 6 := ⟨_, rfl⟩
  have hr6 : r < 6 := by omega
  have hrr : ((n : Int) % 6) = (r : Int) := by omega
  clear hq hqi hqc hm hs hz hzs hzc he ev hml hM hr
  unfold maxLen at hzl
  go_enter Try.func5, Try.ntmps5
  go_wp2_with fail
  refine (HA.out _).mono ?_
  rintro e w1 ⟨rfl, hb1⟩
  have HB1 := Lib.hid (HBX.out.step hb1)
  obtain ⟨m0, m1, m2, m3, m4, m5, m6, m7, m8, m9, m10, m11, m12, m13⟩ := cells14 HB1.out.bm
  clear hb1
  go_wp2_with fail
  refine (HLT.out _ HB1.out.below).mono ?_
  rintro e w2 ⟨rfl, hb2⟩
  have HB2 := Lib.hid (HB1.out.step hb2)
  clear hb2 m0 m1 m2 m3 m4 m5 m6 m7 m8 m9 m10 m11 m12 m13 HB1
  cases hl : lightG M with
  | false =>
    go_wp2_with fail
    refine (HA.out _).mono ?_
    rintro e w3 ⟨rfl, hb3⟩
    have HB3 := Lib.hid (HB2.out.step hb3)
    clear hb3
    go_wp2
    go_ret
    exact ⟨rfl, HB3.out.below⟩
  | true =>
  have HLG := Lib.hid (lightG_iff hl)
  clear hl
  by_cases c1 : z.length ≤ 200
  case neg =>
    have d1 : decide ((200 : Int) < (z.length : Int)) = true := decide_eq_true (by omega)
    go_wp2_with fail
    refine (HA.out _).mono ?_
    rintro e w3 ⟨rfl, hb3⟩
    have HB3 := Lib.hid (HB2.out.step hb3)
    clear hb3
    go_wp2
    go_ret
    exact ⟨rfl, HB3.out.below⟩
  have d1 : decide ((200 : Int) < (z.length : Int)) = false := decide_eq_false (by omega)
  have q0 : w2.cell? ⟨w.heap.size, 0, none⟩ = some (.slice y.1 q.name.length y.2) := HB2.out.bq.cell 0
  by_cases c2 : q.name.length ≤ 200
  case neg =>
    have d2 : decide ((200 : Int) < (q.name.length : Int)) = true := decide_eq_true (by omega)
    go_wp2_with fail
    refine (HA.out _).mono ?_
    rintro e w3 ⟨rfl, hb3⟩
    have HB3 := Lib.hid (HB2.out.step hb3)
    clear hb3
    go_wp2
    go_ret
    exact ⟨rfl, HB3.out.below⟩
  have d2 : decide ((200 : Int) < (q.name.length : Int)) = false := decide_eq_false (by omega)
  go_upto_block 0 with (first
    | (refine wpList_store_one rfl 4 (.tmp 28) (.const (.bool true)) rfl (w.heap.size + 1) 1 (.bool true) rfl rfl rfl bool_one 43 _ HB2.out.bm _ rfl ?_
       intro V1 hV hG hZ
       have HV1 := Lib.hid (HB2.out.put hV hG hZ)
       have HS1 := Lib.hid hZ
       clear hV hG hZ)
    | (refine wpList_store_one rfl 3 (.tmp 29) (.const (.int .i64 0)) rfl (w.heap.size + 1) 2 (.int .i64 0) rfl rfl rfl int_one 43 _ HV1.out.bm _ rfl ?_
       intro V2 hV hG hZ
       have HV2 := Lib.hid (HV1.out.put hV hG hZ)
       have HS2 := Lib.hid hZ
       clear hV hG hZ)
    | (refine wpList_store_one rfl 3 (.tmp 30) (.const (.int .i64 0)) rfl (w.heap.size + 1) 7 (.int .i64 0) rfl rfl rfl int_one 43 _ HV2.out.bm _ rfl ?_
       intro V3 hV hG hZ
       have HV3 := Lib.hid (HV2.out.put hV hG hZ)
       have HS3 := Lib.hid hZ
       clear hV hG hZ
       have q0' : V3.cell? ⟨w.heap.size, 0, none⟩ = some (.slice y.1 q.name.length y.2) := HV3.out.bq.cell 0
       have q1' : V3.cell? ⟨w.heap.size, 1, none⟩ = some (.int .i64 q.kind) := HV3.out.bq.cell 1
       have q2' : V3.cell? ⟨w.heap.size, 2, none⟩ = some (.int .i64 q.cls) := HV3.out.bq.cell 2
       have HV4 := Lib.hid (HV3.out.step ((Below.refl V3.heap.size V3).alloc (Nat.le_refl _) (.cells #[.slice y.1 q.name.length y.2, .int .i64 q.kind, .int .i64 q.cls] 41)))
       have HG4 := Lib.hid (Whole.made V3 (cellsQ (y, q)) 41))
    | (refine wpList_store_one rfl 37 (.tmp 33) (.tmp 32) rfl (w.heap.size + 1) 8 (.slice (some ⟨V3.heap.size, 0, none⟩) 1 1) rfl rfl rfl qs_one 43 _ HV4.out.bm _ rfl ?_
       intro V5 hV hG hZ
       have HV5 := Lib.hid (HV4.out.put hV hG hZ)
       have HGS := Lib.hid (show w.heap.size + 2 ≤ V3.heap.size from HV3.out.size)
       have HG5 := Lib.hid ((hG.block _ HG4.out.lt (by have := HGS.out; omega)).trans HG4.out)
       clear hV hG hZ))
  obtain rfl := HE.out
  have HLM := Lib.hid (show LightG (MV.msg ⟨h, qA, qc, qp, ⟨A0, k0, p0⟩, ⟨A1, k1, p1⟩, ⟨A2, k2, p2⟩⟩) by rw [← HMM.out]; exact HLG.out)
  have HMA := Lib.hid (fun hd A c qp' wx (hb : QMBoxes w y q (cellsM hd (.slice A qp'.length c) (.slice A0 p0.length k0) (.slice A1 p1.length k1) (.slice A2 p2.length k2)) wx) (hh : HIn hd) (hq : QsAt wx wx.heap.size A qp') (hqi : ∀ p ∈ qp', QIn p.2) (hn : qp'.length ≤ 2)
    (hf : hd.resp = false ∨ hd.op ≠ 0 ∨ (hd.rc ≠ 0 ∧ hd.rc ≠ 3) ∨ okQ q (qsts qp') = false) =>
    (others_of (z := z) (m := ⟨h, qA, qc, qp, ⟨A0, k0, p0⟩, ⟨A1, k1, p1⟩, ⟨A2, k2, p2⟩⟩) hd A c qp' hb (HM.out wx hb.below) (HMI.out HLM.out).1 HLM.out (HMI.out HLM.out).2 hh hq hqi hn (okNo hf)))
  have HQ1 := Lib.hid (show ∀ p ∈ [(y, q)], QIn p.2 from fun p hp => by rw [List.mem_singleton.1 hp]; exact HQI.out)
  have HSQ := Lib.hid (fun (W : World) (hb : Below w.heap.size w W) (hw : Whole W V3.heap.size 41 (cellsQ (y, q))) => qs_single hw (HQ.out W hb))
  clear HM HMI HLM HE HMM HA HLT HBX HB2 HV1 HV2 HV3 HV4 HG4 HS1 HS2 HS3 q0
  go_cut [35] from 36 to 76 (fun s35 wx => OthersRel w y q z wx)
  case first =>
    have m8 : V5.cell? ⟨w.heap.size + 1, 8, none⟩ = some (.slice (some ⟨V3.heap.size, 0, none⟩) 1 1) := HV5.out.bm.cell 8
    have a0 : V5.cell? ⟨w.heap.size, 0, none⟩ = some (.slice y.1 q.name.length y.2) := HV5.out.bq.cell 0
    have a1 : V5.cell? ⟨w.heap.size, 1, none⟩ = some (.int .i64 q.kind) := HV5.out.bq.cell 1
    have a2 : V5.cell? ⟨w.heap.size, 2, none⟩ = some (.int .i64 q.cls) := HV5.out.bq.cell 2
    rcases (show r = 0 ∨ r = 1 ∨ r = 2 ∨ r = 3 ∨ r = 4 ∨ r = 5 by omega) with rfl | rfl | rfl | rfl | rfl | rfl
    · go_wp2_with (
        refine wpList_store_one rfl 4 (.tmp 46) (.const (.bool false)) rfl (w.heap.size + 1) 1 (.bool false) rfl rfl rfl bool_one 43 _ HV5.out.bm _ rfl ?_
        intro V6 hV hG hZ
        have HV6 := Lib.hid (HV5.out.put hV hG hZ)
        have HG6 := Lib.hid ((hG.block _ (heap_lt HG5.out) (by have := HGS.out; omega)).trans HG5.out)
        clear hV hG hZ)
      go_meet
      exact HMA.out { h with resp := false, op := 0, rc := 0 } _ 1 [(y, q)] _ HV6.out ⟨HMH.out.i, wf0, wf0, HMH.out.s⟩ (HSQ.out _ HV6.out.below HG6.out) HQ1.out (by simp) (.inl rfl)
    · go_wp2_with (
        refine wpList_store_one rfl 3 (.tmp 49) (.const (.int .i64 1)) rfl (w.heap.size + 1) 2 (.int .i64 1) rfl rfl rfl int_one 43 _ HV5.out.bm _ rfl ?_
        intro V6 hV hG hZ
        have HV6 := Lib.hid (HV5.out.put hV hG hZ)
        have HG6 := Lib.hid ((hG.block _ (heap_lt HG5.out) (by have := HGS.out; omega)).trans HG5.out)
        clear hV hG hZ)
      go_meet
      exact HMA.out { h with resp := true, op := 1, rc := 0 } _ 1 [(y, q)] _ HV6.out ⟨HMH.out.i, wf1, wf0, HMH.out.s⟩ (HSQ.out _ HV6.out.below HG6.out) HQ1.out (by simp) (.inr (.inl (by decide : (1 : Int) ≠ 0)))
    · go_wp2_with (
        refine wpList_store_one rfl 3 (.tmp 52) (.const (.int .i64 2)) rfl (w.heap.size + 1) 7 (.int .i64 2) rfl rfl rfl int_one 43 _ HV5.out.bm _ rfl ?_
        intro V6 hV hG hZ
        have HV6 := Lib.hid (HV5.out.put hV hG hZ)
        have HG6 := Lib.hid ((hG.block _ (heap_lt HG5.out) (by have := HGS.out; omega)).trans HG5.out)
        clear hV hG hZ)
      go_meet
      exact HMA.out { h with resp := true, op := 0, rc := 2 } _ 1 [(y, q)] _ HV6.out ⟨HMH.out.i, wf0, wf2, HMH.out.s⟩ (HSQ.out _ HV6.out.below HG6.out) HQ1.out (by simp) (.inr (.inr (.inl ⟨(by decide : (2 : Int) ≠ 0), (by decide : (2 : Int) ≠ 3)⟩)))
    · have HV6 := Lib.hid (HV5.out.step ((Below.refl V5.heap.size V5).alloc (Nat.le_refl _) (.cells #[.slice y.1 q.name.length y.2, .int .i64 q.kind, .int .i64 q.cls] 41)))
      have HG6 := Lib.hid (show (V5.alloc (.cells #[.slice y.1 q.name.length y.2, .int .i64 q.kind, .int .i64 q.cls] 41)).heap[V3.heap.size]? = some (.cells (cellsQ (y, q)).toArray 41 (0, 0)) from (Below.heap_alloc V5 _ _ (heap_lt HG5.out)).trans HG5.out)
      have HR6 := Lib.hid (Row.made V5 #[.slice y.1 q.name.length y.2, .int .i64 q.kind, .int .i64 q.cls] 41)
      have HZ5 := Lib.hid (heap_lt HG5.out)
      go_wp2_with (first
        | (at_builtin
           refine wpList_append_row rfl (.tmp 56) (.tmp 58) _ rfl V3.heap.size 41 i0 _ 3 40 Try.underlying37 hi0 hz0 hz1 hz2 rfl (by omega) (.slice (some ⟨V3.heap.size, 0, none⟩) 1 1) 1 (cellsQ (y, q)) rfl (own_one3 HG6.out (Nat.le_refl _))
             (some ⟨V5.heap.size, 0, none⟩) 1 1 (V5.heap.size + 1) (cellsQ (y, q)) rfl rfl HR6.out (cellsQ_one1 _) (by unfold maxLen; omega) (by omega) (by have := HZ5.out; simp; omega) ?_
           intro v7 V7 hown hg
           have HV7 := Lib.hid (HV6.out.grown (own_one3 HG6.out (Nat.le_refl _)) HGS.out hg)
           obtain ⟨A7, c7, rfl, _, _⟩ := own_form hown
           have HO7 := Lib.hid hown
           clear hown hg)
        | (refine wpList_store_one rfl 37 (.tmp 60) (.tmp 59) rfl (w.heap.size + 1) 8 (.slice A7 2 c7) rfl rfl rfl qs_one 43 _ HV7.out.bm _ rfl ?_
           intro V8 hV hG hZ
           have HV8 := Lib.hid (HV7.out.put hV hG hZ)
           have HO8 := Lib.hid (own_keep HO7.out fun g e => hG.block g (HO7.out.lt g e).2 (by have := (HO7.out.lt g e).1; have := HGS.out; omega))
           clear hV hG hZ))
      go_meet
      have h8 := Row.of_own HO8.out
      exact HMA.out { h with resp := true, op := 0, rc := 0 } A7 c7 [(y, q), (y, q)] _ HV8.out ⟨HMH.out.i, wf0, wf0, HMH.out.s⟩ ⟨by simpa using h8, fun p hp => by
        have e : p = (y, q) := by simpa using hp
        rw [e]; exact HQ.out _ HV8.out.below⟩ (fun p hp => by
        have e : p = (y, q) := by simpa using hp
        rw [e]; exact HQI.out) (by simp) (.inr (.inr (.inr rfl)))
    · have HQC2 := Lib.hid (show -9223372036854775808 ≤ q.cls ∧ q.cls ≤ 9223372036854775807 from by
        have h1 := HQI.out.c
        have e1 : IntKind.i64.min = -9223372036854775808 := rfl
        have e2 : IntKind.i64.max = 9223372036854775807 := rfl
        simp only [Lit.wf, Bool.and_eq_true, decide_eq_true_eq] at h1
        omega)
      have HFIN := Lib.hid (fun (cl : Int) (V : World) (hb : QMBoxes w y q (cellsM { h with resp := true, op := 0, rc := 0 } (.slice (some ⟨V3.heap.size, 0, none⟩) 1 1) (.slice A0 p0.length k0) (.slice A1 p1.length k1) (.slice A2 p2.length k2)) V) (hw : Whole V V3.heap.size 41 (cellsQ (y, ⟨q.name, q.kind, cl⟩)))
        (hc : (Lit.int .i64 cl).wf = true) (hne : cl ≠ q.cls) => HMA.out { h with resp := true, op := 0, rc := 0 } _ 1 [(y, ⟨q.name, q.kind, cl⟩)] V hb ⟨HMH.out.i, wf0, wf0, HMH.out.s⟩ (qs_single hw (HQ.out _ hb.below)) (fun p hp => by
          rw [List.mem_singleton.1 hp]
          exact ⟨HQI.out.n, HQI.out.k, hc, HQI.out.l⟩) (by simp) (.inr (.inr (.inr (by
          show (eqN q.name q.name && (decide (q.kind = q.kind) && decide (cl = q.cls))) = false
          rw [decide_eq_false hne]
          simp)))))
      by_cases c9 : 60000 < q.cls
      · have d9 : decide (60000 < q.cls) = true := decide_eq_true c9
        go_wp2_with (first
          | (refine wpList_store_one rfl 3 (.tmp 69) (.tmp 67) rfl V3.heap.size 2 _ rfl rfl rfl int_one 41 _ HG5.out _ rfl ?_
             intro V6 hV hG hZ
             have HV6 := Lib.hid (HV5.out.off HGS.out hG hZ)
             have HG6 := Lib.hid hV
             have a2' : V6.cell? ⟨w.heap.size, 2, none⟩ = some (.int .i64 q.cls) := HV6.out.bq.cell 2
             have m8' : V6.cell? ⟨w.heap.size + 1, 8, none⟩ = some (.slice (some ⟨V3.heap.size, 0, none⟩) 1 1) := HV6.out.bm.cell 8
             clear hV hG hZ)
          | (refine wpList_store_one rfl 3 (.tmp 76) (.const (.int .i64 0)) rfl V3.heap.size 2 (.int .i64 0) rfl rfl rfl int_one 41 _ HG6.out _ rfl ?_
             intro V7 hV hG hZ
             have HV7 := Lib.hid (HV6.out.off HGS.out hG hZ)
             have HG7 := Lib.hid hV
             clear hV hG hZ))
        go_meet
        exact HFIN.out 0 _ HV7.out HG7.out wf0 (by omega)
      · have d9 : decide (60000 < q.cls) = false := decide_eq_false c9
        have hlo := HQC2.out.1
        go_wp2_with (
          refine wpList_store_one rfl 3 (.tmp 69) (.tmp 67) rfl V3.heap.size 2 (.int .i64 (q.cls + 1)) rfl rfl rfl int_one 41 _ HG5.out _ rfl ?_
          intro V6 hV hG hZ
          have HV6 := Lib.hid (HV5.out.off HGS.out hG hZ)
          have HG6 := Lib.hid hV
          have a2' : V6.cell? ⟨w.heap.size, 2, none⟩ = some (.int .i64 q.cls) := HV6.out.bq.cell 2
          clear hV hG hZ)
        go_meet
        exact HFIN.out (q.cls + 1) _ HV6.out HG6.out (wf_i64 (by omega) (by omega)) (by omega)
    · have HSX := Lib.hid (show ∀ W, QMBoxes w y q (cellsM { h with resp := true, op := 0, rc := 0 } (.slice (some ⟨V3.heap.size, 0, none⟩) 1 1) (.slice A0 p0.length k0) (.slice A1 p1.length k1) (.slice A2 p2.length k2)) W → (W.cell? ⟨w.heap.size + 1, 8, none⟩ = some (.slice (some ⟨V3.heap.size, 0, none⟩) 1 1) ∧ W.cell? ⟨w.heap.size, 0, none⟩ = some (.slice y.1 q.name.length y.2)) from fun W h => ⟨h.bm.cell 8, h.bq.cell 0⟩)
      have HV6 := Lib.hid (HV5.out.step (Below.refl V5.heap.size V5).drew)
      go_wp2
      refine wp_region_held_drew (S := fun W => (W.cell? ⟨w.heap.size + 1, 8, none⟩ = some (.slice (some ⟨V3.heap.size, 0, none⟩) 1 1) ∧ W.cell? ⟨w.heap.size, 0, none⟩ = some (.slice y.1 q.name.length y.2))) (by kernel_rfl) (by exact HSX.out _ HV6.out) (fun hHeld => ?_)
      refine wpAnyH_take (i := 0) (oi := { dst := some 36, op := Go.Op.fieldAddr 43 (Go.Operand.tmp 5) 8, type := 0, pos := "law.go:146", after := #[], guard := none }) (v := ?_) rfl (by kernel_rfl) (by kernel_rfl) (by kernel_rfl) (fun _ _ _ h => h) (Or.inl ⟨by kernel_rfl, ?_⟩) (by assumption) ?_
      rotate_left
      · intro W hSw
        try dsimp only at hSw
        go_simp
        all_goals (with_reducible rfl)
      try simp only [Act.put, List.setIfInBounds_toArray, List.set_cons_zero, List.set_cons_succ]
      refine wpAnyH_take (i := 1) (oi := { dst := some 37, op := Go.Op.load 37 (Go.Operand.tmp 36), type := 37, pos := "law.go:146", after := #[{ on := 0, ground := Go.Ground.data }], guard := none }) (v := ?_) rfl (by kernel_rfl) (by kernel_rfl) (by kernel_rfl) (fun _ _ _ h => h) (Or.inl ⟨by kernel_rfl, ?_⟩) (by assumption) ?_
      rotate_left
      · intro W hSw
        try dsimp only at hSw
        go_simp
        all_goals (with_reducible rfl)
      try simp only [Act.put, List.setIfInBounds_toArray, List.set_cons_zero, List.set_cons_succ]
      refine wpAnyH_take (i := 3) (oi := { dst := some 39, op := Go.Op.fieldAddr 41 (Go.Operand.tmp 4) 0, type := 0, pos := "law.go:146", after := #[], guard := none }) (v := ?_) rfl (by kernel_rfl) (by kernel_rfl) (by kernel_rfl) (fun _ _ _ h => h) (Or.inl ⟨by kernel_rfl, ?_⟩) (by assumption) ?_
      rotate_left
      · intro W hSw
        try dsimp only at hSw
        go_simp
        all_goals (with_reducible rfl)
      try simp only [Act.put, List.setIfInBounds_toArray, List.set_cons_zero, List.set_cons_succ]
      refine wpAnyH_take (i := 4) (oi := { dst := some 40, op := Go.Op.load 23 (Go.Operand.tmp 39), type := 23, pos := "law.go:146", after := #[{ on := 3, ground := Go.Ground.data }], guard := none }) (v := ?_) rfl (by kernel_rfl) (by kernel_rfl) (by kernel_rfl) (fun _ _ _ h => h) (Or.inl ⟨by kernel_rfl, ?_⟩) (by assumption) ?_
      rotate_left
      · intro W hSw
        try dsimp only at hSw
        go_simp
        all_goals (with_reducible rfl)
      try simp only [Act.put, List.setIfInBounds_toArray, List.set_cons_zero, List.set_cons_succ]
      refine wpAnyH_ready (rs := [2]) (by kernel_rfl) (by simp) ?_
      refine AllReadyH.cons (o := { dst := some 38, op := Go.Op.buildSlice 23 1 #[(0, Go.Operand.const (Go.Value.string { data := #[97, 110, 111, 116, 104, 101, 114] }))], type := 23, pos := "law.go:146", after := #[], guard := none }) rfl (fun K hK => ?_) AllReadyH.nil
      go_simp
      have HL6 := Lib.hid (show (V5.drew.alloc (.cells #[.string ⟨#[97, 110, 111, 116, 104, 101, 114]⟩] 9)).ownsRow V5.heap.size 9 1 (.slice (some ⟨V5.heap.size, 0, none⟩) 1 1) 1 [sv [97, 110, 111, 116, 104, 101, 114]] from own_of_block (L := [sv [97, 110, 111, 116, 104, 101, 114]]) (heap_alloc_new V5.drew _) (Nat.le_refl _) rfl (Nat.le_refl _) (by unfold maxLen; omega) rfl)
      have HG6 := Lib.hid (show (V5.drew.alloc (.cells #[.string ⟨#[97, 110, 111, 116, 104, 101, 114]⟩] 9)).heap[V3.heap.size]? = some (.cells (cellsQ (y, q)).toArray 41 (0, 0)) from (Below.heap_alloc V5.drew _ _ (heap_lt HG5.out)).trans HG5.out)
      have HV6 := Lib.hid (HV6.out.step ((Below.refl V5.drew.heap.size V5.drew).alloc (Nat.le_refl _) (.cells #[.string ⟨#[97, 110, 111, 116, 104, 101, 114]⟩] 9)))
      refine hK.out _ _ (by exact HSX.out _ HV6.out) (fun hHeld2 => ?_)
      clear hK K hHeld
      have hHeld := hHeld2
      clear hHeld2
      try simp only [Act.put, List.setIfInBounds_toArray, List.set_cons_zero, List.set_cons_succ]
      refine wpAnyH_ready (rs := [5]) (by kernel_rfl) (by simp) ?_
      refine AllReadyH.cons (o := { dst := some 41, op := Go.Op.call { callee := Go.Callee.builtin Go.Builtin.append, args := #[Go.Operand.tmp 38, Go.Operand.tmp 40], argTypes := #[23, 23] }, type := 23, pos := "law.go:146", after := #[{ on := 2, ground := Go.Ground.data }, { on := 4, ground := Go.Ground.data }], guard := none }) rfl (fun K hK => ?_) AllReadyH.nil
      refine step_append_wp rfl (.tmp 38) (.tmp 40) _ rfl V5.heap.size 9 t0 _ 1 16 Try.underlying23 ht0 hx0 hx1 hx2 rfl (by omega) (.slice (some ⟨V5.heap.size, 0, none⟩) 1 1) 1 [sv [97, 110, 111, 116, 104, 101, 114]] rfl HL6.out y.1 q.name.length y.2 _ (q.name.map sv) rfl (by rw [List.length_map, Nat.mul_one]) (HQ.out _ HV6.out.below) (sv_one _) (by unfold maxLen; omega) (by omega) (by simp) ?_
      intro v7 V7 hown hg
      rw [Nat.add_comm 1 q.name.length] at hown
      have HV7 := Lib.hid (HV6.out.grown HL6.out HV5.out.size hg)
      have HG7 := Lib.hid (show Whole V7 V3.heap.size 41 (cellsQ (y, q)) from Whole.grown HG6.out hg (fun e => by
        have h1 := heap_lt HG5.out
        have e2 : V3.heap.size = V5.heap.size := Option.some.inj e
        omega))
      obtain ⟨A7, c7, rfl, _, _⟩ := own_form hown
      have HO7 := Lib.hid hown
      clear hown hg
      refine hK.out _ _ (by exact HSX.out _ HV7.out) (fun hHeld2 => ?_)
      clear hK K hHeld
      have hHeld := hHeld2
      clear hHeld2
      try simp only [Act.put, List.setIfInBounds_toArray, List.set_cons_zero, List.set_cons_succ]
      refine wpAnyH_take (i := 6) (oi := { dst := some 42, op := Go.Op.indexAddr 37 (Go.Operand.tmp 37) (Go.Operand.const (Go.Value.int Go.IntKind.i64 0)), type := 0, pos := "law.go:146", after := #[{ on := 1, ground := Go.Ground.data }, { on := 0, ground := Go.Ground.phase }, { on := 1, ground := Go.Ground.phase }, { on := 2, ground := Go.Ground.phase }, { on := 3, ground := Go.Ground.phase }, { on := 4, ground := Go.Ground.phase }, { on := 5, ground := Go.Ground.phase }], guard := none }) (v := ?_) rfl (by kernel_rfl) (by kernel_rfl) (by kernel_rfl) (fun _ _ _ h => h) (Or.inl ⟨by kernel_rfl, ?_⟩) (by assumption) ?_
      rotate_left
      · intro W hSw
        try dsimp only at hSw
        go_simp
        all_goals (with_reducible rfl)
      try simp only [Act.put, List.setIfInBounds_toArray, List.set_cons_zero, List.set_cons_succ]
      refine wpAnyH_take (i := 7) (oi := { dst := some 43, op := Go.Op.fieldAddr 41 (Go.Operand.tmp 42) 0, type := 0, pos := "law.go:146", after := #[{ on := 6, ground := Go.Ground.data }, { on := 0, ground := Go.Ground.phase }, { on := 1, ground := Go.Ground.phase }, { on := 2, ground := Go.Ground.phase }, { on := 3, ground := Go.Ground.phase }, { on := 4, ground := Go.Ground.phase }, { on := 5, ground := Go.Ground.phase }], guard := none }) (v := ?_) rfl (by kernel_rfl) (by kernel_rfl) (by kernel_rfl) (fun _ _ _ h => h) (Or.inl ⟨by kernel_rfl, ?_⟩) (by assumption) ?_
      rotate_left
      · intro W hSw
        try dsimp only at hSw
        go_simp
        all_goals (with_reducible rfl)
      try simp only [Act.put, List.setIfInBounds_toArray, List.set_cons_zero, List.set_cons_succ]
      refine wpAnyH_ready (rs := [8]) (by kernel_rfl) (by simp) ?_
      refine AllReadyH.cons (o := { dst := none, op := Go.Op.store 23 (Go.Operand.tmp 43) (Go.Operand.tmp 41), type := 0, pos := "law.go:146", after := #[{ on := 7, ground := Go.Ground.data }, { on := 5, ground := Go.Ground.data }, { on := 5, ground := Go.Ground.chain }, { on := 0, ground := Go.Ground.phase }, { on := 1, ground := Go.Ground.phase }, { on := 2, ground := Go.Ground.phase }, { on := 3, ground := Go.Ground.phase }, { on := 4, ground := Go.Ground.phase }, { on := 5, ground := Go.Ground.phase }], guard := none }) rfl (fun K hK => ?_) AllReadyH.nil
      refine wp_store_one 23 (.tmp 43) (.tmp 41) rfl V3.heap.size 0 (.slice A7 (q.name.length + 1) c7) rfl rfl rfl strs_one 41 _ HG7.out _ rfl ?_
      intro V8 hV hG hZ
      have HV8 := Lib.hid (HV7.out.off HGS.out hG hZ)
      have HG8 := Lib.hid hV
      have HO8 := Lib.hid (own_keep HO7.out fun g e => hG.block g (HO7.out.lt g e).2 (by have h1 := (HO7.out.lt g e).1; have h2 := heap_lt HG5.out; omega))
      clear hV hG hZ
      refine hK.out _ _ (by exact HSX.out _ HV8.out) (fun hHeld2 => ?_)
      clear hK K hHeld
      have hHeld := hHeld2
      clear hHeld2
      try simp only [Act.put]
      refine wpAnyH_done (by kernel_rfl) ?_ _
      go_wp2
      go_meet
      have h8 : Row V8 V8.heap.size A7 (([97, 110, 111, 116, 104, 101, 114] :: q.name).map sv) := Row.of_own HO8.out
      exact HMA.out { h with resp := true, op := 0, rc := 0 } _ 1 [((A7, c7), ⟨[97, 110, 111, 116, 104, 101, 114] :: q.name, q.kind, q.cls⟩)] _ HV8.out ⟨HMH.out.i, wf0, wf0, HMH.out.s⟩ (qs_single HG8.out h8) (fun p hp => by
          rw [List.mem_singleton.1 hp]
          refine ⟨⟨?_, fun k hk => ?_⟩, HQI.out.k, HQI.out.c, ?_⟩
          · show q.name.length + 1 ≤ maxLen
            unfold maxLen; omega
          · cases k with
            | zero => show (7 : Nat) ≤ maxLen; unfold maxLen; omega
            | succ k => exact HQI.out.n.2 k (by simpa using hk)
          · show q.name.length + 1 ≤ 1048576
            omega) (by simp) (.inr (.inr (.inr (by
          show (eqN ([97, 110, 111, 116, 104, 101, 114] :: q.name) q.name && (decide (q.kind = q.kind) && decide (q.cls = q.cls))) = false
          rw [eqN_len (by simp)]
          rfl))))
  case rest =>
    obtain ⟨m2, hbx, hma, hmi, hlg, h7, hno⟩ := hcut
    rename World => w4
    obtain ⟨h2, qA2, qc2, qp2, ⟨B0, j0, r0⟩, ⟨B1, j1, r1⟩, ⟨B2, j2, r2⟩⟩ := m2
    have HCX := Lib.hid (fun (W' : World) (hb : Below w4.heap.size w4 W') => hbx.step hb)
    have HBC := Lib.hid (Below.refl w4.heap.size w4).drew
    have HOM := Lib.hid (fun (W' : World) (hb : Below w4.heap.size w4 W') => ownMsg_any W' ⟨h2, qA2, qc2, qp2, ⟨B0, j0, r0⟩, ⟨B1, j1, r1⟩, ⟨B2, j2, r2⟩⟩ ((hma.below hb).mono hb.size) hmi h7)
    have HLG := Lib.hid hlg
    have HNO := Lib.hid hno
    have HIN := Lib.hid (fun (m' : MV) (e : m'.msg = MV.msg ⟨h2, qA2, qc2, qp2, ⟨B0, j0, r0⟩, ⟨B1, j1, r1⟩, ⟨B2, j2, r2⟩⟩) (_ : LightG (MV.msg ⟨h2, qA2, qc2, qp2, ⟨B0, j0, r0⟩, ⟨B1, j1, r1⟩, ⟨B2, j2, r2⟩⟩)) => hmi.same e)
    have HSC := Lib.hid (show ∀ W, Below w4.heap.size w4 W → ((W.cell? ⟨w.heap.size, 0, none⟩ = some (.slice y.1 q.name.length y.2) ∧ W.cell? ⟨w.heap.size, 1, none⟩ = some (.int .i64 q.kind) ∧ W.cell? ⟨w.heap.size, 2, none⟩ = some (.int .i64 q.cls)) ∧ (W.cell? ⟨w.heap.size + 1, 0, none⟩ = some (.int .i64 h2.id) ∧ W.cell? ⟨w.heap.size + 1, 1, none⟩ = some (.bool h2.resp) ∧ W.cell? ⟨w.heap.size + 1, 2, none⟩ = some (.int .i64 h2.op) ∧ W.cell? ⟨w.heap.size + 1, 3, none⟩ = some (.bool h2.aa) ∧ W.cell? ⟨w.heap.size + 1, 4, none⟩ = some (.bool h2.tc) ∧ W.cell? ⟨w.heap.size + 1, 5, none⟩ = some (.bool h2.rd) ∧ W.cell? ⟨w.heap.size + 1, 6, none⟩ = some (.bool h2.ra) ∧ W.cell? ⟨w.heap.size + 1, 7, none⟩ = some (.int .i64 h2.rc) ∧ W.cell? ⟨w.heap.size + 1, 8, none⟩ = some (.slice qA2 qp2.length qc2) ∧ W.cell? ⟨w.heap.size + 1, 9, none⟩ = some (.slice B0 r0.length j0) ∧ W.cell? ⟨w.heap.size + 1, 10, none⟩ = some (.slice B1 r1.length j1) ∧ W.cell? ⟨w.heap.size + 1, 11, none⟩ = some (.slice B2 r2.length j2) ∧ W.cell? ⟨w.heap.size + 1, 12, none⟩ = some (.bool h2.edns) ∧ W.cell? ⟨w.heap.size + 1, 13, none⟩ = some (.int .i64 h2.size))) from fun W hb => by
      have h1 := (HCX.out W hb).bq
      obtain ⟨m0, m1, m2, m3, m4, m5, m6, m7, m8, m9, m10, m11, m12, m13⟩ := cells14 (HCX.out W hb).bm
      exact ⟨⟨h1.cell 0, h1.cell 1, h1.cell 2⟩, m0, m1, m2, m3, m4, m5, m6, m7, m8, m9, m10, m11, m12, m13⟩)
    clear hbx hma hmi hlg h7 hno HMA HSQ HQ1 HMH HGS HV5 HG5
    revert HOM HLG HNO HIN
    generalize MV.msg ⟨h2, qA2, qc2, qp2, ⟨B0, j0, r0⟩, ⟨B1, j1, r1⟩, ⟨B2, j2, r2⟩⟩ = M2
    intro HOM HLG HNO HIN
    go_wp2
    refine wp_region_held_drew (S := fun W => ((W.cell? ⟨w.heap.size, 0, none⟩ = some (.slice y.1 q.name.length y.2) ∧ W.cell? ⟨w.heap.size, 1, none⟩ = some (.int .i64 q.kind) ∧ W.cell? ⟨w.heap.size, 2, none⟩ = some (.int .i64 q.cls)) ∧ (W.cell? ⟨w.heap.size + 1, 0, none⟩ = some (.int .i64 h2.id) ∧ W.cell? ⟨w.heap.size + 1, 1, none⟩ = some (.bool h2.resp) ∧ W.cell? ⟨w.heap.size + 1, 2, none⟩ = some (.int .i64 h2.op) ∧ W.cell? ⟨w.heap.size + 1, 3, none⟩ = some (.bool h2.aa) ∧ W.cell? ⟨w.heap.size + 1, 4, none⟩ = some (.bool h2.tc) ∧ W.cell? ⟨w.heap.size + 1, 5, none⟩ = some (.bool h2.rd) ∧ W.cell? ⟨w.heap.size + 1, 6, none⟩ = some (.bool h2.ra) ∧ W.cell? ⟨w.heap.size + 1, 7, none⟩ = some (.int .i64 h2.rc) ∧ W.cell? ⟨w.heap.size + 1, 8, none⟩ = some (.slice qA2 qp2.length qc2) ∧ W.cell? ⟨w.heap.size + 1, 9, none⟩ = some (.slice B0 r0.length j0) ∧ W.cell? ⟨w.heap.size + 1, 10, none⟩ = some (.slice B1 r1.length j1) ∧ W.cell? ⟨w.heap.size + 1, 11, none⟩ = some (.slice B2 r2.length j2) ∧ W.cell? ⟨w.heap.size + 1, 12, none⟩ = some (.bool h2.edns) ∧ W.cell? ⟨w.heap.size + 1, 13, none⟩ = some (.int .i64 h2.size)))) (by kernel_rfl) (by exact HSC.out _ HBC.out) (fun hHeld => ?_)
    refine wpAnyH_take (i := 0) (oi := { dst := some 77, op := Go.Op.load 41 (Go.Operand.tmp 4), type := 41, pos := "law.go:148", after := #[], guard := none }) (v := ?_) rfl (by kernel_rfl) (by kernel_rfl) (by kernel_rfl) (fun _ _ _ h => h) (Or.inl ⟨by kernel_rfl, ?_⟩) (by assumption) ?_
    rotate_left
    · intro W hSw
      try dsimp only at hSw
      go_simp
      all_goals (with_reducible rfl)
    try simp only [Act.put, List.setIfInBounds_toArray, List.set_cons_zero, List.set_cons_succ]
    refine wpAnyH_take (i := 1) (oi := { dst := some 78, op := Go.Op.load 43 (Go.Operand.tmp 5), type := 43, pos := "law.go:148", after := #[], guard := none }) (v := ?_) rfl (by kernel_rfl) (by kernel_rfl) (by kernel_rfl) (fun _ _ _ h => h) (Or.inl ⟨by kernel_rfl, ?_⟩) (by assumption) ?_
    rotate_left
    · intro W hSw
      try dsimp only at hSw
      go_simp
      all_goals (with_reducible rfl)
    try simp only [Act.put, List.setIfInBounds_toArray, List.set_cons_zero, List.set_cons_succ]
    refine wpAnyH_take (i := 4) (oi := { dst := some 81, op := Go.Op.move (Go.Operand.tmp 2), type := 23, pos := "law.go:148", after := #[], guard := none }) (v := ?_) rfl (by kernel_rfl) (by kernel_rfl) (by kernel_rfl) (fun _ _ _ h => h) (Or.inl ⟨by kernel_rfl, ?_⟩) (by assumption) ?_
    rotate_left
    · intro W hSw
      try dsimp only at hSw
      go_simp
      all_goals (with_reducible rfl)
    try simp only [Act.put, List.setIfInBounds_toArray, List.set_cons_zero, List.set_cons_succ]
    refine wpAnyH_ready (rs := [2, 3]) (by kernel_rfl) (by simp) ?_
    refine AllReadyH.cons (o := { dst := some 79, op := Go.Op.call { callee := Go.Callee.value (Go.Operand.func 21), args := #[Go.Operand.tmp 78], argTypes := #[43] }, type := 43, pos := "law.go:148", after := #[{ on := 1, ground := Go.Ground.data }], guard := none }) rfl (fun K hK => ?_) (AllReadyH.cons (o := { dst := some 80, op := Go.Op.buildSlice 23 0 #[], type := 23, pos := "law.go:148", after := #[], guard := none }) rfl (fun K hK => ?_) AllReadyH.nil)
    · go_simp
      refine (HOM.out _ HBC.out).mono ?_
      rintro e v1 ⟨m', rfl, hmsg, hown, hb⟩
      have HMG := Lib.hid hmsg
      have HOW := Lib.hid hown
      have HBC := Lib.hid (HBC.out.trans (hb.mono HBC.out.size))
      clear hmsg hown hb
      refine hK.out _ _ (by exact HSC.out _ HBC.out) (fun hHeld2 => ?_)
      clear hK K hHeld
      have hHeld := hHeld2
      clear hHeld2
      try simp only [Act.put, List.setIfInBounds_toArray, List.set_cons_zero, List.set_cons_succ]
      refine wpAnyH_ready (rs := [3]) (by kernel_rfl) (by simp) ?_
      refine AllReadyH.cons (o := { dst := some 80, op := Go.Op.buildSlice 23 0 #[], type := 23, pos := "law.go:148", after := #[], guard := none }) rfl (fun K hK => ?_) AllReadyH.nil
      refine step_build _ 23 9 t0 rfl Try.underlying23 ht0 ?_
      have hb := (Below.refl (v1).heap.size (v1)).alloc (Nat.le_refl _) (.cells #[] 9)
      have HOW := Lib.hid (HOW.out.keep fun g _ hg => hb.block g hg)
      have HLI := Lib.hid (show ((v1).alloc (.cells #[] 9)).heap[(v1).heap.size]? = some (.cells #[] 9 (0, 0)) from heap_alloc_new _ _)
      have HLB := Lib.hid (show w4.heap.size ≤ (v1).heap.size from HBC.out.size)
      have HBC := Lib.hid (HBC.out.trans (hb.mono HBC.out.size))
      clear hb
      refine hK.out _ _ (by exact HSC.out _ HBC.out) (fun hHeld2 => ?_)
      clear hK K hHeld
      have hHeld := hHeld2
      clear hHeld2
      try simp only [Act.put, List.setIfInBounds_toArray, List.set_cons_zero, List.set_cons_succ]
      refine wpAnyH_ready (rs := [5]) (by kernel_rfl) (by simp) ?_
      refine AllReadyH.cons (o := { dst := some 82, op := Go.Op.call { callee := Go.Callee.builtin Go.Builtin.append, args := #[Go.Operand.tmp 80, Go.Operand.tmp 81], argTypes := #[23, 23] }, type := 23, pos := "law.go:148", after := #[{ on := 3, ground := Go.Ground.data }, { on := 4, ground := Go.Ground.data }, { on := 2, ground := Go.Ground.chain }], guard := none }) rfl (fun K hK => ?_) AllReadyH.nil
      refine step_append _ 80 81 w4.heap.size 23 9 t0 _ 16 rfl Try.underlying23 ht0 hx0 hx1 hx2 rfl (.slice (some ⟨(v1).heap.size, 0, none⟩) 0 0) rfl ⟨_, rfl, HLB.out, HLI.out⟩ zA z.length zc _ (z.map sv) rfl (by rw [List.length_map]) (HZ.out _ (HCX.out _ HBC.out).below) (sv_one z) (Nat.le_trans c1 (by unfold maxLen; omega)) (by omega) HBC.out.size ?_
      intro vz v2 hzo hb _
      obtain ⟨Bz, cz, rfl, _, _⟩ := own_form hzo
      have HOW := Lib.hid (HOW.out.keep fun g _ hg => hb.block g hg)
      have HZO := Lib.hid hzo
      have HBC := Lib.hid (HBC.out.trans (hb.mono HBC.out.size))
      clear hzo hb
      refine hK.out _ _ (by exact HSC.out _ HBC.out) (fun hHeld2 => ?_)
      clear hK K hHeld
      have hHeld := hHeld2
      clear hHeld2
      try simp only [Act.put, List.setIfInBounds_toArray, List.set_cons_zero, List.set_cons_succ]
      refine wpAnyH_ready (rs := [6]) (by kernel_rfl) (by simp) ?_
      refine AllReadyH.cons (o := { dst := some 83, op := Go.Op.call { callee := Go.Callee.value (Go.Operand.func 20), args := #[Go.Operand.tmp 77, Go.Operand.tmp 79, Go.Operand.tmp 82, Go.Operand.const (Go.Value.int Go.IntKind.i64 5)], argTypes := #[41, 43, 23, 3] }, type := 45, pos := "law.go:148", after := #[{ on := 0, ground := Go.Ground.data }, { on := 2, ground := Go.Ground.data }, { on := 5, ground := Go.Ground.data }, { on := 5, ground := Go.Ground.chain }], guard := none }) rfl (fun K hK => ?_) AllReadyH.nil
      go_simp
      refine (S.frm _ y q m' Bz cz z 5 (HQ.out _ (HCX.out _ HBC.out).below) HQI.out c2 HQC.out HOW.out.at_ (HIN.out m' HMG.out HLG.out) (by rw [HMG.out]; exact HLG.out) (Row.of_own HZO.out) HZS.out c1 (own_cap HZO.out) HNW.out).mono ?_
      intro e v3 hfr
      rw [HMG.out] at hfr
      obtain ⟨Af, cf, xs, rfl, _, _, _, _, hnil, _, hb⟩ := hfr
      have e := hnil HNO.out
      subst e
      have HBC := Lib.hid (HBC.out.trans (hb.mono HBC.out.size))
      clear hb hnil
      refine hK.out _ _ (by exact HSC.out _ HBC.out) (fun hHeld2 => ?_)
      clear hK K hHeld
      have hHeld := hHeld2
      clear hHeld2
      try simp only [Act.put, List.setIfInBounds_toArray, List.set_cons_zero, List.set_cons_succ]
      refine wpAnyH_take (i := 7) (oi := { dst := some 84, op := Go.Op.call { callee := Go.Callee.builtin Go.Builtin.len, args := #[Go.Operand.tmp 83], argTypes := #[45] }, type := 3, pos := "law.go:148", after := #[{ on := 6, ground := Go.Ground.data }], guard := none }) (v := ?_) rfl (by kernel_rfl) (by kernel_rfl) (by kernel_rfl) (fun _ _ _ h => h) (Or.inl ⟨by kernel_rfl, ?_⟩) (by assumption) ?_
      rotate_left
      · intro W hSw
        try dsimp only at hSw
        go_simp
        all_goals (with_reducible rfl)
      try simp only [Act.put, List.setIfInBounds_toArray, List.set_cons_zero, List.set_cons_succ]
      refine wpAnyH_take (i := 8) (oi := { dst := some 85, op := Go.Op.binOp Go.BinOp.eql 3 (Go.Operand.tmp 84) (Go.Operand.const (Go.Value.int Go.IntKind.i64 0)) 3, type := 4, pos := "law.go:148", after := #[{ on := 7, ground := Go.Ground.data }], guard := none }) (v := ?_) rfl (by kernel_rfl) (by kernel_rfl) (by kernel_rfl) (fun _ _ _ h => h) (Or.inl ⟨by kernel_rfl, ?_⟩) (by assumption) ?_
      rotate_left
      · intro W hSw
        try dsimp only at hSw
        go_simp
        all_goals (with_reducible rfl)
      try simp only [Act.put, List.setIfInBounds_toArray, List.set_cons_zero, List.set_cons_succ]
      refine wpAnyH_take (i := 9) (oi := { dst := some 8, op := Go.Op.assign (Go.Operand.tmp 85), type := 4, pos := "law.go:148", after := #[{ on := 8, ground := Go.Ground.data }, { on := 6, ground := Go.Ground.chain }, { on := 0, ground := Go.Ground.phase }, { on := 1, ground := Go.Ground.phase }, { on := 2, ground := Go.Ground.phase }, { on := 3, ground := Go.Ground.phase }, { on := 4, ground := Go.Ground.phase }, { on := 5, ground := Go.Ground.phase }, { on := 6, ground := Go.Ground.phase }, { on := 7, ground := Go.Ground.phase }, { on := 8, ground := Go.Ground.phase }], guard := none }) (v := ?_) rfl (by kernel_rfl) (by kernel_rfl) (by kernel_rfl) (fun _ _ _ h => h) (Or.inl ⟨by kernel_rfl, ?_⟩) (by assumption) ?_
      rotate_left
      · intro W hSw
        try dsimp only at hSw
        go_simp
        all_goals (with_reducible rfl)
      try simp only [Act.put, List.setIfInBounds_toArray, List.set_cons_zero, List.set_cons_succ]
      refine wpAnyH_done (by kernel_rfl) ?_ _
      go_wp2
      go_ret
      exact ⟨rfl, (HCX.out _ HBC.out).below⟩
    · refine step_build _ 23 9 t0 rfl Try.underlying23 ht0 ?_
      have hb := (Below.refl (w4.drew).heap.size (w4.drew)).alloc (Nat.le_refl _) (.cells #[] 9)
      have HLI := Lib.hid (show ((w4.drew).alloc (.cells #[] 9)).heap[(w4.drew).heap.size]? = some (.cells #[] 9 (0, 0)) from heap_alloc_new _ _)
      have HLB := Lib.hid (show w4.heap.size ≤ (w4.drew).heap.size from HBC.out.size)
      have HBC := Lib.hid (HBC.out.trans (hb.mono HBC.out.size))
      clear hb
      refine hK.out _ _ (by exact HSC.out _ HBC.out) (fun hHeld2 => ?_)
      clear hK K hHeld
      have hHeld := hHeld2
      clear hHeld2
      try simp only [Act.put, List.setIfInBounds_toArray, List.set_cons_zero, List.set_cons_succ]
      refine wpAnyH_ready (rs := [2]) (by kernel_rfl) (by simp) ?_
      refine AllReadyH.cons (o := { dst := some 79, op := Go.Op.call { callee := Go.Callee.value (Go.Operand.func 21), args := #[Go.Operand.tmp 78], argTypes := #[43] }, type := 43, pos := "law.go:148", after := #[{ on := 1, ground := Go.Ground.data }], guard := none }) rfl (fun K hK => ?_) AllReadyH.nil
      go_simp
      refine (HOM.out _ HBC.out).mono ?_
      rintro e v4 ⟨m', rfl, hmsg, hown, hb⟩
      have HMG := Lib.hid hmsg
      have HLI := Lib.hid ((hb.block _ (heap_lt HLI.out)).trans HLI.out)
      have HOW := Lib.hid hown
      have HBC := Lib.hid (HBC.out.trans (hb.mono HBC.out.size))
      clear hmsg hown hb
      refine hK.out _ _ (by exact HSC.out _ HBC.out) (fun hHeld2 => ?_)
      clear hK K hHeld
      have hHeld := hHeld2
      clear hHeld2
      try simp only [Act.put, List.setIfInBounds_toArray, List.set_cons_zero, List.set_cons_succ]
      refine wpAnyH_ready (rs := [5]) (by kernel_rfl) (by simp) ?_
      refine AllReadyH.cons (o := { dst := some 82, op := Go.Op.call { callee := Go.Callee.builtin Go.Builtin.append, args := #[Go.Operand.tmp 80, Go.Operand.tmp 81], argTypes := #[23, 23] }, type := 23, pos := "law.go:148", after := #[{ on := 3, ground := Go.Ground.data }, { on := 4, ground := Go.Ground.data }, { on := 2, ground := Go.Ground.chain }], guard := none }) rfl (fun K hK => ?_) AllReadyH.nil
      refine step_append _ 80 81 w4.heap.size 23 9 t0 _ 16 rfl Try.underlying23 ht0 hx0 hx1 hx2 rfl (.slice (some ⟨(w4.drew).heap.size, 0, none⟩) 0 0) rfl ⟨_, rfl, HLB.out, HLI.out⟩ zA z.length zc _ (z.map sv) rfl (by rw [List.length_map]) (HZ.out _ (HCX.out _ HBC.out).below) (sv_one z) (Nat.le_trans c1 (by unfold maxLen; omega)) (by omega) HBC.out.size ?_
      intro vz v5 hzo hb _
      obtain ⟨Bz, cz, rfl, _, _⟩ := own_form hzo
      have HOW := Lib.hid (HOW.out.keep fun g _ hg => hb.block g hg)
      have HZO := Lib.hid hzo
      have HBC := Lib.hid (HBC.out.trans (hb.mono HBC.out.size))
      clear hzo hb
      refine hK.out _ _ (by exact HSC.out _ HBC.out) (fun hHeld2 => ?_)
      clear hK K hHeld
      have hHeld := hHeld2
      clear hHeld2
      try simp only [Act.put, List.setIfInBounds_toArray, List.set_cons_zero, List.set_cons_succ]
      refine wpAnyH_ready (rs := [6]) (by kernel_rfl) (by simp) ?_
      refine AllReadyH.cons (o := { dst := some 83, op := Go.Op.call { callee := Go.Callee.value (Go.Operand.func 20), args := #[Go.Operand.tmp 77, Go.Operand.tmp 79, Go.Operand.tmp 82, Go.Operand.const (Go.Value.int Go.IntKind.i64 5)], argTypes := #[41, 43, 23, 3] }, type := 45, pos := "law.go:148", after := #[{ on := 0, ground := Go.Ground.data }, { on := 2, ground := Go.Ground.data }, { on := 5, ground := Go.Ground.data }, { on := 5, ground := Go.Ground.chain }], guard := none }) rfl (fun K hK => ?_) AllReadyH.nil
      go_simp
      refine (S.frm _ y q m' Bz cz z 5 (HQ.out _ (HCX.out _ HBC.out).below) HQI.out c2 HQC.out HOW.out.at_ (HIN.out m' HMG.out HLG.out) (by rw [HMG.out]; exact HLG.out) (Row.of_own HZO.out) HZS.out c1 (own_cap HZO.out) HNW.out).mono ?_
      intro e v6 hfr
      rw [HMG.out] at hfr
      obtain ⟨Af, cf, xs, rfl, _, _, _, _, hnil, _, hb⟩ := hfr
      have e := hnil HNO.out
      subst e
      have HBC := Lib.hid (HBC.out.trans (hb.mono HBC.out.size))
      clear hb hnil
      refine hK.out _ _ (by exact HSC.out _ HBC.out) (fun hHeld2 => ?_)
      clear hK K hHeld
      have hHeld := hHeld2
      clear hHeld2
      try simp only [Act.put, List.setIfInBounds_toArray, List.set_cons_zero, List.set_cons_succ]
      refine wpAnyH_take (i := 7) (oi := { dst := some 84, op := Go.Op.call { callee := Go.Callee.builtin Go.Builtin.len, args := #[Go.Operand.tmp 83], argTypes := #[45] }, type := 3, pos := "law.go:148", after := #[{ on := 6, ground := Go.Ground.data }], guard := none }) (v := ?_) rfl (by kernel_rfl) (by kernel_rfl) (by kernel_rfl) (fun _ _ _ h => h) (Or.inl ⟨by kernel_rfl, ?_⟩) (by assumption) ?_
      rotate_left
      · intro W hSw
        try dsimp only at hSw
        go_simp
        all_goals (with_reducible rfl)
      try simp only [Act.put, List.setIfInBounds_toArray, List.set_cons_zero, List.set_cons_succ]
      refine wpAnyH_take (i := 8) (oi := { dst := some 85, op := Go.Op.binOp Go.BinOp.eql 3 (Go.Operand.tmp 84) (Go.Operand.const (Go.Value.int Go.IntKind.i64 0)) 3, type := 4, pos := "law.go:148", after := #[{ on := 7, ground := Go.Ground.data }], guard := none }) (v := ?_) rfl (by kernel_rfl) (by kernel_rfl) (by kernel_rfl) (fun _ _ _ h => h) (Or.inl ⟨by kernel_rfl, ?_⟩) (by assumption) ?_
      rotate_left
      · intro W hSw
        try dsimp only at hSw
        go_simp
        all_goals (with_reducible rfl)
      try simp only [Act.put, List.setIfInBounds_toArray, List.set_cons_zero, List.set_cons_succ]
      refine wpAnyH_take (i := 9) (oi := { dst := some 8, op := Go.Op.assign (Go.Operand.tmp 85), type := 4, pos := "law.go:148", after := #[{ on := 8, ground := Go.Ground.data }, { on := 6, ground := Go.Ground.chain }, { on := 0, ground := Go.Ground.phase }, { on := 1, ground := Go.Ground.phase }, { on := 2, ground := Go.Ground.phase }, { on := 3, ground := Go.Ground.phase }, { on := 4, ground := Go.Ground.phase }, { on := 5, ground := Go.Ground.phase }, { on := 6, ground := Go.Ground.phase }, { on := 7, ground := Go.Ground.phase }, { on := 8, ground := Go.Ground.phase }], guard := none }) (v := ?_) rfl (by kernel_rfl) (by kernel_rfl) (by kernel_rfl) (fun _ _ _ h => h) (Or.inl ⟨by kernel_rfl, ?_⟩) (by assumption) ?_
      rotate_left
      · intro W hSw
        try dsimp only at hSw
        go_simp
        all_goals (with_reducible rfl)
      try simp only [Act.put, List.setIfInBounds_toArray, List.set_cons_zero, List.set_cons_succ]
      refine wpAnyH_done (by kernel_rfl) ?_ _
      go_wp2
      go_ret
      exact ⟨rfl, (HCX.out _ HBC.out).below⟩

end Go.Proofs.Ythppgofpbpjglaa

namespace Go.Proofs.Ythppgofpbpjglaa
open Go.ChangeShapes Go.WideShapes Go.ChangeAt Go.RowKit

set_option maxRecDepth 100000 in
theorem fothers_lifted (os : Os) (started : os.Started) (H : Type) (enc : TypeId × Value → H) (F : Stop.Interp) :
    ReturnsInHanded {} Try.checked os 5 .any ((Rows.OpenSpec.upto Rows.factOthersSpec).pre6 enc Try.prog Try.f5 Rows.factOthersUptoRow.domain false) (((Rows.OpenSpec.upto Rows.factOthersSpec).at F).post enc Try.prog Try.f5 false true false false) := by
  refine returnsInHanded_of_cond (C := Try.checked) (s := Rows.OpenSpec.upto Rows.factOthersSpec) (k := Rows.uptoSmall) rfl Try.own started (by kernel_rfl) Try.func5
    (OpenSpec.witness (enc := enc) (C := Try.checked) (s := Rows.OpenSpec.upto Rows.factOthersSpec) (k := Rows.uptoSmall) rfl false ⟨#[], #[.agg #[.slice none 0 0, .int .i64 0, .int .i64 0], .agg #[.int .i64 0, .bool false, .int .i64 0, .bool false, .bool false, .bool false, .bool false, .int .i64 0, .slice none 0 0, .slice none 0 0, .slice none 0 0, .slice none 0 0, .bool false, .int .i64 0], .slice none 0 0, .int .u8 0], []⟩ 8 (by kernel_rfl) (by kernel_rfl) (by kernel_rfl)
      (x := ([.agg [.nil, .lit (.int .i64 0), .lit (.int .i64 0)], .agg [.lit (.int .i64 0), .lit (.bool false), .lit (.int .i64 0), .lit (.bool false), .lit (.bool false), .lit (.bool false), .lit (.bool false), .lit (.int .i64 0), .nil, .nil, .nil, .nil, .lit (.bool false), .lit (.int .i64 0)], .nil, .lit (.int .u8 0)], [], [])) (by kernel_rfl) rfl (by kernel_rfl)) ?_
  intro W base args ds gs before hval0 hW _ hk0 _
  have hval : ∀ (j : Nat) t v, Try.f5.params[j]? = some t → args[j]? = some v → Value.okWide Try.prog W .any base t v := hval0
  have hW' := hW
  obtain ⟨p, q, hA0, hV, rfl, _, _⟩ := hW
  have hA : DataW.TrodAll enc Try.prog W 0 (fun _ => true) true Try.f5.params.toList args.toList ds p := hA0
  rw [Try.params5] at hA hval
  obtain ⟨v0, v1, v2, v3, d0, d1, d2, d3, p0, p1, p2, p3, rfl, rfl, rfl, h0, h1, h2, h3⟩ := trodAll_four hA
  obtain ⟨rfl, rfl⟩ := trodVars_none hV
  have hk : Rows.uptoBulkAll ([d0, d1, d2, d3] : List (DataW H)) ≤ 1048576 := of_decide_eq_true hk0
  simp only [Rows.uptoBulkAll] at hk
  clear hk0 hA0
  obtain ⟨y0, q0, rfl, hq0, hi0, hc0⟩ := open_questionU (hval 0 41 v0 rfl rfl) h0 (fun x hx => hW'.lt x (by simp [hx])) (by omega)
  obtain ⟨m1, rfl, hm1, hs1⟩ := open_msg (hval 1 43 v1 rfl rfl) h1 (fun x hx => hW'.lt x (by simp [hx])) (by omega)
  obtain ⟨A2, c2, n2, rfl, hr2, hs2, hc2⟩ := open_nameU (hval 2 23 v2 rfl rfl) h2 (fun x hx => hW'.lt x (by simp [hx])) (by omega)
  obtain ⟨n3, rfl, rfl, rfl, w3⟩ := open_int Try.underlying5 (hval 3 5 v3 rfl rfl) h3
  have key : Calls Try.prog 5 #[valQ y0 q0, m1.val, .slice A2 n2.length c2, .int .u8 n3] W (TrueB W) := by
    obtain ⟨k, rfl, hk3⟩ := u8_nat13 w3
    obtain ⟨h, qA, qc, qp, ⟨B0, k0, p0⟩, ⟨B1, k1, p1⟩, ⟨B2, k2, p2⟩⟩ := m1
    exact fothers_core theFacts W y0 q0 _ h qA qc qp B0 B1 B2 k0 k1 k2 p0 p1 p2 rfl A2 c2 n2 k hk3 hq0 hi0 hc0 hm1 hs1 hr2 hs2 hc2
  refine key.mono fun e W' ⟨he, hb⟩ => ?_
  subst he
  exact ⟨_, rfl, law_post (P := Try.prog) (tb := 4) Try.laidOut (by kernel_rfl) (by kernel_rfl) (by kernel_rfl) Try.underlying4 rfl hW' rfl rfl rfl hb⟩

theorem fothers_holds : Rows.FactOthersUptoSaid :=
  OpenClaim.holds_of_cond 5 Try.f5 rfl rfl rfl rfl rfl rfl rfl ⟨rfl, rfl, rfl, rfl, rfl⟩ rfl rfl rfl rfl rfl (by kernel_rfl) Try.func5 (by kernel_rfl)
    (of_decide_eq_true (by kernel_rfl)) (by unfold Func.isWrapper; first | (rw [if_pos (by decide +kernel)]; kernel_rfl) | (rw [if_neg (by decide +kernel)]; exact ⟨rfl, rfl⟩))
    (fun os started H enc _ F => fothers_lifted os started H enc F)

end Go.Proofs.Ythppgofpbpjglaa
