/-
  FactKeeps in its form for what is not too great: fact.From changes nothing of the message that it is given, and what it answers shares nothing with it; of messages, questions and names that take at most 1,048,576 values and letters in all. No other condition.
-/
import Derived.Test.YthppgofpbpjglaaFbP10
import Derived.Test.YthppgofpbpjglaaFbP8
import Derived.Test.YthppgofpbpjglaaFbP4
import Derived.Test.YthppgofpbpjglaaFbP14
namespace Go.Proofs.Ythppgofpbpjglaa
open Go.RowKit

structure Shaken (B : Nat) (wl wr : World) : Prop where
  os : wr.os = wl.os
  tape : wr.tape = wl.tape
  output : wr.output = wl.output
  size : wr.heap.size = wl.heap.size
  low : ∀ j : Nat, j < B → wr.heap[j]? = wl.heap[j]?
  typ : ∀ (j : Nat) (L : Array Value) (T : TypeId), wl.heap[j]? = some (.cells L T (0, 0)) → T ≠ 9 → T ≠ 5 → wr.heap[j]? = wl.heap[j]?
  all : ∀ (j : Nat) (L : Array Value) (T : TypeId), wl.heap[j]? = some (.cells L T (0, 0)) → ∃ L', wr.heap[j]? = some (.cells L' T (0, 0)) ∧ L'.size = L.size
theorem Shaken.refl (B : Nat) (w : World) : Shaken B w w := ⟨rfl, rfl, rfl, rfl, fun _ _ => rfl, fun _ _ _ _ _ _ => rfl, fun _ L _ h => ⟨L, h, rfl⟩⟩
theorem Shaken.below {B : Nat} {wl wr : World} (h : Shaken B wl wr) : Below B wl wr := ⟨h.os, h.tape, h.output, by rw [h.size]; exact Nat.le_refl _, h.low⟩
theorem Shaken.cell {B : Nat} {wl wr : World} (h : Shaken B wl wr) {b : Nat} {L : Array Value} {T : TypeId} (hh : wl.heap[b]? = some (.cells L T (0, 0))) (h1 : T ≠ 9) (h2 : T ≠ 5) (o : Nat) : wr.cell? ⟨b, o, none⟩ = wl.cell? ⟨b, o, none⟩ := by
  have e := h.typ b L T hh h1 h2
  simp [World.cell?, e]
/-- A new string, or byte, is written over. -/
theorem Shaken.put {B H n : Nat} {wl wr : World} {A : Option Addr} {T : TypeId} {xs : List Value} (h : Shaken B wl wr) (hn : NewT wl B A n T) (hT : T = 9 ∨ T = 5) (hr : Row wl H A xs) (hx : xs.length = n) {k : Nat} (hk : k < n) :
    ∃ b off L u, A = some ⟨b, off, none⟩ ∧ Whole wr b T L ∧ L[off + k]? = some u ∧ ∀ V v, Whole V b T (L.set (off + k) v) → Grew (fun j => j = b) wr V → V.heap.size = wr.heap.size → Shaken B wl V := by
  obtain ⟨b, off, L0, hA, hB, hh⟩ := hn (by omega)
  subst hA
  obtain ⟨b', off', e, _, hc⟩ := hr.at_ (k := k) (by omega)
  injection e with e
  injection e with e1 e2
  subst e1
  subst e2
  obtain ⟨L', hh', hs⟩ := h.all b L0 T hh
  have hkl : off + k < L0.size := by
    simp only [World.cell?, hh] at hc
    rcases Nat.lt_or_ge (off + k) L0.size with hl | hl
    · exact hl
    · simp [Array.getElem?_eq_none hl] at hc
  have hk2 : off + k < L'.toList.length := by simpa [hs] using hkl
  refine ⟨b, off, L'.toList, L'.toList[off + k], rfl, by unfold Whole; simpa using hh', List.getElem?_eq_getElem hk2, fun V v hV hG hZ => ?_⟩
  have hbs := heap_lt hh
  refine ⟨hG.os.trans h.os, hG.tape.trans h.tape, hG.output.trans h.output, hZ.trans h.size, fun j hj => ?_, fun j L T' hj h1 h2 => ?_, fun j L T' hj => ?_⟩
  · exact (hG.block j (by rw [h.size]; omega) (by omega)).trans (h.low j hj)
  · have hne : j ≠ b := by
      intro e
      subst e
      rw [hj] at hh
      injection hh with hh
      injection hh with _ e2
      subst e2
      rcases hT with e3 | e3
      · exact h1 e3
      · exact h2 e3
    exact (hG.block j (by rw [h.size]; exact heap_lt hj) hne).trans (h.typ j L T' hj h1 h2)
  · by_cases e : j = b
    · subst e
      rw [hj] at hh
      injection hh with hh
      injection hh with e1 e2
      subst e1
      subst e2
      refine ⟨(L'.toList.set (off + k) v).toArray, hV, ?_⟩
      simpa using hs
    · obtain ⟨L2, hL2, hs2⟩ := h.all j L T' hj
      exact ⟨L2, (hG.block j (by rw [h.size]; exact heap_lt hj) e).trans hL2, hs2⟩

def KeepRel (B : Nat) (wl : World) (n : Nat) (i : Value) (wr : World) : Prop := ∃ k : Nat, k ≤ n ∧ i = .int .i64 k ∧ Shaken B wl wr
theorem string_one : (Try.prog.info? 9).map (·.size) = some 1 := by kernel_rfl
theorem byte_one : (Try.prog.info? 5).map (·.size) = some 1 := by kernel_rfl

/-- A fact's two lists, as its cells tell them, whatever has been written over. -/
theorem fact_cells_at {B : Nat} {wl : World} {A : Option Addr} {xs : List FV} (hf : FsAt wl wl.heap.size A xs) (hn : NewT wl B A xs.length 50) {k : Nat} (hk : k < xs.length) :
    ∃ b off, A = some ⟨b, off, none⟩ ∧ ∀ wr, Shaken B wl wr → wr.cell? ⟨b, off + k * 13, none⟩ = some (.slice xs[k].A xs[k].name.length xs[k].c) ∧ wr.cell? ⟨b, off + k * 13 + 6, none⟩ = some (.slice xs[k].sA xs[k].sp.length xs[k].sc) := by
  obtain ⟨b, off, e, _, _, hc⟩ := hf.at_ hk
  obtain ⟨b', off', L, e', _, hh⟩ := hn (by omega)
  subst e
  injection e' with e'
  injection e' with e1 e2
  subst e1
  subst e2
  refine ⟨b, off, rfl, fun wr hs => ⟨?_, ?_⟩⟩
  · rw [hs.cell hh (by decide) (by decide)]; exact hc 0 _ rfl
  · rw [hs.cell hh (by decide) (by decide)]; exact hc 6 _ rfl
/-- Data's first two lists likewise. -/
theorem data_cells_at {B H : Nat} {wl : World} {A : Option Addr} {ps : List (DV × Dt)} (hf : DsAt wl H A ps) (hn : NewT wl B A ps.length 34) {k : Nat} (hk : k < ps.length) :
    ∃ b off, A = some ⟨b, off, none⟩ ∧ ∀ wr, Shaken B wl wr → wr.cell? ⟨b, off + k * 5, none⟩ = some (.slice (ps[k]).1.Ab (ps[k]).2.bytes.length (ps[k]).1.cb) ∧ wr.cell? ⟨b, off + k * 5 + 1, none⟩ = some (.slice (ps[k]).1.Ah (ps[k]).2.host.length (ps[k]).1.ch) := by
  obtain ⟨b, off, e, _, _, q0, q1, _, _, _⟩ := hf.at_ hk
  obtain ⟨b', off', L, e', _, hh⟩ := hn (by omega)
  subst e
  injection e' with e'
  injection e' with e1 e2
  subst e1
  subst e2
  refine ⟨b, off, rfl, fun wr hs => ⟨?_, ?_⟩⟩
  · rw [hs.cell hh (by decide) (by decide)]; exact q0
  · rw [hs.cell hh (by decide) (by decide)]; exact q1

end Go.Proofs.Ythppgofpbpjglaa

namespace Go.Proofs.Ythppgofpbpjglaa
open Go.RowKit

def SameQRel (W : World) (k0 : Nat) (i : Value) (wr : World) : Prop := ∃ k : Nat, k ≤ k0 ∧ i = .int .i64 k ∧ Below W.heap.size W wr
set_option maxRecDepth 20000 in
set_option maxHeartbeats 8000000 in
theorem samemsg_core (w : World) (h : Hd) (qA qB : Option Addr) (qc qd : Nat) (qp qr : List (QV × Qt)) (A0 A1 A2 B0 B1 B2 : Option Addr) (k0 k1 k2 j0 j1 j2 : Nat) (p0 p1 p2 r0 r1 r2 : List (RV × Rt))
    (hq : QsAt w w.heap.size qA qp) (gq : QsAt w w.heap.size qB qr) (h0 : RsAt w w.heap.size A0 p0) (g0 : RsAt w w.heap.size B0 r0) (h1 : RsAt w w.heap.size A1 p1) (g1 : RsAt w w.heap.size B1 r1) (h2 : RsAt w w.heap.size A2 p2) (g2 : RsAt w w.heap.size B2 r2)
    (eq : qsts qp = qsts qr) (e0 : recs p0 = recs r0) (e1 : recs p1 = recs r1) (e2 : recs p2 = recs r2) (hsq : ∀ q ∈ qsts qp, soundQ q = true) (s0 : ∀ r ∈ recs p0, SoundR r) (s1 : ∀ r ∈ recs p1, SoundR r) (s2 : ∀ r ∈ recs p2, SoundR r)
    (lq : qp.length ≤ 1000) (l0 : p0.length ≤ 1000) (l1 : p1.length ≤ 1000) (l2 : p2.length ≤ 1000) :
    Calls Try.prog 22 #[valM h (.slice qA qp.length qc) (.slice A0 p0.length k0) (.slice A1 p1.length k1) (.slice A2 p2.length k2), valM h (.slice qB qr.length qd) (.slice B0 r0.length j0) (.slice B1 r1.length j1) (.slice B2 r2.length j2)] w (Gave w (.bool true)) := by
  have nq : qr.length = qp.length := by rw [← length_qsts qr, ← eq, length_qsts]
  have n0 : r0.length = p0.length := by rw [← length_recs r0, ← e0, length_recs]
  have n1 : r1.length = p1.length := by rw [← length_recs r1, ← e1, length_recs]
  have n2 : r2.length = p2.length := by rw [← length_recs r2, ← e2, length_recs]
  have HS0 := Lib.hid (fun W' (hb : Below w.heap.size w W') => sameRRs_self W' A0 B0 k0 j0 p0 r0 ((h0.below hb).mono hb.size) ((g0.below hb).mono hb.size) e0 s0 l0)
  have HS1 := Lib.hid (fun W' (hb : Below w.heap.size w W') => sameRRs_self W' A1 B1 k1 j1 p1 r1 ((h1.below hb).mono hb.size) ((g1.below hb).mono hb.size) e1 s1 l1)
  have HS2 := Lib.hid (fun W' (hb : Below w.heap.size w W') => sameRRs_self W' A2 B2 k2 j2 p2 r2 ((h2.below hb).mono hb.size) ((g2.below hb).mono hb.size) e2 s2 l2)
  rw [n0] at HS0
  rw [n1] at HS1
  rw [n2] at HS2
  have HQ := Lib.hid (fun W' (hb : Below w.heap.size w W') => hq.below hb)
  have HR := Lib.hid (fun W' (hb : Below w.heap.size w W') => gq.below hb)
  have HSQ := Lib.hid hsq
  have HE := Lib.hid (fun k (a1 : k < qp.length) (a2 : k < qr.length) => (show (qr[k]).2 = (qp[k]).2 from by
    have h3 : (qsts qr)[k]? = (qsts qp)[k]? := by rw [eq]
    unfold qsts at h3
    rw [List.getElem?_map, List.getElem?_map, List.getElem?_eq_getElem a1, List.getElem?_eq_getElem a2] at h3
    simpa using h3))
  have HNQ := Lib.hid nq
  rw [nq, n0, n1, n2]
  obtain ⟨W, hW⟩ : ∃ W, W = (w.alloc (.cells #[.int .i64 h.id, .bool h.resp, .int .i64 h.op, .bool h.aa, .bool h.tc, .bool h.rd, .bool h.ra, .int .i64 h.rc, .slice qA qp.length qc, .slice A0 p0.length k0, .slice A1 p1.length k1, .slice A2 p2.length k2, .bool h.edns, .int .i64 h.size] 43)).alloc (.cells #[.int .i64 h.id, .bool h.resp, .int .i64 h.op, .bool h.aa, .bool h.tc, .bool h.rd, .bool h.ra, .int .i64 h.rc, .slice qB qp.length qd, .slice B0 p0.length j0, .slice B1 p1.length j1, .slice B2 p2.length j2, .bool h.edns, .int .i64 h.size] 43) := ⟨_, rfl⟩
  have hB : Below w.heap.size w W := by rw [hW]; exact ((Below.refl _ _).alloc (Nat.le_refl _) _).alloc (by simp) _
  have hzW : W.heap.size = w.heap.size + 2 := by rw [hW]; simp
  have hw1 : Whole W w.heap.size 43 (cellsM h (.slice qA qp.length qc) (.slice A0 p0.length k0) (.slice A1 p1.length k1) (.slice A2 p2.length k2)) := by rw [hW]; exact (Whole.made w [.int .i64 h.id, .bool h.resp, .int .i64 h.op, .bool h.aa, .bool h.tc, .bool h.rd, .bool h.ra, .int .i64 h.rc, .slice qA qp.length qc, .slice A0 p0.length k0, .slice A1 p1.length k1, .slice A2 p2.length k2, .bool h.edns, .int .i64 h.size] _).alloc _
  have hw2 : Whole W (w.heap.size + 1) 43 (cellsM h (.slice qB qp.length qd) (.slice B0 p0.length j0) (.slice B1 p1.length j1) (.slice B2 p2.length j2)) := by
    rw [hW]
    have h1 := Whole.made (w.alloc (.cells #[.int .i64 h.id, .bool h.resp, .int .i64 h.op, .bool h.aa, .bool h.tc, .bool h.rd, .bool h.ra, .int .i64 h.rc, .slice qA qp.length qc, .slice A0 p0.length k0, .slice A1 p1.length k1, .slice A2 p2.length k2, .bool h.edns, .int .i64 h.size] 43)) [.int .i64 h.id, .bool h.resp, .int .i64 h.op, .bool h.aa, .bool h.tc, .bool h.rd, .bool h.ra, .int .i64 h.rc, .slice qB qp.length qd, .slice B0 p0.length j0, .slice B1 p1.length j1, .slice B2 p2.length j2, .bool h.edns, .int .i64 h.size] 43
    rw [show (w.alloc (.cells #[.int .i64 h.id, .bool h.resp, .int .i64 h.op, .bool h.aa, .bool h.tc, .bool h.rd, .bool h.ra, .int .i64 h.rc, .slice qA qp.length qc, .slice A0 p0.length k0, .slice A1 p1.length k1, .slice A2 p2.length k2, .bool h.edns, .int .i64 h.size] 43)).heap.size = w.heap.size + 1 by simp] at h1
    exact h1
  have HC := Lib.hid (fun (W' : World) (hb : Below W.heap.size W W') => (show (W'.cell? ⟨w.heap.size, 8, none⟩ = some (.slice qA qp.length qc) ∧ W'.cell? ⟨w.heap.size, 9, none⟩ = some (.slice A0 p0.length k0) ∧ W'.cell? ⟨w.heap.size, 10, none⟩ = some (.slice A1 p1.length k1) ∧ W'.cell? ⟨w.heap.size, 11, none⟩ = some (.slice A2 p2.length k2)) ∧
    (W'.cell? ⟨w.heap.size + 1, 8, none⟩ = some (.slice qB qp.length qd) ∧ W'.cell? ⟨w.heap.size + 1, 9, none⟩ = some (.slice B0 p0.length j0) ∧ W'.cell? ⟨w.heap.size + 1, 10, none⟩ = some (.slice B1 p1.length j1) ∧ W'.cell? ⟨w.heap.size + 1, 11, none⟩ = some (.slice B2 p2.length j2)) from by
      have a1 := hw1.below hb (by omega)
      have a2 := hw2.below hb (by omega)
      exact ⟨⟨a1.cell 8, a1.cell 9, a1.cell 10, a1.cell 11⟩, ⟨a2.cell 8, a2.cell 9, a2.cell 10, a2.cell 11⟩⟩))
  have HB := Lib.hid hB
  have HBW := Lib.hid (Below.refl W.heap.size W)
  clear hB hw1 hw2 hzW hq gq h0 g0 h1 g1 h2 g2 eq e0 e1 e2 hsq s0 s1 s2 nq n0 n1 n2
  subst hW
  go_enter Try.func22, Try.ntmps22
  go_wp2
  generalize (w.alloc (.cells #[.int .i64 h.id, .bool h.resp, .int .i64 h.op, .bool h.aa, .bool h.tc, .bool h.rd, .bool h.ra, .int .i64 h.rc, .slice qA qp.length qc, .slice A0 p0.length k0, .slice A1 p1.length k1, .slice A2 p2.length k2, .bool h.edns, .int .i64 h.size] 43)).alloc (.cells #[.int .i64 h.id, .bool h.resp, .int .i64 h.op, .bool h.aa, .bool h.tc, .bool h.rd, .bool h.ra, .int .i64 h.rc, .slice qB qp.length qd, .slice B0 p0.length j0, .slice B1 p1.length j1, .slice B2 p2.length j2, .bool h.edns, .int .i64 h.size] 43) = V at *
  go_loopw [5] (SameQRel V qp.length) (fun i _ => qp.length - (intOf i).toNat)
  case atStart => exact ⟨0, Nat.zero_le _, rfl, HBW.out⟩
  case round =>
  obtain ⟨k, hk, rfl, hb⟩ := hrel
  have HBR := Lib.hid hb
  obtain ⟨⟨m8, _, _, _⟩, ⟨n8, _, _, _⟩⟩ := HC.out wr hb
  clear hb
  by_cases hlt : k < qp.length
  · have hlq : k < qr.length := by rw [HNQ.out]; exact hlt
    have HBT := Lib.hid (HB.out.trans (HBR.out.mono HB.out.size))
    obtain ⟨b1, o1, rfl, hb1, hra, q0, q1, q2⟩ := (HQ.out _ HBT.out).at_ hlt
    obtain ⟨b2, o2, rfl, hb2, hrb, t0, t1, t2⟩ := (HR.out _ HBT.out).at_ hlq
    have hsr := HSQ.out _ (List.mem_map.2 ⟨qp[k], List.getElem_mem hlt, rfl⟩)
    have hee := HE.out k hlt hlq
    revert hra hrb q0 q1 q2 t0 t1 t2 hsr hee
    generalize qp[k] = p
    generalize qr[k] = q
    obtain ⟨x, r⟩ := p
    obtain ⟨y, r'⟩ := q
    intro hra q0 q1 q2 hrb t0 t1 t2 hsr hee
    dsimp only at hra q0 q1 q2 hrb t0 t1 t2 hsr hee
    subst hee
    have hnl := (show r'.name.length ≤ 127 from by
      unfold soundQ at hsr
      simp only [Bool.and_eq_true] at hsr
      exact sound_few hsr.1)
    have HX := Lib.hid (fun k => (show Calls Try.prog 17 #[.slice x.1 r'.name.length x.2, .slice y.1 r'.name.length y.2] (wr.drewN k) (fun e w' => e = .returned (.bool true) ∧ ∃ j, w' = wr.drewN j) from by
      have h1 := exact_any x.1 y.1 r'.name.length r'.name.length x.2 y.2 w.heap.size r'.name r'.name (wr.drewN k) rfl rfl (Row.drewN hra k) (Row.drewN hrb k) (by unfold maxLen; omega)
      refine h1.mono fun e w' ⟨ha, j, hj⟩ => ?_
      rw [show decide (r'.name = r'.name) = true by simp] at ha
      exact ⟨ha, k + j, by rw [hj, World.drewN_drewN]⟩))
    clear hra hrb hsr
    go_wp2
    go_quiet ((go_at_call 17; exact HX.out _))
    have HBN := Lib.hid (below_drewN' HBR.out nq)
    go_wp2
    exact ⟨⟨k + 1, by omega, by go_num, HBN.out⟩, by simp [intOf]; omega⟩
  · obtain rfl : k = qp.length := by omega
    have HBT := Lib.hid (HB.out.trans (HBR.out.mono HB.out.size))
    obtain ⟨⟨_, m9, _, _⟩, ⟨_, n9, _, _⟩⟩ := HC.out wr HBR.out
    go_wp2_with fail
    refine (HS0.out _ HBT.out).mono ?_
    rintro e w1 ⟨rfl, hb1⟩
    have HB1 := Lib.hid (HBR.out.trans (hb1.mono HBR.out.size))
    have HT1 := Lib.hid (HBT.out.trans (hb1.mono HBT.out.size))
    clear hb1 m9 n9
    obtain ⟨⟨_, _, m10, _⟩, ⟨_, _, n10, _⟩⟩ := HC.out w1 HB1.out
    go_wp2_with fail
    refine (HS1.out _ HT1.out).mono ?_
    rintro e w2 ⟨rfl, hb2⟩
    have HB2 := Lib.hid (HB1.out.trans (hb2.mono HB1.out.size))
    have HT2 := Lib.hid (HT1.out.trans (hb2.mono HT1.out.size))
    clear hb2 m10 n10
    obtain ⟨⟨_, _, _, m11⟩, ⟨_, _, _, n11⟩⟩ := HC.out w2 HB2.out
    go_wp2_with fail
    refine (HS2.out _ HT2.out).mono ?_
    rintro e w3 ⟨rfl, hb3⟩
    have HT3 := Lib.hid (HT2.out.trans (hb3.mono HT2.out.size))
    clear hb3
    go_wp2
    go_ret
    exact ⟨rfl, HT3.out⟩
/-- Messages that say the same are the same to the document. -/
theorem samemsg_self (w : World) (m m' : MV) (hm : MAt w w.heap.size m) (hm' : MAt w w.heap.size m') (he : m'.msg = m.msg) (hq : ∀ q ∈ m.msg.qs, soundQ q = true) (hr : ∀ r ∈ m.msg.all, SoundR r) (lq : m.qp.length ≤ 1000) (lr : ∀ i, (m.sec i).ps.length ≤ 1000) :
    Calls Try.prog 22 #[m.val, m'.val] w (Gave w (.bool true)) := by
  obtain ⟨h, qA, qc, qp, ⟨A0, k0, p0⟩, ⟨A1, k1, p1⟩, ⟨A2, k2, p2⟩⟩ := m
  obtain ⟨h', qB, qd, qr, ⟨B0, j0, r0⟩, ⟨B1, j1, r1⟩, ⟨B2, j2, r2⟩⟩ := m'
  unfold MV.msg at he
  injection he with e0 e1 e2 e3 e4
  dsimp only at e0
  subst e0
  have l0 : p0.length ≤ 1000 := lr 0
  have l1 : p1.length ≤ 1000 := lr 1
  have l2 : p2.length ≤ 1000 := lr 2
  exact samemsg_core w _ qA qB qc qd qp qr A0 A1 A2 B0 B1 B2 k0 k1 k2 j0 j1 j2 p0 p1 p2 r0 r1 r2 hm.q hm'.q hm.s0 hm'.s0 hm.s1 hm'.s1 hm.s2 hm'.s2 e1.symm e2.symm e3.symm e4.symm hq
    (fun r h => hr r (List.mem_append_left _ h)) (fun r h => hr r (List.mem_append_right _ (List.mem_append_left _ h))) (fun r h => hr r (List.mem_append_right _ (List.mem_append_right _ h))) lq l0 l1 l2

end Go.Proofs.Ythppgofpbpjglaa

namespace Go.Proofs.Ythppgofpbpjglaa
open Go.RowKit

def sameRW (a b : Rt) : Bool := decide (a.name = b.name) && (decide (a.kind = b.kind) && (decide (a.cls = b.cls) && (decide (a.ttl = b.ttl) && exactW a.data b.data)))
theorem sameRW_self (r : Rt) : sameRW r r = true := by simp [sameRW, exactW_self]

set_option maxRecDepth 100000 in
set_option maxHeartbeats 4000000 in
theorem sameRR_wide (x y : RV) (a b : Rt) (w : World) (hx : RAt w w.heap.size x a) (hy : RAt w w.heap.size y b) (hn : a.name.length ≤ maxLen) (la : Wide a.data) (lb : Wide b.data) (kh : a.data.host.length ≤ maxLen) (km : a.data.mail.length ≤ maxLen) :
    Calls Try.prog 87 #[x.val a, y.val b] w (Gave w (.bool (sameRW a b))) := by
  obtain ⟨W, hW⟩ : ∃ W, W = (w.alloc (.cells #[.slice x.A a.name.length x.c, .int .i64 a.kind, .int .i64 a.cls, .int .i64 a.ttl, .slice x.d.Ab a.data.bytes.length x.d.cb, .slice x.d.Ah a.data.host.length x.d.ch, .slice x.d.Am a.data.mail.length x.d.cm, .slice x.d.An a.data.nums.length x.d.cn, .slice x.d.At a.data.texts.length x.d.ct] 54)).alloc (.cells #[.slice y.A b.name.length y.c, .int .i64 b.kind, .int .i64 b.cls, .int .i64 b.ttl, .slice y.d.Ab b.data.bytes.length y.d.cb, .slice y.d.Ah b.data.host.length y.d.ch, .slice y.d.Am b.data.mail.length y.d.cm, .slice y.d.An b.data.nums.length y.d.cn, .slice y.d.At b.data.texts.length y.d.ct] 54) := ⟨_, rfl⟩
  have hz : (w.alloc (.cells #[.slice x.A a.name.length x.c, .int .i64 a.kind, .int .i64 a.cls, .int .i64 a.ttl, .slice x.d.Ab a.data.bytes.length x.d.cb, .slice x.d.Ah a.data.host.length x.d.ch, .slice x.d.Am a.data.mail.length x.d.cm, .slice x.d.An a.data.nums.length x.d.cn, .slice x.d.At a.data.texts.length x.d.ct] 54)).heap.size = w.heap.size + 1 := by simp
  have hB : Below w.heap.size w W := by rw [hW]; exact ((Below.refl _ _).alloc (Nat.le_refl _) _).alloc (by rw [hz]; omega) _
  have ha : Whole W w.heap.size 54 [.slice x.A a.name.length x.c, .int .i64 a.kind, .int .i64 a.cls, .int .i64 a.ttl, .slice x.d.Ab a.data.bytes.length x.d.cb, .slice x.d.Ah a.data.host.length x.d.ch, .slice x.d.Am a.data.mail.length x.d.cm, .slice x.d.An a.data.nums.length x.d.cn, .slice x.d.At a.data.texts.length x.d.ct] := by rw [hW]; exact (Whole.made w _ _).alloc _
  have hb : Whole W (w.heap.size + 1) 54 [.slice y.A b.name.length y.c, .int .i64 b.kind, .int .i64 b.cls, .int .i64 b.ttl, .slice y.d.Ab b.data.bytes.length y.d.cb, .slice y.d.Ah b.data.host.length y.d.ch, .slice y.d.Am b.data.mail.length y.d.cm, .slice y.d.An b.data.nums.length y.d.cn, .slice y.d.At b.data.texts.length y.d.ct] := by
    rw [hW]
    have h := Whole.made (w.alloc (.cells #[.slice x.A a.name.length x.c, .int .i64 a.kind, .int .i64 a.cls, .int .i64 a.ttl, .slice x.d.Ab a.data.bytes.length x.d.cb, .slice x.d.Ah a.data.host.length x.d.ch, .slice x.d.Am a.data.mail.length x.d.cm, .slice x.d.An a.data.nums.length x.d.cn, .slice x.d.At a.data.texts.length x.d.ct] 54)) [.slice y.A b.name.length y.c, .int .i64 b.kind, .int .i64 b.cls, .int .i64 b.ttl, .slice y.d.Ab b.data.bytes.length y.d.cb, .slice y.d.Ah b.data.host.length y.d.ch, .slice y.d.Am b.data.mail.length y.d.cm, .slice y.d.An b.data.nums.length y.d.cn, .slice y.d.At b.data.texts.length y.d.ct] 54
    rw [hz] at h
    exact h
  have hsz : w.heap.size + 2 ≤ W.heap.size := by rw [hW]; simp
  have HB0 := Lib.hid hB
  have HA0 := Lib.hid ha
  have HBB := Lib.hid hb
  have HX := Lib.hid hx
  have HY := Lib.hid hy
  have HE := Lib.hid (fun W' (h : Below w.heap.size w W') => exact_any x.A y.A a.name.length b.name.length x.c y.c w.heap.size a.name b.name W' rfl rfl (hx.below h).n (hy.below h).n hn)
  have HD := Lib.hid (fun W' (h : Below w.heap.size w W') => dexact_wide x.d y.d a.data b.data W' ((hx.below h).mono h.size).d ((hy.below h).mono h.size).d la lb kh km)
  have HS := Lib.hid (show sameRW a b = (decide (a.name = b.name) && (decide (a.kind = b.kind) && (decide (a.cls = b.cls) && (decide (a.ttl = b.ttl) && exactW a.data b.data)))) from rfl)
  clear hB ha hb hx hy hz
  subst hW
  go_enter Try.func87, Try.ntmps87
  go_wp2_with fail
  refine (HE.out _ HB0.out).mono ?_
  intro e w1 hg1
  obtain ⟨rfl, hb1⟩ := gave_drewn hg1
  have HWA := Lib.hid (HA0.out.below hb1 (by omega))
  have HWB := Lib.hid (HBB.out.below hb1 (by omega))
  have HB1 := Lib.hid (HB0.out.trans (hb1.mono HB0.out.size))
  clear hb1 hg1 HA0 HBB HB0 hsz
  cases h1 : decide (a.name = b.name) with
  | false =>
    rw [h1] at HS
    go_wp2
    go_ret
    exact ⟨by rw [HS.out]; rfl, HB1.out⟩
  | true =>
  rw [h1] at HS
  have p1 : w1.cell? ⟨w.heap.size, 1, none⟩ = some (.int .i64 a.kind) := Whole.cell (L := [.slice x.A a.name.length x.c, .int .i64 a.kind, .int .i64 a.cls, .int .i64 a.ttl, .slice x.d.Ab a.data.bytes.length x.d.cb, .slice x.d.Ah a.data.host.length x.d.ch, .slice x.d.Am a.data.mail.length x.d.cm, .slice x.d.An a.data.nums.length x.d.cn, .slice x.d.At a.data.texts.length x.d.ct]) HWA.out 1
  have p2 : w1.cell? ⟨w.heap.size, 2, none⟩ = some (.int .i64 a.cls) := Whole.cell (L := [.slice x.A a.name.length x.c, .int .i64 a.kind, .int .i64 a.cls, .int .i64 a.ttl, .slice x.d.Ab a.data.bytes.length x.d.cb, .slice x.d.Ah a.data.host.length x.d.ch, .slice x.d.Am a.data.mail.length x.d.cm, .slice x.d.An a.data.nums.length x.d.cn, .slice x.d.At a.data.texts.length x.d.ct]) HWA.out 2
  have p3 : w1.cell? ⟨w.heap.size, 3, none⟩ = some (.int .i64 a.ttl) := Whole.cell (L := [.slice x.A a.name.length x.c, .int .i64 a.kind, .int .i64 a.cls, .int .i64 a.ttl, .slice x.d.Ab a.data.bytes.length x.d.cb, .slice x.d.Ah a.data.host.length x.d.ch, .slice x.d.Am a.data.mail.length x.d.cm, .slice x.d.An a.data.nums.length x.d.cn, .slice x.d.At a.data.texts.length x.d.ct]) HWA.out 3
  have p4 : w1.cell? ⟨w.heap.size, 4, none⟩ = some (.slice x.d.Ab a.data.bytes.length x.d.cb) := Whole.cell (L := [.slice x.A a.name.length x.c, .int .i64 a.kind, .int .i64 a.cls, .int .i64 a.ttl, .slice x.d.Ab a.data.bytes.length x.d.cb, .slice x.d.Ah a.data.host.length x.d.ch, .slice x.d.Am a.data.mail.length x.d.cm, .slice x.d.An a.data.nums.length x.d.cn, .slice x.d.At a.data.texts.length x.d.ct]) HWA.out 4
  have p5 : w1.cell? ⟨w.heap.size, 5, none⟩ = some (.slice x.d.Ah a.data.host.length x.d.ch) := Whole.cell (L := [.slice x.A a.name.length x.c, .int .i64 a.kind, .int .i64 a.cls, .int .i64 a.ttl, .slice x.d.Ab a.data.bytes.length x.d.cb, .slice x.d.Ah a.data.host.length x.d.ch, .slice x.d.Am a.data.mail.length x.d.cm, .slice x.d.An a.data.nums.length x.d.cn, .slice x.d.At a.data.texts.length x.d.ct]) HWA.out 5
  have p6 : w1.cell? ⟨w.heap.size, 6, none⟩ = some (.slice x.d.Am a.data.mail.length x.d.cm) := Whole.cell (L := [.slice x.A a.name.length x.c, .int .i64 a.kind, .int .i64 a.cls, .int .i64 a.ttl, .slice x.d.Ab a.data.bytes.length x.d.cb, .slice x.d.Ah a.data.host.length x.d.ch, .slice x.d.Am a.data.mail.length x.d.cm, .slice x.d.An a.data.nums.length x.d.cn, .slice x.d.At a.data.texts.length x.d.ct]) HWA.out 6
  have p7 : w1.cell? ⟨w.heap.size, 7, none⟩ = some (.slice x.d.An a.data.nums.length x.d.cn) := Whole.cell (L := [.slice x.A a.name.length x.c, .int .i64 a.kind, .int .i64 a.cls, .int .i64 a.ttl, .slice x.d.Ab a.data.bytes.length x.d.cb, .slice x.d.Ah a.data.host.length x.d.ch, .slice x.d.Am a.data.mail.length x.d.cm, .slice x.d.An a.data.nums.length x.d.cn, .slice x.d.At a.data.texts.length x.d.ct]) HWA.out 7
  have p8 : w1.cell? ⟨w.heap.size, 8, none⟩ = some (.slice x.d.At a.data.texts.length x.d.ct) := Whole.cell (L := [.slice x.A a.name.length x.c, .int .i64 a.kind, .int .i64 a.cls, .int .i64 a.ttl, .slice x.d.Ab a.data.bytes.length x.d.cb, .slice x.d.Ah a.data.host.length x.d.ch, .slice x.d.Am a.data.mail.length x.d.cm, .slice x.d.An a.data.nums.length x.d.cn, .slice x.d.At a.data.texts.length x.d.ct]) HWA.out 8
  have q1 : w1.cell? ⟨w.heap.size + 1, 1, none⟩ = some (.int .i64 b.kind) := Whole.cell (L := [.slice y.A b.name.length y.c, .int .i64 b.kind, .int .i64 b.cls, .int .i64 b.ttl, .slice y.d.Ab b.data.bytes.length y.d.cb, .slice y.d.Ah b.data.host.length y.d.ch, .slice y.d.Am b.data.mail.length y.d.cm, .slice y.d.An b.data.nums.length y.d.cn, .slice y.d.At b.data.texts.length y.d.ct]) HWB.out 1
  have q2 : w1.cell? ⟨w.heap.size + 1, 2, none⟩ = some (.int .i64 b.cls) := Whole.cell (L := [.slice y.A b.name.length y.c, .int .i64 b.kind, .int .i64 b.cls, .int .i64 b.ttl, .slice y.d.Ab b.data.bytes.length y.d.cb, .slice y.d.Ah b.data.host.length y.d.ch, .slice y.d.Am b.data.mail.length y.d.cm, .slice y.d.An b.data.nums.length y.d.cn, .slice y.d.At b.data.texts.length y.d.ct]) HWB.out 2
  have q3 : w1.cell? ⟨w.heap.size + 1, 3, none⟩ = some (.int .i64 b.ttl) := Whole.cell (L := [.slice y.A b.name.length y.c, .int .i64 b.kind, .int .i64 b.cls, .int .i64 b.ttl, .slice y.d.Ab b.data.bytes.length y.d.cb, .slice y.d.Ah b.data.host.length y.d.ch, .slice y.d.Am b.data.mail.length y.d.cm, .slice y.d.An b.data.nums.length y.d.cn, .slice y.d.At b.data.texts.length y.d.ct]) HWB.out 3
  have q4 : w1.cell? ⟨w.heap.size + 1, 4, none⟩ = some (.slice y.d.Ab b.data.bytes.length y.d.cb) := Whole.cell (L := [.slice y.A b.name.length y.c, .int .i64 b.kind, .int .i64 b.cls, .int .i64 b.ttl, .slice y.d.Ab b.data.bytes.length y.d.cb, .slice y.d.Ah b.data.host.length y.d.ch, .slice y.d.Am b.data.mail.length y.d.cm, .slice y.d.An b.data.nums.length y.d.cn, .slice y.d.At b.data.texts.length y.d.ct]) HWB.out 4
  have q5 : w1.cell? ⟨w.heap.size + 1, 5, none⟩ = some (.slice y.d.Ah b.data.host.length y.d.ch) := Whole.cell (L := [.slice y.A b.name.length y.c, .int .i64 b.kind, .int .i64 b.cls, .int .i64 b.ttl, .slice y.d.Ab b.data.bytes.length y.d.cb, .slice y.d.Ah b.data.host.length y.d.ch, .slice y.d.Am b.data.mail.length y.d.cm, .slice y.d.An b.data.nums.length y.d.cn, .slice y.d.At b.data.texts.length y.d.ct]) HWB.out 5
  have q6 : w1.cell? ⟨w.heap.size + 1, 6, none⟩ = some (.slice y.d.Am b.data.mail.length y.d.cm) := Whole.cell (L := [.slice y.A b.name.length y.c, .int .i64 b.kind, .int .i64 b.cls, .int .i64 b.ttl, .slice y.d.Ab b.data.bytes.length y.d.cb, .slice y.d.Ah b.data.host.length y.d.ch, .slice y.d.Am b.data.mail.length y.d.cm, .slice y.d.An b.data.nums.length y.d.cn, .slice y.d.At b.data.texts.length y.d.ct]) HWB.out 6
  have q7 : w1.cell? ⟨w.heap.size + 1, 7, none⟩ = some (.slice y.d.An b.data.nums.length y.d.cn) := Whole.cell (L := [.slice y.A b.name.length y.c, .int .i64 b.kind, .int .i64 b.cls, .int .i64 b.ttl, .slice y.d.Ab b.data.bytes.length y.d.cb, .slice y.d.Ah b.data.host.length y.d.ch, .slice y.d.Am b.data.mail.length y.d.cm, .slice y.d.An b.data.nums.length y.d.cn, .slice y.d.At b.data.texts.length y.d.ct]) HWB.out 7
  have q8 : w1.cell? ⟨w.heap.size + 1, 8, none⟩ = some (.slice y.d.At b.data.texts.length y.d.ct) := Whole.cell (L := [.slice y.A b.name.length y.c, .int .i64 b.kind, .int .i64 b.cls, .int .i64 b.ttl, .slice y.d.Ab b.data.bytes.length y.d.cb, .slice y.d.Ah b.data.host.length y.d.ch, .slice y.d.Am b.data.mail.length y.d.cm, .slice y.d.An b.data.nums.length y.d.cn, .slice y.d.At b.data.texts.length y.d.ct]) HWB.out 8
  by_cases h2 : a.kind = b.kind
  case neg =>
    have t2 : (a.kind == b.kind) = false := by rw [beq_eq_false_iff_ne]; exact h2
    rw [show decide (a.kind = b.kind) = false from decide_eq_false h2] at HS
    clear h2
    go_wp2
    go_ret
    exact ⟨by rw [HS.out]; rfl, HB1.out⟩
  have t2 : (a.kind == b.kind) = true := by rw [beq_iff_eq]; exact h2
  rw [show decide (a.kind = b.kind) = true from decide_eq_true h2] at HS
  clear h2
  by_cases h3 : a.cls = b.cls
  case neg =>
    have t3 : (a.cls == b.cls) = false := by rw [beq_eq_false_iff_ne]; exact h3
    rw [show decide (a.cls = b.cls) = false from decide_eq_false h3] at HS
    clear h3
    go_wp2
    go_ret
    exact ⟨by rw [HS.out]; rfl, HB1.out⟩
  have t3 : (a.cls == b.cls) = true := by rw [beq_iff_eq]; exact h3
  rw [show decide (a.cls = b.cls) = true from decide_eq_true h3] at HS
  clear h3
  by_cases h4 : a.ttl = b.ttl
  case neg =>
    have t4 : (a.ttl == b.ttl) = false := by rw [beq_eq_false_iff_ne]; exact h4
    rw [show decide (a.ttl = b.ttl) = false from decide_eq_false h4] at HS
    clear h4
    go_wp2
    go_ret
    exact ⟨by rw [HS.out]; rfl, HB1.out⟩
  have t4 : (a.ttl == b.ttl) = true := by rw [beq_iff_eq]; exact h4
  rw [show decide (a.ttl = b.ttl) = true from decide_eq_true h4] at HS
  clear h4
  go_wp2_with fail
  refine (HD.out _ HB1.out).mono ?_
  rintro e w2 ⟨rfl, hb2⟩
  have HB2 := Lib.hid (HB1.out.trans (hb2.mono HB1.out.size))
  clear hb2
  go_wp2
  go_ret
  exact ⟨by rw [HS.out]; simp, HB2.out⟩

set_option maxRecDepth 20000 in
set_option maxHeartbeats 4000000 in
theorem sameRRs_wide (w : World) (A B : Option Addr) (c d : Nat) (ps qs : List (RV × Rt)) (hp : RsAt w w.heap.size A ps) (hq : RsAt w w.heap.size B qs) (he : recs ps = recs qs) (hs : ∀ r ∈ recs ps, RIn r ∧ LightR r) (hl : ps.length ≤ 1000) :
    Calls Try.prog 45 #[.slice A ps.length c, .slice B qs.length d] w (Gave w (.bool true)) := by
  have hlen : qs.length = ps.length := by rw [← length_recs qs, ← he, length_recs]
  have HP := Lib.hid (fun W' (h : Below w.heap.size w W') => hp.below h)
  have HQ := Lib.hid (fun W' (h : Below w.heap.size w W') => hq.below h)
  have HS := Lib.hid hs
  have HE := Lib.hid (fun k (h1 : k < ps.length) (h2 : k < qs.length) => (show (qs[k]).2 = (ps[k]).2 from by
    have h3 : (recs qs)[k]? = (recs ps)[k]? := by rw [he]
    unfold recs at h3
    rw [List.getElem?_map, List.getElem?_map, List.getElem?_eq_getElem h1, List.getElem?_eq_getElem h2] at h3
    simpa using h3))
  clear hp hq hs he
  have HLQ := Lib.hid hlen
  rw [hlen]
  clear hlen
  go_enter Try.func45, Try.ntmps45
  go_wp2
  go_loopw [5] (SameRsRel w ps.length) (fun i _ => ps.length - (intOf i).toNat)
  case atStart => exact ⟨0, Nat.zero_le _, rfl, Below.refl _ _⟩
  case round =>
  obtain ⟨k, hk, rfl, hb⟩ := hrel
  have HB := Lib.hid hb
  clear hb
  by_cases hlt : k < ps.length
  · have hlq : k < qs.length := by rw [HLQ.out]; exact hlt
    obtain ⟨b1, o1, rfl, hb1, hra, q0, q1, q2, q3, q4, q5, q6, q7, q8⟩ := (HP.out _ HB.out).at_ hlt
    obtain ⟨b2, o2, rfl, hb2, hrb, r0, r1, r2, r3, r4, r5, r6, r7, r8⟩ := (HQ.out _ HB.out).at_ hlq
    have hsr := HS.out _ (List.mem_map.2 ⟨ps[k], List.getElem_mem hlt, rfl⟩)
    have hee := HE.out k hlt hlq
    revert hra hrb q0 q1 q2 q3 q4 q5 q6 q7 q8 r0 r1 r2 r3 r4 r5 r6 r7 r8 hsr hee
    generalize ps[k] = p
    generalize qs[k] = q
    obtain ⟨x, r⟩ := p
    obtain ⟨y, r'⟩ := q
    intro hra q0 q1 q2 q3 q4 q5 q6 q7 q8 hrb r0 r1 r2 r3 r4 r5 r6 r7 r8 hsr hee
    dsimp only at hra q0 q1 q2 q3 q4 q5 q6 q7 q8 hrb r0 r1 r2 r3 r4 r5 r6 r7 r8 hsr hee
    subst hee
    obtain ⟨hin, hlr⟩ := hsr
    have hw1 := hlr.l0
    have hw2 := hlr.l1
    have hw3 := hlr.l2
    have HCL := Lib.hid (sameRR_wide x y r' r' wr.drew ((hra.below (Below.refl w.heap.size wr).drew).mono HB.out.size) ((hrb.below (Below.refl w.heap.size wr).drew).mono HB.out.size) (by unfold maxLen; omega) hin.d hin.d (by unfold maxLen; omega) (by unfold maxLen; omega))
    rw [sameRW_self] at HCL
    clear hra hrb hin hlr hw1 hw2 hw3
    go_wp2
    go_still_tail 8, (by kernel_rfl)
    change wpList _ _ _ _ _ wr.drew
    have HBD := Lib.hid HB.out.drew
    clear q0 q1 q2 q3 q4 q5 q6 q7 q8 r0 r1 r2 r3 r4 r5 r6 r7 r8
    go_wp2_with fail
    refine HCL.out.mono ?_
    rintro e w1 ⟨rfl, hb1⟩
    have HB1 := Lib.hid (HBD.out.trans (hb1.mono HBD.out.size))
    clear hb1
    go_wp2
    exact ⟨⟨k + 1, by omega, by go_num, HB1.out⟩, by simp [intOf]; omega⟩
  · obtain rfl : k = ps.length := by omega
    go_wp2
    go_ret
    exact ⟨rfl, HB.out⟩

set_option maxRecDepth 20000 in
set_option maxHeartbeats 8000000 in
theorem samemsg_wide (w : World) (h : Hd) (qA qB : Option Addr) (qc qd : Nat) (qp qr : List (QV × Qt)) (A0 A1 A2 B0 B1 B2 : Option Addr) (k0 k1 k2 j0 j1 j2 : Nat) (p0 p1 p2 r0 r1 r2 : List (RV × Rt))
    (hq : QsAt w w.heap.size qA qp) (gq : QsAt w w.heap.size qB qr) (h0 : RsAt w w.heap.size A0 p0) (g0 : RsAt w w.heap.size B0 r0) (h1 : RsAt w w.heap.size A1 p1) (g1 : RsAt w w.heap.size B1 r1) (h2 : RsAt w w.heap.size A2 p2) (g2 : RsAt w w.heap.size B2 r2)
    (eq : qsts qp = qsts qr) (e0 : recs p0 = recs r0) (e1 : recs p1 = recs r1) (e2 : recs p2 = recs r2) (hsq : ∀ q ∈ qsts qp, q.name.length ≤ maxLen) (s0 : ∀ r ∈ recs p0, RIn r ∧ LightR r) (s1 : ∀ r ∈ recs p1, RIn r ∧ LightR r) (s2 : ∀ r ∈ recs p2, RIn r ∧ LightR r)
    (lq : qp.length ≤ 1000) (l0 : p0.length ≤ 1000) (l1 : p1.length ≤ 1000) (l2 : p2.length ≤ 1000) :
    Calls Try.prog 22 #[valM h (.slice qA qp.length qc) (.slice A0 p0.length k0) (.slice A1 p1.length k1) (.slice A2 p2.length k2), valM h (.slice qB qr.length qd) (.slice B0 r0.length j0) (.slice B1 r1.length j1) (.slice B2 r2.length j2)] w (Gave w (.bool true)) := by
  have nq : qr.length = qp.length := by rw [← length_qsts qr, ← eq, length_qsts]
  have n0 : r0.length = p0.length := by rw [← length_recs r0, ← e0, length_recs]
  have n1 : r1.length = p1.length := by rw [← length_recs r1, ← e1, length_recs]
  have n2 : r2.length = p2.length := by rw [← length_recs r2, ← e2, length_recs]
  have HS0 := Lib.hid (fun W' (hb : Below w.heap.size w W') => sameRRs_wide W' A0 B0 k0 j0 p0 r0 ((h0.below hb).mono hb.size) ((g0.below hb).mono hb.size) e0 s0 l0)
  have HS1 := Lib.hid (fun W' (hb : Below w.heap.size w W') => sameRRs_wide W' A1 B1 k1 j1 p1 r1 ((h1.below hb).mono hb.size) ((g1.below hb).mono hb.size) e1 s1 l1)
  have HS2 := Lib.hid (fun W' (hb : Below w.heap.size w W') => sameRRs_wide W' A2 B2 k2 j2 p2 r2 ((h2.below hb).mono hb.size) ((g2.below hb).mono hb.size) e2 s2 l2)
  rw [n0] at HS0
  rw [n1] at HS1
  rw [n2] at HS2
  have HQ := Lib.hid (fun W' (hb : Below w.heap.size w W') => hq.below hb)
  have HR := Lib.hid (fun W' (hb : Below w.heap.size w W') => gq.below hb)
  have HSQ := Lib.hid hsq
  have HE := Lib.hid (fun k (a1 : k < qp.length) (a2 : k < qr.length) => (show (qr[k]).2 = (qp[k]).2 from by
    have h3 : (qsts qr)[k]? = (qsts qp)[k]? := by rw [eq]
    unfold qsts at h3
    rw [List.getElem?_map, List.getElem?_map, List.getElem?_eq_getElem a1, List.getElem?_eq_getElem a2] at h3
    simpa using h3))
  have HNQ := Lib.hid nq
  rw [nq, n0, n1, n2]
  obtain ⟨W, hW⟩ : ∃ W, W = (w.alloc (.cells #[.int .i64 h.id, .bool h.resp, .int .i64 h.op, .bool h.aa, .bool h.tc, .bool h.rd, .bool h.ra, .int .i64 h.rc, .slice qA qp.length qc, .slice A0 p0.length k0, .slice A1 p1.length k1, .slice A2 p2.length k2, .bool h.edns, .int .i64 h.size] 43)).alloc (.cells #[.int .i64 h.id, .bool h.resp, .int .i64 h.op, .bool h.aa, .bool h.tc, .bool h.rd, .bool h.ra, .int .i64 h.rc, .slice qB qp.length qd, .slice B0 p0.length j0, .slice B1 p1.length j1, .slice B2 p2.length j2, .bool h.edns, .int .i64 h.size] 43) := ⟨_, rfl⟩
  have hB : Below w.heap.size w W := by rw [hW]; exact ((Below.refl _ _).alloc (Nat.le_refl _) _).alloc (by simp) _
  have hzW : W.heap.size = w.heap.size + 2 := by rw [hW]; simp
  have hw1 : Whole W w.heap.size 43 (cellsM h (.slice qA qp.length qc) (.slice A0 p0.length k0) (.slice A1 p1.length k1) (.slice A2 p2.length k2)) := by rw [hW]; exact (Whole.made w [.int .i64 h.id, .bool h.resp, .int .i64 h.op, .bool h.aa, .bool h.tc, .bool h.rd, .bool h.ra, .int .i64 h.rc, .slice qA qp.length qc, .slice A0 p0.length k0, .slice A1 p1.length k1, .slice A2 p2.length k2, .bool h.edns, .int .i64 h.size] _).alloc _
  have hw2 : Whole W (w.heap.size + 1) 43 (cellsM h (.slice qB qp.length qd) (.slice B0 p0.length j0) (.slice B1 p1.length j1) (.slice B2 p2.length j2)) := by
    rw [hW]
    have h1 := Whole.made (w.alloc (.cells #[.int .i64 h.id, .bool h.resp, .int .i64 h.op, .bool h.aa, .bool h.tc, .bool h.rd, .bool h.ra, .int .i64 h.rc, .slice qA qp.length qc, .slice A0 p0.length k0, .slice A1 p1.length k1, .slice A2 p2.length k2, .bool h.edns, .int .i64 h.size] 43)) [.int .i64 h.id, .bool h.resp, .int .i64 h.op, .bool h.aa, .bool h.tc, .bool h.rd, .bool h.ra, .int .i64 h.rc, .slice qB qp.length qd, .slice B0 p0.length j0, .slice B1 p1.length j1, .slice B2 p2.length j2, .bool h.edns, .int .i64 h.size] 43
    rw [show (w.alloc (.cells #[.int .i64 h.id, .bool h.resp, .int .i64 h.op, .bool h.aa, .bool h.tc, .bool h.rd, .bool h.ra, .int .i64 h.rc, .slice qA qp.length qc, .slice A0 p0.length k0, .slice A1 p1.length k1, .slice A2 p2.length k2, .bool h.edns, .int .i64 h.size] 43)).heap.size = w.heap.size + 1 by simp] at h1
    exact h1
  have HC := Lib.hid (fun (W' : World) (hb : Below W.heap.size W W') => (show (W'.cell? ⟨w.heap.size, 8, none⟩ = some (.slice qA qp.length qc) ∧ W'.cell? ⟨w.heap.size, 9, none⟩ = some (.slice A0 p0.length k0) ∧ W'.cell? ⟨w.heap.size, 10, none⟩ = some (.slice A1 p1.length k1) ∧ W'.cell? ⟨w.heap.size, 11, none⟩ = some (.slice A2 p2.length k2)) ∧
    (W'.cell? ⟨w.heap.size + 1, 8, none⟩ = some (.slice qB qp.length qd) ∧ W'.cell? ⟨w.heap.size + 1, 9, none⟩ = some (.slice B0 p0.length j0) ∧ W'.cell? ⟨w.heap.size + 1, 10, none⟩ = some (.slice B1 p1.length j1) ∧ W'.cell? ⟨w.heap.size + 1, 11, none⟩ = some (.slice B2 p2.length j2)) from by
      have a1 := hw1.below hb (by omega)
      have a2 := hw2.below hb (by omega)
      exact ⟨⟨a1.cell 8, a1.cell 9, a1.cell 10, a1.cell 11⟩, ⟨a2.cell 8, a2.cell 9, a2.cell 10, a2.cell 11⟩⟩))
  have HB := Lib.hid hB
  have HBW := Lib.hid (Below.refl W.heap.size W)
  clear hB hw1 hw2 hzW hq gq h0 g0 h1 g1 h2 g2 eq e0 e1 e2 hsq s0 s1 s2 nq n0 n1 n2
  subst hW
  go_enter Try.func22, Try.ntmps22
  go_wp2
  generalize (w.alloc (.cells #[.int .i64 h.id, .bool h.resp, .int .i64 h.op, .bool h.aa, .bool h.tc, .bool h.rd, .bool h.ra, .int .i64 h.rc, .slice qA qp.length qc, .slice A0 p0.length k0, .slice A1 p1.length k1, .slice A2 p2.length k2, .bool h.edns, .int .i64 h.size] 43)).alloc (.cells #[.int .i64 h.id, .bool h.resp, .int .i64 h.op, .bool h.aa, .bool h.tc, .bool h.rd, .bool h.ra, .int .i64 h.rc, .slice qB qp.length qd, .slice B0 p0.length j0, .slice B1 p1.length j1, .slice B2 p2.length j2, .bool h.edns, .int .i64 h.size] 43) = V at *
  go_loopw [5] (SameQRel V qp.length) (fun i _ => qp.length - (intOf i).toNat)
  case atStart => exact ⟨0, Nat.zero_le _, rfl, HBW.out⟩
  case round =>
  obtain ⟨k, hk, rfl, hb⟩ := hrel
  have HBR := Lib.hid hb
  obtain ⟨⟨m8, _, _, _⟩, ⟨n8, _, _, _⟩⟩ := HC.out wr hb
  clear hb
  by_cases hlt : k < qp.length
  · have hlq : k < qr.length := by rw [HNQ.out]; exact hlt
    have HBT := Lib.hid (HB.out.trans (HBR.out.mono HB.out.size))
    obtain ⟨b1, o1, rfl, hb1, hra, q0, q1, q2⟩ := (HQ.out _ HBT.out).at_ hlt
    obtain ⟨b2, o2, rfl, hb2, hrb, t0, t1, t2⟩ := (HR.out _ HBT.out).at_ hlq
    have hsr := HSQ.out _ (List.mem_map.2 ⟨qp[k], List.getElem_mem hlt, rfl⟩)
    have hee := HE.out k hlt hlq
    revert hra hrb q0 q1 q2 t0 t1 t2 hsr hee
    generalize qp[k] = p
    generalize qr[k] = q
    obtain ⟨x, r⟩ := p
    obtain ⟨y, r'⟩ := q
    intro hra q0 q1 q2 hrb t0 t1 t2 hsr hee
    dsimp only at hra q0 q1 q2 hrb t0 t1 t2 hsr hee
    subst hee
    have hnl := hsr
    have HX := Lib.hid (fun k => (show Calls Try.prog 17 #[.slice x.1 r'.name.length x.2, .slice y.1 r'.name.length y.2] (wr.drewN k) (fun e w' => e = .returned (.bool true) ∧ ∃ j, w' = wr.drewN j) from by
      have h1 := exact_any x.1 y.1 r'.name.length r'.name.length x.2 y.2 w.heap.size r'.name r'.name (wr.drewN k) rfl rfl (Row.drewN hra k) (Row.drewN hrb k) hnl
      refine h1.mono fun e w' ⟨ha, j, hj⟩ => ?_
      rw [show decide (r'.name = r'.name) = true by simp] at ha
      exact ⟨ha, k + j, by rw [hj, World.drewN_drewN]⟩))
    clear hra hrb hsr
    go_wp2
    go_quiet ((go_at_call 17; exact HX.out _))
    have HBN := Lib.hid (below_drewN' HBR.out nq)
    go_wp2
    exact ⟨⟨k + 1, by omega, by go_num, HBN.out⟩, by simp [intOf]; omega⟩
  · obtain rfl : k = qp.length := by omega
    have HBT := Lib.hid (HB.out.trans (HBR.out.mono HB.out.size))
    obtain ⟨⟨_, m9, _, _⟩, ⟨_, n9, _, _⟩⟩ := HC.out wr HBR.out
    go_wp2_with fail
    refine (HS0.out _ HBT.out).mono ?_
    rintro e w1 ⟨rfl, hb1⟩
    have HB1 := Lib.hid (HBR.out.trans (hb1.mono HBR.out.size))
    have HT1 := Lib.hid (HBT.out.trans (hb1.mono HBT.out.size))
    clear hb1 m9 n9
    obtain ⟨⟨_, _, m10, _⟩, ⟨_, _, n10, _⟩⟩ := HC.out w1 HB1.out
    go_wp2_with fail
    refine (HS1.out _ HT1.out).mono ?_
    rintro e w2 ⟨rfl, hb2⟩
    have HB2 := Lib.hid (HB1.out.trans (hb2.mono HB1.out.size))
    have HT2 := Lib.hid (HT1.out.trans (hb2.mono HT1.out.size))
    clear hb2 m10 n10
    obtain ⟨⟨_, _, _, m11⟩, ⟨_, _, _, n11⟩⟩ := HC.out w2 HB2.out
    go_wp2_with fail
    refine (HS2.out _ HT2.out).mono ?_
    rintro e w3 ⟨rfl, hb3⟩
    have HT3 := Lib.hid (HT2.out.trans (hb3.mono HT2.out.size))
    clear hb3
    go_wp2
    go_ret
    exact ⟨rfl, HT3.out⟩
/-- Messages that say the same are the same to the document. -/
theorem samemsg_light (w : World) (m m' : MV) (hm : MAt w w.heap.size m) (hm' : MAt w w.heap.size m') (he : m'.msg = m.msg) (hq : ∀ q ∈ m.msg.qs, q.name.length ≤ maxLen) (hr : ∀ r ∈ m.msg.all, RIn r ∧ LightR r) (lq : m.qp.length ≤ 1000) (lr : ∀ i, (m.sec i).ps.length ≤ 1000) :
    Calls Try.prog 22 #[m.val, m'.val] w (Gave w (.bool true)) := by
  obtain ⟨h, qA, qc, qp, ⟨A0, k0, p0⟩, ⟨A1, k1, p1⟩, ⟨A2, k2, p2⟩⟩ := m
  obtain ⟨h', qB, qd, qr, ⟨B0, j0, r0⟩, ⟨B1, j1, r1⟩, ⟨B2, j2, r2⟩⟩ := m'
  unfold MV.msg at he
  injection he with e0 e1 e2 e3 e4
  dsimp only at e0
  subst e0
  have l0 : p0.length ≤ 1000 := lr 0
  have l1 : p1.length ≤ 1000 := lr 1
  have l2 : p2.length ≤ 1000 := lr 2
  exact samemsg_wide w _ qA qB qc qd qp qr A0 A1 A2 B0 B1 B2 k0 k1 k2 j0 j1 j2 p0 p1 p2 r0 r1 r2 hm.q hm'.q hm.s0 hm'.s0 hm.s1 hm'.s1 hm.s2 hm'.s2 e1.symm e2.symm e3.symm e4.symm hq
    (fun r h => hr r (List.mem_append_left _ h)) (fun r h => hr r (List.mem_append_right _ (List.mem_append_left _ h))) (fun r h => hr r (List.mem_append_right _ (List.mem_append_right _ h))) lq l0 l1 l2

end Go.Proofs.Ythppgofpbpjglaa

namespace Go.Proofs.Ythppgofpbpjglaa
open Go.RowKit

set_option maxRecDepth 20000 in
set_option maxHeartbeats 16000000 in
theorem fkeeps_core (S : FactSpec) (w : World) (y : QV) (q : Qt) (m : MV) (h : Hd) (qA : Option Addr) (qc : Nat) (qp : List (QV × Qt)) (A0 A1 A2 : Option Addr) (k0 k1 k2 : Nat) (p0 p1 p2 : List (RV × Rt)) (he : m = ⟨h, qA, qc, qp, ⟨A0, k0, p0⟩, ⟨A1, k1, p1⟩, ⟨A2, k2, p2⟩⟩) (zA : Option Addr) (zc : Nat) (z : List (List UInt8)) (hq : QAt w w.heap.size y q) (hqi : QIn q) (hqc : q.name.length ≤ y.2) (hm : MAt w w.heap.size m) (hs : MSafe m) (hz : Row w w.heap.size zA (z.map sv)) (hzs : szN z ≤ maxLen) (hzc : z.length ≤ zc) :
    Calls Try.prog 6 #[valQ y q, valM h (.slice qA qp.length qc) (.slice A0 p0.length k0) (.slice A1 p1.length k1) (.slice A2 p2.length k2), .slice zA z.length zc] w (TrueB w) := by
  obtain ⟨t0, ht0, hx0, hx1, hx2⟩ := info_parts str_info
  have ev : m.val = valM h (.slice qA qp.length qc) (.slice A0 p0.length k0) (.slice A1 p1.length k1) (.slice A2 p2.length k2) := by rw [he]
  have HA := Lib.hid (fun W' => fanswers_any S W')
  have hml := hs.n
  have HLT := Lib.hid (fun (W' : World) (hb : Below w.heap.size w W') => (show Calls Try.prog 19 #[valM h (.slice qA qp.length qc) (.slice A0 p0.length k0) (.slice A1 p1.length k1) (.slice A2 p2.length k2)] W' (Gave W' (.bool (lightG m.msg))) from by
    have e0 := hml.2 0
    have e1 := hml.2 1
    have e2 := hml.2 2
    have h1 := flight_any W' m ((hm.below hb).mono hb.size) (by
      have f0 : m.s0.ps.length ≤ 1048576 := e0
      have f1 : m.s1.ps.length ≤ 1048576 := e1
      have f2 : m.s2.ps.length ≤ 1048576 := e2
      omega) (by unfold maxLen; omega)
    rwa [ev] at h1))
  have HOM := Lib.hid (fun (W' : World) (hb : Below w.heap.size w W') (hl : LightG m.msg) => (show Calls Try.prog 21 #[valM h (.slice qA qp.length qc) (.slice A0 p0.length k0) (.slice A1 p1.length k1) (.slice A2 p2.length k2)] W' (OwnMOut W' m.msg) from by
    have h1 := ownMsg_any W' m ((hm.below hb).mono hb.size) (hs.smallG hl).1 (hs.smallG hl).2
    rwa [ev] at h1))
  have HIN := Lib.hid (fun (m' : MV) (e : m'.msg = m.msg) (hl : LightG m.msg) => ((hs.smallG hl).1.same e))
  have HBX := Lib.hid (QMBoxes.made w y q h (.slice qA qp.length qc) (.slice A0 p0.length k0) (.slice A1 p1.length k1) (.slice A2 p2.length k2))
  have HQ := Lib.hid (fun (W' : World) (hb : Below w.heap.size w W') => (show QAt W' W'.heap.size y q from (Row.below hq hb).mono hb.size))
  have HQI := Lib.hid hqi
  have HQC := Lib.hid hqc
  have HZ := Lib.hid (fun (W' : World) (hb : Below w.heap.size w W') => (hz.below hb).mono hb.size)
  have HZS := Lib.hid hzs
  have HZC := Lib.hid hzc
  have hzl := len_le_szN' hzs
  have hql := hqi.l
  have HNW := Lib.hid (show (Lit.int .i64 5).wf = true by decide)
  have HSM := Lib.hid (fun (W' : World) (hb : Below w.heap.size w W') (m' : MV) (hm' : MAt W' W'.heap.size m') (e : m'.msg = m.msg) (hl : LightG m.msg) => (show Calls Try.prog 22 #[m'.val, valM h (.slice qA qp.length qc) (.slice A0 p0.length k0) (.slice A1 p1.length k1) (.slice A2 p2.length k2)] W' (Gave W' (.bool true)) from by
    have hmi := (hs.smallG hl).1
    have hmi' := hmi.same e
    have h1 := samemsg_light W' m' m hm' ((hm.below hb).mono hb.size) e.symm (fun q hq => by
      obtain ⟨p, hp, rfl⟩ := List.mem_map.1 hq
      exact (hmi'.q p hp).n.1) (fun r hr => by
      obtain ⟨i, p, hp, rfl⟩ := mem_all hr
      exact hmi'.r i p hp) hmi'.ql hmi'.rl
    rwa [ev] at h1))
  clear hq hqi hqc hm hs hz hzs hzc he ev hml
  generalize m.msg = M at *
  clear m
  unfold maxLen at hzl
  go_enter Try.func6, Try.ntmps6
  go_wp2_with fail
  refine (HA.out _).mono ?_
  rintro e w1 ⟨rfl, hb1⟩
  have HB1 := Lib.hid (HBX.out.step hb1)
  obtain ⟨m0, m1, m2, m3, m4, m5, m6, m7, m8, m9, m10, m11, m12, m13⟩ := cells14 HB1.out.bm
  clear hb1
  go_wp2_with fail
  refine (HLT.out _ HB1.out.below).mono ?_
  rintro e w2 ⟨rfl, hb2⟩
  have HB2 := Lib.hid (HB1.out.step hb2)
  clear hb2 m0 m1 m2 m3 m4 m5 m6 m7 m8 m9 m10 m11 m12 m13 HB1
  cases hl : lightG M with
  | false =>
    go_wp2_with fail
    refine (HA.out _).mono ?_
    rintro e w3 ⟨rfl, hb3⟩
    have HB3 := Lib.hid (HB2.out.step hb3)
    clear hb3
    go_wp2
    go_ret
    exact ⟨rfl, HB3.out.below⟩
  | true =>
  have HLG := Lib.hid (lightG_iff hl)
  clear hl
  by_cases c1 : z.length ≤ 200
  case neg =>
    have d1 : decide ((200 : Int) < (z.length : Int)) = true := decide_eq_true (by omega)
    go_wp2_with fail
    refine (HA.out _).mono ?_
    rintro e w3 ⟨rfl, hb3⟩
    have HB3 := Lib.hid (HB2.out.step hb3)
    clear hb3
    go_wp2
    go_ret
    exact ⟨rfl, HB3.out.below⟩
  have d1 : decide ((200 : Int) < (z.length : Int)) = false := decide_eq_false (by omega)
  have q0 : w2.cell? ⟨w.heap.size, 0, none⟩ = some (.slice y.1 q.name.length y.2) := HB2.out.bq.cell 0
  by_cases c2 : q.name.length ≤ 200
  case neg =>
    have d2 : decide ((200 : Int) < (q.name.length : Int)) = true := decide_eq_true (by omega)
    go_wp2_with fail
    refine (HA.out _).mono ?_
    rintro e w3 ⟨rfl, hb3⟩
    have HB3 := Lib.hid (HB2.out.step hb3)
    clear hb3
    go_wp2
    go_ret
    exact ⟨rfl, HB3.out.below⟩
  have d2 : decide ((200 : Int) < (q.name.length : Int)) = false := decide_eq_false (by omega)
  obtain ⟨m0, m1, m2, m3, m4, m5, m6, m7, m8, m9, m10, m11, m12, m13⟩ := cells14 HB2.out.bm
  go_wp2_with fail
  refine (HOM.out _ HB2.out.below HLG.out).mono ?_
  rintro e w3 ⟨m', rfl, hmsg, hown, hb3⟩
  have HB3 := Lib.hid (HB2.out.step hb3)
  have HMG := Lib.hid hmsg
  have HOW := Lib.hid hown.at_
  have HMI2 := Lib.hid (HIN.out m' hmsg HLG.out)
  clear hmsg hown hb3 m0 m1 m2 m3 m4 m5 m6 m7 m8 m9 m10 m11 m12 m13 HIN HOM HLT HBX
  obtain ⟨h2, qA2, qc2, qp2, ⟨B0, j0, r0⟩, ⟨B1, j1, r1⟩, ⟨B2, j2, r2⟩⟩ := m'
  have hIB := Whole.made w3 (cellsM h2 (.slice qA2 qp2.length qc2) (.slice B0 r0.length j0) (.slice B1 r1.length j1) (.slice B2 r2.length j2)) 43
  have hBa : Below w3.heap.size w3 (w3.alloc (.cells #[.int .i64 h2.id, .bool h2.resp, .int .i64 h2.op, .bool h2.aa, .bool h2.tc, .bool h2.rd, .bool h2.ra, .int .i64 h2.rc, .slice qA2 qp2.length qc2, .slice B0 r0.length j0, .slice B1 r1.length j1, .slice B2 r2.length j2, .bool h2.edns, .int .i64 h2.size] 43)) := (Below.refl _ _).alloc (Nat.le_refl _) _
  have HIB0 := Lib.hid (show Whole (w3.alloc (.cells #[.int .i64 h2.id, .bool h2.resp, .int .i64 h2.op, .bool h2.aa, .bool h2.tc, .bool h2.rd, .bool h2.ra, .int .i64 h2.rc, .slice qA2 qp2.length qc2, .slice B0 r0.length j0, .slice B1 r1.length j1, .slice B2 r2.length j2, .bool h2.edns, .int .i64 h2.size] 43)) w3.heap.size 43 (cellsM h2 (.slice qA2 qp2.length qc2) (.slice B0 r0.length j0) (.slice B1 r1.length j1) (.slice B2 r2.length j2)) from hIB)
  have HBA := Lib.hid hBa
  clear hIB hBa
  go_upto_region 4 with fail
  generalize w3.alloc (.cells #[.int .i64 h2.id, .bool h2.resp, .int .i64 h2.op, .bool h2.aa, .bool h2.tc, .bool h2.rd, .bool h2.ra, .int .i64 h2.rc, .slice qA2 qp2.length qc2, .slice B0 r0.length j0, .slice B1 r1.length j1, .slice B2 r2.length j2, .bool h2.edns, .int .i64 h2.size] 43) = w4 at *
  have HB4 := Lib.hid (HB3.out.step HBA.out)
  have HCX := Lib.hid (fun (W' : World) (hb : Below w4.heap.size w4 W') => HB4.out.step hb)
  have HIB := Lib.hid (fun (W' : World) (hb : Below w4.heap.size w4 W') => HIB0.out.below hb HIB0.out.lt)
  have HM2 := Lib.hid (fun (W' : World) (hb : Below w4.heap.size w4 W') => (show MAt W' W'.heap.size ⟨h2, qA2, qc2, qp2, ⟨B0, j0, r0⟩, ⟨B1, j1, r1⟩, ⟨B2, j2, r2⟩⟩ from by
    have h1 := HBA.out.trans (hb.mono HBA.out.size)
    exact (HOW.out.below h1).mono h1.size))
  have HBC := Lib.hid (Below.refl w4.heap.size w4).drew
  have HSC := Lib.hid (show ∀ W, Below w4.heap.size w4 W → ((W.cell? ⟨w.heap.size, 0, none⟩ = some (.slice y.1 q.name.length y.2) ∧ W.cell? ⟨w.heap.size, 1, none⟩ = some (.int .i64 q.kind) ∧ W.cell? ⟨w.heap.size, 2, none⟩ = some (.int .i64 q.cls)) ∧ (W.cell? ⟨w3.heap.size, 0, none⟩ = some (.int .i64 h2.id) ∧ W.cell? ⟨w3.heap.size, 1, none⟩ = some (.bool h2.resp) ∧ W.cell? ⟨w3.heap.size, 2, none⟩ = some (.int .i64 h2.op) ∧ W.cell? ⟨w3.heap.size, 3, none⟩ = some (.bool h2.aa) ∧ W.cell? ⟨w3.heap.size, 4, none⟩ = some (.bool h2.tc) ∧ W.cell? ⟨w3.heap.size, 5, none⟩ = some (.bool h2.rd) ∧ W.cell? ⟨w3.heap.size, 6, none⟩ = some (.bool h2.ra) ∧ W.cell? ⟨w3.heap.size, 7, none⟩ = some (.int .i64 h2.rc) ∧ W.cell? ⟨w3.heap.size, 8, none⟩ = some (.slice qA2 qp2.length qc2) ∧ W.cell? ⟨w3.heap.size, 9, none⟩ = some (.slice B0 r0.length j0) ∧ W.cell? ⟨w3.heap.size, 10, none⟩ = some (.slice B1 r1.length j1) ∧ W.cell? ⟨w3.heap.size, 11, none⟩ = some (.slice B2 r2.length j2) ∧ W.cell? ⟨w3.heap.size, 12, none⟩ = some (.bool h2.edns) ∧ W.cell? ⟨w3.heap.size, 13, none⟩ = some (.int .i64 h2.size))) from fun W hb => by
    have h1 := (HCX.out W hb).bq
    obtain ⟨m0, m1, m2, m3, m4, m5, m6, m7, m8, m9, m10, m11, m12, m13⟩ := cells14 (HIB.out W hb)
    exact ⟨⟨h1.cell 0, h1.cell 1, h1.cell 2⟩, m0, m1, m2, m3, m4, m5, m6, m7, m8, m9, m10, m11, m12, m13⟩)
  go_cut [8] from 35 to 40 (fun s wx => FromRel w4 q M z 5 s wx)
  case first =>
    refine wp_region_held_drew (S := fun W => ((W.cell? ⟨w.heap.size, 0, none⟩ = some (.slice y.1 q.name.length y.2) ∧ W.cell? ⟨w.heap.size, 1, none⟩ = some (.int .i64 q.kind) ∧ W.cell? ⟨w.heap.size, 2, none⟩ = some (.int .i64 q.cls)) ∧ (W.cell? ⟨w3.heap.size, 0, none⟩ = some (.int .i64 h2.id) ∧ W.cell? ⟨w3.heap.size, 1, none⟩ = some (.bool h2.resp) ∧ W.cell? ⟨w3.heap.size, 2, none⟩ = some (.int .i64 h2.op) ∧ W.cell? ⟨w3.heap.size, 3, none⟩ = some (.bool h2.aa) ∧ W.cell? ⟨w3.heap.size, 4, none⟩ = some (.bool h2.tc) ∧ W.cell? ⟨w3.heap.size, 5, none⟩ = some (.bool h2.rd) ∧ W.cell? ⟨w3.heap.size, 6, none⟩ = some (.bool h2.ra) ∧ W.cell? ⟨w3.heap.size, 7, none⟩ = some (.int .i64 h2.rc) ∧ W.cell? ⟨w3.heap.size, 8, none⟩ = some (.slice qA2 qp2.length qc2) ∧ W.cell? ⟨w3.heap.size, 9, none⟩ = some (.slice B0 r0.length j0) ∧ W.cell? ⟨w3.heap.size, 10, none⟩ = some (.slice B1 r1.length j1) ∧ W.cell? ⟨w3.heap.size, 11, none⟩ = some (.slice B2 r2.length j2) ∧ W.cell? ⟨w3.heap.size, 12, none⟩ = some (.bool h2.edns) ∧ W.cell? ⟨w3.heap.size, 13, none⟩ = some (.int .i64 h2.size)))) (by kernel_rfl) (by exact HSC.out _ HBC.out) (fun hHeld => ?_)
    refine wpAnyH_take (i := 0) (oi := { dst := some 35, op := Go.Op.load 41 (Go.Operand.tmp 3), type := 41, pos := "law.go:157", after := #[], guard := none }) (v := ?_) rfl (by kernel_rfl) (by kernel_rfl) (by kernel_rfl) (fun _ _ _ h => h) (Or.inl ⟨by kernel_rfl, ?_⟩) (by assumption) ?_
    rotate_left
    · intro W hSw
      try dsimp only at hSw
      go_simp
      all_goals (with_reducible rfl)
    try simp only [Act.put, List.setIfInBounds_toArray, List.set_cons_zero, List.set_cons_succ]
    refine wpAnyH_take (i := 1) (oi := { dst := some 36, op := Go.Op.load 43 (Go.Operand.tmp 7), type := 43, pos := "law.go:157", after := #[], guard := none }) (v := ?_) rfl (by kernel_rfl) (by kernel_rfl) (by kernel_rfl) (fun _ _ _ h => h) (Or.inl ⟨by kernel_rfl, ?_⟩) (by assumption) ?_
    rotate_left
    · intro W hSw
      try dsimp only at hSw
      go_simp
      all_goals (with_reducible rfl)
    try simp only [Act.put, List.setIfInBounds_toArray, List.set_cons_zero, List.set_cons_succ]
    refine wpAnyH_take (i := 3) (oi := { dst := some 38, op := Go.Op.move (Go.Operand.tmp 2), type := 23, pos := "law.go:157", after := #[], guard := none }) (v := ?_) rfl (by kernel_rfl) (by kernel_rfl) (by kernel_rfl) (fun _ _ _ h => h) (Or.inl ⟨by kernel_rfl, ?_⟩) (by assumption) ?_
    rotate_left
    · intro W hSw
      try dsimp only at hSw
      go_simp
      all_goals (with_reducible rfl)
    try simp only [Act.put, List.setIfInBounds_toArray, List.set_cons_zero, List.set_cons_succ]
    refine wpAnyH_ready (rs := [2]) (by kernel_rfl) (by simp) ?_
    refine AllReadyH.cons (o := { dst := some 37, op := Go.Op.buildSlice 23 0 #[], type := 23, pos := "law.go:157", after := #[], guard := none }) rfl (fun K hK => ?_) AllReadyH.nil
    refine step_build _ 23 9 t0 rfl Try.underlying23 ht0 ?_
    have hb := (Below.refl (w4.drew).heap.size (w4.drew)).alloc (Nat.le_refl _) (.cells #[] 9)
    have HLI := Lib.hid (show ((w4.drew).alloc (.cells #[] 9)).heap[(w4.drew).heap.size]? = some (.cells #[] 9 (0, 0)) from heap_alloc_new _ _)
    have HLB := Lib.hid (show w4.heap.size ≤ (w4.drew).heap.size from HBC.out.size)
    have HBC := Lib.hid (HBC.out.trans (hb.mono HBC.out.size))
    clear hb
    refine hK.out _ _ (by exact HSC.out _ HBC.out) (fun hHeld2 => ?_)
    clear hK K hHeld
    have hHeld := hHeld2
    clear hHeld2
    try simp only [Act.put, List.setIfInBounds_toArray, List.set_cons_zero, List.set_cons_succ]
    refine wpAnyH_ready (rs := [4]) (by kernel_rfl) (by simp) ?_
    refine AllReadyH.cons (o := { dst := some 39, op := Go.Op.call { callee := Go.Callee.builtin Go.Builtin.append, args := #[Go.Operand.tmp 37, Go.Operand.tmp 38], argTypes := #[23, 23] }, type := 23, pos := "law.go:157", after := #[{ on := 2, ground := Go.Ground.data }, { on := 3, ground := Go.Ground.data }], guard := none }) rfl (fun K hK => ?_) AllReadyH.nil
    refine step_append _ 37 38 w4.heap.size 23 9 t0 _ 16 rfl Try.underlying23 ht0 hx0 hx1 hx2 rfl (.slice (some ⟨(w4.drew).heap.size, 0, none⟩) 0 0) rfl ⟨_, rfl, HLB.out, HLI.out⟩ zA z.length zc _ (z.map sv) rfl (by rw [List.length_map]) (HZ.out _ (HCX.out _ HBC.out).below) (sv_one z) (Nat.le_trans c1 (by unfold maxLen; omega)) (by omega) HBC.out.size ?_
    intro vz v1 hzo hb _
    obtain ⟨Bz, cz, rfl, _, _⟩ := own_form hzo
    have HZO := Lib.hid hzo
    have HBC := Lib.hid (HBC.out.trans (hb.mono HBC.out.size))
    clear hzo hb
    refine hK.out _ _ (by exact HSC.out _ HBC.out) (fun hHeld2 => ?_)
    clear hK K hHeld
    have hHeld := hHeld2
    clear hHeld2
    try simp only [Act.put, List.setIfInBounds_toArray, List.set_cons_zero, List.set_cons_succ]
    refine wpAnyH_ready (rs := [5]) (by kernel_rfl) (by simp) ?_
    refine AllReadyH.cons (o := { dst := some 40, op := Go.Op.call { callee := Go.Callee.value (Go.Operand.func 20), args := #[Go.Operand.tmp 35, Go.Operand.tmp 36, Go.Operand.tmp 39, Go.Operand.const (Go.Value.int Go.IntKind.i64 5)], argTypes := #[41, 43, 23, 3] }, type := 45, pos := "law.go:157", after := #[{ on := 0, ground := Go.Ground.data }, { on := 1, ground := Go.Ground.data }, { on := 4, ground := Go.Ground.data }, { on := 4, ground := Go.Ground.chain }], guard := none }) rfl (fun K hK => ?_) AllReadyH.nil
    go_simp
    refine (S.frm _ y q ⟨h2, qA2, qc2, qp2, ⟨B0, j0, r0⟩, ⟨B1, j1, r1⟩, ⟨B2, j2, r2⟩⟩ Bz cz z 5 (HQ.out _ (HCX.out _ HBC.out).below) HQI.out c2 HQC.out ((HM2.out _ HBC.out)) HMI2.out (by rw [HMG.out]; exact HLG.out) (Row.of_own HZO.out) HZS.out c1 (own_cap HZO.out) HNW.out).mono ?_
    intro e v2 hfr
    rw [HMG.out] at hfr
    have HFR := Lib.hid hfr
    obtain ⟨Af, cf, xs, rfl, _, _, _, _, _, _, hb⟩ := hfr
    have HFR := Lib.hid (show FromRel w4 q M z 5 (.slice Af xs.length cf) v2 from ⟨_, HBC.out, HFR.out⟩)
    have HBC := Lib.hid (HBC.out.trans (hb.mono HBC.out.size))
    clear hb
    refine hK.out _ _ (by exact HSC.out _ HBC.out) (fun hHeld2 => ?_)
    clear hK K hHeld
    have hHeld := hHeld2
    clear hHeld2
    try simp only [Act.put, List.setIfInBounds_toArray, List.set_cons_zero, List.set_cons_succ]
    refine wpAnyH_take (i := 6) (oi := { dst := some 8, op := Go.Op.assign (Go.Operand.tmp 40), type := 45, pos := "law.go:157", after := #[{ on := 5, ground := Go.Ground.data }, { on := 5, ground := Go.Ground.chain }, { on := 0, ground := Go.Ground.phase }, { on := 1, ground := Go.Ground.phase }, { on := 2, ground := Go.Ground.phase }, { on := 3, ground := Go.Ground.phase }, { on := 4, ground := Go.Ground.phase }, { on := 5, ground := Go.Ground.phase }], guard := none }) (v := ?_) rfl (by kernel_rfl) (by kernel_rfl) (by kernel_rfl) (fun _ _ _ h => h) (Or.inl ⟨by kernel_rfl, ?_⟩) (by assumption) ?_
    rotate_left
    · intro W hSw
      try dsimp only at hSw
      go_simp
      all_goals (with_reducible rfl)
    try simp only [Act.put, List.setIfInBounds_toArray, List.set_cons_zero, List.set_cons_succ]
    refine wpAnyH_done (by kernel_rfl) ?_ _
    go_wp2
    go_meet
    exact HFR.out
  case rest =>
    obtain ⟨wa, hwa, Af, cf, xs, e, hfs, hft, hff, hxl, _, htl, hbf⟩ := hcut
    injection e with e
    subst e
    have HEND := Lib.hid (fun (W' : World) (h : Shaken wa.heap.size wc W') => hwa.trans ((hbf.trans h.below).mono hwa.size))
    have HFS := Lib.hid hfs
    have HFT := Lib.hid hft
    have HFF := Lib.hid hff
    have HTL := Lib.hid htl
    unfold maxLen at hxl
    clear hwa hbf hfs hft hff htl HSC HBC HOW HBA HIB0 HB2 HB3 q0
    go_wp2
    go_loopw [9] (KeepRel wa.heap.size wc xs.length) (fun i _ => xs.length - (intOf i).toNat)
    case atStart => exact ⟨0, Nat.zero_le _, rfl, Shaken.refl _ _⟩
    case round =>
    obtain ⟨k, hk, rfl, hsh⟩ := hrel
    rename World => wx1
    have HSH1 := Lib.hid hsh
    clear hsh
    by_cases hlt : k < xs.length
    · obtain ⟨b, off, hA, hcs⟩ := fact_cells_at HFS.out HFT.out hlt
      subst hA
      have hfx := HFF.out _ (List.getElem_mem hlt)
      have hfa := HFS.out.2 _ (List.getElem_mem hlt)
      have hso := (HTL.out _ (List.getElem_mem hlt)).s
      obtain ⟨x, hx⟩ : ∃ x, x = xs[k] := ⟨_, rfl⟩
      rw [← hx] at hcs hfx hfa hso
      clear hx
      have hnl := sound_few (soundF_name hso)
      have hfi := soundF_in hso
      obtain ⟨A, c, name, hd, sA, sc, sp, zA2, zc2, zone, dv, soa⟩ := x
      dsimp only at hcs hfx hfa hfi
      have hnl : name.length ≤ 127 := hnl
      have hsl : sp.length ≤ maxLen := Nat.le_trans hfa.ls hfa.ks
      unfold maxLen at hsl
      have HCS := Lib.hid hcs
      have HFX := Lib.hid hfx
      have HFA := Lib.hid hfa
      have HFI := Lib.hid hfi
      clear hcs hfx hfa hfi hso
      have c0 := (HCS.out _ HSH1.out).1
      go_wp2
      go_loopw [10] (KeepRel wa.heap.size wc name.length) (fun i _ => name.length - (intOf i).toNat)
      case atStart => exact ⟨0, Nat.zero_le _, rfl, HSH1.out⟩
      case round =>
      obtain ⟨k2, hk2, rfl, hsh⟩ := hrel
      rename World => wx2
      have HSH2 := Lib.hid hsh
      clear hsh c0
      by_cases hl2 : k2 < name.length
      · obtain ⟨b2, off2, L2, u2', hA2, hw2, hu2, hput⟩ := HSH2.out.put HFX.out.n (.inl rfl) HFA.out.n (by rw [List.length_map]) hl2
        dsimp only at hA2
        subst hA2
        have c0 := (HCS.out _ HSH2.out).1
        have HPU := Lib.hid hput
        have HW2 := Lib.hid hw2
        have HU2 := Lib.hid hu2
        clear hput hw2 hu2
        go_wp2_with (
          refine wpList_store_one rfl 9 (.tmp 63) (.const (.string ⟨#[122, 122]⟩)) rfl b2 (off2 + k2) (.string ⟨#[122, 122]⟩) rfl rfl rfl string_one 9 L2 HW2.out u2' HU2.out ?_
          intro V hV hG hZ
          have HV := Lib.hid (HPU.out V _ hV hG hZ)
          clear hV hG hZ)
        exact ⟨⟨k2 + 1, by omega, by go_num, HV.out⟩, by simp [intOf]; omega⟩
      · obtain rfl : k2 = name.length := by omega
        have c0 := (HCS.out _ HSH2.out).1
        go_wp2
        clear c0
        go_loopw [11] (KeepRel wa.heap.size wc sp.length) (fun i _ => sp.length - (intOf i).toNat)
        case atStart => exact ⟨0, Nat.zero_le _, rfl, HSH2.out⟩
        case round =>
        obtain ⟨k3, hk3, rfl, hsh⟩ := hrel
        rename World => wx3
        have HSH3 := Lib.hid hsh
        clear hsh
        by_cases hl3 : k3 < sp.length
        · obtain ⟨b3, off3, hA3, hds⟩ := data_cells_at HFA.out.s HFX.out.s hl3
          dsimp only at hA3
          subst hA3
          have hdb := HFX.out.b _ (List.getElem_mem hl3)
          have hdh := HFX.out.h _ (List.getElem_mem hl3)
          have hda := HFA.out.s.2 _ (List.getElem_mem hl3)
          have hdi := HFI.out.s _ (List.getElem_mem hl3)
          dsimp only at hds hdb hdh hda hdi
          obtain ⟨p, hp⟩ : ∃ p, p = sp[k3] := ⟨_, rfl⟩
          rw [← hp] at hds hdb hdh hda hdi
          clear hp
          obtain ⟨⟨Ab, Ah, Am, An, At, cb, ch, cm, cn, ct⟩, ⟨bytes, host, mail, nums, texts⟩⟩ := p
          dsimp only at hds hdb hdh hda hdi
          have hbl : bytes.length ≤ maxLen := Nat.le_trans hda.lb hda.kb
          have hhl : host.length ≤ maxLen := hdi.w.h.1
          unfold maxLen at hbl hhl
          have HDS := Lib.hid hds
          have HDB := Lib.hid hdb
          have HDH := Lib.hid hdh
          have HDA := Lib.hid hda
          clear hds hdb hdh hda hdi
          have c6 := (HCS.out _ HSH3.out).2
          go_wp2
          clear c6
          go_loopw [12] (KeepRel wa.heap.size wc bytes.length) (fun i _ => bytes.length - (intOf i).toNat)
          case atStart => exact ⟨0, Nat.zero_le _, rfl, HSH3.out⟩
          case round =>
          obtain ⟨k4, hk4, rfl, hsh⟩ := hrel
          rename World => wx4
          have HSH4 := Lib.hid hsh
          clear hsh
          by_cases hl4 : k4 < bytes.length
          · obtain ⟨b4, off4, L4, u4', hA4, hw4, hu4, hput⟩ := HSH4.out.put HDB.out (.inr rfl) HDA.out.b (by rw [List.length_map]) hl4
            try dsimp only at hA4
            subst hA4
            have c6 := (HCS.out _ HSH4.out).2
            have d0 := (HDS.out _ HSH4.out).1
            have HPU := Lib.hid hput
            have HW4 := Lib.hid hw4
            have HU4 := Lib.hid hu4
            clear hput hw4 hu4
            go_wp2_with (
              refine wpList_store_one rfl 5 (.tmp 98) (.const (.int .u8 77)) rfl b4 (off4 + k4) (.int .u8 77) rfl rfl rfl byte_one 5 L4 HW4.out u4' HU4.out ?_
              intro V hV hG hZ
              have HV := Lib.hid (HPU.out V _ hV hG hZ)
              clear hV hG hZ)
            exact ⟨⟨k4 + 1, by omega, by go_num, HV.out⟩, by simp [intOf]; omega⟩
          · obtain rfl : k4 = bytes.length := by omega
            have c6 := (HCS.out _ HSH4.out).2
            have d0 := (HDS.out _ HSH4.out).1
            go_wp2
            clear c6 d0
            go_loopw [13] (KeepRel wa.heap.size wc host.length) (fun i _ => host.length - (intOf i).toNat)
            case atStart => exact ⟨0, Nat.zero_le _, rfl, HSH4.out⟩
            case round =>
            obtain ⟨k5, hk5, rfl, hsh⟩ := hrel
            rename World => wx5
            have HSH5 := Lib.hid hsh
            clear hsh
            by_cases hl5 : k5 < host.length
            · obtain ⟨b5, off5, L5, u5', hA5, hw5, hu5, hput⟩ := HSH5.out.put HDH.out (.inl rfl) HDA.out.h (by rw [List.length_map]) hl5
              try dsimp only at hA5
              subst hA5
              have c6 := (HCS.out _ HSH5.out).2
              have d1' := (HDS.out _ HSH5.out).2
              have HPU := Lib.hid hput
              have HW5 := Lib.hid hw5
              have HU5 := Lib.hid hu5
              clear hput hw5 hu5
              go_wp2_with (
                refine wpList_store_one rfl 9 (.tmp 123) (.const (.string ⟨#[121, 121]⟩)) rfl b5 (off5 + k5) (.string ⟨#[121, 121]⟩) rfl rfl rfl string_one 9 L5 HW5.out u5' HU5.out ?_
                intro V hV hG hZ
                have HV := Lib.hid (HPU.out V _ hV hG hZ)
                clear hV hG hZ)
              exact ⟨⟨k5 + 1, by omega, by go_num, HV.out⟩, by simp [intOf]; omega⟩
            · obtain rfl : k5 = host.length := by omega
              have c6 := (HCS.out _ HSH5.out).2
              have d1' := (HDS.out _ HSH5.out).2
              go_wp2
              exact ⟨⟨k3 + 1, by omega, by go_num, HSH5.out⟩, by simp [intOf]; omega⟩
        · obtain rfl : k3 = sp.length := by omega
          have c6 := (HCS.out _ HSH3.out).2
          go_wp2
          exact ⟨⟨k + 1, by omega, by go_num, HSH3.out⟩, by simp [intOf]; omega⟩
    · obtain rfl : k = xs.length := by omega
      have HE1 := Lib.hid (HEND.out _ HSH1.out)
      have HSF := Lib.hid (HSM.out _ (HCX.out _ HE1.out).below ⟨h2, qA2, qc2, qp2, ⟨B0, j0, r0⟩, ⟨B1, j1, r1⟩, ⟨B2, j2, r2⟩⟩ (HM2.out _ HE1.out) HMG.out HLG.out)
      obtain ⟨i0, i1, i2, i3, i4, i5, i6, i7, i8, i9, i10, i11, i12, i13⟩ := cells14 (HIB.out _ HE1.out)
      obtain ⟨m0, m1, m2, m3, m4, m5, m6, m7, m8, m9, m10, m11, m12, m13⟩ := cells14 (HCX.out _ HE1.out).bm
      go_wp2_with fail
      refine HSF.out.mono ?_
      rintro e w9 ⟨rfl, hb9⟩
      have HB9 := Lib.hid ((HCX.out _ HE1.out).step hb9)
      clear hb9
      go_wp2
      go_ret
      exact ⟨rfl, HB9.out.below⟩

end Go.Proofs.Ythppgofpbpjglaa

namespace Go.Proofs.Ythppgofpbpjglaa
open Go.ChangeShapes Go.WideShapes Go.ChangeAt Go.RowKit

set_option maxRecDepth 100000 in
theorem fkeeps_lifted (os : Os) (started : os.Started) (H : Type) (enc : TypeId × Value → H) (F : Stop.Interp) :
    ReturnsInHanded {} Try.checked os 6 .any ((Rows.OpenSpec.upto Rows.factKeepsSpec).pre6 enc Try.prog Try.f6 Rows.factKeepsUptoRow.domain false) (((Rows.OpenSpec.upto Rows.factKeepsSpec).at F).post enc Try.prog Try.f6 false true false false) := by
  refine returnsInHanded_of_cond (C := Try.checked) (s := Rows.OpenSpec.upto Rows.factKeepsSpec) (k := Rows.uptoSmall) rfl Try.own started (by kernel_rfl) Try.func6
    (OpenSpec.witness (enc := enc) (C := Try.checked) (s := Rows.OpenSpec.upto Rows.factKeepsSpec) (k := Rows.uptoSmall) rfl false ⟨#[], #[.agg #[.slice none 0 0, .int .i64 0, .int .i64 0], .agg #[.int .i64 0, .bool false, .int .i64 0, .bool false, .bool false, .bool false, .bool false, .int .i64 0, .slice none 0 0, .slice none 0 0, .slice none 0 0, .slice none 0 0, .bool false, .int .i64 0], .slice none 0 0], []⟩ 8 (by kernel_rfl) (by kernel_rfl) (by kernel_rfl)
      (x := ([.agg [.nil, .lit (.int .i64 0), .lit (.int .i64 0)], .agg [.lit (.int .i64 0), .lit (.bool false), .lit (.int .i64 0), .lit (.bool false), .lit (.bool false), .lit (.bool false), .lit (.bool false), .lit (.int .i64 0), .nil, .nil, .nil, .nil, .lit (.bool false), .lit (.int .i64 0)], .nil], [], [])) (by kernel_rfl) rfl (by kernel_rfl)) ?_
  intro W base args ds gs before hval0 hW _ hk0 _
  have hval : ∀ (j : Nat) t v, Try.f6.params[j]? = some t → args[j]? = some v → Value.okWide Try.prog W .any base t v := hval0
  have hW' := hW
  obtain ⟨p, q, hA0, hV, rfl, _, _⟩ := hW
  have hA : DataW.TrodAll enc Try.prog W 0 (fun _ => true) true Try.f6.params.toList args.toList ds p := hA0
  rw [Try.params6] at hA hval
  obtain ⟨v0, v1, v2, d0, d1, d2, p0, p1, p2, rfl, rfl, rfl, h0, h1, h2⟩ := trodAll_three hA
  obtain ⟨rfl, rfl⟩ := trodVars_none hV
  have hk : Rows.uptoBulkAll ([d0, d1, d2] : List (DataW H)) ≤ 1048576 := of_decide_eq_true hk0
  simp only [Rows.uptoBulkAll] at hk
  clear hk0 hA0
  obtain ⟨y0, q0, rfl, hq0, hi0, hc0⟩ := open_questionU (hval 0 41 v0 rfl rfl) h0 (fun x hx => hW'.lt x (by simp [hx])) (by omega)
  obtain ⟨m1, rfl, hm1, hs1⟩ := open_msg (hval 1 43 v1 rfl rfl) h1 (fun x hx => hW'.lt x (by simp [hx])) (by omega)
  obtain ⟨A2, c2, n2, rfl, hr2, hs2, hc2⟩ := open_nameU (hval 2 23 v2 rfl rfl) h2 (fun x hx => hW'.lt x (by simp [hx])) (by omega)
  have key : Calls Try.prog 6 #[valQ y0 q0, m1.val, .slice A2 n2.length c2] W (TrueB W) := by
    obtain ⟨h, qA, qc, qp, ⟨B0, k0, p0⟩, ⟨B1, k1, p1⟩, ⟨B2, k2, p2⟩⟩ := m1
    exact fkeeps_core theFacts W y0 q0 _ h qA qc qp B0 B1 B2 k0 k1 k2 p0 p1 p2 rfl A2 c2 n2 hq0 hi0 hc0 hm1 hs1 hr2 hs2 hc2
  refine key.mono fun e W' ⟨he, hb⟩ => ?_
  subst he
  exact ⟨_, rfl, law_post (P := Try.prog) (tb := 4) Try.laidOut (by kernel_rfl) (by kernel_rfl) (by kernel_rfl) Try.underlying4 rfl hW' rfl rfl rfl hb⟩

theorem fkeeps_holds : Rows.FactKeepsUptoSaid :=
  OpenClaim.holds_of_cond 6 Try.f6 rfl rfl rfl rfl rfl rfl rfl ⟨rfl, rfl, rfl, rfl, rfl⟩ rfl rfl rfl rfl rfl (by kernel_rfl) Try.func6 (by kernel_rfl)
    (of_decide_eq_true (by kernel_rfl)) (by unfold Func.isWrapper; first | (rw [if_pos (by decide +kernel)]; kernel_rfl) | (rw [if_neg (by decide +kernel)]; exact ⟨rfl, rfl⟩))
    (fun os started H enc _ F => fkeeps_lifted os started H enc F)

end Go.Proofs.Ythppgofpbpjglaa
