/-
  The contract of msg.Decode.
-/
import Derived.Test.YthppgofpbpjglaaGreatFbP9
import Derived.Test.YthppgofpbpjglaaGreatFbP8
import Derived.Test.YthppgofpbpjglaaGreatFbP1
import Derived.Lib.AppendZeros
import Derived.OpenShut
import Derived.JoinedCond
import Derived.Deep.CondSized
import Derived.Deep.RegionHeld3
namespace Go.Proofs.YthppgofpbpjglaaGreat
open Go.RowKit

set_option maxHeartbeats 2000000 in
/-- A whole message is stored; of the new world this much is told. -/
theorem wpList_storeM {w : World} {ops : Array Oper} {rest : List Oper} {o : Oper} {a : Act} {Q : Exit → Act → World → Prop} (g k1 k2 : Nat) (h : Hd) (Aq A0 A1 A2 : Option Addr) (nq cq n0 c0 n1 c1 n2 c2 : Nat) (L : List Value) (hg : o.guard = none) (ho : o.op = .store 28 (.tmp k1) (.tmp k2))
    (ha : a.tmps[k1]? = some (.pointer (some ⟨g, 0, none⟩))) (hu : a.tmps[k2]? = some (valM h (.slice Aq nq cq) (.slice A0 n0 c0) (.slice A1 n1 c1) (.slice A2 n2 c2))) (hw : Whole w g 28 L) (hl : L.length = 14)
    (hK : ∀ V, Whole V g 28 (cellsM h (.slice Aq nq cq) (.slice A0 n0 c0) (.slice A1 n1 c1) (.slice A2 n2 c2)) → Below g w V → (∀ j, j ≠ g → V.heap[j]? = w.heap[j]?) → V.heap.size = w.heap.size → wpList Tryz.prog ops Q rest (a.put o.dst undef) V) : wpList Tryz.prog ops Q (o :: rest) a w := by
  match L, hl with
  | [u0, u1, u2, u3, u4, u5, u6, u7, u8, u9, u10, u11, u12, u13], _ =>
  have q0 : w.cell? ⟨g, 0, none⟩ = some u0 := hw.cell 0
  have z0 : w.frozen? ⟨g, 0, none⟩ = false := hw.frozen 0
  have q1 : w.cell? ⟨g, 1, none⟩ = some u1 := hw.cell 1
  have z1 : w.frozen? ⟨g, 1, none⟩ = false := hw.frozen 1
  have q2 : w.cell? ⟨g, 2, none⟩ = some u2 := hw.cell 2
  have z2 : w.frozen? ⟨g, 2, none⟩ = false := hw.frozen 2
  have q3 : w.cell? ⟨g, 3, none⟩ = some u3 := hw.cell 3
  have z3 : w.frozen? ⟨g, 3, none⟩ = false := hw.frozen 3
  have q4 : w.cell? ⟨g, 4, none⟩ = some u4 := hw.cell 4
  have z4 : w.frozen? ⟨g, 4, none⟩ = false := hw.frozen 4
  have q5 : w.cell? ⟨g, 5, none⟩ = some u5 := hw.cell 5
  have z5 : w.frozen? ⟨g, 5, none⟩ = false := hw.frozen 5
  have q6 : w.cell? ⟨g, 6, none⟩ = some u6 := hw.cell 6
  have z6 : w.frozen? ⟨g, 6, none⟩ = false := hw.frozen 6
  have q7 : w.cell? ⟨g, 7, none⟩ = some u7 := hw.cell 7
  have z7 : w.frozen? ⟨g, 7, none⟩ = false := hw.frozen 7
  have q8 : w.cell? ⟨g, 8, none⟩ = some u8 := hw.cell 8
  have z8 : w.frozen? ⟨g, 8, none⟩ = false := hw.frozen 8
  have q9 : w.cell? ⟨g, 9, none⟩ = some u9 := hw.cell 9
  have z9 : w.frozen? ⟨g, 9, none⟩ = false := hw.frozen 9
  have q10 : w.cell? ⟨g, 10, none⟩ = some u10 := hw.cell 10
  have z10 : w.frozen? ⟨g, 10, none⟩ = false := hw.frozen 10
  have q11 : w.cell? ⟨g, 11, none⟩ = some u11 := hw.cell 11
  have z11 : w.frozen? ⟨g, 11, none⟩ = false := hw.frozen 11
  have q12 : w.cell? ⟨g, 12, none⟩ = some u12 := hw.cell 12
  have z12 : w.frozen? ⟨g, 12, none⟩ = false := hw.frozen 12
  have q13 : w.cell? ⟨g, 13, none⟩ = some u13 := hw.cell 13
  have z13 : w.frozen? ⟨g, 13, none⟩ = false := hw.frozen 13
  have hk := hK ((((((((((((((w.setCell ⟨g, 0, none⟩ (.int .i64 h.id)).setCell ⟨g, 1, none⟩ (.bool h.resp)).setCell ⟨g, 2, none⟩ (.int .i64 h.op)).setCell ⟨g, 3, none⟩ (.bool h.aa)).setCell ⟨g, 4, none⟩ (.bool h.tc)).setCell ⟨g, 5, none⟩ (.bool h.rd)).setCell ⟨g, 6, none⟩ (.bool h.ra)).setCell ⟨g, 7, none⟩ (.int .i64 h.rc)).setCell ⟨g, 8, none⟩ (.slice Aq nq cq)).setCell ⟨g, 9, none⟩ (.slice A0 n0 c0)).setCell ⟨g, 10, none⟩ (.slice A1 n1 c1)).setCell ⟨g, 11, none⟩ (.slice A2 n2 c2)).setCell ⟨g, 12, none⟩ (.bool h.edns)).setCell ⟨g, 13, none⟩ (.int .i64 h.size))
    ((((((((((((((hw.set_ 0 _).set_ 1 _).set_ 2 _).set_ 3 _).set_ 4 _).set_ 5 _).set_ 6 _).set_ 7 _).set_ 8 _).set_ 9 _).set_ 10 _).set_ 11 _).set_ 12 _).set_ 13 _)
    (by
      have hs (W : World) (i : Nat) (u : Value) : Below g W (W.setCell ⟨g, i, none⟩ u) := (Below.refl _ W).setCell (p := ⟨g, i, none⟩) (Nat.le_refl _) u
      exact ((((((((((((((hs _ 0 _).trans (hs _ 1 _)).trans (hs _ 2 _)).trans (hs _ 3 _)).trans (hs _ 4 _)).trans (hs _ 5 _)).trans (hs _ 6 _)).trans (hs _ 7 _)).trans (hs _ 8 _)).trans (hs _ 9 _)).trans (hs _ 10 _)).trans (hs _ 11 _)).trans (hs _ 12 _)).trans (hs _ 13 _)))
    (fun j hj => by
      have hs (W : World) (i : Nat) (u : Value) : (W.setCell ⟨g, i, none⟩ u).heap[j]? = W.heap[j]? := Below.heap_setCell W ⟨g, i, none⟩ u j hj
      rw [hs, hs, hs, hs, hs, hs, hs, hs, hs, hs, hs, hs, hs, hs])
    (by simp)
  refine wpList_plain hg fun K hKK => ?_
  have hk2 := hKK _ _ hk
  unfold Oper.wp
  simp [execOp, ho, go_sem, ha, hu, q0, q1, q2, q3, q4, q5, q6, q7, q8, q9, q10, q11, q12, q13, z0, z1, z2, z3, z4, z5, z6, z7, z8, z9, z10, z11, z12, z13]
  exact hk2

theorem RecRow.widen {w : World} {B B' : Nat} {v : Value} {ps : List (RV × Rt)} (h : RecRow w B v ps) (hb : B' ≤ B) : RecRow w B' v ps := ⟨own_mono h.row hb, fun p hp => ⟨own_mono (h.each p hp).n hb, (h.each p hp).d.monoB hb⟩⟩
theorem DOwn.keep {w w' : World} {B : Nat} {m : MV} (h : DOwn w B m) (hk : ∀ j, B ≤ j → j < w.heap.size → w'.heap[j]? = w.heap[j]?) : DOwn w' B m := ⟨h.q.keep hk, h.s0.keep hk, h.s1.keep hk, h.s2.keep hk⟩
/-- What Decode leaves. -/
def DecOut (w : World) (r : Except Nat Mt) (e : Ending) (w' : World) : Prop :=
  Below w.heap.size w w' ∧ match r with
  | .ok x => ∃ m : MV, e = .returned (.tuple #[m.val, .int .i64 0]) ∧ m.msg = x ∧ DOwn w' w.heap.size m
  | .error k => e = .returned (.tuple #[valM hd0 (.slice none 0 0) (.slice none 0 0) (.slice none 0 0) (.slice none 0 0), .int .i64 k]) ∧ k ≠ 0







































































































































end Go.Proofs.YthppgofpbpjglaaGreat

namespace Go.Proofs.YthppgofpbpjglaaGreat
open Go.RowKit

def flB (i f : Nat) : List UInt8 := ((((digs i 2 ++ digs f 2) ++ digs 0 2) ++ digs 0 2) ++ digs 0 2) ++ digs 0 2
theorem flB_eq (i f : Nat) : flB i f = (digs i 2 ++ digs f 2) ++ List.replicate 8 0 := by
  unfold flB
  rw [show digs 0 2 = [0, 0] by decide +kernel]
  simp [List.replicate]
theorem digs2 (n : Nat) : digs n 2 = [UInt8.ofNat (n / 256), UInt8.ofNat n] := by simp [digs, List.range, List.range.loop]
theorem dec_flags {i f : Nat} (hi : i < 65536) (hf : f < 65536) : decM (flB i f) = .ok ⟨hdOf i f false 0, [], [], [], []⟩ := by
  have h := head_nums (a := i) (b := f) (c := 0) (d := 0) (e := 0) (f := 0) hi hf (by omega) (by omega) (by omega) (by omega) []
  simp only [List.append_nil] at h
  obtain ⟨n0, n1, n2, n3, n4, n5⟩ := h
  have hl : (flB i f).length = 12 := by unfold flB; simp [length_digs]
  unfold decM
  rw [if_neg (by omega), if_neg (by omega)]
  change (if 513 < numAt (flB i f) 4 2 + numAt (flB i f) 6 2 + numAt (flB i f) 8 2 + numAt (flB i f) 10 2 then _ else _) = _
  have e0 : numAt (flB i f) 0 2 = i := n0
  have e1 : numAt (flB i f) 2 2 = f := n1
  have e2 : numAt (flB i f) 4 2 = 0 := n2
  have e3 : numAt (flB i f) 6 2 = 0 := n3
  have e4 : numAt (flB i f) 8 2 = 0 := n4
  have e5 : numAt (flB i f) 10 2 = 0 := n5
  rw [e2, e3, e4, e5, if_neg (by omega)]
  change (if (12 : Nat) < (flB i f).length then Except.error 7 else Except.ok _) = _
  rw [if_neg (by omega), e0, e1]
/-- The flags without the three bits. -/
def clear3 (f : Nat) : Nat := f / 256 * 256 + f % 256 / 128 * 128 + f % 16
theorem bit_dec (x n : Nat) : bit (decide (x % 2 = 1)) n = x % 2 * n := by
  rcases (show x % 2 = 0 ∨ x % 2 = 1 by omega) with h | h <;> rw [h] <;> simp [bit]
theorem bits_clear {i f : Nat} (hf : f < 65536) (e : Bool) (s : Int) : bitsH (hdOf i f e s) = clear3 f := by
  unfold bitsH hdOf clear3
  dsimp only
  rw [bit_dec, bit_dec, bit_dec, bit_dec, bit_dec, Int.toNat_natCast, Int.toNat_natCast]
  omega
theorem clear3_lt {f : Nat} (hf : f < 65536) : clear3 f < 65536 := by unfold clear3; omega
theorem codeB_of {n : Nat} (h : n < 16) : codeB (n : Int) = true := by
  unfold codeB
  simp only [Bool.and_eq_true, decide_eq_true_eq]
  omega
theorem sound_flags {i f : Nat} (hi : i < 65536) : soundM ⟨hdOf i f false 0, [], [], [], []⟩ = true := by
  refine soundM_iff.2 ⟨?_, Nat.zero_le _, fun q h => absurd h (List.not_mem_nil), fun q h => absurd h (List.not_mem_nil)⟩
  unfold soundH hdOf
  dsimp only
  rw [fit2_of (n := (i : Int)) (by omega) (by omega), codeB_of (by omega), codeB_of (by omega), show fitB 0 2 = true by decide +kernel]
  rfl
theorem enc_flags {i f : Nat} (hi : i < 65536) (hf : f < 65536) : encE ⟨hdOf i f false 0, [], [], [], []⟩ = .ok (flB i (clear3 f)) := by
  have hs := sound_flags (f := f) hi
  have h : encM ⟨hdOf i f false 0, [], [], [], []⟩ = flB i (clear3 f) := by
    have h1 : encM ⟨hdOf i f false 0, [], [], [], []⟩ = Mt.head ⟨hdOf i f false 0, [], [], [], []⟩ := rfl
    have h2 := head_eq (soundM_iff.1 hs)
    dsimp only at h2
    rw [h1, h2, bits_clear hf]
    rfl
  have hl : (flB i (clear3 f)).length = 12 := by unfold flB; simp [length_digs]
  unfold encE
  rw [if_pos hs, h, if_neg (by omega)]

end Go.Proofs.YthppgofpbpjglaaGreat

namespace Go.Proofs.YthppgofpbpjglaaGreat
open Go.RowKit

theorem zeroCells_toList (z : Value) (hz : z.cells = #[z]) (m : Nat) : (Builtin.zeroCells z.cells m).toList = List.replicate m z := by
  rw [hz]
  refine List.eq_replicate_iff.2 ⟨by simp [Builtin.zeroCells], fun b hb => ?_⟩
  simp only [Builtin.zeroCells, Array.toList_map, List.mem_map] at hb
  obtain ⟨i, _, rfl⟩ := hb
  have h0 : i % (#[z] : Array Value).size = 0 := Nat.mod_one i
  rw [h0]
  rfl

theorem append_zeros_run {P : Program} (w : World) (base : Nat) (t tn ty e : TypeId) (i : TypeInfo) (z : Value) (k kn : IntKind) (ht : P.underlying t = some (.slice e)) (htn : P.underlying tn = some (.int kn)) (hi : P.info? e = some i) (hz : i.zero = some z)
    (hsize : i.size = 1) (hby : i.bytes = 1) (hzs : z.cells = #[z]) (hz1 : z.oneCell' = true) (g n cap : Nat) (xs : List Value) (hown : w.ownsRow base e 1 (.slice (some ⟨g, 0, none⟩) n cap) n xs) (m : Nat) (h0 : 0 < m) (h63 : n + m ≤ 1000000) (hbase : base ≤ w.heap.size) :
    ∃ v' w', (Builtin.append_ #[t, tn] ty #[.slice (some ⟨g, 0, none⟩) n cap, .int k m]).run P w = .ok v' w' ∧ w'.ownsRow base e 1 v' (n + m) (xs ++ List.replicate m z) ∧ w.grownBy w' (some g) := by
  have hw : IntKind.i64.wrap (m : Int) = m := by rw [IntKind.wrap_i64]; omega
  have hneg : ¬ ((m : Int) < 0) := by omega
  have hm0 : m ≠ 0 := by omega
  have h48i : ¬ (281474976710656 < (m : Int)) := by omega
  have hzl := zeroCells_toList z hzs m
  have hsz : (Builtin.zeroCells z.cells m).size = m := by rw [← Array.length_toList, hzl, List.length_replicate]
  have hxl : xs.length = n := by have := hown.1; omega
  rcases hown.2 with ⟨hv, _⟩ | ⟨g', cap', cur, hv, hbg, hg, hnc, hcm, hcs, htake⟩
  · cases hv
  injection hv with hv _ hc
  injection hv with hv
  injection hv with hv
  subst hv
  subst hc
  by_cases hroom : n + m ≤ cap
  · have hfit : n * 1 + (List.replicate m z).length ≤ cur.size := by rw [List.length_replicate, hcs]; omega
    have hst := run_storeCells_at P g (n * 1) e (List.replicate m z) 0 cur w hg (by simpa using hfit) (fun u hu => by rw [(List.mem_replicate.1 hu).2]; exact hz1)
    simp only [Nat.add_zero, Nat.mul_one] at hst
    refine ⟨.slice (some ⟨g, 0, none⟩) (n + m) cap, w.setRow g (cur.toList.take n ++ List.replicate m z ++ cur.toList.drop (n + m)).toArray, ?_, ⟨by simp; omega, .inr ⟨g, cap, _, rfl, hbg, setRow_heap w g cur _ e _ hg, hroom, hcm, ?_, ?_⟩⟩, ⟨rfl, rfl, rfl, by simp, fun j _ hj => setRow_other w g j _ (fun e => hj (by rw [e]))⟩⟩
    · simp [Builtin.append_, run_underlying ht, run_underlying htn, sizeOf, typeInfo, zeroValue, hi, hz, asInt, asIntOf, hw, hneg, hm0, hsize, hby, h48i, hroom, Addr.add_lit, hzl, hst]
    · simp
      omega
    · rw [Nat.mul_one] at htake
      rw [htake]
      have hl2 : (xs ++ List.replicate m z).length = (n + m) * 1 := by simp; omega
      rw [← hl2]
      exact List.take_left
  · have h63' : ¬ (9223372036854775807 < ((n : Int) + (m : Int))) := by omega
    have h48' : ¬ (281474976710656 < Builtin.nextslicecap (n + m) cap) := by
      have := growslice_fits (need := n + m) (old := cap) (bytes := 1) (by omega) (by omega)
      omega
    have holds : ∀ j u, xs[j]? = some u → w.cell? ((⟨g, 0, none⟩ : Addr).add j) = some u := hown.cells (g := g) rfl
    have hfo := run_firstCells_some (P := P) w.drew 1 n ⟨g, 0, none⟩ n cap xs (by omega) (by simpa using holds)
    have hge := grownCap_ge w (n + m) cap e
    have hcm2 : grownCap w (n + m) cap e ≤ maxLen := grownCap_le_maxLen w (n + m) cap e (by unfold maxLen; omega)
    have hxs : (Builtin.zeroCells z.cells (grownCap w (n + m) cap e - (n + m))).size = grownCap w (n + m) cap e - (n + m) := by rw [size_zeroCells, hzs]; simp
    refine ⟨.slice (some ⟨w.heap.size, 0, none⟩) (n + m) (grownCap w (n + m) cap e), w.drew.alloc (.cells (xs.toArray ++ Builtin.zeroCells z.cells m ++ Builtin.zeroCells z.cells (grownCap w (n + m) cap e - (n + m))) e), ?_, ⟨by simp; omega, .inr ⟨w.heap.size, _, _, rfl, hbase, heap_alloc_new w.drew _, hge, hcm2, ?_, ?_⟩⟩, ⟨rfl, rfl, rfl, by simp, fun k hk _ => heap_alloc_old w.drew _ hk⟩⟩
    · simp [Builtin.append_, run_underlying ht, run_underlying htn, sizeOf, typeInfo, zeroValue, hi, hz, asInt, asIntOf, hw, hneg, hm0, hsize, hby, h48i, hroom, h63', h48', Question.forced, hfo, newRow, grownCap]
    · simp only [Array.size_append, List.size_toArray, hsz, hxs, hxl]
      omega
    · simp only [Array.toList_append, List.append_assoc, hzl]
      rw [← List.append_assoc]
      have hl2 : (xs ++ List.replicate m z).length = (n + m) * 1 := by simp; omega
      rw [← hl2]
      exact List.take_left

end Go.Proofs.YthppgofpbpjglaaGreat

namespace Go.Proofs.YthppgofpbpjglaaGreat
open Go.RowKit

theorem DOwn.at_ {w : World} {B : Nat} {m : MV} (h : DOwn w B m) : MAt w w.heap.size m :=
  ⟨⟨Row.of_own h.q.row, fun p hp => Row.of_own (h.q.each p hp)⟩, ⟨Row.of_own h.s0.row, fun p hp => (h.s0.each p hp).at_⟩, ⟨Row.of_own h.s1.row, fun p hp => (h.s1.each p hp).at_⟩, ⟨Row.of_own h.s2.row, fun p hp => (h.s2.each p hp).at_⟩⟩
theorem DOwn.owned {w : World} {B : Nat} {m : MV} (h : DOwn w B m) : OwnedM w m := fun i p hp => by
  have k : ∀ {v : Value} {ps : List (RV × Rt)}, RecRow w B v ps → ∀ p ∈ ps, OwnR w 0 p.1 p.2 := fun hr p hp => ⟨own_mono (hr.each p hp).n (Nat.zero_le _), (hr.each p hp).d.monoB (Nat.zero_le _)⟩
  unfold MV.sec at hp
  split at hp
  · exact k h.s0 p hp
  · split at hp
    · exact k h.s1 p hp
    · exact k h.s2 p hp
theorem cells4 {i f : Nat} (hi : i < 65536) (hf : f < 65536) : ([.int .u8 ((i : Int) / 256), .int .u8 ((i : Int) % 256), .int .u8 ((f : Int) / 256), .int .u8 ((f : Int) % 256)] : List Value) = (digs i 2 ++ digs f 2).map bc := by
  rw [digs2, digs2]
  simp only [List.cons_append, List.nil_append, List.map_cons, List.map_nil, bc, List.cons.injEq, Value.int.injEq, true_and, and_true]
  refine ⟨?_, ?_, ?_, ?_⟩ <;> simp <;> omega

theorem flB_set {i f : Nat} (_ : i < 65536) (_ : f < 65536) : ((flB i f).map bc).set 3 (.int .u8 ((f : Int) % 256 / 128 * 128 + (f : Int) % 16)) = (flB i (clear3 f)).map bc := by
  have h0 : digs 0 2 = [0, 0] := by decide +kernel
  have e1 : clear3 f / 256 = f / 256 := by unfold clear3; omega
  have e2 : ((UInt8.ofNat (clear3 f)).toNat : Int) = (f : Int) % 256 / 128 * 128 + (f : Int) % 16 := by
    simp only [UInt8.toNat_ofNat']
    unfold clear3
    omega
  unfold flB
  rw [digs2, digs2, digs2 (clear3 f), h0, e1]
  simp only [List.cons_append, List.nil_append, List.map_cons, List.map_nil, List.set_cons_succ, List.set_cons_zero]
  unfold bc
  rw [e2]
theorem i64_small {n : Nat} (h : n < 65536) : (Lit.int .i64 ((n : Nat) : Int)).wf = true := by
  have h1 : IntKind.i64.min = -9223372036854775808 := rfl
  have h2 : IntKind.i64.max = 9223372036854775807 := rfl
  simp only [Lit.wf, Bool.and_eq_true, decide_eq_true_eq]
  omega
theorem flag_bit (f n : Nat) : ((f : Int) / (n : Int) % 2 == 1) = decide (f / n % 2 = 1) := by
  have e : (f : Int) / (n : Int) % 2 = ((f / n % 2 : Nat) : Int) := by push_cast; rfl
  rw [e]
  by_cases h : f / n % 2 = 1
  · rw [h]; rfl
  · rw [decide_eq_false h, beq_eq_false_iff_ne]; omega
theorem flag_top {f : Nat} (hf : f < 65536) : ((f : Int) / 32768 == 1) = decide (f / 32768 % 2 = 1) := by
  by_cases h : f / 32768 % 2 = 1
  · rw [decide_eq_true h, beq_iff_eq]; omega
  · rw [decide_eq_false h, beq_eq_false_iff_ne]; omega

end Go.Proofs.YthppgofpbpjglaaGreat

namespace Go.Proofs.YthppgofpbpjglaaGreat
open Go.RowKit

/-- What OwnMsg leaves: a message of its own that reads as the one that was handed in. -/
def OwnMOut (w : World) (m : Mt) (e : Ending) (w' : World) : Prop := ∃ m' : MV, e = .returned m'.val ∧ m'.msg = m ∧ DOwn w' w.heap.size m' ∧ Below w.heap.size w w'
def OwnQRel (w : World) (L : List Value) (qp : List (QV × Qt)) (v i : Value) (wr : World) : Prop :=
  ∃ (j : Nat) (qs : List (QV × Qt)), j ≤ qp.length ∧ i = .int .i64 j ∧ qsts qs = qsts (qp.take j) ∧ qs.length = j ∧ QRow wr (w.heap.size + 2) v qs ∧ Whole wr w.heap.size 28 L ∧ Whole wr (w.heap.size + 1) 28 [.int .i64 0, .bool false, .int .i64 0, .bool false, .bool false, .bool false, .bool false, .int .i64 0, .slice none 0 0, .slice none 0 0, .slice none 0 0, .slice none 0 0, .bool false, .int .i64 0] ∧ Below w.heap.size w wr ∧ w.heap.size + 2 ≤ wr.heap.size

/-- The two messages of OwnMsg, while their slices are laid. -/
structure TwoM (w0 w : World) (L : List Value) : Prop where
  m0 : Whole w w0.heap.size 28 L
  m1 : Whole w (w0.heap.size + 1) 28 [.int .i64 0, .bool false, .int .i64 0, .bool false, .bool false, .bool false, .bool false, .int .i64 0, .slice none 0 0, .slice none 0 0, .slice none 0 0, .slice none 0 0, .bool false, .int .i64 0]
  below : Below w0.heap.size w0 w
  size : w0.heap.size + 2 ≤ w.heap.size
theorem TwoM.frozen {w0 w1 w2 : World} {L : List Value} {v : Value} {qs : List (RV × Rt)} (h : TwoM w0 w1 L) (hr : RowsAt w1 v qs w2) (i : Nat) : w2.frozen? ⟨w0.heap.size, i, none⟩ = false :=
  Whole.frozen (Whole.below h.m0 hr.below (by have := h.size; omega)) i
theorem TwoM.step {w0 w1 w2 : World} {L : List Value} {v : Value} {qs : List (RV × Rt)} (h : TwoM w0 w1 L) (hr : RowsAt w1 v qs w2) (i : Nat) :
    TwoM w0 (w2.setCell ⟨w0.heap.size, i, none⟩ v) (L.set i v) ∧ RecRow (w2.setCell ⟨w0.heap.size, i, none⟩ v) (w0.heap.size + 2) v qs ∧ (∀ j, w0.heap.size + 2 ≤ j → j < w1.heap.size → (w2.setCell ⟨w0.heap.size, i, none⟩ v).heap[j]? = w1.heap[j]?) := by
  have hz := h.size
  have hs (j : Nat) (hj : j ≠ w0.heap.size) : (w2.setCell ⟨w0.heap.size, i, none⟩ v).heap[j]? = w2.heap[j]? := Below.heap_setCell w2 ⟨w0.heap.size, i, none⟩ v j hj
  have hrr : RecRow w2 (w0.heap.size + 2) v qs := ⟨own_mono hr.row hz, fun p hp => ⟨own_mono (hr.each p hp).n hz, (hr.each p hp).d.monoB hz⟩⟩
  refine ⟨⟨(Whole.below h.m0 hr.below (by omega)).set_ i v, (hs _ (by omega)).trans (Whole.below h.m1 hr.below (by omega)), (h.below.trans (hr.below.mono (by omega))).setCell (p := ⟨w0.heap.size, i, none⟩) (Nat.le_refl _) _, ?_⟩, hrr.keep fun j hj _ => hs j (by omega), fun j hj hjw => (hs j (by omega)).trans (hr.below.block j hjw)⟩
  have h1 := hr.size
  have h2 : (w2.setCell ⟨w0.heap.size, i, none⟩ v).heap.size = w2.heap.size := by simp
  omega

set_option maxRecDepth 20000 in
set_option maxHeartbeats 8000000 in
theorem ownMsg_core (w : World) (m : MV) (h : Hd) (qA : Option Addr) (qc : Nat) (qp : List (QV × Qt)) (A0 A1 A2 : Option Addr) (k0 k1 k2 : Nat) (p0 p1 p2 : List (RV × Rt)) (he : m = ⟨h, qA, qc, qp, ⟨A0, k0, p0⟩, ⟨A1, k1, p1⟩, ⟨A2, k2, p2⟩⟩) (hm : MAt w w.heap.size m) (hi : MIn m) (hl : ∀ i, (m.sec i).ps.length ≤ 700) (hql : qp.length ≤ 1000) :
    Calls Tryz.prog 7 #[valM h (.slice qA qp.length qc) (.slice A0 p0.length k0) (.slice A1 p1.length k1) (.slice A2 p2.length k2)] w (OwnMOut w m.msg) := by
  obtain ⟨i0, hi0, hz0, hz1, hz2⟩ := info_parts q_info
  obtain ⟨t0, ht0, hx0, hx1, hx2⟩ := info_parts str_info
  obtain ⟨W, hW⟩ : ∃ W, W = (w.alloc (.cells #[.int .i64 h.id, .bool h.resp, .int .i64 h.op, .bool h.aa, .bool h.tc, .bool h.rd, .bool h.ra, .int .i64 h.rc, .slice qA qp.length qc, (.slice A0 p0.length k0), (.slice A1 p1.length k1), (.slice A2 p2.length k2), .bool h.edns, .int .i64 h.size] 28)).alloc (.cells #[.int .i64 0, .bool false, .int .i64 0, .bool false, .bool false, .bool false, .bool false, .int .i64 0, .slice none 0 0, .slice none 0 0, .slice none 0 0, .slice none 0 0, .bool false, .int .i64 0] 28) := ⟨_, rfl⟩
  have hB : Below w.heap.size w W := by rw [hW]; exact ((Below.refl _ _).alloc (Nat.le_refl _) _).alloc (by simp) _
  have hzW : W.heap.size = w.heap.size + 2 := by rw [hW]; simp
  have hwm : Whole W w.heap.size 28 (cellsM h (.slice qA qp.length qc) (.slice A0 p0.length k0) (.slice A1 p1.length k1) (.slice A2 p2.length k2)) := by rw [hW]; exact (Whole.made w [.int .i64 h.id, .bool h.resp, .int .i64 h.op, .bool h.aa, .bool h.tc, .bool h.rd, .bool h.ra, .int .i64 h.rc, .slice qA qp.length qc, (.slice A0 p0.length k0), (.slice A1 p1.length k1), (.slice A2 p2.length k2), .bool h.edns, .int .i64 h.size] _).alloc _
  have hwr : Whole W (w.heap.size + 1) 28 [.int .i64 0, .bool false, .int .i64 0, .bool false, .bool false, .bool false, .bool false, .int .i64 0, .slice none 0 0, .slice none 0 0, .slice none 0 0, .slice none 0 0, .bool false, .int .i64 0] := by
    rw [hW]
    have h1 := Whole.made (w.alloc (.cells #[.int .i64 h.id, .bool h.resp, .int .i64 h.op, .bool h.aa, .bool h.tc, .bool h.rd, .bool h.ra, .int .i64 h.rc, .slice qA qp.length qc, (.slice A0 p0.length k0), (.slice A1 p1.length k1), (.slice A2 p2.length k2), .bool h.edns, .int .i64 h.size] 28)) [.int .i64 0, .bool false, .int .i64 0, .bool false, .bool false, .bool false, .bool false, .int .i64 0, .slice none 0 0, .slice none 0 0, .slice none 0 0, .slice none 0 0, .bool false, .int .i64 0] 28
    rw [show (w.alloc (.cells #[.int .i64 h.id, .bool h.resp, .int .i64 h.op, .bool h.aa, .bool h.tc, .bool h.rd, .bool h.ra, .int .i64 h.rc, .slice qA qp.length qc, (.slice A0 p0.length k0), (.slice A1 p1.length k1), (.slice A2 p2.length k2), .bool h.edns, .int .i64 h.size] 28)).heap.size = w.heap.size + 1 by simp] at h1
    exact h1
  have HB := Lib.hid hB
  have HWM := Lib.hid hwm
  have HWR := Lib.hid hwr
  have HZW := Lib.hid hzW
  have HM := Lib.hid hm
  have HE := Lib.hid he
  have HQ := Lib.hid (fun W' (hb : Below w.heap.size w W') => (show QsAt W' w.heap.size qA qp by have h2 := hm.q.below hb; rw [he] at h2; exact h2))
  have HQI := Lib.hid (show ∀ p ∈ qp, QIn p.2 by have h2 := hi.q; rw [he] at h2; exact h2)
  have HO0 := Lib.hid (fun W' (hb : Below w.heap.size w W') => ownRRs_rows W' A0 k0 p0 (by have h2 := (hm.s0.below hb).mono hb.size; rw [he] at h2; exact h2) (fun p hp => (hi.r 0 p (by rw [he]; exact hp)).2) (by have h2 := hl 0; rw [he] at h2; exact h2))
  have HO1 := Lib.hid (fun W' (hb : Below w.heap.size w W') => ownRRs_rows W' A1 k1 p1 (by have h2 := (hm.s1.below hb).mono hb.size; rw [he] at h2; exact h2) (fun p hp => (hi.r 1 p (by rw [he]; exact hp)).2) (by have h2 := hl 1; rw [he] at h2; exact h2))
  have HO2 := Lib.hid (fun W' (hb : Below w.heap.size w W') => ownRRs_rows W' A2 k2 p2 (by have h2 := (hm.s2.below hb).mono hb.size; rw [he] at h2; exact h2) (fun p hp => (hi.r 2 p (by rw [he]; exact hp)).2) (by have h2 := hl 2; rw [he] at h2; exact h2))
  clear hB hzW hwm hwr hm hi he hl
  subst hW
  go_enter Tryz.func7, Tryz.ntmps7
  go_wp2
  go_loopw [3, 4] (OwnQRel w (cellsM h (.slice qA qp.length qc) (.slice A0 p0.length k0) (.slice A1 p1.length k1) (.slice A2 p2.length k2)) qp) (fun _ i _ => qp.length - (intOf i).toNat)
  case atStart => exact ⟨0, [], Nat.zero_le _, rfl, rfl, rfl, QRow.nil _ _, HWM.out, HWR.out, HB.out, by rw [HZW.out]; exact Nat.le_refl _⟩
  case round =>
    obtain ⟨j, qs, hj, rfl, hqs, hqj, hq, hw0, hw1, hb, hz⟩ := hrel
    have HQS := Lib.hid hqs
    have HQR := Lib.hid hq
    have HW0 := Lib.hid hw0
    have HW1 := Lib.hid hw1
    have HBR := Lib.hid hb
    obtain ⟨Aq, cq, rfl, _, _⟩ := own_form hq.row
    have d8 : wr.cell? ⟨w.heap.size, 8, none⟩ = some (.slice qA qp.length qc) := Whole.cell hw0 8
    have hqj1 : qs.length ≤ 1000 := by omega
    have HQJ := Lib.hid hqj
    clear hqs hq hw0 hw1 hb hqj
    by_cases hlt : j < qp.length
    · obtain ⟨b, off, rfl, hbH, hqa, q0, q1, q2⟩ := (HQ.out _ HBR.out).at_ hlt
      have hri := HQI.out _ (List.getElem_mem hlt)
      have HF := Lib.hid (qsts_at hlt)
      revert hqa q0 q1 q2 hri HF
      generalize qp[j] = p
      obtain ⟨x, r⟩ := p
      intro hqa q0 q1 q2 hri HF
      dsimp only at *
      have hln := hri.l
      have hnew2 : Below wr.heap.size wr ((wr.alloc (.cells #[.slice x.1 r.name.length x.2, .int .i64 r.kind, .int .i64 r.cls] 24)).alloc (.cells #[] 9)) := ((Below.refl _ _).alloc (Nat.le_refl _) _).alloc (by simp) _
      have HNR := Lib.hid (Row.below hqa (hnew2.mono HBR.out.size))
      have HN2 := Lib.hid hnew2
      have HWP := Lib.hid (show Whole ((wr.alloc (.cells #[.slice x.1 r.name.length x.2, .int .i64 r.kind, .int .i64 r.cls] 24)).alloc (.cells #[] 9)) wr.heap.size 24 [.slice x.1 r.name.length x.2, .int .i64 r.kind, .int .i64 r.cls] from (Whole.made wr _ _).alloc _)
      have HL := Lib.hid (show ((wr.alloc (.cells #[.slice x.1 r.name.length x.2, .int .i64 r.kind, .int .i64 r.cls] 24)).alloc (.cells #[] 9)).ownsRow (wr.heap.size + 1) 9 1 (.slice (some ⟨wr.heap.size + 1, 0, none⟩) 0 0) 0 [] from by
        have h := own_lit (wr.alloc (.cells #[.slice x.1 r.name.length x.2, .int .i64 r.kind, .int .i64 r.cls] 24)) 9 1
        rwa [show (wr.alloc (.cells #[.slice x.1 r.name.length x.2, .int .i64 r.kind, .int .i64 r.cls] 24)).heap.size = wr.heap.size + 1 by simp] at h)
      clear hqa hri hnew2
      go_wp2_with (first
        | (at_builtin
           refine wpList_append_row rfl (.tmp 18) (.tmp 20) _ rfl (wr.heap.size + 1) 9 t0 _ 1 16 Tryz.underlying22 ht0 hx0 hx1 hx2 rfl (by omega) (.slice (some ⟨wr.heap.size + 1, 0, none⟩) 0 0) 0 [] rfl
             HL.out x.1 r.name.length x.2 w.heap.size (r.name.map sv) rfl (by rw [List.length_map, Nat.mul_one]) HNR.out (sv_one _) (by unfold maxLen; omega) (by omega) (by simp) ?_
           intro v2 w2 hown2 hg2
           simp only [Nat.zero_add, List.nil_append] at hown2
           obtain ⟨An, cn, rfl, _, _⟩ := own_form hown2
           have HO2 := Lib.hid hown2
           have HW2 := Lib.hid (HWP.out.grown hg2 (by simp [Value.ownBlock]))
           have HB2 := Lib.hid (show Below wr.heap.size wr w2 from HN2.out.trans ((own_below (Below.refl (wr.heap.size + 1) _) (Nat.le_refl _) (by simp) HL.out hg2).mono (by omega)))
           have t0' : w2.cell? ⟨wr.heap.size, 0, none⟩ = some (.slice x.1 r.name.length x.2) := HW2.out.cell 0
           have f0' : w2.frozen? ⟨wr.heap.size, 0, none⟩ = false := HW2.out.frozen 0
           have t1' : w2.cell? ⟨wr.heap.size, 1, none⟩ = some (.int .i64 r.kind) := HW2.out.cell 1
           have t2' : w2.cell? ⟨wr.heap.size, 2, none⟩ = some (.int .i64 r.cls) := HW2.out.cell 2
           have hzw2 : wr.heap.size < w2.heap.size := HW2.out.lt
           obtain ⟨W3, hW3⟩ : ∃ W3, W3 = (w2.setCell ⟨wr.heap.size, 0, none⟩ (.slice An r.name.length cn)).alloc (.cells #[.slice An r.name.length cn, .int .i64 r.kind, .int .i64 r.cls] 24) := ⟨_, rfl⟩
           have hb3 : Below wr.heap.size wr W3 := by rw [hW3]; exact (HB2.out.setCell (p := ⟨wr.heap.size, 0, none⟩) (Nat.le_refl _) _).alloc (by simp; omega) _
           have hz3 : W3.heap.size = w2.heap.size + 1 := by rw [hW3]; simp
           have HO3 := Lib.hid (show W3.ownsRow (w.heap.size + 2) 9 1 (.slice An r.name.length cn) r.name.length (r.name.map sv) from by
             rw [hW3]
             refine own_mono (own_keep (own_keep HO2.out fun g hg => Below.heap_setCell _ ⟨wr.heap.size, 0, none⟩ _ g (by have := (HO2.out.lt g hg).1; show g ≠ wr.heap.size; omega)) fun g hg => Below.heap_alloc _ _ g (by have := (HO2.out.lt g hg).2; simpa using this)) (by omega))
           have HRB := Lib.hid (show Row W3 W3.heap.size (some ⟨w2.heap.size, 0, none⟩) (cellsQ ((An, cn), r)) from by
             rw [hW3]
             have h1 := Row.made (w2.setCell ⟨wr.heap.size, 0, none⟩ (.slice An r.name.length cn)) #[.slice An r.name.length cn, .int .i64 r.kind, .int .i64 r.cls] 24
             rw [show (w2.setCell ⟨wr.heap.size, 0, none⟩ (.slice An r.name.length cn)).heap.size = w2.heap.size by simp] at h1
             exact h1.mono (by simp))
           have HQ3 := Lib.hid (show QRow W3 (w.heap.size + 2) (.slice Aq qs.length cq) qs from HQR.out.keep fun g _ hg => hb3.block g hg)
           have HB3 := Lib.hid hb3
           have HZ3 := Lib.hid hz3
           clear hb3 hz3
           subst hW3
           clear hown2 hg2)
        | (at_builtin
           refine wpList_append_row rfl (.tmp 23) (.tmp 25) _ rfl (w.heap.size + 2) 24 i0 _ 3 40 Tryz.underlying25 hi0 hz0 hz1 hz2 rfl (by omega) (.slice Aq qs.length cq) qs.length _ rfl HQ3.out.row
             (some ⟨w2.heap.size, 0, none⟩) 1 1 _ (cellsQ ((An, cn), r)) rfl rfl HRB.out (cellsQ_one1 _) (by unfold maxLen; omega) (by omega) (by have := HZ3.out; omega) ?_
           intro v4 w4 hown4 hg4
           obtain ⟨A4, c4, rfl, _, _⟩ := own_form hown4
           have hn0 : (Value.slice Aq qs.length cq).ownBlock ≠ some w.heap.size := fun h => by have := (HQ3.out.row.lt _ h).1; omega
           have hn1 : (Value.slice Aq qs.length cq).ownBlock ≠ some (w.heap.size + 1) := fun h => by have := (HQ3.out.row.lt _ h).1; omega
           have HREL := Lib.hid (show OwnQRel w (cellsM h (.slice (some ⟨b, off, none⟩) qp.length qc) (.slice A0 p0.length k0) (.slice A1 p1.length k1) (.slice A2 p2.length k2)) qp (.slice A4 (qs.length + 1) c4) (.int .i64 ((j + 1 : Nat) : Int)) w4 from
             ⟨j + 1, qs ++ [((An, cn), r)], by omega, rfl, by rw [HF.out, ← HQS.out]; simp [qsts], by rw [List.length_append, HQJ.out]; rfl, HQ3.out.snoc (y := (An, cn)) (q := r) HO3.out hown4 hg4, (Whole.below HW0.out HB3.out (by omega)).grown hg4 (Ne.symm hn0), (Whole.below HW1.out HB3.out (by omega)).grown hg4 (Ne.symm hn1),
               own_below (HBR.out.trans (HB3.out.mono (by omega))) (by omega) (by have := HZ3.out; omega) HQ3.out.row hg4, by have := HZ3.out; have := hg4.size; omega⟩)
           clear hown4 hg4 hn0 hn1))
      all_goals
        have hrl := HREL.out
        rw [show ((j + 1 : Nat) : Int) = (j : Int) + 1 by omega] at hrl
        exact ⟨hrl, by simp [intOf]; omega⟩
    · obtain rfl : j = qp.length := by omega
      have HQX := Lib.hid (show qsts qs = qsts qp from by rw [HQS.out, List.take_length])
      have f8 : wr.frozen? ⟨w.heap.size, 8, none⟩ = false := Whole.frozen HW0.out 8
      obtain ⟨w1, hw1⟩ : ∃ w1, w1 = wr.setCell ⟨w.heap.size, 8, none⟩ (.slice Aq qs.length cq) := ⟨_, rfl⟩
      have hb1 : Below w.heap.size w w1 := by rw [hw1]; exact HBR.out.setCell (p := ⟨w.heap.size, 8, none⟩) (Nat.le_refl _) _
      have hz1' : w.heap.size + 2 ≤ w1.heap.size := by rw [hw1]; simpa using hz
      have hm0 : Whole w1 w.heap.size 28 (cellsM h (.slice Aq qs.length cq) (.slice A0 p0.length k0) (.slice A1 p1.length k1) (.slice A2 p2.length k2)) := by rw [hw1]; exact HW0.out.set_ 8 _
      have hm1 : Whole w1 (w.heap.size + 1) 28 [.int .i64 0, .bool false, .int .i64 0, .bool false, .bool false, .bool false, .bool false, .int .i64 0, .slice none 0 0, .slice none 0 0, .slice none 0 0, .slice none 0 0, .bool false, .int .i64 0] := by rw [hw1]; exact (Below.heap_setCell _ ⟨w.heap.size, 8, none⟩ _ (w.heap.size + 1) (by show w.heap.size + 1 ≠ w.heap.size; omega)).trans HW1.out
      have hq1 : QRow w1 (w.heap.size + 2) (.slice Aq qs.length cq) qs := by rw [hw1]; exact HQR.out.keep fun g hg _ => Below.heap_setCell _ ⟨w.heap.size, 8, none⟩ _ g (by show g ≠ w.heap.size; omega)
      have HT := Lib.hid (show TwoM w w1 _ from ⟨hm0, hm1, hb1, hz1'⟩)
      have HQ1 := Lib.hid hq1
      have c9 : w1.cell? ⟨w.heap.size, 9, none⟩ = some (.slice A0 p0.length k0) := Whole.cell hm0 9
      have HX := Lib.hid (HO0.out _ hb1)
      clear hb1 hm0 hm1 hq1 HQR HW0 HW1 HBR HQS hlt hj hz1' hz
      subst hw1
      go_wp2_with fail
      refine HX.out.mono ?_
      rintro e w2 ⟨B0, d0, qs0, rfl, hr0, hra⟩
      obtain ⟨hT, hR, hK⟩ := HT.out.step hra 9
      have f9 : w2.frozen? ⟨w.heap.size, 9, none⟩ = false := HT.out.frozen hra 9
      have HR0 := Lib.hid hr0
      have HQ2 := Lib.hid (HQ1.out.keep hK)
      have c9' : w2.cell? ⟨w.heap.size, 9, none⟩ = some (.slice A0 p0.length k0) := Whole.cell (Whole.below HT.out.m0 hra.below (by have := HT.out.size; omega)) 9
      have c10' : w2.cell? ⟨w.heap.size, 10, none⟩ = some (.slice A1 p1.length k1) := Whole.cell (Whole.below HT.out.m0 hra.below (by have := HT.out.size; omega)) 10
      have c10 : (w2.setCell ⟨w.heap.size, 9, none⟩ (.slice B0 qs0.length d0)).cell? ⟨w.heap.size, 10, none⟩ = some (.slice A1 p1.length k1) := Whole.cell hT.m0 10
      have HT2 := Lib.hid hT
      have HS2 := Lib.hid hR
      have HX2 := Lib.hid (HO1.out _ hT.below)
      obtain ⟨w3, hw3⟩ : ∃ w3, w3 = w2.setCell ⟨w.heap.size, 9, none⟩ (.slice B0 qs0.length d0) := ⟨_, rfl⟩
      rw [← hw3] at c10 HT2 HS2 HX2 HQ2
      clear hT hR hK hra hr0 HT HQ1 HX HO0 c9 f8
      subst hw3
      go_wp2_with fail
      refine HX2.out.mono ?_
      rintro e w4 ⟨B1, d1, qs1, rfl, hr1, hra⟩
      obtain ⟨hT, hR, hK⟩ := HT2.out.step hra 10
      have f10 : w4.frozen? ⟨w.heap.size, 10, none⟩ = false := HT2.out.frozen hra 10
      have HR1 := Lib.hid hr1
      have HQ3 := Lib.hid (HQ2.out.keep hK)
      have HS3 := Lib.hid (HS2.out.keep hK)
      have HU3 := Lib.hid hR
      have c10'' : w4.cell? ⟨w.heap.size, 10, none⟩ = some (.slice A1 p1.length k1) := Whole.cell (Whole.below HT2.out.m0 hra.below (by have := HT2.out.size; omega)) 10
      have c11' : w4.cell? ⟨w.heap.size, 11, none⟩ = some (.slice A2 p2.length k2) := Whole.cell (Whole.below HT2.out.m0 hra.below (by have := HT2.out.size; omega)) 11
      have c11 : (w4.setCell ⟨w.heap.size, 10, none⟩ (.slice B1 qs1.length d1)).cell? ⟨w.heap.size, 11, none⟩ = some (.slice A2 p2.length k2) := Whole.cell hT.m0 11
      have HT3 := Lib.hid hT
      have HX3 := Lib.hid (HO2.out _ hT.below)
      clear hT hR hK hra hr1 HT2 HQ2 HX2 HS2 HO1 c10 c10' c9' f9
      go_wp2_with fail
      refine HX3.out.mono ?_
      rintro e w6 ⟨B2, d2, qs2, rfl, hr2, hra⟩
      obtain ⟨hT, hR, hK⟩ := HT3.out.step hra 11
      have f11 : w6.frozen? ⟨w.heap.size, 11, none⟩ = false := HT3.out.frozen hra 11
      have HR2 := Lib.hid hr2
      have HQ4 := Lib.hid (HQ3.out.keep hK)
      have HS4 := Lib.hid (HS3.out.keep hK)
      have HU4 := Lib.hid (HU3.out.keep hK)
      have HV4 := Lib.hid hR
      have hm6 : Whole w6 w.heap.size 28 (cellsM h (.slice Aq qs.length cq) (.slice B0 qs0.length d0) (.slice B1 qs1.length d1) (.slice A2 p2.length k2)) := Whole.below HT3.out.m0 hra.below (by have := HT3.out.size; omega)
      have hm0 : Whole (w6.setCell ⟨w.heap.size, 11, none⟩ (.slice B2 qs2.length d2)) w.heap.size 28 (cellsM h (.slice Aq qs.length cq) (.slice B0 qs0.length d0) (.slice B1 qs1.length d1) (.slice B2 qs2.length d2)) := hT.m0
      have HT4 := Lib.hid hT
      clear hT hR hK hra hr2 HT3 HQ3 HX3 HS3 HU3 HO2 c11 c11' c10'' f10
      have e0 : w6.cell? ⟨w.heap.size, 0, none⟩ = some (.int .i64 h.id) := Whole.cell hm6 0
      have e1 : w6.cell? ⟨w.heap.size, 1, none⟩ = some (.bool h.resp) := Whole.cell hm6 1
      have e2 : w6.cell? ⟨w.heap.size, 2, none⟩ = some (.int .i64 h.op) := Whole.cell hm6 2
      have e3 : w6.cell? ⟨w.heap.size, 3, none⟩ = some (.bool h.aa) := Whole.cell hm6 3
      have e4 : w6.cell? ⟨w.heap.size, 4, none⟩ = some (.bool h.tc) := Whole.cell hm6 4
      have e5 : w6.cell? ⟨w.heap.size, 5, none⟩ = some (.bool h.rd) := Whole.cell hm6 5
      have e6 : w6.cell? ⟨w.heap.size, 6, none⟩ = some (.bool h.ra) := Whole.cell hm6 6
      have e7 : w6.cell? ⟨w.heap.size, 7, none⟩ = some (.int .i64 h.rc) := Whole.cell hm6 7
      have e8 : w6.cell? ⟨w.heap.size, 8, none⟩ = some (.slice Aq qs.length cq) := Whole.cell hm6 8
      have e9 : w6.cell? ⟨w.heap.size, 9, none⟩ = some (.slice B0 qs0.length d0) := Whole.cell hm6 9
      have e10 : w6.cell? ⟨w.heap.size, 10, none⟩ = some (.slice B1 qs1.length d1) := Whole.cell hm6 10
      have e11' : w6.cell? ⟨w.heap.size, 11, none⟩ = some (.slice A2 p2.length k2) := Whole.cell hm6 11
      have e11 : (w6.setCell ⟨w.heap.size, 11, none⟩ (.slice B2 qs2.length d2)).cell? ⟨w.heap.size, 11, none⟩ = some (.slice B2 qs2.length d2) := Whole.cell hm0 11
      have e12 : w6.cell? ⟨w.heap.size, 12, none⟩ = some (.bool h.edns) := Whole.cell hm6 12
      have e13 : w6.cell? ⟨w.heap.size, 13, none⟩ = some (.int .i64 h.size) := Whole.cell hm6 13
      clear hm0 hm6
      go_wp2_with (
        refine wpList_storeM (w.heap.size + 1) 2 41 h Aq B0 B1 B2 qs.length cq qs0.length d0 qs1.length d1 qs2.length d2 _ rfl rfl rfl rfl HT4.out.m1 rfl ?_
        intro V hWV hbv hhv hvs
        have v0 : V.cell? ⟨w.heap.size + 1, 0, none⟩ = some (.int .i64 h.id) := Whole.cell hWV 0
        have v1 : V.cell? ⟨w.heap.size + 1, 1, none⟩ = some (.bool h.resp) := Whole.cell hWV 1
        have v2 : V.cell? ⟨w.heap.size + 1, 2, none⟩ = some (.int .i64 h.op) := Whole.cell hWV 2
        have v3 : V.cell? ⟨w.heap.size + 1, 3, none⟩ = some (.bool h.aa) := Whole.cell hWV 3
        have v4 : V.cell? ⟨w.heap.size + 1, 4, none⟩ = some (.bool h.tc) := Whole.cell hWV 4
        have v5 : V.cell? ⟨w.heap.size + 1, 5, none⟩ = some (.bool h.rd) := Whole.cell hWV 5
        have v6 : V.cell? ⟨w.heap.size + 1, 6, none⟩ = some (.bool h.ra) := Whole.cell hWV 6
        have v7 : V.cell? ⟨w.heap.size + 1, 7, none⟩ = some (.int .i64 h.rc) := Whole.cell hWV 7
        have v8 : V.cell? ⟨w.heap.size + 1, 8, none⟩ = some (.slice Aq qs.length cq) := Whole.cell hWV 8
        have v9 : V.cell? ⟨w.heap.size + 1, 9, none⟩ = some (.slice B0 qs0.length d0) := Whole.cell hWV 9
        have v10 : V.cell? ⟨w.heap.size + 1, 10, none⟩ = some (.slice B1 qs1.length d1) := Whole.cell hWV 10
        have v11 : V.cell? ⟨w.heap.size + 1, 11, none⟩ = some (.slice B2 qs2.length d2) := Whole.cell hWV 11
        have v12 : V.cell? ⟨w.heap.size + 1, 12, none⟩ = some (.bool h.edns) := Whole.cell hWV 12
        have v13 : V.cell? ⟨w.heap.size + 1, 13, none⟩ = some (.int .i64 h.size) := Whole.cell hWV 13
        have HBV := Lib.hid (HT4.out.below.trans (hbv.mono (by omega)))
        have HOV := Lib.hid (show DOwn V w.heap.size ⟨h, Aq, cq, qs, ⟨B0, d0, qs0⟩, ⟨B1, d1, qs1⟩, ⟨B2, d2, qs2⟩⟩ from by
          have hk : ∀ j, w.heap.size + 2 ≤ j → j < (w6.setCell ⟨w.heap.size, 11, none⟩ (.slice B2 qs2.length d2)).heap.size → V.heap[j]? = (w6.setCell ⟨w.heap.size, 11, none⟩ (.slice B2 qs2.length d2)).heap[j]? := fun j hj _ => hhv j (by omega)
          have q := HQ4.out.keep hk
          exact ⟨⟨own_mono q.row (by omega), fun x hx => own_mono (q.each x hx) (by omega)⟩, (HS4.out.keep hk).widen (by omega), (HU4.out.keep hk).widen (by omega), (HV4.out.keep hk).widen (by omega)⟩)
        clear hWV hbv hhv hvs)
      refine ⟨rfl, valM h (.slice Aq qs.length cq) (.slice B0 qs0.length d0) (.slice B1 qs1.length d1) (.slice B2 qs2.length d2), ?_, ⟨h, Aq, cq, qs, ⟨B0, d0, qs0⟩, ⟨B1, d1, qs1⟩, ⟨B2, d2, qs2⟩⟩, rfl, ?_, HOV.out, HBV.out⟩
      · simp [results, Tryz.results7, go_sem, v0, v1, v2, v3, v4, v5, v6, v7, v8, v9, v10, v11, v12, v13]
      · rw [HE.out]
        show (⟨h, qsts qs, recs qs0, recs qs1, recs qs2⟩ : Mt) = ⟨h, qsts qp, recs p0, recs p1, recs p2⟩
        rw [HQX.out, HR0.out, HR1.out, HR2.out]
theorem ownMsg_any (w : World) (m : MV) (hm : MAt w w.heap.size m) (hi : MIn m) (hl : ∀ i, (m.sec i).ps.length ≤ 700) : Calls Tryz.prog 7 #[m.val] w (OwnMOut w m.msg) := by
  obtain ⟨h, qA, qc, qp, ⟨A0, k0, p0⟩, ⟨A1, k1, p1⟩, ⟨A2, k2, p2⟩⟩ := m
  exact ownMsg_core w _ h qA qc qp A0 A1 A2 k0 k1 k2 p0 p1 p2 rfl hm hi hl hi.ql

end Go.Proofs.YthppgofpbpjglaaGreat

namespace Go.Proofs.YthppgofpbpjglaaGreat
open Go.ChangeShapes Go.WideShapes Go.ChangeAt Go.RowKit

theorem bulk_pos {H : Type} (d : DataW H) : 1 ≤ Rows.uptoBulk d := by
  cases d with
  | lit l => cases l <;> simp [Rows.uptoBulk]
  | _ => simp [Rows.uptoBulk]
theorem bulk_len {H : Type} : ∀ l : List (DataW H), l.length ≤ Rows.uptoBulkAll l
  | [] => by simp [Rows.uptoBulkAll]
  | d :: l => by
    have h1 := bulk_len l
    have h2 := bulk_pos d
    simp only [Rows.uptoBulkAll, List.length_cons]
    omega
theorem bulk_in {H : Type} {d : DataW H} : ∀ {l : List (DataW H)}, d ∈ l → Rows.uptoBulk d ≤ Rows.uptoBulkAll l
  | x :: l, h => by
    simp only [Rows.uptoBulkAll]
    rcases List.mem_cons.1 h with rfl | h
    · omega
    · have := bulk_in h
      omega

theorem slice_bulk {H : Type} {enc : TypeId × Value → H} {W : World} {fuel : Nat} {t e : TypeId} (ht : Tryz.prog.underlying t = some (.slice e)) {A : Option Addr} {n c : Nat} {x : DataW H × List MemPlace}
    (h : DataW.trod enc Tryz.prog W 0 (fun _ => true) true fuel t [.slice A n c] = some x) : n ≤ Rows.uptoBulk x.1 := by
  rcases Deep.open_slice ht h with ⟨hcs, hx⟩ | ⟨a, len', cap', m, k, D, Pl, hcs, _, hl, hm, hmm, hx, hy⟩
  · simp at hcs
    obtain ⟨rfl, rfl, rfl⟩ := hcs
    exact Nat.zero_le _
  · simp at hcs
    obtain ⟨rfl, rfl, rfl⟩ := hcs
    subst hx
    have := bulk_len ((List.range n).map D)
    simp only [Rows.uptoBulk]
    simp only [List.length_map, List.length_range] at this
    omega

theorem bytes_bulk {H : Type} {enc : TypeId × Value → H} {W : World} {fuel : Nat} {A : Option Addr} {n c : Nat} {x : DataW H × List MemPlace}
    (h : DataW.trod enc Tryz.prog W 0 (fun _ => true) true fuel 35 [.slice A n c] = some x) : n ≤ Rows.uptoBulk x.1 := by
  rcases Deep.open_slice Tryz.underlying35 h with ⟨hcs, hx⟩ | ⟨a, len', cap', m, k, D, Pl, hcs, _, hl, hm, hmm, hx, hy⟩
  · simp at hcs
    obtain ⟨rfl, rfl, rfl⟩ := hcs
    exact Nat.zero_le _
  · simp at hcs
    obtain ⟨rfl, rfl, rfl⟩ := hcs
    subst hx
    have := bulk_len ((List.range n).map D)
    simp only [Rows.uptoBulk]
    simp only [List.length_map, List.length_range] at this
    omega

set_option maxRecDepth 20000 in
theorem data_bulk {H : Type} {enc : TypeId × Value → H} {W : World} {fuel : Nat} {x : DV} {dd : Dt} {z : DataW H × List MemPlace}
    (h : DataW.trod enc Tryz.prog W 0 (fun _ => true) true fuel 38 (cellsD (x, dd)) = some z) : dd.bytes.length ≤ Rows.uptoBulk z.1 := by
  obtain ⟨xs, k, _, hx, hcl, hxl, hfs⟩ := DataW.trod_struct Tryz.underlying38 h
  have hxl5 : xs.length = 5 := hxl
  subst hx
  match xs, hxl5, hfs with
  | [y0, y1, y2, y3, y4], _, hfs =>
    have g0 := hfs 0 _ rfl
    simp only [List.getElem?_cons_zero] at g0
    have h1 : dd.bytes.length ≤ Rows.uptoBulk y0.1 := bytes_bulk g0
    simp only [Rows.uptoBulk, List.map_cons, Rows.uptoBulkAll]
    omega

set_option maxRecDepth 20000 in
theorem rr_bulk {H : Type} {enc : TypeId × Value → H} {W : World} {fuel : Nat} {x : RV} {r : Rt} {z : DataW H × List MemPlace}
    (h : DataW.trod enc Tryz.prog W 0 (fun _ => true) true fuel 46 (cellsR (x, r)) = some z) : r.data.bytes.length ≤ Rows.uptoBulk z.1 := by
  obtain ⟨xs, k, _, hx, hcl, hxl, hfs⟩ := DataW.trod_struct Tryz.underlying46 h
  have hxl5 : xs.length = 5 := hxl
  subst hx
  match xs, hxl5, hfs with
  | [y0, y1, y2, y3, y4], _, hfs =>
    have g4 := hfs 4 _ rfl
    simp only [List.getElem?_cons_zero, List.getElem?_cons_succ] at g4
    have h1 : r.data.bytes.length ≤ Rows.uptoBulk y4.1 := data_bulk (x := x.d) (dd := r.data) g4
    simp only [Rows.uptoBulk, List.map_cons, Rows.uptoBulkAll]
    omega

set_option maxRecDepth 20000 in
theorem read_question {H : Type} {enc : TypeId × Value → H} {W : World} {fuel : Nat} {cs : List Value} {z : DataW H × List MemPlace}
    (h : DataW.trod enc Tryz.prog W 0 (fun _ => true) true fuel 24 cs = some z) (hlt : ∀ y ∈ z.2, y.block < W.heap.size) :
    ∃ (y : QV) (q : Qt), cs = cellsQ (y, q) ∧ QAt W W.heap.size y q ∧ WideN q.name ∧ (Lit.int .i64 q.kind).wf = true ∧ (Lit.int .i64 q.cls).wf = true ∧ q.name.length ≤ y.2 ∧ q.name.length ≤ Rows.uptoBulk z.1 := by
  obtain ⟨xs, k, _, hx, hcl, hxl, hfs⟩ := DataW.trod_struct Tryz.underlying24 h
  have hp : z.2 = xs.flatMap (·.2) := by simpa using congrArg Prod.snd hx
  have hin : ∀ z ∈ xs, ∀ y ∈ z.2, y.block < W.heap.size := fun z hz y hyz => hlt y (by rw [hp]; exact List.mem_flatMap.2 ⟨z, hz, hyz⟩)
  have hxl3 : xs.length = 3 := hxl
  have hc3 : cs.length = 3 := by rw [quest_cells] at hcl; exact hcl
  have hzd : z.1 = .agg (xs.map (·.1)) := by simpa using congrArg Prod.fst hx
  rw [hzd]
  clear hx hp h hcl hzd
  match cs, hc3, xs, hxl3, hfs, hin with
  | [c0, c1, c2], _, [y0, y1, y2], _, hfs, hin =>
    have g0 := hfs 0 _ rfl
    have g1 := hfs 1 _ rfl
    have g2 := hfs 2 _ rfl
    simp only [List.getElem?_cons_zero, List.getElem?_cons_succ] at g0 g1 g2
    obtain ⟨An, cn, n, e0, hRn, hn1, hn2, hn3⟩ := read_name str_cells g0 (hin y0 (by simp))
    obtain ⟨z1, e1, _, w1⟩ := DataW.trod_int Tryz.underlying3 g1
    obtain ⟨z2, e2, _, w2⟩ := DataW.trod_int Tryz.underlying3 g2
    cases e1
    cases e2
    subst e0
    have hb0 := slice_bulk Tryz.underlying22 g0
    exact ⟨(An, cn), ⟨n, z1, z2⟩, rfl, hRn, ⟨hn1, hn2⟩, w1, w2, hn3, by simp only [Rows.uptoBulk, List.map_cons, Rows.uptoBulkAll]; omega⟩

set_option maxRecDepth 20000 in
/-- A slice of things that take k cells each, as it is read, with its bulk. -/
theorem read_partsB {α : Type} (f : α → List Value) (k : Nat) (hf : ∀ p, (f p).length = k) (hk : 0 < k) (Q : World → Nat → α → Prop) {H : Type} {enc : TypeId × Value → H} {W : World} {fuel : Nat} {t e : TypeId} {cs0 : List Value} {z : DataW H × List MemPlace} {N : Nat}
    (ht : Tryz.prog.underlying t = some (.slice e)) (hce : Tryz.prog.cellsOf e = k) (hs : ∀ p : α, ∃ u, (f p)[0]? = some u)
    (hr : ∀ (fuel : Nat) (cs : List Value) (z : DataW H × List MemPlace), DataW.trod enc Tryz.prog W 0 (fun _ => true) true fuel e cs = some z → (∀ y ∈ z.2, y.block < W.heap.size) → Rows.uptoBulk z.1 ≤ N → ∃ p, cs = f p ∧ Q W W.heap.size p)
    (hf1 : DataW.trod enc Tryz.prog W 0 (fun _ => true) true fuel t cs0 = some z) (hlt : ∀ x ∈ z.2, x.block < W.heap.size) (hw : Rows.uptoBulk z.1 ≤ N) :
    ∃ (A : Option Addr) (c : Nat) (ps : List α), cs0 = [.slice A ps.length c] ∧ Row W W.heap.size A (ps.flatMap f) ∧ (∀ p ∈ ps, Q W W.heap.size p) ∧ ps.length ≤ c ∧ c ≤ maxLen ∧ ps.length ≤ N := by
  rcases Deep.open_slice ht hf1 with ⟨hcs, hx⟩ | ⟨a, len, cap, m, n, D, Pl, hcs, _, hl, hm, hmm, hx, hy⟩
  · exact ⟨none, 0, [], hcs, Row.empty _ _ _, fun p h => absurd h (List.not_mem_nil), Nat.zero_le _, Nat.zero_le _, Nat.zero_le _⟩
  · simp only [if_true] at hmm
    subst hmm
    subst hx
    subst hcs
    have hwl := bulk_len ((List.range len).map D)
    simp only [Rows.uptoBulk] at hw
    simp only [List.length_map, List.length_range] at hwl
    rw [hce] at hy hlt
    rcases Nat.eq_zero_or_pos len with rfl | hpos
    · exact ⟨some a, m, [], rfl, Row.empty _ _ _, fun p h => absurd h (List.not_mem_nil), Nat.zero_le _, hm, Nat.zero_le _⟩
    have each : ∀ i, i < len → ∃ y : α, (∀ j v, (f y)[j]? = some v → W.cell? (a.add (i * k + j)) = some v) ∧ Q W W.heap.size y := by
      intro i hi
      obtain ⟨cs, hc, hr1⟩ := hy i (by omega)
      obtain ⟨y, rfl, hq⟩ := hr _ _ _ hr1 (fun y hyz => hlt y (List.mem_append_right _ (List.mem_flatMap.2 ⟨i, List.mem_range.2 (by omega), hyz⟩)))
        (by
          have := bulk_in (List.mem_map.2 ⟨i, List.mem_range.2 hi, rfl⟩ : D i ∈ (List.range len).map D)
          show Rows.uptoBulk (D i) ≤ N
          omega)
      obtain ⟨_, _, hat⟩ := World.cells?_some hc
      refine ⟨y, fun j v hj => ?_, hq⟩
      have hjk : j < k := by
        have := (List.getElem?_eq_some_iff.1 hj).1
        rwa [hf] at this
      have := hat j hjk
      rw [hj, addr_add_add] at this
      exact this
    obtain ⟨y0, hy0, _⟩ := each 0 hpos
    obtain ⟨u0, hu0⟩ := hs y0
    obtain ⟨b, off, spot⟩ := a
    have hspot : spot = none := by
      have h := World.cell?_spot (hy0 0 _ hu0)
      simpa [Addr.add] using h
    subst hspot
    haveI : Inhabited α := ⟨y0⟩
    obtain ⟨Y, hY⟩ := Deep.choose_lt each
    have hnl : ((List.range len).map Y).length = len := by simp
    refine ⟨some ⟨b, off, none⟩, m, (List.range len).map Y, by rw [hnl], fun _ => ⟨b, off, rfl, hlt (.cell b off) (List.mem_append_left _ (MemPlace.mem_row.2 ⟨0, Nat.mul_pos (by omega) hk, by simp⟩)), fun j u hu => ?_⟩, fun p hp => ?_, by rw [hnl]; exact hl, hm, by rw [hnl]; omega⟩
    · have hj := (List.getElem?_eq_some_iff.1 hu).1
      rw [length_flat hf, hnl] at hj
      have hq : j / k < len := (Nat.div_lt_iff_lt_mul hk).2 hj
      have hr := Nat.mod_lt j hk
      have e : j = j / k * k + j % k := by rw [Nat.mul_comm]; exact (Nat.div_add_mod j k).symm
      have h1 := (hY (j / k) hq).1 (j % k) u
      rw [e, flat_get hf _ _ _ (by rw [hnl]; exact hq) hr] at hu
      rw [← e, addr_add] at h1
      exact h1 (by simpa using hu)
    · obtain ⟨i, hi, rfl⟩ := List.mem_map.1 hp
      exact (hY i (List.mem_range.1 hi)).2

/-- What is known of a message that came in. -/
structure MSafe (m : MV) : Prop where
  h : HIn m.h
  q : ∀ p ∈ m.qp, WideN p.2.name ∧ (Lit.int .i64 p.2.kind).wf = true ∧ (Lit.int .i64 p.2.cls).wf = true ∧ p.2.name.length ≤ p.1.2
  r : ∀ i, ∀ p ∈ (m.sec i).ps, RIn p.2 ∧ p.2.data.bytes.length ≤ 1048576
  n : m.qp.length ≤ 1048576 ∧ ∀ i, (m.sec i).ps.length ≤ 1048576
  c : m.qp.length ≤ m.qc ∧ m.qc ≤ maxLen ∧ ∀ i, (m.sec i).ps.length ≤ (m.sec i).c ∧ (m.sec i).c ≤ maxLen
  ql : ∀ p ∈ m.qp, p.2.name.length ≤ 1048576
theorem sec_all {m : MV} {P : Sec → Prop} (h0 : P m.s0) (h1 : P m.s1) (h2 : P m.s2) (i : Nat) : P (m.sec i) := by
  unfold MV.sec
  split
  · exact h0
  · split
    · exact h1
    · exact h2
theorem mem_all {m : MV} {r : Rt} (h : r ∈ m.msg.all) : ∃ i, ∃ p ∈ (m.sec i).ps, p.2 = r := by
  unfold Mt.all at h
  rcases List.mem_append.1 h with h4 | h4
  · obtain ⟨p, hp, e⟩ := List.mem_map.1 h4
    exact ⟨0, p, hp, e⟩
  · rcases List.mem_append.1 h4 with h4 | h4
    · obtain ⟨p, hp, e⟩ := List.mem_map.1 h4
      exact ⟨1, p, hp, e⟩
    · obtain ⟨p, hp, e⟩ := List.mem_map.1 h4
      exact ⟨2, p, hp, e⟩
theorem in_all {m : MV} {i : Nat} {p : RV × Rt} (h : p ∈ (m.sec i).ps) : p.2 ∈ m.msg.all := by
  unfold MV.sec at h
  unfold Mt.all
  split at h
  · exact List.mem_append_left _ (List.mem_map.2 ⟨p, h, rfl⟩)
  · split at h
    · exact List.mem_append_right _ (List.mem_append_left _ (List.mem_map.2 ⟨p, h, rfl⟩))
    · exact List.mem_append_right _ (List.mem_append_right _ (List.mem_map.2 ⟨p, h, rfl⟩))
theorem all_len (m : MV) : m.msg.all.length = m.s0.ps.length + (m.s1.ps.length + m.s2.ps.length) := by
  show (recs m.s0.ps ++ (recs m.s1.ps ++ recs m.s2.ps)).length = _
  rw [List.length_append, List.length_append, length_recs, length_recs, length_recs]
/-- A light one is small throughout. -/
theorem MSafe.small {m : MV} (h : MSafe m) (hl : LightM m.msg) : MIn m ∧ ∀ i, (m.sec i).ps.length ≤ 700 := by
  have h1 := all_len m
  have h2 := hl.n
  have h3 : ∀ i, (m.sec i).ps.length ≤ 700 := fun i => sec_all (P := fun s => s.ps.length ≤ 700) (by omega) (by omega) (by omega) i
  refine ⟨⟨h.h, fun p hp => ?_, fun i p hp => ⟨(h.r i p hp).1, hl.r _ (in_all hp)⟩, ?_, fun i => by have := h3 i; omega⟩, h3⟩
  · obtain ⟨a, b, c, _⟩ := h.q p hp
    exact ⟨a, b, c, h.ql p hp⟩
  · have h4 := hl.q
    have h5 : m.msg.qs.length = m.qp.length := length_qsts _
    omega

theorem MIn.same {m m' : MV} (h : m'.msg = m.msg) (hi : MIn m) : MIn m' := by
  unfold MV.msg at h
  injection h with h0 h1 h2 h3 h4
  have hs : ∀ i, recs (m'.sec i).ps = recs (m.sec i).ps := fun i => by
    unfold MV.sec
    split
    · exact h2
    · split
      · exact h3
      · exact h4
  refine ⟨by rw [h0]; exact hi.h, fun p hp => ?_, fun i p hp => ?_, ?_, fun i => ?_⟩
  · have h5 : p.2 ∈ qsts m.qp := by rw [← h1]; exact List.mem_map.2 ⟨p, hp, rfl⟩
    obtain ⟨p', hp', e⟩ := List.mem_map.1 h5
    rw [← e]
    exact hi.q p' hp'
  · have h5 : p.2 ∈ recs (m.sec i).ps := by rw [← hs i]; exact List.mem_map.2 ⟨p, hp, rfl⟩
    obtain ⟨p', hp', e⟩ := List.mem_map.1 h5
    rw [← e]
    exact hi.r i p' hp'
  · rw [← length_qsts, h1, length_qsts]
    exact hi.ql
  · rw [← length_recs, hs i, length_recs]
    exact hi.rl i
/-- A message's cells, one by one. -/
def Cells14 (W : World) (g : Nat) (h : Hd) (vq va vu vx : Value) : Prop :=
  W.cell? ⟨g, 0, none⟩ = some (.int .i64 h.id) ∧ W.cell? ⟨g, 1, none⟩ = some (.bool h.resp) ∧ W.cell? ⟨g, 2, none⟩ = some (.int .i64 h.op) ∧ W.cell? ⟨g, 3, none⟩ = some (.bool h.aa) ∧ W.cell? ⟨g, 4, none⟩ = some (.bool h.tc) ∧ W.cell? ⟨g, 5, none⟩ = some (.bool h.rd) ∧ W.cell? ⟨g, 6, none⟩ = some (.bool h.ra) ∧
    W.cell? ⟨g, 7, none⟩ = some (.int .i64 h.rc) ∧ W.cell? ⟨g, 8, none⟩ = some vq ∧ W.cell? ⟨g, 9, none⟩ = some va ∧ W.cell? ⟨g, 10, none⟩ = some vu ∧ W.cell? ⟨g, 11, none⟩ = some vx ∧ W.cell? ⟨g, 12, none⟩ = some (.bool h.edns) ∧ W.cell? ⟨g, 13, none⟩ = some (.int .i64 h.size)
theorem cells14 {W : World} {g : Nat} {h : Hd} {vq va vu vx : Value} (hw : Whole W g 28 (cellsM h vq va vu vx)) : Cells14 W g h vq va vu vx :=
  ⟨hw.cell 0, hw.cell 1, hw.cell 2, hw.cell 3, hw.cell 4, hw.cell 5, hw.cell 6, hw.cell 7, hw.cell 8, hw.cell 9, hw.cell 10, hw.cell 11, hw.cell 12, hw.cell 13⟩

theorem u16_nat {n : Int} (h : (Lit.int .u16 n).wf = true) : ∃ m : Nat, n = m ∧ m < 65536 := by
  have h1 : IntKind.u16.min = 0 := rfl
  have h2 : IntKind.u16.max = 65535 := rfl
  simp only [Lit.wf, Bool.and_eq_true, decide_eq_true_eq] at h
  exact ⟨n.toNat, by omega, by omega⟩
theorem msg_size : Tryz.prog.cellsOf 28 = 14 := by kernel_rfl

set_option maxRecDepth 20000 in
set_option maxHeartbeats 1000000 in
theorem open_msg {H : Type} {enc : TypeId × Value → H} {W : World} {base : Nat} {v : Value} {d : DataW H} {p : List MemPlace}
    (hval : Value.okWide Tryz.prog W .any base 28 v) (h : DataW.Trod enc Tryz.prog W 0 (fun _ => true) true 28 v d p) (hlt : ∀ x ∈ p, x.block < W.heap.size) (hk : Rows.uptoBulk d ≤ 1048576) :
    ∃ m : MV, v = m.val ∧ MAt W W.heap.size m ∧ MSafe m := by
  unfold Value.okWide at hval
  rw [Tryz.underlying28] at hval
  obtain ⟨cs0, rfl, hsz, _⟩ := hval
  obtain ⟨fuel, hf⟩ := h
  obtain ⟨xs, k, _, hx, hcl, hxl, hfs⟩ := DataW.trod_struct Tryz.underlying28 hf
  obtain ⟨cs⟩ := cs0
  simp only [Value.cells] at hf hcl hfs
  have hp : p = xs.flatMap (·.2) := by simpa using congrArg Prod.snd hx
  have hd : d = .agg (xs.map (·.1)) := by simpa using congrArg Prod.fst hx
  have hin : ∀ z ∈ xs, ∀ y ∈ z.2, y.block < W.heap.size := fun z hz y hyz => hlt y (by rw [hp]; exact List.mem_flatMap.2 ⟨z, hz, hyz⟩)
  have hbk : ∀ z ∈ xs, Rows.uptoBulk z.1 ≤ 1048576 := fun z hz => by
    have h1 := bulk_in (List.mem_map.2 ⟨z, hz, rfl⟩ : z.1 ∈ xs.map (·.1))
    rw [hd] at hk
    simp only [Rows.uptoBulk] at hk
    omega
  have hxl14 : xs.length = 14 := hxl
  have hc14 : cs.length = 14 := by rw [msg_size] at hcl; simpa using hcl
  clear hx hp hf hcl hsz hd hk hlt
  match cs, hc14, xs, hxl14, hfs, hin, hbk with
  | [c0, c1, c2, c3, c4, c5, c6, c7, c8, c9, c10, c11, c12, c13], _, [y0, y1, y2, y3, y4, y5, y6, y7, y8, y9, y10, y11, y12, y13], _, hfs, hin, hbk =>
    have g0 := hfs 0 _ rfl
    have g1 := hfs 1 _ rfl
    have g2 := hfs 2 _ rfl
    have g3 := hfs 3 _ rfl
    have g4 := hfs 4 _ rfl
    have g5 := hfs 5 _ rfl
    have g6 := hfs 6 _ rfl
    have g7 := hfs 7 _ rfl
    have g8 := hfs 8 _ rfl
    have g9 := hfs 9 _ rfl
    have g10 := hfs 10 _ rfl
    have g11 := hfs 11 _ rfl
    have g12 := hfs 12 _ rfl
    have g13 := hfs 13 _ rfl
    simp only [List.getElem?_cons_zero, List.getElem?_cons_succ] at g0 g1 g2 g3 g4 g5 g6 g7 g8 g9 g10 g11 g12 g13
    obtain ⟨z0, e0, _, w0⟩ := DataW.trod_int Tryz.underlying3 g0
    obtain ⟨z1, e1, _⟩ := DataW.trod_bool Tryz.underlying4 g1
    obtain ⟨z2, e2, _, w2⟩ := DataW.trod_int Tryz.underlying3 g2
    obtain ⟨z3, e3, _⟩ := DataW.trod_bool Tryz.underlying4 g3
    obtain ⟨z4, e4, _⟩ := DataW.trod_bool Tryz.underlying4 g4
    obtain ⟨z5, e5, _⟩ := DataW.trod_bool Tryz.underlying4 g5
    obtain ⟨z6, e6, _⟩ := DataW.trod_bool Tryz.underlying4 g6
    obtain ⟨z7, e7, _, w7⟩ := DataW.trod_int Tryz.underlying3 g7
    obtain ⟨z12, e12, _⟩ := DataW.trod_bool Tryz.underlying4 g12
    obtain ⟨z13, e13, _, w13⟩ := DataW.trod_int Tryz.underlying3 g13
    obtain ⟨qA, qc, qp, e8, hq1, hq2, hq3, hq4, hq5⟩ := read_partsB cellsQ 3 cellsQ_len (by omega) (fun W H p => QAt W H p.1 p.2 ∧ WideN p.2.name ∧ (Lit.int .i64 p.2.kind).wf = true ∧ (Lit.int .i64 p.2.cls).wf = true ∧ p.2.name.length ≤ p.1.2 ∧ p.2.name.length ≤ 1048576) Tryz.underlying25 quest_cells (fun p => ⟨_, rfl⟩)
      (fun fuel cs z hz hlz hb => by
        obtain ⟨x, r, e, h1, h2, h3, h4, h5, h6⟩ := read_question hz hlz
        exact ⟨(x, r), e, h1, h2, h3, h4, h5, Nat.le_trans h6 hb⟩) g8 (hin y8 (by simp)) (hbk y8 (by simp))
    have hrd : ∀ (fuel : Nat) (cs : List Value) (z : DataW H × List MemPlace), DataW.trod enc Tryz.prog W 0 (fun _ => true) true fuel 46 cs = some z → (∀ y ∈ z.2, y.block < W.heap.size) → Rows.uptoBulk z.1 ≤ 1048576 → ∃ p : RV × Rt, cs = cellsR p ∧ (RAt W W.heap.size p.1 p.2 ∧ RIn p.2 ∧ p.2.data.bytes.length ≤ 1048576) := fun fuel cs z hz hlz hb => by
      obtain ⟨x, r, e, h1, h2⟩ := read_rr hz hlz
      subst e
      exact ⟨(x, r), rfl, h1, h2, Nat.le_trans (rr_bulk hz) hb⟩
    obtain ⟨A0, a0, p0, e9, r01, r02, r03, r04, r05⟩ := read_partsB cellsR 9 cellsR_len (by omega) (fun W H p => RAt W H p.1 p.2 ∧ RIn p.2 ∧ p.2.data.bytes.length ≤ 1048576) Tryz.underlying26 rr_cells (fun p => ⟨_, rfl⟩) hrd g9 (hin y9 (by simp)) (hbk y9 (by simp))
    obtain ⟨A1, a1, p1, e10, r11, r12, r13, r14, r15⟩ := read_partsB cellsR 9 cellsR_len (by omega) (fun W H p => RAt W H p.1 p.2 ∧ RIn p.2 ∧ p.2.data.bytes.length ≤ 1048576) Tryz.underlying26 rr_cells (fun p => ⟨_, rfl⟩) hrd g10 (hin y10 (by simp)) (hbk y10 (by simp))
    obtain ⟨A2, a2, p2, e11, r21, r22, r23, r24, r25⟩ := read_partsB cellsR 9 cellsR_len (by omega) (fun W H p => RAt W H p.1 p.2 ∧ RIn p.2 ∧ p.2.data.bytes.length ≤ 1048576) Tryz.underlying26 rr_cells (fun p => ⟨_, rfl⟩) hrd g11 (hin y11 (by simp)) (hbk y11 (by simp))
    cases e0; cases e1; cases e2; cases e3; cases e4; cases e5; cases e6; cases e7; cases e8; cases e9; cases e10; cases e11; cases e12; cases e13
    refine ⟨⟨⟨z0, z1, z2, z3, z4, z5, z6, z7, z12, z13⟩, qA, qc, qp, ⟨A0, a0, p0⟩, ⟨A1, a1, p1⟩, ⟨A2, a2, p2⟩⟩, rfl, ⟨⟨hq1, fun p hp => (hq2 p hp).1⟩, ⟨r01, fun p hp => (r02 p hp).1⟩, ⟨r11, fun p hp => (r12 p hp).1⟩, ⟨r21, fun p hp => (r22 p hp).1⟩⟩, ⟨⟨w0, w2, w7, w13⟩, fun p hp => ⟨(hq2 p hp).2.1, (hq2 p hp).2.2.1, (hq2 p hp).2.2.2.1, (hq2 p hp).2.2.2.2.1⟩, fun i => ?_, ⟨hq5, fun i => ?_⟩, ⟨hq3, hq4, fun i => ?_⟩, fun p hp => (hq2 p hp).2.2.2.2.2⟩⟩
    · exact sec_all (P := fun s => ∀ p ∈ s.ps, RIn p.2 ∧ p.2.data.bytes.length ≤ 1048576) (fun p hp => (r02 p hp).2) (fun p hp => (r12 p hp).2) (fun p hp => (r22 p hp).2) i
    · exact sec_all (P := fun s => s.ps.length ≤ 1048576) r05 r15 r25 i
    · exact sec_all (P := fun s => s.ps.length ≤ s.c ∧ s.c ≤ maxLen) ⟨r03, r04⟩ ⟨r13, r14⟩ ⟨r23, r24⟩ i

end Go.Proofs.YthppgofpbpjglaaGreat

namespace Go.Proofs.YthppgofpbpjglaaGreat
open Go.RowKit

theorem step_append_wp {P : Program} {w : World} {o : Oper} {a : Act} {K : Act → World → Prop} {Q : Exit → Act → World → Prop} (hgd : o.guard = none) (s x : Operand) (t : TypeId)
    (ho : o.op = .call { callee := .builtin .append, args := #[s, x], argTypes := #[t, t] })
    (base : Nat) (e : TypeId) (i : TypeInfo) (z : Value) (size bytes : Nat) (ht : P.underlying t = some (.slice e)) (hi : P.info? e = some i) (hz : i.zero = some z)
    (hsize : i.size = size) (hby : i.bytes = bytes) (hzs : z.cells.size = size) (hsz : 0 < size)
    (v : Value) (n : Nat) (xs : List Value) (hs : a.eval s = v) (hown : w.ownsRow base e size v n xs)
    (A : Option Addr) (m c H : Nat) (news : List Value) (hx : a.eval x = .slice A m c) (hl : news.length = m * size) (hr : Row w H A news) (h1 : ∀ u ∈ news, u.oneCell' = true)
    (h63 : n + m ≤ maxLen) (hbytes : (n + m) * bytes ≤ 140737488355328) (hbase : base ≤ w.heap.size)
    (h : ∀ v' w', w'.ownsRow base e size v' (n + m) (xs ++ news) → w.grownBy w' v.ownBlock → K (a.put o.dst v') w') : Oper.wp P o a w K Q := by
  have h2 := step_append_any (ops := #[]) (Q := Q) (E := True) hgd s x t ho base e i z size bytes ht hi hz hsize hby hzs hsz v n xs hs hown A m c H news hx hl hr h1 h63 hbytes hbase h
  rwa [if_pos (by simp [Region.wanted, hgd])] at h2

theorem heap_lt {w : World} {g : Nat} {o : Obj} (h : w.heap[g]? = some o) : g < w.heap.size := by
  rcases Nat.lt_or_ge g w.heap.size with hl | hl
  · exact hl
  · rw [Array.getElem?_eq_none hl] at h; cases h
theorem len_le_szN' {n : List (List UInt8)} (h : szN n ≤ maxLen) : n.length ≤ maxLen := Nat.le_trans (Nat.le_of_lt (length_lt_szN n)) h
theorem MSafe.smallG {m : MV} (h : MSafe m) (hl : LightG m.msg) : MIn m ∧ ∀ i, (m.sec i).ps.length ≤ 700 := by
  have h1 := all_len m
  have h2 := hl.n
  have h3 : ∀ i, (m.sec i).ps.length ≤ 700 := fun i => sec_all (P := fun s => s.ps.length ≤ 700) (by omega) (by omega) (by omega) i
  refine ⟨⟨h.h, fun p hp => ?_, fun i p hp => ⟨(h.r i p hp).1, hl.r _ (in_all hp)⟩, ?_, fun i => by have := h3 i; omega⟩, h3⟩
  · obtain ⟨a, b, c, _⟩ := h.q p hp
    exact ⟨a, b, c, h.ql p hp⟩
  · have h4 := hl.q
    have h5 : m.msg.qs.length = m.qp.length := length_qsts _
    omega

/-- The boxes of the question and of the message. -/
structure QMBoxes (w : World) (y : QV) (q : Qt) (lm : List Value) (W : World) : Prop where
  bq : Whole W w.heap.size 24 (cellsQ (y, q))
  bm : Whole W (w.heap.size + 1) 28 lm
  below : Below w.heap.size w W
  size : w.heap.size + 2 ≤ W.heap.size
theorem QMBoxes.step {w : World} {y : QV} {q : Qt} {lm : List Value} {W W' : World} (h : QMBoxes w y q lm W) (hb : Below W.heap.size W W') : QMBoxes w y q lm W' :=
  ⟨h.bq.below hb h.bq.lt, h.bm.below hb h.bm.lt, h.below.trans (hb.mono (by have := h.size; omega)), Nat.le_trans h.size hb.size⟩
theorem QMBoxes.made (w : World) (y : QV) (q : Qt) (h : Hd) (vq va vu vx : Value) : QMBoxes w y q (cellsM h vq va vu vx) ((w.alloc (.cells #[.slice y.1 q.name.length y.2, .int .i64 q.kind, .int .i64 q.cls] 24)).alloc (.cells #[.int .i64 h.id, .bool h.resp, .int .i64 h.op, .bool h.aa, .bool h.tc, .bool h.rd, .bool h.ra, .int .i64 h.rc, vq, va, vu, vx, .bool h.edns, .int .i64 h.size] 28)) := by
  have hz : (w.alloc (.cells #[.slice y.1 q.name.length y.2, .int .i64 q.kind, .int .i64 q.cls] 24)).heap.size = w.heap.size + 1 := by simp
  refine ⟨(Whole.made w (cellsQ (y, q)) _).alloc _, ?_, ((Below.refl _ _).alloc (Nat.le_refl _) _).alloc (by simp) _, by simp⟩
  have := Whole.made (w.alloc (.cells #[.slice y.1 q.name.length y.2, .int .i64 q.kind, .int .i64 q.cls] 24)) (cellsM h vq va vu vx) 28
  rw [hz] at this
  exact this

/-- What the three sections' records are, one behind the other. -/
def AllRelG (w0 : World) (ps : List (RV × Rt)) (v : Value) (wx : World) : Prop :=
  ∃ (A : Option Addr) (c : Nat), v = .slice A ps.length c ∧ Row wx wx.heap.size A (ps.flatMap cellsR) ∧ Below w0.heap.size w0 wx
/-- What From has answered. -/
def FromRel (w0 : World) (q : Qt) (M : Mt) (z : List (List UInt8)) (now : Int) (v : Value) (wx : World) : Prop := ∃ wa, Below w0.heap.size w0 wa ∧ FromOut wa q M z now (.returned v) wx

end Go.Proofs.YthppgofpbpjglaaGreat

namespace Go.Proofs.YthppgofpbpjglaaGreat
open Go.RowKit

theorem fact_info : (Tryz.prog.info? 40).map (fun i => (i.zero, i.size, i.bytes)) = some (some (.agg #[.slice none 0 0, .int .i64 0, .int .i64 0, .int .i64 0, .int .i64 0, .int .i64 0, .slice none 0 0, .slice none 0 0, .slice none 0 0, .slice none 0 0, .slice none 0 0, .slice none 0 0, .slice none 0 0]), 13, 232) := by kernel_rfl
theorem strs_oneT : (Tryz.prog.info? 22).map (·.size) = some 1 := by kernel_rfl
theorem int_oneT : (Tryz.prog.info? 3).map (·.size) = some 1 := by kernel_rfl
theorem facts_oneT : (Tryz.prog.info? 31).map (·.size) = some 1 := by kernel_rfl

/-- What of a fact add is given: all but name and time. -/
structure FPart (w : World) (B : Nat) (x : FV) : Prop where
  z : w.ownsRow B 9 1 (.slice x.zA x.zone.length x.zc) x.zone.length (x.zone.map sv)
  d : OwnD w B x.d x.soa
  s : w.ownsRow B 38 5 (.slice x.sA x.sp.length x.sc) x.sp.length (x.sp.flatMap cellsD)
  e : ∀ p ∈ x.sp, OwnD w B p.1 p.2
theorem FPart.step {w w' : World} {B : Nat} {x : FV} (h : FPart w B x) (hb : Below w.heap.size w w') : FPart w' B x :=
  have kr : ∀ {base n size : Nat} {e : TypeId} {u : Value} {l : List Value}, w.ownsRow base e size u n l → w'.ownsRow base e size u n l := fun ho => own_keep ho fun g e => hb.block g (ho.lt g e).2
  ⟨kr h.z, h.d.keepB fun g _ hg => hb.block g hg, kr h.s, fun p hp => (h.e p hp).keepB fun g _ hg => hb.block g hg⟩
structure FPIn (x : FV) : Prop where
  t : (Lit.int .i64 x.h.typ).wf = true
  k : (Lit.int .i64 x.h.knd).wf = true
  r : (Lit.int .i64 x.h.rank).wf = true
  l : (Lit.int .i64 x.h.ttl).wf = true
  z : szN x.zone ≤ maxLen ∧ x.zone.length ≤ 300 ∧ WideN x.zone
  s : ∀ p ∈ x.sp, DatIn p.2 ∧ p.2.host.length ≤ 300 ∧ p.2.mail.length ≤ 300
  d : DatIn x.soa ∧ x.soa.host.length ≤ 300 ∧ x.soa.mail.length ≤ 300
/-- The fact that is told. -/
def FV.of (x : FV) (A : Option Addr) (c : Nat) (n : List (List UInt8)) (now : Int) : FV := { x with A := A, c := c, name := n, h := { x.h with got := now } }
def FV.fc (x : FV) (n : List (List UInt8)) (now : Int) : Fc := ⟨n, { x.h with got := now }, dats x.sp, x.zone, x.soa⟩
abbrev FV.arg (x : FV) : Value := .agg #[.slice none 0 0, .int .i64 x.h.typ, .int .i64 x.h.knd, .int .i64 x.h.rank, .int .i64 0, .int .i64 x.h.ttl, .slice x.sA x.sp.length x.sc, .slice x.zA x.zone.length x.zc,
  .slice x.d.Ab x.soa.bytes.length x.d.cb, .slice x.d.Ah x.soa.host.length x.d.ch, .slice x.d.Am x.soa.mail.length x.d.cm, .slice x.d.An x.soa.nums.length x.d.cn, .slice x.d.At x.soa.texts.length x.d.ct]
def argCells (x : FV) : List Value := [.slice none 0 0, .int .i64 x.h.typ, .int .i64 x.h.knd, .int .i64 x.h.rank, .int .i64 0, .int .i64 x.h.ttl, .slice x.sA x.sp.length x.sc, .slice x.zA x.zone.length x.zc,
  .slice x.d.Ab x.soa.bytes.length x.d.cb, .slice x.d.Ah x.soa.host.length x.d.ch, .slice x.d.Am x.soa.mail.length x.d.cm, .slice x.d.An x.soa.nums.length x.d.cn, .slice x.d.At x.soa.texts.length x.d.ct]
def midCells (x : FV) (A : Option Addr) (c : Nat) (n : List (List UInt8)) : List Value := [.slice A n.length c, .int .i64 x.h.typ, .int .i64 x.h.knd, .int .i64 x.h.rank, .int .i64 0, .int .i64 x.h.ttl, .slice x.sA x.sp.length x.sc, .slice x.zA x.zone.length x.zc,
  .slice x.d.Ab x.soa.bytes.length x.d.cb, .slice x.d.Ah x.soa.host.length x.d.ch, .slice x.d.Am x.soa.mail.length x.d.cm, .slice x.d.An x.soa.nums.length x.d.cn, .slice x.d.At x.soa.texts.length x.d.ct]

/-- add's box and its copy of the name. -/
structure AddB (w : World) (L : List Value) (A : Option Addr) (c : Nat) (n : List (List UInt8)) (W : World) : Prop where
  box : Whole W w.heap.size 40 L
  own : W.ownsRow (w.heap.size + 1) 9 1 (.slice A n.length c) n.length (n.map sv)
  below : Below w.heap.size w W
  size : w.heap.size + 1 ≤ W.heap.size
theorem AddB.step {w W W' : World} {L : List Value} {A : Option Addr} {c : Nat} {n : List (List UInt8)} (h : AddB w L A c n W) (hb : Below W.heap.size W W') : AddB w L A c n W' :=
  ⟨h.box.below hb h.box.lt, own_keep h.own fun g e => hb.block g (h.own.lt g e).2, h.below.trans (hb.mono (by have := h.size; omega)), Nat.le_trans h.size hb.size⟩
theorem AddB.put {w W V : World} {L L' : List Value} {A : Option Addr} {c : Nat} {n : List (List UInt8)} (h : AddB w L A c n W) (hV : Whole V w.heap.size 40 L') (hG : Grew (fun j => j = w.heap.size) W V) (hz : V.heap.size = W.heap.size) : AddB w L' A c n V :=
  ⟨hV, own_keep h.own fun g e => hG.block g (h.own.lt g e).2 (by have := (h.own.lt g e).1; omega), h.below.trans (Grew.below (B := w.heap.size) hG (fun j hj => by rw [hj]; exact Nat.le_refl _) (by have := h.size; omega)), by rw [hz]; exact h.size⟩

set_option maxRecDepth 20000 in
set_option maxHeartbeats 8000000 in
theorem add_any (w0 w : World) (T : Te) (b : Nat) (an au ex : Sec) (v : Value) (xs : List FV) (h : TAt w0 T b an au ex v xs w) (ok : TeOk w0 T) (hl : xs.length ≤ 10000) (A : Option Addr) (c : Nat) (n : List (List UInt8)) (hn : Held w0 w A c n) (hns : soundN n = true)
    (x : FV) (hp : FPart w w0.heap.size x) (hi : FPIn x) (hT : soundF (x.fc n T.now) = true → ToldF T.m.msg T.z T.now (x.fc n T.now)) :
    Calls Tryz.prog 52 #[.pointer (some ⟨b, 0, none⟩), .slice A n.length c, x.arg] w (fun e w' => e = .returned (.tuple #[]) ∧ TellOut w0 T b an au ex xs 1 w w') := by
  obtain ⟨i0, hi0, hz0, hz1, hz2⟩ := info_parts fact_info
  obtain ⟨Av, cv, rfl, _, _⟩ := own_form h.row
  have HL := Lib.hid hl
  have HT := Lib.hid (fun W (hb : Below w.heap.size w W) => h.step hb)
  have HP := Lib.hid (fun W (hb : Below w.heap.size w W) => hp.step hb)
  have HTD := Lib.hid hT
  have nl := sound_few hns
  have HCL := Lib.hid (fun W (hb : Below w.heap.size w W) => cloneN_any A c w.heap.size n W ((hn.row h.below).below hb) (by omega))
  have HOWN := Lib.hid (show ∀ W (A2 : Option Addr) (c2 : Nat) (_ : AddB w (cellsF (x.of A2 c2 n T.now)) A2 c2 n W), FOwn W w0.heap.size (x.of A2 c2 n T.now) from fun W A2 c2 hb =>
    have hq := hp.step hb.below
    ⟨own_mono hb.own (Nat.le_succ_of_le h.size), hq.z, hq.d, hq.s, hq.e⟩)
  have hwf := ok.now
  have HSN := Lib.hid (show ∀ W (A2 : Option Addr) (c2 : Nat) (_ : AddB w (cellsF (x.of A2 c2 n T.now)) A2 c2 n W), Calls Tryz.prog 11 #[(x.of A2 c2 n T.now).val] W (Gave W (.bool (soundF (x.fc n T.now)))) from fun W A2 c2 hb =>
    fsound_real W (x.of A2 c2 n T.now) (HOWN.out W A2 c2 hb).at_ ⟨⟨hi.t, hi.k, hi.r, by have := timeB_yes hwf; exact wf_i64 (show _ ≤ T.now by omega) (show T.now ≤ _ by omega), hi.l⟩, soundN_wide hns, hi.z.2.2, fun p hp => (hi.s p hp).1, hi.d.1⟩ ⟨by show n.length ≤ 300; omega, hi.z.2.1, fun p hp => (hi.s p hp).2, hi.d.2⟩)
  have HB1 := Lib.hid (Whole.made w (argCells x) 40)
  have HB0 := Lib.hid ((Below.refl w.heap.size w).alloc (Nat.le_refl _) (.cells #[.slice none 0 0, .int .i64 x.h.typ, .int .i64 x.h.knd, .int .i64 x.h.rank, .int .i64 0, .int .i64 x.h.ttl, .slice x.sA x.sp.length x.sc, .slice x.zA x.zone.length x.zc,
  .slice x.d.Ab x.soa.bytes.length x.d.cb, .slice x.d.Ah x.soa.host.length x.d.ch, .slice x.d.Am x.soa.mail.length x.d.cm, .slice x.d.An x.soa.nums.length x.d.cn, .slice x.d.At x.soa.texts.length x.d.ct] 40))
  clear h ok hn hns hp hi hT hl hwf
  go_enter Tryz.func52, Tryz.ntmps52
  go_wp2_with fail
  refine (HCL.out _ HB0.out).mono ?_
  rintro e w2 ⟨A2, c2, rfl, hown, hb2⟩
  have HAB := Lib.hid (show AddB w (argCells x) A2 c2 n w2 from ⟨HB1.out.below hb2 HB1.out.lt, own_mono hown (by simp), HB0.out.trans (hb2.mono (by simp)), by have := hb2.size; simp at this; omega⟩)
  clear hown hb2 HCL HB1 HB0
  go_wp2_with (first
    | (refine wpList_store_one rfl 22 (.tmp 8) (.tmp 7) rfl w.heap.size 0 (.slice A2 n.length c2) rfl rfl rfl strs_oneT 40 _ HAB.out.box _ rfl ?_
       intro V1 hV hG hZ
       have HA1 := Lib.hid (show AddB w (midCells x A2 c2 n) A2 c2 n V1 from HAB.out.put hV hG hZ)
       have c18 : V1.cell? ⟨b, 18, none⟩ = some (.int .i64 T.now) := (HT.out V1 HA1.out.below).blk.cell 18
       clear hV hG hZ)
    | (refine wpList_store_one rfl 3 (.tmp 13) (.tmp 12) rfl w.heap.size 4 (.int .i64 T.now) rfl rfl rfl int_oneT 40 _ HA1.out.box _ rfl ?_
       intro V2 hV hG hZ
       have HA2 := Lib.hid (show AddB w (cellsF (x.of A2 c2 n T.now)) A2 c2 n V2 from HA1.out.put hV hG hZ)
       clear hV hG hZ
       have e0 : V2.cell? ⟨w.heap.size, 0, none⟩ = some (.slice A2 n.length c2) := HA2.out.box.cell 0
       have e1 : V2.cell? ⟨w.heap.size, 1, none⟩ = some (.int .i64 x.h.typ) := HA2.out.box.cell 1
       have e2 : V2.cell? ⟨w.heap.size, 2, none⟩ = some (.int .i64 x.h.knd) := HA2.out.box.cell 2
       have e3 : V2.cell? ⟨w.heap.size, 3, none⟩ = some (.int .i64 x.h.rank) := HA2.out.box.cell 3
       have e4 : V2.cell? ⟨w.heap.size, 4, none⟩ = some (.int .i64 T.now) := HA2.out.box.cell 4
       have e5 : V2.cell? ⟨w.heap.size, 5, none⟩ = some (.int .i64 x.h.ttl) := HA2.out.box.cell 5
       have e6 : V2.cell? ⟨w.heap.size, 6, none⟩ = some (.slice x.sA x.sp.length x.sc) := HA2.out.box.cell 6
       have e7 : V2.cell? ⟨w.heap.size, 7, none⟩ = some (.slice x.zA x.zone.length x.zc) := HA2.out.box.cell 7
       have e8 : V2.cell? ⟨w.heap.size, 8, none⟩ = some (.slice x.d.Ab x.soa.bytes.length x.d.cb) := HA2.out.box.cell 8
       have e9 : V2.cell? ⟨w.heap.size, 9, none⟩ = some (.slice x.d.Ah x.soa.host.length x.d.ch) := HA2.out.box.cell 9
       have e10 : V2.cell? ⟨w.heap.size, 10, none⟩ = some (.slice x.d.Am x.soa.mail.length x.d.cm) := HA2.out.box.cell 10
       have e11 : V2.cell? ⟨w.heap.size, 11, none⟩ = some (.slice x.d.An x.soa.nums.length x.d.cn) := HA2.out.box.cell 11
       have e12 : V2.cell? ⟨w.heap.size, 12, none⟩ = some (.slice x.d.At x.soa.texts.length x.d.ct) := HA2.out.box.cell 12))
  refine (HSN.out _ A2 c2 HA2.out).mono ?_
  rintro e w3 ⟨rfl, hb3⟩
  have HA3 := Lib.hid (HA2.out.step hb3)
  clear hb3 e0 e1 e2 e3 e4 e5 e6 e7 e8 e9 e10 e11 e12
  cases hv : soundF (x.fc n T.now) with
  | false =>
    go_wp2
    go_end0
    have ht := HT.out w3 HA3.out.below
    exact ⟨rfl, _, xs, ht, Nat.le_succ _, KeptT.below HA3.out.below, HA3.out.below.size⟩
  | true =>
  have HTF := Lib.hid (HTD.out hv)
  clear HTD hv
  have HSX := Lib.hid (show ∀ W, AddB w (cellsF (x.of A2 c2 n T.now)) A2 c2 n W → (W.cell? ⟨w.heap.size, 0, none⟩ = some (.slice A2 n.length c2) ∧ W.cell? ⟨w.heap.size, 1, none⟩ = some (.int .i64 x.h.typ) ∧ W.cell? ⟨w.heap.size, 2, none⟩ = some (.int .i64 x.h.knd) ∧ W.cell? ⟨w.heap.size, 3, none⟩ = some (.int .i64 x.h.rank) ∧ W.cell? ⟨w.heap.size, 4, none⟩ = some (.int .i64 T.now) ∧ W.cell? ⟨w.heap.size, 5, none⟩ = some (.int .i64 x.h.ttl) ∧ W.cell? ⟨w.heap.size, 6, none⟩ = some (.slice x.sA x.sp.length x.sc) ∧ W.cell? ⟨w.heap.size, 7, none⟩ = some (.slice x.zA x.zone.length x.zc) ∧ W.cell? ⟨w.heap.size, 8, none⟩ = some (.slice x.d.Ab x.soa.bytes.length x.d.cb) ∧ W.cell? ⟨w.heap.size, 9, none⟩ = some (.slice x.d.Ah x.soa.host.length x.d.ch) ∧ W.cell? ⟨w.heap.size, 10, none⟩ = some (.slice x.d.Am x.soa.mail.length x.d.cm) ∧ W.cell? ⟨w.heap.size, 11, none⟩ = some (.slice x.d.An x.soa.nums.length x.d.cn) ∧ W.cell? ⟨w.heap.size, 12, none⟩ = some (.slice x.d.At x.soa.texts.length x.d.ct)) from fun W h => ⟨h.box.cell 0, h.box.cell 1, h.box.cell 2, h.box.cell 3, h.box.cell 4, h.box.cell 5, h.box.cell 6, h.box.cell 7, h.box.cell 8, h.box.cell 9, h.box.cell 10, h.box.cell 11, h.box.cell 12⟩)
  go_wp2
  refine wp_region_held_drew (S := fun W => (W.cell? ⟨w.heap.size, 0, none⟩ = some (.slice A2 n.length c2) ∧ W.cell? ⟨w.heap.size, 1, none⟩ = some (.int .i64 x.h.typ) ∧ W.cell? ⟨w.heap.size, 2, none⟩ = some (.int .i64 x.h.knd) ∧ W.cell? ⟨w.heap.size, 3, none⟩ = some (.int .i64 x.h.rank) ∧ W.cell? ⟨w.heap.size, 4, none⟩ = some (.int .i64 T.now) ∧ W.cell? ⟨w.heap.size, 5, none⟩ = some (.int .i64 x.h.ttl) ∧ W.cell? ⟨w.heap.size, 6, none⟩ = some (.slice x.sA x.sp.length x.sc) ∧ W.cell? ⟨w.heap.size, 7, none⟩ = some (.slice x.zA x.zone.length x.zc) ∧ W.cell? ⟨w.heap.size, 8, none⟩ = some (.slice x.d.Ab x.soa.bytes.length x.d.cb) ∧ W.cell? ⟨w.heap.size, 9, none⟩ = some (.slice x.d.Ah x.soa.host.length x.d.ch) ∧ W.cell? ⟨w.heap.size, 10, none⟩ = some (.slice x.d.Am x.soa.mail.length x.d.cm) ∧ W.cell? ⟨w.heap.size, 11, none⟩ = some (.slice x.d.An x.soa.nums.length x.d.cn) ∧ W.cell? ⟨w.heap.size, 12, none⟩ = some (.slice x.d.At x.soa.texts.length x.d.ct))) (by kernel_rfl) (by exact HSX.out _ (HA3.out.step (Below.refl _ _).drew)) (fun hHeld => ?_)
  refine wpAnyH_take (i := 0) (oi := ⟨some 16, _, _, _, _, _⟩) (v := ?_) rfl (by kernel_rfl) (by kernel_rfl) (by kernel_rfl) (fun _ _ _ h => h) (Or.inl ⟨by kernel_rfl, ?_⟩) (by assumption) ?_
  rotate_left
  · intro W hSw
    try dsimp only at hSw
    go_simp
    all_goals (with_reducible rfl)
  try simp only [Act.put, List.setIfInBounds_toArray, List.set_cons_zero, List.set_cons_succ]
  refine wpAnyH_take (i := 1) (oi := ⟨some 17, _, _, _, _, _⟩) (v := ?_) rfl (by kernel_rfl) (by kernel_rfl) (by kernel_rfl) (fun _ _ _ h => h) (Or.inl ⟨by kernel_rfl, ?_⟩) (by assumption) ?_
  rotate_left
  · intro W hSw
    try dsimp only at hSw
    go_simp
    all_goals (with_reducible rfl)
  try simp only [Act.put, List.setIfInBounds_toArray, List.set_cons_zero, List.set_cons_succ]
  refine wpAnyH_take (i := 2) (oi := ⟨some 18, _, _, _, _, _⟩) (v := ?_) rfl (by kernel_rfl) (by kernel_rfl) (by kernel_rfl) (fun _ _ _ h => h) (Or.inl ⟨by kernel_rfl, ?_⟩) (by assumption) ?_
  rotate_left
  · intro W hSw
    try dsimp only at hSw
    go_simp
    all_goals (with_reducible rfl)
  try simp only [Act.put, List.setIfInBounds_toArray, List.set_cons_zero, List.set_cons_succ]
  refine wpAnyH_take (i := 3) (oi := ⟨some 19, _, _, _, _, _⟩) (v := ?_) rfl (by kernel_rfl) (by kernel_rfl) (by kernel_rfl) (fun _ _ _ h => h) (Or.inl ⟨by kernel_rfl, ?_⟩) (by assumption) ?_
  rotate_left
  · intro W hSw
    try dsimp only at hSw
    go_simp
    all_goals (with_reducible rfl)
  try simp only [Act.put, List.setIfInBounds_toArray, List.set_cons_zero, List.set_cons_succ]
  refine wpAnyH_take (i := 5) (oi := ⟨some 21, _, _, _, _, _⟩) (v := ?_) rfl (by kernel_rfl) (by kernel_rfl) (by kernel_rfl) (fun _ _ _ h => h) (Or.inl ⟨by kernel_rfl, ?_⟩) (by assumption) ?_
  rotate_left
  · intro W hSw
    try dsimp only at hSw
    go_simp
    all_goals (with_reducible rfl)
  try simp only [Act.put, List.setIfInBounds_toArray, List.set_cons_zero, List.set_cons_succ]
  refine wpAnyH_ready (rs := [4, 6]) (by kernel_rfl) (by simp) ?_
  refine AllReadyH.cons (o := { dst := some 20, op := Go.Op.load 31 (Go.Operand.tmp 19), type := 31, pos := "from.go:188", after := #[{ on := 3, ground := Go.Ground.data }], guard := none }) rfl (fun K hK => ?_) (AllReadyH.cons (o := { dst := some 22, op := Go.Op.buildSlice 31 1 #[(0, Go.Operand.tmp 21)], type := 31, pos := "from.go:188", after := #[{ on := 5, ground := Go.Ground.data }], guard := none }) rfl (fun K hK => ?_) AllReadyH.nil)
  · have c22 : (w3.drew).cell? ⟨b, 22, none⟩ = some (.slice Av xs.length cv) := (HT.out _ (HA3.out.below.drew)).blk.cell 22
    go_simp
    refine hK.out _ _ (by exact hHeld) (fun hHeld2 => ?_)
    clear hK K hHeld
    have hHeld := hHeld2
    clear hHeld2
    try simp only [Act.put, List.setIfInBounds_toArray, List.set_cons_zero, List.set_cons_succ]
    refine wpAnyH_ready (rs := [6]) (by kernel_rfl) (by simp) ?_
    refine AllReadyH.cons (o := { dst := some 22, op := Go.Op.buildSlice 31 1 #[(0, Go.Operand.tmp 21)], type := 31, pos := "from.go:188", after := #[{ on := 5, ground := Go.Ground.data }], guard := none }) rfl (fun K hK => ?_) AllReadyH.nil
    go_simp
    have HL6 := Lib.hid (show (w3.drew.alloc (.cells #[.slice A2 n.length c2, .int .i64 x.h.typ, .int .i64 x.h.knd, .int .i64 x.h.rank, .int .i64 T.now, .int .i64 x.h.ttl, .slice x.sA x.sp.length x.sc, .slice x.zA x.zone.length x.zc, .slice x.d.Ab x.soa.bytes.length x.d.cb, .slice x.d.Ah x.soa.host.length x.d.ch, .slice x.d.Am x.soa.mail.length x.d.cm, .slice x.d.An x.soa.nums.length x.d.cn, .slice x.d.At x.soa.texts.length x.d.ct] 40)).ownsRow w3.heap.size 40 13 (.slice (some ⟨w3.heap.size, 0, none⟩) 1 1) 1 (cellsF (x.of A2 c2 n T.now)) from ⟨rfl, .inr ⟨w3.heap.size, 1, (cellsF (x.of A2 c2 n T.now)).toArray, rfl, Nat.le_refl _, heap_alloc_new w3.drew _, Nat.le_refl _, by unfold maxLen; omega, rfl, rfl⟩⟩)
    have HA4 := Lib.hid (HA3.out.step ((Below.refl w3.heap.size w3).drew.alloc (Nat.le_refl _) (.cells #[.slice A2 n.length c2, .int .i64 x.h.typ, .int .i64 x.h.knd, .int .i64 x.h.rank, .int .i64 T.now, .int .i64 x.h.ttl, .slice x.sA x.sp.length x.sc, .slice x.zA x.zone.length x.zc, .slice x.d.Ab x.soa.bytes.length x.d.cb, .slice x.d.Ah x.soa.host.length x.d.ch, .slice x.d.Am x.soa.mail.length x.d.cm, .slice x.d.An x.soa.nums.length x.d.cn, .slice x.d.At x.soa.texts.length x.d.ct] 40)))
    refine hK.out _ _ (by exact HSX.out _ HA4.out) (fun hHeld2 => ?_)
    clear hK K hHeld
    have hHeld := hHeld2
    clear hHeld2
    try simp only [Act.put, List.setIfInBounds_toArray, List.set_cons_zero, List.set_cons_succ]
    refine wpAnyH_ready (rs := [7]) (by kernel_rfl) (by simp) ?_
    refine AllReadyH.cons (o := { dst := some 23, op := Go.Op.call { callee := Go.Callee.builtin Go.Builtin.append, args := #[Go.Operand.tmp 20, Go.Operand.tmp 22], argTypes := #[31, 31] }, type := 31, pos := "from.go:188", after := #[{ on := 4, ground := Go.Ground.data }, { on := 6, ground := Go.Ground.data }], guard := none }) rfl (fun K hK => ?_) AllReadyH.nil
    refine step_append_wp rfl (.tmp 20) (.tmp 22) _ rfl w0.heap.size 40 i0 _ 13 232 Tryz.underlying31 hi0 hz0 hz1 hz2 rfl (by omega) (.slice Av xs.length cv) xs.length _ rfl (HT.out _ HA4.out.below).row (some ⟨w3.heap.size, 0, none⟩) 1 1 _ (cellsF (x.of A2 c2 n T.now)) rfl rfl (Row.of_own HL6.out) (fun u hu => cellsF_one [x.of A2 c2 n T.now] u (by simpa using hu)) (by have := HL.out; unfold maxLen; omega) (by have := HL.out; omega) (HT.out _ HA4.out.below).size ?_
    intro v7 W7 hown hg
    have HW7 := Lib.hid (show Whole W7 b 55 (cellsT T an.v au.v ex.v (.slice Av xs.length cv)) from (HT.out _ HA4.out.below).blk.grown hg (fun e => own_not_whole (HT.out _ HA4.out.below).row (HT.out _ HA4.out.below).blk (by decide) e.symm))
    have HX7 := Lib.hid (show Whole W7 w.heap.size 40 (cellsF (x.of A2 c2 n T.now)) from Whole.grown HA4.out.box hg (fun e => by have := ((HT.out w (Below.refl _ _)).row.lt _ e.symm).2; omega))
    obtain ⟨A7, c7, rfl, _, _⟩ := own_form hown
    have HO7 := Lib.hid hown
    have HG7 := Lib.hid hg
    have HS7 := Lib.hid (show (W7.cell? ⟨w.heap.size, 0, none⟩ = some (.slice A2 n.length c2) ∧ W7.cell? ⟨w.heap.size, 1, none⟩ = some (.int .i64 x.h.typ) ∧ W7.cell? ⟨w.heap.size, 2, none⟩ = some (.int .i64 x.h.knd) ∧ W7.cell? ⟨w.heap.size, 3, none⟩ = some (.int .i64 x.h.rank) ∧ W7.cell? ⟨w.heap.size, 4, none⟩ = some (.int .i64 T.now) ∧ W7.cell? ⟨w.heap.size, 5, none⟩ = some (.int .i64 x.h.ttl) ∧ W7.cell? ⟨w.heap.size, 6, none⟩ = some (.slice x.sA x.sp.length x.sc) ∧ W7.cell? ⟨w.heap.size, 7, none⟩ = some (.slice x.zA x.zone.length x.zc) ∧ W7.cell? ⟨w.heap.size, 8, none⟩ = some (.slice x.d.Ab x.soa.bytes.length x.d.cb) ∧ W7.cell? ⟨w.heap.size, 9, none⟩ = some (.slice x.d.Ah x.soa.host.length x.d.ch) ∧ W7.cell? ⟨w.heap.size, 10, none⟩ = some (.slice x.d.Am x.soa.mail.length x.d.cm) ∧ W7.cell? ⟨w.heap.size, 11, none⟩ = some (.slice x.d.An x.soa.nums.length x.d.cn) ∧ W7.cell? ⟨w.heap.size, 12, none⟩ = some (.slice x.d.At x.soa.texts.length x.d.ct)) from ⟨HX7.out.cell 0, HX7.out.cell 1, HX7.out.cell 2, HX7.out.cell 3, HX7.out.cell 4, HX7.out.cell 5, HX7.out.cell 6, HX7.out.cell 7, HX7.out.cell 8, HX7.out.cell 9, HX7.out.cell 10, HX7.out.cell 11, HX7.out.cell 12⟩)
    clear hown hg
    refine hK.out _ _ (by exact HS7.out) (fun hHeld2 => ?_)
    clear hK K hHeld
    have hHeld := hHeld2
    clear hHeld2
    try simp only [Act.put, List.setIfInBounds_toArray, List.set_cons_zero, List.set_cons_succ]
    refine wpAnyH_take (i := 8) (oi := ⟨some 24, _, _, _, _, _⟩) (v := ?_) rfl (by kernel_rfl) (by kernel_rfl) (by kernel_rfl) (fun _ _ _ h => h) (Or.inl ⟨by kernel_rfl, ?_⟩) (by assumption) ?_
    rotate_left
    · intro W hSw
      try dsimp only at hSw
      go_simp
      all_goals (with_reducible rfl)
    try simp only [Act.put, List.setIfInBounds_toArray, List.set_cons_zero, List.set_cons_succ]
    refine wpAnyH_take (i := 9) (oi := ⟨some 25, _, _, _, _, _⟩) (v := ?_) rfl (by kernel_rfl) (by kernel_rfl) (by kernel_rfl) (fun _ _ _ h => h) (Or.inl ⟨by kernel_rfl, ?_⟩) (by assumption) ?_
    rotate_left
    · intro W hSw
      try dsimp only at hSw
      go_simp
      all_goals (with_reducible rfl)
    try simp only [Act.put, List.setIfInBounds_toArray, List.set_cons_zero, List.set_cons_succ]
    refine wpAnyH_ready (rs := [10]) (by kernel_rfl) (by simp) ?_
    refine AllReadyH.cons (o := { dst := none, op := Go.Op.store 31 (Go.Operand.tmp 25) (Go.Operand.tmp 23), type := 0, pos := "from.go:188", after := #[{ on := 9, ground := Go.Ground.data }, { on := 7, ground := Go.Ground.data }, { on := 7, ground := Go.Ground.chain }, { on := 0, ground := Go.Ground.phase }, { on := 1, ground := Go.Ground.phase }, { on := 2, ground := Go.Ground.phase }, { on := 3, ground := Go.Ground.phase }, { on := 4, ground := Go.Ground.phase }, { on := 5, ground := Go.Ground.phase }, { on := 6, ground := Go.Ground.phase }, { on := 7, ground := Go.Ground.phase }], guard := none }) rfl (fun K hK => ?_) AllReadyH.nil
    refine wp_store_one 31 (.tmp 25) (.tmp 23) rfl b 22 (.slice A7 (xs.length + 1) c7) rfl rfl rfl facts_oneT 55 _ HW7.out _ rfl ?_
    intro V8 hV hG hZ
    have HPU := Lib.hid (TAt.push (HT.out _ HA4.out.below) (HOWN.out _ A2 c2 HA4.out) HTF.out HO7.out HG7.out hV hG hZ)
    have HZ8 := Lib.hid (show w.heap.size ≤ V8.heap.size from Nat.le_trans (Nat.le_trans (Nat.le_of_succ_le HA4.out.size) HG7.out.size) (Nat.le_of_eq hZ.symm))
    have HBX := Lib.hid (show Whole V8 w.heap.size 40 (cellsF (x.of A2 c2 n T.now)) from (hG.block _ HX7.out.lt (fun e => by have := (HT.out w (Below.refl _ _)).bsz; omega)).trans HX7.out)
    have HS8 := Lib.hid (show (V8.cell? ⟨w.heap.size, 0, none⟩ = some (.slice A2 n.length c2) ∧ V8.cell? ⟨w.heap.size, 1, none⟩ = some (.int .i64 x.h.typ) ∧ V8.cell? ⟨w.heap.size, 2, none⟩ = some (.int .i64 x.h.knd) ∧ V8.cell? ⟨w.heap.size, 3, none⟩ = some (.int .i64 x.h.rank) ∧ V8.cell? ⟨w.heap.size, 4, none⟩ = some (.int .i64 T.now) ∧ V8.cell? ⟨w.heap.size, 5, none⟩ = some (.int .i64 x.h.ttl) ∧ V8.cell? ⟨w.heap.size, 6, none⟩ = some (.slice x.sA x.sp.length x.sc) ∧ V8.cell? ⟨w.heap.size, 7, none⟩ = some (.slice x.zA x.zone.length x.zc) ∧ V8.cell? ⟨w.heap.size, 8, none⟩ = some (.slice x.d.Ab x.soa.bytes.length x.d.cb) ∧ V8.cell? ⟨w.heap.size, 9, none⟩ = some (.slice x.d.Ah x.soa.host.length x.d.ch) ∧ V8.cell? ⟨w.heap.size, 10, none⟩ = some (.slice x.d.Am x.soa.mail.length x.d.cm) ∧ V8.cell? ⟨w.heap.size, 11, none⟩ = some (.slice x.d.An x.soa.nums.length x.d.cn) ∧ V8.cell? ⟨w.heap.size, 12, none⟩ = some (.slice x.d.At x.soa.texts.length x.d.ct)) from ⟨HBX.out.cell 0, HBX.out.cell 1, HBX.out.cell 2, HBX.out.cell 3, HBX.out.cell 4, HBX.out.cell 5, HBX.out.cell 6, HBX.out.cell 7, HBX.out.cell 8, HBX.out.cell 9, HBX.out.cell 10, HBX.out.cell 11, HBX.out.cell 12⟩)
    clear hV hG hZ
    refine hK.out _ _ (by exact HS8.out) (fun hHeld2 => ?_)
    clear hK K hHeld
    have hHeld := hHeld2
    clear hHeld2
    try simp only [Act.put]
    refine wpAnyH_done (by kernel_rfl) ?_ _
    go_wp2
    go_end0
    exact ⟨rfl, _, _, HPU.out.1, by rw [List.length_append]; exact Nat.le_refl _, (KeptT.below HA4.out.below).trans HPU.out.2, HZ8.out⟩
  · go_simp
    have HL6 := Lib.hid (show (w3.drew.alloc (.cells #[.slice A2 n.length c2, .int .i64 x.h.typ, .int .i64 x.h.knd, .int .i64 x.h.rank, .int .i64 T.now, .int .i64 x.h.ttl, .slice x.sA x.sp.length x.sc, .slice x.zA x.zone.length x.zc, .slice x.d.Ab x.soa.bytes.length x.d.cb, .slice x.d.Ah x.soa.host.length x.d.ch, .slice x.d.Am x.soa.mail.length x.d.cm, .slice x.d.An x.soa.nums.length x.d.cn, .slice x.d.At x.soa.texts.length x.d.ct] 40)).ownsRow w3.heap.size 40 13 (.slice (some ⟨w3.heap.size, 0, none⟩) 1 1) 1 (cellsF (x.of A2 c2 n T.now)) from ⟨rfl, .inr ⟨w3.heap.size, 1, (cellsF (x.of A2 c2 n T.now)).toArray, rfl, Nat.le_refl _, heap_alloc_new w3.drew _, Nat.le_refl _, by unfold maxLen; omega, rfl, rfl⟩⟩)
    have HA4 := Lib.hid (HA3.out.step ((Below.refl w3.heap.size w3).drew.alloc (Nat.le_refl _) (.cells #[.slice A2 n.length c2, .int .i64 x.h.typ, .int .i64 x.h.knd, .int .i64 x.h.rank, .int .i64 T.now, .int .i64 x.h.ttl, .slice x.sA x.sp.length x.sc, .slice x.zA x.zone.length x.zc, .slice x.d.Ab x.soa.bytes.length x.d.cb, .slice x.d.Ah x.soa.host.length x.d.ch, .slice x.d.Am x.soa.mail.length x.d.cm, .slice x.d.An x.soa.nums.length x.d.cn, .slice x.d.At x.soa.texts.length x.d.ct] 40)))
    refine hK.out _ _ (by exact HSX.out _ HA4.out) (fun hHeld2 => ?_)
    clear hK K hHeld
    have hHeld := hHeld2
    clear hHeld2
    try simp only [Act.put, List.setIfInBounds_toArray, List.set_cons_zero, List.set_cons_succ]
    refine wpAnyH_ready (rs := [4]) (by kernel_rfl) (by simp) ?_
    refine AllReadyH.cons (o := { dst := some 20, op := Go.Op.load 31 (Go.Operand.tmp 19), type := 31, pos := "from.go:188", after := #[{ on := 3, ground := Go.Ground.data }], guard := none }) rfl (fun K hK => ?_) AllReadyH.nil
    have c22 : ((w3.alloc (.cells #[.slice A2 n.length c2, .int .i64 x.h.typ, .int .i64 x.h.knd, .int .i64 x.h.rank, .int .i64 T.now, .int .i64 x.h.ttl, .slice x.sA x.sp.length x.sc, .slice x.zA x.zone.length x.zc, .slice x.d.Ab x.soa.bytes.length x.d.cb, .slice x.d.Ah x.soa.host.length x.d.ch, .slice x.d.Am x.soa.mail.length x.d.cm, .slice x.d.An x.soa.nums.length x.d.cn, .slice x.d.At x.soa.texts.length x.d.ct] 40)).drew).cell? ⟨b, 22, none⟩ = some (.slice Av xs.length cv) := (HT.out _ HA4.out.below).blk.cell 22
    go_simp
    refine hK.out _ _ (by exact hHeld) (fun hHeld2 => ?_)
    clear hK K hHeld
    have hHeld := hHeld2
    clear hHeld2
    try simp only [Act.put, List.setIfInBounds_toArray, List.set_cons_zero, List.set_cons_succ]
    refine wpAnyH_ready (rs := [7]) (by kernel_rfl) (by simp) ?_
    refine AllReadyH.cons (o := { dst := some 23, op := Go.Op.call { callee := Go.Callee.builtin Go.Builtin.append, args := #[Go.Operand.tmp 20, Go.Operand.tmp 22], argTypes := #[31, 31] }, type := 31, pos := "from.go:188", after := #[{ on := 4, ground := Go.Ground.data }, { on := 6, ground := Go.Ground.data }], guard := none }) rfl (fun K hK => ?_) AllReadyH.nil
    refine step_append_wp rfl (.tmp 20) (.tmp 22) _ rfl w0.heap.size 40 i0 _ 13 232 Tryz.underlying31 hi0 hz0 hz1 hz2 rfl (by omega) (.slice Av xs.length cv) xs.length _ rfl (HT.out _ HA4.out.below).row (some ⟨w3.heap.size, 0, none⟩) 1 1 _ (cellsF (x.of A2 c2 n T.now)) rfl rfl (Row.of_own HL6.out) (fun u hu => cellsF_one [x.of A2 c2 n T.now] u (by simpa using hu)) (by have := HL.out; unfold maxLen; omega) (by have := HL.out; omega) (HT.out _ HA4.out.below).size ?_
    intro v7 W7 hown hg
    have HW7 := Lib.hid (show Whole W7 b 55 (cellsT T an.v au.v ex.v (.slice Av xs.length cv)) from (HT.out _ HA4.out.below).blk.grown hg (fun e => own_not_whole (HT.out _ HA4.out.below).row (HT.out _ HA4.out.below).blk (by decide) e.symm))
    have HX7 := Lib.hid (show Whole W7 w.heap.size 40 (cellsF (x.of A2 c2 n T.now)) from Whole.grown HA4.out.box hg (fun e => by have := ((HT.out w (Below.refl _ _)).row.lt _ e.symm).2; omega))
    obtain ⟨A7, c7, rfl, _, _⟩ := own_form hown
    have HO7 := Lib.hid hown
    have HG7 := Lib.hid hg
    have HS7 := Lib.hid (show (W7.cell? ⟨w.heap.size, 0, none⟩ = some (.slice A2 n.length c2) ∧ W7.cell? ⟨w.heap.size, 1, none⟩ = some (.int .i64 x.h.typ) ∧ W7.cell? ⟨w.heap.size, 2, none⟩ = some (.int .i64 x.h.knd) ∧ W7.cell? ⟨w.heap.size, 3, none⟩ = some (.int .i64 x.h.rank) ∧ W7.cell? ⟨w.heap.size, 4, none⟩ = some (.int .i64 T.now) ∧ W7.cell? ⟨w.heap.size, 5, none⟩ = some (.int .i64 x.h.ttl) ∧ W7.cell? ⟨w.heap.size, 6, none⟩ = some (.slice x.sA x.sp.length x.sc) ∧ W7.cell? ⟨w.heap.size, 7, none⟩ = some (.slice x.zA x.zone.length x.zc) ∧ W7.cell? ⟨w.heap.size, 8, none⟩ = some (.slice x.d.Ab x.soa.bytes.length x.d.cb) ∧ W7.cell? ⟨w.heap.size, 9, none⟩ = some (.slice x.d.Ah x.soa.host.length x.d.ch) ∧ W7.cell? ⟨w.heap.size, 10, none⟩ = some (.slice x.d.Am x.soa.mail.length x.d.cm) ∧ W7.cell? ⟨w.heap.size, 11, none⟩ = some (.slice x.d.An x.soa.nums.length x.d.cn) ∧ W7.cell? ⟨w.heap.size, 12, none⟩ = some (.slice x.d.At x.soa.texts.length x.d.ct)) from ⟨HX7.out.cell 0, HX7.out.cell 1, HX7.out.cell 2, HX7.out.cell 3, HX7.out.cell 4, HX7.out.cell 5, HX7.out.cell 6, HX7.out.cell 7, HX7.out.cell 8, HX7.out.cell 9, HX7.out.cell 10, HX7.out.cell 11, HX7.out.cell 12⟩)
    clear hown hg
    refine hK.out _ _ (by exact HS7.out) (fun hHeld2 => ?_)
    clear hK K hHeld
    have hHeld := hHeld2
    clear hHeld2
    try simp only [Act.put, List.setIfInBounds_toArray, List.set_cons_zero, List.set_cons_succ]
    refine wpAnyH_take (i := 8) (oi := ⟨some 24, _, _, _, _, _⟩) (v := ?_) rfl (by kernel_rfl) (by kernel_rfl) (by kernel_rfl) (fun _ _ _ h => h) (Or.inl ⟨by kernel_rfl, ?_⟩) (by assumption) ?_
    rotate_left
    · intro W hSw
      try dsimp only at hSw
      go_simp
      all_goals (with_reducible rfl)
    try simp only [Act.put, List.setIfInBounds_toArray, List.set_cons_zero, List.set_cons_succ]
    refine wpAnyH_take (i := 9) (oi := ⟨some 25, _, _, _, _, _⟩) (v := ?_) rfl (by kernel_rfl) (by kernel_rfl) (by kernel_rfl) (fun _ _ _ h => h) (Or.inl ⟨by kernel_rfl, ?_⟩) (by assumption) ?_
    rotate_left
    · intro W hSw
      try dsimp only at hSw
      go_simp
      all_goals (with_reducible rfl)
    try simp only [Act.put, List.setIfInBounds_toArray, List.set_cons_zero, List.set_cons_succ]
    refine wpAnyH_ready (rs := [10]) (by kernel_rfl) (by simp) ?_
    refine AllReadyH.cons (o := { dst := none, op := Go.Op.store 31 (Go.Operand.tmp 25) (Go.Operand.tmp 23), type := 0, pos := "from.go:188", after := #[{ on := 9, ground := Go.Ground.data }, { on := 7, ground := Go.Ground.data }, { on := 7, ground := Go.Ground.chain }, { on := 0, ground := Go.Ground.phase }, { on := 1, ground := Go.Ground.phase }, { on := 2, ground := Go.Ground.phase }, { on := 3, ground := Go.Ground.phase }, { on := 4, ground := Go.Ground.phase }, { on := 5, ground := Go.Ground.phase }, { on := 6, ground := Go.Ground.phase }, { on := 7, ground := Go.Ground.phase }], guard := none }) rfl (fun K hK => ?_) AllReadyH.nil
    refine wp_store_one 31 (.tmp 25) (.tmp 23) rfl b 22 (.slice A7 (xs.length + 1) c7) rfl rfl rfl facts_oneT 55 _ HW7.out _ rfl ?_
    intro V8 hV hG hZ
    have HPU := Lib.hid (TAt.push (HT.out _ HA4.out.below) (HOWN.out _ A2 c2 HA4.out) HTF.out HO7.out HG7.out hV hG hZ)
    have HZ8 := Lib.hid (show w.heap.size ≤ V8.heap.size from Nat.le_trans (Nat.le_trans (Nat.le_of_succ_le HA4.out.size) HG7.out.size) (Nat.le_of_eq hZ.symm))
    have HBX := Lib.hid (show Whole V8 w.heap.size 40 (cellsF (x.of A2 c2 n T.now)) from (hG.block _ HX7.out.lt (fun e => by have := (HT.out w (Below.refl _ _)).bsz; omega)).trans HX7.out)
    have HS8 := Lib.hid (show (V8.cell? ⟨w.heap.size, 0, none⟩ = some (.slice A2 n.length c2) ∧ V8.cell? ⟨w.heap.size, 1, none⟩ = some (.int .i64 x.h.typ) ∧ V8.cell? ⟨w.heap.size, 2, none⟩ = some (.int .i64 x.h.knd) ∧ V8.cell? ⟨w.heap.size, 3, none⟩ = some (.int .i64 x.h.rank) ∧ V8.cell? ⟨w.heap.size, 4, none⟩ = some (.int .i64 T.now) ∧ V8.cell? ⟨w.heap.size, 5, none⟩ = some (.int .i64 x.h.ttl) ∧ V8.cell? ⟨w.heap.size, 6, none⟩ = some (.slice x.sA x.sp.length x.sc) ∧ V8.cell? ⟨w.heap.size, 7, none⟩ = some (.slice x.zA x.zone.length x.zc) ∧ V8.cell? ⟨w.heap.size, 8, none⟩ = some (.slice x.d.Ab x.soa.bytes.length x.d.cb) ∧ V8.cell? ⟨w.heap.size, 9, none⟩ = some (.slice x.d.Ah x.soa.host.length x.d.ch) ∧ V8.cell? ⟨w.heap.size, 10, none⟩ = some (.slice x.d.Am x.soa.mail.length x.d.cm) ∧ V8.cell? ⟨w.heap.size, 11, none⟩ = some (.slice x.d.An x.soa.nums.length x.d.cn) ∧ V8.cell? ⟨w.heap.size, 12, none⟩ = some (.slice x.d.At x.soa.texts.length x.d.ct)) from ⟨HBX.out.cell 0, HBX.out.cell 1, HBX.out.cell 2, HBX.out.cell 3, HBX.out.cell 4, HBX.out.cell 5, HBX.out.cell 6, HBX.out.cell 7, HBX.out.cell 8, HBX.out.cell 9, HBX.out.cell 10, HBX.out.cell 11, HBX.out.cell 12⟩)
    clear hV hG hZ
    refine hK.out _ _ (by exact HS8.out) (fun hHeld2 => ?_)
    clear hK K hHeld
    have hHeld := hHeld2
    clear hHeld2
    try simp only [Act.put]
    refine wpAnyH_done (by kernel_rfl) ?_ _
    go_wp2
    go_end0
    exact ⟨rfl, _, _, HPU.out.1, by rw [List.length_append]; exact Nat.le_refl _, (KeptT.below HA4.out.below).trans HPU.out.2, HZ8.out⟩

end Go.Proofs.YthppgofpbpjglaaGreat

namespace Go.Proofs.YthppgofpbpjglaaGreat
open Go.RowKit

theorem clampI_in (t : Int) (b : Bool) : 0 ≤ clampI t b ∧ clampI t b ≤ 604800 := by
  unfold clampI
  split
  · omega
  · split
    · omega
    · split <;> omega
theorem underN_eq {a b z : List (List UInt8)} (h : underN a z = true) (he : eqN a b = true) : underN b z = true := by
  have hl : lowN a = lowN b := by unfold eqN at he; simpa using he
  have hlen : a.length = b.length := by
    have := congrArg List.length hl
    simpa [lowN] using this
  unfold underN at h ⊢
  simp only [Bool.and_eq_true, decide_eq_true_eq] at h ⊢
  refine ⟨by omega, ?_⟩
  have h2 := h.2
  unfold eqN at h2 ⊢
  simp only [decide_eq_true_eq] at h2 ⊢
  rw [← h2, ← hlen]
  unfold lowN at hl ⊢
  rw [List.map_drop, List.map_drop, hl]
theorem own_takeT {w : World} {B : Nat} {e : TypeId} {size n c : Nat} {A : Option Addr} {xs : List Value} (h : w.ownsRow B e size (.slice A n c) n xs) {k : Nat} (hk : k ≤ n) : w.ownsRow B e size (.slice A k c) k (xs.take (k * size)) := by
  obtain ⟨h1, h2⟩ := h
  have hm : k * size ≤ n * size := Nat.mul_le_mul_right _ hk
  refine ⟨by rw [List.length_take]; omega, ?_⟩
  rcases h2 with ⟨hv, hn⟩ | ⟨g, cap, cur, hv, hg, hh, a, b, d, e'⟩
  · injection hv with h3 _ h4
    obtain rfl : k = 0 := by omega
    subst h3
    subst h4
    exact .inl ⟨rfl, rfl⟩
  · injection hv with h3 _ h4
    subst h3
    subst h4
    refine .inr ⟨g, c, cur, rfl, hg, hh, by omega, b, d, ?_⟩
    rw [← e', List.take_take, Nat.min_eq_left hm]
theorem flat_takeD (qs : List (DV × Dt)) {k : Nat} (hk : k ≤ qs.length) : (qs.flatMap cellsD).take (k * 5) = (qs.take k).flatMap cellsD := by
  conv => lhs; rw [← List.take_append_drop k qs, List.flatMap_append]
  rw [List.take_left']
  rw [length_flat cellsD_len, List.length_take, Nat.min_eq_left hk]

set_option maxRecDepth 20000 in
set_option maxHeartbeats 2000000 in
theorem has_anyT (w0 w : World) (T : Te) (b : Nat) (an au ex : Sec) (v : Value) (xs : List FV) (h : TAt w0 T b an au ex v xs w) (ok : TeOk w0 T) (hl : xs.length ≤ 10000) (A : Option Addr) (c : Nat) (n : List (List UInt8)) (hn : Held w0 w A c n) (hns : soundN n = true)
    (kind least rank : Int) (hk : (Lit.int .i64 kind).wf = true) (hr : (Lit.int .i64 rank).wf = true) (sA : Option Addr) (sc : Nat) (sp : List (DV × Dt)) (ho : w.ownsRow w0.heap.size 38 5 (.slice sA sp.length sc) sp.length (sp.flatMap cellsD)) (he : ∀ p ∈ sp, OwnD w w0.heap.size p.1 p.2)
    (hd : ∀ p ∈ sp, DatIn p.2 ∧ p.2.host.length ≤ 300 ∧ p.2.mail.length ≤ 300) (hT : soundF ⟨n, ⟨kind, 1, rank, T.now, clampI least false⟩, dats sp, [], emptyT⟩ = true → ToldF T.m.msg T.z T.now ⟨n, ⟨kind, 1, rank, T.now, clampI least false⟩, dats sp, [], emptyT⟩) :
    Calls Tryz.prog 42 #[.pointer (some ⟨b, 0, none⟩), .slice A n.length c, .int .i64 kind, .slice sA sp.length sc, .int .i64 least, .int .i64 rank] w (fun e w' => e = .returned (.tuple #[]) ∧ TellOut w0 T b an au ex xs 1 w w') := by
  have hc := clampI_in least false
  have HC := Lib.hid (clamp_any least false w)
  have HA := Lib.hid (show Calls Tryz.prog 52 #[.pointer (some ⟨b, 0, none⟩), .slice A n.length c, .agg #[.slice none 0 0, .int .i64 kind, .int .i64 1, .int .i64 rank, .int .i64 0, .int .i64 (clampI least false), .slice sA sp.length sc, .slice none 0 0, .slice none 0 0, .slice none 0 0, .slice none 0 0, .slice none 0 0, .slice none 0 0]] w (fun e w' => e = .returned (.tuple #[]) ∧ TellOut w0 T b an au ex xs 1 w w') from
    add_any w0 w T b an au ex v xs h ok hl A c n hn hns ⟨none, 0, [], ⟨kind, 1, rank, 0, clampI least false⟩, sA, sc, sp, none, 0, [], emptyV, emptyT⟩
      ⟨World.ownsRow_nil _ _ _ _, ⟨World.ownsRow_nil _ _ _ _, World.ownsRow_nil _ _ _ _, World.ownsRow_nil _ _ _ _, World.ownsRow_nil _ _ _ _, World.ownsRow_nil _ _ _ _⟩, ho, he⟩
      ⟨hk, (show (Lit.int .i64 1).wf = true by decide), hr, wf_i64 (show _ ≤ clampI least false by omega) (show clampI least false ≤ _ by omega), ⟨by show 1 ≤ maxLen; unfold maxLen; omega, Nat.zero_le _, ⟨Nat.zero_le _, fun _ h => absurd h (Nat.not_lt_zero _)⟩⟩, hd, ⟨⟨fnil_wide, fun _ h => absurd h (Nat.not_lt_zero _), fun _ h => absurd h (List.not_mem_nil)⟩, Nat.zero_le _, Nat.zero_le _⟩⟩ hT)
  clear h ok hl hn hns hk hr ho he hd hT hc
  go_enter Tryz.func42, Tryz.ntmps42
  go_wp2_with (first
    | (go_at_call 50; refine HC.out.mono ?_; rintro e w1 ⟨rfl, rfl⟩)
    | (go_at_call 52; refine HA.out.mono ?_; rintro e w1 ⟨rfl, ht⟩))
  go_end0
  exact ⟨rfl, ht⟩

/-- The rank of what Answers has. -/
def rankA (T : Te) : Int := if T.m.h.aa = true then 4 else 3
theorem rankA_wf (T : Te) : (Lit.int .i64 (rankA T)).wf = true := by unfold rankA; split <;> decide
set_option maxHeartbeats 1000000 in
theorem answerRank_any (w0 w : World) (T : Te) (b : Nat) (an au ex : Sec) (v : Value) (xs : List FV) (h : TAt w0 T b an au ex v xs w) :
    Calls Tryz.prog 43 #[.pointer (some ⟨b, 0, none⟩)] w (Told w (.int .i64 (rankA T))) := by
  have c6 : w.cell? ⟨b, 6, none⟩ = some (.bool T.m.h.aa) := h.blk.cell 6
  have HR := Lib.hid (show rankA T = if T.m.h.aa = true then 4 else 3 from rfl)
  clear h
  cases ha : T.m.h.aa with
  | true =>
    rw [ha] at c6 HR
    go_enter Tryz.func43, Tryz.ntmps43
    go_wp2
    go_ret
    exact ⟨by rw [HR.out]; rfl, rfl⟩
  | false =>
    rw [ha] at c6 HR
    go_enter Tryz.func43, Tryz.ntmps43
    go_wp2
    go_ret
    exact ⟨by rw [HR.out]; rfl, rfl⟩

/-- What is known of a section's records. -/
theorem SecOk.small {w0 : World} {T : Te} {S : Sec} {l : List Rt} (hs : SecOk w0 T S l) (ok : TeOk w0 T) (hsub : ∀ r ∈ l, r ∈ T.m.msg.all) : ∀ p ∈ S.ps, SoundR p.2 ∧ RIn p.2 ∧ LightR p.2 := fun p hp =>
  have h1 := soundM_rec ok.ms (hsub _ (hs.i p hp).1)
  ⟨h1, h1.small⟩
theorem mem_recs {ps : List (RV × Rt)} {r : Rt} (h : r ∈ recs ps) : ∃ p ∈ ps, p.2 = r := by
  unfold recs at h
  obtain ⟨p, hp, e⟩ := List.mem_map.1 h
  exact ⟨p, hp, e⟩
/-- Data of a set is sound for its type. -/
theorem setF_sound {ps : List (RV × Rt)} (hs : ∀ p ∈ ps, SoundR p.2) {n : List (List UInt8)} {k : Int} {d : Dt} (h : d ∈ (setF (recs ps) n k).1) : soundD k d = true := by
  obtain ⟨r, h1, h2, h3⟩ := setF_mem h
  obtain ⟨p, hp, e⟩ := mem_recs h1
  have h4 := (hs p hp).d
  unfold selR at h2
  simp only [Bool.and_eq_true, decide_eq_true_eq] at h2
  rw [e, h2.2.1, h3] at h4
  exact h4
theorem sound_small {k : Int} {d : Dt} (h : soundD k d = true) : DatIn d ∧ d.host.length ≤ 300 ∧ d.mail.length ≤ 300 := by
  have h2 := (SoundR.small (r := ⟨[], k, 1, 0, d⟩) ⟨(by decide +kernel : soundN [] = true), h, (by decide +kernel : fitB 1 2 = true), (by decide : (0 : Int) ≤ 0), (by decide : (0 : Int) ≤ 2147483647)⟩).2
  have h3 : d.host.length ≤ 200 := h2.l1
  have h4 : d.mail.length ≤ 200 := h2.l2
  exact ⟨soundD_in h, by omega, by omega⟩
/-- A fact that tells a set, or its beginning. -/
theorem told_set {w0 : World} {T : Te} {S : Sec} {l : List Rt} (hs : SecOk w0 T S l) (hsub : ∀ r ∈ l, r ∈ T.m.msg.all) {n : List (List UInt8)} {kind rank ttl : Int} {ds : List Dt} (hd : ∀ d ∈ ds, d ∈ (setF (recs S.ps) n kind).1) (hf : soundF ⟨n, ⟨kind, 1, rank, T.now, ttl⟩, ds, [], emptyT⟩ = true) :
    ToldF T.m.msg T.z T.now ⟨n, ⟨kind, 1, rank, T.now, ttl⟩, ds, [], emptyT⟩ := by
  have hsr : ∀ r ∈ recs S.ps, r ∈ T.m.msg.all ∧ underN r.name T.z = true := fun r hr => by
    obtain ⟨p, hp, rfl⟩ := mem_recs hr
    exact ⟨hsub _ (hs.i p hp).1, (hs.i p hp).2.2⟩
  have hne : ∃ d, d ∈ ds := by
    obtain ⟨_, h2⟩ := soundF_parts hf
    rcases h2 with ⟨_, h2⟩ | ⟨h2, _⟩
    · unfold hasB at h2
      simp only [Bool.and_eq_true, decide_eq_true_eq] at h2
      have h3 : 1 ≤ ds.length := h2.2.1
      rcases ds with _ | ⟨d, r⟩
      · simp at h3
      · exact ⟨d, List.mem_cons_self⟩
    · rcases h2 with h2 | h2
      · have h3 : (1 : Int) = 2 := h2
        omega
      · have h3 : (1 : Int) = 3 := h2
        omega
  obtain ⟨d, hdd⟩ := hne
  obtain ⟨r, h1, h2, _⟩ := setF_mem (hd d hdd)
  have hu : underN n T.z = true := by
    refine underN_eq (hsr r h1).2 ?_
    unfold selR at h2
    simp only [Bool.and_eq_true] at h2
    exact h2.2.2
  exact toldF_set hf hu rfl rfl (fun r hr => (hsr r hr).1) hd

/-- What set answers: data of a set, in memory of its own. -/
def GotSet (w0 w' : World) (S : Sec) (n : List (List UInt8)) (kind : Int) (A : Option Addr) (c : Nat) (qs : List (DV × Dt)) : Prop :=
  w'.ownsRow w0.heap.size 38 5 (.slice A qs.length c) qs.length (qs.flatMap cellsD) ∧ (∀ q ∈ qs, OwnD w' w0.heap.size q.1 q.2) ∧ ∀ q ∈ qs, q.2 ∈ (setF (recs S.ps) n kind).1
theorem GotSet.kept {w0 w w' : World} {S : Sec} {n : List (List UInt8)} {kind : Int} {A : Option Addr} {c : Nat} {qs : List (DV × Dt)} (h : GotSet w0 w S n kind A c qs) (hk : KeptT w w') : GotSet w0 w' S n kind A c qs :=
  ⟨hk.own h.1 dat_notT, fun q hq => (h.2.1 q hq).keptT hk, h.2.2⟩
theorem setL_len (l : List Rt) (s : List Dt × Int) : (l.foldl stepS s).1.length ≤ s.1.length + l.length := by
  induction l generalizing s with
  | nil => simp
  | cons r l ih =>
    rw [List.foldl_cons, List.length_cons]
    refine Nat.le_trans (ih _) ?_
    have : (stepS s r).1.length ≤ s.1.length + 1 := by
      unfold stepS
      dsimp only
      split
      · omega
      · simp
    omega
theorem setF_len (rs : List Rt) (n : List (List UInt8)) (k : Int) : (setF rs n k).1.length ≤ rs.length := by
  unfold setF
  refine Nat.le_trans (setL_len _ _) ?_
  have := List.length_filter_le (selR n k) rs
  simpa using this
theorem SetAt.got {w0 w w' : World} {S : Sec} {n : List (List UInt8)} {kind : Int} {A : Option Addr} {c : Nat} {qs : List (DV × Dt)} (h : SetAt w (.slice A qs.length c) qs w') (hw : w0.heap.size ≤ w.heap.size) (hq : dats qs = (setF (recs S.ps) n kind).1) : GotSet w0 w' S n kind A c qs :=
  ⟨own_mono h.row hw, fun q hh => (h.each q hh).monoB hw, fun q hh => by rw [← hq]; exact List.mem_map.2 ⟨q, hh, rfl⟩⟩

set_option maxRecDepth 20000 in
set_option maxHeartbeats 4000000 in
theorem set_anyT (w0 w : World) (T : Te) (b : Nat) (an au ex : Sec) (v : Value) (xs : List FV) (h : TAt w0 T b an au ex v xs w) (ok : TeOk w0 T) (hl : xs.length ≤ 10000) (S : Sec) (l : List Rt) (hs : SecOk w0 T S l) (hsub : ∀ r ∈ l, r ∈ T.m.msg.all)
    (hro : w.ownsRow w0.heap.size 46 9 S.v S.ps.length (S.ps.flatMap cellsR)) (A : Option Addr) (c : Nat) (n : List (List UInt8)) (hn : Held w0 w A c n) (hns : soundN n = true)
    (kind rank : Int) (hk : (Lit.int .i64 kind).wf = true) (hr : (Lit.int .i64 rank).wf = true) :
    Calls Tryz.prog 45 #[.pointer (some ⟨b, 0, none⟩), .slice S.A S.ps.length S.c, .slice A n.length c, .int .i64 kind, .int .i64 rank] w (fun e w' => ∃ A' c' qs, e = .returned (.slice A' qs.length c') ∧ qs.length ≤ 64 ∧ GotSet w0 w' S n kind A' c' qs ∧ TellOut w0 T b an au ex xs 1 w w') := by
  have hsm := hs.small ok hsub
  have HSET := Lib.hid (set_own w S.A S.c S.ps A n c kind (secRs hs hro h.below) (hn.row h.below) (soundN_wide hns) (fun p hp => ⟨(hsm p hp).2.1, (hsm p hp).2.2.few⟩) hs.n)
  have HLN := Lib.hid (show (setF (recs S.ps) n kind).1.length ≤ 1000 from Nat.le_trans (setF_len _ _ _) (by rw [length_recs]; exact hs.n))
  have HSZ := Lib.hid h.size
  have HHAS := Lib.hid (show ∀ (w1 : World) (sA : Option Addr) (sc : Nat) (qs : List (DV × Dt)) (_ : Below w.heap.size w w1) (_ : GotSet w0 w1 S n kind sA sc qs) (least : Int), Calls Tryz.prog 42 #[.pointer (some ⟨b, 0, none⟩), .slice A n.length c, .int .i64 kind, .slice sA qs.length sc, .int .i64 least, .int .i64 rank] w1 (fun e w' => e = .returned (.tuple #[]) ∧ TellOut w0 T b an au ex xs 1 w1 w') from
    fun w1 sA sc qs hb hg least => has_anyT w0 w1 T b an au ex v xs (h.step hb) ok hl A c n (hn.step hb) hns kind least rank hk hr sA sc qs hg.1 hg.2.1 (fun p hp => sound_small (setF_sound (fun p hp => (hsm p hp).1) (hg.2.2 p hp)))
      (fun hf => told_set hs hsub (fun d hd => by
        unfold dats at hd
        obtain ⟨q, hq, rfl⟩ := List.mem_map.1 hd
        exact hg.2.2 q hq) hf))
  clear h ok hl hs hsub hro hn hns hk hr hsm
  go_enter Tryz.func45, Tryz.ntmps45
  go_wp2_with fail
  refine HSET.out.mono ?_
  rintro e w1 ⟨sA, sc, qs, rfl, hq, hat⟩
  have HB := Lib.hid hat.below
  have HG := Lib.hid (show GotSet w0 w1 S n kind sA sc qs from hat.got HSZ.out hq)
  have hcap := own_cap hat.row
  have hcz := own_capZ hat.row
  have hql : qs.length ≤ 1000 := by rw [← length_dats, hq]; exact HLN.out
  have HSM := Lib.hid (show 0 < qs.length → ∃ g, sA = some ⟨g, 0, none⟩ from fun h0 => own_some hat.row h0)
  generalize (setF (recs S.ps) n kind).2 = least
  clear hat hq
  by_cases h64 : 64 < qs.length
  · have t : decide ((64 : Int) < (qs.length : Int)) = true := decide_eq_true (by omega)
    obtain ⟨g, rfl⟩ := HSM.out (by omega)
    have htk : (qs.take 64).length = 64 := by rw [List.length_take]; omega
    have HG2 := Lib.hid (show GotSet w0 w1 S n kind (some ⟨g, 0, none⟩) sc (qs.take 64) from by
      refine ⟨?_, fun q hq => HG.out.2.1 q (List.mem_of_mem_take hq), fun q hq => HG.out.2.2 q (List.mem_of_mem_take hq)⟩
      rw [htk, ← flat_takeD qs (by omega)]
      exact own_takeT HG.out.1 (by omega))
    have HH := Lib.hid (HHAS.out w1 (some ⟨g, 0, none⟩) sc (qs.take 64) HB.out HG2.out least)
    rw [htk] at HH
    clear HHAS HSET HG HSM
    unfold maxLen at hcz
    go_wp2_with fail
    refine HH.out.mono ?_
    rintro e w2 ⟨rfl, ht⟩
    have HT2 := Lib.hid ht
    clear ht
    go_wp2
    go_ret
    refine ⟨_, sc, qs.take 64, by rw [htk]; rfl, by omega, ?_, ?_⟩
    · obtain ⟨_, _, _, _, hk, _⟩ := HT2.out
      exact HG2.out.kept hk
    · obtain ⟨v', xs', h1, h2, h3, h4⟩ := HT2.out
      exact ⟨v', xs', h1, h2, (KeptT.below HB.out).trans h3, Nat.le_trans HB.out.size h4⟩
  · have t : decide ((64 : Int) < (qs.length : Int)) = false := decide_eq_false (by omega)
    have HH := Lib.hid (HHAS.out w1 sA sc qs HB.out HG.out least)
    clear HHAS HSET HSM
    unfold maxLen at hcz
    go_wp2_with fail
    refine HH.out.mono ?_
    rintro e w2 ⟨rfl, ht⟩
    have HT2 := Lib.hid ht
    clear ht
    go_wp2
    go_ret
    refine ⟨_, sc, qs, rfl, by omega, ?_, ?_⟩
    · obtain ⟨_, _, _, _, hk, _⟩ := HT2.out
      exact HG.out.kept hk
    · obtain ⟨v', xs', h1, h2, h3, h4⟩ := HT2.out
      exact ⟨v', xs', h1, h2, (KeptT.below HB.out).trans h3, Nat.le_trans HB.out.size h4⟩

end Go.Proofs.YthppgofpbpjglaaGreat
