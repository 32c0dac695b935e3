/-
  RrSets, whole: of any records, rr.Set answers the data of those of a name and a type, each once and in order, and their least TTL, as the document says; rr.Same holds it against any other data as the document says, and the same the other way round, and it is the same as itself; records as RrOrder looks at, names of up to 200 labels, up to 60 other data (the statement looks at no others). No condition.
-/
import Derived.Test.YthppgofpbpjglaaFbP7
import Derived.Test.YthppgofpbpjglaaFbP4
import Derived.Test.YthppgofpbpjglaaFbP11
import Derived.Test.YthppgofpbpjglaaFbP9
namespace Go.Proofs.Ythppgofpbpjglaa
open Go.RowKit

set_option maxRecDepth 20000 in
theorem getRR_example : getRR [0, 0, 1, 0, 1, 0, 0, 0, 5, 0, 4, 1, 2, 3, 4] 0 = (⟨[], 1, 1, 5, ⟨[1, 2, 3, 4], [], [], [], []⟩⟩, 15, 0) := by
  have h : getW [0, 0, 1, 0, 1, 0, 0, 0, 5, 0, 4, 1, 2, 3, 4] 0 = ([], 1, 0) := by
    rw [show (0 : Int) = ((0 : Nat) : Int) from rfl, getW_at, getR_zero (by decide) (by decide)]
    rfl
  unfold getRR
  rw [h]
  rfl

set_option maxRecDepth 8000 in
set_option maxHeartbeats 2000000 in
theorem ranswers_any (w : World) : Calls Try.prog 7 #[] w (TrueB w) := by
  have HG := Lib.hid (fun W A c hr hc1 hc2 => rget_any A 15 c [0, 0, 1, 0, 1, 0, 0, 0, 5, 0, 4, 1, 2, 3, 4] 0 W rfl hr hc1 hc2 (by omega))
  rw [getRR_example] at HG
  go_enter Try.func7, Try.ntmps7
  go_wp2_with fail
  refine (HG.out _ (some ⟨w.heap.size, 0, none⟩) 15 ?_ (by decide) (by decide)).mono ?_
  · exact (Row.made w #[.int .u8 0, .int .u8 0, .int .u8 1, .int .u8 0, .int .u8 1, .int .u8 0, .int .u8 0, .int .u8 0, .int .u8 5, .int .u8 0, .int .u8 4, .int .u8 1, .int .u8 2, .int .u8 3, .int .u8 4] 5).mono (by simp)
  rintro e w1 ⟨⟨A, c, ⟨Ab, Ah, Am, An, At, cb, ch, cm, cn, ct⟩⟩, rfl, _, hb⟩
  have HB := Lib.hid hb
  clear hb
  go_wp2
  go_ret
  exact ⟨rfl, (((Below.refl _ _).alloc (Nat.le_refl _) _).trans (HB.out.mono (by simp))).alloc (Nat.le_trans (by simp) HB.out.size) _⟩

end Go.Proofs.Ythppgofpbpjglaa

namespace Go.Proofs.Ythppgofpbpjglaa
open Go.RowKit

def AllRelS (w : World) (ps qs : List (DV × Dt)) (i : Value) (wr : World) : Prop :=
  ∃ k : Nat, k ≤ ps.length ∧ i = .int .i64 k ∧ (dats (ps.take k)).all (fun e => hasD (dats qs) e) = true ∧ Below w.heap.size w wr
theorem all_snocD {ps : List (DV × Dt)} {k : Nat} (P : Dt → Bool) (hk : k < ps.length) (h : (dats (ps.take k)).all P = true) :
    (P (ps[k]).2 = false → (dats ps).all P = false) ∧ (P (ps[k]).2 = true → (dats (ps.take (k + 1))).all P = true) := by
  constructor
  · intro hp
    rw [List.all_eq_false]
    exact ⟨(ps[k]).2, List.mem_map.2 ⟨ps[k], List.getElem_mem hk, rfl⟩, by rw [hp]; decide⟩
  · intro hp
    rw [List.take_succ_eq_append_getElem hk, dats_append, List.all_append, h]
    simpa [dats] using hp

set_option maxRecDepth 20000 in
set_option maxHeartbeats 4000000 in
theorem ref_sameSet_any (w : World) (A : Option Addr) (c : Nat) (ps : List (DV × Dt)) (B : Option Addr) (cb : Nat) (qs : List (DV × Dt)) (hp : DsAt w w.heap.size A ps) (hq : DsAt w w.heap.size B qs) (hc : ∀ p ∈ ps, Wide p.2) (hd : ∀ p ∈ qs, Wide p.2) (hl : ps.length ≤ maxLen) (hl' : qs.length ≤ maxLen) :
    Calls Try.prog 14 #[.slice A ps.length c, .slice B qs.length cb] w (Gave w (.bool (sameS (dats ps) (dats qs)))) := by
  have HI1 := Lib.hid (fun W (x : DV) (a : Dt) (h : Below w.heap.size w W) (hx : DataAt W W.heap.size x a) (la : Wide a) => in_any W x a B cb qs hx ((hq.below h).mono h.size) la hd hl')
  have HI2 := Lib.hid (fun W (x : DV) (a : Dt) (h : Below w.heap.size w W) (hx : DataAt W W.heap.size x a) (la : Wide a) => in_any W x a A c ps hx ((hp.below h).mono h.size) la hc hl)
  have HP := Lib.hid hp
  have HQ := Lib.hid hq
  have HC := Lib.hid hc
  have HD := Lib.hid hd
  clear hp hq hc hd
  unfold maxLen at hl hl'
  go_enter Try.func14, Try.ntmps14
  go_wp2
  go_loopw [5] (AllRelS w ps qs) (fun i _ => ps.length - (intOf i).toNat)
  case atStart => exact ⟨0, Nat.zero_le _, rfl, rfl, Below.refl _ _⟩
  case round =>
    obtain ⟨k, hk, rfl, hn, hb⟩ := hrel
    have HN := Lib.hid hn
    have HB := Lib.hid hb
    have hz := hb.size
    clear hn hb
    by_cases hlt : k < ps.length
    · obtain ⟨b, off, rfl, hbH, hd, q0, q1, q2, q3, q4⟩ := (HP.out.below HB.out).at_ hlt
      have hwd := HC.out _ (List.getElem_mem hlt)
      have HI := Lib.hid (all_snocD (fun e => hasD (dats qs) e) hlt HN.out)
      revert hd q0 q1 q2 q3 q4 hwd HI
      generalize ps[k] = p
      obtain ⟨y, d⟩ := p
      intro hd q0 q1 q2 q3 q4 hwd HI
      dsimp only at *
      have HCL := Lib.hid (HI1.out wr y d HB.out (hd.mono hz) hwd)
      clear hd hwd
      go_wp2_with fail
      refine HCL.out.mono ?_
      rintro e w1 ⟨rfl, hb1⟩
      have HB1 := Lib.hid (HB.out.trans (hb1.mono hz))
      clear hb1
      cases hv : hasD (dats qs) d with
      | false =>
        have HT := Lib.hid (show sameS (dats ps) (dats qs) = false by unfold sameS withinD; rw [HI.out.1 hv]; rfl)
        clear HI
        go_wp2
        go_ret
        exact ⟨ret_bool HT.out.symm, HB1.out⟩
      | true =>
        have HT := Lib.hid (HI.out.2 hv)
        clear HI
        go_wp2
        exact ⟨⟨k + 1, by omega, by go_num, HT.out, HB1.out⟩, by simp [intOf]; omega⟩
    · obtain rfl : k = ps.length := by omega
      have HF := Lib.hid (show withinD (dats ps) (dats qs) = true by have h := HN.out; rw [List.take_length] at h; exact h)
      have HBQ := Lib.hid HB.out
      clear HN HB hz
      go_wp2
      go_loopw [6] (AllRelS w qs ps) (fun i _ => qs.length - (intOf i).toNat)
      case atStart => exact ⟨0, Nat.zero_le _, rfl, rfl, HBQ.out⟩
      case round =>
        obtain ⟨k, hk2, rfl, hn, hb⟩ := hrel
        have HN := Lib.hid hn
        have HB := Lib.hid hb
        have hz := hb.size
        clear hn hb
        by_cases hlt2 : k < qs.length
        · obtain ⟨b, off, rfl, hbH, hd, q0, q1, q2, q3, q4⟩ := (HQ.out.below HB.out).at_ hlt2
          have hwd := HD.out _ (List.getElem_mem hlt2)
          have HI := Lib.hid (all_snocD (fun e => hasD (dats ps) e) hlt2 HN.out)
          revert hd q0 q1 q2 q3 q4 hwd HI
          generalize qs[k] = p
          obtain ⟨y, d⟩ := p
          intro hd q0 q1 q2 q3 q4 hwd HI
          dsimp only at *
          have HCL := Lib.hid (HI2.out wr y d HB.out (hd.mono hz) hwd)
          clear hd hwd
          go_wp2_with fail
          refine HCL.out.mono ?_
          rintro e w1 ⟨rfl, hb1⟩
          have HB1 := Lib.hid (HB.out.trans (hb1.mono hz))
          clear hb1
          cases hv : hasD (dats ps) d with
          | false =>
            have HT := Lib.hid (show sameS (dats ps) (dats qs) = false by unfold sameS; rw [show withinD (dats qs) (dats ps) = false from HI.out.1 hv]; simp)
            clear HI
            go_wp2
            go_ret
            exact ⟨ret_bool HT.out.symm, HB1.out⟩
          | true =>
            have HT := Lib.hid (HI.out.2 hv)
            clear HI
            go_wp2
            exact ⟨⟨k + 1, by omega, by go_num, HT.out, HB1.out⟩, by simp [intOf]; omega⟩
        · obtain rfl : k = qs.length := by omega
          have HT := Lib.hid (show sameS (dats ps) (dats qs) = true by
            have h := HN.out
            rw [List.take_length] at h
            unfold sameS
            rw [HF.out, show withinD (dats qs) (dats ps) = true from h]
            rfl)
          go_wp2
          go_ret
          exact ⟨ret_bool HT.out.symm, HB.out⟩

/-- What the document's Set has made ahead of a round. -/
structure SetAtR (w0 : World) (v : Value) (qs : List (DV × Dt)) (w : World) : Prop where
  row : w.ownsRow w0.heap.size 34 5 v qs.length (qs.flatMap cellsD)
  each : ∀ q ∈ qs, DataAt w0 w0.heap.size q.1 q.2
  below : Below w0.heap.size w0 w
  size : w0.heap.size ≤ w.heap.size
theorem SetAtR.step {w0 w w' : World} {v : Value} {qs : List (DV × Dt)} (h : SetAtR w0 v qs w) (hb : Below w.heap.size w w') : SetAtR w0 v qs w' :=
  ⟨own_keep h.row fun j hj => hb.block j (h.row.lt j hj).2, h.each, h.below.trans (hb.mono h.size), Nat.le_trans h.size hb.size⟩
theorem SetAtR.reads {w0 w : World} {A : Option Addr} {c : Nat} {qs : List (DV × Dt)} (h : SetAtR w0 (.slice A qs.length c) qs w) : DsAt w w.heap.size A qs :=
  ⟨Row.of_own h.row, fun q hq => ((h.each q hq).below h.below).mono h.size⟩
theorem SetAtR.snoc {w0 w w' : World} {v v' : Value} {qs : List (DV × Dt)} (h : SetAtR w0 v qs w) {y : DV} {d : Dt} (hy : DataAt w0 w0.heap.size y d) (ho : w'.ownsRow w0.heap.size 34 5 v' (qs.length + 1) (qs.flatMap cellsD ++ cellsD (y, d)))
    (hg : w.grownBy w' v.ownBlock) : SetAtR w0 v' (qs ++ [(y, d)]) w' := by
  refine ⟨by rw [List.length_append, List.flatMap_append]; simpa using ho, fun q hq => ?_, own_below h.below (Nat.le_refl _) h.size h.row hg, Nat.le_trans h.size hg.size⟩
  rcases List.mem_append.1 hq with hq | hq
  · exact h.each q hq
  · rw [List.mem_singleton.1 hq]
    exact hy
/-- Has one been seen? -/
def seenB (s : List Dt × Int) : Bool := !s.1.isEmpty
def SetRelR (w : World) (ps : List (RV × Rt)) (n : List (List UInt8)) (k : Int) (v t y i : Value) (wr : World) : Prop :=
  ∃ (j : Nat) (qs : List (DV × Dt)), j ≤ ps.length ∧ i = .int .i64 j ∧ t = .int .i64 (setF (recs (ps.take j)) n k).2 ∧ y = .bool (seenB (setF (recs (ps.take j)) n k)) ∧ dats qs = (setF (recs (ps.take j)) n k).1 ∧ qs.length ≤ j ∧ (∀ q ∈ qs, Wide q.2) ∧ SetAtR w v qs wr

set_option maxRecDepth 20000 in
set_option maxHeartbeats 8000000 in
theorem ref_set_any (w : World) (A : Option Addr) (c : Nat) (ps : List (RV × Rt)) (An : Option Addr) (n : List (List UInt8)) (cn : Nat) (kind : Int) (hp : RsAt w w.heap.size A ps) (hn : Row w w.heap.size An (n.map sv)) (hw : WideN n)
    (hr : ∀ p ∈ ps, RIn p.2) (hl : ps.length ≤ 100) :
    Calls Try.prog 11 #[.slice A ps.length c, .slice An n.length cn, .int .i64 kind] w (SetOut w (setF (recs ps) n kind)) := by
  obtain ⟨i0, hi0, hz0, hz1, hz2⟩ := info_parts data_info
  have HP := Lib.hid hp
  have HN := Lib.hid hn
  have HW := Lib.hid hw
  have HR := Lib.hid hr
  clear hp hn hw hr
  go_enter Try.func11, Try.ntmps11
  go_wp2
  go_loopw [8, 9, 10, 11] (SetRelR w ps n kind) (fun _ _ _ i _ => ps.length - (intOf i).toNat)
  case atStart => exact ⟨0, [], Nat.zero_le _, rfl, rfl, rfl, rfl, Nat.le_refl _, fun _ h => absurd h (List.not_mem_nil), World.ownsRow_nil _ _ _ _, fun _ h => absurd h (List.not_mem_nil), Below.refl _ _, Nat.le_refl _⟩
  case round =>
    obtain ⟨j, qs, hj, rfl, rfl, rfl, hq, hqj, hqw, hs⟩ := hrel
    have HS := Lib.hid hs
    have HQ := Lib.hid hq
    have HQW := Lib.hid hqw
    obtain ⟨A1, c1, rfl, _, _⟩ := own_form hs.row
    clear hs hq hqw
    by_cases hlt : j < ps.length
    · obtain ⟨b, off, rfl, hbH, hra, q0, q1, q2, q3, q4, q5, q6, q7, q8⟩ := HP.out.at_ hlt
      have hri := HR.out _ (List.getElem_mem hlt)
      have HF := Lib.hid (setF_take hlt n kind)
      revert hra q0 q1 q2 q3 q4 q5 q6 q7 q8 hri HF
      generalize ps[j] = p
      obtain ⟨x, r⟩ := p
      intro hra q0 q1 q2 q3 q4 q5 q6 q7 q8 hri HF
      dsimp only at *
      have HRA := Lib.hid hra
      have HRI := Lib.hid hri
      have k0' := (HS.out.below.cell (p := ⟨b, off + j * 9, none⟩) hbH).trans q0
      have k1' := (HS.out.below.cell (p := ⟨b, off + j * 9 + 1, none⟩) hbH).trans q1
      have k2' := (HS.out.below.cell (p := ⟨b, off + j * 9 + 2, none⟩) hbH).trans q2
      have k3' := (HS.out.below.cell (p := ⟨b, off + j * 9 + 3, none⟩) hbH).trans q3
      have k4' := (HS.out.below.cell (p := ⟨b, off + j * 9 + 4, none⟩) hbH).trans q4
      have k5' := (HS.out.below.cell (p := ⟨b, off + j * 9 + 5, none⟩) hbH).trans q5
      have k6' := (HS.out.below.cell (p := ⟨b, off + j * 9 + 6, none⟩) hbH).trans q6
      have k7' := (HS.out.below.cell (p := ⟨b, off + j * 9 + 7, none⟩) hbH).trans q7
      have k8' := (HS.out.below.cell (p := ⟨b, off + j * 9 + 8, none⟩) hbH).trans q8
      clear hra hri q0 q1 q2 q3 q4 q5 q6 q7 q8
      generalize hS0 : setF (recs (ps.take j)) n kind = S0 at *
      obtain ⟨sl, st⟩ := S0
      dsimp only at HQ
      clear hS0
      have hnew := (Below.refl wr.heap.size wr).alloc (Nat.le_refl _) (.cells #[.slice x.A r.name.length x.c, .int .i64 r.kind, .int .i64 r.cls, .int .i64 r.ttl, .slice x.d.Ab r.data.bytes.length x.d.cb, .slice x.d.Ah r.data.host.length x.d.ch, .slice x.d.Am r.data.mail.length x.d.cm, .slice x.d.An r.data.nums.length x.d.cn, .slice x.d.At r.data.texts.length x.d.ct] 54)
      have HSA := Lib.hid (HS.out.step hnew)
      have HWP := Lib.hid (heap_alloc_new wr (.cells #[.slice x.A r.name.length x.c, .int .i64 r.kind, .int .i64 r.cls, .int .i64 r.ttl, .slice x.d.Ab r.data.bytes.length x.d.cb, .slice x.d.Ah r.data.host.length x.d.ch, .slice x.d.Am r.data.mail.length x.d.cm, .slice x.d.An r.data.nums.length x.d.cn, .slice x.d.At r.data.texts.length x.d.ct] 54))
      by_cases k1 : r.cls = 1
      case neg =>
        have b1 : (r.cls == 1) = false := by rw [beq_eq_false_iff_ne]; exact k1
        have HE := Lib.hid (show setF (recs (ps.take (j + 1))) n kind = (sl, st) by rw [HF.out, if_neg (by simp [selR, k1])])
        clear HF
        go_wp2
        refine ⟨⟨j + 1, qs, by omega, by go_num, by rw [HE.out], by rw [HE.out], by rw [HE.out]; exact HQ.out, by omega, HQW.out, HSA.out⟩, by simp [intOf]; omega⟩
      have b1 : (r.cls == 1) = true := by rw [k1]; rfl
      have K1 := Lib.hid k1
      clear k1
      by_cases k2 : r.kind = kind
      case neg =>
        have b2 : (r.kind == kind) = false := by rw [beq_eq_false_iff_ne]; exact k2
        have HE := Lib.hid (show setF (recs (ps.take (j + 1))) n kind = (sl, st) by rw [HF.out, if_neg (by simp [selR, k2])])
        clear HF
        go_wp2
        refine ⟨⟨j + 1, qs, by omega, by go_num, by rw [HE.out], by rw [HE.out], by rw [HE.out]; exact HQ.out, by omega, HQW.out, HSA.out⟩, by simp [intOf]; omega⟩
      have b2 : (r.kind == kind) = true := by rw [k2]; simp
      have K2 := Lib.hid k2
      clear k2
      have HEQ := Lib.hid (ref_equal_wide x.A An r.name.length n.length x.c cn w.heap.size r.name n (wr.alloc (.cells #[.slice x.A r.name.length x.c, .int .i64 r.kind, .int .i64 r.cls, .int .i64 r.ttl, .slice x.d.Ab r.data.bytes.length x.d.cb, .slice x.d.Ah r.data.host.length x.d.ch, .slice x.d.Am r.data.mail.length x.d.cm, .slice x.d.An r.data.nums.length x.d.cn, .slice x.d.At r.data.texts.length x.d.ct] 54)) rfl rfl (HRA.out.below HSA.out.below).n (HN.out.below HSA.out.below) HSA.out.size HRI.out.n HW.out)
      clear hnew
      go_wp2_with fail
      refine HEQ.out.mono ?_
      rintro e w3 ⟨rfl, hb3⟩
      have HS3 := Lib.hid (HSA.out.step hb3)
      have HW3 := Lib.hid ((hb3.block wr.heap.size (by simp)).trans HWP.out)
      have hz3 : wr.heap.size < w3.heap.size := by have h := hb3.size; simp at h; omega
      clear hb3 HSA HWP HEQ k0' k1' k2' k3' k4' k5' k6' k7' k8'
      cases k3 : eqN r.name n with
      | false =>
        have HE := Lib.hid (show setF (recs (ps.take (j + 1))) n kind = (sl, st) by rw [HF.out, if_neg (by simp [selR, k3])])
        clear HF
        go_wp2
        refine ⟨⟨j + 1, qs, by omega, by go_num, by rw [HE.out], by rw [HE.out], by rw [HE.out]; exact HQ.out, by omega, HQW.out, HS3.out⟩, by simp [intOf]; omega⟩
      | true =>
        have HE := Lib.hid (show setF (recs (ps.take (j + 1))) n kind = stepS (sl, st) r by rw [HF.out, if_pos (by simp [selR, K1.out, K2.out, k3])])
        clear HF
        have p0 : w3.cell? ⟨wr.heap.size, 0, none⟩ = some (.slice x.A r.name.length x.c) := Whole.cell (L := [.slice x.A r.name.length x.c, .int .i64 r.kind, .int .i64 r.cls, .int .i64 r.ttl, .slice x.d.Ab r.data.bytes.length x.d.cb, .slice x.d.Ah r.data.host.length x.d.ch, .slice x.d.Am r.data.mail.length x.d.cm, .slice x.d.An r.data.nums.length x.d.cn, .slice x.d.At r.data.texts.length x.d.ct]) HW3.out 0
        have p1 : w3.cell? ⟨wr.heap.size, 1, none⟩ = some (.int .i64 r.kind) := Whole.cell (L := [.slice x.A r.name.length x.c, .int .i64 r.kind, .int .i64 r.cls, .int .i64 r.ttl, .slice x.d.Ab r.data.bytes.length x.d.cb, .slice x.d.Ah r.data.host.length x.d.ch, .slice x.d.Am r.data.mail.length x.d.cm, .slice x.d.An r.data.nums.length x.d.cn, .slice x.d.At r.data.texts.length x.d.ct]) HW3.out 1
        have p2 : w3.cell? ⟨wr.heap.size, 2, none⟩ = some (.int .i64 r.cls) := Whole.cell (L := [.slice x.A r.name.length x.c, .int .i64 r.kind, .int .i64 r.cls, .int .i64 r.ttl, .slice x.d.Ab r.data.bytes.length x.d.cb, .slice x.d.Ah r.data.host.length x.d.ch, .slice x.d.Am r.data.mail.length x.d.cm, .slice x.d.An r.data.nums.length x.d.cn, .slice x.d.At r.data.texts.length x.d.ct]) HW3.out 2
        have p3 : w3.cell? ⟨wr.heap.size, 3, none⟩ = some (.int .i64 r.ttl) := Whole.cell (L := [.slice x.A r.name.length x.c, .int .i64 r.kind, .int .i64 r.cls, .int .i64 r.ttl, .slice x.d.Ab r.data.bytes.length x.d.cb, .slice x.d.Ah r.data.host.length x.d.ch, .slice x.d.Am r.data.mail.length x.d.cm, .slice x.d.An r.data.nums.length x.d.cn, .slice x.d.At r.data.texts.length x.d.ct]) HW3.out 3
        have p4 : w3.cell? ⟨wr.heap.size, 4, none⟩ = some (.slice x.d.Ab r.data.bytes.length x.d.cb) := Whole.cell (L := [.slice x.A r.name.length x.c, .int .i64 r.kind, .int .i64 r.cls, .int .i64 r.ttl, .slice x.d.Ab r.data.bytes.length x.d.cb, .slice x.d.Ah r.data.host.length x.d.ch, .slice x.d.Am r.data.mail.length x.d.cm, .slice x.d.An r.data.nums.length x.d.cn, .slice x.d.At r.data.texts.length x.d.ct]) HW3.out 4
        have p5 : w3.cell? ⟨wr.heap.size, 5, none⟩ = some (.slice x.d.Ah r.data.host.length x.d.ch) := Whole.cell (L := [.slice x.A r.name.length x.c, .int .i64 r.kind, .int .i64 r.cls, .int .i64 r.ttl, .slice x.d.Ab r.data.bytes.length x.d.cb, .slice x.d.Ah r.data.host.length x.d.ch, .slice x.d.Am r.data.mail.length x.d.cm, .slice x.d.An r.data.nums.length x.d.cn, .slice x.d.At r.data.texts.length x.d.ct]) HW3.out 5
        have p6 : w3.cell? ⟨wr.heap.size, 6, none⟩ = some (.slice x.d.Am r.data.mail.length x.d.cm) := Whole.cell (L := [.slice x.A r.name.length x.c, .int .i64 r.kind, .int .i64 r.cls, .int .i64 r.ttl, .slice x.d.Ab r.data.bytes.length x.d.cb, .slice x.d.Ah r.data.host.length x.d.ch, .slice x.d.Am r.data.mail.length x.d.cm, .slice x.d.An r.data.nums.length x.d.cn, .slice x.d.At r.data.texts.length x.d.ct]) HW3.out 6
        have p7 : w3.cell? ⟨wr.heap.size, 7, none⟩ = some (.slice x.d.An r.data.nums.length x.d.cn) := Whole.cell (L := [.slice x.A r.name.length x.c, .int .i64 r.kind, .int .i64 r.cls, .int .i64 r.ttl, .slice x.d.Ab r.data.bytes.length x.d.cb, .slice x.d.Ah r.data.host.length x.d.ch, .slice x.d.Am r.data.mail.length x.d.cm, .slice x.d.An r.data.nums.length x.d.cn, .slice x.d.At r.data.texts.length x.d.ct]) HW3.out 7
        have p8 : w3.cell? ⟨wr.heap.size, 8, none⟩ = some (.slice x.d.At r.data.texts.length x.d.ct) := Whole.cell (L := [.slice x.A r.name.length x.c, .int .i64 r.kind, .int .i64 r.cls, .int .i64 r.ttl, .slice x.d.Ab r.data.bytes.length x.d.cb, .slice x.d.Ah r.data.host.length x.d.ch, .slice x.d.Am r.data.mail.length x.d.cm, .slice x.d.An r.data.nums.length x.d.cn, .slice x.d.At r.data.texts.length x.d.ct]) HW3.out 8
        have HHAS := Lib.hid (in_any w3 x.d r.data A1 c1 qs ((HRA.out.below HS3.out.below).mono HS3.out.size).d HS3.out.reads HRI.out.d HQW.out (by unfold maxLen; omega))
        have HSEEN := Lib.hid (show seenB (stepS (sl, st) r) = true by
          unfold seenB stepS
          dsimp only
          split
          · rename_i hh
            cases sl with
            | nil => simp [hasD] at hh
            | cons a l => rfl
          · simp)
        obtain ⟨st2, hst⟩ : ∃ st2, st2 = if sl = [] ∨ r.ttl < st then r.ttl else st := ⟨_, rfl⟩
        have HST := Lib.hid hst
        by_cases e1 : sl = []
        · have g1 : seenB (sl, st) = false := by rw [e1]; rfl
          have hst2 : st2 = r.ttl := by rw [hst, if_pos (.inl e1)]
          clear hst e1
          subst hst2
          go_wp2_with fail
          refine HHAS.out.mono ?_
          rintro e w4 ⟨rfl, hb4⟩
          have HS4 := Lib.hid (HS3.out.step hb4)
          have HW4 := Lib.hid ((hb4.block wr.heap.size hz3).trans HW3.out)
          clear hb4 HS3 HW3 p0 p1 p2 p3 p4 p5 p6 p7 p8
          cases k4 : hasD (dats qs) r.data with
          | true =>
            have HE2 := Lib.hid (show setF (recs (ps.take (j + 1))) n kind = (sl, r.ttl) by rw [HE.out]; unfold stepS; rw [← HST.out]; dsimp only; rw [← HQ.out, if_pos k4])
            have HSN := Lib.hid (show seenB (sl, r.ttl) = true by rw [← HE2.out, HE.out]; exact HSEEN.out)
            clear HE g1
            go_wp2
            refine ⟨⟨j + 1, qs, by omega, by go_num, by rw [HE2.out], by rw [HE2.out, HSN.out], by rw [HE2.out]; exact HQ.out, by omega, HQW.out, HS4.out⟩, by simp [intOf]; omega⟩
          | false =>
            have HE2 := Lib.hid (show setF (recs (ps.take (j + 1))) n kind = (sl ++ [r.data], r.ttl) by rw [HE.out]; unfold stepS; rw [← HST.out]; dsimp only; rw [← HQ.out, if_neg (by rw [k4]; decide)])
            have HSN := Lib.hid (show seenB (sl ++ [r.data], r.ttl) = true by rw [← HE2.out, HE.out]; exact HSEEN.out)
            clear HE g1
            have p0 : w4.cell? ⟨wr.heap.size, 0, none⟩ = some (.slice x.A r.name.length x.c) := Whole.cell (L := [.slice x.A r.name.length x.c, .int .i64 r.kind, .int .i64 r.cls, .int .i64 r.ttl, .slice x.d.Ab r.data.bytes.length x.d.cb, .slice x.d.Ah r.data.host.length x.d.ch, .slice x.d.Am r.data.mail.length x.d.cm, .slice x.d.An r.data.nums.length x.d.cn, .slice x.d.At r.data.texts.length x.d.ct]) HW4.out 0
            have p1 : w4.cell? ⟨wr.heap.size, 1, none⟩ = some (.int .i64 r.kind) := Whole.cell (L := [.slice x.A r.name.length x.c, .int .i64 r.kind, .int .i64 r.cls, .int .i64 r.ttl, .slice x.d.Ab r.data.bytes.length x.d.cb, .slice x.d.Ah r.data.host.length x.d.ch, .slice x.d.Am r.data.mail.length x.d.cm, .slice x.d.An r.data.nums.length x.d.cn, .slice x.d.At r.data.texts.length x.d.ct]) HW4.out 1
            have p2 : w4.cell? ⟨wr.heap.size, 2, none⟩ = some (.int .i64 r.cls) := Whole.cell (L := [.slice x.A r.name.length x.c, .int .i64 r.kind, .int .i64 r.cls, .int .i64 r.ttl, .slice x.d.Ab r.data.bytes.length x.d.cb, .slice x.d.Ah r.data.host.length x.d.ch, .slice x.d.Am r.data.mail.length x.d.cm, .slice x.d.An r.data.nums.length x.d.cn, .slice x.d.At r.data.texts.length x.d.ct]) HW4.out 2
            have p3 : w4.cell? ⟨wr.heap.size, 3, none⟩ = some (.int .i64 r.ttl) := Whole.cell (L := [.slice x.A r.name.length x.c, .int .i64 r.kind, .int .i64 r.cls, .int .i64 r.ttl, .slice x.d.Ab r.data.bytes.length x.d.cb, .slice x.d.Ah r.data.host.length x.d.ch, .slice x.d.Am r.data.mail.length x.d.cm, .slice x.d.An r.data.nums.length x.d.cn, .slice x.d.At r.data.texts.length x.d.ct]) HW4.out 3
            have p4 : w4.cell? ⟨wr.heap.size, 4, none⟩ = some (.slice x.d.Ab r.data.bytes.length x.d.cb) := Whole.cell (L := [.slice x.A r.name.length x.c, .int .i64 r.kind, .int .i64 r.cls, .int .i64 r.ttl, .slice x.d.Ab r.data.bytes.length x.d.cb, .slice x.d.Ah r.data.host.length x.d.ch, .slice x.d.Am r.data.mail.length x.d.cm, .slice x.d.An r.data.nums.length x.d.cn, .slice x.d.At r.data.texts.length x.d.ct]) HW4.out 4
            have p5 : w4.cell? ⟨wr.heap.size, 5, none⟩ = some (.slice x.d.Ah r.data.host.length x.d.ch) := Whole.cell (L := [.slice x.A r.name.length x.c, .int .i64 r.kind, .int .i64 r.cls, .int .i64 r.ttl, .slice x.d.Ab r.data.bytes.length x.d.cb, .slice x.d.Ah r.data.host.length x.d.ch, .slice x.d.Am r.data.mail.length x.d.cm, .slice x.d.An r.data.nums.length x.d.cn, .slice x.d.At r.data.texts.length x.d.ct]) HW4.out 5
            have p6 : w4.cell? ⟨wr.heap.size, 6, none⟩ = some (.slice x.d.Am r.data.mail.length x.d.cm) := Whole.cell (L := [.slice x.A r.name.length x.c, .int .i64 r.kind, .int .i64 r.cls, .int .i64 r.ttl, .slice x.d.Ab r.data.bytes.length x.d.cb, .slice x.d.Ah r.data.host.length x.d.ch, .slice x.d.Am r.data.mail.length x.d.cm, .slice x.d.An r.data.nums.length x.d.cn, .slice x.d.At r.data.texts.length x.d.ct]) HW4.out 6
            have p7 : w4.cell? ⟨wr.heap.size, 7, none⟩ = some (.slice x.d.An r.data.nums.length x.d.cn) := Whole.cell (L := [.slice x.A r.name.length x.c, .int .i64 r.kind, .int .i64 r.cls, .int .i64 r.ttl, .slice x.d.Ab r.data.bytes.length x.d.cb, .slice x.d.Ah r.data.host.length x.d.ch, .slice x.d.Am r.data.mail.length x.d.cm, .slice x.d.An r.data.nums.length x.d.cn, .slice x.d.At r.data.texts.length x.d.ct]) HW4.out 7
            have p8 : w4.cell? ⟨wr.heap.size, 8, none⟩ = some (.slice x.d.At r.data.texts.length x.d.ct) := Whole.cell (L := [.slice x.A r.name.length x.c, .int .i64 r.kind, .int .i64 r.cls, .int .i64 r.ttl, .slice x.d.Ab r.data.bytes.length x.d.cb, .slice x.d.Ah r.data.host.length x.d.ch, .slice x.d.Am r.data.mail.length x.d.cm, .slice x.d.An r.data.nums.length x.d.cn, .slice x.d.At r.data.texts.length x.d.ct]) HW4.out 8
            have hnew5 := (Below.refl w4.heap.size w4).alloc (Nat.le_refl _) (.cells #[.slice x.d.Ab r.data.bytes.length x.d.cb, .slice x.d.Ah r.data.host.length x.d.ch, .slice x.d.Am r.data.mail.length x.d.cm, .slice x.d.An r.data.nums.length x.d.cn, .slice x.d.At r.data.texts.length x.d.ct] 34)
            have HS6 := Lib.hid (HS4.out.step hnew5)
            have HRD := Lib.hid (Row.made w4 #[.slice x.d.Ab r.data.bytes.length x.d.cb, .slice x.d.Ah r.data.host.length x.d.ch, .slice x.d.Am r.data.mail.length x.d.cm, .slice x.d.An r.data.nums.length x.d.cn, .slice x.d.At r.data.texts.length x.d.ct] 34)
            clear hnew5
            go_wp2_with (
              at_builtin
              refine wpList_append_row rfl (.tmp 53) (.tmp 56) _ rfl w.heap.size 34 i0 _ 5 120 Try.underlying24 hi0 hz0 hz1 hz2 rfl (by omega) (.slice A1 qs.length c1) qs.length _ rfl HS6.out.row
                (some ⟨w4.heap.size, 0, none⟩) 1 1 (w4.heap.size + 1) (cellsD (x.d, r.data)) rfl rfl HRD.out (cellsD_one1 _) (by unfold maxLen; omega) (by omega) HS6.out.size ?_
              intro v7 w7 hown7 hg7
              have HS7 := Lib.hid (HS6.out.snoc HRA.out.d hown7 hg7)
              clear hown7 hg7)
            refine ⟨⟨j + 1, qs ++ [(x.d, r.data)], by omega, by go_num, by rw [HE2.out], by rw [HE2.out, HSN.out], by rw [HE2.out, dats_append, HQ.out]; rfl, by simp; omega, fun q hq => ?_, HS7.out⟩, by simp [intOf]; omega⟩
            rcases List.mem_append.1 hq with hq | hq
            · exact HQW.out q hq
            · rw [List.mem_singleton.1 hq]; exact HRI.out.d
        · have g1 : seenB (sl, st) = true := by
            unfold seenB
            cases sl with
            | nil => exact absurd rfl e1
            | cons a l => rfl
          by_cases e2 : r.ttl < st
          · have g2 : decide (r.ttl < st) = true := by simpa using e2
            have hst2 : st2 = r.ttl := by rw [hst, if_pos (.inr e2)]
            clear hst e1 e2
            subst hst2
            go_wp2_with fail
            refine HHAS.out.mono ?_
            rintro e w4 ⟨rfl, hb4⟩
            have HS4 := Lib.hid (HS3.out.step hb4)
            have HW4 := Lib.hid ((hb4.block wr.heap.size hz3).trans HW3.out)
            clear hb4 HS3 HW3 p0 p1 p2 p3 p4 p5 p6 p7 p8
            cases k4 : hasD (dats qs) r.data with
            | true =>
              have HE2 := Lib.hid (show setF (recs (ps.take (j + 1))) n kind = (sl, r.ttl) by rw [HE.out]; unfold stepS; rw [← HST.out]; dsimp only; rw [← HQ.out, if_pos k4])
              have HSN := Lib.hid (show seenB (sl, r.ttl) = true by rw [← HE2.out, HE.out]; exact HSEEN.out)
              clear HE g1
              go_wp2
              refine ⟨⟨j + 1, qs, by omega, by go_num, by rw [HE2.out], by rw [HE2.out, HSN.out], by rw [HE2.out]; exact HQ.out, by omega, HQW.out, HS4.out⟩, by simp [intOf]; omega⟩
            | false =>
              have HE2 := Lib.hid (show setF (recs (ps.take (j + 1))) n kind = (sl ++ [r.data], r.ttl) by rw [HE.out]; unfold stepS; rw [← HST.out]; dsimp only; rw [← HQ.out, if_neg (by rw [k4]; decide)])
              have HSN := Lib.hid (show seenB (sl ++ [r.data], r.ttl) = true by rw [← HE2.out, HE.out]; exact HSEEN.out)
              clear HE g1
              have p0 : w4.cell? ⟨wr.heap.size, 0, none⟩ = some (.slice x.A r.name.length x.c) := Whole.cell (L := [.slice x.A r.name.length x.c, .int .i64 r.kind, .int .i64 r.cls, .int .i64 r.ttl, .slice x.d.Ab r.data.bytes.length x.d.cb, .slice x.d.Ah r.data.host.length x.d.ch, .slice x.d.Am r.data.mail.length x.d.cm, .slice x.d.An r.data.nums.length x.d.cn, .slice x.d.At r.data.texts.length x.d.ct]) HW4.out 0
              have p1 : w4.cell? ⟨wr.heap.size, 1, none⟩ = some (.int .i64 r.kind) := Whole.cell (L := [.slice x.A r.name.length x.c, .int .i64 r.kind, .int .i64 r.cls, .int .i64 r.ttl, .slice x.d.Ab r.data.bytes.length x.d.cb, .slice x.d.Ah r.data.host.length x.d.ch, .slice x.d.Am r.data.mail.length x.d.cm, .slice x.d.An r.data.nums.length x.d.cn, .slice x.d.At r.data.texts.length x.d.ct]) HW4.out 1
              have p2 : w4.cell? ⟨wr.heap.size, 2, none⟩ = some (.int .i64 r.cls) := Whole.cell (L := [.slice x.A r.name.length x.c, .int .i64 r.kind, .int .i64 r.cls, .int .i64 r.ttl, .slice x.d.Ab r.data.bytes.length x.d.cb, .slice x.d.Ah r.data.host.length x.d.ch, .slice x.d.Am r.data.mail.length x.d.cm, .slice x.d.An r.data.nums.length x.d.cn, .slice x.d.At r.data.texts.length x.d.ct]) HW4.out 2
              have p3 : w4.cell? ⟨wr.heap.size, 3, none⟩ = some (.int .i64 r.ttl) := Whole.cell (L := [.slice x.A r.name.length x.c, .int .i64 r.kind, .int .i64 r.cls, .int .i64 r.ttl, .slice x.d.Ab r.data.bytes.length x.d.cb, .slice x.d.Ah r.data.host.length x.d.ch, .slice x.d.Am r.data.mail.length x.d.cm, .slice x.d.An r.data.nums.length x.d.cn, .slice x.d.At r.data.texts.length x.d.ct]) HW4.out 3
              have p4 : w4.cell? ⟨wr.heap.size, 4, none⟩ = some (.slice x.d.Ab r.data.bytes.length x.d.cb) := Whole.cell (L := [.slice x.A r.name.length x.c, .int .i64 r.kind, .int .i64 r.cls, .int .i64 r.ttl, .slice x.d.Ab r.data.bytes.length x.d.cb, .slice x.d.Ah r.data.host.length x.d.ch, .slice x.d.Am r.data.mail.length x.d.cm, .slice x.d.An r.data.nums.length x.d.cn, .slice x.d.At r.data.texts.length x.d.ct]) HW4.out 4
              have p5 : w4.cell? ⟨wr.heap.size, 5, none⟩ = some (.slice x.d.Ah r.data.host.length x.d.ch) := Whole.cell (L := [.slice x.A r.name.length x.c, .int .i64 r.kind, .int .i64 r.cls, .int .i64 r.ttl, .slice x.d.Ab r.data.bytes.length x.d.cb, .slice x.d.Ah r.data.host.length x.d.ch, .slice x.d.Am r.data.mail.length x.d.cm, .slice x.d.An r.data.nums.length x.d.cn, .slice x.d.At r.data.texts.length x.d.ct]) HW4.out 5
              have p6 : w4.cell? ⟨wr.heap.size, 6, none⟩ = some (.slice x.d.Am r.data.mail.length x.d.cm) := Whole.cell (L := [.slice x.A r.name.length x.c, .int .i64 r.kind, .int .i64 r.cls, .int .i64 r.ttl, .slice x.d.Ab r.data.bytes.length x.d.cb, .slice x.d.Ah r.data.host.length x.d.ch, .slice x.d.Am r.data.mail.length x.d.cm, .slice x.d.An r.data.nums.length x.d.cn, .slice x.d.At r.data.texts.length x.d.ct]) HW4.out 6
              have p7 : w4.cell? ⟨wr.heap.size, 7, none⟩ = some (.slice x.d.An r.data.nums.length x.d.cn) := Whole.cell (L := [.slice x.A r.name.length x.c, .int .i64 r.kind, .int .i64 r.cls, .int .i64 r.ttl, .slice x.d.Ab r.data.bytes.length x.d.cb, .slice x.d.Ah r.data.host.length x.d.ch, .slice x.d.Am r.data.mail.length x.d.cm, .slice x.d.An r.data.nums.length x.d.cn, .slice x.d.At r.data.texts.length x.d.ct]) HW4.out 7
              have p8 : w4.cell? ⟨wr.heap.size, 8, none⟩ = some (.slice x.d.At r.data.texts.length x.d.ct) := Whole.cell (L := [.slice x.A r.name.length x.c, .int .i64 r.kind, .int .i64 r.cls, .int .i64 r.ttl, .slice x.d.Ab r.data.bytes.length x.d.cb, .slice x.d.Ah r.data.host.length x.d.ch, .slice x.d.Am r.data.mail.length x.d.cm, .slice x.d.An r.data.nums.length x.d.cn, .slice x.d.At r.data.texts.length x.d.ct]) HW4.out 8
              have hnew5 := (Below.refl w4.heap.size w4).alloc (Nat.le_refl _) (.cells #[.slice x.d.Ab r.data.bytes.length x.d.cb, .slice x.d.Ah r.data.host.length x.d.ch, .slice x.d.Am r.data.mail.length x.d.cm, .slice x.d.An r.data.nums.length x.d.cn, .slice x.d.At r.data.texts.length x.d.ct] 34)
              have HS6 := Lib.hid (HS4.out.step hnew5)
              have HRD := Lib.hid (Row.made w4 #[.slice x.d.Ab r.data.bytes.length x.d.cb, .slice x.d.Ah r.data.host.length x.d.ch, .slice x.d.Am r.data.mail.length x.d.cm, .slice x.d.An r.data.nums.length x.d.cn, .slice x.d.At r.data.texts.length x.d.ct] 34)
              clear hnew5
              go_wp2_with (
                at_builtin
                refine wpList_append_row rfl (.tmp 53) (.tmp 56) _ rfl w.heap.size 34 i0 _ 5 120 Try.underlying24 hi0 hz0 hz1 hz2 rfl (by omega) (.slice A1 qs.length c1) qs.length _ rfl HS6.out.row
                  (some ⟨w4.heap.size, 0, none⟩) 1 1 (w4.heap.size + 1) (cellsD (x.d, r.data)) rfl rfl HRD.out (cellsD_one1 _) (by unfold maxLen; omega) (by omega) HS6.out.size ?_
                intro v7 w7 hown7 hg7
                have HS7 := Lib.hid (HS6.out.snoc HRA.out.d hown7 hg7)
                clear hown7 hg7)
              refine ⟨⟨j + 1, qs ++ [(x.d, r.data)], by omega, by go_num, by rw [HE2.out], by rw [HE2.out, HSN.out], by rw [HE2.out, dats_append, HQ.out]; rfl, by simp; omega, fun q hq => ?_, HS7.out⟩, by simp [intOf]; omega⟩
              rcases List.mem_append.1 hq with hq | hq
              · exact HQW.out q hq
              · rw [List.mem_singleton.1 hq]; exact HRI.out.d
          · have g2 : decide (r.ttl < st) = false := by simpa using e2
            have hst2 : st2 = st := by rw [hst, if_neg (by rintro (h | h); exact e1 h; exact e2 h)]
            clear hst e1 e2
            subst hst2
            go_wp2_with fail
            refine HHAS.out.mono ?_
            rintro e w4 ⟨rfl, hb4⟩
            have HS4 := Lib.hid (HS3.out.step hb4)
            have HW4 := Lib.hid ((hb4.block wr.heap.size hz3).trans HW3.out)
            clear hb4 HS3 HW3 p0 p1 p2 p3 p4 p5 p6 p7 p8
            cases k4 : hasD (dats qs) r.data with
            | true =>
              have HE2 := Lib.hid (show setF (recs (ps.take (j + 1))) n kind = (sl, st2) by rw [HE.out]; unfold stepS; rw [← HST.out]; dsimp only; rw [← HQ.out, if_pos k4])
              have HSN := Lib.hid (show seenB (sl, st2) = true by rw [← HE2.out, HE.out]; exact HSEEN.out)
              clear HE g1
              go_wp2
              refine ⟨⟨j + 1, qs, by omega, by go_num, by rw [HE2.out], by rw [HE2.out, HSN.out], by rw [HE2.out]; exact HQ.out, by omega, HQW.out, HS4.out⟩, by simp [intOf]; omega⟩
            | false =>
              have HE2 := Lib.hid (show setF (recs (ps.take (j + 1))) n kind = (sl ++ [r.data], st2) by rw [HE.out]; unfold stepS; rw [← HST.out]; dsimp only; rw [← HQ.out, if_neg (by rw [k4]; decide)])
              have HSN := Lib.hid (show seenB (sl ++ [r.data], st2) = true by rw [← HE2.out, HE.out]; exact HSEEN.out)
              clear HE g1
              have p0 : w4.cell? ⟨wr.heap.size, 0, none⟩ = some (.slice x.A r.name.length x.c) := Whole.cell (L := [.slice x.A r.name.length x.c, .int .i64 r.kind, .int .i64 r.cls, .int .i64 r.ttl, .slice x.d.Ab r.data.bytes.length x.d.cb, .slice x.d.Ah r.data.host.length x.d.ch, .slice x.d.Am r.data.mail.length x.d.cm, .slice x.d.An r.data.nums.length x.d.cn, .slice x.d.At r.data.texts.length x.d.ct]) HW4.out 0
              have p1 : w4.cell? ⟨wr.heap.size, 1, none⟩ = some (.int .i64 r.kind) := Whole.cell (L := [.slice x.A r.name.length x.c, .int .i64 r.kind, .int .i64 r.cls, .int .i64 r.ttl, .slice x.d.Ab r.data.bytes.length x.d.cb, .slice x.d.Ah r.data.host.length x.d.ch, .slice x.d.Am r.data.mail.length x.d.cm, .slice x.d.An r.data.nums.length x.d.cn, .slice x.d.At r.data.texts.length x.d.ct]) HW4.out 1
              have p2 : w4.cell? ⟨wr.heap.size, 2, none⟩ = some (.int .i64 r.cls) := Whole.cell (L := [.slice x.A r.name.length x.c, .int .i64 r.kind, .int .i64 r.cls, .int .i64 r.ttl, .slice x.d.Ab r.data.bytes.length x.d.cb, .slice x.d.Ah r.data.host.length x.d.ch, .slice x.d.Am r.data.mail.length x.d.cm, .slice x.d.An r.data.nums.length x.d.cn, .slice x.d.At r.data.texts.length x.d.ct]) HW4.out 2
              have p3 : w4.cell? ⟨wr.heap.size, 3, none⟩ = some (.int .i64 r.ttl) := Whole.cell (L := [.slice x.A r.name.length x.c, .int .i64 r.kind, .int .i64 r.cls, .int .i64 r.ttl, .slice x.d.Ab r.data.bytes.length x.d.cb, .slice x.d.Ah r.data.host.length x.d.ch, .slice x.d.Am r.data.mail.length x.d.cm, .slice x.d.An r.data.nums.length x.d.cn, .slice x.d.At r.data.texts.length x.d.ct]) HW4.out 3
              have p4 : w4.cell? ⟨wr.heap.size, 4, none⟩ = some (.slice x.d.Ab r.data.bytes.length x.d.cb) := Whole.cell (L := [.slice x.A r.name.length x.c, .int .i64 r.kind, .int .i64 r.cls, .int .i64 r.ttl, .slice x.d.Ab r.data.bytes.length x.d.cb, .slice x.d.Ah r.data.host.length x.d.ch, .slice x.d.Am r.data.mail.length x.d.cm, .slice x.d.An r.data.nums.length x.d.cn, .slice x.d.At r.data.texts.length x.d.ct]) HW4.out 4
              have p5 : w4.cell? ⟨wr.heap.size, 5, none⟩ = some (.slice x.d.Ah r.data.host.length x.d.ch) := Whole.cell (L := [.slice x.A r.name.length x.c, .int .i64 r.kind, .int .i64 r.cls, .int .i64 r.ttl, .slice x.d.Ab r.data.bytes.length x.d.cb, .slice x.d.Ah r.data.host.length x.d.ch, .slice x.d.Am r.data.mail.length x.d.cm, .slice x.d.An r.data.nums.length x.d.cn, .slice x.d.At r.data.texts.length x.d.ct]) HW4.out 5
              have p6 : w4.cell? ⟨wr.heap.size, 6, none⟩ = some (.slice x.d.Am r.data.mail.length x.d.cm) := Whole.cell (L := [.slice x.A r.name.length x.c, .int .i64 r.kind, .int .i64 r.cls, .int .i64 r.ttl, .slice x.d.Ab r.data.bytes.length x.d.cb, .slice x.d.Ah r.data.host.length x.d.ch, .slice x.d.Am r.data.mail.length x.d.cm, .slice x.d.An r.data.nums.length x.d.cn, .slice x.d.At r.data.texts.length x.d.ct]) HW4.out 6
              have p7 : w4.cell? ⟨wr.heap.size, 7, none⟩ = some (.slice x.d.An r.data.nums.length x.d.cn) := Whole.cell (L := [.slice x.A r.name.length x.c, .int .i64 r.kind, .int .i64 r.cls, .int .i64 r.ttl, .slice x.d.Ab r.data.bytes.length x.d.cb, .slice x.d.Ah r.data.host.length x.d.ch, .slice x.d.Am r.data.mail.length x.d.cm, .slice x.d.An r.data.nums.length x.d.cn, .slice x.d.At r.data.texts.length x.d.ct]) HW4.out 7
              have p8 : w4.cell? ⟨wr.heap.size, 8, none⟩ = some (.slice x.d.At r.data.texts.length x.d.ct) := Whole.cell (L := [.slice x.A r.name.length x.c, .int .i64 r.kind, .int .i64 r.cls, .int .i64 r.ttl, .slice x.d.Ab r.data.bytes.length x.d.cb, .slice x.d.Ah r.data.host.length x.d.ch, .slice x.d.Am r.data.mail.length x.d.cm, .slice x.d.An r.data.nums.length x.d.cn, .slice x.d.At r.data.texts.length x.d.ct]) HW4.out 8
              have hnew5 := (Below.refl w4.heap.size w4).alloc (Nat.le_refl _) (.cells #[.slice x.d.Ab r.data.bytes.length x.d.cb, .slice x.d.Ah r.data.host.length x.d.ch, .slice x.d.Am r.data.mail.length x.d.cm, .slice x.d.An r.data.nums.length x.d.cn, .slice x.d.At r.data.texts.length x.d.ct] 34)
              have HS6 := Lib.hid (HS4.out.step hnew5)
              have HRD := Lib.hid (Row.made w4 #[.slice x.d.Ab r.data.bytes.length x.d.cb, .slice x.d.Ah r.data.host.length x.d.ch, .slice x.d.Am r.data.mail.length x.d.cm, .slice x.d.An r.data.nums.length x.d.cn, .slice x.d.At r.data.texts.length x.d.ct] 34)
              clear hnew5
              go_wp2_with (
                at_builtin
                refine wpList_append_row rfl (.tmp 53) (.tmp 56) _ rfl w.heap.size 34 i0 _ 5 120 Try.underlying24 hi0 hz0 hz1 hz2 rfl (by omega) (.slice A1 qs.length c1) qs.length _ rfl HS6.out.row
                  (some ⟨w4.heap.size, 0, none⟩) 1 1 (w4.heap.size + 1) (cellsD (x.d, r.data)) rfl rfl HRD.out (cellsD_one1 _) (by unfold maxLen; omega) (by omega) HS6.out.size ?_
                intro v7 w7 hown7 hg7
                have HS7 := Lib.hid (HS6.out.snoc HRA.out.d hown7 hg7)
                clear hown7 hg7)
              refine ⟨⟨j + 1, qs ++ [(x.d, r.data)], by omega, by go_num, by rw [HE2.out], by rw [HE2.out, HSN.out], by rw [HE2.out, dats_append, HQ.out]; rfl, by simp; omega, fun q hq => ?_, HS7.out⟩, by simp [intOf]; omega⟩
              rcases List.mem_append.1 hq with hq | hq
              · exact HQW.out q hq
              · rw [List.mem_singleton.1 hq]; exact HRI.out.d
    · obtain rfl : j = ps.length := by omega
      rw [List.take_length] at *
      go_wp2
      go_ret2
      exact ⟨A1, c1, qs, rfl, HQ.out, HS.out.reads, HS.out.below⟩

end Go.Proofs.Ythppgofpbpjglaa

namespace Go.Proofs.Ythppgofpbpjglaa
open Go.RowKit

theorem sameS_turn (a b : List Dt) : sameS a b = sameS b a := by unfold sameS; exact Bool.and_comm _ _
theorem sameD_reflS (d : Dt) : sameD d d = true := by simp [sameD, eqN]
theorem sameS_refl (a : List Dt) : sameS a a = true := by
  have h : withinD a a = true := by
    unfold withinD
    rw [List.all_eq_true]
    intro d hd
    unfold hasD
    rw [List.any_eq_true]
    exact ⟨d, hd, sameD_reflS d⟩
  unfold sameS
  rw [h]
  rfl
theorem own_eachR {ps qs : List (RV × Rt)} {P : Rt → Prop} (h : recs qs = recs ps) (hp : ∀ p ∈ ps, P p.2) : ∀ q ∈ qs, P q.2 := fun q hq => by
  have h1 : q.2 ∈ recs ps := h ▸ List.mem_map.2 ⟨q, hq, rfl⟩
  obtain ⟨p, hp1, e⟩ := List.mem_map.1 h1
  exact e ▸ hp p hp1
theorem setF_from (rs : List Rt) (n : List (List UInt8)) (k : Int) : (∀ d ∈ (setF rs n k).1, ∃ r ∈ rs, r.data = d) ∧ (setF rs n k).1.length ≤ rs.length := by
  have key : ∀ (L : List Rt) (x : List Dt × Int), (∀ d ∈ x.1, ∃ r ∈ rs, r.data = d) → (∀ r ∈ L, r ∈ rs) → (∀ d ∈ (L.foldl stepS x).1, ∃ r ∈ rs, r.data = d) ∧ (L.foldl stepS x).1.length ≤ x.1.length + L.length := by
    intro L
    induction L with
    | nil => intro x hx _; exact ⟨hx, Nat.le_refl _⟩
    | cons r L ih =>
      intro x hx hL
      have h := ih (stepS x r) (fun d hd => by
        unfold stepS at hd
        dsimp only at hd
        split at hd
        · exact hx d hd
        · rcases List.mem_append.1 hd with hd | hd
          · exact hx d hd
          · exact ⟨r, hL r (List.mem_cons_self ..), (List.mem_singleton.1 hd).symm⟩) fun r hr => hL r (List.mem_cons_of_mem _ hr)
      have h2 : (stepS x r).1.length ≤ x.1.length + 1 := by
        unfold stepS
        dsimp only
        split
        · omega
        · simp
      refine ⟨h.1, ?_⟩
      have h3 := h.2
      simp only [List.foldl_cons, List.length_cons] at h3 ⊢
      omega
  have h := key (rs.filter (selR n k)) ([], 0) (fun d hd => absurd hd (List.not_mem_nil)) fun r hr => (List.mem_filter.1 hr).1
  have h2 := List.length_filter_le (selR n k) rs
  have h3 := h.2
  simp only [List.length_nil, Nat.zero_add] at h3
  exact ⟨h.1, Nat.le_trans h3 h2⟩
theorem set_facts {ps : List (RV × Rt)} (hr : ∀ p ∈ ps, RIn p.2) (hl : ps.length ≤ 100) {qs : List (DV × Dt)} {n : List (List UInt8)} {k : Int} (h : dats qs = (setF (recs ps) n k).1) : (∀ q ∈ qs, Wide q.2) ∧ qs.length ≤ 100 := by
  have h0 := setF_from (recs ps) n k
  constructor
  · intro q hq
    obtain ⟨r, hm, e⟩ := h0.1 q.2 (by rw [← h]; exact List.mem_map.2 ⟨q, hq, rfl⟩)
    obtain ⟨p, hp, rfl⟩ := List.mem_map.1 hm
    rw [← e]
    exact (hr p hp).d
  · have h1 := h0.2
    rw [← h, length_dats, length_recs] at h1
    omega
theorem dats_at {qs1 qs2 : List (DV × Dt)} (h : dats qs1 = dats qs2) {k : Nat} (h1 : k < qs1.length) (h2 : k < qs2.length) : (qs1[k]).2 = (qs2[k]).2 := by
  have e : (dats qs1)[k]? = (dats qs2)[k]? := by rw [h]
  simpa [dats, h1, h2] using e

set_option maxRecDepth 20000 in
set_option maxHeartbeats 2000000 in
theorem rrsets_dark (w : World) (A : Option Addr) (c : Nat) (ps : List (RV × Rt)) (An : Option Addr) (N cn : Nat) (kind : Int) (Ao : Option Addr) (M co : Nat) (hp : RsAt w w.heap.size A ps) (hm : ps.length ≤ maxLen) (hl : lightL (recs ps) = false) :
    Calls Try.prog 3 #[.slice A ps.length c, .slice An N cn, .int .i64 kind, .slice Ao M co] w (TrueB w) := by
  have HL := Lib.hid (fun W (h : Below w.heap.size w W) => lightL_any W A c ps ((hp.below h).mono h.size) hm)
  rw [hl] at HL
  clear hp hl
  go_enter Try.func3, Try.ntmps3
  go_wp2_with fail
  refine (ranswers_any _).mono ?_
  rintro e w1 ⟨rfl, hb1⟩
  have HB1 := Lib.hid hb1
  clear hb1
  go_wp2_with fail
  refine (HL.out w1 HB1.out).mono ?_
  rintro e w2 ⟨rfl, hb2⟩
  have HB2 := Lib.hid (HB1.out.trans (hb2.mono HB1.out.size))
  clear hb2
  go_wp2_with fail
  refine (ranswers_any _).mono ?_
  rintro e w3 ⟨rfl, hb3⟩
  have HB3 := Lib.hid (HB2.out.trans (hb3.mono HB2.out.size))
  clear hb3
  go_wp2
  go_ret
  exact ⟨rfl, HB3.out⟩

set_option maxRecDepth 20000 in
set_option maxHeartbeats 2000000 in
theorem rrsets_long (w : World) (A : Option Addr) (c : Nat) (ps : List (RV × Rt)) (An : Option Addr) (N cn : Nat) (kind : Int) (Ao : Option Addr) (M co : Nat) (hp : RsAt w w.heap.size A ps) (hm : ps.length ≤ maxLen) (hl : lightL (recs ps) = true) (hN : 200 < N) (hN2 : N ≤ maxLen) :
    Calls Try.prog 3 #[.slice A ps.length c, .slice An N cn, .int .i64 kind, .slice Ao M co] w (TrueB w) := by
  have HL := Lib.hid (fun W (h : Below w.heap.size w W) => lightL_any W A c ps ((hp.below h).mono h.size) hm)
  rw [hl] at HL
  unfold maxLen at hN2
  have d1 : decide ((200 : Int) < (N : Int)) = true := by simp; omega
  clear hp hl
  go_enter Try.func3, Try.ntmps3
  go_wp2_with fail
  refine (ranswers_any _).mono ?_
  rintro e w1 ⟨rfl, hb1⟩
  have HB1 := Lib.hid hb1
  clear hb1
  go_wp2_with fail
  refine (HL.out w1 HB1.out).mono ?_
  rintro e w2 ⟨rfl, hb2⟩
  have HB2 := Lib.hid (HB1.out.trans (hb2.mono HB1.out.size))
  clear hb2
  go_wp2_with fail
  refine (ranswers_any _).mono ?_
  rintro e w3 ⟨rfl, hb3⟩
  have HB3 := Lib.hid (HB2.out.trans (hb3.mono HB2.out.size))
  clear hb3
  go_wp2
  go_ret
  exact ⟨rfl, HB3.out⟩

set_option maxRecDepth 20000 in
set_option maxHeartbeats 2000000 in
theorem rrsets_many (w : World) (A : Option Addr) (c : Nat) (ps : List (RV × Rt)) (An : Option Addr) (N cn : Nat) (kind : Int) (Ao : Option Addr) (M co : Nat) (hp : RsAt w w.heap.size A ps) (hm : ps.length ≤ maxLen) (hl : lightL (recs ps) = true) (hN : N ≤ 200) (hM : 60 < M) (hM2 : M ≤ maxLen) :
    Calls Try.prog 3 #[.slice A ps.length c, .slice An N cn, .int .i64 kind, .slice Ao M co] w (TrueB w) := by
  have HL := Lib.hid (fun W (h : Below w.heap.size w W) => lightL_any W A c ps ((hp.below h).mono h.size) hm)
  rw [hl] at HL
  unfold maxLen at hM2
  have d1 : decide ((200 : Int) < (N : Int)) = false := by simp; omega
  have d2 : decide ((60 : Int) < (M : Int)) = true := by simp; omega
  clear hp hl
  go_enter Try.func3, Try.ntmps3
  go_wp2_with fail
  refine (ranswers_any _).mono ?_
  rintro e w1 ⟨rfl, hb1⟩
  have HB1 := Lib.hid hb1
  clear hb1
  go_wp2_with fail
  refine (HL.out w1 HB1.out).mono ?_
  rintro e w2 ⟨rfl, hb2⟩
  have HB2 := Lib.hid (HB1.out.trans (hb2.mono HB1.out.size))
  clear hb2
  go_wp2_with fail
  refine (ranswers_any _).mono ?_
  rintro e w3 ⟨rfl, hb3⟩
  have HB3 := Lib.hid (HB2.out.trans (hb3.mono HB2.out.size))
  clear hb3
  go_wp2
  go_ret
  exact ⟨rfl, HB3.out⟩

def SetsRel5 (W : World) (N : Nat) (i : Value) (wr : World) : Prop := ∃ k : Nat, k ≤ N ∧ i = .int .i64 k ∧ Below W.heap.size W wr

set_option maxRecDepth 100000 in
set_option maxHeartbeats 8000000 in
theorem rrsets_light (w : World) (A : Option Addr) (c : Nat) (ps : List (RV × Rt)) (An : Option Addr) (n : List (List UInt8)) (cn : Nat) (kind : Int) (Ao : Option Addr) (os : List (DV × Dt)) (co : Nat) (hp : RsAt w w.heap.size A ps) (hr : ∀ p ∈ ps, RIn p.2)
    (hnm : Row w w.heap.size An (n.map sv)) (hwn : WideN n) (hos : DsAt w w.heap.size Ao os) (hwo : ∀ p ∈ os, Wide p.2) (hl : lightL (recs ps) = true) (hN : n.length ≤ 200) (hM : os.length ≤ 60) :
    Calls Try.prog 3 #[.slice A ps.length c, .slice An n.length cn, .int .i64 kind, .slice Ao os.length co] w (TrueB w) := by
  obtain ⟨s0, hs0, hx0, hx1, hx2⟩ := info_parts str_info
  have hle := lightL_each hl
  have hn : ps.length ≤ 60 := by have := hle.2; rwa [length_recs] at this
  have hlr : ∀ p ∈ ps, LightR p.2 := fun p h => hle.1 _ (List.mem_map.2 ⟨p, h, rfl⟩)
  have HL := Lib.hid (fun W (h : Below w.heap.size w W) => lightL_any W A c ps ((hp.below h).mono h.size) (by unfold maxLen; omega))
  rw [hl] at HL
  have HP := Lib.hid hp
  have HR := Lib.hid hr
  have HLR := Lib.hid hlr
  have HNM := Lib.hid hnm
  have HWN := Lib.hid hwn
  have HOS := Lib.hid hos
  have HWO := Lib.hid hwo
  have d1 : decide ((200 : Int) < (n.length : Int)) = false := by simp; omega
  have d2 : decide ((60 : Int) < (os.length : Int)) = false := by simp; omega
  clear hp hr hl hle hlr hnm hwn hos hwo
  go_enter Try.func3, Try.ntmps3
  go_wp2_with fail
  refine (ranswers_any _).mono ?_
  rintro e w1 ⟨rfl, hb1⟩
  have HB1 := Lib.hid hb1
  clear hb1
  go_wp2_with fail
  refine (HL.out w1 HB1.out).mono ?_
  rintro e w2 ⟨rfl, hb2⟩
  have HB2 := Lib.hid (HB1.out.trans (hb2.mono HB1.out.size))
  clear hb2 HB1 HL
  go_wp2_with fail
  refine (ownRRs_any w2 A c ps ((HP.out.below HB2.out).mono HB2.out.size) HLR.out (by omega)).mono ?_
  rintro e w3 ⟨A4, c4, qs1, rfl, hq1, hd1, hb⟩
  have HQ1 := Lib.hid hq1
  have HB3 := Lib.hid (HB2.out.trans (hb.mono HB2.out.size))
  have hnew := (Below.refl w3.heap.size w3).alloc (Nat.le_refl _) (.cells #[] 9)
  have HD3 := Lib.hid hd1
  have HB4 := Lib.hid (HB3.out.trans (hnew.mono HB3.out.size))
  have HNR := Lib.hid (HNM.out.below HB4.out)
  have hzw3 : w.heap.size ≤ w3.heap.size := HB3.out.size
  clear hq1 hd1 hb hnew HB2
  go_wp2_with (
    at_builtin
    refine wpList_append_row rfl (.tmp 35) (.tmp 36) _ rfl w3.heap.size 9 s0 _ 1 16 Try.underlying23 hs0 hx0 hx1 hx2 rfl (by omega) (.slice (some ⟨w3.heap.size, 0, none⟩) 0 0) 0 [] rfl
      (own_lit _ _ _) An n.length cn w.heap.size (n.map sv) rfl (by rw [List.length_map, Nat.mul_one]) HNR.out (sv_one n) (by unfold maxLen; omega) (by omega) (by simp) ?_
    intro v5 w5 hown5 hg5
    simp only [Nat.zero_add, List.nil_append] at hown5
    obtain ⟨A5, c5, rfl, _, _⟩ := own_form hown5
    have hb5 := own_below ((Below.refl w3.heap.size w3).alloc (Nat.le_refl _) (.cells #[] 9)) (Nat.le_refl _) (by simp) (own_lit w3 9 1) hg5
    have HN5 := Lib.hid (Row.of_own hown5)
    have HB5 := Lib.hid (HB3.out.trans (hb5.mono HB3.out.size))
    have HD5 := Lib.hid ((HD3.out.below hb5).mono hb5.size)
    clear hown5 hg5 hb5)
  have hh := set_any w5 A4 c4 qs1 A5 n c5 kind HD5.out HN5.out HWN.out (own_eachR (P := fun r => RIn r ∧ FewD r.data) HQ1.out fun p hp => ⟨HR.out p hp, (HLR.out p hp).few⟩) (by rw [← length_recs, HQ1.out, length_recs]; omega)
  rw [HQ1.out] at hh
  refine hh.mono ?_
  rintro e w6 ⟨A6, c6, ss1, rfl, hs1, hd1, hb⟩
  have HS1 := Lib.hid hs1
  have HE1 := Lib.hid hd1
  have HB6 := Lib.hid (HB5.out.trans (hb.mono HB5.out.size))
  clear hs1 hd1 hb hh HD5 HN5 HB5
  go_wp2_with fail
  refine (ref_set_any w6 A c ps An n cn kind ((HP.out.below HB6.out).mono HB6.out.size) ((HNM.out.below HB6.out).mono HB6.out.size) HWN.out HR.out (by omega)).mono ?_
  rintro e w7 ⟨A7, c7, ss2, rfl, hs2, hd2, hb⟩
  have HS2 := Lib.hid hs2
  have HE2 := Lib.hid hd2
  have HE1 := Lib.hid ((HE1.out.below hb).mono hb.size)
  have HB7 := Lib.hid (HB6.out.trans (hb.mono HB6.out.size))
  clear hs2 hd2 hb HB6
  have hf1 := set_facts HR.out (by omega) HS1.out
  have hf2 := set_facts HR.out (by omega) HS2.out
  have HF1 := Lib.hid hf1.1
  have HF2 := Lib.hid hf2.1
  have hl1 := hf1.2
  have hl2 := hf2.2
  have HDD := Lib.hid (show dats ss1 = dats ss2 by rw [HS1.out, HS2.out])
  have hlen : ss1.length = ss2.length := by rw [← length_dats, ← length_dats, HDD.out]
  have b1 : ((ss1.length : Int) != (ss2.length : Int)) = false := by rw [hlen]; simp
  have b2 : ((setF (recs ps) n kind).2 != (setF (recs ps) n kind).2) = false := by simp
  have HLN := Lib.hid hlen
  clear hf1 hf2 hlen HS1 HS2 HNR HQ1 HD3 HB4
  go_wp2
  go_loopw [13] (SetsRel5 w7 ss1.length) (fun i _ => ss1.length - (intOf i).toNat)
  case atStart => exact ⟨0, Nat.zero_le _, rfl, Below.refl _ _⟩
  case round =>
    obtain ⟨k, hk, rfl, hb⟩ := hrel
    have HBB := Lib.hid hb
    have hzz := hb.size
    clear hb
    by_cases hlt : k < ss1.length
    · have hlt2 : k < ss2.length := by have := HLN.out; omega
      obtain ⟨b1', o1, rfl, hb1H, hd1, q0, q1, q2, q3, q4⟩ := HE1.out.at_ hlt
      obtain ⟨b2', o2, rfl, hb2H, hd2, r0, r1, r2, r3, r4⟩ := HE2.out.at_ hlt2
      have hw1 := HF1.out _ (List.getElem_mem hlt)
      have hw2 := HF2.out _ (List.getElem_mem hlt2)
      have hsame := dats_at HDD.out hlt hlt2
      revert hd1 q0 q1 q2 q3 q4 hd2 r0 r1 r2 r3 r4 hw1 hw2 hsame
      generalize ss1[k] = p1
      generalize ss2[k] = p2
      obtain ⟨y1, d⟩ := p1
      obtain ⟨y2, d'⟩ := p2
      intro hd1 q0 q1 q2 q3 q4 hd2 r0 r1 r2 r3 r4 hw1 hw2 hsame
      dsimp only at *
      subst hsame
      have Q0 := Lib.hid q0
      have S0 := Lib.hid r0
      have Q1 := Lib.hid q1
      have S1 := Lib.hid r1
      have Q2 := Lib.hid q2
      have S2 := Lib.hid r2
      have Q3 := Lib.hid q3
      have S3 := Lib.hid r3
      have Q4 := Lib.hid q4
      have S4 := Lib.hid r4
      have HDA := Lib.hid hd1
      have HDB := Lib.hid hd2
      have HWA := Lib.hid hw1
      clear hd1 hd2 hw1 hw2 q0 q1 q2 q3 q4 r0 r1 r2 r3 r4
      have hk0 : (0 : Int) ≤ (k : Int) := by omega
      have hk1 : (k : Int) < (ss1.length : Int) := by omega
      have hk2 : (k : Int) < (ss2.length : Int) := by omega
      have HBD := Lib.hid HBB.out.drew
      go_wp2
      go_region_held3 (fun W => (W.cell? ⟨b1', o1 + k * 5, none⟩ = some (.slice y1.Ab d.bytes.length y1.cb) ∧ W.cell? ⟨b1', o1 + k * 5 + 1, none⟩ = some (.slice y1.Ah d.host.length y1.ch) ∧ W.cell? ⟨b1', o1 + k * 5 + 2, none⟩ = some (.slice y1.Am d.mail.length y1.cm) ∧ W.cell? ⟨b1', o1 + k * 5 + 3, none⟩ = some (.slice y1.An d.nums.length y1.cn) ∧ W.cell? ⟨b1', o1 + k * 5 + 4, none⟩ = some (.slice y1.At d.texts.length y1.ct)) ∧ (W.cell? ⟨b2', o2 + k * 5, none⟩ = some (.slice y2.Ab d.bytes.length y2.cb) ∧ W.cell? ⟨b2', o2 + k * 5 + 1, none⟩ = some (.slice y2.Ah d.host.length y2.ch) ∧ W.cell? ⟨b2', o2 + k * 5 + 2, none⟩ = some (.slice y2.Am d.mail.length y2.cm) ∧ W.cell? ⟨b2', o2 + k * 5 + 3, none⟩ = some (.slice y2.An d.nums.length y2.cn) ∧ W.cell? ⟨b2', o2 + k * 5 + 4, none⟩ = some (.slice y2.At d.texts.length y2.ct)))
        (exact ⟨⟨(HBD.out.cell (p := ⟨b1', o1 + k * 5, none⟩) hb1H).trans Q0.out, (HBD.out.cell (p := ⟨b1', o1 + k * 5 + 1, none⟩) hb1H).trans Q1.out, (HBD.out.cell (p := ⟨b1', o1 + k * 5 + 2, none⟩) hb1H).trans Q2.out, (HBD.out.cell (p := ⟨b1', o1 + k * 5 + 3, none⟩) hb1H).trans Q3.out, (HBD.out.cell (p := ⟨b1', o1 + k * 5 + 4, none⟩) hb1H).trans Q4.out⟩, ⟨(HBD.out.cell (p := ⟨b2', o2 + k * 5, none⟩) hb2H).trans S0.out, (HBD.out.cell (p := ⟨b2', o2 + k * 5 + 1, none⟩) hb2H).trans S1.out, (HBD.out.cell (p := ⟨b2', o2 + k * 5 + 2, none⟩) hb2H).trans S2.out, (HBD.out.cell (p := ⟨b2', o2 + k * 5 + 3, none⟩) hb2H).trans S3.out, (HBD.out.cell (p := ⟨b2', o2 + k * 5 + 4, none⟩) hb2H).trans S4.out⟩⟩)
        ((first
          | (go_at_call 12
             have hh := dexact_wide y1 y2 d d _ ((HDA.out.below HBD.out).mono HBD.out.size) ((HDB.out.below HBD.out).mono HBD.out.size) HWA.out HWA.out HWA.out.h.1 HWA.out.m.1
             rw [exactW_self] at hh
             refine hh.mono ?_
             rintro e wn ⟨rfl, hb⟩
             have HBD := Lib.hid (HBD.out.trans (hb.mono HBD.out.size))
             clear hb hh)))
      go_wp2
      exact ⟨⟨k + 1, by omega, by go_num, HBD.out⟩, by simp [intOf]; omega⟩
    · obtain rfl : k = ss1.length := by omega
      have HE1W := Lib.hid ((HE1.out.below HBB.out).mono HBB.out.size)
      have HE2W := Lib.hid ((HE2.out.below HBB.out).mono HBB.out.size)
      have HBW := Lib.hid (HB7.out.trans (HBB.out.mono HB7.out.size))
      have HOW := Lib.hid ((HOS.out.below HBW.out).mono HBW.out.size)
      have HC1 := Lib.hid (fun W (h : Below wr.heap.size wr W) => sameSet_any W A6 c6 ss1 Ao co os ((HE1W.out.below h).mono h.size) ((HOW.out.below h).mono h.size) HF1.out HWO.out (by unfold maxLen; omega) (by unfold maxLen; omega))
      have HC2 := Lib.hid (fun W (h : Below wr.heap.size wr W) => ref_sameSet_any W A7 c7 ss2 Ao co os ((HE2W.out.below h).mono h.size) ((HOW.out.below h).mono h.size) HF2.out HWO.out (by unfold maxLen; omega) (by unfold maxLen; omega))
      have HC3 := Lib.hid (fun W (h : Below wr.heap.size wr W) => sameSet_any W Ao co os A6 c6 ss1 ((HOW.out.below h).mono h.size) ((HE1W.out.below h).mono h.size) HWO.out HF1.out (by unfold maxLen; omega) (by unfold maxLen; omega))
      have HC4 := Lib.hid (fun W (h : Below wr.heap.size wr W) => sameSet_any W A6 c6 ss1 A6 c6 ss1 ((HE1W.out.below h).mono h.size) ((HE1W.out.below h).mono h.size) HF1.out HF1.out (by unfold maxLen; omega) (by unfold maxLen; omega))
      rw [← HDD.out] at HC2
      rw [sameS_turn] at HC3
      rw [sameS_refl] at HC4
      generalize sameS (dats ss1) (dats os) = B at HC1 HC2 HC3
      have t1 : (B == B) = true := by simp
      clear HE1 HE2 HE1W HE2W HOW HDD HLN
      go_wp2_with fail
      refine (HC1.out _ (Below.refl _ _)).mono ?_
      rintro e u1 ⟨rfl, hb⟩
      have HU1 := Lib.hid hb
      clear hb
      go_wp2_with fail
      refine (HC2.out _ HU1.out).mono ?_
      rintro e u2 ⟨rfl, hb⟩
      have HU2 := Lib.hid (HU1.out.trans (hb.mono HU1.out.size))
      clear hb
      go_wp2_with fail
      refine (HC3.out _ HU2.out).mono ?_
      rintro e u3 ⟨rfl, hb⟩
      have HU3 := Lib.hid (HU2.out.trans (hb.mono HU2.out.size))
      clear hb
      go_wp2_with fail
      refine (HC1.out _ HU3.out).mono ?_
      rintro e u4 ⟨rfl, hb⟩
      have HU4 := Lib.hid (HU3.out.trans (hb.mono HU3.out.size))
      clear hb
      go_wp2_with fail
      refine (HC4.out _ HU4.out).mono ?_
      rintro e u5 ⟨rfl, hb⟩
      have HU5 := Lib.hid (HU4.out.trans (hb.mono HU4.out.size))
      clear hb
      go_wp2
      go_ret
      exact ⟨by simp, HBW.out.trans (HU5.out.mono HBW.out.size)⟩

theorem rrsets_any (w : World) (A : Option Addr) (c : Nat) (ps : List (RV × Rt)) (An : Option Addr) (n : List (List UInt8)) (cn : Nat) (kind : Int) (Ao : Option Addr) (os : List (DV × Dt)) (co : Nat) (hp : RsAt w w.heap.size A ps) (hr : ∀ p ∈ ps, RIn p.2) (hm : ps.length ≤ maxLen)
    (hnm : NameIn w An n) (hos : DsAt w w.heap.size Ao os) (hwo : ∀ p ∈ os, Wide p.2) (hM : os.length ≤ maxLen) :
    Calls Try.prog 3 #[.slice A ps.length c, .slice An n.length cn, .int .i64 kind, .slice Ao os.length co] w (TrueB w) := by
  have hn2 : n.length ≤ maxLen := by have := hnm.2.1; unfold maxLen; omega
  cases hl : lightL (recs ps) with
  | false => exact rrsets_dark w A c ps An n.length cn kind Ao os.length co hp hm hl
  | true =>
    by_cases hN : n.length ≤ 200
    · by_cases hM2 : os.length ≤ 60
      · exact rrsets_light w A c ps An n cn kind Ao os co hp hr hnm.1 ⟨hn2, hnm.2.2⟩ hos hwo hl hN hM2
      · exact rrsets_many w A c ps An n.length cn kind Ao os.length co hp hm hl hN (by omega) hM
    · exact rrsets_long w A c ps An n.length cn kind Ao os.length co hp hm hl (by omega) hn2

end Go.Proofs.Ythppgofpbpjglaa

namespace Go.Proofs.Ythppgofpbpjglaa
open Go.ChangeShapes Go.WideShapes Go.ChangeAt Go.RowKit

set_option maxRecDepth 100000 in
theorem rrsets_lifted (os : Os) (started : os.Started) (H : Type) (enc : TypeId × Value → H) :
    ReturnsInHanded {} Try.checked os 3 .any (Rows.rrSetsSpec.pre6 enc Try.prog Try.f3 Rows.rrSetsRow.domain false) (Rows.rrSetsSpec.post enc Try.prog Try.f3 false true false false) := by
  refine returnsInHanded_of_change_sized (C := Try.checked) Try.own started (by kernel_rfl) Try.func3
    (ChangeSpec.witness6 (enc := enc) (C := Try.checked) false ⟨#[], #[.slice none 0 0, .slice none 0 0, .int .i64 0, .slice none 0 0], []⟩ 8 (by kernel_rfl) (by kernel_rfl) (by kernel_rfl) (by kernel_rfl)) ?_
  intro W base args ds gs before hval0 hW _ hsz0 _
  have hsz : (DataW.weightsEach Try.prog (Try.f3.params.toList ++ Rows.rrSetsSpec.plain.varTypes Try.prog) (ds ++ gs)).all (· ≤ reachBytes) = true := hsz0
  clear hsz0
  have hval : ∀ (j : Nat) t v, Try.f3.params[j]? = some t → args[j]? = some v → Value.okWide Try.prog W .any base t v := hval0
  have hW' := hW
  obtain ⟨p, q, hA0, hV, rfl, _, _⟩ := hW
  have hA : DataW.TrodAll enc Try.prog W 0 (fun _ => true) true Try.f3.params.toList args.toList ds p := hA0
  rw [Try.params3] at hA hval hsz
  obtain ⟨v0, v1, v2, v3, d0, d1, d2, d3, p0, p1, p2, p3, rfl, rfl, rfl, h0, h1, h2, h3⟩ := trodAll_four hA
  obtain ⟨rfl, rfl⟩ := trodVars_none hV
  obtain ⟨A0, c0, ps0, rfl, hp0, hr0, hc0, hm0⟩ := open_rrs Try.underlying22 (hval 0 22 v0 rfl rfl) h0 (fun x hx => hW'.lt x (by simp [hx]))
  obtain ⟨A1, c1, n1, rfl, hn1, hc1⟩ := open_row_str str_cells Try.underlying23 (hval 1 23 v1 rfl rfl) h1 (fun x hx => hW'.lt x (by simp [hx])) hsz (j := 1) rfl rfl
  obtain ⟨n2, rfl, rfl, rfl, w2⟩ := open_int Try.underlying3 (hval 2 3 v2 rfl rfl) h2
  obtain ⟨A3, c3, ps3, rfl, hp3, hr3, hc3, hm3⟩ := open_dats Try.underlying24 (hval 3 24 v3 rfl rfl) h3 (fun x hx => hW'.lt x (by simp [hx]))
  have key : Calls Try.prog 3 #[.slice A0 ps0.length c0, .slice A1 n1.length c1, .int .i64 n2, .slice A3 ps3.length c3] W (TrueB W) := by
    exact rrsets_any W A0 c0 ps0 A1 n1 c1 n2 A3 ps3 c3 hp0 hr0 (Nat.le_trans hc0 hm0) hn1 hp3 (fun p hp => (hr3 p hp).wide) (Nat.le_trans hc3 hm3)
  refine key.mono fun e W' ⟨he, hb⟩ => ?_
  subst he
  exact ⟨_, rfl, law_post (P := Try.prog) (tb := 4) Try.laidOut (by kernel_rfl) (by kernel_rfl) (by kernel_rfl) Try.underlying4 rfl hW' rfl rfl rfl hb⟩

theorem rrsets_holds : Rows.RrSetsSaid :=
  OpenClaim.holds_of_wide 3 Try.f3 rfl rfl rfl rfl rfl rfl rfl ⟨rfl, rfl, rfl, rfl, rfl⟩ rfl rfl rfl rfl rfl (by kernel_rfl) Try.func3 (by kernel_rfl)
    (of_decide_eq_true (by kernel_rfl)) (by unfold Func.isWrapper; first | (rw [if_pos (by decide +kernel)]; kernel_rfl) | (rw [if_neg (by decide +kernel)]; exact ⟨rfl, rfl⟩))
    (fun os started H enc _ => rrsets_lifted os started H enc)

end Go.Proofs.Ythppgofpbpjglaa
