/-
  The contracts of the document's SameSet and Set.
-/
import Derived.Test.YtjjmllbkfbdcnaaRSetRef
namespace Go.Proofs.Ytjjmllbkfbdcnaa
open Go.RowKit

def AllRel (w : World) (ps qs : List (DV × Dt)) (i : Value) (wr : World) : Prop :=
  ∃ k : Nat, k ≤ ps.length ∧ i = .int .i64 k ∧ (dats (ps.take k)).all (fun e => hasD (dats qs) e) = true ∧ Below w.heap.size w wr
theorem all_snocD {ps : List (DV × Dt)} {k : Nat} (P : Dt → Bool) (hk : k < ps.length) (h : (dats (ps.take k)).all P = true) :
    (P (ps[k]).2 = false → (dats ps).all P = false) ∧ (P (ps[k]).2 = true → (dats (ps.take (k + 1))).all P = true) := by
  constructor
  · intro hp
    rw [List.all_eq_false]
    exact ⟨(ps[k]).2, List.mem_map.2 ⟨ps[k], List.getElem_mem hk, rfl⟩, by rw [hp]; decide⟩
  · intro hp
    rw [List.take_succ_eq_append_getElem hk, dats_append, List.all_append, h]
    simpa [dats] using hp

set_option maxRecDepth 20000 in
set_option maxHeartbeats 4000000 in
theorem ref_sameSet_any (w : World) (A : Option Addr) (c : Nat) (ps : List (DV × Dt)) (B : Option Addr) (cb : Nat) (qs : List (DV × Dt)) (hp : DsAt w w.heap.size A ps) (hq : DsAt w w.heap.size B qs) (hc : ∀ p ∈ ps, Wide p.2) (hd : ∀ p ∈ qs, Wide p.2) (hl : ps.length ≤ maxLen) (hl' : qs.length ≤ maxLen) :
    Calls Try.prog 37 #[.slice A ps.length c, .slice B qs.length cb] w (Gave w (.bool (sameS (dats ps) (dats qs)))) := by
  have HI1 := Lib.hid (fun W (x : DV) (a : Dt) (h : Below w.heap.size w W) (hx : DataAt W W.heap.size x a) (la : Wide a) => in_any W x a B cb qs hx ((hq.below h).mono h.size) la hd hl')
  have HI2 := Lib.hid (fun W (x : DV) (a : Dt) (h : Below w.heap.size w W) (hx : DataAt W W.heap.size x a) (la : Wide a) => in_any W x a A c ps hx ((hp.below h).mono h.size) la hc hl)
  have HP := Lib.hid hp
  have HQ := Lib.hid hq
  have HC := Lib.hid hc
  have HD := Lib.hid hd
  clear hp hq hc hd
  unfold maxLen at hl hl'
  go_enter Try.func37, Try.ntmps37
  go_wp2
  go_loopw [5] (AllRel w ps qs) (fun i _ => ps.length - (intOf i).toNat)
  case atStart => exact ⟨0, Nat.zero_le _, rfl, rfl, Below.refl _ _⟩
  case round =>
    obtain ⟨k, hk, rfl, hn, hb⟩ := hrel
    have HN := Lib.hid hn
    have HB := Lib.hid hb
    have hz := hb.size
    clear hn hb
    by_cases hlt : k < ps.length
    · obtain ⟨b, off, rfl, hbH, hd, q0, q1, q2, q3, q4⟩ := (HP.out.below HB.out).at_ hlt
      have hwd := HC.out _ (List.getElem_mem hlt)
      have HI := Lib.hid (all_snocD (fun e => hasD (dats qs) e) hlt HN.out)
      revert hd q0 q1 q2 q3 q4 hwd HI
      generalize ps[k] = p
      obtain ⟨y, d⟩ := p
      intro hd q0 q1 q2 q3 q4 hwd HI
      dsimp only at *
      have HCL := Lib.hid (HI1.out wr y d HB.out (hd.mono hz) hwd)
      clear hd hwd
      go_wp2_with fail
      refine HCL.out.mono ?_
      rintro e w1 ⟨rfl, hb1⟩
      have HB1 := Lib.hid (HB.out.trans (hb1.mono hz))
      clear hb1
      cases hv : hasD (dats qs) d with
      | false =>
        have HT := Lib.hid (show sameS (dats ps) (dats qs) = false by unfold sameS withinD; rw [HI.out.1 hv]; rfl)
        clear HI
        go_wp2
        go_ret
        exact ⟨ret_bool HT.out.symm, HB1.out⟩
      | true =>
        have HT := Lib.hid (HI.out.2 hv)
        clear HI
        go_wp2
        exact ⟨⟨k + 1, by omega, by go_num, HT.out, HB1.out⟩, by simp [intOf]; omega⟩
    · obtain rfl : k = ps.length := by omega
      have HF := Lib.hid (show withinD (dats ps) (dats qs) = true by have h := HN.out; rw [List.take_length] at h; exact h)
      have HBQ := Lib.hid HB.out
      clear HN HB hz
      go_wp2
      go_loopw [6] (AllRel w qs ps) (fun i _ => qs.length - (intOf i).toNat)
      case atStart => exact ⟨0, Nat.zero_le _, rfl, rfl, HBQ.out⟩
      case round =>
        obtain ⟨k, hk2, rfl, hn, hb⟩ := hrel
        have HN := Lib.hid hn
        have HB := Lib.hid hb
        have hz := hb.size
        clear hn hb
        by_cases hlt2 : k < qs.length
        · obtain ⟨b, off, rfl, hbH, hd, q0, q1, q2, q3, q4⟩ := (HQ.out.below HB.out).at_ hlt2
          have hwd := HD.out _ (List.getElem_mem hlt2)
          have HI := Lib.hid (all_snocD (fun e => hasD (dats ps) e) hlt2 HN.out)
          revert hd q0 q1 q2 q3 q4 hwd HI
          generalize qs[k] = p
          obtain ⟨y, d⟩ := p
          intro hd q0 q1 q2 q3 q4 hwd HI
          dsimp only at *
          have HCL := Lib.hid (HI2.out wr y d HB.out (hd.mono hz) hwd)
          clear hd hwd
          go_wp2_with fail
          refine HCL.out.mono ?_
          rintro e w1 ⟨rfl, hb1⟩
          have HB1 := Lib.hid (HB.out.trans (hb1.mono hz))
          clear hb1
          cases hv : hasD (dats ps) d with
          | false =>
            have HT := Lib.hid (show sameS (dats ps) (dats qs) = false by unfold sameS; rw [show withinD (dats qs) (dats ps) = false from HI.out.1 hv]; simp)
            clear HI
            go_wp2
            go_ret
            exact ⟨ret_bool HT.out.symm, HB1.out⟩
          | true =>
            have HT := Lib.hid (HI.out.2 hv)
            clear HI
            go_wp2
            exact ⟨⟨k + 1, by omega, by go_num, HT.out, HB1.out⟩, by simp [intOf]; omega⟩
        · obtain rfl : k = qs.length := by omega
          have HT := Lib.hid (show sameS (dats ps) (dats qs) = true by
            have h := HN.out
            rw [List.take_length] at h
            unfold sameS
            rw [HF.out, show withinD (dats qs) (dats ps) = true from h]
            rfl)
          go_wp2
          go_ret
          exact ⟨ret_bool HT.out.symm, HB.out⟩

/-- What the document's Set has made ahead of a round. -/
structure SetAtR (w0 : World) (v : Value) (qs : List (DV × Dt)) (w : World) : Prop where
  row : w.ownsRow w0.heap.size 26 5 v qs.length (qs.flatMap cellsD)
  each : ∀ q ∈ qs, DataAt w0 w0.heap.size q.1 q.2
  below : Below w0.heap.size w0 w
  size : w0.heap.size ≤ w.heap.size
theorem SetAtR.step {w0 w w' : World} {v : Value} {qs : List (DV × Dt)} (h : SetAtR w0 v qs w) (hb : Below w.heap.size w w') : SetAtR w0 v qs w' :=
  ⟨own_keep h.row fun j hj => hb.block j (h.row.lt j hj).2, h.each, h.below.trans (hb.mono h.size), Nat.le_trans h.size hb.size⟩
theorem SetAtR.reads {w0 w : World} {A : Option Addr} {c : Nat} {qs : List (DV × Dt)} (h : SetAtR w0 (.slice A qs.length c) qs w) : DsAt w w.heap.size A qs :=
  ⟨Row.of_own h.row, fun q hq => ((h.each q hq).below h.below).mono h.size⟩
theorem SetAtR.snoc {w0 w w' : World} {v v' : Value} {qs : List (DV × Dt)} (h : SetAtR w0 v qs w) {y : DV} {d : Dt} (hy : DataAt w0 w0.heap.size y d) (ho : w'.ownsRow w0.heap.size 26 5 v' (qs.length + 1) (qs.flatMap cellsD ++ cellsD (y, d)))
    (hg : w.grownBy w' v.ownBlock) : SetAtR w0 v' (qs ++ [(y, d)]) w' := by
  refine ⟨by rw [List.length_append, List.flatMap_append]; simpa using ho, fun q hq => ?_, own_below h.below (Nat.le_refl _) h.size h.row hg, Nat.le_trans h.size hg.size⟩
  rcases List.mem_append.1 hq with hq | hq
  · exact h.each q hq
  · rw [List.mem_singleton.1 hq]
    exact hy
/-- Has one been seen? -/
def seenB (s : List Dt × Int) : Bool := !s.1.isEmpty
def SetRelR (w : World) (ps : List (RV × Rt)) (n : List (List UInt8)) (k : Int) (v t y i : Value) (wr : World) : Prop :=
  ∃ (j : Nat) (qs : List (DV × Dt)), j ≤ ps.length ∧ i = .int .i64 j ∧ t = .int .i64 (setF (recs (ps.take j)) n k).2 ∧ y = .bool (seenB (setF (recs (ps.take j)) n k)) ∧ dats qs = (setF (recs (ps.take j)) n k).1 ∧ qs.length ≤ j ∧ (∀ q ∈ qs, Wide q.2) ∧ SetAtR w v qs wr

set_option maxRecDepth 20000 in
set_option maxHeartbeats 8000000 in
theorem ref_set_any (w : World) (A : Option Addr) (c : Nat) (ps : List (RV × Rt)) (An : Option Addr) (n : List (List UInt8)) (cn : Nat) (kind : Int) (hp : RsAt w w.heap.size A ps) (hn : Row w w.heap.size An (n.map sv)) (hw : WideN n)
    (hr : ∀ p ∈ ps, RIn p.2) (hl : ps.length ≤ 100) :
    Calls Try.prog 34 #[.slice A ps.length c, .slice An n.length cn, .int .i64 kind] w (SetOut w (setF (recs ps) n kind)) := by
  obtain ⟨i0, hi0, hz0, hz1, hz2⟩ := info_parts data_info
  have HP := Lib.hid hp
  have HN := Lib.hid hn
  have HW := Lib.hid hw
  have HR := Lib.hid hr
  clear hp hn hw hr
  go_enter Try.func34, Try.ntmps34
  go_wp2
  go_loopw [8, 9, 10, 11] (SetRelR w ps n kind) (fun _ _ _ i _ => ps.length - (intOf i).toNat)
  case atStart => exact ⟨0, [], Nat.zero_le _, rfl, rfl, rfl, rfl, Nat.le_refl _, fun _ h => absurd h (List.not_mem_nil), World.ownsRow_nil _ _ _ _, fun _ h => absurd h (List.not_mem_nil), Below.refl _ _, Nat.le_refl _⟩
  case round =>
    obtain ⟨j, qs, hj, rfl, rfl, rfl, hq, hqj, hqw, hs⟩ := hrel
    have HS := Lib.hid hs
    have HQ := Lib.hid hq
    have HQW := Lib.hid hqw
    obtain ⟨A1, c1, rfl, _, _⟩ := own_form hs.row
    clear hs hq hqw
    by_cases hlt : j < ps.length
    · obtain ⟨b, off, rfl, hbH, hra, q0, q1, q2, q3, q4, q5, q6, q7, q8⟩ := HP.out.at_ hlt
      have hri := HR.out _ (List.getElem_mem hlt)
      have HF := Lib.hid (setF_take hlt n kind)
      revert hra q0 q1 q2 q3 q4 q5 q6 q7 q8 hri HF
      generalize ps[j] = p
      obtain ⟨x, r⟩ := p
      intro hra q0 q1 q2 q3 q4 q5 q6 q7 q8 hri HF
      dsimp only at *
      have HRA := Lib.hid hra
      have HRI := Lib.hid hri
      have k0' := (HS.out.below.cell (p := ⟨b, off + j * 9, none⟩) hbH).trans q0
      have k1' := (HS.out.below.cell (p := ⟨b, off + j * 9 + 1, none⟩) hbH).trans q1
      have k2' := (HS.out.below.cell (p := ⟨b, off + j * 9 + 2, none⟩) hbH).trans q2
      have k3' := (HS.out.below.cell (p := ⟨b, off + j * 9 + 3, none⟩) hbH).trans q3
      have k4' := (HS.out.below.cell (p := ⟨b, off + j * 9 + 4, none⟩) hbH).trans q4
      have k5' := (HS.out.below.cell (p := ⟨b, off + j * 9 + 5, none⟩) hbH).trans q5
      have k6' := (HS.out.below.cell (p := ⟨b, off + j * 9 + 6, none⟩) hbH).trans q6
      have k7' := (HS.out.below.cell (p := ⟨b, off + j * 9 + 7, none⟩) hbH).trans q7
      have k8' := (HS.out.below.cell (p := ⟨b, off + j * 9 + 8, none⟩) hbH).trans q8
      clear hra hri q0 q1 q2 q3 q4 q5 q6 q7 q8
      generalize hS0 : setF (recs (ps.take j)) n kind = S0 at *
      obtain ⟨sl, st⟩ := S0
      dsimp only at HQ
      clear hS0
      have hnew := (Below.refl wr.heap.size wr).alloc (Nat.le_refl _) (.cells #[.slice x.A r.name.length x.c, .int .i64 r.kind, .int .i64 r.cls, .int .i64 r.ttl, .slice x.d.Ab r.data.bytes.length x.d.cb, .slice x.d.Ah r.data.host.length x.d.ch, .slice x.d.Am r.data.mail.length x.d.cm, .slice x.d.An r.data.nums.length x.d.cn, .slice x.d.At r.data.texts.length x.d.ct] 51)
      have HSA := Lib.hid (HS.out.step hnew)
      have HWP := Lib.hid (heap_alloc_new wr (.cells #[.slice x.A r.name.length x.c, .int .i64 r.kind, .int .i64 r.cls, .int .i64 r.ttl, .slice x.d.Ab r.data.bytes.length x.d.cb, .slice x.d.Ah r.data.host.length x.d.ch, .slice x.d.Am r.data.mail.length x.d.cm, .slice x.d.An r.data.nums.length x.d.cn, .slice x.d.At r.data.texts.length x.d.ct] 51))
      by_cases k1 : r.cls = 1
      case neg =>
        have b1 : (r.cls == 1) = false := by rw [beq_eq_false_iff_ne]; exact k1
        have HE := Lib.hid (show setF (recs (ps.take (j + 1))) n kind = (sl, st) by rw [HF.out, if_neg (by simp [selR, k1])])
        clear HF
        go_wp2
        refine ⟨⟨j + 1, qs, by omega, by go_num, by rw [HE.out], by rw [HE.out], by rw [HE.out]; exact HQ.out, by omega, HQW.out, HSA.out⟩, by simp [intOf]; omega⟩
      have b1 : (r.cls == 1) = true := by rw [k1]; rfl
      have K1 := Lib.hid k1
      clear k1
      by_cases k2 : r.kind = kind
      case neg =>
        have b2 : (r.kind == kind) = false := by rw [beq_eq_false_iff_ne]; exact k2
        have HE := Lib.hid (show setF (recs (ps.take (j + 1))) n kind = (sl, st) by rw [HF.out, if_neg (by simp [selR, k2])])
        clear HF
        go_wp2
        refine ⟨⟨j + 1, qs, by omega, by go_num, by rw [HE.out], by rw [HE.out], by rw [HE.out]; exact HQ.out, by omega, HQW.out, HSA.out⟩, by simp [intOf]; omega⟩
      have b2 : (r.kind == kind) = true := by rw [k2]; simp
      have K2 := Lib.hid k2
      clear k2
      have HEQ := Lib.hid (ref_equal_wide x.A An r.name.length n.length x.c cn w.heap.size r.name n (wr.alloc (.cells #[.slice x.A r.name.length x.c, .int .i64 r.kind, .int .i64 r.cls, .int .i64 r.ttl, .slice x.d.Ab r.data.bytes.length x.d.cb, .slice x.d.Ah r.data.host.length x.d.ch, .slice x.d.Am r.data.mail.length x.d.cm, .slice x.d.An r.data.nums.length x.d.cn, .slice x.d.At r.data.texts.length x.d.ct] 51)) rfl rfl (HRA.out.below HSA.out.below).n (HN.out.below HSA.out.below) HSA.out.size HRI.out.n HW.out)
      clear hnew
      go_wp2_with fail
      refine HEQ.out.mono ?_
      rintro e w3 ⟨rfl, hb3⟩
      have HS3 := Lib.hid (HSA.out.step hb3)
      have HW3 := Lib.hid ((hb3.block wr.heap.size (by simp)).trans HWP.out)
      have hz3 : wr.heap.size < w3.heap.size := by have h := hb3.size; simp at h; omega
      clear hb3 HSA HWP HEQ k0' k1' k2' k3' k4' k5' k6' k7' k8'
      cases k3 : eqN r.name n with
      | false =>
        have HE := Lib.hid (show setF (recs (ps.take (j + 1))) n kind = (sl, st) by rw [HF.out, if_neg (by simp [selR, k3])])
        clear HF
        go_wp2
        refine ⟨⟨j + 1, qs, by omega, by go_num, by rw [HE.out], by rw [HE.out], by rw [HE.out]; exact HQ.out, by omega, HQW.out, HS3.out⟩, by simp [intOf]; omega⟩
      | true =>
        have HE := Lib.hid (show setF (recs (ps.take (j + 1))) n kind = stepS (sl, st) r by rw [HF.out, if_pos (by simp [selR, K1.out, K2.out, k3])])
        clear HF
        have p0 : w3.cell? ⟨wr.heap.size, 0, none⟩ = some (.slice x.A r.name.length x.c) := Whole.cell (L := [.slice x.A r.name.length x.c, .int .i64 r.kind, .int .i64 r.cls, .int .i64 r.ttl, .slice x.d.Ab r.data.bytes.length x.d.cb, .slice x.d.Ah r.data.host.length x.d.ch, .slice x.d.Am r.data.mail.length x.d.cm, .slice x.d.An r.data.nums.length x.d.cn, .slice x.d.At r.data.texts.length x.d.ct]) HW3.out 0
        have p1 : w3.cell? ⟨wr.heap.size, 1, none⟩ = some (.int .i64 r.kind) := Whole.cell (L := [.slice x.A r.name.length x.c, .int .i64 r.kind, .int .i64 r.cls, .int .i64 r.ttl, .slice x.d.Ab r.data.bytes.length x.d.cb, .slice x.d.Ah r.data.host.length x.d.ch, .slice x.d.Am r.data.mail.length x.d.cm, .slice x.d.An r.data.nums.length x.d.cn, .slice x.d.At r.data.texts.length x.d.ct]) HW3.out 1
        have p2 : w3.cell? ⟨wr.heap.size, 2, none⟩ = some (.int .i64 r.cls) := Whole.cell (L := [.slice x.A r.name.length x.c, .int .i64 r.kind, .int .i64 r.cls, .int .i64 r.ttl, .slice x.d.Ab r.data.bytes.length x.d.cb, .slice x.d.Ah r.data.host.length x.d.ch, .slice x.d.Am r.data.mail.length x.d.cm, .slice x.d.An r.data.nums.length x.d.cn, .slice x.d.At r.data.texts.length x.d.ct]) HW3.out 2
        have p3 : w3.cell? ⟨wr.heap.size, 3, none⟩ = some (.int .i64 r.ttl) := Whole.cell (L := [.slice x.A r.name.length x.c, .int .i64 r.kind, .int .i64 r.cls, .int .i64 r.ttl, .slice x.d.Ab r.data.bytes.length x.d.cb, .slice x.d.Ah r.data.host.length x.d.ch, .slice x.d.Am r.data.mail.length x.d.cm, .slice x.d.An r.data.nums.length x.d.cn, .slice x.d.At r.data.texts.length x.d.ct]) HW3.out 3
        have p4 : w3.cell? ⟨wr.heap.size, 4, none⟩ = some (.slice x.d.Ab r.data.bytes.length x.d.cb) := Whole.cell (L := [.slice x.A r.name.length x.c, .int .i64 r.kind, .int .i64 r.cls, .int .i64 r.ttl, .slice x.d.Ab r.data.bytes.length x.d.cb, .slice x.d.Ah r.data.host.length x.d.ch, .slice x.d.Am r.data.mail.length x.d.cm, .slice x.d.An r.data.nums.length x.d.cn, .slice x.d.At r.data.texts.length x.d.ct]) HW3.out 4
        have p5 : w3.cell? ⟨wr.heap.size, 5, none⟩ = some (.slice x.d.Ah r.data.host.length x.d.ch) := Whole.cell (L := [.slice x.A r.name.length x.c, .int .i64 r.kind, .int .i64 r.cls, .int .i64 r.ttl, .slice x.d.Ab r.data.bytes.length x.d.cb, .slice x.d.Ah r.data.host.length x.d.ch, .slice x.d.Am r.data.mail.length x.d.cm, .slice x.d.An r.data.nums.length x.d.cn, .slice x.d.At r.data.texts.length x.d.ct]) HW3.out 5
        have p6 : w3.cell? ⟨wr.heap.size, 6, none⟩ = some (.slice x.d.Am r.data.mail.length x.d.cm) := Whole.cell (L := [.slice x.A r.name.length x.c, .int .i64 r.kind, .int .i64 r.cls, .int .i64 r.ttl, .slice x.d.Ab r.data.bytes.length x.d.cb, .slice x.d.Ah r.data.host.length x.d.ch, .slice x.d.Am r.data.mail.length x.d.cm, .slice x.d.An r.data.nums.length x.d.cn, .slice x.d.At r.data.texts.length x.d.ct]) HW3.out 6
        have p7 : w3.cell? ⟨wr.heap.size, 7, none⟩ = some (.slice x.d.An r.data.nums.length x.d.cn) := Whole.cell (L := [.slice x.A r.name.length x.c, .int .i64 r.kind, .int .i64 r.cls, .int .i64 r.ttl, .slice x.d.Ab r.data.bytes.length x.d.cb, .slice x.d.Ah r.data.host.length x.d.ch, .slice x.d.Am r.data.mail.length x.d.cm, .slice x.d.An r.data.nums.length x.d.cn, .slice x.d.At r.data.texts.length x.d.ct]) HW3.out 7
        have p8 : w3.cell? ⟨wr.heap.size, 8, none⟩ = some (.slice x.d.At r.data.texts.length x.d.ct) := Whole.cell (L := [.slice x.A r.name.length x.c, .int .i64 r.kind, .int .i64 r.cls, .int .i64 r.ttl, .slice x.d.Ab r.data.bytes.length x.d.cb, .slice x.d.Ah r.data.host.length x.d.ch, .slice x.d.Am r.data.mail.length x.d.cm, .slice x.d.An r.data.nums.length x.d.cn, .slice x.d.At r.data.texts.length x.d.ct]) HW3.out 8
        have HHAS := Lib.hid (in_any w3 x.d r.data A1 c1 qs ((HRA.out.below HS3.out.below).mono HS3.out.size).d HS3.out.reads HRI.out.d HQW.out (by unfold maxLen; omega))
        have HSEEN := Lib.hid (show seenB (stepS (sl, st) r) = true by
          unfold seenB stepS
          dsimp only
          split
          · rename_i hh
            cases sl with
            | nil => simp [hasD] at hh
            | cons a l => rfl
          · simp)
        obtain ⟨st2, hst⟩ : ∃ st2, st2 = if sl = [] ∨ r.ttl < st then r.ttl else st := ⟨_, rfl⟩
        have HST := Lib.hid hst
        by_cases e1 : sl = []
        · have g1 : seenB (sl, st) = false := by rw [e1]; rfl
          have hst2 : st2 = r.ttl := by rw [hst, if_pos (.inl e1)]
          clear hst e1
          subst hst2
          go_wp2_with fail
          refine HHAS.out.mono ?_
          rintro e w4 ⟨rfl, hb4⟩
          have HS4 := Lib.hid (HS3.out.step hb4)
          have HW4 := Lib.hid ((hb4.block wr.heap.size hz3).trans HW3.out)
          clear hb4 HS3 HW3 p0 p1 p2 p3 p4 p5 p6 p7 p8
          cases k4 : hasD (dats qs) r.data with
          | true =>
            have HE2 := Lib.hid (show setF (recs (ps.take (j + 1))) n kind = (sl, r.ttl) by rw [HE.out]; unfold stepS; rw [← HST.out]; dsimp only; rw [← HQ.out, if_pos k4])
            have HSN := Lib.hid (show seenB (sl, r.ttl) = true by rw [← HE2.out, HE.out]; exact HSEEN.out)
            clear HE g1
            go_wp2
            refine ⟨⟨j + 1, qs, by omega, by go_num, by rw [HE2.out], by rw [HE2.out, HSN.out], by rw [HE2.out]; exact HQ.out, by omega, HQW.out, HS4.out⟩, by simp [intOf]; omega⟩
          | false =>
            have HE2 := Lib.hid (show setF (recs (ps.take (j + 1))) n kind = (sl ++ [r.data], r.ttl) by rw [HE.out]; unfold stepS; rw [← HST.out]; dsimp only; rw [← HQ.out, if_neg (by rw [k4]; decide)])
            have HSN := Lib.hid (show seenB (sl ++ [r.data], r.ttl) = true by rw [← HE2.out, HE.out]; exact HSEEN.out)
            clear HE g1
            have p0 : w4.cell? ⟨wr.heap.size, 0, none⟩ = some (.slice x.A r.name.length x.c) := Whole.cell (L := [.slice x.A r.name.length x.c, .int .i64 r.kind, .int .i64 r.cls, .int .i64 r.ttl, .slice x.d.Ab r.data.bytes.length x.d.cb, .slice x.d.Ah r.data.host.length x.d.ch, .slice x.d.Am r.data.mail.length x.d.cm, .slice x.d.An r.data.nums.length x.d.cn, .slice x.d.At r.data.texts.length x.d.ct]) HW4.out 0
            have p1 : w4.cell? ⟨wr.heap.size, 1, none⟩ = some (.int .i64 r.kind) := Whole.cell (L := [.slice x.A r.name.length x.c, .int .i64 r.kind, .int .i64 r.cls, .int .i64 r.ttl, .slice x.d.Ab r.data.bytes.length x.d.cb, .slice x.d.Ah r.data.host.length x.d.ch, .slice x.d.Am r.data.mail.length x.d.cm, .slice x.d.An r.data.nums.length x.d.cn, .slice x.d.At r.data.texts.length x.d.ct]) HW4.out 1
            have p2 : w4.cell? ⟨wr.heap.size, 2, none⟩ = some (.int .i64 r.cls) := Whole.cell (L := [.slice x.A r.name.length x.c, .int .i64 r.kind, .int .i64 r.cls, .int .i64 r.ttl, .slice x.d.Ab r.data.bytes.length x.d.cb, .slice x.d.Ah r.data.host.length x.d.ch, .slice x.d.Am r.data.mail.length x.d.cm, .slice x.d.An r.data.nums.length x.d.cn, .slice x.d.At r.data.texts.length x.d.ct]) HW4.out 2
            have p3 : w4.cell? ⟨wr.heap.size, 3, none⟩ = some (.int .i64 r.ttl) := Whole.cell (L := [.slice x.A r.name.length x.c, .int .i64 r.kind, .int .i64 r.cls, .int .i64 r.ttl, .slice x.d.Ab r.data.bytes.length x.d.cb, .slice x.d.Ah r.data.host.length x.d.ch, .slice x.d.Am r.data.mail.length x.d.cm, .slice x.d.An r.data.nums.length x.d.cn, .slice x.d.At r.data.texts.length x.d.ct]) HW4.out 3
            have p4 : w4.cell? ⟨wr.heap.size, 4, none⟩ = some (.slice x.d.Ab r.data.bytes.length x.d.cb) := Whole.cell (L := [.slice x.A r.name.length x.c, .int .i64 r.kind, .int .i64 r.cls, .int .i64 r.ttl, .slice x.d.Ab r.data.bytes.length x.d.cb, .slice x.d.Ah r.data.host.length x.d.ch, .slice x.d.Am r.data.mail.length x.d.cm, .slice x.d.An r.data.nums.length x.d.cn, .slice x.d.At r.data.texts.length x.d.ct]) HW4.out 4
            have p5 : w4.cell? ⟨wr.heap.size, 5, none⟩ = some (.slice x.d.Ah r.data.host.length x.d.ch) := Whole.cell (L := [.slice x.A r.name.length x.c, .int .i64 r.kind, .int .i64 r.cls, .int .i64 r.ttl, .slice x.d.Ab r.data.bytes.length x.d.cb, .slice x.d.Ah r.data.host.length x.d.ch, .slice x.d.Am r.data.mail.length x.d.cm, .slice x.d.An r.data.nums.length x.d.cn, .slice x.d.At r.data.texts.length x.d.ct]) HW4.out 5
            have p6 : w4.cell? ⟨wr.heap.size, 6, none⟩ = some (.slice x.d.Am r.data.mail.length x.d.cm) := Whole.cell (L := [.slice x.A r.name.length x.c, .int .i64 r.kind, .int .i64 r.cls, .int .i64 r.ttl, .slice x.d.Ab r.data.bytes.length x.d.cb, .slice x.d.Ah r.data.host.length x.d.ch, .slice x.d.Am r.data.mail.length x.d.cm, .slice x.d.An r.data.nums.length x.d.cn, .slice x.d.At r.data.texts.length x.d.ct]) HW4.out 6
            have p7 : w4.cell? ⟨wr.heap.size, 7, none⟩ = some (.slice x.d.An r.data.nums.length x.d.cn) := Whole.cell (L := [.slice x.A r.name.length x.c, .int .i64 r.kind, .int .i64 r.cls, .int .i64 r.ttl, .slice x.d.Ab r.data.bytes.length x.d.cb, .slice x.d.Ah r.data.host.length x.d.ch, .slice x.d.Am r.data.mail.length x.d.cm, .slice x.d.An r.data.nums.length x.d.cn, .slice x.d.At r.data.texts.length x.d.ct]) HW4.out 7
            have p8 : w4.cell? ⟨wr.heap.size, 8, none⟩ = some (.slice x.d.At r.data.texts.length x.d.ct) := Whole.cell (L := [.slice x.A r.name.length x.c, .int .i64 r.kind, .int .i64 r.cls, .int .i64 r.ttl, .slice x.d.Ab r.data.bytes.length x.d.cb, .slice x.d.Ah r.data.host.length x.d.ch, .slice x.d.Am r.data.mail.length x.d.cm, .slice x.d.An r.data.nums.length x.d.cn, .slice x.d.At r.data.texts.length x.d.ct]) HW4.out 8
            have hnew5 := (Below.refl w4.heap.size w4).alloc (Nat.le_refl _) (.cells #[.slice x.d.Ab r.data.bytes.length x.d.cb, .slice x.d.Ah r.data.host.length x.d.ch, .slice x.d.Am r.data.mail.length x.d.cm, .slice x.d.An r.data.nums.length x.d.cn, .slice x.d.At r.data.texts.length x.d.ct] 26)
            have HS6 := Lib.hid (HS4.out.step hnew5)
            have HRD := Lib.hid (Row.made w4 #[.slice x.d.Ab r.data.bytes.length x.d.cb, .slice x.d.Ah r.data.host.length x.d.ch, .slice x.d.Am r.data.mail.length x.d.cm, .slice x.d.An r.data.nums.length x.d.cn, .slice x.d.At r.data.texts.length x.d.ct] 26)
            clear hnew5
            go_wp2_with (
              at_builtin
              refine wpList_append_row rfl (.tmp 53) (.tmp 56) _ rfl w.heap.size 26 i0 _ 5 120 Try.underlying58 hi0 hz0 hz1 hz2 rfl (by omega) (.slice A1 qs.length c1) qs.length _ rfl HS6.out.row
                (some ⟨w4.heap.size, 0, none⟩) 1 1 (w4.heap.size + 1) (cellsD (x.d, r.data)) rfl rfl HRD.out (cellsD_one1 _) (by unfold maxLen; omega) (by omega) HS6.out.size ?_
              intro v7 w7 hown7 hg7
              have HS7 := Lib.hid (HS6.out.snoc HRA.out.d hown7 hg7)
              clear hown7 hg7)
            refine ⟨⟨j + 1, qs ++ [(x.d, r.data)], by omega, by go_num, by rw [HE2.out], by rw [HE2.out, HSN.out], by rw [HE2.out, dats_append, HQ.out]; rfl, by simp; omega, fun q hq => ?_, HS7.out⟩, by simp [intOf]; omega⟩
            rcases List.mem_append.1 hq with hq | hq
            · exact HQW.out q hq
            · rw [List.mem_singleton.1 hq]; exact HRI.out.d
        · have g1 : seenB (sl, st) = true := by
            unfold seenB
            cases sl with
            | nil => exact absurd rfl e1
            | cons a l => rfl
          by_cases e2 : r.ttl < st
          · have g2 : decide (r.ttl < st) = true := by simpa using e2
            have hst2 : st2 = r.ttl := by rw [hst, if_pos (.inr e2)]
            clear hst e1 e2
            subst hst2
            go_wp2_with fail
            refine HHAS.out.mono ?_
            rintro e w4 ⟨rfl, hb4⟩
            have HS4 := Lib.hid (HS3.out.step hb4)
            have HW4 := Lib.hid ((hb4.block wr.heap.size hz3).trans HW3.out)
            clear hb4 HS3 HW3 p0 p1 p2 p3 p4 p5 p6 p7 p8
            cases k4 : hasD (dats qs) r.data with
            | true =>
              have HE2 := Lib.hid (show setF (recs (ps.take (j + 1))) n kind = (sl, r.ttl) by rw [HE.out]; unfold stepS; rw [← HST.out]; dsimp only; rw [← HQ.out, if_pos k4])
              have HSN := Lib.hid (show seenB (sl, r.ttl) = true by rw [← HE2.out, HE.out]; exact HSEEN.out)
              clear HE g1
              go_wp2
              refine ⟨⟨j + 1, qs, by omega, by go_num, by rw [HE2.out], by rw [HE2.out, HSN.out], by rw [HE2.out]; exact HQ.out, by omega, HQW.out, HS4.out⟩, by simp [intOf]; omega⟩
            | false =>
              have HE2 := Lib.hid (show setF (recs (ps.take (j + 1))) n kind = (sl ++ [r.data], r.ttl) by rw [HE.out]; unfold stepS; rw [← HST.out]; dsimp only; rw [← HQ.out, if_neg (by rw [k4]; decide)])
              have HSN := Lib.hid (show seenB (sl ++ [r.data], r.ttl) = true by rw [← HE2.out, HE.out]; exact HSEEN.out)
              clear HE g1
              have p0 : w4.cell? ⟨wr.heap.size, 0, none⟩ = some (.slice x.A r.name.length x.c) := Whole.cell (L := [.slice x.A r.name.length x.c, .int .i64 r.kind, .int .i64 r.cls, .int .i64 r.ttl, .slice x.d.Ab r.data.bytes.length x.d.cb, .slice x.d.Ah r.data.host.length x.d.ch, .slice x.d.Am r.data.mail.length x.d.cm, .slice x.d.An r.data.nums.length x.d.cn, .slice x.d.At r.data.texts.length x.d.ct]) HW4.out 0
              have p1 : w4.cell? ⟨wr.heap.size, 1, none⟩ = some (.int .i64 r.kind) := Whole.cell (L := [.slice x.A r.name.length x.c, .int .i64 r.kind, .int .i64 r.cls, .int .i64 r.ttl, .slice x.d.Ab r.data.bytes.length x.d.cb, .slice x.d.Ah r.data.host.length x.d.ch, .slice x.d.Am r.data.mail.length x.d.cm, .slice x.d.An r.data.nums.length x.d.cn, .slice x.d.At r.data.texts.length x.d.ct]) HW4.out 1
              have p2 : w4.cell? ⟨wr.heap.size, 2, none⟩ = some (.int .i64 r.cls) := Whole.cell (L := [.slice x.A r.name.length x.c, .int .i64 r.kind, .int .i64 r.cls, .int .i64 r.ttl, .slice x.d.Ab r.data.bytes.length x.d.cb, .slice x.d.Ah r.data.host.length x.d.ch, .slice x.d.Am r.data.mail.length x.d.cm, .slice x.d.An r.data.nums.length x.d.cn, .slice x.d.At r.data.texts.length x.d.ct]) HW4.out 2
              have p3 : w4.cell? ⟨wr.heap.size, 3, none⟩ = some (.int .i64 r.ttl) := Whole.cell (L := [.slice x.A r.name.length x.c, .int .i64 r.kind, .int .i64 r.cls, .int .i64 r.ttl, .slice x.d.Ab r.data.bytes.length x.d.cb, .slice x.d.Ah r.data.host.length x.d.ch, .slice x.d.Am r.data.mail.length x.d.cm, .slice x.d.An r.data.nums.length x.d.cn, .slice x.d.At r.data.texts.length x.d.ct]) HW4.out 3
              have p4 : w4.cell? ⟨wr.heap.size, 4, none⟩ = some (.slice x.d.Ab r.data.bytes.length x.d.cb) := Whole.cell (L := [.slice x.A r.name.length x.c, .int .i64 r.kind, .int .i64 r.cls, .int .i64 r.ttl, .slice x.d.Ab r.data.bytes.length x.d.cb, .slice x.d.Ah r.data.host.length x.d.ch, .slice x.d.Am r.data.mail.length x.d.cm, .slice x.d.An r.data.nums.length x.d.cn, .slice x.d.At r.data.texts.length x.d.ct]) HW4.out 4
              have p5 : w4.cell? ⟨wr.heap.size, 5, none⟩ = some (.slice x.d.Ah r.data.host.length x.d.ch) := Whole.cell (L := [.slice x.A r.name.length x.c, .int .i64 r.kind, .int .i64 r.cls, .int .i64 r.ttl, .slice x.d.Ab r.data.bytes.length x.d.cb, .slice x.d.Ah r.data.host.length x.d.ch, .slice x.d.Am r.data.mail.length x.d.cm, .slice x.d.An r.data.nums.length x.d.cn, .slice x.d.At r.data.texts.length x.d.ct]) HW4.out 5
              have p6 : w4.cell? ⟨wr.heap.size, 6, none⟩ = some (.slice x.d.Am r.data.mail.length x.d.cm) := Whole.cell (L := [.slice x.A r.name.length x.c, .int .i64 r.kind, .int .i64 r.cls, .int .i64 r.ttl, .slice x.d.Ab r.data.bytes.length x.d.cb, .slice x.d.Ah r.data.host.length x.d.ch, .slice x.d.Am r.data.mail.length x.d.cm, .slice x.d.An r.data.nums.length x.d.cn, .slice x.d.At r.data.texts.length x.d.ct]) HW4.out 6
              have p7 : w4.cell? ⟨wr.heap.size, 7, none⟩ = some (.slice x.d.An r.data.nums.length x.d.cn) := Whole.cell (L := [.slice x.A r.name.length x.c, .int .i64 r.kind, .int .i64 r.cls, .int .i64 r.ttl, .slice x.d.Ab r.data.bytes.length x.d.cb, .slice x.d.Ah r.data.host.length x.d.ch, .slice x.d.Am r.data.mail.length x.d.cm, .slice x.d.An r.data.nums.length x.d.cn, .slice x.d.At r.data.texts.length x.d.ct]) HW4.out 7
              have p8 : w4.cell? ⟨wr.heap.size, 8, none⟩ = some (.slice x.d.At r.data.texts.length x.d.ct) := Whole.cell (L := [.slice x.A r.name.length x.c, .int .i64 r.kind, .int .i64 r.cls, .int .i64 r.ttl, .slice x.d.Ab r.data.bytes.length x.d.cb, .slice x.d.Ah r.data.host.length x.d.ch, .slice x.d.Am r.data.mail.length x.d.cm, .slice x.d.An r.data.nums.length x.d.cn, .slice x.d.At r.data.texts.length x.d.ct]) HW4.out 8
              have hnew5 := (Below.refl w4.heap.size w4).alloc (Nat.le_refl _) (.cells #[.slice x.d.Ab r.data.bytes.length x.d.cb, .slice x.d.Ah r.data.host.length x.d.ch, .slice x.d.Am r.data.mail.length x.d.cm, .slice x.d.An r.data.nums.length x.d.cn, .slice x.d.At r.data.texts.length x.d.ct] 26)
              have HS6 := Lib.hid (HS4.out.step hnew5)
              have HRD := Lib.hid (Row.made w4 #[.slice x.d.Ab r.data.bytes.length x.d.cb, .slice x.d.Ah r.data.host.length x.d.ch, .slice x.d.Am r.data.mail.length x.d.cm, .slice x.d.An r.data.nums.length x.d.cn, .slice x.d.At r.data.texts.length x.d.ct] 26)
              clear hnew5
              go_wp2_with (
                at_builtin
                refine wpList_append_row rfl (.tmp 53) (.tmp 56) _ rfl w.heap.size 26 i0 _ 5 120 Try.underlying58 hi0 hz0 hz1 hz2 rfl (by omega) (.slice A1 qs.length c1) qs.length _ rfl HS6.out.row
                  (some ⟨w4.heap.size, 0, none⟩) 1 1 (w4.heap.size + 1) (cellsD (x.d, r.data)) rfl rfl HRD.out (cellsD_one1 _) (by unfold maxLen; omega) (by omega) HS6.out.size ?_
                intro v7 w7 hown7 hg7
                have HS7 := Lib.hid (HS6.out.snoc HRA.out.d hown7 hg7)
                clear hown7 hg7)
              refine ⟨⟨j + 1, qs ++ [(x.d, r.data)], by omega, by go_num, by rw [HE2.out], by rw [HE2.out, HSN.out], by rw [HE2.out, dats_append, HQ.out]; rfl, by simp; omega, fun q hq => ?_, HS7.out⟩, by simp [intOf]; omega⟩
              rcases List.mem_append.1 hq with hq | hq
              · exact HQW.out q hq
              · rw [List.mem_singleton.1 hq]; exact HRI.out.d
          · have g2 : decide (r.ttl < st) = false := by simpa using e2
            have hst2 : st2 = st := by rw [hst, if_neg (by rintro (h | h); exact e1 h; exact e2 h)]
            clear hst e1 e2
            subst hst2
            go_wp2_with fail
            refine HHAS.out.mono ?_
            rintro e w4 ⟨rfl, hb4⟩
            have HS4 := Lib.hid (HS3.out.step hb4)
            have HW4 := Lib.hid ((hb4.block wr.heap.size hz3).trans HW3.out)
            clear hb4 HS3 HW3 p0 p1 p2 p3 p4 p5 p6 p7 p8
            cases k4 : hasD (dats qs) r.data with
            | true =>
              have HE2 := Lib.hid (show setF (recs (ps.take (j + 1))) n kind = (sl, st2) by rw [HE.out]; unfold stepS; rw [← HST.out]; dsimp only; rw [← HQ.out, if_pos k4])
              have HSN := Lib.hid (show seenB (sl, st2) = true by rw [← HE2.out, HE.out]; exact HSEEN.out)
              clear HE g1
              go_wp2
              refine ⟨⟨j + 1, qs, by omega, by go_num, by rw [HE2.out], by rw [HE2.out, HSN.out], by rw [HE2.out]; exact HQ.out, by omega, HQW.out, HS4.out⟩, by simp [intOf]; omega⟩
            | false =>
              have HE2 := Lib.hid (show setF (recs (ps.take (j + 1))) n kind = (sl ++ [r.data], st2) by rw [HE.out]; unfold stepS; rw [← HST.out]; dsimp only; rw [← HQ.out, if_neg (by rw [k4]; decide)])
              have HSN := Lib.hid (show seenB (sl ++ [r.data], st2) = true by rw [← HE2.out, HE.out]; exact HSEEN.out)
              clear HE g1
              have p0 : w4.cell? ⟨wr.heap.size, 0, none⟩ = some (.slice x.A r.name.length x.c) := Whole.cell (L := [.slice x.A r.name.length x.c, .int .i64 r.kind, .int .i64 r.cls, .int .i64 r.ttl, .slice x.d.Ab r.data.bytes.length x.d.cb, .slice x.d.Ah r.data.host.length x.d.ch, .slice x.d.Am r.data.mail.length x.d.cm, .slice x.d.An r.data.nums.length x.d.cn, .slice x.d.At r.data.texts.length x.d.ct]) HW4.out 0
              have p1 : w4.cell? ⟨wr.heap.size, 1, none⟩ = some (.int .i64 r.kind) := Whole.cell (L := [.slice x.A r.name.length x.c, .int .i64 r.kind, .int .i64 r.cls, .int .i64 r.ttl, .slice x.d.Ab r.data.bytes.length x.d.cb, .slice x.d.Ah r.data.host.length x.d.ch, .slice x.d.Am r.data.mail.length x.d.cm, .slice x.d.An r.data.nums.length x.d.cn, .slice x.d.At r.data.texts.length x.d.ct]) HW4.out 1
              have p2 : w4.cell? ⟨wr.heap.size, 2, none⟩ = some (.int .i64 r.cls) := Whole.cell (L := [.slice x.A r.name.length x.c, .int .i64 r.kind, .int .i64 r.cls, .int .i64 r.ttl, .slice x.d.Ab r.data.bytes.length x.d.cb, .slice x.d.Ah r.data.host.length x.d.ch, .slice x.d.Am r.data.mail.length x.d.cm, .slice x.d.An r.data.nums.length x.d.cn, .slice x.d.At r.data.texts.length x.d.ct]) HW4.out 2
              have p3 : w4.cell? ⟨wr.heap.size, 3, none⟩ = some (.int .i64 r.ttl) := Whole.cell (L := [.slice x.A r.name.length x.c, .int .i64 r.kind, .int .i64 r.cls, .int .i64 r.ttl, .slice x.d.Ab r.data.bytes.length x.d.cb, .slice x.d.Ah r.data.host.length x.d.ch, .slice x.d.Am r.data.mail.length x.d.cm, .slice x.d.An r.data.nums.length x.d.cn, .slice x.d.At r.data.texts.length x.d.ct]) HW4.out 3
              have p4 : w4.cell? ⟨wr.heap.size, 4, none⟩ = some (.slice x.d.Ab r.data.bytes.length x.d.cb) := Whole.cell (L := [.slice x.A r.name.length x.c, .int .i64 r.kind, .int .i64 r.cls, .int .i64 r.ttl, .slice x.d.Ab r.data.bytes.length x.d.cb, .slice x.d.Ah r.data.host.length x.d.ch, .slice x.d.Am r.data.mail.length x.d.cm, .slice x.d.An r.data.nums.length x.d.cn, .slice x.d.At r.data.texts.length x.d.ct]) HW4.out 4
              have p5 : w4.cell? ⟨wr.heap.size, 5, none⟩ = some (.slice x.d.Ah r.data.host.length x.d.ch) := Whole.cell (L := [.slice x.A r.name.length x.c, .int .i64 r.kind, .int .i64 r.cls, .int .i64 r.ttl, .slice x.d.Ab r.data.bytes.length x.d.cb, .slice x.d.Ah r.data.host.length x.d.ch, .slice x.d.Am r.data.mail.length x.d.cm, .slice x.d.An r.data.nums.length x.d.cn, .slice x.d.At r.data.texts.length x.d.ct]) HW4.out 5
              have p6 : w4.cell? ⟨wr.heap.size, 6, none⟩ = some (.slice x.d.Am r.data.mail.length x.d.cm) := Whole.cell (L := [.slice x.A r.name.length x.c, .int .i64 r.kind, .int .i64 r.cls, .int .i64 r.ttl, .slice x.d.Ab r.data.bytes.length x.d.cb, .slice x.d.Ah r.data.host.length x.d.ch, .slice x.d.Am r.data.mail.length x.d.cm, .slice x.d.An r.data.nums.length x.d.cn, .slice x.d.At r.data.texts.length x.d.ct]) HW4.out 6
              have p7 : w4.cell? ⟨wr.heap.size, 7, none⟩ = some (.slice x.d.An r.data.nums.length x.d.cn) := Whole.cell (L := [.slice x.A r.name.length x.c, .int .i64 r.kind, .int .i64 r.cls, .int .i64 r.ttl, .slice x.d.Ab r.data.bytes.length x.d.cb, .slice x.d.Ah r.data.host.length x.d.ch, .slice x.d.Am r.data.mail.length x.d.cm, .slice x.d.An r.data.nums.length x.d.cn, .slice x.d.At r.data.texts.length x.d.ct]) HW4.out 7
              have p8 : w4.cell? ⟨wr.heap.size, 8, none⟩ = some (.slice x.d.At r.data.texts.length x.d.ct) := Whole.cell (L := [.slice x.A r.name.length x.c, .int .i64 r.kind, .int .i64 r.cls, .int .i64 r.ttl, .slice x.d.Ab r.data.bytes.length x.d.cb, .slice x.d.Ah r.data.host.length x.d.ch, .slice x.d.Am r.data.mail.length x.d.cm, .slice x.d.An r.data.nums.length x.d.cn, .slice x.d.At r.data.texts.length x.d.ct]) HW4.out 8
              have hnew5 := (Below.refl w4.heap.size w4).alloc (Nat.le_refl _) (.cells #[.slice x.d.Ab r.data.bytes.length x.d.cb, .slice x.d.Ah r.data.host.length x.d.ch, .slice x.d.Am r.data.mail.length x.d.cm, .slice x.d.An r.data.nums.length x.d.cn, .slice x.d.At r.data.texts.length x.d.ct] 26)
              have HS6 := Lib.hid (HS4.out.step hnew5)
              have HRD := Lib.hid (Row.made w4 #[.slice x.d.Ab r.data.bytes.length x.d.cb, .slice x.d.Ah r.data.host.length x.d.ch, .slice x.d.Am r.data.mail.length x.d.cm, .slice x.d.An r.data.nums.length x.d.cn, .slice x.d.At r.data.texts.length x.d.ct] 26)
              clear hnew5
              go_wp2_with (
                at_builtin
                refine wpList_append_row rfl (.tmp 53) (.tmp 56) _ rfl w.heap.size 26 i0 _ 5 120 Try.underlying58 hi0 hz0 hz1 hz2 rfl (by omega) (.slice A1 qs.length c1) qs.length _ rfl HS6.out.row
                  (some ⟨w4.heap.size, 0, none⟩) 1 1 (w4.heap.size + 1) (cellsD (x.d, r.data)) rfl rfl HRD.out (cellsD_one1 _) (by unfold maxLen; omega) (by omega) HS6.out.size ?_
                intro v7 w7 hown7 hg7
                have HS7 := Lib.hid (HS6.out.snoc HRA.out.d hown7 hg7)
                clear hown7 hg7)
              refine ⟨⟨j + 1, qs ++ [(x.d, r.data)], by omega, by go_num, by rw [HE2.out], by rw [HE2.out, HSN.out], by rw [HE2.out, dats_append, HQ.out]; rfl, by simp; omega, fun q hq => ?_, HS7.out⟩, by simp [intOf]; omega⟩
              rcases List.mem_append.1 hq with hq | hq
              · exact HQW.out q hq
              · rw [List.mem_singleton.1 hq]; exact HRI.out.d
    · obtain rfl : j = ps.length := by omega
      rw [List.take_length] at *
      go_wp2
      go_ret2
      exact ⟨A1, c1, qs, rfl, HQ.out, HS.out.reads, HS.out.below⟩

end Go.Proofs.Ytjjmllbkfbdcnaa
