/-
  The contract of rr.Names.
-/
import Derived.Test.YtjjmllbkfbdcnaaRQs
import Derived.Test.YtjjmllbkfbdcnaaRCopy
import Derived.Test.YtjjmllbkfbdcnaaRLight
namespace Go.Proofs.Ytjjmllbkfbdcnaa
open Go.RowKit

theorem qst_info : (Try.prog.info? 69).map (fun i => (i.zero, i.size, i.bytes)) = some (some (.agg #[.slice none 0 0, .int .i64 0, .int .i64 0]), 3, 40) := by kernel_rfl
def qOf (r : Rt) : Qt := ⟨r.name, r.kind, r.cls⟩
/-- One record more. -/
def stepN (s : List Qt) (r : Rt) : List Qt := if r.cls = 1 ∧ hasQ s (qOf r) = false then s ++ [qOf r] else s
/-- Of which names and types records are. -/
def namesF (rs : List Rt) : List Qt := rs.foldl stepN []
theorem namesF_take {ps : List (RV × Rt)} {j : Nat} (hj : j < ps.length) : namesF (recs (ps.take (j + 1))) = stepN (namesF (recs (ps.take j))) (ps[j]).2 := by
  rw [recs_at hj]
  unfold namesF
  rw [List.foldl_append]
  rfl
theorem own_apartQ {w : World} {b1 b2 : Nat} {e1 e2 : TypeId} {s1 s2 n1 n2 : Nat} {v1 v2 : Value} {x1 x2 : List Value} (h1 : w.ownsRow b1 e1 s1 v1 n1 x1) (h2 : w.ownsRow b2 e2 s2 v2 n2 x2) (he : e1 ≠ e2) {j : Nat} (hj : v1.ownBlock = some j) : v2.ownBlock ≠ some j := by
  intro hk
  rcases h1.2 with ⟨rfl, _⟩ | ⟨g1, _, c1, rfl, _, hh1, _⟩
  · cases hj
  rcases h2.2 with ⟨rfl, _⟩ | ⟨g2, _, c2, rfl, _, hh2, _⟩
  · cases hk
  simp only [Value.ownBlock, Option.some.injEq] at hj hk
  subst hj
  subst hk
  rw [hh1] at hh2
  injection hh2 with hh2
  injection hh2 with _ hh2 _
  exact he hh2
/-- The rows of questions that a call has made. -/
structure NamesAt (w0 : World) (v : Value) (qs : List (QV × Qt)) (w : World) : Prop where
  row : w.ownsRow w0.heap.size 69 3 v qs.length (qs.flatMap cellsQ)
  each : ∀ q ∈ qs, w.ownsRow w0.heap.size 9 1 (.slice q.1.1 q.2.name.length q.1.2) q.2.name.length (q.2.name.map sv)
  below : Below w0.heap.size w0 w
  size : w0.heap.size ≤ w.heap.size
theorem NamesAt.step {w0 w w' : World} {v : Value} {qs : List (QV × Qt)} (h : NamesAt w0 v qs w) (hb : Below w.heap.size w w') : NamesAt w0 v qs w' :=
  ⟨own_keep h.row fun j hj => hb.block j (h.row.lt j hj).2, fun q hq => own_keep (h.each q hq) fun j hj => hb.block j ((h.each q hq).lt j hj).2, h.below.trans (hb.mono h.size), Nat.le_trans h.size hb.size⟩
theorem NamesAt.reads {w0 w : World} {A : Option Addr} {c : Nat} {qs : List (QV × Qt)} (h : NamesAt w0 (.slice A qs.length c) qs w) : QsAt w w.heap.size A qs :=
  ⟨Row.of_own h.row, fun q hq => Row.of_own (h.each q hq)⟩
theorem NamesAt.snoc {w0 w w' : World} {v v' : Value} {qs : List (QV × Qt)} (h : NamesAt w0 v qs w) {y : QV} {d : Qt} (hy : w.ownsRow w0.heap.size 9 1 (.slice y.1 d.name.length y.2) d.name.length (d.name.map sv))
    (ho : w'.ownsRow w0.heap.size 69 3 v' (qs.length + 1) (qs.flatMap cellsQ ++ cellsQ (y, d))) (hg : w.grownBy w' v.ownBlock) : NamesAt w0 v' (qs ++ [(y, d)]) w' := by
  have hk : ∀ {n : Nat} {u : Value} {ys : List Value}, w.ownsRow w0.heap.size 9 1 u n ys → w'.ownsRow w0.heap.size 9 1 u n ys := fun ho => own_keep ho fun j hj => hg.block j (ho.lt j hj).2 (Ne.symm (own_apartQ ho h.row (by decide) hj))
  refine ⟨by rw [List.length_append, List.flatMap_append]; simpa using ho, fun q hq => ?_, own_below h.below (Nat.le_refl _) h.size h.row hg, Nat.le_trans h.size hg.size⟩
  rcases List.mem_append.1 hq with hq | hq
  · exact hk (h.each q hq)
  · rw [List.mem_singleton.1 hq]
    exact hk hy

/-- What the call leaves: questions that read so. -/
def NamesOut (w : World) (s : List Qt) (e : Ending) (w' : World) : Prop :=
  ∃ (A : Option Addr) (c : Nat) (qs : List (QV × Qt)), e = .returned (.slice A qs.length c) ∧ qsts qs = s ∧ QsAt w' w'.heap.size A qs ∧ Below w.heap.size w w'
def NamesRel (w : World) (ps : List (RV × Rt)) (v i : Value) (wr : World) : Prop :=
  ∃ (j : Nat) (qs : List (QV × Qt)), j ≤ ps.length ∧ i = .int .i64 j ∧ qsts qs = namesF (recs (ps.take j)) ∧ qs.length ≤ j ∧ (∀ q ∈ qs, WideN q.2.name) ∧ NamesAt w v qs wr

set_option maxRecDepth 20000 in
set_option maxHeartbeats 8000000 in
theorem names_any (w : World) (A : Option Addr) (c : Nat) (ps : List (RV × Rt)) (hp : RsAt w w.heap.size A ps) (hr : ∀ p ∈ ps, RIn p.2 ∧ LightR p.2) (hl : ps.length ≤ 100) :
    Calls Try.prog 38 #[.slice A ps.length c] w (NamesOut w (namesF (recs ps))) := by
  obtain ⟨i0, hi0, hz0, hz1, hz2⟩ := info_parts qst_info
  have HP := Lib.hid hp
  have HR := Lib.hid hr
  clear hp hr
  go_enter Try.func38, Try.ntmps38
  go_wp2
  go_loopw [3, 9] (NamesRel w ps) (fun _ i _ => ps.length - (intOf i).toNat)
  case atStart => exact ⟨0, [], Nat.zero_le _, rfl, rfl, Nat.le_refl _, fun _ h => absurd h (List.not_mem_nil), World.ownsRow_nil _ _ _ _, fun _ h => absurd h (List.not_mem_nil), Below.refl _ _, Nat.le_refl _⟩
  case round =>
    obtain ⟨j, qs, hj, rfl, hq, hqj, hqw, hs⟩ := hrel
    have HS := Lib.hid hs
    have HQ := Lib.hid hq
    have HQW := Lib.hid hqw
    obtain ⟨A1, c1, rfl, _, _⟩ := own_form hs.row
    clear hs hq hqw
    by_cases hlt : j < ps.length
    · obtain ⟨b, off, rfl, hbH, hra, q0, q1, q2, q3, q4, q5, q6, q7, q8⟩ := HP.out.at_ hlt
      have hri := HR.out _ (List.getElem_mem hlt)
      have HF := Lib.hid (namesF_take hlt)
      revert hra q0 q1 q2 q3 q4 q5 q6 q7 q8 hri HF
      generalize ps[j] = p
      obtain ⟨x, r⟩ := p
      intro hra q0 q1 q2 q3 q4 q5 q6 q7 q8 hri HF
      dsimp only at *
      have HRA := Lib.hid hra
      have HRI := Lib.hid hri
      have hl0 := hri.2.l0
      have k0' := (HS.out.below.cell (p := ⟨b, off + j * 9, none⟩) hbH).trans q0
      have k1' := (HS.out.below.cell (p := ⟨b, off + j * 9 + 1, none⟩) hbH).trans q1
      have k2' := (HS.out.below.cell (p := ⟨b, off + j * 9 + 2, none⟩) hbH).trans q2
      have k3' := (HS.out.below.cell (p := ⟨b, off + j * 9 + 3, none⟩) hbH).trans q3
      have k4' := (HS.out.below.cell (p := ⟨b, off + j * 9 + 4, none⟩) hbH).trans q4
      have k5' := (HS.out.below.cell (p := ⟨b, off + j * 9 + 5, none⟩) hbH).trans q5
      have k6' := (HS.out.below.cell (p := ⟨b, off + j * 9 + 6, none⟩) hbH).trans q6
      have k7' := (HS.out.below.cell (p := ⟨b, off + j * 9 + 7, none⟩) hbH).trans q7
      have k8' := (HS.out.below.cell (p := ⟨b, off + j * 9 + 8, none⟩) hbH).trans q8
      clear hra hri q0 q1 q2 q3 q4 q5 q6 q7 q8
      have hnew := (Below.refl wr.heap.size wr).alloc (Nat.le_refl _) (.cells #[.slice x.A r.name.length x.c, .int .i64 r.kind, .int .i64 r.cls, .int .i64 r.ttl, .slice x.d.Ab r.data.bytes.length x.d.cb, .slice x.d.Ah r.data.host.length x.d.ch, .slice x.d.Am r.data.mail.length x.d.cm, .slice x.d.An r.data.nums.length x.d.cn, .slice x.d.At r.data.texts.length x.d.ct] 51)
      have hnew2 : Below wr.heap.size wr ((wr.alloc (.cells #[.slice x.A r.name.length x.c, .int .i64 r.kind, .int .i64 r.cls, .int .i64 r.ttl, .slice x.d.Ab r.data.bytes.length x.d.cb, .slice x.d.Ah r.data.host.length x.d.ch, .slice x.d.Am r.data.mail.length x.d.cm, .slice x.d.An r.data.nums.length x.d.cn, .slice x.d.At r.data.texts.length x.d.ct] 51)).alloc (.cells #[.slice x.A r.name.length x.c, .int .i64 r.kind, .int .i64 r.cls] 69)) := hnew.alloc (by simp) _
      have HSA := Lib.hid (HS.out.step hnew2)
      have HWP := Lib.hid (show Whole ((wr.alloc (.cells #[.slice x.A r.name.length x.c, .int .i64 r.kind, .int .i64 r.cls, .int .i64 r.ttl, .slice x.d.Ab r.data.bytes.length x.d.cb, .slice x.d.Ah r.data.host.length x.d.ch, .slice x.d.Am r.data.mail.length x.d.cm, .slice x.d.An r.data.nums.length x.d.cn, .slice x.d.At r.data.texts.length x.d.ct] 51)).alloc (.cells #[.slice x.A r.name.length x.c, .int .i64 r.kind, .int .i64 r.cls] 69)) wr.heap.size 51 [.slice x.A r.name.length x.c, .int .i64 r.kind, .int .i64 r.cls, .int .i64 r.ttl, .slice x.d.Ab r.data.bytes.length x.d.cb, .slice x.d.Ah r.data.host.length x.d.ch, .slice x.d.Am r.data.mail.length x.d.cm, .slice x.d.An r.data.nums.length x.d.cn, .slice x.d.At r.data.texts.length x.d.ct] from (Whole.made wr [.slice x.A r.name.length x.c, .int .i64 r.kind, .int .i64 r.cls, .int .i64 r.ttl, .slice x.d.Ab r.data.bytes.length x.d.cb, .slice x.d.Ah r.data.host.length x.d.ch, .slice x.d.Am r.data.mail.length x.d.cm, .slice x.d.An r.data.nums.length x.d.cn, .slice x.d.At r.data.texts.length x.d.ct] 51).alloc _)
      have HWQ := Lib.hid (show Whole ((wr.alloc (.cells #[.slice x.A r.name.length x.c, .int .i64 r.kind, .int .i64 r.cls, .int .i64 r.ttl, .slice x.d.Ab r.data.bytes.length x.d.cb, .slice x.d.Ah r.data.host.length x.d.ch, .slice x.d.Am r.data.mail.length x.d.cm, .slice x.d.An r.data.nums.length x.d.cn, .slice x.d.At r.data.texts.length x.d.ct] 51)).alloc (.cells #[.slice x.A r.name.length x.c, .int .i64 r.kind, .int .i64 r.cls] 69)) (wr.heap.size + 1) 69 [.slice x.A r.name.length x.c, .int .i64 r.kind, .int .i64 r.cls] from by
        have h := Whole.made (wr.alloc (.cells #[.slice x.A r.name.length x.c, .int .i64 r.kind, .int .i64 r.cls, .int .i64 r.ttl, .slice x.d.Ab r.data.bytes.length x.d.cb, .slice x.d.Ah r.data.host.length x.d.ch, .slice x.d.Am r.data.mail.length x.d.cm, .slice x.d.An r.data.nums.length x.d.cn, .slice x.d.At r.data.texts.length x.d.ct] 51)) [.slice x.A r.name.length x.c, .int .i64 r.kind, .int .i64 r.cls] 69
        rw [show (wr.alloc (.cells #[.slice x.A r.name.length x.c, .int .i64 r.kind, .int .i64 r.cls, .int .i64 r.ttl, .slice x.d.Ab r.data.bytes.length x.d.cb, .slice x.d.Ah r.data.host.length x.d.ch, .slice x.d.Am r.data.mail.length x.d.cm, .slice x.d.An r.data.nums.length x.d.cn, .slice x.d.At r.data.texts.length x.d.ct] 51)).heap.size = wr.heap.size + 1 by simp] at h
        exact h)
      have hzA : wr.heap.size + 2 ≤ ((wr.alloc (.cells #[.slice x.A r.name.length x.c, .int .i64 r.kind, .int .i64 r.cls, .int .i64 r.ttl, .slice x.d.Ab r.data.bytes.length x.d.cb, .slice x.d.Ah r.data.host.length x.d.ch, .slice x.d.Am r.data.mail.length x.d.cm, .slice x.d.An r.data.nums.length x.d.cn, .slice x.d.At r.data.texts.length x.d.ct] 51)).alloc (.cells #[.slice x.A r.name.length x.c, .int .i64 r.kind, .int .i64 r.cls] 69)).heap.size := by simp
      have HBR := Lib.hid hnew2
      clear hnew hnew2
      by_cases k1 : r.cls = 1
      case neg =>
        have b1 : (r.cls == 1) = false := by rw [beq_eq_false_iff_ne]; exact k1
        have HE := Lib.hid (show namesF (recs (ps.take (j + 1))) = namesF (recs (ps.take j)) by rw [HF.out]; unfold stepN; rw [if_neg (by rintro ⟨h, _⟩; exact k1 h)])
        clear HF k1
        go_wp2
        exact ⟨⟨j + 1, qs, by omega, by go_num, by rw [HE.out]; exact HQ.out, by omega, HQW.out, HSA.out⟩, by simp [intOf]; omega⟩
      have b1 : (r.cls == 1) = true := by rw [k1]; rfl
      have K1 := Lib.hid k1
      clear k1
      have HHAS := Lib.hid (has_anyQ ((wr.alloc (.cells #[.slice x.A r.name.length x.c, .int .i64 r.kind, .int .i64 r.cls, .int .i64 r.ttl, .slice x.d.Ab r.data.bytes.length x.d.cb, .slice x.d.Ah r.data.host.length x.d.ch, .slice x.d.Am r.data.mail.length x.d.cm, .slice x.d.An r.data.nums.length x.d.cn, .slice x.d.At r.data.texts.length x.d.ct] 51)).alloc (.cells #[.slice x.A r.name.length x.c, .int .i64 r.kind, .int .i64 r.cls] 69)) (x.A, x.c) (qOf r) A1 c1 qs (Row.mono (Row.below HRA.out.n HSA.out.below) HSA.out.size) HSA.out.reads HRI.out.1.n HQW.out (by unfold maxLen; omega))
      go_wp2_with fail
      refine HHAS.out.mono ?_
      rintro e w3 ⟨rfl, hb3⟩
      have HS3 := Lib.hid (HSA.out.step hb3)
      have HW3 := Lib.hid (HWP.out.below hb3 (by omega))
      have HV3 := Lib.hid (HWQ.out.below hb3 (by omega))
      have hz3 : wr.heap.size + 2 ≤ w3.heap.size := Nat.le_trans hzA hb3.size
      have HBR := Lib.hid (HBR.out.trans (hb3.mono (by omega)))
      clear hb3 HSA HWP HWQ HHAS hzA k0' k1' k2' k3' k4' k5' k6' k7' k8'
      cases k2 : hasQ (qsts qs) (qOf r) with
      | true =>
        have HE := Lib.hid (show namesF (recs (ps.take (j + 1))) = namesF (recs (ps.take j)) by rw [HF.out]; unfold stepN; rw [← HQ.out, k2, if_neg (by rintro ⟨_, h⟩; cases h)])
        clear HF
        go_wp2
        exact ⟨⟨j + 1, qs, by omega, by go_num, by rw [HE.out]; exact HQ.out, by omega, HQW.out, HS3.out⟩, by simp [intOf]; omega⟩
      | false =>
        have HE := Lib.hid (show namesF (recs (ps.take (j + 1))) = namesF (recs (ps.take j)) ++ [qOf r] by rw [HF.out]; unfold stepN; rw [← HQ.out, k2, if_pos ⟨K1.out, rfl⟩])
        have p0 : w3.cell? ⟨wr.heap.size, 0, none⟩ = some (.slice x.A r.name.length x.c) := Whole.cell (L := [.slice x.A r.name.length x.c, .int .i64 r.kind, .int .i64 r.cls, .int .i64 r.ttl, .slice x.d.Ab r.data.bytes.length x.d.cb, .slice x.d.Ah r.data.host.length x.d.ch, .slice x.d.Am r.data.mail.length x.d.cm, .slice x.d.An r.data.nums.length x.d.cn, .slice x.d.At r.data.texts.length x.d.ct]) HW3.out 0
        clear HF
        have HFR := Lib.hid (fresh_string x.A r.name.length x.c w.heap.size (r.name.map sv) w3 (by simp) (Row.below HRA.out.n HS3.out.below) (sv_one _) (by omega))
        go_wp2_with fail
        refine HFR.out.mono ?_
        rintro e w4 ⟨v5, rfl, ho5, hb4⟩
        obtain ⟨A5, c5, rfl, _, _⟩ := own_form ho5
        have HS4 := Lib.hid (HS3.out.step hb4)
        have HV4 := Lib.hid (HV3.out.below hb4 (by omega))
        have HBR := Lib.hid (HBR.out.trans (hb4.mono (by omega)))
        have hz4 : wr.heap.size + 2 ≤ w4.heap.size := Nat.le_trans hz3 hb4.size
        have t0 : w4.cell? ⟨wr.heap.size + 1, 0, none⟩ = some (.slice x.A r.name.length x.c) := HV4.out.cell 0
        have f0 : w4.frozen? ⟨wr.heap.size + 1, 0, none⟩ = false := HV4.out.frozen 0
        have HVS := Lib.hid (show Whole (w4.setCell ⟨wr.heap.size + 1, 0, none⟩ (.slice A5 r.name.length c5)) (wr.heap.size + 1) 69 [.slice A5 r.name.length c5, .int .i64 r.kind, .int .i64 r.cls] from HV4.out.set_ 0 _)
        have u0 : (w4.setCell ⟨wr.heap.size + 1, 0, none⟩ (.slice A5 r.name.length c5)).cell? ⟨wr.heap.size + 1, 0, none⟩ = some (.slice A5 r.name.length c5) := HVS.out.cell 0
        have u1 : (w4.setCell ⟨wr.heap.size + 1, 0, none⟩ (.slice A5 r.name.length c5)).cell? ⟨wr.heap.size + 1, 1, none⟩ = some (.int .i64 r.kind) := HVS.out.cell 1
        have u2 : (w4.setCell ⟨wr.heap.size + 1, 0, none⟩ (.slice A5 r.name.length c5)).cell? ⟨wr.heap.size + 1, 2, none⟩ = some (.int .i64 r.cls) := HVS.out.cell 2
        have hvs : (w4.setCell ⟨wr.heap.size + 1, 0, none⟩ (.slice A5 r.name.length c5)).heap.size = w4.heap.size := by simp
        have hbv : Below wr.heap.size wr (w4.setCell ⟨wr.heap.size + 1, 0, none⟩ (.slice A5 r.name.length c5)) := HBR.out.setCell (p := ⟨wr.heap.size + 1, 0, none⟩) (Nat.le_succ _) _
        have hbv2 : Below wr.heap.size wr ((w4.setCell ⟨wr.heap.size + 1, 0, none⟩ (.slice A5 r.name.length c5)).alloc (.cells #[.slice A5 r.name.length c5, .int .i64 r.kind, .int .i64 r.cls] 69)) := hbv.alloc (by rw [hvs]; omega) _
        have HS6 := Lib.hid (HS.out.step hbv2)
        have HY6 := Lib.hid (show ((w4.setCell ⟨wr.heap.size + 1, 0, none⟩ (.slice A5 r.name.length c5)).alloc (.cells #[.slice A5 r.name.length c5, .int .i64 r.kind, .int .i64 r.cls] 69)).ownsRow w.heap.size 9 1 (.slice A5 r.name.length c5) r.name.length (r.name.map sv) from
          own_mono (own_keep ho5 fun g e => by
            have h1 := (ho5.lt g e).1
            have h2 := (ho5.lt g e).2
            rw [Below.heap_alloc (w4.setCell ⟨wr.heap.size + 1, 0, none⟩ (.slice A5 r.name.length c5)) _ g (by rw [hvs]; exact h2)]
            exact Below.heap_setCell w4 ⟨wr.heap.size + 1, 0, none⟩ _ g (by show g ≠ wr.heap.size + 1; omega)) (by have := HS.out.size; omega))
        have HRD := Lib.hid (show Row ((w4.setCell ⟨wr.heap.size + 1, 0, none⟩ (.slice A5 r.name.length c5)).alloc (.cells #[.slice A5 r.name.length c5, .int .i64 r.kind, .int .i64 r.cls] 69)) (w4.heap.size + 1) (some ⟨w4.heap.size, 0, none⟩) [.slice A5 r.name.length c5, .int .i64 r.kind, .int .i64 r.cls] from by
          have h := Row.made (w4.setCell ⟨wr.heap.size + 1, 0, none⟩ (.slice A5 r.name.length c5)) #[.slice A5 r.name.length c5, .int .i64 r.kind, .int .i64 r.cls] 69
          rw [hvs] at h
          exact h)
        clear ho5 hb4 hbv hbv2 hvs HVS HV4 HV3 HW3 HS3 HS4 HFR HBR p0
        go_wp2_with (
          at_builtin
          refine wpList_append_row rfl (.tmp 33) (.tmp 35) _ rfl w.heap.size 69 i0 _ 3 40 Try.underlying65 hi0 hz0 hz1 hz2 rfl (by omega) (.slice A1 qs.length c1) qs.length _ rfl HS6.out.row
            (some ⟨w4.heap.size, 0, none⟩) 1 1 (w4.heap.size + 1) (cellsQ ((A5, c5), qOf r)) rfl rfl HRD.out (cellsQ_one1 _) (by unfold maxLen; omega) (by omega) HS6.out.size ?_
          intro v7 w7 hown7 hg7
          have HS7 := Lib.hid (HS6.out.snoc (y := (A5, c5)) (d := qOf r) HY6.out hown7 hg7)
          clear hown7 hg7)
        refine ⟨⟨j + 1, qs ++ [((A5, c5), qOf r)], by omega, by go_num, by rw [HE.out, qsts_append, HQ.out]; rfl, by simp; omega, fun q hq => ?_, HS7.out⟩, by simp [intOf]; omega⟩
        rcases List.mem_append.1 hq with hq | hq
        · exact HQW.out q hq
        · rw [List.mem_singleton.1 hq]; exact HRI.out.1.n
    · obtain rfl : j = ps.length := by omega
      have HX := Lib.hid (show qsts qs = namesF (recs ps) by have h := HQ.out; rwa [List.take_length] at h)
      go_wp2
      go_ret
      exact ⟨A1, c1, qs, rfl, HX.out, HS.out.reads, HS.out.below⟩

end Go.Proofs.Ytjjmllbkfbdcnaa
