/-
  The contract of rr.Names.
-/
import Derived.Test.YthppgofpbpjglaaFbP11
import Derived.Test.YthppgofpbpjglaaFbP3
namespace Go.Proofs.Ythppgofpbpjglaa
open Go.RowKit

theorem qst_info : (Try.prog.info? 41).map (fun i => (i.zero, i.size, i.bytes)) = some (some (.agg #[.slice none 0 0, .int .i64 0, .int .i64 0]), 3, 40) := by kernel_rfl
def qOf (r : Rt) : Qt := ⟨r.name, r.kind, r.cls⟩
/-- One record more. -/
def stepN (s : List Qt) (r : Rt) : List Qt := if r.cls = 1 ∧ hasQ s (qOf r) = false then s ++ [qOf r] else s
/-- Of which names and types records are. -/
def namesF (rs : List Rt) : List Qt := rs.foldl stepN []
theorem namesF_take {ps : List (RV × Rt)} {j : Nat} (hj : j < ps.length) : namesF (recs (ps.take (j + 1))) = stepN (namesF (recs (ps.take j))) (ps[j]).2 := by
  rw [recs_at hj]
  unfold namesF
  rw [List.foldl_append]
  rfl
theorem own_apartQ {w : World} {b1 b2 : Nat} {e1 e2 : TypeId} {s1 s2 n1 n2 : Nat} {v1 v2 : Value} {x1 x2 : List Value} (h1 : w.ownsRow b1 e1 s1 v1 n1 x1) (h2 : w.ownsRow b2 e2 s2 v2 n2 x2) (he : e1 ≠ e2) {j : Nat} (hj : v1.ownBlock = some j) : v2.ownBlock ≠ some j := by
  intro hk
  rcases h1.2 with ⟨rfl, _⟩ | ⟨g1, _, c1, rfl, _, hh1, _⟩
  · cases hj
  rcases h2.2 with ⟨rfl, _⟩ | ⟨g2, _, c2, rfl, _, hh2, _⟩
  · cases hk
  simp only [Value.ownBlock, Option.some.injEq] at hj hk
  subst hj
  subst hk
  rw [hh1] at hh2
  injection hh2 with hh2
  injection hh2 with _ hh2 _
  exact he hh2
/-- The rows of questions that a call has made. -/
structure NamesAt (w0 : World) (v : Value) (qs : List (QV × Qt)) (w : World) : Prop where
  row : w.ownsRow w0.heap.size 41 3 v qs.length (qs.flatMap cellsQ)
  each : ∀ q ∈ qs, w.ownsRow w0.heap.size 9 1 (.slice q.1.1 q.2.name.length q.1.2) q.2.name.length (q.2.name.map sv)
  below : Below w0.heap.size w0 w
  size : w0.heap.size ≤ w.heap.size
theorem NamesAt.step {w0 w w' : World} {v : Value} {qs : List (QV × Qt)} (h : NamesAt w0 v qs w) (hb : Below w.heap.size w w') : NamesAt w0 v qs w' :=
  ⟨own_keep h.row fun j hj => hb.block j (h.row.lt j hj).2, fun q hq => own_keep (h.each q hq) fun j hj => hb.block j ((h.each q hq).lt j hj).2, h.below.trans (hb.mono h.size), Nat.le_trans h.size hb.size⟩
theorem NamesAt.reads {w0 w : World} {A : Option Addr} {c : Nat} {qs : List (QV × Qt)} (h : NamesAt w0 (.slice A qs.length c) qs w) : QsAt w w.heap.size A qs :=
  ⟨Row.of_own h.row, fun q hq => Row.of_own (h.each q hq)⟩
theorem NamesAt.snoc {w0 w w' : World} {v v' : Value} {qs : List (QV × Qt)} (h : NamesAt w0 v qs w) {y : QV} {d : Qt} (hy : w.ownsRow w0.heap.size 9 1 (.slice y.1 d.name.length y.2) d.name.length (d.name.map sv))
    (ho : w'.ownsRow w0.heap.size 41 3 v' (qs.length + 1) (qs.flatMap cellsQ ++ cellsQ (y, d))) (hg : w.grownBy w' v.ownBlock) : NamesAt w0 v' (qs ++ [(y, d)]) w' := by
  have hk : ∀ {n : Nat} {u : Value} {ys : List Value}, w.ownsRow w0.heap.size 9 1 u n ys → w'.ownsRow w0.heap.size 9 1 u n ys := fun ho => own_keep ho fun j hj => hg.block j (ho.lt j hj).2 (Ne.symm (own_apartQ ho h.row (by decide) hj))
  refine ⟨by rw [List.length_append, List.flatMap_append]; simpa using ho, fun q hq => ?_, own_below h.below (Nat.le_refl _) h.size h.row hg, Nat.le_trans h.size hg.size⟩
  rcases List.mem_append.1 hq with hq | hq
  · exact hk (h.each q hq)
  · rw [List.mem_singleton.1 hq]
    exact hk hy

/-- What the call leaves: questions that read so. -/
def NamesOut (w : World) (s : List Qt) (e : Ending) (w' : World) : Prop :=
  ∃ (A : Option Addr) (c : Nat) (qs : List (QV × Qt)), e = .returned (.slice A qs.length c) ∧ qsts qs = s ∧ QsAt w' w'.heap.size A qs ∧ Below w.heap.size w w'
/-- The same, told more of: the slices are the call's own. -/
def NamesOwn (w : World) (s : List Qt) (e : Ending) (w' : World) : Prop :=
  ∃ (A : Option Addr) (c : Nat) (qs : List (QV × Qt)), e = .returned (.slice A qs.length c) ∧ qsts qs = s ∧ (∀ q ∈ qs, WideN q.2.name) ∧ NamesAt w (.slice A qs.length c) qs w'
def NamesRel (w : World) (ps : List (RV × Rt)) (v i : Value) (wr : World) : Prop :=
  ∃ (j : Nat) (qs : List (QV × Qt)), j ≤ ps.length ∧ i = .int .i64 j ∧ qsts qs = namesF (recs (ps.take j)) ∧ qs.length ≤ j ∧ (∀ q ∈ qs, WideN q.2.name) ∧ NamesAt w v qs wr

set_option maxRecDepth 20000 in
set_option maxHeartbeats 8000000 in
theorem names_own (w : World) (A : Option Addr) (c : Nat) (ps : List (RV × Rt)) (hp : RsAt w w.heap.size A ps) (hr : ∀ p ∈ ps, RIn p.2 ∧ LightR p.2) (hl : ps.length ≤ 1000) :
    Calls Try.prog 15 #[.slice A ps.length c] w (NamesOwn w (namesF (recs ps))) := by
  obtain ⟨i0, hi0, hz0, hz1, hz2⟩ := info_parts qst_info
  have HP := Lib.hid hp
  have HR := Lib.hid hr
  clear hp hr
  go_enter Try.func15, Try.ntmps15
  go_wp2
  go_loopw [3, 9] (NamesRel w ps) (fun _ i _ => ps.length - (intOf i).toNat)
  case atStart => exact ⟨0, [], Nat.zero_le _, rfl, rfl, Nat.le_refl _, fun _ h => absurd h (List.not_mem_nil), World.ownsRow_nil _ _ _ _, fun _ h => absurd h (List.not_mem_nil), Below.refl _ _, Nat.le_refl _⟩
  case round =>
    obtain ⟨j, qs, hj, rfl, hq, hqj, hqw, hs⟩ := hrel
    have HS := Lib.hid hs
    have HQ := Lib.hid hq
    have HQW := Lib.hid hqw
    obtain ⟨A1, c1, rfl, _, _⟩ := own_form hs.row
    clear hs hq hqw
    by_cases hlt : j < ps.length
    · obtain ⟨b, off, rfl, hbH, hra, q0, q1, q2, q3, q4, q5, q6, q7, q8⟩ := HP.out.at_ hlt
      have hri := HR.out _ (List.getElem_mem hlt)
      have HF := Lib.hid (namesF_take hlt)
      revert hra q0 q1 q2 q3 q4 q5 q6 q7 q8 hri HF
      generalize ps[j] = p
      obtain ⟨x, r⟩ := p
      intro hra q0 q1 q2 q3 q4 q5 q6 q7 q8 hri HF
      dsimp only at *
      have HRA := Lib.hid hra
      have HRI := Lib.hid hri
      have hl0 := hri.2.l0
      have k0' := (HS.out.below.cell (p := ⟨b, off + j * 9, none⟩) hbH).trans q0
      have k1' := (HS.out.below.cell (p := ⟨b, off + j * 9 + 1, none⟩) hbH).trans q1
      have k2' := (HS.out.below.cell (p := ⟨b, off + j * 9 + 2, none⟩) hbH).trans q2
      have k3' := (HS.out.below.cell (p := ⟨b, off + j * 9 + 3, none⟩) hbH).trans q3
      have k4' := (HS.out.below.cell (p := ⟨b, off + j * 9 + 4, none⟩) hbH).trans q4
      have k5' := (HS.out.below.cell (p := ⟨b, off + j * 9 + 5, none⟩) hbH).trans q5
      have k6' := (HS.out.below.cell (p := ⟨b, off + j * 9 + 6, none⟩) hbH).trans q6
      have k7' := (HS.out.below.cell (p := ⟨b, off + j * 9 + 7, none⟩) hbH).trans q7
      have k8' := (HS.out.below.cell (p := ⟨b, off + j * 9 + 8, none⟩) hbH).trans q8
      clear hra hri q0 q1 q2 q3 q4 q5 q6 q7 q8
      have hnew := (Below.refl wr.heap.size wr).alloc (Nat.le_refl _) (.cells #[.slice x.A r.name.length x.c, .int .i64 r.kind, .int .i64 r.cls, .int .i64 r.ttl, .slice x.d.Ab r.data.bytes.length x.d.cb, .slice x.d.Ah r.data.host.length x.d.ch, .slice x.d.Am r.data.mail.length x.d.cm, .slice x.d.An r.data.nums.length x.d.cn, .slice x.d.At r.data.texts.length x.d.ct] 54)
      have hnew2 : Below wr.heap.size wr ((wr.alloc (.cells #[.slice x.A r.name.length x.c, .int .i64 r.kind, .int .i64 r.cls, .int .i64 r.ttl, .slice x.d.Ab r.data.bytes.length x.d.cb, .slice x.d.Ah r.data.host.length x.d.ch, .slice x.d.Am r.data.mail.length x.d.cm, .slice x.d.An r.data.nums.length x.d.cn, .slice x.d.At r.data.texts.length x.d.ct] 54)).alloc (.cells #[.slice x.A r.name.length x.c, .int .i64 r.kind, .int .i64 r.cls] 41)) := hnew.alloc (by simp) _
      have HSA := Lib.hid (HS.out.step hnew2)
      have HWP := Lib.hid (show Whole ((wr.alloc (.cells #[.slice x.A r.name.length x.c, .int .i64 r.kind, .int .i64 r.cls, .int .i64 r.ttl, .slice x.d.Ab r.data.bytes.length x.d.cb, .slice x.d.Ah r.data.host.length x.d.ch, .slice x.d.Am r.data.mail.length x.d.cm, .slice x.d.An r.data.nums.length x.d.cn, .slice x.d.At r.data.texts.length x.d.ct] 54)).alloc (.cells #[.slice x.A r.name.length x.c, .int .i64 r.kind, .int .i64 r.cls] 41)) wr.heap.size 54 [.slice x.A r.name.length x.c, .int .i64 r.kind, .int .i64 r.cls, .int .i64 r.ttl, .slice x.d.Ab r.data.bytes.length x.d.cb, .slice x.d.Ah r.data.host.length x.d.ch, .slice x.d.Am r.data.mail.length x.d.cm, .slice x.d.An r.data.nums.length x.d.cn, .slice x.d.At r.data.texts.length x.d.ct] from (Whole.made wr [.slice x.A r.name.length x.c, .int .i64 r.kind, .int .i64 r.cls, .int .i64 r.ttl, .slice x.d.Ab r.data.bytes.length x.d.cb, .slice x.d.Ah r.data.host.length x.d.ch, .slice x.d.Am r.data.mail.length x.d.cm, .slice x.d.An r.data.nums.length x.d.cn, .slice x.d.At r.data.texts.length x.d.ct] 54).alloc _)
      have HWQ := Lib.hid (show Whole ((wr.alloc (.cells #[.slice x.A r.name.length x.c, .int .i64 r.kind, .int .i64 r.cls, .int .i64 r.ttl, .slice x.d.Ab r.data.bytes.length x.d.cb, .slice x.d.Ah r.data.host.length x.d.ch, .slice x.d.Am r.data.mail.length x.d.cm, .slice x.d.An r.data.nums.length x.d.cn, .slice x.d.At r.data.texts.length x.d.ct] 54)).alloc (.cells #[.slice x.A r.name.length x.c, .int .i64 r.kind, .int .i64 r.cls] 41)) (wr.heap.size + 1) 41 [.slice x.A r.name.length x.c, .int .i64 r.kind, .int .i64 r.cls] from by
        have h := Whole.made (wr.alloc (.cells #[.slice x.A r.name.length x.c, .int .i64 r.kind, .int .i64 r.cls, .int .i64 r.ttl, .slice x.d.Ab r.data.bytes.length x.d.cb, .slice x.d.Ah r.data.host.length x.d.ch, .slice x.d.Am r.data.mail.length x.d.cm, .slice x.d.An r.data.nums.length x.d.cn, .slice x.d.At r.data.texts.length x.d.ct] 54)) [.slice x.A r.name.length x.c, .int .i64 r.kind, .int .i64 r.cls] 41
        rw [show (wr.alloc (.cells #[.slice x.A r.name.length x.c, .int .i64 r.kind, .int .i64 r.cls, .int .i64 r.ttl, .slice x.d.Ab r.data.bytes.length x.d.cb, .slice x.d.Ah r.data.host.length x.d.ch, .slice x.d.Am r.data.mail.length x.d.cm, .slice x.d.An r.data.nums.length x.d.cn, .slice x.d.At r.data.texts.length x.d.ct] 54)).heap.size = wr.heap.size + 1 by simp] at h
        exact h)
      have hzA : wr.heap.size + 2 ≤ ((wr.alloc (.cells #[.slice x.A r.name.length x.c, .int .i64 r.kind, .int .i64 r.cls, .int .i64 r.ttl, .slice x.d.Ab r.data.bytes.length x.d.cb, .slice x.d.Ah r.data.host.length x.d.ch, .slice x.d.Am r.data.mail.length x.d.cm, .slice x.d.An r.data.nums.length x.d.cn, .slice x.d.At r.data.texts.length x.d.ct] 54)).alloc (.cells #[.slice x.A r.name.length x.c, .int .i64 r.kind, .int .i64 r.cls] 41)).heap.size := by simp
      have HBR := Lib.hid hnew2
      clear hnew hnew2
      by_cases k1 : r.cls = 1
      case neg =>
        have b1 : (r.cls == 1) = false := by rw [beq_eq_false_iff_ne]; exact k1
        have HE := Lib.hid (show namesF (recs (ps.take (j + 1))) = namesF (recs (ps.take j)) by rw [HF.out]; unfold stepN; rw [if_neg (by rintro ⟨h, _⟩; exact k1 h)])
        clear HF k1
        go_wp2
        exact ⟨⟨j + 1, qs, by omega, by go_num, by rw [HE.out]; exact HQ.out, by omega, HQW.out, HSA.out⟩, by simp [intOf]; omega⟩
      have b1 : (r.cls == 1) = true := by rw [k1]; rfl
      have K1 := Lib.hid k1
      clear k1
      have HHAS := Lib.hid (has_anyQ ((wr.alloc (.cells #[.slice x.A r.name.length x.c, .int .i64 r.kind, .int .i64 r.cls, .int .i64 r.ttl, .slice x.d.Ab r.data.bytes.length x.d.cb, .slice x.d.Ah r.data.host.length x.d.ch, .slice x.d.Am r.data.mail.length x.d.cm, .slice x.d.An r.data.nums.length x.d.cn, .slice x.d.At r.data.texts.length x.d.ct] 54)).alloc (.cells #[.slice x.A r.name.length x.c, .int .i64 r.kind, .int .i64 r.cls] 41)) (x.A, x.c) (qOf r) A1 c1 qs (Row.mono (Row.below HRA.out.n HSA.out.below) HSA.out.size) HSA.out.reads HRI.out.1.n HQW.out (by unfold maxLen; omega))
      go_wp2_with fail
      refine HHAS.out.mono ?_
      rintro e w3 ⟨rfl, hb3⟩
      have HS3 := Lib.hid (HSA.out.step hb3)
      have HW3 := Lib.hid (HWP.out.below hb3 (by omega))
      have HV3 := Lib.hid (HWQ.out.below hb3 (by omega))
      have hz3 : wr.heap.size + 2 ≤ w3.heap.size := Nat.le_trans hzA hb3.size
      have HBR := Lib.hid (HBR.out.trans (hb3.mono (by omega)))
      clear hb3 HSA HWP HWQ HHAS hzA k0' k1' k2' k3' k4' k5' k6' k7' k8'
      cases k2 : hasQ (qsts qs) (qOf r) with
      | true =>
        have HE := Lib.hid (show namesF (recs (ps.take (j + 1))) = namesF (recs (ps.take j)) by rw [HF.out]; unfold stepN; rw [← HQ.out, k2, if_neg (by rintro ⟨_, h⟩; cases h)])
        clear HF
        go_wp2
        exact ⟨⟨j + 1, qs, by omega, by go_num, by rw [HE.out]; exact HQ.out, by omega, HQW.out, HS3.out⟩, by simp [intOf]; omega⟩
      | false =>
        have HE := Lib.hid (show namesF (recs (ps.take (j + 1))) = namesF (recs (ps.take j)) ++ [qOf r] by rw [HF.out]; unfold stepN; rw [← HQ.out, k2, if_pos ⟨K1.out, rfl⟩])
        have p0 : w3.cell? ⟨wr.heap.size, 0, none⟩ = some (.slice x.A r.name.length x.c) := Whole.cell (L := [.slice x.A r.name.length x.c, .int .i64 r.kind, .int .i64 r.cls, .int .i64 r.ttl, .slice x.d.Ab r.data.bytes.length x.d.cb, .slice x.d.Ah r.data.host.length x.d.ch, .slice x.d.Am r.data.mail.length x.d.cm, .slice x.d.An r.data.nums.length x.d.cn, .slice x.d.At r.data.texts.length x.d.ct]) HW3.out 0
        clear HF
        have HFR := Lib.hid (fresh_string x.A r.name.length x.c w.heap.size (r.name.map sv) w3 (by simp) (Row.below HRA.out.n HS3.out.below) (sv_one _) (by omega))
        go_wp2_with fail
        refine HFR.out.mono ?_
        rintro e w4 ⟨v5, rfl, ho5, hb4⟩
        obtain ⟨A5, c5, rfl, _, _⟩ := own_form ho5
        have HS4 := Lib.hid (HS3.out.step hb4)
        have HV4 := Lib.hid (HV3.out.below hb4 (by omega))
        have HBR := Lib.hid (HBR.out.trans (hb4.mono (by omega)))
        have hz4 : wr.heap.size + 2 ≤ w4.heap.size := Nat.le_trans hz3 hb4.size
        have t0 : w4.cell? ⟨wr.heap.size + 1, 0, none⟩ = some (.slice x.A r.name.length x.c) := HV4.out.cell 0
        have f0 : w4.frozen? ⟨wr.heap.size + 1, 0, none⟩ = false := HV4.out.frozen 0
        have HVS := Lib.hid (show Whole (w4.setCell ⟨wr.heap.size + 1, 0, none⟩ (.slice A5 r.name.length c5)) (wr.heap.size + 1) 41 [.slice A5 r.name.length c5, .int .i64 r.kind, .int .i64 r.cls] from HV4.out.set_ 0 _)
        have u0 : (w4.setCell ⟨wr.heap.size + 1, 0, none⟩ (.slice A5 r.name.length c5)).cell? ⟨wr.heap.size + 1, 0, none⟩ = some (.slice A5 r.name.length c5) := HVS.out.cell 0
        have u1 : (w4.setCell ⟨wr.heap.size + 1, 0, none⟩ (.slice A5 r.name.length c5)).cell? ⟨wr.heap.size + 1, 1, none⟩ = some (.int .i64 r.kind) := HVS.out.cell 1
        have u2 : (w4.setCell ⟨wr.heap.size + 1, 0, none⟩ (.slice A5 r.name.length c5)).cell? ⟨wr.heap.size + 1, 2, none⟩ = some (.int .i64 r.cls) := HVS.out.cell 2
        have hvs : (w4.setCell ⟨wr.heap.size + 1, 0, none⟩ (.slice A5 r.name.length c5)).heap.size = w4.heap.size := by simp
        have hbv : Below wr.heap.size wr (w4.setCell ⟨wr.heap.size + 1, 0, none⟩ (.slice A5 r.name.length c5)) := HBR.out.setCell (p := ⟨wr.heap.size + 1, 0, none⟩) (Nat.le_succ _) _
        have hbv2 : Below wr.heap.size wr ((w4.setCell ⟨wr.heap.size + 1, 0, none⟩ (.slice A5 r.name.length c5)).alloc (.cells #[.slice A5 r.name.length c5, .int .i64 r.kind, .int .i64 r.cls] 41)) := hbv.alloc (by rw [hvs]; omega) _
        have HS6 := Lib.hid (HS.out.step hbv2)
        have HY6 := Lib.hid (show ((w4.setCell ⟨wr.heap.size + 1, 0, none⟩ (.slice A5 r.name.length c5)).alloc (.cells #[.slice A5 r.name.length c5, .int .i64 r.kind, .int .i64 r.cls] 41)).ownsRow w.heap.size 9 1 (.slice A5 r.name.length c5) r.name.length (r.name.map sv) from
          own_mono (own_keep ho5 fun g e => by
            have h1 := (ho5.lt g e).1
            have h2 := (ho5.lt g e).2
            rw [Below.heap_alloc (w4.setCell ⟨wr.heap.size + 1, 0, none⟩ (.slice A5 r.name.length c5)) _ g (by rw [hvs]; exact h2)]
            exact Below.heap_setCell w4 ⟨wr.heap.size + 1, 0, none⟩ _ g (by show g ≠ wr.heap.size + 1; omega)) (by have := HS.out.size; omega))
        have HRD := Lib.hid (show Row ((w4.setCell ⟨wr.heap.size + 1, 0, none⟩ (.slice A5 r.name.length c5)).alloc (.cells #[.slice A5 r.name.length c5, .int .i64 r.kind, .int .i64 r.cls] 41)) (w4.heap.size + 1) (some ⟨w4.heap.size, 0, none⟩) [.slice A5 r.name.length c5, .int .i64 r.kind, .int .i64 r.cls] from by
          have h := Row.made (w4.setCell ⟨wr.heap.size + 1, 0, none⟩ (.slice A5 r.name.length c5)) #[.slice A5 r.name.length c5, .int .i64 r.kind, .int .i64 r.cls] 41
          rw [hvs] at h
          exact h)
        clear ho5 hb4 hbv hbv2 hvs HVS HV4 HV3 HW3 HS3 HS4 HFR HBR p0
        go_wp2_with (
          at_builtin
          refine wpList_append_row rfl (.tmp 33) (.tmp 35) _ rfl w.heap.size 41 i0 _ 3 40 Try.underlying37 hi0 hz0 hz1 hz2 rfl (by omega) (.slice A1 qs.length c1) qs.length _ rfl HS6.out.row
            (some ⟨w4.heap.size, 0, none⟩) 1 1 (w4.heap.size + 1) (cellsQ ((A5, c5), qOf r)) rfl rfl HRD.out (cellsQ_one1 _) (by unfold maxLen; omega) (by omega) HS6.out.size ?_
          intro v7 w7 hown7 hg7
          have HS7 := Lib.hid (HS6.out.snoc (y := (A5, c5)) (d := qOf r) HY6.out hown7 hg7)
          clear hown7 hg7)
        refine ⟨⟨j + 1, qs ++ [((A5, c5), qOf r)], by omega, by go_num, by rw [HE.out, qsts_append, HQ.out]; rfl, by simp; omega, fun q hq => ?_, HS7.out⟩, by simp [intOf]; omega⟩
        rcases List.mem_append.1 hq with hq | hq
        · exact HQW.out q hq
        · rw [List.mem_singleton.1 hq]; exact HRI.out.1.n
    · obtain rfl : j = ps.length := by omega
      have HX := Lib.hid (show qsts qs = namesF (recs ps) by have h := HQ.out; rwa [List.take_length] at h)
      go_wp2
      go_ret
      exact ⟨A1, c1, qs, rfl, HX.out, HQW.out, HS.out⟩

theorem names_any (w : World) (A : Option Addr) (c : Nat) (ps : List (RV × Rt)) (hp : RsAt w w.heap.size A ps) (hr : ∀ p ∈ ps, RIn p.2 ∧ LightR p.2) (hl : ps.length ≤ 1000) :
    Calls Try.prog 15 #[.slice A ps.length c] w (NamesOut w (namesF (recs ps))) :=
  (names_own w A c ps hp hr hl).mono fun _ _ ⟨A', c', qs, h1, h2, _, h3⟩ => ⟨A', c', qs, h1, h2, h3.reads, h3.below⟩

end Go.Proofs.Ythppgofpbpjglaa

namespace Go.Proofs.Ythppgofpbpjglaa
open Go.RowKit

theorem namesL_mem {q : Qt} : ∀ (l : List Rt) (s : List Qt), q ∈ l.foldl stepN s → q ∈ s ∨ ∃ r ∈ l, q = qOf r
  | [], _, h => .inl h
  | r :: l, s, h => by
    rcases namesL_mem l (stepN s r) h with h1 | ⟨r', h1, h2⟩
    · unfold stepN at h1
      split at h1
      · rcases List.mem_append.1 h1 with h1 | h1
        · exact .inl h1
        · exact .inr ⟨r, List.mem_cons_self, List.mem_singleton.1 h1⟩
      · exact .inl h1
    · exact .inr ⟨r', List.mem_cons_of_mem _ h1, h2⟩
theorem namesF_mem {rs : List Rt} {q : Qt} (h : q ∈ namesF rs) : ∃ r ∈ rs, q = qOf r := by
  rcases namesL_mem rs [] h with h | h
  · exact absurd h (List.not_mem_nil)
  · exact h
theorem namesL_len : ∀ (l : List Rt) (s : List Qt), (l.foldl stepN s).length ≤ s.length + l.length
  | [], s => by simp
  | r :: l, s => by
    rw [List.foldl_cons, List.length_cons]
    refine Nat.le_trans (namesL_len l _) ?_
    have : (stepN s r).length ≤ s.length + 1 := by
      unfold stepN
      split <;> simp
    omega

def RecsRel (w0 w : World) (T : Te) (b : Nat) (an au ex : Sec) (xs : List FV) (m : Nat) (f i : Value) (wr : World) : Prop :=
  ∃ (j : Nat) (bv : Bool) (v' : Value) (xs' : List FV), j ≤ m ∧ f = .bool bv ∧ i = .int .i64 j ∧ TAt w0 T b an au ex v' xs' wr ∧ xs'.length ≤ xs.length + j ∧ KeptT w wr ∧ w.heap.size ≤ wr.heap.size

set_option maxRecDepth 20000 in
set_option maxHeartbeats 16000000 in
theorem records_any (w0 w : World) (T : Te) (b : Nat) (an au ex : Sec) (v : Value) (xs : List FV) (h : TAt w0 T b an au ex v xs w) (ok : TeOk w0 T) (hs : SecOk w0 T an T.m.msg.an) (hl : xs.length ≤ 6000) (A : Option Addr) (c : Nat) (n : List (List UInt8)) (hn : Held w0 w A c n) (hns : soundN n = true) :
    Calls Try.prog 42 #[.pointer (some ⟨b, 0, none⟩), .slice A n.length c] w (fun e w' => ∃ bv : Bool, e = .returned (.bool bv) ∧ TellOut w0 T b an au ex xs 1000 w w') := by
  have hsm := hs.small ok (fun r hr => an_all hr)
  have HL := Lib.hid hl
  have HNM := Lib.hid (names_own w an.A an.c an.ps (secRs hs h.an h.below) (fun p hp => (hsm p hp).2) hs.n)
  have HQK := Lib.hid (fun (q : Qt) (hq : q ∈ namesF (recs an.ps)) => (show (Lit.int .i64 q.kind).wf = true from by
    obtain ⟨r, h1, rfl⟩ := namesF_mem hq
    obtain ⟨p, hp, rfl⟩ := mem_recs h1
    exact (hsm p hp).2.1.k))
  have HQL := Lib.hid (show (namesF (recs an.ps)).length ≤ 1000 from by
    have h1 := namesL_len (recs an.ps) []
    have h2 := hs.n
    rw [length_recs] at h1
    simp at h1
    exact Nat.le_trans h1 h2)
  have HWN := Lib.hid (soundN_wide hns)
  have HNH := Lib.hid hn
  have HSET := Lib.hid (fun (W : World) (v' : Value) (xs' : List FV) (ht : TAt w0 T b an au ex v' xs' W) (hl : xs'.length ≤ 7000) (hh : Held w0 W A c n) (kind : Int) (hk : (Lit.int .i64 kind).wf = true) =>
    set_anyT w0 W T b an au ex v' xs' ht ok (by omega) an T.m.msg.an hs (fun r hr => an_all hr) ht.an A c n hh hns kind (rankA T) hk (rankA_wf T))
  have HT0 := Lib.hid h
  have c19 : w.cell? ⟨b, 19, none⟩ = some (.slice an.A an.ps.length an.c) := h.blk.cell 19
  clear h ok hs hsm hl hn hns
  go_enter Try.func42, Try.ntmps42
  go_wp2_with fail
  refine HNM.out.mono ?_
  rintro e w1 ⟨G, cg, qs, rfl, hq, hqw, hat⟩
  have HAT := Lib.hid hat
  have HQW := Lib.hid hqw
  have hql : qs.length ≤ 1000 := by rw [← length_qsts, hq]; exact HQL.out
  have HQK2 := Lib.hid (fun (q : QV × Qt) (hm : q ∈ qs) => HQK.out q.2 (by rw [← hq]; exact List.mem_map.2 ⟨q, hm, rfl⟩))
  clear hat hqw hq HQK HQL HNM c19
  go_wp2
  go_loopw [5, 14] (RecsRel w0 w1 T b an au ex xs qs.length) (fun _ i _ => qs.length - (intOf i).toNat)
  case atStart => exact ⟨0, false, _, xs, Nat.zero_le _, rfl, rfl, HT0.out.step HAT.out.below, Nat.le_refl _, KeptT.refl _, Nat.le_refl _⟩
  case round =>
    obtain ⟨j, bv, v', xs', hj, rfl, rfl, ht, hlx, hk, hz⟩ := hrel
    have HT := Lib.hid ht
    have HLX := Lib.hid hlx
    have HK := Lib.hid hk
    have HZ := Lib.hid hz
    clear ht hlx hk hz
    by_cases hlt : j < qs.length
    · have HQS := Lib.hid (show QsAt wr wr.heap.size G qs from ⟨Row.of_own (HK.out.own HAT.out.row qst_notT), fun q hq => Row.of_own (HK.out.own (HAT.out.each q hq) str_notT)⟩)
      obtain ⟨bp, off, rfl, hbH, hra, q0, q1, q2⟩ := HQS.out.at_ hlt
      have HKW := Lib.hid (HQK2.out _ (List.getElem_mem hlt))
      have HXW := Lib.hid (HQW.out _ (List.getElem_mem hlt))
      revert hra q0 q1 q2 HKW HXW
      generalize qs[j] = p
      obtain ⟨yq, q⟩ := p
      intro hra q0 q1 q2 HKW HXW
      dsimp only at *
      have HRA := Lib.hid hra
      clear hra hbH HQS
      have HNEW := Lib.hid ((Below.refl wr.heap.size wr).alloc (Nat.le_refl _) (.cells #[.slice yq.1 q.name.length yq.2, .int .i64 q.kind, .int .i64 q.cls] 41))
      have HWB := Lib.hid (Whole.made wr (cellsQ (yq, q)) 41)
      have hzn : (wr.alloc (.cells #[.slice yq.1 q.name.length yq.2, .int .i64 q.kind, .int .i64 q.cls] 41)).heap.size = wr.heap.size + 1 := by simp
      have hzl : wr.heap.size < (wr.alloc (.cells #[.slice yq.1 q.name.length yq.2, .int .i64 q.kind, .int .i64 q.cls] 41)).heap.size := by rw [hzn]; omega
      have HBC := Lib.hid (Below.refl (wr.alloc (.cells #[.slice yq.1 q.name.length yq.2, .int .i64 q.kind, .int .i64 q.cls] 41)).heap.size (wr.alloc (.cells #[.slice yq.1 q.name.length yq.2, .int .i64 q.kind, .int .i64 q.cls] 41))).drew
      have HSX := Lib.hid (show ∀ W, Below (wr.alloc (.cells #[.slice yq.1 q.name.length yq.2, .int .i64 q.kind, .int .i64 q.cls] 41)).heap.size (wr.alloc (.cells #[.slice yq.1 q.name.length yq.2, .int .i64 q.kind, .int .i64 q.cls] 41)) W → (W.cell? ⟨b, 1, none⟩ = some (.int .i64 T.q.kind) ∧ W.cell? ⟨b, 19, none⟩ = some (.slice an.A an.ps.length an.c) ∧ W.cell? ⟨wr.heap.size, 0, none⟩ = some (.slice yq.1 q.name.length yq.2) ∧ W.cell? ⟨wr.heap.size, 1, none⟩ = some (.int .i64 q.kind)) from fun W hb => ⟨(HT.out.step (HNEW.out.trans (hb.mono (Nat.le_of_lt hzl)))).blk.cell 1, (HT.out.step (HNEW.out.trans (hb.mono (Nat.le_of_lt hzl)))).blk.cell 19, (HWB.out.below hb HWB.out.lt).cell 0, (HWB.out.below hb HWB.out.lt).cell 1⟩)
      have HHN := Lib.hid (show Held w0 wr A c n from (HNH.out.step HAT.out.below).kept HK.out)
      have HEQ := Lib.hid (fun W (hb : Below (wr.alloc (.cells #[.slice yq.1 q.name.length yq.2, .int .i64 q.kind, .int .i64 q.cls] 41)).heap.size (wr.alloc (.cells #[.slice yq.1 q.name.length yq.2, .int .i64 q.kind, .int .i64 q.cls] 41)) W) => equal_wide yq.1 A q.name.length n.length yq.2 c W.heap.size q.name n W rfl rfl ((Row.below HRA.out (HNEW.out.trans (hb.mono (Nat.le_of_lt hzl)))).mono (Nat.le_trans HNEW.out.size hb.size)) (((HHN.out.step (HNEW.out.trans (hb.mono (Nat.le_of_lt hzl)))).row (HT.out.step (HNEW.out.trans (hb.mono (Nat.le_of_lt hzl)))).below)) (Nat.le_refl _) HXW.out HWN.out)
      have HRK := Lib.hid (fun W (hb : Below (wr.alloc (.cells #[.slice yq.1 q.name.length yq.2, .int .i64 q.kind, .int .i64 q.cls] 41)).heap.size (wr.alloc (.cells #[.slice yq.1 q.name.length yq.2, .int .i64 q.kind, .int .i64 q.cls] 41)) W) => answerRank_any w0 W T b an au ex v' xs' (HT.out.step (HNEW.out.trans (hb.mono (Nat.le_of_lt hzl)))))
      have HST := Lib.hid (fun W (hb : Below (wr.alloc (.cells #[.slice yq.1 q.name.length yq.2, .int .i64 q.kind, .int .i64 q.cls] 41)).heap.size (wr.alloc (.cells #[.slice yq.1 q.name.length yq.2, .int .i64 q.kind, .int .i64 q.cls] 41)) W) => HSET.out W v' xs' (HT.out.step (HNEW.out.trans (hb.mono (Nat.le_of_lt hzl)))) (by have h1 := HLX.out; have h2 := HL.out; omega) (HHN.out.step (HNEW.out.trans (hb.mono (Nat.le_of_lt hzl)))) q.kind HKW.out)
      cases e1 : eqN q.name n with
      | false =>
        rw [e1] at HEQ
        go_wp2
        refine wp_region_held_drew (S := fun W => (W.cell? ⟨b, 1, none⟩ = some (.int .i64 T.q.kind) ∧ W.cell? ⟨b, 19, none⟩ = some (.slice an.A an.ps.length an.c) ∧ W.cell? ⟨wr.heap.size, 0, none⟩ = some (.slice yq.1 q.name.length yq.2) ∧ W.cell? ⟨wr.heap.size, 1, none⟩ = some (.int .i64 q.kind))) (by kernel_rfl) (by exact HSX.out _ HBC.out) (fun hHeld => ?_)
        refine wpAnyH_take (i := 0) (oi := ⟨some 18, _, _, _, _, _⟩) (v := ?_) rfl (by kernel_rfl) (by kernel_rfl) (by kernel_rfl) (fun _ _ _ h => h) (Or.inl ⟨by kernel_rfl, ?_⟩) (by assumption) ?_
        rotate_left
        · intro W hSw
          try dsimp only at hSw
          go_simp
          all_goals (with_reducible rfl)
        try simp only [Act.put, List.setIfInBounds_toArray, List.set_cons_zero, List.set_cons_succ]
        refine wpAnyH_take (i := 1) (oi := ⟨some 19, _, _, _, _, _⟩) (v := ?_) rfl (by kernel_rfl) (by kernel_rfl) (by kernel_rfl) (fun _ _ _ h => h) (Or.inl ⟨by kernel_rfl, ?_⟩) (by assumption) ?_
        rotate_left
        · intro W hSw
          try dsimp only at hSw
          go_simp
          all_goals (with_reducible rfl)
        try simp only [Act.put, List.setIfInBounds_toArray, List.set_cons_zero, List.set_cons_succ]
        refine wpAnyH_take (i := 2) (oi := ⟨some 20, _, _, _, _, _⟩) (v := ?_) rfl (by kernel_rfl) (by kernel_rfl) (by kernel_rfl) (fun _ _ _ h => h) (Or.inl ⟨by kernel_rfl, ?_⟩) (by assumption) ?_
        rotate_left
        · intro W hSw
          try dsimp only at hSw
          go_simp
          all_goals (with_reducible rfl)
        try simp only [Act.put, List.setIfInBounds_toArray, List.set_cons_zero, List.set_cons_succ]
        refine wpAnyH_ready (rs := [3]) (by kernel_rfl) (by simp) ?_
        refine AllReadyH.cons (o := { dst := some 21, op := Go.Op.call { callee := Go.Callee.value (Go.Operand.func 24), args := #[Go.Operand.tmp 19, Go.Operand.tmp 20], argTypes := #[23, 23] }, type := 4, pos := "from.go:94", after := #[{ on := 1, ground := Go.Ground.data }, { on := 2, ground := Go.Ground.data }], guard := none }) rfl (fun K hK => ?_) AllReadyH.nil
        go_simp
        refine (HEQ.out _ HBC.out).mono ?_
        rintro e w4 ⟨rfl, hb4⟩
        have HBC := Lib.hid (HBC.out.trans (hb4.mono HBC.out.size))
        clear hb4
        refine hK.out _ _ (by exact HSX.out _ HBC.out) (fun hHeld2 => ?_)
        clear hK K hHeld
        have hHeld := hHeld2
        clear hHeld2
        try simp only [Act.put, List.setIfInBounds_toArray, List.set_cons_zero, List.set_cons_succ]
        refine wpAnyH_take (i := 4) (oi := ⟨some 22, _, _, _, _, _⟩) (v := ?_) rfl (by kernel_rfl) (by kernel_rfl) (by kernel_rfl) (fun _ _ _ h => h) (Or.inl ⟨by kernel_rfl, ?_⟩) (by assumption) ?_
        rotate_left
        · intro W hSw
          try dsimp only at hSw
          go_simp
          all_goals (with_reducible rfl)
        try simp only [Act.put, List.setIfInBounds_toArray, List.set_cons_zero, List.set_cons_succ]
        refine wpAnyH_take (i := 5) (oi := ⟨some 23, _, _, _, _, _⟩) rfl (by kernel_rfl) (by kernel_rfl) (by kernel_rfl) (fun _ _ _ h => h) (Or.inr ⟨by kernel_rfl, rfl⟩) (by assumption) ?_
        try simp only [Act.put, List.setIfInBounds_toArray, List.set_cons_zero, List.set_cons_succ]
        refine wpAnyH_take (i := 6) (oi := ⟨some 24, _, _, _, _, _⟩) rfl (by kernel_rfl) (by kernel_rfl) (by kernel_rfl) (fun _ _ _ h => h) (Or.inr ⟨by kernel_rfl, rfl⟩) (by assumption) ?_
        try simp only [Act.put, List.setIfInBounds_toArray, List.set_cons_zero, List.set_cons_succ]
        refine wpAnyH_take (i := 7) (oi := ⟨some 25, _, _, _, _, _⟩) rfl (by kernel_rfl) (by kernel_rfl) (by kernel_rfl) (fun _ _ _ h => h) (Or.inr ⟨by kernel_rfl, rfl⟩) (by assumption) ?_
        try simp only [Act.put, List.setIfInBounds_toArray, List.set_cons_zero, List.set_cons_succ]
        refine wpAnyH_take (i := 8) (oi := ⟨some 26, _, _, _, _, _⟩) rfl (by kernel_rfl) (by kernel_rfl) (by kernel_rfl) (fun _ _ _ h => h) (Or.inr ⟨by kernel_rfl, rfl⟩) (by assumption) ?_
        try simp only [Act.put, List.setIfInBounds_toArray, List.set_cons_zero, List.set_cons_succ]
        refine wpAnyH_take (i := 9) (oi := ⟨some 27, _, _, _, _, _⟩) rfl (by kernel_rfl) (by kernel_rfl) (by kernel_rfl) (fun _ _ _ h => h) (Or.inr ⟨by kernel_rfl, rfl⟩) (by assumption) ?_
        try simp only [Act.put, List.setIfInBounds_toArray, List.set_cons_zero, List.set_cons_succ]
        refine wpAnyH_take (i := 10) (oi := ⟨some 28, _, _, _, _, _⟩) rfl (by kernel_rfl) (by kernel_rfl) (by kernel_rfl) (fun _ _ _ h => h) (Or.inr ⟨by kernel_rfl, rfl⟩) (by assumption) ?_
        try simp only [Act.put, List.setIfInBounds_toArray, List.set_cons_zero, List.set_cons_succ]
        refine wpAnyH_take (i := 11) (oi := ⟨some 29, _, _, _, _, _⟩) rfl (by kernel_rfl) (by kernel_rfl) (by kernel_rfl) (fun _ _ _ h => h) (Or.inr ⟨by kernel_rfl, rfl⟩) (by assumption) ?_
        try simp only [Act.put, List.setIfInBounds_toArray, List.set_cons_zero, List.set_cons_succ]
        refine wpAnyH_take (i := 12) (oi := ⟨some 30, _, _, _, _, _⟩) rfl (by kernel_rfl) (by kernel_rfl) (by kernel_rfl) (fun _ _ _ h => h) (Or.inr ⟨by kernel_rfl, rfl⟩) (by assumption) ?_
        try simp only [Act.put, List.setIfInBounds_toArray, List.set_cons_zero, List.set_cons_succ]
        refine wpAnyH_take (i := 13) (oi := ⟨some 31, _, _, _, _, _⟩) rfl (by kernel_rfl) (by kernel_rfl) (by kernel_rfl) (fun _ _ _ h => h) (Or.inr ⟨by kernel_rfl, rfl⟩) (by assumption) ?_
        try simp only [Act.put, List.setIfInBounds_toArray, List.set_cons_zero, List.set_cons_succ]
        refine wpAnyH_take (i := 14) (oi := ⟨some 32, _, _, _, _, _⟩) rfl (by kernel_rfl) (by kernel_rfl) (by kernel_rfl) (fun _ _ _ h => h) (Or.inr ⟨by kernel_rfl, rfl⟩) (by assumption) ?_
        try simp only [Act.put, List.setIfInBounds_toArray, List.set_cons_zero, List.set_cons_succ]
        refine wpAnyH_take (i := 15) (oi := ⟨some 33, _, _, _, _, _⟩) rfl (by kernel_rfl) (by kernel_rfl) (by kernel_rfl) (fun _ _ _ h => h) (Or.inr ⟨by kernel_rfl, rfl⟩) (by assumption) ?_
        try simp only [Act.put, List.setIfInBounds_toArray, List.set_cons_zero, List.set_cons_succ]
        refine wpAnyH_take (i := 16) (oi := ⟨some 34, _, _, _, _, _⟩) rfl (by kernel_rfl) (by kernel_rfl) (by kernel_rfl) (fun _ _ _ h => h) (Or.inr ⟨by kernel_rfl, rfl⟩) (by assumption) ?_
        try simp only [Act.put, List.setIfInBounds_toArray, List.set_cons_zero, List.set_cons_succ]
        refine wpAnyH_take (i := 17) (oi := ⟨some 35, _, _, _, _, _⟩) rfl (by kernel_rfl) (by kernel_rfl) (by kernel_rfl) (fun _ _ _ h => h) (Or.inr ⟨by kernel_rfl, rfl⟩) (by assumption) ?_
        try simp only [Act.put, List.setIfInBounds_toArray, List.set_cons_zero, List.set_cons_succ]
        refine wpAnyH_take (i := 18) (oi := ⟨some 36, _, _, _, _, _⟩) rfl (by kernel_rfl) (by kernel_rfl) (by kernel_rfl) (fun _ _ _ h => h) (Or.inr ⟨by kernel_rfl, rfl⟩) (by assumption) ?_
        try simp only [Act.put, List.setIfInBounds_toArray, List.set_cons_zero, List.set_cons_succ]
        refine wpAnyH_take (i := 19) (oi := ⟨some 37, _, _, _, _, _⟩) rfl (by kernel_rfl) (by kernel_rfl) (by kernel_rfl) (fun _ _ _ h => h) (Or.inr ⟨by kernel_rfl, rfl⟩) (by assumption) ?_
        try simp only [Act.put, List.setIfInBounds_toArray, List.set_cons_zero, List.set_cons_succ]
        refine wpAnyH_take (i := 20) (oi := ⟨some 38, _, _, _, _, _⟩) rfl (by kernel_rfl) (by kernel_rfl) (by kernel_rfl) (fun _ _ _ h => h) (Or.inr ⟨by kernel_rfl, rfl⟩) (by assumption) ?_
        try simp only [Act.put, List.setIfInBounds_toArray, List.set_cons_zero, List.set_cons_succ]
        refine wpAnyH_take (i := 21) (oi := ⟨some 39, _, _, _, _, _⟩) (v := ?_) rfl (by kernel_rfl) (by kernel_rfl) (by kernel_rfl) (fun _ _ _ h => h) (Or.inl ⟨by kernel_rfl, ?_⟩) (by assumption) ?_
        rotate_left
        · intro W hSw
          try dsimp only at hSw
          go_simp
          all_goals (with_reducible rfl)
        try simp only [Act.put, List.setIfInBounds_toArray, List.set_cons_zero, List.set_cons_succ]
        refine wpAnyH_done (by kernel_rfl) ?_ _
        have HBW := Lib.hid (HNEW.out.trans (HBC.out.mono (Nat.le_of_lt hzl)))
        go_wp2
        exact ⟨⟨j + 1, bv, v', xs', by omega, rfl, by go_num, HT.out.step HBW.out, by have := HLX.out; omega, HK.out.trans (KeptT.below HBW.out), Nat.le_trans HZ.out HBW.out.size⟩, by simp [intOf]; omega⟩
      | true =>
        rw [e1] at HEQ
        by_cases k1 : q.kind = T.q.kind
        · have t1 : (q.kind == T.q.kind) = true := by rw [k1]; simp
          have HK1 := Lib.hid k1
          clear k1
          go_wp2
          refine wp_region_held_drew (S := fun W => (W.cell? ⟨b, 1, none⟩ = some (.int .i64 T.q.kind) ∧ W.cell? ⟨b, 19, none⟩ = some (.slice an.A an.ps.length an.c) ∧ W.cell? ⟨wr.heap.size, 0, none⟩ = some (.slice yq.1 q.name.length yq.2) ∧ W.cell? ⟨wr.heap.size, 1, none⟩ = some (.int .i64 q.kind))) (by kernel_rfl) (by exact HSX.out _ HBC.out) (fun hHeld => ?_)
          refine wpAnyH_take (i := 0) (oi := ⟨some 18, _, _, _, _, _⟩) (v := ?_) rfl (by kernel_rfl) (by kernel_rfl) (by kernel_rfl) (fun _ _ _ h => h) (Or.inl ⟨by kernel_rfl, ?_⟩) (by assumption) ?_
          rotate_left
          · intro W hSw
            try dsimp only at hSw
            go_simp
            all_goals (with_reducible rfl)
          try simp only [Act.put, List.setIfInBounds_toArray, List.set_cons_zero, List.set_cons_succ]
          refine wpAnyH_take (i := 1) (oi := ⟨some 19, _, _, _, _, _⟩) (v := ?_) rfl (by kernel_rfl) (by kernel_rfl) (by kernel_rfl) (fun _ _ _ h => h) (Or.inl ⟨by kernel_rfl, ?_⟩) (by assumption) ?_
          rotate_left
          · intro W hSw
            try dsimp only at hSw
            go_simp
            all_goals (with_reducible rfl)
          try simp only [Act.put, List.setIfInBounds_toArray, List.set_cons_zero, List.set_cons_succ]
          refine wpAnyH_take (i := 2) (oi := ⟨some 20, _, _, _, _, _⟩) (v := ?_) rfl (by kernel_rfl) (by kernel_rfl) (by kernel_rfl) (fun _ _ _ h => h) (Or.inl ⟨by kernel_rfl, ?_⟩) (by assumption) ?_
          rotate_left
          · intro W hSw
            try dsimp only at hSw
            go_simp
            all_goals (with_reducible rfl)
          try simp only [Act.put, List.setIfInBounds_toArray, List.set_cons_zero, List.set_cons_succ]
          refine wpAnyH_ready (rs := [3]) (by kernel_rfl) (by simp) ?_
          refine AllReadyH.cons (o := { dst := some 21, op := Go.Op.call { callee := Go.Callee.value (Go.Operand.func 24), args := #[Go.Operand.tmp 19, Go.Operand.tmp 20], argTypes := #[23, 23] }, type := 4, pos := "from.go:94", after := #[{ on := 1, ground := Go.Ground.data }, { on := 2, ground := Go.Ground.data }], guard := none }) rfl (fun K hK => ?_) AllReadyH.nil
          go_simp
          refine (HEQ.out _ HBC.out).mono ?_
          rintro e w4 ⟨rfl, hb4⟩
          have HBC := Lib.hid (HBC.out.trans (hb4.mono HBC.out.size))
          clear hb4
          refine hK.out _ _ (by exact HSX.out _ HBC.out) (fun hHeld2 => ?_)
          clear hK K hHeld
          have hHeld := hHeld2
          clear hHeld2
          try simp only [Act.put, List.setIfInBounds_toArray, List.set_cons_zero, List.set_cons_succ]
          refine wpAnyH_take (i := 4) (oi := ⟨some 22, _, _, _, _, _⟩) (v := ?_) rfl (by kernel_rfl) (by kernel_rfl) (by kernel_rfl) (fun _ _ _ h => h) (Or.inl ⟨by kernel_rfl, ?_⟩) (by assumption) ?_
          rotate_left
          · intro W hSw
            try dsimp only at hSw
            go_simp
            all_goals (with_reducible rfl)
          try simp only [Act.put, List.setIfInBounds_toArray, List.set_cons_zero, List.set_cons_succ]
          refine wpAnyH_take (i := 5) (oi := ⟨some 23, _, _, _, _, _⟩) (v := ?_) rfl (by kernel_rfl) (by kernel_rfl) (by kernel_rfl) (fun _ _ _ h => h) (Or.inl ⟨by kernel_rfl, ?_⟩) (by assumption) ?_
          rotate_left
          · intro W hSw
            try dsimp only at hSw
            go_simp
            all_goals (with_reducible rfl)
          try simp only [Act.put, List.setIfInBounds_toArray, List.set_cons_zero, List.set_cons_succ]
          refine wpAnyH_take (i := 6) (oi := ⟨some 24, _, _, _, _, _⟩) (v := ?_) rfl (by kernel_rfl) (by kernel_rfl) (by kernel_rfl) (fun _ _ _ h => h) (Or.inl ⟨by kernel_rfl, ?_⟩) (by assumption) ?_
          rotate_left
          · intro W hSw
            try dsimp only at hSw
            go_simp
            all_goals (with_reducible rfl)
          try simp only [Act.put, List.setIfInBounds_toArray, List.set_cons_zero, List.set_cons_succ]
          refine wpAnyH_take (i := 7) (oi := ⟨some 25, _, _, _, _, _⟩) (v := ?_) rfl (by kernel_rfl) (by kernel_rfl) (by kernel_rfl) (fun _ _ _ h => h) (Or.inl ⟨by kernel_rfl, ?_⟩) (by assumption) ?_
          rotate_left
          · intro W hSw
            try dsimp only at hSw
            go_simp
            all_goals (with_reducible rfl)
          try simp only [Act.put, List.setIfInBounds_toArray, List.set_cons_zero, List.set_cons_succ]
          refine wpAnyH_take (i := 8) (oi := ⟨some 26, _, _, _, _, _⟩) (v := ?_) rfl (by kernel_rfl) (by kernel_rfl) (by kernel_rfl) (fun _ _ _ h => h) (Or.inl ⟨by kernel_rfl, ?_⟩) (by assumption) ?_
          rotate_left
          · intro W hSw
            try dsimp only at hSw
            go_simp
            all_goals (with_reducible rfl)
          try simp only [Act.put, List.setIfInBounds_toArray, List.set_cons_zero, List.set_cons_succ]
          refine wpAnyH_take (i := 9) (oi := ⟨some 27, _, _, _, _, _⟩) (v := ?_) rfl (by kernel_rfl) (by kernel_rfl) (by kernel_rfl) (fun _ _ _ h => h) (Or.inl ⟨by kernel_rfl, ?_⟩) (by assumption) ?_
          rotate_left
          · intro W hSw
            try dsimp only at hSw
            go_simp
            all_goals (with_reducible rfl)
          try simp only [Act.put, List.setIfInBounds_toArray, List.set_cons_zero, List.set_cons_succ]
          refine wpAnyH_take (i := 10) (oi := ⟨some 28, _, _, _, _, _⟩) (v := ?_) rfl (by kernel_rfl) (by kernel_rfl) (by kernel_rfl) (fun _ _ _ h => h) (Or.inl ⟨by kernel_rfl, ?_⟩) (by assumption) ?_
          rotate_left
          · intro W hSw
            try dsimp only at hSw
            go_simp
            all_goals (with_reducible rfl)
          try simp only [Act.put, List.setIfInBounds_toArray, List.set_cons_zero, List.set_cons_succ]
          refine wpAnyH_take (i := 11) (oi := ⟨some 29, _, _, _, _, _⟩) (v := ?_) rfl (by kernel_rfl) (by kernel_rfl) (by kernel_rfl) (fun _ _ _ h => h) (Or.inl ⟨by kernel_rfl, ?_⟩) (by assumption) ?_
          rotate_left
          · intro W hSw
            try dsimp only at hSw
            go_simp
            all_goals (with_reducible rfl)
          try simp only [Act.put, List.setIfInBounds_toArray, List.set_cons_zero, List.set_cons_succ]
          refine wpAnyH_take (i := 12) (oi := ⟨some 30, _, _, _, _, _⟩) (v := ?_) rfl (by kernel_rfl) (by kernel_rfl) (by kernel_rfl) (fun _ _ _ h => h) (Or.inl ⟨by kernel_rfl, ?_⟩) (by assumption) ?_
          rotate_left
          · intro W hSw
            try dsimp only at hSw
            go_simp
            all_goals (with_reducible rfl)
          try simp only [Act.put, List.setIfInBounds_toArray, List.set_cons_zero, List.set_cons_succ]
          refine wpAnyH_take (i := 13) (oi := ⟨some 31, _, _, _, _, _⟩) (v := ?_) rfl (by kernel_rfl) (by kernel_rfl) (by kernel_rfl) (fun _ _ _ h => h) (Or.inl ⟨by kernel_rfl, ?_⟩) (by assumption) ?_
          rotate_left
          · intro W hSw
            try dsimp only at hSw
            go_simp
            all_goals (with_reducible rfl)
          try simp only [Act.put, List.setIfInBounds_toArray, List.set_cons_zero, List.set_cons_succ]
          refine wpAnyH_take (i := 14) (oi := ⟨some 32, _, _, _, _, _⟩) rfl (by kernel_rfl) (by kernel_rfl) (by kernel_rfl) (fun _ _ _ h => h) (Or.inr ⟨by kernel_rfl, rfl⟩) (by assumption) ?_
          try simp only [Act.put, List.setIfInBounds_toArray, List.set_cons_zero, List.set_cons_succ]
          refine wpAnyH_take (i := 15) (oi := ⟨some 33, _, _, _, _, _⟩) rfl (by kernel_rfl) (by kernel_rfl) (by kernel_rfl) (fun _ _ _ h => h) (Or.inr ⟨by kernel_rfl, rfl⟩) (by assumption) ?_
          try simp only [Act.put, List.setIfInBounds_toArray, List.set_cons_zero, List.set_cons_succ]
          refine wpAnyH_take (i := 16) (oi := ⟨some 34, _, _, _, _, _⟩) rfl (by kernel_rfl) (by kernel_rfl) (by kernel_rfl) (fun _ _ _ h => h) (Or.inr ⟨by kernel_rfl, rfl⟩) (by assumption) ?_
          try simp only [Act.put, List.setIfInBounds_toArray, List.set_cons_zero, List.set_cons_succ]
          refine wpAnyH_take (i := 17) (oi := ⟨some 35, _, _, _, _, _⟩) rfl (by kernel_rfl) (by kernel_rfl) (by kernel_rfl) (fun _ _ _ h => h) (Or.inr ⟨by kernel_rfl, rfl⟩) (by assumption) ?_
          try simp only [Act.put, List.setIfInBounds_toArray, List.set_cons_zero, List.set_cons_succ]
          refine wpAnyH_take (i := 18) (oi := ⟨some 36, _, _, _, _, _⟩) rfl (by kernel_rfl) (by kernel_rfl) (by kernel_rfl) (fun _ _ _ h => h) (Or.inr ⟨by kernel_rfl, rfl⟩) (by assumption) ?_
          try simp only [Act.put, List.setIfInBounds_toArray, List.set_cons_zero, List.set_cons_succ]
          refine wpAnyH_take (i := 19) (oi := ⟨some 37, _, _, _, _, _⟩) rfl (by kernel_rfl) (by kernel_rfl) (by kernel_rfl) (fun _ _ _ h => h) (Or.inr ⟨by kernel_rfl, rfl⟩) (by assumption) ?_
          try simp only [Act.put, List.setIfInBounds_toArray, List.set_cons_zero, List.set_cons_succ]
          refine wpAnyH_take (i := 20) (oi := ⟨some 38, _, _, _, _, _⟩) (v := ?_) rfl (by kernel_rfl) (by kernel_rfl) (by kernel_rfl) (fun _ _ _ h => h) (Or.inl ⟨by kernel_rfl, ?_⟩) (by assumption) ?_
          rotate_left
          · intro W hSw
            try dsimp only at hSw
            go_simp
            all_goals (with_reducible rfl)
          try simp only [Act.put, List.setIfInBounds_toArray, List.set_cons_zero, List.set_cons_succ]
          refine wpAnyH_take (i := 21) (oi := ⟨some 39, _, _, _, _, _⟩) (v := ?_) rfl (by kernel_rfl) (by kernel_rfl) (by kernel_rfl) (fun _ _ _ h => h) (Or.inl ⟨by kernel_rfl, ?_⟩) (by assumption) ?_
          rotate_left
          · intro W hSw
            try dsimp only at hSw
            go_simp
            all_goals (with_reducible rfl)
          try simp only [Act.put, List.setIfInBounds_toArray, List.set_cons_zero, List.set_cons_succ]
          refine wpAnyH_done (by kernel_rfl) ?_ _
          go_wp2
          refine wp_region_held_drew (S := fun W => (W.cell? ⟨b, 1, none⟩ = some (.int .i64 T.q.kind) ∧ W.cell? ⟨b, 19, none⟩ = some (.slice an.A an.ps.length an.c) ∧ W.cell? ⟨wr.heap.size, 0, none⟩ = some (.slice yq.1 q.name.length yq.2) ∧ W.cell? ⟨wr.heap.size, 1, none⟩ = some (.int .i64 q.kind))) (by kernel_rfl) (by exact HSX.out _ (HBC.out.trans (Below.refl _ _).drew)) (fun hHeld => ?_)
          refine wpAnyH_take (i := 0) (oi := ⟨some 40, _, _, _, _, _⟩) (v := ?_) rfl (by kernel_rfl) (by kernel_rfl) (by kernel_rfl) (fun _ _ _ h => h) (Or.inl ⟨by kernel_rfl, ?_⟩) (by assumption) ?_
          rotate_left
          · intro W hSw
            try dsimp only at hSw
            go_simp
            all_goals (with_reducible rfl)
          try simp only [Act.put, List.setIfInBounds_toArray, List.set_cons_zero, List.set_cons_succ]
          refine wpAnyH_take (i := 1) (oi := ⟨some 41, _, _, _, _, _⟩) (v := ?_) rfl (by kernel_rfl) (by kernel_rfl) (by kernel_rfl) (fun _ _ _ h => h) (Or.inl ⟨by kernel_rfl, ?_⟩) (by assumption) ?_
          rotate_left
          · intro W hSw
            try dsimp only at hSw
            go_simp
            all_goals (with_reducible rfl)
          try simp only [Act.put, List.setIfInBounds_toArray, List.set_cons_zero, List.set_cons_succ]
          refine wpAnyH_take (i := 2) (oi := ⟨some 42, _, _, _, _, _⟩) (v := ?_) rfl (by kernel_rfl) (by kernel_rfl) (by kernel_rfl) (fun _ _ _ h => h) (Or.inl ⟨by kernel_rfl, ?_⟩) (by assumption) ?_
          rotate_left
          · intro W hSw
            try dsimp only at hSw
            go_simp
            all_goals (with_reducible rfl)
          try simp only [Act.put, List.setIfInBounds_toArray, List.set_cons_zero, List.set_cons_succ]
          refine wpAnyH_take (i := 3) (oi := ⟨some 43, _, _, _, _, _⟩) (v := ?_) rfl (by kernel_rfl) (by kernel_rfl) (by kernel_rfl) (fun _ _ _ h => h) (Or.inl ⟨by kernel_rfl, ?_⟩) (by assumption) ?_
          rotate_left
          · intro W hSw
            try dsimp only at hSw
            go_simp
            all_goals (with_reducible rfl)
          try simp only [Act.put, List.setIfInBounds_toArray, List.set_cons_zero, List.set_cons_succ]
          refine wpAnyH_take (i := 4) (oi := ⟨some 44, _, _, _, _, _⟩) (v := ?_) rfl (by kernel_rfl) (by kernel_rfl) (by kernel_rfl) (fun _ _ _ h => h) (Or.inl ⟨by kernel_rfl, ?_⟩) (by assumption) ?_
          rotate_left
          · intro W hSw
            try dsimp only at hSw
            go_simp
            all_goals (with_reducible rfl)
          try simp only [Act.put, List.setIfInBounds_toArray, List.set_cons_zero, List.set_cons_succ]
          refine wpAnyH_take (i := 5) (oi := ⟨some 45, _, _, _, _, _⟩) (v := ?_) rfl (by kernel_rfl) (by kernel_rfl) (by kernel_rfl) (fun _ _ _ h => h) (Or.inl ⟨by kernel_rfl, ?_⟩) (by assumption) ?_
          rotate_left
          · intro W hSw
            try dsimp only at hSw
            go_simp
            all_goals (with_reducible rfl)
          try simp only [Act.put, List.setIfInBounds_toArray, List.set_cons_zero, List.set_cons_succ]
          refine wpAnyH_take (i := 6) (oi := ⟨some 46, _, _, _, _, _⟩) (v := ?_) rfl (by kernel_rfl) (by kernel_rfl) (by kernel_rfl) (fun _ _ _ h => h) (Or.inl ⟨by kernel_rfl, ?_⟩) (by assumption) ?_
          rotate_left
          · intro W hSw
            try dsimp only at hSw
            go_simp
            all_goals (with_reducible rfl)
          try simp only [Act.put, List.setIfInBounds_toArray, List.set_cons_zero, List.set_cons_succ]
          refine wpAnyH_take (i := 7) (oi := ⟨some 47, _, _, _, _, _⟩) (v := ?_) rfl (by kernel_rfl) (by kernel_rfl) (by kernel_rfl) (fun _ _ _ h => h) (Or.inl ⟨by kernel_rfl, ?_⟩) (by assumption) ?_
          rotate_left
          · intro W hSw
            try dsimp only at hSw
            go_simp
            all_goals (with_reducible rfl)
          try simp only [Act.put, List.setIfInBounds_toArray, List.set_cons_zero, List.set_cons_succ]
          refine wpAnyH_take (i := 8) (oi := ⟨some 48, _, _, _, _, _⟩) (v := ?_) rfl (by kernel_rfl) (by kernel_rfl) (by kernel_rfl) (fun _ _ _ h => h) (Or.inl ⟨by kernel_rfl, ?_⟩) (by assumption) ?_
          rotate_left
          · intro W hSw
            try dsimp only at hSw
            go_simp
            all_goals (with_reducible rfl)
          try simp only [Act.put, List.setIfInBounds_toArray, List.set_cons_zero, List.set_cons_succ]
          refine wpAnyH_ready (rs := [9]) (by kernel_rfl) (by simp) ?_
          refine AllReadyH.cons (o := { dst := some 49, op := Go.Op.call { callee := Go.Callee.value (Go.Operand.func 77), args := #[Go.Operand.tmp 48], argTypes := #[69] }, type := 3, pos := "from.go:95", after := #[{ on := 8, ground := Go.Ground.data }], guard := none }) rfl (fun K hK => ?_) AllReadyH.nil
          go_simp
          refine (HRK.out _ (HBC.out.trans (Below.refl _ _).drew)).mono ?_
          rintro e wx ⟨rfl, rfl⟩
          refine hK.out _ _ (by exact hHeld) (fun hHeld2 => ?_)
          clear hK K hHeld
          have hHeld := hHeld2
          clear hHeld2
          try simp only [Act.put, List.setIfInBounds_toArray, List.set_cons_zero, List.set_cons_succ]
          refine wpAnyH_ready (rs := [10]) (by kernel_rfl) (by simp) ?_
          refine AllReadyH.cons (o := { dst := some 50, op := Go.Op.call { callee := Go.Callee.value (Go.Operand.func 78), args := #[Go.Operand.tmp 40, Go.Operand.tmp 44, Go.Operand.tmp 45, Go.Operand.tmp 47, Go.Operand.tmp 49], argTypes := #[69, 22, 23, 3, 3] }, type := 24, pos := "from.go:95", after := #[{ on := 0, ground := Go.Ground.data }, { on := 4, ground := Go.Ground.data }, { on := 5, ground := Go.Ground.data }, { on := 7, ground := Go.Ground.data }, { on := 9, ground := Go.Ground.data }, { on := 9, ground := Go.Ground.chain }], guard := none }) rfl (fun K hK => ?_) AllReadyH.nil
          go_simp
          refine (HST.out _ (HBC.out.trans (Below.refl _ _).drew)).mono ?_
          rintro e w5 ⟨A5, c5, qs5, rfl, _, _, v5, xs5, ht5, hl5, hk5, hz5⟩
          have HBW := Lib.hid (HNEW.out.trans ((HBC.out.trans (Below.refl _ _).drew).mono (Nat.le_of_lt hzl)))
          have HT5 := Lib.hid ht5
          have HL5 := Lib.hid hl5
          have HK5 := Lib.hid (show KeptT wr w5 from (KeptT.below HBW.out).trans hk5)
          have HZ5 := Lib.hid (show wr.heap.size ≤ w5.heap.size from Nat.le_trans HBW.out.size hz5)
          have HS5 := Lib.hid (show (w5.cell? ⟨b, 1, none⟩ = some (.int .i64 T.q.kind) ∧ w5.cell? ⟨b, 19, none⟩ = some (.slice an.A an.ps.length an.c) ∧ w5.cell? ⟨wr.heap.size, 0, none⟩ = some (.slice yq.1 q.name.length yq.2) ∧ w5.cell? ⟨wr.heap.size, 1, none⟩ = some (.int .i64 q.kind)) from ⟨HT5.out.blk.cell 1, HT5.out.blk.cell 19, (hk5.whole (HWB.out.below (HBC.out.trans (Below.refl _ _).drew) HWB.out.lt) qst_notT).cell 0, (hk5.whole (HWB.out.below (HBC.out.trans (Below.refl _ _).drew) HWB.out.lt) qst_notT).cell 1⟩)
          clear ht5 hl5 hk5 hz5
          refine hK.out _ _ (by exact HS5.out) (fun hHeld2 => ?_)
          clear hK K hHeld
          have hHeld := hHeld2
          clear hHeld2
          try simp only [Act.put, List.setIfInBounds_toArray, List.set_cons_zero, List.set_cons_succ]
          refine wpAnyH_done (by kernel_rfl) ?_ _
          go_wp2
          exact ⟨⟨j + 1, true, v5, xs5, by omega, rfl, by go_num, HT5.out, by have h1 := HLX.out; have h2 := HL5.out; omega, HK.out.trans HK5.out, Nat.le_trans HZ.out HZ5.out⟩, by simp [intOf]; omega⟩
        have t1 : (q.kind == T.q.kind) = false := by rw [beq_eq_false_iff_ne]; exact k1
        by_cases k2 : T.q.kind = 255
        · have t2 : (T.q.kind == 255) = true := by rw [k2]; rfl
          have HK2 := Lib.hid k2
          clear k1 k2
          go_wp2
          refine wp_region_held_drew (S := fun W => (W.cell? ⟨b, 1, none⟩ = some (.int .i64 T.q.kind) ∧ W.cell? ⟨b, 19, none⟩ = some (.slice an.A an.ps.length an.c) ∧ W.cell? ⟨wr.heap.size, 0, none⟩ = some (.slice yq.1 q.name.length yq.2) ∧ W.cell? ⟨wr.heap.size, 1, none⟩ = some (.int .i64 q.kind))) (by kernel_rfl) (by exact HSX.out _ HBC.out) (fun hHeld => ?_)
          refine wpAnyH_take (i := 0) (oi := ⟨some 18, _, _, _, _, _⟩) (v := ?_) rfl (by kernel_rfl) (by kernel_rfl) (by kernel_rfl) (fun _ _ _ h => h) (Or.inl ⟨by kernel_rfl, ?_⟩) (by assumption) ?_
          rotate_left
          · intro W hSw
            try dsimp only at hSw
            go_simp
            all_goals (with_reducible rfl)
          try simp only [Act.put, List.setIfInBounds_toArray, List.set_cons_zero, List.set_cons_succ]
          refine wpAnyH_take (i := 1) (oi := ⟨some 19, _, _, _, _, _⟩) (v := ?_) rfl (by kernel_rfl) (by kernel_rfl) (by kernel_rfl) (fun _ _ _ h => h) (Or.inl ⟨by kernel_rfl, ?_⟩) (by assumption) ?_
          rotate_left
          · intro W hSw
            try dsimp only at hSw
            go_simp
            all_goals (with_reducible rfl)
          try simp only [Act.put, List.setIfInBounds_toArray, List.set_cons_zero, List.set_cons_succ]
          refine wpAnyH_take (i := 2) (oi := ⟨some 20, _, _, _, _, _⟩) (v := ?_) rfl (by kernel_rfl) (by kernel_rfl) (by kernel_rfl) (fun _ _ _ h => h) (Or.inl ⟨by kernel_rfl, ?_⟩) (by assumption) ?_
          rotate_left
          · intro W hSw
            try dsimp only at hSw
            go_simp
            all_goals (with_reducible rfl)
          try simp only [Act.put, List.setIfInBounds_toArray, List.set_cons_zero, List.set_cons_succ]
          refine wpAnyH_ready (rs := [3]) (by kernel_rfl) (by simp) ?_
          refine AllReadyH.cons (o := { dst := some 21, op := Go.Op.call { callee := Go.Callee.value (Go.Operand.func 24), args := #[Go.Operand.tmp 19, Go.Operand.tmp 20], argTypes := #[23, 23] }, type := 4, pos := "from.go:94", after := #[{ on := 1, ground := Go.Ground.data }, { on := 2, ground := Go.Ground.data }], guard := none }) rfl (fun K hK => ?_) AllReadyH.nil
          go_simp
          refine (HEQ.out _ HBC.out).mono ?_
          rintro e w4 ⟨rfl, hb4⟩
          have HBC := Lib.hid (HBC.out.trans (hb4.mono HBC.out.size))
          clear hb4
          refine hK.out _ _ (by exact HSX.out _ HBC.out) (fun hHeld2 => ?_)
          clear hK K hHeld
          have hHeld := hHeld2
          clear hHeld2
          try simp only [Act.put, List.setIfInBounds_toArray, List.set_cons_zero, List.set_cons_succ]
          refine wpAnyH_take (i := 4) (oi := ⟨some 22, _, _, _, _, _⟩) (v := ?_) rfl (by kernel_rfl) (by kernel_rfl) (by kernel_rfl) (fun _ _ _ h => h) (Or.inl ⟨by kernel_rfl, ?_⟩) (by assumption) ?_
          rotate_left
          · intro W hSw
            try dsimp only at hSw
            go_simp
            all_goals (with_reducible rfl)
          try simp only [Act.put, List.setIfInBounds_toArray, List.set_cons_zero, List.set_cons_succ]
          refine wpAnyH_take (i := 5) (oi := ⟨some 23, _, _, _, _, _⟩) (v := ?_) rfl (by kernel_rfl) (by kernel_rfl) (by kernel_rfl) (fun _ _ _ h => h) (Or.inl ⟨by kernel_rfl, ?_⟩) (by assumption) ?_
          rotate_left
          · intro W hSw
            try dsimp only at hSw
            go_simp
            all_goals (with_reducible rfl)
          try simp only [Act.put, List.setIfInBounds_toArray, List.set_cons_zero, List.set_cons_succ]
          refine wpAnyH_take (i := 6) (oi := ⟨some 24, _, _, _, _, _⟩) (v := ?_) rfl (by kernel_rfl) (by kernel_rfl) (by kernel_rfl) (fun _ _ _ h => h) (Or.inl ⟨by kernel_rfl, ?_⟩) (by assumption) ?_
          rotate_left
          · intro W hSw
            try dsimp only at hSw
            go_simp
            all_goals (with_reducible rfl)
          try simp only [Act.put, List.setIfInBounds_toArray, List.set_cons_zero, List.set_cons_succ]
          refine wpAnyH_take (i := 7) (oi := ⟨some 25, _, _, _, _, _⟩) (v := ?_) rfl (by kernel_rfl) (by kernel_rfl) (by kernel_rfl) (fun _ _ _ h => h) (Or.inl ⟨by kernel_rfl, ?_⟩) (by assumption) ?_
          rotate_left
          · intro W hSw
            try dsimp only at hSw
            go_simp
            all_goals (with_reducible rfl)
          try simp only [Act.put, List.setIfInBounds_toArray, List.set_cons_zero, List.set_cons_succ]
          refine wpAnyH_take (i := 8) (oi := ⟨some 26, _, _, _, _, _⟩) (v := ?_) rfl (by kernel_rfl) (by kernel_rfl) (by kernel_rfl) (fun _ _ _ h => h) (Or.inl ⟨by kernel_rfl, ?_⟩) (by assumption) ?_
          rotate_left
          · intro W hSw
            try dsimp only at hSw
            go_simp
            all_goals (with_reducible rfl)
          try simp only [Act.put, List.setIfInBounds_toArray, List.set_cons_zero, List.set_cons_succ]
          refine wpAnyH_take (i := 9) (oi := ⟨some 27, _, _, _, _, _⟩) (v := ?_) rfl (by kernel_rfl) (by kernel_rfl) (by kernel_rfl) (fun _ _ _ h => h) (Or.inl ⟨by kernel_rfl, ?_⟩) (by assumption) ?_
          rotate_left
          · intro W hSw
            try dsimp only at hSw
            go_simp
            all_goals (with_reducible rfl)
          try simp only [Act.put, List.setIfInBounds_toArray, List.set_cons_zero, List.set_cons_succ]
          refine wpAnyH_take (i := 10) (oi := ⟨some 28, _, _, _, _, _⟩) (v := ?_) rfl (by kernel_rfl) (by kernel_rfl) (by kernel_rfl) (fun _ _ _ h => h) (Or.inl ⟨by kernel_rfl, ?_⟩) (by assumption) ?_
          rotate_left
          · intro W hSw
            try dsimp only at hSw
            go_simp
            all_goals (with_reducible rfl)
          try simp only [Act.put, List.setIfInBounds_toArray, List.set_cons_zero, List.set_cons_succ]
          refine wpAnyH_take (i := 11) (oi := ⟨some 29, _, _, _, _, _⟩) (v := ?_) rfl (by kernel_rfl) (by kernel_rfl) (by kernel_rfl) (fun _ _ _ h => h) (Or.inl ⟨by kernel_rfl, ?_⟩) (by assumption) ?_
          rotate_left
          · intro W hSw
            try dsimp only at hSw
            go_simp
            all_goals (with_reducible rfl)
          try simp only [Act.put, List.setIfInBounds_toArray, List.set_cons_zero, List.set_cons_succ]
          refine wpAnyH_take (i := 12) (oi := ⟨some 30, _, _, _, _, _⟩) (v := ?_) rfl (by kernel_rfl) (by kernel_rfl) (by kernel_rfl) (fun _ _ _ h => h) (Or.inl ⟨by kernel_rfl, ?_⟩) (by assumption) ?_
          rotate_left
          · intro W hSw
            try dsimp only at hSw
            go_simp
            all_goals (with_reducible rfl)
          try simp only [Act.put, List.setIfInBounds_toArray, List.set_cons_zero, List.set_cons_succ]
          refine wpAnyH_take (i := 13) (oi := ⟨some 31, _, _, _, _, _⟩) (v := ?_) rfl (by kernel_rfl) (by kernel_rfl) (by kernel_rfl) (fun _ _ _ h => h) (Or.inl ⟨by kernel_rfl, ?_⟩) (by assumption) ?_
          rotate_left
          · intro W hSw
            try dsimp only at hSw
            go_simp
            all_goals (with_reducible rfl)
          try simp only [Act.put, List.setIfInBounds_toArray, List.set_cons_zero, List.set_cons_succ]
          refine wpAnyH_take (i := 14) (oi := ⟨some 32, _, _, _, _, _⟩) (v := ?_) rfl (by kernel_rfl) (by kernel_rfl) (by kernel_rfl) (fun _ _ _ h => h) (Or.inl ⟨by kernel_rfl, ?_⟩) (by assumption) ?_
          rotate_left
          · intro W hSw
            try dsimp only at hSw
            go_simp
            all_goals (with_reducible rfl)
          try simp only [Act.put, List.setIfInBounds_toArray, List.set_cons_zero, List.set_cons_succ]
          refine wpAnyH_take (i := 15) (oi := ⟨some 33, _, _, _, _, _⟩) (v := ?_) rfl (by kernel_rfl) (by kernel_rfl) (by kernel_rfl) (fun _ _ _ h => h) (Or.inl ⟨by kernel_rfl, ?_⟩) (by assumption) ?_
          rotate_left
          · intro W hSw
            try dsimp only at hSw
            go_simp
            all_goals (with_reducible rfl)
          try simp only [Act.put, List.setIfInBounds_toArray, List.set_cons_zero, List.set_cons_succ]
          refine wpAnyH_take (i := 16) (oi := ⟨some 34, _, _, _, _, _⟩) (v := ?_) rfl (by kernel_rfl) (by kernel_rfl) (by kernel_rfl) (fun _ _ _ h => h) (Or.inl ⟨by kernel_rfl, ?_⟩) (by assumption) ?_
          rotate_left
          · intro W hSw
            try dsimp only at hSw
            go_simp
            all_goals (with_reducible rfl)
          try simp only [Act.put, List.setIfInBounds_toArray, List.set_cons_zero, List.set_cons_succ]
          refine wpAnyH_take (i := 17) (oi := ⟨some 35, _, _, _, _, _⟩) (v := ?_) rfl (by kernel_rfl) (by kernel_rfl) (by kernel_rfl) (fun _ _ _ h => h) (Or.inl ⟨by kernel_rfl, ?_⟩) (by assumption) ?_
          rotate_left
          · intro W hSw
            try dsimp only at hSw
            go_simp
            all_goals (with_reducible rfl)
          try simp only [Act.put, List.setIfInBounds_toArray, List.set_cons_zero, List.set_cons_succ]
          refine wpAnyH_take (i := 18) (oi := ⟨some 36, _, _, _, _, _⟩) (v := ?_) rfl (by kernel_rfl) (by kernel_rfl) (by kernel_rfl) (fun _ _ _ h => h) (Or.inl ⟨by kernel_rfl, ?_⟩) (by assumption) ?_
          rotate_left
          · intro W hSw
            try dsimp only at hSw
            go_simp
            all_goals (with_reducible rfl)
          try simp only [Act.put, List.setIfInBounds_toArray, List.set_cons_zero, List.set_cons_succ]
          refine wpAnyH_take (i := 19) (oi := ⟨some 37, _, _, _, _, _⟩) (v := ?_) rfl (by kernel_rfl) (by kernel_rfl) (by kernel_rfl) (fun _ _ _ h => h) (Or.inl ⟨by kernel_rfl, ?_⟩) (by assumption) ?_
          rotate_left
          · intro W hSw
            try dsimp only at hSw
            go_simp
            all_goals (with_reducible rfl)
          try simp only [Act.put, List.setIfInBounds_toArray, List.set_cons_zero, List.set_cons_succ]
          refine wpAnyH_take (i := 20) (oi := ⟨some 38, _, _, _, _, _⟩) (v := ?_) rfl (by kernel_rfl) (by kernel_rfl) (by kernel_rfl) (fun _ _ _ h => h) (Or.inl ⟨by kernel_rfl, ?_⟩) (by assumption) ?_
          rotate_left
          · intro W hSw
            try dsimp only at hSw
            go_simp
            all_goals (with_reducible rfl)
          try simp only [Act.put, List.setIfInBounds_toArray, List.set_cons_zero, List.set_cons_succ]
          refine wpAnyH_take (i := 21) (oi := ⟨some 39, _, _, _, _, _⟩) (v := ?_) rfl (by kernel_rfl) (by kernel_rfl) (by kernel_rfl) (fun _ _ _ h => h) (Or.inl ⟨by kernel_rfl, ?_⟩) (by assumption) ?_
          rotate_left
          · intro W hSw
            try dsimp only at hSw
            go_simp
            all_goals (with_reducible rfl)
          try simp only [Act.put, List.setIfInBounds_toArray, List.set_cons_zero, List.set_cons_succ]
          refine wpAnyH_done (by kernel_rfl) ?_ _
          go_wp2
          refine wp_region_held_drew (S := fun W => (W.cell? ⟨b, 1, none⟩ = some (.int .i64 T.q.kind) ∧ W.cell? ⟨b, 19, none⟩ = some (.slice an.A an.ps.length an.c) ∧ W.cell? ⟨wr.heap.size, 0, none⟩ = some (.slice yq.1 q.name.length yq.2) ∧ W.cell? ⟨wr.heap.size, 1, none⟩ = some (.int .i64 q.kind))) (by kernel_rfl) (by exact HSX.out _ (HBC.out.trans (Below.refl _ _).drew)) (fun hHeld => ?_)
          refine wpAnyH_take (i := 0) (oi := ⟨some 40, _, _, _, _, _⟩) (v := ?_) rfl (by kernel_rfl) (by kernel_rfl) (by kernel_rfl) (fun _ _ _ h => h) (Or.inl ⟨by kernel_rfl, ?_⟩) (by assumption) ?_
          rotate_left
          · intro W hSw
            try dsimp only at hSw
            go_simp
            all_goals (with_reducible rfl)
          try simp only [Act.put, List.setIfInBounds_toArray, List.set_cons_zero, List.set_cons_succ]
          refine wpAnyH_take (i := 1) (oi := ⟨some 41, _, _, _, _, _⟩) (v := ?_) rfl (by kernel_rfl) (by kernel_rfl) (by kernel_rfl) (fun _ _ _ h => h) (Or.inl ⟨by kernel_rfl, ?_⟩) (by assumption) ?_
          rotate_left
          · intro W hSw
            try dsimp only at hSw
            go_simp
            all_goals (with_reducible rfl)
          try simp only [Act.put, List.setIfInBounds_toArray, List.set_cons_zero, List.set_cons_succ]
          refine wpAnyH_take (i := 2) (oi := ⟨some 42, _, _, _, _, _⟩) (v := ?_) rfl (by kernel_rfl) (by kernel_rfl) (by kernel_rfl) (fun _ _ _ h => h) (Or.inl ⟨by kernel_rfl, ?_⟩) (by assumption) ?_
          rotate_left
          · intro W hSw
            try dsimp only at hSw
            go_simp
            all_goals (with_reducible rfl)
          try simp only [Act.put, List.setIfInBounds_toArray, List.set_cons_zero, List.set_cons_succ]
          refine wpAnyH_take (i := 3) (oi := ⟨some 43, _, _, _, _, _⟩) (v := ?_) rfl (by kernel_rfl) (by kernel_rfl) (by kernel_rfl) (fun _ _ _ h => h) (Or.inl ⟨by kernel_rfl, ?_⟩) (by assumption) ?_
          rotate_left
          · intro W hSw
            try dsimp only at hSw
            go_simp
            all_goals (with_reducible rfl)
          try simp only [Act.put, List.setIfInBounds_toArray, List.set_cons_zero, List.set_cons_succ]
          refine wpAnyH_take (i := 4) (oi := ⟨some 44, _, _, _, _, _⟩) (v := ?_) rfl (by kernel_rfl) (by kernel_rfl) (by kernel_rfl) (fun _ _ _ h => h) (Or.inl ⟨by kernel_rfl, ?_⟩) (by assumption) ?_
          rotate_left
          · intro W hSw
            try dsimp only at hSw
            go_simp
            all_goals (with_reducible rfl)
          try simp only [Act.put, List.setIfInBounds_toArray, List.set_cons_zero, List.set_cons_succ]
          refine wpAnyH_take (i := 5) (oi := ⟨some 45, _, _, _, _, _⟩) (v := ?_) rfl (by kernel_rfl) (by kernel_rfl) (by kernel_rfl) (fun _ _ _ h => h) (Or.inl ⟨by kernel_rfl, ?_⟩) (by assumption) ?_
          rotate_left
          · intro W hSw
            try dsimp only at hSw
            go_simp
            all_goals (with_reducible rfl)
          try simp only [Act.put, List.setIfInBounds_toArray, List.set_cons_zero, List.set_cons_succ]
          refine wpAnyH_take (i := 6) (oi := ⟨some 46, _, _, _, _, _⟩) (v := ?_) rfl (by kernel_rfl) (by kernel_rfl) (by kernel_rfl) (fun _ _ _ h => h) (Or.inl ⟨by kernel_rfl, ?_⟩) (by assumption) ?_
          rotate_left
          · intro W hSw
            try dsimp only at hSw
            go_simp
            all_goals (with_reducible rfl)
          try simp only [Act.put, List.setIfInBounds_toArray, List.set_cons_zero, List.set_cons_succ]
          refine wpAnyH_take (i := 7) (oi := ⟨some 47, _, _, _, _, _⟩) (v := ?_) rfl (by kernel_rfl) (by kernel_rfl) (by kernel_rfl) (fun _ _ _ h => h) (Or.inl ⟨by kernel_rfl, ?_⟩) (by assumption) ?_
          rotate_left
          · intro W hSw
            try dsimp only at hSw
            go_simp
            all_goals (with_reducible rfl)
          try simp only [Act.put, List.setIfInBounds_toArray, List.set_cons_zero, List.set_cons_succ]
          refine wpAnyH_take (i := 8) (oi := ⟨some 48, _, _, _, _, _⟩) (v := ?_) rfl (by kernel_rfl) (by kernel_rfl) (by kernel_rfl) (fun _ _ _ h => h) (Or.inl ⟨by kernel_rfl, ?_⟩) (by assumption) ?_
          rotate_left
          · intro W hSw
            try dsimp only at hSw
            go_simp
            all_goals (with_reducible rfl)
          try simp only [Act.put, List.setIfInBounds_toArray, List.set_cons_zero, List.set_cons_succ]
          refine wpAnyH_ready (rs := [9]) (by kernel_rfl) (by simp) ?_
          refine AllReadyH.cons (o := { dst := some 49, op := Go.Op.call { callee := Go.Callee.value (Go.Operand.func 77), args := #[Go.Operand.tmp 48], argTypes := #[69] }, type := 3, pos := "from.go:95", after := #[{ on := 8, ground := Go.Ground.data }], guard := none }) rfl (fun K hK => ?_) AllReadyH.nil
          go_simp
          refine (HRK.out _ (HBC.out.trans (Below.refl _ _).drew)).mono ?_
          rintro e wx ⟨rfl, rfl⟩
          refine hK.out _ _ (by exact hHeld) (fun hHeld2 => ?_)
          clear hK K hHeld
          have hHeld := hHeld2
          clear hHeld2
          try simp only [Act.put, List.setIfInBounds_toArray, List.set_cons_zero, List.set_cons_succ]
          refine wpAnyH_ready (rs := [10]) (by kernel_rfl) (by simp) ?_
          refine AllReadyH.cons (o := { dst := some 50, op := Go.Op.call { callee := Go.Callee.value (Go.Operand.func 78), args := #[Go.Operand.tmp 40, Go.Operand.tmp 44, Go.Operand.tmp 45, Go.Operand.tmp 47, Go.Operand.tmp 49], argTypes := #[69, 22, 23, 3, 3] }, type := 24, pos := "from.go:95", after := #[{ on := 0, ground := Go.Ground.data }, { on := 4, ground := Go.Ground.data }, { on := 5, ground := Go.Ground.data }, { on := 7, ground := Go.Ground.data }, { on := 9, ground := Go.Ground.data }, { on := 9, ground := Go.Ground.chain }], guard := none }) rfl (fun K hK => ?_) AllReadyH.nil
          go_simp
          refine (HST.out _ (HBC.out.trans (Below.refl _ _).drew)).mono ?_
          rintro e w5 ⟨A5, c5, qs5, rfl, _, _, v5, xs5, ht5, hl5, hk5, hz5⟩
          have HBW := Lib.hid (HNEW.out.trans ((HBC.out.trans (Below.refl _ _).drew).mono (Nat.le_of_lt hzl)))
          have HT5 := Lib.hid ht5
          have HL5 := Lib.hid hl5
          have HK5 := Lib.hid (show KeptT wr w5 from (KeptT.below HBW.out).trans hk5)
          have HZ5 := Lib.hid (show wr.heap.size ≤ w5.heap.size from Nat.le_trans HBW.out.size hz5)
          have HS5 := Lib.hid (show (w5.cell? ⟨b, 1, none⟩ = some (.int .i64 T.q.kind) ∧ w5.cell? ⟨b, 19, none⟩ = some (.slice an.A an.ps.length an.c) ∧ w5.cell? ⟨wr.heap.size, 0, none⟩ = some (.slice yq.1 q.name.length yq.2) ∧ w5.cell? ⟨wr.heap.size, 1, none⟩ = some (.int .i64 q.kind)) from ⟨HT5.out.blk.cell 1, HT5.out.blk.cell 19, (hk5.whole (HWB.out.below (HBC.out.trans (Below.refl _ _).drew) HWB.out.lt) qst_notT).cell 0, (hk5.whole (HWB.out.below (HBC.out.trans (Below.refl _ _).drew) HWB.out.lt) qst_notT).cell 1⟩)
          clear ht5 hl5 hk5 hz5
          refine hK.out _ _ (by exact HS5.out) (fun hHeld2 => ?_)
          clear hK K hHeld
          have hHeld := hHeld2
          clear hHeld2
          try simp only [Act.put, List.setIfInBounds_toArray, List.set_cons_zero, List.set_cons_succ]
          refine wpAnyH_done (by kernel_rfl) ?_ _
          go_wp2
          exact ⟨⟨j + 1, true, v5, xs5, by omega, rfl, by go_num, HT5.out, by have h1 := HLX.out; have h2 := HL5.out; omega, HK.out.trans HK5.out, Nat.le_trans HZ.out HZ5.out⟩, by simp [intOf]; omega⟩
        have t2 : (T.q.kind == 255) = false := by rw [beq_eq_false_iff_ne]; exact k2
        clear k1 k2
        go_wp2
        refine wp_region_held_drew (S := fun W => (W.cell? ⟨b, 1, none⟩ = some (.int .i64 T.q.kind) ∧ W.cell? ⟨b, 19, none⟩ = some (.slice an.A an.ps.length an.c) ∧ W.cell? ⟨wr.heap.size, 0, none⟩ = some (.slice yq.1 q.name.length yq.2) ∧ W.cell? ⟨wr.heap.size, 1, none⟩ = some (.int .i64 q.kind))) (by kernel_rfl) (by exact HSX.out _ HBC.out) (fun hHeld => ?_)
        refine wpAnyH_take (i := 0) (oi := ⟨some 18, _, _, _, _, _⟩) (v := ?_) rfl (by kernel_rfl) (by kernel_rfl) (by kernel_rfl) (fun _ _ _ h => h) (Or.inl ⟨by kernel_rfl, ?_⟩) (by assumption) ?_
        rotate_left
        · intro W hSw
          try dsimp only at hSw
          go_simp
          all_goals (with_reducible rfl)
        try simp only [Act.put, List.setIfInBounds_toArray, List.set_cons_zero, List.set_cons_succ]
        refine wpAnyH_take (i := 1) (oi := ⟨some 19, _, _, _, _, _⟩) (v := ?_) rfl (by kernel_rfl) (by kernel_rfl) (by kernel_rfl) (fun _ _ _ h => h) (Or.inl ⟨by kernel_rfl, ?_⟩) (by assumption) ?_
        rotate_left
        · intro W hSw
          try dsimp only at hSw
          go_simp
          all_goals (with_reducible rfl)
        try simp only [Act.put, List.setIfInBounds_toArray, List.set_cons_zero, List.set_cons_succ]
        refine wpAnyH_take (i := 2) (oi := ⟨some 20, _, _, _, _, _⟩) (v := ?_) rfl (by kernel_rfl) (by kernel_rfl) (by kernel_rfl) (fun _ _ _ h => h) (Or.inl ⟨by kernel_rfl, ?_⟩) (by assumption) ?_
        rotate_left
        · intro W hSw
          try dsimp only at hSw
          go_simp
          all_goals (with_reducible rfl)
        try simp only [Act.put, List.setIfInBounds_toArray, List.set_cons_zero, List.set_cons_succ]
        refine wpAnyH_ready (rs := [3]) (by kernel_rfl) (by simp) ?_
        refine AllReadyH.cons (o := { dst := some 21, op := Go.Op.call { callee := Go.Callee.value (Go.Operand.func 24), args := #[Go.Operand.tmp 19, Go.Operand.tmp 20], argTypes := #[23, 23] }, type := 4, pos := "from.go:94", after := #[{ on := 1, ground := Go.Ground.data }, { on := 2, ground := Go.Ground.data }], guard := none }) rfl (fun K hK => ?_) AllReadyH.nil
        go_simp
        refine (HEQ.out _ HBC.out).mono ?_
        rintro e w4 ⟨rfl, hb4⟩
        have HBC := Lib.hid (HBC.out.trans (hb4.mono HBC.out.size))
        clear hb4
        refine hK.out _ _ (by exact HSX.out _ HBC.out) (fun hHeld2 => ?_)
        clear hK K hHeld
        have hHeld := hHeld2
        clear hHeld2
        try simp only [Act.put, List.setIfInBounds_toArray, List.set_cons_zero, List.set_cons_succ]
        refine wpAnyH_take (i := 4) (oi := ⟨some 22, _, _, _, _, _⟩) (v := ?_) rfl (by kernel_rfl) (by kernel_rfl) (by kernel_rfl) (fun _ _ _ h => h) (Or.inl ⟨by kernel_rfl, ?_⟩) (by assumption) ?_
        rotate_left
        · intro W hSw
          try dsimp only at hSw
          go_simp
          all_goals (with_reducible rfl)
        try simp only [Act.put, List.setIfInBounds_toArray, List.set_cons_zero, List.set_cons_succ]
        refine wpAnyH_take (i := 5) (oi := ⟨some 23, _, _, _, _, _⟩) (v := ?_) rfl (by kernel_rfl) (by kernel_rfl) (by kernel_rfl) (fun _ _ _ h => h) (Or.inl ⟨by kernel_rfl, ?_⟩) (by assumption) ?_
        rotate_left
        · intro W hSw
          try dsimp only at hSw
          go_simp
          all_goals (with_reducible rfl)
        try simp only [Act.put, List.setIfInBounds_toArray, List.set_cons_zero, List.set_cons_succ]
        refine wpAnyH_take (i := 6) (oi := ⟨some 24, _, _, _, _, _⟩) (v := ?_) rfl (by kernel_rfl) (by kernel_rfl) (by kernel_rfl) (fun _ _ _ h => h) (Or.inl ⟨by kernel_rfl, ?_⟩) (by assumption) ?_
        rotate_left
        · intro W hSw
          try dsimp only at hSw
          go_simp
          all_goals (with_reducible rfl)
        try simp only [Act.put, List.setIfInBounds_toArray, List.set_cons_zero, List.set_cons_succ]
        refine wpAnyH_take (i := 7) (oi := ⟨some 25, _, _, _, _, _⟩) (v := ?_) rfl (by kernel_rfl) (by kernel_rfl) (by kernel_rfl) (fun _ _ _ h => h) (Or.inl ⟨by kernel_rfl, ?_⟩) (by assumption) ?_
        rotate_left
        · intro W hSw
          try dsimp only at hSw
          go_simp
          all_goals (with_reducible rfl)
        try simp only [Act.put, List.setIfInBounds_toArray, List.set_cons_zero, List.set_cons_succ]
        refine wpAnyH_take (i := 8) (oi := ⟨some 26, _, _, _, _, _⟩) (v := ?_) rfl (by kernel_rfl) (by kernel_rfl) (by kernel_rfl) (fun _ _ _ h => h) (Or.inl ⟨by kernel_rfl, ?_⟩) (by assumption) ?_
        rotate_left
        · intro W hSw
          try dsimp only at hSw
          go_simp
          all_goals (with_reducible rfl)
        try simp only [Act.put, List.setIfInBounds_toArray, List.set_cons_zero, List.set_cons_succ]
        refine wpAnyH_take (i := 9) (oi := ⟨some 27, _, _, _, _, _⟩) (v := ?_) rfl (by kernel_rfl) (by kernel_rfl) (by kernel_rfl) (fun _ _ _ h => h) (Or.inl ⟨by kernel_rfl, ?_⟩) (by assumption) ?_
        rotate_left
        · intro W hSw
          try dsimp only at hSw
          go_simp
          all_goals (with_reducible rfl)
        try simp only [Act.put, List.setIfInBounds_toArray, List.set_cons_zero, List.set_cons_succ]
        refine wpAnyH_take (i := 10) (oi := ⟨some 28, _, _, _, _, _⟩) (v := ?_) rfl (by kernel_rfl) (by kernel_rfl) (by kernel_rfl) (fun _ _ _ h => h) (Or.inl ⟨by kernel_rfl, ?_⟩) (by assumption) ?_
        rotate_left
        · intro W hSw
          try dsimp only at hSw
          go_simp
          all_goals (with_reducible rfl)
        try simp only [Act.put, List.setIfInBounds_toArray, List.set_cons_zero, List.set_cons_succ]
        refine wpAnyH_take (i := 11) (oi := ⟨some 29, _, _, _, _, _⟩) (v := ?_) rfl (by kernel_rfl) (by kernel_rfl) (by kernel_rfl) (fun _ _ _ h => h) (Or.inl ⟨by kernel_rfl, ?_⟩) (by assumption) ?_
        rotate_left
        · intro W hSw
          try dsimp only at hSw
          go_simp
          all_goals (with_reducible rfl)
        try simp only [Act.put, List.setIfInBounds_toArray, List.set_cons_zero, List.set_cons_succ]
        refine wpAnyH_take (i := 12) (oi := ⟨some 30, _, _, _, _, _⟩) (v := ?_) rfl (by kernel_rfl) (by kernel_rfl) (by kernel_rfl) (fun _ _ _ h => h) (Or.inl ⟨by kernel_rfl, ?_⟩) (by assumption) ?_
        rotate_left
        · intro W hSw
          try dsimp only at hSw
          go_simp
          all_goals (with_reducible rfl)
        try simp only [Act.put, List.setIfInBounds_toArray, List.set_cons_zero, List.set_cons_succ]
        refine wpAnyH_take (i := 13) (oi := ⟨some 31, _, _, _, _, _⟩) (v := ?_) rfl (by kernel_rfl) (by kernel_rfl) (by kernel_rfl) (fun _ _ _ h => h) (Or.inl ⟨by kernel_rfl, ?_⟩) (by assumption) ?_
        rotate_left
        · intro W hSw
          try dsimp only at hSw
          go_simp
          all_goals (with_reducible rfl)
        try simp only [Act.put, List.setIfInBounds_toArray, List.set_cons_zero, List.set_cons_succ]
        refine wpAnyH_take (i := 14) (oi := ⟨some 32, _, _, _, _, _⟩) (v := ?_) rfl (by kernel_rfl) (by kernel_rfl) (by kernel_rfl) (fun _ _ _ h => h) (Or.inl ⟨by kernel_rfl, ?_⟩) (by assumption) ?_
        rotate_left
        · intro W hSw
          try dsimp only at hSw
          go_simp
          all_goals (with_reducible rfl)
        try simp only [Act.put, List.setIfInBounds_toArray, List.set_cons_zero, List.set_cons_succ]
        refine wpAnyH_take (i := 15) (oi := ⟨some 33, _, _, _, _, _⟩) (v := ?_) rfl (by kernel_rfl) (by kernel_rfl) (by kernel_rfl) (fun _ _ _ h => h) (Or.inl ⟨by kernel_rfl, ?_⟩) (by assumption) ?_
        rotate_left
        · intro W hSw
          try dsimp only at hSw
          go_simp
          all_goals (with_reducible rfl)
        try simp only [Act.put, List.setIfInBounds_toArray, List.set_cons_zero, List.set_cons_succ]
        refine wpAnyH_take (i := 16) (oi := ⟨some 34, _, _, _, _, _⟩) (v := ?_) rfl (by kernel_rfl) (by kernel_rfl) (by kernel_rfl) (fun _ _ _ h => h) (Or.inl ⟨by kernel_rfl, ?_⟩) (by assumption) ?_
        rotate_left
        · intro W hSw
          try dsimp only at hSw
          go_simp
          all_goals (with_reducible rfl)
        try simp only [Act.put, List.setIfInBounds_toArray, List.set_cons_zero, List.set_cons_succ]
        refine wpAnyH_take (i := 17) (oi := ⟨some 35, _, _, _, _, _⟩) (v := ?_) rfl (by kernel_rfl) (by kernel_rfl) (by kernel_rfl) (fun _ _ _ h => h) (Or.inl ⟨by kernel_rfl, ?_⟩) (by assumption) ?_
        rotate_left
        · intro W hSw
          try dsimp only at hSw
          go_simp
          all_goals (with_reducible rfl)
        try simp only [Act.put, List.setIfInBounds_toArray, List.set_cons_zero, List.set_cons_succ]
        refine wpAnyH_take (i := 18) (oi := ⟨some 36, _, _, _, _, _⟩) (v := ?_) rfl (by kernel_rfl) (by kernel_rfl) (by kernel_rfl) (fun _ _ _ h => h) (Or.inl ⟨by kernel_rfl, ?_⟩) (by assumption) ?_
        rotate_left
        · intro W hSw
          try dsimp only at hSw
          go_simp
          all_goals (with_reducible rfl)
        try simp only [Act.put, List.setIfInBounds_toArray, List.set_cons_zero, List.set_cons_succ]
        refine wpAnyH_take (i := 19) (oi := ⟨some 37, _, _, _, _, _⟩) (v := ?_) rfl (by kernel_rfl) (by kernel_rfl) (by kernel_rfl) (fun _ _ _ h => h) (Or.inl ⟨by kernel_rfl, ?_⟩) (by assumption) ?_
        rotate_left
        · intro W hSw
          try dsimp only at hSw
          go_simp
          all_goals (with_reducible rfl)
        try simp only [Act.put, List.setIfInBounds_toArray, List.set_cons_zero, List.set_cons_succ]
        refine wpAnyH_take (i := 20) (oi := ⟨some 38, _, _, _, _, _⟩) (v := ?_) rfl (by kernel_rfl) (by kernel_rfl) (by kernel_rfl) (fun _ _ _ h => h) (Or.inl ⟨by kernel_rfl, ?_⟩) (by assumption) ?_
        rotate_left
        · intro W hSw
          try dsimp only at hSw
          go_simp
          all_goals (with_reducible rfl)
        try simp only [Act.put, List.setIfInBounds_toArray, List.set_cons_zero, List.set_cons_succ]
        refine wpAnyH_take (i := 21) (oi := ⟨some 39, _, _, _, _, _⟩) (v := ?_) rfl (by kernel_rfl) (by kernel_rfl) (by kernel_rfl) (fun _ _ _ h => h) (Or.inl ⟨by kernel_rfl, ?_⟩) (by assumption) ?_
        rotate_left
        · intro W hSw
          try dsimp only at hSw
          go_simp
          all_goals (with_reducible rfl)
        try simp only [Act.put, List.setIfInBounds_toArray, List.set_cons_zero, List.set_cons_succ]
        refine wpAnyH_done (by kernel_rfl) ?_ _
        have HBW := Lib.hid (HNEW.out.trans (HBC.out.mono (Nat.le_of_lt hzl)))
        go_wp2
        exact ⟨⟨j + 1, bv, v', xs', by omega, rfl, by go_num, HT.out.step HBW.out, by have := HLX.out; omega, HK.out.trans (KeptT.below HBW.out), Nat.le_trans HZ.out HBW.out.size⟩, by simp [intOf]; omega⟩
    · obtain rfl : j = qs.length := by omega
      go_wp2
      go_ret
      exact ⟨bv, rfl, v', xs', HT.out, by have := HLX.out; omega, (KeptT.below HAT.out.below).trans HK.out, Nat.le_trans HAT.out.below.size HZ.out⟩

end Go.Proofs.Ythppgofpbpjglaa
