/-
  The contract of the document's Names.
-/
import Derived.Test.YtjjmllbkfbdcnaaRNames
import Derived.Deep.RegionHeld3
namespace Go.Proofs.Ytjjmllbkfbdcnaa
open Go.RowKit

/-- append onto a row of the call's own, as one step of a region that draws. -/
theorem step_append_q {P : Program} {w : World} {ops : Array Oper} {o : Oper} {a : Act} {K : Act → World → Prop} {Q : Exit → Act → World → Prop} {E : Prop} (hgd : o.guard = none) (s x : Operand) (t : TypeId)
    (ho : o.op = .call { callee := .builtin .append, args := #[s, x], argTypes := #[t, t] })
    (base : Nat) (e : TypeId) (i : TypeInfo) (z : Value) (size bytes : Nat) (ht : P.underlying t = some (.slice e)) (hi : P.info? e = some i) (hz : i.zero = some z)
    (hsize : i.size = size) (hby : i.bytes = bytes) (hzs : z.cells.size = size) (hsz : 0 < size)
    (v : Value) (n : Nat) (xs : List Value) (hs : a.eval s = v) (hown : w.ownsRow base e size v n xs)
    (A : Option Addr) (m c H : Nat) (news : List Value) (hx : a.eval x = .slice A m c) (hl : news.length = m * size) (hr : Row w H A news) (h1 : ∀ u ∈ news, u.oneCell' = true)
    (h63 : n + m ≤ maxLen) (hbytes : (n + m) * bytes ≤ 140737488355328) (hbase : base ≤ w.heap.size)
    (h : ∀ v' w', w'.ownsRow base e size v' (n + m) (xs ++ news) → w.grownBy w' v.ownBlock → K (a.put o.dst v') w') : if Region.wanted o (yielded ops a.tmps) = true then Oper.wp P o a w K Q else E := by
  have hw : Region.wanted o (yielded ops a.tmps) = true := by simp [Region.wanted, hgd]
  rw [if_pos hw]
  obtain ⟨v', w', hrun, h2, h3⟩ := append_row_run (P := P) w base t o.type e i z size bytes ht hi hz hsize hby hzs hsz v n xs hown A m c H news hl hr h1 h63 hbytes hbase
  unfold Oper.wp
  simp [execOp, ho, resolve, invoke, builtin, hs, hx, hrun, Result.andThen]
  exact h v' w' h2 h3

structure NamesAtR (w0 : World) (v : Value) (qs : List (QV × Qt)) (w : World) : Prop where
  row : w.ownsRow w0.heap.size 69 3 v qs.length (qs.flatMap cellsQ)
  each : ∀ q ∈ qs, QAt w0 w0.heap.size q.1 q.2
  below : Below w0.heap.size w0 w
  size : w0.heap.size ≤ w.heap.size
theorem NamesAtR.step {w0 w w' : World} {v : Value} {qs : List (QV × Qt)} (h : NamesAtR w0 v qs w) (hb : Below w.heap.size w w') : NamesAtR w0 v qs w' :=
  ⟨own_keep h.row fun j hj => hb.block j (h.row.lt j hj).2, h.each, h.below.trans (hb.mono h.size), Nat.le_trans h.size hb.size⟩
theorem NamesAtR.reads {w0 w : World} {A : Option Addr} {c : Nat} {qs : List (QV × Qt)} (h : NamesAtR w0 (.slice A qs.length c) qs w) : QsAt w w.heap.size A qs :=
  ⟨Row.of_own h.row, fun q hq => Row.mono (Row.below (h.each q hq) h.below) h.size⟩
theorem NamesAtR.snoc {w0 w w' : World} {v v' : Value} {qs : List (QV × Qt)} (h : NamesAtR w0 v qs w) {y : QV} {d : Qt} (hy : QAt w0 w0.heap.size y d)
    (ho : w'.ownsRow w0.heap.size 69 3 v' (qs.length + 1) (qs.flatMap cellsQ ++ cellsQ (y, d))) (hg : w.grownBy w' v.ownBlock) : NamesAtR w0 v' (qs ++ [(y, d)]) w' := by
  refine ⟨by rw [List.length_append, List.flatMap_append]; simpa using ho, fun q hq => ?_, own_below h.below (Nat.le_refl _) h.size h.row hg, Nat.le_trans h.size hg.size⟩
  rcases List.mem_append.1 hq with hq | hq
  · exact h.each q hq
  · rw [List.mem_singleton.1 hq]
    exact hy
def NamesRelR (w : World) (ps : List (RV × Rt)) (v i : Value) (wr : World) : Prop :=
  ∃ (j : Nat) (qs : List (QV × Qt)), j ≤ ps.length ∧ i = .int .i64 j ∧ qsts qs = namesF (recs (ps.take j)) ∧ qs.length ≤ j ∧ (∀ q ∈ qs, WideN q.2.name) ∧ NamesAtR w v qs wr
/-- Is one like it among the first k? -/
def thereB (qs : List (QV × Qt)) (r : Rt) (k : Nat) : Bool := (r.cls != 1) || (qsts (qs.take k)).any fun e => askQ e (qOf r)
def ThereRel (w : World) (qs : List (QV × Qt)) (r : Rt) (t i : Value) (wr : World) : Prop := ∃ k : Nat, k ≤ qs.length ∧ i = .int .i64 k ∧ t = .bool (thereB qs r k) ∧ Below w.heap.size w wr
theorem thereB_snoc {qs : List (QV × Qt)} {r : Rt} {k : Nat} (hk : k < qs.length) : thereB qs r (k + 1) = (thereB qs r k || askQ (qs[k]).2 (qOf r)) := by
  unfold thereB
  rw [List.take_succ_eq_append_getElem hk, qsts_append, List.any_append, Bool.or_assoc]
  simp [qsts]
theorem thereB_all (qs : List (QV × Qt)) (r : Rt) : thereB qs r qs.length = ((r.cls != 1) || hasQ (qsts qs) (qOf r)) := by
  unfold thereB hasQ
  rw [List.take_length]
  congr 1
  congr 1
  funext e
  exact askQ_turn _ _

set_option maxRecDepth 20000 in
set_option maxHeartbeats 8000000 in
theorem ref_names_any (w : World) (A : Option Addr) (c : Nat) (ps : List (RV × Rt)) (hp : RsAt w w.heap.size A ps) (hr : ∀ p ∈ ps, RIn p.2) (hl : ps.length ≤ 100) :
    Calls Try.prog 39 #[.slice A ps.length c] w (NamesOut w (namesF (recs ps))) := by
  obtain ⟨i0, hi0, hz0, hz1, hz2⟩ := info_parts qst_info
  have HP := Lib.hid hp
  have HR := Lib.hid hr
  clear hp hr
  go_enter Try.func39, Try.ntmps39
  go_wp2
  go_loopw [3, 4] (NamesRelR w ps) (fun _ i _ => ps.length - (intOf i).toNat)
  case atStart => exact ⟨0, [], Nat.zero_le _, rfl, rfl, Nat.le_refl _, fun _ h => absurd h (List.not_mem_nil), World.ownsRow_nil _ _ _ _, fun _ h => absurd h (List.not_mem_nil), Below.refl _ _, Nat.le_refl _⟩
  case round =>
    obtain ⟨j, qs, hj, rfl, hq, hqj, hqw, hs⟩ := hrel
    have HS := Lib.hid hs
    have HQ := Lib.hid hq
    have HQW := Lib.hid hqw
    obtain ⟨A1, c1, rfl, _, _⟩ := own_form hs.row
    clear hs hq hqw
    by_cases hlt : j < ps.length
    · obtain ⟨b, off, rfl, hbH, hra, q0, q1, q2, q3, q4, q5, q6, q7, q8⟩ := HP.out.at_ hlt
      have hri := HR.out _ (List.getElem_mem hlt)
      have HF := Lib.hid (namesF_take hlt)
      revert hra q0 q1 q2 q3 q4 q5 q6 q7 q8 hri HF
      generalize ps[j] = p
      obtain ⟨x, r⟩ := p
      intro hra q0 q1 q2 q3 q4 q5 q6 q7 q8 hri HF
      dsimp only at *
      have HRA := Lib.hid hra
      have HRI := Lib.hid hri
      have Q0 := Lib.hid q0
      have Q1 := Lib.hid q1
      have k2' := (HS.out.below.cell (p := ⟨b, off + j * 9 + 2, none⟩) hbH).trans q2
      clear hra hri q0 q1 q2 q3 q4 q5 q6 q7 q8
      have hj0 : (0 : Int) ≤ (j : Int) := by omega
      have hj1 : (j : Int) < (ps.length : Int) := by omega
      go_wp2
      go_loopw [5, 6] (ThereRel wr qs r) (fun _ i _ => qs.length - (intOf i).toNat)
      case atStart => exact ⟨0, Nat.zero_le _, rfl, by simp [thereB, qsts], Below.refl _ _⟩
      case round =>
        obtain ⟨k, hk, rfl, rfl, hb⟩ := hrel
        have HB := Lib.hid hb
        have HSI := Lib.hid (HS.out.step hb)
        clear hb
        by_cases hlt2 : k < qs.length
        · obtain ⟨b1, o1, rfl, hb1, hda, s0, s1, s2⟩ := HSI.out.reads.at_ hlt2
          have hwd := HQW.out _ (List.getElem_mem hlt2)
          have HTS := Lib.hid (thereB_snoc (r := r) hlt2)
          revert hda s0 s1 s2 hwd HTS
          generalize qs[k] = p1
          obtain ⟨y, d⟩ := p1
          intro hda s0 s1 s2 hwd HTS
          dsimp only at *
          have HDA := Lib.hid hda
          have HWN := Lib.hid hwd
          have S0 := Lib.hid s0
          have S1 := Lib.hid s1
          have m0 := (HSI.out.below.cell (p := ⟨b, off + j * 9, none⟩) hbH).trans Q0.out
          have m1 := (HSI.out.below.cell (p := ⟨b, off + j * 9 + 1, none⟩) hbH).trans Q1.out
          clear hda hwd s2
          have hk0 : (0 : Int) ≤ (k : Int) := by omega
          have hk1 : (k : Int) < (qs.length : Int) := by omega
          by_cases hkd : d.kind = r.kind
          · have t1 : (d.kind == r.kind) = true := by rw [beq_iff_eq]; exact hkd
            have HEQ := Lib.hid (show askQ d (qOf r) = eqN d.name r.name by unfold askQ qOf; rw [decide_eq_true hkd]; rfl)
            clear hkd s0 s1 m0 m1
            have HBD := Lib.hid ((Below.refl wr.heap.size wr).drew)
            have HWD := Lib.hid (HSI.out.below.drew)
            have hzD := HSI.out.size
            go_wp2
            go_region_held3 (fun W => W.cell? ⟨b1, o1 + k * 3, none⟩ = some (.slice y.1 d.name.length y.2) ∧ W.cell? ⟨b1, o1 + k * 3 + 1, none⟩ = some (.int .i64 d.kind) ∧ W.cell? ⟨b, off + j * 9, none⟩ = some (.slice x.A r.name.length x.c) ∧ W.cell? ⟨b, off + j * 9 + 1, none⟩ = some (.int .i64 r.kind))
              (exact ⟨(HBD.out.cell (p := ⟨b1, o1 + k * 3, none⟩) hb1).trans S0.out, (HBD.out.cell (p := ⟨b1, o1 + k * 3 + 1, none⟩) hb1).trans S1.out, (HWD.out.cell (p := ⟨b, off + j * 9, none⟩) hbH).trans Q0.out, (HWD.out.cell (p := ⟨b, off + j * 9 + 1, none⟩) hbH).trans Q1.out⟩)
              ((first
                | (go_at_call 70
                   refine (ref_equal_wide y.1 x.A d.name.length r.name.length y.2 x.c wr.heap.size d.name r.name _ rfl rfl (Row.below HDA.out HBD.out) (Row.mono (Row.below HRA.out.n HWD.out) hzD) HBD.out.size HWN.out HRI.out.n).mono ?_
                   rintro e wn ⟨rfl, hb⟩
                   have HWD := Lib.hid (HWD.out.trans (hb.mono (Nat.le_trans hzD HBD.out.size)))
                   have HBD := Lib.hid (HBD.out.trans (hb.mono HBD.out.size))
                   clear hb)))
            cases hv : eqN d.name r.name with
            | true =>
              have HT := Lib.hid (show thereB qs r (k + 1) = true by rw [HTS.out, HEQ.out, hv]; simp)
              clear HTS HEQ
              go_wp2
              exact ⟨⟨k + 1, by omega, by go_num, by rw [HT.out], HB.out.trans (HBD.out.mono HB.out.size)⟩, by simp [intOf]; omega⟩
            | false =>
              have HT := Lib.hid (show thereB qs r (k + 1) = thereB qs r k by rw [HTS.out, HEQ.out, hv]; simp)
              clear HTS HEQ
              go_wp2
              exact ⟨⟨k + 1, by omega, by go_num, by rw [HT.out], HB.out.trans (HBD.out.mono HB.out.size)⟩, by simp [intOf]; omega⟩
          · have t1 : (d.kind == r.kind) = false := by rw [beq_eq_false_iff_ne]; exact hkd
            have HT := Lib.hid (show thereB qs r (k + 1) = thereB qs r k by rw [HTS.out]; unfold askQ qOf; rw [decide_eq_false hkd]; simp)
            clear hkd HTS
            go_wp2
            go_region
            go_wp2
            exact ⟨⟨k + 1, by omega, by go_num, by rw [HT.out], HB.out.drew⟩, by simp [intOf]; omega⟩
        · obtain rfl : k = qs.length := by omega
          have HALL := Lib.hid (thereB_all qs r)
          cases hth : thereB qs r qs.length with
          | true =>
            have HE := Lib.hid (show namesF (recs (ps.take (j + 1))) = namesF (recs (ps.take j)) by
              rw [HF.out]
              unfold stepN
              rw [if_neg]
              rintro ⟨h1, h2⟩
              have h := HALL.out
              rw [hth, HQ.out, h2, h1] at h
              exact absurd h (by decide))
            clear HF HALL
            go_wp2
            exact ⟨⟨j + 1, qs, by omega, by go_num, by rw [HE.out]; exact HQ.out, by omega, HQW.out, HSI.out⟩, by simp [intOf]; omega⟩
          | false =>
            have hcls : r.cls = 1 ∧ hasQ (qsts qs) (qOf r) = false := by
              have h := HALL.out
              rw [hth] at h
              have h2 := (Bool.or_eq_false_iff.1 h.symm)
              exact ⟨by simpa using h2.1, h2.2⟩
            have HE := Lib.hid (show namesF (recs (ps.take (j + 1))) = namesF (recs (ps.take j)) ++ [qOf r] by
              rw [HF.out]
              unfold stepN
              rw [← HQ.out, if_pos hcls])
            have HC1 := Lib.hid hcls.1
            clear HF HALL hcls
            have HWD := Lib.hid (HSI.out.below.drew)
            have hzD := HSI.out.size
            have hbw : b < wr.heap.size := Nat.lt_of_lt_of_le hbH hzD
            have hnew : Below wr.heap.size wr (wr.drew.alloc (.cells #[.slice x.A r.name.length x.c, .int .i64 r.kind, .int .i64 1] 69)) := ((Below.refl _ wr).drew).alloc (Nat.le_refl _) _
            have HS6 := Lib.hid (HSI.out.step hnew)
            have HRD := Lib.hid (Row.made wr.drew #[.slice x.A r.name.length x.c, .int .i64 r.kind, .int .i64 1] 69)
            clear hnew
            go_wp2
            go_region_held3 (fun W => W.cell? ⟨b, off + j * 9, none⟩ = some (.slice x.A r.name.length x.c) ∧ W.cell? ⟨b, off + j * 9 + 1, none⟩ = some (.int .i64 r.kind))
              (first | (exact ⟨(HS7.out.below.cell (p := ⟨b, off + j * 9, none⟩) hbH).trans Q0.out, (HS7.out.below.cell (p := ⟨b, off + j * 9 + 1, none⟩) hbH).trans Q1.out⟩) | (exact ⟨(HWD.out.cell (p := ⟨b, off + j * 9, none⟩) hbH).trans Q0.out, (HWD.out.cell (p := ⟨b, off + j * 9 + 1, none⟩) hbH).trans Q1.out⟩) | (exact ⟨(HS6.out.below.cell (p := ⟨b, off + j * 9, none⟩) hbH).trans Q0.out, (HS6.out.below.cell (p := ⟨b, off + j * 9 + 1, none⟩) hbH).trans Q1.out⟩))
              ((first
                | (refine step_append_q rfl (.tmp 51) (.tmp 63) _ rfl w.heap.size 69 i0 _ 3 40 Try.underlying65 hi0 hz0 hz1 hz2 rfl (by omega) (.slice A1 qs.length c1) qs.length _ rfl HS6.out.row
                     (some ⟨wr.heap.size, 0, none⟩) 1 1 (wr.heap.size + 1) [.slice x.A r.name.length x.c, .int .i64 r.kind, .int .i64 1] rfl rfl HRD.out (by intro u hu; simp only [List.mem_cons, List.not_mem_nil, or_false] at hu; rcases hu with rfl | rfl | rfl <;> rfl) (by unfold maxLen; omega) (by omega) HS6.out.size ?_
                   intro v7 w7 hown7 hg7
                   have HS7 := Lib.hid (HS6.out.snoc (y := (x.A, x.c)) (d := qOf r) HRA.out.n (by unfold cellsQ qOf; rw [HC1.out]; exact hown7) hg7)
                   clear hown7 hg7)))
            go_wp2
            refine ⟨⟨j + 1, qs ++ [((x.A, x.c), qOf r)], by omega, by go_num, by rw [HE.out, qsts_append, HQ.out]; rfl, by simp; omega, fun q hq => ?_, HS7.out⟩, by simp [intOf]; omega⟩
            rcases List.mem_append.1 hq with hq | hq
            · exact HQW.out q hq
            · rw [List.mem_singleton.1 hq]; exact HRI.out.n
    · obtain rfl : j = ps.length := by omega
      have HX := Lib.hid (show qsts qs = namesF (recs ps) by have h := HQ.out; rwa [List.take_length] at h)
      go_wp2
      go_ret
      exact ⟨A1, c1, qs, rfl, HX.out, HS.out.reads, HS.out.below⟩

end Go.Proofs.Ytjjmllbkfbdcnaa
