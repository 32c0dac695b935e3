/-
  RrNames, whole: of any records rr.Names answers the names and types of those of class IN, each once and by its first one, as the document says, and rr.Set has data of each; records as RrOrder looks at (the statement looks at no others). No condition.
-/
import Derived.Test.YthppgofpbpjglaaFbP7
import Derived.Test.YthppgofpbpjglaaFbP12
import Derived.Deep.RegionHeld3
import Derived.Test.YthppgofpbpjglaaFbP11
import Derived.Test.YthppgofpbpjglaaFbP3
import Derived.Test.YthppgofpbpjglaaFbP9
namespace Go.Proofs.Ythppgofpbpjglaa
open Go.RowKit

set_option maxRecDepth 20000 in
theorem getRR_example : getRR [0, 0, 1, 0, 1, 0, 0, 0, 5, 0, 4, 1, 2, 3, 4] 0 = (⟨[], 1, 1, 5, ⟨[1, 2, 3, 4], [], [], [], []⟩⟩, 15, 0) := by
  have h : getW [0, 0, 1, 0, 1, 0, 0, 0, 5, 0, 4, 1, 2, 3, 4] 0 = ([], 1, 0) := by
    rw [show (0 : Int) = ((0 : Nat) : Int) from rfl, getW_at, getR_zero (by decide) (by decide)]
    rfl
  unfold getRR
  rw [h]
  rfl

set_option maxRecDepth 8000 in
set_option maxHeartbeats 2000000 in
theorem ranswers_any (w : World) : Calls Try.prog 7 #[] w (TrueB w) := by
  have HG := Lib.hid (fun W A c hr hc1 hc2 => rget_any A 15 c [0, 0, 1, 0, 1, 0, 0, 0, 5, 0, 4, 1, 2, 3, 4] 0 W rfl hr hc1 hc2 (by omega))
  rw [getRR_example] at HG
  go_enter Try.func7, Try.ntmps7
  go_wp2_with fail
  refine (HG.out _ (some ⟨w.heap.size, 0, none⟩) 15 ?_ (by decide) (by decide)).mono ?_
  · exact (Row.made w #[.int .u8 0, .int .u8 0, .int .u8 1, .int .u8 0, .int .u8 1, .int .u8 0, .int .u8 0, .int .u8 0, .int .u8 5, .int .u8 0, .int .u8 4, .int .u8 1, .int .u8 2, .int .u8 3, .int .u8 4] 5).mono (by simp)
  rintro e w1 ⟨⟨A, c, ⟨Ab, Ah, Am, An, At, cb, ch, cm, cn, ct⟩⟩, rfl, _, hb⟩
  have HB := Lib.hid hb
  clear hb
  go_wp2
  go_ret
  exact ⟨rfl, (((Below.refl _ _).alloc (Nat.le_refl _) _).trans (HB.out.mono (by simp))).alloc (Nat.le_trans (by simp) HB.out.size) _⟩

end Go.Proofs.Ythppgofpbpjglaa

namespace Go.Proofs.Ythppgofpbpjglaa
open Go.RowKit

/-- append onto a row of the call's own, as one step of a region that draws. -/
theorem step_append_q {P : Program} {w : World} {ops : Array Oper} {o : Oper} {a : Act} {K : Act → World → Prop} {Q : Exit → Act → World → Prop} {E : Prop} (hgd : o.guard = none) (s x : Operand) (t : TypeId)
    (ho : o.op = .call { callee := .builtin .append, args := #[s, x], argTypes := #[t, t] })
    (base : Nat) (e : TypeId) (i : TypeInfo) (z : Value) (size bytes : Nat) (ht : P.underlying t = some (.slice e)) (hi : P.info? e = some i) (hz : i.zero = some z)
    (hsize : i.size = size) (hby : i.bytes = bytes) (hzs : z.cells.size = size) (hsz : 0 < size)
    (v : Value) (n : Nat) (xs : List Value) (hs : a.eval s = v) (hown : w.ownsRow base e size v n xs)
    (A : Option Addr) (m c H : Nat) (news : List Value) (hx : a.eval x = .slice A m c) (hl : news.length = m * size) (hr : Row w H A news) (h1 : ∀ u ∈ news, u.oneCell' = true)
    (h63 : n + m ≤ maxLen) (hbytes : (n + m) * bytes ≤ 140737488355328) (hbase : base ≤ w.heap.size)
    (h : ∀ v' w', w'.ownsRow base e size v' (n + m) (xs ++ news) → w.grownBy w' v.ownBlock → K (a.put o.dst v') w') : if Region.wanted o (yielded ops a.tmps) = true then Oper.wp P o a w K Q else E := by
  have hw : Region.wanted o (yielded ops a.tmps) = true := by simp [Region.wanted, hgd]
  rw [if_pos hw]
  obtain ⟨v', w', hrun, h2, h3⟩ := append_row_run (P := P) w base t o.type e i z size bytes ht hi hz hsize hby hzs hsz v n xs hown A m c H news hl hr h1 h63 hbytes hbase
  unfold Oper.wp
  simp [execOp, ho, resolve, invoke, builtin, hs, hx, hrun, Result.andThen]
  exact h v' w' h2 h3

structure NamesAtR (w0 : World) (v : Value) (qs : List (QV × Qt)) (w : World) : Prop where
  row : w.ownsRow w0.heap.size 41 3 v qs.length (qs.flatMap cellsQ)
  each : ∀ q ∈ qs, QAt w0 w0.heap.size q.1 q.2
  below : Below w0.heap.size w0 w
  size : w0.heap.size ≤ w.heap.size
theorem NamesAtR.step {w0 w w' : World} {v : Value} {qs : List (QV × Qt)} (h : NamesAtR w0 v qs w) (hb : Below w.heap.size w w') : NamesAtR w0 v qs w' :=
  ⟨own_keep h.row fun j hj => hb.block j (h.row.lt j hj).2, h.each, h.below.trans (hb.mono h.size), Nat.le_trans h.size hb.size⟩
theorem NamesAtR.reads {w0 w : World} {A : Option Addr} {c : Nat} {qs : List (QV × Qt)} (h : NamesAtR w0 (.slice A qs.length c) qs w) : QsAt w w.heap.size A qs :=
  ⟨Row.of_own h.row, fun q hq => Row.mono (Row.below (h.each q hq) h.below) h.size⟩
theorem NamesAtR.snoc {w0 w w' : World} {v v' : Value} {qs : List (QV × Qt)} (h : NamesAtR w0 v qs w) {y : QV} {d : Qt} (hy : QAt w0 w0.heap.size y d)
    (ho : w'.ownsRow w0.heap.size 41 3 v' (qs.length + 1) (qs.flatMap cellsQ ++ cellsQ (y, d))) (hg : w.grownBy w' v.ownBlock) : NamesAtR w0 v' (qs ++ [(y, d)]) w' := by
  refine ⟨by rw [List.length_append, List.flatMap_append]; simpa using ho, fun q hq => ?_, own_below h.below (Nat.le_refl _) h.size h.row hg, Nat.le_trans h.size hg.size⟩
  rcases List.mem_append.1 hq with hq | hq
  · exact h.each q hq
  · rw [List.mem_singleton.1 hq]
    exact hy
def NamesRelR (w : World) (ps : List (RV × Rt)) (v i : Value) (wr : World) : Prop :=
  ∃ (j : Nat) (qs : List (QV × Qt)), j ≤ ps.length ∧ i = .int .i64 j ∧ qsts qs = namesF (recs (ps.take j)) ∧ qs.length ≤ j ∧ (∀ q ∈ qs, WideN q.2.name) ∧ NamesAtR w v qs wr
/-- Is one like it among the first k? -/
def thereBN (qs : List (QV × Qt)) (r : Rt) (k : Nat) : Bool := (r.cls != 1) || (qsts (qs.take k)).any fun e => askQ e (qOf r)
def ThereRelN (w : World) (qs : List (QV × Qt)) (r : Rt) (t i : Value) (wr : World) : Prop := ∃ k : Nat, k ≤ qs.length ∧ i = .int .i64 k ∧ t = .bool (thereBN qs r k) ∧ Below w.heap.size w wr
theorem thereB_snoc {qs : List (QV × Qt)} {r : Rt} {k : Nat} (hk : k < qs.length) : thereBN qs r (k + 1) = (thereBN qs r k || askQ (qs[k]).2 (qOf r)) := by
  unfold thereBN
  rw [List.take_succ_eq_append_getElem hk, qsts_append, List.any_append, Bool.or_assoc]
  simp [qsts]
theorem thereB_all (qs : List (QV × Qt)) (r : Rt) : thereBN qs r qs.length = ((r.cls != 1) || hasQ (qsts qs) (qOf r)) := by
  unfold thereBN hasQ
  rw [List.take_length]
  congr 1
  congr 1
  funext e
  exact askQ_turn _ _

set_option maxRecDepth 20000 in
set_option maxHeartbeats 8000000 in
theorem ref_names_any (w : World) (A : Option Addr) (c : Nat) (ps : List (RV × Rt)) (hp : RsAt w w.heap.size A ps) (hr : ∀ p ∈ ps, RIn p.2) (hl : ps.length ≤ 100) :
    Calls Try.prog 16 #[.slice A ps.length c] w (NamesOut w (namesF (recs ps))) := by
  obtain ⟨i0, hi0, hz0, hz1, hz2⟩ := info_parts qst_info
  have HP := Lib.hid hp
  have HR := Lib.hid hr
  clear hp hr
  go_enter Try.func16, Try.ntmps16
  go_wp2
  go_loopw [3, 4] (NamesRelR w ps) (fun _ i _ => ps.length - (intOf i).toNat)
  case atStart => exact ⟨0, [], Nat.zero_le _, rfl, rfl, Nat.le_refl _, fun _ h => absurd h (List.not_mem_nil), World.ownsRow_nil _ _ _ _, fun _ h => absurd h (List.not_mem_nil), Below.refl _ _, Nat.le_refl _⟩
  case round =>
    obtain ⟨j, qs, hj, rfl, hq, hqj, hqw, hs⟩ := hrel
    have HS := Lib.hid hs
    have HQ := Lib.hid hq
    have HQW := Lib.hid hqw
    obtain ⟨A1, c1, rfl, _, _⟩ := own_form hs.row
    clear hs hq hqw
    by_cases hlt : j < ps.length
    · obtain ⟨b, off, rfl, hbH, hra, q0, q1, q2, q3, q4, q5, q6, q7, q8⟩ := HP.out.at_ hlt
      have hri := HR.out _ (List.getElem_mem hlt)
      have HF := Lib.hid (namesF_take hlt)
      revert hra q0 q1 q2 q3 q4 q5 q6 q7 q8 hri HF
      generalize ps[j] = p
      obtain ⟨x, r⟩ := p
      intro hra q0 q1 q2 q3 q4 q5 q6 q7 q8 hri HF
      dsimp only at *
      have HRA := Lib.hid hra
      have HRI := Lib.hid hri
      have Q0 := Lib.hid q0
      have Q1 := Lib.hid q1
      have k2' := (HS.out.below.cell (p := ⟨b, off + j * 9 + 2, none⟩) hbH).trans q2
      clear hra hri q0 q1 q2 q3 q4 q5 q6 q7 q8
      have hj0 : (0 : Int) ≤ (j : Int) := by omega
      have hj1 : (j : Int) < (ps.length : Int) := by omega
      go_wp2
      go_loopw [5, 6] (ThereRelN wr qs r) (fun _ i _ => qs.length - (intOf i).toNat)
      case atStart => exact ⟨0, Nat.zero_le _, rfl, by simp [thereBN, qsts], Below.refl _ _⟩
      case round =>
        obtain ⟨k, hk, rfl, rfl, hb⟩ := hrel
        have HB := Lib.hid hb
        have HSI := Lib.hid (HS.out.step hb)
        clear hb
        by_cases hlt2 : k < qs.length
        · obtain ⟨b1, o1, rfl, hb1, hda, s0, s1, s2⟩ := HSI.out.reads.at_ hlt2
          have hwd := HQW.out _ (List.getElem_mem hlt2)
          have HTS := Lib.hid (thereB_snoc (r := r) hlt2)
          revert hda s0 s1 s2 hwd HTS
          generalize qs[k] = p1
          obtain ⟨y, d⟩ := p1
          intro hda s0 s1 s2 hwd HTS
          dsimp only at *
          have HDA := Lib.hid hda
          have HWN := Lib.hid hwd
          have S0 := Lib.hid s0
          have S1 := Lib.hid s1
          have m0 := (HSI.out.below.cell (p := ⟨b, off + j * 9, none⟩) hbH).trans Q0.out
          have m1 := (HSI.out.below.cell (p := ⟨b, off + j * 9 + 1, none⟩) hbH).trans Q1.out
          clear hda hwd s2
          have hk0 : (0 : Int) ≤ (k : Int) := by omega
          have hk1 : (k : Int) < (qs.length : Int) := by omega
          by_cases hkd : d.kind = r.kind
          · have t1 : (d.kind == r.kind) = true := by rw [beq_iff_eq]; exact hkd
            have HEQ := Lib.hid (show askQ d (qOf r) = eqN d.name r.name by unfold askQ qOf; rw [decide_eq_true hkd]; rfl)
            clear hkd s0 s1 m0 m1
            have HBD := Lib.hid ((Below.refl wr.heap.size wr).drew)
            have HWD := Lib.hid (HSI.out.below.drew)
            have hzD := HSI.out.size
            go_wp2
            go_region_held3 (fun W => W.cell? ⟨b1, o1 + k * 3, none⟩ = some (.slice y.1 d.name.length y.2) ∧ W.cell? ⟨b1, o1 + k * 3 + 1, none⟩ = some (.int .i64 d.kind) ∧ W.cell? ⟨b, off + j * 9, none⟩ = some (.slice x.A r.name.length x.c) ∧ W.cell? ⟨b, off + j * 9 + 1, none⟩ = some (.int .i64 r.kind))
              (exact ⟨(HBD.out.cell (p := ⟨b1, o1 + k * 3, none⟩) hb1).trans S0.out, (HBD.out.cell (p := ⟨b1, o1 + k * 3 + 1, none⟩) hb1).trans S1.out, (HWD.out.cell (p := ⟨b, off + j * 9, none⟩) hbH).trans Q0.out, (HWD.out.cell (p := ⟨b, off + j * 9 + 1, none⟩) hbH).trans Q1.out⟩)
              ((first
                | (go_at_call 29
                   refine (ref_equal_wide y.1 x.A d.name.length r.name.length y.2 x.c wr.heap.size d.name r.name _ rfl rfl (Row.below HDA.out HBD.out) (Row.mono (Row.below HRA.out.n HWD.out) hzD) HBD.out.size HWN.out HRI.out.n).mono ?_
                   rintro e wn ⟨rfl, hb⟩
                   have HWD := Lib.hid (HWD.out.trans (hb.mono (Nat.le_trans hzD HBD.out.size)))
                   have HBD := Lib.hid (HBD.out.trans (hb.mono HBD.out.size))
                   clear hb)))
            cases hv : eqN d.name r.name with
            | true =>
              have HT := Lib.hid (show thereBN qs r (k + 1) = true by rw [HTS.out, HEQ.out, hv]; simp)
              clear HTS HEQ
              go_wp2
              exact ⟨⟨k + 1, by omega, by go_num, by rw [HT.out], HB.out.trans (HBD.out.mono HB.out.size)⟩, by simp [intOf]; omega⟩
            | false =>
              have HT := Lib.hid (show thereBN qs r (k + 1) = thereBN qs r k by rw [HTS.out, HEQ.out, hv]; simp)
              clear HTS HEQ
              go_wp2
              exact ⟨⟨k + 1, by omega, by go_num, by rw [HT.out], HB.out.trans (HBD.out.mono HB.out.size)⟩, by simp [intOf]; omega⟩
          · have t1 : (d.kind == r.kind) = false := by rw [beq_eq_false_iff_ne]; exact hkd
            have HT := Lib.hid (show thereBN qs r (k + 1) = thereBN qs r k by rw [HTS.out]; unfold askQ qOf; rw [decide_eq_false hkd]; simp)
            clear hkd HTS
            go_wp2
            go_region
            go_wp2
            exact ⟨⟨k + 1, by omega, by go_num, by rw [HT.out], HB.out.drew⟩, by simp [intOf]; omega⟩
        · obtain rfl : k = qs.length := by omega
          have HALL := Lib.hid (thereB_all qs r)
          cases hth : thereBN qs r qs.length with
          | true =>
            have HE := Lib.hid (show namesF (recs (ps.take (j + 1))) = namesF (recs (ps.take j)) by
              rw [HF.out]
              unfold stepN
              rw [if_neg]
              rintro ⟨h1, h2⟩
              have h := HALL.out
              rw [hth, HQ.out, h2, h1] at h
              exact absurd h (by decide))
            clear HF HALL
            go_wp2
            exact ⟨⟨j + 1, qs, by omega, by go_num, by rw [HE.out]; exact HQ.out, by omega, HQW.out, HSI.out⟩, by simp [intOf]; omega⟩
          | false =>
            have hcls : r.cls = 1 ∧ hasQ (qsts qs) (qOf r) = false := by
              have h := HALL.out
              rw [hth] at h
              have h2 := (Bool.or_eq_false_iff.1 h.symm)
              exact ⟨by simpa using h2.1, h2.2⟩
            have HE := Lib.hid (show namesF (recs (ps.take (j + 1))) = namesF (recs (ps.take j)) ++ [qOf r] by
              rw [HF.out]
              unfold stepN
              rw [← HQ.out, if_pos hcls])
            have HC1 := Lib.hid hcls.1
            clear HF HALL hcls
            have HWD := Lib.hid (HSI.out.below.drew)
            have hzD := HSI.out.size
            have hbw : b < wr.heap.size := Nat.lt_of_lt_of_le hbH hzD
            have hnew : Below wr.heap.size wr (wr.drew.alloc (.cells #[.slice x.A r.name.length x.c, .int .i64 r.kind, .int .i64 1] 41)) := ((Below.refl _ wr).drew).alloc (Nat.le_refl _) _
            have HS6 := Lib.hid (HSI.out.step hnew)
            have HRD := Lib.hid (Row.made wr.drew #[.slice x.A r.name.length x.c, .int .i64 r.kind, .int .i64 1] 41)
            clear hnew
            go_wp2
            go_region_held3 (fun W => W.cell? ⟨b, off + j * 9, none⟩ = some (.slice x.A r.name.length x.c) ∧ W.cell? ⟨b, off + j * 9 + 1, none⟩ = some (.int .i64 r.kind))
              (first | (exact ⟨(HS7.out.below.cell (p := ⟨b, off + j * 9, none⟩) hbH).trans Q0.out, (HS7.out.below.cell (p := ⟨b, off + j * 9 + 1, none⟩) hbH).trans Q1.out⟩) | (exact ⟨(HWD.out.cell (p := ⟨b, off + j * 9, none⟩) hbH).trans Q0.out, (HWD.out.cell (p := ⟨b, off + j * 9 + 1, none⟩) hbH).trans Q1.out⟩) | (exact ⟨(HS6.out.below.cell (p := ⟨b, off + j * 9, none⟩) hbH).trans Q0.out, (HS6.out.below.cell (p := ⟨b, off + j * 9 + 1, none⟩) hbH).trans Q1.out⟩))
              ((first
                | (refine step_append_q rfl (.tmp 51) (.tmp 63) _ rfl w.heap.size 41 i0 _ 3 40 Try.underlying37 hi0 hz0 hz1 hz2 rfl (by omega) (.slice A1 qs.length c1) qs.length _ rfl HS6.out.row
                     (some ⟨wr.heap.size, 0, none⟩) 1 1 (wr.heap.size + 1) [.slice x.A r.name.length x.c, .int .i64 r.kind, .int .i64 1] rfl rfl HRD.out (by intro u hu; simp only [List.mem_cons, List.not_mem_nil, or_false] at hu; rcases hu with rfl | rfl | rfl <;> rfl) (by unfold maxLen; omega) (by omega) HS6.out.size ?_
                   intro v7 w7 hown7 hg7
                   have HS7 := Lib.hid (HS6.out.snoc (y := (x.A, x.c)) (d := qOf r) HRA.out.n (by unfold cellsQ qOf; rw [HC1.out]; exact hown7) hg7)
                   clear hown7 hg7)))
            go_wp2
            refine ⟨⟨j + 1, qs ++ [((x.A, x.c), qOf r)], by omega, by go_num, by rw [HE.out, qsts_append, HQ.out]; rfl, by simp; omega, fun q hq => ?_, HS7.out⟩, by simp [intOf]; omega⟩
            rcases List.mem_append.1 hq with hq | hq
            · exact HQW.out q hq
            · rw [List.mem_singleton.1 hq]; exact HRI.out.n
    · obtain rfl : j = ps.length := by omega
      have HX := Lib.hid (show qsts qs = namesF (recs ps) by have h := HQ.out; rwa [List.take_length] at h)
      go_wp2
      go_ret
      exact ⟨A1, c1, qs, rfl, HX.out, HS.out.reads, HS.out.below⟩

end Go.Proofs.Ythppgofpbpjglaa

namespace Go.Proofs.Ythppgofpbpjglaa
open Go.RowKit

theorem own_eachN {ps qs : List (RV × Rt)} {P : Rt → Prop} (h : recs qs = recs ps) (hp : ∀ p ∈ ps, P p.2) : ∀ q ∈ qs, P q.2 := fun q hq => by
  have h1 : q.2 ∈ recs ps := h ▸ List.mem_map.2 ⟨q, hq, rfl⟩
  obtain ⟨p, hp1, e⟩ := List.mem_map.1 h1
  exact e ▸ hp p hp1
/-- Each that is told is of a record of class IN. -/
theorem namesF_from (rs : List Rt) : (∀ q ∈ namesF rs, ∃ r ∈ rs, r.cls = 1 ∧ q = qOf r) ∧ (namesF rs).length ≤ rs.length := by
  have key : ∀ (L : List Rt) (s : List Qt), (∀ q ∈ s, ∃ r ∈ rs, r.cls = 1 ∧ q = qOf r) → (∀ r ∈ L, r ∈ rs) → (∀ q ∈ L.foldl stepN s, ∃ r ∈ rs, r.cls = 1 ∧ q = qOf r) ∧ (L.foldl stepN s).length ≤ s.length + L.length := by
    intro L
    induction L with
    | nil => intro s hs _; exact ⟨hs, Nat.le_refl _⟩
    | cons r L ih =>
      intro s hs hL
      have hr := hL r (List.mem_cons_self ..)
      have h := ih (stepN s r) (fun q hq => by
        unfold stepN at hq
        split at hq
        · rename_i hc
          rcases List.mem_append.1 hq with hq | hq
          · exact hs q hq
          · exact ⟨r, hr, hc.1, List.mem_singleton.1 hq⟩
        · exact hs q hq) fun r hr => hL r (List.mem_cons_of_mem _ hr)
      have h2 : (stepN s r).length ≤ s.length + 1 := by
        unfold stepN
        split
        · simp
        · omega
      have h3 := h.2
      refine ⟨h.1, ?_⟩
      simp only [List.foldl_cons, List.length_cons] at h3 ⊢
      omega
  have h := key rs [] (fun q hq => absurd hq (List.not_mem_nil)) fun r hr => hr
  have h2 := h.2
  simp only [List.length_nil, Nat.zero_add] at h2
  exact ⟨h.1, h2⟩
/-- A set of which there is a record is not empty. -/
theorem setF_some {rs : List Rt} {r : Rt} (hr : r ∈ rs) (hc : r.cls = 1) : (setF rs r.name r.kind).1 ≠ [] := by
  have hsel : r ∈ rs.filter (selR r.name r.kind) := List.mem_filter.2 ⟨hr, by simp [selR, hc, eqN]⟩
  have key : ∀ (L : List Rt) (x : List Dt × Int), (x.1 ≠ [] ∨ L ≠ []) → (L.foldl stepS x).1 ≠ [] := by
    intro L
    induction L with
    | nil => intro x h; exact h.elim id fun h => absurd rfl h
    | cons q L ih =>
      intro x _
      refine ih (stepS x q) (.inl ?_)
      unfold stepS
      dsimp only
      split
      · rename_i hh
        intro e
        rw [e] at hh
        simp [hasD] at hh
      · simp
  exact key _ _ (.inr fun e => by rw [e] at hsel; exact absurd hsel (List.not_mem_nil))
theorem qsts_atN {qs1 qs2 : List (QV × Qt)} (h : qsts qs1 = qsts qs2) {k : Nat} (h1 : k < qs1.length) (h2 : k < qs2.length) : (qs1[k]).2 = (qs2[k]).2 := by
  have e : (qsts qs1)[k]? = (qsts qs2)[k]? := by rw [h]
  simpa [qsts, h1, h2] using e

set_option maxRecDepth 20000 in
set_option maxHeartbeats 2000000 in
theorem rrnames_dark (w : World) (A : Option Addr) (c : Nat) (ps : List (RV × Rt)) (hp : RsAt w w.heap.size A ps) (hm : ps.length ≤ maxLen) (hl : lightL (recs ps) = false) :
    Calls Try.prog 4 #[.slice A ps.length c] w (TrueB w) := by
  have HL := Lib.hid (fun W (h : Below w.heap.size w W) => lightL_any W A c ps ((hp.below h).mono h.size) hm)
  rw [hl] at HL
  clear hp hl
  go_enter Try.func4, Try.ntmps4
  go_wp2_with fail
  refine (ranswers_any _).mono ?_
  rintro e w1 ⟨rfl, hb1⟩
  have HB1 := Lib.hid hb1
  clear hb1
  go_wp2_with fail
  refine (HL.out w1 HB1.out).mono ?_
  rintro e w2 ⟨rfl, hb2⟩
  have HB2 := Lib.hid (HB1.out.trans (hb2.mono HB1.out.size))
  clear hb2
  go_wp2_with fail
  refine (ranswers_any _).mono ?_
  rintro e w3 ⟨rfl, hb3⟩
  have HB3 := Lib.hid (HB2.out.trans (hb3.mono HB2.out.size))
  clear hb3
  go_wp2
  go_ret
  exact ⟨rfl, HB3.out⟩

def NamesRel5 (W : World) (N : Nat) (i : Value) (wr : World) : Prop := ∃ k : Nat, k ≤ N ∧ i = .int .i64 k ∧ Below W.heap.size W wr

set_option maxRecDepth 100000 in
set_option maxHeartbeats 8000000 in
theorem rrnames_light (w : World) (A : Option Addr) (c : Nat) (ps : List (RV × Rt)) (hp : RsAt w w.heap.size A ps) (hr : ∀ p ∈ ps, RIn p.2) (hl : lightL (recs ps) = true) :
    Calls Try.prog 4 #[.slice A ps.length c] w (TrueB w) := by
  have hle := lightL_each hl
  have hn : ps.length ≤ 60 := by have := hle.2; rwa [length_recs] at this
  have hlr : ∀ p ∈ ps, LightR p.2 := fun p h => hle.1 _ (List.mem_map.2 ⟨p, h, rfl⟩)
  have HL := Lib.hid (fun W (h : Below w.heap.size w W) => lightL_any W A c ps ((hp.below h).mono h.size) (by unfold maxLen; omega))
  rw [hl] at HL
  have HP := Lib.hid hp
  have HR := Lib.hid hr
  have HLR := Lib.hid hlr
  clear hp hr hl hle hlr
  go_enter Try.func4, Try.ntmps4
  go_wp2_with fail
  refine (ranswers_any _).mono ?_
  rintro e w1 ⟨rfl, hb1⟩
  have HB1 := Lib.hid hb1
  clear hb1
  go_wp2_with fail
  refine (HL.out w1 HB1.out).mono ?_
  rintro e w2 ⟨rfl, hb2⟩
  have HB2 := Lib.hid (HB1.out.trans (hb2.mono HB1.out.size))
  clear hb2 HB1 HL
  go_wp2_with fail
  refine (ownRRs_any w2 A c ps ((HP.out.below HB2.out).mono HB2.out.size) HLR.out (by omega)).mono ?_
  rintro e w3 ⟨A4, c4, ps1, rfl, hq1, hd1, hb⟩
  have HQ1 := Lib.hid hq1
  have HD3 := Lib.hid hd1
  have HB3 := Lib.hid (HB2.out.trans (hb.mono HB2.out.size))
  clear hq1 hd1 hb HB2
  go_wp2_with fail
  have hh := names_any w3 A4 c4 ps1 HD3.out (own_eachN (P := fun r => RIn r ∧ LightR r) HQ1.out fun p hp => ⟨HR.out p hp, HLR.out p hp⟩) (by rw [← length_recs, HQ1.out, length_recs]; omega)
  rw [HQ1.out] at hh
  refine hh.mono ?_
  rintro e w4 ⟨A5, c5, qs1, rfl, hs1, hd1, hb⟩
  have HS1 := Lib.hid hs1
  have HE1 := Lib.hid hd1
  have HB4 := Lib.hid (HB3.out.trans (hb.mono HB3.out.size))
  clear hs1 hd1 hb hh HB3 HD3 HQ1
  go_wp2_with fail
  refine (ref_names_any w4 A c ps ((HP.out.below HB4.out).mono HB4.out.size) HR.out (by omega)).mono ?_
  rintro e w5 ⟨A6, c6, qs2, rfl, hs2, hd2, hb⟩
  have HE2 := Lib.hid hd2
  have HE1 := Lib.hid ((HE1.out.below hb).mono hb.size)
  have HB5 := Lib.hid (HB4.out.trans (hb.mono HB4.out.size))
  have HDD := Lib.hid (show qsts qs1 = qsts qs2 by rw [HS1.out, hs2])
  clear hs2 hd2 hb HB4
  have hlen : qs1.length = qs2.length := by rw [← length_qsts, ← length_qsts, HDD.out]
  have hlq : qs1.length ≤ 60 := by
    have h := (namesF_from (recs ps)).2
    rw [← HS1.out, length_qsts, length_recs] at h
    omega
  have b1 : ((qs1.length : Int) != (qs2.length : Int)) = false := by rw [hlen]; simp
  have HLN := Lib.hid hlen
  clear hlen
  go_wp2
  go_loopw [5] (NamesRel5 w5 qs1.length) (fun i _ => qs1.length - (intOf i).toNat)
  case atStart => exact ⟨0, Nat.zero_le _, rfl, Below.refl _ _⟩
  case round =>
    obtain ⟨k, hk, rfl, hb⟩ := hrel
    have HBB := Lib.hid hb
    have hzz := hb.size
    clear hb
    by_cases hlt : k < qs1.length
    · have hlt2 : k < qs2.length := by have := HLN.out; omega
      obtain ⟨b1, o1, rfl, hb1, hd1, s0, s1, s2⟩ := HE1.out.at_ hlt
      obtain ⟨b2, o2, rfl, hb2, hd2, v0, v1, v2⟩ := HE2.out.at_ hlt2
      have hsame := qsts_atN HDD.out hlt hlt2
      have hfrom := (namesF_from (recs ps)).1 (qs1[k]).2 (by rw [← HS1.out]; exact List.mem_map.2 ⟨qs1[k], List.getElem_mem hlt, rfl⟩)
      revert hd1 s0 s1 s2 hd2 v0 v1 v2 hsame hfrom
      generalize qs1[k] = p1
      generalize qs2[k] = p2
      obtain ⟨y1, d⟩ := p1
      obtain ⟨y2, d'⟩ := p2
      intro hd1 s0 s1 s2 hd2 v0 v1 v2 hsame hfrom
      dsimp only at *
      subst hsame
      obtain ⟨r, hrm, hrc, hqr⟩ := hfrom
      obtain ⟨p, hpm, hpr⟩ := List.mem_map.1 hrm
      have hwn : WideN d.name := by rw [hqr]; exact hpr ▸ (HR.out p hpm).n
      have hdc : d.cls = 1 := by rw [hqr]; exact hrc
      have hns : (setF (recs ps) d.name d.kind).1 ≠ [] := by rw [hqr]; exact setF_some hrm hrc
      have HWN := Lib.hid hwn
      have HNS := Lib.hid hns
      have S0 := Lib.hid s0
      have V0 := Lib.hid v0
      have S1 := Lib.hid s1
      have V1 := Lib.hid v1
      have S2 := Lib.hid s2
      have V2 := Lib.hid v2
      have HDA := Lib.hid hd1
      have HDB := Lib.hid hd2
      clear hd1 hd2 s0 s1 s2 v0 v1 v2 hrm hpm hpr hqr hwn hns
      have hk0 : (0 : Int) ≤ (k : Int) := by omega
      have hk1 : (k : Int) < (qs1.length : Int) := by omega
      have hk2 : (k : Int) < (qs2.length : Int) := by omega
      have t1 : (d.kind != d.kind) = false := by simp
      have t2 : (d.cls != 1) = false := by rw [hdc]; rfl
      clear hdc hrc
      have HBD := Lib.hid HBB.out.drew
      go_wp2
      go_region_held3 (fun W => (W.cell? ⟨b1, o1 + k * 3, none⟩ = some (.slice y1.1 d.name.length y1.2) ∧ W.cell? ⟨b1, o1 + k * 3 + 1, none⟩ = some (.int .i64 d.kind) ∧ W.cell? ⟨b1, o1 + k * 3 + 2, none⟩ = some (.int .i64 d.cls)) ∧ (W.cell? ⟨b2, o2 + k * 3, none⟩ = some (.slice y2.1 d.name.length y2.2) ∧ W.cell? ⟨b2, o2 + k * 3 + 1, none⟩ = some (.int .i64 d.kind) ∧ W.cell? ⟨b2, o2 + k * 3 + 2, none⟩ = some (.int .i64 d.cls)))
        (exact ⟨⟨(HBD.out.cell (p := ⟨b1, o1 + k * 3, none⟩) hb1).trans S0.out, (HBD.out.cell (p := ⟨b1, o1 + k * 3 + 1, none⟩) hb1).trans S1.out, (HBD.out.cell (p := ⟨b1, o1 + k * 3 + 2, none⟩) hb1).trans S2.out⟩, ⟨(HBD.out.cell (p := ⟨b2, o2 + k * 3, none⟩) hb2).trans V0.out, (HBD.out.cell (p := ⟨b2, o2 + k * 3 + 1, none⟩) hb2).trans V1.out, (HBD.out.cell (p := ⟨b2, o2 + k * 3 + 2, none⟩) hb2).trans V2.out⟩⟩)
        ((first
          | (go_at_call 17
             have hh := exact_any y1.1 y2.1 d.name.length d.name.length y1.2 y2.2 _ d.name d.name _ rfl rfl (Row.below HDA.out HBD.out) (Row.below HDB.out HBD.out) HWN.out.1
             rw [show decide (d.name = d.name) = true by simp] at hh
             refine hh.mono ?_
             intro e wn hgv
             obtain ⟨rfl, hb⟩ := gave_drewn hgv
             have HBD := Lib.hid (HBD.out.trans (hb.mono HBD.out.size))
             clear hb hgv hh)))
      go_wp2
      have HBD := Lib.hid HBD.out.drew
      go_region_held3 (fun W => W.cell? ⟨b1, o1 + k * 3, none⟩ = some (.slice y1.1 d.name.length y1.2) ∧ W.cell? ⟨b1, o1 + k * 3 + 1, none⟩ = some (.int .i64 d.kind))
        (exact ⟨(HBD.out.cell (p := ⟨b1, o1 + k * 3, none⟩) hb1).trans S0.out, (HBD.out.cell (p := ⟨b1, o1 + k * 3 + 1, none⟩) hb1).trans S1.out⟩)
        ((first
          | (go_at_call 9
             refine (set_any _ A c ps y1.1 d.name y1.2 d.kind (((HP.out.below HB5.out).mono HB5.out.size).below HBD.out |>.mono HBD.out.size) (Row.mono (Row.below HDA.out HBD.out) HBD.out.size) HWN.out (fun p hp => ⟨HR.out p hp, (HLR.out p hp).few⟩) (by omega)).mono ?_
             rintro e wn ⟨A7, c7, ss, rfl, hss, _, hb⟩
             have HSS := Lib.hid hss
             have HBD := Lib.hid (HBD.out.trans (hb.mono HBD.out.size))
             clear hss hb)))
      have hne : ss.length ≠ 0 := by
        intro e
        have h := HNS.out
        rw [← HSS.out, List.eq_nil_of_length_eq_zero e] at h
        exact h rfl
      have t3 : ((ss.length : Int) == 0) = false := by rw [beq_eq_false_iff_ne]; omega
      clear hne
      go_wp2
      exact ⟨⟨k + 1, by omega, by go_num, HBD.out⟩, by simp [intOf]; omega⟩
    · go_wp2
      go_ret
      exact ⟨rfl, HB5.out.trans (HBB.out.mono HB5.out.size)⟩

theorem rrnames_any (w : World) (A : Option Addr) (c : Nat) (ps : List (RV × Rt)) (hp : RsAt w w.heap.size A ps) (hr : ∀ p ∈ ps, RIn p.2) (hm : ps.length ≤ maxLen) :
    Calls Try.prog 4 #[.slice A ps.length c] w (TrueB w) := by
  cases hl : lightL (recs ps) with
  | false => exact rrnames_dark w A c ps hp hm hl
  | true => exact rrnames_light w A c ps hp hr hl

end Go.Proofs.Ythppgofpbpjglaa

namespace Go.Proofs.Ythppgofpbpjglaa
open Go.ChangeShapes Go.WideShapes Go.ChangeAt Go.RowKit

set_option maxRecDepth 100000 in
theorem rrnames_lifted (os : Os) (started : os.Started) (H : Type) (enc : TypeId × Value → H) :
    ReturnsInHanded {} Try.checked os 4 .any (Rows.rrNamesSpec.pre6 enc Try.prog Try.f4 Rows.rrNamesRow.domain false) (Rows.rrNamesSpec.post enc Try.prog Try.f4 false true false false) := by
  refine returnsInHanded_of_change_sized (C := Try.checked) Try.own started (by kernel_rfl) Try.func4
    (ChangeSpec.witness6 (enc := enc) (C := Try.checked) false ⟨#[], #[.slice none 0 0], []⟩ 8 (by kernel_rfl) (by kernel_rfl) (by kernel_rfl) (by kernel_rfl)) ?_
  intro W base args ds gs before hval0 hW _ hsz0 _
  have hsz : (DataW.weightsEach Try.prog (Try.f4.params.toList ++ Rows.rrNamesSpec.plain.varTypes Try.prog) (ds ++ gs)).all (· ≤ reachBytes) = true := hsz0
  clear hsz0
  have hval : ∀ (j : Nat) t v, Try.f4.params[j]? = some t → args[j]? = some v → Value.okWide Try.prog W .any base t v := hval0
  have hW' := hW
  obtain ⟨p, q, hA0, hV, rfl, _, _⟩ := hW
  have hA : DataW.TrodAll enc Try.prog W 0 (fun _ => true) true Try.f4.params.toList args.toList ds p := hA0
  rw [Try.params4] at hA hval hsz
  obtain ⟨v0, d0, rfl, rfl, h0⟩ := trodAll_one hA
  obtain ⟨rfl, rfl⟩ := trodVars_none hV
  obtain ⟨A0, c0, ps0, rfl, hp0, hr0, hc0, hm0⟩ := open_rrs Try.underlying22 (hval 0 22 v0 rfl rfl) h0 (fun x hx => hW'.lt x (by simp [hx]))
  have key : Calls Try.prog 4 #[.slice A0 ps0.length c0] W (TrueB W) := by
    exact rrnames_any W A0 c0 ps0 hp0 hr0 (Nat.le_trans hc0 hm0)
  refine key.mono fun e W' ⟨he, hb⟩ => ?_
  subst he
  exact ⟨_, rfl, law_post (P := Try.prog) (tb := 4) Try.laidOut (by kernel_rfl) (by kernel_rfl) (by kernel_rfl) Try.underlying4 rfl hW' rfl rfl rfl hb⟩

theorem rrnames_holds : Rows.RrNamesSaid :=
  OpenClaim.holds_of_wide 4 Try.f4 rfl rfl rfl rfl rfl rfl rfl ⟨rfl, rfl, rfl, rfl, rfl⟩ rfl rfl rfl rfl rfl (by kernel_rfl) Try.func4 (by kernel_rfl)
    (of_decide_eq_true (by kernel_rfl)) (by unfold Func.isWrapper; first | (rw [if_pos (by decide +kernel)]; kernel_rfl) | (rw [if_neg (by decide +kernel)]; exact ⟨rfl, rfl⟩))
    (fun os started H enc _ => rrnames_lifted os started H enc)

end Go.Proofs.Ythppgofpbpjglaa
