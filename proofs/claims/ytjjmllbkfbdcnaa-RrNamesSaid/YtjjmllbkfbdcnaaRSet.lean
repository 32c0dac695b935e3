/-
  The contract of rr.Set.
-/
import Derived.Test.YtjjmllbkfbdcnaaRHas
import Derived.Test.YtjjmllbkfbdcnaaRCopy
namespace Go.Proofs.Ytjjmllbkfbdcnaa
open Go.RowKit

theorem data_info : (Try.prog.info? 26).map (fun i => (i.zero, i.size, i.bytes)) = some (some (.agg #[.slice none 0 0, .slice none 0 0, .slice none 0 0, .slice none 0 0, .slice none 0 0]), 5, 120) := by kernel_rfl

/-- Is the record one of those that are asked for? -/
def selR (n : List (List UInt8)) (k : Int) (r : Rt) : Bool := decide (r.cls = 1) && (decide (r.kind = k) && eqN r.name n)
/-- One record more. -/
def stepS (s : List Dt × Int) (r : Rt) : List Dt × Int := (if hasD s.1 r.data = true then s.1 else s.1 ++ [r.data], if s.1 = [] ∨ r.ttl < s.2 then r.ttl else s.2)
/-- The set of a name and a type, and its least TTL. -/
def setF (rs : List Rt) (n : List (List UInt8)) (k : Int) : List Dt × Int := (rs.filter (selR n k)).foldl stepS ([], 0)
theorem setF_snoc (rs : List Rt) (r : Rt) (n : List (List UInt8)) (k : Int) : setF (rs ++ [r]) n k = if selR n k r = true then stepS (setF rs n k) r else setF rs n k := by
  unfold setF
  rw [List.filter_append, List.foldl_append]
  cases h : selR n k r <;> simp [h]
theorem recs_snoc {ps : List (RV × Rt)} {j : Nat} (hj : j < ps.length) : recs (ps.take (j + 1)) = recs (ps.take j) ++ [(ps[j]).2] := by
  rw [List.take_succ_eq_append_getElem hj, recs_append]
  rfl
theorem setF_take {ps : List (RV × Rt)} {j : Nat} (hj : j < ps.length) (n : List (List UInt8)) (k : Int) : setF (recs (ps.take (j + 1))) n k = if selR n k (ps[j]).2 = true then stepS (setF (recs (ps.take j)) n k) (ps[j]).2 else setF (recs (ps.take j)) n k := by
  rw [recs_snoc hj, setF_snoc]

theorem own_own_apart' {w : World} {b1 b2 : Nat} {e1 e2 : TypeId} {s1 s2 n1 n2 : Nat} {v1 v2 : Value} {x1 x2 : List Value} (h1 : w.ownsRow b1 e1 s1 v1 n1 x1) (h2 : w.ownsRow b2 e2 s2 v2 n2 x2) (he : e1 ≠ e2) {j : Nat} (hj : v1.ownBlock = some j) : v2.ownBlock ≠ some j := by
  intro hk
  rcases h1.2 with ⟨rfl, _⟩ | ⟨g1, _, c1, rfl, _, hh1, _⟩
  · cases hj
  rcases h2.2 with ⟨rfl, _⟩ | ⟨g2, _, c2, rfl, _, hh2, _⟩
  · cases hk
  simp only [Value.ownBlock, Option.some.injEq] at hj hk
  subst hj
  subst hk
  rw [hh1] at hh2
  injection hh2 with hh2
  injection hh2 with _ hh2 _
  exact he hh2
theorem OwnD.mono {w : World} {B B' : Nat} {x : DV} {d : Dt} (h : OwnD w B x d) (hb : B' ≤ B) : OwnD w B' x d := ⟨own_mono h.b hb, own_mono h.h hb, own_mono h.m hb, own_mono h.n hb, own_mono h.t hb⟩
theorem cellsD_one1 (p : DV × Dt) : ∀ u ∈ cellsD p, u.oneCell' = true := fun u hu => cellsD_one [p] u (by simpa using hu)
/-- Data of the call's own is kept while a row of data grows. -/
theorem OwnD.grown {w w' : World} {B : Nat} {x : DV} {d : Dt} (h : OwnD w B x d) {v : Value} {n : Nat} {xs : List Value} (hv : w.ownsRow B 26 5 v n xs) (hg : w.grownBy w' v.ownBlock) : OwnD w' B x d := by
  have hk : ∀ {e : TypeId} {s m : Nat} {u : Value} {ys : List Value}, w.ownsRow B e s u m ys → e ≠ 26 → ∀ g, u.ownBlock = some g → w'.heap[g]? = w.heap[g]? := fun ho hne g hj =>
    hg.block g (ho.lt g hj).2 (Ne.symm (own_own_apart' ho hv hne hj))
  exact ⟨own_keep h.b (hk h.b (by decide)), own_keep h.h (hk h.h (by decide)), own_keep h.m (hk h.m (by decide)), own_keep h.n (hk h.n (by decide)), own_keep h.t (hk h.t (by decide))⟩

/-- What Set has made ahead of a round: the rows of the set. -/
structure SetAt (w0 : World) (v : Value) (qs : List (DV × Dt)) (w : World) : Prop where
  row : w.ownsRow w0.heap.size 26 5 v qs.length (qs.flatMap cellsD)
  each : ∀ q ∈ qs, OwnD w w0.heap.size q.1 q.2
  below : Below w0.heap.size w0 w
  size : w0.heap.size ≤ w.heap.size
theorem SetAt.step {w0 w w' : World} {v : Value} {qs : List (DV × Dt)} (h : SetAt w0 v qs w) (hb : Below w.heap.size w w') : SetAt w0 v qs w' :=
  ⟨own_keep h.row fun j hj => hb.block j (h.row.lt j hj).2, fun q hq => (h.each q hq).keep fun g hg => hb.block g hg, h.below.trans (hb.mono h.size), Nat.le_trans h.size hb.size⟩
theorem SetAt.reads {w0 w : World} {A : Option Addr} {c : Nat} {qs : List (DV × Dt)} (h : SetAt w0 (.slice A qs.length c) qs w) : DsAt w w.heap.size A qs :=
  ⟨Row.of_own h.row, fun q hq => (h.each q hq).at_⟩
/-- One more has been appended. -/
theorem SetAt.snoc {w0 w w' : World} {v v' : Value} {qs : List (DV × Dt)} (h : SetAt w0 v qs w) {y : DV} {d : Dt} (hy : OwnD w w0.heap.size y d) (ho : w'.ownsRow w0.heap.size 26 5 v' (qs.length + 1) (qs.flatMap cellsD ++ cellsD (y, d)))
    (hg : w.grownBy w' v.ownBlock) : SetAt w0 v' (qs ++ [(y, d)]) w' := by
  refine ⟨by rw [List.length_append, List.flatMap_append]; simpa using ho, fun q hq => ?_, own_below h.below (Nat.le_refl _) h.size h.row hg, Nat.le_trans h.size hg.size⟩
  rcases List.mem_append.1 hq with hq | hq
  · exact (h.each q hq).grown h.row hg
  · rw [List.mem_singleton.1 hq]
    exact hy.grown h.row hg

/-- What Set leaves: slices of its own that say what the set says. -/
def SetOut (w : World) (s : List Dt × Int) (e : Ending) (w' : World) : Prop :=
  ∃ (A : Option Addr) (c : Nat) (qs : List (DV × Dt)), e = .returned (.tuple #[.slice A qs.length c, .int .i64 s.2]) ∧ dats qs = s.1 ∧ DsAt w' w'.heap.size A qs ∧ Below w.heap.size w w'
def SetRel (w : World) (ps : List (RV × Rt)) (n : List (List UInt8)) (k : Int) (v t i : Value) (wr : World) : Prop :=
  ∃ (j : Nat) (qs : List (DV × Dt)), j ≤ ps.length ∧ i = .int .i64 j ∧ t = .int .i64 (setF (recs (ps.take j)) n k).2 ∧ dats qs = (setF (recs (ps.take j)) n k).1 ∧ qs.length ≤ j ∧ (∀ q ∈ qs, Wide q.2) ∧ SetAt w v qs wr

set_option maxRecDepth 20000 in
set_option maxHeartbeats 8000000 in
theorem set_any (w : World) (A : Option Addr) (c : Nat) (ps : List (RV × Rt)) (An : Option Addr) (n : List (List UInt8)) (cn : Nat) (kind : Int) (hp : RsAt w w.heap.size A ps) (hn : Row w w.heap.size An (n.map sv)) (hw : WideN n)
    (hr : ∀ p ∈ ps, RIn p.2 ∧ FewD p.2.data) (hl : ps.length ≤ 100) :
    Calls Try.prog 32 #[.slice A ps.length c, .slice An n.length cn, .int .i64 kind] w (SetOut w (setF (recs ps) n kind)) := by
  obtain ⟨i0, hi0, hz0, hz1, hz2⟩ := info_parts data_info
  have HP := Lib.hid hp
  have HN := Lib.hid hn
  have HW := Lib.hid hw
  have HR := Lib.hid hr
  clear hp hn hw hr
  go_enter Try.func32, Try.ntmps32
  go_wp2
  go_loopw [6, 7, 12] (SetRel w ps n kind) (fun _ _ i _ => ps.length - (intOf i).toNat)
  case atStart => exact ⟨0, [], Nat.zero_le _, rfl, rfl, rfl, Nat.le_refl _, fun _ h => absurd h (List.not_mem_nil), World.ownsRow_nil _ _ _ _, fun _ h => absurd h (List.not_mem_nil), Below.refl _ _, Nat.le_refl _⟩
  case round =>
    obtain ⟨j, qs, hj, rfl, rfl, hq, hqj, hqw, hs⟩ := hrel
    have HS := Lib.hid hs
    have HQ := Lib.hid hq
    have HQW := Lib.hid hqw
    obtain ⟨A1, c1, rfl, _, _⟩ := own_form hs.row
    clear hs hq hqw
    by_cases hlt : j < ps.length
    · obtain ⟨b, off, rfl, hbH, hra, q0, q1, q2, q3, q4, q5, q6, q7, q8⟩ := (HP.out.below HS.out.below).at_ hlt
      have hri := HR.out _ (List.getElem_mem hlt)
      have HF := Lib.hid (setF_take hlt n kind)
      have HG := Lib.hid (show setF (recs (ps.take j)) n kind = setF (recs (ps.take j)) n kind from rfl)
      revert hra q0 q1 q2 q3 q4 q5 q6 q7 q8 hri HF
      generalize ps[j] = p
      obtain ⟨x, r⟩ := p
      intro hra q0 q1 q2 q3 q4 q5 q6 q7 q8 hri HF
      dsimp only at *
      have HRA := Lib.hid hra
      have HRI := Lib.hid hri
      clear hra hri HG
      generalize hS0 : setF (recs (ps.take j)) n kind = S0 at *
      obtain ⟨sl, st⟩ := S0
      dsimp only at HQ
      clear hS0
      have hnew := (Below.refl wr.heap.size wr).alloc (Nat.le_refl _) (.cells #[.slice x.A r.name.length x.c, .int .i64 r.kind, .int .i64 r.cls, .int .i64 r.ttl, .slice x.d.Ab r.data.bytes.length x.d.cb, .slice x.d.Ah r.data.host.length x.d.ch, .slice x.d.Am r.data.mail.length x.d.cm, .slice x.d.An r.data.nums.length x.d.cn, .slice x.d.At r.data.texts.length x.d.ct] 51)
      have HSA := Lib.hid (HS.out.step hnew)
      have HWP := Lib.hid (heap_alloc_new wr (.cells #[.slice x.A r.name.length x.c, .int .i64 r.kind, .int .i64 r.cls, .int .i64 r.ttl, .slice x.d.Ab r.data.bytes.length x.d.cb, .slice x.d.Ah r.data.host.length x.d.ch, .slice x.d.Am r.data.mail.length x.d.cm, .slice x.d.An r.data.nums.length x.d.cn, .slice x.d.At r.data.texts.length x.d.ct] 51))
      have HRB := Lib.hid ((HRA.out.mono HS.out.size).below hnew)
      by_cases k1 : r.cls = 1
      case neg =>
        have b1 : (r.cls != 1) = true := by rw [bne_iff_ne]; exact k1
        have HE := Lib.hid (show setF (recs (ps.take (j + 1))) n kind = (sl, st) by rw [HF.out, if_neg (by simp [selR, k1])])
        clear HF
        go_wp2
        refine ⟨⟨j + 1, qs, by omega, by go_num, by rw [HE.out], by rw [HE.out]; exact HQ.out, by omega, HQW.out, HSA.out⟩, by simp [intOf]; omega⟩
      have b1 : (r.cls != 1) = false := by rw [k1]; rfl
      have K1 := Lib.hid k1
      clear k1
      by_cases k2 : r.kind = kind
      case neg =>
        have b2 : (r.kind != kind) = true := by rw [bne_iff_ne]; exact k2
        have HE := Lib.hid (show setF (recs (ps.take (j + 1))) n kind = (sl, st) by rw [HF.out, if_neg (by simp [selR, k2])])
        clear HF
        go_wp2
        refine ⟨⟨j + 1, qs, by omega, by go_num, by rw [HE.out], by rw [HE.out]; exact HQ.out, by omega, HQW.out, HSA.out⟩, by simp [intOf]; omega⟩
      have b2 : (r.kind != kind) = false := by rw [k2]; simp
      have K2 := Lib.hid k2
      clear k2
      have HEQ := Lib.hid (equal_wide x.A An r.name.length n.length x.c cn wr.heap.size r.name n (wr.alloc (.cells #[.slice x.A r.name.length x.c, .int .i64 r.kind, .int .i64 r.cls, .int .i64 r.ttl, .slice x.d.Ab r.data.bytes.length x.d.cb, .slice x.d.Ah r.data.host.length x.d.ch, .slice x.d.Am r.data.mail.length x.d.cm, .slice x.d.An r.data.nums.length x.d.cn, .slice x.d.At r.data.texts.length x.d.ct] 51)) rfl rfl HRB.out.n (((HN.out.below HS.out.below).mono HS.out.size).below hnew) hnew.size HRI.out.1.n HW.out)
      clear hnew
      go_wp2_with fail
      refine HEQ.out.mono ?_
      rintro e w3 ⟨rfl, hb3⟩
      have HS3 := Lib.hid (HSA.out.step hb3)
      have HW3 := Lib.hid ((hb3.block wr.heap.size (by simp)).trans HWP.out)
      have HR3 := Lib.hid ((HRB.out.below (hb3.mono (by simp))).mono (Nat.le_trans (by simp) hb3.size))
      have hz3 : wr.heap.size < w3.heap.size := by have h := hb3.size; simp at h; omega
      clear hb3 HSA HWP HRB HEQ
      cases k3 : eqN r.name n with
      | false =>
        have HE := Lib.hid (show setF (recs (ps.take (j + 1))) n kind = (sl, st) by rw [HF.out, if_neg (by simp [selR, k3])])
        clear HF
        go_wp2
        refine ⟨⟨j + 1, qs, by omega, by go_num, by rw [HE.out], by rw [HE.out]; exact HQ.out, by omega, HQW.out, HS3.out⟩, by simp [intOf]; omega⟩
      | true =>
        have HE := Lib.hid (show setF (recs (ps.take (j + 1))) n kind = stepS (sl, st) r by rw [HF.out, if_pos (by simp [selR, K1.out, K2.out, k3])])
        clear HF
        have p0 : w3.cell? ⟨wr.heap.size, 0, none⟩ = some (.slice x.A r.name.length x.c) := Whole.cell (L := [.slice x.A r.name.length x.c, .int .i64 r.kind, .int .i64 r.cls, .int .i64 r.ttl, .slice x.d.Ab r.data.bytes.length x.d.cb, .slice x.d.Ah r.data.host.length x.d.ch, .slice x.d.Am r.data.mail.length x.d.cm, .slice x.d.An r.data.nums.length x.d.cn, .slice x.d.At r.data.texts.length x.d.ct]) HW3.out 0
        have p1 : w3.cell? ⟨wr.heap.size, 1, none⟩ = some (.int .i64 r.kind) := Whole.cell (L := [.slice x.A r.name.length x.c, .int .i64 r.kind, .int .i64 r.cls, .int .i64 r.ttl, .slice x.d.Ab r.data.bytes.length x.d.cb, .slice x.d.Ah r.data.host.length x.d.ch, .slice x.d.Am r.data.mail.length x.d.cm, .slice x.d.An r.data.nums.length x.d.cn, .slice x.d.At r.data.texts.length x.d.ct]) HW3.out 1
        have p2 : w3.cell? ⟨wr.heap.size, 2, none⟩ = some (.int .i64 r.cls) := Whole.cell (L := [.slice x.A r.name.length x.c, .int .i64 r.kind, .int .i64 r.cls, .int .i64 r.ttl, .slice x.d.Ab r.data.bytes.length x.d.cb, .slice x.d.Ah r.data.host.length x.d.ch, .slice x.d.Am r.data.mail.length x.d.cm, .slice x.d.An r.data.nums.length x.d.cn, .slice x.d.At r.data.texts.length x.d.ct]) HW3.out 2
        have p3 : w3.cell? ⟨wr.heap.size, 3, none⟩ = some (.int .i64 r.ttl) := Whole.cell (L := [.slice x.A r.name.length x.c, .int .i64 r.kind, .int .i64 r.cls, .int .i64 r.ttl, .slice x.d.Ab r.data.bytes.length x.d.cb, .slice x.d.Ah r.data.host.length x.d.ch, .slice x.d.Am r.data.mail.length x.d.cm, .slice x.d.An r.data.nums.length x.d.cn, .slice x.d.At r.data.texts.length x.d.ct]) HW3.out 3
        have p4 : w3.cell? ⟨wr.heap.size, 4, none⟩ = some (.slice x.d.Ab r.data.bytes.length x.d.cb) := Whole.cell (L := [.slice x.A r.name.length x.c, .int .i64 r.kind, .int .i64 r.cls, .int .i64 r.ttl, .slice x.d.Ab r.data.bytes.length x.d.cb, .slice x.d.Ah r.data.host.length x.d.ch, .slice x.d.Am r.data.mail.length x.d.cm, .slice x.d.An r.data.nums.length x.d.cn, .slice x.d.At r.data.texts.length x.d.ct]) HW3.out 4
        have p5 : w3.cell? ⟨wr.heap.size, 5, none⟩ = some (.slice x.d.Ah r.data.host.length x.d.ch) := Whole.cell (L := [.slice x.A r.name.length x.c, .int .i64 r.kind, .int .i64 r.cls, .int .i64 r.ttl, .slice x.d.Ab r.data.bytes.length x.d.cb, .slice x.d.Ah r.data.host.length x.d.ch, .slice x.d.Am r.data.mail.length x.d.cm, .slice x.d.An r.data.nums.length x.d.cn, .slice x.d.At r.data.texts.length x.d.ct]) HW3.out 5
        have p6 : w3.cell? ⟨wr.heap.size, 6, none⟩ = some (.slice x.d.Am r.data.mail.length x.d.cm) := Whole.cell (L := [.slice x.A r.name.length x.c, .int .i64 r.kind, .int .i64 r.cls, .int .i64 r.ttl, .slice x.d.Ab r.data.bytes.length x.d.cb, .slice x.d.Ah r.data.host.length x.d.ch, .slice x.d.Am r.data.mail.length x.d.cm, .slice x.d.An r.data.nums.length x.d.cn, .slice x.d.At r.data.texts.length x.d.ct]) HW3.out 6
        have p7 : w3.cell? ⟨wr.heap.size, 7, none⟩ = some (.slice x.d.An r.data.nums.length x.d.cn) := Whole.cell (L := [.slice x.A r.name.length x.c, .int .i64 r.kind, .int .i64 r.cls, .int .i64 r.ttl, .slice x.d.Ab r.data.bytes.length x.d.cb, .slice x.d.Ah r.data.host.length x.d.ch, .slice x.d.Am r.data.mail.length x.d.cm, .slice x.d.An r.data.nums.length x.d.cn, .slice x.d.At r.data.texts.length x.d.ct]) HW3.out 7
        have p8 : w3.cell? ⟨wr.heap.size, 8, none⟩ = some (.slice x.d.At r.data.texts.length x.d.ct) := Whole.cell (L := [.slice x.A r.name.length x.c, .int .i64 r.kind, .int .i64 r.cls, .int .i64 r.ttl, .slice x.d.Ab r.data.bytes.length x.d.cb, .slice x.d.Ah r.data.host.length x.d.ch, .slice x.d.Am r.data.mail.length x.d.cm, .slice x.d.An r.data.nums.length x.d.cn, .slice x.d.At r.data.texts.length x.d.ct]) HW3.out 8
        have HHAS := Lib.hid (has_any w3 x.d r.data A1 c1 qs HR3.out.d HS3.out.reads HRI.out.1.d HQW.out (by unfold maxLen; omega))
        have hzs : qs.length = sl.length := by rw [← HQ.out, length_dats]
        obtain ⟨st2, hst⟩ : ∃ st2, st2 = if sl = [] ∨ r.ttl < st then r.ttl else st := ⟨_, rfl⟩
        have HST := Lib.hid hst
        by_cases e1 : sl = []
        · have g1 : ((qs.length : Int) == 0) = true := by rw [beq_iff_eq, hzs, e1]; rfl
          have hst2 : st2 = r.ttl := by rw [hst, if_pos (.inl e1)]
          clear hst e1 hzs
          subst hst2
          go_wp2_with fail
          refine HHAS.out.mono ?_
          rintro e w4 ⟨rfl, hb4⟩
          have HS4 := Lib.hid (HS3.out.step hb4)
          have HW4 := Lib.hid ((hb4.block wr.heap.size hz3).trans HW3.out)
          have HR4 := Lib.hid ((HR3.out.below hb4).mono hb4.size)
          have hz4 : wr.heap.size < w4.heap.size := Nat.lt_of_lt_of_le hz3 hb4.size
          clear hb4 HS3 HW3 HR3 p0 p1 p2 p3 p4 p5 p6 p7 p8
          cases k4 : hasD (dats qs) r.data with
          | true =>
            have HE2 := Lib.hid (show setF (recs (ps.take (j + 1))) n kind = (sl, r.ttl) by rw [HE.out]; unfold stepS; rw [← HST.out]; dsimp only; rw [← HQ.out, if_pos k4])
            clear HE
            go_wp2
            refine ⟨⟨j + 1, qs, by omega, by go_num, by rw [HE2.out], by rw [HE2.out]; exact HQ.out, by omega, HQW.out, HS4.out⟩, by simp [intOf]; omega⟩
          | false =>
            have HE2 := Lib.hid (show setF (recs (ps.take (j + 1))) n kind = (sl ++ [r.data], r.ttl) by rw [HE.out]; unfold stepS; rw [← HST.out]; dsimp only; rw [← HQ.out, if_neg (by rw [k4]; decide)])
            clear HE
            have p0 : w4.cell? ⟨wr.heap.size, 0, none⟩ = some (.slice x.A r.name.length x.c) := Whole.cell (L := [.slice x.A r.name.length x.c, .int .i64 r.kind, .int .i64 r.cls, .int .i64 r.ttl, .slice x.d.Ab r.data.bytes.length x.d.cb, .slice x.d.Ah r.data.host.length x.d.ch, .slice x.d.Am r.data.mail.length x.d.cm, .slice x.d.An r.data.nums.length x.d.cn, .slice x.d.At r.data.texts.length x.d.ct]) HW4.out 0
            have p1 : w4.cell? ⟨wr.heap.size, 1, none⟩ = some (.int .i64 r.kind) := Whole.cell (L := [.slice x.A r.name.length x.c, .int .i64 r.kind, .int .i64 r.cls, .int .i64 r.ttl, .slice x.d.Ab r.data.bytes.length x.d.cb, .slice x.d.Ah r.data.host.length x.d.ch, .slice x.d.Am r.data.mail.length x.d.cm, .slice x.d.An r.data.nums.length x.d.cn, .slice x.d.At r.data.texts.length x.d.ct]) HW4.out 1
            have p2 : w4.cell? ⟨wr.heap.size, 2, none⟩ = some (.int .i64 r.cls) := Whole.cell (L := [.slice x.A r.name.length x.c, .int .i64 r.kind, .int .i64 r.cls, .int .i64 r.ttl, .slice x.d.Ab r.data.bytes.length x.d.cb, .slice x.d.Ah r.data.host.length x.d.ch, .slice x.d.Am r.data.mail.length x.d.cm, .slice x.d.An r.data.nums.length x.d.cn, .slice x.d.At r.data.texts.length x.d.ct]) HW4.out 2
            have p3 : w4.cell? ⟨wr.heap.size, 3, none⟩ = some (.int .i64 r.ttl) := Whole.cell (L := [.slice x.A r.name.length x.c, .int .i64 r.kind, .int .i64 r.cls, .int .i64 r.ttl, .slice x.d.Ab r.data.bytes.length x.d.cb, .slice x.d.Ah r.data.host.length x.d.ch, .slice x.d.Am r.data.mail.length x.d.cm, .slice x.d.An r.data.nums.length x.d.cn, .slice x.d.At r.data.texts.length x.d.ct]) HW4.out 3
            have p4 : w4.cell? ⟨wr.heap.size, 4, none⟩ = some (.slice x.d.Ab r.data.bytes.length x.d.cb) := Whole.cell (L := [.slice x.A r.name.length x.c, .int .i64 r.kind, .int .i64 r.cls, .int .i64 r.ttl, .slice x.d.Ab r.data.bytes.length x.d.cb, .slice x.d.Ah r.data.host.length x.d.ch, .slice x.d.Am r.data.mail.length x.d.cm, .slice x.d.An r.data.nums.length x.d.cn, .slice x.d.At r.data.texts.length x.d.ct]) HW4.out 4
            have p5 : w4.cell? ⟨wr.heap.size, 5, none⟩ = some (.slice x.d.Ah r.data.host.length x.d.ch) := Whole.cell (L := [.slice x.A r.name.length x.c, .int .i64 r.kind, .int .i64 r.cls, .int .i64 r.ttl, .slice x.d.Ab r.data.bytes.length x.d.cb, .slice x.d.Ah r.data.host.length x.d.ch, .slice x.d.Am r.data.mail.length x.d.cm, .slice x.d.An r.data.nums.length x.d.cn, .slice x.d.At r.data.texts.length x.d.ct]) HW4.out 5
            have p6 : w4.cell? ⟨wr.heap.size, 6, none⟩ = some (.slice x.d.Am r.data.mail.length x.d.cm) := Whole.cell (L := [.slice x.A r.name.length x.c, .int .i64 r.kind, .int .i64 r.cls, .int .i64 r.ttl, .slice x.d.Ab r.data.bytes.length x.d.cb, .slice x.d.Ah r.data.host.length x.d.ch, .slice x.d.Am r.data.mail.length x.d.cm, .slice x.d.An r.data.nums.length x.d.cn, .slice x.d.At r.data.texts.length x.d.ct]) HW4.out 6
            have p7 : w4.cell? ⟨wr.heap.size, 7, none⟩ = some (.slice x.d.An r.data.nums.length x.d.cn) := Whole.cell (L := [.slice x.A r.name.length x.c, .int .i64 r.kind, .int .i64 r.cls, .int .i64 r.ttl, .slice x.d.Ab r.data.bytes.length x.d.cb, .slice x.d.Ah r.data.host.length x.d.ch, .slice x.d.Am r.data.mail.length x.d.cm, .slice x.d.An r.data.nums.length x.d.cn, .slice x.d.At r.data.texts.length x.d.ct]) HW4.out 7
            have p8 : w4.cell? ⟨wr.heap.size, 8, none⟩ = some (.slice x.d.At r.data.texts.length x.d.ct) := Whole.cell (L := [.slice x.A r.name.length x.c, .int .i64 r.kind, .int .i64 r.cls, .int .i64 r.ttl, .slice x.d.Ab r.data.bytes.length x.d.cb, .slice x.d.Ah r.data.host.length x.d.ch, .slice x.d.Am r.data.mail.length x.d.cm, .slice x.d.An r.data.nums.length x.d.cn, .slice x.d.At r.data.texts.length x.d.ct]) HW4.out 8
            have HCP := Lib.hid (copyOf_any x.d r.data w4 HR4.out.d HRI.out.2)
            go_wp2_with fail
            refine HCP.out.mono ?_
            rintro e w5 ⟨y, rfl, hy, hb5⟩
            have HS5 := Lib.hid (HS4.out.step hb5)
            have HY5 := Lib.hid (hy.mono HS4.out.size)
            have hnew5 := (Below.refl w5.heap.size w5).alloc (Nat.le_refl _) (.cells #[.slice y.Ab r.data.bytes.length y.cb, .slice y.Ah r.data.host.length y.ch, .slice y.Am r.data.mail.length y.cm, .slice y.An r.data.nums.length y.cn, .slice y.At r.data.texts.length y.ct] 26)
            have HS6 := Lib.hid (HS5.out.step hnew5)
            have HY6 := Lib.hid (HY5.out.keep (fun g hg => hnew5.block g hg))
            have HRD := Lib.hid (Row.made w5 #[.slice y.Ab r.data.bytes.length y.cb, .slice y.Ah r.data.host.length y.ch, .slice y.Am r.data.mail.length y.cm, .slice y.An r.data.nums.length y.cn, .slice y.At r.data.texts.length y.ct] 26)
            clear hy hb5 HS5 HY5 hnew5
            go_wp2_with (
              at_builtin
              refine wpList_append_row rfl (.tmp 48) (.tmp 52) _ rfl w.heap.size 26 i0 _ 5 120 Try.underlying58 hi0 hz0 hz1 hz2 rfl (by omega) (.slice A1 qs.length c1) qs.length _ rfl HS6.out.row
                (some ⟨w5.heap.size, 0, none⟩) 1 1 (w5.heap.size + 1) (cellsD (y, r.data)) rfl rfl HRD.out (cellsD_one1 _) (by unfold maxLen; omega) (by omega) HS6.out.size ?_
              intro v7 w7 hown7 hg7
              have HS7 := Lib.hid (HS6.out.snoc HY6.out hown7 hg7)
              clear hown7 hg7)
            refine ⟨⟨j + 1, qs ++ [(y, r.data)], by omega, by go_num, by rw [HE2.out], by rw [HE2.out, dats_append, HQ.out]; rfl, by simp; omega, fun q hq => ?_, HS7.out⟩, by simp [intOf]; omega⟩
            rcases List.mem_append.1 hq with hq | hq
            · exact HQW.out q hq
            · rw [List.mem_singleton.1 hq]; exact HRI.out.1.d
        · have g1 : ((qs.length : Int) == 0) = false := by
            rw [beq_eq_false_iff_ne]
            intro h
            apply e1
            apply List.eq_nil_of_length_eq_zero
            omega
          by_cases e2 : r.ttl < st
          · have g2 : decide (r.ttl < st) = true := by simpa using e2
            have hst2 : st2 = r.ttl := by rw [hst, if_pos (.inr e2)]
            clear hst e1 e2 hzs
            subst hst2
            go_wp2_with fail
            refine HHAS.out.mono ?_
            rintro e w4 ⟨rfl, hb4⟩
            have HS4 := Lib.hid (HS3.out.step hb4)
            have HW4 := Lib.hid ((hb4.block wr.heap.size hz3).trans HW3.out)
            have HR4 := Lib.hid ((HR3.out.below hb4).mono hb4.size)
            have hz4 : wr.heap.size < w4.heap.size := Nat.lt_of_lt_of_le hz3 hb4.size
            clear hb4 HS3 HW3 HR3 p0 p1 p2 p3 p4 p5 p6 p7 p8
            cases k4 : hasD (dats qs) r.data with
            | true =>
              have HE2 := Lib.hid (show setF (recs (ps.take (j + 1))) n kind = (sl, r.ttl) by rw [HE.out]; unfold stepS; rw [← HST.out]; dsimp only; rw [← HQ.out, if_pos k4])
              clear HE
              go_wp2
              refine ⟨⟨j + 1, qs, by omega, by go_num, by rw [HE2.out], by rw [HE2.out]; exact HQ.out, by omega, HQW.out, HS4.out⟩, by simp [intOf]; omega⟩
            | false =>
              have HE2 := Lib.hid (show setF (recs (ps.take (j + 1))) n kind = (sl ++ [r.data], r.ttl) by rw [HE.out]; unfold stepS; rw [← HST.out]; dsimp only; rw [← HQ.out, if_neg (by rw [k4]; decide)])
              clear HE
              have p0 : w4.cell? ⟨wr.heap.size, 0, none⟩ = some (.slice x.A r.name.length x.c) := Whole.cell (L := [.slice x.A r.name.length x.c, .int .i64 r.kind, .int .i64 r.cls, .int .i64 r.ttl, .slice x.d.Ab r.data.bytes.length x.d.cb, .slice x.d.Ah r.data.host.length x.d.ch, .slice x.d.Am r.data.mail.length x.d.cm, .slice x.d.An r.data.nums.length x.d.cn, .slice x.d.At r.data.texts.length x.d.ct]) HW4.out 0
              have p1 : w4.cell? ⟨wr.heap.size, 1, none⟩ = some (.int .i64 r.kind) := Whole.cell (L := [.slice x.A r.name.length x.c, .int .i64 r.kind, .int .i64 r.cls, .int .i64 r.ttl, .slice x.d.Ab r.data.bytes.length x.d.cb, .slice x.d.Ah r.data.host.length x.d.ch, .slice x.d.Am r.data.mail.length x.d.cm, .slice x.d.An r.data.nums.length x.d.cn, .slice x.d.At r.data.texts.length x.d.ct]) HW4.out 1
              have p2 : w4.cell? ⟨wr.heap.size, 2, none⟩ = some (.int .i64 r.cls) := Whole.cell (L := [.slice x.A r.name.length x.c, .int .i64 r.kind, .int .i64 r.cls, .int .i64 r.ttl, .slice x.d.Ab r.data.bytes.length x.d.cb, .slice x.d.Ah r.data.host.length x.d.ch, .slice x.d.Am r.data.mail.length x.d.cm, .slice x.d.An r.data.nums.length x.d.cn, .slice x.d.At r.data.texts.length x.d.ct]) HW4.out 2
              have p3 : w4.cell? ⟨wr.heap.size, 3, none⟩ = some (.int .i64 r.ttl) := Whole.cell (L := [.slice x.A r.name.length x.c, .int .i64 r.kind, .int .i64 r.cls, .int .i64 r.ttl, .slice x.d.Ab r.data.bytes.length x.d.cb, .slice x.d.Ah r.data.host.length x.d.ch, .slice x.d.Am r.data.mail.length x.d.cm, .slice x.d.An r.data.nums.length x.d.cn, .slice x.d.At r.data.texts.length x.d.ct]) HW4.out 3
              have p4 : w4.cell? ⟨wr.heap.size, 4, none⟩ = some (.slice x.d.Ab r.data.bytes.length x.d.cb) := Whole.cell (L := [.slice x.A r.name.length x.c, .int .i64 r.kind, .int .i64 r.cls, .int .i64 r.ttl, .slice x.d.Ab r.data.bytes.length x.d.cb, .slice x.d.Ah r.data.host.length x.d.ch, .slice x.d.Am r.data.mail.length x.d.cm, .slice x.d.An r.data.nums.length x.d.cn, .slice x.d.At r.data.texts.length x.d.ct]) HW4.out 4
              have p5 : w4.cell? ⟨wr.heap.size, 5, none⟩ = some (.slice x.d.Ah r.data.host.length x.d.ch) := Whole.cell (L := [.slice x.A r.name.length x.c, .int .i64 r.kind, .int .i64 r.cls, .int .i64 r.ttl, .slice x.d.Ab r.data.bytes.length x.d.cb, .slice x.d.Ah r.data.host.length x.d.ch, .slice x.d.Am r.data.mail.length x.d.cm, .slice x.d.An r.data.nums.length x.d.cn, .slice x.d.At r.data.texts.length x.d.ct]) HW4.out 5
              have p6 : w4.cell? ⟨wr.heap.size, 6, none⟩ = some (.slice x.d.Am r.data.mail.length x.d.cm) := Whole.cell (L := [.slice x.A r.name.length x.c, .int .i64 r.kind, .int .i64 r.cls, .int .i64 r.ttl, .slice x.d.Ab r.data.bytes.length x.d.cb, .slice x.d.Ah r.data.host.length x.d.ch, .slice x.d.Am r.data.mail.length x.d.cm, .slice x.d.An r.data.nums.length x.d.cn, .slice x.d.At r.data.texts.length x.d.ct]) HW4.out 6
              have p7 : w4.cell? ⟨wr.heap.size, 7, none⟩ = some (.slice x.d.An r.data.nums.length x.d.cn) := Whole.cell (L := [.slice x.A r.name.length x.c, .int .i64 r.kind, .int .i64 r.cls, .int .i64 r.ttl, .slice x.d.Ab r.data.bytes.length x.d.cb, .slice x.d.Ah r.data.host.length x.d.ch, .slice x.d.Am r.data.mail.length x.d.cm, .slice x.d.An r.data.nums.length x.d.cn, .slice x.d.At r.data.texts.length x.d.ct]) HW4.out 7
              have p8 : w4.cell? ⟨wr.heap.size, 8, none⟩ = some (.slice x.d.At r.data.texts.length x.d.ct) := Whole.cell (L := [.slice x.A r.name.length x.c, .int .i64 r.kind, .int .i64 r.cls, .int .i64 r.ttl, .slice x.d.Ab r.data.bytes.length x.d.cb, .slice x.d.Ah r.data.host.length x.d.ch, .slice x.d.Am r.data.mail.length x.d.cm, .slice x.d.An r.data.nums.length x.d.cn, .slice x.d.At r.data.texts.length x.d.ct]) HW4.out 8
              have HCP := Lib.hid (copyOf_any x.d r.data w4 HR4.out.d HRI.out.2)
              go_wp2_with fail
              refine HCP.out.mono ?_
              rintro e w5 ⟨y, rfl, hy, hb5⟩
              have HS5 := Lib.hid (HS4.out.step hb5)
              have HY5 := Lib.hid (hy.mono HS4.out.size)
              have hnew5 := (Below.refl w5.heap.size w5).alloc (Nat.le_refl _) (.cells #[.slice y.Ab r.data.bytes.length y.cb, .slice y.Ah r.data.host.length y.ch, .slice y.Am r.data.mail.length y.cm, .slice y.An r.data.nums.length y.cn, .slice y.At r.data.texts.length y.ct] 26)
              have HS6 := Lib.hid (HS5.out.step hnew5)
              have HY6 := Lib.hid (HY5.out.keep (fun g hg => hnew5.block g hg))
              have HRD := Lib.hid (Row.made w5 #[.slice y.Ab r.data.bytes.length y.cb, .slice y.Ah r.data.host.length y.ch, .slice y.Am r.data.mail.length y.cm, .slice y.An r.data.nums.length y.cn, .slice y.At r.data.texts.length y.ct] 26)
              clear hy hb5 HS5 HY5 hnew5
              go_wp2_with (
                at_builtin
                refine wpList_append_row rfl (.tmp 48) (.tmp 52) _ rfl w.heap.size 26 i0 _ 5 120 Try.underlying58 hi0 hz0 hz1 hz2 rfl (by omega) (.slice A1 qs.length c1) qs.length _ rfl HS6.out.row
                  (some ⟨w5.heap.size, 0, none⟩) 1 1 (w5.heap.size + 1) (cellsD (y, r.data)) rfl rfl HRD.out (cellsD_one1 _) (by unfold maxLen; omega) (by omega) HS6.out.size ?_
                intro v7 w7 hown7 hg7
                have HS7 := Lib.hid (HS6.out.snoc HY6.out hown7 hg7)
                clear hown7 hg7)
              refine ⟨⟨j + 1, qs ++ [(y, r.data)], by omega, by go_num, by rw [HE2.out], by rw [HE2.out, dats_append, HQ.out]; rfl, by simp; omega, fun q hq => ?_, HS7.out⟩, by simp [intOf]; omega⟩
              rcases List.mem_append.1 hq with hq | hq
              · exact HQW.out q hq
              · rw [List.mem_singleton.1 hq]; exact HRI.out.1.d
          · have g2 : decide (r.ttl < st) = false := by simpa using e2
            have hst2 : st2 = st := by rw [hst, if_neg (by rintro (h | h); exact e1 h; exact e2 h)]
            clear hst e1 e2 hzs
            subst hst2
            go_wp2_with fail
            refine HHAS.out.mono ?_
            rintro e w4 ⟨rfl, hb4⟩
            have HS4 := Lib.hid (HS3.out.step hb4)
            have HW4 := Lib.hid ((hb4.block wr.heap.size hz3).trans HW3.out)
            have HR4 := Lib.hid ((HR3.out.below hb4).mono hb4.size)
            have hz4 : wr.heap.size < w4.heap.size := Nat.lt_of_lt_of_le hz3 hb4.size
            clear hb4 HS3 HW3 HR3 p0 p1 p2 p3 p4 p5 p6 p7 p8
            cases k4 : hasD (dats qs) r.data with
            | true =>
              have HE2 := Lib.hid (show setF (recs (ps.take (j + 1))) n kind = (sl, st2) by rw [HE.out]; unfold stepS; rw [← HST.out]; dsimp only; rw [← HQ.out, if_pos k4])
              clear HE
              go_wp2
              refine ⟨⟨j + 1, qs, by omega, by go_num, by rw [HE2.out], by rw [HE2.out]; exact HQ.out, by omega, HQW.out, HS4.out⟩, by simp [intOf]; omega⟩
            | false =>
              have HE2 := Lib.hid (show setF (recs (ps.take (j + 1))) n kind = (sl ++ [r.data], st2) by rw [HE.out]; unfold stepS; rw [← HST.out]; dsimp only; rw [← HQ.out, if_neg (by rw [k4]; decide)])
              clear HE
              have p0 : w4.cell? ⟨wr.heap.size, 0, none⟩ = some (.slice x.A r.name.length x.c) := Whole.cell (L := [.slice x.A r.name.length x.c, .int .i64 r.kind, .int .i64 r.cls, .int .i64 r.ttl, .slice x.d.Ab r.data.bytes.length x.d.cb, .slice x.d.Ah r.data.host.length x.d.ch, .slice x.d.Am r.data.mail.length x.d.cm, .slice x.d.An r.data.nums.length x.d.cn, .slice x.d.At r.data.texts.length x.d.ct]) HW4.out 0
              have p1 : w4.cell? ⟨wr.heap.size, 1, none⟩ = some (.int .i64 r.kind) := Whole.cell (L := [.slice x.A r.name.length x.c, .int .i64 r.kind, .int .i64 r.cls, .int .i64 r.ttl, .slice x.d.Ab r.data.bytes.length x.d.cb, .slice x.d.Ah r.data.host.length x.d.ch, .slice x.d.Am r.data.mail.length x.d.cm, .slice x.d.An r.data.nums.length x.d.cn, .slice x.d.At r.data.texts.length x.d.ct]) HW4.out 1
              have p2 : w4.cell? ⟨wr.heap.size, 2, none⟩ = some (.int .i64 r.cls) := Whole.cell (L := [.slice x.A r.name.length x.c, .int .i64 r.kind, .int .i64 r.cls, .int .i64 r.ttl, .slice x.d.Ab r.data.bytes.length x.d.cb, .slice x.d.Ah r.data.host.length x.d.ch, .slice x.d.Am r.data.mail.length x.d.cm, .slice x.d.An r.data.nums.length x.d.cn, .slice x.d.At r.data.texts.length x.d.ct]) HW4.out 2
              have p3 : w4.cell? ⟨wr.heap.size, 3, none⟩ = some (.int .i64 r.ttl) := Whole.cell (L := [.slice x.A r.name.length x.c, .int .i64 r.kind, .int .i64 r.cls, .int .i64 r.ttl, .slice x.d.Ab r.data.bytes.length x.d.cb, .slice x.d.Ah r.data.host.length x.d.ch, .slice x.d.Am r.data.mail.length x.d.cm, .slice x.d.An r.data.nums.length x.d.cn, .slice x.d.At r.data.texts.length x.d.ct]) HW4.out 3
              have p4 : w4.cell? ⟨wr.heap.size, 4, none⟩ = some (.slice x.d.Ab r.data.bytes.length x.d.cb) := Whole.cell (L := [.slice x.A r.name.length x.c, .int .i64 r.kind, .int .i64 r.cls, .int .i64 r.ttl, .slice x.d.Ab r.data.bytes.length x.d.cb, .slice x.d.Ah r.data.host.length x.d.ch, .slice x.d.Am r.data.mail.length x.d.cm, .slice x.d.An r.data.nums.length x.d.cn, .slice x.d.At r.data.texts.length x.d.ct]) HW4.out 4
              have p5 : w4.cell? ⟨wr.heap.size, 5, none⟩ = some (.slice x.d.Ah r.data.host.length x.d.ch) := Whole.cell (L := [.slice x.A r.name.length x.c, .int .i64 r.kind, .int .i64 r.cls, .int .i64 r.ttl, .slice x.d.Ab r.data.bytes.length x.d.cb, .slice x.d.Ah r.data.host.length x.d.ch, .slice x.d.Am r.data.mail.length x.d.cm, .slice x.d.An r.data.nums.length x.d.cn, .slice x.d.At r.data.texts.length x.d.ct]) HW4.out 5
              have p6 : w4.cell? ⟨wr.heap.size, 6, none⟩ = some (.slice x.d.Am r.data.mail.length x.d.cm) := Whole.cell (L := [.slice x.A r.name.length x.c, .int .i64 r.kind, .int .i64 r.cls, .int .i64 r.ttl, .slice x.d.Ab r.data.bytes.length x.d.cb, .slice x.d.Ah r.data.host.length x.d.ch, .slice x.d.Am r.data.mail.length x.d.cm, .slice x.d.An r.data.nums.length x.d.cn, .slice x.d.At r.data.texts.length x.d.ct]) HW4.out 6
              have p7 : w4.cell? ⟨wr.heap.size, 7, none⟩ = some (.slice x.d.An r.data.nums.length x.d.cn) := Whole.cell (L := [.slice x.A r.name.length x.c, .int .i64 r.kind, .int .i64 r.cls, .int .i64 r.ttl, .slice x.d.Ab r.data.bytes.length x.d.cb, .slice x.d.Ah r.data.host.length x.d.ch, .slice x.d.Am r.data.mail.length x.d.cm, .slice x.d.An r.data.nums.length x.d.cn, .slice x.d.At r.data.texts.length x.d.ct]) HW4.out 7
              have p8 : w4.cell? ⟨wr.heap.size, 8, none⟩ = some (.slice x.d.At r.data.texts.length x.d.ct) := Whole.cell (L := [.slice x.A r.name.length x.c, .int .i64 r.kind, .int .i64 r.cls, .int .i64 r.ttl, .slice x.d.Ab r.data.bytes.length x.d.cb, .slice x.d.Ah r.data.host.length x.d.ch, .slice x.d.Am r.data.mail.length x.d.cm, .slice x.d.An r.data.nums.length x.d.cn, .slice x.d.At r.data.texts.length x.d.ct]) HW4.out 8
              have HCP := Lib.hid (copyOf_any x.d r.data w4 HR4.out.d HRI.out.2)
              go_wp2_with fail
              refine HCP.out.mono ?_
              rintro e w5 ⟨y, rfl, hy, hb5⟩
              have HS5 := Lib.hid (HS4.out.step hb5)
              have HY5 := Lib.hid (hy.mono HS4.out.size)
              have hnew5 := (Below.refl w5.heap.size w5).alloc (Nat.le_refl _) (.cells #[.slice y.Ab r.data.bytes.length y.cb, .slice y.Ah r.data.host.length y.ch, .slice y.Am r.data.mail.length y.cm, .slice y.An r.data.nums.length y.cn, .slice y.At r.data.texts.length y.ct] 26)
              have HS6 := Lib.hid (HS5.out.step hnew5)
              have HY6 := Lib.hid (HY5.out.keep (fun g hg => hnew5.block g hg))
              have HRD := Lib.hid (Row.made w5 #[.slice y.Ab r.data.bytes.length y.cb, .slice y.Ah r.data.host.length y.ch, .slice y.Am r.data.mail.length y.cm, .slice y.An r.data.nums.length y.cn, .slice y.At r.data.texts.length y.ct] 26)
              clear hy hb5 HS5 HY5 hnew5
              go_wp2_with (
                at_builtin
                refine wpList_append_row rfl (.tmp 48) (.tmp 52) _ rfl w.heap.size 26 i0 _ 5 120 Try.underlying58 hi0 hz0 hz1 hz2 rfl (by omega) (.slice A1 qs.length c1) qs.length _ rfl HS6.out.row
                  (some ⟨w5.heap.size, 0, none⟩) 1 1 (w5.heap.size + 1) (cellsD (y, r.data)) rfl rfl HRD.out (cellsD_one1 _) (by unfold maxLen; omega) (by omega) HS6.out.size ?_
                intro v7 w7 hown7 hg7
                have HS7 := Lib.hid (HS6.out.snoc HY6.out hown7 hg7)
                clear hown7 hg7)
              refine ⟨⟨j + 1, qs ++ [(y, r.data)], by omega, by go_num, by rw [HE2.out], by rw [HE2.out, dats_append, HQ.out]; rfl, by simp; omega, fun q hq => ?_, HS7.out⟩, by simp [intOf]; omega⟩
              rcases List.mem_append.1 hq with hq | hq
              · exact HQW.out q hq
              · rw [List.mem_singleton.1 hq]; exact HRI.out.1.d
    · obtain rfl : j = ps.length := by omega
      rw [List.take_length] at *
      go_wp2
      go_ret2
      exact ⟨A1, c1, qs, rfl, HQ.out, HS.out.reads, HS.out.below⟩

end Go.Proofs.Ytjjmllbkfbdcnaa
