/-
  The contract of the teller's counting: which records of a section count.
-/
import Derived.Test.YthppgofpbpjglaaGreatFbP10
import Derived.Test.YthppgofpbpjglaaGreatFbP2
import Derived.Test.YthppgofpbpjglaaGreatFbP6
import Derived.Test.YthppgofpbpjglaaGreatFbP4
namespace Go.Proofs.YthppgofpbpjglaaGreat
open Go.RowKit

def CountRel (w : World) (T : Te) (ps : List (RV × Rt)) (v i : Value) (wr : World) : Prop :=
  ∃ (j : Nat) (A : Option Addr) (c : Nat) (qs : List (RV × Rt)), j ≤ ps.length ∧ i = .int .i64 j ∧ v = .slice A qs.length c ∧ qs.length ≤ j ∧ (∀ q ∈ qs, q ∈ ps ∧ q.2.cls = 1 ∧ underN q.2.name T.z = true) ∧ wr.ownsRow w.heap.size 46 9 (.slice A qs.length c) qs.length (qs.flatMap cellsR) ∧ Below w.heap.size w wr
/-- What counting answers. -/
def CountOut (w0 w : World) (T : Te) (l : List Rt) (e : Ending) (w' : World) : Prop :=
  ∃ S : Sec, e = .returned (.slice S.A S.ps.length S.c) ∧ SecOk w0 T S l ∧ w'.ownsRow w.heap.size 46 9 S.v S.ps.length (S.ps.flatMap cellsR) ∧ Below w.heap.size w w'

set_option maxRecDepth 20000 in
set_option maxHeartbeats 8000000 in
theorem counting_any (w0 w : World) (T : Te) (ok : TeOk w0 T) (b : Nat) (hbl : b < w.heap.size) (hw0 : Below w0.heap.size w0 w) (hc : w.cell? ⟨b, 17, none⟩ = some (.slice T.A T.z.length T.c)) (A : Option Addr) (c : Nat) (ps : List (RV × Rt)) (hp : RsAt w0 w0.heap.size A ps)
    (hs : ∀ p ∈ ps, SoundR p.2) (hl : ps.length ≤ 1000) :
    Calls Tryz.prog 38 #[.pointer (some ⟨b, 0, none⟩), .slice A ps.length c] w (CountOut w0 w T (recs ps)) := by
  obtain ⟨i0, hi0, hz0, hz1, hz2⟩ := info_parts rr_info
  have HP := Lib.hid hp
  have HPS := Lib.hid hs
  have HW0 := Lib.hid hw0
  have HC := Lib.hid (fun W (hb : Below w.heap.size w W) => (show W.cell? ⟨b, 17, none⟩ = some (.slice T.A T.z.length T.c) from (hb.cell (p := ⟨b, 17, none⟩) hbl).trans hc))
  have HZN := Lib.hid (fun W (hb : Below w0.heap.size w0 W) => ok.z.below hb)
  have HZS := Lib.hid (soundN_sz ok.zs)
  have HWZ := Lib.hid hw0.size
  clear hp hs hw0 hc ok
  go_enter Tryz.func38, Tryz.ntmps38
  go_wp2
  go_loopw [5, 10] (CountRel w T ps) (fun _ i _ => ps.length - (intOf i).toNat)
  case atStart => exact ⟨0, none, 0, [], Nat.zero_le _, rfl, rfl, Nat.le_refl _, fun _ h => absurd h (List.not_mem_nil), World.ownsRow_nil _ _ _ _, Below.refl _ _⟩
  case round =>
    obtain ⟨j, A1, c1, qs, hj, rfl, rfl, hqj, hq, ho, hb⟩ := hrel
    have HQ := Lib.hid hq
    have HO := Lib.hid ho
    have HBA := Lib.hid hb
    have HZ := Lib.hid hb.size
    clear hq ho hb
    by_cases hlt : j < ps.length
    · have HBB := Lib.hid (HW0.out.trans (HBA.out.mono HWZ.out))
      obtain ⟨bp, off, rfl, hbH, hra, q0, q1, q2, q3, q4, q5, q6, q7, q8⟩ := (HP.out.below HBB.out).at_ hlt
      have HM := Lib.hid (List.getElem_mem hlt)
      have HSR := Lib.hid (HPS.out _ (List.getElem_mem hlt))
      revert hra q0 q1 q2 q3 q4 q5 q6 q7 q8 HM HSR
      generalize ps[j] = p
      obtain ⟨x, r⟩ := p
      intro hra q0 q1 q2 q3 q4 q5 q6 q7 q8 HM HSR
      dsimp only at *
      have HRA := Lib.hid hra
      clear hra
      have HNEW := Lib.hid ((Below.refl wr.heap.size wr).alloc (Nat.le_refl _) (.cells #[.slice x.A r.name.length x.c, .int .i64 r.kind, .int .i64 r.cls, .int .i64 r.ttl, .slice x.d.Ab r.data.bytes.length x.d.cb, .slice x.d.Ah r.data.host.length x.d.ch, .slice x.d.Am r.data.mail.length x.d.cm, .slice x.d.An r.data.nums.length x.d.cn, .slice x.d.At r.data.texts.length x.d.ct] 46))
      have HWB := Lib.hid (Whole.made wr (cellsR (x, r)) 46)
      have hzn : (wr.alloc (.cells #[.slice x.A r.name.length x.c, .int .i64 r.kind, .int .i64 r.cls, .int .i64 r.ttl, .slice x.d.Ab r.data.bytes.length x.d.cb, .slice x.d.Ah r.data.host.length x.d.ch, .slice x.d.Am r.data.mail.length x.d.cm, .slice x.d.An r.data.nums.length x.d.cn, .slice x.d.At r.data.texts.length x.d.ct] 46)).heap.size = wr.heap.size + 1 := by simp
      have hzl : wr.heap.size < (wr.alloc (.cells #[.slice x.A r.name.length x.c, .int .i64 r.kind, .int .i64 r.cls, .int .i64 r.ttl, .slice x.d.Ab r.data.bytes.length x.d.cb, .slice x.d.Ah r.data.host.length x.d.ch, .slice x.d.Am r.data.mail.length x.d.cm, .slice x.d.An r.data.nums.length x.d.cn, .slice x.d.At r.data.texts.length x.d.ct] 46)).heap.size := by rw [hzn]; omega
      have HBC := Lib.hid (Below.refl (wr.alloc (.cells #[.slice x.A r.name.length x.c, .int .i64 r.kind, .int .i64 r.cls, .int .i64 r.ttl, .slice x.d.Ab r.data.bytes.length x.d.cb, .slice x.d.Ah r.data.host.length x.d.ch, .slice x.d.Am r.data.mail.length x.d.cm, .slice x.d.An r.data.nums.length x.d.cn, .slice x.d.At r.data.texts.length x.d.ct] 46)).heap.size (wr.alloc (.cells #[.slice x.A r.name.length x.c, .int .i64 r.kind, .int .i64 r.cls, .int .i64 r.ttl, .slice x.d.Ab r.data.bytes.length x.d.cb, .slice x.d.Ah r.data.host.length x.d.ch, .slice x.d.Am r.data.mail.length x.d.cm, .slice x.d.An r.data.nums.length x.d.cn, .slice x.d.At r.data.texts.length x.d.ct] 46))).drew
      have HSX := Lib.hid (show ∀ W, Below (wr.alloc (.cells #[.slice x.A r.name.length x.c, .int .i64 r.kind, .int .i64 r.cls, .int .i64 r.ttl, .slice x.d.Ab r.data.bytes.length x.d.cb, .slice x.d.Ah r.data.host.length x.d.ch, .slice x.d.Am r.data.mail.length x.d.cm, .slice x.d.An r.data.nums.length x.d.cn, .slice x.d.At r.data.texts.length x.d.ct] 46)).heap.size (wr.alloc (.cells #[.slice x.A r.name.length x.c, .int .i64 r.kind, .int .i64 r.cls, .int .i64 r.ttl, .slice x.d.Ab r.data.bytes.length x.d.cb, .slice x.d.Ah r.data.host.length x.d.ch, .slice x.d.Am r.data.mail.length x.d.cm, .slice x.d.An r.data.nums.length x.d.cn, .slice x.d.At r.data.texts.length x.d.ct] 46)) W → (W.cell? ⟨b, 17, none⟩ = some (.slice T.A T.z.length T.c) ∧ W.cell? ⟨wr.heap.size, 0, none⟩ = some (.slice x.A r.name.length x.c) ∧ W.cell? ⟨wr.heap.size, 1, none⟩ = some (.int .i64 r.kind) ∧ W.cell? ⟨wr.heap.size, 2, none⟩ = some (.int .i64 r.cls)) from fun W hb => ⟨HC.out W (HBA.out.trans ((HNEW.out.trans (hb.mono (by rw [hzn]; omega))).mono HZ.out)), (HWB.out.below hb HWB.out.lt).cell 0, (HWB.out.below hb HWB.out.lt).cell 1, (HWB.out.below hb HWB.out.lt).cell 2⟩)
      have HKD := Lib.hid (fun W => fkind_any r.kind W)
      have HU := Lib.hid (fun W (hb : Below (wr.alloc (.cells #[.slice x.A r.name.length x.c, .int .i64 r.kind, .int .i64 r.cls, .int .i64 r.ttl, .slice x.d.Ab r.data.bytes.length x.d.cb, .slice x.d.Ah r.data.host.length x.d.ch, .slice x.d.Am r.data.mail.length x.d.cm, .slice x.d.An r.data.nums.length x.d.cn, .slice x.d.At r.data.texts.length x.d.ct] 46)).heap.size (wr.alloc (.cells #[.slice x.A r.name.length x.c, .int .i64 r.kind, .int .i64 r.cls, .int .i64 r.ttl, .slice x.d.Ab r.data.bytes.length x.d.cb, .slice x.d.Ah r.data.host.length x.d.ch, .slice x.d.Am r.data.mail.length x.d.cm, .slice x.d.An r.data.nums.length x.d.cn, .slice x.d.At r.data.texts.length x.d.ct] 46)) W) => under_any x.A T.A r.name.length T.z.length x.c T.c W.heap.size r.name T.z W rfl rfl
        (((HRA.out.mono (Nat.le_trans HWZ.out HZ.out)).n.below (HNEW.out.trans (hb.mono (by rw [hzn]; omega)))).mono (Nat.le_trans HNEW.out.size (Nat.le_trans (Nat.le_refl _) hb.size)))
        ((HZN.out W (HBB.out.trans ((HNEW.out.trans (hb.mono (by rw [hzn]; omega))).mono (Nat.le_trans HWZ.out HZ.out)))).mono (Nat.le_trans (Nat.le_trans HWZ.out HZ.out) (Nat.le_trans HNEW.out.size hb.size))) (Nat.le_refl _) (soundN_sz HSR.out.n) HZS.out HRA.out.l)
      clear hbH
      by_cases c1' : r.cls = 1
      case neg =>
        have t1 : (r.cls == 1) = false := by rw [beq_eq_false_iff_ne]; exact c1'
        clear c1'
        go_wp2
        refine wp_region_held_drew (S := fun W => (W.cell? ⟨b, 17, none⟩ = some (.slice T.A T.z.length T.c) ∧ W.cell? ⟨wr.heap.size, 0, none⟩ = some (.slice x.A r.name.length x.c) ∧ W.cell? ⟨wr.heap.size, 1, none⟩ = some (.int .i64 r.kind) ∧ W.cell? ⟨wr.heap.size, 2, none⟩ = some (.int .i64 r.cls))) (by kernel_rfl) (by exact HSX.out _ HBC.out) (fun hHeld => ?_)
        refine wpAnyH_take (i := 0) (oi := ⟨some 14, _, _, _, _, _⟩) (v := ?_) rfl (by kernel_rfl) (by kernel_rfl) (by kernel_rfl) (fun _ _ _ h => h) (Or.inl ⟨by kernel_rfl, ?_⟩) (by assumption) ?_
        rotate_left
        · intro W hSw
          try dsimp only at hSw
          go_simp
          all_goals (with_reducible rfl)
        try simp only [Act.put, List.setIfInBounds_toArray, List.set_cons_zero, List.set_cons_succ]
        refine wpAnyH_take (i := 1) (oi := ⟨some 15, _, _, _, _, _⟩) (v := ?_) rfl (by kernel_rfl) (by kernel_rfl) (by kernel_rfl) (fun _ _ _ h => h) (Or.inl ⟨by kernel_rfl, ?_⟩) (by assumption) ?_
        rotate_left
        · intro W hSw
          try dsimp only at hSw
          go_simp
          all_goals (with_reducible rfl)
        try simp only [Act.put, List.setIfInBounds_toArray, List.set_cons_zero, List.set_cons_succ]
        refine wpAnyH_take (i := 2) (oi := ⟨some 16, _, _, _, _, _⟩) (v := ?_) rfl (by kernel_rfl) (by kernel_rfl) (by kernel_rfl) (fun _ _ _ h => h) (Or.inl ⟨by kernel_rfl, ?_⟩) (by assumption) ?_
        rotate_left
        · intro W hSw
          try dsimp only at hSw
          go_simp
          all_goals (with_reducible rfl)
        try simp only [Act.put, List.setIfInBounds_toArray, List.set_cons_zero, List.set_cons_succ]
        refine wpAnyH_take (i := 3) (oi := ⟨some 17, _, _, _, _, _⟩) (v := ?_) rfl (by kernel_rfl) (by kernel_rfl) (by kernel_rfl) (fun _ _ _ h => h) (Or.inl ⟨by kernel_rfl, ?_⟩) (by assumption) ?_
        rotate_left
        · intro W hSw
          try dsimp only at hSw
          go_simp
          all_goals (with_reducible rfl)
        try simp only [Act.put, List.setIfInBounds_toArray, List.set_cons_zero, List.set_cons_succ]
        refine wpAnyH_take (i := 4) (oi := ⟨some 18, _, _, _, _, _⟩) rfl (by kernel_rfl) (by kernel_rfl) (by kernel_rfl) (fun _ _ _ h => h) (Or.inr ⟨by kernel_rfl, rfl⟩) (by assumption) ?_
        try simp only [Act.put, List.setIfInBounds_toArray, List.set_cons_zero, List.set_cons_succ]
        refine wpAnyH_take (i := 5) (oi := ⟨some 19, _, _, _, _, _⟩) rfl (by kernel_rfl) (by kernel_rfl) (by kernel_rfl) (fun _ _ _ h => h) (Or.inr ⟨by kernel_rfl, rfl⟩) (by assumption) ?_
        try simp only [Act.put, List.setIfInBounds_toArray, List.set_cons_zero, List.set_cons_succ]
        refine wpAnyH_take (i := 6) (oi := ⟨some 20, _, _, _, _, _⟩) rfl (by kernel_rfl) (by kernel_rfl) (by kernel_rfl) (fun _ _ _ h => h) (Or.inr ⟨by kernel_rfl, rfl⟩) (by assumption) ?_
        try simp only [Act.put, List.setIfInBounds_toArray, List.set_cons_zero, List.set_cons_succ]
        refine wpAnyH_take (i := 7) (oi := ⟨some 21, _, _, _, _, _⟩) (v := ?_) rfl (by kernel_rfl) (by kernel_rfl) (by kernel_rfl) (fun _ _ _ h => h) (Or.inl ⟨by kernel_rfl, ?_⟩) (by assumption) ?_
        rotate_left
        · intro W hSw
          try dsimp only at hSw
          go_simp
          all_goals (with_reducible rfl)
        try simp only [Act.put, List.setIfInBounds_toArray, List.set_cons_zero, List.set_cons_succ]
        refine wpAnyH_take (i := 8) (oi := ⟨some 22, _, _, _, _, _⟩) (v := ?_) rfl (by kernel_rfl) (by kernel_rfl) (by kernel_rfl) (fun _ _ _ h => h) (Or.inl ⟨by kernel_rfl, ?_⟩) (by assumption) ?_
        rotate_left
        · intro W hSw
          try dsimp only at hSw
          go_simp
          all_goals (with_reducible rfl)
        try simp only [Act.put, List.setIfInBounds_toArray, List.set_cons_zero, List.set_cons_succ]
        refine wpAnyH_take (i := 9) (oi := ⟨some 23, _, _, _, _, _⟩) rfl (by kernel_rfl) (by kernel_rfl) (by kernel_rfl) (fun _ _ _ h => h) (Or.inr ⟨by kernel_rfl, rfl⟩) (by assumption) ?_
        try simp only [Act.put, List.setIfInBounds_toArray, List.set_cons_zero, List.set_cons_succ]
        refine wpAnyH_take (i := 10) (oi := ⟨some 24, _, _, _, _, _⟩) rfl (by kernel_rfl) (by kernel_rfl) (by kernel_rfl) (fun _ _ _ h => h) (Or.inr ⟨by kernel_rfl, rfl⟩) (by assumption) ?_
        try simp only [Act.put, List.setIfInBounds_toArray, List.set_cons_zero, List.set_cons_succ]
        refine wpAnyH_take (i := 11) (oi := ⟨some 25, _, _, _, _, _⟩) rfl (by kernel_rfl) (by kernel_rfl) (by kernel_rfl) (fun _ _ _ h => h) (Or.inr ⟨by kernel_rfl, rfl⟩) (by assumption) ?_
        try simp only [Act.put, List.setIfInBounds_toArray, List.set_cons_zero, List.set_cons_succ]
        refine wpAnyH_take (i := 12) (oi := ⟨some 26, _, _, _, _, _⟩) rfl (by kernel_rfl) (by kernel_rfl) (by kernel_rfl) (fun _ _ _ h => h) (Or.inr ⟨by kernel_rfl, rfl⟩) (by assumption) ?_
        try simp only [Act.put, List.setIfInBounds_toArray, List.set_cons_zero, List.set_cons_succ]
        refine wpAnyH_take (i := 13) (oi := ⟨some 27, _, _, _, _, _⟩) rfl (by kernel_rfl) (by kernel_rfl) (by kernel_rfl) (fun _ _ _ h => h) (Or.inr ⟨by kernel_rfl, rfl⟩) (by assumption) ?_
        try simp only [Act.put, List.setIfInBounds_toArray, List.set_cons_zero, List.set_cons_succ]
        refine wpAnyH_take (i := 14) (oi := ⟨some 28, _, _, _, _, _⟩) rfl (by kernel_rfl) (by kernel_rfl) (by kernel_rfl) (fun _ _ _ h => h) (Or.inr ⟨by kernel_rfl, rfl⟩) (by assumption) ?_
        try simp only [Act.put, List.setIfInBounds_toArray, List.set_cons_zero, List.set_cons_succ]
        refine wpAnyH_take (i := 15) (oi := ⟨some 29, _, _, _, _, _⟩) rfl (by kernel_rfl) (by kernel_rfl) (by kernel_rfl) (fun _ _ _ h => h) (Or.inr ⟨by kernel_rfl, rfl⟩) (by assumption) ?_
        try simp only [Act.put, List.setIfInBounds_toArray, List.set_cons_zero, List.set_cons_succ]
        refine wpAnyH_take (i := 16) (oi := ⟨some 30, _, _, _, _, _⟩) (v := ?_) rfl (by kernel_rfl) (by kernel_rfl) (by kernel_rfl) (fun _ _ _ h => h) (Or.inl ⟨by kernel_rfl, ?_⟩) (by assumption) ?_
        rotate_left
        · intro W hSw
          try dsimp only at hSw
          go_simp
          all_goals (with_reducible rfl)
        try simp only [Act.put, List.setIfInBounds_toArray, List.set_cons_zero, List.set_cons_succ]
        refine wpAnyH_done (by kernel_rfl) ?_ _
        have HBW := Lib.hid (HNEW.out.trans (HBC.out.mono (Nat.le_of_lt hzl)))
        go_wp2
        exact ⟨⟨j + 1, A1, c1, qs, by omega, by go_num, rfl, by omega, fun q hq => ⟨(HQ.out q hq).1, (HQ.out q hq).2⟩, own_keep HO.out fun g e => HBW.out.block g (HO.out.lt g e).2, HBA.out.trans (HBW.out.mono HZ.out)⟩, by simp [intOf]; omega⟩
      have t1 : (r.cls == 1) = true := by rw [c1']; rfl
      have HC1 := Lib.hid c1'
      clear c1'
      cases c2 : typedB r.kind with
      | false =>
        rw [c2] at HKD
        go_wp2
        refine wp_region_held_drew (S := fun W => (W.cell? ⟨b, 17, none⟩ = some (.slice T.A T.z.length T.c) ∧ W.cell? ⟨wr.heap.size, 0, none⟩ = some (.slice x.A r.name.length x.c) ∧ W.cell? ⟨wr.heap.size, 1, none⟩ = some (.int .i64 r.kind) ∧ W.cell? ⟨wr.heap.size, 2, none⟩ = some (.int .i64 r.cls))) (by kernel_rfl) (by exact HSX.out _ HBC.out) (fun hHeld => ?_)
        refine wpAnyH_take (i := 0) (oi := ⟨some 14, _, _, _, _, _⟩) (v := ?_) rfl (by kernel_rfl) (by kernel_rfl) (by kernel_rfl) (fun _ _ _ h => h) (Or.inl ⟨by kernel_rfl, ?_⟩) (by assumption) ?_
        rotate_left
        · intro W hSw
          try dsimp only at hSw
          go_simp
          all_goals (with_reducible rfl)
        try simp only [Act.put, List.setIfInBounds_toArray, List.set_cons_zero, List.set_cons_succ]
        refine wpAnyH_take (i := 1) (oi := ⟨some 15, _, _, _, _, _⟩) (v := ?_) rfl (by kernel_rfl) (by kernel_rfl) (by kernel_rfl) (fun _ _ _ h => h) (Or.inl ⟨by kernel_rfl, ?_⟩) (by assumption) ?_
        rotate_left
        · intro W hSw
          try dsimp only at hSw
          go_simp
          all_goals (with_reducible rfl)
        try simp only [Act.put, List.setIfInBounds_toArray, List.set_cons_zero, List.set_cons_succ]
        refine wpAnyH_take (i := 2) (oi := ⟨some 16, _, _, _, _, _⟩) (v := ?_) rfl (by kernel_rfl) (by kernel_rfl) (by kernel_rfl) (fun _ _ _ h => h) (Or.inl ⟨by kernel_rfl, ?_⟩) (by assumption) ?_
        rotate_left
        · intro W hSw
          try dsimp only at hSw
          go_simp
          all_goals (with_reducible rfl)
        try simp only [Act.put, List.setIfInBounds_toArray, List.set_cons_zero, List.set_cons_succ]
        refine wpAnyH_take (i := 3) (oi := ⟨some 17, _, _, _, _, _⟩) (v := ?_) rfl (by kernel_rfl) (by kernel_rfl) (by kernel_rfl) (fun _ _ _ h => h) (Or.inl ⟨by kernel_rfl, ?_⟩) (by assumption) ?_
        rotate_left
        · intro W hSw
          try dsimp only at hSw
          go_simp
          all_goals (with_reducible rfl)
        try simp only [Act.put, List.setIfInBounds_toArray, List.set_cons_zero, List.set_cons_succ]
        refine wpAnyH_take (i := 4) (oi := ⟨some 18, _, _, _, _, _⟩) (v := ?_) rfl (by kernel_rfl) (by kernel_rfl) (by kernel_rfl) (fun _ _ _ h => h) (Or.inl ⟨by kernel_rfl, ?_⟩) (by assumption) ?_
        rotate_left
        · intro W hSw
          try dsimp only at hSw
          go_simp
          all_goals (with_reducible rfl)
        try simp only [Act.put, List.setIfInBounds_toArray, List.set_cons_zero, List.set_cons_succ]
        refine wpAnyH_take (i := 5) (oi := ⟨some 19, _, _, _, _, _⟩) (v := ?_) rfl (by kernel_rfl) (by kernel_rfl) (by kernel_rfl) (fun _ _ _ h => h) (Or.inl ⟨by kernel_rfl, ?_⟩) (by assumption) ?_
        rotate_left
        · intro W hSw
          try dsimp only at hSw
          go_simp
          all_goals (with_reducible rfl)
        try simp only [Act.put, List.setIfInBounds_toArray, List.set_cons_zero, List.set_cons_succ]
        refine wpAnyH_ready (rs := [6]) (by kernel_rfl) (by simp) ?_
        refine AllReadyH.cons (o := { dst := some 20, op := Go.Op.call { callee := Go.Callee.value (Go.Operand.func 28), args := #[Go.Operand.tmp 19], argTypes := #[3] }, type := 4, pos := "from.go:61", after := #[{ on := 5, ground := Go.Ground.data }, { on := 3, ground := Go.Ground.chain }, { on := 3, ground := Go.Ground.guard }], guard := some (3, true) }) rfl (fun K hK => ?_) AllReadyH.nil
        go_simp
        refine (HKD.out _).mono ?_
        rintro e wx ⟨rfl, rfl⟩
        refine hK.out _ _ (by exact HSX.out _ HBC.out) (fun hHeld2 => ?_)
        clear hK K hHeld
        have hHeld := hHeld2
        clear hHeld2
        try simp only [Act.put, List.setIfInBounds_toArray, List.set_cons_zero, List.set_cons_succ]
        refine wpAnyH_take (i := 7) (oi := ⟨some 21, _, _, _, _, _⟩) (v := ?_) rfl (by kernel_rfl) (by kernel_rfl) (by kernel_rfl) (fun _ _ _ h => h) (Or.inl ⟨by kernel_rfl, ?_⟩) (by assumption) ?_
        rotate_left
        · intro W hSw
          try dsimp only at hSw
          go_simp
          all_goals (with_reducible rfl)
        try simp only [Act.put, List.setIfInBounds_toArray, List.set_cons_zero, List.set_cons_succ]
        refine wpAnyH_take (i := 8) (oi := ⟨some 22, _, _, _, _, _⟩) (v := ?_) rfl (by kernel_rfl) (by kernel_rfl) (by kernel_rfl) (fun _ _ _ h => h) (Or.inl ⟨by kernel_rfl, ?_⟩) (by assumption) ?_
        rotate_left
        · intro W hSw
          try dsimp only at hSw
          go_simp
          all_goals (with_reducible rfl)
        try simp only [Act.put, List.setIfInBounds_toArray, List.set_cons_zero, List.set_cons_succ]
        refine wpAnyH_take (i := 9) (oi := ⟨some 23, _, _, _, _, _⟩) rfl (by kernel_rfl) (by kernel_rfl) (by kernel_rfl) (fun _ _ _ h => h) (Or.inr ⟨by kernel_rfl, rfl⟩) (by assumption) ?_
        try simp only [Act.put, List.setIfInBounds_toArray, List.set_cons_zero, List.set_cons_succ]
        refine wpAnyH_take (i := 10) (oi := ⟨some 24, _, _, _, _, _⟩) rfl (by kernel_rfl) (by kernel_rfl) (by kernel_rfl) (fun _ _ _ h => h) (Or.inr ⟨by kernel_rfl, rfl⟩) (by assumption) ?_
        try simp only [Act.put, List.setIfInBounds_toArray, List.set_cons_zero, List.set_cons_succ]
        refine wpAnyH_take (i := 11) (oi := ⟨some 25, _, _, _, _, _⟩) rfl (by kernel_rfl) (by kernel_rfl) (by kernel_rfl) (fun _ _ _ h => h) (Or.inr ⟨by kernel_rfl, rfl⟩) (by assumption) ?_
        try simp only [Act.put, List.setIfInBounds_toArray, List.set_cons_zero, List.set_cons_succ]
        refine wpAnyH_take (i := 12) (oi := ⟨some 26, _, _, _, _, _⟩) rfl (by kernel_rfl) (by kernel_rfl) (by kernel_rfl) (fun _ _ _ h => h) (Or.inr ⟨by kernel_rfl, rfl⟩) (by assumption) ?_
        try simp only [Act.put, List.setIfInBounds_toArray, List.set_cons_zero, List.set_cons_succ]
        refine wpAnyH_take (i := 13) (oi := ⟨some 27, _, _, _, _, _⟩) rfl (by kernel_rfl) (by kernel_rfl) (by kernel_rfl) (fun _ _ _ h => h) (Or.inr ⟨by kernel_rfl, rfl⟩) (by assumption) ?_
        try simp only [Act.put, List.setIfInBounds_toArray, List.set_cons_zero, List.set_cons_succ]
        refine wpAnyH_take (i := 14) (oi := ⟨some 28, _, _, _, _, _⟩) rfl (by kernel_rfl) (by kernel_rfl) (by kernel_rfl) (fun _ _ _ h => h) (Or.inr ⟨by kernel_rfl, rfl⟩) (by assumption) ?_
        try simp only [Act.put, List.setIfInBounds_toArray, List.set_cons_zero, List.set_cons_succ]
        refine wpAnyH_take (i := 15) (oi := ⟨some 29, _, _, _, _, _⟩) rfl (by kernel_rfl) (by kernel_rfl) (by kernel_rfl) (fun _ _ _ h => h) (Or.inr ⟨by kernel_rfl, rfl⟩) (by assumption) ?_
        try simp only [Act.put, List.setIfInBounds_toArray, List.set_cons_zero, List.set_cons_succ]
        refine wpAnyH_take (i := 16) (oi := ⟨some 30, _, _, _, _, _⟩) (v := ?_) rfl (by kernel_rfl) (by kernel_rfl) (by kernel_rfl) (fun _ _ _ h => h) (Or.inl ⟨by kernel_rfl, ?_⟩) (by assumption) ?_
        rotate_left
        · intro W hSw
          try dsimp only at hSw
          go_simp
          all_goals (with_reducible rfl)
        try simp only [Act.put, List.setIfInBounds_toArray, List.set_cons_zero, List.set_cons_succ]
        refine wpAnyH_done (by kernel_rfl) ?_ _
        have HBW := Lib.hid (HNEW.out.trans (HBC.out.mono (Nat.le_of_lt hzl)))
        go_wp2
        exact ⟨⟨j + 1, A1, c1, qs, by omega, by go_num, rfl, by omega, fun q hq => ⟨(HQ.out q hq).1, (HQ.out q hq).2⟩, own_keep HO.out fun g e => HBW.out.block g (HO.out.lt g e).2, HBA.out.trans (HBW.out.mono HZ.out)⟩, by simp [intOf]; omega⟩
      | true =>
        rw [c2] at HKD
        cases c3 : underN r.name T.z with
        | false =>
          rw [c3] at HU
          go_wp2
          refine wp_region_held_drew (S := fun W => (W.cell? ⟨b, 17, none⟩ = some (.slice T.A T.z.length T.c) ∧ W.cell? ⟨wr.heap.size, 0, none⟩ = some (.slice x.A r.name.length x.c) ∧ W.cell? ⟨wr.heap.size, 1, none⟩ = some (.int .i64 r.kind) ∧ W.cell? ⟨wr.heap.size, 2, none⟩ = some (.int .i64 r.cls))) (by kernel_rfl) (by exact HSX.out _ HBC.out) (fun hHeld => ?_)
          refine wpAnyH_take (i := 0) (oi := ⟨some 14, _, _, _, _, _⟩) (v := ?_) rfl (by kernel_rfl) (by kernel_rfl) (by kernel_rfl) (fun _ _ _ h => h) (Or.inl ⟨by kernel_rfl, ?_⟩) (by assumption) ?_
          rotate_left
          · intro W hSw
            try dsimp only at hSw
            go_simp
            all_goals (with_reducible rfl)
          try simp only [Act.put, List.setIfInBounds_toArray, List.set_cons_zero, List.set_cons_succ]
          refine wpAnyH_take (i := 1) (oi := ⟨some 15, _, _, _, _, _⟩) (v := ?_) rfl (by kernel_rfl) (by kernel_rfl) (by kernel_rfl) (fun _ _ _ h => h) (Or.inl ⟨by kernel_rfl, ?_⟩) (by assumption) ?_
          rotate_left
          · intro W hSw
            try dsimp only at hSw
            go_simp
            all_goals (with_reducible rfl)
          try simp only [Act.put, List.setIfInBounds_toArray, List.set_cons_zero, List.set_cons_succ]
          refine wpAnyH_take (i := 2) (oi := ⟨some 16, _, _, _, _, _⟩) (v := ?_) rfl (by kernel_rfl) (by kernel_rfl) (by kernel_rfl) (fun _ _ _ h => h) (Or.inl ⟨by kernel_rfl, ?_⟩) (by assumption) ?_
          rotate_left
          · intro W hSw
            try dsimp only at hSw
            go_simp
            all_goals (with_reducible rfl)
          try simp only [Act.put, List.setIfInBounds_toArray, List.set_cons_zero, List.set_cons_succ]
          refine wpAnyH_take (i := 3) (oi := ⟨some 17, _, _, _, _, _⟩) (v := ?_) rfl (by kernel_rfl) (by kernel_rfl) (by kernel_rfl) (fun _ _ _ h => h) (Or.inl ⟨by kernel_rfl, ?_⟩) (by assumption) ?_
          rotate_left
          · intro W hSw
            try dsimp only at hSw
            go_simp
            all_goals (with_reducible rfl)
          try simp only [Act.put, List.setIfInBounds_toArray, List.set_cons_zero, List.set_cons_succ]
          refine wpAnyH_take (i := 4) (oi := ⟨some 18, _, _, _, _, _⟩) (v := ?_) rfl (by kernel_rfl) (by kernel_rfl) (by kernel_rfl) (fun _ _ _ h => h) (Or.inl ⟨by kernel_rfl, ?_⟩) (by assumption) ?_
          rotate_left
          · intro W hSw
            try dsimp only at hSw
            go_simp
            all_goals (with_reducible rfl)
          try simp only [Act.put, List.setIfInBounds_toArray, List.set_cons_zero, List.set_cons_succ]
          refine wpAnyH_take (i := 5) (oi := ⟨some 19, _, _, _, _, _⟩) (v := ?_) rfl (by kernel_rfl) (by kernel_rfl) (by kernel_rfl) (fun _ _ _ h => h) (Or.inl ⟨by kernel_rfl, ?_⟩) (by assumption) ?_
          rotate_left
          · intro W hSw
            try dsimp only at hSw
            go_simp
            all_goals (with_reducible rfl)
          try simp only [Act.put, List.setIfInBounds_toArray, List.set_cons_zero, List.set_cons_succ]
          refine wpAnyH_ready (rs := [6]) (by kernel_rfl) (by simp) ?_
          refine AllReadyH.cons (o := { dst := some 20, op := Go.Op.call { callee := Go.Callee.value (Go.Operand.func 28), args := #[Go.Operand.tmp 19], argTypes := #[3] }, type := 4, pos := "from.go:61", after := #[{ on := 5, ground := Go.Ground.data }, { on := 3, ground := Go.Ground.chain }, { on := 3, ground := Go.Ground.guard }], guard := some (3, true) }) rfl (fun K hK => ?_) AllReadyH.nil
          go_simp
          refine (HKD.out _).mono ?_
          rintro e wx ⟨rfl, rfl⟩
          refine hK.out _ _ (by exact HSX.out _ HBC.out) (fun hHeld2 => ?_)
          clear hK K hHeld
          have hHeld := hHeld2
          clear hHeld2
          try simp only [Act.put, List.setIfInBounds_toArray, List.set_cons_zero, List.set_cons_succ]
          refine wpAnyH_take (i := 7) (oi := ⟨some 21, _, _, _, _, _⟩) (v := ?_) rfl (by kernel_rfl) (by kernel_rfl) (by kernel_rfl) (fun _ _ _ h => h) (Or.inl ⟨by kernel_rfl, ?_⟩) (by assumption) ?_
          rotate_left
          · intro W hSw
            try dsimp only at hSw
            go_simp
            all_goals (with_reducible rfl)
          try simp only [Act.put, List.setIfInBounds_toArray, List.set_cons_zero, List.set_cons_succ]
          refine wpAnyH_take (i := 8) (oi := ⟨some 22, _, _, _, _, _⟩) (v := ?_) rfl (by kernel_rfl) (by kernel_rfl) (by kernel_rfl) (fun _ _ _ h => h) (Or.inl ⟨by kernel_rfl, ?_⟩) (by assumption) ?_
          rotate_left
          · intro W hSw
            try dsimp only at hSw
            go_simp
            all_goals (with_reducible rfl)
          try simp only [Act.put, List.setIfInBounds_toArray, List.set_cons_zero, List.set_cons_succ]
          refine wpAnyH_take (i := 9) (oi := ⟨some 23, _, _, _, _, _⟩) (v := ?_) rfl (by kernel_rfl) (by kernel_rfl) (by kernel_rfl) (fun _ _ _ h => h) (Or.inl ⟨by kernel_rfl, ?_⟩) (by assumption) ?_
          rotate_left
          · intro W hSw
            try dsimp only at hSw
            go_simp
            all_goals (with_reducible rfl)
          try simp only [Act.put, List.setIfInBounds_toArray, List.set_cons_zero, List.set_cons_succ]
          refine wpAnyH_take (i := 10) (oi := ⟨some 24, _, _, _, _, _⟩) (v := ?_) rfl (by kernel_rfl) (by kernel_rfl) (by kernel_rfl) (fun _ _ _ h => h) (Or.inl ⟨by kernel_rfl, ?_⟩) (by assumption) ?_
          rotate_left
          · intro W hSw
            try dsimp only at hSw
            go_simp
            all_goals (with_reducible rfl)
          try simp only [Act.put, List.setIfInBounds_toArray, List.set_cons_zero, List.set_cons_succ]
          refine wpAnyH_take (i := 11) (oi := ⟨some 25, _, _, _, _, _⟩) (v := ?_) rfl (by kernel_rfl) (by kernel_rfl) (by kernel_rfl) (fun _ _ _ h => h) (Or.inl ⟨by kernel_rfl, ?_⟩) (by assumption) ?_
          rotate_left
          · intro W hSw
            try dsimp only at hSw
            go_simp
            all_goals (with_reducible rfl)
          try simp only [Act.put, List.setIfInBounds_toArray, List.set_cons_zero, List.set_cons_succ]
          refine wpAnyH_take (i := 12) (oi := ⟨some 26, _, _, _, _, _⟩) (v := ?_) rfl (by kernel_rfl) (by kernel_rfl) (by kernel_rfl) (fun _ _ _ h => h) (Or.inl ⟨by kernel_rfl, ?_⟩) (by assumption) ?_
          rotate_left
          · intro W hSw
            try dsimp only at hSw
            go_simp
            all_goals (with_reducible rfl)
          try simp only [Act.put, List.setIfInBounds_toArray, List.set_cons_zero, List.set_cons_succ]
          refine wpAnyH_take (i := 13) (oi := ⟨some 27, _, _, _, _, _⟩) (v := ?_) rfl (by kernel_rfl) (by kernel_rfl) (by kernel_rfl) (fun _ _ _ h => h) (Or.inl ⟨by kernel_rfl, ?_⟩) (by assumption) ?_
          rotate_left
          · intro W hSw
            try dsimp only at hSw
            go_simp
            all_goals (with_reducible rfl)
          try simp only [Act.put, List.setIfInBounds_toArray, List.set_cons_zero, List.set_cons_succ]
          refine wpAnyH_take (i := 14) (oi := ⟨some 28, _, _, _, _, _⟩) (v := ?_) rfl (by kernel_rfl) (by kernel_rfl) (by kernel_rfl) (fun _ _ _ h => h) (Or.inl ⟨by kernel_rfl, ?_⟩) (by assumption) ?_
          rotate_left
          · intro W hSw
            try dsimp only at hSw
            go_simp
            all_goals (with_reducible rfl)
          try simp only [Act.put, List.setIfInBounds_toArray, List.set_cons_zero, List.set_cons_succ]
          refine wpAnyH_ready (rs := [15]) (by kernel_rfl) (by simp) ?_
          refine AllReadyH.cons (o := { dst := some 29, op := Go.Op.call { callee := Go.Callee.value (Go.Operand.func 48), args := #[Go.Operand.tmp 24, Go.Operand.tmp 28], argTypes := #[22, 22] }, type := 4, pos := "from.go:61", after := #[{ on := 10, ground := Go.Ground.data }, { on := 14, ground := Go.Ground.data }, { on := 8, ground := Go.Ground.chain }, { on := 8, ground := Go.Ground.guard }], guard := some (8, true) }) rfl (fun K hK => ?_) AllReadyH.nil
          go_simp
          refine (HU.out _ HBC.out).mono ?_
          rintro e w4 ⟨rfl, hb4⟩
          have HBC := Lib.hid (HBC.out.trans (hb4.mono HBC.out.size))
          clear hb4
          refine hK.out _ _ (by exact HSX.out _ HBC.out) (fun hHeld2 => ?_)
          clear hK K hHeld
          have hHeld := hHeld2
          clear hHeld2
          try simp only [Act.put, List.setIfInBounds_toArray, List.set_cons_zero, List.set_cons_succ]
          refine wpAnyH_take (i := 16) (oi := ⟨some 30, _, _, _, _, _⟩) (v := ?_) rfl (by kernel_rfl) (by kernel_rfl) (by kernel_rfl) (fun _ _ _ h => h) (Or.inl ⟨by kernel_rfl, ?_⟩) (by assumption) ?_
          rotate_left
          · intro W hSw
            try dsimp only at hSw
            go_simp
            all_goals (with_reducible rfl)
          try simp only [Act.put, List.setIfInBounds_toArray, List.set_cons_zero, List.set_cons_succ]
          refine wpAnyH_done (by kernel_rfl) ?_ _
          have HBW := Lib.hid (HNEW.out.trans (HBC.out.mono (Nat.le_of_lt hzl)))
          go_wp2
          exact ⟨⟨j + 1, A1, c1, qs, by omega, by go_num, rfl, by omega, fun q hq => ⟨(HQ.out q hq).1, (HQ.out q hq).2⟩, own_keep HO.out fun g e => HBW.out.block g (HO.out.lt g e).2, HBA.out.trans (HBW.out.mono HZ.out)⟩, by simp [intOf]; omega⟩
        | true =>
          rw [c3] at HU
          go_wp2
          refine wp_region_held_drew (S := fun W => (W.cell? ⟨b, 17, none⟩ = some (.slice T.A T.z.length T.c) ∧ W.cell? ⟨wr.heap.size, 0, none⟩ = some (.slice x.A r.name.length x.c) ∧ W.cell? ⟨wr.heap.size, 1, none⟩ = some (.int .i64 r.kind) ∧ W.cell? ⟨wr.heap.size, 2, none⟩ = some (.int .i64 r.cls))) (by kernel_rfl) (by exact HSX.out _ HBC.out) (fun hHeld => ?_)
          refine wpAnyH_take (i := 0) (oi := ⟨some 14, _, _, _, _, _⟩) (v := ?_) rfl (by kernel_rfl) (by kernel_rfl) (by kernel_rfl) (fun _ _ _ h => h) (Or.inl ⟨by kernel_rfl, ?_⟩) (by assumption) ?_
          rotate_left
          · intro W hSw
            try dsimp only at hSw
            go_simp
            all_goals (with_reducible rfl)
          try simp only [Act.put, List.setIfInBounds_toArray, List.set_cons_zero, List.set_cons_succ]
          refine wpAnyH_take (i := 1) (oi := ⟨some 15, _, _, _, _, _⟩) (v := ?_) rfl (by kernel_rfl) (by kernel_rfl) (by kernel_rfl) (fun _ _ _ h => h) (Or.inl ⟨by kernel_rfl, ?_⟩) (by assumption) ?_
          rotate_left
          · intro W hSw
            try dsimp only at hSw
            go_simp
            all_goals (with_reducible rfl)
          try simp only [Act.put, List.setIfInBounds_toArray, List.set_cons_zero, List.set_cons_succ]
          refine wpAnyH_take (i := 2) (oi := ⟨some 16, _, _, _, _, _⟩) (v := ?_) rfl (by kernel_rfl) (by kernel_rfl) (by kernel_rfl) (fun _ _ _ h => h) (Or.inl ⟨by kernel_rfl, ?_⟩) (by assumption) ?_
          rotate_left
          · intro W hSw
            try dsimp only at hSw
            go_simp
            all_goals (with_reducible rfl)
          try simp only [Act.put, List.setIfInBounds_toArray, List.set_cons_zero, List.set_cons_succ]
          refine wpAnyH_take (i := 3) (oi := ⟨some 17, _, _, _, _, _⟩) (v := ?_) rfl (by kernel_rfl) (by kernel_rfl) (by kernel_rfl) (fun _ _ _ h => h) (Or.inl ⟨by kernel_rfl, ?_⟩) (by assumption) ?_
          rotate_left
          · intro W hSw
            try dsimp only at hSw
            go_simp
            all_goals (with_reducible rfl)
          try simp only [Act.put, List.setIfInBounds_toArray, List.set_cons_zero, List.set_cons_succ]
          refine wpAnyH_take (i := 4) (oi := ⟨some 18, _, _, _, _, _⟩) (v := ?_) rfl (by kernel_rfl) (by kernel_rfl) (by kernel_rfl) (fun _ _ _ h => h) (Or.inl ⟨by kernel_rfl, ?_⟩) (by assumption) ?_
          rotate_left
          · intro W hSw
            try dsimp only at hSw
            go_simp
            all_goals (with_reducible rfl)
          try simp only [Act.put, List.setIfInBounds_toArray, List.set_cons_zero, List.set_cons_succ]
          refine wpAnyH_take (i := 5) (oi := ⟨some 19, _, _, _, _, _⟩) (v := ?_) rfl (by kernel_rfl) (by kernel_rfl) (by kernel_rfl) (fun _ _ _ h => h) (Or.inl ⟨by kernel_rfl, ?_⟩) (by assumption) ?_
          rotate_left
          · intro W hSw
            try dsimp only at hSw
            go_simp
            all_goals (with_reducible rfl)
          try simp only [Act.put, List.setIfInBounds_toArray, List.set_cons_zero, List.set_cons_succ]
          refine wpAnyH_ready (rs := [6]) (by kernel_rfl) (by simp) ?_
          refine AllReadyH.cons (o := { dst := some 20, op := Go.Op.call { callee := Go.Callee.value (Go.Operand.func 28), args := #[Go.Operand.tmp 19], argTypes := #[3] }, type := 4, pos := "from.go:61", after := #[{ on := 5, ground := Go.Ground.data }, { on := 3, ground := Go.Ground.chain }, { on := 3, ground := Go.Ground.guard }], guard := some (3, true) }) rfl (fun K hK => ?_) AllReadyH.nil
          go_simp
          refine (HKD.out _).mono ?_
          rintro e wx ⟨rfl, rfl⟩
          refine hK.out _ _ (by exact HSX.out _ HBC.out) (fun hHeld2 => ?_)
          clear hK K hHeld
          have hHeld := hHeld2
          clear hHeld2
          try simp only [Act.put, List.setIfInBounds_toArray, List.set_cons_zero, List.set_cons_succ]
          refine wpAnyH_take (i := 7) (oi := ⟨some 21, _, _, _, _, _⟩) (v := ?_) rfl (by kernel_rfl) (by kernel_rfl) (by kernel_rfl) (fun _ _ _ h => h) (Or.inl ⟨by kernel_rfl, ?_⟩) (by assumption) ?_
          rotate_left
          · intro W hSw
            try dsimp only at hSw
            go_simp
            all_goals (with_reducible rfl)
          try simp only [Act.put, List.setIfInBounds_toArray, List.set_cons_zero, List.set_cons_succ]
          refine wpAnyH_take (i := 8) (oi := ⟨some 22, _, _, _, _, _⟩) (v := ?_) rfl (by kernel_rfl) (by kernel_rfl) (by kernel_rfl) (fun _ _ _ h => h) (Or.inl ⟨by kernel_rfl, ?_⟩) (by assumption) ?_
          rotate_left
          · intro W hSw
            try dsimp only at hSw
            go_simp
            all_goals (with_reducible rfl)
          try simp only [Act.put, List.setIfInBounds_toArray, List.set_cons_zero, List.set_cons_succ]
          refine wpAnyH_take (i := 9) (oi := ⟨some 23, _, _, _, _, _⟩) (v := ?_) rfl (by kernel_rfl) (by kernel_rfl) (by kernel_rfl) (fun _ _ _ h => h) (Or.inl ⟨by kernel_rfl, ?_⟩) (by assumption) ?_
          rotate_left
          · intro W hSw
            try dsimp only at hSw
            go_simp
            all_goals (with_reducible rfl)
          try simp only [Act.put, List.setIfInBounds_toArray, List.set_cons_zero, List.set_cons_succ]
          refine wpAnyH_take (i := 10) (oi := ⟨some 24, _, _, _, _, _⟩) (v := ?_) rfl (by kernel_rfl) (by kernel_rfl) (by kernel_rfl) (fun _ _ _ h => h) (Or.inl ⟨by kernel_rfl, ?_⟩) (by assumption) ?_
          rotate_left
          · intro W hSw
            try dsimp only at hSw
            go_simp
            all_goals (with_reducible rfl)
          try simp only [Act.put, List.setIfInBounds_toArray, List.set_cons_zero, List.set_cons_succ]
          refine wpAnyH_take (i := 11) (oi := ⟨some 25, _, _, _, _, _⟩) (v := ?_) rfl (by kernel_rfl) (by kernel_rfl) (by kernel_rfl) (fun _ _ _ h => h) (Or.inl ⟨by kernel_rfl, ?_⟩) (by assumption) ?_
          rotate_left
          · intro W hSw
            try dsimp only at hSw
            go_simp
            all_goals (with_reducible rfl)
          try simp only [Act.put, List.setIfInBounds_toArray, List.set_cons_zero, List.set_cons_succ]
          refine wpAnyH_take (i := 12) (oi := ⟨some 26, _, _, _, _, _⟩) (v := ?_) rfl (by kernel_rfl) (by kernel_rfl) (by kernel_rfl) (fun _ _ _ h => h) (Or.inl ⟨by kernel_rfl, ?_⟩) (by assumption) ?_
          rotate_left
          · intro W hSw
            try dsimp only at hSw
            go_simp
            all_goals (with_reducible rfl)
          try simp only [Act.put, List.setIfInBounds_toArray, List.set_cons_zero, List.set_cons_succ]
          refine wpAnyH_take (i := 13) (oi := ⟨some 27, _, _, _, _, _⟩) (v := ?_) rfl (by kernel_rfl) (by kernel_rfl) (by kernel_rfl) (fun _ _ _ h => h) (Or.inl ⟨by kernel_rfl, ?_⟩) (by assumption) ?_
          rotate_left
          · intro W hSw
            try dsimp only at hSw
            go_simp
            all_goals (with_reducible rfl)
          try simp only [Act.put, List.setIfInBounds_toArray, List.set_cons_zero, List.set_cons_succ]
          refine wpAnyH_take (i := 14) (oi := ⟨some 28, _, _, _, _, _⟩) (v := ?_) rfl (by kernel_rfl) (by kernel_rfl) (by kernel_rfl) (fun _ _ _ h => h) (Or.inl ⟨by kernel_rfl, ?_⟩) (by assumption) ?_
          rotate_left
          · intro W hSw
            try dsimp only at hSw
            go_simp
            all_goals (with_reducible rfl)
          try simp only [Act.put, List.setIfInBounds_toArray, List.set_cons_zero, List.set_cons_succ]
          refine wpAnyH_ready (rs := [15]) (by kernel_rfl) (by simp) ?_
          refine AllReadyH.cons (o := { dst := some 29, op := Go.Op.call { callee := Go.Callee.value (Go.Operand.func 48), args := #[Go.Operand.tmp 24, Go.Operand.tmp 28], argTypes := #[22, 22] }, type := 4, pos := "from.go:61", after := #[{ on := 10, ground := Go.Ground.data }, { on := 14, ground := Go.Ground.data }, { on := 8, ground := Go.Ground.chain }, { on := 8, ground := Go.Ground.guard }], guard := some (8, true) }) rfl (fun K hK => ?_) AllReadyH.nil
          go_simp
          refine (HU.out _ HBC.out).mono ?_
          rintro e w4 ⟨rfl, hb4⟩
          have HBC := Lib.hid (HBC.out.trans (hb4.mono HBC.out.size))
          clear hb4
          refine hK.out _ _ (by exact HSX.out _ HBC.out) (fun hHeld2 => ?_)
          clear hK K hHeld
          have hHeld := hHeld2
          clear hHeld2
          try simp only [Act.put, List.setIfInBounds_toArray, List.set_cons_zero, List.set_cons_succ]
          refine wpAnyH_take (i := 16) (oi := ⟨some 30, _, _, _, _, _⟩) (v := ?_) rfl (by kernel_rfl) (by kernel_rfl) (by kernel_rfl) (fun _ _ _ h => h) (Or.inl ⟨by kernel_rfl, ?_⟩) (by assumption) ?_
          rotate_left
          · intro W hSw
            try dsimp only at hSw
            go_simp
            all_goals (with_reducible rfl)
          try simp only [Act.put, List.setIfInBounds_toArray, List.set_cons_zero, List.set_cons_succ]
          refine wpAnyH_done (by kernel_rfl) ?_ _
          have HBW := Lib.hid (HNEW.out.trans (HBC.out.mono (Nat.le_of_lt hzl)))
          have HWB4 := Lib.hid (HWB.out.below HBC.out HWB.out.lt)
          have p0 : w4.cell? ⟨wr.heap.size, 0, none⟩ = some (.slice x.A r.name.length x.c) := HWB4.out.cell 0
          have p1 : w4.cell? ⟨wr.heap.size, 1, none⟩ = some (.int .i64 r.kind) := HWB4.out.cell 1
          have p2 : w4.cell? ⟨wr.heap.size, 2, none⟩ = some (.int .i64 r.cls) := HWB4.out.cell 2
          have p3 : w4.cell? ⟨wr.heap.size, 3, none⟩ = some (.int .i64 r.ttl) := HWB4.out.cell 3
          have p4 : w4.cell? ⟨wr.heap.size, 4, none⟩ = some (.slice x.d.Ab r.data.bytes.length x.d.cb) := HWB4.out.cell 4
          have p5 : w4.cell? ⟨wr.heap.size, 5, none⟩ = some (.slice x.d.Ah r.data.host.length x.d.ch) := HWB4.out.cell 5
          have p6 : w4.cell? ⟨wr.heap.size, 6, none⟩ = some (.slice x.d.Am r.data.mail.length x.d.cm) := HWB4.out.cell 6
          have p7 : w4.cell? ⟨wr.heap.size, 7, none⟩ = some (.slice x.d.An r.data.nums.length x.d.cn) := HWB4.out.cell 7
          have p8 : w4.cell? ⟨wr.heap.size, 8, none⟩ = some (.slice x.d.At r.data.texts.length x.d.ct) := HWB4.out.cell 8
          have HO4 := Lib.hid (own_keep HO.out fun g e => HBW.out.block g (HO.out.lt g e).2)
          have HRD := Lib.hid (Row.made w4 #[.slice x.A r.name.length x.c, .int .i64 r.kind, .int .i64 r.cls, .int .i64 r.ttl, .slice x.d.Ab r.data.bytes.length x.d.cb, .slice x.d.Ah r.data.host.length x.d.ch, .slice x.d.Am r.data.mail.length x.d.cm, .slice x.d.An r.data.nums.length x.d.cn, .slice x.d.At r.data.texts.length x.d.ct] 46)
          have HO5 := Lib.hid (own_keep HO4.out (w' := w4.alloc (.cells #[.slice x.A r.name.length x.c, .int .i64 r.kind, .int .i64 r.cls, .int .i64 r.ttl, .slice x.d.Ab r.data.bytes.length x.d.cb, .slice x.d.Ah r.data.host.length x.d.ch, .slice x.d.Am r.data.mail.length x.d.cm, .slice x.d.An r.data.nums.length x.d.cn, .slice x.d.At r.data.texts.length x.d.ct] 46)) fun g e => (Below.heap_alloc w4 _ _ (HO4.out.lt g e).2))
          have HBA4 := Lib.hid (HBA.out.trans (HBW.out.mono HZ.out))
          go_wp2_with (
            at_builtin
            refine wpList_append_row rfl (.tmp 31) (.tmp 33) _ rfl w.heap.size 46 i0 _ 9 168 Tryz.underlying26 hi0 hz0 hz1 hz2 rfl (by omega) (.slice A1 qs.length c1) qs.length _ rfl HO5.out
              (some ⟨w4.heap.size, 0, none⟩) 1 1 (w4.heap.size + 1) (cellsR (x, r)) rfl rfl HRD.out (fun u hu => cellsR_one [(x, r)] u (by simpa using hu)) (by unfold maxLen; omega) (by omega) (by have := HBA4.out.size; simp; omega) ?_
            intro v7 w7 hown7 hg7
            have HB7 := Lib.hid (own_below (HBA4.out.alloc HBA4.out.size (.cells #[.slice x.A r.name.length x.c, .int .i64 r.kind, .int .i64 r.cls, .int .i64 r.ttl, .slice x.d.Ab r.data.bytes.length x.d.cb, .slice x.d.Ah r.data.host.length x.d.ch, .slice x.d.Am r.data.mail.length x.d.cm, .slice x.d.An r.data.nums.length x.d.cn, .slice x.d.At r.data.texts.length x.d.ct] 46)) (Nat.le_refl _) (by have := HBA4.out.size; simp; omega) HO5.out hg7)
            obtain ⟨A7, c7, rfl, _, _⟩ := own_form hown7
            have HO7 := Lib.hid hown7
            clear hown7 hg7)
          refine ⟨⟨j + 1, A7, c7, qs ++ [(x, r)], by omega, by go_num, by rw [List.length_append]; rfl, by rw [List.length_append]; simp; omega, fun q hq => ?_, ?_, HB7.out⟩, by simp [intOf]; omega⟩
          · rcases List.mem_append.1 hq with hq | hq
            · exact HQ.out q hq
            · rw [List.mem_singleton.1 hq]
              exact ⟨HM.out, HC1.out, c3⟩
          · have h := HO7.out
            rw [List.length_append, List.flatMap_append]
            simpa using h
    · obtain rfl : j = ps.length := by omega
      go_wp2
      go_ret
      refine ⟨⟨A1, c1, qs⟩, rfl, ⟨fun p hp => HP.out.2 p (HQ.out p hp).1, fun p hp => ⟨List.mem_map.2 ⟨p, (HQ.out p hp).1, rfl⟩, (HQ.out p hp).2⟩, by show qs.length ≤ 1000; omega⟩, HO.out, HBA.out⟩

end Go.Proofs.YthppgofpbpjglaaGreat

namespace Go.Proofs.YthppgofpbpjglaaGreat
open Go.RowKit

theorem rrs_oneT : (Tryz.prog.info? 26).map (·.size) = some 1 := by kernel_rfl
/-- newTeller's boxes. -/
structure NewB (w : World) (T : Te) (an au ex : Value) (W : World) : Prop where
  m : Whole W (w.heap.size + 1) 28 T.m.cells
  t : Whole W (w.heap.size + 2) 55 (cellsT T an au ex (.slice none 0 0))
  below : Below w.heap.size w W
  size : w.heap.size + 3 ≤ W.heap.size
theorem NewB.step {w W W' : World} {T : Te} {an au ex : Value} (h : NewB w T an au ex W) (hb : Below W.heap.size W W') : NewB w T an au ex W' :=
  ⟨h.m.below hb h.m.lt, h.t.below hb h.t.lt, h.below.trans (hb.mono (by have := h.size; omega)), Nat.le_trans h.size hb.size⟩
theorem NewB.put {w W V : World} {T : Te} {an au ex an' au' ex' : Value} (h : NewB w T an au ex W) (hV : Whole V (w.heap.size + 2) 55 (cellsT T an' au' ex' (.slice none 0 0))) (hG : Grew (fun j => j = w.heap.size + 2) W V) (hz : V.heap.size = W.heap.size) : NewB w T an' au' ex' V ∧ KeptT W V :=
  ⟨⟨(hG.block _ h.m.lt (by omega)).trans h.m, hV, h.below.trans (Grew.below (B := w.heap.size) hG (fun j hj => by rw [hj]; omega) (by have := h.size; omega)), by rw [hz]; exact h.size⟩, KeptT.of_set h.t hG⟩
/-- A section's row. -/
def SecAt (w W : World) (S : Sec) : Prop := W.ownsRow w.heap.size 46 9 S.v S.ps.length (S.ps.flatMap cellsR)
theorem SecAt.kept {w W V : World} {S : Sec} (h : SecAt w W S) (hk : KeptT W V) : SecAt w V S := hk.own h rr_notT
/-- What newTeller answers. -/
def NewOut (w : World) (T : Te) (e : Ending) (w' : World) : Prop :=
  ∃ b an au ex, e = .returned (.pointer (some ⟨b, 0, none⟩)) ∧ TAt w T b an au ex (.slice none 0 0) [] w' ∧ SecOk w T an T.m.msg.an ∧ SecOk w T au T.m.msg.au ∧ SecOk w T ex T.m.msg.ex

set_option maxRecDepth 20000 in
set_option maxHeartbeats 8000000 in
theorem newTeller_any (w : World) (T : Te) (ok : TeOk w T) :
    Calls Tryz.prog 15 #[valQ T.y T.q, T.m.val, .slice T.A T.z.length T.c, .int .i64 T.now] w (NewOut w T) := by
  have HSR := Lib.hid (show (∀ p ∈ T.m.s0.ps, SoundR p.2) ∧ (∀ p ∈ T.m.s1.ps, SoundR p.2) ∧ (∀ p ∈ T.m.s2.ps, SoundR p.2) from
    ⟨fun p hp => soundM_rec ok.ms (an_all (List.mem_map.2 ⟨p, hp, rfl⟩)), fun p hp => soundM_rec ok.ms (au_all (List.mem_map.2 ⟨p, hp, rfl⟩)), fun p hp => soundM_rec ok.ms (ex_all (List.mem_map.2 ⟨p, hp, rfl⟩))⟩)
  have HC0 := Lib.hid (fun W {an au ex : Value} (h : NewB w T an au ex W) => counting_any w W T ok (w.heap.size + 2) h.t.lt h.below (h.t.cell 17) T.m.s0.A T.m.s0.c T.m.s0.ps ok.m.s0 HSR.out.1 (ok.mi.rl 0))
  have HC1 := Lib.hid (fun W {an au ex : Value} (h : NewB w T an au ex W) => counting_any w W T ok (w.heap.size + 2) h.t.lt h.below (h.t.cell 17) T.m.s1.A T.m.s1.c T.m.s1.ps ok.m.s1 HSR.out.2.1 (ok.mi.rl 1))
  have HC2 := Lib.hid (fun W {an au ex : Value} (h : NewB w T an au ex W) => counting_any w W T ok (w.heap.size + 2) h.t.lt h.below (h.t.cell 17) T.m.s2.A T.m.s2.c T.m.s2.ps ok.m.s2 HSR.out.2.2 (ok.mi.rl 2))
  obtain ⟨y, q, ⟨h, qA, qc, qp, ⟨A0, k0, p0⟩, ⟨A1, k1, p1⟩, ⟨A2, k2, p2⟩⟩, A, c, z, now⟩ := T
  dsimp only at *
  clear ok
  have HB0 := Lib.hid (show NewB w ⟨y, q, ⟨h, qA, qc, qp, ⟨A0, k0, p0⟩, ⟨A1, k1, p1⟩, ⟨A2, k2, p2⟩⟩, A, c, z, now⟩ (.slice none 0 0) (.slice none 0 0) (.slice none 0 0) (((w.alloc (.cells #[.slice y.1 q.name.length y.2, .int .i64 q.kind, .int .i64 q.cls] 24)).alloc (.cells #[.int .i64 h.id, .bool h.resp, .int .i64 h.op, .bool h.aa, .bool h.tc, .bool h.rd, .bool h.ra, .int .i64 h.rc, .slice qA qp.length qc, .slice A0 p0.length k0, .slice A1 p1.length k1, .slice A2 p2.length k2, .bool h.edns, .int .i64 h.size] 28)).alloc (.cells #[.slice y.1 q.name.length y.2, .int .i64 q.kind, .int .i64 q.cls, .int .i64 h.id, .bool h.resp, .int .i64 h.op, .bool h.aa, .bool h.tc, .bool h.rd, .bool h.ra, .int .i64 h.rc, .slice qA qp.length qc, .slice A0 p0.length k0, .slice A1 p1.length k1, .slice A2 p2.length k2, .bool h.edns, .int .i64 h.size, .slice A z.length c, .int .i64 now, .slice none 0 0, .slice none 0 0, .slice none 0 0, .slice none 0 0] 55)) from by
    have e1 : (w.alloc (.cells #[.slice y.1 q.name.length y.2, .int .i64 q.kind, .int .i64 q.cls] 24)).heap.size = w.heap.size + 1 := by simp
    have e2 : ((w.alloc (.cells #[.slice y.1 q.name.length y.2, .int .i64 q.kind, .int .i64 q.cls] 24)).alloc (.cells #[.int .i64 h.id, .bool h.resp, .int .i64 h.op, .bool h.aa, .bool h.tc, .bool h.rd, .bool h.ra, .int .i64 h.rc, .slice qA qp.length qc, .slice A0 p0.length k0, .slice A1 p1.length k1, .slice A2 p2.length k2, .bool h.edns, .int .i64 h.size] 28)).heap.size = w.heap.size + 2 := by simp
    refine ⟨?_, ?_, ((((Below.refl _ _).alloc (Nat.le_refl _) _).alloc (by rw [e1]; omega) _).alloc (by rw [e2]; omega) _), by simp⟩
    · have h1 := (Whole.made (w.alloc (.cells #[.slice y.1 q.name.length y.2, .int .i64 q.kind, .int .i64 q.cls] 24)) (cellsM h (.slice qA qp.length qc) (.slice A0 p0.length k0) (.slice A1 p1.length k1) (.slice A2 p2.length k2)) 28).alloc (.cells #[.slice y.1 q.name.length y.2, .int .i64 q.kind, .int .i64 q.cls, .int .i64 h.id, .bool h.resp, .int .i64 h.op, .bool h.aa, .bool h.tc, .bool h.rd, .bool h.ra, .int .i64 h.rc, .slice qA qp.length qc, .slice A0 p0.length k0, .slice A1 p1.length k1, .slice A2 p2.length k2, .bool h.edns, .int .i64 h.size, .slice A z.length c, .int .i64 now, .slice none 0 0, .slice none 0 0, .slice none 0 0, .slice none 0 0] 55)
      rw [e1] at h1
      exact h1
    · have h1 := Whole.made ((w.alloc (.cells #[.slice y.1 q.name.length y.2, .int .i64 q.kind, .int .i64 q.cls] 24)).alloc (.cells #[.int .i64 h.id, .bool h.resp, .int .i64 h.op, .bool h.aa, .bool h.tc, .bool h.rd, .bool h.ra, .int .i64 h.rc, .slice qA qp.length qc, .slice A0 p0.length k0, .slice A1 p1.length k1, .slice A2 p2.length k2, .bool h.edns, .int .i64 h.size] 28)) (cellsT ⟨y, q, ⟨h, qA, qc, qp, ⟨A0, k0, p0⟩, ⟨A1, k1, p1⟩, ⟨A2, k2, p2⟩⟩, A, c, z, now⟩ (.slice none 0 0) (.slice none 0 0) (.slice none 0 0) (.slice none 0 0)) 55
      rw [e2] at h1
      exact h1)
  go_enter Tryz.func15, Tryz.ntmps15
  go_wp2_with fail
  refine (HC0.out _ HB0.out).mono ?_
  rintro e w1 ⟨S0, rfl, hs0, ho0, hb0⟩
  have HS0 := Lib.hid hs0
  have HB1 := Lib.hid (HB0.out.step hb0)
  have HO0 := Lib.hid (show SecAt w w1 S0 from own_mono ho0 HB0.out.below.size)
  clear hs0 ho0 hb0
  have m1 : w1.cell? ⟨w.heap.size + 1, 10, none⟩ = some (.slice A1 p1.length k1) := HB1.out.m.cell 10
  go_wp2_with (first
    | (refine wpList_store_one rfl 26 (.tmp 22) (.tmp 20) rfl (w.heap.size + 2) 19 (.slice S0.A S0.ps.length S0.c) rfl rfl rfl rrs_oneT 55 _ HB1.out.t _ rfl ?_
       intro V0 hV hG hZ
       have hp := HB1.out.put (an' := (.slice S0.A S0.ps.length S0.c)) (au' := (.slice none 0 0)) (ex' := (.slice none 0 0)) hV hG hZ
       have HB2 := Lib.hid hp.1
       have HO0 := Lib.hid (HO0.out.kept hp.2)
       have mv1 : V0.cell? ⟨w.heap.size + 1, 10, none⟩ = some (.slice A1 p1.length k1) := HB2.out.m.cell 10
       clear hV hG hZ hp))
  refine (HC1.out _ HB2.out).mono ?_
  rintro e w2 ⟨S1, rfl, hs1, ho1, hb1⟩
  have HS1 := Lib.hid hs1
  have HB3 := Lib.hid (HB2.out.step hb1)
  have HO1 := Lib.hid (show SecAt w w2 S1 from own_mono ho1 HB2.out.below.size)
  have HO0 := Lib.hid (HO0.out.kept (KeptT.below hb1))
  clear hs1 ho1 hb1
  have m2 : w2.cell? ⟨w.heap.size + 1, 11, none⟩ = some (.slice A2 p2.length k2) := HB3.out.m.cell 11
  go_wp2_with (first
    | (refine wpList_store_one rfl 26 (.tmp 29) (.tmp 27) rfl (w.heap.size + 2) 20 (.slice S1.A S1.ps.length S1.c) rfl rfl rfl rrs_oneT 55 _ HB3.out.t _ rfl ?_
       intro V1 hV hG hZ
       have hp := HB3.out.put (an' := (.slice S0.A S0.ps.length S0.c)) (au' := (.slice S1.A S1.ps.length S1.c)) (ex' := (.slice none 0 0)) hV hG hZ
       have HB4 := Lib.hid hp.1
       have HO0 := Lib.hid (HO0.out.kept hp.2)
       have HO1 := Lib.hid (HO1.out.kept hp.2)
       have mv2 : V1.cell? ⟨w.heap.size + 1, 11, none⟩ = some (.slice A2 p2.length k2) := HB4.out.m.cell 11
       clear hV hG hZ hp))
  refine (HC2.out _ HB4.out).mono ?_
  rintro e w3 ⟨S2, rfl, hs2, ho2, hb2⟩
  have HS2 := Lib.hid hs2
  have HB5 := Lib.hid (HB4.out.step hb2)
  have HO2 := Lib.hid (show SecAt w w3 S2 from own_mono ho2 HB4.out.below.size)
  have HO0 := Lib.hid (HO0.out.kept (KeptT.below hb2))
  have HO1 := Lib.hid (HO1.out.kept (KeptT.below hb2))
  clear hs2 ho2 hb2
  go_wp2_with (first
    | (refine wpList_store_one rfl 26 (.tmp 36) (.tmp 34) rfl (w.heap.size + 2) 21 (.slice S2.A S2.ps.length S2.c) rfl rfl rfl rrs_oneT 55 _ HB5.out.t _ rfl ?_
       intro V2 hV hG hZ
       have hp := HB5.out.put (an' := (.slice S0.A S0.ps.length S0.c)) (au' := (.slice S1.A S1.ps.length S1.c)) (ex' := (.slice S2.A S2.ps.length S2.c)) hV hG hZ
       have HB6 := Lib.hid hp.1
       have HO0 := Lib.hid (HO0.out.kept hp.2)
       have HO1 := Lib.hid (HO1.out.kept hp.2)
       have HO2 := Lib.hid (HO2.out.kept hp.2)
       clear hV hG hZ hp))
  go_ret
  exact ⟨w.heap.size + 2, S0, S1, S2, rfl, ⟨HB6.out.t, by omega, World.ownsRow_nil _ _ _ _, fun _ h => absurd h (List.not_mem_nil), fun _ h => absurd h (List.not_mem_nil), HO0.out, HO1.out, HO2.out, HB6.out.below⟩, HS0.out, HS1.out, HS2.out⟩

end Go.Proofs.YthppgofpbpjglaaGreat

namespace Go.Proofs.YthppgofpbpjglaaGreat
open Go.RowKit

/-- A name in memory. -/
abbrev GN := Option Addr × Nat × List (List UInt8)
def gv (g : GN) : Value := .slice g.1 g.2.2.length g.2.1
theorem gv_one (gs : List GN) : ∀ u ∈ gs.map gv, u.oneCell' = true := by
  intro u hu
  obtain ⟨x, _, rfl⟩ := List.mem_map.1 hu
  rfl
set_option maxHeartbeats 1000000 in
theorem chain1_any (w : World) (nb : Nat) (A : Option Addr) (c : Nat) (n : List (List UInt8)) (hb : w.cell? ⟨nb, 0, none⟩ = some (.slice A n.length c)) (hn : Row w w.heap.size A (n.map sv)) (hw : WideN n) (A1 : Option Addr) (c1 : Nat) (x : List (List UInt8)) (hx : Row w w.heap.size A1 (x.map sv)) (hwx : WideN x) :
    Calls Tryz.prog 39 #[.slice A1 x.length c1, .pointer (some ⟨nb, 0, none⟩)] w (Gave w (.bool (eqN x n))) := by
  have HC := Lib.hid (equal_wide A1 A x.length n.length c1 c w.heap.size x n w rfl rfl hx hn (Nat.le_refl _) hwx hw)
  clear hn hw hx hwx
  go_enter Tryz.func39, Tryz.ntmps39
  go_wp2_with fail
  refine HC.out.mono ?_
  rintro e w1 ⟨rfl, hb1⟩
  go_wp2
  go_ret
  exact ⟨rfl, hb1⟩

def GoneRel (w : World) (m : Nat) (i : Value) (wr : World) : Prop := ∃ k : Nat, k ≤ m ∧ i = .int .i64 k ∧ Below w.heap.size w wr
def SomeInt (w : World) (e : Ending) (w' : World) : Prop := ∃ i : Int, e = .returned (.int .i64 i) ∧ Below w.heap.size w w'
def SomeBool (w : World) (e : Ending) (w' : World) : Prop := ∃ b : Bool, e = .returned (.bool b) ∧ Below w.heap.size w w'
set_option maxHeartbeats 2000000 in
theorem index_gone (w : World) (nb : Nat) (A : Option Addr) (c : Nat) (n : List (List UInt8)) (hnb : Whole w nb 22 [.slice A n.length c]) (hn : Row w w.heap.size A (n.map sv)) (hw : WideN n) (G : Option Addr) (cg : Nat) (gs : List GN) (hg : Row w w.heap.size G (gs.map gv))
    (he : ∀ g ∈ gs, Row w w.heap.size g.1 (g.2.2.map sv) ∧ WideN g.2.2) (hl : gs.length ≤ 1000) :
    Calls Tryz.prog 74 #[.slice G gs.length cg, .func (.func 39) #[] #[.pointer (some ⟨nb, 0, none⟩)]] w (SomeInt w) := by
  have HG := Lib.hid hg
  have HE := Lib.hid he
  have HC := Lib.hid (fun W (hb : Below w.heap.size w W) (g : GN) (hx : g ∈ gs) => chain1_any W nb A c n ((hnb.below hb hnb.lt).cell 0) ((hn.below hb).mono hb.size) hw g.1 g.2.1 g.2.2 (((he g hx).1.below hb).mono hb.size) (he g hx).2)
  clear hg he hnb hn hw
  go_enter Tryz.func74, Tryz.ntmps74
  go_wp2
  go_loopw [8] (GoneRel w gs.length) (fun i _ => gs.length - (intOf i).toNat)
  case atStart => exact ⟨0, Nat.zero_le _, rfl, Below.refl _ _⟩
  case round =>
    obtain ⟨k, hk, rfl, hb⟩ := hrel
    have HB := Lib.hid hb
    have hz := hb.size
    clear hb
    by_cases hlt : k < gs.length
    · obtain ⟨b, off, rfl, _, hc⟩ := (HG.out.below HB.out) (by intro e; rw [List.map_eq_nil_iff] at e; rw [e] at hlt; exact absurd hlt (Nat.not_lt_zero _))
      have q0 := hc k (gv gs[k]) (by rw [List.getElem?_map, List.getElem?_eq_getElem hlt]; rfl)
      have HCL := Lib.hid (HC.out wr HB.out gs[k] (List.getElem_mem hlt))
      clear hc
      revert q0 HCL
      generalize gs[k] = g
      obtain ⟨A1, c1, x⟩ := g
      intro q0 HCL
      dsimp only [gv] at q0 HCL
      go_wp2_with fail
      refine HCL.out.mono ?_
      rintro e w1 ⟨rfl, hb1⟩
      have HB1 := Lib.hid (HB.out.trans (hb1.mono hz))
      clear hb1
      cases hv : eqN x n with
      | true =>
        go_wp2
        go_ret
        exact ⟨_, rfl, HB1.out⟩
      | false =>
        go_wp2
        exact ⟨⟨k + 1, by omega, by go_num, HB1.out⟩, by simp [intOf]; omega⟩
    · obtain rfl : k = gs.length := by omega
      go_wp2
      go_ret
      exact ⟨_, rfl, HB.out⟩
set_option maxHeartbeats 1000000 in
theorem contains_gone (w : World) (nb : Nat) (A : Option Addr) (c : Nat) (n : List (List UInt8)) (hnb : Whole w nb 22 [.slice A n.length c]) (hn : Row w w.heap.size A (n.map sv)) (hw : WideN n) (G : Option Addr) (cg : Nat) (gs : List GN) (hg : Row w w.heap.size G (gs.map gv))
    (he : ∀ g ∈ gs, Row w w.heap.size g.1 (g.2.2.map sv) ∧ WideN g.2.2) (hl : gs.length ≤ 1000) :
    Calls Tryz.prog 40 #[.slice G gs.length cg, .func (.func 39) #[] #[.pointer (some ⟨nb, 0, none⟩)]] w (SomeBool w) := by
  have HC := Lib.hid (index_gone w nb A c n hnb hn hw G cg gs hg he hl)
  clear hnb hn hw hg he hl
  go_enter Tryz.func40, Tryz.ntmps40
  go_wp2_with fail
  refine HC.out.mono ?_
  rintro e w1 ⟨i, rfl, hb1⟩
  have HB1 := Lib.hid hb1
  clear hb1
  go_wp2
  go_ret
  exact ⟨_, rfl, HB1.out⟩

end Go.Proofs.YthppgofpbpjglaaGreat

namespace Go.Proofs.YthppgofpbpjglaaGreat
open Go.RowKit

theorem shN_host2 {d : Dt} {k : Int} (hk : k = 5 ∨ k = 2) (h : soundD k d = true) : soundN d.host = true := by
  rcases hk with rfl | rfl
  · exact (soundP h).h (by decide)
  · exact (soundP h).h (by decide)
theorem strs_row : (Tryz.prog.info? 22).map (fun i => (i.zero, i.size, i.bytes)) = some (some (.slice none 0 0), 1, 24) := by kernel_rfl

/-- Nothing but rows of names has turned. -/
def KeptS (w w' : World) : Prop := ∀ (g : Nat) (o : Obj), w.heap[g]? = some o → (∀ cs t fr, o = Obj.cells cs t fr → t ≠ 22) → w'.heap[g]? = w.heap[g]?
theorem KeptS.trans {w w' w'' : World} (h : KeptS w w') (k : KeptS w' w'') : KeptS w w'' := fun g o hg ho => (k g o ((h g o hg ho).trans hg) ho).trans (h g o hg ho)
theorem KeptS.below {w w' : World} (hb : Below w.heap.size w w') : KeptS w w' := fun _ _ hg _ => hb.block _ (lt_of_some hg)
theorem KeptS.whole {w w' : World} (h : KeptS w w') {g : Nat} {t : TypeId} {L : List Value} (hw : Whole w g t L) (ht : t ≠ 22) : Whole w' g t L :=
  (h g _ hw fun cs t' fr e => by injection e with _ e _; rw [← e]; exact ht).trans hw
theorem KeptS.own {w w' : World} (h : KeptS w w') {base : Nat} {e : TypeId} {size n : Nat} {v : Value} {xs : List Value} (hr : w.ownsRow base e size v n xs) (ht : e ≠ 22) : w'.ownsRow base e size v n xs := by
  refine own_keep hr fun g hv => ?_
  rcases hr.2 with ⟨rfl, _⟩ | ⟨g', cap, cur, rfl, _, hh, _⟩
  · cases hv
  · simp [Value.ownBlock] at hv
    subst hv
    exact h _ _ hh fun cs t' fr e => by injection e with _ e _; rw [← e]; exact ht
theorem KeptS.of_grown {w w' : World} {base n size : Nat} {v : Value} {xs : List Value} (hr : w.ownsRow base 22 size v n xs) (hg : w.grownBy w' v.ownBlock) : KeptS w w' := fun g o ho ht => by
  refine hg.block g (lt_of_some ho) fun e => ?_
  rcases hr.2 with ⟨rfl, _⟩ | ⟨g', cap, cur, rfl, _, hh, _⟩
  · cases e
  · simp [Value.ownBlock] at e
    subst e
    rw [hh] at ho
    exact ht _ _ _ (Option.some.inj ho).symm rfl
theorem KeptS.of_set {w w' : World} {b : Nat} {L : List Value} (hw : Whole w b 22 L) (hg : Grew (fun j => j = b) w w') : KeptS w w' := fun g o ho ht => by
  refine hg.block g (lt_of_some ho) fun e => ?_
  subst e
  unfold Whole at hw
  rw [hw] at ho
  exact ht _ _ _ (Option.some.inj ho).symm rfl
theorem OwnD.keptS {w w' : World} {B : Nat} {x : DV} {d : Dt} (h : OwnD w B x d) (hk : KeptS w w') : OwnD w' B x d :=
  ⟨hk.own h.b (by decide), hk.own h.h (by decide), hk.own h.m (by decide), hk.own h.n (by decide), hk.own h.t (by decide)⟩
theorem FOwn.keptS {w w' : World} {B : Nat} {x : FV} (h : FOwn w B x) (hk : KeptS w w') : FOwn w' B x :=
  ⟨hk.own h.n (by decide), hk.own h.z (by decide), h.d.keptS hk, hk.own h.s (by decide), fun p hp => (h.e p hp).keptS hk⟩
theorem TAt.keptS {w0 w w' : World} {T : Te} {b : Nat} {an au ex : Sec} {v : Value} {xs : List FV} (h : TAt w0 T b an au ex v xs w) (hk : KeptS w w') (hb : Below w0.heap.size w w') : TAt w0 T b an au ex v xs w' :=
  ⟨hk.whole h.blk (by decide), h.ge, hk.own h.row (by decide), fun x hx => (h.each x hx).keptS hk, h.told, hk.own h.an (by decide), hk.own h.au (by decide), hk.own h.ex (by decide), h.below.trans hb⟩
theorem Held.keptS {w0 w w' : World} {A : Option Addr} {c : Nat} {n : List (List UInt8)} (h : Held w0 w A c n) (hk : KeptS w w') : Held w0 w' A c n := by
  rcases h with h | h
  · exact .inl h
  · exact .inr (hk.own h (by decide))
theorem KeptT.then_below {w w' w'' : World} (h : KeptT w w') (hb : Below w.heap.size w' w'') : KeptT w w'' := fun g o hg ho => (hb.block g (lt_of_some hg)).trans (h g o hg ho)

/-- What holds ahead of a round of chain. -/
structure ChainAt (w0 w : World) (T : Te) (b nb : Nat) (an au ex : Sec) (xs : List FV) (gv' : Value) (gs : List GN) (A : Option Addr) (c : Nat) (n : List (List UInt8)) (v : Value) (xs' : List FV) (wr : World) : Prop where
  row : wr.ownsRow (nb + 1) 22 1 gv' gs.length (gs.map gv)
  each : ∀ g ∈ gs, Held w0 wr g.1 g.2.1 g.2.2 ∧ soundN g.2.2 = true
  box : Whole wr nb 22 [.slice A n.length c]
  held : Held w0 wr A c n
  snd : soundN n = true
  te : TAt w0 T b an au ex v xs' wr
  len : xs'.length ≤ xs.length + gs.length
  few : gs.length ≤ 16
  kept : KeptT w wr
  size : w.heap.size ≤ wr.heap.size
  nbg : w.heap.size ≤ nb
theorem ChainAt.kepts {w0 w : World} {T : Te} {b nb : Nat} {an au ex : Sec} {xs : List FV} {gv' : Value} {gs : List GN} {A : Option Addr} {c : Nat} {n : List (List UInt8)} {v v2 : Value} {xs' xs2 : List FV} {wr W : World} (h : ChainAt w0 w T b nb an au ex xs gv' gs A c n v xs' wr) (hk : KeptT wr W) (hz : wr.heap.size ≤ W.heap.size)
    (ht : TAt w0 T b an au ex v2 xs2 W) (hl : xs2.length ≤ xs.length + gs.length) : ChainAt w0 w T b nb an au ex xs gv' gs A c n v2 xs2 W :=
  ⟨hk.own h.row strs_notT, fun g hg => ⟨(h.each g hg).1.kept hk, (h.each g hg).2⟩, hk.whole h.box strs_notT, h.held.kept hk, h.snd, ht, hl, h.few, h.kept.trans hk, Nat.le_trans h.size hz, h.nbg⟩
theorem ChainAt.step {w0 w : World} {T : Te} {b nb : Nat} {an au ex : Sec} {xs : List FV} {gv' : Value} {gs : List GN} {A : Option Addr} {c : Nat} {n : List (List UInt8)} {v : Value} {xs' : List FV} {wr W : World} (h : ChainAt w0 w T b nb an au ex xs gv' gs A c n v xs' wr) (hb : Below wr.heap.size wr W) : ChainAt w0 w T b nb an au ex xs gv' gs A c n v xs' W :=
  h.kepts (KeptT.below hb) hb.size (h.te.step hb) h.len
def ChainRel (w0 w : World) (T : Te) (b nb : Nat) (an au ex : Sec) (xs : List FV) (G : Value) (wr : World) : Prop := ∃ gs A c n v xs', ChainAt w0 w T b nb an au ex xs G gs A c n v xs' wr
def lenOf : Value → Nat
  | .slice _ n _ => n
  | _ => 0
def ChainOut (w0 w : World) (T : Te) (b : Nat) (an au ex : Sec) (xs : List FV) (e : Ending) (w' : World) : Prop :=
  ∃ A c n, e = .returned (.slice A n.length c) ∧ Held w0 w' A c n ∧ soundN n = true ∧ TellOut w0 T b an au ex xs 16 w w'
theorem ChainAt.out {w0 w : World} {T : Te} {b nb : Nat} {an au ex : Sec} {xs : List FV} {G : Value} {gs : List GN} {A : Option Addr} {c : Nat} {n : List (List UInt8)} {v : Value} {xs' : List FV} {wr : World} (h : ChainAt w0 w T b nb an au ex xs G gs A c n v xs' wr) : ChainOut w0 w T b an au ex xs (.returned (.slice A n.length c)) wr :=
  ⟨A, c, n, rfl, h.held, h.snd, v, xs', h.te, by have := h.len; have := h.few; omega, h.kept, h.size⟩

set_option maxRecDepth 20000 in
set_option maxHeartbeats 16000000 in
theorem chain_any (w0 w : World) (T : Te) (b : Nat) (an au ex : Sec) (v : Value) (xs : List FV) (h : TAt w0 T b an au ex v xs w) (ok : TeOk w0 T) (hs : SecOk w0 T an T.m.msg.an) (hl : xs.length ≤ 5000) :
    Calls Tryz.prog 16 #[.pointer (some ⟨b, 0, none⟩)] w (ChainOut w0 w T b an au ex xs) := by
  obtain ⟨i0, hi0, hz0, hz1, hz2⟩ := info_parts strs_row
  have hsm := hs.small ok (fun r hr => an_all hr)
  have HL := Lib.hid hl
  have HWZ := Lib.hid (show w0.heap.size ≤ w.heap.size from h.below.size)
  have HSET := Lib.hid (fun ⦃gs : List GN⦄ ⦃G : Value⦄ ⦃A : Option Addr⦄ ⦃c : Nat⦄ ⦃n : List (List UInt8)⦄ ⦃v : Value⦄ ⦃xs' : List FV⦄ ⦃nb : Nat⦄ (W : World) (h : ChainAt w0 w T b nb an au ex xs G gs A c n v xs' W) =>
    set_own W an.A an.c an.ps A n c 5 (secRs hs h.te.an h.te.below) (h.held.row h.te.below) (soundN_wide h.snd) (fun p hp => ⟨(hsm p hp).2.1, (hsm p hp).2.2.few⟩) hs.n)
  have HHAS := Lib.hid (fun ⦃gs : List GN⦄ ⦃G : Value⦄ ⦃A : Option Addr⦄ ⦃c : Nat⦄ ⦃n : List (List UInt8)⦄ ⦃v : Value⦄ ⦃xs' : List FV⦄ ⦃nb : Nat⦄ (W : World) (h : ChainAt w0 w T b nb an au ex xs G gs A c n v xs' W) (sA : Option Addr) (sc : Nat) (qs : List (DV × Dt)) (hg : GotSet w0 W an n 5 sA sc qs) (least : Int) =>
    has_anyT w0 W T b an au ex v xs' h.te ok (by have := h.len; have := h.few; omega) A c n h.held h.snd 5 least (rankA T) (by decide) (rankA_wf T) sA sc qs hg.1 hg.2.1 (fun p hp => sound_small (setF_sound (fun p hp => (hsm p hp).1) (hg.2.2 p hp)))
      (fun hf => told_set hs (fun r hr => an_all hr) (fun d hd => by
        unfold dats at hd
        obtain ⟨q, hq, rfl⟩ := List.mem_map.1 hd
        exact hg.2.2 q hq) hf))
  have HHOST := Lib.hid (fun (q : DV × Dt) ⦃n : List (List UInt8)⦄ (hq : q.2 ∈ (setF (recs an.ps) n 5).1) => shN_host2 (.inl rfl) (setF_sound (fun p hp => (hsm p hp).1) hq))
  have HLS := Lib.hid (fun (n : List (List UInt8)) => (show (setF (recs an.ps) n 5).1.length ≤ 1000 from Nat.le_trans (setF_len _ _ _) (by rw [length_recs]; exact hs.n)))
  have c0 : w.cell? ⟨b, 0, none⟩ = some (.slice T.y.1 T.q.name.length T.y.2) := h.blk.cell 0
  have c1 : w.cell? ⟨b, 1, none⟩ = some (.int .i64 T.q.kind) := h.blk.cell 1
  have hbl := h.bsz
  have HH0 := Lib.hid (show ChainAt w0 w T b w.heap.size an au ex xs (.slice none 0 0) [] T.y.1 T.y.2 T.q.name v xs (w.alloc (.cells #[.slice T.y.1 T.q.name.length T.y.2] 22)) from by
    have hb := (Below.refl w.heap.size w).alloc (Nat.le_refl _) (.cells #[.slice T.y.1 T.q.name.length T.y.2] 22)
    exact ⟨World.ownsRow_nil _ _ _ _, fun _ h => absurd h (List.not_mem_nil), Whole.made w [.slice T.y.1 T.q.name.length T.y.2] _, .inl ⟨ok.q, ok.qc⟩, ok.qs, h.step hb, Nat.le_refl _, Nat.zero_le _, KeptT.below hb, hb.size, Nat.le_refl _⟩)
  clear h ok hs hsm hl
  have hnew : (w.alloc (.cells #[.slice T.y.1 T.q.name.length T.y.2] 22)).cell? ⟨b, 1, none⟩ = some (.int .i64 T.q.kind) := (World.cell?_alloc_lt w _ ⟨b, 1, none⟩ hbl).trans c1
  by_cases k5 : T.q.kind = 5
  · have t5 : (T.q.kind == 5) = true := by rw [k5]; rfl
    clear k5
    go_enter Tryz.func16, Tryz.ntmps16
    go_wp2
    go_ret
    exact HH0.out.out
  have t5 : (T.q.kind == 5) = false := by rw [beq_eq_false_iff_ne]; exact k5
  by_cases k255 : T.q.kind = 255
  · have t255 : (T.q.kind == 255) = true := by rw [k255]; rfl
    clear k5 k255
    go_enter Tryz.func16, Tryz.ntmps16
    go_wp2
    go_ret
    exact HH0.out.out
  have t255 : (T.q.kind == 255) = false := by rw [beq_eq_false_iff_ne]; exact k255
  clear k5 k255
  go_enter Tryz.func16, Tryz.ntmps16
  go_wp2
  clear t5 t255 c0 c1 hnew
  go_loopw [4] (ChainRel w0 w T b w.heap.size an au ex xs) (fun G _ => 17 - lenOf G)
  case atStart => exact ⟨[], _, _, _, _, _, HH0.out⟩
  case round =>
    obtain ⟨gs, A, c, n, v', xs', hc⟩ := hrel
    clear HH0
    have HC := Lib.hid hc
    obtain ⟨G, cg, rfl, _, _⟩ := own_form hc.row
    have hfew := hc.few
    have n0 : wr.cell? ⟨w.heap.size, 0, none⟩ = some (.slice A n.length c) := hc.box.cell 0
    by_cases hlt : gs.length < 16
    case neg =>
      have t : decide ((gs.length : Int) < 16) = false := decide_eq_false (by omega)
      clear hc
      go_wp2
      go_ret
      exact HC.out.out
    have t : decide ((gs.length : Int) < 16) = true := decide_eq_true (by omega)
    have HCON := Lib.hid (contains_gone wr w.heap.size A c n hc.box (hc.held.row hc.te.below) (soundN_wide hc.snd) G cg gs (Row.of_own hc.row) (fun g hg => ⟨(hc.each g hg).1.row hc.te.below, soundN_wide (hc.each g hg).2⟩) (by omega))
    clear hc
    go_wp2_with fail
    refine HCON.out.mono ?_
    rintro e w1 ⟨bb, rfl, hb1⟩
    have HC1 := Lib.hid (HC.out.step hb1)
    have n1 : w1.cell? ⟨w.heap.size, 0, none⟩ = some (.slice A n.length c) := HC1.out.box.cell 0
    clear hb1 HCON
    cases bb with
    | true =>
      go_wp2
      go_ret
      exact HC1.out.out
    | false =>
    have HSX := Lib.hid (show ∀ ⦃gs : List GN⦄ ⦃G : Value⦄ ⦃v' : Value⦄ ⦃xs' : List FV⦄ (W : World), ChainAt w0 w T b w.heap.size an au ex xs G gs A c n v' xs' W → (W.cell? ⟨b, 19, none⟩ = some (.slice an.A an.ps.length an.c) ∧ W.cell? ⟨w.heap.size, 0, none⟩ = some (.slice A n.length c)) from fun _ _ _ _ W h => ⟨h.te.blk.cell 19, h.box.cell 0⟩)
    go_wp2
    refine wp_region_held_drew (S := fun W => (W.cell? ⟨b, 19, none⟩ = some (.slice an.A an.ps.length an.c) ∧ W.cell? ⟨w.heap.size, 0, none⟩ = some (.slice A n.length c))) (by kernel_rfl) (by exact HSX.out _ (HC1.out.step (Below.refl _ _).drew)) (fun hHeld => ?_)
    refine wpAnyH_take (i := 0) (oi := ⟨some 39, _, _, _, _, _⟩) (v := ?_) rfl (by kernel_rfl) (by kernel_rfl) (by kernel_rfl) (fun _ _ _ h => h) (Or.inl ⟨by kernel_rfl, ?_⟩) (by assumption) ?_
    rotate_left
    · intro W hSw
      try dsimp only at hSw
      go_simp
      all_goals (with_reducible rfl)
    try simp only [Act.put, List.setIfInBounds_toArray, List.set_cons_zero, List.set_cons_succ]
    refine wpAnyH_take (i := 1) (oi := ⟨some 40, _, _, _, _, _⟩) (v := ?_) rfl (by kernel_rfl) (by kernel_rfl) (by kernel_rfl) (fun _ _ _ h => h) (Or.inl ⟨by kernel_rfl, ?_⟩) (by assumption) ?_
    rotate_left
    · intro W hSw
      try dsimp only at hSw
      go_simp
      all_goals (with_reducible rfl)
    try simp only [Act.put, List.setIfInBounds_toArray, List.set_cons_zero, List.set_cons_succ]
    refine wpAnyH_take (i := 2) (oi := ⟨some 41, _, _, _, _, _⟩) (v := ?_) rfl (by kernel_rfl) (by kernel_rfl) (by kernel_rfl) (fun _ _ _ h => h) (Or.inl ⟨by kernel_rfl, ?_⟩) (by assumption) ?_
    rotate_left
    · intro W hSw
      try dsimp only at hSw
      go_simp
      all_goals (with_reducible rfl)
    try simp only [Act.put, List.setIfInBounds_toArray, List.set_cons_zero, List.set_cons_succ]
    refine wpAnyH_take (i := 3) (oi := ⟨some 42, _, _, _, _, _⟩) (v := ?_) rfl (by kernel_rfl) (by kernel_rfl) (by kernel_rfl) (fun _ _ _ h => h) (Or.inl ⟨by kernel_rfl, ?_⟩) (by assumption) ?_
    rotate_left
    · intro W hSw
      try dsimp only at hSw
      go_simp
      all_goals (with_reducible rfl)
    try simp only [Act.put, List.setIfInBounds_toArray, List.set_cons_zero, List.set_cons_succ]
    refine wpAnyH_take (i := 4) (oi := ⟨some 43, _, _, _, _, _⟩) (v := ?_) rfl (by kernel_rfl) (by kernel_rfl) (by kernel_rfl) (fun _ _ _ h => h) (Or.inl ⟨by kernel_rfl, ?_⟩) (by assumption) ?_
    rotate_left
    · intro W hSw
      try dsimp only at hSw
      go_simp
      all_goals (with_reducible rfl)
    try simp only [Act.put, List.setIfInBounds_toArray, List.set_cons_zero, List.set_cons_succ]
    refine wpAnyH_ready (rs := [5]) (by kernel_rfl) (by simp) ?_
    refine AllReadyH.cons (o := { dst := some 44, op := Go.Op.call { callee := Go.Callee.value (Go.Operand.func 41), args := #[Go.Operand.tmp 42, Go.Operand.tmp 43, Go.Operand.const (Go.Value.int Go.IntKind.i64 5)], argTypes := #[26, 22, 3] }, type := 67, pos := "from.go:78", after := #[{ on := 3, ground := Go.Ground.data }, { on := 4, ground := Go.Ground.data }], guard := none }) rfl (fun K hK => ?_) AllReadyH.nil
    go_simp
    refine (HSET.out _ (HC1.out.step (Below.refl _ _).drew)).mono ?_
    rintro e w2 ⟨sA, sc, qs, rfl, hq, hat⟩
    have HC2 := Lib.hid ((HC1.out.step (Below.refl _ _).drew).step hat.below)
    have HG := Lib.hid (show GotSet w0 w2 an n 5 sA sc qs from hat.got HC1.out.te.below.size hq)
    have HSM := Lib.hid (show 0 < qs.length → ∃ g, sA = some ⟨g, 0, none⟩ from fun h0 => own_some hat.row h0)
    have HROW := Lib.hid (Row.of_own hat.row)
    have hcap := own_cap hat.row
    have hcz := own_capZ hat.row
    have hql : qs.length ≤ 1000 := by rw [← length_dats, hq]; exact HLS.out n
    generalize (setF (recs an.ps) n 5).2 = least
    clear hat hq
    refine hK.out _ _ (by exact HSX.out _ HC2.out) (fun hHeld2 => ?_)
    clear hK K hHeld
    have hHeld := hHeld2
    clear hHeld2
    try simp only [Act.put, List.setIfInBounds_toArray, List.set_cons_zero, List.set_cons_succ]
    refine wpAnyH_take (i := 6) (oi := ⟨some 38, _, _, _, _, _⟩) (v := ?_) rfl (by kernel_rfl) (by kernel_rfl) (by kernel_rfl) (fun _ _ _ h => h) (Or.inl ⟨by kernel_rfl, ?_⟩) (by assumption) ?_
    rotate_left
    · intro W hSw
      try dsimp only at hSw
      go_simp
      all_goals (with_reducible rfl)
    try simp only [Act.put, List.setIfInBounds_toArray, List.set_cons_zero, List.set_cons_succ]
    refine wpAnyH_take (i := 7) (oi := ⟨some 45, _, _, _, _, _⟩) (v := ?_) rfl (by kernel_rfl) (by kernel_rfl) (by kernel_rfl) (fun _ _ _ h => h) (Or.inl ⟨by kernel_rfl, ?_⟩) (by assumption) ?_
    rotate_left
    · intro W hSw
      try dsimp only at hSw
      go_simp
      all_goals (with_reducible rfl)
    try simp only [Act.put, List.setIfInBounds_toArray, List.set_cons_zero, List.set_cons_succ]
    refine wpAnyH_take (i := 8) (oi := ⟨some 46, _, _, _, _, _⟩) (v := ?_) rfl (by kernel_rfl) (by kernel_rfl) (by kernel_rfl) (fun _ _ _ h => h) (Or.inl ⟨by kernel_rfl, ?_⟩) (by assumption) ?_
    rotate_left
    · intro W hSw
      try dsimp only at hSw
      go_simp
      all_goals (with_reducible rfl)
    try simp only [Act.put, List.setIfInBounds_toArray, List.set_cons_zero, List.set_cons_succ]
    refine wpAnyH_take (i := 9) (oi := ⟨some 6, _, _, _, _, _⟩) (v := ?_) rfl (by kernel_rfl) (by kernel_rfl) (by kernel_rfl) (fun _ _ _ h => h) (Or.inl ⟨by kernel_rfl, ?_⟩) (by assumption) ?_
    rotate_left
    · intro W hSw
      try dsimp only at hSw
      go_simp
      all_goals (with_reducible rfl)
    try simp only [Act.put, List.setIfInBounds_toArray, List.set_cons_zero, List.set_cons_succ]
    refine wpAnyH_take (i := 10) (oi := ⟨some 7, _, _, _, _, _⟩) (v := ?_) rfl (by kernel_rfl) (by kernel_rfl) (by kernel_rfl) (fun _ _ _ h => h) (Or.inl ⟨by kernel_rfl, ?_⟩) (by assumption) ?_
    rotate_left
    · intro W hSw
      try dsimp only at hSw
      go_simp
      all_goals (with_reducible rfl)
    try simp only [Act.put, List.setIfInBounds_toArray, List.set_cons_zero, List.set_cons_succ]
    refine wpAnyH_done (by kernel_rfl) ?_ _
    unfold maxLen at hcz
    have n2 : w2.cell? ⟨w.heap.size, 0, none⟩ = some (.slice A n.length c) := HC2.out.box.cell 0
    clear n0 n1
    by_cases h0 : qs.length = 0
    · have t0 : ((qs.length : Int) == 0) = true := by rw [h0]; rfl
      clear h0
      go_wp2
      go_ret
      exact HC2.out.out
    have t0 : ((qs.length : Int) == 0) = false := by rw [beq_eq_false_iff_ne]; omega
    obtain ⟨g, rfl⟩ := HSM.out (by omega)
    obtain ⟨⟨yd, d⟩, qr, rfl⟩ : ∃ q0 qr, qs = q0 :: qr := by
      rcases qs with _ | ⟨q0, qr⟩
      · exact absurd rfl h0
      · exact ⟨q0, qr, rfl⟩
    have HG1 := Lib.hid (show GotSet w0 w2 an n 5 (some ⟨g, 0, none⟩) sc [(yd, d)] from by
      have h := HG.out
      refine ⟨?_, fun q hq => h.2.1 q (by rw [List.mem_singleton.1 hq]; exact List.mem_cons_self), fun q hq => h.2.2 q (by rw [List.mem_singleton.1 hq]; exact List.mem_cons_self)⟩
      have h2 := own_takeT h.1 (k := 1) (by simp)
      rw [flat_takeD _ (by simp)] at h2
      exact h2)
    have HSN := Lib.hid (show soundN d.host = true from HHOST.out (yd, d) (HG1.out.2.2 (yd, d) (List.mem_singleton.2 rfl)))
    have HRK := Lib.hid (fun (W : World) (hb : Below w2.heap.size w2 W) => answerRank_any w0 W T b an au ex v' xs' (HC2.out.te.step hb))
    have HHS := Lib.hid (fun (W : World) (hb : Below w2.heap.size w2 W) => HHAS.out W (HC2.out.step hb) (some ⟨g, 0, none⟩) sc [(yd, d)] (HG1.out.kept (KeptT.below hb)) least)
    have hq1 : 1 ≤ ((yd, d) :: qr).length := by simp
    revert t0 hq1 hcap hql
    generalize ((yd, d) :: qr).length = ql
    intro t0 hq1 hcap hql
    have hsc1 : (1 : Int) ≤ (sc : Int) := by omega
    clear HHAS HSET HG HSM h0
    go_wp2
    have HSY := Lib.hid (show ∀ (W : World), KeptT w2 W → w2.heap.size ≤ W.heap.size → (W.cell? ⟨w.heap.size, 0, none⟩ = some (.slice A n.length c) ∧ w0.heap.size ≤ W.heap.size) from fun W h hz => ⟨(h.whole HC2.out.box strs_notT).cell 0, Nat.le_trans HC2.out.te.below.size hz⟩)
    refine wp_region_held_drew (S := fun W => (W.cell? ⟨w.heap.size, 0, none⟩ = some (.slice A n.length c) ∧ w0.heap.size ≤ W.heap.size)) (by kernel_rfl) (by exact HSY.out _ (KeptT.below (Below.refl _ _).drew) (Nat.le_refl _)) (fun hHeld => ?_)
    refine wpAnyH_take (i := 0) (oi := ⟨some 50, _, _, _, _, _⟩) (v := ?_) rfl (by kernel_rfl) (by kernel_rfl) (by kernel_rfl) (fun _ _ _ h => h) (Or.inl ⟨by kernel_rfl, ?_⟩) (by assumption) ?_
    rotate_left
    · intro W hSw
      try dsimp only at hSw
      go_simp
      all_goals (with_reducible rfl)
    try simp only [Act.put, List.setIfInBounds_toArray, List.set_cons_zero, List.set_cons_succ]
    refine wpAnyH_take (i := 1) (oi := ⟨some 51, _, _, _, _, _⟩) (v := ?_) rfl (by kernel_rfl) (by kernel_rfl) (by kernel_rfl) (fun _ _ _ h => h) (Or.inl ⟨by kernel_rfl, ?_⟩) (by assumption) ?_
    rotate_left
    · intro W hSw
      try dsimp only at hSw
      go_simp
      all_goals (with_reducible rfl)
    try simp only [Act.put, List.setIfInBounds_toArray, List.set_cons_zero, List.set_cons_succ]
    refine wpAnyH_take (i := 2) (oi := ⟨some 52, _, _, _, _, _⟩) (v := ?_) rfl (by kernel_rfl) (by kernel_rfl) (by kernel_rfl) (fun _ _ _ h => h) (Or.inl ⟨by kernel_rfl, ?_⟩) (by assumption) ?_
    rotate_left
    · intro W hSw
      try dsimp only at hSw
      go_simp
      all_goals (with_reducible rfl)
    try simp only [Act.put, List.setIfInBounds_toArray, List.set_cons_zero, List.set_cons_succ]
    refine wpAnyH_take (i := 3) (oi := ⟨some 53, _, _, _, _, _⟩) (v := ?_) rfl (by kernel_rfl) (by kernel_rfl) (by kernel_rfl) (fun _ _ _ h => h) (Or.inl ⟨by kernel_rfl, ?_⟩) (by assumption) ?_
    rotate_left
    · intro W hSw
      try dsimp only at hSw
      go_simp
      all_goals (with_reducible rfl)
    try simp only [Act.put, List.setIfInBounds_toArray, List.set_cons_zero, List.set_cons_succ]
    refine wpAnyH_take (i := 4) (oi := ⟨some 54, _, _, _, _, _⟩) (v := ?_) rfl (by kernel_rfl) (by kernel_rfl) (by kernel_rfl) (fun _ _ _ h => h) (Or.inl ⟨by kernel_rfl, ?_⟩) (by assumption) ?_
    rotate_left
    · intro W hSw
      try dsimp only at hSw
      go_simp
      all_goals (with_reducible rfl)
    try simp only [Act.put, List.setIfInBounds_toArray, List.set_cons_zero, List.set_cons_succ]
    refine wpAnyH_take (i := 5) (oi := ⟨some 55, _, _, _, _, _⟩) (v := ?_) rfl (by kernel_rfl) (by kernel_rfl) (by kernel_rfl) (fun _ _ _ h => h) (Or.inl ⟨by kernel_rfl, ?_⟩) (by assumption) ?_
    rotate_left
    · intro W hSw
      try dsimp only at hSw
      go_simp
      all_goals (with_reducible rfl)
    try simp only [Act.put, List.setIfInBounds_toArray, List.set_cons_zero, List.set_cons_succ]
    refine wpAnyH_ready (rs := [6]) (by kernel_rfl) (by simp) ?_
    refine AllReadyH.cons (o := { dst := some 56, op := Go.Op.call { callee := Go.Callee.value (Go.Operand.func 43), args := #[Go.Operand.tmp 55], argTypes := #[50] }, type := 3, pos := "from.go:82", after := #[{ on := 5, ground := Go.Ground.data }], guard := none }) rfl (fun K hK => ?_) AllReadyH.nil
    go_simp
    refine (HRK.out _ (Below.refl _ _).drew).mono ?_
    rintro e wx ⟨rfl, rfl⟩
    refine hK.out _ _ (by exact hHeld) (fun hHeld2 => ?_)
    clear hK K hHeld
    have hHeld := hHeld2
    clear hHeld2
    try simp only [Act.put, List.setIfInBounds_toArray, List.set_cons_zero, List.set_cons_succ]
    refine wpAnyH_ready (rs := [7]) (by kernel_rfl) (by simp) ?_
    refine AllReadyH.cons (o := { dst := some 57, op := Go.Op.call { callee := Go.Callee.value (Go.Operand.func 42), args := #[Go.Operand.tmp 50, Go.Operand.tmp 51, Go.Operand.const (Go.Value.int Go.IntKind.i64 5), Go.Operand.tmp 53, Go.Operand.tmp 54, Go.Operand.tmp 56], argTypes := #[50, 22, 3, 34, 3, 3] }, type := 0, pos := "from.go:82", after := #[{ on := 0, ground := Go.Ground.data }, { on := 1, ground := Go.Ground.data }, { on := 3, ground := Go.Ground.data }, { on := 4, ground := Go.Ground.data }, { on := 6, ground := Go.Ground.data }, { on := 6, ground := Go.Ground.chain }], guard := none }) rfl (fun K hK => ?_) AllReadyH.nil
    go_simp
    refine (HHS.out _ (Below.refl _ _).drew).mono ?_
    rintro e w3 ⟨rfl, v3, xs3, ht3, hl3, hk3, hz3⟩
    have HK3 := Lib.hid ((KeptT.below (Below.refl _ _).drew).trans hk3)
    have HZ3 := Lib.hid (show w2.heap.size ≤ w3.heap.size from hz3)
    have HT3 := Lib.hid ht3
    have HL3 := Lib.hid hl3
    clear ht3 hl3 hk3 hz3
    refine hK.out _ _ (by exact HSY.out _ HK3.out HZ3.out) (fun hHeld2 => ?_)
    clear hK K hHeld
    have hHeld := hHeld2
    clear hHeld2
    try simp only [Act.put, List.setIfInBounds_toArray, List.set_cons_zero, List.set_cons_succ]
    refine wpAnyH_done (by kernel_rfl) ?_ _
    have n3 : w3.cell? ⟨w.heap.size, 0, none⟩ = some (.slice A n.length c) := (HK3.out.whole HC2.out.box strs_notT).cell 0
    have HG3 := Lib.hid (HG1.out.kept HK3.out)
    have HR3 := Lib.hid (HK3.out.own HC2.out.row strs_notT)
    have HRM := Lib.hid (Row.made w3 #[.slice A n.length c] 22)
    have HR4 := Lib.hid (own_keep HR3.out (w' := w3.alloc (.cells #[.slice A n.length c] 22)) fun j e => (Below.heap_alloc w3 _ _ (HR3.out.lt j e).2))
    go_wp2_with (first
      | (at_builtin
         refine wpList_append_row rfl (.tmp 58) (.tmp 60) _ rfl (w.heap.size + 1) 22 i0 _ 1 24 Tryz.underlying65 hi0 hz0 hz1 hz2 rfl (by omega) (.slice G gs.length cg) gs.length _ rfl HR4.out
           (some ⟨w3.heap.size, 0, none⟩) 1 1 (w3.heap.size + 1) [.slice A n.length c] rfl rfl HRM.out (fun u hu => by rw [List.mem_singleton.1 hu]; rfl) (by unfold maxLen; omega) (by omega) (by have h1 := HC2.out.box.lt; have h2 := HZ3.out; simp; omega) ?_
         intro v7 w7 hown7 hg7
         have HWS := Lib.hid (show w.heap.size ≤ w3.heap.size from Nat.le_trans HC2.out.size HZ3.out)
         have HB7 := Lib.hid (show Below w.heap.size w3 w7 from own_below (B := w.heap.size) ((Below.refl w.heap.size w3).alloc HWS.out _) (Nat.le_succ _) (by have := HWS.out; simp; omega) HR4.out hg7)
         have HK7 := Lib.hid (show KeptS w3 w7 from (KeptS.below ((Below.refl w3.heap.size w3).alloc (Nat.le_refl _) (.cells #[.slice A n.length c] 22))).trans (KeptS.of_grown HR4.out hg7))
         have HN7 := Lib.hid (show Whole w7 w.heap.size 22 [.slice A n.length c] from Whole.grown ((HK3.out.whole HC2.out.box strs_notT).below ((Below.refl w3.heap.size w3).alloc (Nat.le_refl _) (.cells #[.slice A n.length c] 22)) (HK3.out.whole HC2.out.box strs_notT).lt) hg7 (fun e => by have := (HR4.out.lt _ e.symm).1; omega))
         obtain ⟨G7, c7, rfl, _, _⟩ := own_form hown7
         have HO7 := Lib.hid hown7
         have HG7 := Lib.hid (show GotSet w0 w7 an n 5 (some ⟨g, 0, none⟩) sc [(yd, d)] from ⟨HK7.out.own HG3.out.1 (by decide), fun q hq => (HG3.out.2.1 q hq).keptS HK7.out, HG3.out.2.2⟩)
         have h1 : w7.cell? ⟨g, 1, none⟩ = some (.slice yd.Ah d.host.length yd.ch) := own_cell (k := 1) HG7.out.1 (by show 1 < 5; omega)
         clear hown7 hg7)
      | (refine wpList_store_one rfl 22 (.tmp 3) (.tmp 65) rfl w.heap.size 0 (.slice yd.Ah d.host.length yd.ch) rfl rfl rfl strs_oneT 22 _ HN7.out _ rfl ?_
         intro w8 hV hG hZ
         have HK8 := Lib.hid (HK7.out.trans (KeptS.of_set HN7.out hG))
         have HB8 := Lib.hid (show Below w.heap.size w3 w8 from HB7.out.trans (hG.below (fun j e => by rw [e]; exact Nat.le_refl _) (Nat.le_trans HWS.out HB7.out.size)))
         have HN8 := Lib.hid hV
         have HO8 := Lib.hid (own_keep HO7.out fun j e => hG.block j (HO7.out.lt j e).2 (by have := (HO7.out.lt j e).1; omega))
         clear hV hG hZ))
    refine ⟨⟨gs ++ [(A, c, n)], yd.Ah, yd.ch, d.host, v3, xs3, ?_, ?_, HN8.out, .inr ((HG3.out.2.1 (yd, d) (List.mem_singleton.2 rfl)).keptS HK8.out).h, HSN.out, HT3.out.keptS HK8.out (HB8.out.mono (by have := HC2.out.nbg; exact HWZ.out)), ?_, ?_, (HC2.out.kept.trans HK3.out).then_below HB8.out, Nat.le_trans HWS.out HB8.out.size, Nat.le_refl _⟩, ?_⟩
    · have h := HO8.out
      rw [List.length_append, List.map_append]
      exact h
    · intro q hq
      rcases List.mem_append.1 hq with hq | hq
      · exact ⟨((HC2.out.each q hq).1.kept HK3.out).keptS HK8.out, (HC2.out.each q hq).2⟩
      · rw [List.mem_singleton.1 hq]
        exact ⟨(HC2.out.held.kept HK3.out).keptS HK8.out, HC2.out.snd⟩
    · have h1 := HL3.out
      have h2 := HC2.out.len
      rw [List.length_append]
      simp
      omega
    · rw [List.length_append]
      simp
      omega
    · show 17 - (gs.length + 1) < 17 - gs.length
      omega

end Go.Proofs.YthppgofpbpjglaaGreat

namespace Go.Proofs.YthppgofpbpjglaaGreat
open Go.RowKit

/-- Do two questions ask the same? -/
def askQ (a b : Qt) : Bool := decide (a.kind = b.kind) && eqN a.name b.name
def hasQ (l : List Qt) (q : Qt) : Bool := l.any (fun e => askQ q e)
theorem eqN_turn (a b : List (List UInt8)) : eqN a b = eqN b a := by unfold eqN; exact decide_eq_decide.2 ⟨Eq.symm, Eq.symm⟩
theorem askQ_turn (a b : Qt) : askQ a b = askQ b a := by
  unfold askQ
  rw [eqN_turn, show decide (a.kind = b.kind) = decide (b.kind = a.kind) from decide_eq_decide.2 ⟨Eq.symm, Eq.symm⟩]

set_option maxRecDepth 20000 in
set_option maxHeartbeats 2000000 in
theorem asked_any (w : World) (x y : QV) (a b : Qt) (hx : QAt w w.heap.size x a) (hy : QAt w w.heap.size y b) (la : WideN a.name) (lb : WideN b.name) :
    Calls Tryz.prog 78 #[valQ x a, valQ y b] w (Gave w (.bool (askQ a b))) := by
  obtain ⟨W, hW⟩ : ∃ W, W = (w.alloc (.cells #[.slice x.1 a.name.length x.2, .int .i64 a.kind, .int .i64 a.cls] 24)).alloc (.cells #[.slice y.1 b.name.length y.2, .int .i64 b.kind, .int .i64 b.cls] 24) := ⟨_, rfl⟩
  have hB : Below w.heap.size w W := by rw [hW]; exact ((Below.refl _ _).alloc (Nat.le_refl _) _).alloc (by simp) _
  have HC := Lib.hid (equal_wide x.1 y.1 a.name.length b.name.length x.2 y.2 w.heap.size a.name b.name W rfl rfl (Row.below hx hB) (Row.below hy hB) hB.size la lb)
  have HS := Lib.hid (show askQ a b = (decide (a.kind = b.kind) && eqN a.name b.name) from rfl)
  have HB := Lib.hid hB
  clear hB hx hy la lb
  subst hW
  by_cases hk : a.kind = b.kind
  · have t : (a.kind == b.kind) = true := by rw [beq_iff_eq]; exact hk
    rw [show decide (a.kind = b.kind) = true from decide_eq_true hk] at HS
    clear hk
    go_enter Tryz.func78, Tryz.ntmps78
    go_wp2_with fail
    refine HC.out.mono ?_
    rintro e w1 ⟨rfl, hb1⟩
    have HB1 := Lib.hid (HB.out.trans (hb1.mono HB.out.size))
    clear hb1
    go_wp2
    go_ret
    exact ⟨by rw [HS.out]; simp, HB1.out⟩
  · have t : (a.kind == b.kind) = false := by rw [beq_eq_false_iff_ne]; exact hk
    rw [show decide (a.kind = b.kind) = false from decide_eq_false hk] at HS
    clear hk
    go_enter Tryz.func78, Tryz.ntmps78
    go_wp2
    go_ret
    exact ⟨by rw [HS.out]; rfl, HB.out⟩

structure HasBoxQ (w : World) (g f : Nat) (x : QV) (a : Qt) : Prop where
  bg : Whole w g 24 [.slice x.1 a.name.length x.2, .int .i64 a.kind, .int .i64 a.cls]
  bf : Whole w f 96 [.func (.func 78) #[] #[]]
  d : QAt w w.heap.size x a
theorem HasBoxQ.below {w w' : World} {g f : Nat} {x : QV} {a : Qt} (h : HasBoxQ w g f x a) (hb : Below w.heap.size w w') : HasBoxQ w' g f x a :=
  ⟨h.bg.below hb h.bg.lt, h.bf.below hb h.bf.lt, Row.mono (Row.below h.d hb) hb.size⟩

set_option maxHeartbeats 1000000 in
theorem has1_anyQ (w : World) (g f : Nat) (x y : QV) (a b : Qt) (h : HasBoxQ w g f x a) (hy : QAt w w.heap.size y b) (la : WideN a.name) (lb : WideN b.name) :
    Calls Tryz.prog 98 #[valQ y b, .pointer (some ⟨f, 0, none⟩), .pointer (some ⟨g, 0, none⟩)] w (Gave w (.bool (askQ a b))) := by
  obtain ⟨W, hW⟩ : ∃ W, W = w.alloc (.cells #[.slice y.1 b.name.length y.2, .int .i64 b.kind, .int .i64 b.cls] 24) := ⟨_, rfl⟩
  have hB : Below w.heap.size w W := by rw [hW]; exact (Below.refl _ _).alloc (Nat.le_refl _) _
  have hx := h.below hB
  have hwh : Whole W w.heap.size 24 [.slice y.1 b.name.length y.2, .int .i64 b.kind, .int .i64 b.cls] := by rw [hW]; exact Whole.made w _ _
  have c0 : W.cell? ⟨w.heap.size, 0, none⟩ = some (.slice y.1 b.name.length y.2) := hwh.cell 0
  have c1 : W.cell? ⟨w.heap.size, 1, none⟩ = some (.int .i64 b.kind) := hwh.cell 1
  have c2 : W.cell? ⟨w.heap.size, 2, none⟩ = some (.int .i64 b.cls) := hwh.cell 2
  have d0 : W.cell? ⟨g, 0, none⟩ = some (.slice x.1 a.name.length x.2) := hx.bg.cell 0
  have d1 : W.cell? ⟨g, 1, none⟩ = some (.int .i64 a.kind) := hx.bg.cell 1
  have d2 : W.cell? ⟨g, 2, none⟩ = some (.int .i64 a.cls) := hx.bg.cell 2
  have f0 : W.cell? ⟨f, 0, none⟩ = some (.func (.func 78) #[] #[]) := hx.bf.cell 0
  have HC := Lib.hid (asked_any W x y a b hx.d (Row.mono (Row.below hy hB) hB.size) la lb)
  have HB := Lib.hid hB
  clear hB hx hwh hy la lb h
  subst hW
  go_enter Tryz.func98, Tryz.ntmps98
  go_wp2_with fail
  refine HC.out.mono ?_
  rintro e w1 ⟨rfl, hb1⟩
  have HB1 := Lib.hid hb1
  clear hb1
  go_wp2
  go_ret
  exact ⟨rfl, HB.out.trans (HB1.out.mono HB.out.size)⟩

def IndexRelQ (w : World) (ps : List (QV × Qt)) (P : Qt → Bool) (i : Value) (wr : World) : Prop :=
  ∃ k : Nat, k ≤ ps.length ∧ i = .int .i64 k ∧ (qsts (ps.take k)).any P = false ∧ Below w.heap.size w wr
theorem any_snocQ {ps : List (QV × Qt)} {k : Nat} (P : Qt → Bool) (hk : k < ps.length) (h : (qsts (ps.take k)).any P = false) :
    (P (ps[k]).2 = true → (qsts ps).any P = true) ∧ (P (ps[k]).2 = false → (qsts (ps.take (k + 1))).any P = false) := by
  constructor
  · intro hp
    rw [List.any_eq_true]
    exact ⟨(ps[k]).2, List.mem_map.2 ⟨ps[k], List.getElem_mem hk, rfl⟩, hp⟩
  · intro hp
    rw [List.take_succ_eq_append_getElem hk, qsts_append, List.any_append, h]
    simpa [qsts] using hp

set_option maxHeartbeats 2000000 in
theorem index_hasQ (w : World) (g f : Nat) (x : QV) (a : Qt) (A : Option Addr) (c : Nat) (ps : List (QV × Qt)) (h : HasBoxQ w g f x a) (hp : QsAt w w.heap.size A ps) (la : WideN a.name) (hc : ∀ p ∈ ps, WideN p.2.name) (hl : ps.length ≤ maxLen) :
    Calls Tryz.prog 102 #[.slice A ps.length c, .func (.func 98) #[] #[.pointer (some ⟨f, 0, none⟩), .pointer (some ⟨g, 0, none⟩)]] w (IndexOut w ((qsts ps).any (fun e => askQ a e))) := by
  unfold maxLen at hl
  have HX := Lib.hid h
  have HP := Lib.hid hp
  have HC := Lib.hid hc
  clear h hp hc
  go_enter Tryz.func102, Tryz.ntmps102
  go_wp2
  go_loopw [8] (IndexRelQ w ps (fun e => askQ a e)) (fun i _ => ps.length - (intOf i).toNat)
  case atStart => exact ⟨0, Nat.zero_le _, rfl, rfl, Below.refl _ _⟩
  case round =>
    obtain ⟨k, hk, rfl, hn, hb⟩ := hrel
    have HN := Lib.hid hn
    have HB := Lib.hid hb
    have hz := hb.size
    clear hn hb
    by_cases hlt : k < ps.length
    · obtain ⟨b, off, rfl, hbH, hd, q0, q1, q2⟩ := (HP.out.below HB.out).at_ hlt
      have HCL := Lib.hid (has1_anyQ wr g f x (ps[k]).1 a (ps[k]).2 (HX.out.below HB.out) (Row.mono hd HB.out.size) la (HC.out _ (List.getElem_mem hlt)))
      have HI := Lib.hid (any_snocQ (fun e => askQ a e) hlt HN.out)
      clear hd
      revert q0 q1 q2 HCL HI
      generalize ps[k] = p
      obtain ⟨y, d⟩ := p
      intro q0 q1 q2 HCL HI
      dsimp only at *
      go_wp2_with fail
      refine HCL.out.mono ?_
      rintro e w1 ⟨rfl, hb1⟩
      have HB1 := Lib.hid (HB.out.trans (hb1.mono hz))
      clear hb1
      cases hv : askQ a d with
      | true =>
        have HT := Lib.hid (HI.out.1 hv)
        clear HI
        go_wp2
        go_ret
        exact ⟨_, rfl, by rw [HT.out]; simp, HB1.out⟩
      | false =>
        have HT := Lib.hid (HI.out.2 hv)
        clear HI
        go_wp2
        exact ⟨⟨k + 1, by omega, by go_num, HT.out, HB1.out⟩, by simp [intOf]; omega⟩
    · obtain rfl : k = ps.length := by omega
      have HF := Lib.hid (show (qsts ps).any (fun e => askQ a e) = false by have h := HN.out; rwa [List.take_length] at h)
      go_wp2
      go_ret
      exact ⟨_, rfl, by rw [HF.out]; rfl, HB.out⟩

set_option maxHeartbeats 1000000 in
theorem contains_hasQ (w : World) (g f : Nat) (x : QV) (a : Qt) (A : Option Addr) (c : Nat) (ps : List (QV × Qt)) (h : HasBoxQ w g f x a) (hp : QsAt w w.heap.size A ps) (la : WideN a.name) (hc : ∀ p ∈ ps, WideN p.2.name) (hl : ps.length ≤ maxLen) :
    Calls Tryz.prog 97 #[.slice A ps.length c, .func (.func 98) #[] #[.pointer (some ⟨f, 0, none⟩), .pointer (some ⟨g, 0, none⟩)]] w (Gave w (.bool ((qsts ps).any (fun e => askQ a e)))) := by
  have HC := Lib.hid (index_hasQ w g f x a A c ps h hp la hc hl)
  clear h hp hc
  go_enter Tryz.func97, Tryz.ntmps97
  go_wp2_with fail
  refine HC.out.mono ?_
  rintro e w1 ⟨i, rfl, hi, hb1⟩
  have HB1 := Lib.hid hb1
  have HI := Lib.hid hi
  clear hb1 hi
  go_wp2
  go_ret
  exact ⟨ret_bool HI.out, HB1.out⟩

set_option maxHeartbeats 1000000 in
theorem has_anyQ (w : World) (x : QV) (a : Qt) (A : Option Addr) (c : Nat) (ps : List (QV × Qt)) (hx : QAt w w.heap.size x a) (hp : QsAt w w.heap.size A ps) (la : WideN a.name) (hc : ∀ p ∈ ps, WideN p.2.name) (hl : ps.length ≤ maxLen) :
    Calls Tryz.prog 77 #[.slice A ps.length c, valQ x a, .func (.func 78) #[] #[]] w (Gave w (.bool (hasQ (qsts ps) a))) := by
  obtain ⟨W, hW⟩ : ∃ W, W = (w.alloc (.cells #[.slice x.1 a.name.length x.2, .int .i64 a.kind, .int .i64 a.cls] 24)).alloc (.cells #[.func (.func 78) #[] #[]] 96) := ⟨_, rfl⟩
  have hB : Below w.heap.size w W := by rw [hW]; exact ((Below.refl _ _).alloc (Nat.le_refl _) _).alloc (by simp) _
  have hb : HasBoxQ W w.heap.size (w.heap.size + 1) x a := by
    have hg := (Whole.made w [.slice x.1 a.name.length x.2, .int .i64 a.kind, .int .i64 a.cls] 24).alloc (.cells #[.func (.func 78) #[] #[]] 96)
    have hf := Whole.made (w.alloc (.cells #[.slice x.1 a.name.length x.2, .int .i64 a.kind, .int .i64 a.cls] 24)) [.func (.func 78) #[] #[]] 96
    rw [show (w.alloc (.cells #[.slice x.1 a.name.length x.2, .int .i64 a.kind, .int .i64 a.cls] 24)).heap.size = w.heap.size + 1 by simp] at hf
    refine ⟨?_, ?_, Row.mono (Row.below hx hB) hB.size⟩
    · rw [hW]; exact hg
    · rw [hW]; exact hf
  have HC := Lib.hid (contains_hasQ W w.heap.size (w.heap.size + 1) x a A c ps hb ((hp.below hB).mono hB.size) la hc hl)
  have HB := Lib.hid hB
  clear hB hb hx hp hc
  subst hW
  go_enter Tryz.func77, Tryz.ntmps77
  go_wp2_with fail
  refine HC.out.mono ?_
  rintro e w1 ⟨rfl, hb1⟩
  have HB1 := Lib.hid hb1
  clear hb1
  go_wp2
  go_ret
  exact ⟨rfl, HB.out.trans (HB1.out.mono HB.out.size)⟩


end Go.Proofs.YthppgofpbpjglaaGreat

namespace Go.Proofs.YthppgofpbpjglaaGreat
open Go.RowKit





































































































end Go.Proofs.YthppgofpbpjglaaGreat

namespace Go.Proofs.YthppgofpbpjglaaGreat
open Go.RowKit

theorem qst_info : (Tryz.prog.info? 24).map (fun i => (i.zero, i.size, i.bytes)) = some (some (.agg #[.slice none 0 0, .int .i64 0, .int .i64 0]), 3, 40) := by kernel_rfl
def qOf (r : Rt) : Qt := ⟨r.name, r.kind, r.cls⟩
/-- One record more. -/
def stepN (s : List Qt) (r : Rt) : List Qt := if r.cls = 1 ∧ hasQ s (qOf r) = false then s ++ [qOf r] else s
/-- Of which names and types records are. -/
def namesF (rs : List Rt) : List Qt := rs.foldl stepN []
theorem namesF_take {ps : List (RV × Rt)} {j : Nat} (hj : j < ps.length) : namesF (recs (ps.take (j + 1))) = stepN (namesF (recs (ps.take j))) (ps[j]).2 := by
  rw [recs_at hj]
  unfold namesF
  rw [List.foldl_append]
  rfl
theorem own_apartQ {w : World} {b1 b2 : Nat} {e1 e2 : TypeId} {s1 s2 n1 n2 : Nat} {v1 v2 : Value} {x1 x2 : List Value} (h1 : w.ownsRow b1 e1 s1 v1 n1 x1) (h2 : w.ownsRow b2 e2 s2 v2 n2 x2) (he : e1 ≠ e2) {j : Nat} (hj : v1.ownBlock = some j) : v2.ownBlock ≠ some j := by
  intro hk
  rcases h1.2 with ⟨rfl, _⟩ | ⟨g1, _, c1, rfl, _, hh1, _⟩
  · cases hj
  rcases h2.2 with ⟨rfl, _⟩ | ⟨g2, _, c2, rfl, _, hh2, _⟩
  · cases hk
  simp only [Value.ownBlock, Option.some.injEq] at hj hk
  subst hj
  subst hk
  rw [hh1] at hh2
  injection hh2 with hh2
  injection hh2 with _ hh2 _
  exact he hh2
/-- The rows of questions that a call has made. -/
structure NamesAt (w0 : World) (v : Value) (qs : List (QV × Qt)) (w : World) : Prop where
  row : w.ownsRow w0.heap.size 24 3 v qs.length (qs.flatMap cellsQ)
  each : ∀ q ∈ qs, w.ownsRow w0.heap.size 9 1 (.slice q.1.1 q.2.name.length q.1.2) q.2.name.length (q.2.name.map sv)
  below : Below w0.heap.size w0 w
  size : w0.heap.size ≤ w.heap.size
theorem NamesAt.step {w0 w w' : World} {v : Value} {qs : List (QV × Qt)} (h : NamesAt w0 v qs w) (hb : Below w.heap.size w w') : NamesAt w0 v qs w' :=
  ⟨own_keep h.row fun j hj => hb.block j (h.row.lt j hj).2, fun q hq => own_keep (h.each q hq) fun j hj => hb.block j ((h.each q hq).lt j hj).2, h.below.trans (hb.mono h.size), Nat.le_trans h.size hb.size⟩
theorem NamesAt.reads {w0 w : World} {A : Option Addr} {c : Nat} {qs : List (QV × Qt)} (h : NamesAt w0 (.slice A qs.length c) qs w) : QsAt w w.heap.size A qs :=
  ⟨Row.of_own h.row, fun q hq => Row.of_own (h.each q hq)⟩
theorem NamesAt.snoc {w0 w w' : World} {v v' : Value} {qs : List (QV × Qt)} (h : NamesAt w0 v qs w) {y : QV} {d : Qt} (hy : w.ownsRow w0.heap.size 9 1 (.slice y.1 d.name.length y.2) d.name.length (d.name.map sv))
    (ho : w'.ownsRow w0.heap.size 24 3 v' (qs.length + 1) (qs.flatMap cellsQ ++ cellsQ (y, d))) (hg : w.grownBy w' v.ownBlock) : NamesAt w0 v' (qs ++ [(y, d)]) w' := by
  have hk : ∀ {n : Nat} {u : Value} {ys : List Value}, w.ownsRow w0.heap.size 9 1 u n ys → w'.ownsRow w0.heap.size 9 1 u n ys := fun ho => own_keep ho fun j hj => hg.block j (ho.lt j hj).2 (Ne.symm (own_apartQ ho h.row (by decide) hj))
  refine ⟨by rw [List.length_append, List.flatMap_append]; simpa using ho, fun q hq => ?_, own_below h.below (Nat.le_refl _) h.size h.row hg, Nat.le_trans h.size hg.size⟩
  rcases List.mem_append.1 hq with hq | hq
  · exact hk (h.each q hq)
  · rw [List.mem_singleton.1 hq]
    exact hk hy

/-- What the call leaves: questions that read so. -/
def NamesOut (w : World) (s : List Qt) (e : Ending) (w' : World) : Prop :=
  ∃ (A : Option Addr) (c : Nat) (qs : List (QV × Qt)), e = .returned (.slice A qs.length c) ∧ qsts qs = s ∧ QsAt w' w'.heap.size A qs ∧ Below w.heap.size w w'
/-- The same, told more of: the slices are the call's own. -/
def NamesOwn (w : World) (s : List Qt) (e : Ending) (w' : World) : Prop :=
  ∃ (A : Option Addr) (c : Nat) (qs : List (QV × Qt)), e = .returned (.slice A qs.length c) ∧ qsts qs = s ∧ (∀ q ∈ qs, WideN q.2.name) ∧ NamesAt w (.slice A qs.length c) qs w'
def NamesRel (w : World) (ps : List (RV × Rt)) (v i : Value) (wr : World) : Prop :=
  ∃ (j : Nat) (qs : List (QV × Qt)), j ≤ ps.length ∧ i = .int .i64 j ∧ qsts qs = namesF (recs (ps.take j)) ∧ qs.length ≤ j ∧ (∀ q ∈ qs, WideN q.2.name) ∧ NamesAt w v qs wr

set_option maxRecDepth 20000 in
set_option maxHeartbeats 8000000 in
theorem names_own (w : World) (A : Option Addr) (c : Nat) (ps : List (RV × Rt)) (hp : RsAt w w.heap.size A ps) (hr : ∀ p ∈ ps, RIn p.2 ∧ LightR p.2) (hl : ps.length ≤ 1000) :
    Calls Tryz.prog 44 #[.slice A ps.length c] w (NamesOwn w (namesF (recs ps))) := by
  obtain ⟨i0, hi0, hz0, hz1, hz2⟩ := info_parts qst_info
  have HP := Lib.hid hp
  have HR := Lib.hid hr
  clear hp hr
  go_enter Tryz.func44, Tryz.ntmps44
  go_wp2
  go_loopw [3, 9] (NamesRel w ps) (fun _ i _ => ps.length - (intOf i).toNat)
  case atStart => exact ⟨0, [], Nat.zero_le _, rfl, rfl, Nat.le_refl _, fun _ h => absurd h (List.not_mem_nil), World.ownsRow_nil _ _ _ _, fun _ h => absurd h (List.not_mem_nil), Below.refl _ _, Nat.le_refl _⟩
  case round =>
    obtain ⟨j, qs, hj, rfl, hq, hqj, hqw, hs⟩ := hrel
    have HS := Lib.hid hs
    have HQ := Lib.hid hq
    have HQW := Lib.hid hqw
    obtain ⟨A1, c1, rfl, _, _⟩ := own_form hs.row
    clear hs hq hqw
    by_cases hlt : j < ps.length
    · obtain ⟨b, off, rfl, hbH, hra, q0, q1, q2, q3, q4, q5, q6, q7, q8⟩ := HP.out.at_ hlt
      have hri := HR.out _ (List.getElem_mem hlt)
      have HF := Lib.hid (namesF_take hlt)
      revert hra q0 q1 q2 q3 q4 q5 q6 q7 q8 hri HF
      generalize ps[j] = p
      obtain ⟨x, r⟩ := p
      intro hra q0 q1 q2 q3 q4 q5 q6 q7 q8 hri HF
      dsimp only at *
      have HRA := Lib.hid hra
      have HRI := Lib.hid hri
      have hl0 := hri.2.l0
      have k0' := (HS.out.below.cell (p := ⟨b, off + j * 9, none⟩) hbH).trans q0
      have k1' := (HS.out.below.cell (p := ⟨b, off + j * 9 + 1, none⟩) hbH).trans q1
      have k2' := (HS.out.below.cell (p := ⟨b, off + j * 9 + 2, none⟩) hbH).trans q2
      have k3' := (HS.out.below.cell (p := ⟨b, off + j * 9 + 3, none⟩) hbH).trans q3
      have k4' := (HS.out.below.cell (p := ⟨b, off + j * 9 + 4, none⟩) hbH).trans q4
      have k5' := (HS.out.below.cell (p := ⟨b, off + j * 9 + 5, none⟩) hbH).trans q5
      have k6' := (HS.out.below.cell (p := ⟨b, off + j * 9 + 6, none⟩) hbH).trans q6
      have k7' := (HS.out.below.cell (p := ⟨b, off + j * 9 + 7, none⟩) hbH).trans q7
      have k8' := (HS.out.below.cell (p := ⟨b, off + j * 9 + 8, none⟩) hbH).trans q8
      clear hra hri q0 q1 q2 q3 q4 q5 q6 q7 q8
      have hnew := (Below.refl wr.heap.size wr).alloc (Nat.le_refl _) (.cells #[.slice x.A r.name.length x.c, .int .i64 r.kind, .int .i64 r.cls, .int .i64 r.ttl, .slice x.d.Ab r.data.bytes.length x.d.cb, .slice x.d.Ah r.data.host.length x.d.ch, .slice x.d.Am r.data.mail.length x.d.cm, .slice x.d.An r.data.nums.length x.d.cn, .slice x.d.At r.data.texts.length x.d.ct] 46)
      have hnew2 : Below wr.heap.size wr ((wr.alloc (.cells #[.slice x.A r.name.length x.c, .int .i64 r.kind, .int .i64 r.cls, .int .i64 r.ttl, .slice x.d.Ab r.data.bytes.length x.d.cb, .slice x.d.Ah r.data.host.length x.d.ch, .slice x.d.Am r.data.mail.length x.d.cm, .slice x.d.An r.data.nums.length x.d.cn, .slice x.d.At r.data.texts.length x.d.ct] 46)).alloc (.cells #[.slice x.A r.name.length x.c, .int .i64 r.kind, .int .i64 r.cls] 24)) := hnew.alloc (by simp) _
      have HSA := Lib.hid (HS.out.step hnew2)
      have HWP := Lib.hid (show Whole ((wr.alloc (.cells #[.slice x.A r.name.length x.c, .int .i64 r.kind, .int .i64 r.cls, .int .i64 r.ttl, .slice x.d.Ab r.data.bytes.length x.d.cb, .slice x.d.Ah r.data.host.length x.d.ch, .slice x.d.Am r.data.mail.length x.d.cm, .slice x.d.An r.data.nums.length x.d.cn, .slice x.d.At r.data.texts.length x.d.ct] 46)).alloc (.cells #[.slice x.A r.name.length x.c, .int .i64 r.kind, .int .i64 r.cls] 24)) wr.heap.size 46 [.slice x.A r.name.length x.c, .int .i64 r.kind, .int .i64 r.cls, .int .i64 r.ttl, .slice x.d.Ab r.data.bytes.length x.d.cb, .slice x.d.Ah r.data.host.length x.d.ch, .slice x.d.Am r.data.mail.length x.d.cm, .slice x.d.An r.data.nums.length x.d.cn, .slice x.d.At r.data.texts.length x.d.ct] from (Whole.made wr [.slice x.A r.name.length x.c, .int .i64 r.kind, .int .i64 r.cls, .int .i64 r.ttl, .slice x.d.Ab r.data.bytes.length x.d.cb, .slice x.d.Ah r.data.host.length x.d.ch, .slice x.d.Am r.data.mail.length x.d.cm, .slice x.d.An r.data.nums.length x.d.cn, .slice x.d.At r.data.texts.length x.d.ct] 46).alloc _)
      have HWQ := Lib.hid (show Whole ((wr.alloc (.cells #[.slice x.A r.name.length x.c, .int .i64 r.kind, .int .i64 r.cls, .int .i64 r.ttl, .slice x.d.Ab r.data.bytes.length x.d.cb, .slice x.d.Ah r.data.host.length x.d.ch, .slice x.d.Am r.data.mail.length x.d.cm, .slice x.d.An r.data.nums.length x.d.cn, .slice x.d.At r.data.texts.length x.d.ct] 46)).alloc (.cells #[.slice x.A r.name.length x.c, .int .i64 r.kind, .int .i64 r.cls] 24)) (wr.heap.size + 1) 24 [.slice x.A r.name.length x.c, .int .i64 r.kind, .int .i64 r.cls] from by
        have h := Whole.made (wr.alloc (.cells #[.slice x.A r.name.length x.c, .int .i64 r.kind, .int .i64 r.cls, .int .i64 r.ttl, .slice x.d.Ab r.data.bytes.length x.d.cb, .slice x.d.Ah r.data.host.length x.d.ch, .slice x.d.Am r.data.mail.length x.d.cm, .slice x.d.An r.data.nums.length x.d.cn, .slice x.d.At r.data.texts.length x.d.ct] 46)) [.slice x.A r.name.length x.c, .int .i64 r.kind, .int .i64 r.cls] 24
        rw [show (wr.alloc (.cells #[.slice x.A r.name.length x.c, .int .i64 r.kind, .int .i64 r.cls, .int .i64 r.ttl, .slice x.d.Ab r.data.bytes.length x.d.cb, .slice x.d.Ah r.data.host.length x.d.ch, .slice x.d.Am r.data.mail.length x.d.cm, .slice x.d.An r.data.nums.length x.d.cn, .slice x.d.At r.data.texts.length x.d.ct] 46)).heap.size = wr.heap.size + 1 by simp] at h
        exact h)
      have hzA : wr.heap.size + 2 ≤ ((wr.alloc (.cells #[.slice x.A r.name.length x.c, .int .i64 r.kind, .int .i64 r.cls, .int .i64 r.ttl, .slice x.d.Ab r.data.bytes.length x.d.cb, .slice x.d.Ah r.data.host.length x.d.ch, .slice x.d.Am r.data.mail.length x.d.cm, .slice x.d.An r.data.nums.length x.d.cn, .slice x.d.At r.data.texts.length x.d.ct] 46)).alloc (.cells #[.slice x.A r.name.length x.c, .int .i64 r.kind, .int .i64 r.cls] 24)).heap.size := by simp
      have HBR := Lib.hid hnew2
      clear hnew hnew2
      by_cases k1 : r.cls = 1
      case neg =>
        have b1 : (r.cls == 1) = false := by rw [beq_eq_false_iff_ne]; exact k1
        have HE := Lib.hid (show namesF (recs (ps.take (j + 1))) = namesF (recs (ps.take j)) by rw [HF.out]; unfold stepN; rw [if_neg (by rintro ⟨h, _⟩; exact k1 h)])
        clear HF k1
        go_wp2
        exact ⟨⟨j + 1, qs, by omega, by go_num, by rw [HE.out]; exact HQ.out, by omega, HQW.out, HSA.out⟩, by simp [intOf]; omega⟩
      have b1 : (r.cls == 1) = true := by rw [k1]; rfl
      have K1 := Lib.hid k1
      clear k1
      have HHAS := Lib.hid (has_anyQ ((wr.alloc (.cells #[.slice x.A r.name.length x.c, .int .i64 r.kind, .int .i64 r.cls, .int .i64 r.ttl, .slice x.d.Ab r.data.bytes.length x.d.cb, .slice x.d.Ah r.data.host.length x.d.ch, .slice x.d.Am r.data.mail.length x.d.cm, .slice x.d.An r.data.nums.length x.d.cn, .slice x.d.At r.data.texts.length x.d.ct] 46)).alloc (.cells #[.slice x.A r.name.length x.c, .int .i64 r.kind, .int .i64 r.cls] 24)) (x.A, x.c) (qOf r) A1 c1 qs (Row.mono (Row.below HRA.out.n HSA.out.below) HSA.out.size) HSA.out.reads HRI.out.1.n HQW.out (by unfold maxLen; omega))
      go_wp2_with fail
      refine HHAS.out.mono ?_
      rintro e w3 ⟨rfl, hb3⟩
      have HS3 := Lib.hid (HSA.out.step hb3)
      have HW3 := Lib.hid (HWP.out.below hb3 (by omega))
      have HV3 := Lib.hid (HWQ.out.below hb3 (by omega))
      have hz3 : wr.heap.size + 2 ≤ w3.heap.size := Nat.le_trans hzA hb3.size
      have HBR := Lib.hid (HBR.out.trans (hb3.mono (by omega)))
      clear hb3 HSA HWP HWQ HHAS hzA k0' k1' k2' k3' k4' k5' k6' k7' k8'
      cases k2 : hasQ (qsts qs) (qOf r) with
      | true =>
        have HE := Lib.hid (show namesF (recs (ps.take (j + 1))) = namesF (recs (ps.take j)) by rw [HF.out]; unfold stepN; rw [← HQ.out, k2, if_neg (by rintro ⟨_, h⟩; cases h)])
        clear HF
        go_wp2
        exact ⟨⟨j + 1, qs, by omega, by go_num, by rw [HE.out]; exact HQ.out, by omega, HQW.out, HS3.out⟩, by simp [intOf]; omega⟩
      | false =>
        have HE := Lib.hid (show namesF (recs (ps.take (j + 1))) = namesF (recs (ps.take j)) ++ [qOf r] by rw [HF.out]; unfold stepN; rw [← HQ.out, k2, if_pos ⟨K1.out, rfl⟩])
        have p0 : w3.cell? ⟨wr.heap.size, 0, none⟩ = some (.slice x.A r.name.length x.c) := Whole.cell (L := [.slice x.A r.name.length x.c, .int .i64 r.kind, .int .i64 r.cls, .int .i64 r.ttl, .slice x.d.Ab r.data.bytes.length x.d.cb, .slice x.d.Ah r.data.host.length x.d.ch, .slice x.d.Am r.data.mail.length x.d.cm, .slice x.d.An r.data.nums.length x.d.cn, .slice x.d.At r.data.texts.length x.d.ct]) HW3.out 0
        clear HF
        have HFR := Lib.hid (fresh_string x.A r.name.length x.c w.heap.size (r.name.map sv) w3 (by simp) (Row.below HRA.out.n HS3.out.below) (sv_one _) (by omega))
        go_wp2_with fail
        refine HFR.out.mono ?_
        rintro e w4 ⟨v5, rfl, ho5, hb4⟩
        obtain ⟨A5, c5, rfl, _, _⟩ := own_form ho5
        have HS4 := Lib.hid (HS3.out.step hb4)
        have HV4 := Lib.hid (HV3.out.below hb4 (by omega))
        have HBR := Lib.hid (HBR.out.trans (hb4.mono (by omega)))
        have hz4 : wr.heap.size + 2 ≤ w4.heap.size := Nat.le_trans hz3 hb4.size
        have t0 : w4.cell? ⟨wr.heap.size + 1, 0, none⟩ = some (.slice x.A r.name.length x.c) := HV4.out.cell 0
        have f0 : w4.frozen? ⟨wr.heap.size + 1, 0, none⟩ = false := HV4.out.frozen 0
        have HVS := Lib.hid (show Whole (w4.setCell ⟨wr.heap.size + 1, 0, none⟩ (.slice A5 r.name.length c5)) (wr.heap.size + 1) 24 [.slice A5 r.name.length c5, .int .i64 r.kind, .int .i64 r.cls] from HV4.out.set_ 0 _)
        have u0 : (w4.setCell ⟨wr.heap.size + 1, 0, none⟩ (.slice A5 r.name.length c5)).cell? ⟨wr.heap.size + 1, 0, none⟩ = some (.slice A5 r.name.length c5) := HVS.out.cell 0
        have u1 : (w4.setCell ⟨wr.heap.size + 1, 0, none⟩ (.slice A5 r.name.length c5)).cell? ⟨wr.heap.size + 1, 1, none⟩ = some (.int .i64 r.kind) := HVS.out.cell 1
        have u2 : (w4.setCell ⟨wr.heap.size + 1, 0, none⟩ (.slice A5 r.name.length c5)).cell? ⟨wr.heap.size + 1, 2, none⟩ = some (.int .i64 r.cls) := HVS.out.cell 2
        have hvs : (w4.setCell ⟨wr.heap.size + 1, 0, none⟩ (.slice A5 r.name.length c5)).heap.size = w4.heap.size := by simp
        have hbv : Below wr.heap.size wr (w4.setCell ⟨wr.heap.size + 1, 0, none⟩ (.slice A5 r.name.length c5)) := HBR.out.setCell (p := ⟨wr.heap.size + 1, 0, none⟩) (Nat.le_succ _) _
        have hbv2 : Below wr.heap.size wr ((w4.setCell ⟨wr.heap.size + 1, 0, none⟩ (.slice A5 r.name.length c5)).alloc (.cells #[.slice A5 r.name.length c5, .int .i64 r.kind, .int .i64 r.cls] 24)) := hbv.alloc (by rw [hvs]; omega) _
        have HS6 := Lib.hid (HS.out.step hbv2)
        have HY6 := Lib.hid (show ((w4.setCell ⟨wr.heap.size + 1, 0, none⟩ (.slice A5 r.name.length c5)).alloc (.cells #[.slice A5 r.name.length c5, .int .i64 r.kind, .int .i64 r.cls] 24)).ownsRow w.heap.size 9 1 (.slice A5 r.name.length c5) r.name.length (r.name.map sv) from
          own_mono (own_keep ho5 fun g e => by
            have h1 := (ho5.lt g e).1
            have h2 := (ho5.lt g e).2
            rw [Below.heap_alloc (w4.setCell ⟨wr.heap.size + 1, 0, none⟩ (.slice A5 r.name.length c5)) _ g (by rw [hvs]; exact h2)]
            exact Below.heap_setCell w4 ⟨wr.heap.size + 1, 0, none⟩ _ g (by show g ≠ wr.heap.size + 1; omega)) (by have := HS.out.size; omega))
        have HRD := Lib.hid (show Row ((w4.setCell ⟨wr.heap.size + 1, 0, none⟩ (.slice A5 r.name.length c5)).alloc (.cells #[.slice A5 r.name.length c5, .int .i64 r.kind, .int .i64 r.cls] 24)) (w4.heap.size + 1) (some ⟨w4.heap.size, 0, none⟩) [.slice A5 r.name.length c5, .int .i64 r.kind, .int .i64 r.cls] from by
          have h := Row.made (w4.setCell ⟨wr.heap.size + 1, 0, none⟩ (.slice A5 r.name.length c5)) #[.slice A5 r.name.length c5, .int .i64 r.kind, .int .i64 r.cls] 24
          rw [hvs] at h
          exact h)
        clear ho5 hb4 hbv hbv2 hvs HVS HV4 HV3 HW3 HS3 HS4 HFR HBR p0
        go_wp2_with (
          at_builtin
          refine wpList_append_row rfl (.tmp 33) (.tmp 35) _ rfl w.heap.size 24 i0 _ 3 40 Tryz.underlying25 hi0 hz0 hz1 hz2 rfl (by omega) (.slice A1 qs.length c1) qs.length _ rfl HS6.out.row
            (some ⟨w4.heap.size, 0, none⟩) 1 1 (w4.heap.size + 1) (cellsQ ((A5, c5), qOf r)) rfl rfl HRD.out (cellsQ_one1 _) (by unfold maxLen; omega) (by omega) HS6.out.size ?_
          intro v7 w7 hown7 hg7
          have HS7 := Lib.hid (HS6.out.snoc (y := (A5, c5)) (d := qOf r) HY6.out hown7 hg7)
          clear hown7 hg7)
        refine ⟨⟨j + 1, qs ++ [((A5, c5), qOf r)], by omega, by go_num, by rw [HE.out, qsts_append, HQ.out]; rfl, by simp; omega, fun q hq => ?_, HS7.out⟩, by simp [intOf]; omega⟩
        rcases List.mem_append.1 hq with hq | hq
        · exact HQW.out q hq
        · rw [List.mem_singleton.1 hq]; exact HRI.out.1.n
    · obtain rfl : j = ps.length := by omega
      have HX := Lib.hid (show qsts qs = namesF (recs ps) by have h := HQ.out; rwa [List.take_length] at h)
      go_wp2
      go_ret
      exact ⟨A1, c1, qs, rfl, HX.out, HQW.out, HS.out⟩

theorem names_any (w : World) (A : Option Addr) (c : Nat) (ps : List (RV × Rt)) (hp : RsAt w w.heap.size A ps) (hr : ∀ p ∈ ps, RIn p.2 ∧ LightR p.2) (hl : ps.length ≤ 1000) :
    Calls Tryz.prog 44 #[.slice A ps.length c] w (NamesOut w (namesF (recs ps))) :=
  (names_own w A c ps hp hr hl).mono fun _ _ ⟨A', c', qs, h1, h2, _, h3⟩ => ⟨A', c', qs, h1, h2, h3.reads, h3.below⟩

end Go.Proofs.YthppgofpbpjglaaGreat
