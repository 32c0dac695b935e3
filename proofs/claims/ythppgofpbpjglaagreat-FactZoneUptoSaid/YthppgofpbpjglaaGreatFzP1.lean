/-
  FactZone in its form for what is not too great: whatever a response has, each fact that fact.From tells of it is sound, of a name under the zone, got at that second, and of what stood in the response; of messages, questions and names that take at most 1,048,576 values and letters in all. No other condition.
-/
import Derived.Test.YthppgofpbpjglaaGreatFbP10
import Derived.Test.YthppgofpbpjglaaGreatFbP13
namespace Go.Proofs.YthppgofpbpjglaaGreat
open Go.RowKit

theorem soundF_zone {f : Fc} (h : soundF f = true) (h1 : f.h.knd ≠ 1) : soundN f.zone = true := by
  rcases (soundF_parts h).2 with ⟨h2, _⟩ | ⟨_, h2⟩
  · exact absurd h2 h1
  · exact (noB_parts h2).2.2.2.2.1
def ZoneRel (wl : World) (n : Nat) (i : Value) (wr : World) : Prop := ∃ k : Nat, k ≤ n ∧ i = .int .i64 k ∧ Below wl.heap.size wl wr
def ZoneRel2 (W : World) (b : Nat) (lf : List Value) (n : Nat) (i : Value) (wr : World) : Prop := ∃ k : Nat, k ≤ n ∧ i = .int .i64 k ∧ Whole wr b 40 lf ∧ Below W.heap.size W wr

set_option maxRecDepth 20000 in
set_option maxHeartbeats 16000000 in
theorem fzone_core (S : FactSpec) (w : World) (y : QV) (q : Qt) (m : MV) (h : Hd) (qA : Option Addr) (qc : Nat) (qp : List (QV × Qt)) (A0 A1 A2 : Option Addr) (k0 k1 k2 : Nat) (p0 p1 p2 : List (RV × Rt)) (he : m = ⟨h, qA, qc, qp, ⟨A0, k0, p0⟩, ⟨A1, k1, p1⟩, ⟨A2, k2, p2⟩⟩) (zA : Option Addr) (zc : Nat) (z : List (List UInt8)) (now : Int) (hq : QAt w w.heap.size y q) (hqi : QIn q) (hqc : q.name.length ≤ y.2) (hm : MAt w w.heap.size m) (hs : MSafe m) (hz : Row w w.heap.size zA (z.map sv)) (hzs : szN z ≤ maxLen) (hzc : z.length ≤ zc) (hnow : (Lit.int .i64 now).wf = true) :
    Calls Tryz.prog 3 #[valQ y q, valM h (.slice qA qp.length qc) (.slice A0 p0.length k0) (.slice A1 p1.length k1) (.slice A2 p2.length k2), .slice zA z.length zc, .int .i64 now] w (TrueB w) := by
  obtain ⟨i0, hi0, hz0, hz1, hz2⟩ := info_parts rr_info
  obtain ⟨t0, ht0, hx0, hx1, hx2⟩ := info_parts str_info
  have ev : m.val = valM h (.slice qA qp.length qc) (.slice A0 p0.length k0) (.slice A1 p1.length k1) (.slice A2 p2.length k2) := by rw [he]
  have HA := Lib.hid (fun W' => fanswers_any S W')
  have hml := hs.n
  have HLT := Lib.hid (fun (W' : World) (hb : Below w.heap.size w W') => (show Calls Tryz.prog 5 #[valM h (.slice qA qp.length qc) (.slice A0 p0.length k0) (.slice A1 p1.length k1) (.slice A2 p2.length k2)] W' (Gave W' (.bool (lightG m.msg))) from by
    have e0 := hml.2 0
    have e1 := hml.2 1
    have e2 := hml.2 2
    have h1 := flight_any W' m ((hm.below hb).mono hb.size) (by
      have f0 : m.s0.ps.length ≤ 1048576 := e0
      have f1 : m.s1.ps.length ≤ 1048576 := e1
      have f2 : m.s2.ps.length ≤ 1048576 := e2
      omega) (by unfold maxLen; omega)
    rwa [ev] at h1))
  have HOM := Lib.hid (fun (W' : World) (hb : Below w.heap.size w W') (hl : LightG m.msg) => (show Calls Tryz.prog 7 #[valM h (.slice qA qp.length qc) (.slice A0 p0.length k0) (.slice A1 p1.length k1) (.slice A2 p2.length k2)] W' (OwnMOut W' m.msg) from by
    have h1 := ownMsg_any W' m ((hm.below hb).mono hb.size) (hs.smallG hl).1 (hs.smallG hl).2
    rwa [ev] at h1))
  have HIN := Lib.hid (fun (m' : MV) (e : m'.msg = m.msg) (hl : LightG m.msg) => ((hs.smallG hl).1.same e))
  have HBX := Lib.hid (QMBoxes.made w y q h (.slice qA qp.length qc) (.slice A0 p0.length k0) (.slice A1 p1.length k1) (.slice A2 p2.length k2))
  have HQ := Lib.hid (fun (W' : World) (hb : Below w.heap.size w W') => (show QAt W' W'.heap.size y q from (Row.below hq hb).mono hb.size))
  have HQI := Lib.hid hqi
  have HQC := Lib.hid hqc
  have HZ := Lib.hid (fun (W' : World) (hb : Below w.heap.size w W') => (hz.below hb).mono hb.size)
  have HZS := Lib.hid hzs
  have HZC := Lib.hid hzc
  have hzl := len_le_szN' hzs
  have hql := hqi.l
  have HNW := Lib.hid hnow
  have HS0 := Lib.hid (fun W' (hb : Below w.heap.size w W') => (show RsAt W' W'.heap.size A0 p0 by have h2 := (hm.s0.below hb).mono hb.size; rw [he] at h2; exact h2))
  have HS1 := Lib.hid (fun W' (hb : Below w.heap.size w W') => (show RsAt W' W'.heap.size A1 p1 by have h2 := (hm.s1.below hb).mono hb.size; rw [he] at h2; exact h2))
  have HS2 := Lib.hid (fun W' (hb : Below w.heap.size w W') => (show RsAt W' W'.heap.size A2 p2 by have h2 := (hm.s2.below hb).mono hb.size; rw [he] at h2; exact h2))
  have HRI := Lib.hid (show ∀ p ∈ p0 ++ p1 ++ p2, RIn p.2 by
    intro p hp
    rcases List.mem_append.1 hp with h1 | h1
    · rcases List.mem_append.1 h1 with h1 | h1
      · exact (hs.r 0 p (by rw [he]; exact h1)).1
      · exact (hs.r 1 p (by rw [he]; exact h1)).1
    · exact (hs.r 2 p (by rw [he]; exact h1)).1)
  have HAL := Lib.hid (show m.msg.all = recs (p0 ++ p1 ++ p2) from by rw [he]; show recs p0 ++ (recs p1 ++ recs p2) = _; simp [recs_append])
  have hn3 : (p0.length + p1.length + p2.length) * 168 ≤ 140737488355328 := by
    have f0 : m.s0.ps.length ≤ 1048576 := hml.2 0
    have f1 : m.s1.ps.length ≤ 1048576 := hml.2 1
    have f2 : m.s2.ps.length ≤ 1048576 := hml.2 2
    rw [he] at f0 f1 f2
    dsimp only at f0 f1 f2
    omega
  clear hq hqi hqc hm hs hz hzs hzc hnow he ev hml
  generalize m.msg = M at *
  clear m
  unfold maxLen at hzl
  go_enter Tryz.func3, Tryz.ntmps3
  go_wp2_with fail
  refine (HA.out _).mono ?_
  rintro e w1 ⟨rfl, hb1⟩
  have HB1 := Lib.hid (HBX.out.step hb1)
  obtain ⟨m0, m1, m2, m3, m4, m5, m6, m7, m8, m9, m10, m11, m12, m13⟩ := cells14 HB1.out.bm
  clear hb1
  go_wp2_with fail
  refine (HLT.out _ HB1.out.below).mono ?_
  rintro e w2 ⟨rfl, hb2⟩
  have HB2 := Lib.hid (HB1.out.step hb2)
  clear hb2 m0 m1 m2 m3 m4 m5 m6 m7 m8 m9 m10 m11 m12 m13 HB1
  cases hl : lightG M with
  | false =>
    go_wp2_with fail
    refine (HA.out _).mono ?_
    rintro e w3 ⟨rfl, hb3⟩
    have HB3 := Lib.hid (HB2.out.step hb3)
    clear hb3
    go_wp2
    go_ret
    exact ⟨rfl, HB3.out.below⟩
  | true =>
  have HLG := Lib.hid (lightG_iff hl)
  clear hl
  by_cases c1 : z.length ≤ 200
  case neg =>
    have d1 : decide ((200 : Int) < (z.length : Int)) = true := decide_eq_true (by omega)
    go_wp2_with fail
    refine (HA.out _).mono ?_
    rintro e w3 ⟨rfl, hb3⟩
    have HB3 := Lib.hid (HB2.out.step hb3)
    clear hb3
    go_wp2
    go_ret
    exact ⟨rfl, HB3.out.below⟩
  have d1 : decide ((200 : Int) < (z.length : Int)) = false := decide_eq_false (by omega)
  have q0 : w2.cell? ⟨w.heap.size, 0, none⟩ = some (.slice y.1 q.name.length y.2) := HB2.out.bq.cell 0
  by_cases c2 : q.name.length ≤ 200
  case neg =>
    have d2 : decide ((200 : Int) < (q.name.length : Int)) = true := decide_eq_true (by omega)
    go_wp2_with fail
    refine (HA.out _).mono ?_
    rintro e w3 ⟨rfl, hb3⟩
    have HB3 := Lib.hid (HB2.out.step hb3)
    clear hb3
    go_wp2
    go_ret
    exact ⟨rfl, HB3.out.below⟩
  have d2 : decide ((200 : Int) < (q.name.length : Int)) = false := decide_eq_false (by omega)
  have HBC := Lib.hid (Below.refl w2.heap.size w2).drew
  have HS3 := Lib.hid (show ∀ W, Below w2.heap.size w2 W → (W.cell? ⟨w.heap.size + 1, 9, none⟩ = some (.slice A0 p0.length k0) ∧ W.cell? ⟨w.heap.size + 1, 10, none⟩ = some (.slice A1 p1.length k1) ∧ W.cell? ⟨w.heap.size + 1, 11, none⟩ = some (.slice A2 p2.length k2)) from fun W hb => ⟨(HB2.out.step hb).bm.cell 9, (HB2.out.step hb).bm.cell 10, (HB2.out.step hb).bm.cell 11⟩)
  go_upto_region 3 with fail
  go_cut [9] from 33 to 42 (fun s9 wx => AllRelG w2 (p0 ++ p1 ++ p2) s9 wx)
  case first =>
    refine wp_region_held_drew (S := fun W => (W.cell? ⟨w.heap.size + 1, 9, none⟩ = some (.slice A0 p0.length k0) ∧ W.cell? ⟨w.heap.size + 1, 10, none⟩ = some (.slice A1 p1.length k1) ∧ W.cell? ⟨w.heap.size + 1, 11, none⟩ = some (.slice A2 p2.length k2))) (by kernel_rfl) (by exact HS3.out _ HBC.out) (fun hHeld => ?_)
    refine wpAnyH_take (i := 1) (oi := ⟨some 34, _, _, _, _, _⟩) (v := ?_) rfl (by kernel_rfl) (by kernel_rfl) (by kernel_rfl) (fun _ _ _ h => h) (Or.inl ⟨by kernel_rfl, ?_⟩) (by assumption) ?_
    rotate_left
    · intro W hSw
      try dsimp only at hSw
      go_simp
      all_goals (with_reducible rfl)
    try simp only [Act.put, List.setIfInBounds_toArray, List.set_cons_zero, List.set_cons_succ]
    refine wpAnyH_take (i := 2) (oi := ⟨some 35, _, _, _, _, _⟩) (v := ?_) rfl (by kernel_rfl) (by kernel_rfl) (by kernel_rfl) (fun _ _ _ h => h) (Or.inl ⟨by kernel_rfl, ?_⟩) (by assumption) ?_
    rotate_left
    · intro W hSw
      try dsimp only at hSw
      go_simp
      all_goals (with_reducible rfl)
    try simp only [Act.put, List.setIfInBounds_toArray, List.set_cons_zero, List.set_cons_succ]
    refine wpAnyH_take (i := 4) (oi := ⟨some 37, _, _, _, _, _⟩) (v := ?_) rfl (by kernel_rfl) (by kernel_rfl) (by kernel_rfl) (fun _ _ _ h => h) (Or.inl ⟨by kernel_rfl, ?_⟩) (by assumption) ?_
    rotate_left
    · intro W hSw
      try dsimp only at hSw
      go_simp
      all_goals (with_reducible rfl)
    try simp only [Act.put, List.setIfInBounds_toArray, List.set_cons_zero, List.set_cons_succ]
    refine wpAnyH_take (i := 5) (oi := ⟨some 38, _, _, _, _, _⟩) (v := ?_) rfl (by kernel_rfl) (by kernel_rfl) (by kernel_rfl) (fun _ _ _ h => h) (Or.inl ⟨by kernel_rfl, ?_⟩) (by assumption) ?_
    rotate_left
    · intro W hSw
      try dsimp only at hSw
      go_simp
      all_goals (with_reducible rfl)
    try simp only [Act.put, List.setIfInBounds_toArray, List.set_cons_zero, List.set_cons_succ]
    refine wpAnyH_take (i := 7) (oi := ⟨some 40, _, _, _, _, _⟩) (v := ?_) rfl (by kernel_rfl) (by kernel_rfl) (by kernel_rfl) (fun _ _ _ h => h) (Or.inl ⟨by kernel_rfl, ?_⟩) (by assumption) ?_
    rotate_left
    · intro W hSw
      try dsimp only at hSw
      go_simp
      all_goals (with_reducible rfl)
    try simp only [Act.put, List.setIfInBounds_toArray, List.set_cons_zero, List.set_cons_succ]
    refine wpAnyH_take (i := 8) (oi := ⟨some 41, _, _, _, _, _⟩) (v := ?_) rfl (by kernel_rfl) (by kernel_rfl) (by kernel_rfl) (fun _ _ _ h => h) (Or.inl ⟨by kernel_rfl, ?_⟩) (by assumption) ?_
    rotate_left
    · intro W hSw
      try dsimp only at hSw
      go_simp
      all_goals (with_reducible rfl)
    try simp only [Act.put, List.setIfInBounds_toArray, List.set_cons_zero, List.set_cons_succ]
    refine wpAnyH_ready (rs := [0]) (by kernel_rfl) (by simp) ?_
    refine AllReadyH.cons (o := { dst := some 33, op := Go.Op.buildSlice 26 0 #[], type := 26, pos := "law.go:65", after := #[], guard := none }) rfl (fun K hK => ?_) AllReadyH.nil
    refine step_build _ 26 46 i0 rfl Tryz.underlying26 hi0 ?_
    have HO := Lib.hid (show (w2.drew.alloc (.cells #[] 46)).ownsRow w2.heap.size 46 9 (.slice (some ⟨w2.heap.size, 0, none⟩) 0 0) 0 [] from own_lit w2.drew 46 9)
    have HBC := Lib.hid (HBC.out.alloc HBC.out.size (.cells #[] 46))
    refine hK.out _ _ (by exact HS3.out _ HBC.out) (fun hHeld2 => ?_)
    clear hK K hHeld
    have hHeld := hHeld2
    clear hHeld2
    try simp only [Act.put, List.setIfInBounds_toArray, List.set_cons_zero, List.set_cons_succ]
    refine wpAnyH_ready (rs := [3]) (by kernel_rfl) (by simp) ?_
    refine AllReadyH.cons (o := { dst := some 36, op := Go.Op.call { callee := Go.Callee.builtin Go.Builtin.append, args := #[Go.Operand.tmp 33, Go.Operand.tmp 35], argTypes := #[26, 26] }, type := 26, pos := "law.go:65", after := #[{ on := 0, ground := Go.Ground.data }, { on := 2, ground := Go.Ground.data }], guard := none }) rfl (fun K hK => ?_) AllReadyH.nil
    refine step_append_wp rfl (.tmp 33) (.tmp 35) _ rfl w2.heap.size 46 i0 _ 9 168 Tryz.underlying26 hi0 hz0 hz1 hz2 rfl (by omega) (.slice (some ⟨w2.heap.size, 0, none⟩) 0 0) 0 _ rfl HO.out A0 p0.length k0 _ (p0.flatMap cellsR) rfl (length_flat cellsR_len p0) (HS0.out _ (HB2.out.step HBC.out).below).1 (cellsR_one p0) (by unfold maxLen; omega) (by omega) HBC.out.size ?_
    intro v1 u0 hown1 hg1
    rw [Nat.zero_add, List.nil_append] at hown1
    have HBC := Lib.hid (own_below HBC.out (Nat.le_refl _) HBC.out.size HO.out hg1)
    obtain ⟨B0, b0, rfl, _, _⟩ := own_form hown1
    have HO := Lib.hid hown1
    clear hown1 hg1
    refine hK.out _ _ (by exact HS3.out _ HBC.out) (fun hHeld2 => ?_)
    clear hK K hHeld
    have hHeld := hHeld2
    clear hHeld2
    try simp only [Act.put, List.setIfInBounds_toArray, List.set_cons_zero, List.set_cons_succ]
    refine wpAnyH_ready (rs := [6]) (by kernel_rfl) (by simp) ?_
    refine AllReadyH.cons (o := { dst := some 39, op := Go.Op.call { callee := Go.Callee.builtin Go.Builtin.append, args := #[Go.Operand.tmp 36, Go.Operand.tmp 38], argTypes := #[26, 26] }, type := 26, pos := "law.go:65", after := #[{ on := 3, ground := Go.Ground.data }, { on := 5, ground := Go.Ground.data }, { on := 3, ground := Go.Ground.chain }], guard := none }) rfl (fun K hK => ?_) AllReadyH.nil
    refine step_append_wp rfl (.tmp 36) (.tmp 38) _ rfl w2.heap.size 46 i0 _ 9 168 Tryz.underlying26 hi0 hz0 hz1 hz2 rfl (by omega) (.slice B0 p0.length b0) p0.length _ rfl HO.out A1 p1.length k1 _ (p1.flatMap cellsR) rfl (length_flat cellsR_len p1) (HS1.out _ (HB2.out.step HBC.out).below).1 (cellsR_one p1) (by unfold maxLen; omega) (by omega) HBC.out.size ?_
    intro v1 u1 hown1 hg1
    have HBC := Lib.hid (own_below HBC.out (Nat.le_refl _) HBC.out.size HO.out hg1)
    obtain ⟨B1, b1, rfl, _, _⟩ := own_form hown1
    have HO := Lib.hid hown1
    clear hown1 hg1
    refine hK.out _ _ (by exact HS3.out _ HBC.out) (fun hHeld2 => ?_)
    clear hK K hHeld
    have hHeld := hHeld2
    clear hHeld2
    try simp only [Act.put, List.setIfInBounds_toArray, List.set_cons_zero, List.set_cons_succ]
    refine wpAnyH_ready (rs := [9]) (by kernel_rfl) (by simp) ?_
    refine AllReadyH.cons (o := { dst := some 42, op := Go.Op.call { callee := Go.Callee.builtin Go.Builtin.append, args := #[Go.Operand.tmp 39, Go.Operand.tmp 41], argTypes := #[26, 26] }, type := 26, pos := "law.go:65", after := #[{ on := 6, ground := Go.Ground.data }, { on := 8, ground := Go.Ground.data }, { on := 6, ground := Go.Ground.chain }], guard := none }) rfl (fun K hK => ?_) AllReadyH.nil
    refine step_append_wp rfl (.tmp 39) (.tmp 41) _ rfl w2.heap.size 46 i0 _ 9 168 Tryz.underlying26 hi0 hz0 hz1 hz2 rfl (by omega) (.slice B1 (p0.length + p1.length) b1) (p0.length + p1.length) _ rfl HO.out A2 p2.length k2 _ (p2.flatMap cellsR) rfl (length_flat cellsR_len p2) (HS2.out _ (HB2.out.step HBC.out).below).1 (cellsR_one p2) (by unfold maxLen; omega) (by omega) HBC.out.size ?_
    intro v1 u2 hown1 hg1
    have HBC := Lib.hid (own_below HBC.out (Nat.le_refl _) HBC.out.size HO.out hg1)
    obtain ⟨B2, b2, rfl, _, _⟩ := own_form hown1
    have HO := Lib.hid hown1
    clear hown1 hg1
    refine hK.out _ _ (by exact HS3.out _ HBC.out) (fun hHeld2 => ?_)
    clear hK K hHeld
    have hHeld := hHeld2
    clear hHeld2
    try simp only [Act.put, List.setIfInBounds_toArray, List.set_cons_zero, List.set_cons_succ]
    refine wpAnyH_take (i := 10) (oi := ⟨some 9, _, _, _, _, _⟩) (v := ?_) rfl (by kernel_rfl) (by kernel_rfl) (by kernel_rfl) (fun _ _ _ h => h) (Or.inl ⟨by kernel_rfl, ?_⟩) (by assumption) ?_
    rotate_left
    · intro W hSw
      try dsimp only at hSw
      go_simp
      all_goals (with_reducible rfl)
    try simp only [Act.put, List.setIfInBounds_toArray, List.set_cons_zero, List.set_cons_succ]
    refine wpAnyH_done (by kernel_rfl) ?_ _
    have HRR := Lib.hid (show AllRelG w2 (p0 ++ p1 ++ p2) (.slice B2 (p0.length + p1.length + p2.length) b2) u2 from
      ⟨B2, b2, by rw [List.length_append, List.length_append], by rw [List.flatMap_append, List.flatMap_append]; exact Row.of_own HO.out, HBC.out⟩)
    go_wp2
    go_meet
    exact HRR.out
  case rest =>
    clear HBC HS3
    rename World => w4
    obtain ⟨A9, c9', rfl, hrow, hbc⟩ := hcut
    have HCX := Lib.hid (fun (W' : World) (hb : Below w4.heap.size w4 W') => HB2.out.step (hbc.trans (hb.mono hbc.size)))
    have HBC := Lib.hid (Below.refl w4.heap.size w4).drew
    have HB0 := Lib.hid hbc
    have HPS := Lib.hid (show RsAt w4 w4.heap.size A9 (p0 ++ p1 ++ p2) from ⟨hrow, fun p hp => by
      have hbx := (HB2.out.step hbc).below
      rcases List.mem_append.1 hp with h1 | h1
      · rcases List.mem_append.1 h1 with h1 | h1
        · exact (HS0.out _ hbx).2 p h1
        · exact (HS1.out _ hbx).2 p h1
      · exact (HS2.out _ hbx).2 p h1⟩)
    have hlp : (p0 ++ p1 ++ p2).length ≤ 1000000000000 := by rw [List.length_append, List.length_append]; omega
    clear hrow hbc HS0 HS1 HS2 hn3 q0
    revert HPS HRI HAL hlp
    generalize p0 ++ p1 ++ p2 = ps
    intro HRI HAL HPS hlp
    have HSC := Lib.hid (show ∀ W, Below w4.heap.size w4 W → ((W.cell? ⟨w.heap.size, 0, none⟩ = some (.slice y.1 q.name.length y.2) ∧ W.cell? ⟨w.heap.size, 1, none⟩ = some (.int .i64 q.kind) ∧ W.cell? ⟨w.heap.size, 2, none⟩ = some (.int .i64 q.cls)) ∧ (W.cell? ⟨w.heap.size + 1, 0, none⟩ = some (.int .i64 h.id) ∧ W.cell? ⟨w.heap.size + 1, 1, none⟩ = some (.bool h.resp) ∧ W.cell? ⟨w.heap.size + 1, 2, none⟩ = some (.int .i64 h.op) ∧ W.cell? ⟨w.heap.size + 1, 3, none⟩ = some (.bool h.aa) ∧ W.cell? ⟨w.heap.size + 1, 4, none⟩ = some (.bool h.tc) ∧ W.cell? ⟨w.heap.size + 1, 5, none⟩ = some (.bool h.rd) ∧ W.cell? ⟨w.heap.size + 1, 6, none⟩ = some (.bool h.ra) ∧ W.cell? ⟨w.heap.size + 1, 7, none⟩ = some (.int .i64 h.rc) ∧ W.cell? ⟨w.heap.size + 1, 8, none⟩ = some (.slice qA qp.length qc) ∧ W.cell? ⟨w.heap.size + 1, 9, none⟩ = some (.slice A0 p0.length k0) ∧ W.cell? ⟨w.heap.size + 1, 10, none⟩ = some (.slice A1 p1.length k1) ∧ W.cell? ⟨w.heap.size + 1, 11, none⟩ = some (.slice A2 p2.length k2) ∧ W.cell? ⟨w.heap.size + 1, 12, none⟩ = some (.bool h.edns) ∧ W.cell? ⟨w.heap.size + 1, 13, none⟩ = some (.int .i64 h.size))) from fun W hb => ⟨⟨(HCX.out W hb).bq.cell 0, (HCX.out W hb).bq.cell 1, (HCX.out W hb).bq.cell 2⟩, cells14 (HCX.out W hb).bm⟩)
    go_upto_region 4 with fail
    go_cut [10] from 43 to 50 (fun s wx => FromRel w4 q M z now s wx)
    case first =>
      refine wp_region_held_drew (S := fun W => ((W.cell? ⟨w.heap.size, 0, none⟩ = some (.slice y.1 q.name.length y.2) ∧ W.cell? ⟨w.heap.size, 1, none⟩ = some (.int .i64 q.kind) ∧ W.cell? ⟨w.heap.size, 2, none⟩ = some (.int .i64 q.cls)) ∧ (W.cell? ⟨w.heap.size + 1, 0, none⟩ = some (.int .i64 h.id) ∧ W.cell? ⟨w.heap.size + 1, 1, none⟩ = some (.bool h.resp) ∧ W.cell? ⟨w.heap.size + 1, 2, none⟩ = some (.int .i64 h.op) ∧ W.cell? ⟨w.heap.size + 1, 3, none⟩ = some (.bool h.aa) ∧ W.cell? ⟨w.heap.size + 1, 4, none⟩ = some (.bool h.tc) ∧ W.cell? ⟨w.heap.size + 1, 5, none⟩ = some (.bool h.rd) ∧ W.cell? ⟨w.heap.size + 1, 6, none⟩ = some (.bool h.ra) ∧ W.cell? ⟨w.heap.size + 1, 7, none⟩ = some (.int .i64 h.rc) ∧ W.cell? ⟨w.heap.size + 1, 8, none⟩ = some (.slice qA qp.length qc) ∧ W.cell? ⟨w.heap.size + 1, 9, none⟩ = some (.slice A0 p0.length k0) ∧ W.cell? ⟨w.heap.size + 1, 10, none⟩ = some (.slice A1 p1.length k1) ∧ W.cell? ⟨w.heap.size + 1, 11, none⟩ = some (.slice A2 p2.length k2) ∧ W.cell? ⟨w.heap.size + 1, 12, none⟩ = some (.bool h.edns) ∧ W.cell? ⟨w.heap.size + 1, 13, none⟩ = some (.int .i64 h.size)))) (by kernel_rfl) (by exact HSC.out _ HBC.out) (fun hHeld => ?_)
      refine wpAnyH_take (i := 0) (oi := ⟨some 43, _, _, _, _, _⟩) (v := ?_) rfl (by kernel_rfl) (by kernel_rfl) (by kernel_rfl) (fun _ _ _ h => h) (Or.inl ⟨by kernel_rfl, ?_⟩) (by assumption) ?_
      rotate_left
      · intro W hSw
        try dsimp only at hSw
        go_simp
        all_goals (with_reducible rfl)
      try simp only [Act.put, List.setIfInBounds_toArray, List.set_cons_zero, List.set_cons_succ]
      refine wpAnyH_take (i := 1) (oi := ⟨some 44, _, _, _, _, _⟩) (v := ?_) rfl (by kernel_rfl) (by kernel_rfl) (by kernel_rfl) (fun _ _ _ h => h) (Or.inl ⟨by kernel_rfl, ?_⟩) (by assumption) ?_
      rotate_left
      · intro W hSw
        try dsimp only at hSw
        go_simp
        all_goals (with_reducible rfl)
      try simp only [Act.put, List.setIfInBounds_toArray, List.set_cons_zero, List.set_cons_succ]
      refine wpAnyH_take (i := 4) (oi := ⟨some 47, _, _, _, _, _⟩) (v := ?_) rfl (by kernel_rfl) (by kernel_rfl) (by kernel_rfl) (fun _ _ _ h => h) (Or.inl ⟨by kernel_rfl, ?_⟩) (by assumption) ?_
      rotate_left
      · intro W hSw
        try dsimp only at hSw
        go_simp
        all_goals (with_reducible rfl)
      try simp only [Act.put, List.setIfInBounds_toArray, List.set_cons_zero, List.set_cons_succ]
      refine wpAnyH_take (i := 6) (oi := ⟨some 49, _, _, _, _, _⟩) (v := ?_) rfl (by kernel_rfl) (by kernel_rfl) (by kernel_rfl) (fun _ _ _ h => h) (Or.inl ⟨by kernel_rfl, ?_⟩) (by assumption) ?_
      rotate_left
      · intro W hSw
        try dsimp only at hSw
        go_simp
        all_goals (with_reducible rfl)
      try simp only [Act.put, List.setIfInBounds_toArray, List.set_cons_zero, List.set_cons_succ]
      refine wpAnyH_ready (rs := [2, 3]) (by kernel_rfl) (by simp) ?_
      refine AllReadyH.cons (o := { dst := some 45, op := Go.Op.call { callee := Go.Callee.value (Go.Operand.func 7), args := #[Go.Operand.tmp 44], argTypes := #[28] }, type := 28, pos := "law.go:66", after := #[{ on := 1, ground := Go.Ground.data }], guard := none }) rfl (fun K hK => ?_) (AllReadyH.cons (o := { dst := some 46, op := Go.Op.buildSlice 22 0 #[], type := 22, pos := "law.go:66", after := #[], guard := none }) rfl (fun K hK => ?_) AllReadyH.nil)
      · go_simp
        refine (HOM.out _ (HCX.out _ HBC.out).below HLG.out).mono ?_
        rintro e v1 ⟨m', rfl, hmsg, hown, hb⟩
        have HMG := Lib.hid hmsg
        have HOW := Lib.hid hown
        have HBC := Lib.hid (HBC.out.trans (hb.mono HBC.out.size))
        clear hmsg hown hb
        refine hK.out _ _ (by exact HSC.out _ HBC.out) (fun hHeld2 => ?_)
        clear hK K hHeld
        have hHeld := hHeld2
        clear hHeld2
        try simp only [Act.put, List.setIfInBounds_toArray, List.set_cons_zero, List.set_cons_succ]
        refine wpAnyH_ready (rs := [3]) (by kernel_rfl) (by simp) ?_
        refine AllReadyH.cons (o := { dst := some 46, op := Go.Op.buildSlice 22 0 #[], type := 22, pos := "law.go:66", after := #[], guard := none }) rfl (fun K hK => ?_) AllReadyH.nil
        refine step_build _ 22 9 t0 rfl Tryz.underlying22 ht0 ?_
        have hb := (Below.refl (v1).heap.size (v1)).alloc (Nat.le_refl _) (.cells #[] 9)
        have HOW := Lib.hid (HOW.out.keep fun g _ hg => hb.block g hg)
        have HLI := Lib.hid (show ((v1).alloc (.cells #[] 9)).heap[(v1).heap.size]? = some (.cells #[] 9 (0, 0)) from heap_alloc_new _ _)
        have HLB := Lib.hid (show w4.heap.size ≤ (v1).heap.size from HBC.out.size)
        have HBC := Lib.hid (HBC.out.trans (hb.mono HBC.out.size))
        clear hb
        refine hK.out _ _ (by exact HSC.out _ HBC.out) (fun hHeld2 => ?_)
        clear hK K hHeld
        have hHeld := hHeld2
        clear hHeld2
        try simp only [Act.put, List.setIfInBounds_toArray, List.set_cons_zero, List.set_cons_succ]
        refine wpAnyH_ready (rs := [5]) (by kernel_rfl) (by simp) ?_
        refine AllReadyH.cons (o := { dst := some 48, op := Go.Op.call { callee := Go.Callee.builtin Go.Builtin.append, args := #[Go.Operand.tmp 46, Go.Operand.tmp 47], argTypes := #[22, 22] }, type := 22, pos := "law.go:66", after := #[{ on := 3, ground := Go.Ground.data }, { on := 4, ground := Go.Ground.data }, { on := 2, ground := Go.Ground.chain }], guard := none }) rfl (fun K hK => ?_) AllReadyH.nil
        refine step_append _ 46 47 w4.heap.size 22 9 t0 _ 16 rfl Tryz.underlying22 ht0 hx0 hx1 hx2 rfl (.slice (some ⟨(v1).heap.size, 0, none⟩) 0 0) rfl ⟨_, rfl, HLB.out, HLI.out⟩ zA z.length zc _ (z.map sv) rfl (by rw [List.length_map]) (HZ.out _ (HCX.out _ HBC.out).below) (sv_one z) (Nat.le_trans c1 (by unfold maxLen; omega)) (by omega) HBC.out.size ?_
        intro vz v2 hzo hb _
        obtain ⟨Bz, cz, rfl, _, _⟩ := own_form hzo
        have HOW := Lib.hid (HOW.out.keep fun g _ hg => hb.block g hg)
        have HZO := Lib.hid hzo
        have HBC := Lib.hid (HBC.out.trans (hb.mono HBC.out.size))
        clear hzo hb
        refine hK.out _ _ (by exact HSC.out _ HBC.out) (fun hHeld2 => ?_)
        clear hK K hHeld
        have hHeld := hHeld2
        clear hHeld2
        try simp only [Act.put, List.setIfInBounds_toArray, List.set_cons_zero, List.set_cons_succ]
        refine wpAnyH_ready (rs := [7]) (by kernel_rfl) (by simp) ?_
        refine AllReadyH.cons (o := { dst := some 50, op := Go.Op.call { callee := Go.Callee.value (Go.Operand.func 6), args := #[Go.Operand.tmp 43, Go.Operand.tmp 45, Go.Operand.tmp 48, Go.Operand.tmp 49], argTypes := #[24, 28, 22, 3] }, type := 31, pos := "law.go:66", after := #[{ on := 0, ground := Go.Ground.data }, { on := 2, ground := Go.Ground.data }, { on := 5, ground := Go.Ground.data }, { on := 6, ground := Go.Ground.data }, { on := 5, ground := Go.Ground.chain }], guard := none }) rfl (fun K hK => ?_) AllReadyH.nil
        go_simp
        refine (S.frm _ y q m' Bz cz z now (HQ.out _ (HCX.out _ HBC.out).below) HQI.out c2 HQC.out HOW.out.at_ (HIN.out m' HMG.out HLG.out) (by rw [HMG.out]; exact HLG.out) (Row.of_own HZO.out) HZS.out c1 (own_cap HZO.out) HNW.out).mono ?_
        intro e v3 hfr
        rw [HMG.out] at hfr
        have HFR := Lib.hid hfr
        obtain ⟨Af, cf, xs, rfl, _, _, _, _, _, _, hb⟩ := hfr
        have HFR := Lib.hid (show FromRel w4 q M z now (.slice Af xs.length cf) v3 from ⟨_, HBC.out, HFR.out⟩)
        have HBC := Lib.hid (HBC.out.trans (hb.mono HBC.out.size))
        clear hb
        refine hK.out _ _ (by exact HSC.out _ HBC.out) (fun hHeld2 => ?_)
        clear hK K hHeld
        have hHeld := hHeld2
        clear hHeld2
        try simp only [Act.put, List.setIfInBounds_toArray, List.set_cons_zero, List.set_cons_succ]
        refine wpAnyH_take (i := 8) (oi := ⟨some 10, _, _, _, _, _⟩) (v := ?_) rfl (by kernel_rfl) (by kernel_rfl) (by kernel_rfl) (fun _ _ _ h => h) (Or.inl ⟨by kernel_rfl, ?_⟩) (by assumption) ?_
        rotate_left
        · intro W hSw
          try dsimp only at hSw
          go_simp
          all_goals (with_reducible rfl)
        try simp only [Act.put, List.setIfInBounds_toArray, List.set_cons_zero, List.set_cons_succ]
        refine wpAnyH_done (by kernel_rfl) ?_ _
        go_wp2
        go_meet
        exact HFR.out
      · refine step_build _ 22 9 t0 rfl Tryz.underlying22 ht0 ?_
        have hb := (Below.refl (w4.drew).heap.size (w4.drew)).alloc (Nat.le_refl _) (.cells #[] 9)
        have HLI := Lib.hid (show ((w4.drew).alloc (.cells #[] 9)).heap[(w4.drew).heap.size]? = some (.cells #[] 9 (0, 0)) from heap_alloc_new _ _)
        have HLB := Lib.hid (show w4.heap.size ≤ (w4.drew).heap.size from HBC.out.size)
        have HBC := Lib.hid (HBC.out.trans (hb.mono HBC.out.size))
        clear hb
        refine hK.out _ _ (by exact HSC.out _ HBC.out) (fun hHeld2 => ?_)
        clear hK K hHeld
        have hHeld := hHeld2
        clear hHeld2
        try simp only [Act.put, List.setIfInBounds_toArray, List.set_cons_zero, List.set_cons_succ]
        refine wpAnyH_ready (rs := [2]) (by kernel_rfl) (by simp) ?_
        refine AllReadyH.cons (o := { dst := some 45, op := Go.Op.call { callee := Go.Callee.value (Go.Operand.func 7), args := #[Go.Operand.tmp 44], argTypes := #[28] }, type := 28, pos := "law.go:66", after := #[{ on := 1, ground := Go.Ground.data }], guard := none }) rfl (fun K hK => ?_) AllReadyH.nil
        go_simp
        refine (HOM.out _ (HCX.out _ HBC.out).below HLG.out).mono ?_
        rintro e v4 ⟨m', rfl, hmsg, hown, hb⟩
        have HMG := Lib.hid hmsg
        have HLI := Lib.hid ((hb.block _ (heap_lt HLI.out)).trans HLI.out)
        have HOW := Lib.hid hown
        have HBC := Lib.hid (HBC.out.trans (hb.mono HBC.out.size))
        clear hmsg hown hb
        refine hK.out _ _ (by exact HSC.out _ HBC.out) (fun hHeld2 => ?_)
        clear hK K hHeld
        have hHeld := hHeld2
        clear hHeld2
        try simp only [Act.put, List.setIfInBounds_toArray, List.set_cons_zero, List.set_cons_succ]
        refine wpAnyH_ready (rs := [5]) (by kernel_rfl) (by simp) ?_
        refine AllReadyH.cons (o := { dst := some 48, op := Go.Op.call { callee := Go.Callee.builtin Go.Builtin.append, args := #[Go.Operand.tmp 46, Go.Operand.tmp 47], argTypes := #[22, 22] }, type := 22, pos := "law.go:66", after := #[{ on := 3, ground := Go.Ground.data }, { on := 4, ground := Go.Ground.data }, { on := 2, ground := Go.Ground.chain }], guard := none }) rfl (fun K hK => ?_) AllReadyH.nil
        refine step_append _ 46 47 w4.heap.size 22 9 t0 _ 16 rfl Tryz.underlying22 ht0 hx0 hx1 hx2 rfl (.slice (some ⟨(w4.drew).heap.size, 0, none⟩) 0 0) rfl ⟨_, rfl, HLB.out, HLI.out⟩ zA z.length zc _ (z.map sv) rfl (by rw [List.length_map]) (HZ.out _ (HCX.out _ HBC.out).below) (sv_one z) (Nat.le_trans c1 (by unfold maxLen; omega)) (by omega) HBC.out.size ?_
        intro vz v5 hzo hb _
        obtain ⟨Bz, cz, rfl, _, _⟩ := own_form hzo
        have HOW := Lib.hid (HOW.out.keep fun g _ hg => hb.block g hg)
        have HZO := Lib.hid hzo
        have HBC := Lib.hid (HBC.out.trans (hb.mono HBC.out.size))
        clear hzo hb
        refine hK.out _ _ (by exact HSC.out _ HBC.out) (fun hHeld2 => ?_)
        clear hK K hHeld
        have hHeld := hHeld2
        clear hHeld2
        try simp only [Act.put, List.setIfInBounds_toArray, List.set_cons_zero, List.set_cons_succ]
        refine wpAnyH_ready (rs := [7]) (by kernel_rfl) (by simp) ?_
        refine AllReadyH.cons (o := { dst := some 50, op := Go.Op.call { callee := Go.Callee.value (Go.Operand.func 6), args := #[Go.Operand.tmp 43, Go.Operand.tmp 45, Go.Operand.tmp 48, Go.Operand.tmp 49], argTypes := #[24, 28, 22, 3] }, type := 31, pos := "law.go:66", after := #[{ on := 0, ground := Go.Ground.data }, { on := 2, ground := Go.Ground.data }, { on := 5, ground := Go.Ground.data }, { on := 6, ground := Go.Ground.data }, { on := 5, ground := Go.Ground.chain }], guard := none }) rfl (fun K hK => ?_) AllReadyH.nil
        go_simp
        refine (S.frm _ y q m' Bz cz z now (HQ.out _ (HCX.out _ HBC.out).below) HQI.out c2 HQC.out HOW.out.at_ (HIN.out m' HMG.out HLG.out) (by rw [HMG.out]; exact HLG.out) (Row.of_own HZO.out) HZS.out c1 (own_cap HZO.out) HNW.out).mono ?_
        intro e v6 hfr
        rw [HMG.out] at hfr
        have HFR := Lib.hid hfr
        obtain ⟨Af, cf, xs, rfl, _, _, _, _, _, _, hb⟩ := hfr
        have HFR := Lib.hid (show FromRel w4 q M z now (.slice Af xs.length cf) v6 from ⟨_, HBC.out, HFR.out⟩)
        have HBC := Lib.hid (HBC.out.trans (hb.mono HBC.out.size))
        clear hb
        refine hK.out _ _ (by exact HSC.out _ HBC.out) (fun hHeld2 => ?_)
        clear hK K hHeld
        have hHeld := hHeld2
        clear hHeld2
        try simp only [Act.put, List.setIfInBounds_toArray, List.set_cons_zero, List.set_cons_succ]
        refine wpAnyH_take (i := 8) (oi := ⟨some 10, _, _, _, _, _⟩) (v := ?_) rfl (by kernel_rfl) (by kernel_rfl) (by kernel_rfl) (fun _ _ _ h => h) (Or.inl ⟨by kernel_rfl, ?_⟩) (by assumption) ?_
        rotate_left
        · intro W hSw
          try dsimp only at hSw
          go_simp
          all_goals (with_reducible rfl)
        try simp only [Act.put, List.setIfInBounds_toArray, List.set_cons_zero, List.set_cons_succ]
        refine wpAnyH_done (by kernel_rfl) ?_ _
        go_wp2
        go_meet
        exact HFR.out
    case rest =>
      obtain ⟨wa, hwa, Af, cf, xs, e, hfs, hft, hff, hxl, _, htl, hbf⟩ := hcut
      injection e with e
      subst e
      have HBL := Lib.hid (hwa.trans (hbf.mono hwa.size))
      have HFS := Lib.hid hfs
      have HTL := Lib.hid htl
      have HCL := Lib.hid (fun (W' : World) (hb : Below wc.heap.size wc W') => HCX.out W' (HBL.out.trans (hb.mono HBL.out.size)))
      unfold maxLen at hxl
      clear hwa hfs hft hff htl hbf HSC HBC
      go_wp2
      go_loopw [11] (ZoneRel wc xs.length) (fun i _ => xs.length - (intOf i).toNat)
      case atStart => exact ⟨0, Nat.zero_le _, rfl, Below.refl _ _⟩
      case round =>
      obtain ⟨k, hk, rfl, hb⟩ := hrel
      have HB := Lib.hid hb
      clear hb
      by_cases hlt : k < xs.length
      · obtain ⟨b, off, rfl, hbH, hfa, hcell⟩ := (HFS.out.below HB.out).at_ hlt
        have htd := HTL.out _ (List.getElem_mem hlt)
        revert hfa hcell htd
        generalize xs[k] = x
        intro hfa hcell htd
        have hk0 : (0 : Int) ≤ (k : Int) := by omega
        have hk1 : (k : Int) < (xs.length : Int) := by omega
        have hsl : x.sp.length ≤ maxLen := Nat.le_trans hfa.ls hfa.ks
        unfold maxLen at hsl
        have hin := soundF_in htd.s
        have q0 : wr.cell? ⟨b, off + k * 13, none⟩ = some (.slice x.A x.name.length x.c) := hcell 0 _ rfl
        have q1 : wr.cell? ⟨b, off + k * 13 + 1, none⟩ = some (.int .i64 x.h.typ) := hcell 1 _ rfl
        have q2 : wr.cell? ⟨b, off + k * 13 + 2, none⟩ = some (.int .i64 x.h.knd) := hcell 2 _ rfl
        have q3 : wr.cell? ⟨b, off + k * 13 + 3, none⟩ = some (.int .i64 x.h.rank) := hcell 3 _ rfl
        have q4 : wr.cell? ⟨b, off + k * 13 + 4, none⟩ = some (.int .i64 x.h.got) := hcell 4 _ rfl
        have q5 : wr.cell? ⟨b, off + k * 13 + 5, none⟩ = some (.int .i64 x.h.ttl) := hcell 5 _ rfl
        have q6 : wr.cell? ⟨b, off + k * 13 + 6, none⟩ = some (.slice x.sA x.sp.length x.sc) := hcell 6 _ rfl
        have q7 : wr.cell? ⟨b, off + k * 13 + 7, none⟩ = some (.slice x.zA x.zone.length x.zc) := hcell 7 _ rfl
        have q8 : wr.cell? ⟨b, off + k * 13 + 8, none⟩ = some (.slice x.d.Ab x.soa.bytes.length x.d.cb) := hcell 8 _ rfl
        have q9 : wr.cell? ⟨b, off + k * 13 + 9, none⟩ = some (.slice x.d.Ah x.soa.host.length x.d.ch) := hcell 9 _ rfl
        have q10 : wr.cell? ⟨b, off + k * 13 + 10, none⟩ = some (.slice x.d.Am x.soa.mail.length x.d.cm) := hcell 10 _ rfl
        have q11 : wr.cell? ⟨b, off + k * 13 + 11, none⟩ = some (.slice x.d.An x.soa.nums.length x.d.cn) := hcell 11 _ rfl
        have q12 : wr.cell? ⟨b, off + k * 13 + 12, none⟩ = some (.slice x.d.At x.soa.texts.length x.d.ct) := hcell 12 _ rfl
        have HXB := Lib.hid (Below.refl wr.heap.size wr)
        have HXA := Lib.hid (show Below wr.heap.size wr (wr.alloc (.cells #[.slice x.A x.name.length x.c, .int .i64 x.h.typ, .int .i64 x.h.knd, .int .i64 x.h.rank, .int .i64 x.h.got, .int .i64 x.h.ttl, .slice x.sA x.sp.length x.sc, .slice x.zA x.zone.length x.zc, .slice x.d.Ab x.soa.bytes.length x.d.cb, .slice x.d.Ah x.soa.host.length x.d.ch, .slice x.d.Am x.soa.mail.length x.d.cm, .slice x.d.An x.soa.nums.length x.d.cn, .slice x.d.At x.soa.texts.length x.d.ct] 40)) from (Below.refl _ _).alloc (Nat.le_refl _) _)
        have HWA := Lib.hid (show Whole (wr.alloc (.cells #[.slice x.A x.name.length x.c, .int .i64 x.h.typ, .int .i64 x.h.knd, .int .i64 x.h.rank, .int .i64 x.h.got, .int .i64 x.h.ttl, .slice x.sA x.sp.length x.sc, .slice x.zA x.zone.length x.zc, .slice x.d.Ab x.soa.bytes.length x.d.cb, .slice x.d.Ah x.soa.host.length x.d.ch, .slice x.d.Am x.soa.mail.length x.d.cm, .slice x.d.An x.soa.nums.length x.d.cn, .slice x.d.At x.soa.texts.length x.d.ct] 40)) wr.heap.size 40 (cellsF x) from Whole.made wr (cellsF x) _)
        have HFA := Lib.hid (fun (W' : World) (hb : Below wr.heap.size wr W') => (show FAt W' W'.heap.size x from ((hfa.below (hb.mono HB.out.size)).mono (Nat.le_trans HB.out.size hb.size))))
        have HWF := Lib.hid (fun (W' : World) (hb : Below wr.heap.size wr W') => HCL.out W' (HB.out.trans (hb.mono HB.out.size)))
        have HBB := Lib.hid (fun (W' : World) (hb : Below wr.heap.size wr W') => HB.out.trans (hb.mono HB.out.size))
        have HSO := Lib.hid (fun (W' : World) (hb : Below wr.heap.size wr W') => refsound_yes W' x (HFA.out W' hb) hin htd.s)
        have HUN := Lib.hid (fun (W' : World) (hb : Below wr.heap.size wr W') => (show Calls Tryz.prog 9 #[.slice x.A x.name.length x.c, .slice zA z.length zc] W' (Gave W' (.bool true)) from by
          have h1 := ref_under_any x.A zA x.name.length z.length x.c zc W'.heap.size x.name z W' rfl rfl (HFA.out W' hb).n (HZ.out W' (HWF.out W' hb).below) (Nat.le_refl _) (soundN_sz (soundF_name htd.s)) HZS.out hfa.ln
          rwa [show underN x.name z = true from htd.u] at h1))
        have bg : (x.h.got != now) = false := by have h1 : x.h.got = now := htd.g; rw [h1]; simp
        have HTD := Lib.hid htd
        have HIN2 := Lib.hid hin
        clear hfa hcell htd hin
        go_wp2_with fail
        refine (HSO.out _ HXA.out).mono ?_
        rintro e w5 ⟨rfl, hb5⟩
        have HX5 := Lib.hid (HXA.out.trans (hb5.mono HXA.out.size))
        have HW5 := Lib.hid (HWA.out.below hb5 HWA.out.lt)
        have a0 : w5.cell? ⟨wr.heap.size, 0, none⟩ = some (.slice x.A x.name.length x.c) := HW5.out.cell 0
        clear hb5 HXA HWA q0 q1 q2 q3 q4 q5 q6 q7 q8 q9 q10 q11 q12
        go_wp2_with fail
        refine (HUN.out _ HX5.out).mono ?_
        rintro e w6 ⟨rfl, hb6⟩
        have HX6 := Lib.hid (HX5.out.trans (hb6.mono HX5.out.size))
        have HW6 := Lib.hid (HW5.out.below hb6 HW5.out.lt)
        clear hb6 a0 HX5 HW5
        have a4 : w6.cell? ⟨wr.heap.size, 4, none⟩ = some (.int .i64 x.h.got) := HW6.out.cell 4
        have a2 : w6.cell? ⟨wr.heap.size, 2, none⟩ = some (.int .i64 x.h.knd) := HW6.out.cell 2
        by_cases e1 : x.h.knd = 1
        case neg =>
          have b2 : (x.h.knd != 1) = true := by rw [bne_iff_ne]; exact e1
          have HN := Lib.hid (HTD.out.n e1)
          have HUZ := Lib.hid (fun (W' : World) (hb : Below wr.heap.size wr W') => (show Calls Tryz.prog 9 #[.slice x.zA x.zone.length x.zc, .slice zA z.length zc] W' (Gave W' (.bool true)) from by
            have h1 := ref_under_any x.zA zA x.zone.length z.length x.zc zc W'.heap.size x.zone z W' rfl rfl (HFA.out W' hb).z (HZ.out W' (HWF.out W' hb).below) (Nat.le_refl _) (soundN_sz (soundF_zone HTD.out.s e1)) HZS.out (HFA.out W' hb).lz
            rwa [show underN x.zone z = true from HN.out.1] at h1))
          have HTH := Lib.hid (fun (W' : World) (hb : Below wr.heap.size wr W') => (show Calls Tryz.prog 10 #[.slice A9 ps.length c9', .slice x.zA x.zone.length x.zc, .int .i64 6, x.d.val x.soa] W' (Gave W' (.bool true)) from by
            have hb9 := HBL.out.trans ((HBB.out W' hb).mono HBL.out.size)
            have h1 := there_any W' A9 c9' ps x.zA x.zc x.zone 6 x.d x.soa ((HPS.out.below hb9).mono hb9.size) HRI.out (by unfold maxLen; omega) (HFA.out W' hb).z HIN2.out.z (HFA.out W' hb).d HIN2.out.d.w
            have h2 : thereB M.all x.zone 6 x.soa = true := HN.out.2
            rw [HAL.out] at h2
            rwa [h2] at h1))
          have a7 : w6.cell? ⟨wr.heap.size, 7, none⟩ = some (.slice x.zA x.zone.length x.zc) := HW6.out.cell 7
          clear e1
          go_wp2_with fail
          refine (HUZ.out _ HX6.out).mono ?_
          rintro e w7 ⟨rfl, hb7⟩
          have HX7 := Lib.hid (HX6.out.trans (hb7.mono HX6.out.size))
          have HW7 := Lib.hid (HW6.out.below hb7 HW6.out.lt)
          clear hb7 a4 a2 a7
          have a7 : w7.cell? ⟨wr.heap.size, 7, none⟩ = some (.slice x.zA x.zone.length x.zc) := HW7.out.cell 7
          have a8 : w7.cell? ⟨wr.heap.size, 8, none⟩ = some (.slice x.d.Ab x.soa.bytes.length x.d.cb) := HW7.out.cell 8
          have a9 : w7.cell? ⟨wr.heap.size, 9, none⟩ = some (.slice x.d.Ah x.soa.host.length x.d.ch) := HW7.out.cell 9
          have a10 : w7.cell? ⟨wr.heap.size, 10, none⟩ = some (.slice x.d.Am x.soa.mail.length x.d.cm) := HW7.out.cell 10
          have a11 : w7.cell? ⟨wr.heap.size, 11, none⟩ = some (.slice x.d.An x.soa.nums.length x.d.cn) := HW7.out.cell 11
          have a12 : w7.cell? ⟨wr.heap.size, 12, none⟩ = some (.slice x.d.At x.soa.texts.length x.d.ct) := HW7.out.cell 12
          go_wp2_with fail
          refine (HTH.out _ HX7.out).mono ?_
          rintro e w8 ⟨rfl, hb8⟩
          have HX8 := Lib.hid (HX7.out.trans (hb8.mono HX7.out.size))
          clear hb8 a7 a8 a9 a10 a11 a12
          go_wp2
          exact ⟨⟨k + 1, by omega, by go_num, HBB.out _ HX8.out⟩, by simp [intOf]; omega⟩
        have b2 : (x.h.knd != 1) = false := by rw [e1]; rfl
        have HH := Lib.hid (HTD.out.h e1)
        clear e1
        go_wp2
        go_loopw [13] (ZoneRel2 w6 wr.heap.size (cellsF x) x.sp.length) (fun i _ => x.sp.length - (intOf i).toNat)
        case atStart => exact ⟨0, Nat.zero_le _, rfl, HW6.out, Below.refl _ _⟩
        case round =>
        obtain ⟨j, hj, rfl, hwj, hbj⟩ := hrel
        rename World => wj
        have HWJ := Lib.hid hwj
        have HXJ := Lib.hid (HX6.out.trans (hbj.mono HX6.out.size))
        have HWJD := Lib.hid (show Whole wj.drew wr.heap.size 40 (cellsF x) from hwj)
        have HJD := Lib.hid hbj.drew
        have HXJD := Lib.hid HXJ.out.drew
        have s6 : wj.cell? ⟨wr.heap.size, 6, none⟩ = some (.slice x.sA x.sp.length x.sc) := hwj.cell 6
        clear hwj hbj a4 a2
        by_cases hjl : j < x.sp.length
        · obtain ⟨b2', off2, hA2, hbH2, _⟩ := (HFA.out _ HXJD.out).s.at_ hjl
          have HA2 := Lib.hid hA2
          have hj0 : (0 : Int) ≤ (j : Int) := by omega
          have hj1 : (j : Int) < (x.sp.length : Int) := by omega
          have HDJ := Lib.hid (fun (W' : World) (hb : Below wr.heap.size wr W') => (HFA.out _ hb).s.at_ hjl)
          have HDI := Lib.hid (HIN2.out.s _ (List.getElem_mem hjl))
          have HTJ := Lib.hid (HH.out _ (List.mem_map.2 ⟨x.sp[j], List.getElem_mem hjl, rfl⟩))
          revert HDJ HDI HTJ
          generalize x.sp[j] = p
          obtain ⟨yd, d⟩ := p
          intro HDJ HDI HTJ
          have HTH := Lib.hid (fun (W' : World) (hb : Below wr.heap.size wr W') => (show Calls Tryz.prog 10 #[.slice A9 ps.length c9', .slice x.A x.name.length x.c, .int .i64 x.h.typ, yd.val d] W' (Gave W' (.bool true)) from by
            have hb9 := HBL.out.trans ((HBB.out W' hb).mono HBL.out.size)
            obtain ⟨_, _, _, _, hda, _⟩ := HDJ.out W' hb
            have h1 := there_any W' A9 c9' ps x.A x.c x.name x.h.typ yd d ((HPS.out.below hb9).mono hb9.size) HRI.out (by unfold maxLen; omega) (HFA.out W' hb).n HIN2.out.n hda HDI.out.w
            have h2 : thereB M.all x.name x.h.typ d = true := HTJ.out
            rw [HAL.out] at h2
            rwa [h2] at h1))
          have HSJ := Lib.hid (show ∀ W, Below wr.heap.size wr W → Whole W wr.heap.size 40 (cellsF x) → ((W.cell? ⟨wr.heap.size, 0, none⟩ = some (.slice x.A x.name.length x.c) ∧ W.cell? ⟨wr.heap.size, 1, none⟩ = some (.int .i64 x.h.typ) ∧ W.cell? ⟨wr.heap.size, 6, none⟩ = some (.slice (some ⟨b2', off2, none⟩) x.sp.length x.sc)) ∧ W.cell? ⟨b2', off2 + j * 5, none⟩ = some (.slice yd.Ab d.bytes.length yd.cb) ∧ W.cell? ⟨b2', off2 + j * 5 + 1, none⟩ = some (.slice yd.Ah d.host.length yd.ch) ∧ W.cell? ⟨b2', off2 + j * 5 + 2, none⟩ = some (.slice yd.Am d.mail.length yd.cm) ∧ W.cell? ⟨b2', off2 + j * 5 + 3, none⟩ = some (.slice yd.An d.nums.length yd.cn) ∧ W.cell? ⟨b2', off2 + j * 5 + 4, none⟩ = some (.slice yd.At d.texts.length yd.ct)) from fun W hb hw => by
            obtain ⟨b3, o3, e3, _, _, g0, g1, g2, g3, g4⟩ := HDJ.out W hb
            rw [HA2.out] at e3
            injection e3 with e3
            injection e3 with e4 e5
            subst e4
            subst e5
            exact ⟨⟨hw.cell 0, hw.cell 1, (hw.cell 6).trans (by show some (Value.slice x.sA x.sp.length x.sc) = _; rw [HA2.out])⟩, g0, g1, g2, g3, g4⟩)
          have s6' : wj.cell? ⟨wr.heap.size, 6, none⟩ = some (.slice (some ⟨b2', off2, none⟩) x.sp.length x.sc) := s6.trans (by rw [HA2.out])
          clear s6 hA2
          go_wp2
          refine wp_region_held_drew (S := fun W => ((W.cell? ⟨wr.heap.size, 0, none⟩ = some (.slice x.A x.name.length x.c) ∧ W.cell? ⟨wr.heap.size, 1, none⟩ = some (.int .i64 x.h.typ) ∧ W.cell? ⟨wr.heap.size, 6, none⟩ = some (.slice (some ⟨b2', off2, none⟩) x.sp.length x.sc)) ∧ W.cell? ⟨b2', off2 + j * 5, none⟩ = some (.slice yd.Ab d.bytes.length yd.cb) ∧ W.cell? ⟨b2', off2 + j * 5 + 1, none⟩ = some (.slice yd.Ah d.host.length yd.ch) ∧ W.cell? ⟨b2', off2 + j * 5 + 2, none⟩ = some (.slice yd.Am d.mail.length yd.cm) ∧ W.cell? ⟨b2', off2 + j * 5 + 3, none⟩ = some (.slice yd.An d.nums.length yd.cn) ∧ W.cell? ⟨b2', off2 + j * 5 + 4, none⟩ = some (.slice yd.At d.texts.length yd.ct))) (by kernel_rfl) (by exact HSJ.out _ HXJD.out HWJD.out) (fun hHeld => ?_)
          refine wpAnyH_take (i := 0) (oi := ⟨some 101, _, _, _, _, _⟩) (v := ?_) rfl (by kernel_rfl) (by kernel_rfl) (by kernel_rfl) (fun _ _ _ h => h) (Or.inl ⟨by kernel_rfl, ?_⟩) (by assumption) ?_
          rotate_left
          · intro W hSw
            try dsimp only at hSw
            go_simp
            all_goals (with_reducible rfl)
          try simp only [Act.put, List.setIfInBounds_toArray, List.set_cons_zero, List.set_cons_succ]
          refine wpAnyH_take (i := 1) (oi := ⟨some 102, _, _, _, _, _⟩) (v := ?_) rfl (by kernel_rfl) (by kernel_rfl) (by kernel_rfl) (fun _ _ _ h => h) (Or.inl ⟨by kernel_rfl, ?_⟩) (by assumption) ?_
          rotate_left
          · intro W hSw
            try dsimp only at hSw
            go_simp
            all_goals (with_reducible rfl)
          try simp only [Act.put, List.setIfInBounds_toArray, List.set_cons_zero, List.set_cons_succ]
          refine wpAnyH_take (i := 2) (oi := ⟨some 103, _, _, _, _, _⟩) (v := ?_) rfl (by kernel_rfl) (by kernel_rfl) (by kernel_rfl) (fun _ _ _ h => h) (Or.inl ⟨by kernel_rfl, ?_⟩) (by assumption) ?_
          rotate_left
          · intro W hSw
            try dsimp only at hSw
            go_simp
            all_goals (with_reducible rfl)
          try simp only [Act.put, List.setIfInBounds_toArray, List.set_cons_zero, List.set_cons_succ]
          refine wpAnyH_take (i := 3) (oi := ⟨some 104, _, _, _, _, _⟩) (v := ?_) rfl (by kernel_rfl) (by kernel_rfl) (by kernel_rfl) (fun _ _ _ h => h) (Or.inl ⟨by kernel_rfl, ?_⟩) (by assumption) ?_
          rotate_left
          · intro W hSw
            try dsimp only at hSw
            go_simp
            all_goals (with_reducible rfl)
          try simp only [Act.put, List.setIfInBounds_toArray, List.set_cons_zero, List.set_cons_succ]
          refine wpAnyH_take (i := 4) (oi := ⟨some 105, _, _, _, _, _⟩) (v := ?_) rfl (by kernel_rfl) (by kernel_rfl) (by kernel_rfl) (fun _ _ _ h => h) (Or.inl ⟨by kernel_rfl, ?_⟩) (by assumption) ?_
          rotate_left
          · intro W hSw
            try dsimp only at hSw
            go_simp
            all_goals (with_reducible rfl)
          try simp only [Act.put, List.setIfInBounds_toArray, List.set_cons_zero, List.set_cons_succ]
          refine wpAnyH_take (i := 5) (oi := ⟨some 106, _, _, _, _, _⟩) (v := ?_) rfl (by kernel_rfl) (by kernel_rfl) (by kernel_rfl) (fun _ _ _ h => h) (Or.inl ⟨by kernel_rfl, ?_⟩) (by assumption) ?_
          rotate_left
          · intro W hSw
            try dsimp only at hSw
            go_simp
            all_goals (with_reducible rfl)
          try simp only [Act.put, List.setIfInBounds_toArray, List.set_cons_zero, List.set_cons_succ]
          refine wpAnyH_take (i := 6) (oi := ⟨some 107, _, _, _, _, _⟩) (v := ?_) rfl (by kernel_rfl) (by kernel_rfl) (by kernel_rfl) (fun _ _ _ h => h) (Or.inl ⟨by kernel_rfl, ?_⟩) (by assumption) ?_
          rotate_left
          · intro W hSw
            try dsimp only at hSw
            go_simp
            all_goals (with_reducible rfl)
          try simp only [Act.put, List.setIfInBounds_toArray, List.set_cons_zero, List.set_cons_succ]
          refine wpAnyH_take (i := 7) (oi := ⟨some 108, _, _, _, _, _⟩) (v := ?_) rfl (by kernel_rfl) (by kernel_rfl) (by kernel_rfl) (fun _ _ _ h => h) (Or.inl ⟨by kernel_rfl, ?_⟩) (by assumption) ?_
          rotate_left
          · intro W hSw
            try dsimp only at hSw
            go_simp
            all_goals (with_reducible rfl)
          try simp only [Act.put, List.setIfInBounds_toArray, List.set_cons_zero, List.set_cons_succ]
          refine wpAnyH_take (i := 8) (oi := ⟨some 109, _, _, _, _, _⟩) (v := ?_) rfl (by kernel_rfl) (by kernel_rfl) (by kernel_rfl) (fun _ _ _ h => h) (Or.inl ⟨by kernel_rfl, ?_⟩) (by assumption) ?_
          rotate_left
          · intro W hSw
            try dsimp only at hSw
            go_simp
            all_goals (with_reducible rfl)
          try simp only [Act.put, List.setIfInBounds_toArray, List.set_cons_zero, List.set_cons_succ]
          refine wpAnyH_take (i := 9) (oi := ⟨some 110, _, _, _, _, _⟩) (v := ?_) rfl (by kernel_rfl) (by kernel_rfl) (by kernel_rfl) (fun _ _ _ h => h) (Or.inl ⟨by kernel_rfl, ?_⟩) (by assumption) ?_
          rotate_left
          · intro W hSw
            try dsimp only at hSw
            go_simp
            all_goals (with_reducible rfl)
          try simp only [Act.put, List.setIfInBounds_toArray, List.set_cons_zero, List.set_cons_succ]
          refine wpAnyH_ready (rs := [10]) (by kernel_rfl) (by simp) ?_
          refine AllReadyH.cons (o := { dst := some 111, op := Go.Op.call { callee := Go.Callee.value (Go.Operand.func 10), args := #[Go.Operand.tmp 101, Go.Operand.tmp 103, Go.Operand.tmp 105, Go.Operand.tmp 110], argTypes := #[26, 22, 3, 38] }, type := 4, pos := "law.go:79", after := #[{ on := 0, ground := Go.Ground.data }, { on := 2, ground := Go.Ground.data }, { on := 4, ground := Go.Ground.data }, { on := 9, ground := Go.Ground.data }], guard := none }) rfl (fun K hK => ?_) AllReadyH.nil
          go_simp
          refine (HTH.out _ HXJD.out).mono ?_
          rintro e w9 ⟨rfl, hb9⟩
          have HX9 := Lib.hid (HXJD.out.trans (hb9.mono HXJD.out.size))
          have HW9 := Lib.hid (HWJD.out.below hb9 HWJD.out.lt)
          have HJ9 := Lib.hid (HJD.out.trans (hb9.mono HJD.out.size))
          clear hb9
          refine hK.out _ _ (by exact HSJ.out _ HX9.out HW9.out) (fun hHeld2 => ?_)
          clear hK K hHeld
          have hHeld := hHeld2
          clear hHeld2
          try simp only [Act.put, List.setIfInBounds_toArray, List.set_cons_zero, List.set_cons_succ]
          refine wpAnyH_take (i := 11) (oi := ⟨some 112, _, _, _, _, _⟩) (v := ?_) rfl (by kernel_rfl) (by kernel_rfl) (by kernel_rfl) (fun _ _ _ h => h) (Or.inl ⟨by kernel_rfl, ?_⟩) (by assumption) ?_
          rotate_left
          · intro W hSw
            try dsimp only at hSw
            go_simp
            all_goals (with_reducible rfl)
          try simp only [Act.put, List.setIfInBounds_toArray, List.set_cons_zero, List.set_cons_succ]
          refine wpAnyH_done (by kernel_rfl) ?_ _
          go_wp2
          exact ⟨⟨j + 1, by omega, by go_num, HW9.out, HJ9.out⟩, by simp [intOf]; omega⟩
        · obtain rfl : j = x.sp.length := by omega
          go_wp2
          exact ⟨⟨k + 1, by omega, by go_num, HBB.out _ HXJ.out⟩, by simp [intOf]; omega⟩
      · obtain rfl : k = xs.length := by omega
        go_wp2
        go_ret
        exact ⟨rfl, (HCL.out _ HB.out).below⟩

end Go.Proofs.YthppgofpbpjglaaGreat

namespace Go.Proofs.YthppgofpbpjglaaGreat
open Go.ChangeShapes Go.WideShapes Go.ChangeAt Go.RowKit

set_option maxRecDepth 100000 in
theorem fzone_lifted (os : Os) (started : os.Started) (H : Type) (enc : TypeId × Value → H) (F : Stop.Interp) :
    ReturnsInHanded {} Tryz.checked os 3 .any ((Rows.OpenSpec.upto Rows.factZoneSpec).pre6 enc Tryz.prog Tryz.f3 Rows.factZoneUptoRow.domain false) (((Rows.OpenSpec.upto Rows.factZoneSpec).at F).post enc Tryz.prog Tryz.f3 false true false false) := by
  refine returnsInHanded_of_cond (C := Tryz.checked) (s := Rows.OpenSpec.upto Rows.factZoneSpec) (k := Rows.uptoSmall) rfl Tryz.own started (by kernel_rfl) Tryz.func3
    (OpenSpec.witness (enc := enc) (C := Tryz.checked) (s := Rows.OpenSpec.upto Rows.factZoneSpec) (k := Rows.uptoSmall) rfl false ⟨#[], #[.agg #[.slice none 0 0, .int .i64 0, .int .i64 0], .agg #[.int .i64 0, .bool false, .int .i64 0, .bool false, .bool false, .bool false, .bool false, .int .i64 0, .slice none 0 0, .slice none 0 0, .slice none 0 0, .slice none 0 0, .bool false, .int .i64 0], .slice none 0 0, .int .i64 0], []⟩ 8 (by kernel_rfl) (by kernel_rfl) (by kernel_rfl)
      (x := ([.agg [.nil, .lit (.int .i64 0), .lit (.int .i64 0)], .agg [.lit (.int .i64 0), .lit (.bool false), .lit (.int .i64 0), .lit (.bool false), .lit (.bool false), .lit (.bool false), .lit (.bool false), .lit (.int .i64 0), .nil, .nil, .nil, .nil, .lit (.bool false), .lit (.int .i64 0)], .nil, .lit (.int .i64 0)], [], [])) (by kernel_rfl) rfl (by kernel_rfl)) ?_
  intro W base args ds gs before hval0 hW _ hk0 _
  have hval : ∀ (j : Nat) t v, Tryz.f3.params[j]? = some t → args[j]? = some v → Value.okWide Tryz.prog W .any base t v := hval0
  have hW' := hW
  obtain ⟨p, q, hA0, hV, rfl, _, _⟩ := hW
  have hA : DataW.TrodAll enc Tryz.prog W 0 (fun _ => true) true Tryz.f3.params.toList args.toList ds p := hA0
  rw [Tryz.params3] at hA hval
  obtain ⟨v0, v1, v2, v3, d0, d1, d2, d3, p0, p1, p2, p3, rfl, rfl, rfl, h0, h1, h2, h3⟩ := trodAll_four hA
  obtain ⟨rfl, rfl⟩ := trodVars_none hV
  have hk : Rows.uptoBulkAll ([d0, d1, d2, d3] : List (DataW H)) ≤ 1048576 := of_decide_eq_true hk0
  simp only [Rows.uptoBulkAll] at hk
  clear hk0 hA0
  obtain ⟨y0, q0, rfl, hq0, hi0, hc0⟩ := open_questionU (hval 0 24 v0 rfl rfl) h0 (fun x hx => hW'.lt x (by simp [hx])) (by omega)
  obtain ⟨m1, rfl, hm1, hs1⟩ := open_msg (hval 1 28 v1 rfl rfl) h1 (fun x hx => hW'.lt x (by simp [hx])) (by omega)
  obtain ⟨A2, c2, n2, rfl, hr2, hs2, hc2⟩ := open_nameU (hval 2 22 v2 rfl rfl) h2 (fun x hx => hW'.lt x (by simp [hx])) (by omega)
  obtain ⟨n3, rfl, rfl, rfl, w3⟩ := open_int Tryz.underlying3 (hval 3 3 v3 rfl rfl) h3
  have key : Calls Tryz.prog 3 #[valQ y0 q0, m1.val, .slice A2 n2.length c2, .int .i64 n3] W (TrueB W) := by
    obtain ⟨h, qA, qc, qp, ⟨B0, k0, p0⟩, ⟨B1, k1, p1⟩, ⟨B2, k2, p2⟩⟩ := m1
    exact fzone_core theFacts W y0 q0 _ h qA qc qp B0 B1 B2 k0 k1 k2 p0 p1 p2 rfl A2 c2 n2 n3 hq0 hi0 hc0 hm1 hs1 hr2 hs2 hc2 w3
  refine key.mono fun e W' ⟨he, hb⟩ => ?_
  subst he
  exact ⟨_, rfl, law_post (P := Tryz.prog) (tb := 4) Tryz.laidOut (by kernel_rfl) (by kernel_rfl) (by kernel_rfl) Tryz.underlying4 rfl hW' rfl rfl rfl hb⟩

theorem fzone_holds : Rows.FactZoneUptoSaid :=
  OpenClaim.holds_of_cond 3 Tryz.f3 rfl rfl rfl rfl rfl rfl rfl ⟨rfl, rfl, rfl, rfl, rfl⟩ rfl rfl rfl rfl rfl (by kernel_rfl) Tryz.func3 (by kernel_rfl)
    (of_decide_eq_true (by kernel_rfl)) (by unfold Func.isWrapper; first | (rw [if_pos (by decide +kernel)]; kernel_rfl) | (rw [if_neg (by decide +kernel)]; exact ⟨rfl, rfl⟩))
    (fun os started H enc _ F => fzone_lifted os started H enc F)

end Go.Proofs.YthppgofpbpjglaaGreat
