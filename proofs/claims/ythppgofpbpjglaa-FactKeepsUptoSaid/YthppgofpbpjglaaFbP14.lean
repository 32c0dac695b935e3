/-
  What the rows of layer 13 have in common (for the packs).
-/
import Derived.Test.YthppgofpbpjglaaFbP13
import Derived.Test.YthppgofpbpjglaaFbP8
import Derived.Test.YthppgofpbpjglaaFbP10
import Derived.Test.YthppgofpbpjglaaFbP9
namespace Go.Proofs.Ythppgofpbpjglaa
open Go.RowKit

theorem ptr_notT : ¬ teT 69 := by unfold teT; decide
def ReferRel (w0 w : World) (T : Te) (b : Nat) (an au ex : Sec) (xs : List FV) (m : Nat) (i : Value) (wr : World) : Prop :=
  ∃ (j : Nat) (v' : Value) (xs' : List FV), j ≤ m ∧ i = .int .i64 j ∧ TAt w0 T b an au ex v' xs' wr ∧ xs'.length ≤ xs.length + 2 * j ∧ KeptT w wr ∧ w.heap.size ≤ wr.heap.size

set_option maxRecDepth 20000 in
set_option maxHeartbeats 16000000 in
theorem referral_any (w0 w : World) (T : Te) (b : Nat) (an au ex : Sec) (v : Value) (xs : List FV) (h : TAt w0 T b an au ex v xs w) (ok : TeOk w0 T) (hs : SecOk w0 T au T.m.msg.au) (hx : SecOk w0 T ex T.m.msg.ex) (hl : xs.length ≤ 7000) :
    Calls Try.prog 44 #[.pointer (some ⟨b, 0, none⟩)] w (fun e w' => e = .returned (.tuple #[]) ∧ TellOut w0 T b an au ex xs 2001 w w') := by
  have hsm := hs.small ok (fun r hr => au_all hr)
  have HL := Lib.hid hl
  have HN1 := Lib.hid ((Below.refl w.heap.size w).alloc (Nat.le_refl _) (.cells #[.pointer (some ⟨b, 0, none⟩)] 69))
  have HTB := Lib.hid (Whole.made w [.pointer (some ⟨b, 0, none⟩)] 69)
  have HT := Lib.hid (fun W (hb : Below w.heap.size w W) => h.step hb)
  have HFIN := Lib.hid (show ∀ W, Below w.heap.size w W → TellOut w0 T b an au ex xs 2001 w W from fun W hb => ⟨v, xs, h.step hb, Nat.le_add_right _ _, KeptT.below hb, hb.size⟩)
  have HIX := Lib.hid (show Calls Try.prog 79 #[.slice au.A au.ps.length au.c, .func (.func 86) #[] #[.pointer (some ⟨w.heap.size, 0, none⟩)]] (w.alloc (.cells #[.pointer (some ⟨b, 0, none⟩)] 69)) (FoundR (w.alloc (.cells #[.pointer (some ⟨b, 0, none⟩)] 69)) au.ps anyR) from
    index_referral (w.alloc (.cells #[.pointer (some ⟨b, 0, none⟩)] 69)) w.heap.size au.A au.c au.ps (secRs hs (h.step HN1.out).au (h.step HN1.out).below) hs.n (fun W hb p hp => referral1_any w0 W T b w.heap.size an au ex v xs (h.step (HN1.out.trans (hb.mono HN1.out.size))) ok (HTB.out.below hb HTB.out.lt) p.1 p.2
      (((hs.r p hp).below ((h.step HN1.out).below.trans (hb.mono (h.step HN1.out).size))).mono (Nat.le_trans (h.step HN1.out).size hb.size)) (hsm p hp).1.n))
  have HSEC := Lib.hid (fun W (hb : Below w.heap.size w W) => secRs hs (h.step hb).au (h.step hb).below)
  have HSM := Lib.hid hsm
  have HRO := Lib.hid hs.r
  have HAL := Lib.hid hs.n
  have HSU := Lib.hid (fun (W : World) (v' : Value) (xs' : List FV) (ht : TAt w0 T b an au ex v' xs' W) (hl : xs'.length ≤ 10000) (A : Option Addr) (c : Nat) (n : List (List UInt8)) (hh : Held w0 W A c n) (hn : soundN n = true) =>
    set_anyT w0 W T b an au ex v' xs' ht ok hl au T.m.msg.au hs (fun r hr => au_all hr) ht.au A c n hh hn 2 2 (by decide) (by decide))
  have HSE := Lib.hid (fun (W : World) (v' : Value) (xs' : List FV) (ht : TAt w0 T b an au ex v' xs' W) (hl : xs'.length ≤ 10000) (A : Option Addr) (c : Nat) (n : List (List UInt8)) (hh : Held w0 W A c n) (hn : soundN n = true) (kind : Int) (hk : (Lit.int .i64 kind).wf = true) =>
    set_anyT w0 W T b an au ex v' xs' ht ok hl ex T.m.msg.ex hx (fun r hr => ex_all hr) ht.ex A c n hh hn kind 1 hk (by decide))
  have HHOST := Lib.hid (fun (q : DV × Dt) ⦃n : List (List UInt8)⦄ (hq : q.2 ∈ (setF (recs au.ps) n 2).1) => shN_host2 (.inr rfl) (setF_sound (fun p hp => (hsm p hp).1) hq))
  have HLS := Lib.hid (fun (n : List (List UInt8)) => (show (setF (recs au.ps) n 2).1.length ≤ 1000 from Nat.le_trans (setF_len _ _ _) (by rw [length_recs]; exact hs.n)))
  have HSZ := Lib.hid h.size
  have c12 : (w.alloc (.cells #[.pointer (some ⟨b, 0, none⟩)] 69)).cell? ⟨b, 12, none⟩ = some (.slice T.m.s0.A T.m.s0.ps.length T.m.s0.c) := (h.step HN1.out).blk.cell 12
  have c10 : (w.alloc (.cells #[.pointer (some ⟨b, 0, none⟩)] 69)).cell? ⟨b, 10, none⟩ = some (.int .i64 T.m.h.rc) := (h.step HN1.out).blk.cell 10
  have c20 : (w.alloc (.cells #[.pointer (some ⟨b, 0, none⟩)] 69)).cell? ⟨b, 20, none⟩ = some (.slice au.A au.ps.length au.c) := (h.step HN1.out).blk.cell 20
  clear h ok hs hx hsm hl
  by_cases k0 : 0 < T.m.s0.ps.length
  · have t0 : decide ((0 : Int) < (T.m.s0.ps.length : Int)) = true := decide_eq_true (by omega)
    go_enter Try.func44, Try.ntmps44
    go_wp2
    first | go_end0 | refine bodyPost_ret (results_none rfl _ _ _) rfl ?_
    exact ⟨rfl, HFIN.out _ HN1.out⟩
  have t0 : decide ((0 : Int) < (T.m.s0.ps.length : Int)) = false := decide_eq_false (by omega)
  by_cases k3 : T.m.h.rc = 3
  · have t3 : (T.m.h.rc == 3) = true := by rw [k3]; rfl
    clear k3
    go_enter Try.func44, Try.ntmps44
    go_wp2
    first | go_end0 | refine bodyPost_ret (results_none rfl _ _ _) rfl ?_
    exact ⟨rfl, HFIN.out _ HN1.out⟩
  have t3 : (T.m.h.rc == 3) = false := by rw [beq_eq_false_iff_ne]; exact k3
  clear k3
  go_enter Try.func44, Try.ntmps44
  go_wp2_with fail
  refine HIX.out.mono ?_
  rintro e w1 ⟨i, rfl, hi, hb1⟩
  have HB1 := Lib.hid (HN1.out.trans (hb1.mono HN1.out.size))
  have HTB1 := Lib.hid (HTB.out.below hb1 HTB.out.lt)
  have d0 : w1.cell? ⟨w.heap.size, 0, none⟩ = some (.pointer (some ⟨b, 0, none⟩)) := HTB1.out.cell 0
  have d20 : w1.cell? ⟨b, 20, none⟩ = some (.slice au.A au.ps.length au.c) := (HT.out _ HB1.out).blk.cell 20
  clear hb1 HIX c20 c12 c10 HN1 HTB t0 t3 k0
  rcases hi with rfl | ⟨k, hk, rfl, hany⟩
  · go_wp2
    first | go_end0 | refine bodyPost_ret (results_none rfl _ _ _) rfl ?_
    exact ⟨rfl, HFIN.out _ HB1.out⟩
  have t0 : decide ((k : Int) < 0) = false := decide_eq_false (by omega)
  clear hany
  obtain ⟨bp, off, hA, hbH, hra0, q0, hrest⟩ := (HSEC.out w1 HB1.out).at_ hk
  have HRA := Lib.hid (HRO.out _ (List.getElem_mem hk))
  have HSR := Lib.hid (HSM.out _ (List.getElem_mem hk))
  clear hra0 hrest
  revert q0 HRA HSR
  generalize au.ps[k] = p
  obtain ⟨x, r⟩ := p
  intro q0 HRA HSR
  dsimp only at *
  have s1 : (0 : Int) ≤ (k : Int) := by omega
  have s2 : (k : Int) < (au.ps.length : Int) := by omega
  have HTW := Lib.hid (HT.out w1 HB1.out)
  have HHE := Lib.hid (show ∀ W, Held w0 W x.A x.c r.name from fun W => .inl ⟨HRA.out.n, HRA.out.l⟩)
  have HSX5 := Lib.hid (fun W (hb : Below w1.heap.size w1 W) => HSU.out W v xs (HTW.out.step hb) (by have := HL.out; omega) x.A x.c r.name (HHE.out W) HSR.out.1.n)
  have HS5 := Lib.hid (show ∀ W (_ : Below w1.heap.size w1 W), (W.cell? ⟨w.heap.size, 0, none⟩ = some (.pointer (some ⟨b, 0, none⟩)) ∧ W.cell? ⟨b, 20, none⟩ = some (.slice au.A au.ps.length au.c)) from fun W hb => ⟨(HTB1.out.below hb HTB1.out.lt).cell 0, (HTW.out.step hb).blk.cell 20⟩)
  rw [hA] at d20
  go_wp2
  clear d0 d20 q0 t0 s1 s2 hA hbH hk
  refine wp_region_held_drew (S := fun W => (W.cell? ⟨w.heap.size, 0, none⟩ = some (.pointer (some ⟨b, 0, none⟩)) ∧ W.cell? ⟨b, 20, none⟩ = some (.slice au.A au.ps.length au.c))) (by kernel_rfl) (by exact HS5.out _ (Below.refl _ _).drew) (fun hHeld => ?_)
  refine wpAnyH_take (i := 0) (oi := ⟨some 37, _, _, _, _, _⟩) (v := ?_) rfl (by kernel_rfl) (by kernel_rfl) (by kernel_rfl) (fun _ _ _ h => h) (Or.inl ⟨by kernel_rfl, ?_⟩) (by assumption) ?_
  rotate_left
  · intro W hSw
    try dsimp only at hSw
    go_simp
    all_goals (with_reducible rfl)
  try simp only [Act.put, List.setIfInBounds_toArray, List.set_cons_zero, List.set_cons_succ]
  refine wpAnyH_take (i := 1) (oi := ⟨some 38, _, _, _, _, _⟩) (v := ?_) rfl (by kernel_rfl) (by kernel_rfl) (by kernel_rfl) (fun _ _ _ h => h) (Or.inl ⟨by kernel_rfl, ?_⟩) (by assumption) ?_
  rotate_left
  · intro W hSw
    try dsimp only at hSw
    go_simp
    all_goals (with_reducible rfl)
  try simp only [Act.put, List.setIfInBounds_toArray, List.set_cons_zero, List.set_cons_succ]
  refine wpAnyH_take (i := 2) (oi := ⟨some 39, _, _, _, _, _⟩) (v := ?_) rfl (by kernel_rfl) (by kernel_rfl) (by kernel_rfl) (fun _ _ _ h => h) (Or.inl ⟨by kernel_rfl, ?_⟩) (by assumption) ?_
  rotate_left
  · intro W hSw
    try dsimp only at hSw
    go_simp
    all_goals (with_reducible rfl)
  try simp only [Act.put, List.setIfInBounds_toArray, List.set_cons_zero, List.set_cons_succ]
  refine wpAnyH_take (i := 3) (oi := ⟨some 40, _, _, _, _, _⟩) (v := ?_) rfl (by kernel_rfl) (by kernel_rfl) (by kernel_rfl) (fun _ _ _ h => h) (Or.inl ⟨by kernel_rfl, ?_⟩) (by assumption) ?_
  rotate_left
  · intro W hSw
    try dsimp only at hSw
    go_simp
    all_goals (with_reducible rfl)
  try simp only [Act.put, List.setIfInBounds_toArray, List.set_cons_zero, List.set_cons_succ]
  refine wpAnyH_take (i := 4) (oi := ⟨some 41, _, _, _, _, _⟩) (v := ?_) rfl (by kernel_rfl) (by kernel_rfl) (by kernel_rfl) (fun _ _ _ h => h) (Or.inl ⟨by kernel_rfl, ?_⟩) (by assumption) ?_
  rotate_left
  · intro W hSw
    try dsimp only at hSw
    go_simp
    all_goals (with_reducible rfl)
  try simp only [Act.put, List.setIfInBounds_toArray, List.set_cons_zero, List.set_cons_succ]
  refine wpAnyH_take (i := 5) (oi := ⟨some 42, _, _, _, _, _⟩) (v := ?_) rfl (by kernel_rfl) (by kernel_rfl) (by kernel_rfl) (fun _ _ _ h => h) (Or.inl ⟨by kernel_rfl, ?_⟩) (by assumption) ?_
  rotate_left
  · intro W hSw
    try dsimp only at hSw
    go_simp
    all_goals (with_reducible rfl)
  try simp only [Act.put, List.setIfInBounds_toArray, List.set_cons_zero, List.set_cons_succ]
  refine wpAnyH_take (i := 8) (oi := ⟨some 45, _, _, _, _, _⟩) (v := ?_) rfl (by kernel_rfl) (by kernel_rfl) (by kernel_rfl) (fun _ _ _ h => h) (Or.inl ⟨by kernel_rfl, ?_⟩) (by assumption) ?_
  rotate_left
  · intro W hSw
    try dsimp only at hSw
    go_simp
    all_goals (with_reducible rfl)
  try simp only [Act.put, List.setIfInBounds_toArray, List.set_cons_zero, List.set_cons_succ]
  refine wpAnyH_ready (rs := [6]) (by kernel_rfl) (by simp) ?_
  refine AllReadyH.cons (o := { dst := some 43, op := Go.Op.call { callee := Go.Callee.value (Go.Operand.func 78), args := #[Go.Operand.tmp 37, Go.Operand.tmp 41, Go.Operand.tmp 42, Go.Operand.const (Go.Value.int Go.IntKind.i64 2), Go.Operand.const (Go.Value.int Go.IntKind.i64 2)], argTypes := #[69, 22, 23, 3, 3] }, type := 24, pos := "from.go:150", after := #[{ on := 0, ground := Go.Ground.data }, { on := 4, ground := Go.Ground.data }, { on := 5, ground := Go.Ground.data }], guard := none }) rfl (fun K hK => ?_) AllReadyH.nil
  go_simp
  refine (HSX5.out _ (Below.refl _ _).drew).mono ?_
  rintro e w5 ⟨sA, sc, qs, rfl, hq64, hg, v5, xs5, ht5, hl5, hk5, hz5⟩
  have HG := Lib.hid hg
  have HT5 := Lib.hid ht5
  have HL5 := Lib.hid hl5
  have HK5 := Lib.hid (show KeptT w1 w5 from (KeptT.below (Below.refl _ _).drew).trans hk5)
  have HZ5 := Lib.hid (show w1.heap.size ≤ w5.heap.size from hz5)
  have HTB5 := Lib.hid (HK5.out.whole HTB1.out ptr_notT)
  have HS5 := Lib.hid (show (w5.cell? ⟨w.heap.size, 0, none⟩ = some (.pointer (some ⟨b, 0, none⟩)) ∧ w5.cell? ⟨b, 20, none⟩ = some (.slice au.A au.ps.length au.c)) from ⟨HTB5.out.cell 0, HT5.out.blk.cell 20⟩)
  have hcap := own_cap hg.1
  have hcz := own_capZ hg.1
  clear hg ht5 hl5 hk5 hz5
  refine hK.out _ _ (by exact HS5.out) (fun hHeld2 => ?_)
  clear hK K hHeld
  have hHeld := hHeld2
  clear hHeld2
  try simp only [Act.put, List.setIfInBounds_toArray, List.set_cons_zero, List.set_cons_succ]
  refine wpAnyH_take (i := 7) (oi := ⟨some 44, _, _, _, _, _⟩) (v := ?_) rfl (by kernel_rfl) (by kernel_rfl) (by kernel_rfl) (fun _ _ _ h => h) (Or.inl ⟨by kernel_rfl, ?_⟩) (by assumption) ?_
  rotate_left
  · intro W hSw
    try dsimp only at hSw
    go_simp
    all_goals (with_reducible rfl)
  try simp only [Act.put, List.setIfInBounds_toArray, List.set_cons_zero, List.set_cons_succ]
  refine wpAnyH_done (by kernel_rfl) ?_ _
  clear HS5 HSX5 HSU
  unfold maxLen at hcz
  go_wp2
  go_loopw [45] (ReferRel w0 w5 T b an au ex xs5 qs.length) (fun i _ => qs.length - (intOf i).toNat)
  case atStart => exact ⟨0, v5, xs5, Nat.zero_le _, rfl, HT5.out, Nat.le_refl _, KeptT.refl _, Nat.le_refl _⟩
  case round =>
    obtain ⟨j, v', xs', hj, rfl, ht, hlx, hk, hz⟩ := hrel
    have HTR := Lib.hid ht
    have HLX := Lib.hid hlx
    have HK := Lib.hid hk
    have HZ := Lib.hid hz
    clear ht hlx hk hz
    by_cases hlt : j < qs.length
    · have HGR := Lib.hid (HG.out.kept HK.out)
      have HDS := Lib.hid (show DsAt wr wr.heap.size sA qs from ⟨Row.of_own HGR.out.1, fun q hq => (HGR.out.2.1 q hq).at_⟩)
      obtain ⟨bq, of2, hsA, hbH2, hra, q0, q1, q2, q3, q4⟩ := HDS.out.at_ hlt
      subst hsA
      have HOW := Lib.hid (HGR.out.2.1 _ (List.getElem_mem hlt))
      have HSH := Lib.hid (HHOST.out _ (HGR.out.2.2 _ (List.getElem_mem hlt)))
      revert hra q0 q1 q2 q3 q4 HOW HSH
      generalize qs[j] = p
      obtain ⟨y, d⟩ := p
      intro hra q0 q1 q2 q3 q4 HOW HSH
      dsimp only at *
      clear hra hbH2 HDS HGR
      have HNEW := Lib.hid ((Below.refl wr.heap.size wr).alloc (Nat.le_refl _) (.cells #[.slice y.Ab d.bytes.length y.cb, .slice y.Ah d.host.length y.ch, .slice y.Am d.mail.length y.cm, .slice y.An d.nums.length y.cn, .slice y.At d.texts.length y.ct] 34))
      have HWB := Lib.hid (Whole.made wr (cellsD (y, d)) 34)
      have HHD := Lib.hid (show Held w0 wr y.Ah y.ch d.host from .inr HOW.out.h)
      have HTBR := Lib.hid (HK.out.whole HTB5.out ptr_notT)
      have HUN := Lib.hid (under_any y.Ah x.A d.host.length r.name.length y.ch x.c (wr.alloc (.cells #[.slice y.Ab d.bytes.length y.cb, .slice y.Ah d.host.length y.ch, .slice y.Am d.mail.length y.cm, .slice y.An d.nums.length y.cn, .slice y.At d.texts.length y.ct] 34)).heap.size d.host r.name (wr.alloc (.cells #[.slice y.Ab d.bytes.length y.cb, .slice y.Ah d.host.length y.ch, .slice y.Am d.mail.length y.cm, .slice y.An d.nums.length y.cn, .slice y.At d.texts.length y.ct] 34)) rfl rfl ((HHD.out.step HNEW.out).row (HTR.out.step HNEW.out).below) (((HHE.out (wr.alloc (.cells #[.slice y.Ab d.bytes.length y.cb, .slice y.Ah d.host.length y.ch, .slice y.Am d.mail.length y.cm, .slice y.An d.nums.length y.cn, .slice y.At d.texts.length y.ct] 34)))).row (HTR.out.step HNEW.out).below) (Nat.le_refl _) (soundN_sz HSH.out) (soundN_sz HSR.out.1.n) HHD.out.cap)
      go_wp2_with fail
      refine HUN.out.mono ?_
      rintro e w7 ⟨rfl, hb7⟩
      have HB7 := Lib.hid (HNEW.out.trans (hb7.mono HNEW.out.size))
      have HWB7 := Lib.hid (HWB.out.below hb7 HWB.out.lt)
      have HT7 := Lib.hid (HTR.out.step HB7.out)
      clear hb7 HUN
      cases e1 : underN d.host r.name with
      | false =>
        go_wp2
        exact ⟨⟨j + 1, v', xs', by omega, by go_num, HT7.out, by have := HLX.out; omega, HK.out.trans (KeptT.below HB7.out), Nat.le_trans HZ.out HB7.out.size⟩, by simp [intOf]; omega⟩
      | true =>
        have HTB7 := Lib.hid (HTBR.out.below HB7.out HTBR.out.lt)
        have HSX9 := Lib.hid (fun W (hb : Below w7.heap.size w7 W) => HSE.out W v' xs' (HT7.out.step hb) (by have h1 := HLX.out; have h2 := HL5.out; have h3 := HL.out; omega) y.Ah y.ch d.host ((HHD.out.step HB7.out).step hb) HSH.out 1 (by decide))
        have HS9 := Lib.hid (show ∀ (W : World), KeptT w7 W → (∃ v2 xs2, TAt w0 T b an au ex v2 xs2 W) → (W.cell? ⟨w.heap.size, 0, none⟩ = some (.pointer (some ⟨b, 0, none⟩)) ∧ W.cell? ⟨b, 21, none⟩ = some (.slice ex.A ex.ps.length ex.c) ∧ W.cell? ⟨wr.heap.size, 1, none⟩ = some (.slice y.Ah d.host.length y.ch)) from fun W hk ⟨_, _, ht⟩ => ⟨(hk.whole HTB7.out ptr_notT).cell 0, ht.blk.cell 21, (hk.whole HWB7.out dat_notT).cell 1⟩)
        go_wp2
        refine wp_region_held_drew (S := fun W => (W.cell? ⟨w.heap.size, 0, none⟩ = some (.pointer (some ⟨b, 0, none⟩)) ∧ W.cell? ⟨b, 21, none⟩ = some (.slice ex.A ex.ps.length ex.c) ∧ W.cell? ⟨wr.heap.size, 1, none⟩ = some (.slice y.Ah d.host.length y.ch))) (by kernel_rfl) (by exact HS9.out _ (KeptT.below (Below.refl _ _).drew) ⟨_, _, HT7.out.step (Below.refl _ _).drew⟩) (fun hHeld => ?_)
        refine wpAnyH_take (i := 0) (oi := ⟨some 53, _, _, _, _, _⟩) (v := ?_) rfl (by kernel_rfl) (by kernel_rfl) (by kernel_rfl) (fun _ _ _ h => h) (Or.inl ⟨by kernel_rfl, ?_⟩) (by assumption) ?_
        rotate_left
        · intro W hSw
          try dsimp only at hSw
          go_simp
          all_goals (with_reducible rfl)
        try simp only [Act.put, List.setIfInBounds_toArray, List.set_cons_zero, List.set_cons_succ]
        refine wpAnyH_take (i := 1) (oi := ⟨some 54, _, _, _, _, _⟩) (v := ?_) rfl (by kernel_rfl) (by kernel_rfl) (by kernel_rfl) (fun _ _ _ h => h) (Or.inl ⟨by kernel_rfl, ?_⟩) (by assumption) ?_
        rotate_left
        · intro W hSw
          try dsimp only at hSw
          go_simp
          all_goals (with_reducible rfl)
        try simp only [Act.put, List.setIfInBounds_toArray, List.set_cons_zero, List.set_cons_succ]
        refine wpAnyH_take (i := 2) (oi := ⟨some 55, _, _, _, _, _⟩) (v := ?_) rfl (by kernel_rfl) (by kernel_rfl) (by kernel_rfl) (fun _ _ _ h => h) (Or.inl ⟨by kernel_rfl, ?_⟩) (by assumption) ?_
        rotate_left
        · intro W hSw
          try dsimp only at hSw
          go_simp
          all_goals (with_reducible rfl)
        try simp only [Act.put, List.setIfInBounds_toArray, List.set_cons_zero, List.set_cons_succ]
        refine wpAnyH_take (i := 3) (oi := ⟨some 56, _, _, _, _, _⟩) (v := ?_) rfl (by kernel_rfl) (by kernel_rfl) (by kernel_rfl) (fun _ _ _ h => h) (Or.inl ⟨by kernel_rfl, ?_⟩) (by assumption) ?_
        rotate_left
        · intro W hSw
          try dsimp only at hSw
          go_simp
          all_goals (with_reducible rfl)
        try simp only [Act.put, List.setIfInBounds_toArray, List.set_cons_zero, List.set_cons_succ]
        refine wpAnyH_take (i := 4) (oi := ⟨some 57, _, _, _, _, _⟩) (v := ?_) rfl (by kernel_rfl) (by kernel_rfl) (by kernel_rfl) (fun _ _ _ h => h) (Or.inl ⟨by kernel_rfl, ?_⟩) (by assumption) ?_
        rotate_left
        · intro W hSw
          try dsimp only at hSw
          go_simp
          all_goals (with_reducible rfl)
        try simp only [Act.put, List.setIfInBounds_toArray, List.set_cons_zero, List.set_cons_succ]
        refine wpAnyH_take (i := 5) (oi := ⟨some 58, _, _, _, _, _⟩) (v := ?_) rfl (by kernel_rfl) (by kernel_rfl) (by kernel_rfl) (fun _ _ _ h => h) (Or.inl ⟨by kernel_rfl, ?_⟩) (by assumption) ?_
        rotate_left
        · intro W hSw
          try dsimp only at hSw
          go_simp
          all_goals (with_reducible rfl)
        try simp only [Act.put, List.setIfInBounds_toArray, List.set_cons_zero, List.set_cons_succ]
        refine wpAnyH_take (i := 6) (oi := ⟨some 59, _, _, _, _, _⟩) (v := ?_) rfl (by kernel_rfl) (by kernel_rfl) (by kernel_rfl) (fun _ _ _ h => h) (Or.inl ⟨by kernel_rfl, ?_⟩) (by assumption) ?_
        rotate_left
        · intro W hSw
          try dsimp only at hSw
          go_simp
          all_goals (with_reducible rfl)
        try simp only [Act.put, List.setIfInBounds_toArray, List.set_cons_zero, List.set_cons_succ]
        refine wpAnyH_ready (rs := [7]) (by kernel_rfl) (by simp) ?_
        refine AllReadyH.cons (o := { dst := some 60, op := Go.Op.call { callee := Go.Callee.value (Go.Operand.func 78), args := #[Go.Operand.tmp 53, Go.Operand.tmp 57, Go.Operand.tmp 59, Go.Operand.const (Go.Value.int Go.IntKind.i64 1), Go.Operand.const (Go.Value.int Go.IntKind.i64 1)], argTypes := #[69, 22, 23, 3, 3] }, type := 24, pos := "from.go:152", after := #[{ on := 0, ground := Go.Ground.data }, { on := 4, ground := Go.Ground.data }, { on := 6, ground := Go.Ground.data }], guard := none }) rfl (fun K hK => ?_) AllReadyH.nil
        go_simp
        refine (HSX9.out _ (Below.refl _ _).drew).mono ?_
        rintro e w9 ⟨A9, c9, qs9, rfl, _, _, v9, xs9, ht9, hl9, hk9, hz9⟩
        have HT9 := Lib.hid ht9
        have HL9 := Lib.hid hl9
        have HK9 := Lib.hid (show KeptT w7 w9 from (KeptT.below (Below.refl _ _).drew).trans hk9)
        have HZ9 := Lib.hid (show w7.heap.size ≤ w9.heap.size from hz9)
        clear ht9 hl9 hk9 hz9
        refine hK.out _ _ (by exact HS9.out _ HK9.out ⟨_, _, HT9.out⟩) (fun hHeld2 => ?_)
        clear hK K hHeld
        have hHeld := hHeld2
        clear hHeld2
        try simp only [Act.put, List.setIfInBounds_toArray, List.set_cons_zero, List.set_cons_succ]
        refine wpAnyH_done (by kernel_rfl) ?_ _
        have HSX10 := Lib.hid (fun W (hb : Below w9.heap.size w9 W) => HSE.out W v9 xs9 (HT9.out.step hb) (by have h0 := HL9.out; have h1 := HLX.out; have h2 := HL5.out; have h3 := HL.out; omega) y.Ah y.ch d.host (((HHD.out.step HB7.out).kept HK9.out).step hb) HSH.out 28 (by decide))
        go_wp2
        refine wp_region_held_drew (S := fun W => (W.cell? ⟨w.heap.size, 0, none⟩ = some (.pointer (some ⟨b, 0, none⟩)) ∧ W.cell? ⟨b, 21, none⟩ = some (.slice ex.A ex.ps.length ex.c) ∧ W.cell? ⟨wr.heap.size, 1, none⟩ = some (.slice y.Ah d.host.length y.ch))) (by kernel_rfl) (by exact HS9.out _ (HK9.out.trans (KeptT.below (Below.refl _ _).drew)) ⟨_, _, HT9.out.step (Below.refl _ _).drew⟩) (fun hHeld => ?_)
        refine wpAnyH_take (i := 0) (oi := ⟨some 61, _, _, _, _, _⟩) (v := ?_) rfl (by kernel_rfl) (by kernel_rfl) (by kernel_rfl) (fun _ _ _ h => h) (Or.inl ⟨by kernel_rfl, ?_⟩) (by assumption) ?_
        rotate_left
        · intro W hSw
          try dsimp only at hSw
          go_simp
          all_goals (with_reducible rfl)
        try simp only [Act.put, List.setIfInBounds_toArray, List.set_cons_zero, List.set_cons_succ]
        refine wpAnyH_take (i := 1) (oi := ⟨some 62, _, _, _, _, _⟩) (v := ?_) rfl (by kernel_rfl) (by kernel_rfl) (by kernel_rfl) (fun _ _ _ h => h) (Or.inl ⟨by kernel_rfl, ?_⟩) (by assumption) ?_
        rotate_left
        · intro W hSw
          try dsimp only at hSw
          go_simp
          all_goals (with_reducible rfl)
        try simp only [Act.put, List.setIfInBounds_toArray, List.set_cons_zero, List.set_cons_succ]
        refine wpAnyH_take (i := 2) (oi := ⟨some 63, _, _, _, _, _⟩) (v := ?_) rfl (by kernel_rfl) (by kernel_rfl) (by kernel_rfl) (fun _ _ _ h => h) (Or.inl ⟨by kernel_rfl, ?_⟩) (by assumption) ?_
        rotate_left
        · intro W hSw
          try dsimp only at hSw
          go_simp
          all_goals (with_reducible rfl)
        try simp only [Act.put, List.setIfInBounds_toArray, List.set_cons_zero, List.set_cons_succ]
        refine wpAnyH_take (i := 3) (oi := ⟨some 64, _, _, _, _, _⟩) (v := ?_) rfl (by kernel_rfl) (by kernel_rfl) (by kernel_rfl) (fun _ _ _ h => h) (Or.inl ⟨by kernel_rfl, ?_⟩) (by assumption) ?_
        rotate_left
        · intro W hSw
          try dsimp only at hSw
          go_simp
          all_goals (with_reducible rfl)
        try simp only [Act.put, List.setIfInBounds_toArray, List.set_cons_zero, List.set_cons_succ]
        refine wpAnyH_take (i := 4) (oi := ⟨some 65, _, _, _, _, _⟩) (v := ?_) rfl (by kernel_rfl) (by kernel_rfl) (by kernel_rfl) (fun _ _ _ h => h) (Or.inl ⟨by kernel_rfl, ?_⟩) (by assumption) ?_
        rotate_left
        · intro W hSw
          try dsimp only at hSw
          go_simp
          all_goals (with_reducible rfl)
        try simp only [Act.put, List.setIfInBounds_toArray, List.set_cons_zero, List.set_cons_succ]
        refine wpAnyH_take (i := 5) (oi := ⟨some 66, _, _, _, _, _⟩) (v := ?_) rfl (by kernel_rfl) (by kernel_rfl) (by kernel_rfl) (fun _ _ _ h => h) (Or.inl ⟨by kernel_rfl, ?_⟩) (by assumption) ?_
        rotate_left
        · intro W hSw
          try dsimp only at hSw
          go_simp
          all_goals (with_reducible rfl)
        try simp only [Act.put, List.setIfInBounds_toArray, List.set_cons_zero, List.set_cons_succ]
        refine wpAnyH_take (i := 6) (oi := ⟨some 67, _, _, _, _, _⟩) (v := ?_) rfl (by kernel_rfl) (by kernel_rfl) (by kernel_rfl) (fun _ _ _ h => h) (Or.inl ⟨by kernel_rfl, ?_⟩) (by assumption) ?_
        rotate_left
        · intro W hSw
          try dsimp only at hSw
          go_simp
          all_goals (with_reducible rfl)
        try simp only [Act.put, List.setIfInBounds_toArray, List.set_cons_zero, List.set_cons_succ]
        refine wpAnyH_ready (rs := [7]) (by kernel_rfl) (by simp) ?_
        refine AllReadyH.cons (o := { dst := some 68, op := Go.Op.call { callee := Go.Callee.value (Go.Operand.func 78), args := #[Go.Operand.tmp 61, Go.Operand.tmp 65, Go.Operand.tmp 67, Go.Operand.const (Go.Value.int Go.IntKind.i64 28), Go.Operand.const (Go.Value.int Go.IntKind.i64 1)], argTypes := #[69, 22, 23, 3, 3] }, type := 24, pos := "from.go:153", after := #[{ on := 0, ground := Go.Ground.data }, { on := 4, ground := Go.Ground.data }, { on := 6, ground := Go.Ground.data }], guard := none }) rfl (fun K hK => ?_) AllReadyH.nil
        go_simp
        refine (HSX10.out _ (Below.refl _ _).drew).mono ?_
        rintro e w10 ⟨A10, c10, qs10, rfl, _, _, v10, xs10, ht10, hl10, hk10, hz10⟩
        have HT10 := Lib.hid ht10
        have HL10 := Lib.hid hl10
        have HK10 := Lib.hid (show KeptT w9 w10 from (KeptT.below (Below.refl _ _).drew).trans hk10)
        have HZ10 := Lib.hid (show w9.heap.size ≤ w10.heap.size from hz10)
        clear ht10 hl10 hk10 hz10
        refine hK.out _ _ (by exact HS9.out _ (HK9.out.trans HK10.out) ⟨_, _, HT10.out⟩) (fun hHeld2 => ?_)
        clear hK K hHeld
        have hHeld := hHeld2
        clear hHeld2
        try simp only [Act.put, List.setIfInBounds_toArray, List.set_cons_zero, List.set_cons_succ]
        refine wpAnyH_done (by kernel_rfl) ?_ _
        go_wp2
        exact ⟨⟨j + 1, v10, xs10, by omega, by go_num, HT10.out, by have h0 := HL9.out; have h1 := HLX.out; have h2 := HL10.out; omega, ((HK.out.trans (KeptT.below HB7.out)).trans HK9.out).trans HK10.out, Nat.le_trans (Nat.le_trans (Nat.le_trans HZ.out HB7.out.size) HZ9.out) HZ10.out⟩, by simp [intOf]; omega⟩
    · obtain rfl : j = qs.length := by omega
      go_wp2
      first | go_end0 | refine bodyPost_ret (results_none rfl _ _ _) rfl ?_
      exact ⟨rfl, v', xs', HTR.out, by have h1 := HLX.out; have h2 := HL5.out; omega, ((KeptT.below HB1.out).trans HK5.out).trans HK.out, Nat.le_trans (Nat.le_trans HB1.out.size HZ5.out) HZ.out⟩

end Go.Proofs.Ythppgofpbpjglaa

namespace Go.Proofs.Ythppgofpbpjglaa
open Go.RowKit

/-- What a message is of which facts may come. -/
structure AnsOk (q : Qt) (m : Mt) : Prop where
  s : soundM m = true
  r : m.h.resp = true
  o : m.h.op = 0
  c : m.h.rc = 0 ∨ m.h.rc = 3
  q : okQ q m.qs = true
/-- The boxes of answers. -/
structure AnB (w : World) (y : QV) (q : Qt) (m : MV) (W : World) : Prop where
  m : Whole W w.heap.size 43 m.cells
  q : Whole W (w.heap.size + 1) 41 (cellsQ (y, q))
  below : Below w.heap.size w W
  size : w.heap.size + 2 ≤ W.heap.size
theorem AnB.step {w W V : World} {y : QV} {q : Qt} {m : MV} (h : AnB w y q m W) (hb : Below W.heap.size W V) : AnB w y q m V :=
  ⟨h.m.below hb h.m.lt, h.q.below hb h.q.lt, h.below.trans (hb.mono (by have := h.size; omega)), Nat.le_trans h.size hb.size⟩

set_option maxRecDepth 20000 in
set_option maxHeartbeats 8000000 in
theorem answersF_any (w : World) (y : QV) (q : Qt) (m : MV) (hq : QAt w w.heap.size y q) (hqi : QIn q) (hm : MAt w w.heap.size m) (hi : MIn m) :
    Calls Try.prog 39 #[m.val, valQ y q] w (YesIf w (AnsOk q m.msg)) := by
  have HMS := Lib.hid (fun W (hb : Below w.heap.size w W) => msound_any W m ((hm.below hb).mono hb.size) hi)
  have HQS := Lib.hid (fun W (hb : Below w.heap.size w W) => (hm.q.below hb))
  have HQI := Lib.hid hi.q
  have HYQ := Lib.hid (fun W (hb : Below w.heap.size w W) => Row.below hq hb)
  have HQW := Lib.hid hqi.n
  have HOK := Lib.hid (fun (a : soundM m.msg = true) (b : m.h.resp = true) (c : m.h.op = 0) (d : m.h.rc = 0 ∨ m.h.rc = 3) (e : okQ q m.msg.qs = true) => (show AnsOk q m.msg from ⟨a, b, c, d, e⟩))
  have HB := Lib.hid (show AnB w y q m ((w.alloc (.cells m.cells.toArray 43)).alloc (.cells #[.slice y.1 q.name.length y.2, .int .i64 q.kind, .int .i64 q.cls] 41)) from by
    have e1 : (w.alloc (.cells m.cells.toArray 43)).heap.size = w.heap.size + 1 := by simp
    refine ⟨(Whole.made w m.cells _).alloc _, ?_, ((Below.refl _ _).alloc (Nat.le_refl _) _).alloc (by rw [e1]; omega) _, by simp⟩
    have h1 := Whole.made (w.alloc (.cells m.cells.toArray 43)) (cellsQ (y, q)) 41
    rw [e1] at h1
    exact h1)
  clear hq hqi hm hi
  generalize hsm : soundM m.msg = sm at HOK HMS
  generalize hqs : m.msg.qs = mqs at HOK
  generalize hans : AnsOk q m.msg = P at HOK ⊢
  have HQL := Lib.hid (show mqs = qsts m.qp from hqs.symm)
  clear hsm hqs hans
  obtain ⟨h, qA, qc, qp, ⟨A0, k0, p0⟩, ⟨A1, k1, p1⟩, ⟨A2, k2, p2⟩⟩ := m
  dsimp only at *
  go_enter Try.func39, Try.ntmps39
  go_wp2_with fail
  refine (HMS.out _ HB.out.below).mono ?_
  rintro e w1 ⟨rfl, hb1⟩
  have HB1 := Lib.hid (HB.out.step hb1)
  have c1 : w1.cell? ⟨w.heap.size, 1, none⟩ = some (.bool h.resp) := HB1.out.m.cell 1
  have c2 : w1.cell? ⟨w.heap.size, 2, none⟩ = some (.int .i64 h.op) := HB1.out.m.cell 2
  have c7 : w1.cell? ⟨w.heap.size, 7, none⟩ = some (.int .i64 h.rc) := HB1.out.m.cell 7
  have c8 : w1.cell? ⟨w.heap.size, 8, none⟩ = some (.slice qA qp.length qc) := HB1.out.m.cell 8
  clear hb1 HMS HB
  cases sm with
  | false =>
    go_wp2
    go_ret
    exact ⟨false, rfl, fun h => absurd h (by decide), HB1.out.below⟩
  | true =>
  cases hr : h.resp with
  | false =>
    rw [hr] at c1
    go_wp2
    go_ret
    exact ⟨false, rfl, fun h => absurd h (by decide), HB1.out.below⟩
  | true =>
  rw [hr] at c1
  have HR := Lib.hid hr
  clear hr
  by_cases ho : h.op = 0
  case neg =>
    have t : (h.op != 0) = true := by rw [bne_iff_ne]; exact ho
    clear ho
    go_wp2
    go_ret
    exact ⟨false, rfl, fun h => absurd h (by decide), HB1.out.below⟩
  have t0 : (h.op != 0) = false := by rw [ho]; rfl
  have HO := Lib.hid ho
  clear ho
  by_cases hl : qp.length = 1
  case neg =>
    have t : ((qp.length : Int) != 1) = true := by rw [bne_iff_ne]; omega
    clear hl
    go_wp2
    go_ret
    exact ⟨false, rfl, fun h => absurd h (by decide), HB1.out.below⟩
  have t1 : ((qp.length : Int) != 1) = false := by rw [hl]; rfl
  obtain ⟨bp, off, rfl, hbH, hra, q0, q1, q2⟩ := (HQS.out w1 HB1.out.below).at_ (show 0 < qp.length by omega)
  rw [Nat.zero_mul, Nat.add_zero] at q0 q1 q2
  have HXI := Lib.hid (HQI.out _ (List.getElem_mem (show 0 < qp.length by omega)))
  have HMQ := Lib.hid (show mqs = [(qp[0]'(by omega)).2] from by
    rw [HQL.out]
    obtain ⟨a, rfl⟩ := List.length_eq_one_iff.1 hl
    rfl)
  have hlt : (0 : Int) < (qp.length : Int) := by omega
  revert hra q0 q1 q2 HXI HMQ
  generalize qp[0]'(by omega) = p
  obtain ⟨yx, x⟩ := p
  intro hra q0 q1 q2 HXI HMQ
  dsimp only at *
  have HXR := Lib.hid hra
  have HOK2 := Lib.hid (fun (d : h.rc = 0 ∨ h.rc = 3) (e : okQ q [x] = true) => HOK.out rfl HR.out HO.out d (by rw [HMQ.out]; exact e))
  have HQK := Lib.hid (show okQ q [x] = (eqN x.name q.name && (decide (x.kind = q.kind) && decide (x.cls = q.cls))) from rfl)
  clear hra hbH HQL HMQ HOK HQS HQI hl
  have HN2 := Lib.hid ((Below.refl w1.heap.size w1).alloc (Nat.le_refl _) (.cells #[.slice yx.1 x.name.length yx.2, .int .i64 x.kind, .int .i64 x.cls] 41))
  have HWX := Lib.hid (Whole.made w1 (cellsQ (yx, x)) 41)
  have HB2 := Lib.hid (HB1.out.step HN2.out)
  have HEQ := Lib.hid (equal_wide yx.1 y.1 x.name.length q.name.length yx.2 y.2 (w1.alloc (.cells #[.slice yx.1 x.name.length yx.2, .int .i64 x.kind, .int .i64 x.cls] 41)).heap.size x.name q.name (w1.alloc (.cells #[.slice yx.1 x.name.length yx.2, .int .i64 x.kind, .int .i64 x.cls] 41)) rfl rfl ((Row.below HXR.out (HN2.out.mono HB1.out.below.size)).mono (Nat.le_trans HB1.out.below.size HN2.out.size)) ((HYQ.out (w1.alloc (.cells #[.slice yx.1 x.name.length yx.2, .int .i64 x.kind, .int .i64 x.cls] 41)) HB2.out.below).mono HB2.out.below.size) (Nat.le_refl _) HXI.out.n HQW.out)
  have a7 : (w1.alloc (.cells #[.slice yx.1 x.name.length yx.2, .int .i64 x.kind, .int .i64 x.cls] 41)).cell? ⟨w.heap.size, 7, none⟩ = some (.int .i64 h.rc) := HB2.out.m.cell 7
  have b0 : (w1.alloc (.cells #[.slice yx.1 x.name.length yx.2, .int .i64 x.kind, .int .i64 x.cls] 41)).cell? ⟨w.heap.size + 1, 0, none⟩ = some (.slice y.1 q.name.length y.2) := HB2.out.q.cell 0
  have b1 : (w1.alloc (.cells #[.slice yx.1 x.name.length yx.2, .int .i64 x.kind, .int .i64 x.cls] 41)).cell? ⟨w.heap.size + 1, 1, none⟩ = some (.int .i64 q.kind) := HB2.out.q.cell 1
  have b2 : (w1.alloc (.cells #[.slice yx.1 x.name.length yx.2, .int .i64 x.kind, .int .i64 x.cls] 41)).cell? ⟨w.heap.size + 1, 2, none⟩ = some (.int .i64 q.cls) := HB2.out.q.cell 2
  have HRC := Lib.hid (show (h.rc = 0 ∨ h.rc = 3) ∨ ¬ (h.rc = 0 ∨ h.rc = 3) from Classical.em _)
  rcases HRC.out with hrc | hrc
  case inr =>
    have r0 : (h.rc == 0) = false := by rw [beq_eq_false_iff_ne]; omega
    have r3 : (h.rc == 3) = false := by rw [beq_eq_false_iff_ne]; omega
    clear hrc HRC
    go_wp2
    go_ret
    exact ⟨false, rfl, fun h => absurd h (by decide), HB2.out.below⟩
  have HRK := Lib.hid hrc
  have key : ∀ (z0 z3 : Bool), (h.rc == 0) = z0 → (h.rc == 3) = z3 → (z0 || z3) = true → True := fun _ _ _ _ _ => trivial
  clear key HRC
  cases e1 : eqN x.name q.name with
  | false =>
    rw [e1] at HEQ
    rcases hrc with hrc | hrc
    · have r0 : (h.rc == 0) = true := by rw [hrc]; rfl
      clear hrc
      go_wp2_with fail
      refine HEQ.out.mono ?_
      rintro e w4 ⟨rfl, hb4⟩
      go_wp2
      go_ret
      exact ⟨false, rfl, fun h => absurd h (by decide), (HB2.out.step hb4).below⟩
    · have r0 : (h.rc == 0) = false := by rw [hrc]; rfl
      have r3 : (h.rc == 3) = true := by rw [hrc]; rfl
      clear hrc
      go_wp2_with fail
      refine HEQ.out.mono ?_
      rintro e w4 ⟨rfl, hb4⟩
      go_wp2
      go_ret
      exact ⟨false, rfl, fun h => absurd h (by decide), (HB2.out.step hb4).below⟩
  | true =>
  rw [e1] at HEQ HQK
  by_cases k1 : x.kind = q.kind
  case neg =>
    have u1 : (x.kind == q.kind) = false := by rw [beq_eq_false_iff_ne]; exact k1
    clear k1
    rcases hrc with hrc | hrc
    · have r0 : (h.rc == 0) = true := by rw [hrc]; rfl
      clear hrc
      go_wp2_with fail
      refine HEQ.out.mono ?_
      rintro e w4 ⟨rfl, hb4⟩
      have HB4 := Lib.hid (HB2.out.step hb4)
      have HW4 := Lib.hid (HWX.out.below hb4 HWX.out.lt)
      have f1 : w4.cell? ⟨w1.heap.size, 1, none⟩ = some (.int .i64 x.kind) := HW4.out.cell 1
      have f2 : w4.cell? ⟨w1.heap.size, 2, none⟩ = some (.int .i64 x.cls) := HW4.out.cell 2
      have g1 : w4.cell? ⟨w.heap.size + 1, 1, none⟩ = some (.int .i64 q.kind) := HB4.out.q.cell 1
      have g2 : w4.cell? ⟨w.heap.size + 1, 2, none⟩ = some (.int .i64 q.cls) := HB4.out.q.cell 2
      clear hb4
      go_wp2
      go_ret
      exact ⟨false, rfl, fun h => absurd h (by decide), HB4.out.below⟩
    · have r0 : (h.rc == 0) = false := by rw [hrc]; rfl
      have r3 : (h.rc == 3) = true := by rw [hrc]; rfl
      clear hrc
      go_wp2_with fail
      refine HEQ.out.mono ?_
      rintro e w4 ⟨rfl, hb4⟩
      have HB4 := Lib.hid (HB2.out.step hb4)
      have HW4 := Lib.hid (HWX.out.below hb4 HWX.out.lt)
      have f1 : w4.cell? ⟨w1.heap.size, 1, none⟩ = some (.int .i64 x.kind) := HW4.out.cell 1
      have f2 : w4.cell? ⟨w1.heap.size, 2, none⟩ = some (.int .i64 x.cls) := HW4.out.cell 2
      have g1 : w4.cell? ⟨w.heap.size + 1, 1, none⟩ = some (.int .i64 q.kind) := HB4.out.q.cell 1
      have g2 : w4.cell? ⟨w.heap.size + 1, 2, none⟩ = some (.int .i64 q.cls) := HB4.out.q.cell 2
      clear hb4
      go_wp2
      go_ret
      exact ⟨false, rfl, fun h => absurd h (by decide), HB4.out.below⟩
  have u1 : (x.kind == q.kind) = true := by rw [k1]; simp
  rw [decide_eq_true k1] at HQK
  clear k1
  rcases hrc with hrc | hrc
  · have r0 : (h.rc == 0) = true := by rw [hrc]; rfl
    clear hrc
    go_wp2_with fail
    refine HEQ.out.mono ?_
    rintro e w4 ⟨rfl, hb4⟩
    have HB4 := Lib.hid (HB2.out.step hb4)
    have HW4 := Lib.hid (HWX.out.below hb4 HWX.out.lt)
    have f1 : w4.cell? ⟨w1.heap.size, 1, none⟩ = some (.int .i64 x.kind) := HW4.out.cell 1
    have f2 : w4.cell? ⟨w1.heap.size, 2, none⟩ = some (.int .i64 x.cls) := HW4.out.cell 2
    have g1 : w4.cell? ⟨w.heap.size + 1, 1, none⟩ = some (.int .i64 q.kind) := HB4.out.q.cell 1
    have g2 : w4.cell? ⟨w.heap.size + 1, 2, none⟩ = some (.int .i64 q.cls) := HB4.out.q.cell 2
    clear hb4
    go_wp2
    go_ret
    refine ⟨_, rfl, fun e => HOK2.out HRK.out (by rw [HQK.out]; simpa using e), HB4.out.below⟩
  · have r0 : (h.rc == 0) = false := by rw [hrc]; rfl
    have r3 : (h.rc == 3) = true := by rw [hrc]; rfl
    clear hrc
    go_wp2_with fail
    refine HEQ.out.mono ?_
    rintro e w4 ⟨rfl, hb4⟩
    have HB4 := Lib.hid (HB2.out.step hb4)
    have HW4 := Lib.hid (HWX.out.below hb4 HWX.out.lt)
    have f1 : w4.cell? ⟨w1.heap.size, 1, none⟩ = some (.int .i64 x.kind) := HW4.out.cell 1
    have f2 : w4.cell? ⟨w1.heap.size, 2, none⟩ = some (.int .i64 x.cls) := HW4.out.cell 2
    have g1 : w4.cell? ⟨w.heap.size + 1, 1, none⟩ = some (.int .i64 q.kind) := HB4.out.q.cell 1
    have g2 : w4.cell? ⟨w.heap.size + 1, 2, none⟩ = some (.int .i64 q.cls) := HB4.out.q.cell 2
    clear hb4
    go_wp2
    go_ret
    refine ⟨_, rfl, fun e => HOK2.out HRK.out (by rw [HQK.out]; simpa using e), HB4.out.below⟩

end Go.Proofs.Ythppgofpbpjglaa

namespace Go.Proofs.Ythppgofpbpjglaa
open Go.RowKit

theorem from_nil {w w' : World} {q : Qt} {m : Mt} {z : List (List UInt8)} {now : Int} (hb : Below w.heap.size w w') : FromOut w q m z now (.returned (.slice none 0 0)) w' :=
  ⟨none, 0, [], rfl, ⟨Row.empty _ _ _, fun _ h => absurd h (List.not_mem_nil)⟩, fun h => absurd h (Nat.lt_irrefl 0), fun _ h => absurd h (List.not_mem_nil), Nat.zero_le _, fun _ => rfl, fun _ h => absurd h (List.not_mem_nil), hb⟩
theorem FQ.boxes (w : World) (y : QV) (q : Qt) (m : MV) : Whole ((w.alloc (.cells #[.slice y.1 q.name.length y.2, .int .i64 q.kind, .int .i64 q.cls] 41)).alloc (.cells m.cells.toArray 43)) w.heap.size 41 (cellsQ (y, q)) ∧ Whole ((w.alloc (.cells #[.slice y.1 q.name.length y.2, .int .i64 q.kind, .int .i64 q.cls] 41)).alloc (.cells m.cells.toArray 43)) (w.heap.size + 1) 43 m.cells ∧
    Below w.heap.size w ((w.alloc (.cells #[.slice y.1 q.name.length y.2, .int .i64 q.kind, .int .i64 q.cls] 41)).alloc (.cells m.cells.toArray 43)) := by
  have e1 : (w.alloc (.cells #[.slice y.1 q.name.length y.2, .int .i64 q.kind, .int .i64 q.cls] 41)).heap.size = w.heap.size + 1 := by simp
  refine ⟨(Whole.made w (cellsQ (y, q)) _).alloc _, ?_, ((Below.refl _ _).alloc (Nat.le_refl _) _).alloc (by rw [e1]; omega) _⟩
  have h1 := Whole.made (w.alloc (.cells #[.slice y.1 q.name.length y.2, .int .i64 q.kind, .int .i64 q.cls] 41)) m.cells 43
  rw [e1] at h1
  exact h1
theorem from_out {w w4 w9 : World} {T : Te} {b : Nat} {an au ex : Sec} {A : Option Addr} {c : Nat} {xs : List FV} (h : TAt w4 T b an au ex (.slice A xs.length c) xs w9) (hb : Below w.heap.size w w4) (hl : xs.length ≤ 10000) (hok : fromOk T.q T.m.msg T.z T.now = true) :
    FromOut w T.q T.m.msg T.z T.now (.returned (.slice A xs.length c)) w9 :=
  ⟨A, c, xs, rfl, ⟨Row.of_own h.row, fun x hx => (h.each x hx).at_⟩, NewT.of_own (own_mono h.row hb.size), fun x hx => ((h.each x hx).monoB hb.size).new, by unfold maxLen; omega, (fun e => by rw [hok] at e; cases e), h.told, hb.trans (h.below.mono hb.size)⟩

set_option maxRecDepth 20000 in
set_option maxHeartbeats 8000000 in
theorem from_any (w : World) (y : QV) (q : Qt) (m : MV) (A : Option Addr) (c : Nat) (z : List (List UInt8)) (now : Int) (hq : QAt w w.heap.size y q) (hqi : QIn q) (hq2 : q.name.length ≤ 200) (hqc : q.name.length ≤ y.2) (hm : MAt w w.heap.size m) (hi : MIn m) (hlg : LightG m.msg)
    (hz : Row w w.heap.size A (z.map sv)) (hzs : szN z ≤ maxLen) (hz2 : z.length ≤ 200) (hzc : z.length ≤ c) :
    Calls Try.prog 20 #[valQ y q, m.val, .slice A z.length c, .int .i64 now] w (FromOut w q m.msg z now) := by
  have HFB := Lib.hid (FQ.boxes w y q m)
  have HSN := Lib.hid (fun W (hb : Below w.heap.size w W) => sound_wide y.1 q.name.length y.2 w.heap.size q.name W rfl (Row.below hq hb) (by omega) hqi.n.2)
  have HSZ := Lib.hid (fun W (hb : Below w.heap.size w W) => sound_wide A z.length c w.heap.size z W rfl (hz.below hb) (by omega) (wide_sz hzs).2)
  have HTM := Lib.hid (fun W => ftime_any now W)
  have HAN := Lib.hid (fun W (hb : Below w.heap.size w W) => answersF_any W y q m (Row.mono (Row.below hq hb) hb.size) hqi ((hm.below hb).mono hb.size) hi)
  have HOK := Lib.hid (fun W (hb : Below w.heap.size w W) (a1 : soundN q.name = true) (a2 : soundN z = true) (a3 : timeB now = true) (a4 : AnsOk q m.msg) => (show TeOk W ⟨y, q, m, A, c, z, now⟩ ∧ fromOk q m.msg z now = true from
    ⟨⟨Row.mono (Row.below hq hb) hb.size, hqc, a1, (hm.below hb).mono hb.size, hi, a4.s, hlg, (hz.below hb).mono hb.size, a2, hzc, a3⟩, by
      unfold fromOk
      rw [a1, a2, a3, a4.s, a4.r, a4.q, decide_eq_true a4.o]
      rcases a4.c with e | e
      · rw [decide_eq_true e]; rfl
      · rw [decide_eq_true e]; simp⟩))
  have HQK := Lib.hid hqi.k
  clear hq hqi hq2 hqc hm hi hlg hz hzs hz2 hzc
  obtain ⟨h, qA, qc, qp, ⟨A0, k0, p0⟩, ⟨A1, k1, p1⟩, ⟨A2, k2, p2⟩⟩ := m
  go_enter Try.func20, Try.ntmps20
  go_wp2_with fail
  refine (HSN.out _ HFB.out.2.2).mono ?_
  rintro e w1 ⟨rfl, rfl⟩
  cases s1 : soundN q.name with
  | false =>
    go_wp2
    go_ret
    exact from_nil HFB.out.2.2
  | true =>
  go_wp2_with fail
  refine (HSZ.out _ HFB.out.2.2).mono ?_
  rintro e w1 ⟨rfl, rfl⟩
  cases s2 : soundN z with
  | false =>
    go_wp2
    go_ret
    exact from_nil HFB.out.2.2
  | true =>
  go_wp2_with fail
  refine (HTM.out _).mono ?_
  rintro e w1 ⟨rfl, rfl⟩
  cases s3 : timeB now with
  | false =>
    go_wp2
    go_ret
    exact from_nil HFB.out.2.2
  | true =>
  have x0 : ((w.alloc (.cells #[.slice y.1 q.name.length y.2, .int .i64 q.kind, .int .i64 q.cls] 41)).alloc (.cells (⟨h, qA, qc, qp, ⟨A0, k0, p0⟩, ⟨A1, k1, p1⟩, ⟨A2, k2, p2⟩⟩ : MV).cells.toArray 43)).cell? ⟨w.heap.size, 0, none⟩ = some (.slice y.1 q.name.length y.2) := HFB.out.1.cell 0
  have x1 : ((w.alloc (.cells #[.slice y.1 q.name.length y.2, .int .i64 q.kind, .int .i64 q.cls] 41)).alloc (.cells (⟨h, qA, qc, qp, ⟨A0, k0, p0⟩, ⟨A1, k1, p1⟩, ⟨A2, k2, p2⟩⟩ : MV).cells.toArray 43)).cell? ⟨w.heap.size, 1, none⟩ = some (.int .i64 q.kind) := HFB.out.1.cell 1
  have x2 : ((w.alloc (.cells #[.slice y.1 q.name.length y.2, .int .i64 q.kind, .int .i64 q.cls] 41)).alloc (.cells (⟨h, qA, qc, qp, ⟨A0, k0, p0⟩, ⟨A1, k1, p1⟩, ⟨A2, k2, p2⟩⟩ : MV).cells.toArray 43)).cell? ⟨w.heap.size, 2, none⟩ = some (.int .i64 q.cls) := HFB.out.1.cell 2
  have z0 : ((w.alloc (.cells #[.slice y.1 q.name.length y.2, .int .i64 q.kind, .int .i64 q.cls] 41)).alloc (.cells (⟨h, qA, qc, qp, ⟨A0, k0, p0⟩, ⟨A1, k1, p1⟩, ⟨A2, k2, p2⟩⟩ : MV).cells.toArray 43)).cell? ⟨w.heap.size + 1, 0, none⟩ = some (.int .i64 h.id) := HFB.out.2.1.cell 0
  have z1 : ((w.alloc (.cells #[.slice y.1 q.name.length y.2, .int .i64 q.kind, .int .i64 q.cls] 41)).alloc (.cells (⟨h, qA, qc, qp, ⟨A0, k0, p0⟩, ⟨A1, k1, p1⟩, ⟨A2, k2, p2⟩⟩ : MV).cells.toArray 43)).cell? ⟨w.heap.size + 1, 1, none⟩ = some (.bool h.resp) := HFB.out.2.1.cell 1
  have z2 : ((w.alloc (.cells #[.slice y.1 q.name.length y.2, .int .i64 q.kind, .int .i64 q.cls] 41)).alloc (.cells (⟨h, qA, qc, qp, ⟨A0, k0, p0⟩, ⟨A1, k1, p1⟩, ⟨A2, k2, p2⟩⟩ : MV).cells.toArray 43)).cell? ⟨w.heap.size + 1, 2, none⟩ = some (.int .i64 h.op) := HFB.out.2.1.cell 2
  have z3 : ((w.alloc (.cells #[.slice y.1 q.name.length y.2, .int .i64 q.kind, .int .i64 q.cls] 41)).alloc (.cells (⟨h, qA, qc, qp, ⟨A0, k0, p0⟩, ⟨A1, k1, p1⟩, ⟨A2, k2, p2⟩⟩ : MV).cells.toArray 43)).cell? ⟨w.heap.size + 1, 3, none⟩ = some (.bool h.aa) := HFB.out.2.1.cell 3
  have z4 : ((w.alloc (.cells #[.slice y.1 q.name.length y.2, .int .i64 q.kind, .int .i64 q.cls] 41)).alloc (.cells (⟨h, qA, qc, qp, ⟨A0, k0, p0⟩, ⟨A1, k1, p1⟩, ⟨A2, k2, p2⟩⟩ : MV).cells.toArray 43)).cell? ⟨w.heap.size + 1, 4, none⟩ = some (.bool h.tc) := HFB.out.2.1.cell 4
  have z5 : ((w.alloc (.cells #[.slice y.1 q.name.length y.2, .int .i64 q.kind, .int .i64 q.cls] 41)).alloc (.cells (⟨h, qA, qc, qp, ⟨A0, k0, p0⟩, ⟨A1, k1, p1⟩, ⟨A2, k2, p2⟩⟩ : MV).cells.toArray 43)).cell? ⟨w.heap.size + 1, 5, none⟩ = some (.bool h.rd) := HFB.out.2.1.cell 5
  have z6 : ((w.alloc (.cells #[.slice y.1 q.name.length y.2, .int .i64 q.kind, .int .i64 q.cls] 41)).alloc (.cells (⟨h, qA, qc, qp, ⟨A0, k0, p0⟩, ⟨A1, k1, p1⟩, ⟨A2, k2, p2⟩⟩ : MV).cells.toArray 43)).cell? ⟨w.heap.size + 1, 6, none⟩ = some (.bool h.ra) := HFB.out.2.1.cell 6
  have z7 : ((w.alloc (.cells #[.slice y.1 q.name.length y.2, .int .i64 q.kind, .int .i64 q.cls] 41)).alloc (.cells (⟨h, qA, qc, qp, ⟨A0, k0, p0⟩, ⟨A1, k1, p1⟩, ⟨A2, k2, p2⟩⟩ : MV).cells.toArray 43)).cell? ⟨w.heap.size + 1, 7, none⟩ = some (.int .i64 h.rc) := HFB.out.2.1.cell 7
  have z8 : ((w.alloc (.cells #[.slice y.1 q.name.length y.2, .int .i64 q.kind, .int .i64 q.cls] 41)).alloc (.cells (⟨h, qA, qc, qp, ⟨A0, k0, p0⟩, ⟨A1, k1, p1⟩, ⟨A2, k2, p2⟩⟩ : MV).cells.toArray 43)).cell? ⟨w.heap.size + 1, 8, none⟩ = some (.slice qA qp.length qc) := HFB.out.2.1.cell 8
  have z9 : ((w.alloc (.cells #[.slice y.1 q.name.length y.2, .int .i64 q.kind, .int .i64 q.cls] 41)).alloc (.cells (⟨h, qA, qc, qp, ⟨A0, k0, p0⟩, ⟨A1, k1, p1⟩, ⟨A2, k2, p2⟩⟩ : MV).cells.toArray 43)).cell? ⟨w.heap.size + 1, 9, none⟩ = some (.slice A0 p0.length k0) := HFB.out.2.1.cell 9
  have z10 : ((w.alloc (.cells #[.slice y.1 q.name.length y.2, .int .i64 q.kind, .int .i64 q.cls] 41)).alloc (.cells (⟨h, qA, qc, qp, ⟨A0, k0, p0⟩, ⟨A1, k1, p1⟩, ⟨A2, k2, p2⟩⟩ : MV).cells.toArray 43)).cell? ⟨w.heap.size + 1, 10, none⟩ = some (.slice A1 p1.length k1) := HFB.out.2.1.cell 10
  have z11 : ((w.alloc (.cells #[.slice y.1 q.name.length y.2, .int .i64 q.kind, .int .i64 q.cls] 41)).alloc (.cells (⟨h, qA, qc, qp, ⟨A0, k0, p0⟩, ⟨A1, k1, p1⟩, ⟨A2, k2, p2⟩⟩ : MV).cells.toArray 43)).cell? ⟨w.heap.size + 1, 11, none⟩ = some (.slice A2 p2.length k2) := HFB.out.2.1.cell 11
  have z12 : ((w.alloc (.cells #[.slice y.1 q.name.length y.2, .int .i64 q.kind, .int .i64 q.cls] 41)).alloc (.cells (⟨h, qA, qc, qp, ⟨A0, k0, p0⟩, ⟨A1, k1, p1⟩, ⟨A2, k2, p2⟩⟩ : MV).cells.toArray 43)).cell? ⟨w.heap.size + 1, 12, none⟩ = some (.bool h.edns) := HFB.out.2.1.cell 12
  have z13 : ((w.alloc (.cells #[.slice y.1 q.name.length y.2, .int .i64 q.kind, .int .i64 q.cls] 41)).alloc (.cells (⟨h, qA, qc, qp, ⟨A0, k0, p0⟩, ⟨A1, k1, p1⟩, ⟨A2, k2, p2⟩⟩ : MV).cells.toArray 43)).cell? ⟨w.heap.size + 1, 13, none⟩ = some (.int .i64 h.size) := HFB.out.2.1.cell 13
  go_wp2_with fail
  refine (HAN.out _ HFB.out.2.2).mono ?_
  rintro e w4 ⟨bv, rfl, hyes, hb4⟩
  have HB4 := Lib.hid (HFB.out.2.2.trans (hb4.mono HFB.out.2.2.size))
  cases bv with
  | false =>
    clear hb4 hyes
    go_wp2
    go_ret
    exact from_nil HB4.out
  | true =>
  have HT := Lib.hid (HOK.out w4 HB4.out s1 s2 s3 (hyes rfl))
  have a0 : w4.cell? ⟨w.heap.size, 0, none⟩ = some (.slice y.1 q.name.length y.2) := (HFB.out.1.below hb4 HFB.out.1.lt).cell 0
  have a1 : w4.cell? ⟨w.heap.size, 1, none⟩ = some (.int .i64 q.kind) := (HFB.out.1.below hb4 HFB.out.1.lt).cell 1
  have a2 : w4.cell? ⟨w.heap.size, 2, none⟩ = some (.int .i64 q.cls) := (HFB.out.1.below hb4 HFB.out.1.lt).cell 2
  have b0 : w4.cell? ⟨w.heap.size + 1, 0, none⟩ = some (.int .i64 h.id) := (HFB.out.2.1.below hb4 HFB.out.2.1.lt).cell 0
  have b1 : w4.cell? ⟨w.heap.size + 1, 1, none⟩ = some (.bool h.resp) := (HFB.out.2.1.below hb4 HFB.out.2.1.lt).cell 1
  have b2 : w4.cell? ⟨w.heap.size + 1, 2, none⟩ = some (.int .i64 h.op) := (HFB.out.2.1.below hb4 HFB.out.2.1.lt).cell 2
  have b3 : w4.cell? ⟨w.heap.size + 1, 3, none⟩ = some (.bool h.aa) := (HFB.out.2.1.below hb4 HFB.out.2.1.lt).cell 3
  have b4 : w4.cell? ⟨w.heap.size + 1, 4, none⟩ = some (.bool h.tc) := (HFB.out.2.1.below hb4 HFB.out.2.1.lt).cell 4
  have b5 : w4.cell? ⟨w.heap.size + 1, 5, none⟩ = some (.bool h.rd) := (HFB.out.2.1.below hb4 HFB.out.2.1.lt).cell 5
  have b6 : w4.cell? ⟨w.heap.size + 1, 6, none⟩ = some (.bool h.ra) := (HFB.out.2.1.below hb4 HFB.out.2.1.lt).cell 6
  have b7 : w4.cell? ⟨w.heap.size + 1, 7, none⟩ = some (.int .i64 h.rc) := (HFB.out.2.1.below hb4 HFB.out.2.1.lt).cell 7
  have b8 : w4.cell? ⟨w.heap.size + 1, 8, none⟩ = some (.slice qA qp.length qc) := (HFB.out.2.1.below hb4 HFB.out.2.1.lt).cell 8
  have b9 : w4.cell? ⟨w.heap.size + 1, 9, none⟩ = some (.slice A0 p0.length k0) := (HFB.out.2.1.below hb4 HFB.out.2.1.lt).cell 9
  have b10 : w4.cell? ⟨w.heap.size + 1, 10, none⟩ = some (.slice A1 p1.length k1) := (HFB.out.2.1.below hb4 HFB.out.2.1.lt).cell 10
  have b11 : w4.cell? ⟨w.heap.size + 1, 11, none⟩ = some (.slice A2 p2.length k2) := (HFB.out.2.1.below hb4 HFB.out.2.1.lt).cell 11
  have b12 : w4.cell? ⟨w.heap.size + 1, 12, none⟩ = some (.bool h.edns) := (HFB.out.2.1.below hb4 HFB.out.2.1.lt).cell 12
  have b13 : w4.cell? ⟨w.heap.size + 1, 13, none⟩ = some (.int .i64 h.size) := (HFB.out.2.1.below hb4 HFB.out.2.1.lt).cell 13
  clear x0 x1 x2 z0 z1 z2 z3 z4 z5 z6 z7 z8 z9 z10 z11 z12 z13
  clear hb4 hyes HFB HSN HSZ HTM HAN HOK s1 s2 s3
  have HNT := Lib.hid (newTeller_any w4 ⟨y, q, ⟨h, qA, qc, qp, ⟨A0, k0, p0⟩, ⟨A1, k1, p1⟩, ⟨A2, k2, p2⟩⟩, A, c, z, now⟩ HT.out.1)
  go_wp2_with fail
  refine HNT.out.mono ?_
  rintro e w5 ⟨b, an, au, ex, rfl, ht5, h0, h1, h2⟩
  have HCH := Lib.hid (chain_any w4 w5 ⟨y, q, ⟨h, qA, qc, qp, ⟨A0, k0, p0⟩, ⟨A1, k1, p1⟩, ⟨A2, k2, p2⟩⟩, A, c, z, now⟩ b an au ex _ [] ht5 HT.out.1 h0 (by simp))
  clear HNT
  go_wp2_with fail
  refine HCH.out.mono ?_
  rintro e w6 ⟨An, cn, n, rfl, hh6, hn6, v6, xs6, ht6, hl6, hk6, hz6⟩
  have HRC := Lib.hid (records_any w4 w6 ⟨y, q, ⟨h, qA, qc, qp, ⟨A0, k0, p0⟩, ⟨A1, k1, p1⟩, ⟨A2, k2, p2⟩⟩, A, c, z, now⟩ b an au ex v6 xs6 ht6 HT.out.1 h0 (by simp at hl6; omega) An cn n hh6 hn6)
  have HN6 := Lib.hid hn6
  have HL6 := Lib.hid (show xs6.length ≤ 16 by simpa using hl6)
  have HH6 := Lib.hid hh6
  have H1 := Lib.hid h1
  have H2 := Lib.hid h2
  clear HCH hk6 hz6 ht6 hl6 hh6 hn6 ht5 h0 h1 h2
  go_wp2_with fail
  refine HRC.out.mono ?_
  rintro e w7 ⟨bv, rfl, v7, xs7, ht7, hl7, hk7, hz7⟩
  have HT7 := Lib.hid ht7
  have HL7 := Lib.hid (show xs7.length ≤ 1016 by have := HL6.out; omega)
  have HH7 := Lib.hid (HH6.out.kept hk7)
  clear HRC ht7 hl7 hk7 hz7 HH6
  cases bv with
  | true =>
    have HRF := Lib.hid (referral_any w4 w7 ⟨y, q, ⟨h, qA, qc, qp, ⟨A0, k0, p0⟩, ⟨A1, k1, p1⟩, ⟨A2, k2, p2⟩⟩, A, c, z, now⟩ b an au ex v7 xs7 HT7.out HT.out.1 H1.out H2.out (by have := HL7.out; omega))
    go_wp2_with (go_at_call 44; refine HRF.out.mono ?_; rintro e w9 ⟨rfl, v9, xs9, ht9, hl9, _, _⟩; have HT9 := Lib.hid ht9; have HL9 := Lib.hid (show xs9.length ≤ 10000 by have := HL7.out; omega); obtain ⟨A9, c9, rfl, _, _⟩ := own_form ht9.row; have e22 : w9.cell? ⟨b, 22, none⟩ = some (.slice A9 xs9.length c9) := ht9.blk.cell 22; clear ht9 hl9)
    go_ret
    exact from_out HT9.out HB4.out HL9.out HT.out.2
  | false =>
    have HNO := Lib.hid (nothing_any w4 w7 ⟨y, q, ⟨h, qA, qc, qp, ⟨A0, k0, p0⟩, ⟨A1, k1, p1⟩, ⟨A2, k2, p2⟩⟩, A, c, z, now⟩ b an au ex v7 xs7 HT7.out HT.out.1 H1.out (by have := HL7.out; omega) An cn n HH7.out HN6.out HQK.out)
    go_wp2_with (first
      | (go_at_call 43; refine HNO.out.mono ?_; rintro e w8 ⟨rfl, v8, xs8, ht8, hl8, _, _⟩; have HL8 := Lib.hid (show xs8.length ≤ 1017 by have := HL7.out; omega); have HRF := Lib.hid (referral_any w4 w8 ⟨y, q, ⟨h, qA, qc, qp, ⟨A0, k0, p0⟩, ⟨A1, k1, p1⟩, ⟨A2, k2, p2⟩⟩, A, c, z, now⟩ b an au ex v8 xs8 ht8 HT.out.1 H1.out H2.out (by have := HL8.out; omega)); clear ht8 hl8)
      | (go_at_call 44; refine HRF.out.mono ?_; rintro e w9 ⟨rfl, v9, xs9, ht9, hl9, _, _⟩; have HT9 := Lib.hid ht9; have HL9 := Lib.hid (show xs9.length ≤ 10000 by have := HL8.out; omega); obtain ⟨A9, c9, rfl, _, _⟩ := own_form ht9.row; have e22 : w9.cell? ⟨b, 22, none⟩ = some (.slice A9 xs9.length c9) := ht9.blk.cell 22; clear ht9 hl9))
    go_ret
    exact from_out HT9.out HB4.out HL9.out HT.out.2

/-- What is sound is not too large. -/
theorem soundF_sz {x : FV} (h : soundF x.fact = true) : FSz x := by
  obtain ⟨hh, hk⟩ := soundF_parts h
  have a1 : soundN x.name = true := (headB_parts hh).1
  have n1 := sound_few a1
  rcases hk with ⟨_, hb⟩ | ⟨_, hb⟩
  · unfold hasB at hb
    simp only [Bool.and_eq_true, decide_eq_true_eq] at hb
    obtain ⟨_, _, _, b4, b5, b6⟩ := hb
    have ez : x.zone = [] := List.eq_nil_of_length_eq_zero b4
    have b5' : emptyD x.soa = true := b5
    unfold emptyD at b5'
    simp only [Bool.and_eq_true, decide_eq_true_eq] at b5'
    exact ⟨by omega, by rw [ez]; exact Nat.zero_le _, fun p hp => (sound_small (setOk_each b6 (List.mem_map.2 ⟨p, hp, rfl⟩))).2, by omega⟩
  · obtain ⟨_, _, p3, _, p5, _, p7⟩ := noB_parts hb
    have e0 : x.sp = [] := by
      have e : (dats x.sp).length = 0 := p3
      rw [length_dats] at e
      exact List.eq_nil_of_length_eq_zero e
    have n2 : x.zone.length ≤ 127 := sound_few p5
    exact ⟨by omega, by omega, fun p hp => by rw [e0] at hp; exact absurd hp (List.not_mem_nil), (sound_small p7).2⟩
/-- The program's facts are as the statements of layer 13 ask. -/
theorem theFacts : FactSpec :=
  ⟨fun w x hx hi hs => by
    have h := fsound_real w x hx hi (soundF_sz hs)
    rwa [hs] at h,
   fun w y q m A c z now hq hqi hq2 hqc hm hi hlg hz hzs hz2 hzc _ => from_any w y q m A c z now hq hqi hq2 hqc hm hi hlg hz hzs hz2 hzc⟩

end Go.Proofs.Ythppgofpbpjglaa

namespace Go.Proofs.Ythppgofpbpjglaa
open Go.ChangeShapes Go.WideShapes Go.ChangeAt Go.RowKit

theorem szN_strs {H : Type} : ∀ l : List ByteArray, szN (l.map fun s => s.data.toList) ≤ Rows.uptoBulkAll (strs (H := H) l) + 1
  | [] => Nat.le_refl _
  | s :: l => by
    have h := szN_strs (H := H) l
    simp only [List.map_cons, szN, strs, Rows.uptoBulkAll, Rows.uptoBulk]
    simp only [strs] at h
    omega

set_option maxRecDepth 20000 in
/-- An argument that is a name, not too great. -/
theorem open_nameU {H : Type} {enc : TypeId × Value → H} {W : World} {base : Nat} {v : Value} {d : DataW H} {p : List MemPlace}
    (hval : Value.okWide Try.prog W .any base 23 v) (h : DataW.Trod enc Try.prog W 0 (fun _ => true) true 23 v d p) (hlt : ∀ x ∈ p, x.block < W.heap.size) (hk : Rows.uptoBulk d ≤ 1048576) :
    ∃ (A : Option Addr) (c : Nat) (n : List (List UInt8)), v = .slice A n.length c ∧ Row W W.heap.size A (n.map sv) ∧ szN n ≤ maxLen ∧ n.length ≤ c := by
  obtain ⟨a0, len, cap, rfl⟩ := okWide_slice Try.underlying23 hval
  obtain ⟨fuel, hf⟩ := h
  rcases open_strings Try.underlying23 Try.underlying9 str_cells hf with ⟨hcs, hx⟩ | ⟨a, len', cap', ss, hcs, _, hl, hm, hz, hx, hcell, hwz⟩
  · simp [Value.cells] at hcs
    obtain ⟨rfl, rfl, rfl⟩ := hcs
    exact ⟨none, 0, [], rfl, Row.empty _ _ _, by simp [szN, maxLen], Nat.le_refl _⟩
  · simp [Value.cells] at hcs
    obtain ⟨rfl, rfl, rfl⟩ := hcs
    simp only [Prod.mk.injEq] at hx
    obtain ⟨rfl, rfl⟩ := hx
    simp only [if_true] at hz
    have hlen : ((ss.take len).map fun s => s.data.toList).length = len := by simp; omega
    have hb : szN ((ss.take len).map fun s => s.data.toList) ≤ maxLen := by
      have h1 := szN_strs (H := H) (ss.take len)
      simp only [Rows.uptoBulk] at hk
      unfold maxLen
      omega
    refine ⟨some a, cap, (ss.take len).map fun s => s.data.toList, by rw [hlen], fun hne => ?_, hb, by rw [hlen]; exact hl⟩
    have hpos : 0 < ss.length := by
      rcases ss with _ | ⟨z, zs⟩
      · simp at hne
      · simp
    obtain ⟨b, off, spot⟩ := a
    have hspot : spot = none := by simpa [Addr.add] using World.cell?_spot (hcell 0 hpos)
    subst hspot
    refine ⟨b, off, rfl, hlt (.cell b off) (MemPlace.mem_row.2 ⟨0, hpos, by simp⟩), fun j u hu => ?_⟩
    have hjl : j < len := by
      have := (List.getElem?_eq_some_iff.1 hu).1
      simp at this
      omega
    have hj : j < ss.length := by omega
    have h1 := hcell j hj
    rw [addr_add] at h1
    rw [h1]
    have e : ss.getD j ByteArray.empty = ss[j] := by simp [List.getD, List.getElem?_eq_getElem hj]
    rw [List.getElem?_map, List.getElem?_map, List.getElem?_take, if_pos hjl, List.getElem?_eq_getElem hj] at hu
    simp only [Option.map_some] at hu
    rw [← hu, e, string_sv]

set_option maxRecDepth 20000 in
/-- An argument that is a question, not too great. -/
theorem open_questionU {H : Type} {enc : TypeId × Value → H} {W : World} {base : Nat} {v : Value} {d : DataW H} {p : List MemPlace}
    (hval : Value.okWide Try.prog W .any base 41 v) (h : DataW.Trod enc Try.prog W 0 (fun _ => true) true 41 v d p) (hlt : ∀ x ∈ p, x.block < W.heap.size) (hk : Rows.uptoBulk d ≤ 1048576) :
    ∃ (y : QV) (q : Qt), v = valQ y q ∧ QAt W W.heap.size y q ∧ QIn q ∧ q.name.length ≤ y.2 := by
  unfold Value.okWide at hval
  rw [Try.underlying41] at hval
  obtain ⟨cs0, rfl, hsz, _⟩ := hval
  obtain ⟨fuel, hf⟩ := h
  obtain ⟨cs⟩ := cs0
  simp only [Value.cells] at hf
  obtain ⟨y, q, e, h1, h2, h3, h4, h5, h6⟩ := read_question hf hlt
  subst e
  exact ⟨y, q, rfl, h1, ⟨h2, h3, h4, Nat.le_trans h6 hk⟩, h5⟩

theorem u8_nat13 {n : Int} (h : (Lit.int .u8 n).wf = true) : ∃ m : Nat, n = m ∧ m < 256 := by
  have h1 : IntKind.u8.min = 0 := rfl
  have h2 : IntKind.u8.max = 255 := rfl
  simp only [Lit.wf, Bool.and_eq_true, decide_eq_true_eq] at h
  exact ⟨n.toNat, by omega, by omega⟩

end Go.Proofs.Ythppgofpbpjglaa

namespace Go.Proofs.Ythppgofpbpjglaa

end Go.Proofs.Ythppgofpbpjglaa
