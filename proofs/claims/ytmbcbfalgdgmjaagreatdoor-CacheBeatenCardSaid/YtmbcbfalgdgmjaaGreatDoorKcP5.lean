/-
  The contract of the document's Sound of facts that have data.
-/
import Derived.Test.YtmbcbfalgdgmjaaGreatDoorKcP4
import Derived.Test.YtmbcbfalgdgmjaaGreatDoorProg
import Derived.WalkSpells
import Derived.WalkLawsBesides
import Derived.Test.YtmbcbfalgdgmjaaGreatDoorKcP1
import Derived.OrdersHeld
namespace Go.Proofs.YtmbcbfalgdgmjaaGreatDoor
open Go.RowKit

theorem hasB_not {f : Fc} (h : typedB f.h.typ = false) : hasB f = false := by unfold hasB; rw [h]; rfl
theorem hasB_few {f : Fc} (h : f.set.length < 1) : hasB f = false := by unfold hasB; rw [decide_eq_false (show ¬ 1 ≤ f.set.length by omega)]; simp
theorem hasB_many {f : Fc} (h : 64 < f.set.length) : hasB f = false := by unfold hasB; rw [decide_eq_false (show ¬ f.set.length ≤ 64 by omega)]; simp
theorem hasB_zone {f : Fc} (h : 0 < f.zone.length) : hasB f = false := by unfold hasB; rw [decide_eq_false (show ¬ f.zone.length = 0 by omega)]; simp
theorem hasB_soa {f : Fc} (h : emptyD f.soa = false) : hasB f = false := by unfold hasB; rw [h]; simp
theorem hasB_set {f : Fc} (h : setOk f.h.typ f.set = false) : hasB f = false := by unfold hasB; rw [h]; simp
theorem hasB_yes {f : Fc} (h0 : typedB f.h.typ = true) (h1 : ¬ f.set.length < 1) (h2 : ¬ 64 < f.set.length) (h3 : ¬ 0 < f.zone.length) (h4 : emptyD f.soa = true) : hasB f = setOk f.h.typ f.set := by
  unfold hasB
  rw [h0, decide_eq_true (show 1 ≤ f.set.length by omega), decide_eq_true (show f.set.length ≤ 64 by omega), decide_eq_true (show f.zone.length = 0 by omega), h4]
  rfl
theorem emptyD_0 {d : Dt} (h : 0 < d.bytes.length) : emptyD d = false := by unfold emptyD; rw [decide_eq_false (show ¬ d.bytes.length = 0 by omega)]; rfl
theorem emptyD_1 {d : Dt} (h : 0 < d.host.length) : emptyD d = false := by unfold emptyD; rw [decide_eq_false (show ¬ d.host.length = 0 by omega)]; simp
theorem emptyD_2 {d : Dt} (h : 0 < d.mail.length) : emptyD d = false := by unfold emptyD; rw [decide_eq_false (show ¬ d.mail.length = 0 by omega)]; simp
theorem emptyD_3 {d : Dt} (h : 0 < d.nums.length) : emptyD d = false := by unfold emptyD; rw [decide_eq_false (show ¬ d.nums.length = 0 by omega)]; simp
theorem emptyD_4 {d : Dt} (h : 0 < d.texts.length) : emptyD d = false := by unfold emptyD; rw [decide_eq_false (show ¬ d.texts.length = 0 by omega)]; simp
theorem emptyD_yes {d : Dt} (h0 : ¬ 0 < d.bytes.length) (h1 : ¬ 0 < d.host.length) (h2 : ¬ 0 < d.mail.length) (h3 : ¬ 0 < d.nums.length) (h4 : ¬ 0 < d.texts.length) : emptyD d = true := by
  unfold emptyD
  rw [decide_eq_true (show d.bytes.length = 0 by omega), decide_eq_true (show d.host.length = 0 by omega), decide_eq_true (show d.mail.length = 0 by omega), decide_eq_true (show d.nums.length = 0 by omega), decide_eq_true (show d.texts.length = 0 by omega)]
  rfl
theorem DsAt.take {w : World} {H : Nat} {A : Option Addr} {ps : List (DV × Dt)} (h : DsAt w H A ps) (k : Nat) (hk : k ≤ ps.length) : DsAt w H A (ps.take k) := by
  refine ⟨?_, fun p hp => h.2 p (List.mem_of_mem_take hp)⟩
  have h1 := h.1.take (k * 5)
  have e : (ps.flatMap cellsD).take (k * 5) = (ps.take k).flatMap cellsD := by
    conv => lhs; rw [← List.take_append_drop k ps, List.flatMap_append]
    rw [List.take_left']
    rw [length_flat cellsD_len, List.length_take, Nat.min_eq_left hk]
  rwa [e] at h1
theorem dats_take (ps : List (DV × Dt)) (k : Nat) : (dats ps).take k = dats (ps.take k) := by simp [dats]
theorem dats_step {ps : List (DV × Dt)} {k : Nat} (hk : k < ps.length) : dats (ps.take (k + 1)) = dats (ps.take k) ++ [(ps[k]).2] := by
  rw [List.take_succ_eq_append_getElem hk, dats_append]
  rfl
theorem setOk_fails {kd : Int} {ps : List (DV × Dt)} {k : Nat} (_ : k < ps.length) (h : setOk kd (dats (ps.take (k + 1))) = false) : setOk kd (dats ps) = false := by
  have e : dats ps = dats (ps.take (k + 1)) ++ dats (ps.drop (k + 1)) := by rw [← dats_append, List.take_append_drop]
  rw [e]
  unfold setOk at h ⊢
  rw [setFrom_append, h]
  rfl

def HasRel (w : World) (x : FV) (i : Value) (wr : World) : Prop :=
  ∃ k : Nat, k ≤ x.sp.length ∧ i = .int .i64 k ∧ setOk x.h.typ (dats (x.sp.take k)) = true ∧ Whole wr w.heap.size 36 (cellsF x) ∧ Below w.heap.size w wr

set_option maxRecDepth 20000 in
set_option maxHeartbeats 8000000 in
theorem fsound_has (w : World) (x : FV) (hx : FAt w w.heap.size x) (hi : FIn x) (hh : headB x.name x.h = true) (k1 : x.h.knd = 1) : Calls Tryz.prog 20 #[x.val] w (Gave w (.bool (hasB x.fact))) := by
  have hsl : x.sp.length ≤ maxLen := Nat.le_trans hx.ls hx.ks
  unfold maxLen at hsl
  have hsc := hx.ls
  have hsk := hx.ks
  unfold maxLen at hsk
  obtain ⟨W, hW⟩ : ∃ W, W = w.alloc (.cells #[.slice x.A x.name.length x.c, .int .i64 x.h.typ, .int .i64 x.h.knd, .int .i64 x.h.rank, .int .i64 x.h.got, .int .i64 x.h.ttl, .slice x.sA x.sp.length x.sc, .slice x.zA x.zone.length x.zc, .slice x.d.Ab x.soa.bytes.length x.d.cb, .slice x.d.Ah x.soa.host.length x.d.ch, .slice x.d.Am x.soa.mail.length x.d.cm, .slice x.d.An x.soa.nums.length x.d.cn, .slice x.d.At x.soa.texts.length x.d.ct] 36) := ⟨_, rfl⟩
  have hB : Below w.heap.size w W := by rw [hW]; exact (Below.refl _ _).alloc (Nat.le_refl _) _
  have HB := Lib.hid hB
  have HN := Lib.hid (fun W' (hb : Below w.heap.size w W') => ref_sound_wide x.A x.c w.heap.size x.name W' (hx.n.below hb) hi.n.1 hi.n.2)
  have HT := Lib.hid (fun W' => time_any x.h.got W')
  have HX := Lib.hid hx
  have HI := Lib.hid hi
  have HHP := Lib.hid (headB_parts hh)
  clear hx hi hh hB
  subst hW
  have HTY := Lib.hid (fun W' => typed_any x.h.typ W')
  have b1 : (x.h.knd == 1) = true := by rw [k1]; rfl
  clear k1
  obtain ⟨hn, h1, h2, ht, h3, h4⟩ := HHP.out
  rw [hn] at HN
  rw [ht] at HT
  have d1 : decide (x.h.rank < 1) = false := decide_eq_false (by omega)
  have d2 : decide (4 < x.h.rank) = false := decide_eq_false (by omega)
  have d3 : decide (x.h.ttl < 0) = false := decide_eq_false (by omega)
  have d4 : decide (604800 < x.h.ttl) = false := decide_eq_false (by omega)
  clear hn ht h1 h2 h3 h4 HHP
  cases hty : typedB x.h.typ with
  | false =>
    rw [hty] at HTY
    have HV := Lib.hid (show hasB x.fact = false from hasB_not hty)
    go_enter Tryz.func20, Tryz.ntmps20
    go_wp2_with (first
      | (go_at_call 24; refine (HN.out _ HB.out).mono ?_; rintro e w1 ⟨rfl, rfl⟩)
      | (go_at_call 41; refine (HTY.out _).mono ?_; rintro e w1 ⟨rfl, rfl⟩)
      | (go_at_call 32; refine (HT.out _).mono ?_; rintro e w1 ⟨rfl, rfl⟩))
    go_ret
    exact ⟨by rw [HV.out]; rfl, (HB.out.alloc (by simp) _)⟩
  | true =>
  rw [hty] at HTY
  have hlen : (dats x.sp).length = x.sp.length := length_dats _
  by_cases c1 : x.sp.length < 1
  · have e1 : decide ((x.sp.length : Int) < 1) = true := decide_eq_true (by omega)
    have HV := Lib.hid (show hasB x.fact = false from hasB_few (by show (dats x.sp).length < 1; omega))
    go_enter Tryz.func20, Tryz.ntmps20
    go_wp2_with (first
      | (go_at_call 24; refine (HN.out _ HB.out).mono ?_; rintro e w1 ⟨rfl, rfl⟩)
      | (go_at_call 41; refine (HTY.out _).mono ?_; rintro e w1 ⟨rfl, rfl⟩)
      | (go_at_call 32; refine (HT.out _).mono ?_; rintro e w1 ⟨rfl, rfl⟩))
    go_ret
    exact ⟨by rw [HV.out]; rfl, (HB.out.alloc (by simp) _)⟩
  have e1 : decide ((x.sp.length : Int) < 1) = false := decide_eq_false (by omega)
  by_cases c2 : 64 < x.sp.length
  · have e2 : decide ((64 : Int) < (x.sp.length : Int)) = true := decide_eq_true (by omega)
    have HV := Lib.hid (show hasB x.fact = false from hasB_many (by show 64 < (dats x.sp).length; omega))
    go_enter Tryz.func20, Tryz.ntmps20
    go_wp2_with (first
      | (go_at_call 24; refine (HN.out _ HB.out).mono ?_; rintro e w1 ⟨rfl, rfl⟩)
      | (go_at_call 41; refine (HTY.out _).mono ?_; rintro e w1 ⟨rfl, rfl⟩)
      | (go_at_call 32; refine (HT.out _).mono ?_; rintro e w1 ⟨rfl, rfl⟩))
    go_ret
    exact ⟨by rw [HV.out]; rfl, (HB.out.alloc (by simp) _)⟩
  have e2 : decide ((64 : Int) < (x.sp.length : Int)) = false := decide_eq_false (by omega)
  by_cases c3 : 0 < x.zone.length
  · have e3 : decide ((0 : Int) < (x.zone.length : Int)) = true := decide_eq_true (by omega)
    have HV := Lib.hid (show hasB x.fact = false from hasB_zone c3)
    go_enter Tryz.func20, Tryz.ntmps20
    go_wp2_with (first
      | (go_at_call 24; refine (HN.out _ HB.out).mono ?_; rintro e w1 ⟨rfl, rfl⟩)
      | (go_at_call 41; refine (HTY.out _).mono ?_; rintro e w1 ⟨rfl, rfl⟩)
      | (go_at_call 32; refine (HT.out _).mono ?_; rintro e w1 ⟨rfl, rfl⟩))
    go_ret
    exact ⟨by rw [HV.out]; rfl, (HB.out.alloc (by simp) _)⟩
  have e3 : decide ((0 : Int) < (x.zone.length : Int)) = false := decide_eq_false (by omega)
  by_cases c4 : 0 < x.soa.bytes.length
  · have e4 : decide ((0 : Int) < (x.soa.bytes.length : Int)) = true := decide_eq_true (by omega)
    have HV := Lib.hid (show hasB x.fact = false from hasB_soa (emptyD_0 c4))
    go_enter Tryz.func20, Tryz.ntmps20
    go_wp2_with (first
      | (go_at_call 24; refine (HN.out _ HB.out).mono ?_; rintro e w1 ⟨rfl, rfl⟩)
      | (go_at_call 41; refine (HTY.out _).mono ?_; rintro e w1 ⟨rfl, rfl⟩)
      | (go_at_call 32; refine (HT.out _).mono ?_; rintro e w1 ⟨rfl, rfl⟩))
    go_ret
    exact ⟨by rw [HV.out]; rfl, (HB.out.alloc (by simp) _)⟩
  have e4 : decide ((0 : Int) < (x.soa.bytes.length : Int)) = false := decide_eq_false (by omega)
  by_cases c5 : 0 < x.soa.host.length
  · have e5 : decide ((0 : Int) < (x.soa.host.length : Int)) = true := decide_eq_true (by omega)
    have HV := Lib.hid (show hasB x.fact = false from hasB_soa (emptyD_1 c5))
    go_enter Tryz.func20, Tryz.ntmps20
    go_wp2_with (first
      | (go_at_call 24; refine (HN.out _ HB.out).mono ?_; rintro e w1 ⟨rfl, rfl⟩)
      | (go_at_call 41; refine (HTY.out _).mono ?_; rintro e w1 ⟨rfl, rfl⟩)
      | (go_at_call 32; refine (HT.out _).mono ?_; rintro e w1 ⟨rfl, rfl⟩))
    go_ret
    exact ⟨by rw [HV.out]; rfl, (HB.out.alloc (by simp) _)⟩
  have e5 : decide ((0 : Int) < (x.soa.host.length : Int)) = false := decide_eq_false (by omega)
  by_cases c6 : 0 < x.soa.mail.length
  · have e6 : decide ((0 : Int) < (x.soa.mail.length : Int)) = true := decide_eq_true (by omega)
    have HV := Lib.hid (show hasB x.fact = false from hasB_soa (emptyD_2 c6))
    go_enter Tryz.func20, Tryz.ntmps20
    go_wp2_with (first
      | (go_at_call 24; refine (HN.out _ HB.out).mono ?_; rintro e w1 ⟨rfl, rfl⟩)
      | (go_at_call 41; refine (HTY.out _).mono ?_; rintro e w1 ⟨rfl, rfl⟩)
      | (go_at_call 32; refine (HT.out _).mono ?_; rintro e w1 ⟨rfl, rfl⟩))
    go_ret
    exact ⟨by rw [HV.out]; rfl, (HB.out.alloc (by simp) _)⟩
  have e6 : decide ((0 : Int) < (x.soa.mail.length : Int)) = false := decide_eq_false (by omega)
  by_cases c7 : 0 < x.soa.nums.length
  · have e7 : decide ((0 : Int) < (x.soa.nums.length : Int)) = true := decide_eq_true (by omega)
    have HV := Lib.hid (show hasB x.fact = false from hasB_soa (emptyD_3 c7))
    go_enter Tryz.func20, Tryz.ntmps20
    go_wp2_with (first
      | (go_at_call 24; refine (HN.out _ HB.out).mono ?_; rintro e w1 ⟨rfl, rfl⟩)
      | (go_at_call 41; refine (HTY.out _).mono ?_; rintro e w1 ⟨rfl, rfl⟩)
      | (go_at_call 32; refine (HT.out _).mono ?_; rintro e w1 ⟨rfl, rfl⟩))
    go_ret
    exact ⟨by rw [HV.out]; rfl, (HB.out.alloc (by simp) _)⟩
  have e7 : decide ((0 : Int) < (x.soa.nums.length : Int)) = false := decide_eq_false (by omega)
  by_cases c8 : 0 < x.soa.texts.length
  · have e8 : decide ((0 : Int) < (x.soa.texts.length : Int)) = true := decide_eq_true (by omega)
    have HV := Lib.hid (show hasB x.fact = false from hasB_soa (emptyD_4 c8))
    go_enter Tryz.func20, Tryz.ntmps20
    go_wp2_with (first
      | (go_at_call 24; refine (HN.out _ HB.out).mono ?_; rintro e w1 ⟨rfl, rfl⟩)
      | (go_at_call 41; refine (HTY.out _).mono ?_; rintro e w1 ⟨rfl, rfl⟩)
      | (go_at_call 32; refine (HT.out _).mono ?_; rintro e w1 ⟨rfl, rfl⟩))
    go_ret
    exact ⟨by rw [HV.out]; rfl, (HB.out.alloc (by simp) _)⟩
  have e8 : decide ((0 : Int) < (x.soa.texts.length : Int)) = false := decide_eq_false (by omega)
  have HV := Lib.hid (show hasB x.fact = setOk x.h.typ (dats x.sp) from hasB_yes hty (by show ¬ (dats x.sp).length < 1; omega) (by show ¬ 64 < (dats x.sp).length; omega) c3 (emptyD_yes c4 c5 c6 c7 c8))
  clear hlen hty
  go_enter Tryz.func20, Tryz.ntmps20
  go_wp2_with (first
    | (go_at_call 24; refine (HN.out _ HB.out).mono ?_; rintro e w1 ⟨rfl, rfl⟩)
    | (go_at_call 41; refine (HTY.out _).mono ?_; rintro e w1 ⟨rfl, rfl⟩)
    | (go_at_call 32; refine (HT.out _).mono ?_; rintro e w1 ⟨rfl, rfl⟩))
  go_loopw [4] (HasRel w x) (fun i _ => x.sp.length - (intOf i).toNat)
  case atStart => exact ⟨0, Nat.zero_le _, rfl, rfl, (Whole.made w (cellsF x) _).alloc _, HB.out.alloc (by simp) _⟩
  case round =>
    obtain ⟨k, hk, rfl, hs, hwx, hb⟩ := hrel
    have HS := Lib.hid hs
    have HW := Lib.hid (show Whole wr.drew w.heap.size 36 (cellsF x) from hwx)
    have HBW := Lib.hid hb.drew
    have HB0 := Lib.hid hb
    have q1 : wr.cell? ⟨w.heap.size, 1, none⟩ = some (.int .i64 x.h.typ) := hwx.cell 1
    have q6 : wr.cell? ⟨w.heap.size, 6, none⟩ = some (.slice x.sA x.sp.length x.sc) := hwx.cell 6
    clear hs hwx hb
    by_cases hlt : k < x.sp.length
    · obtain ⟨bb, off, hA, hbH, hd, r0, r1, r2, r3, r4⟩ := (HX.out.s.below HBW.out).at_ hlt
      have HA := Lib.hid hA
      have hdi := HI.out.s _ (List.getElem_mem hlt)
      have HF := Lib.hid (fun h : setOk x.h.typ (dats (x.sp.take (k + 1))) = false => setOk_fails hlt h)
      have HST := Lib.hid (show setOk x.h.typ (dats (x.sp.take (k + 1))) = (setOk x.h.typ (dats (x.sp.take k)) && (soundD x.h.typ (x.sp[k]).2 && !hasD (dats (x.sp.take k)) (x.sp[k]).2)) from by rw [dats_step hlt, setOk_snoc])
      have HDW := fun W (hb : Below w.heap.size w W) => ((HX.out.s.below hb).2 _ (List.getElem_mem hlt))
      revert hd r0 r1 r2 r3 r4 hdi HST HDW
      generalize hp : x.sp[k] = p
      have HP := Lib.hid hp
      clear hp
      obtain ⟨y, d⟩ := p
      intro hd r0 r1 r2 r3 r4 hdi HST HDW
      dsimp only at hd r0 r1 r2 r3 r4 hdi HST HDW
      have HDA := Lib.hid (fun W (hb : Below w.heap.size w W) => HDW W hb)
      have HDI := Lib.hid hdi
      have hk0 : (0 : Int) ≤ (k : Int) := by omega
      have hk1 : (k : Int) < (x.sp.length : Int) := by omega
      have hk2 : (k : Int) ≤ (x.sp.length : Int) := by omega
      have hk3 : (k : Int) ≤ (x.sc : Int) := by omega
      clear hd hdi HDW hA r0 r1 r2 r3 r4
      have hc6 : wr.cell? ⟨w.heap.size, 6, none⟩ = some (.slice (some ⟨bb, off, none⟩) x.sp.length x.sc) := q6.trans (by rw [HA.out])
      clear q6
      have HCS := Lib.hid (show ∀ W, Below w.heap.size w W → Whole W w.heap.size 36 (cellsF x) → (W.cell? ⟨w.heap.size, 1, none⟩ = some (.int .i64 x.h.typ) ∧ W.cell? ⟨w.heap.size, 6, none⟩ = some (.slice (some ⟨bb, off, none⟩) x.sp.length x.sc)) ∧ (W.cell? ⟨bb, off + k * 5, none⟩ = some (.slice y.Ab d.bytes.length y.cb) ∧ W.cell? ⟨bb, off + k * 5 + 1, none⟩ = some (.slice y.Ah d.host.length y.ch) ∧ W.cell? ⟨bb, off + k * 5 + 2, none⟩ = some (.slice y.Am d.mail.length y.cm) ∧ W.cell? ⟨bb, off + k * 5 + 3, none⟩ = some (.slice y.An d.nums.length y.cn) ∧ W.cell? ⟨bb, off + k * 5 + 4, none⟩ = some (.slice y.At d.texts.length y.ct)) from fun W hb hw => by
        obtain ⟨b2, o2, e2, _, _, s0, s1, s2, s3, s4⟩ := (HX.out.s.below hb).at_ hlt
        rw [HA.out] at e2
        injection e2 with e2
        injection e2 with e3 e4
        subst e3
        subst e4
        rw [HP.out] at s0 s1 s2 s3 s4
        exact ⟨⟨hw.cell 1, (hw.cell 6).trans (by show some (Value.slice x.sA x.sp.length x.sc) = _; rw [HA.out])⟩, s0, s1, s2, s3, s4⟩)
      have HDAT := Lib.hid (fun W (hb : Below w.heap.size w W) => refData_any x.h.typ y d W ((HDA.out W hb).mono hb.size) HDI.out.ref)
      have HIN := Lib.hid (fun W (hb : Below w.heap.size w W) => (show Calls Tryz.prog 43 #[.slice (some ⟨bb, off, none⟩) k x.sc, y.val d] W (Gave W (.bool (hasD (dats (x.sp.take k)) d))) from by
        have h := in_any W y d (some ⟨bb, off, none⟩) x.sc (x.sp.take k) ((HDA.out W hb).mono hb.size) (by rw [← HA.out]; exact ((HX.out.s.below hb).mono hb.size).take k (Nat.le_of_lt hlt)) HDI.out.w (fun p hp => (HI.out.s p (List.mem_of_mem_take hp)).w) (by rw [List.length_take]; unfold maxLen; omega)
        rw [List.length_take, Nat.min_eq_left (Nat.le_of_lt hlt)] at h
        exact h))
      go_wp2
      cases hv : soundD x.h.typ d with
      | false =>
        rw [hv] at HDAT HST
        have HFF := Lib.hid (HF.out (by rw [HST.out]; simp))
        refine wp_region_held_drew (S := fun W => (W.cell? ⟨w.heap.size, 1, none⟩ = some (.int .i64 x.h.typ) ∧ W.cell? ⟨w.heap.size, 6, none⟩ = some (.slice (some ⟨bb, off, none⟩) x.sp.length x.sc)) ∧ (W.cell? ⟨bb, off + k * 5, none⟩ = some (.slice y.Ab d.bytes.length y.cb) ∧ W.cell? ⟨bb, off + k * 5 + 1, none⟩ = some (.slice y.Ah d.host.length y.ch) ∧ W.cell? ⟨bb, off + k * 5 + 2, none⟩ = some (.slice y.Am d.mail.length y.cm) ∧ W.cell? ⟨bb, off + k * 5 + 3, none⟩ = some (.slice y.An d.nums.length y.cn) ∧ W.cell? ⟨bb, off + k * 5 + 4, none⟩ = some (.slice y.At d.texts.length y.ct))) (by kernel_rfl) (by exact HCS.out _ HBW.out HW.out) (fun hHeld => ?_)
        refine wpAnyH_take (i := 0) (oi := { dst := some 100, op := Go.Op.fieldAddr 36 (Go.Operand.tmp 1) 1, type := 0, pos := "ref.go:72", after := #[], guard := none }) (v := ?_) rfl (by kernel_rfl) (by kernel_rfl) (by kernel_rfl) (fun _ _ _ h => h) (Or.inl ⟨by kernel_rfl, ?_⟩) (by assumption) ?_
        rotate_left
        · intro W hSw
          try dsimp only at hSw
          go_simp
          all_goals (with_reducible rfl)
        try simp only [Act.put, List.setIfInBounds_toArray, List.set_cons_zero, List.set_cons_succ]
        refine wpAnyH_take (i := 1) (oi := { dst := some 101, op := Go.Op.load 3 (Go.Operand.tmp 100), type := 3, pos := "ref.go:72", after := #[{ on := 0, ground := Go.Ground.data }], guard := none }) (v := ?_) rfl (by kernel_rfl) (by kernel_rfl) (by kernel_rfl) (fun _ _ _ h => h) (Or.inl ⟨by kernel_rfl, ?_⟩) (by assumption) ?_
        rotate_left
        · intro W hSw
          try dsimp only at hSw
          go_simp
          all_goals (with_reducible rfl)
        try simp only [Act.put, List.setIfInBounds_toArray, List.set_cons_zero, List.set_cons_succ]
        refine wpAnyH_take (i := 2) (oi := { dst := some 102, op := Go.Op.fieldAddr 36 (Go.Operand.tmp 1) 6, type := 0, pos := "ref.go:72", after := #[], guard := none }) (v := ?_) rfl (by kernel_rfl) (by kernel_rfl) (by kernel_rfl) (fun _ _ _ h => h) (Or.inl ⟨by kernel_rfl, ?_⟩) (by assumption) ?_
        rotate_left
        · intro W hSw
          try dsimp only at hSw
          go_simp
          all_goals (with_reducible rfl)
        try simp only [Act.put, List.setIfInBounds_toArray, List.set_cons_zero, List.set_cons_succ]
        refine wpAnyH_take (i := 3) (oi := { dst := some 103, op := Go.Op.load 30 (Go.Operand.tmp 102), type := 30, pos := "ref.go:72", after := #[{ on := 2, ground := Go.Ground.data }], guard := none }) (v := ?_) rfl (by kernel_rfl) (by kernel_rfl) (by kernel_rfl) (fun _ _ _ h => h) (Or.inl ⟨by kernel_rfl, ?_⟩) (by assumption) ?_
        rotate_left
        · intro W hSw
          try dsimp only at hSw
          go_simp
          all_goals (with_reducible rfl)
        try simp only [Act.put, List.setIfInBounds_toArray, List.set_cons_zero, List.set_cons_succ]
        refine wpAnyH_take (i := 4) (oi := { dst := some 104, op := Go.Op.move (Go.Operand.tmp 4), type := 3, pos := "ref.go:72", after := #[], guard := none }) (v := ?_) rfl (by kernel_rfl) (by kernel_rfl) (by kernel_rfl) (fun _ _ _ h => h) (Or.inl ⟨by kernel_rfl, ?_⟩) (by assumption) ?_
        rotate_left
        · intro W hSw
          try dsimp only at hSw
          go_simp
          all_goals (with_reducible rfl)
        try simp only [Act.put, List.setIfInBounds_toArray, List.set_cons_zero, List.set_cons_succ]
        refine wpAnyH_take (i := 5) (oi := { dst := some 105, op := Go.Op.indexAddr 30 (Go.Operand.tmp 103) (Go.Operand.tmp 104), type := 0, pos := "ref.go:72", after := #[{ on := 3, ground := Go.Ground.data }, { on := 4, ground := Go.Ground.data }], guard := none }) (v := ?_) rfl (by kernel_rfl) (by kernel_rfl) (by kernel_rfl) (fun _ _ _ h => h) (Or.inl ⟨by kernel_rfl, ?_⟩) (by assumption) ?_
        rotate_left
        · intro W hSw
          try dsimp only at hSw
          go_simp
          all_goals (with_reducible rfl)
        try simp only [Act.put, List.setIfInBounds_toArray, List.set_cons_zero, List.set_cons_succ]
        refine wpAnyH_take (i := 6) (oi := { dst := some 106, op := Go.Op.load 34 (Go.Operand.tmp 105), type := 34, pos := "ref.go:72", after := #[{ on := 5, ground := Go.Ground.data }], guard := none }) (v := ?_) rfl (by kernel_rfl) (by kernel_rfl) (by kernel_rfl) (fun _ _ _ h => h) (Or.inl ⟨by kernel_rfl, ?_⟩) (by assumption) ?_
        rotate_left
        · intro W hSw
          try dsimp only at hSw
          go_simp
          all_goals (with_reducible rfl)
        try simp only [Act.put, List.setIfInBounds_toArray, List.set_cons_zero, List.set_cons_succ]
        refine wpAnyH_ready (rs := [7]) (by kernel_rfl) (by simp) ?_
        refine AllReadyH.cons (o := { dst := some 107, op := Go.Op.call { callee := Go.Callee.value (Go.Operand.func 42), args := #[Go.Operand.tmp 101, Go.Operand.tmp 106], argTypes := #[3, 34] }, type := 4, pos := "ref.go:72", after := #[{ on := 1, ground := Go.Ground.data }, { on := 6, ground := Go.Ground.data }], guard := none }) rfl (fun K hK => ?_) AllReadyH.nil
        go_simp
        refine (HDAT.out _ HBW.out).mono ?_
        rintro e w1 ⟨rfl, hb1⟩
        have HB1 := Lib.hid (HBW.out.trans (hb1.mono HBW.out.size))
        have HW1 := Lib.hid (HW.out.below hb1 HW.out.lt)
        clear hb1
        refine hK.out _ _ (by exact HCS.out _ HB1.out HW1.out) (fun hHeld2 => ?_)
        clear hK K hHeld
        have hHeld := hHeld2
        clear hHeld2
        try simp only [Act.put, List.setIfInBounds_toArray, List.set_cons_zero, List.set_cons_succ]
        refine wpAnyH_take (i := 8) (oi := { dst := some 108, op := Go.Op.unOp Go.UnOp.not 4 (Go.Operand.tmp 107), type := 4, pos := "ref.go:72", after := #[{ on := 7, ground := Go.Ground.data }], guard := none }) (v := ?_) rfl (by kernel_rfl) (by kernel_rfl) (by kernel_rfl) (fun _ _ _ h => h) (Or.inl ⟨by kernel_rfl, ?_⟩) (by assumption) ?_
        rotate_left
        · intro W hSw
          try dsimp only at hSw
          go_simp
          all_goals (with_reducible rfl)
        try simp only [Act.put, List.setIfInBounds_toArray, List.set_cons_zero, List.set_cons_succ]
        refine wpAnyH_take (i := 9) (oi := { dst := some 109, op := Go.Op.move (Go.Operand.tmp 108), type := 4, pos := "ref.go:72", after := #[{ on := 8, ground := Go.Ground.data }, { on := 7, ground := Go.Ground.chain }], guard := none }) (v := ?_) rfl (by kernel_rfl) (by kernel_rfl) (by kernel_rfl) (fun _ _ _ h => h) (Or.inl ⟨by kernel_rfl, ?_⟩) (by assumption) ?_
        rotate_left
        · intro W hSw
          try dsimp only at hSw
          go_simp
          all_goals (with_reducible rfl)
        try simp only [Act.put, List.setIfInBounds_toArray, List.set_cons_zero, List.set_cons_succ]
        refine wpAnyH_take (i := 10) (oi := { dst := some 110, op := Go.Op.fieldAddr 36 (Go.Operand.tmp 1) 6, type := 0, pos := "ref.go:72", after := #[{ on := 9, ground := Go.Ground.guard }], guard := some (9, false) }) rfl (by kernel_rfl) (by kernel_rfl) (by kernel_rfl) (fun _ _ _ h => h) (Or.inr ⟨by kernel_rfl, rfl⟩) (by assumption) ?_
        try simp only [Act.put, List.setIfInBounds_toArray, List.set_cons_zero, List.set_cons_succ]
        refine wpAnyH_take (i := 11) (oi := { dst := some 111, op := Go.Op.load 30 (Go.Operand.tmp 110), type := 30, pos := "ref.go:72", after := #[{ on := 10, ground := Go.Ground.data }, { on := 9, ground := Go.Ground.guard }], guard := some (9, false) }) rfl (by kernel_rfl) (by kernel_rfl) (by kernel_rfl) (fun _ _ _ h => h) (Or.inr ⟨by kernel_rfl, rfl⟩) (by assumption) ?_
        try simp only [Act.put, List.setIfInBounds_toArray, List.set_cons_zero, List.set_cons_succ]
        refine wpAnyH_take (i := 12) (oi := { dst := some 112, op := Go.Op.move (Go.Operand.tmp 4), type := 3, pos := "ref.go:72", after := #[{ on := 9, ground := Go.Ground.guard }], guard := some (9, false) }) rfl (by kernel_rfl) (by kernel_rfl) (by kernel_rfl) (fun _ _ _ h => h) (Or.inr ⟨by kernel_rfl, rfl⟩) (by assumption) ?_
        try simp only [Act.put, List.setIfInBounds_toArray, List.set_cons_zero, List.set_cons_succ]
        refine wpAnyH_take (i := 13) (oi := { dst := some 113, op := Go.Op.slice 30 (Go.Operand.tmp 111) none (some (Go.Operand.tmp 112)) none, type := 30, pos := "ref.go:72", after := #[{ on := 11, ground := Go.Ground.data }, { on := 12, ground := Go.Ground.data }, { on := 9, ground := Go.Ground.guard }], guard := some (9, false) }) rfl (by kernel_rfl) (by kernel_rfl) (by kernel_rfl) (fun _ _ _ h => h) (Or.inr ⟨by kernel_rfl, rfl⟩) (by assumption) ?_
        try simp only [Act.put, List.setIfInBounds_toArray, List.set_cons_zero, List.set_cons_succ]
        refine wpAnyH_take (i := 14) (oi := { dst := some 114, op := Go.Op.fieldAddr 36 (Go.Operand.tmp 1) 6, type := 0, pos := "ref.go:72", after := #[{ on := 9, ground := Go.Ground.guard }], guard := some (9, false) }) rfl (by kernel_rfl) (by kernel_rfl) (by kernel_rfl) (fun _ _ _ h => h) (Or.inr ⟨by kernel_rfl, rfl⟩) (by assumption) ?_
        try simp only [Act.put, List.setIfInBounds_toArray, List.set_cons_zero, List.set_cons_succ]
        refine wpAnyH_take (i := 15) (oi := { dst := some 115, op := Go.Op.load 30 (Go.Operand.tmp 114), type := 30, pos := "ref.go:72", after := #[{ on := 14, ground := Go.Ground.data }, { on := 9, ground := Go.Ground.guard }], guard := some (9, false) }) rfl (by kernel_rfl) (by kernel_rfl) (by kernel_rfl) (fun _ _ _ h => h) (Or.inr ⟨by kernel_rfl, rfl⟩) (by assumption) ?_
        try simp only [Act.put, List.setIfInBounds_toArray, List.set_cons_zero, List.set_cons_succ]
        refine wpAnyH_take (i := 16) (oi := { dst := some 116, op := Go.Op.move (Go.Operand.tmp 4), type := 3, pos := "ref.go:72", after := #[{ on := 9, ground := Go.Ground.guard }], guard := some (9, false) }) rfl (by kernel_rfl) (by kernel_rfl) (by kernel_rfl) (fun _ _ _ h => h) (Or.inr ⟨by kernel_rfl, rfl⟩) (by assumption) ?_
        try simp only [Act.put, List.setIfInBounds_toArray, List.set_cons_zero, List.set_cons_succ]
        refine wpAnyH_take (i := 17) (oi := { dst := some 117, op := Go.Op.indexAddr 30 (Go.Operand.tmp 115) (Go.Operand.tmp 116), type := 0, pos := "ref.go:72", after := #[{ on := 15, ground := Go.Ground.data }, { on := 16, ground := Go.Ground.data }, { on := 9, ground := Go.Ground.guard }], guard := some (9, false) }) rfl (by kernel_rfl) (by kernel_rfl) (by kernel_rfl) (fun _ _ _ h => h) (Or.inr ⟨by kernel_rfl, rfl⟩) (by assumption) ?_
        try simp only [Act.put, List.setIfInBounds_toArray, List.set_cons_zero, List.set_cons_succ]
        refine wpAnyH_take (i := 18) (oi := { dst := some 118, op := Go.Op.load 34 (Go.Operand.tmp 117), type := 34, pos := "ref.go:72", after := #[{ on := 17, ground := Go.Ground.data }, { on := 9, ground := Go.Ground.guard }], guard := some (9, false) }) rfl (by kernel_rfl) (by kernel_rfl) (by kernel_rfl) (fun _ _ _ h => h) (Or.inr ⟨by kernel_rfl, rfl⟩) (by assumption) ?_
        try simp only [Act.put, List.setIfInBounds_toArray, List.set_cons_zero, List.set_cons_succ]
        refine wpAnyH_take (i := 19) (oi := { dst := some 119, op := Go.Op.call { callee := Go.Callee.value (Go.Operand.func 43), args := #[Go.Operand.tmp 113, Go.Operand.tmp 118], argTypes := #[30, 34] }, type := 4, pos := "ref.go:72", after := #[{ on := 13, ground := Go.Ground.data }, { on := 18, ground := Go.Ground.data }, { on := 9, ground := Go.Ground.chain }, { on := 9, ground := Go.Ground.guard }], guard := some (9, false) }) rfl (by kernel_rfl) (by kernel_rfl) (by kernel_rfl) (fun _ _ _ h => h) (Or.inr ⟨by kernel_rfl, rfl⟩) (by assumption) ?_
        try simp only [Act.put, List.setIfInBounds_toArray, List.set_cons_zero, List.set_cons_succ]
        refine wpAnyH_take (i := 20) (oi := { dst := some 120, op := Go.Op.pick (Go.Operand.tmp 109) (Go.Operand.const (Go.Value.bool true)) (Go.Operand.tmp 119), type := 4, pos := "ref.go:72", after := #[{ on := 9, ground := Go.Ground.data }, { on := 19, ground := Go.Ground.data }], guard := none }) (v := ?_) rfl (by kernel_rfl) (by kernel_rfl) (by kernel_rfl) (fun _ _ _ h => h) (Or.inl ⟨by kernel_rfl, ?_⟩) (by assumption) ?_
        rotate_left
        · intro W hSw
          try dsimp only at hSw
          go_simp
          all_goals (with_reducible rfl)
        try simp only [Act.put, List.setIfInBounds_toArray, List.set_cons_zero, List.set_cons_succ]
        refine wpAnyH_done (by kernel_rfl) ?_ _
        go_wp2
        go_ret
        exact ⟨by rw [HV.out, HFF.out]; rfl, HB1.out⟩
      | true =>
        rw [hv] at HDAT HST
        refine wp_region_held_drew (S := fun W => (W.cell? ⟨w.heap.size, 1, none⟩ = some (.int .i64 x.h.typ) ∧ W.cell? ⟨w.heap.size, 6, none⟩ = some (.slice (some ⟨bb, off, none⟩) x.sp.length x.sc)) ∧ (W.cell? ⟨bb, off + k * 5, none⟩ = some (.slice y.Ab d.bytes.length y.cb) ∧ W.cell? ⟨bb, off + k * 5 + 1, none⟩ = some (.slice y.Ah d.host.length y.ch) ∧ W.cell? ⟨bb, off + k * 5 + 2, none⟩ = some (.slice y.Am d.mail.length y.cm) ∧ W.cell? ⟨bb, off + k * 5 + 3, none⟩ = some (.slice y.An d.nums.length y.cn) ∧ W.cell? ⟨bb, off + k * 5 + 4, none⟩ = some (.slice y.At d.texts.length y.ct))) (by kernel_rfl) (by exact HCS.out _ HBW.out HW.out) (fun hHeld => ?_)
        refine wpAnyH_take (i := 0) (oi := { dst := some 100, op := Go.Op.fieldAddr 36 (Go.Operand.tmp 1) 1, type := 0, pos := "ref.go:72", after := #[], guard := none }) (v := ?_) rfl (by kernel_rfl) (by kernel_rfl) (by kernel_rfl) (fun _ _ _ h => h) (Or.inl ⟨by kernel_rfl, ?_⟩) (by assumption) ?_
        rotate_left
        · intro W hSw
          try dsimp only at hSw
          go_simp
          all_goals (with_reducible rfl)
        try simp only [Act.put, List.setIfInBounds_toArray, List.set_cons_zero, List.set_cons_succ]
        refine wpAnyH_take (i := 1) (oi := { dst := some 101, op := Go.Op.load 3 (Go.Operand.tmp 100), type := 3, pos := "ref.go:72", after := #[{ on := 0, ground := Go.Ground.data }], guard := none }) (v := ?_) rfl (by kernel_rfl) (by kernel_rfl) (by kernel_rfl) (fun _ _ _ h => h) (Or.inl ⟨by kernel_rfl, ?_⟩) (by assumption) ?_
        rotate_left
        · intro W hSw
          try dsimp only at hSw
          go_simp
          all_goals (with_reducible rfl)
        try simp only [Act.put, List.setIfInBounds_toArray, List.set_cons_zero, List.set_cons_succ]
        refine wpAnyH_take (i := 2) (oi := { dst := some 102, op := Go.Op.fieldAddr 36 (Go.Operand.tmp 1) 6, type := 0, pos := "ref.go:72", after := #[], guard := none }) (v := ?_) rfl (by kernel_rfl) (by kernel_rfl) (by kernel_rfl) (fun _ _ _ h => h) (Or.inl ⟨by kernel_rfl, ?_⟩) (by assumption) ?_
        rotate_left
        · intro W hSw
          try dsimp only at hSw
          go_simp
          all_goals (with_reducible rfl)
        try simp only [Act.put, List.setIfInBounds_toArray, List.set_cons_zero, List.set_cons_succ]
        refine wpAnyH_take (i := 3) (oi := { dst := some 103, op := Go.Op.load 30 (Go.Operand.tmp 102), type := 30, pos := "ref.go:72", after := #[{ on := 2, ground := Go.Ground.data }], guard := none }) (v := ?_) rfl (by kernel_rfl) (by kernel_rfl) (by kernel_rfl) (fun _ _ _ h => h) (Or.inl ⟨by kernel_rfl, ?_⟩) (by assumption) ?_
        rotate_left
        · intro W hSw
          try dsimp only at hSw
          go_simp
          all_goals (with_reducible rfl)
        try simp only [Act.put, List.setIfInBounds_toArray, List.set_cons_zero, List.set_cons_succ]
        refine wpAnyH_take (i := 4) (oi := { dst := some 104, op := Go.Op.move (Go.Operand.tmp 4), type := 3, pos := "ref.go:72", after := #[], guard := none }) (v := ?_) rfl (by kernel_rfl) (by kernel_rfl) (by kernel_rfl) (fun _ _ _ h => h) (Or.inl ⟨by kernel_rfl, ?_⟩) (by assumption) ?_
        rotate_left
        · intro W hSw
          try dsimp only at hSw
          go_simp
          all_goals (with_reducible rfl)
        try simp only [Act.put, List.setIfInBounds_toArray, List.set_cons_zero, List.set_cons_succ]
        refine wpAnyH_take (i := 5) (oi := { dst := some 105, op := Go.Op.indexAddr 30 (Go.Operand.tmp 103) (Go.Operand.tmp 104), type := 0, pos := "ref.go:72", after := #[{ on := 3, ground := Go.Ground.data }, { on := 4, ground := Go.Ground.data }], guard := none }) (v := ?_) rfl (by kernel_rfl) (by kernel_rfl) (by kernel_rfl) (fun _ _ _ h => h) (Or.inl ⟨by kernel_rfl, ?_⟩) (by assumption) ?_
        rotate_left
        · intro W hSw
          try dsimp only at hSw
          go_simp
          all_goals (with_reducible rfl)
        try simp only [Act.put, List.setIfInBounds_toArray, List.set_cons_zero, List.set_cons_succ]
        refine wpAnyH_take (i := 6) (oi := { dst := some 106, op := Go.Op.load 34 (Go.Operand.tmp 105), type := 34, pos := "ref.go:72", after := #[{ on := 5, ground := Go.Ground.data }], guard := none }) (v := ?_) rfl (by kernel_rfl) (by kernel_rfl) (by kernel_rfl) (fun _ _ _ h => h) (Or.inl ⟨by kernel_rfl, ?_⟩) (by assumption) ?_
        rotate_left
        · intro W hSw
          try dsimp only at hSw
          go_simp
          all_goals (with_reducible rfl)
        try simp only [Act.put, List.setIfInBounds_toArray, List.set_cons_zero, List.set_cons_succ]
        refine wpAnyH_ready (rs := [7]) (by kernel_rfl) (by simp) ?_
        refine AllReadyH.cons (o := { dst := some 107, op := Go.Op.call { callee := Go.Callee.value (Go.Operand.func 42), args := #[Go.Operand.tmp 101, Go.Operand.tmp 106], argTypes := #[3, 34] }, type := 4, pos := "ref.go:72", after := #[{ on := 1, ground := Go.Ground.data }, { on := 6, ground := Go.Ground.data }], guard := none }) rfl (fun K hK => ?_) AllReadyH.nil
        go_simp
        refine (HDAT.out _ HBW.out).mono ?_
        rintro e w1 ⟨rfl, hb1⟩
        have HB1 := Lib.hid (HBW.out.trans (hb1.mono HBW.out.size))
        have HW1 := Lib.hid (HW.out.below hb1 HW.out.lt)
        clear hb1
        refine hK.out _ _ (by exact HCS.out _ HB1.out HW1.out) (fun hHeld2 => ?_)
        clear hK K hHeld
        have hHeld := hHeld2
        clear hHeld2
        try simp only [Act.put, List.setIfInBounds_toArray, List.set_cons_zero, List.set_cons_succ]
        refine wpAnyH_take (i := 8) (oi := { dst := some 108, op := Go.Op.unOp Go.UnOp.not 4 (Go.Operand.tmp 107), type := 4, pos := "ref.go:72", after := #[{ on := 7, ground := Go.Ground.data }], guard := none }) (v := ?_) rfl (by kernel_rfl) (by kernel_rfl) (by kernel_rfl) (fun _ _ _ h => h) (Or.inl ⟨by kernel_rfl, ?_⟩) (by assumption) ?_
        rotate_left
        · intro W hSw
          try dsimp only at hSw
          go_simp
          all_goals (with_reducible rfl)
        try simp only [Act.put, List.setIfInBounds_toArray, List.set_cons_zero, List.set_cons_succ]
        refine wpAnyH_take (i := 9) (oi := { dst := some 109, op := Go.Op.move (Go.Operand.tmp 108), type := 4, pos := "ref.go:72", after := #[{ on := 8, ground := Go.Ground.data }, { on := 7, ground := Go.Ground.chain }], guard := none }) (v := ?_) rfl (by kernel_rfl) (by kernel_rfl) (by kernel_rfl) (fun _ _ _ h => h) (Or.inl ⟨by kernel_rfl, ?_⟩) (by assumption) ?_
        rotate_left
        · intro W hSw
          try dsimp only at hSw
          go_simp
          all_goals (with_reducible rfl)
        try simp only [Act.put, List.setIfInBounds_toArray, List.set_cons_zero, List.set_cons_succ]
        refine wpAnyH_take (i := 10) (oi := { dst := some 110, op := Go.Op.fieldAddr 36 (Go.Operand.tmp 1) 6, type := 0, pos := "ref.go:72", after := #[{ on := 9, ground := Go.Ground.guard }], guard := some (9, false) }) (v := ?_) rfl (by kernel_rfl) (by kernel_rfl) (by kernel_rfl) (fun _ _ _ h => h) (Or.inl ⟨by kernel_rfl, ?_⟩) (by assumption) ?_
        rotate_left
        · intro W hSw
          try dsimp only at hSw
          go_simp
          all_goals (with_reducible rfl)
        try simp only [Act.put, List.setIfInBounds_toArray, List.set_cons_zero, List.set_cons_succ]
        refine wpAnyH_take (i := 11) (oi := { dst := some 111, op := Go.Op.load 30 (Go.Operand.tmp 110), type := 30, pos := "ref.go:72", after := #[{ on := 10, ground := Go.Ground.data }, { on := 9, ground := Go.Ground.guard }], guard := some (9, false) }) (v := ?_) rfl (by kernel_rfl) (by kernel_rfl) (by kernel_rfl) (fun _ _ _ h => h) (Or.inl ⟨by kernel_rfl, ?_⟩) (by assumption) ?_
        rotate_left
        · intro W hSw
          try dsimp only at hSw
          go_simp
          all_goals (with_reducible rfl)
        try simp only [Act.put, List.setIfInBounds_toArray, List.set_cons_zero, List.set_cons_succ]
        refine wpAnyH_take (i := 12) (oi := { dst := some 112, op := Go.Op.move (Go.Operand.tmp 4), type := 3, pos := "ref.go:72", after := #[{ on := 9, ground := Go.Ground.guard }], guard := some (9, false) }) (v := ?_) rfl (by kernel_rfl) (by kernel_rfl) (by kernel_rfl) (fun _ _ _ h => h) (Or.inl ⟨by kernel_rfl, ?_⟩) (by assumption) ?_
        rotate_left
        · intro W hSw
          try dsimp only at hSw
          go_simp
          all_goals (with_reducible rfl)
        try simp only [Act.put, List.setIfInBounds_toArray, List.set_cons_zero, List.set_cons_succ]
        refine wpAnyH_take (i := 13) (oi := { dst := some 113, op := Go.Op.slice 30 (Go.Operand.tmp 111) none (some (Go.Operand.tmp 112)) none, type := 30, pos := "ref.go:72", after := #[{ on := 11, ground := Go.Ground.data }, { on := 12, ground := Go.Ground.data }, { on := 9, ground := Go.Ground.guard }], guard := some (9, false) }) (v := ?_) rfl (by kernel_rfl) (by kernel_rfl) (by kernel_rfl) (fun _ _ _ h => h) (Or.inl ⟨by kernel_rfl, ?_⟩) (by assumption) ?_
        rotate_left
        · intro W hSw
          try dsimp only at hSw
          go_simp
          all_goals (with_reducible rfl)
        try simp only [Act.put, List.setIfInBounds_toArray, List.set_cons_zero, List.set_cons_succ]
        refine wpAnyH_take (i := 14) (oi := { dst := some 114, op := Go.Op.fieldAddr 36 (Go.Operand.tmp 1) 6, type := 0, pos := "ref.go:72", after := #[{ on := 9, ground := Go.Ground.guard }], guard := some (9, false) }) (v := ?_) rfl (by kernel_rfl) (by kernel_rfl) (by kernel_rfl) (fun _ _ _ h => h) (Or.inl ⟨by kernel_rfl, ?_⟩) (by assumption) ?_
        rotate_left
        · intro W hSw
          try dsimp only at hSw
          go_simp
          all_goals (with_reducible rfl)
        try simp only [Act.put, List.setIfInBounds_toArray, List.set_cons_zero, List.set_cons_succ]
        refine wpAnyH_take (i := 15) (oi := { dst := some 115, op := Go.Op.load 30 (Go.Operand.tmp 114), type := 30, pos := "ref.go:72", after := #[{ on := 14, ground := Go.Ground.data }, { on := 9, ground := Go.Ground.guard }], guard := some (9, false) }) (v := ?_) rfl (by kernel_rfl) (by kernel_rfl) (by kernel_rfl) (fun _ _ _ h => h) (Or.inl ⟨by kernel_rfl, ?_⟩) (by assumption) ?_
        rotate_left
        · intro W hSw
          try dsimp only at hSw
          go_simp
          all_goals (with_reducible rfl)
        try simp only [Act.put, List.setIfInBounds_toArray, List.set_cons_zero, List.set_cons_succ]
        refine wpAnyH_take (i := 16) (oi := { dst := some 116, op := Go.Op.move (Go.Operand.tmp 4), type := 3, pos := "ref.go:72", after := #[{ on := 9, ground := Go.Ground.guard }], guard := some (9, false) }) (v := ?_) rfl (by kernel_rfl) (by kernel_rfl) (by kernel_rfl) (fun _ _ _ h => h) (Or.inl ⟨by kernel_rfl, ?_⟩) (by assumption) ?_
        rotate_left
        · intro W hSw
          try dsimp only at hSw
          go_simp
          all_goals (with_reducible rfl)
        try simp only [Act.put, List.setIfInBounds_toArray, List.set_cons_zero, List.set_cons_succ]
        refine wpAnyH_take (i := 17) (oi := { dst := some 117, op := Go.Op.indexAddr 30 (Go.Operand.tmp 115) (Go.Operand.tmp 116), type := 0, pos := "ref.go:72", after := #[{ on := 15, ground := Go.Ground.data }, { on := 16, ground := Go.Ground.data }, { on := 9, ground := Go.Ground.guard }], guard := some (9, false) }) (v := ?_) rfl (by kernel_rfl) (by kernel_rfl) (by kernel_rfl) (fun _ _ _ h => h) (Or.inl ⟨by kernel_rfl, ?_⟩) (by assumption) ?_
        rotate_left
        · intro W hSw
          try dsimp only at hSw
          go_simp
          all_goals (with_reducible rfl)
        try simp only [Act.put, List.setIfInBounds_toArray, List.set_cons_zero, List.set_cons_succ]
        refine wpAnyH_take (i := 18) (oi := { dst := some 118, op := Go.Op.load 34 (Go.Operand.tmp 117), type := 34, pos := "ref.go:72", after := #[{ on := 17, ground := Go.Ground.data }, { on := 9, ground := Go.Ground.guard }], guard := some (9, false) }) (v := ?_) rfl (by kernel_rfl) (by kernel_rfl) (by kernel_rfl) (fun _ _ _ h => h) (Or.inl ⟨by kernel_rfl, ?_⟩) (by assumption) ?_
        rotate_left
        · intro W hSw
          try dsimp only at hSw
          go_simp
          all_goals (with_reducible rfl)
        try simp only [Act.put, List.setIfInBounds_toArray, List.set_cons_zero, List.set_cons_succ]
        refine wpAnyH_ready (rs := [19]) (by kernel_rfl) (by simp) ?_
        refine AllReadyH.cons (o := { dst := some 119, op := Go.Op.call { callee := Go.Callee.value (Go.Operand.func 43), args := #[Go.Operand.tmp 113, Go.Operand.tmp 118], argTypes := #[30, 34] }, type := 4, pos := "ref.go:72", after := #[{ on := 13, ground := Go.Ground.data }, { on := 18, ground := Go.Ground.data }, { on := 9, ground := Go.Ground.chain }, { on := 9, ground := Go.Ground.guard }], guard := some (9, false) }) rfl (fun K hK => ?_) AllReadyH.nil
        go_simp
        refine (HIN.out _ HB1.out).mono ?_
        rintro e w2 ⟨rfl, hb2⟩
        have HB2 := Lib.hid (HB1.out.trans (hb2.mono HB1.out.size))
        have HW2 := Lib.hid (HW1.out.below hb2 HW1.out.lt)
        clear hb2
        refine hK.out _ _ (by exact HCS.out _ HB2.out HW2.out) (fun hHeld2 => ?_)
        clear hK K hHeld
        have hHeld := hHeld2
        clear hHeld2
        try simp only [Act.put, List.setIfInBounds_toArray, List.set_cons_zero, List.set_cons_succ]
        refine wpAnyH_take (i := 20) (oi := { dst := some 120, op := Go.Op.pick (Go.Operand.tmp 109) (Go.Operand.const (Go.Value.bool true)) (Go.Operand.tmp 119), type := 4, pos := "ref.go:72", after := #[{ on := 9, ground := Go.Ground.data }, { on := 19, ground := Go.Ground.data }], guard := none }) (v := ?_) rfl (by kernel_rfl) (by kernel_rfl) (by kernel_rfl) (fun _ _ _ h => h) (Or.inl ⟨by kernel_rfl, ?_⟩) (by assumption) ?_
        rotate_left
        · intro W hSw
          try dsimp only at hSw
          go_simp
          all_goals (with_reducible rfl)
        try simp only [Act.put, List.setIfInBounds_toArray, List.set_cons_zero, List.set_cons_succ]
        refine wpAnyH_done (by kernel_rfl) ?_ _
        cases hn : hasD (dats (x.sp.take k)) d with
        | true =>
          have HFF := Lib.hid (HF.out (by rw [HST.out, hn]; simp))
          go_wp2
          go_ret
          exact ⟨by rw [HV.out, HFF.out]; rfl, HB2.out⟩
        | false =>
          have HFF := Lib.hid (show setOk x.h.typ (dats (x.sp.take (k + 1))) = true by rw [HST.out, hn, HS.out]; rfl)
          go_wp2
          exact ⟨⟨k + 1, by omega, by go_num, HFF.out, HW2.out, HB2.out⟩, by simp [intOf]; omega⟩
    · obtain rfl : k = x.sp.length := by omega
      have HF := Lib.hid (show setOk x.h.typ (dats x.sp) = true by have h := HS.out; rwa [List.take_length] at h)
      go_wp2
      go_ret
      exact ⟨by rw [HV.out, HF.out]; rfl, HB0.out⟩

end Go.Proofs.YtmbcbfalgdgmjaaGreatDoor

namespace Go.Proofs.YtmbcbfalgdgmjaaGreatDoor
open Go.RowKit

def ivT (n : Int) : Value := .int .i64 n

theorem allT_snoc {n : List Int} {k : Nat} (h : k < n.length) (ha : timesB (n.take k) = true) (hp : timeB n[k] = true) : timesB (n.take (k + 1)) = true := by
  unfold timesB at ha ⊢
  rw [List.take_succ_eq_append_getElem h, List.all_append, ha]
  simp [hp]
theorem allT_not {n : List Int} {k : Nat} (h : k < n.length) (hp : timeB n[k] = false) : timesB n = false := by
  unfold timesB
  rw [List.all_eq_false]
  exact ⟨n[k], List.getElem_mem h, by simp [hp]⟩
theorem Row.ivT_at {w : World} {H : Nat} {A : Option Addr} {l : List Int} (h : Row w H A (l.map ivT)) {k : Nat} (hk : k < l.length) : ∃ b off, A = some ⟨b, off, none⟩ ∧ b < H ∧ w.cell? ⟨b, off + k, none⟩ = some (.int .i64 l[k]) := by
  obtain ⟨b, off, e, hb, hc⟩ := h.at_ (k := k) (by rw [List.length_map]; exact hk)
  exact ⟨b, off, e, hb, by rw [hc, List.getElem_map]; rfl⟩

def TimesRel (l : List Int) (i : Value) : Prop := ∃ k : Nat, k ≤ l.length ∧ i = .int .i64 k ∧ timesB (l.take k) = true

set_option maxHeartbeats 400000 in
theorem may_any (A : Option Addr) (m c H : Nat) (l : List Int) (w : World) (hl : l.length = m) (hA : Row w H A (l.map ivT)) (hm : m ≤ maxLen) :
    Calls Tryz.prog 95 #[.slice A m c] w (Told w (.bool (timesB l))) := by
  subst hl
  unfold maxLen at hm
  have HA := Lib.hid hA
  clear hA
  go_enter Tryz.func95, Tryz.ntmps95
  go_wp2
  go_loop [7] (TimesRel l) (fun i => l.length - (intOf i).toNat)
  case atStart => exact ⟨0, Nat.zero_le _, rfl, by simp [timesB]⟩
  case round =>
    obtain ⟨k, hk, rfl, hall⟩ := hrel
    have HK := Lib.hid hall
    clear hall
    by_cases hlt : k < l.length
    · obtain ⟨b, off, rfl, _, hc⟩ := HA.out.ivT_at hlt
      generalize hx : l[k] = x at hc
      have HX := Lib.hid hx
      clear hx
      by_cases h1 : x < 0
      · have HF := Lib.hid (allT_not hlt (by rw [HX.out]; exact timeB_neg h1))
        go_wp2
        go_ret
        exact ⟨by rw [HF.out]; rfl, rfl⟩
      · by_cases h2 : 36028797018963968 < x
        · have hd2 : decide (36028797018963968 < x) = true := by simp; omega
          have HF := Lib.hid (allT_not hlt (by rw [HX.out]; exact timeB_big h2))
          go_wp2
          go_ret
          exact ⟨by rw [HF.out]; rfl, rfl⟩
        · have hd2 : decide (36028797018963968 < x) = false := by simp; omega
          have HF := Lib.hid (allT_snoc hlt HK.out (by rw [HX.out]; exact timeB_true (by omega) (by omega)))
          go_wp2
          exact ⟨⟨k + 1, by omega, by go_num, HF.out⟩, by simp [intOf]; omega⟩
    · obtain rfl : k = l.length := by omega
      go_wp2
      go_ret
      exact ⟨ret_bool (by have h := HK.out; rw [List.take_length] at h; exact h.symm), rfl⟩

end Go.Proofs.YtmbcbfalgdgmjaaGreatDoor

namespace Go.Proofs.YtmbcbfalgdgmjaaGreatDoor
open Go.RowKit

theorem row_made_ints (w : World) (l : List Int) (cs : Array Value) (t : TypeId) (h : cs.toList = l.map ivT) : Row (w.alloc (.cells cs t)) (w.heap.size + 1) (some ⟨w.heap.size, 0, none⟩) (l.map ivT) := by
  rw [← h]
  exact Row.made w cs t

set_option maxHeartbeats 400000 in
theorem left_any (g t n : Int) (w : World) : Calls Tryz.prog 86 #[.int .i64 g, .int .i64 t, .int .i64 n] w (Gave w (.int .i64 (leftI g t n))) := by
  have hm := fun W (h : W = w.alloc (.cells #[.int .i64 g, .int .i64 t, .int .i64 n] 3)) => may_any (some ⟨w.heap.size, 0, none⟩) 3 3 (w.heap.size + 1) [g, t, n] W rfl (by subst h; exact row_made_ints w _ _ _ rfl) (by unfold maxLen; omega)
  have hb : Below w.heap.size w (w.alloc (.cells #[.int .i64 g, .int .i64 t, .int .i64 n] 3)) := (Below.refl w.heap.size w).alloc (Nat.le_refl _) _
  have HB := Lib.hid hb
  clear hb
  cases hs : timesB [g, t, n]
  · rw [hs] at hm
    have HM := Lib.hid hm
    have HV := Lib.hid (leftI_no hs)
    clear hm hs
    go_enter Tryz.func86, Tryz.ntmps86
    go_wp2_with (go_at_call 95; refine (HM.out _ rfl).mono ?_; rintro e w' ⟨rfl, rfl⟩)
    go_ret
    exact ⟨ret_int (by rw [HV.out]), HB.out⟩
  · rw [hs] at hm
    have HM := Lib.hid hm
    obtain ⟨h1, h2, h3⟩ := times3_yes hs
    have HS := Lib.hid hs
    clear hm hs
    by_cases hn : n < g
    · have hx : max n g = g := by omega
      by_cases hy : g + t - g ≤ 0
      · have hz : max (g + t - g) 0 = 0 := by omega
        have HV := Lib.hid (leftI_end (g := g) (t := t) (n := n) (by rw [if_pos hn]; exact hy))
        go_enter Tryz.func86, Tryz.ntmps86
        go_wp2_with (go_at_call 95; refine (HM.out _ rfl).mono ?_; rintro e w' ⟨rfl, rfl⟩)
        go_ret
        exact ⟨ret_int (by rw [HV.out]; first | done | omega), HB.out⟩
      · have hz : max (g + t - g) 0 = g + t - g := by omega
        have HV := Lib.hid (leftI_some (g := g) (t := t) (n := n) HS.out (by rw [if_pos hn]; exact hy))
        go_enter Tryz.func86, Tryz.ntmps86
        go_wp2_with (go_at_call 95; refine (HM.out _ rfl).mono ?_; rintro e w' ⟨rfl, rfl⟩)
        go_ret
        exact ⟨ret_int (by rw [HV.out, if_pos hn]), HB.out⟩
    · have hx : max n g = n := by omega
      by_cases hy : g + t - n ≤ 0
      · have hz : max (g + t - n) 0 = 0 := by omega
        have HV := Lib.hid (leftI_end (g := g) (t := t) (n := n) (by rw [if_neg hn]; exact hy))
        go_enter Tryz.func86, Tryz.ntmps86
        go_wp2_with (go_at_call 95; refine (HM.out _ rfl).mono ?_; rintro e w' ⟨rfl, rfl⟩)
        all_goals (go_ret; exact ⟨ret_int (by rw [HV.out]; try omega), HB.out⟩)
      · have hz : max (g + t - n) 0 = g + t - n := by omega
        have HV := Lib.hid (leftI_some (g := g) (t := t) (n := n) HS.out (by rw [if_neg hn]; exact hy))
        go_enter Tryz.func86, Tryz.ntmps86
        go_wp2_with (go_at_call 95; refine (HM.out _ rfl).mono ?_; rintro e w' ⟨rfl, rfl⟩)
        go_ret
        exact ⟨ret_int (by rw [HV.out, if_neg (Int.not_lt.2 hn)]), HB.out⟩

theorem gtr0 (x : Int) : decide (x > 0) = decide (0 < x) := rfl

set_option maxHeartbeats 400000 in
theorem fresh_any (g t n : Int) (w : World) : Calls Tryz.prog 57 #[.int .i64 g, .int .i64 t, .int .i64 n] w (Gave w (.bool (decide (0 < leftI g t n)))) := by
  have HM := Lib.hid (fun W => left_any g t n W)
  generalize leftI g t n = x at HM ⊢
  go_enter Tryz.func57, Tryz.ntmps57
  go_wp2_with (go_at_call 86; refine (HM.out _).mono ?_; rintro e w' ⟨rfl, hb⟩)
  go_ret
  exact ⟨rfl, hb⟩

end Go.Proofs.YtmbcbfalgdgmjaaGreatDoor

namespace Go.Proofs.YtmbcbfalgdgmjaaGreatDoor
open Go.RowKit

theorem times4_three {g t k n : Int} (h : timesB [g, t, k, n] = true) : timesB [g, t, n] = true ∧ 0 ≤ k ∧ k ≤ 36028797018963968 := by
  rw [times4] at h
  simp only [Bool.and_eq_true] at h
  exact ⟨times3_true h.1 h.2.1 h.2.2.2, timeB_yes h.2.2.1⟩
theorem staleB_no {g t k n : Int} (h : timesB [g, t, k, n] = false) : staleB g t k n = false := by unfold staleB; rw [h]; rfl
theorem staleB_fresh {g t k n : Int} (h : 0 < leftI g t n) : staleB g t k n = false := by
  unfold staleB
  rw [show (leftI g t n == 0) = false from beq_eq_false_iff_ne.2 (by omega)]
  simp
theorem staleB_yes {g t k n : Int} (h : timesB [g, t, k, n] = true) (h' : ¬ 0 < leftI g t n) : staleB g t k n = decide (n < g + t + k) := by
  have h1 := leftI_bounds g t n
  unfold staleB
  rw [h, show leftI g t n = 0 by omega]
  rfl

set_option maxHeartbeats 400000 in
theorem stale_any (g t k n : Int) (w : World) : Calls Tryz.prog 72 #[.int .i64 g, .int .i64 t, .int .i64 k, .int .i64 n] w (Gave w (.bool (staleB g t k n))) := by
  have hm := fun W (h : W = w.alloc (.cells #[.int .i64 g, .int .i64 t, .int .i64 k, .int .i64 n] 3)) => may_any (some ⟨w.heap.size, 0, none⟩) 4 4 (w.heap.size + 1) [g, t, k, n] W rfl (by subst h; exact row_made_ints w _ _ _ rfl) (by unfold maxLen; omega)
  have hb : Below w.heap.size w (w.alloc (.cells #[.int .i64 g, .int .i64 t, .int .i64 k, .int .i64 n] 3)) := (Below.refl w.heap.size w).alloc (Nat.le_refl _) _
  have HB := Lib.hid hb
  clear hb
  cases hs : timesB [g, t, k, n]
  · rw [hs] at hm
    have HM := Lib.hid hm
    have HV := Lib.hid (staleB_no hs)
    clear hm hs
    go_enter Tryz.func72, Tryz.ntmps72
    go_wp2_with (go_at_call 95; refine (HM.out _ rfl).mono ?_; rintro e w' ⟨rfl, rfl⟩)
    go_ret
    exact ⟨ret_bool (by rw [HV.out]), HB.out⟩
  · rw [hs] at hm
    have HM := Lib.hid hm
    have hs3 := (times4_three hs).1
    obtain ⟨h1, h2, h3⟩ := times3_yes hs3
    obtain ⟨h4, h5⟩ := (times4_three hs).2
    have HC := Lib.hid (fun W => fresh_any g t n W)
    by_cases hf : 0 < leftI g t n
    · have HV := Lib.hid (staleB_fresh (k := k) hf)
      have hd : decide (0 < leftI g t n) = true := decide_eq_true hf
      rw [hd] at HC
      clear hm hs hs3 hf hd
      go_enter Tryz.func72, Tryz.ntmps72
      go_wp2_with (first
        | (go_at_call 95; refine (HM.out _ rfl).mono ?_; rintro e w' ⟨rfl, rfl⟩)
        | (go_at_call 57; refine (HC.out _).mono ?_; rintro e w2 ⟨rfl, hb2⟩))
      go_ret
      exact ⟨ret_bool (by rw [HV.out]), HB.out.trans (hb2.mono (by simp))⟩
    · have HV := Lib.hid (staleB_yes hs hf)
      have hd : decide (0 < leftI g t n) = false := decide_eq_false hf
      rw [hd] at HC
      clear hm hs hs3 hf hd
      go_enter Tryz.func72, Tryz.ntmps72
      go_wp2_with (first
        | (go_at_call 95; refine (HM.out _ rfl).mono ?_; rintro e w' ⟨rfl, rfl⟩)
        | (go_at_call 57; refine (HC.out _).mono ?_; rintro e w2 ⟨rfl, hb2⟩))
      go_ret
      exact ⟨ret_bool (by rw [HV.out]), HB.out.trans (hb2.mono (by simp))⟩

theorem tellI_no {g t n : Int} (h : timesB [g, t, n] = false) : tellI g t n = 0 := by unfold tellI; rw [if_neg (by rw [h]; simp)]
theorem tellI_left {g t n : Int} (h : 0 < leftI g t n) : tellI g t n = leftI g t n := by
  unfold tellI
  cases hs : timesB [g, t, n]
  · rw [leftI_no hs] at h; omega
  · rw [if_pos rfl, if_pos h]
theorem tellI_end {g t n : Int} (h : timesB [g, t, n] = true) (h' : ¬ 0 < leftI g t n) : tellI g t n = 30 := by unfold tellI; rw [if_pos h, if_neg h']












































theorem clampI_neg {t : Int} {b : Bool} (h : t < 0) : clampI t b = 0 := by unfold clampI; rw [if_pos h]
theorem clampI_n {t : Int} (h : ¬ t < 0) (h' : ¬ 10800 < t) (b : Bool) : clampI t b = t := by
  unfold clampI; rw [if_neg h, if_neg (fun x => h' x.2), if_neg (by omega)]
theorem clampI_neg_big {t : Int} (h' : 10800 < t) : clampI t true = 10800 := by
  unfold clampI; rw [if_neg (by omega), if_pos ⟨rfl, h'⟩]
theorem clampI_mid {t : Int} (h : ¬ t < 0) (h' : ¬ 604800 < t) : clampI t false = t := by
  unfold clampI; rw [if_neg h, if_neg (by simp), if_neg h']
theorem clampI_big {t : Int} (h' : 604800 < t) : clampI t false = 604800 := by
  unfold clampI; rw [if_neg (by omega), if_neg (by simp), if_pos h']

set_option maxHeartbeats 400000 in
theorem clamp_any (t : Int) (b : Bool) (w : World) : Calls Tryz.prog 101 #[.int .i64 t, .bool b] w (Told w (.int .i64 (clampI t b))) := by
  by_cases h : t < 0
  · have HV := Lib.hid (clampI_neg (b := b) h)
    cases b <;> (go_enter Tryz.func101, Tryz.ntmps101; go_wp2; go_ret; exact ⟨ret_int (by rw [HV.out]; try omega), rfl⟩)
  · cases b
    · by_cases h2 : 604800 < t
      · have HV := Lib.hid (clampI_big h2)
        go_enter Tryz.func101, Tryz.ntmps101
        go_wp2
        go_ret
        exact ⟨ret_int (by rw [HV.out]; try omega), rfl⟩
      · have HV := Lib.hid (clampI_mid h h2)
        go_enter Tryz.func101, Tryz.ntmps101
        go_wp2
        go_ret
        exact ⟨ret_int (by rw [HV.out]; try omega), rfl⟩
    · by_cases h2 : 10800 < t
      · have HV := Lib.hid (clampI_neg_big h2)
        go_enter Tryz.func101, Tryz.ntmps101
        go_wp2
        go_ret
        exact ⟨ret_int (by rw [HV.out]; try omega), rfl⟩
      · have HV := Lib.hid (clampI_n h h2 true)
        go_enter Tryz.func101, Tryz.ntmps101
        go_wp2
        go_ret
        exact ⟨ret_int (by rw [HV.out]; try omega), rfl⟩

end Go.Proofs.YtmbcbfalgdgmjaaGreatDoor

namespace Go.Proofs.YtmbcbfalgdgmjaaGreatDoor
open Go.RowKit

set_option maxHeartbeats 400000 in
theorem ftime_any (t : Int) (w : World) : Calls Tryz.prog 56 #[.int .i64 t] w (Told w (.bool (timeB t))) := by
  have HS := Lib.hid (show timeB t = (decide (0 ≤ t) && decide (t ≤ 36028797018963968)) from rfl)
  cases h1 : decide (0 ≤ t) with
  | false =>
    rw [h1] at HS
    go_enter Tryz.func56, Tryz.ntmps56
    go_wp2
    go_ret
    exact ⟨by rw [HS.out]; rfl, rfl⟩
  | true =>
    rw [h1] at HS
    go_enter Tryz.func56, Tryz.ntmps56
    go_wp2
    go_ret
    exact ⟨by rw [HS.out]; simp, rfl⟩

set_option maxHeartbeats 1000000 in
theorem fkind_any (k : Int) (w : World) : Calls Tryz.prog 81 #[.int .i64 k] w (Told w (.bool (typedB k))) := by
  by_cases c1 : k < 1
  · have t1 : decide (1 ≤ k) = false := decide_eq_false (by omega)
    have HV := Lib.hid (typedB_low c1)
    clear c1
    go_enter Tryz.func81, Tryz.ntmps81
    go_wp2
    go_ret
    exact ⟨by rw [HV.out]; rfl, rfl⟩
  have t1 : decide (1 ≤ k) = true := decide_eq_true (by omega)
  by_cases c2 : 65534 < k
  · have t2 : decide (k ≤ 65534) = false := decide_eq_false (by omega)
    have HV := Lib.hid (typedB_high c2)
    clear c1 c2
    go_enter Tryz.func81, Tryz.ntmps81
    go_wp2
    go_ret
    exact ⟨by rw [HV.out]; rfl, rfl⟩
  have t2 : decide (k ≤ 65534) = true := decide_eq_true (by omega)
  by_cases c3 : k = 41
  · subst c3
    have HV := Lib.hid typedB_41
    clear c1 c2
    go_enter Tryz.func81, Tryz.ntmps81
    go_wp2
    go_ret
    exact ⟨by rw [HV.out]; rfl, rfl⟩
  have t3 : (k != 41) = true := by rw [bne_iff_ne]; exact c3
  by_cases c4 : k = 255
  · subst c4
    have HV := Lib.hid typedB_255
    clear c1 c2
    go_enter Tryz.func81, Tryz.ntmps81
    go_wp2
    go_ret
    exact ⟨by rw [HV.out]; rfl, rfl⟩
  have t4 : (k != 255) = true := by rw [bne_iff_ne]; exact c4
  have HV := Lib.hid (typedB_yes (by omega) (by omega) c3 c4)
  clear c1 c2 c3 c4
  go_enter Tryz.func81, Tryz.ntmps81
  go_wp2
  go_ret
  exact ⟨by rw [HV.out]; rfl, rfl⟩

/-- Is a TTL within the bounds? -/
def fitT (t : Int) (b : Bool) : Bool := t == clampI t b
set_option maxHeartbeats 400000 in
theorem fitsT_any (t : Int) (b : Bool) (w : World) : Calls Tryz.prog 82 #[.int .i64 t, .bool b] w (Told w (.bool (fitT t b))) := by
  have HC := Lib.hid (clamp_any t b w)
  have HV := Lib.hid (show fitT t b = (t == clampI t b) from rfl)
  go_enter Tryz.func82, Tryz.ntmps82
  go_wp2_with fail
  refine HC.out.mono ?_
  rintro e w1 ⟨rfl, rfl⟩
  go_wp2
  go_ret
  exact ⟨by rw [HV.out]; rfl, rfl⟩

/-- What soundSet lays for its closure. -/
structure DBox (w : World) (g : Nat) (x : DV) (a : Dt) : Prop where
  bg : Whole w g 34 [x.vb a, x.vh a, x.vm a, x.vn a, x.vt a]
  d : DataAt w w.heap.size x a
theorem DBox.below {w w' : World} {g : Nat} {x : DV} {a : Dt} (h : DBox w g x a) (hb : Below w.heap.size w w') : DBox w' g x a :=
  ⟨h.bg.below hb h.bg.lt, (h.d.below hb).mono hb.size⟩

set_option maxHeartbeats 1000000 in
theorem same1_any (w : World) (g : Nat) (x y : DV) (a b : Dt) (h : DBox w g x a) (hy : DataAt w w.heap.size y b) (la : Wide a) (lb : Wide b) :
    Calls Tryz.prog 102 #[y.val b, .pointer (some ⟨g, 0, none⟩)] w (Gave w (.bool (sameD a b))) := by
  obtain ⟨W, hW⟩ : ∃ W, W = w.alloc (.cells #[.slice y.Ab b.bytes.length y.cb, .slice y.Ah b.host.length y.ch, .slice y.Am b.mail.length y.cm, .slice y.An b.nums.length y.cn, .slice y.At b.texts.length y.ct] 34) := ⟨_, rfl⟩
  have hB : Below w.heap.size w W := by rw [hW]; exact (Below.refl _ _).alloc (Nat.le_refl _) _
  have hx := h.below hB
  have hwh : Whole W w.heap.size 34 [y.vb b, y.vh b, y.vm b, y.vn b, y.vt b] := by rw [hW]; exact Whole.made w [y.vb b, y.vh b, y.vm b, y.vn b, y.vt b] _
  have c0 : W.cell? ⟨w.heap.size, 0, none⟩ = some (.slice y.Ab b.bytes.length y.cb) := hwh.cell 0
  have c1 : W.cell? ⟨w.heap.size, 1, none⟩ = some (.slice y.Ah b.host.length y.ch) := hwh.cell 1
  have c2 : W.cell? ⟨w.heap.size, 2, none⟩ = some (.slice y.Am b.mail.length y.cm) := hwh.cell 2
  have c3 : W.cell? ⟨w.heap.size, 3, none⟩ = some (.slice y.An b.nums.length y.cn) := hwh.cell 3
  have c4 : W.cell? ⟨w.heap.size, 4, none⟩ = some (.slice y.At b.texts.length y.ct) := hwh.cell 4
  have d0 : W.cell? ⟨g, 0, none⟩ = some (.slice x.Ab a.bytes.length x.cb) := hx.bg.cell 0
  have d1 : W.cell? ⟨g, 1, none⟩ = some (.slice x.Ah a.host.length x.ch) := hx.bg.cell 1
  have d2 : W.cell? ⟨g, 2, none⟩ = some (.slice x.Am a.mail.length x.cm) := hx.bg.cell 2
  have d3 : W.cell? ⟨g, 3, none⟩ = some (.slice x.An a.nums.length x.cn) := hx.bg.cell 3
  have d4 : W.cell? ⟨g, 4, none⟩ = some (.slice x.At a.texts.length x.ct) := hx.bg.cell 4
  have HC := Lib.hid (dsame_wide y x b a W ((hy.below hB).mono hB.size) hx.d lb la)
  have HB := Lib.hid hB
  have HT := Lib.hid (sameD_turn b a)
  clear hB hx hwh hy la lb h
  subst hW
  go_enter Tryz.func102, Tryz.ntmps102
  go_wp2_with fail
  refine HC.out.mono ?_
  rintro e w1 ⟨rfl, hb1⟩
  have HB1 := Lib.hid hb1
  clear hb1
  go_wp2
  go_ret
  exact ⟨by rw [HT.out]; rfl, HB.out.trans (HB1.out.mono HB.out.size)⟩

set_option maxHeartbeats 2000000 in
theorem index_same (w : World) (g : Nat) (x : DV) (a : Dt) (A : Option Addr) (c : Nat) (ps : List (DV × Dt)) (h : DBox w g x a) (hp : DsAt w w.heap.size A ps) (la : Wide a) (hc : ∀ p ∈ ps, Wide p.2) (hl : ps.length ≤ maxLen) :
    Calls Tryz.prog 128 #[.slice A ps.length c, .func (.func 102) #[] #[.pointer (some ⟨g, 0, none⟩)]] w (IndexOut w ((dats ps).any (fun e => sameD a e))) := by
  unfold maxLen at hl
  have HX := Lib.hid h
  have HP := Lib.hid hp
  have HC := Lib.hid hc
  clear h hp hc
  go_enter Tryz.func128, Tryz.ntmps128
  go_wp2
  go_loopw [8] (IndexRel w ps (fun e => sameD a e)) (fun i _ => ps.length - (intOf i).toNat)
  case atStart => exact ⟨0, Nat.zero_le _, rfl, rfl, Below.refl _ _⟩
  case round =>
    obtain ⟨k, hk, rfl, hn, hb⟩ := hrel
    have HN := Lib.hid hn
    have HB := Lib.hid hb
    have hz := hb.size
    clear hn hb
    by_cases hlt : k < ps.length
    · obtain ⟨b, off, rfl, hbH, hd, q0, q1, q2, q3, q4⟩ := (HP.out.below HB.out).at_ hlt
      have HCL := Lib.hid (same1_any wr g x (ps[k]).1 a (ps[k]).2 (HX.out.below HB.out) (hd.mono HB.out.size) la (HC.out _ (List.getElem_mem hlt)))
      have HI := Lib.hid (any_snoc (fun e => sameD a e) hlt HN.out)
      clear hd
      revert q0 q1 q2 q3 q4 HCL HI
      generalize ps[k] = p
      obtain ⟨y, d⟩ := p
      intro q0 q1 q2 q3 q4 HCL HI
      dsimp only at *
      go_wp2_with fail
      refine HCL.out.mono ?_
      rintro e w1 ⟨rfl, hb1⟩
      have HB1 := Lib.hid (HB.out.trans (hb1.mono hz))
      clear hb1
      cases hv : sameD a d with
      | true =>
        have HT := Lib.hid (HI.out.1 hv)
        clear HI
        go_wp2
        go_ret
        exact ⟨_, rfl, by rw [HT.out]; simp, HB1.out⟩
      | false =>
        have HT := Lib.hid (HI.out.2 hv)
        clear HI
        go_wp2
        exact ⟨⟨k + 1, by omega, by go_num, HT.out, HB1.out⟩, by simp [intOf]; omega⟩
    · obtain rfl : k = ps.length := by omega
      have HF := Lib.hid (show (dats ps).any (fun e => sameD a e) = false by have h := HN.out; rwa [List.take_length] at h)
      go_wp2
      go_ret
      exact ⟨_, rfl, by rw [HF.out]; rfl, HB.out⟩

set_option maxHeartbeats 1000000 in
theorem contains_same (w : World) (g : Nat) (x : DV) (a : Dt) (A : Option Addr) (c : Nat) (ps : List (DV × Dt)) (h : DBox w g x a) (hp : DsAt w w.heap.size A ps) (la : Wide a) (hc : ∀ p ∈ ps, Wide p.2) (hl : ps.length ≤ maxLen) :
    Calls Tryz.prog 104 #[.slice A ps.length c, .func (.func 102) #[] #[.pointer (some ⟨g, 0, none⟩)]] w (Gave w (.bool (hasD (dats ps) a))) := by
  have HC := Lib.hid (index_same w g x a A c ps h hp la hc hl)
  clear h hp hc
  go_enter Tryz.func104, Tryz.ntmps104
  go_wp2_with fail
  refine HC.out.mono ?_
  rintro e w1 ⟨i, rfl, hi, hb1⟩
  have HB1 := Lib.hid hb1
  have HI := Lib.hid hi
  clear hb1 hi
  go_wp2
  go_ret
  exact ⟨ret_bool HI.out, HB1.out⟩

/-- May data be the set of a type? -/
def setKB (k : Int) (l : List Dt) : Bool := decide (1 ≤ l.length) && (decide (l.length ≤ 64) && setOk k l)
def SetKRel (w : World) (k : Int) (ps : List (DV × Dt)) (i : Value) (wr : World) : Prop :=
  ∃ j : Nat, j ≤ ps.length ∧ i = .int .i64 j ∧ setOk k (dats (ps.take j)) = true ∧ Below w.heap.size w wr

set_option maxRecDepth 20000 in
set_option maxHeartbeats 4000000 in
theorem soundSet_any (w : World) (k : Int) (A : Option Addr) (c : Nat) (ps : List (DV × Dt)) (hp : DsAt w w.heap.size A ps) (hc : ∀ p ∈ ps, DatIn p.2) (hf : ∀ p ∈ ps, p.2.host.length ≤ 300 ∧ p.2.mail.length ≤ 300) (hl : ps.length ≤ c) (_ : c ≤ maxLen) :
    Calls Tryz.prog 83 #[.int .i64 k, .slice A ps.length c] w (Gave w (.bool (setKB k (dats ps)))) := by
  have hlen : (dats ps).length = ps.length := length_dats _
  have HS := Lib.hid (show setKB k (dats ps) = (decide (1 ≤ (dats ps).length) && (decide ((dats ps).length ≤ 64) && setOk k (dats ps))) from rfl)
  rw [hlen] at HS
  clear hlen
  have HP := Lib.hid hp
  have HC := Lib.hid hc
  have HFW := Lib.hid hf
  clear hp hc hf
  by_cases c1 : ps.length < 1
  · have e1 : decide ((ps.length : Int) < 1) = true := decide_eq_true (by omega)
    rw [decide_eq_false (show ¬ 1 ≤ ps.length by omega)] at HS
    go_enter Tryz.func83, Tryz.ntmps83
    go_wp2
    go_ret
    exact ⟨by rw [HS.out]; rfl, Below.refl _ _⟩
  have e1 : decide ((ps.length : Int) < 1) = false := decide_eq_false (by omega)
  rw [decide_eq_true (show 1 ≤ ps.length by omega)] at HS
  by_cases c2 : 64 < ps.length
  · have e2 : decide ((64 : Int) < (ps.length : Int)) = true := decide_eq_true (by omega)
    rw [decide_eq_false (show ¬ ps.length ≤ 64 by omega)] at HS
    go_enter Tryz.func83, Tryz.ntmps83
    go_wp2
    go_ret
    exact ⟨by rw [HS.out]; rfl, Below.refl _ _⟩
  have e2 : decide ((64 : Int) < (ps.length : Int)) = false := decide_eq_false (by omega)
  rw [decide_eq_true (show ps.length ≤ 64 by omega)] at HS
  go_enter Tryz.func83, Tryz.ntmps83
  go_wp2
  clear e1 e2
  go_loopw [18] (SetKRel w k ps) (fun i _ => ps.length - (intOf i).toNat)
  case atStart => exact ⟨0, Nat.zero_le _, rfl, rfl, Below.refl _ _⟩
  case round =>
    obtain ⟨j, hj, rfl, hn, hb⟩ := hrel
    have HN := Lib.hid hn
    have HB := Lib.hid hb
    have hz := hb.size
    clear hn hb
    by_cases hlt : j < ps.length
    · have HPW := Lib.hid (HP.out.below HB.out)
      obtain ⟨b, off, rfl, hbH, hd, q0, q1, q2, q3, q4⟩ := HPW.out.at_ hlt
      have HD := Lib.hid (hd.mono HB.out.size)
      have HI := Lib.hid (HC.out _ (List.getElem_mem hlt))
      have HFE := Lib.hid (HFW.out _ (List.getElem_mem hlt))
      have HST := Lib.hid (show setOk k (dats (ps.take (j + 1))) = (setOk k (dats (ps.take j)) && (soundD k (ps[j]).2 && !hasD (dats (ps.take j)) (ps[j]).2)) by rw [dats_step hlt, setOk_snoc])
      have HF := Lib.hid (fun h => setOk_fails (kd := k) hlt h)
      have htl : (ps.take j).length = j := by rw [List.length_take]; omega
      clear hd
      revert q0 q1 q2 q3 q4 HD HI HFE HST
      generalize ps[j] = p
      obtain ⟨y, d⟩ := p
      intro q0 q1 q2 q3 q4 HD HI HFE HST
      dsimp only at *
      have HNEW := Lib.hid ((Below.refl wr.heap.size wr).alloc (Nat.le_refl _) (.cells #[.slice y.Ab d.bytes.length y.cb, .slice y.Ah d.host.length y.ch, .slice y.Am d.mail.length y.cm, .slice y.An d.nums.length y.cn, .slice y.At d.texts.length y.ct] 34))
      have HWB := Lib.hid (Whole.made wr [y.vb d, y.vh d, y.vm d, y.vn d, y.vt d] 34)
      have HSND := Lib.hid (dsound_wide k y d (wr.alloc (.cells #[.slice y.Ab d.bytes.length y.cb, .slice y.Ah d.host.length y.ch, .slice y.Am d.mail.length y.cm, .slice y.An d.nums.length y.cn, .slice y.At d.texts.length y.ct] 34)) ((HD.out.below HNEW.out).mono HNEW.out.size) (by have := HFE.out.1; omega) HI.out.w.h.2 (by have := HFE.out.2; omega) HI.out.w.m.2 HI.out.w.t HI.out.t)
      go_wp2_with fail
      refine HSND.out.mono ?_
      rintro e w1 ⟨rfl, hb1⟩
      clear HSND
      have HB1 := Lib.hid hb1
      clear hb1
      cases h1 : soundD k d with
      | false =>
        have HT := Lib.hid (HF.out (by rw [HST.out, h1]; simp))
        go_wp2
        go_ret
        exact ⟨by rw [HS.out, HT.out]; rfl, HB.out.trans ((HNEW.out.trans (HB1.out.mono HNEW.out.size)).mono hz)⟩
      | true =>
        have HBX := Lib.hid (show DBox w1 wr.heap.size y d from ⟨HWB.out.below HB1.out HWB.out.lt, (((HD.out.below HNEW.out).mono HNEW.out.size).below HB1.out).mono HB1.out.size⟩)
        have HBW := Lib.hid (HB.out.trans ((HNEW.out.trans (HB1.out.mono HNEW.out.size)).mono hz))
        have HCT := Lib.hid (contains_same w1 wr.heap.size y d (some ⟨b, off, none⟩) c (ps.take j) HBX.out (((HP.out.below HBW.out).mono HBW.out.size).take j (by omega)) HI.out.w (fun p hp => (HC.out p (List.mem_of_mem_take hp)).w) (by unfold maxLen; omega))
        rw [htl] at HCT
        go_wp2_with fail
        refine HCT.out.mono ?_
        rintro e w2 ⟨rfl, hb2⟩
        have HB2 := Lib.hid (HBW.out.trans (hb2.mono HBW.out.size))
        clear hb2
        cases h2 : hasD (dats (ps.take j)) d with
        | true =>
          have HT := Lib.hid (HF.out (by rw [HST.out, h2]; simp))
          go_wp2
          go_ret
          exact ⟨by rw [HS.out, HT.out]; rfl, HB2.out⟩
        | false =>
          have HT := Lib.hid (show setOk k (dats (ps.take (j + 1))) = true by rw [HST.out, h1, h2, HN.out]; rfl)
          go_wp2
          exact ⟨⟨j + 1, by omega, by go_num, HT.out, HB2.out⟩, by simp [intOf]; omega⟩
    · obtain rfl : j = ps.length := by omega
      have HF := Lib.hid (show setOk k (dats ps) = true by have h := HN.out; rwa [List.take_length] at h)
      go_wp2
      go_ret
      exact ⟨by rw [HS.out, HF.out]; rfl, HB.out⟩

end Go.Proofs.YtmbcbfalgdgmjaaGreatDoor

namespace Go.Proofs.YtmbcbfalgdgmjaaGreatDoor

/-- An operation that yields comes first. -/
theorem takeY {P : Program} {md : Region.Mode} {ops : Array Oper} {Q : Exit → Act → World → Prop} {S : World → Prop} (i : Nat) (oi : Oper) {v : Value} {fuel : Nat} {listed : Array Bool} {a : Act} {w : World} (hy : ∀ w, S w → (execOp a.eval oi).run P w = .ok (.value v) w)
    (h : wpAnyH P md ops Q S fuel (listed.setIfInBounds i true) (a.put oi.dst v) w) (hi : ops[i]? = some oi := by rfl) (hs : Region.noSelect ops = true := by kernel_rfl) (hf : Region.free md ops listed i = true := by kernel_rfl) (hr : (Region.ready md ops listed).contains i = true := by kernel_rfl)
    (hg : Region.wanted oi (yielded ops a.tmps) = true := by kernel_rfl) (hQ : ∀ c a w, Q (.panic c) (a.put oi.dst v) w → Q (.panic c) a w := by exact fun _ _ _ h => h) (hS : S w := by assumption) : wpAnyH P md ops Q S (fuel + 1) listed a w :=
  wpAnyH_take hi hs hf hr hQ (.inl ⟨hg, hy⟩) hS h
/-- One that is not wanted is passed over. -/
theorem takeN {P : Program} {md : Region.Mode} {ops : Array Oper} {Q : Exit → Act → World → Prop} {S : World → Prop} (i : Nat) (oi : Oper) {fuel : Nat} {listed : Array Bool} {a : Act} {w : World}
    (h : wpAnyH P md ops Q S fuel (listed.setIfInBounds i true) (a.put oi.dst undef) w) (hi : ops[i]? = some oi := by rfl) (hs : Region.noSelect ops = true := by kernel_rfl) (hf : Region.free md ops listed i = true := by kernel_rfl) (hr : (Region.ready md ops listed).contains i = true := by kernel_rfl)
    (hg : Region.wanted oi (yielded ops a.tmps) = false := by kernel_rfl) (hQ : ∀ c a w, Q (.panic c) (a.put oi.dst undef) w → Q (.panic c) a w := by exact fun _ _ _ h => h) (hS : S w := by assumption) : wpAnyH P md ops Q S (fuel + 1) listed a w :=
  wpAnyH_take hi hs hf hr hQ (.inr ⟨hg, rfl⟩) hS h

end Go.Proofs.YtmbcbfalgdgmjaaGreatDoor

namespace Go.Proofs.YtmbcbfalgdgmjaaGreatDoor
open Go.RowKit

theorem soundN_sz {n : List (List UInt8)} (h : soundN n = true) : szN n ≤ maxLen := by
  have h2 := (soundN_parts h).2
  unfold maxLen
  omega
/-- Both boxes of the document's Sound. -/
structure FBoxes (w : World) (x : FV) (W : World) : Prop where
  f : Whole W w.heap.size 36 (cellsF x)
  d : Whole W (w.heap.size + 1) 34 [.slice x.d.Ab x.soa.bytes.length x.d.cb, .slice x.d.Ah x.soa.host.length x.d.ch, .slice x.d.Am x.soa.mail.length x.d.cm, .slice x.d.An x.soa.nums.length x.d.cn, .slice x.d.At x.soa.texts.length x.d.ct]
  below : Below w.heap.size w W
  size : w.heap.size + 2 ≤ W.heap.size
theorem FBoxes.step {w : World} {x : FV} {W W' : World} (h : FBoxes w x W) (hb : Below W.heap.size W W') : FBoxes w x W' :=
  ⟨h.f.below hb h.f.lt, h.d.below hb h.d.lt, h.below.trans (hb.mono (by have := h.size; omega)), Nat.le_trans h.size hb.size⟩
theorem FBoxes.made (w : World) (x : FV) : FBoxes w x ((w.alloc (.cells #[.slice x.A x.name.length x.c, .int .i64 x.h.typ, .int .i64 x.h.knd, .int .i64 x.h.rank, .int .i64 x.h.got, .int .i64 x.h.ttl, .slice x.sA x.sp.length x.sc, .slice x.zA x.zone.length x.zc, .slice x.d.Ab x.soa.bytes.length x.d.cb, .slice x.d.Ah x.soa.host.length x.d.ch, .slice x.d.Am x.soa.mail.length x.d.cm, .slice x.d.An x.soa.nums.length x.d.cn, .slice x.d.At x.soa.texts.length x.d.ct] 36)).alloc (.cells #[.slice x.d.Ab x.soa.bytes.length x.d.cb, .slice x.d.Ah x.soa.host.length x.d.ch, .slice x.d.Am x.soa.mail.length x.d.cm, .slice x.d.An x.soa.nums.length x.d.cn, .slice x.d.At x.soa.texts.length x.d.ct] 34)).drew := by
  have hz : (w.alloc (.cells #[.slice x.A x.name.length x.c, .int .i64 x.h.typ, .int .i64 x.h.knd, .int .i64 x.h.rank, .int .i64 x.h.got, .int .i64 x.h.ttl, .slice x.sA x.sp.length x.sc, .slice x.zA x.zone.length x.zc, .slice x.d.Ab x.soa.bytes.length x.d.cb, .slice x.d.Ah x.soa.host.length x.d.ch, .slice x.d.Am x.soa.mail.length x.d.cm, .slice x.d.An x.soa.nums.length x.d.cn, .slice x.d.At x.soa.texts.length x.d.ct] 36)).heap.size = w.heap.size + 1 := by simp
  refine ⟨(Whole.made w (cellsF x) _).alloc _, ?_, ((((Below.refl _ _).alloc (Nat.le_refl _) _).alloc (by simp) _).drew), by simp⟩
  have := Whole.made (w.alloc (.cells #[.slice x.A x.name.length x.c, .int .i64 x.h.typ, .int .i64 x.h.knd, .int .i64 x.h.rank, .int .i64 x.h.got, .int .i64 x.h.ttl, .slice x.sA x.sp.length x.sc, .slice x.zA x.zone.length x.zc, .slice x.d.Ab x.soa.bytes.length x.d.cb, .slice x.d.Ah x.soa.host.length x.d.ch, .slice x.d.Am x.soa.mail.length x.d.cm, .slice x.d.An x.soa.nums.length x.d.cn, .slice x.d.At x.soa.texts.length x.d.ct] 36)) [.slice x.d.Ab x.soa.bytes.length x.d.cb, .slice x.d.Ah x.soa.host.length x.d.ch, .slice x.d.Am x.soa.mail.length x.d.cm, .slice x.d.An x.soa.nums.length x.d.cn, .slice x.d.At x.soa.texts.length x.d.ct] 34
  rw [hz] at this
  exact this

end Go.Proofs.YtmbcbfalgdgmjaaGreatDoor

namespace Go.Proofs.YtmbcbfalgdgmjaaGreatDoor
open Go.RowKit

set_option maxRecDepth 20000 in
set_option maxHeartbeats 8000000 in
theorem fno_2h (w : World) (x : FV) (hx : FAt w w.heap.size x) (hi : FIn x) (hh : headB x.name x.h = true) (k1 : x.h.knd = 2) (hty : typedB x.h.typ = true) (hset : x.sp.length = 0) (httl : x.h.ttl ≤ 10800) (hz : soundN x.zone = true) (hu : underN x.name x.zone = true) (hd : soundD 6 x.soa = true) : Calls Tryz.prog 20 #[x.val] w (Gave w (.bool true)) := by
  have hsz1 := soundN_sz (headB_parts hh).1
  have hsz2 := soundN_sz hz
  have HUN := Lib.hid (fun W (h : FBoxes w x W) => ref_under_any x.A x.zA x.name.length x.zone.length x.c x.zc w.heap.size x.name x.zone W rfl rfl (hx.n.below h.below) (hx.z.below h.below) (Nat.le_trans (Nat.le_add_right _ 2) h.size) hsz1 hsz2 hx.ln)
  rw [hu] at HUN
  clear hsz1 hsz2 hu
  have HDA := Lib.hid (fun W (h : FBoxes w x W) => refData_any 6 x.d x.soa W ((hx.d.below h.below).mono h.below.size) hi.d.ref)
  rw [hd] at HDA
  clear hd
  have HSZ := Lib.hid (fun W' (hb : Below w.heap.size w W') => ref_sound_wide x.zA x.zc w.heap.size x.zone W' (hx.z.below hb) hi.z.1 hi.z.2)
  rw [hz] at HSZ
  clear hz
  obtain ⟨W, hW⟩ : ∃ W, W = w.alloc (.cells #[.slice x.A x.name.length x.c, .int .i64 x.h.typ, .int .i64 x.h.knd, .int .i64 x.h.rank, .int .i64 x.h.got, .int .i64 x.h.ttl, .slice x.sA x.sp.length x.sc, .slice x.zA x.zone.length x.zc, .slice x.d.Ab x.soa.bytes.length x.d.cb, .slice x.d.Ah x.soa.host.length x.d.ch, .slice x.d.Am x.soa.mail.length x.d.cm, .slice x.d.An x.soa.nums.length x.d.cn, .slice x.d.At x.soa.texts.length x.d.ct] 36) := ⟨_, rfl⟩
  have hB : Below w.heap.size w W := by rw [hW]; exact (Below.refl _ _).alloc (Nat.le_refl _) _
  have HB := Lib.hid hB
  have HN := Lib.hid (fun W' (hb : Below w.heap.size w W') => ref_sound_wide x.A x.c w.heap.size x.name W' (hx.n.below hb) hi.n.1 hi.n.2)
  have HT := Lib.hid (fun W' => time_any x.h.got W')
  have HX := Lib.hid hx
  have HI := Lib.hid hi
  have HTY := Lib.hid (fun W' => typed_any x.h.typ W')
  rw [hty] at HTY
  have b1 : (x.h.knd == 1) = false := by rw [k1]; rfl
  have b2 : (x.h.knd == 2) = true := by rw [k1]; rfl
  have b3 : (x.h.knd == 3) = false := by rw [k1]; rfl
  have HHP := Lib.hid (headB_parts hh)
  have HK := Lib.hid k1
  clear hx hi hh hB hty k1
  subst hW
  obtain ⟨hn, h1, h2, ht, h3, h4⟩ := HHP.out
  rw [hn] at HN
  rw [ht] at HT
  have d1 : decide (x.h.rank < 1) = false := decide_eq_false (by omega)
  have d2 : decide (4 < x.h.rank) = false := decide_eq_false (by omega)
  have d3 : decide (x.h.ttl < 0) = false := decide_eq_false (by omega)
  have d4 : decide (604800 < x.h.ttl) = false := decide_eq_false (by omega)
  clear hn ht h1 h2 h3 h4 HHP
  have b6 : ((x.sp.length : Int) == 0) = true := by rw [hset]; rfl
  have HL := Lib.hid hset
  clear hset
  have e5 : decide (x.h.ttl ≤ 10800) = true := decide_eq_true httl
  clear httl
  have HCS := Lib.hid (show ∀ W, FBoxes w x W → (W.cell? ⟨w.heap.size, 0, none⟩ = some (.slice x.A x.name.length x.c) ∧ W.cell? ⟨w.heap.size, 1, none⟩ = some (.int .i64 x.h.typ) ∧ W.cell? ⟨w.heap.size, 2, none⟩ = some (.int .i64 x.h.knd) ∧ W.cell? ⟨w.heap.size, 5, none⟩ = some (.int .i64 x.h.ttl) ∧ W.cell? ⟨w.heap.size, 6, none⟩ = some (.slice x.sA x.sp.length x.sc) ∧ W.cell? ⟨w.heap.size, 7, none⟩ = some (.slice x.zA x.zone.length x.zc)) ∧ (W.cell? ⟨w.heap.size + 1, 0, none⟩ = some (.slice x.d.Ab x.soa.bytes.length x.d.cb) ∧ W.cell? ⟨w.heap.size + 1, 1, none⟩ = some (.slice x.d.Ah x.soa.host.length x.d.ch) ∧ W.cell? ⟨w.heap.size + 1, 2, none⟩ = some (.slice x.d.Am x.soa.mail.length x.d.cm) ∧ W.cell? ⟨w.heap.size + 1, 3, none⟩ = some (.slice x.d.An x.soa.nums.length x.d.cn) ∧ W.cell? ⟨w.heap.size + 1, 4, none⟩ = some (.slice x.d.At x.soa.texts.length x.d.ct)) from fun W h => ⟨⟨h.f.cell 0, h.f.cell 1, h.f.cell 2, h.f.cell 5, h.f.cell 6, h.f.cell 7⟩, ⟨h.d.cell 0, h.d.cell 1, h.d.cell 2, h.d.cell 3, h.d.cell 4⟩⟩)
  have HBX := Lib.hid (FBoxes.made w x)
  go_enter Tryz.func20, Tryz.ntmps20
  go_wp2_with (first
    | (go_at_call 24; refine (HN.out _ HB.out).mono ?_; rintro e w1 ⟨rfl, rfl⟩)
    | (go_at_call 32; refine (HT.out _).mono ?_; rintro e w1 ⟨rfl, rfl⟩))
  refine wp_region_held_drew (S := fun W => (W.cell? ⟨w.heap.size, 0, none⟩ = some (.slice x.A x.name.length x.c) ∧ W.cell? ⟨w.heap.size, 1, none⟩ = some (.int .i64 x.h.typ) ∧ W.cell? ⟨w.heap.size, 2, none⟩ = some (.int .i64 x.h.knd) ∧ W.cell? ⟨w.heap.size, 5, none⟩ = some (.int .i64 x.h.ttl) ∧ W.cell? ⟨w.heap.size, 6, none⟩ = some (.slice x.sA x.sp.length x.sc) ∧ W.cell? ⟨w.heap.size, 7, none⟩ = some (.slice x.zA x.zone.length x.zc)) ∧ (W.cell? ⟨w.heap.size + 1, 0, none⟩ = some (.slice x.d.Ab x.soa.bytes.length x.d.cb) ∧ W.cell? ⟨w.heap.size + 1, 1, none⟩ = some (.slice x.d.Ah x.soa.host.length x.d.ch) ∧ W.cell? ⟨w.heap.size + 1, 2, none⟩ = some (.slice x.d.Am x.soa.mail.length x.d.cm) ∧ W.cell? ⟨w.heap.size + 1, 3, none⟩ = some (.slice x.d.An x.soa.nums.length x.d.cn) ∧ W.cell? ⟨w.heap.size + 1, 4, none⟩ = some (.slice x.d.At x.soa.texts.length x.d.ct))) (by kernel_rfl) (by exact HCS.out _ HBX.out) (fun hHeld => ?_)
  refine takeY 0 ⟨some 124, _, _, _, _, _⟩ (v := ?_) ?_ ?_
  rotate_left
  · intro W hSw
    try dsimp only at hSw
    go_simp
    all_goals (with_reducible rfl)
  try simp only [Act.put, List.setIfInBounds_toArray, List.set_cons_zero, List.set_cons_succ]
  refine takeY 1 ⟨some 125, _, _, _, _, _⟩ (v := ?_) ?_ ?_
  rotate_left
  · intro W hSw
    try dsimp only at hSw
    go_simp
    all_goals (with_reducible rfl)
  try simp only [Act.put, List.setIfInBounds_toArray, List.set_cons_zero, List.set_cons_succ]
  refine takeY 2 ⟨some 126, _, _, _, _, _⟩ (v := ?_) ?_ ?_
  rotate_left
  · intro W hSw
    try dsimp only at hSw
    go_simp
    all_goals (with_reducible rfl)
  try simp only [Act.put, List.setIfInBounds_toArray, List.set_cons_zero, List.set_cons_succ]
  refine takeY 3 ⟨some 127, _, _, _, _, _⟩ (v := ?_) ?_ ?_
  rotate_left
  · intro W hSw
    try dsimp only at hSw
    go_simp
    all_goals (with_reducible rfl)
  try simp only [Act.put, List.setIfInBounds_toArray, List.set_cons_zero, List.set_cons_succ]
  refine takeY 4 ⟨some 128, _, _, _, _, _⟩ (v := ?_) ?_ ?_
  rotate_left
  · intro W hSw
    try dsimp only at hSw
    go_simp
    all_goals (with_reducible rfl)
  try simp only [Act.put, List.setIfInBounds_toArray, List.set_cons_zero, List.set_cons_succ]
  refine wpAnyH_ready (rs := [5]) (by kernel_rfl) (by simp) ?_
  refine AllReadyH.cons (o := { dst := some 129, op := Go.Op.call { callee := Go.Callee.value (Go.Operand.func 41), args := #[Go.Operand.tmp 128], argTypes := #[3] }, type := 4, pos := "ref.go:78", after := #[{ on := 4, ground := Go.Ground.data }], guard := none }) rfl (fun K hK => ?_) AllReadyH.nil
  go_simp
  refine (HTY.out _).mono ?_
  rintro e w1 ⟨rfl, rfl⟩
  refine hK.out _ _ (by exact hHeld) (fun hHeld2 => ?_)
  clear hK K hHeld
  have hHeld := hHeld2
  clear hHeld2
  try simp only [Act.put, List.setIfInBounds_toArray, List.set_cons_zero, List.set_cons_succ]
  refine takeY 6 ⟨some 130, _, _, _, _, _⟩ (v := ?_) ?_ ?_
  rotate_left
  · intro W hSw
    try dsimp only at hSw
    go_simp
    all_goals (with_reducible rfl)
  try simp only [Act.put, List.setIfInBounds_toArray, List.set_cons_zero, List.set_cons_succ]
  refine takeY 7 ⟨some 131, _, _, _, _, _⟩ (v := ?_) ?_ ?_
  rotate_left
  · intro W hSw
    try dsimp only at hSw
    go_simp
    all_goals (with_reducible rfl)
  try simp only [Act.put, List.setIfInBounds_toArray, List.set_cons_zero, List.set_cons_succ]
  refine takeY 8 ⟨some 132, _, _, _, _, _⟩ (v := ?_) ?_ ?_
  rotate_left
  · intro W hSw
    try dsimp only at hSw
    go_simp
    all_goals (with_reducible rfl)
  try simp only [Act.put, List.setIfInBounds_toArray, List.set_cons_zero, List.set_cons_succ]
  refine takeY 9 ⟨some 133, _, _, _, _, _⟩ (v := ?_) ?_ ?_
  rotate_left
  · intro W hSw
    try dsimp only at hSw
    go_simp
    all_goals (with_reducible rfl)
  try simp only [Act.put, List.setIfInBounds_toArray, List.set_cons_zero, List.set_cons_succ]
  refine takeY 10 ⟨some 134, _, _, _, _, _⟩ (v := ?_) ?_ ?_
  rotate_left
  · intro W hSw
    try dsimp only at hSw
    go_simp
    all_goals (with_reducible rfl)
  try simp only [Act.put, List.setIfInBounds_toArray, List.set_cons_zero, List.set_cons_succ]
  refine takeY 11 ⟨some 135, _, _, _, _, _⟩ (v := ?_) ?_ ?_
  rotate_left
  · intro W hSw
    try dsimp only at hSw
    go_simp
    all_goals (with_reducible rfl)
  try simp only [Act.put, List.setIfInBounds_toArray, List.set_cons_zero, List.set_cons_succ]
  refine takeN 12 ⟨some 136, _, _, _, _, _⟩ ?_
  try simp only [Act.put, List.setIfInBounds_toArray, List.set_cons_zero, List.set_cons_succ]
  refine takeN 13 ⟨some 137, _, _, _, _, _⟩ ?_
  try simp only [Act.put, List.setIfInBounds_toArray, List.set_cons_zero, List.set_cons_succ]
  refine takeN 14 ⟨some 138, _, _, _, _, _⟩ ?_
  try simp only [Act.put, List.setIfInBounds_toArray, List.set_cons_zero, List.set_cons_succ]
  refine takeY 15 ⟨some 139, _, _, _, _, _⟩ (v := ?_) ?_ ?_
  rotate_left
  · intro W hSw
    try dsimp only at hSw
    go_simp
    all_goals (with_reducible rfl)
  try simp only [Act.put, List.setIfInBounds_toArray, List.set_cons_zero, List.set_cons_succ]
  refine takeY 16 ⟨some 140, _, _, _, _, _⟩ (v := ?_) ?_ ?_
  rotate_left
  · intro W hSw
    try dsimp only at hSw
    go_simp
    all_goals (with_reducible rfl)
  try simp only [Act.put, List.setIfInBounds_toArray, List.set_cons_zero, List.set_cons_succ]
  refine takeY 17 ⟨some 141, _, _, _, _, _⟩ (v := ?_) ?_ ?_
  rotate_left
  · intro W hSw
    try dsimp only at hSw
    go_simp
    all_goals (with_reducible rfl)
  try simp only [Act.put, List.setIfInBounds_toArray, List.set_cons_zero, List.set_cons_succ]
  refine takeY 18 ⟨some 142, _, _, _, _, _⟩ (v := ?_) ?_ ?_
  rotate_left
  · intro W hSw
    try dsimp only at hSw
    go_simp
    all_goals (with_reducible rfl)
  try simp only [Act.put, List.setIfInBounds_toArray, List.set_cons_zero, List.set_cons_succ]
  refine takeY 19 ⟨some 143, _, _, _, _, _⟩ (v := ?_) ?_ ?_
  rotate_left
  · intro W hSw
    try dsimp only at hSw
    go_simp
    all_goals (with_reducible rfl)
  try simp only [Act.put, List.setIfInBounds_toArray, List.set_cons_zero, List.set_cons_succ]
  refine takeY 20 ⟨some 144, _, _, _, _, _⟩ (v := ?_) ?_ ?_
  rotate_left
  · intro W hSw
    try dsimp only at hSw
    go_simp
    all_goals (with_reducible rfl)
  try simp only [Act.put, List.setIfInBounds_toArray, List.set_cons_zero, List.set_cons_succ]
  refine takeY 21 ⟨some 145, _, _, _, _, _⟩ (v := ?_) ?_ ?_
  rotate_left
  · intro W hSw
    try dsimp only at hSw
    go_simp
    all_goals (with_reducible rfl)
  try simp only [Act.put, List.setIfInBounds_toArray, List.set_cons_zero, List.set_cons_succ]
  refine takeY 22 ⟨some 146, _, _, _, _, _⟩ (v := ?_) ?_ ?_
  rotate_left
  · intro W hSw
    try dsimp only at hSw
    go_simp
    all_goals (with_reducible rfl)
  try simp only [Act.put, List.setIfInBounds_toArray, List.set_cons_zero, List.set_cons_succ]
  refine takeY 23 ⟨some 147, _, _, _, _, _⟩ (v := ?_) ?_ ?_
  rotate_left
  · intro W hSw
    try dsimp only at hSw
    go_simp
    all_goals (with_reducible rfl)
  try simp only [Act.put, List.setIfInBounds_toArray, List.set_cons_zero, List.set_cons_succ]
  refine takeY 24 ⟨some 148, _, _, _, _, _⟩ (v := ?_) ?_ ?_
  rotate_left
  · intro W hSw
    try dsimp only at hSw
    go_simp
    all_goals (with_reducible rfl)
  try simp only [Act.put, List.setIfInBounds_toArray, List.set_cons_zero, List.set_cons_succ]
  refine takeY 25 ⟨some 149, _, _, _, _, _⟩ (v := ?_) ?_ ?_
  rotate_left
  · intro W hSw
    try dsimp only at hSw
    go_simp
    all_goals (with_reducible rfl)
  try simp only [Act.put, List.setIfInBounds_toArray, List.set_cons_zero, List.set_cons_succ]
  refine takeY 26 ⟨some 150, _, _, _, _, _⟩ (v := ?_) ?_ ?_
  rotate_left
  · intro W hSw
    try dsimp only at hSw
    go_simp
    all_goals (with_reducible rfl)
  try simp only [Act.put, List.setIfInBounds_toArray, List.set_cons_zero, List.set_cons_succ]
  refine takeY 27 ⟨some 151, _, _, _, _, _⟩ (v := ?_) ?_ ?_
  rotate_left
  · intro W hSw
    try dsimp only at hSw
    go_simp
    all_goals (with_reducible rfl)
  try simp only [Act.put, List.setIfInBounds_toArray, List.set_cons_zero, List.set_cons_succ]
  refine takeY 28 ⟨some 152, _, _, _, _, _⟩ (v := ?_) ?_ ?_
  rotate_left
  · intro W hSw
    try dsimp only at hSw
    go_simp
    all_goals (with_reducible rfl)
  try simp only [Act.put, List.setIfInBounds_toArray, List.set_cons_zero, List.set_cons_succ]
  refine takeY 29 ⟨some 153, _, _, _, _, _⟩ (v := ?_) ?_ ?_
  rotate_left
  · intro W hSw
    try dsimp only at hSw
    go_simp
    all_goals (with_reducible rfl)
  try simp only [Act.put, List.setIfInBounds_toArray, List.set_cons_zero, List.set_cons_succ]
  refine takeY 30 ⟨some 154, _, _, _, _, _⟩ (v := ?_) ?_ ?_
  rotate_left
  · intro W hSw
    try dsimp only at hSw
    go_simp
    all_goals (with_reducible rfl)
  try simp only [Act.put, List.setIfInBounds_toArray, List.set_cons_zero, List.set_cons_succ]
  refine wpAnyH_ready (rs := [31]) (by kernel_rfl) (by simp) ?_
  refine AllReadyH.cons (o := { dst := some 155, op := Go.Op.call { callee := Go.Callee.value (Go.Operand.func 24), args := #[Go.Operand.tmp 154], argTypes := #[29] }, type := 4, pos := "ref.go:78", after := #[{ on := 30, ground := Go.Ground.data }, { on := 28, ground := Go.Ground.chain }, { on := 28, ground := Go.Ground.guard }], guard := some (28, true) }) rfl (fun K hK => ?_) AllReadyH.nil
  go_simp
  refine (HSZ.out _ HBX.out.below).mono ?_
  rintro e w1 ⟨rfl, rfl⟩
  refine hK.out _ _ (by exact hHeld) (fun hHeld2 => ?_)
  clear hK K hHeld
  have hHeld := hHeld2
  clear hHeld2
  try simp only [Act.put, List.setIfInBounds_toArray, List.set_cons_zero, List.set_cons_succ]
  refine takeY 32 ⟨some 156, _, _, _, _, _⟩ (v := ?_) ?_ ?_
  rotate_left
  · intro W hSw
    try dsimp only at hSw
    go_simp
    all_goals (with_reducible rfl)
  try simp only [Act.put, List.setIfInBounds_toArray, List.set_cons_zero, List.set_cons_succ]
  refine takeY 33 ⟨some 157, _, _, _, _, _⟩ (v := ?_) ?_ ?_
  rotate_left
  · intro W hSw
    try dsimp only at hSw
    go_simp
    all_goals (with_reducible rfl)
  try simp only [Act.put, List.setIfInBounds_toArray, List.set_cons_zero, List.set_cons_succ]
  refine takeY 34 ⟨some 158, _, _, _, _, _⟩ (v := ?_) ?_ ?_
  rotate_left
  · intro W hSw
    try dsimp only at hSw
    go_simp
    all_goals (with_reducible rfl)
  try simp only [Act.put, List.setIfInBounds_toArray, List.set_cons_zero, List.set_cons_succ]
  refine takeY 35 ⟨some 159, _, _, _, _, _⟩ (v := ?_) ?_ ?_
  rotate_left
  · intro W hSw
    try dsimp only at hSw
    go_simp
    all_goals (with_reducible rfl)
  try simp only [Act.put, List.setIfInBounds_toArray, List.set_cons_zero, List.set_cons_succ]
  refine takeY 36 ⟨some 160, _, _, _, _, _⟩ (v := ?_) ?_ ?_
  rotate_left
  · intro W hSw
    try dsimp only at hSw
    go_simp
    all_goals (with_reducible rfl)
  try simp only [Act.put, List.setIfInBounds_toArray, List.set_cons_zero, List.set_cons_succ]
  refine takeY 37 ⟨some 161, _, _, _, _, _⟩ (v := ?_) ?_ ?_
  rotate_left
  · intro W hSw
    try dsimp only at hSw
    go_simp
    all_goals (with_reducible rfl)
  try simp only [Act.put, List.setIfInBounds_toArray, List.set_cons_zero, List.set_cons_succ]
  refine wpAnyH_ready (rs := [38]) (by kernel_rfl) (by simp) ?_
  refine AllReadyH.cons (o := { dst := some 162, op := Go.Op.call { callee := Go.Callee.value (Go.Operand.func 18), args := #[Go.Operand.tmp 159, Go.Operand.tmp 161], argTypes := #[29, 29] }, type := 4, pos := "ref.go:78", after := #[{ on := 35, ground := Go.Ground.data }, { on := 37, ground := Go.Ground.data }, { on := 33, ground := Go.Ground.chain }, { on := 33, ground := Go.Ground.guard }], guard := some (33, true) }) rfl (fun K hK => ?_) AllReadyH.nil
  go_simp
  refine (HUN.out _ HBX.out).mono ?_
  rintro e w2 ⟨rfl, hb2⟩
  have HB2 := Lib.hid (HBX.out.step hb2)
  clear hb2
  refine hK.out _ _ (by exact HCS.out _ HB2.out) (fun hHeld2 => ?_)
  clear hK K hHeld
  have hHeld := hHeld2
  clear hHeld2
  try simp only [Act.put, List.setIfInBounds_toArray, List.set_cons_zero, List.set_cons_succ]
  refine takeY 39 ⟨some 163, _, _, _, _, _⟩ (v := ?_) ?_ ?_
  rotate_left
  · intro W hSw
    try dsimp only at hSw
    go_simp
    all_goals (with_reducible rfl)
  try simp only [Act.put, List.setIfInBounds_toArray, List.set_cons_zero, List.set_cons_succ]
  refine takeY 40 ⟨some 164, _, _, _, _, _⟩ (v := ?_) ?_ ?_
  rotate_left
  · intro W hSw
    try dsimp only at hSw
    go_simp
    all_goals (with_reducible rfl)
  try simp only [Act.put, List.setIfInBounds_toArray, List.set_cons_zero, List.set_cons_succ]
  refine takeY 41 ⟨some 165, _, _, _, _, _⟩ (v := ?_) ?_ ?_
  rotate_left
  · intro W hSw
    try dsimp only at hSw
    go_simp
    all_goals (with_reducible rfl)
  try simp only [Act.put, List.setIfInBounds_toArray, List.set_cons_zero, List.set_cons_succ]
  refine wpAnyH_ready (rs := [42]) (by kernel_rfl) (by simp) ?_
  refine AllReadyH.cons (o := { dst := some 166, op := Go.Op.call { callee := Go.Callee.value (Go.Operand.func 42), args := #[Go.Operand.const (Go.Value.int Go.IntKind.i64 6), Go.Operand.tmp 165], argTypes := #[3, 34] }, type := 4, pos := "ref.go:78", after := #[{ on := 41, ground := Go.Ground.data }, { on := 40, ground := Go.Ground.chain }, { on := 40, ground := Go.Ground.guard }], guard := some (40, true) }) rfl (fun K hK => ?_) AllReadyH.nil
  go_simp
  refine (HDA.out _ HB2.out).mono ?_
  rintro e w3 ⟨rfl, hb3⟩
  have HB3 := Lib.hid (HB2.out.step hb3)
  clear hb3
  refine hK.out _ _ (by exact HCS.out _ HB3.out) (fun hHeld2 => ?_)
  clear hK K hHeld
  have hHeld := hHeld2
  clear hHeld2
  try simp only [Act.put, List.setIfInBounds_toArray, List.set_cons_zero, List.set_cons_succ]
  refine takeY 43 ⟨some 167, _, _, _, _, _⟩ (v := ?_) ?_ ?_
  rotate_left
  · intro W hSw
    try dsimp only at hSw
    go_simp
    all_goals (with_reducible rfl)
  try simp only [Act.put, List.setIfInBounds_toArray, List.set_cons_zero, List.set_cons_succ]
  refine takeY 44 ⟨some 2, _, _, _, _, _⟩ (v := ?_) ?_ ?_
  rotate_left
  · intro W hSw
    try dsimp only at hSw
    go_simp
    all_goals (with_reducible rfl)
  try simp only [Act.put, List.setIfInBounds_toArray, List.set_cons_zero, List.set_cons_succ]
  refine wpAnyH_done (by kernel_rfl) ?_ _
  go_wp2
  go_ret
  exact ⟨rfl, HB3.out.below⟩

set_option maxRecDepth 20000 in
set_option maxHeartbeats 8000000 in
theorem fno_3h (w : World) (x : FV) (hx : FAt w w.heap.size x) (hi : FIn x) (hh : headB x.name x.h = true) (k1 : x.h.knd = 3) (hty : typedB x.h.typ = false) (ht0 : x.h.typ = 0) (hset : x.sp.length = 0) (httl : x.h.ttl ≤ 10800) (hz : soundN x.zone = true) (hu : underN x.name x.zone = true) (hd : soundD 6 x.soa = true) : Calls Tryz.prog 20 #[x.val] w (Gave w (.bool true)) := by
  have hsz1 := soundN_sz (headB_parts hh).1
  have hsz2 := soundN_sz hz
  have HUN := Lib.hid (fun W (h : FBoxes w x W) => ref_under_any x.A x.zA x.name.length x.zone.length x.c x.zc w.heap.size x.name x.zone W rfl rfl (hx.n.below h.below) (hx.z.below h.below) (Nat.le_trans (Nat.le_add_right _ 2) h.size) hsz1 hsz2 hx.ln)
  rw [hu] at HUN
  clear hsz1 hsz2 hu
  have HDA := Lib.hid (fun W (h : FBoxes w x W) => refData_any 6 x.d x.soa W ((hx.d.below h.below).mono h.below.size) hi.d.ref)
  rw [hd] at HDA
  clear hd
  have HSZ := Lib.hid (fun W' (hb : Below w.heap.size w W') => ref_sound_wide x.zA x.zc w.heap.size x.zone W' (hx.z.below hb) hi.z.1 hi.z.2)
  rw [hz] at HSZ
  clear hz
  obtain ⟨W, hW⟩ : ∃ W, W = w.alloc (.cells #[.slice x.A x.name.length x.c, .int .i64 x.h.typ, .int .i64 x.h.knd, .int .i64 x.h.rank, .int .i64 x.h.got, .int .i64 x.h.ttl, .slice x.sA x.sp.length x.sc, .slice x.zA x.zone.length x.zc, .slice x.d.Ab x.soa.bytes.length x.d.cb, .slice x.d.Ah x.soa.host.length x.d.ch, .slice x.d.Am x.soa.mail.length x.d.cm, .slice x.d.An x.soa.nums.length x.d.cn, .slice x.d.At x.soa.texts.length x.d.ct] 36) := ⟨_, rfl⟩
  have hB : Below w.heap.size w W := by rw [hW]; exact (Below.refl _ _).alloc (Nat.le_refl _) _
  have HB := Lib.hid hB
  have HN := Lib.hid (fun W' (hb : Below w.heap.size w W') => ref_sound_wide x.A x.c w.heap.size x.name W' (hx.n.below hb) hi.n.1 hi.n.2)
  have HT := Lib.hid (fun W' => time_any x.h.got W')
  have HX := Lib.hid hx
  have HI := Lib.hid hi
  have HTY := Lib.hid (fun W' => typed_any x.h.typ W')
  rw [hty] at HTY
  have b1 : (x.h.knd == 1) = false := by rw [k1]; rfl
  have b2 : (x.h.knd == 2) = false := by rw [k1]; rfl
  have b3 : (x.h.knd == 3) = true := by rw [k1]; rfl
  have HHP := Lib.hid (headB_parts hh)
  have HK := Lib.hid k1
  clear hx hi hh hB hty k1
  subst hW
  obtain ⟨hn, h1, h2, ht, h3, h4⟩ := HHP.out
  rw [hn] at HN
  rw [ht] at HT
  have d1 : decide (x.h.rank < 1) = false := decide_eq_false (by omega)
  have d2 : decide (4 < x.h.rank) = false := decide_eq_false (by omega)
  have d3 : decide (x.h.ttl < 0) = false := decide_eq_false (by omega)
  have d4 : decide (604800 < x.h.ttl) = false := decide_eq_false (by omega)
  clear hn ht h1 h2 h3 h4 HHP
  have b0 : (x.h.typ == 0) = true := by rw [ht0]; rfl
  clear ht0
  have b6 : ((x.sp.length : Int) == 0) = true := by rw [hset]; rfl
  have HL := Lib.hid hset
  clear hset
  have e5 : decide (x.h.ttl ≤ 10800) = true := decide_eq_true httl
  clear httl
  have HCS := Lib.hid (show ∀ W, FBoxes w x W → (W.cell? ⟨w.heap.size, 0, none⟩ = some (.slice x.A x.name.length x.c) ∧ W.cell? ⟨w.heap.size, 1, none⟩ = some (.int .i64 x.h.typ) ∧ W.cell? ⟨w.heap.size, 2, none⟩ = some (.int .i64 x.h.knd) ∧ W.cell? ⟨w.heap.size, 5, none⟩ = some (.int .i64 x.h.ttl) ∧ W.cell? ⟨w.heap.size, 6, none⟩ = some (.slice x.sA x.sp.length x.sc) ∧ W.cell? ⟨w.heap.size, 7, none⟩ = some (.slice x.zA x.zone.length x.zc)) ∧ (W.cell? ⟨w.heap.size + 1, 0, none⟩ = some (.slice x.d.Ab x.soa.bytes.length x.d.cb) ∧ W.cell? ⟨w.heap.size + 1, 1, none⟩ = some (.slice x.d.Ah x.soa.host.length x.d.ch) ∧ W.cell? ⟨w.heap.size + 1, 2, none⟩ = some (.slice x.d.Am x.soa.mail.length x.d.cm) ∧ W.cell? ⟨w.heap.size + 1, 3, none⟩ = some (.slice x.d.An x.soa.nums.length x.d.cn) ∧ W.cell? ⟨w.heap.size + 1, 4, none⟩ = some (.slice x.d.At x.soa.texts.length x.d.ct)) from fun W h => ⟨⟨h.f.cell 0, h.f.cell 1, h.f.cell 2, h.f.cell 5, h.f.cell 6, h.f.cell 7⟩, ⟨h.d.cell 0, h.d.cell 1, h.d.cell 2, h.d.cell 3, h.d.cell 4⟩⟩)
  have HBX := Lib.hid (FBoxes.made w x)
  go_enter Tryz.func20, Tryz.ntmps20
  go_wp2_with (first
    | (go_at_call 24; refine (HN.out _ HB.out).mono ?_; rintro e w1 ⟨rfl, rfl⟩)
    | (go_at_call 32; refine (HT.out _).mono ?_; rintro e w1 ⟨rfl, rfl⟩))
  refine wp_region_held_drew (S := fun W => (W.cell? ⟨w.heap.size, 0, none⟩ = some (.slice x.A x.name.length x.c) ∧ W.cell? ⟨w.heap.size, 1, none⟩ = some (.int .i64 x.h.typ) ∧ W.cell? ⟨w.heap.size, 2, none⟩ = some (.int .i64 x.h.knd) ∧ W.cell? ⟨w.heap.size, 5, none⟩ = some (.int .i64 x.h.ttl) ∧ W.cell? ⟨w.heap.size, 6, none⟩ = some (.slice x.sA x.sp.length x.sc) ∧ W.cell? ⟨w.heap.size, 7, none⟩ = some (.slice x.zA x.zone.length x.zc)) ∧ (W.cell? ⟨w.heap.size + 1, 0, none⟩ = some (.slice x.d.Ab x.soa.bytes.length x.d.cb) ∧ W.cell? ⟨w.heap.size + 1, 1, none⟩ = some (.slice x.d.Ah x.soa.host.length x.d.ch) ∧ W.cell? ⟨w.heap.size + 1, 2, none⟩ = some (.slice x.d.Am x.soa.mail.length x.d.cm) ∧ W.cell? ⟨w.heap.size + 1, 3, none⟩ = some (.slice x.d.An x.soa.nums.length x.d.cn) ∧ W.cell? ⟨w.heap.size + 1, 4, none⟩ = some (.slice x.d.At x.soa.texts.length x.d.ct))) (by kernel_rfl) (by exact HCS.out _ HBX.out) (fun hHeld => ?_)
  refine takeY 0 ⟨some 124, _, _, _, _, _⟩ (v := ?_) ?_ ?_
  rotate_left
  · intro W hSw
    try dsimp only at hSw
    go_simp
    all_goals (with_reducible rfl)
  try simp only [Act.put, List.setIfInBounds_toArray, List.set_cons_zero, List.set_cons_succ]
  refine takeY 1 ⟨some 125, _, _, _, _, _⟩ (v := ?_) ?_ ?_
  rotate_left
  · intro W hSw
    try dsimp only at hSw
    go_simp
    all_goals (with_reducible rfl)
  try simp only [Act.put, List.setIfInBounds_toArray, List.set_cons_zero, List.set_cons_succ]
  refine takeY 2 ⟨some 126, _, _, _, _, _⟩ (v := ?_) ?_ ?_
  rotate_left
  · intro W hSw
    try dsimp only at hSw
    go_simp
    all_goals (with_reducible rfl)
  try simp only [Act.put, List.setIfInBounds_toArray, List.set_cons_zero, List.set_cons_succ]
  refine takeY 3 ⟨some 127, _, _, _, _, _⟩ (v := ?_) ?_ ?_
  rotate_left
  · intro W hSw
    try dsimp only at hSw
    go_simp
    all_goals (with_reducible rfl)
  try simp only [Act.put, List.setIfInBounds_toArray, List.set_cons_zero, List.set_cons_succ]
  refine takeY 4 ⟨some 128, _, _, _, _, _⟩ (v := ?_) ?_ ?_
  rotate_left
  · intro W hSw
    try dsimp only at hSw
    go_simp
    all_goals (with_reducible rfl)
  try simp only [Act.put, List.setIfInBounds_toArray, List.set_cons_zero, List.set_cons_succ]
  refine wpAnyH_ready (rs := [5]) (by kernel_rfl) (by simp) ?_
  refine AllReadyH.cons (o := { dst := some 129, op := Go.Op.call { callee := Go.Callee.value (Go.Operand.func 41), args := #[Go.Operand.tmp 128], argTypes := #[3] }, type := 4, pos := "ref.go:78", after := #[{ on := 4, ground := Go.Ground.data }], guard := none }) rfl (fun K hK => ?_) AllReadyH.nil
  go_simp
  refine (HTY.out _).mono ?_
  rintro e w1 ⟨rfl, rfl⟩
  refine hK.out _ _ (by exact hHeld) (fun hHeld2 => ?_)
  clear hK K hHeld
  have hHeld := hHeld2
  clear hHeld2
  try simp only [Act.put, List.setIfInBounds_toArray, List.set_cons_zero, List.set_cons_succ]
  refine takeY 6 ⟨some 130, _, _, _, _, _⟩ (v := ?_) ?_ ?_
  rotate_left
  · intro W hSw
    try dsimp only at hSw
    go_simp
    all_goals (with_reducible rfl)
  try simp only [Act.put, List.setIfInBounds_toArray, List.set_cons_zero, List.set_cons_succ]
  refine takeY 7 ⟨some 131, _, _, _, _, _⟩ (v := ?_) ?_ ?_
  rotate_left
  · intro W hSw
    try dsimp only at hSw
    go_simp
    all_goals (with_reducible rfl)
  try simp only [Act.put, List.setIfInBounds_toArray, List.set_cons_zero, List.set_cons_succ]
  refine takeY 8 ⟨some 132, _, _, _, _, _⟩ (v := ?_) ?_ ?_
  rotate_left
  · intro W hSw
    try dsimp only at hSw
    go_simp
    all_goals (with_reducible rfl)
  try simp only [Act.put, List.setIfInBounds_toArray, List.set_cons_zero, List.set_cons_succ]
  refine takeY 9 ⟨some 133, _, _, _, _, _⟩ (v := ?_) ?_ ?_
  rotate_left
  · intro W hSw
    try dsimp only at hSw
    go_simp
    all_goals (with_reducible rfl)
  try simp only [Act.put, List.setIfInBounds_toArray, List.set_cons_zero, List.set_cons_succ]
  refine takeY 10 ⟨some 134, _, _, _, _, _⟩ (v := ?_) ?_ ?_
  rotate_left
  · intro W hSw
    try dsimp only at hSw
    go_simp
    all_goals (with_reducible rfl)
  try simp only [Act.put, List.setIfInBounds_toArray, List.set_cons_zero, List.set_cons_succ]
  refine takeY 11 ⟨some 135, _, _, _, _, _⟩ (v := ?_) ?_ ?_
  rotate_left
  · intro W hSw
    try dsimp only at hSw
    go_simp
    all_goals (with_reducible rfl)
  try simp only [Act.put, List.setIfInBounds_toArray, List.set_cons_zero, List.set_cons_succ]
  refine takeY 12 ⟨some 136, _, _, _, _, _⟩ (v := ?_) ?_ ?_
  rotate_left
  · intro W hSw
    try dsimp only at hSw
    go_simp
    all_goals (with_reducible rfl)
  try simp only [Act.put, List.setIfInBounds_toArray, List.set_cons_zero, List.set_cons_succ]
  refine takeY 13 ⟨some 137, _, _, _, _, _⟩ (v := ?_) ?_ ?_
  rotate_left
  · intro W hSw
    try dsimp only at hSw
    go_simp
    all_goals (with_reducible rfl)
  try simp only [Act.put, List.setIfInBounds_toArray, List.set_cons_zero, List.set_cons_succ]
  refine takeY 14 ⟨some 138, _, _, _, _, _⟩ (v := ?_) ?_ ?_
  rotate_left
  · intro W hSw
    try dsimp only at hSw
    go_simp
    all_goals (with_reducible rfl)
  try simp only [Act.put, List.setIfInBounds_toArray, List.set_cons_zero, List.set_cons_succ]
  refine takeY 15 ⟨some 139, _, _, _, _, _⟩ (v := ?_) ?_ ?_
  rotate_left
  · intro W hSw
    try dsimp only at hSw
    go_simp
    all_goals (with_reducible rfl)
  try simp only [Act.put, List.setIfInBounds_toArray, List.set_cons_zero, List.set_cons_succ]
  refine takeY 16 ⟨some 140, _, _, _, _, _⟩ (v := ?_) ?_ ?_
  rotate_left
  · intro W hSw
    try dsimp only at hSw
    go_simp
    all_goals (with_reducible rfl)
  try simp only [Act.put, List.setIfInBounds_toArray, List.set_cons_zero, List.set_cons_succ]
  refine takeY 17 ⟨some 141, _, _, _, _, _⟩ (v := ?_) ?_ ?_
  rotate_left
  · intro W hSw
    try dsimp only at hSw
    go_simp
    all_goals (with_reducible rfl)
  try simp only [Act.put, List.setIfInBounds_toArray, List.set_cons_zero, List.set_cons_succ]
  refine takeY 18 ⟨some 142, _, _, _, _, _⟩ (v := ?_) ?_ ?_
  rotate_left
  · intro W hSw
    try dsimp only at hSw
    go_simp
    all_goals (with_reducible rfl)
  try simp only [Act.put, List.setIfInBounds_toArray, List.set_cons_zero, List.set_cons_succ]
  refine takeY 19 ⟨some 143, _, _, _, _, _⟩ (v := ?_) ?_ ?_
  rotate_left
  · intro W hSw
    try dsimp only at hSw
    go_simp
    all_goals (with_reducible rfl)
  try simp only [Act.put, List.setIfInBounds_toArray, List.set_cons_zero, List.set_cons_succ]
  refine takeY 20 ⟨some 144, _, _, _, _, _⟩ (v := ?_) ?_ ?_
  rotate_left
  · intro W hSw
    try dsimp only at hSw
    go_simp
    all_goals (with_reducible rfl)
  try simp only [Act.put, List.setIfInBounds_toArray, List.set_cons_zero, List.set_cons_succ]
  refine takeY 21 ⟨some 145, _, _, _, _, _⟩ (v := ?_) ?_ ?_
  rotate_left
  · intro W hSw
    try dsimp only at hSw
    go_simp
    all_goals (with_reducible rfl)
  try simp only [Act.put, List.setIfInBounds_toArray, List.set_cons_zero, List.set_cons_succ]
  refine takeY 22 ⟨some 146, _, _, _, _, _⟩ (v := ?_) ?_ ?_
  rotate_left
  · intro W hSw
    try dsimp only at hSw
    go_simp
    all_goals (with_reducible rfl)
  try simp only [Act.put, List.setIfInBounds_toArray, List.set_cons_zero, List.set_cons_succ]
  refine takeY 23 ⟨some 147, _, _, _, _, _⟩ (v := ?_) ?_ ?_
  rotate_left
  · intro W hSw
    try dsimp only at hSw
    go_simp
    all_goals (with_reducible rfl)
  try simp only [Act.put, List.setIfInBounds_toArray, List.set_cons_zero, List.set_cons_succ]
  refine takeY 24 ⟨some 148, _, _, _, _, _⟩ (v := ?_) ?_ ?_
  rotate_left
  · intro W hSw
    try dsimp only at hSw
    go_simp
    all_goals (with_reducible rfl)
  try simp only [Act.put, List.setIfInBounds_toArray, List.set_cons_zero, List.set_cons_succ]
  refine takeY 25 ⟨some 149, _, _, _, _, _⟩ (v := ?_) ?_ ?_
  rotate_left
  · intro W hSw
    try dsimp only at hSw
    go_simp
    all_goals (with_reducible rfl)
  try simp only [Act.put, List.setIfInBounds_toArray, List.set_cons_zero, List.set_cons_succ]
  refine takeY 26 ⟨some 150, _, _, _, _, _⟩ (v := ?_) ?_ ?_
  rotate_left
  · intro W hSw
    try dsimp only at hSw
    go_simp
    all_goals (with_reducible rfl)
  try simp only [Act.put, List.setIfInBounds_toArray, List.set_cons_zero, List.set_cons_succ]
  refine takeY 27 ⟨some 151, _, _, _, _, _⟩ (v := ?_) ?_ ?_
  rotate_left
  · intro W hSw
    try dsimp only at hSw
    go_simp
    all_goals (with_reducible rfl)
  try simp only [Act.put, List.setIfInBounds_toArray, List.set_cons_zero, List.set_cons_succ]
  refine takeY 28 ⟨some 152, _, _, _, _, _⟩ (v := ?_) ?_ ?_
  rotate_left
  · intro W hSw
    try dsimp only at hSw
    go_simp
    all_goals (with_reducible rfl)
  try simp only [Act.put, List.setIfInBounds_toArray, List.set_cons_zero, List.set_cons_succ]
  refine takeY 29 ⟨some 153, _, _, _, _, _⟩ (v := ?_) ?_ ?_
  rotate_left
  · intro W hSw
    try dsimp only at hSw
    go_simp
    all_goals (with_reducible rfl)
  try simp only [Act.put, List.setIfInBounds_toArray, List.set_cons_zero, List.set_cons_succ]
  refine takeY 30 ⟨some 154, _, _, _, _, _⟩ (v := ?_) ?_ ?_
  rotate_left
  · intro W hSw
    try dsimp only at hSw
    go_simp
    all_goals (with_reducible rfl)
  try simp only [Act.put, List.setIfInBounds_toArray, List.set_cons_zero, List.set_cons_succ]
  refine wpAnyH_ready (rs := [31]) (by kernel_rfl) (by simp) ?_
  refine AllReadyH.cons (o := { dst := some 155, op := Go.Op.call { callee := Go.Callee.value (Go.Operand.func 24), args := #[Go.Operand.tmp 154], argTypes := #[29] }, type := 4, pos := "ref.go:78", after := #[{ on := 30, ground := Go.Ground.data }, { on := 28, ground := Go.Ground.chain }, { on := 28, ground := Go.Ground.guard }], guard := some (28, true) }) rfl (fun K hK => ?_) AllReadyH.nil
  go_simp
  refine (HSZ.out _ HBX.out.below).mono ?_
  rintro e w1 ⟨rfl, rfl⟩
  refine hK.out _ _ (by exact hHeld) (fun hHeld2 => ?_)
  clear hK K hHeld
  have hHeld := hHeld2
  clear hHeld2
  try simp only [Act.put, List.setIfInBounds_toArray, List.set_cons_zero, List.set_cons_succ]
  refine takeY 32 ⟨some 156, _, _, _, _, _⟩ (v := ?_) ?_ ?_
  rotate_left
  · intro W hSw
    try dsimp only at hSw
    go_simp
    all_goals (with_reducible rfl)
  try simp only [Act.put, List.setIfInBounds_toArray, List.set_cons_zero, List.set_cons_succ]
  refine takeY 33 ⟨some 157, _, _, _, _, _⟩ (v := ?_) ?_ ?_
  rotate_left
  · intro W hSw
    try dsimp only at hSw
    go_simp
    all_goals (with_reducible rfl)
  try simp only [Act.put, List.setIfInBounds_toArray, List.set_cons_zero, List.set_cons_succ]
  refine takeY 34 ⟨some 158, _, _, _, _, _⟩ (v := ?_) ?_ ?_
  rotate_left
  · intro W hSw
    try dsimp only at hSw
    go_simp
    all_goals (with_reducible rfl)
  try simp only [Act.put, List.setIfInBounds_toArray, List.set_cons_zero, List.set_cons_succ]
  refine takeY 35 ⟨some 159, _, _, _, _, _⟩ (v := ?_) ?_ ?_
  rotate_left
  · intro W hSw
    try dsimp only at hSw
    go_simp
    all_goals (with_reducible rfl)
  try simp only [Act.put, List.setIfInBounds_toArray, List.set_cons_zero, List.set_cons_succ]
  refine takeY 36 ⟨some 160, _, _, _, _, _⟩ (v := ?_) ?_ ?_
  rotate_left
  · intro W hSw
    try dsimp only at hSw
    go_simp
    all_goals (with_reducible rfl)
  try simp only [Act.put, List.setIfInBounds_toArray, List.set_cons_zero, List.set_cons_succ]
  refine takeY 37 ⟨some 161, _, _, _, _, _⟩ (v := ?_) ?_ ?_
  rotate_left
  · intro W hSw
    try dsimp only at hSw
    go_simp
    all_goals (with_reducible rfl)
  try simp only [Act.put, List.setIfInBounds_toArray, List.set_cons_zero, List.set_cons_succ]
  refine wpAnyH_ready (rs := [38]) (by kernel_rfl) (by simp) ?_
  refine AllReadyH.cons (o := { dst := some 162, op := Go.Op.call { callee := Go.Callee.value (Go.Operand.func 18), args := #[Go.Operand.tmp 159, Go.Operand.tmp 161], argTypes := #[29, 29] }, type := 4, pos := "ref.go:78", after := #[{ on := 35, ground := Go.Ground.data }, { on := 37, ground := Go.Ground.data }, { on := 33, ground := Go.Ground.chain }, { on := 33, ground := Go.Ground.guard }], guard := some (33, true) }) rfl (fun K hK => ?_) AllReadyH.nil
  go_simp
  refine (HUN.out _ HBX.out).mono ?_
  rintro e w2 ⟨rfl, hb2⟩
  have HB2 := Lib.hid (HBX.out.step hb2)
  clear hb2
  refine hK.out _ _ (by exact HCS.out _ HB2.out) (fun hHeld2 => ?_)
  clear hK K hHeld
  have hHeld := hHeld2
  clear hHeld2
  try simp only [Act.put, List.setIfInBounds_toArray, List.set_cons_zero, List.set_cons_succ]
  refine takeY 39 ⟨some 163, _, _, _, _, _⟩ (v := ?_) ?_ ?_
  rotate_left
  · intro W hSw
    try dsimp only at hSw
    go_simp
    all_goals (with_reducible rfl)
  try simp only [Act.put, List.setIfInBounds_toArray, List.set_cons_zero, List.set_cons_succ]
  refine takeY 40 ⟨some 164, _, _, _, _, _⟩ (v := ?_) ?_ ?_
  rotate_left
  · intro W hSw
    try dsimp only at hSw
    go_simp
    all_goals (with_reducible rfl)
  try simp only [Act.put, List.setIfInBounds_toArray, List.set_cons_zero, List.set_cons_succ]
  refine takeY 41 ⟨some 165, _, _, _, _, _⟩ (v := ?_) ?_ ?_
  rotate_left
  · intro W hSw
    try dsimp only at hSw
    go_simp
    all_goals (with_reducible rfl)
  try simp only [Act.put, List.setIfInBounds_toArray, List.set_cons_zero, List.set_cons_succ]
  refine wpAnyH_ready (rs := [42]) (by kernel_rfl) (by simp) ?_
  refine AllReadyH.cons (o := { dst := some 166, op := Go.Op.call { callee := Go.Callee.value (Go.Operand.func 42), args := #[Go.Operand.const (Go.Value.int Go.IntKind.i64 6), Go.Operand.tmp 165], argTypes := #[3, 34] }, type := 4, pos := "ref.go:78", after := #[{ on := 41, ground := Go.Ground.data }, { on := 40, ground := Go.Ground.chain }, { on := 40, ground := Go.Ground.guard }], guard := some (40, true) }) rfl (fun K hK => ?_) AllReadyH.nil
  go_simp
  refine (HDA.out _ HB2.out).mono ?_
  rintro e w3 ⟨rfl, hb3⟩
  have HB3 := Lib.hid (HB2.out.step hb3)
  clear hb3
  refine hK.out _ _ (by exact HCS.out _ HB3.out) (fun hHeld2 => ?_)
  clear hK K hHeld
  have hHeld := hHeld2
  clear hHeld2
  try simp only [Act.put, List.setIfInBounds_toArray, List.set_cons_zero, List.set_cons_succ]
  refine takeY 43 ⟨some 167, _, _, _, _, _⟩ (v := ?_) ?_ ?_
  rotate_left
  · intro W hSw
    try dsimp only at hSw
    go_simp
    all_goals (with_reducible rfl)
  try simp only [Act.put, List.setIfInBounds_toArray, List.set_cons_zero, List.set_cons_succ]
  refine takeY 44 ⟨some 2, _, _, _, _, _⟩ (v := ?_) ?_ ?_
  rotate_left
  · intro W hSw
    try dsimp only at hSw
    go_simp
    all_goals (with_reducible rfl)
  try simp only [Act.put, List.setIfInBounds_toArray, List.set_cons_zero, List.set_cons_succ]
  refine wpAnyH_done (by kernel_rfl) ?_ _
  go_wp2
  go_ret
  exact ⟨rfl, HB3.out.below⟩

end Go.Proofs.YtmbcbfalgdgmjaaGreatDoor

namespace Go.Proofs.YtmbcbfalgdgmjaaGreatDoor
open Go.RowKit

theorem noB_parts {f : Fc} (h : noB f = true) : (decide (f.h.knd = 2) == typedB f.h.typ) = true ∧ (f.h.knd = 2 ∨ f.h.typ = 0) ∧ f.set.length = 0 ∧ f.h.ttl ≤ 10800 ∧ soundN f.zone = true ∧ underN f.name f.zone = true ∧ soundD 6 f.soa = true := by
  unfold noB at h
  simpa only [Bool.and_eq_true, Bool.or_eq_true, decide_eq_true_eq] using h
theorem soundF_parts {f : Fc} (h : soundF f = true) : headB f.name f.h = true ∧ ((f.h.knd = 1 ∧ hasB f = true) ∨ ((f.h.knd = 2 ∨ f.h.knd = 3) ∧ noB f = true)) := by
  unfold soundF at h
  rw [Bool.and_eq_true] at h
  refine ⟨h.1, ?_⟩
  have h2 := h.2
  split at h2
  · exact .inl ⟨by assumption, h2⟩
  · split at h2
    · exact .inr ⟨by assumption, h2⟩
    · cases h2

theorem refsound_yes (w : World) (x : FV) (hx : FAt w w.heap.size x) (hi : FIn x) (hs : soundF x.fact = true) : Calls Tryz.prog 20 #[x.val] w (Gave w (.bool true)) := by
  obtain ⟨hh, h⟩ := soundF_parts hs
  rcases h with ⟨h1, h2⟩ | ⟨h1, h2⟩
  · have h := fsound_has w x hx hi hh h1
    rwa [h2] at h
  · obtain ⟨p1, p2, p3, p4, p5, p6, p7⟩ := noB_parts h2
    have p3' : x.sp.length = 0 := by have e : (dats x.sp).length = 0 := p3; rwa [length_dats] at e
    rcases h1 with h1 | h1
    · have e : typedB x.h.typ = true := by
        have e1 : (decide (x.h.knd = 2) == typedB x.h.typ) = true := p1
        have e2 : x.h.knd = 2 := h1
        rw [decide_eq_true e2] at e1
        simpa using e1
      exact fno_2h w x hx hi hh h1 e p3' p4 p5 p6 p7
    · have e2 : x.h.knd = 3 := h1
      have e : typedB x.h.typ = false := by
        have e1 : (decide (x.h.knd = 2) == typedB x.h.typ) = true := p1
        rw [decide_eq_false (show ¬ x.h.knd = 2 by omega)] at e1
        simpa using e1
      have e0 : x.h.typ = 0 := by
        rcases p2 with p | p
        · have : x.h.knd = 2 := p
          omega
        · exact p
      exact fno_3h w x hx hi hh h1 e e0 p3' p4 p5 p6 p7

end Go.Proofs.YtmbcbfalgdgmjaaGreatDoor
