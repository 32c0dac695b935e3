/-
  RrOrder: the order of records, and those that are there twice, do not matter for a set.
-/
import Derived.Test.YtjjmllbkfbdcnaaRAnswers
import Derived.Test.YtjjmllbkfbdcnaaROrd
namespace Go.Proofs.Ytjjmllbkfbdcnaa
open Go.RowKit

theorem setF_mem (rs : List Rt) (n : List (List UInt8)) (k : Int) : ∀ d ∈ (setF rs n k).1, ∃ r ∈ rs, r.data = d := by
  have key : ∀ (L : List Rt) (x : List Dt × Int), (∀ d ∈ x.1, ∃ r ∈ rs, r.data = d) → (∀ r ∈ L, r ∈ rs) → ∀ d ∈ (L.foldl stepS x).1, ∃ r ∈ rs, r.data = d := by
    intro L
    induction L with
    | nil => intro x hx _; exact hx
    | cons r L ih =>
      intro x hx hL
      refine ih _ (fun d hd => ?_) fun r hr => hL r (List.mem_cons_of_mem _ hr)
      unfold stepS at hd
      dsimp only at hd
      split at hd
      · exact hx d hd
      · rcases List.mem_append.1 hd with hd | hd
        · exact hx d hd
        · exact ⟨r, hL r (List.mem_cons_self ..), (List.mem_singleton.1 hd).symm⟩
  exact key _ _ (fun d hd => absurd hd (List.not_mem_nil)) fun r hr => (List.mem_filter.1 hr).1
theorem set_wide {ps : List (RV × Rt)} (hr : ∀ p ∈ ps, RIn p.2) {qs : List (DV × Dt)} {n : List (List UInt8)} {k : Int} (h : dats qs = (setF (recs ps) n k).1) : ∀ q ∈ qs, Wide q.2 := fun q hq => by
  obtain ⟨r, hm, e⟩ := setF_mem (recs ps) n k q.2 (by rw [← h]; exact List.mem_map.2 ⟨q, hq, rfl⟩)
  obtain ⟨p, hp, rfl⟩ := List.mem_map.1 hm
  rw [← e]
  exact (hr p hp).d

theorem setF_short (rs : List Rt) (n : List (List UInt8)) (k : Int) : (setF rs n k).1.length ≤ rs.length := by
  have key : ∀ (L : List Rt) (x : List Dt × Int), (L.foldl stepS x).1.length ≤ x.1.length + L.length := by
    intro L
    induction L with
    | nil => intro x; exact Nat.le_refl _
    | cons r L ih =>
      intro x
      have h := ih (stepS x r)
      have h2 : (stepS x r).1.length ≤ x.1.length + 1 := by
        unfold stepS
        dsimp only
        split
        · omega
        · simp
      simp only [List.foldl_cons, List.length_cons]
      omega
  have h1 := key (rs.filter (selR n k)) ([], 0)
  have h2 := List.length_filter_le (selR n k) rs
  simp only [List.length_nil, Nat.zero_add] at h1
  exact Nat.le_trans h1 h2
theorem set_short {ps : List (RV × Rt)} {qs : List (DV × Dt)} {n : List (List UInt8)} {k : Int} (h : dats qs = (setF (recs ps) n k).1) (hl : ps.length ≤ 100) : qs.length ≤ maxLen := by
  have h1 := setF_short (recs ps) n k
  rw [← h, length_dats, length_recs] at h1
  unfold maxLen
  omega
theorem own_each {ps qs : List (RV × Rt)} {P : Rt → Prop} (h : recs qs = recs ps) (hp : ∀ p ∈ ps, P p.2) : ∀ q ∈ qs, P q.2 := fun q hq => by
  have h1 : q.2 ∈ recs ps := h ▸ List.mem_map.2 ⟨q, hq, rfl⟩
  obtain ⟨p, hp1, e⟩ := List.mem_map.1 h1
  exact e ▸ hp p hp1

set_option maxRecDepth 20000 in
set_option maxHeartbeats 2000000 in
theorem rorder_dark (w : World) (A : Option Addr) (c : Nat) (ps : List (RV × Rt)) (t : Int) (hp : RsAt w w.heap.size A ps) (hm : ps.length ≤ maxLen) (hl : lightL (recs ps) = false) :
    Calls Try.prog 8 #[.slice A ps.length c, .int .u8 t] w (TrueB w) := by
  have HL := Lib.hid (fun W (h : Below w.heap.size w W) => lightL_any W A c ps ((hp.below h).mono h.size) hm)
  rw [hl] at HL
  clear hp hl
  go_enter Try.func8, Try.ntmps8
  go_wp2_with fail
  refine (ranswers_any _).mono ?_
  rintro e w1 ⟨rfl, hb1⟩
  have HB1 := Lib.hid hb1
  clear hb1
  go_wp2_with fail
  refine (HL.out w1 HB1.out).mono ?_
  rintro e w2 ⟨rfl, hb2⟩
  have HB2 := Lib.hid (HB1.out.trans (hb2.mono HB1.out.size))
  clear hb2
  go_wp2_with fail
  refine (ranswers_any _).mono ?_
  rintro e w3 ⟨rfl, hb3⟩
  have HB3 := Lib.hid (HB2.out.trans (hb3.mono HB2.out.size))
  clear hb3
  go_wp2
  go_ret
  exact ⟨rfl, HB3.out⟩

set_option maxRecDepth 20000 in
set_option maxHeartbeats 2000000 in
theorem rorder_none (w : World) (A : Option Addr) (c : Nat) (t : Int) :
    Calls Try.prog 8 #[.slice A 0 c, .int .u8 t] w (TrueB w) := by
  have HL := Lib.hid (fun W => lightL_any W A c [] ⟨Row.empty _ _ _, fun _ h => absurd h (List.not_mem_nil)⟩ (Nat.zero_le _))
  rw [show lightL (recs []) = true from rfl] at HL
  go_enter Try.func8, Try.ntmps8
  go_wp2_with fail
  refine (ranswers_any _).mono ?_
  rintro e w1 ⟨rfl, hb1⟩
  have HB1 := Lib.hid hb1
  clear hb1
  go_wp2_with fail
  refine (HL.out w1).mono ?_
  rintro e w2 ⟨rfl, hb2⟩
  have HB2 := Lib.hid (HB1.out.trans (hb2.mono HB1.out.size))
  clear hb2
  go_wp2_with fail
  refine (ranswers_any _).mono ?_
  rintro e w3 ⟨rfl, hb3⟩
  have HB3 := Lib.hid (HB2.out.trans (hb3.mono HB2.out.size))
  clear hb3
  go_wp2
  go_ret
  exact ⟨rfl, HB3.out⟩

/-- Ahead of a round: what has been turned. -/
def TurnRel (w : World) (ps : List (RV × Rt)) (v i : Value) (wr : World) : Prop :=
  ∃ r : Nat, r ≤ ps.length ∧ i = .int .i64 ((r : Int) - 1) ∧ wr.ownsRow w.heap.size 51 9 v (ps.length - r) ((ps.drop r).reverse.flatMap cellsR) ∧ Below w.heap.size w wr ∧ w.heap.size ≤ wr.heap.size

set_option maxRecDepth 20000 in
set_option maxHeartbeats 8000000 in
theorem rorder_light (w : World) (A : Option Addr) (c : Nat) (ps : List (RV × Rt)) (t : Nat) (hp : RsAt w w.heap.size A ps) (hr : ∀ p ∈ ps, RIn p.2) (hl : lightL (recs ps) = true) (h0 : 0 < ps.length) (ht : t ≤ 255) :
    Calls Try.prog 8 #[.slice A ps.length c, .int .u8 t] w (TrueB w) := by
  obtain ⟨i0, hi0, hz0, hz1, hz2⟩ := info_parts rr_info
  have hle := lightL_each hl
  have hn : ps.length ≤ 60 := by have := hle.2; rwa [length_recs] at this
  have hlr : ∀ p ∈ ps, LightR p.2 := fun p h => hle.1 _ (List.mem_map.2 ⟨p, h, rfl⟩)
  have HL := Lib.hid (fun W (h : Below w.heap.size w W) => lightL_any W A c ps ((hp.below h).mono h.size) (by unfold maxLen; omega))
  rw [hl] at HL
  have HP := Lib.hid hp
  have HR := Lib.hid hr
  have HLR := Lib.hid hlr
  obtain ⟨kk, hkk, hklt⟩ : ∃ kk : Nat, (t : Int) % (ps.length : Int) = (kk : Int) ∧ kk < ps.length := ⟨t % ps.length, by omega, Nat.mod_lt _ h0⟩
  have e0 : ((ps.length : Int) == 0) = false := by rw [beq_eq_false_iff_ne]; omega
  have e0' : (ps.length : Int) ≠ 0 := by omega
  clear hp hr hl hle hlr
  go_enter Try.func8, Try.ntmps8
  go_wp2_with fail
  refine (ranswers_any _).mono ?_
  rintro e w1 ⟨rfl, hb1⟩
  have HB1 := Lib.hid hb1
  clear hb1
  go_wp2_with fail
  refine (HL.out w1 HB1.out).mono ?_
  rintro e w2 ⟨rfl, hb2⟩
  have HB2 := Lib.hid (HB1.out.trans (hb2.mono HB1.out.size))
  clear hb2 HL HB1
  go_wp2
  rw [hkk]
  clear hkk ht e0 e0'
  go_loopw [6, 7] (TurnRel w ps) (fun _ i _ => (intOf i + 1).toNat)
  case atStart => exact ⟨ps.length, Nat.le_refl _, rfl, by rw [Nat.sub_self, List.drop_length]; exact World.ownsRow_nil _ _ _ _, HB2.out, HB2.out.size⟩
  case round =>
    obtain ⟨rr, hrn, rfl, hown, hb, hz⟩ := hrel
    have HO := Lib.hid hown
    have HB := Lib.hid hb
    obtain ⟨A1, c1, rfl, _, _⟩ := own_form hown
    clear hown hb
    rcases rr with _ | r'
    · have ei : (((0 : Nat) : Int) - 1) = -1 := rfl
      rw [ei]
      clear HB2
      rw [Nat.sub_zero, List.drop_zero] at HO
      simp only [Nat.sub_zero] at HO ⊢
      obtain ⟨b, off, rfl, hbH, hra, q0, q1, q2, q3, q4, q5, q6, q7, q8⟩ := HP.out.at_ hklt
      have HUS := Lib.hid (mem_turned (rs := recs ps) (k := kk) (by rw [length_recs]; exact hklt))
      have hpr := HR.out _ (List.getElem_mem hklt)
      have hpl := HLR.out _ (List.getElem_mem hklt)
      obtain ⟨us, hus⟩ : ∃ us, us = ps.reverse ++ [ps[kk]] := ⟨_, rfl⟩
      have HMU := Lib.hid (show ∀ p ∈ us, p ∈ ps by
        intro p hp
        rw [hus] at hp
        rcases List.mem_append.1 hp with hp | hp
        · exact List.mem_reverse.1 hp
        · rw [List.mem_singleton.1 hp]; exact List.getElem_mem hklt)
      have HRU := Lib.hid (show ∀ r, r ∈ recs us ↔ r ∈ recs ps by
        intro r
        rw [← HUS.out r, hus, recs_append]
        have h1 : recs ps.reverse = (recs ps).reverse := by simp [recs]
        have h2 : recs [ps[kk]] = [(recs ps)[kk]'(by rw [length_recs]; exact hklt)] := by simp [recs]
        rw [h1, h2])
      have hul : us.length = ps.length + 1 := by rw [hus]; simp
      have HUF := Lib.hid (show us.flatMap cellsR = ps.reverse.flatMap cellsR ++ cellsR ps[kk] by rw [hus, List.flatMap_append]; simp)
      clear hus HUS
      revert hra q0 q1 q2 q3 q4 q5 q6 q7 q8 hpr hpl HUF
      generalize ps[kk] = p
      obtain ⟨x, r⟩ := p
      intro hra q0 q1 q2 q3 q4 q5 q6 q7 q8 hpr hpl HUF
      dsimp only at *
      have HRA := Lib.hid hra
      have HPR := Lib.hid hpr
      have HPL := Lib.hid hpl
      clear hra hpr hpl
      have k0 := (HB.out.cell (p := ⟨b, off + kk * 9, none⟩) hbH).trans q0
      have k1 := (HB.out.cell (p := ⟨b, off + kk * 9 + 1, none⟩) hbH).trans q1
      have k2 := (HB.out.cell (p := ⟨b, off + kk * 9 + 2, none⟩) hbH).trans q2
      have k3 := (HB.out.cell (p := ⟨b, off + kk * 9 + 3, none⟩) hbH).trans q3
      have k4 := (HB.out.cell (p := ⟨b, off + kk * 9 + 4, none⟩) hbH).trans q4
      have k5 := (HB.out.cell (p := ⟨b, off + kk * 9 + 5, none⟩) hbH).trans q5
      have k6 := (HB.out.cell (p := ⟨b, off + kk * 9 + 6, none⟩) hbH).trans q6
      have k7 := (HB.out.cell (p := ⟨b, off + kk * 9 + 7, none⟩) hbH).trans q7
      have k8 := (HB.out.cell (p := ⟨b, off + kk * 9 + 8, none⟩) hbH).trans q8
      have hnew := (Below.refl wr.heap.size wr).alloc (Nat.le_refl _) (.cells #[.slice x.A r.name.length x.c, .int .i64 r.kind, .int .i64 r.cls, .int .i64 r.ttl, .slice x.d.Ab r.data.bytes.length x.d.cb, .slice x.d.Ah r.data.host.length x.d.ch, .slice x.d.Am r.data.mail.length x.d.cm, .slice x.d.An r.data.nums.length x.d.cn, .slice x.d.At r.data.texts.length x.d.ct] 51)
      have HO2 := Lib.hid (own_keep HO.out fun j hj => hnew.block j (HO.out.lt j hj).2)
      have HBW := Lib.hid (HB.out.trans (hnew.mono hz))
      have HRD := Lib.hid (Row.made wr #[.slice x.A r.name.length x.c, .int .i64 r.kind, .int .i64 r.cls, .int .i64 r.ttl, .slice x.d.Ab r.data.bytes.length x.d.cb, .slice x.d.Ah r.data.host.length x.d.ch, .slice x.d.Am r.data.mail.length x.d.cm, .slice x.d.An r.data.nums.length x.d.cn, .slice x.d.At r.data.texts.length x.d.ct] 51)
      have hz2' : w.heap.size ≤ (wr.alloc (.cells #[.slice x.A r.name.length x.c, .int .i64 r.kind, .int .i64 r.cls, .int .i64 r.ttl, .slice x.d.Ab r.data.bytes.length x.d.cb, .slice x.d.Ah r.data.host.length x.d.ch, .slice x.d.Am r.data.mail.length x.d.cm, .slice x.d.An r.data.nums.length x.d.cn, .slice x.d.At r.data.texts.length x.d.ct] 51)).heap.size := Nat.le_trans hz hnew.size
      clear hnew
      have Q0 := Lib.hid q0
      have Q1 := Lib.hid q1
      clear q0 q1 q2 q3 q4 q5 q6 q7 q8
      go_wp2_with (
        at_builtin
        refine wpList_append_row rfl (.tmp 44) (.tmp 49) _ rfl w.heap.size 51 i0 _ 9 168 Try.underlying47 hi0 hz0 hz1 hz2 rfl (by omega) (.slice A1 ps.length c1) ps.length _ rfl HO2.out
          (some ⟨wr.heap.size, 0, none⟩) 1 1 (wr.heap.size + 1) (cellsR (x, r)) rfl rfl HRD.out (cellsR_one1 _) (by unfold maxLen; omega) (by omega) hz2' ?_
        intro v3 w3 hown7 hg7
        rw [← HUF.out, ← hul] at hown7
        obtain ⟨A3, c3, rfl, _, _⟩ := own_form hown7
        have hb3 := own_below HBW.out (Nat.le_refl _) hz2' HO2.out hg7
        have HT := Lib.hid (show RsAt w3 w3.heap.size A3 us from ⟨Row.of_own hown7, fun p hp => ((HP.out.2 p (HMU.out p hp)).below hb3).mono hb3.size⟩)
        have HB3 := Lib.hid hb3
        clear hown7 hg7 hb3)
      clear k0 k1 k2 k3 k4 k5 k6 k7 k8 HB HBW HRD HO2 HO hz2' hz
      have HB := Lib.hid HB3.out.drew
      have HX := Lib.hid (show RsAt w3.drew w3.drew.heap.size A3 us from HT.out.below (Below.refl w3.heap.size w3).drew)
      clear HB3 HT
      have hu61 : us.length ≤ 61 := by omega
      go_region_held3 (fun W => W.cell? ⟨b, off + kk * 9, none⟩ = some (x.vn r) ∧ W.cell? ⟨b, off + kk * 9 + 1, none⟩ = some (.int .i64 r.kind))
        (exact ⟨(HB.out.cell (p := ⟨b, off + kk * 9, none⟩) hbH).trans Q0.out, (HB.out.cell (p := ⟨b, off + kk * 9 + 1, none⟩) hbH).trans Q1.out⟩)
        ((first
          | (go_at_call 33
             refine (ownRRs_any _ (some ⟨b, off, none⟩) c ps ((HP.out.below HB.out).mono HB.out.size) HLR.out (by omega)).mono ?_
             rintro e wn ⟨A4, c4, qs1, rfl, hq1, hd1, hb⟩
             have HQ1 := Lib.hid hq1
             have HD1 := Lib.hid hd1
             have HX := Lib.hid ((HX.out.below hb).mono hb.size)
             have HB := Lib.hid (HB.out.trans (hb.mono HB.out.size))
             clear hq1 hd1 hb)
          | (go_at_call 32
             have hh := set_any _ A4 c4 qs1 x.A r.name x.c r.kind HD1.out ((HRA.out.n.below HB.out).mono HB.out.size) HPR.out.n (own_each (P := fun r => RIn r ∧ FewD r.data) HQ1.out fun p hp => ⟨HR.out p hp, (HLR.out p hp).few⟩) (by rw [← length_recs, HQ1.out, length_recs]; omega)
             rw [HQ1.out] at hh
             refine hh.mono ?_
             rintro e wn ⟨A5, c5, ss1, rfl, hs1, hd1, hb⟩
             have HS1 := Lib.hid hs1
             have HE1 := Lib.hid hd1
             have HX := Lib.hid ((HX.out.below hb).mono hb.size)
             have HB := Lib.hid (HB.out.trans (hb.mono HB.out.size))
             clear hs1 hd1 hb hh HD1)))
      have hu61' : us.length ≤ 61 := by omega
      have HRW := Lib.hid (fun q (h : q ∈ us) => HR.out q (HMU.out q h))
      have HLW := Lib.hid (fun q (h : q ∈ us) => HLR.out q (HMU.out q h))
      have HORD := Lib.hid (setF_order HRU.out r.name r.kind)
      go_wp2
      have HB := Lib.hid HB.out.drew
      have HX := Lib.hid (show RsAt wn.drew wn.drew.heap.size A3 us from HX.out.below (Below.refl wn.heap.size wn).drew)
      have HE1 := Lib.hid (show DsAt wn.drew wn.drew.heap.size A5 ss1 from HE1.out.below (Below.refl wn.heap.size wn).drew)
      clear HQ1
      go_region_held3 (fun W => W.cell? ⟨b, off + kk * 9, none⟩ = some (x.vn r) ∧ W.cell? ⟨b, off + kk * 9 + 1, none⟩ = some (.int .i64 r.kind))
        (exact ⟨(HB.out.cell (p := ⟨b, off + kk * 9, none⟩) hbH).trans Q0.out, (HB.out.cell (p := ⟨b, off + kk * 9 + 1, none⟩) hbH).trans Q1.out⟩)
        ((first
          | (go_at_call 33
             have hh := ownRRs_any _ A3 c3 us HX.out HLW.out (by omega)
             rw [hul] at hh
             refine hh.mono ?_
             rintro e wn ⟨A6, c6, qs2, rfl, hq1, hd1, hb⟩
             have HQ2 := Lib.hid hq1
             have HD2 := Lib.hid hd1
             have HE1 := Lib.hid ((HE1.out.below hb).mono hb.size)
             have HB := Lib.hid (HB.out.trans (hb.mono HB.out.size))
             clear hq1 hd1 hb hh)
          | (go_at_call 32
             have hh := set_any _ A6 c6 qs2 x.A r.name x.c r.kind HD2.out ((HRA.out.n.below HB.out).mono HB.out.size) HPR.out.n (own_each (P := fun r => RIn r ∧ FewD r.data) HQ2.out fun p hp => ⟨HRW.out p hp, (HLW.out p hp).few⟩) (by rw [← length_recs, HQ2.out, length_recs]; omega)
             rw [HQ2.out] at hh
             refine hh.mono ?_
             rintro e wn ⟨A7, c7, ss2, rfl, hs1, hd1, hb⟩
             have HS2 := Lib.hid hs1
             have HE2 := Lib.hid hd1
             have HE1 := Lib.hid ((HE1.out.below hb).mono hb.size)
             have HB := Lib.hid (HB.out.trans (hb.mono HB.out.size))
             clear hs1 hd1 hb hh HD2)))
      have hlen : ss1.length = ss2.length := by
        rw [← length_dats, ← length_dats, HS1.out, HS2.out]
        exact HORD.out.2.1
      have ht12 := HORD.out.2.2
      have HSS := Lib.hid (show sameS (dats ss1) (dats ss2) = true by rw [HS1.out, HS2.out]; exact HORD.out.1)
      have HSM := Lib.hid (sameSet_any wn A5 c5 ss1 A7 c7 ss2 HE1.out HE2.out (set_wide HR.out HS1.out) (set_wide HRW.out HS2.out) (set_short HS1.out (by omega)) (set_short HS2.out (by omega)))
      rw [HSS.out] at HSM
      clear HORD HSS
      generalize (setF (recs ps) r.name r.kind).2 = T1 at *
      generalize (setF (recs us) r.name r.kind).2 = T2 at *
      subst ht12
      have b1 : ((ss1.length : Int) == (ss2.length : Int)) = true := by rw [beq_iff_eq, hlen]
      clear hlen
      go_wp2_with fail
      refine HSM.out.mono ?_
      rintro e w9 ⟨rfl, hb⟩
      have HB9 := Lib.hid (HB.out.trans (hb.mono HB.out.size))
      clear hb
      go_wp2
      go_ret
      exact ⟨by simp, HB9.out⟩
    · have ei : (((r' + 1 : Nat) : Int) - 1) = (r' : Int) := by omega
      rw [ei]
      have hlt : r' < ps.length := by omega
      obtain ⟨b, off, rfl, hbH, hra, q0, q1, q2, q3, q4, q5, q6, q7, q8⟩ := (HP.out.below HB.out).at_ hlt
      have HD := Lib.hid (show (ps.drop r').reverse.flatMap cellsR = (ps.drop (r' + 1)).reverse.flatMap cellsR ++ cellsR ps[r'] by
        rw [List.drop_eq_getElem_cons hlt, List.reverse_cons, List.flatMap_append]
        simp)
      clear hra
      revert q0 q1 q2 q3 q4 q5 q6 q7 q8 HD
      generalize ps[r'] = p
      obtain ⟨x, r⟩ := p
      intro q0 q1 q2 q3 q4 q5 q6 q7 q8 HD
      dsimp only at *
      have hnew := (Below.refl wr.heap.size wr).alloc (Nat.le_refl _) (.cells #[.slice x.A r.name.length x.c, .int .i64 r.kind, .int .i64 r.cls, .int .i64 r.ttl, .slice x.d.Ab r.data.bytes.length x.d.cb, .slice x.d.Ah r.data.host.length x.d.ch, .slice x.d.Am r.data.mail.length x.d.cm, .slice x.d.An r.data.nums.length x.d.cn, .slice x.d.At r.data.texts.length x.d.ct] 51)
      have HO2 := Lib.hid (own_keep HO.out fun j hj => hnew.block j (HO.out.lt j hj).2)
      have HBW := Lib.hid (HB.out.trans (hnew.mono hz))
      have HRD := Lib.hid (Row.made wr #[.slice x.A r.name.length x.c, .int .i64 r.kind, .int .i64 r.cls, .int .i64 r.ttl, .slice x.d.Ab r.data.bytes.length x.d.cb, .slice x.d.Ah r.data.host.length x.d.ch, .slice x.d.Am r.data.mail.length x.d.cm, .slice x.d.An r.data.nums.length x.d.cn, .slice x.d.At r.data.texts.length x.d.ct] 51)
      have hz2' : w.heap.size ≤ (wr.alloc (.cells #[.slice x.A r.name.length x.c, .int .i64 r.kind, .int .i64 r.cls, .int .i64 r.ttl, .slice x.d.Ab r.data.bytes.length x.d.cb, .slice x.d.Ah r.data.host.length x.d.ch, .slice x.d.Am r.data.mail.length x.d.cm, .slice x.d.An r.data.nums.length x.d.cn, .slice x.d.At r.data.texts.length x.d.ct] 51)).heap.size := Nat.le_trans hz hnew.size
      clear hnew
      obtain ⟨k, hk⟩ : ∃ k, k = ps.length - (r' + 1) := ⟨_, rfl⟩
      rw [← hk] at HO HO2
      have hk60 : k ≤ 60 := by omega
      rw [← hk]
      go_wp2_with (
        at_builtin
        refine wpList_append_row rfl (.tmp 37) (.tmp 42) _ rfl w.heap.size 51 i0 _ 9 168 Try.underlying47 hi0 hz0 hz1 hz2 rfl (by omega) (.slice A1 k c1) k _ rfl HO2.out
          (some ⟨wr.heap.size, 0, none⟩) 1 1 (wr.heap.size + 1) (cellsR (x, r)) rfl rfl HRD.out (cellsR_one1 _) (by unfold maxLen; omega) (by omega) hz2' ?_
        intro v7 w7 hown7 hg7
        have HO7 := Lib.hid hown7
        have HB7 := Lib.hid (own_below HBW.out (Nat.le_refl _) hz2' HO2.out hg7)
        have hz7 := Nat.le_trans hz2' hg7.size
        clear hown7 hg7)
      refine ⟨⟨r', by omega, rfl, ?_, HB7.out, hz7⟩, by simp [intOf]⟩
      rw [HD.out, show ps.length - r' = k + 1 by omega]
      exact HO7.out

theorem u8_bounds {n : Int} (h : (Lit.int .u8 n).wf = true) : 0 ≤ n ∧ n < 256 := by
  have h1 : IntKind.u8.min = 0 := rfl
  have h2 : IntKind.u8.max = 255 := rfl
  simp only [Lit.wf, Bool.and_eq_true, decide_eq_true_eq] at h
  omega
theorem rorder_any (w : World) (A : Option Addr) (c : Nat) (ps : List (RV × Rt)) (z : Int) (hp : RsAt w w.heap.size A ps) (hr : ∀ p ∈ ps, RIn p.2) (hm : ps.length ≤ maxLen) (hz : (Lit.int .u8 z).wf = true) :
    Calls Try.prog 8 #[.slice A ps.length c, .int .u8 z] w (TrueB w) := by
  have hb := u8_bounds hz
  obtain ⟨t, rfl⟩ : ∃ t : Nat, z = (t : Int) := ⟨z.toNat, by omega⟩
  cases hl : lightL (recs ps) with
  | false => exact rorder_dark w A c ps t hp hm hl
  | true =>
    rcases ps with _ | ⟨p, ps⟩
    · exact rorder_none w A c t
    · exact rorder_light w A c (p :: ps) t hp hr hl (by simp) (by omega)

end Go.Proofs.Ytjjmllbkfbdcnaa
