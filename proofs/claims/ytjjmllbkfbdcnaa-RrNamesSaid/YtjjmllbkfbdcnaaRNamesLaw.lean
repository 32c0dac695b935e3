/-
  RrNames: of which names and types records are, each once.
-/
import Derived.Test.YtjjmllbkfbdcnaaRAnswers
import Derived.Test.YtjjmllbkfbdcnaaRSet
import Derived.Test.YtjjmllbkfbdcnaaRNamesRef
namespace Go.Proofs.Ytjjmllbkfbdcnaa
open Go.RowKit

theorem own_eachN {ps qs : List (RV × Rt)} {P : Rt → Prop} (h : recs qs = recs ps) (hp : ∀ p ∈ ps, P p.2) : ∀ q ∈ qs, P q.2 := fun q hq => by
  have h1 : q.2 ∈ recs ps := h ▸ List.mem_map.2 ⟨q, hq, rfl⟩
  obtain ⟨p, hp1, e⟩ := List.mem_map.1 h1
  exact e ▸ hp p hp1
/-- Each that is told is of a record of class IN. -/
theorem namesF_from (rs : List Rt) : (∀ q ∈ namesF rs, ∃ r ∈ rs, r.cls = 1 ∧ q = qOf r) ∧ (namesF rs).length ≤ rs.length := by
  have key : ∀ (L : List Rt) (s : List Qt), (∀ q ∈ s, ∃ r ∈ rs, r.cls = 1 ∧ q = qOf r) → (∀ r ∈ L, r ∈ rs) → (∀ q ∈ L.foldl stepN s, ∃ r ∈ rs, r.cls = 1 ∧ q = qOf r) ∧ (L.foldl stepN s).length ≤ s.length + L.length := by
    intro L
    induction L with
    | nil => intro s hs _; exact ⟨hs, Nat.le_refl _⟩
    | cons r L ih =>
      intro s hs hL
      have hr := hL r (List.mem_cons_self ..)
      have h := ih (stepN s r) (fun q hq => by
        unfold stepN at hq
        split at hq
        · rename_i hc
          rcases List.mem_append.1 hq with hq | hq
          · exact hs q hq
          · exact ⟨r, hr, hc.1, List.mem_singleton.1 hq⟩
        · exact hs q hq) fun r hr => hL r (List.mem_cons_of_mem _ hr)
      have h2 : (stepN s r).length ≤ s.length + 1 := by
        unfold stepN
        split
        · simp
        · omega
      have h3 := h.2
      refine ⟨h.1, ?_⟩
      simp only [List.foldl_cons, List.length_cons] at h3 ⊢
      omega
  have h := key rs [] (fun q hq => absurd hq (List.not_mem_nil)) fun r hr => hr
  have h2 := h.2
  simp only [List.length_nil, Nat.zero_add] at h2
  exact ⟨h.1, h2⟩
/-- A set of which there is a record is not empty. -/
theorem setF_some {rs : List Rt} {r : Rt} (hr : r ∈ rs) (hc : r.cls = 1) : (setF rs r.name r.kind).1 ≠ [] := by
  have hsel : r ∈ rs.filter (selR r.name r.kind) := List.mem_filter.2 ⟨hr, by simp [selR, hc, eqN]⟩
  have key : ∀ (L : List Rt) (x : List Dt × Int), (x.1 ≠ [] ∨ L ≠ []) → (L.foldl stepS x).1 ≠ [] := by
    intro L
    induction L with
    | nil => intro x h; exact h.elim id fun h => absurd rfl h
    | cons q L ih =>
      intro x _
      refine ih (stepS x q) (.inl ?_)
      unfold stepS
      dsimp only
      split
      · rename_i hh
        intro e
        rw [e] at hh
        simp [hasD] at hh
      · simp
  exact key _ _ (.inr fun e => by rw [e] at hsel; exact absurd hsel (List.not_mem_nil))
theorem qsts_at {qs1 qs2 : List (QV × Qt)} (h : qsts qs1 = qsts qs2) {k : Nat} (h1 : k < qs1.length) (h2 : k < qs2.length) : (qs1[k]).2 = (qs2[k]).2 := by
  have e : (qsts qs1)[k]? = (qsts qs2)[k]? := by rw [h]
  simpa [qsts, h1, h2] using e

set_option maxRecDepth 20000 in
set_option maxHeartbeats 2000000 in
theorem rrnames_dark (w : World) (A : Option Addr) (c : Nat) (ps : List (RV × Rt)) (hp : RsAt w w.heap.size A ps) (hm : ps.length ≤ maxLen) (hl : lightL (recs ps) = false) :
    Calls Try.prog 7 #[.slice A ps.length c] w (TrueB w) := by
  have HL := Lib.hid (fun W (h : Below w.heap.size w W) => lightL_any W A c ps ((hp.below h).mono h.size) hm)
  rw [hl] at HL
  clear hp hl
  go_enter Try.func7, Try.ntmps7
  go_wp2_with fail
  refine (ranswers_any _).mono ?_
  rintro e w1 ⟨rfl, hb1⟩
  have HB1 := Lib.hid hb1
  clear hb1
  go_wp2_with fail
  refine (HL.out w1 HB1.out).mono ?_
  rintro e w2 ⟨rfl, hb2⟩
  have HB2 := Lib.hid (HB1.out.trans (hb2.mono HB1.out.size))
  clear hb2
  go_wp2_with fail
  refine (ranswers_any _).mono ?_
  rintro e w3 ⟨rfl, hb3⟩
  have HB3 := Lib.hid (HB2.out.trans (hb3.mono HB2.out.size))
  clear hb3
  go_wp2
  go_ret
  exact ⟨rfl, HB3.out⟩

def NamesRel5 (W : World) (N : Nat) (i : Value) (wr : World) : Prop := ∃ k : Nat, k ≤ N ∧ i = .int .i64 k ∧ Below W.heap.size W wr

set_option maxRecDepth 100000 in
set_option maxHeartbeats 8000000 in
theorem rrnames_light (w : World) (A : Option Addr) (c : Nat) (ps : List (RV × Rt)) (hp : RsAt w w.heap.size A ps) (hr : ∀ p ∈ ps, RIn p.2) (hl : lightL (recs ps) = true) :
    Calls Try.prog 7 #[.slice A ps.length c] w (TrueB w) := by
  have hle := lightL_each hl
  have hn : ps.length ≤ 60 := by have := hle.2; rwa [length_recs] at this
  have hlr : ∀ p ∈ ps, LightR p.2 := fun p h => hle.1 _ (List.mem_map.2 ⟨p, h, rfl⟩)
  have HL := Lib.hid (fun W (h : Below w.heap.size w W) => lightL_any W A c ps ((hp.below h).mono h.size) (by unfold maxLen; omega))
  rw [hl] at HL
  have HP := Lib.hid hp
  have HR := Lib.hid hr
  have HLR := Lib.hid hlr
  clear hp hr hl hle hlr
  go_enter Try.func7, Try.ntmps7
  go_wp2_with fail
  refine (ranswers_any _).mono ?_
  rintro e w1 ⟨rfl, hb1⟩
  have HB1 := Lib.hid hb1
  clear hb1
  go_wp2_with fail
  refine (HL.out w1 HB1.out).mono ?_
  rintro e w2 ⟨rfl, hb2⟩
  have HB2 := Lib.hid (HB1.out.trans (hb2.mono HB1.out.size))
  clear hb2 HB1 HL
  go_wp2_with fail
  refine (ownRRs_any w2 A c ps ((HP.out.below HB2.out).mono HB2.out.size) HLR.out (by omega)).mono ?_
  rintro e w3 ⟨A4, c4, ps1, rfl, hq1, hd1, hb⟩
  have HQ1 := Lib.hid hq1
  have HD3 := Lib.hid hd1
  have HB3 := Lib.hid (HB2.out.trans (hb.mono HB2.out.size))
  clear hq1 hd1 hb HB2
  go_wp2_with fail
  have hh := names_any w3 A4 c4 ps1 HD3.out (own_eachN (P := fun r => RIn r ∧ LightR r) HQ1.out fun p hp => ⟨HR.out p hp, HLR.out p hp⟩) (by rw [← length_recs, HQ1.out, length_recs]; omega)
  rw [HQ1.out] at hh
  refine hh.mono ?_
  rintro e w4 ⟨A5, c5, qs1, rfl, hs1, hd1, hb⟩
  have HS1 := Lib.hid hs1
  have HE1 := Lib.hid hd1
  have HB4 := Lib.hid (HB3.out.trans (hb.mono HB3.out.size))
  clear hs1 hd1 hb hh HB3 HD3 HQ1
  go_wp2_with fail
  refine (ref_names_any w4 A c ps ((HP.out.below HB4.out).mono HB4.out.size) HR.out (by omega)).mono ?_
  rintro e w5 ⟨A6, c6, qs2, rfl, hs2, hd2, hb⟩
  have HE2 := Lib.hid hd2
  have HE1 := Lib.hid ((HE1.out.below hb).mono hb.size)
  have HB5 := Lib.hid (HB4.out.trans (hb.mono HB4.out.size))
  have HDD := Lib.hid (show qsts qs1 = qsts qs2 by rw [HS1.out, hs2])
  clear hs2 hd2 hb HB4
  have hlen : qs1.length = qs2.length := by rw [← length_qsts, ← length_qsts, HDD.out]
  have hlq : qs1.length ≤ 60 := by
    have h := (namesF_from (recs ps)).2
    rw [← HS1.out, length_qsts, length_recs] at h
    omega
  have b1 : ((qs1.length : Int) != (qs2.length : Int)) = false := by rw [hlen]; simp
  have HLN := Lib.hid hlen
  clear hlen
  go_wp2
  go_loopw [5] (NamesRel5 w5 qs1.length) (fun i _ => qs1.length - (intOf i).toNat)
  case atStart => exact ⟨0, Nat.zero_le _, rfl, Below.refl _ _⟩
  case round =>
    obtain ⟨k, hk, rfl, hb⟩ := hrel
    have HBB := Lib.hid hb
    have hzz := hb.size
    clear hb
    by_cases hlt : k < qs1.length
    · have hlt2 : k < qs2.length := by have := HLN.out; omega
      obtain ⟨b1, o1, rfl, hb1, hd1, s0, s1, s2⟩ := HE1.out.at_ hlt
      obtain ⟨b2, o2, rfl, hb2, hd2, v0, v1, v2⟩ := HE2.out.at_ hlt2
      have hsame := qsts_at HDD.out hlt hlt2
      have hfrom := (namesF_from (recs ps)).1 (qs1[k]).2 (by rw [← HS1.out]; exact List.mem_map.2 ⟨qs1[k], List.getElem_mem hlt, rfl⟩)
      revert hd1 s0 s1 s2 hd2 v0 v1 v2 hsame hfrom
      generalize qs1[k] = p1
      generalize qs2[k] = p2
      obtain ⟨y1, d⟩ := p1
      obtain ⟨y2, d'⟩ := p2
      intro hd1 s0 s1 s2 hd2 v0 v1 v2 hsame hfrom
      dsimp only at *
      subst hsame
      obtain ⟨r, hrm, hrc, hqr⟩ := hfrom
      obtain ⟨p, hpm, hpr⟩ := List.mem_map.1 hrm
      have hwn : WideN d.name := by rw [hqr]; exact hpr ▸ (HR.out p hpm).n
      have hdc : d.cls = 1 := by rw [hqr]; exact hrc
      have hns : (setF (recs ps) d.name d.kind).1 ≠ [] := by rw [hqr]; exact setF_some hrm hrc
      have HWN := Lib.hid hwn
      have HNS := Lib.hid hns
      have S0 := Lib.hid s0
      have V0 := Lib.hid v0
      have S1 := Lib.hid s1
      have V1 := Lib.hid v1
      have S2 := Lib.hid s2
      have V2 := Lib.hid v2
      have HDA := Lib.hid hd1
      have HDB := Lib.hid hd2
      clear hd1 hd2 s0 s1 s2 v0 v1 v2 hrm hpm hpr hqr hwn hns
      have hk0 : (0 : Int) ≤ (k : Int) := by omega
      have hk1 : (k : Int) < (qs1.length : Int) := by omega
      have hk2 : (k : Int) < (qs2.length : Int) := by omega
      have t1 : (d.kind != d.kind) = false := by simp
      have t2 : (d.cls != 1) = false := by rw [hdc]; rfl
      clear hdc hrc
      have HBD := Lib.hid HBB.out.drew
      go_wp2
      go_region_held3 (fun W => (W.cell? ⟨b1, o1 + k * 3, none⟩ = some (.slice y1.1 d.name.length y1.2) ∧ W.cell? ⟨b1, o1 + k * 3 + 1, none⟩ = some (.int .i64 d.kind) ∧ W.cell? ⟨b1, o1 + k * 3 + 2, none⟩ = some (.int .i64 d.cls)) ∧ (W.cell? ⟨b2, o2 + k * 3, none⟩ = some (.slice y2.1 d.name.length y2.2) ∧ W.cell? ⟨b2, o2 + k * 3 + 1, none⟩ = some (.int .i64 d.kind) ∧ W.cell? ⟨b2, o2 + k * 3 + 2, none⟩ = some (.int .i64 d.cls)))
        (exact ⟨⟨(HBD.out.cell (p := ⟨b1, o1 + k * 3, none⟩) hb1).trans S0.out, (HBD.out.cell (p := ⟨b1, o1 + k * 3 + 1, none⟩) hb1).trans S1.out, (HBD.out.cell (p := ⟨b1, o1 + k * 3 + 2, none⟩) hb1).trans S2.out⟩, ⟨(HBD.out.cell (p := ⟨b2, o2 + k * 3, none⟩) hb2).trans V0.out, (HBD.out.cell (p := ⟨b2, o2 + k * 3 + 1, none⟩) hb2).trans V1.out, (HBD.out.cell (p := ⟨b2, o2 + k * 3 + 2, none⟩) hb2).trans V2.out⟩⟩)
        ((first
          | (go_at_call 40
             have hh := exact_any y1.1 y2.1 d.name.length d.name.length y1.2 y2.2 _ d.name d.name _ rfl rfl (Row.below HDA.out HBD.out) (Row.below HDB.out HBD.out) HWN.out.1
             rw [show decide (d.name = d.name) = true by simp] at hh
             refine hh.mono ?_
             intro e wn hgv
             obtain ⟨rfl, hb⟩ := gave_drewn hgv
             have HBD := Lib.hid (HBD.out.trans (hb.mono HBD.out.size))
             clear hb hgv hh)))
      go_wp2
      have HBD := Lib.hid HBD.out.drew
      go_region_held3 (fun W => W.cell? ⟨b1, o1 + k * 3, none⟩ = some (.slice y1.1 d.name.length y1.2) ∧ W.cell? ⟨b1, o1 + k * 3 + 1, none⟩ = some (.int .i64 d.kind))
        (exact ⟨(HBD.out.cell (p := ⟨b1, o1 + k * 3, none⟩) hb1).trans S0.out, (HBD.out.cell (p := ⟨b1, o1 + k * 3 + 1, none⟩) hb1).trans S1.out⟩)
        ((first
          | (go_at_call 32
             refine (set_any _ A c ps y1.1 d.name y1.2 d.kind (((HP.out.below HB5.out).mono HB5.out.size).below HBD.out |>.mono HBD.out.size) (Row.mono (Row.below HDA.out HBD.out) HBD.out.size) HWN.out (fun p hp => ⟨HR.out p hp, (HLR.out p hp).few⟩) (by omega)).mono ?_
             rintro e wn ⟨A7, c7, ss, rfl, hss, _, hb⟩
             have HSS := Lib.hid hss
             have HBD := Lib.hid (HBD.out.trans (hb.mono HBD.out.size))
             clear hss hb)))
      have hne : ss.length ≠ 0 := by
        intro e
        have h := HNS.out
        rw [← HSS.out, List.eq_nil_of_length_eq_zero e] at h
        exact h rfl
      have t3 : ((ss.length : Int) == 0) = false := by rw [beq_eq_false_iff_ne]; omega
      clear hne
      go_wp2
      exact ⟨⟨k + 1, by omega, by go_num, HBD.out⟩, by simp [intOf]; omega⟩
    · go_wp2
      go_ret
      exact ⟨rfl, HB5.out.trans (HBB.out.mono HB5.out.size)⟩

theorem rrnames_any (w : World) (A : Option Addr) (c : Nat) (ps : List (RV × Rt)) (hp : RsAt w w.heap.size A ps) (hr : ∀ p ∈ ps, RIn p.2) (hm : ps.length ≤ maxLen) :
    Calls Try.prog 7 #[.slice A ps.length c] w (TrueB w) := by
  cases hl : lightL (recs ps) with
  | false => exact rrnames_dark w A c ps hp hm hl
  | true => exact rrnames_light w A c ps hp hr hl

end Go.Proofs.Ytjjmllbkfbdcnaa
