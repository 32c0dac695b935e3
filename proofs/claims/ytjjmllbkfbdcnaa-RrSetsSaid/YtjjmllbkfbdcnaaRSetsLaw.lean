/-
  RrSets: which sets are the same, and what the set of a name and a type is, with its least TTL.
-/
import Derived.Test.YtjjmllbkfbdcnaaRAnswers
import Derived.Test.YtjjmllbkfbdcnaaRSetRef2
namespace Go.Proofs.Ytjjmllbkfbdcnaa
open Go.RowKit

theorem sameS_turn (a b : List Dt) : sameS a b = sameS b a := by unfold sameS; exact Bool.and_comm _ _
theorem sameD_refl (d : Dt) : sameD d d = true := by simp [sameD, eqN]
theorem sameS_refl (a : List Dt) : sameS a a = true := by
  have h : withinD a a = true := by
    unfold withinD
    rw [List.all_eq_true]
    intro d hd
    unfold hasD
    rw [List.any_eq_true]
    exact ⟨d, hd, sameD_refl d⟩
  unfold sameS
  rw [h]
  rfl
theorem own_eachR {ps qs : List (RV × Rt)} {P : Rt → Prop} (h : recs qs = recs ps) (hp : ∀ p ∈ ps, P p.2) : ∀ q ∈ qs, P q.2 := fun q hq => by
  have h1 : q.2 ∈ recs ps := h ▸ List.mem_map.2 ⟨q, hq, rfl⟩
  obtain ⟨p, hp1, e⟩ := List.mem_map.1 h1
  exact e ▸ hp p hp1
theorem setF_from (rs : List Rt) (n : List (List UInt8)) (k : Int) : (∀ d ∈ (setF rs n k).1, ∃ r ∈ rs, r.data = d) ∧ (setF rs n k).1.length ≤ rs.length := by
  have key : ∀ (L : List Rt) (x : List Dt × Int), (∀ d ∈ x.1, ∃ r ∈ rs, r.data = d) → (∀ r ∈ L, r ∈ rs) → (∀ d ∈ (L.foldl stepS x).1, ∃ r ∈ rs, r.data = d) ∧ (L.foldl stepS x).1.length ≤ x.1.length + L.length := by
    intro L
    induction L with
    | nil => intro x hx _; exact ⟨hx, Nat.le_refl _⟩
    | cons r L ih =>
      intro x hx hL
      have h := ih (stepS x r) (fun d hd => by
        unfold stepS at hd
        dsimp only at hd
        split at hd
        · exact hx d hd
        · rcases List.mem_append.1 hd with hd | hd
          · exact hx d hd
          · exact ⟨r, hL r (List.mem_cons_self ..), (List.mem_singleton.1 hd).symm⟩) fun r hr => hL r (List.mem_cons_of_mem _ hr)
      have h2 : (stepS x r).1.length ≤ x.1.length + 1 := by
        unfold stepS
        dsimp only
        split
        · omega
        · simp
      refine ⟨h.1, ?_⟩
      have h3 := h.2
      simp only [List.foldl_cons, List.length_cons] at h3 ⊢
      omega
  have h := key (rs.filter (selR n k)) ([], 0) (fun d hd => absurd hd (List.not_mem_nil)) fun r hr => (List.mem_filter.1 hr).1
  have h2 := List.length_filter_le (selR n k) rs
  have h3 := h.2
  simp only [List.length_nil, Nat.zero_add] at h3
  exact ⟨h.1, Nat.le_trans h3 h2⟩
theorem set_facts {ps : List (RV × Rt)} (hr : ∀ p ∈ ps, RIn p.2) (hl : ps.length ≤ 100) {qs : List (DV × Dt)} {n : List (List UInt8)} {k : Int} (h : dats qs = (setF (recs ps) n k).1) : (∀ q ∈ qs, Wide q.2) ∧ qs.length ≤ 100 := by
  have h0 := setF_from (recs ps) n k
  constructor
  · intro q hq
    obtain ⟨r, hm, e⟩ := h0.1 q.2 (by rw [← h]; exact List.mem_map.2 ⟨q, hq, rfl⟩)
    obtain ⟨p, hp, rfl⟩ := List.mem_map.1 hm
    rw [← e]
    exact (hr p hp).d
  · have h1 := h0.2
    rw [← h, length_dats, length_recs] at h1
    omega
theorem dats_at {qs1 qs2 : List (DV × Dt)} (h : dats qs1 = dats qs2) {k : Nat} (h1 : k < qs1.length) (h2 : k < qs2.length) : (qs1[k]).2 = (qs2[k]).2 := by
  have e : (dats qs1)[k]? = (dats qs2)[k]? := by rw [h]
  simpa [dats, h1, h2] using e

set_option maxRecDepth 20000 in
set_option maxHeartbeats 2000000 in
theorem rrsets_dark (w : World) (A : Option Addr) (c : Nat) (ps : List (RV × Rt)) (An : Option Addr) (N cn : Nat) (kind : Int) (Ao : Option Addr) (M co : Nat) (hp : RsAt w w.heap.size A ps) (hm : ps.length ≤ maxLen) (hl : lightL (recs ps) = false) :
    Calls Try.prog 6 #[.slice A ps.length c, .slice An N cn, .int .i64 kind, .slice Ao M co] w (TrueB w) := by
  have HL := Lib.hid (fun W (h : Below w.heap.size w W) => lightL_any W A c ps ((hp.below h).mono h.size) hm)
  rw [hl] at HL
  clear hp hl
  go_enter Try.func6, Try.ntmps6
  go_wp2_with fail
  refine (ranswers_any _).mono ?_
  rintro e w1 ⟨rfl, hb1⟩
  have HB1 := Lib.hid hb1
  clear hb1
  go_wp2_with fail
  refine (HL.out w1 HB1.out).mono ?_
  rintro e w2 ⟨rfl, hb2⟩
  have HB2 := Lib.hid (HB1.out.trans (hb2.mono HB1.out.size))
  clear hb2
  go_wp2_with fail
  refine (ranswers_any _).mono ?_
  rintro e w3 ⟨rfl, hb3⟩
  have HB3 := Lib.hid (HB2.out.trans (hb3.mono HB2.out.size))
  clear hb3
  go_wp2
  go_ret
  exact ⟨rfl, HB3.out⟩

set_option maxRecDepth 20000 in
set_option maxHeartbeats 2000000 in
theorem rrsets_long (w : World) (A : Option Addr) (c : Nat) (ps : List (RV × Rt)) (An : Option Addr) (N cn : Nat) (kind : Int) (Ao : Option Addr) (M co : Nat) (hp : RsAt w w.heap.size A ps) (hm : ps.length ≤ maxLen) (hl : lightL (recs ps) = true) (hN : 200 < N) (hN2 : N ≤ maxLen) :
    Calls Try.prog 6 #[.slice A ps.length c, .slice An N cn, .int .i64 kind, .slice Ao M co] w (TrueB w) := by
  have HL := Lib.hid (fun W (h : Below w.heap.size w W) => lightL_any W A c ps ((hp.below h).mono h.size) hm)
  rw [hl] at HL
  unfold maxLen at hN2
  have d1 : decide ((200 : Int) < (N : Int)) = true := by simp; omega
  clear hp hl
  go_enter Try.func6, Try.ntmps6
  go_wp2_with fail
  refine (ranswers_any _).mono ?_
  rintro e w1 ⟨rfl, hb1⟩
  have HB1 := Lib.hid hb1
  clear hb1
  go_wp2_with fail
  refine (HL.out w1 HB1.out).mono ?_
  rintro e w2 ⟨rfl, hb2⟩
  have HB2 := Lib.hid (HB1.out.trans (hb2.mono HB1.out.size))
  clear hb2
  go_wp2_with fail
  refine (ranswers_any _).mono ?_
  rintro e w3 ⟨rfl, hb3⟩
  have HB3 := Lib.hid (HB2.out.trans (hb3.mono HB2.out.size))
  clear hb3
  go_wp2
  go_ret
  exact ⟨rfl, HB3.out⟩

set_option maxRecDepth 20000 in
set_option maxHeartbeats 2000000 in
theorem rrsets_many (w : World) (A : Option Addr) (c : Nat) (ps : List (RV × Rt)) (An : Option Addr) (N cn : Nat) (kind : Int) (Ao : Option Addr) (M co : Nat) (hp : RsAt w w.heap.size A ps) (hm : ps.length ≤ maxLen) (hl : lightL (recs ps) = true) (hN : N ≤ 200) (hM : 60 < M) (hM2 : M ≤ maxLen) :
    Calls Try.prog 6 #[.slice A ps.length c, .slice An N cn, .int .i64 kind, .slice Ao M co] w (TrueB w) := by
  have HL := Lib.hid (fun W (h : Below w.heap.size w W) => lightL_any W A c ps ((hp.below h).mono h.size) hm)
  rw [hl] at HL
  unfold maxLen at hM2
  have d1 : decide ((200 : Int) < (N : Int)) = false := by simp; omega
  have d2 : decide ((60 : Int) < (M : Int)) = true := by simp; omega
  clear hp hl
  go_enter Try.func6, Try.ntmps6
  go_wp2_with fail
  refine (ranswers_any _).mono ?_
  rintro e w1 ⟨rfl, hb1⟩
  have HB1 := Lib.hid hb1
  clear hb1
  go_wp2_with fail
  refine (HL.out w1 HB1.out).mono ?_
  rintro e w2 ⟨rfl, hb2⟩
  have HB2 := Lib.hid (HB1.out.trans (hb2.mono HB1.out.size))
  clear hb2
  go_wp2_with fail
  refine (ranswers_any _).mono ?_
  rintro e w3 ⟨rfl, hb3⟩
  have HB3 := Lib.hid (HB2.out.trans (hb3.mono HB2.out.size))
  clear hb3
  go_wp2
  go_ret
  exact ⟨rfl, HB3.out⟩

def SetsRel5 (W : World) (N : Nat) (i : Value) (wr : World) : Prop := ∃ k : Nat, k ≤ N ∧ i = .int .i64 k ∧ Below W.heap.size W wr

set_option maxRecDepth 100000 in
set_option maxHeartbeats 8000000 in
theorem rrsets_light (w : World) (A : Option Addr) (c : Nat) (ps : List (RV × Rt)) (An : Option Addr) (n : List (List UInt8)) (cn : Nat) (kind : Int) (Ao : Option Addr) (os : List (DV × Dt)) (co : Nat) (hp : RsAt w w.heap.size A ps) (hr : ∀ p ∈ ps, RIn p.2)
    (hnm : Row w w.heap.size An (n.map sv)) (hwn : WideN n) (hos : DsAt w w.heap.size Ao os) (hwo : ∀ p ∈ os, Wide p.2) (hl : lightL (recs ps) = true) (hN : n.length ≤ 200) (hM : os.length ≤ 60) :
    Calls Try.prog 6 #[.slice A ps.length c, .slice An n.length cn, .int .i64 kind, .slice Ao os.length co] w (TrueB w) := by
  obtain ⟨s0, hs0, hx0, hx1, hx2⟩ := info_parts str_info
  have hle := lightL_each hl
  have hn : ps.length ≤ 60 := by have := hle.2; rwa [length_recs] at this
  have hlr : ∀ p ∈ ps, LightR p.2 := fun p h => hle.1 _ (List.mem_map.2 ⟨p, h, rfl⟩)
  have HL := Lib.hid (fun W (h : Below w.heap.size w W) => lightL_any W A c ps ((hp.below h).mono h.size) (by unfold maxLen; omega))
  rw [hl] at HL
  have HP := Lib.hid hp
  have HR := Lib.hid hr
  have HLR := Lib.hid hlr
  have HNM := Lib.hid hnm
  have HWN := Lib.hid hwn
  have HOS := Lib.hid hos
  have HWO := Lib.hid hwo
  have d1 : decide ((200 : Int) < (n.length : Int)) = false := by simp; omega
  have d2 : decide ((60 : Int) < (os.length : Int)) = false := by simp; omega
  clear hp hr hl hle hlr hnm hwn hos hwo
  go_enter Try.func6, Try.ntmps6
  go_wp2_with fail
  refine (ranswers_any _).mono ?_
  rintro e w1 ⟨rfl, hb1⟩
  have HB1 := Lib.hid hb1
  clear hb1
  go_wp2_with fail
  refine (HL.out w1 HB1.out).mono ?_
  rintro e w2 ⟨rfl, hb2⟩
  have HB2 := Lib.hid (HB1.out.trans (hb2.mono HB1.out.size))
  clear hb2 HB1 HL
  go_wp2_with fail
  refine (ownRRs_any w2 A c ps ((HP.out.below HB2.out).mono HB2.out.size) HLR.out (by omega)).mono ?_
  rintro e w3 ⟨A4, c4, qs1, rfl, hq1, hd1, hb⟩
  have HQ1 := Lib.hid hq1
  have HB3 := Lib.hid (HB2.out.trans (hb.mono HB2.out.size))
  have hnew := (Below.refl w3.heap.size w3).alloc (Nat.le_refl _) (.cells #[] 9)
  have HD3 := Lib.hid hd1
  have HB4 := Lib.hid (HB3.out.trans (hnew.mono HB3.out.size))
  have HNR := Lib.hid (HNM.out.below HB4.out)
  have hzw3 : w.heap.size ≤ w3.heap.size := HB3.out.size
  clear hq1 hd1 hb hnew HB2
  go_wp2_with (
    at_builtin
    refine wpList_append_row rfl (.tmp 35) (.tmp 36) _ rfl w3.heap.size 9 s0 _ 1 16 Try.underlying23 hs0 hx0 hx1 hx2 rfl (by omega) (.slice (some ⟨w3.heap.size, 0, none⟩) 0 0) 0 [] rfl
      (own_lit _ _ _) An n.length cn w.heap.size (n.map sv) rfl (by rw [List.length_map, Nat.mul_one]) HNR.out (sv_one n) (by unfold maxLen; omega) (by omega) (by simp) ?_
    intro v5 w5 hown5 hg5
    simp only [Nat.zero_add, List.nil_append] at hown5
    obtain ⟨A5, c5, rfl, _, _⟩ := own_form hown5
    have hb5 := own_below ((Below.refl w3.heap.size w3).alloc (Nat.le_refl _) (.cells #[] 9)) (Nat.le_refl _) (by simp) (own_lit w3 9 1) hg5
    have HN5 := Lib.hid (Row.of_own hown5)
    have HB5 := Lib.hid (HB3.out.trans (hb5.mono HB3.out.size))
    have HD5 := Lib.hid ((HD3.out.below hb5).mono hb5.size)
    clear hown5 hg5 hb5)
  have hh := set_any w5 A4 c4 qs1 A5 n c5 kind HD5.out HN5.out HWN.out (own_eachR (P := fun r => RIn r ∧ FewD r.data) HQ1.out fun p hp => ⟨HR.out p hp, (HLR.out p hp).few⟩) (by rw [← length_recs, HQ1.out, length_recs]; omega)
  rw [HQ1.out] at hh
  refine hh.mono ?_
  rintro e w6 ⟨A6, c6, ss1, rfl, hs1, hd1, hb⟩
  have HS1 := Lib.hid hs1
  have HE1 := Lib.hid hd1
  have HB6 := Lib.hid (HB5.out.trans (hb.mono HB5.out.size))
  clear hs1 hd1 hb hh HD5 HN5 HB5
  go_wp2_with fail
  refine (ref_set_any w6 A c ps An n cn kind ((HP.out.below HB6.out).mono HB6.out.size) ((HNM.out.below HB6.out).mono HB6.out.size) HWN.out HR.out (by omega)).mono ?_
  rintro e w7 ⟨A7, c7, ss2, rfl, hs2, hd2, hb⟩
  have HS2 := Lib.hid hs2
  have HE2 := Lib.hid hd2
  have HE1 := Lib.hid ((HE1.out.below hb).mono hb.size)
  have HB7 := Lib.hid (HB6.out.trans (hb.mono HB6.out.size))
  clear hs2 hd2 hb HB6
  have hf1 := set_facts HR.out (by omega) HS1.out
  have hf2 := set_facts HR.out (by omega) HS2.out
  have HF1 := Lib.hid hf1.1
  have HF2 := Lib.hid hf2.1
  have hl1 := hf1.2
  have hl2 := hf2.2
  have HDD := Lib.hid (show dats ss1 = dats ss2 by rw [HS1.out, HS2.out])
  have hlen : ss1.length = ss2.length := by rw [← length_dats, ← length_dats, HDD.out]
  have b1 : ((ss1.length : Int) != (ss2.length : Int)) = false := by rw [hlen]; simp
  have b2 : ((setF (recs ps) n kind).2 != (setF (recs ps) n kind).2) = false := by simp
  have HLN := Lib.hid hlen
  clear hf1 hf2 hlen HS1 HS2 HNR HQ1 HD3 HB4
  go_wp2
  go_loopw [13] (SetsRel5 w7 ss1.length) (fun i _ => ss1.length - (intOf i).toNat)
  case atStart => exact ⟨0, Nat.zero_le _, rfl, Below.refl _ _⟩
  case round =>
    obtain ⟨k, hk, rfl, hb⟩ := hrel
    have HBB := Lib.hid hb
    have hzz := hb.size
    clear hb
    by_cases hlt : k < ss1.length
    · have hlt2 : k < ss2.length := by have := HLN.out; omega
      obtain ⟨b1', o1, rfl, hb1H, hd1, q0, q1, q2, q3, q4⟩ := HE1.out.at_ hlt
      obtain ⟨b2', o2, rfl, hb2H, hd2, r0, r1, r2, r3, r4⟩ := HE2.out.at_ hlt2
      have hw1 := HF1.out _ (List.getElem_mem hlt)
      have hw2 := HF2.out _ (List.getElem_mem hlt2)
      have hsame := dats_at HDD.out hlt hlt2
      revert hd1 q0 q1 q2 q3 q4 hd2 r0 r1 r2 r3 r4 hw1 hw2 hsame
      generalize ss1[k] = p1
      generalize ss2[k] = p2
      obtain ⟨y1, d⟩ := p1
      obtain ⟨y2, d'⟩ := p2
      intro hd1 q0 q1 q2 q3 q4 hd2 r0 r1 r2 r3 r4 hw1 hw2 hsame
      dsimp only at *
      subst hsame
      have Q0 := Lib.hid q0
      have S0 := Lib.hid r0
      have Q1 := Lib.hid q1
      have S1 := Lib.hid r1
      have Q2 := Lib.hid q2
      have S2 := Lib.hid r2
      have Q3 := Lib.hid q3
      have S3 := Lib.hid r3
      have Q4 := Lib.hid q4
      have S4 := Lib.hid r4
      have HDA := Lib.hid hd1
      have HDB := Lib.hid hd2
      have HWA := Lib.hid hw1
      clear hd1 hd2 hw1 hw2 q0 q1 q2 q3 q4 r0 r1 r2 r3 r4
      have hk0 : (0 : Int) ≤ (k : Int) := by omega
      have hk1 : (k : Int) < (ss1.length : Int) := by omega
      have hk2 : (k : Int) < (ss2.length : Int) := by omega
      have HBD := Lib.hid HBB.out.drew
      go_wp2
      go_region_held3 (fun W => (W.cell? ⟨b1', o1 + k * 5, none⟩ = some (.slice y1.Ab d.bytes.length y1.cb) ∧ W.cell? ⟨b1', o1 + k * 5 + 1, none⟩ = some (.slice y1.Ah d.host.length y1.ch) ∧ W.cell? ⟨b1', o1 + k * 5 + 2, none⟩ = some (.slice y1.Am d.mail.length y1.cm) ∧ W.cell? ⟨b1', o1 + k * 5 + 3, none⟩ = some (.slice y1.An d.nums.length y1.cn) ∧ W.cell? ⟨b1', o1 + k * 5 + 4, none⟩ = some (.slice y1.At d.texts.length y1.ct)) ∧ (W.cell? ⟨b2', o2 + k * 5, none⟩ = some (.slice y2.Ab d.bytes.length y2.cb) ∧ W.cell? ⟨b2', o2 + k * 5 + 1, none⟩ = some (.slice y2.Ah d.host.length y2.ch) ∧ W.cell? ⟨b2', o2 + k * 5 + 2, none⟩ = some (.slice y2.Am d.mail.length y2.cm) ∧ W.cell? ⟨b2', o2 + k * 5 + 3, none⟩ = some (.slice y2.An d.nums.length y2.cn) ∧ W.cell? ⟨b2', o2 + k * 5 + 4, none⟩ = some (.slice y2.At d.texts.length y2.ct)))
        (exact ⟨⟨(HBD.out.cell (p := ⟨b1', o1 + k * 5, none⟩) hb1H).trans Q0.out, (HBD.out.cell (p := ⟨b1', o1 + k * 5 + 1, none⟩) hb1H).trans Q1.out, (HBD.out.cell (p := ⟨b1', o1 + k * 5 + 2, none⟩) hb1H).trans Q2.out, (HBD.out.cell (p := ⟨b1', o1 + k * 5 + 3, none⟩) hb1H).trans Q3.out, (HBD.out.cell (p := ⟨b1', o1 + k * 5 + 4, none⟩) hb1H).trans Q4.out⟩, ⟨(HBD.out.cell (p := ⟨b2', o2 + k * 5, none⟩) hb2H).trans S0.out, (HBD.out.cell (p := ⟨b2', o2 + k * 5 + 1, none⟩) hb2H).trans S1.out, (HBD.out.cell (p := ⟨b2', o2 + k * 5 + 2, none⟩) hb2H).trans S2.out, (HBD.out.cell (p := ⟨b2', o2 + k * 5 + 3, none⟩) hb2H).trans S3.out, (HBD.out.cell (p := ⟨b2', o2 + k * 5 + 4, none⟩) hb2H).trans S4.out⟩⟩)
        ((first
          | (go_at_call 35
             have hh := dexact_wide y1 y2 d d _ ((HDA.out.below HBD.out).mono HBD.out.size) ((HDB.out.below HBD.out).mono HBD.out.size) HWA.out HWA.out HWA.out.h.1 HWA.out.m.1
             rw [exactW_self] at hh
             refine hh.mono ?_
             rintro e wn ⟨rfl, hb⟩
             have HBD := Lib.hid (HBD.out.trans (hb.mono HBD.out.size))
             clear hb hh)))
      go_wp2
      exact ⟨⟨k + 1, by omega, by go_num, HBD.out⟩, by simp [intOf]; omega⟩
    · obtain rfl : k = ss1.length := by omega
      have HE1W := Lib.hid ((HE1.out.below HBB.out).mono HBB.out.size)
      have HE2W := Lib.hid ((HE2.out.below HBB.out).mono HBB.out.size)
      have HBW := Lib.hid (HB7.out.trans (HBB.out.mono HB7.out.size))
      have HOW := Lib.hid ((HOS.out.below HBW.out).mono HBW.out.size)
      have HC1 := Lib.hid (fun W (h : Below wr.heap.size wr W) => sameSet_any W A6 c6 ss1 Ao co os ((HE1W.out.below h).mono h.size) ((HOW.out.below h).mono h.size) HF1.out HWO.out (by unfold maxLen; omega) (by unfold maxLen; omega))
      have HC2 := Lib.hid (fun W (h : Below wr.heap.size wr W) => ref_sameSet_any W A7 c7 ss2 Ao co os ((HE2W.out.below h).mono h.size) ((HOW.out.below h).mono h.size) HF2.out HWO.out (by unfold maxLen; omega) (by unfold maxLen; omega))
      have HC3 := Lib.hid (fun W (h : Below wr.heap.size wr W) => sameSet_any W Ao co os A6 c6 ss1 ((HOW.out.below h).mono h.size) ((HE1W.out.below h).mono h.size) HWO.out HF1.out (by unfold maxLen; omega) (by unfold maxLen; omega))
      have HC4 := Lib.hid (fun W (h : Below wr.heap.size wr W) => sameSet_any W A6 c6 ss1 A6 c6 ss1 ((HE1W.out.below h).mono h.size) ((HE1W.out.below h).mono h.size) HF1.out HF1.out (by unfold maxLen; omega) (by unfold maxLen; omega))
      rw [← HDD.out] at HC2
      rw [sameS_turn] at HC3
      rw [sameS_refl] at HC4
      generalize sameS (dats ss1) (dats os) = B at HC1 HC2 HC3
      have t1 : (B == B) = true := by simp
      clear HE1 HE2 HE1W HE2W HOW HDD HLN
      go_wp2_with fail
      refine (HC1.out _ (Below.refl _ _)).mono ?_
      rintro e u1 ⟨rfl, hb⟩
      have HU1 := Lib.hid hb
      clear hb
      go_wp2_with fail
      refine (HC2.out _ HU1.out).mono ?_
      rintro e u2 ⟨rfl, hb⟩
      have HU2 := Lib.hid (HU1.out.trans (hb.mono HU1.out.size))
      clear hb
      go_wp2_with fail
      refine (HC3.out _ HU2.out).mono ?_
      rintro e u3 ⟨rfl, hb⟩
      have HU3 := Lib.hid (HU2.out.trans (hb.mono HU2.out.size))
      clear hb
      go_wp2_with fail
      refine (HC1.out _ HU3.out).mono ?_
      rintro e u4 ⟨rfl, hb⟩
      have HU4 := Lib.hid (HU3.out.trans (hb.mono HU3.out.size))
      clear hb
      go_wp2_with fail
      refine (HC4.out _ HU4.out).mono ?_
      rintro e u5 ⟨rfl, hb⟩
      have HU5 := Lib.hid (HU4.out.trans (hb.mono HU4.out.size))
      clear hb
      go_wp2
      go_ret
      exact ⟨by simp, HBW.out.trans (HU5.out.mono HBW.out.size)⟩

theorem rrsets_any (w : World) (A : Option Addr) (c : Nat) (ps : List (RV × Rt)) (An : Option Addr) (n : List (List UInt8)) (cn : Nat) (kind : Int) (Ao : Option Addr) (os : List (DV × Dt)) (co : Nat) (hp : RsAt w w.heap.size A ps) (hr : ∀ p ∈ ps, RIn p.2) (hm : ps.length ≤ maxLen)
    (hnm : NameIn w An n) (hos : DsAt w w.heap.size Ao os) (hwo : ∀ p ∈ os, Wide p.2) (hM : os.length ≤ maxLen) :
    Calls Try.prog 6 #[.slice A ps.length c, .slice An n.length cn, .int .i64 kind, .slice Ao os.length co] w (TrueB w) := by
  have hn2 : n.length ≤ maxLen := by have := hnm.2.1; unfold maxLen; omega
  cases hl : lightL (recs ps) with
  | false => exact rrsets_dark w A c ps An n.length cn kind Ao os.length co hp hm hl
  | true =>
    by_cases hN : n.length ≤ 200
    · by_cases hM2 : os.length ≤ 60
      · exact rrsets_light w A c ps An n cn kind Ao os co hp hr hnm.1 ⟨hn2, hnm.2.2⟩ hos hwo hl hN hM2
      · exact rrsets_many w A c ps An n.length cn kind Ao os.length co hp hm hl hN (by omega) hM
    · exact rrsets_long w A c ps An n.length cn kind Ao os.length co hp hm hl (by omega) hn2

end Go.Proofs.Ytjjmllbkfbdcnaa
