/-
  RrBack, whole: sound records, written by rr.Put one behind the other, are read by rr.Get as they are, each up to the place at which the next one begins; up to 60 records of up to 200 labels in each name, 100 texts, 100 numbers and 66,000 bytes (the statement looks at no others). No condition.
-/
import Derived.Test.YtjjmllbkfbdcnaaRrbackP7
import Derived.Test.YtjjmllbkfbdcnaaRrbackP2
namespace Go.Proofs.Ytjjmllbkfbdcnaa
open Go.RowKit

/-- Records, one behind the other. -/
def putAll (rs : List Rt) : List UInt8 × Rs := rs.foldl (fun s r => putRR r s.1 s.2) ([], [])
theorem putAll_snoc (rs : List Rt) (r : Rt) : putAll (rs ++ [r]) = putRR r (putAll rs).1 (putAll rs).2 := by simp [putAll]
structure AllGood (rs : List Rt) : Prop where
  g : GoodR (putAll rs).1 (putAll rs).2
  b : (putAll rs).1.length ≤ 70000 * rs.length
  r : (putAll rs).2.length ≤ 900 * rs.length
theorem AllGood.snoc {rs : List Rt} {r : Rt} (h : AllGood rs) (hs : SoundR r) : AllGood (rs ++ [r]) := by
  obtain ⟨_, h2, h3, h4, _⟩ := putRR_back hs h.g
  have hb := h.b
  have hr := h.r
  refine ⟨by rw [putAll_snoc]; exact h2, ?_, ?_⟩
  · rw [putAll_snoc, List.length_append, List.length_singleton]
    omega
  · rw [putAll_snoc, List.length_append, List.length_singleton]
    omega
theorem AllGood.nil : AllGood [] := ⟨GoodR.nil _, Nat.le_refl _, Nat.le_refl _⟩
theorem putAll_good : ∀ (rs ss : List Rt), AllGood rs → (∀ r ∈ ss, SoundR r) → AllGood (rs ++ ss)
  | rs, [], h, _ => by simpa using h
  | rs, r :: ss, h, hs => by
    have := putAll_good (rs ++ [r]) ss (h.snoc (hs r (List.mem_cons_self ..))) fun q hq => hs q (List.mem_cons_of_mem _ hq)
    simpa using this
theorem putAll_more : ∀ (rs ss : List Rt), AllGood rs → (∀ r ∈ ss, SoundR r) → ∃ S, (putAll (rs ++ ss)).1 = (putAll rs).1 ++ S
  | rs, [], _, _ => ⟨[], by simp⟩
  | rs, r :: ss, h, hs => by
    have hr := hs r (List.mem_cons_self ..)
    obtain ⟨S, e⟩ := putAll_more (rs ++ [r]) ss (h.snoc hr) fun q hq => hs q (List.mem_cons_of_mem _ hq)
    obtain ⟨⟨S2, e2⟩, _⟩ := putRR_back hr h.g
    refine ⟨S2 ++ S, ?_⟩
    rw [show rs ++ r :: ss = (rs ++ [r]) ++ ss by simp, e, putAll_snoc, e2]
    simp
/-- Where record number k begins. -/
def atR (rs : List Rt) (k : Nat) : Nat := (putAll (rs.take k)).1.length
theorem putAll_back {rs : List Rt} (hs : ∀ r ∈ rs, SoundR r) {k : Nat} (hk : k < rs.length) : getRR (putAll rs).1 (atR rs k) = (rs[k], atR rs (k + 1), 0) := by
  have h1 : AllGood (rs.take k) := by
    have := putAll_good [] (rs.take k) AllGood.nil fun r hr => hs r (List.mem_of_mem_take hr)
    simpa using this
  have hr := hs rs[k] (List.getElem_mem hk)
  obtain ⟨S, e⟩ := putAll_more (rs.take k ++ [rs[k]]) (rs.drop (k + 1)) (h1.snoc hr) fun r hr => hs r (List.mem_of_mem_drop hr)
  have e2 : (rs.take k ++ [rs[k]]) ++ rs.drop (k + 1) = rs := by
    rw [← List.take_succ_eq_append_getElem hk, List.take_append_drop]
  rw [e2] at e
  obtain ⟨_, _, _, _, h5⟩ := putRR_back hr h1.g
  have e3 : (putAll (rs.take k ++ [rs[k]])) = putRR rs[k] (putAll (rs.take k)).1 (putAll (rs.take k)).2 := putAll_snoc _ _
  have h6 := h5 S
  rw [← e3] at h6
  rw [e]
  unfold atR
  rw [List.take_succ_eq_append_getElem hk]
  exact h6

/-- A number as a cell. -/
def nv (n : Nat) : Value := .int .i64 (n : Int)
theorem nv_one (l : List Nat) : ∀ u ∈ l.map nv, u.oneCell' = true := by
  intro u hu
  obtain ⟨x, _, rfl⟩ := List.mem_map.1 hu
  rfl
/-- A Writer, and a row of numbers apart from it. -/
structure One (w : World) (base g : Nat) (vB vM : Value) (B : List UInt8) (R : Rs) (va : Value) (ats : List Nat) : Prop where
  w1 : Wr w base g vB vM B R
  row : w.ownsRow base 3 1 va ats.length (ats.map nv)
  d1 : ∀ j, ownF g vB vM j → va.ownBlock ≠ some j
section
variable {w w' : World} {base g : Nat} {vB vM : Value} {B : List UInt8} {R : Rs} {va : Value} {ats : List Nat}
theorem One.below (h : One w base g vB vM B R va ats) (hb : Below w.heap.size w w') : One w' base g vB vM B R va ats :=
  ⟨h.w1.below hb, own_keep h.row fun j hj => hb.block j (h.row.lt j hj).2, h.d1⟩
theorem One.pen (h : One w base g vB vM B R va ats) {B' : List UInt8} {R' : Rs} (hp : Penned base w g vB vM B' R' w') : ∃ vB' vM', One w' base g vB' vM' B' R' va ats := by
  obtain ⟨vB', vM', h1, hg, hf⟩ := hp
  refine ⟨vB', vM', h1, own_grew h.row hg fun j hj h1 => h.d1 j h1 hj, fun j hj => ?_⟩
  rcases hf j hj with h3 | h3
  · exact h.d1 j h3
  · intro e
    have := (h.row.lt j e).2; omega
theorem One.grown (h : One w base g vB vM B R va ats) {va' : Value} {a : Nat} (ho : w'.ownsRow base 3 1 va' (ats.length + 1) (ats.map nv ++ [nv a])) (hg : w.grownBy w' va.ownBlock) (hat : va'.ownBlock = va.ownBlock ∨ va'.ownBlock = some w.heap.size) :
    One w' base g vB vM B R va' (ats ++ [a]) := by
  have hG : Grew (fun j => va.ownBlock = some j) w w' := Grew.of_grown hg fun j hj => .inl hj
  have hn : ∀ j, va'.ownBlock = some j → va.ownBlock = some j ∨ w.heap.size ≤ j := fun j hj => by
    rcases hat with e | e
    · exact .inl (by rw [← e]; exact hj)
    · rw [e] at hj; injection hj with hj; exact .inr (by omega)
  refine ⟨h.w1.grew hG fun j hj e => h.d1 j hj e, by simpa using ho, fun j hj e => ?_⟩
  rcases hn j e with h3 | h3
  · exact h.d1 j hj h3
  · have := (h.w1.own hj).2; omega
theorem pen_belowB (hw : Wr w base g vB vM B R) {B' : List UInt8} {R' : Rs} (h : Penned base w g vB vM B' R' w') : Below base w w' := by
  obtain ⟨_, _, _, hg, _⟩ := h
  exact hg.below (fun j hj => (hw.own hj).1) hw.size
end
theorem ownF_one {g j : Nat} (h : ownF g (.slice none 0 0) (.map none) j) : j = g := by
  rcases h with h | h | h
  · exact h
  · simp [Value.ownBlock] at h
  · cases h

set_option maxRecDepth 20000 in
set_option maxHeartbeats 2000000 in
theorem rrback_dark (w : World) (A : Option Addr) (c : Nat) (ps : List (RV × Rt)) (hp : RsAt w w.heap.size A ps) (hm : ps.length ≤ maxLen) (hl : lightL (recs ps) = false) :
    Calls Try.prog 5 #[.slice A ps.length c] w (TrueB w) := by
  have HL := Lib.hid (fun W (h : Below w.heap.size w W) => lightL_any W A c ps ((hp.below h).mono h.size) hm)
  rw [hl] at HL
  clear hp hl
  go_enter Try.func5, Try.ntmps5
  go_wp2_with fail
  refine (new_any _).mono ?_
  rintro e w0 ⟨rfl, _, hb0⟩
  have HB0 := Lib.hid hb0
  clear hb0
  go_wp2_with fail
  refine (ranswers_any _).mono ?_
  rintro e w1 ⟨rfl, hb1⟩
  have HB1 := Lib.hid (HB0.out.trans (hb1.mono HB0.out.size))
  clear hb1
  go_wp2_with fail
  refine (HL.out w1 HB1.out).mono ?_
  rintro e w2 ⟨rfl, hb2⟩
  have HB2 := Lib.hid (HB1.out.trans (hb2.mono HB1.out.size))
  clear hb2
  go_wp2_with fail
  refine (ranswers_any _).mono ?_
  rintro e w3 ⟨rfl, hb3⟩
  have HB3 := Lib.hid (HB2.out.trans (hb3.mono HB2.out.size))
  clear hb3
  go_wp2
  go_ret
  exact ⟨rfl, HB3.out⟩

/-- Ahead of a round of writing. -/
def BackPut (w : World) (ps : List (RV × Rt)) (va i : Value) (wr : World) : Prop :=
  ∃ (k : Nat) (vB vM : Value), k ≤ ps.length ∧ i = .int .i64 k ∧ (∀ r ∈ recs (ps.take k), SoundR r) ∧ One wr w.heap.size w.heap.size vB vM (putAll (recs (ps.take k))).1 (putAll (recs (ps.take k))).2 va ((List.range k).map (atR (recs ps))) ∧ Below w.heap.size w wr ∧ w.heap.size ≤ wr.heap.size
def BackRead (W : World) (N : Nat) (i : Value) (wr : World) : Prop := ∃ k : Nat, k ≤ N ∧ i = .int .i64 k ∧ Below W.heap.size W wr

set_option maxRecDepth 100000 in
set_option maxHeartbeats 8000000 in
theorem rrback_light (w : World) (A : Option Addr) (c : Nat) (ps : List (RV × Rt)) (hp : RsAt w w.heap.size A ps) (hr : ∀ p ∈ ps, RIn p.2) (hl : lightL (recs ps) = true) :
    Calls Try.prog 5 #[.slice A ps.length c] w (TrueB w) := by
  obtain ⟨j0, hj0, hy0, hy1, hy2⟩ := info_parts zint_info
  have hle := lightL_each hl
  have hn : ps.length ≤ 60 := by have := hle.2; rwa [length_recs] at this
  have hlr : ∀ p ∈ ps, LightR p.2 := fun p h => hle.1 _ (List.mem_map.2 ⟨p, h, rfl⟩)
  have HL := Lib.hid (fun W (h : Below w.heap.size w W) => lightL_any W A c ps ((hp.below h).mono h.size) (by unfold maxLen; omega))
  rw [hl] at HL
  have HP := Lib.hid hp
  have HR := Lib.hid hr
  have HLR := Lib.hid hlr
  clear hp hr hl hle hlr
  go_enter Try.func5, Try.ntmps5
  go_wp2_with fail
  refine (new_any _).mono ?_
  rintro e w0 ⟨rfl, hw0, hb0⟩
  have HO0 := Lib.hid (show One w0 w.heap.size w.heap.size (.slice none 0 0) (.map none) [] [] (.slice none 0 0) [] from ⟨hw0, World.ownsRow_nil _ _ _ _, fun j _ => by simp [Value.ownBlock]⟩)
  have HB0 := Lib.hid hb0
  clear hb0 hw0
  go_wp2_with fail
  refine (ranswers_any _).mono ?_
  rintro e w1 ⟨rfl, hb1⟩
  have HO1 := Lib.hid (HO0.out.below hb1)
  have HB1 := Lib.hid (HB0.out.trans (hb1.mono HB0.out.size))
  clear hb1
  go_wp2_with fail
  refine (HL.out w1 HB1.out).mono ?_
  rintro e w2 ⟨rfl, hb2⟩
  have HO2 := Lib.hid (HO1.out.below hb2)
  have HB2 := Lib.hid (HB1.out.trans (hb2.mono HB1.out.size))
  clear hb2 HB1 HO1 HB0 HO0 HL
  go_wp2
  go_loopw [4, 5] (BackPut w ps) (fun _ i _ => ps.length - (intOf i).toNat)
  case atStart => exact ⟨0, .slice none 0 0, .map none, Nat.zero_le _, rfl, fun r h => absurd h (List.not_mem_nil), HO2.out, HB2.out, HB2.out.size⟩
  case round =>
    obtain ⟨k, vB, vM, hk, rfl, hsd, ho, hb, hz⟩ := hrel
    have HSD := Lib.hid hsd
    have HB := Lib.hid hb
    have hrl : ((List.range k).map (atR (recs ps))).length = k := by simp
    obtain ⟨Aa, ca, rfl, _, _⟩ := own_form ho.row
    rw [hrl] at ho
    have HO := Lib.hid ho
    have hag : AllGood (recs (ps.take k)) := by
      have := putAll_good [] (recs (ps.take k)) AllGood.nil hsd
      simpa using this
    have hgb := hag.b
    have hgr := hag.r
    rw [length_recs, List.length_take, Nat.min_eq_left hk] at hgb hgr
    have HAG := Lib.hid hag
    clear hsd ho hb hag
    rw [hrl]
    by_cases hlt : k < ps.length
    · obtain ⟨b, off, rfl, hbH, hra, q0, q1, q2, q3, q4, q5, q6, q7, q8⟩ := HP.out.at_ hlt
      have hri := HR.out _ (List.getElem_mem hlt)
      have hli := HLR.out _ (List.getElem_mem hlt)
      have HT := Lib.hid (recs_at hlt)
      revert hra q0 q1 q2 q3 q4 q5 q6 q7 q8 hri hli HT
      generalize ps[k] = p
      obtain ⟨x, r⟩ := p
      intro hra q0 q1 q2 q3 q4 q5 q6 q7 q8 hri hli HT
      dsimp only at *
      have HRA := Lib.hid hra
      have HRI := Lib.hid hri
      have HLI := Lib.hid hli
      have HSN := Lib.hid (ref_rsound_any x r wr ((hra.below HB.out).mono hz) hri hli)
      have Q0 := Lib.hid q0
      have Q1 := Lib.hid q1
      have Q2 := Lib.hid q2
      have Q3 := Lib.hid q3
      have Q4 := Lib.hid q4
      have Q5 := Lib.hid q5
      have Q6 := Lib.hid q6
      have Q7 := Lib.hid q7
      have Q8 := Lib.hid q8
      have k0 := (HB.out.cell (p := ⟨b, off + k * 9, none⟩) hbH).trans q0
      have k1 := (HB.out.cell (p := ⟨b, off + k * 9 + 1, none⟩) hbH).trans q1
      have k2 := (HB.out.cell (p := ⟨b, off + k * 9 + 2, none⟩) hbH).trans q2
      have k3 := (HB.out.cell (p := ⟨b, off + k * 9 + 3, none⟩) hbH).trans q3
      have k4 := (HB.out.cell (p := ⟨b, off + k * 9 + 4, none⟩) hbH).trans q4
      have k5 := (HB.out.cell (p := ⟨b, off + k * 9 + 5, none⟩) hbH).trans q5
      have k6 := (HB.out.cell (p := ⟨b, off + k * 9 + 6, none⟩) hbH).trans q6
      have k7 := (HB.out.cell (p := ⟨b, off + k * 9 + 7, none⟩) hbH).trans q7
      have k8 := (HB.out.cell (p := ⟨b, off + k * 9 + 8, none⟩) hbH).trans q8
      clear q0 q1 q2 q3 q4 q5 q6 q7 q8
      clear hra hri hli
      go_wp2_with fail
      refine HSN.out.mono ?_
      rintro e w3 ⟨rfl, hb3⟩
      have HO3 := Lib.hid (HO.out.below hb3)
      have HB3 := Lib.hid (HB.out.trans (hb3.mono hz))
      have hz3 : w.heap.size ≤ w3.heap.size := Nat.le_trans hz hb3.size
      clear hb3 HSN
      cases hs : soundR r with
      | false =>
        go_wp2
        go_ret
        exact ⟨rfl, HB3.out⟩
      | true =>
      have HS := Lib.hid (soundR_iff.1 hs)
      clear hs k0 k1 k2 k3 k4 k5 k6 k7 k8
      go_wp2_with fail
      refine (len_any w.heap.size w3 w.heap.size vB vM _ _ HO3.out.w1).mono ?_
      rintro e w' ⟨rfl, rfl⟩
      have hnew := (Below.refl w3.heap.size w3).alloc (Nat.le_refl _) (.cells #[.int .i64 ((putAll (recs (ps.take k))).1.length : Int)] 3)
      have HO4 := Lib.hid (HO3.out.below hnew)
      have HB4 := Lib.hid (HB3.out.trans (hnew.mono hz3))
      have hz4 : w.heap.size ≤ (w3.alloc (.cells #[.int .i64 ((putAll (recs (ps.take k))).1.length : Int)] 3)).heap.size := Nat.le_trans hz3 hnew.size
      have HRD := Lib.hid (Row.made w3 #[.int .i64 ((putAll (recs (ps.take k))).1.length : Int)] 3)
      have HRW := Lib.hid (show (w3.alloc (.cells #[.int .i64 ((putAll (recs (ps.take k))).1.length : Int)] 3)).ownsRow w.heap.size 3 1 (.slice Aa k ca) k (((List.range k).map (atR (recs ps))).map nv) by
        have h := HO4.out.row
        rw [hrl] at h
        exact h)
      have HAT := Lib.hid (show (putAll (recs (ps.take k))).1.length = atR (recs ps) k by unfold atR; rw [take_recs])
      clear hnew HO3
      go_wp2_with (first
        | (at_builtin
           refine wpList_append_at rfl (.tmp 40) (.tmp 43) _ rfl w.heap.size 3 j0 _ 1 8 Try.underlying24 hj0 hy0 hy1 hy2 rfl (by omega) (.slice Aa k ca) k _ rfl HRW.out
             (some ⟨w3.heap.size, 0, none⟩) 1 1 (w3.heap.size + 1) [nv (putAll (recs (ps.take k))).1.length] rfl rfl HRD.out (by intro u hu; rw [List.mem_singleton.1 hu]; rfl) (by unfold maxLen; omega) (by omega) hz4 ?_
           intro v5 w5 hown5 hg5 hat5
           have ho5 := HO4.out.grown (by rw [hrl]; exact hown5) hg5 hat5
           have HO5 := Lib.hid ho5
           have HB5 := Lib.hid (HB4.out.trans ((show Below w.heap.size _ w5 from own_below (Below.refl _ _) (Nat.le_refl _) hz4 HRW.out hg5)))
           have hz5 : w.heap.size ≤ w5.heap.size := Nat.le_trans hz4 hg5.size
           obtain ⟨A5, c5, rfl, _, _⟩ := own_form hown5
           have r0 := (HB5.out.cell (p := ⟨b, off + k * 9, none⟩) hbH).trans Q0.out
           have r1 := (HB5.out.cell (p := ⟨b, off + k * 9 + 1, none⟩) hbH).trans Q1.out
           have r2 := (HB5.out.cell (p := ⟨b, off + k * 9 + 2, none⟩) hbH).trans Q2.out
           have r3 := (HB5.out.cell (p := ⟨b, off + k * 9 + 3, none⟩) hbH).trans Q3.out
           have r4 := (HB5.out.cell (p := ⟨b, off + k * 9 + 4, none⟩) hbH).trans Q4.out
           have r5 := (HB5.out.cell (p := ⟨b, off + k * 9 + 5, none⟩) hbH).trans Q5.out
           have r6 := (HB5.out.cell (p := ⟨b, off + k * 9 + 6, none⟩) hbH).trans Q6.out
           have r7 := (HB5.out.cell (p := ⟨b, off + k * 9 + 7, none⟩) hbH).trans Q7.out
           have r8 := (HB5.out.cell (p := ⟨b, off + k * 9 + 8, none⟩) hbH).trans Q8.out
           clear ho5 hown5 hg5 hat5))
      have HOW := Lib.hid (own_one x r w5 ((HRA.out.below HB5.out).mono hz5) HLI.out)
      refine HOW.out.mono ?_
      rintro e w6 ⟨y, rfl, hy, hb6⟩
      have HO6 := Lib.hid (HO5.out.below hb6)
      have HY6 := Lib.hid hy
      have HB6 := Lib.hid (HB5.out.trans (hb6.mono hz5))
      have hz6 : w.heap.size ≤ w6.heap.size := Nat.le_trans hz5 hb6.size
      have hsep : ∀ j, ownF w.heap.size vB vM j → ¬ y.owns r j := fun j hj ho => by
        have h1 := (HO5.out.w1.own hj).2
        have h2 := (HY6.out.base ho).1
        omega
      have HPUT := Lib.hid (rrput_sound w.heap.size w6 w.heap.size vB vM _ _ y r w5.heap.size HO6.out.w1 HY6.out hsep HS.out HRI.out HLI.out (by omega) (by omega) HAG.out.g)
      clear hy hb6 HOW hsep HO4 HO5 HB4 HB5 HRW HRD hz4 hz5 r0 r1 r2 r3 r4 r5 r6 r7 r8
      go_wp2_with fail
      refine HPUT.out.mono ?_
      rintro e w7 ⟨rfl, hpn⟩
      obtain ⟨vB', vM', ho7⟩ := HO6.out.pen hpn
      have HO7 := Lib.hid ho7
      have HB7 := Lib.hid (HB6.out.trans (pen_belowB HO6.out.w1 hpn))
      clear ho7 hpn HPUT
      have HSD2 := Lib.hid (show ∀ q ∈ recs (ps.take (k + 1)), SoundR q by
        intro q hq
        rw [HT.out] at hq
        rcases List.mem_append.1 hq with hq | hq
        · exact HSD.out q hq
        · rw [List.mem_singleton.1 hq]; exact HS.out)
      have HO8 := Lib.hid (show One w7 w.heap.size w.heap.size vB' vM' (putAll (recs (ps.take (k + 1)))).1 (putAll (recs (ps.take (k + 1)))).2 (.slice A5 (k + 1) c5) ((List.range (k + 1)).map (atR (recs ps))) by
        rw [HT.out, putAll_snoc, List.range_succ, List.map_append, List.map_cons, List.map_nil, ← HAT.out]
        exact HO7.out)
      go_wp2
      exact ⟨⟨k + 1, vB', vM', by omega, by go_num, HSD2.out, HO8.out, HB7.out, HB7.out.size⟩, by simp [intOf]; omega⟩
    · obtain rfl : k = ps.length := by omega
      have HSA := Lib.hid (show ∀ q ∈ recs ps, SoundR q by have h := HSD.out; rwa [List.take_length] at h)
      obtain ⟨Bf, hBf⟩ : ∃ Bf, Bf = (putAll (recs ps)).1 := ⟨_, rfl⟩
      rw [List.take_length, ← hBf] at HO hgb
      have HBF := Lib.hid hBf
      clear hBf HSD HAG hgr
      have HBY := Lib.hid (bytes_any w.heap.size wr w.heap.size vB vM Bf _ HO.out.w1 (by omega))
      go_wp2_with fail
      refine HBY.out.mono ?_
      rintro e w5 ⟨A5, c5, rfl, ho5, hb5⟩
      have hc5 := own_cap ho5
      have hc6 := own_capZ ho5
      have HOB := Lib.hid ho5
      have HO5 := Lib.hid (HO.out.below hb5)
      have HB5 := Lib.hid (HB.out.trans (hb5.mono hz))
      have hz5 : w.heap.size ≤ w5.heap.size := Nat.le_trans hz hb5.size
      clear ho5 hb5 HBY
      have hnew := (Below.refl w5.heap.size w5).alloc (Nat.le_refl _) (.cells #[.int .i64 (Bf.length : Int)] 3)
      have HO4 := Lib.hid (HO5.out.below hnew)
      have HB4 := Lib.hid (HB5.out.trans (hnew.mono hz5))
      have HOB4 := Lib.hid (own_keep HOB.out fun j hj => hnew.block j (HOB.out.lt j hj).2)
      have hz4 : w.heap.size ≤ (w5.alloc (.cells #[.int .i64 (Bf.length : Int)] 3)).heap.size := Nat.le_trans hz5 hnew.size
      have HRD := Lib.hid (Row.made w5 #[.int .i64 (Bf.length : Int)] 3)
      have HRW := Lib.hid (show (w5.alloc (.cells #[.int .i64 (Bf.length : Int)] 3)).ownsRow w.heap.size 3 1 (.slice Aa ps.length ca) ps.length (((List.range ps.length).map (atR (recs ps))).map nv) by
        have h := HO4.out.row
        rw [hrl] at h
        exact h)
      clear hnew HO5
      go_wp2_with (
        at_builtin
        refine wpList_append_at rfl (.tmp 55) (.tmp 58) _ rfl w.heap.size 3 j0 _ 1 8 Try.underlying24 hj0 hy0 hy1 hy2 rfl (by omega) (.slice Aa ps.length ca) ps.length _ rfl HRW.out
          (some ⟨w5.heap.size, 0, none⟩) 1 1 (w5.heap.size + 1) [nv Bf.length] rfl rfl HRD.out (by intro u hu; rw [List.mem_singleton.1 hu]; rfl) (by unfold maxLen; omega) (by omega) hz4 ?_
        intro v6 w6 hown6 hg6 hat6
        have HR6 := Lib.hid (Row.of_own (own_keep HOB4.out fun j hj => hg6.block j (HOB4.out.lt j hj).2 (Ne.symm (own_apartR HOB4.out HRW.out (by decide) hj))))
        have HB6 := Lib.hid (own_below HB4.out (Nat.le_refl _) hz4 HRW.out hg6)
        have hz6 : w.heap.size ≤ w6.heap.size := Nat.le_trans hz4 hg6.size
        obtain ⟨A6, c6, rfl, _, _⟩ := own_form hown6
        have HAT := Lib.hid (show w6.ownsRow w.heap.size 3 1 (.slice A6 (ps.length + 1) c6) (ps.length + 1) (((List.range (ps.length + 1)).map (atR (recs ps))).map nv) by
          rw [List.range_succ, List.map_append, List.map_append]
          have e : Bf.length = atR (recs ps) ps.length := by rw [HBF.out]; unfold atR; rw [← length_recs, List.take_length]
          rw [e] at hown6
          exact hown6)
        clear hown6 hg6 hat6)
      clear HO4 HB4 HOB4 HOB HB5 HRW HRD hz4 hz5 HO HB hz HB2 HO2
      obtain ⟨gA, rfl⟩ := own_some HAT.out (by omega)
      have hgA := (HAT.out.lt gA rfl).2
      have HCA := Lib.hid (show ∀ i, i ≤ ps.length → w6.cell? ⟨gA, i, none⟩ = some (.int .i64 (atR (recs ps) i : Int)) from fun i hi => by
        have hl : i < (((List.range (ps.length + 1)).map (atR (recs ps))).map nv).length := by simp; omega
        rw [own_cell HAT.out (k := i) hl]
        simp [nv])
      clear HAT
      go_loopw [7] (BackRead w6 ps.length) (fun i _ => ps.length - (intOf i).toNat)
      case atStart => exact ⟨0, Nat.zero_le _, rfl, Below.refl _ _⟩
      case round =>
        obtain ⟨k, hk2, rfl, hb⟩ := hrel
        have HBB := Lib.hid hb
        have hzz := hb.size
        clear hb
        by_cases hlt2 : k < ps.length
        · obtain ⟨b, off, rfl, hbH, hra, q0, q1, q2, q3, q4, q5, q6, q7, q8⟩ := HP.out.at_ hlt2
          have hri := HR.out _ (List.getElem_mem hlt2)
          have hgr := putAll_back HSA.out (k := k) (by rw [length_recs]; exact hlt2)
          have hel : (recs ps)[k]'(by rw [length_recs]; exact hlt2) = (ps[k]).2 := by simp [recs]
          have hsr := HSA.out _ (List.getElem_mem (l := recs ps) (n := k) (by rw [length_recs]; exact hlt2))
          rw [hel] at hgr hsr
          rw [← HBF.out] at hgr
          have a0 := (HBB.out.cell (p := ⟨gA, k, none⟩) hgA).trans (HCA.out k (by omega))
          have a1 := (HBB.out.cell (p := ⟨gA, k + 1, none⟩) hgA).trans (HCA.out (k + 1) (by omega))
          have HBW := Lib.hid (HB6.out.trans (HBB.out.mono hz6))
          have hzw : w.heap.size ≤ wr.heap.size := Nat.le_trans hz6 hzz
          have HGET := Lib.hid (rget_any A5 Bf.length c5 Bf (atR (recs ps) k) wr rfl ((HR6.out.below HBB.out).mono hzz) hc5 hc6 (by
            have : atR (recs ps) k ≤ 70000 * ps.length := by
              unfold atR
              have h := putAll_good [] ((recs ps).take k) AllGood.nil fun q hq => HSA.out q (List.mem_of_mem_take hq)
              have h2 := h.b
              simp only [List.nil_append, List.length_take] at h2
              rw [length_recs] at h2
              omega
            omega))
          rw [hgr] at HGET
          clear hgr hel
          revert hra q0 q1 q2 q3 q4 q5 q6 q7 q8 hri HGET hsr
          generalize ps[k] = p
          obtain ⟨x, r⟩ := p
          intro hra q0 q1 q2 q3 q4 q5 q6 q7 q8 hri hsr HGET
          dsimp only at *
          have HRA := Lib.hid hra
          have HRI := Lib.hid hri
          have HSR := Lib.hid hsr
          have hkn : (k : Int) + 1 < (ps.length : Int) + 1 := by omega
          have Q0 := Lib.hid q0
          have Q1 := Lib.hid q1
          have Q2 := Lib.hid q2
          have Q3 := Lib.hid q3
          have Q4 := Lib.hid q4
          have Q5 := Lib.hid q5
          have Q6 := Lib.hid q6
          have Q7 := Lib.hid q7
          have Q8 := Lib.hid q8
          clear hra hri hsr q0 q1 q2 q3 q4 q5 q6 q7 q8
          go_wp2_with fail
          refine HGET.out.mono ?_
          rintro e w7 ⟨y, rfl, hy, hb7⟩
          have hnew := (Below.refl w7.heap.size w7).alloc (Nat.le_refl _) (.cells #[.slice y.A r.name.length y.c, .int .i64 r.kind, .int .i64 r.cls, .int .i64 r.ttl, .slice y.d.Ab r.data.bytes.length y.d.cb, .slice y.d.Ah r.data.host.length y.d.ch, .slice y.d.Am r.data.mail.length y.d.cm, .slice y.d.An r.data.nums.length y.d.cn, .slice y.d.At r.data.texts.length y.d.ct] 51)
          have HY8 := Lib.hid (hy.keep fun j hj => hnew.block j hj)
          have HB7 := Lib.hid (HBW.out.trans (hb7.mono hzw))
          have HB8 := Lib.hid (HB7.out.trans (hnew.mono (Nat.le_trans hzw hb7.size)))
          have HW8 := Lib.hid (show Whole (w7.alloc (.cells #[.slice y.A r.name.length y.c, .int .i64 r.kind, .int .i64 r.cls, .int .i64 r.ttl, .slice y.d.Ab r.data.bytes.length y.d.cb, .slice y.d.Ah r.data.host.length y.d.ch, .slice y.d.Am r.data.mail.length y.d.cm, .slice y.d.An r.data.nums.length y.d.cn, .slice y.d.At r.data.texts.length y.d.ct] 51)) w7.heap.size 51 [.slice y.A r.name.length y.c, .int .i64 r.kind, .int .i64 r.cls, .int .i64 r.ttl, .slice y.d.Ab r.data.bytes.length y.d.cb, .slice y.d.Ah r.data.host.length y.d.ch, .slice y.d.Am r.data.mail.length y.d.cm, .slice y.d.An r.data.nums.length y.d.cn, .slice y.d.At r.data.texts.length y.d.ct] from Whole.made w7 _ _)
          have HBB8 := Lib.hid ((HBB.out.trans (hb7.mono hzz)).trans (hnew.mono (Nat.le_trans hzz hb7.size)))
          have hz7 : w6.heap.size ≤ w7.heap.size := Nat.le_trans hzz hb7.size
          clear hy hb7 hnew HGET a0 a1 HB7
          have t1 : ((atR (recs ps) (k + 1) : Int) != (atR (recs ps) (k + 1) : Int)) = false := by simp
          go_wp2
          have HBD := Lib.hid HB8.out.drew
          have HBBD := Lib.hid HBB8.out.drew
          have HYD := Lib.hid (show OwnR (w7.alloc (.cells #[.slice y.A r.name.length y.c, .int .i64 r.kind, .int .i64 r.cls, .int .i64 r.ttl, .slice y.d.Ab r.data.bytes.length y.d.cb, .slice y.d.Ah r.data.host.length y.d.ch, .slice y.d.Am r.data.mail.length y.d.cm, .slice y.d.An r.data.nums.length y.d.cn, .slice y.d.At r.data.texts.length y.d.ct] 51)).drew wr.heap.size y r from HY8.out.keep fun _ _ => rfl)
          have HWD := Lib.hid (show Whole (w7.alloc (.cells #[.slice y.A r.name.length y.c, .int .i64 r.kind, .int .i64 r.cls, .int .i64 r.ttl, .slice y.d.Ab r.data.bytes.length y.d.cb, .slice y.d.Ah r.data.host.length y.d.ch, .slice y.d.Am r.data.mail.length y.d.cm, .slice y.d.An r.data.nums.length y.d.cn, .slice y.d.At r.data.texts.length y.d.ct] 51)).drew w7.heap.size 51 [.slice y.A r.name.length y.c, .int .i64 r.kind, .int .i64 r.cls, .int .i64 r.ttl, .slice y.d.Ab r.data.bytes.length y.d.cb, .slice y.d.Ah r.data.host.length y.d.ch, .slice y.d.Am r.data.mail.length y.d.cm, .slice y.d.An r.data.nums.length y.d.cn, .slice y.d.At r.data.texts.length y.d.ct] from HW8.out)
          clear HB8 HBB8 HY8 HW8
          have HSZ := Lib.hid (sound_sz HSR.out.d)
          have HTX := Lib.hid (soundP HSR.out.d).t
          have hgA8 : gA < w6.heap.size := hgA
          have hzD : w.heap.size ≤ (w7.alloc (.cells #[.slice y.A r.name.length y.c, .int .i64 r.kind, .int .i64 r.cls, .int .i64 r.ttl, .slice y.d.Ab r.data.bytes.length y.d.cb, .slice y.d.Ah r.data.host.length y.d.ch, .slice y.d.Am r.data.mail.length y.d.cm, .slice y.d.An r.data.nums.length y.d.cn, .slice y.d.At r.data.texts.length y.d.ct] 51)).drew.heap.size := HBD.out.size
          have hz7D : w7.heap.size < (w7.alloc (.cells #[.slice y.A r.name.length y.c, .int .i64 r.kind, .int .i64 r.cls, .int .i64 r.ttl, .slice y.d.Ab r.data.bytes.length y.d.cb, .slice y.d.Ah r.data.host.length y.d.ch, .slice y.d.Am r.data.mail.length y.d.cm, .slice y.d.An r.data.nums.length y.d.cn, .slice y.d.At r.data.texts.length y.d.ct] 51)).drew.heap.size := HWD.out.lt
          have ha2 : (k : Int) + 1 < ((ps.length + 1 : Nat) : Int) := by omega
          have ha3 : IntKind.i64.wrap ((k : Int) + 1) = (k : Int) + 1 := IntWalk.i64_in _ (by omega)
          have ha4 : (0 : Int) ≤ (k : Int) + 1 := by omega
          have ha5 : ((k : Int) + 1).toNat = k + 1 := by omega
          have ha6 : (k : Int) < (ps.length : Int) := by omega
          have ha7 : (0 : Int) ≤ (k : Int) := by omega
          go_region_held3 (fun W => (W.cell? ⟨b, off + k * 9, none⟩ = some (.slice x.A r.name.length x.c) ∧ W.cell? ⟨b, off + k * 9 + 1, none⟩ = some (.int .i64 r.kind) ∧ W.cell? ⟨b, off + k * 9 + 2, none⟩ = some (.int .i64 r.cls) ∧ W.cell? ⟨b, off + k * 9 + 3, none⟩ = some (.int .i64 r.ttl) ∧ W.cell? ⟨b, off + k * 9 + 4, none⟩ = some (.slice x.d.Ab r.data.bytes.length x.d.cb) ∧ W.cell? ⟨b, off + k * 9 + 5, none⟩ = some (.slice x.d.Ah r.data.host.length x.d.ch) ∧ W.cell? ⟨b, off + k * 9 + 6, none⟩ = some (.slice x.d.Am r.data.mail.length x.d.cm) ∧ W.cell? ⟨b, off + k * 9 + 7, none⟩ = some (.slice x.d.An r.data.nums.length x.d.cn) ∧ W.cell? ⟨b, off + k * 9 + 8, none⟩ = some (.slice x.d.At r.data.texts.length x.d.ct)) ∧ (W.cell? ⟨w7.heap.size, 0, none⟩ = some (.slice y.A r.name.length y.c) ∧ W.cell? ⟨w7.heap.size, 1, none⟩ = some (.int .i64 r.kind) ∧ W.cell? ⟨w7.heap.size, 2, none⟩ = some (.int .i64 r.cls) ∧ W.cell? ⟨w7.heap.size, 3, none⟩ = some (.int .i64 r.ttl) ∧ W.cell? ⟨w7.heap.size, 4, none⟩ = some (.slice y.d.Ab r.data.bytes.length y.d.cb) ∧ W.cell? ⟨w7.heap.size, 5, none⟩ = some (.slice y.d.Ah r.data.host.length y.d.ch) ∧ W.cell? ⟨w7.heap.size, 6, none⟩ = some (.slice y.d.Am r.data.mail.length y.d.cm) ∧ W.cell? ⟨w7.heap.size, 7, none⟩ = some (.slice y.d.An r.data.nums.length y.d.cn) ∧ W.cell? ⟨w7.heap.size, 8, none⟩ = some (.slice y.d.At r.data.texts.length y.d.ct)) ∧ W.cell? ⟨gA, k + 1, none⟩ = some (.int .i64 (atR (recs ps) (k + 1) : Int)))
            (exact ⟨⟨(HBD.out.cell (p := ⟨b, off + k * 9, none⟩) hbH).trans Q0.out, (HBD.out.cell (p := ⟨b, off + k * 9 + 1, none⟩) hbH).trans Q1.out, (HBD.out.cell (p := ⟨b, off + k * 9 + 2, none⟩) hbH).trans Q2.out, (HBD.out.cell (p := ⟨b, off + k * 9 + 3, none⟩) hbH).trans Q3.out, (HBD.out.cell (p := ⟨b, off + k * 9 + 4, none⟩) hbH).trans Q4.out, (HBD.out.cell (p := ⟨b, off + k * 9 + 5, none⟩) hbH).trans Q5.out, (HBD.out.cell (p := ⟨b, off + k * 9 + 6, none⟩) hbH).trans Q6.out, (HBD.out.cell (p := ⟨b, off + k * 9 + 7, none⟩) hbH).trans Q7.out, (HBD.out.cell (p := ⟨b, off + k * 9 + 8, none⟩) hbH).trans Q8.out⟩, ⟨HWD.out.cell 0, HWD.out.cell 1, HWD.out.cell 2, HWD.out.cell 3, HWD.out.cell 4, HWD.out.cell 5, HWD.out.cell 6, HWD.out.cell 7, HWD.out.cell 8⟩, (HBBD.out.cell (p := ⟨gA, k + 1, none⟩) hgA).trans (HCA.out (k + 1) (by omega))⟩)
            ((first
              | (go_at_call 31
                 have hh := sameRR_any y x r r _ HYD.out.at_ ((HRA.out.below HBD.out).mono HBD.out.size) HRI.out.n.1 ⟨HSZ.out.1, HSZ.out.2, by have := HTX.out; unfold maxLen; omega⟩ ⟨HSZ.out.1, HSZ.out.2, by have := HTX.out; unfold maxLen; omega⟩ HRI.out.d.h.1 HRI.out.d.m.1
                 rw [sameR_self] at hh
                 refine hh.mono ?_
                 rintro e wn ⟨rfl, hb⟩
                 have HWD := Lib.hid (HWD.out.below hb HWD.out.lt)
                 have HBBD := Lib.hid (HBBD.out.trans (hb.mono HBBD.out.size))
                 have HBD := Lib.hid (HBD.out.trans (hb.mono HBD.out.size))
                 clear hb hh)))
          go_wp2
          exact ⟨⟨k + 1, by omega, by go_num, HBBD.out⟩, by simp [intOf]; omega⟩
        · go_wp2
          go_ret
          exact ⟨rfl, HB6.out.trans (HBB.out.mono hz6)⟩

theorem rrback_any (w : World) (A : Option Addr) (c : Nat) (ps : List (RV × Rt)) (hp : RsAt w w.heap.size A ps) (hr : ∀ p ∈ ps, RIn p.2) (hm : ps.length ≤ maxLen) :
    Calls Try.prog 5 #[.slice A ps.length c] w (TrueB w) := by
  cases hl : lightL (recs ps) with
  | false => exact rrback_dark w A c ps hp hm hl
  | true => exact rrback_light w A c ps hp hr hl

end Go.Proofs.Ytjjmllbkfbdcnaa

namespace Go.Proofs.Ytjjmllbkfbdcnaa
open Go.ChangeShapes Go.WideShapes Go.ChangeAt Go.RowKit

set_option maxRecDepth 100000 in
theorem rrback_lifted (os : Os) (started : os.Started) (H : Type) (enc : TypeId × Value → H) :
    ReturnsInHanded {} Try.checked os 5 .any (Rows.rrBackSpec.pre6 enc Try.prog Try.f5 Rows.rrBackRow.domain false) (Rows.rrBackSpec.post enc Try.prog Try.f5 false true false false) := by
  refine returnsInHanded_of_change_sized (C := Try.checked) Try.own started (by kernel_rfl) Try.func5
    (ChangeSpec.witness6 (enc := enc) (C := Try.checked) false ⟨#[], #[.slice none 0 0], []⟩ 8 (by kernel_rfl) (by kernel_rfl) (by kernel_rfl) (by kernel_rfl)) ?_
  intro W base args ds gs before hval0 hW _ hsz0 _
  have hsz : (DataW.weightsEach Try.prog (Try.f5.params.toList ++ Rows.rrBackSpec.plain.varTypes Try.prog) (ds ++ gs)).all (· ≤ reachBytes) = true := hsz0
  clear hsz0
  have hval : ∀ (j : Nat) t v, Try.f5.params[j]? = some t → args[j]? = some v → Value.okWide Try.prog W .any base t v := hval0
  have hW' := hW
  obtain ⟨p, q, hA0, hV, rfl, _, _⟩ := hW
  have hA : DataW.TrodAll enc Try.prog W 0 (fun _ => true) true Try.f5.params.toList args.toList ds p := hA0
  rw [Try.params5] at hA hval hsz
  obtain ⟨v0, d0, rfl, rfl, h0⟩ := trodAll_one hA
  obtain ⟨rfl, rfl⟩ := trodVars_none hV
  obtain ⟨A0, c0, ps0, rfl, hp0, hr0, hc0, hm0⟩ := open_rrs Try.underlying47 (hval 0 47 v0 rfl rfl) h0 (fun x hx => hW'.lt x (by simp [hx]))
  have key : Calls Try.prog 5 #[.slice A0 ps0.length c0] W (TrueB W) := by
    exact rrback_any W A0 c0 ps0 hp0 hr0 (Nat.le_trans hc0 hm0)
  refine key.mono fun e W' ⟨he, hb⟩ => ?_
  subst he
  exact ⟨_, rfl, law_post (P := Try.prog) (tb := 4) Try.laidOut (by kernel_rfl) (by kernel_rfl) (by kernel_rfl) Try.underlying4 rfl hW' rfl rfl rfl hb⟩

theorem rrback_holds : Rows.RrBackSaid :=
  OpenClaim.holds_of_wide 5 Try.f5 rfl rfl rfl rfl rfl rfl rfl ⟨rfl, rfl, rfl, rfl, rfl⟩ rfl rfl rfl rfl rfl (by kernel_rfl) Try.func5 (by kernel_rfl)
    (of_decide_eq_true (by kernel_rfl)) (by unfold Func.isWrapper; first | (rw [if_pos (by decide +kernel)]; kernel_rfl) | (rw [if_neg (by decide +kernel)]; exact ⟨rfl, rfl⟩))
    (fun os started H enc _ => rrback_lifted os started H enc)

end Go.Proofs.Ytjjmllbkfbdcnaa
