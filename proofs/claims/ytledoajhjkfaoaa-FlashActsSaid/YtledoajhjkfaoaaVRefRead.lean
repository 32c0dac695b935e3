/-
  The contracts of the document's spend and Read.
-/
import Derived.Test.YtledoajhjkfaoaaVRef
namespace Go.Proofs.Ytledoajhjkfaoaa
open Go.RowKit

theorem wcells_at {us : List Wri} {vs : List Value} (h : us.length = vs.length) {k : Nat} (hk : k < us.length) : (wcells us vs)[k * 2]? = some (.int .i64 ((us[k]).place : Int)) ∧ (wcells us vs)[k * 2 + 1]? = some (vs[k]'(by omega)) := by
  have hz : k < (us.zip vs).length := by rw [List.length_zip]; omega
  have he : (us.zip vs)[k] = (us[k], vs[k]'(by omega)) := List.getElem_zip ..
  have h2 : ∀ p ∈ us.zip vs, ([.int .i64 (p.1.place : Int), p.2] : List Value).length = 2 := fun _ _ => rfl
  have a := flat_get (f := fun p : Wri × Value => ([.int .i64 (p.1.place : Int), p.2] : List Value)) h2 hz (j := 0) rfl
  have b := flat_get (f := fun p : Wri × Value => ([.int .i64 (p.1.place : Int), p.2] : List Value)) h2 hz (j := 1) rfl
  rw [he] at a b
  exact ⟨a, b⟩
theorem getD_set {α : Type} {l : List α} {i j : Nat} {a d : α} (hi : i < l.length) : (l.set i a).getD j d = if i = j then a else l.getD j d := by
  rw [List.getD_eq_getElem?_getD, List.getD_eq_getElem?_getD]
  by_cases h : i = j
  · subst h
    rw [if_pos rfl, List.getElem?_set_self hi]
    rfl
  · rw [if_neg h, List.getElem?_set_ne h]

section
variable {w w' : World} {base : Nat} {m : RLies} {x y : Dv}
theorem RefAt.cells (h : RefAt w base m x) (hs : y.sure = x.sure) (hu : y.uns = x.uns) (hl : y.limit ≤ 9223372036854775807) (hg : Grew (fun j => j = m.r) w w') (hw : Whole w' m.r 40 (refCells m y.limit y.down)) : RefAt w' base m y := by
  obtain ⟨vs, hv⟩ := h.uns
  have hne : ∀ g, (∃ t fr cs, w.heap[g]? = some (.cells cs t fr) ∧ t = 5) → g ≠ m.r := by
    rintro g ⟨t, fr, cs, hg, ht⟩ rfl
    have hb := h.blk
    unfold Whole at hb
    rw [hg] at hb
    simp at hb
    have h2 := hb.2.1
    rw [ht] at h2
    exact absurd h2 (by decide)
  refine ⟨hw, ?_, ⟨vs, ?_⟩, h.lr, ⟨by rw [hs]; exact h.ok.s, by rw [hs, hu]; exact h.ok.u, by rw [hs]; exact h.ok.few, hl⟩⟩
  · rw [hs]
    refine h.sure.keep fun g hg' hj => hg.block g hg' ?_
    rcases hj with hj | hj
    · obtain ⟨P, _, h2, _⟩ := h.sure
      rintro rfl
      exact own_not_whole h2 h.blk (by decide) hj
    · exact hne g hj
  · rw [hu]
    refine hv.keep fun g hg' hj => hg.block g hg' ?_
    rcases hj with hj | hj
    · rintro rfl
      exact own_not_whole hv.row h.blk (by decide) hj
    · exact hne g hj
end
def RLastsOut (base : Nat) (w : World) (m : RLies) (x : Dv) (e : Ending) (w' : World) : Prop :=
  e = .returned (.bool x.lasts) ∧ RefAt w' base m x.spent ∧ Grew (fun j => j = m.r) w w' ∧ w'.heap.size = w.heap.size
theorem ref_spend (w : World) (base : Nat) (m : RLies) (x : Dv) (h : RefAt w base m x) (hd : x.down = false) : Calls Try.prog 28 #[.pointer (some ⟨m.r, 0, none⟩)] w (RLastsOut base w m x) := by
  by_cases h0 : x.limit = 0
  · refine (spend_zero w base m x h h0).mono ?_
    rintro e w' ⟨rfl, rfl⟩
    have e1 : x.spent = x := by unfold Dv.spent; rw [if_pos h0]
    exact ⟨ret_bool (by simp [Dv.lasts, h0]), by rw [e1]; exact h, Grew.refl _ _, rfl⟩
  · have hlim := h.ok.lim
    have es : x.spent = { x with limit := x.limit - 1, down := decide (x.limit = 1) } := by unfold Dv.spent; rw [if_neg h0]
    by_cases h1 : x.limit = 1
    · refine (spend_one w base m x h h1).mono ?_
      rintro e w' ⟨rfl, rfl⟩
      refine ⟨ret_bool (by simp [Dv.lasts, h1]), ?_, grew_two w m.r 2 3 _ _, by simp⟩
      rw [es]
      refine h.cells (y := { x with limit := x.limit - 1, down := decide (x.limit = 1) }) rfl rfl (by show x.limit - 1 ≤ _; omega) (grew_two w m.r 2 3 _ _) ?_
      have hb := (h.blk.set_ 2 (.int .i64 0)).set_ 3 (.bool true)
      show Whole _ _ _ (refCells m (x.limit - 1) (decide (x.limit = 1)))
      rw [h1]
      exact hb
    · refine (spend_more w base m x h (by omega) hd).mono ?_
      rintro e w' ⟨rfl, rfl⟩
      refine ⟨ret_bool (by simp [Dv.lasts, h1]), ?_, grew_one w m.r 2 _, by simp⟩
      rw [es]
      refine h.cells (y := { x with limit := x.limit - 1, down := decide (x.limit = 1) }) rfl rfl (by show x.limit - 1 ≤ _; omega) (grew_one w m.r 2 _) ?_
      have hb := h.blk.set_ 2 (.int .i64 ((x.limit - 1 : Nat) : Int))
      show Whole _ _ _ (refCells m (x.limit - 1) (decide (x.limit = 1)))
      have hdd : decide (x.limit = 1) = x.down := by rw [hd]; simp [h1]
      rw [hdd]
      exact hb

def RdRel (w : World) (base : Nat) (x : Dv) (k : Nat) (b t i : Value) : Prop :=
  ∃ j : Nat, j ≤ x.uns.length ∧ i = .int .i64 j ∧ t = .bool ((nowN x.uns x.sure j).getD k secZero).torn ∧ w.ownsRow base 5 1 b 512 (((nowN x.uns x.sure j).getD k secZero).data.map bc)
set_option maxRecDepth 4000 in
set_option maxHeartbeats 1000000 in
theorem ref_read (w : World) (base : Nat) (m : RLies) (x : Dv) (h : RefAt w base m x) (k : Int) (hu : x.uns.length < 4294967296) : Calls Try.prog 32 #[.pointer (some ⟨m.r, 0, none⟩), .int .i64 k] w (ReadOut w (x.readE k) (x.readB k)) := by
  obtain ⟨r, s, u⟩ := m
  obtain ⟨P, hP, hrow, heach⟩ := h.sure
  obtain ⟨vs, huns⟩ := h.uns
  have hPl : P.length = x.sure.length := by rw [← hP, List.length_map]
  rw [hPl] at hrow
  obtain ⟨As, cs, rfl, _, _⟩ := own_form hrow
  obtain ⟨Au, cu, rfl, _, _⟩ := own_form huns.row
  obtain ⟨i0, hi0, hz0, hz1, hz2⟩ := info_parts u8_info
  have c0 : w.cell? ⟨r, 0, none⟩ = some (.slice As x.sure.length cs) := h.blk.cell 0
  have c1 : w.cell? ⟨r, 1, none⟩ = some (.slice Au x.uns.length cu) := h.blk.cell 1
  have c3 : w.cell? ⟨r, 3, none⟩ = some (.bool x.down) := h.blk.cell 3
  have H := Lib.hid h
  have HR := Lib.hid hrow
  have HU := Lib.hid huns
  have hfew := h.ok.few
  have HOK := Lib.hid h.ok
  have hsz : base ≤ w.heap.size := by have := h.own (.inl rfl); omega
  have HSZ := Lib.hid hsz
  have HP := Lib.hid hP
  have HE := Lib.hid heach
  have HPL := Lib.hid hPl
  clear h hrow huns hP heach hPl hsz
  by_cases hd : x.down = true
  · have e1 : x.readE k = 8 := by unfold Dv.readE; rw [if_pos hd]
    have e2 : x.readB k = [] := by unfold Dv.readB; rw [e1]; rfl
    rw [e1, e2]
    rw [hd] at c3
    clear e1 e2
    go_enter Try.func32, Try.ntmps32
    go_wp2
    go_ret2
    exact ⟨_, rfl, World.ownsRow_nil _ _ _ _, Below.refl _ _⟩
  have hdf : x.down = false := by simpa using hd
  rw [hdf] at c3
  have HD := Lib.hid hd
  clear hd hdf
  by_cases hk : 0 ≤ k ∧ k < (x.sure.length : Int)
  · obtain ⟨i, rfl⟩ : ∃ i : Nat, k = i := ⟨k.toNat, by omega⟩
    have hi : i < x.sure.length := by omega
    have hhas : x.has i = true := by simp [Dv.has]; omega
    have hkd : decide ((i : Int) < 0) = false := by simp
    have hkd2 : decide ((x.sure.length : Int) ≤ (i : Int)) = false := by simp; omega
    have HHAS := Lib.hid hhas
    obtain ⟨gs, rfl⟩ := own_some HR.out (by omega)
    have hiP : i < P.length := by rw [HPL.out]; exact hi
    have hcell := scells_at hiP
    have q0 : w.cell? ⟨gs, i * 2, none⟩ = some P[i].2 := by
      obtain ⟨h2, h3⟩ := List.getElem?_eq_some_iff.1 hcell.1
      rw [own_cell HR.out h2, h3]
    have q1 : w.cell? ⟨gs, i * 2 + 1, none⟩ = some (.bool P[i].1.torn) := by
      obtain ⟨h2, h3⟩ := List.getElem?_eq_some_iff.1 hcell.2
      rw [own_cell HR.out h2, h3]
    have hs0 : x.sure.getD i secZero = P[i].1 := by
      rw [← HP.out, List.getD_eq_getElem?_getD, List.getElem?_map, List.getElem?_eq_getElem hiP]
      rfl
    have hr0 := HE.out _ (List.getElem_mem hiP)
    obtain ⟨p0, hp0⟩ : ∃ p0, p0 = P[i] := ⟨_, rfl⟩
    rw [← hp0] at q0 q1 hs0 hr0
    obtain ⟨A0, k0, hv0, _, _⟩ := own_form hr0
    rw [hv0] at q0 hr0
    have HS0 := Lib.hid hs0
    have HR0 := Lib.hid hr0
    clear hcell hhas hs0 hr0 hp0 hv0 hk
    go_enter Try.func32, Try.ntmps32
    go_wp2
    go_loop [6, 7, 8] (RdRel w base x i) (fun _ _ i => x.uns.length - (intOf i).toNat)
    case atStart => exact ⟨0, Nat.zero_le _, rfl, by show _ = Value.bool (x.sure.getD i secZero).torn; rw [HS0.out], by show w.ownsRow _ _ _ _ _ ((x.sure.getD i secZero).data.map bc); rw [HS0.out]; exact HR0.out⟩
    case round =>
      obtain ⟨j, hj, rfl, rfl, hb⟩ := hrel
      have HB := Lib.hid hb
      clear hb
      by_cases hlt : j < x.uns.length
      · obtain ⟨gu, rfl⟩ := own_some HU.out.row (by omega)
        have hw := wcells_at HU.out.len hlt
        have hjv : j < vs.length := by have := HU.out.len; omega
        have p0 : w.cell? ⟨gu, j * 2, none⟩ = some (.int .i64 ((x.uns[j]).place : Int)) := by
          obtain ⟨h2, h3⟩ := List.getElem?_eq_some_iff.1 hw.1
          rw [own_cell HU.out.row h2, h3]
        have p1 : w.cell? ⟨gu, j * 2 + 1, none⟩ = some vs[j] := by
          obtain ⟨h2, h3⟩ := List.getElem?_eq_some_iff.1 hw.2
          rw [own_cell HU.out.row h2, h3]
        have hv := HU.out.each j hlt hjv
        have hup := (HOK.out.u _ (List.getElem_mem hlt)).1
        have hst := nowN_succ (us := x.uns) (l := x.sure) hlt
        obtain ⟨uj, huj⟩ : ∃ uj, uj = x.uns[j] := ⟨_, rfl⟩
        rw [← huj] at p0 hv hup hst
        have hstep : (nowN x.uns x.sure (j + 1)).getD i secZero = if uj.place = i then uj.sec else (nowN x.uns x.sure j).getD i secZero := by
          rw [hst, getD_set (by rw [length_nowN]; exact hup)]
        have HV := Lib.hid hv
        have HST := Lib.hid hstep
        clear hw hv hst hstep huj hup
        by_cases he : uj.place = i
        · have d1 : ((uj.place : Int) == (i : Int)) = true := by simp; omega
          have HEQ := Lib.hid he
          clear he
          go_wp2
          refine ⟨⟨j + 1, by omega, by go_num, ?_, ?_⟩, by simp [intOf]; omega⟩
          · rw [HST.out, if_pos HEQ.out]; rfl
          · rw [HST.out, if_pos HEQ.out]; exact HV.out
        · have d1 : ((uj.place : Int) == (i : Int)) = false := by simp; omega
          have HEQ := Lib.hid he
          clear he
          go_wp2
          refine ⟨⟨j + 1, by omega, by go_num, ?_, ?_⟩, by simp [intOf]; omega⟩
          · rw [HST.out, if_neg HEQ.out]
          · rw [HST.out, if_neg HEQ.out]; exact HB.out
      · obtain rfl : j = x.uns.length := by omega
        have hb := HB.out
        have hn : (nowN x.uns x.sure x.uns.length).getD i secZero = x.now.getD i secZero := rfl
        rw [hn] at hb ⊢
        obtain ⟨sn, hsn⟩ : ∃ sn, sn = x.now.getD i secZero := ⟨_, rfl⟩
        rw [← hsn] at hb ⊢
        have hnl : sn.data.length = 512 := by rw [hsn]; exact ok_getD HOK.out.now i
        have HNL := Lib.hid hnl
        have HSN := Lib.hid hsn
        obtain ⟨Ab, kb, rfl, _, _⟩ := own_form hb
        have HB2 := Lib.hid hb
        clear hb hn hnl hsn HB
        cases ht : sn.torn with
        | true =>
          have e1 : x.readE i = 9 := by unfold Dv.readE; rw [if_neg HD.out, if_neg (by simp [HHAS.out]), if_pos (by rw [Int.toNat_natCast, ← HSN.out]; exact ht)]
          have e2 : x.readB i = [] := by unfold Dv.readB; rw [e1]; rfl
          have E1 := Lib.hid e1
          have E2 := Lib.hid e2
          clear ht e1 e2
          go_wp2
          go_ret2
          rw [E1.out, E2.out]
          exact ⟨_, rfl, World.ownsRow_nil _ _ _ _, Below.refl _ _⟩
        | false =>
          have e1 : x.readE i = 0 := by unfold Dv.readE; rw [if_neg HD.out, if_neg (by simp [HHAS.out]), if_neg (by rw [Int.toNat_natCast, ← HSN.out, ht]; decide)]
          have e2 : x.readB i = sn.data := by unfold Dv.readB; rw [e1, if_pos rfl, Int.toNat_natCast, ← HSN.out]
          have E1 := Lib.hid e1
          have E2 := Lib.hid e2
          clear ht e1 e2
          go_wp2_with (
            at_builtin
            refine wpList_append_row rfl (.tmp 68) (.tmp 69) _ rfl w.heap.size 5 i0 _ 1 1 Try.underlying30 hi0 hz0 hz1 hz2 rfl (by omega) (.slice (some ⟨w.heap.size, 0, none⟩) 0 0) 0 [] rfl
              (own_lit _ _ _) Ab 512 kb w.heap.size (sn.data.map bc) rfl (by rw [List.length_map, HNL.out]) ((Row.of_own HB2.out).alloc (Nat.le_refl _) (.cells #[] 5)) (bc_one _) (by unfold maxLen; omega) (by omega) (by simp) ?_
            intro v6 w6 hown6 hg6
            simp only [Nat.zero_add, List.nil_append] at hown6
            have HO6 := Lib.hid hown6
            have HB6 := Lib.hid (own_below ((Below.refl w.heap.size w).alloc (Nat.le_refl _) _) (Nat.le_refl _) (by simp) (own_lit w 5 1) hg6)
            clear hown6 hg6)
          go_ret2
          rw [E1.out, E2.out]
          exact ⟨v6, rfl, by rw [HNL.out]; exact HO6.out, HB6.out⟩
  · have e1 : x.readE k = 1 := by unfold Dv.readE; rw [if_neg HD.out, if_pos (by simpa [Dv.has] using hk)]
    have e2 : x.readB k = [] := by unfold Dv.readB; rw [e1]; rfl
    rw [e1, e2]
    clear e1 e2
    by_cases hk0 : k < 0
    · have d1 : decide (k < 0) = true := by simp; exact hk0
      clear hk hk0
      go_enter Try.func32, Try.ntmps32
      go_wp2
      go_ret2
      exact ⟨_, rfl, World.ownsRow_nil _ _ _ _, Below.refl _ _⟩
    · have d1 : decide (k < 0) = false := by simp; omega
      have d2 : decide ((x.sure.length : Int) ≤ k) = true := by simp; omega
      clear hk hk0
      go_enter Try.func32, Try.ntmps32
      go_wp2
      go_ret2
      exact ⟨_, rfl, World.ownsRow_nil _ _ _ _, Below.refl _ _⟩

end Go.Proofs.Ytledoajhjkfaoaa
