/-
  The contracts of a log's small functions: parts, around, First, Next, Epoch, Room, end, note, ready.
-/
import Derived.Test.YtgfoekbdmgljbaaDoorSbP4
import Derived.IntWalk
import Derived.Test.YtgfoekbdmgljbaaDoorSbP3
import Derived.Outline
import Derived.Deep.CutRange
import Derived.Deep.CutBlock
import Derived.Deep.RegionHeld3
import Derived.Test.YtgfoekbdmgljbaaDoorSbP2
import Derived.Deep.RegionLaw
namespace Go.Proofs.YtgfoekbdmgljbaaDoor
open Go.RowKit

theorem sparts_any (n : Nat) (h : n ≤ 140737488355328) (w : World) : Calls Tryd.prog 29 #[.int .i64 (n : Int)] w (Told w (.int .i64 (partsN n : Int))) := by
  have hq : ((n : Int) + 495).tdiv 496 = (((n + 495) / 496 : Nat) : Int) := by rw [Int.tdiv_eq_ediv_of_nonneg (by omega)]; omega
  have r0 : (n : Int) + 496 - 1 = (n : Int) + 495 := by omega
  obtain ⟨k, hk⟩ : ∃ k, (n + 495) / 496 = k := ⟨_, rfl⟩
  rw [hk] at hq
  have HP := Lib.hid (show partsN n = max 1 k by unfold partsN; split <;> omega)
  have HM := Lib.hid (show ((max 1 k : Nat) : Int) = if (1 : Int) ≤ (k : Int) then (k : Int) else 1 by split <;> omega)
  have hkb : k ≤ 140737488355328 := by omega
  clear hk
  go_enter Tryd.func29, Tryd.ntmps29
  go_wp2
  go_ret
  rw [HP.out]
  exact ⟨by simp [HM.out]; split <;> omega, rfl⟩

section
variable {w0 w : World} {D : Nat} {x : Dv} {o : Lo} {g : Lm} {F : Nat → Prop} (h : LmAt w0 w D x o g F)
include h
theorem first_any (n : Nat) (hn : g.block.first = (n : Int)) : Calls Tryd.prog 18 #[lptr o] w (Told w (.int .i64 (n : Int))) := by
  have c4 := h.c4
  rw [hn] at c4
  clear h hn
  unfold lptr
  go_enter Tryd.func18, Tryd.ntmps18
  go_wp2
  go_ret
  exact ⟨rfl, rfl⟩
theorem epoch_any (n : Nat) (hn : g.block.epoch = (n : Int)) : Calls Tryd.prog 36 #[lptr o] w (Told w (.int .i64 (n : Int))) := by
  have c3 := h.c3
  rw [hn] at c3
  clear h hn
  unfold lptr
  go_enter Tryd.func36, Tryd.ntmps36
  go_wp2
  go_ret
  exact ⟨rfl, rfl⟩
theorem next_drew (n : Nat) (hn : g.block.first = (n : Int)) (hs : n + g.recs.length ≤ 36028797018963968) : Calls Tryd.prog 19 #[lptr o] w (Drewn w (.int .i64 ((n + g.recs.length : Nat) : Int))) := by
  have c4 := h.c4
  have c7 := h.c7
  obtain ⟨A, c, hv, _, _⟩ := h.vr
  rw [hn] at c4
  rw [hv] at c7
  obtain ⟨k, hk⟩ : ∃ k, g.recs.length = k := ⟨_, rfl⟩
  rw [hk] at c7 hs ⊢
  have r0 : IntKind.i64.wrap ((n : Int) + (k : Int)) = (n : Int) + (k : Int) := IntWalk.i64_in _ (by omega)
  have HK := Lib.hid (show ((n + k : Nat) : Int) = (n : Int) + (k : Int) by omega)
  clear h hn hv hk
  unfold lptr
  go_enter Tryd.func19, Tryd.ntmps19
  go_wp2
  go_quiet (fail)
  go_wp2
  go_ret
  rw [HK.out]
  exact ⟨rfl, _, rfl⟩
theorem next_any (n : Nat) (hn : g.block.first = (n : Int)) (hs : n + g.recs.length ≤ 36028797018963968) : Calls Tryd.prog 19 #[lptr o] w (Gave w (.int .i64 ((n + g.recs.length : Nat) : Int))) :=
  (next_drew h n hn hs).mono fun _ _ ⟨he, k, hw⟩ => ⟨he, by rw [hw]; exact below_drewN' (Below.refl _ _) k⟩
theorem around_any (a : Nat) (ha : 2 ≤ a) (hs : a ≤ 36028797018963968) (hp : 0 < g.places) (hp2 : g.places ≤ 4094) : Calls Tryd.prog 43 #[lptr o, .int .i64 (a : Int)] w (Told w (.int .i64 (arN g.places a : Int))) := by
  have c1 := h.c1
  obtain ⟨P, hP⟩ : ∃ P, g.places = P := ⟨_, rfl⟩
  rw [hP] at c1 hp hp2 ⊢
  obtain ⟨b, hb⟩ : ∃ b, a - 2 = b := ⟨_, rfl⟩
  obtain ⟨q, hq⟩ : ∃ q, (a - 2) % P = q := ⟨_, rfl⟩
  have e1 : (a : Int) - 2 = (b : Int) := by omega
  have e2 : (b : Int).tmod (P : Int) = (q : Int) := by
    rw [Int.tmod_eq_emod_of_nonneg (by omega), ← hq, hb]
    rfl
  have e3 : (b : Int) % (P : Int) = (q : Int) := by rw [← hq, hb]; rfl
  have hPz : ¬ P = 0 := by omega
  have hPi : ¬ (P : Int) = 0 := by omega
  have hq4 : q < 4094 := by have := Nat.mod_lt (a - 2) hp; omega
  have HK := Lib.hid (show ((arN P a : Nat) : Int) = 2 + (q : Int) by unfold arN; rw [hq]; omega)
  have hbb : b ≤ 36028797018963968 := by omega
  clear h hP hq hb
  unfold lptr
  go_enter Tryd.func43, Tryd.ntmps43
  go_wp2
  go_ret
  rw [HK.out]
  exact ⟨rfl, rfl⟩
end

/-- How many places records take. -/
def sumP (rs : List (Nat × Nat)) : Nat := (rs.map Prod.snd).sum
theorem sumP_take {rs : List (Nat × Nat)} {k : Nat} (hk : k < rs.length) : sumP (rs.take (k + 1)) = sumP (rs.take k) + (rs[k]).2 := by
  unfold sumP
  rw [List.take_succ_eq_append_getElem hk, List.map_append, List.sum_append]
  simp
theorem sumP_le (rs : List (Nat × Nat)) (k : Nat) : sumP (rs.take k) ≤ sumP rs := by
  have e : sumP rs = sumP (rs.take k) + sumP (rs.drop k) := by
    unfold sumP
    rw [← List.sum_append, ← List.map_append, List.take_append_drop]
  omega
def RoomRel (P : Nat) (rs : List (Nat × Nat)) (w : World) (r i : Value) (wr : World) : Prop := ∃ k : Nat, k ≤ rs.length ∧ i = .int .i64 k ∧ r = .int .i64 ((P - sumP (rs.take k) : Nat) : Int) ∧ Below w.heap.size w wr
/-- Where the next record begins. -/
def endN (P from_ : Nat) (rs : List (Nat × Nat)) : Nat := match rs.getLast? with
  | none => from_
  | some r => arN P (r.1 + r.2)
section
variable {w0 w : World} {D : Nat} {x : Dv} {o : Lo} {g : Lm} {F : Nat → Prop} (h : LmAt w0 w D x o g F)
include h
set_option maxHeartbeats 400000 in
theorem room_any (hp : sumP g.recs ≤ g.places) (hp2 : g.places ≤ 4094) (hl : g.recs.length ≤ 4094) : Calls Tryd.prog 22 #[lptr o] w (Gave w (.int .i64 ((g.places - sumP g.recs : Nat) : Int))) := by
  have HH := Lib.hid h
  have c1 := h.c1
  have c7 := h.c7
  obtain ⟨A, c, hv, _, _⟩ := h.vr
  have hown := h.recs
  rw [hv] at c7 hown
  obtain ⟨P, hP⟩ : ∃ P, g.places = P := ⟨_, rfl⟩
  obtain ⟨rs, hrs⟩ : ∃ rs, g.recs = rs := ⟨_, rfl⟩
  rw [hP] at c1 hp hp2 ⊢
  rw [hrs] at c7 hown hl hp ⊢
  have HOWN := Lib.hid hown
  have HSP := Lib.hid hp
  obtain ⟨n, hn⟩ : ∃ n, rs.length = n := ⟨_, rfl⟩
  rw [hn] at c7 hl
  have HN := Lib.hid hn
  clear h hv hP hrs hn hown hp
  unfold lptr
  go_enter Tryd.func22, Tryd.ntmps22
  go_wp2
  go_loopw [3, 16] (RoomRel P rs w) (fun _ i _ => n - (intOf i).toNat)
  case atStart => exact ⟨0, Nat.zero_le _, rfl, rfl, Below.refl _ _⟩
  case round =>
    obtain ⟨k, hk, rfl, rfl, hb⟩ := hrel
    rw [HN.out] at hk
    have HB := Lib.hid hb
    have HK := Lib.hid hk
    by_cases hlt : k < n
    · have hki : (k : Int) < (n : Int) := by omega
      have d1 : decide (k < n) = true := by simp; omega
      have hrl : k < rs.length := by rw [HN.out]; exact hlt
      obtain ⟨gr, rfl⟩ := own_some HOWN.out (by omega)
      have hst := sumP_take hrl
      have hsl := sumP_le rs (k + 1)
      have hsb := HSP.out
      have c7 := (hb.cell (p := ⟨o.l, 7, none⟩) HH.out.lt).trans c7
      have cp : wr.cell? ⟨gr, k * 2 + 1, none⟩ = some (.int .i64 ((rs[k]).2 : Int)) := (hb.cell (p := ⟨gr, k * 2 + 1, none⟩) (HOWN.out.lt gr rfl).2).trans ((own_cell HOWN.out (by rw [length_recCells]; omega)).trans (by rw [← List.getElem?_eq_getElem (by rw [length_recCells]; omega)]; exact (recCells_at hrl).2))
      obtain ⟨p, hp⟩ : ∃ p, (rs[k]).2 = p := ⟨_, rfl⟩
      obtain ⟨s, hs⟩ : ∃ s, sumP (rs.take k) = s := ⟨_, rfl⟩
      rw [hp] at cp hst
      rw [hs] at hst ⊢
      have r0 : ((P - s : Nat) : Int) - (p : Int) = ((P - (s + p) : Nat) : Int) := by omega
      have r1 : IntKind.i64.wrap (((P - s : Nat) : Int) - (p : Int)) = ((P - (s + p) : Nat) : Int) := by rw [r0]; exact IntWalk.i64_in _ (by omega)
      have HST := Lib.hid hst
      clear hb hst hsl hsb hp hs
      go_wp2
      refine ⟨⟨k + 1, by rw [HN.out]; omega, by go_num, by rw [HST.out], HB.out⟩, by simp [intOf]; omega⟩
    · obtain rfl : k = n := by omega
      have d1 : decide (k < k) = false := by simp
      rw [← HN.out, List.take_length, HN.out]
      clear hb hlt hk
      go_wp2
      go_ret
      exact ⟨rfl, HB.out⟩
set_option maxHeartbeats 400000 in
theorem end_any (f : Nat) (hf : g.block.begun = (f : Int)) (hp : 0 < g.places) (hp2 : g.places ≤ 4094) (hr : ∀ r ∈ g.recs, 2 ≤ r.1 ∧ r.1 ≤ 4096 ∧ r.2 ≤ 4096) (hl : g.recs.length ≤ 4094) :
    Calls Tryd.prog 28 #[lptr o] w (Gave w (.int .i64 (endN g.places f g.recs : Int))) := by
  have HH := Lib.hid h
  have c5 := h.c5
  have c7 := h.c7
  rw [hf] at c5
  obtain ⟨A, c, hv, hc1, hc2⟩ := h.vr
  have hown := h.recs
  rw [hv] at c7 hown
  have har : ∀ a : Nat, 2 ≤ a → a ≤ 36028797018963968 → ∀ W, Below w.heap.size w W → Calls Tryd.prog 43 #[lptr o, .int .i64 (a : Int)] W (Told W (.int .i64 (arN g.places a : Int))) := fun a h1 h2 W hb => around_any (HH.out.below hb) a h1 h2 hp hp2
  obtain ⟨rs, hrs⟩ : ∃ rs, g.recs = rs := ⟨_, rfl⟩
  obtain ⟨P, hP⟩ : ∃ P, g.places = P := ⟨_, rfl⟩
  rw [hP] at har ⊢
  rw [hrs] at c7 hown hr hl ⊢
  cases hls : rs.getLast? with
  | none =>
    have hE : endN P f rs = f := by unfold endN; rw [hls]
    have hnil : rs = [] := List.getLast?_eq_none_iff.1 hls
    rw [hE]
    subst hnil
    clear h hf hv hr hrs hP hown har hE hls hc1 hc2
    unfold lptr
    go_enter Tryd.func28, Tryd.ntmps28
    go_wp2
    go_ret
    exact ⟨rfl, Below.refl _ _⟩
  | some r =>
    have hE : endN P f rs = arN P (r.1 + r.2) := by unfold endN; rw [hls]
    obtain ⟨hm, hne⟩ : r ∈ rs ∧ rs ≠ [] := ⟨List.mem_of_getLast? hls, fun e => by rw [e] at hls; cases hls⟩
    obtain ⟨k, hk⟩ : ∃ k, rs.length = k + 1 := ⟨rs.length - 1, by have := List.length_pos_iff.2 hne; omega⟩
    have hget : rs[k]'(by omega) = r := by
      rw [List.getLast?_eq_getElem?, hk, Nat.add_sub_cancel, List.getElem?_eq_getElem (by omega)] at hls
      injection hls
    obtain ⟨gr, rfl⟩ := own_some hown (by omega)
    obtain ⟨q0, q1⟩ := recCells_at (rs := rs) (k := k) (by omega)
    rw [hget] at q0 q1
    have cp0 : w.cell? ⟨gr, k * 2, none⟩ = some (.int .i64 (r.1 : Int)) := (own_cell hown (by rw [length_recCells]; omega)).trans (by rw [← List.getElem?_eq_getElem (by rw [length_recCells]; omega)]; exact q0)
    have cp1 : w.cell? ⟨gr, k * 2 + 1, none⟩ = some (.int .i64 (r.2 : Int)) := (own_cell hown (by rw [length_recCells]; omega)).trans (by rw [← List.getElem?_eq_getElem (by rw [length_recCells]; omega)]; exact q1)
    obtain ⟨b1, b2, b3⟩ := hr r hm
    obtain ⟨r1, r2⟩ := r
    simp only at cp0 cp1 b1 b2 b3 hE
    have ha := har (r1 + r2) (by omega) (by omega)
    unfold lptr at ha
    rw [show ((r1 + r2 : Nat) : Int) = (r1 : Int) + (r2 : Int) by omega] at ha
    have HA := Lib.hid ha
    rw [hE]
    obtain ⟨n, hn⟩ : ∃ n, rs.length = n := ⟨_, rfl⟩
    rw [hn] at c7 hl
    have r0 : IntKind.i64.wrap ((n : Int) - 1) = (k : Int) := by rw [show (n : Int) - 1 = (k : Int) by omega]; exact IntWalk.i64_in _ (by omega)
    have hk0 : (0 : Int) ≤ (k : Int) := by omega
    have hkn : (k : Int) < (n : Int) := by omega
    have hkl : (k : Int) ≤ (n : Int) := by omega
    have d0 : decide ((n : Int) = 0) = false := by simp; omega
    have d1 : ((n : Int) == 0) = false := by simp; omega
    have d2 : (n == 0) = false := by simp; omega
    clear h hf hv hr hrs hP hown har hE hls hc1 hc2 hm hne hk hget q0 q1 ha hn
    unfold lptr
    go_enter Tryd.func28, Tryd.ntmps28
    go_wp2
    go_region_held3 (fun X => X.cell? ⟨o.l, 7, none⟩ = some (.slice (some ⟨gr, 0, none⟩) n c) ∧ X.cell? ⟨gr, k * 2, none⟩ = some (.int .i64 (r1 : Int)) ∧ X.cell? ⟨gr, k * 2 + 1, none⟩ = some (.int .i64 (r2 : Int)))
      (go_keep)
      (skip)
    go_wp2_with fail
    refine (HA.out _ (by first | exact ((Below.refl _ _).alloc (Nat.le_refl _) _).drew | exact (Below.refl _ _).drew.alloc (Nat.le_refl _) _)).mono ?_
    rintro e w1 ⟨rfl, rfl⟩
    go_wp2
    go_ret
    exact ⟨rfl, (by first | exact ((Below.refl _ _).alloc (Nat.le_refl _) _).drew | exact (Below.refl _ _).drew.alloc (Nat.le_refl _) _)⟩
theorem note_any (e : Int) : Calls Tryd.prog 32 #[lptr o, .int .i64 e] w (fun r w' => r = .returned (.int .i64 e) ∧ LmAt w0 w' D x o { g with down := g.down || (e == 8) } F ∧ Moved F w w' F ∧ w'.heap.size = w.heap.size) := by
  have z9 := h.blk.frozen 9
  have c9 := h.c9
  have HH := Lib.hid h
  cases h8 : e == 8 with
  | false =>
    rw [Bool.or_false]
    clear h
    unfold lptr
    go_enter Tryd.func32, Tryd.ntmps32
    go_wp2
    go_ret
    exact ⟨rfl, HH.out, Moved.refl _ _, rfl⟩
  | true =>
    rw [Bool.or_true]
    have hs := h.set_ (o' := o) (g' := { g with down := true }) rfl (h.blk.set_ 9 (.bool true)) (Grew.setCell (Grew.refl (fun j => j = o.l) w) (a := ⟨o.l, 9, none⟩) (.inl rfl) _) h.recs h.uns (fun j e => h.own j (by
      rcases e with e | e | e
      · exact .inr (.inl e)
      · exact .inr (.inr (.inl e))
      · exact .inr (.inr (.inr (.inl e)))))
    have HS := Lib.hid hs
    clear h hs
    unfold lptr
    go_enter Tryd.func32, Tryd.ntmps32
    go_wp2
    go_ret
    exact ⟨rfl, HS.out.1, HS.out.2, by simp [World.setCell]⟩
theorem ready_ok (hd : g.down = false) (hx : x.down = false) : Calls Tryd.prog 27 #[lptr o] w (Told w (.int .i64 0)) := by
  have c0 := h.c0
  have c9 := h.c9
  rw [hd] at c9
  have hdn := h_down h.dev
  rw [hx] at hdn
  have HD := Lib.hid hdn
  clear h hdn hd hx
  unfold lptr
  go_enter Tryd.func27, Tryd.ntmps27
  go_wp2_with fail
  refine HD.out.mono ?_
  rintro e w1 ⟨rfl, rfl⟩
  go_wp2
  go_ret
  exact ⟨rfl, rfl⟩
theorem ready_down (hd : g.down = true) : Calls Tryd.prog 27 #[lptr o] w (fun r w' => r = .returned (.int .i64 8) ∧ LmAt w0 w' D x o g F ∧ Moved F w w' F) := by
  have c0 := h.c0
  have c9 := h.c9
  rw [hd] at c9
  have hno := note_any h 8
  have e1 : ({ g with down := g.down || ((8 : Int) == 8) } : Lm) = g := by
    obtain ⟨a, b, c, d, e⟩ := g
    simp only at hd
    subst hd
    rfl
  rw [e1] at hno
  unfold lptr at hno
  have HN := Lib.hid hno
  clear h hno hd e1
  unfold lptr
  go_enter Tryd.func27, Tryd.ntmps27
  go_wp2_with fail
  refine HN.out.mono ?_
  rintro e w1 ⟨rfl, ha, hm, _⟩
  have HA := Lib.hid ha
  have HM := Lib.hid hm
  clear ha hm
  go_wp2
  go_ret
  exact ⟨rfl, HA.out, HM.out⟩
end

end Go.Proofs.YtgfoekbdmgljbaaDoor

namespace Go.Proofs.YtgfoekbdmgljbaaDoor
open Go.RowKit

/-- Where each record begins, and how many places it takes. -/
def posL (P from_ : Nat) (rs : List (List UInt8)) : List (Nat × Nat) := (List.range rs.length).map fun i => (arN P (from_ + offN rs i), partsN (rs.getD i []).length)
theorem length_posL (P from_ : Nat) (rs : List (List UInt8)) : (posL P from_ rs).length = rs.length := by simp [posL]
theorem posL_at {P from_ : Nat} {rs : List (List UInt8)} {k : Nat} (hk : k < rs.length) : (posL P from_ rs)[k]'(by rw [length_posL]; exact hk) = (arN P (from_ + offN rs k), partsN (rs.getD k []).length) := by simp [posL]
theorem posL_snoc (P from_ : Nat) (rs : List (List UInt8)) (r : List UInt8) : posL P from_ (rs ++ [r]) = posL P from_ rs ++ [(arN P (from_ + takenL rs), partsN r.length)] := by
  apply List.ext_getElem
  · rw [length_posL, List.length_append, List.length_append, length_posL]; rfl
  · intro i h1 h2
    rw [length_posL, List.length_append, List.length_singleton] at h1
    rw [posL_at (by rw [List.length_append, List.length_singleton]; exact h1)]
    rcases Nat.lt_or_ge i rs.length with hl | hl
    · rw [List.getElem_append_left (by rw [length_posL]; exact hl), posL_at hl, offN_app (Nat.le_of_lt hl)]
      congr 2
      rw [List.getD_eq_getElem?_getD, List.getD_eq_getElem?_getD, List.getElem?_append_left hl]
    · obtain rfl : i = rs.length := by omega
      rw [List.getElem_append_right (by rw [length_posL]; exact Nat.le_refl _), offN_app (Nat.le_refl _), offN_all]
      have e : (rs ++ [r]).getD rs.length [] = r := by rw [List.getD_eq_getElem?_getD, List.getElem?_append_right (Nat.le_refl _), Nat.sub_self]; rfl
      rw [e]
      simp
theorem posL_nil (P from_ : Nat) : posL P from_ [] = [] := rfl
theorem posL_take {P from_ : Nat} {rs : List (List UInt8)} {k : Nat} (hk : k < rs.length) : posL P from_ (rs.take (k + 1)) = posL P from_ (rs.take k) ++ [(arN P (from_ + offN rs k), partsN (rs.getD k []).length)] := by
  rw [take_snoc hk, posL_snoc]
  rfl
theorem endN_posL {P from_ : Nat} (h2 : 2 ≤ from_) (hf : from_ < P + 2) (rs : List (List UInt8)) : endN P from_ (posL P from_ rs) = arN P (from_ + takenL rs) := by
  rcases List.eq_nil_or_concat rs with rfl | ⟨l, r, rfl⟩
  · rw [posL_nil, takenL_nil, Nat.add_zero, arN_small h2 hf]
    rfl
  · rw [List.concat_eq_append, posL_snoc, takenL_append, takenL_one]
    unfold endN
    rw [List.getLast?_append]
    simp only [List.getLast?_singleton, Option.some_or]
    rw [arN_arN (by omega), Nat.add_assoc]
theorem sumP_posL (P from_ : Nat) (rs : List (List UInt8)) : sumP (posL P from_ rs) = takenL rs := by
  unfold sumP posL takenL
  rw [List.map_map]
  congr 1
  apply List.ext_getElem
  · simp
  · intro i h1 h2
    simp at h1
    simp [List.getD_eq_getElem?_getD, h1]
theorem posL_mem {P from_ : Nat} {rs : List (List UInt8)} (hp : 0 < P) (hs : ∀ r ∈ rs, r.length ≤ 16384) {p : Nat × Nat} (h : p ∈ posL P from_ rs) : 2 ≤ p.1 ∧ p.1 < P + 2 ∧ p.2 ≤ 34 := by
  unfold posL at h
  obtain ⟨i, hi, rfl⟩ := List.mem_map.1 h
  have hl := List.mem_range.1 hi
  refine ⟨arN_ge _ _, arN_lt hp _, partsN_le ?_⟩
  rw [List.getD_eq_getElem?_getD, List.getElem?_eq_getElem hl]
  exact hs _ (List.getElem_mem hl)
theorem posL_drop {P from_ from' : Nat} {rs : List (List UInt8)} {k : Nat} (hk : k ≤ rs.length) (hf : ∀ i, arN P (from' + i) = arN P (from_ + offN rs k + i)) : posL P from' (rs.drop k) = (posL P from_ rs).drop k := by
  apply List.ext_getElem
  · rw [length_posL, List.length_drop, List.length_drop, length_posL]
  · intro i h1 h2
    rw [length_posL, List.length_drop] at h1
    rw [posL_at (by rw [List.length_drop]; exact h1), List.getElem_drop, posL_at (by omega), hf, offN_drop rs hk i, getD_drop, Nat.add_assoc]

end Go.Proofs.YtgfoekbdmgljbaaDoor

namespace Go.Proofs.YtgfoekbdmgljbaaDoor
open Go.RowKit

theorem rec_row2 : (Tryd.prog.info? 72).map (fun i => (i.zero.map (·.cells.size), i.size)) = some (some 2, 2) := by kernel_rfl
theorem rec_two (a p : Int) : ∀ u ∈ ([.int .i64 a, .int .i64 p] : List Value), u.oneCell' = true := by
  intro u hu
  rcases List.mem_cons.1 hu with rfl | hu
  · rfl
  · obtain rfl := List.mem_singleton.1 hu; rfl
/-- What is known of the world that an append began in. -/
theorem of_grown {X Y : World} {row : Option Nat} (_ : X.grownBy Y row) (P : World → Prop) (h : P X) : P X := h
section
variable {w0 X Y : World} {D : Nat} {x : Dv} {o o' : Lo} {g g' : Lm} {F : Nat → Prop}
theorem LmAt.rows (h : LmAt w0 X D x o g F) (hl : o'.l = o.l) (hg : Grew (fun j => j = o.l ∨ o.vr.ownBlock = some j ∨ o.vu.ownBlock = some j) X Y) (hw : Whole Y o.l 69 (lCells D o' g')) (hr : Y.ownsRow w0.heap.size 72 2 o'.vr g'.recs.length (recCells g'.recs))
    (hu : UnsAt Y w0.heap.size o'.vu g'.us o'.vs) (hown : ∀ j, (o'.vr.ownBlock = some j ∨ o'.vu.ownBlock = some j ∨ ∃ v ∈ o'.vs, v.ownBlock = some j) → F j ∨ X.heap.size ≤ j) : LmAt w0 Y D x o' g' (ext F X Y) ∧ Moved F X Y (ext F X Y) := by
  have hF : ∀ j, (j = o.l ∨ o.vr.ownBlock = some j ∨ o.vu.ownBlock = some j) → F j := fun j hj => h.own j (by
    rcases hj with e | e | e
    · exact .inl e
    · exact .inr (.inl e)
    · exact .inr (.inr (.inl e)))
  have hs := hg.size
  have hbel : Below w0.heap.size X Y := hg.below (fun j hj => (h.foot j (hF j hj)).1) h.below0.size
  have hdne : ∀ j, ownD X D j → ¬ (j = o.l ∨ o.vr.ownBlock = some j ∨ o.vu.ownBlock = some j) := fun j hj e => by
    obtain ⟨m, rfl, hd, _⟩ := h.dev
    have hj' := (ownD_dev hd _).1 hj
    rcases e with e | e | e
    · subst e
      rcases hj' with e | e | e | e
      · exact (Whole.ne hd.blk h.blk (by decide)) e.symm
      · exact own_not_whole hd.now h.blk (by decide) (by rw [e]; rfl)
      · exact own_not_whole hd.sure h.blk (by decide) (by rw [e]; rfl)
      · exact own_not_whole hd.uns h.blk (by decide) e
    · rcases hj' with e' | e' | e' | e'
      · exact own_not_whole h.recs hd.blk (by decide) (by rw [e, e'])
      · exact own_not_own h.recs hd.now (by decide) (by rw [e']; rfl) e
      · exact own_not_own h.recs hd.sure (by decide) (by rw [e']; rfl) e
      · exact own_not_own h.recs hd.uns (by decide) e' e
    · rcases hj' with e' | e' | e' | e'
      · exact own_not_whole h.uns.row hd.blk (by decide) (by rw [e, e'])
      · exact own_not_own h.uns.row hd.now (by decide) (by rw [e']; rfl) e
      · exact own_not_own h.uns.row hd.sure (by decide) (by rw [e']; rfl) e
      · exact own_not_own h.uns.row hd.uns (by decide) e' e
  have hkd : ∀ j, ownD X D j → Y.heap[j]? = X.heap[j]? := fun j hj => hg.block j (h.dev.own_ hj).2 (hdne j hj)
  refine ⟨⟨by rw [hl]; exact hw, hr, hu, h.dev.keep (h.below0.trans hbel) hkd, by rw [hl]; exact h.low, h.vars, fun j hj => ?_, fun j hj => ?_⟩, hg.mono fun j hj => .inl (hF j hj), fun j hj => hj.imp id fun h => h.1⟩
  · rcases hj with e | e | e | e | e
    · exact .inl (hF j (.inl (by rw [← hl]; exact e)))
    · rcases hown j (.inl e) with h1 | h1
      · exact .inl h1
      · exact .inr ⟨h1, (hr.lt j e).2⟩
    · rcases hown j (.inr (.inl e)) with h1 | h1
      · exact .inl h1
      · exact .inr ⟨h1, (hu.row.lt j e).2⟩
    · rcases hown j (.inr (.inr e)) with h1 | h1
      · exact .inl h1
      · obtain ⟨v, hv, e⟩ := e
        obtain ⟨k, hk, rfl⟩ := List.getElem_of_mem hv
        exact .inr ⟨h1, ((hu.each k (by rw [hu.len]; exact hk) hk).lt j e).2⟩
    · exact .inl (h.own j (.inr (.inr (.inr (.inr ((ownD_keep (hkd D (.inl rfl)) j).1 e))))))
  · rcases hj with h1 | h1
    · have := h.foot j h1; omega
    · have := h.below0.size; omega
/-- One more record. -/
theorem LmAt.push (h : LmAt w0 X D x o g F) {w3 : World} {v3 : Value} {a p : Nat} (hown : w3.ownsRow w0.heap.size 72 2 v3 (g.recs.length + 1) (recCells g.recs ++ [.int .i64 (a : Int), .int .i64 (p : Int)])) (hg : X.grownBy w3 o.vr.ownBlock)
    (hv : v3.ownBlock = o.vr.ownBlock ∨ v3.ownBlock = some X.heap.size) : LmAt w0 (w3.setCell ⟨o.l, 7, none⟩ v3) D x { o with vr := v3 } { g with recs := g.recs ++ [(a, p)] } (ext F X (w3.setCell ⟨o.l, 7, none⟩ v3)) ∧ Moved F X (w3.setCell ⟨o.l, 7, none⟩ v3) (ext F X (w3.setCell ⟨o.l, 7, none⟩ v3)) := by
  have hb3 : Whole w3 o.l 69 (lCells D o g) := h.blk.grown hg (fun e => own_not_whole h.recs h.blk (by decide) e.symm)
  have hG : Grew (fun j => j = o.l ∨ o.vr.ownBlock = some j ∨ o.vu.ownBlock = some j) X (w3.setCell ⟨o.l, 7, none⟩ v3) := (Grew.of_grown hg fun j e => .inl (.inr (.inl e))).setCell (a := ⟨o.l, 7, none⟩) (.inl (.inl rfl)) _
  have hkeep : ∀ j, j < X.heap.size → j ≠ o.l → some j ≠ o.vr.ownBlock → (w3.setCell ⟨o.l, 7, none⟩ v3).heap[j]? = X.heap[j]? := fun j h1 h2 h3 => (Below.heap_setCell _ _ _ _ h2).trans (hg.block j h1 h3)
  refine h.rows (o' := { o with vr := v3 }) (g' := { g with recs := g.recs ++ [(a, p)] }) rfl hG (hb3.set_ 7 v3) ?_ ?_ ?_
  · show (w3.setCell ⟨o.l, 7, none⟩ v3).ownsRow w0.heap.size 72 2 v3 (g.recs ++ [(a, p)]).length (recCells (g.recs ++ [(a, p)]))
    rw [recCells_app, List.length_append, List.length_singleton]
    exact own_set_far hown (own_not_whole hown hb3 (by decide)) _
  · refine h.uns.same fun j e => ?_
    rcases e with e | ⟨u, hu1, e⟩
    · exact hkeep j (h.uns.row.lt j e).2 (fun e2 => own_not_whole h.uns.row h.blk (by decide) (by rw [e, e2])) (fun e2 => own_not_own h.uns.row h.recs (by decide) e2.symm e)
    · obtain ⟨k, hk, rfl⟩ := List.getElem_of_mem hu1
      have hq := h.uns.each k (by rw [h.uns.len]; exact hk) hk
      exact hkeep j (hq.lt j e).2 (fun e2 => own_not_whole hq h.blk (by decide) (by rw [e, e2])) (fun e2 => own_not_own hq h.recs (by decide) e2.symm e)
  · intro j hj
    rcases hj with e | e | e
    · rcases hv with h1 | h1
      · exact .inl (h.own j (.inr (.inl (by rw [← h1]; exact e))))
      · have e' : v3.ownBlock = some j := e
        rw [h1] at e'
        injection e' with e'
        exact .inr (by omega)
    · exact .inl (h.own j (.inr (.inr (.inl e))))
    · exact .inl (h.own j (.inr (.inr (.inr (.inl e)))))
end

end Go.Proofs.YtgfoekbdmgljbaaDoor

namespace Go.Proofs.YtgfoekbdmgljbaaDoor
open Go.RowKit

theorem wcell_at {us : List Wri} {vs : List Value} (h : us.length = vs.length) {k : Nat} (hk : k < us.length) : (wcells us vs)[k * 2]? = some (.int .i64 ((us[k]).place : Int)) ∧ (wcells us vs)[k * 2 + 1]? = some (vs[k]'(by omega)) := by
  have hz : k < (us.zip vs).length := by rw [List.length_zip]; omega
  have h2 : ∀ p ∈ us.zip vs, ([.int .i64 (p.1.place : Int), p.2] : List Value).length = 2 := fun _ _ => rfl
  have e : (us.zip vs)[k] = (us[k], vs[k]'(by omega)) := List.getElem_zip
  constructor
  · exact flat_get (f := fun p : Wri × Value => ([.int .i64 (p.1.place : Int), p.2] : List Value)) h2 hz (j := 0) (by rw [e]; rfl)
  · exact flat_get (f := fun p : Wri × Value => ([.int .i64 (p.1.place : Int), p.2] : List Value)) h2 hz (j := 1) (by rw [e]; rfl)
theorem wcells_length {us : List Wri} {vs : List Value} (h : us.length = vs.length) : (wcells us vs).length = us.length * 2 := by
  unfold wcells
  rw [flat_length (f := fun p : Wri × Value => ([.int .i64 (p.1.place : Int), p.2] : List Value)) (s := 2) (fun _ _ => rfl), List.length_zip, ← h, Nat.min_self]

/-- What is told of a view. -/
def hOf : Option (SH × List UInt8) → SH
  | some p => p.1
  | none => hzero
def bOf : Option (SH × List UInt8) → List UInt8
  | some p => p.2
  | none => []
def SeenOut (w : World) (s : Option (SH × List UInt8)) (e : Ending) (w' : World) : Prop :=
  ∃ v E, e = .returned (.tuple #[(hOf s).val, v, .int .i64 E]) ∧ (E = 0 ↔ s.isSome = true) ∧ w'.ownsRow w.heap.size 5 1 v (bOf s).length ((bOf s).map bc) ∧ Below w.heap.size w w'
theorem openV_h (l : List UInt8) : hOf (openV l) = openH l ∧ bOf (openV l) = openB l ∧ (openE l = 0 ↔ (openV l).isSome = true) := by
  unfold openV
  by_cases h : openE l = 0
  · rw [if_pos h]; exact ⟨rfl, rfl, by simp [h]⟩
  · rw [if_neg h]; exact ⟨(openH_no h).symm, (openB_no h).symm, by simp [h]⟩
theorem head_info : (Tryd.prog.info? 79).map (·.size) = some 5 := by kernel_rfl
theorem bOf_small (s : Option (SH × List UInt8)) (hs : ∀ h l, s = some (h, l) → l.length ≤ 496) : (bOf s).length ≤ 496 := by
  match s, hs with
  | none, _ => exact Nat.zero_le _
  | some (h, l), hs => exact hs h l rfl

/-- What the log sees. -/
def seeL (g : Lm) (x : Dv) : View := viewU g.us (viewS x.now)
def SeekRel (g : Lm) (a : Nat) (w : World) (i : Value) (wr : World) : Prop := ∃ k : Nat, k ≤ g.us.length ∧ i = .int .i64 k ∧ (∀ j (hj : j < g.us.length), j < k → (g.us[j]).place ≠ a) ∧ Whole wr w.heap.size 79 hzero.cells ∧ Below w.heap.size w wr

section
variable {w0 w : World} {D : Nat} {x : Dv} {o : Lo} {g : Lm} {F : Nat → Prop}
set_option maxHeartbeats 1000000 in
theorem opened_any (h : LmAt w0 w D x o g F) (hd : x.down = false) (hus : g.us.length ≤ 4094) (a : Nat) (ha : a < x.sure.length) : Calls Tryd.prog 48 #[lptr o, .int .i64 (a : Int)] w (SeenOut w (seeL g x a)) := by
  have HH := Lib.hid h
  have c0 := h.c0
  have c8 := h.c8
  obtain ⟨A, c, hv, hc1, hc2⟩ := h.vu
  rw [hv] at c8
  have hown := h.uns
  rw [hv] at hown
  have HU := Lib.hid hown
  obtain ⟨n, hn⟩ : ∃ n, g.us.length = n := ⟨_, rfl⟩
  rw [hn] at c8 hc1 hus
  have HN := Lib.hid hn
  have HAx := Lib.hid (And.intro hd ha)
  have c8z := (World.cell?_alloc_lt w (.cells #[.int .i64 0, .int .i64 0, .int .i64 0, .int .i64 0, .int .i64 0] 79) ⟨o.l, 8, none⟩ HH.out.lt).trans c8
  clear h hv hown hn hd ha hc1 hc2
  have HW0 := Lib.hid (Whole.made w hzero.cells 79)
  have HB0 := Lib.hid ((Below.refl w.heap.size w).alloc (Nat.le_refl _) (.cells hzero.cells.toArray 79))
  unfold lptr
  go_enter Tryd.func48, Tryd.ntmps48
  go_wp2
  go_loopw [16] (SeekRel g a w) (fun i _ => n - (intOf i).toNat)
  case atStart => exact ⟨0, Nat.zero_le _, rfl, fun j _ hj => absurd hj (Nat.not_lt_zero _), HW0.out, HB0.out⟩
  case round =>
    obtain ⟨k, hk, rfl, hno, hw, hb⟩ := hrel
    rw [HN.out] at hk
    have HW := Lib.hid hw
    have HB := Lib.hid hb
    have HNO := Lib.hid hno
    have HHR := Lib.hid (HH.out.below hb)
    by_cases hlt : k < n
    · have d1 : decide (k < n) = true := by simp; omega
      have hki : (k : Int) < (n : Int) := by omega
      have hkl : k < g.us.length := by rw [HN.out]; exact hlt
      obtain ⟨gu, rfl⟩ := own_some HU.out.row (by omega)
      obtain ⟨q0, q1⟩ := wcell_at HU.out.len hkl
      have hlen := wcells_length HU.out.len
      have each := HU.out.each k hkl (by rw [← HU.out.len]; exact hkl)
      obtain ⟨Ak, ck, hvk, hck, _⟩ := own_form each
      rw [hvk] at q1 each
      have hgu := (HU.out.row.lt gu rfl).2
      have c8 : wr.cell? ⟨o.l, 8, none⟩ = some (.slice (some ⟨gu, 0, none⟩) n c) := (hb.cell (p := ⟨o.l, 8, none⟩) HH.out.lt).trans c8
      have p0 : wr.cell? ⟨gu, k * 2, none⟩ = some (.int .i64 ((g.us[k]).place : Int)) := (hb.cell (p := ⟨gu, k * 2, none⟩) hgu).trans ((own_cell HU.out.row (by omega)).trans (by rw [← List.getElem?_eq_getElem (by omega)]; exact q0))
      have p1 : wr.cell? ⟨gu, k * 2 + 1, none⟩ = some (.slice Ak 512 ck) := (hb.cell (p := ⟨gu, k * 2 + 1, none⟩) hgu).trans ((own_cell HU.out.row (by omega)).trans (by rw [← List.getElem?_eq_getElem (by omega)]; exact q1))
      have heach := own_keep each (w' := wr) fun j e => hb.block j (each.lt j e).2
      have hd512 : ((g.us[k]).data).length = 512 := by have := each.1; simpa using this
      obtain ⟨u, hu⟩ : ∃ u, g.us[k] = u := ⟨_, rfl⟩
      rw [hu] at p0 heach hd512
      have HE := Lib.hid heach
      have HD5 := Lib.hid hd512
      have HUU := Lib.hid hu
      clear hb hw hno each heach q0 q1 hlen hd512 hu hvk
      by_cases hpa : u.place = a
      · have d2 : ((u.place : Int) == (a : Int)) = true := by simp; omega
        have d3 : (u.place == a) = true := by simp; omega
        have d4 : decide (u.place = a) = true := by simp; omega
        have hfind : g.us.find? (fun u => decide (u.place = a)) = some u := by
          rw [← HUU.out, List.find?_eq_some_iff_getElem]
          refine ⟨by rw [HUU.out]; simpa using hpa, k, hkl, rfl, fun j hj => ?_⟩
          have := HNO.out j (by omega) hj
          simpa using this
        have hsee : seeL g x a = openV u.data := by unfold seeL viewU; rw [hfind]
        have HS := Lib.hid hsee
        have HO := Lib.hid (fun W (hb : Below wr.heap.size wr W) => open_any Ak 512 ck u.data W HD5.out ((Row.of_own HE.out).below hb |>.mono hb.size) hck ((HHR.out.below hb).varsAt).sizes)
        clear hfind hsee hpa
        go_wp2_with fail
        refine (HO.out _ ((Below.refl _ _).alloc (Nat.le_refl _) _)).mono ?_
        rintro e w1 ⟨va, rfl, hown1, hb1⟩
        have HB1 := Lib.hid (HB.out.trans (((Below.refl wr.heap.size wr).alloc (Nat.le_refl _) _).trans (hb1.mono (by simp)) |>.mono HB.out.size))
        have HW1 := Lib.hid (HW.out.below (((Below.refl wr.heap.size wr).alloc (Nat.le_refl _) _).trans (hb1.mono (by simp))) HW.out.lt)
        have HOW := Lib.hid hown1
        have HZ := Lib.hid (show w.heap.size < (wr.alloc (.cells #[.int .i64 (u.place : Int), .slice Ak 512 ck] 87)).heap.size by have := HW.out.lt; rw [World.size_alloc]; omega)
        obtain ⟨hd, hhd⟩ : ∃ hd, openH u.data = hd := ⟨_, rfl⟩
        obtain ⟨oe, hoe⟩ : ∃ oe, openE u.data = oe := ⟨_, rfl⟩
        have HHD := Lib.hid hhd
        have HOE := Lib.hid hoe
        rw [hhd, hoe]
        clear hown1 hb1 hhd hoe
        unfold SH.val
        go_wp2_with (
          refine wpList_store_at rfl 79 (.tmp 4) (.tmp 27) rfl w.heap.size 0 hd.cells rfl rfl 79 _ HW1.out (SH.fit _ _) head_info hd.one ?_
          intro V hv1 hv2 hv3
          rw [SH.splice] at hv1
          have v0 : V.cell? ⟨w.heap.size, 0, none⟩ = some (.int .i64 hd.kind) := hv1.cell 0
          have v1 : V.cell? ⟨w.heap.size, 1, none⟩ = some (.int .i64 hd.epoch) := hv1.cell 1
          have v2 : V.cell? ⟨w.heap.size, 2, none⟩ = some (.int .i64 hd.seq) := hv1.cell 2
          have v3 : V.cell? ⟨w.heap.size, 3, none⟩ = some (.int .i64 hd.part) := hv1.cell 3
          have v4 : V.cell? ⟨w.heap.size, 4, none⟩ = some (.int .i64 hd.parts) := hv1.cell 4
          have HBV := Lib.hid (HB1.out.trans (hv2.below (B := w.heap.size) (fun j hj => by omega) HB1.out.size))
          have HOV := Lib.hid (own_mono (own_grew HOW.out hv2 fun g e e2 => by have h1 := HOW.out.lt g e; have h2 := HZ.out; omega) (Nat.le_of_lt HZ.out))
          clear hv1 hv2 hv3)
        exact bodyPost_ret (v := .tuple #[hd.val, va, .int .i64 oe]) (by simp [results, Tryd.results48, go_sem, SH.val, v0, v1, v2, v3, v4]) rfl
          ⟨va, oe, by rw [HS.out, (openV_h _).1, HHD.out], by rw [HS.out, ← HOE.out]; exact (openV_h _).2.2, by rw [HS.out, (openV_h _).2.1]; exact HOV.out, HBV.out⟩
      · have d2 : ((u.place : Int) == (a : Int)) = false := by simp; omega
        have d3 : (u.place == a) = false := by simp; omega
        have d4 : decide (u.place = a) = false := by simp; omega
        have HPA := Lib.hid hpa
        clear hpa
        go_wp2
        refine ⟨⟨k + 1, by rw [HN.out]; omega, by go_num, fun j hj hjk => ?_, HW.out.alloc _, HB.out.alloc HB.out.size _⟩, by simp [intOf]; omega⟩
        by_cases e : j = k
        · subst e
          rw [HUU.out]
          exact HPA.out
        · exact HNO.out j hj (by omega)
    · obtain rfl : k = n := by omega
      have d1 : decide (k < k) = false := by simp
      have hfn : g.us.find? (fun u => decide (u.place = a)) = none := List.find?_eq_none.2 fun u hu => by
        obtain ⟨j, hj, rfl⟩ := List.getElem_of_mem hu
        have := HNO.out j hj (by rw [← HN.out]; exact hj)
        simpa using this
      have hsee : seeL g x a = secV (x.now.getD a secZero) := by unfold seeL viewU; rw [hfn]; rfl
      have hE : x.readE (a : Int) = if (x.now.getD a secZero).torn = true then 9 else 0 := by
        have h1 := HAx.out.2
        have h2 : x.has (a : Int) = true := by simp only [Dv.has, decide_eq_true_eq]; omega
        unfold Dv.readE
        rw [if_neg (by rw [HAx.out.1]; decide), h2, if_neg (by decide), Int.toNat_natCast]
      have hrd := h_read HHR.out.dev (a : Int)
      have HB9 := HB.out
      have c0 : wr.cell? ⟨o.l, 0, none⟩ = some (.pointer (some ⟨D, 0, none⟩)) := (hb.cell (p := ⟨o.l, 0, none⟩) HH.out.lt).trans c0
      cases hT : (x.now.getD a secZero).torn with
      | true =>
        have hE9 : x.readE (a : Int) = 9 := by rw [hE, if_pos hT]
        have hB0 : x.readB (a : Int) = [] := by unfold Dv.readB; rw [hE9]; rfl
        rw [hE9, hB0] at hrd
        have HRD := Lib.hid hrd
        have HS := Lib.hid (show seeL g x a = none by rw [hsee]; unfold secV; rw [if_pos hT])
        clear hfn hsee hE hrd HB9 hT hE9 hB0 hb hw hno
        go_wp2_with fail
        refine HRD.out.mono ?_
        rintro e w1 ⟨A1, k1, rfl, _, hb1, _⟩
        have HB1 := Lib.hid (HB.out.trans (hb1.mono HB.out.size))
        have HW1 := Lib.hid (HW.out.below hb1 HW.out.lt)
        clear hb1
        go_wp2_with (
          refine wpList_store_at rfl 79 (.tmp 4) (.tmp 42) rfl w.heap.size 0 hzero.cells rfl rfl 79 _ HW1.out (SH.fit _ _) head_info hzero.one ?_
          intro V hv1 hv2 hv3
          rw [SH.splice] at hv1
          have v0 : V.cell? ⟨w.heap.size, 0, none⟩ = some (.int .i64 hzero.kind) := hv1.cell 0
          have v1 : V.cell? ⟨w.heap.size, 1, none⟩ = some (.int .i64 hzero.epoch) := hv1.cell 1
          have v2 : V.cell? ⟨w.heap.size, 2, none⟩ = some (.int .i64 hzero.seq) := hv1.cell 2
          have v3 : V.cell? ⟨w.heap.size, 3, none⟩ = some (.int .i64 hzero.part) := hv1.cell 3
          have v4 : V.cell? ⟨w.heap.size, 4, none⟩ = some (.int .i64 hzero.parts) := hv1.cell 4
          have HBV := Lib.hid (HB1.out.trans (hv2.below (B := w.heap.size) (fun j hj => by omega) HB1.out.size))
          clear hv1 hv2 hv3)
        exact bodyPost_ret (v := .tuple #[hzero.val, .slice none 0 0, .int .i64 9]) (by simp [results, Tryd.results48, go_sem, SH.val, hzero, v0, v1, v2, v3, v4]) rfl
          ⟨.slice none 0 0, 9, by rw [HS.out]; rfl, by rw [HS.out]; decide, by rw [HS.out]; exact World.ownsRow_nil _ _ _ _, HBV.out⟩
      | false =>
        have hE9 : x.readE (a : Int) = 0 := by rw [hE, if_neg (by rw [hT]; decide)]
        have hB0 : x.readB (a : Int) = (x.now.getD a secZero).data := by unfold Dv.readB; rw [if_pos hE9, Int.toNat_natCast]
        rw [hE9, hB0] at hrd
        obtain ⟨ld, hld⟩ : ∃ ld, (x.now.getD a secZero).data = ld := ⟨_, rfl⟩
        have HS := Lib.hid (show seeL g x a = openV ld by rw [hsee, ← hld]; unfold secV; rw [if_neg (by rw [hT]; decide)])
        rw [hld] at hrd
        have HRD := Lib.hid hrd
        clear hfn hsee hE hrd HB9 hT hE9 hB0 hb hw hno hld
        go_wp2_with fail
        refine HRD.out.mono ?_
        rintro e w2 ⟨A1, k1, rfl, hown2, hb2, _⟩
        have HO := Lib.hid (open_any A1 ld.length k1 ld w2 rfl (Row.of_own hown2) (own_cap hown2) (HHR.out.below hb2).varsAt.sizes)
        have HB2 := Lib.hid (HB.out.trans (hb2.mono HB.out.size))
        have HW2 := Lib.hid (HW.out.below hb2 HW.out.lt)
        clear hb2 hown2
        go_wp2_with fail
        refine HO.out.mono ?_
        rintro e w1 ⟨va, rfl, hown1, hb1⟩
        have HB1 := Lib.hid (HB2.out.trans (hb1.mono HB2.out.size))
        have HW1 := Lib.hid (HW2.out.below hb1 HW2.out.lt)
        have HOW := Lib.hid hown1
        have HZ := Lib.hid (HW2.out.lt)
        obtain ⟨hd, hhd⟩ : ∃ hd, openH ld = hd := ⟨_, rfl⟩
        obtain ⟨oe, hoe⟩ : ∃ oe, openE ld = oe := ⟨_, rfl⟩
        have HHD := Lib.hid hhd
        have HOE := Lib.hid hoe
        rw [hhd, hoe]
        clear hown1 hb1 hhd hoe
        unfold SH.val
        go_wp2_with (
          refine wpList_store_at rfl 79 (.tmp 4) (.tmp 46) rfl w.heap.size 0 hd.cells rfl rfl 79 _ HW1.out (SH.fit _ _) head_info hd.one ?_
          intro V hv1 hv2 hv3
          rw [SH.splice] at hv1
          have v0 : V.cell? ⟨w.heap.size, 0, none⟩ = some (.int .i64 hd.kind) := hv1.cell 0
          have v1 : V.cell? ⟨w.heap.size, 1, none⟩ = some (.int .i64 hd.epoch) := hv1.cell 1
          have v2 : V.cell? ⟨w.heap.size, 2, none⟩ = some (.int .i64 hd.seq) := hv1.cell 2
          have v3 : V.cell? ⟨w.heap.size, 3, none⟩ = some (.int .i64 hd.part) := hv1.cell 3
          have v4 : V.cell? ⟨w.heap.size, 4, none⟩ = some (.int .i64 hd.parts) := hv1.cell 4
          have HBV := Lib.hid (HB1.out.trans (hv2.below (B := w.heap.size) (fun j hj => by omega) HB1.out.size))
          have HOV := Lib.hid (own_mono (own_grew HOW.out hv2 fun g e e2 => by have h1 := HOW.out.lt g e; have h2 := HZ.out; omega) (Nat.le_of_lt HZ.out))
          clear hv1 hv2 hv3)
        exact bodyPost_ret (v := .tuple #[hd.val, va, .int .i64 oe]) (by simp [results, Tryd.results48, go_sem, SH.val, v0, v1, v2, v3, v4]) rfl
          ⟨va, oe, by rw [HS.out, (openV_h _).1, HHD.out], by rw [HS.out, ← HOE.out]; exact (openV_h _).2.2, by rw [HS.out, (openV_h _).2.1]; exact HOV.out, HBV.out⟩
end

end Go.Proofs.YtgfoekbdmgljbaaDoor

namespace Go.Proofs.YtgfoekbdmgljbaaDoor
open Go.RowKit

theorem dv_write_cut {S : List Sec} {U : List Wri} {u : Wri} (hp : u.place < S.length) (hl : u.data.length = 512) : (Dv.mk S U 1 false).writeE (u.place : Int) u.data = 8 ∧ (Dv.mk S U 1 false).write (u.place : Int) u.data = ⟨S, U, 0, true⟩ := by
  have hh : (Dv.mk S U 1 false).has (u.place : Int) = true := by simp only [Dv.has, decide_eq_true_eq]; omega
  constructor
  · unfold Dv.writeE
    rw [if_neg (by simp), if_neg (by rw [hh, hl]; simp), if_pos (by rfl)]
  · unfold Dv.write
    rw [if_neg (by rw [hh, hl]; simp), if_pos (by rfl)]
    rfl
theorem dv_write_ok {S : List Sec} {U : List Wri} {u : Wri} {L : Nat} (hL : L ≠ 1) (hp : u.place < S.length) (hl : u.data.length = 512) : (Dv.mk S U L false).writeE (u.place : Int) u.data = 0 ∧ (Dv.mk S U L false).write (u.place : Int) u.data = ⟨S, U ++ [u], L - 1, false⟩ := by
  have hh : (Dv.mk S U L false).has (u.place : Int) = true := by simp only [Dv.has, decide_eq_true_eq]; omega
  constructor
  · unfold Dv.writeE
    rw [if_neg (by simp), if_neg (by rw [hh, hl]; simp), if_neg (by simp [Dv.lasts, hL])]
  · unfold Dv.write
    rw [if_neg (by rw [hh, hl]; simp), if_neg (by simp [Dv.lasts, hL]), padB_full hl, Int.toNat_natCast]
    unfold Dv.spent
    by_cases h0 : L = 0
    · subst h0; rfl
    · simp [h0, hL]

/-- What write leaves. -/
def LWriteOut (w0 w : World) (D : Nat) (S : List Sec) (L : Nat) (o : Lo) (g : Lm) (F : Nat → Prop) (e : Ending) (w' : World) : Prop :=
  ∃ F', Moved F w w' F' ∧ ((e = .returned (.int .i64 0) ∧ (L = 0 ∨ g.us.length < L) ∧ LmAt w0 w' D ⟨S, g.us, L - g.us.length, false⟩ o g F') ∨
    (e = .returned (.int .i64 8) ∧ L ≠ 0 ∧ ∃ k, LmAt w0 w' D ⟨S, g.us.take k, 0, true⟩ o { g with down := true } F'))
def LWriteRel (w0 w : World) (D : Nat) (S : List Sec) (L : Nat) (o : Lo) (g : Lm) (F : Nat → Prop) (i : Value) (wr : World) : Prop :=
  ∃ (k : Nat) (F' : Nat → Prop), k ≤ g.us.length ∧ i = .int .i64 k ∧ (L = 0 ∨ k < L) ∧ LmAt w0 wr D ⟨S, g.us.take k, L - k, false⟩ o g F' ∧ Moved F w wr F'
theorem not_ext {F : Nat → Prop} {w w' : World} {j : Nat} (h : ¬ F j) (hl : j < w.heap.size) : ¬ ext F w w' j := fun h2 => by
  rcases h2 with h2 | h2
  · exact h h2
  · omega

section
variable {w0 w : World} {D : Nat} {S : List Sec} {L : Nat} {o : Lo} {g : Lm} {F : Nat → Prop}
set_option maxHeartbeats 4000000 in
set_option maxRecDepth 4000 in
theorem lwrite_any (h : LmAt w0 w D ⟨S, [], L, false⟩ o g F) (hg : g.down = false) (hus : g.us.length ≤ 4094) (hok : ∀ u ∈ g.us, u.place < S.length ∧ u.data.length = 512) :
    Calls Tryd.prog 31 #[lptr o] w (LWriteOut w0 w D S L o g F) := by
  have HH := Lib.hid h
  have HG := Lib.hid hg
  have HOK := Lib.hid hok
  obtain ⟨A, c, hv, _, _⟩ := h.vu
  have c8 := h.c8
  rw [hv] at c8
  obtain ⟨n, hn⟩ : ∃ n, g.us.length = n := ⟨_, rfl⟩
  rw [hn] at c8 hus
  have HN := Lib.hid hn
  have HV := Lib.hid hv
  have HL := Lib.hid (show L = 0 ∨ 0 < L by omega)
  clear h hg hok hv hn
  unfold lptr
  go_enter Tryd.func31, Tryd.ntmps31
  go_wp2
  go_loopw [11] (LWriteRel w0 w D S L o g F) (fun i _ => n - (intOf i).toNat)
  case atStart => exact ⟨0, F, Nat.zero_le _, rfl, HL.out, HH.out, Moved.refl _ _⟩
  case round =>
    obtain ⟨k, F1, hk, rfl, hkL, hat, hmv⟩ := hrel
    rw [HN.out] at hk
    have HAT := Lib.hid hat
    have HMV := Lib.hid hmv
    have HKL := Lib.hid hkL
    have HK := Lib.hid hk
    by_cases hlt : k < n
    · have d1 : decide (k < n) = true := by simp; omega
      have hki : (k : Int) < (n : Int) := by omega
      have hkl : k < g.us.length := by rw [HN.out]; exact hlt
      have huns := hat.uns
      rw [HV.out] at huns
      obtain ⟨gu, rfl⟩ := own_some huns.row (by omega)
      obtain ⟨q0, q1⟩ := wcell_at huns.len hkl
      have hlen := wcells_length huns.len
      have each := huns.each k hkl (by rw [← huns.len]; exact hkl)
      obtain ⟨Ak, ck, hvk, hck, _⟩ := own_form each
      rw [hvk] at q1 each
      have p0 : wr.cell? ⟨gu, k * 2, none⟩ = some (.int .i64 ((g.us[k]).place : Int)) := (own_cell huns.row (by omega)).trans (by rw [← List.getElem?_eq_getElem (by omega)]; exact q0)
      have p1 : wr.cell? ⟨gu, k * 2 + 1, none⟩ = some (.slice Ak 512 ck) := (own_cell huns.row (by omega)).trans (by rw [← List.getElem?_eq_getElem (by omega)]; exact q1)
      obtain ⟨u, hu⟩ : ∃ u, g.us[k] = u := ⟨_, rfl⟩
      rw [hu] at p0 each
      obtain ⟨hup, hul⟩ := HOK.out u (by rw [← hu]; exact List.getElem_mem hkl)
      have hsnoc : g.us.take (k + 1) = g.us.take k ++ [u] := by rw [List.take_succ_eq_append_getElem hkl, hu]
      have HSN := Lib.hid hsnoc
      have HEA := Lib.hid each
      have HUL := Lib.hid (And.intro hup hul)
      clear q0 q1 hlen each hu hup hul hsnoc huns hvk hck hkL hat hmv hkl hk
      go_upto_region 4 with fail
      generalize hW : wr.alloc (Obj.cells #[.int .i64 (u.place : Int), .slice Ak 512 ck] 87) = W
      have hbW : Below wr.heap.size wr W := by rw [← hW]; exact (Below.refl _ _).alloc (Nat.le_refl _) _
      have hwl : Whole W wr.heap.size 87 [.int .i64 (u.place : Int), .slice Ak 512 ck] := by rw [← hW]; exact Whole.made _ _ _
      have hLW := HAT.out.below hbW
      have c0 := hLW.c0
      have m0 : W.cell? ⟨wr.heap.size, 0, none⟩ = some (.int .i64 (u.place : Int)) := hwl.cell 0
      have m1 : W.cell? ⟨wr.heap.size, 1, none⟩ = some (.slice Ak 512 ck) := hwl.cell 1
      have HLW := Lib.hid hLW
      have HWL := Lib.hid hwl
      have HBW := Lib.hid hbW
      have HNF := Lib.hid (show ¬ F1 wr.heap.size from fun hf => by have := (HAT.out.foot _ hf).2; omega)
      have hLD := hLW.below (Below.refl W.heap.size W).drew
      have hba : BytesAt W.drew Ak u.data := BytesAt.own (own_keep HEA.out (w' := W.drew) fun j e => hbW.block j (HEA.out.lt j e).2)
      have hcall := e_write hLD.dev (u.place : Int) Ak ck u.data (by rw [HUL.out.2]; decide) hba (by show (g.us.take k).length < 4294967296; rw [List.length_take]; omega)
      rw [HUL.out.2] at hcall
      have hdv : (L - k = 1 ∧ (Dv.mk S (g.us.take k) (L - k) false).writeE (u.place : Int) u.data = 8 ∧ (Dv.mk S (g.us.take k) (L - k) false).write (u.place : Int) u.data = ⟨S, g.us.take k, 0, true⟩) ∨ (L - k ≠ 1 ∧ (Dv.mk S (g.us.take k) (L - k) false).writeE (u.place : Int) u.data = 0 ∧ (Dv.mk S (g.us.take k) (L - k) false).write (u.place : Int) u.data = ⟨S, g.us.take (k + 1), L - (k + 1), false⟩) := by
        by_cases h1 : L - k = 1
        · left
          rw [h1]
          exact ⟨rfl, dv_write_cut HUL.out.1 HUL.out.2⟩
        · right
          obtain ⟨e1, e2⟩ := dv_write_ok (U := g.us.take k) h1 HUL.out.1 HUL.out.2
          refine ⟨h1, e1, ?_⟩
          rw [e2, HSN.out]
          congr 1
      clear hW hbW hwl hLW hba hLD
      rcases hdv with ⟨h1, hE, hx⟩ | ⟨h1, hE, hx⟩
      · rw [hE, hx] at hcall
        have HC := Lib.hid hcall
        have HX := Lib.hid (show L ≠ 0 by omega)
        clear hcall hE hx h1
        go_region_held3 (fun X => X.cell? ⟨o.l, 0, none⟩ = some (.pointer (some ⟨D, 0, none⟩)) ∧ X.cell? ⟨wr.heap.size, 0, none⟩ = some (.int .i64 (u.place : Int)) ∧ X.cell? ⟨wr.heap.size, 1, none⟩ = some (.slice Ak 512 ck))
          (go_keep)
          ((first
            | (go_at_call 45
               refine HC.out.mono ?_
               rintro e w1 ⟨rfl, hh1, hk1⟩
               have hst := (HLW.out.below (Below.refl W.heap.size W).drew).stepE hk1 hh1
               have hw1 := hk1.whole (show Whole W.drew wr.heap.size 87 [.int .i64 (u.place : Int), .slice Ak 512 ck] from HWL.out) wri_not
               have c0 := hst.1.c0
               have m0 : w1.cell? ⟨wr.heap.size, 0, none⟩ = some (.int .i64 (u.place : Int)) := hw1.cell 0
               have m1 : w1.cell? ⟨wr.heap.size, 1, none⟩ = some (.slice Ak 512 ck) := hw1.cell 1
               have HA1 := Lib.hid hst.1
               have HM1 := Lib.hid hst.2
               have HW1 := Lib.hid hw1
               have HNO := Lib.hid (note_any hst.1 8)
               have HZ1 := Lib.hid (show wr.heap.size < W.drew.heap.size from HWL.out.lt)
               clear hst hw1 hh1 hk1)
            | (go_at_call 32
               refine HNO.out.mono ?_
               rintro e w2 ⟨rfl, ha2, hm2, _⟩
               have c0 := ha2.c0
               have hw2 := hm2.whole HW1.out (not_ext HNF.out HZ1.out)
               have m0 : w2.cell? ⟨wr.heap.size, 0, none⟩ = some (.int .i64 (u.place : Int)) := hw2.cell 0
               have m1 : w2.cell? ⟨wr.heap.size, 1, none⟩ = some (.slice Ak 512 ck) := hw2.cell 1
               have HA2 := Lib.hid ha2
               have HM2 := Lib.hid hm2
               clear ha2 hm2 hw2)))
        go_wp2
        go_ret
        refine ⟨_, (HMV.out.trans (Moved.of_below HBW.out.drew)).trans (HM1.out.trans HM2.out), .inr ⟨rfl, HX.out, k, ?_⟩⟩
        have h9 := HA2.out
        rw [show (g.down || ((8 : Int) == 8)) = true from Bool.or_true _] at h9
        exact h9
      · rw [hE, hx] at hcall
        have HC := Lib.hid hcall
        have HX := Lib.hid (show L = 0 ∨ k + 1 < L by have := HKL.out; omega)
        clear hcall hE hx h1
        go_region_held3 (fun X => X.cell? ⟨o.l, 0, none⟩ = some (.pointer (some ⟨D, 0, none⟩)) ∧ X.cell? ⟨wr.heap.size, 0, none⟩ = some (.int .i64 (u.place : Int)) ∧ X.cell? ⟨wr.heap.size, 1, none⟩ = some (.slice Ak 512 ck))
          (go_keep)
          ((first
            | (go_at_call 45
               refine HC.out.mono ?_
               rintro e w1 ⟨rfl, hh1, hk1⟩
               have hst := (HLW.out.below (Below.refl W.heap.size W).drew).stepE hk1 hh1
               have hw1 := hk1.whole (show Whole W.drew wr.heap.size 87 [.int .i64 (u.place : Int), .slice Ak 512 ck] from HWL.out) wri_not
               have c0 := hst.1.c0
               have m0 : w1.cell? ⟨wr.heap.size, 0, none⟩ = some (.int .i64 (u.place : Int)) := hw1.cell 0
               have m1 : w1.cell? ⟨wr.heap.size, 1, none⟩ = some (.slice Ak 512 ck) := hw1.cell 1
               have HA1 := Lib.hid hst.1
               have HM1 := Lib.hid hst.2
               have HW1 := Lib.hid hw1
               have HNO := Lib.hid (note_any hst.1 0)
               have HZ1 := Lib.hid (show wr.heap.size < W.drew.heap.size from HWL.out.lt)
               clear hst hw1 hh1 hk1)
            | (go_at_call 32
               refine HNO.out.mono ?_
               rintro e w2 ⟨rfl, ha2, hm2, _⟩
               have c0 := ha2.c0
               have hw2 := hm2.whole HW1.out (not_ext HNF.out HZ1.out)
               have m0 : w2.cell? ⟨wr.heap.size, 0, none⟩ = some (.int .i64 (u.place : Int)) := hw2.cell 0
               have m1 : w2.cell? ⟨wr.heap.size, 1, none⟩ = some (.slice Ak 512 ck) := hw2.cell 1
               have HA2 := Lib.hid ha2
               have HM2 := Lib.hid hm2
               clear ha2 hm2 hw2)))
        go_wp2
        refine ⟨⟨k + 1, _, by rw [HN.out]; omega, by go_num, HX.out, ?_, (HMV.out.trans (Moved.of_below HBW.out.drew)).trans (HM1.out.trans HM2.out)⟩, by simp [intOf]; omega⟩
        have h9 := HA2.out
        rw [show (g.down || ((0 : Int) == 8)) = g.down from Bool.or_false _] at h9
        exact h9
    · obtain rfl : k = n := by omega
      have d1 : decide (k < k) = false := by simp
      clear hat hmv hlt hk
      go_wp2
      go_ret
      refine ⟨F1, HMV.out, .inl ⟨rfl, by rw [HN.out]; exact HKL.out, ?_⟩⟩
      have h9 := HAT.out
      rw [← HN.out, List.take_length] at h9
      exact h9
end

end Go.Proofs.YtgfoekbdmgljbaaDoor

namespace Go.Proofs.YtgfoekbdmgljbaaDoor
open Go.RowKit

/-- What save leaves. -/
def LSaveOut (w0 w : World) (D : Nat) (x : Dv) (b : Blk) (o : Lo) (g : Lm) (F : Nat → Prop) (e : Ending) (w' : World) : Prop :=
  e = .returned (.int .i64 (x.saveE b)) ∧ ∃ F', Moved F w w' F' ∧ ((x.saveE b = 0 ∧ LmAt w0 w' D (x.save b) { o with vu := .slice none 0 0, vs := [] } { g with block := b, us := [] } F') ∨
    (x.saveE b ≠ 0 ∧ LmAt w0 w' D (x.save b) o { g with down := g.down || (x.saveE b == 8) } F'))
section
variable {w0 w : World} {D : Nat} {x : Dv} {o : Lo} {g : Lm} {F : Nat → Prop}
set_option maxHeartbeats 4000000 in
set_option maxRecDepth 4000 in
theorem lsave_any (h : LmAt w0 w D x o g F) (b : Blk) (hf : b.fits = true) (hu : x.uns.length < 4294967295) : Calls Tryd.prog 26 #[lptr o, b.val] w (LSaveOut w0 w D x b o g F) := by
  have hbW : Below w.heap.size w (w.alloc (.cells b.cells.toArray 63)) := (Below.refl _ _).alloc (Nat.le_refl _) _
  have hLW := h.below hbW
  have hwl : Whole (w.alloc (.cells b.cells.toArray 63)) w.heap.size 63 b.cells := Whole.made _ _ _
  have hLD := hLW.below (Below.refl _ _).drew
  have hcall := saved_any hLD.dev h.vars b hf hu
  obtain ⟨E, hE⟩ : ∃ E, x.saveE b = E := ⟨_, rfl⟩
  rw [hE] at hcall
  have HLD := Lib.hid hLD
  have HC := Lib.hid hcall
  have HEE := Lib.hid hE
  have HNF := Lib.hid (show ¬ F w.heap.size from fun hf => by have := (h.foot _ hf).2; omega)
  have HBW := Lib.hid hbW.drew
  have c0 := hLW.c0
  have HWL := Lib.hid (show Whole (w.alloc (.cells b.cells.toArray 63)).drew w.heap.size 63 b.cells from hwl)
  have HZ1 := Lib.hid (show w.heap.size < (w.alloc (.cells b.cells.toArray 63)).drew.heap.size from hwl.lt)
  have m0 : (w.alloc (.cells #[.int .i64 b.gen, .int .i64 b.epoch, .int .i64 b.first, .int .i64 b.begun, .int .i64 b.count] 63)).cell? ⟨w.heap.size, 0, none⟩ = some (.int .i64 b.gen) := hwl.cell 0
  have m1 : (w.alloc (.cells #[.int .i64 b.gen, .int .i64 b.epoch, .int .i64 b.first, .int .i64 b.begun, .int .i64 b.count] 63)).cell? ⟨w.heap.size, 1, none⟩ = some (.int .i64 b.epoch) := hwl.cell 1
  have m2 : (w.alloc (.cells #[.int .i64 b.gen, .int .i64 b.epoch, .int .i64 b.first, .int .i64 b.begun, .int .i64 b.count] 63)).cell? ⟨w.heap.size, 2, none⟩ = some (.int .i64 b.first) := hwl.cell 2
  have m3 : (w.alloc (.cells #[.int .i64 b.gen, .int .i64 b.epoch, .int .i64 b.first, .int .i64 b.begun, .int .i64 b.count] 63)).cell? ⟨w.heap.size, 3, none⟩ = some (.int .i64 b.begun) := hwl.cell 3
  have m4 : (w.alloc (.cells #[.int .i64 b.gen, .int .i64 b.epoch, .int .i64 b.first, .int .i64 b.begun, .int .i64 b.count] 63)).cell? ⟨w.heap.size, 4, none⟩ = some (.int .i64 b.count) := hwl.cell 4
  have c0a : (w.alloc (.cells #[.int .i64 b.gen, .int .i64 b.epoch, .int .i64 b.first, .int .i64 b.begun, .int .i64 b.count] 63)).cell? ⟨o.l, 0, none⟩ = some (.pointer (some ⟨D, 0, none⟩)) := c0
  clear h hbW hLW hwl hLD hcall hE hf hu c0
  unfold lptr Blk.val
  unfold Blk.val at HC
  go_enter Tryd.func26, Tryd.ntmps26
  go_wp2
  go_region_held3 (fun X => X.cell? ⟨o.l, 0, none⟩ = some (.pointer (some ⟨D, 0, none⟩)) ∧ X.cell? ⟨w.heap.size, 0, none⟩ = some (.int .i64 b.gen) ∧ X.cell? ⟨w.heap.size, 1, none⟩ = some (.int .i64 b.epoch) ∧ X.cell? ⟨w.heap.size, 2, none⟩ = some (.int .i64 b.first) ∧ X.cell? ⟨w.heap.size, 3, none⟩ = some (.int .i64 b.begun) ∧ X.cell? ⟨w.heap.size, 4, none⟩ = some (.int .i64 b.count))
    (go_keep)
    ((first
      | (go_at_call 41
         refine HC.out.mono ?_
         rintro e w1 ⟨rfl, hh1, hk1⟩
         have hst := HLD.out.stepE hk1 hh1
         have hw1 := hk1.whole HWL.out blk_notD
         have c0 := hst.1.c0
         have m0 : w1.cell? ⟨w.heap.size, 0, none⟩ = some (.int .i64 b.gen) := hw1.cell 0
         have m1 : w1.cell? ⟨w.heap.size, 1, none⟩ = some (.int .i64 b.epoch) := hw1.cell 1
         have m2 : w1.cell? ⟨w.heap.size, 2, none⟩ = some (.int .i64 b.first) := hw1.cell 2
         have m3 : w1.cell? ⟨w.heap.size, 3, none⟩ = some (.int .i64 b.begun) := hw1.cell 3
         have m4 : w1.cell? ⟨w.heap.size, 4, none⟩ = some (.int .i64 b.count) := hw1.cell 4
         have HA1 := Lib.hid hst.1
         have HM1 := Lib.hid hst.2
         have HW1 := Lib.hid hw1
         have HNO := Lib.hid (note_any hst.1 E)
         clear hst hw1 hh1 hk1)
      | (go_at_call 32
         refine HNO.out.mono ?_
         rintro e w2 ⟨rfl, ha2, hm2, _⟩
         have c0 := ha2.c0
         have hw2 := hm2.whole HW1.out (not_ext HNF.out HZ1.out)
         have m0 : w2.cell? ⟨w.heap.size, 0, none⟩ = some (.int .i64 b.gen) := hw2.cell 0
         have m1 : w2.cell? ⟨w.heap.size, 1, none⟩ = some (.int .i64 b.epoch) := hw2.cell 1
         have m2 : w2.cell? ⟨w.heap.size, 2, none⟩ = some (.int .i64 b.first) := hw2.cell 2
         have m3 : w2.cell? ⟨w.heap.size, 3, none⟩ = some (.int .i64 b.begun) := hw2.cell 3
         have m4 : w2.cell? ⟨w.heap.size, 4, none⟩ = some (.int .i64 b.count) := hw2.cell 4
         have HA2 := Lib.hid ha2
         have HM2 := Lib.hid hm2
         clear ha2 hm2 hw2)))
  by_cases hE0 : E = 0
  · subst hE0
    have h9 := HA2.out
    rw [show (g.down || ((0 : Int) == 8)) = g.down from Bool.or_false _] at h9
    have k2 := h9.blk.cell 2
    have k3 := h9.c3
    have k4 := h9.c4
    have k5 := h9.c5
    have k6 := h9.c6
    have k8 := h9.c8
    have z2 := h9.blk.frozen 2
    have z3 := h9.blk.frozen 3
    have z4 := h9.blk.frozen 4
    have z5 := h9.blk.frozen 5
    have z6 := h9.blk.frozen 6
    have z8 := h9.blk.frozen 8
    have k2' : w2.cell? ⟨o.l, 2, none⟩ = some (.int .i64 g.block.gen) := k2
    have H9 := Lib.hid h9
    have hset := h9.set_ (o' := { o with vu := .slice none 0 0, vs := [] }) (g' := { g with block := b, us := [] }) rfl
      ((((((h9.blk.set_ 2 (.int .i64 b.gen)).set_ 3 (.int .i64 b.epoch)).set_ 4 (.int .i64 b.first)).set_ 5 (.int .i64 b.begun)).set_ 6 (.int .i64 b.count)).set_ 8 (.slice none 0 0))
      ((((((Grew.refl (fun j => j = o.l) w2).setCell (a := ⟨o.l, 2, none⟩) (.inl rfl) _).setCell (a := ⟨o.l, 3, none⟩) (.inl rfl) _).setCell (a := ⟨o.l, 4, none⟩) (.inl rfl) _).setCell (a := ⟨o.l, 5, none⟩) (.inl rfl) _).setCell (a := ⟨o.l, 6, none⟩) (.inl rfl) _ |>.setCell (a := ⟨o.l, 8, none⟩) (.inl rfl) _)
      h9.recs (UnsAt.nil _ _) (fun j e => h9.own j (by
        rcases e with e | e | ⟨v, hv, e⟩
        · exact .inr (.inl e)
        · cases e
        · cases hv))
    have HS := Lib.hid hset
    obtain ⟨va, hva⟩ : ∃ va, o.vu = va := ⟨_, rfl⟩
    rw [hva] at k8
    clear h9 hset k2 hva
    go_wp2
    go_ret
    exact ⟨by rw [HEE.out]; rfl, _, ((Moved.of_below HBW.out).trans (HM1.out.trans HM2.out)).trans HS.out.2, .inl ⟨HEE.out, HS.out.1⟩⟩
  · have d1 : (E != 0) = true := by rw [bne_iff_ne]; exact hE0
    have HE0 := Lib.hid hE0
    clear hE0
    go_wp2
    go_ret
    refine ⟨by rw [HEE.out]; rfl, _, (Moved.of_below HBW.out).trans (HM1.out.trans HM2.out), .inr ⟨by rw [HEE.out]; exact HE0.out, ?_⟩⟩
    rw [HEE.out]
    exact HA2.out
end

end Go.Proofs.YtgfoekbdmgljbaaDoor

namespace Go.Proofs.YtgfoekbdmgljbaaDoor
open Go.RowKit

/-- The sectors when all that waits is sure. -/
def sureS (S : List Sec) (us : List Wri) : List Sec := crashN allOnes 0 us S us.length
theorem dv_sync {S : List Sec} {U : List Wri} {L : Nat} : (L = 1 ∧ (Dv.mk S U L false).syncE = 8 ∧ (Dv.mk S U L false).sync = ⟨S, U, 0, true⟩) ∨ (L ≠ 1 ∧ (Dv.mk S U L false).syncE = 0 ∧ (Dv.mk S U L false).sync = ⟨sureS S U, [], L - 1, false⟩) := by
  by_cases h : L = 1
  · left
    subst h
    exact ⟨rfl, (sync_cut U).2, (sync_cut U).1⟩
  · right
    refine ⟨h, ?_, ?_⟩
    · unfold Dv.syncE
      rw [if_neg (by simp [Dv.lasts, h])]
    · unfold Dv.sync
      rw [if_neg (by simp), if_neg (by simp [Dv.lasts, h])]
      unfold Dv.spent
      by_cases h0 : L = 0
      · subst h0; rfl
      · simp [h0, h, Dv.settled, sureS]
def LSyncOut (w0 w : World) (D : Nat) (S : List Sec) (L : Nat) (o : Lo) (g : Lm) (F : Nat → Prop) (e : Ending) (w' : World) : Prop :=
  ∃ F', Moved F w w' F' ∧ ((e = .returned (.int .i64 0) ∧ ∃ L' o', (L = 0 → L' = 0) ∧ o'.l = o.l ∧ LmAt w0 w' D ⟨sureS S g.us, [], L', false⟩ o' { g with us := [] } F') ∨
    (e = .returned (.int .i64 8) ∧ L ≠ 0 ∧ ∃ k, LmAt w0 w' D ⟨S, g.us.take k, 0, true⟩ o { g with down := true } F'))
section
variable {w0 w : World} {D : Nat} {S : List Sec} {L : Nat} {o : Lo} {g : Lm} {F : Nat → Prop}
set_option maxHeartbeats 1000000 in
theorem lsync_down {x : Dv} (h : LmAt w0 w D x o g F) (hg : g.down = true) : Calls Tryd.prog 12 #[lptr o] w (fun r w' => r = .returned (.int .i64 8) ∧ LmAt w0 w' D x o g F ∧ Moved F w w' F) := by
  have HR := Lib.hid (ready_down h hg)
  clear h hg
  unfold lptr at HR ⊢
  go_enter Tryd.func12, Tryd.ntmps12
  go_wp2_with fail
  refine HR.out.mono ?_
  rintro e w1 ⟨rfl, ha, hm⟩
  have HA := Lib.hid ha
  have HM := Lib.hid hm
  clear ha hm
  go_wp2
  go_ret
  exact ⟨rfl, HA.out, HM.out⟩
set_option maxHeartbeats 4000000 in
set_option maxRecDepth 4000 in
theorem lsync_any (h : LmAt w0 w D ⟨S, [], L, false⟩ o g F) (hg : g.down = false) (hus : g.us.length ≤ 4094) (hok : ∀ u ∈ g.us, u.place < S.length ∧ u.data.length = 512) :
    Calls Tryd.prog 12 #[lptr o] w (LSyncOut w0 w D S L o g F) := by
  have HR := Lib.hid (ready_ok h hg rfl)
  have HW := Lib.hid (lwrite_any h hg hus hok)
  have HU := Lib.hid hus
  clear h hg hus hok
  unfold lptr at HR HW ⊢
  go_enter Tryd.func12, Tryd.ntmps12
  go_wp2_with fail
  refine HR.out.mono ?_
  rintro e w1 ⟨rfl, rfl⟩
  go_wp2_with fail
  refine HW.out.mono ?_
  rintro e w1 ⟨F1, hm1, ⟨rfl, hL1, ha1⟩ | ⟨rfl, hL1, k, ha1⟩⟩
  · have HA1 := Lib.hid ha1
    have HM1 := Lib.hid hm1
    have c0 := ha1.c0
    have hc := e_sync ha1.dev (by show g.us.length < 4294967296; have := HU.out; omega)
    have hd := dv_sync (S := S) (U := g.us) (L := L - g.us.length)
    have HL1 := Lib.hid hL1
    clear ha1 hm1 hL1
    rcases hd with ⟨h1, hE, hx⟩ | ⟨h1, hE, hx⟩
    · rw [hE, hx] at hc
      have HC := Lib.hid hc
      have HX := Lib.hid (show L ≠ 0 by omega)
      clear hc hE hx h1
      go_wp2_with fail
      refine HC.out.mono ?_
      rintro e w2 ⟨rfl, hh2, hk2⟩
      have hst := HA1.out.stepE hk2 hh2
      have HM2 := Lib.hid hst.2
      have hno := note_any hst.1 8
      unfold lptr at hno
      have HNO := Lib.hid hno
      clear hst hh2 hk2 hno
      go_wp2_with fail
      refine HNO.out.mono ?_
      rintro e w3 ⟨rfl, ha3, hm3, _⟩
      have HA3 := Lib.hid ha3
      have HM3 := Lib.hid hm3
      clear ha3 hm3
      go_wp2
      go_ret
      refine ⟨_, HM1.out.trans (HM2.out.trans HM3.out), .inr ⟨rfl, HX.out, g.us.length, ?_⟩⟩
      have h9 := HA3.out
      rw [show (g.down || ((8 : Int) == 8)) = true from Bool.or_true _] at h9
      rw [List.take_length]
      exact h9
    · rw [hE, hx] at hc
      have HC := Lib.hid hc
      clear hc hE hx h1
      go_wp2_with fail
      refine HC.out.mono ?_
      rintro e w2 ⟨rfl, hh2, hk2⟩
      have hst := HA1.out.stepE hk2 hh2
      have HM2 := Lib.hid hst.2
      have hno := note_any hst.1 0
      unfold lptr at hno
      have HNO := Lib.hid hno
      clear hst hh2 hk2 hno
      go_wp2_with fail
      refine HNO.out.mono ?_
      rintro e w3 ⟨rfl, ha3, hm3, _⟩
      rw [show (g.down || ((0 : Int) == 8)) = g.down from Bool.or_false _] at ha3
      have HM3 := Lib.hid hm3
      have k8 := ha3.c8
      have z8 := ha3.blk.frozen 8
      have hset := ha3.set_ (o' := { o with vu := .slice none 0 0, vs := [] }) (g' := { g with us := [] }) rfl
        (ha3.blk.set_ 8 (.slice none 0 0)) (Grew.setCell (Grew.refl (fun j => j = o.l) w3) (a := ⟨o.l, 8, none⟩) (.inl rfl) _) ha3.recs (UnsAt.nil _ _) (fun j e => ha3.own j (by
          rcases e with e | e | ⟨v, hv, e⟩
          · exact .inr (.inl e)
          · cases e
          · cases hv))
      have HS := Lib.hid hset
      obtain ⟨va, hva⟩ : ∃ va, o.vu = va := ⟨_, rfl⟩
      rw [hva] at k8
      clear ha3 hm3 hset hva
      go_wp2
      go_ret
      exact ⟨_, (HM1.out.trans (HM2.out.trans HM3.out)).trans HS.out.2, .inl ⟨rfl, _, { o with vu := .slice none 0 0, vs := [] }, by omega, rfl, HS.out.1⟩⟩
  · have HA1 := Lib.hid ha1
    have HM1 := Lib.hid hm1
    have HX := Lib.hid hL1
    clear ha1 hm1 hL1
    go_wp2
    go_ret
    exact ⟨F1, HM1.out, .inr ⟨rfl, HX.out, k, HA1.out⟩⟩
end

end Go.Proofs.YtgfoekbdmgljbaaDoor

namespace Go.Proofs.YtgfoekbdmgljbaaDoor
open Go.RowKit

theorem sureS_nil (S : List Sec) : sureS S [] = S := rfl
theorem length_sureS (S : List Sec) (U : List Wri) : (sureS S U).length = S.length := length_crashN _
section
variable {S : List Sec} {U : List Wri} {o : Option Blk} {b : Blk} {k : Nat}
/-- Save, over what waits: all of it is sure first. -/
theorem save_uns (hl : 2 ≤ S.length) (hn : Next o b k) (hf : b.fits = true) (hnow : loadS (Dv.mk S U 0 false).now = o) (L : Nat) :
    ((Dv.mk S U L false).saveE b = 0 ∧ ∃ L', (L = 0 → L' = 0) ∧ (Dv.mk S U L false).save b = ⟨(sureS S U).set k ⟨b.sec, false⟩, [], L', false⟩) ∨
    ((Dv.mk S U L false).saveE b = 8 ∧ L ≠ 0 ∧ ((Dv.mk S U L false).save b = ⟨S, U, 0, true⟩ ∨ (Dv.mk S U L false).save b = ⟨sureS S U, [], 0, true⟩ ∨ (Dv.mk S U L false).save b = ⟨sureS S U, [⟨k, b.sec⟩], 0, true⟩)) := by
  have hno : (Dv.mk S U L false).saveNo b = 0 := by
    have h1 : loadS (Dv.mk S U L false).now = o := hnow
    unfold Dv.saveNo
    rw [if_neg (by show ¬ S.length < 2; omega), if_neg (by simp), h1, if_neg (by rw [hf, hn.1]; simp)]
  have hlT : 2 ≤ (sureS S U).length := by rw [length_sureS]; exact hl
  rcases dv_sync (S := S) (U := U) (L := L) with ⟨h1, hE, hx⟩ | ⟨h1, hE, hx⟩
  · right
    refine ⟨?_, by omega, .inl ?_⟩
    · unfold Dv.saveE
      rw [hno, hE]
      simp
    · unfold Dv.save Dv.put1
      rw [hno, hE, hx]
      simp
  · by_cases h2 : L - 1 = 1
    · right
      have s2 := write_cut hlT hn
      have p2 : (Dv.mk S U L false).put2 b = ⟨sureS S U, [], 0, true⟩ := by unfold Dv.put2; rw [hx, h2]; exact s2.1
      have p2E : (Dv.mk S U L false).put2E b = 8 := by unfold Dv.put2E; rw [hx, h2]; exact s2.2
      refine ⟨?_, by omega, .inr (.inl ?_)⟩
      · unfold Dv.saveE
        rw [hno, hE, p2E]
        simp
      · unfold Dv.save
        rw [hno, hE, p2E, p2]
        simp
    · have s2 := write_to hlT hn (L - 1) h2
      have p2E : (Dv.mk S U L false).put2E b = 0 := by unfold Dv.put2E; rw [hx]; exact s2.2
      obtain ⟨M, hM⟩ : ∃ M, (if L - 1 = 0 then 0 else L - 1 - 1) = M := ⟨_, rfl⟩
      rw [hM] at s2
      by_cases h3 : M = 1
      · right
        have s3 := sync_cut (S := sureS S U) [⟨k, b.sec⟩]
        have p3 : (Dv.mk S U L false).put3 b = ⟨sureS S U, [⟨k, b.sec⟩], 0, true⟩ := by unfold Dv.put3; rw [hx, s2.1, h3]; exact s3.1
        have p3E : (Dv.mk S U L false).put3E b = 8 := by unfold Dv.put3E; rw [hx, s2.1, h3]; exact s3.2
        refine ⟨?_, fun h0 => ?_, .inr (.inr ?_)⟩
        · unfold Dv.saveE
          rw [hno, hE, p2E, p3E]
          simp
        · subst h0
          simp at hM
          omega
        · unfold Dv.save
          rw [hno, hE, p2E, p3]
          simp
      · left
        have s3 := sync_one (S := sureS S U) (k := k) b.sec M h3
        have p3 : (Dv.mk S U L false).put3 b = ⟨(sureS S U).set k ⟨b.sec, false⟩, [], (if M = 0 then 0 else M - 1), false⟩ := by unfold Dv.put3; rw [hx, s2.1]; exact s3.1
        have p3E : (Dv.mk S U L false).put3E b = 0 := by unfold Dv.put3E; rw [hx, s2.1]; exact s3.2
        refine ⟨?_, (if M = 0 then 0 else M - 1), fun h0 => ?_, ?_⟩
        · unfold Dv.saveE
          rw [hno, hE, p2E, p3E]
          simp
        · subst h0
          simp at hM
          subst hM
          rfl
        · unfold Dv.save
          rw [hno, hE, p2E, p3]
          simp
end

theorem nextB (gen E first from_ cnt E' first' from' cnt' : Nat) : ∃ q : Nat, q < 2 ∧ ((gen + 1 : Nat) : Int) % 2 = (q : Int) ∧ Next (some (mkB gen E first from_ cnt)) (mkB (gen + 1) E' first' from' cnt') q := by
  refine ⟨(gen + 1) % 2, by omega, by omega, ?_, by omega, ?_⟩
  · show ((gen + 1 : Nat) : Int) = (gen : Int) + 1
    omega
  · show ((gen + 1 : Nat) : Int) % 2 = _
    omega
section
variable {S : List Sec} {M : Lg} {gen from_ cnt : Nat} {es : List Nat} {U : List Wri}
theorem Live.nowInv (h : Live S M gen from_ cnt es) (hU : ∀ u ∈ U, u ∈ unsW M.places from_ M.first M.epoch M.sure M.recs) (L : Nat) (d : Bool) : Inv (Dv.mk S U L d).now (some (mkB gen M.epoch M.first from_ cnt)) := by
  have far : ∀ i, i < 2 → (Dv.mk S U L d).now.getD i secZero = S.getD i secZero := fun i hi => by
    rw [List.getD_eq_getElem?_getD, List.getD_eq_getElem?_getD]
    show (nowN U S U.length)[i]?.getD secZero = _
    rw [nowN_far U.length fun j u _ hu e => by
      obtain ⟨j', i', _, _, _, h4, _⟩ := h.write (hU u (List.mem_of_getElem? hu))
      have := arN_ge M.places (from_ + offN M.recs j' + i')
      omega]
  exact h.inv.congr (far 0 (by decide)) (far 1 (by decide))
/-- What may be opened where a Drop was cut off. -/
theorem Live.cutDrop (h : Live S M gen from_ cnt es) (hU : U = unsW M.places from_ M.first M.epoch M.sure M.recs) {k : Nat} (hk : k ≤ M.recs.length) (hu : M.used < maxUsed) {q : Nat} (hq : ((gen + 1 : Nat) : Int) % 2 = (q : Int)) (hq2 : q < 2)
    {M' : Lg} (hs : SameLg M M') (hsu : M'.sure ≤ M.sure) (hd : M'.drop = some (M.first + k)) (hus : M'.used = M.used + 1) {x' : Dv} (hx : x' = ⟨S, U, 0, true⟩ ∨ x' = ⟨sureS S U, [], 0, true⟩ ∨ x' = ⟨sureS S U, [⟨q, (mkB (gen + 1) M.epoch (M.first + k) (dropFrom M.places from_ M.recs k) (M.recs.length - k)).sec⟩], 0, true⟩) (m t : Nat) : Opens (x'.crash m t).sure M' := by
  have hu4 : M'.used ≤ maxUsed := by unfold maxUsed at hu ⊢; omega
  have hu3 : M.used ≤ M'.used := by omega
  obtain ⟨es', hy⟩ := h.synced hU
  have hy : Live (sureS S U) { M with sure := M.recs.length } gen from_ cnt es' := hy
  have hs2 : SameLg { M with sure := M.recs.length } M' := ⟨hs.first, hs.recs, hs.places, hs.epoch⟩
  have hsu2 : M'.sure ≤ M.recs.length := Nat.le_trans hsu h.sure
  have ho := hy.opens hs2 hsu2 hu3 hu4
  rcases hx with rfl | rfl | rfl
  · exact (After.crash h m t (U := U) (fun u hu => by rw [← hU]; exact hu) U.length).opens h hs hsu hu3 hu4
  · exact ho
  · rcases crash_one (S := sureS S U) (k := q) m t (mkB (gen + 1) M.epoch (M.first + k) (dropFrom M.places from_ M.recs k) (M.recs.length - k)).sec 0 true with e | e | e
    · rw [e]
      obtain ⟨n, es2, hdk⟩ := (After.crash hy 0 0 (U := []) (fun u hu => by cases hu) 0).disk hy
      have hdk : DiskAt (sureS S U) { M with sure := M.recs.length } gen M.epoch 0 n from_ cnt es2 := hdk
      have h1 := hdk.sure
      have hdw := hdk.weaken hs2 (by have : M.recs.length ≤ 0 + n := h1; omega) (.inl rfl) hu3 hu4
      refine ⟨_, _, _, _, _, _, _, hdw.set_ hq2 ?_⟩
      refine hdw.inv.tear (by rw [length_sureS, h.len]; omega) (b := mkB (gen + 1) M.epoch (M.first + k) (dropFrom M.places from_ M.recs k) (M.recs.length - k)) ?_
      exact ⟨by show ((gen + 1 : Nat) : Int) = (gen : Int) + 1; omega, hq2, hq⟩
    · rw [e]
      exact hy.dropOpens rfl hk hu hq hq2 hs2 hsu2 hd hus
    · rw [e]
      exact ho
end
section
variable {S : List Sec} {M : Lg} {gen E gone n from_ cnt : Nat} {es : List Nat}
/-- What may be opened where an Open was cut off. -/
theorem DiskAt.cutOpen (h : DiskAt S M gen E gone n from_ cnt es) (hu : M.used < maxUsed) {q : Nat} (hq : ((gen + 1 : Nat) : Int) % 2 = (q : Int)) (hq2 : q < 2)
    {x' : Dv} (hx : x' = ⟨S, [], 0, true⟩ ∨ x' = ⟨S, [⟨q, (mkB (gen + 1) (E + 1) (M.first + gone) from_ n).sec⟩], 0, true⟩) (m t : Nat) : Opens (x'.crash m t).sure { M with used := M.used + 1 } := by
  have hu4 : M.used + 1 ≤ maxUsed := by unfold maxUsed at hu ⊢; omega
  have h9 : DiskAt S { M with used := M.used + 1 } gen E gone n from_ cnt es := h.used (Nat.le_succ _) hu4 M.down
  have ho : Opens S { M with used := M.used + 1 } := ⟨_, _, _, _, _, _, _, h9⟩
  rcases hx with rfl | rfl
  · exact ho
  · rcases crash_one (S := S) (k := q) m t (mkB (gen + 1) (E + 1) (M.first + gone) from_ n).sec 0 true with e | e | e
    · rw [e]
      refine ⟨_, _, _, _, _, _, _, h9.set_ hq2 ?_⟩
      refine h9.inv.tear (by rw [h.len]; omega) (b := mkB (gen + 1) (E + 1) (M.first + gone) from_ n) ?_
      exact ⟨by show ((gen + 1 : Nat) : Int) = (gen : Int) + 1; omega, hq2, hq⟩
    · rw [e]
      exact h.openOpens hu hq hq2
    · rw [e]
      exact ho
end
/-- A record more. -/
theorem Live.pushed {S : List Sec} {M : Lg} {gen from_ cnt : Nat} {es : List Nat} (h : Live S M gen from_ cnt es) {l : List UInt8} (hl : l.length ≤ 16384) (hf : M.taken + partsN l.length ≤ M.places) (hu : M.used < maxUsed) : Live S { M with recs := M.recs ++ [l], used := M.used + 1 } gen from_ cnt es := by
  have hsu := h.sure
  refine ⟨?_, h.p2, h.p4, fun r hr => ?_, by show M.sure ≤ (M.recs ++ [l]).length; rw [List.length_append]; omega, h.len, h.inv, h.bk.used (Nat.le_succ _), ?_, h.ups, h.cnt, h.old, ?_, by show M.used + 1 ≤ maxUsed; unfold maxUsed at hu ⊢; omega⟩
  · unfold Lg.taken at hf ⊢
    show takenL (M.recs ++ [l]) ≤ M.places
    rw [takenL_append, takenL_one]
    exact hf
  · rcases List.mem_append.1 hr with h1 | h1
    · exact h.small r h1
    · obtain rfl := List.mem_singleton.1 h1
      exact hl
  · show Chain _ _ _ _ _ ((M.recs ++ [l]).take M.sure)
    rw [List.take_append_of_le_length hsu]
    exact h.chain
  · have := h.nxt
    show M.first + (M.recs ++ [l]).length ≤ M.used + 1
    rw [List.length_append, List.length_singleton]
    omega
end Go.Proofs.YtgfoekbdmgljbaaDoor

namespace Go.Proofs.YtgfoekbdmgljbaaDoor
open Go.RowKit

def cutR (A : Option Addr) (c k : Nat) : Option Addr := if c = k then A else Option.map (fun x => x.add k) A
theorem row_cut {w : World} {H : Nat} {A : Option Addr} {l : List UInt8} {c k m : Nat} (h : Row w H A (l.map bc)) (hl : l.length ≤ c) (_ : m ≤ l.length) : Row w H (cutR A c k) (((l.drop k).take (m - k)).map bc) := fun hx => by
  have hk : k < l.length := by
    rcases Nat.lt_or_ge k l.length with h1 | h1
    · exact h1
    · rw [List.drop_eq_nil_of_le h1] at hx
      simp at hx
  obtain ⟨b, off, rfl, hb, hc⟩ := h (by intro e; have := congrArg List.length e; simp at this; rw [this] at hk; simp at hk)
  unfold cutR
  rw [if_neg (by omega)]
  refine ⟨b, off + k, by simp [addr_add], hb, fun j u hu => ?_⟩
  rw [Nat.add_assoc]
  refine hc (k + j) u ?_
  rw [List.getElem?_map, List.getElem?_take] at hu
  split at hu
  · rw [List.getElem?_drop] at hu
    rw [List.getElem?_map]
    exact hu
  · cases hu
theorem chunk_cut (l : List UInt8) (k : Nat) : chunk l k = (l.drop (k * 496)).take (min ((k + 1) * 496) l.length - k * 496) := by
  unfold chunk
  rcases Nat.le_total ((k + 1) * 496) l.length with h | h
  · rw [Nat.min_eq_left h]
    congr 1
    omega
  · rw [Nat.min_eq_right h]
    have hd : (l.drop (k * 496)).length = l.length - k * 496 := List.length_drop
    rw [List.take_of_length_le (by omega), List.take_of_length_le (by omega)]
def SealRelL (w : World) (P a seq E : Nat) (l : List UInt8) (n : Nat) (out i : Value) (wr : World) : Prop :=
  ∃ k vs, k ≤ n ∧ i = .int .i64 (k : Int) ∧ UnsAt wr w.heap.size out ((recW P a seq E l).take k) vs ∧ Whole wr w.heap.size 72 [.int .i64 (a : Int), .int .i64 (n : Int)] ∧ Below w.heap.size w wr
def LSealOut (w : World) (us : List Wri) (e : Ending) (w' : World) : Prop := ∃ v vs, e = .returned (.tuple #[v, .int .i64 0]) ∧ UnsAt w' w.heap.size v us vs ∧ Below w.heap.size w w'
theorem recW_at {P a seq E : Nat} {l : List UInt8} {k : Nat} (h : k < partsN l.length) : (recW P a seq E l)[k]'(by rw [recW_length]; exact h) = ⟨arN P (a + k), sealB (recH E seq k (partsN l.length)) (chunk l k)⟩ := by simp [recW]

/-- Kept from the walk. -/
structure LenIs (us : List Wri) (k n : Nat) : Prop where
  out : (us.take k).length = n
structure PartsIs (n pn : Nat) : Prop where
  out : partsN n = pn
structure SealIs (h : SH) (l sb : List UInt8) : Prop where
  out : sealB h l = sb
section
variable {w0 w : World} {D : Nat} {x : Dv} {o : Lo} {g : Lm} {F : Nat → Prop}
set_option maxHeartbeats 4000000 in
set_option maxRecDepth 100000 in
theorem lseal_any (h : LmAt w0 w D x o g F) (hP : 2 ≤ g.places) (hP2 : g.places ≤ 4094) (first E q : Nat) (hf : g.block.first = (first : Int)) (he : g.block.epoch = (E : Int)) (hq : first + g.recs.length = q) (hs : q < 36028797018960000) (hE : E < 4294967296) (a : Nat) (ha : 2 ≤ a) (ha2 : a ≤ 4096)
    (A : Option Addr) (c n : Nat) (l : List UInt8) (hl : l.length = n) (hl2 : n ≤ 16384) (hA : Row w w.heap.size A (l.map bc)) (hc : n ≤ c) (pn : Nat) (hpn : partsN n = pn) :
    Calls Tryd.prog 30 #[lptr o, .agg #[.int .i64 (a : Int), .int .i64 (pn : Int)], .slice A n c] w (LSealOut w (recW g.places a q E l)) := by
  have HH := Lib.hid h
  have hep : ∀ W, Below w.heap.size w W → Calls Tryd.prog 36 #[.pointer (some ⟨o.l, 0, none⟩)] W (Told W (.int .i64 (E : Int))) := fun W hb => epoch_any (h.below hb) E he
  have hnx : ∀ W, Below w.heap.size w W → Calls Tryd.prog 19 #[.pointer (some ⟨o.l, 0, none⟩)] W (Gave W (.int .i64 (q : Int))) := fun W hb => by
    have := next_any (h.below hb) first hf (by omega)
    rwa [hq] at this
  have har : ∀ W, Below w.heap.size w W → ∀ k : Nat, k ≤ 34 → Calls Tryd.prog 43 #[.pointer (some ⟨o.l, 0, none⟩), .int .i64 ((a : Int) + (k : Int))] W (Told W (.int .i64 (arN g.places (a + k) : Int))) := fun W hb k hk => by
    have := around_any (h.below hb) (a + k) (by omega) (by omega) (by omega) hP2
    rwa [show ((a + k : Nat) : Int) = (a : Int) + (k : Int) by omega] at this
  have hp34 : pn ≤ 34 := by rw [← hpn]; exact partsN_le hl2
  have hpl : 496 * (pn - 1) ≤ n := by rw [← hpn, ← hl]; exact parts_low l
  have hvs : ∀ W, Below w.heap.size w W → SizesAt W := fun W hb => (h.below hb).varsAt.sizes
  obtain ⟨P, hPe⟩ : ∃ P, g.places = P := ⟨_, rfl⟩
  rw [hPe] at har ⊢
  have HEP := Lib.hid hep
  have HNX := Lib.hid hnx
  have HAR := Lib.hid har
  have HVS := Lib.hid hvs
  have HL := Lib.hid hl
  have HA := Lib.hid hA
  have HPN : PartsIs n pn := ⟨hpn⟩
  have HPL := Lib.hid hpl
  have HHO := Lib.hid (fun k (hk : k < pn) => (recH_ok hE (show q < 72057594037927936 by omega) hk hp34 : headB (recH E q k pn) = true))
  obtain ⟨i1, z1, hi1, hz1, hz2, hz3, hz4⟩ := info_row wrt_row
  have HWR := Lib.hid (Whole.made w [.int .i64 (a : Int), .int .i64 (pn : Int)] 72)
  have HWB := Lib.hid ((Below.refl w.heap.size w).alloc (Nat.le_refl _) (.cells ([.int .i64 (a : Int), .int .i64 (pn : Int)] : List Value).toArray 72))
  clear h hP hP2 hf he hq hs hE hl hA hpn hep hnx har hpl hvs hPe
  unfold lptr
  go_enter Tryd.func30, Tryd.ntmps30
  go_wp2
  go_loopw [8, 15] (SealRelL w P a q E l pn) (fun _ i _ => pn - (intOf i).toNat)
  case atStart => exact ⟨0, [], Nat.zero_le _, rfl, UnsAt.nil _ _, HWR.out, HWB.out⟩
  case round =>
    obtain ⟨k, vs, hk, rfl, hun, hwr, hb⟩ := hrel
    have hk' : ((recW P a q E l).take k).length = k := by rw [List.length_take, recW_length, HL.out, HPN.out]; omega
    obtain ⟨Ao, co, hov, _, _⟩ := own_form hun.row
    rw [hk'] at hov
    subst hov
    have HK' : LenIs (recW P a q E l) k k := ⟨hk'⟩
    clear hk'
    have HUN := Lib.hid hun
    have HRR := Lib.hid hwr
    have HB := Lib.hid hb
    have HK := Lib.hid hk
    by_cases hlt : k < pn
    · have d1 : decide (k < pn) = true := by simp; omega
      have hki : (k : Int) < (pn : Int) := by omega
      have p1 : wr.cell? ⟨w.heap.size, 1, none⟩ = some (.int .i64 (pn : Int)) := hwr.cell 1
      have HLT := Lib.hid hlt
      have HPC := Lib.hid (fun X (hx : Below wr.heap.size wr X) => (hx.cell (p := ⟨w.heap.size, 1, none⟩) hwr.lt).trans p1)
      clear hun hwr hb hk
      go_upto_region 5 with fail
      go_cut [10] from 18 to 25 (fun v wx => ∃ hb, v = .pointer (some ⟨hb, 0, none⟩) ∧ Whole wx hb 79 [.int .i64 2, .int .i64 (E : Int), .int .i64 (q : Int), .int .i64 (k : Int), .int .i64 (pn : Int)] ∧ Below wr.heap.size wr wx ∧ wr.heap.size ≤ hb)
      case first =>
        go_region_held3 (fun X => X.cell? ⟨w.heap.size, 1, none⟩ = some (.int .i64 (pn : Int)))
          (first | go_keep | exact HPC.out _ (((((HB2.out.setCell (p := ⟨wr.heap.size, 0, none⟩) (Nat.le_refl _) _).setCell (p := ⟨wr.heap.size, 1, none⟩) (Nat.le_refl _) _).setCell (p := ⟨wr.heap.size, 2, none⟩) (Nat.le_refl _) _).setCell (p := ⟨wr.heap.size, 3, none⟩) (Nat.le_refl _) _).setCell (p := ⟨wr.heap.size, 4, none⟩) (Nat.le_refl _) _))
          ((first
            | (go_at_call 36
               refine (HEP.out _ (by first | exact HB.out.drew | exact (HB.out.alloc HB.out.size _).drew)).mono ?_
               rintro e w2 ⟨rfl, rfl⟩)
            | (go_at_call 19
               refine (HNX.out _ HB.out.drew).mono ?_
               rintro e w2 ⟨rfl, hb2'⟩
               have hb2 : Below wr.heap.size wr w2 := ⟨hb2'.os, hb2'.tape, hb2'.output, hb2'.size, hb2'.block⟩
               have p1 : w2.cell? ⟨w.heap.size, 1, none⟩ = some (.int .i64 (pn : Int)) := (hb2.cell (p := ⟨w.heap.size, 1, none⟩) HRR.out.lt).trans p1
               have HB2 := Lib.hid hb2
               clear hb2 hb2')
            | (go_at_call 19
               refine (HNX.out _ (HB.out.alloc HB.out.size _).drew).mono ?_
               rintro e w2 ⟨rfl, hb2⟩
               have p1 : w2.cell? ⟨w.heap.size, 1, none⟩ = some (.int .i64 (pn : Int)) := (World.cell?_of_block (a := ⟨w.heap.size, 1, none⟩) (hb2.block w.heap.size (by show w.heap.size < (wr.alloc _).heap.size; rw [World.size_alloc]; have := HRR.out.lt; omega))).trans ((World.cell?_alloc_lt wr _ ⟨w.heap.size, 1, none⟩ HRR.out.lt).trans p1)
               have hw2 : Whole w2 wr.heap.size 79 hzero.cells := (Whole.made wr hzero.cells 79).keep (hb2.block wr.heap.size (Whole.made wr hzero.cells 79).lt)
               have k0 : w2.cell? ⟨wr.heap.size, 0, none⟩ = some (.int .i64 0) := hw2.cell 0
               have k1 : w2.cell? ⟨wr.heap.size, 1, none⟩ = some (.int .i64 0) := hw2.cell 1
               have k2 : w2.cell? ⟨wr.heap.size, 2, none⟩ = some (.int .i64 0) := hw2.cell 2
               have k3 : w2.cell? ⟨wr.heap.size, 3, none⟩ = some (.int .i64 0) := hw2.cell 3
               have k4 : w2.cell? ⟨wr.heap.size, 4, none⟩ = some (.int .i64 0) := hw2.cell 4
               have l0 := hw2.frozen 0
               have l1 := hw2.frozen 1
               have l2 := hw2.frozen 2
               have l3 := hw2.frozen 3
               have l4 := hw2.frozen 4
               have HW2 := Lib.hid hw2
               have HB2 := Lib.hid (show Below wr.heap.size wr w2 from ((Below.refl wr.heap.size wr).alloc (Nat.le_refl _) (.cells hzero.cells.toArray 79)).drew.trans (hb2.mono (by show wr.heap.size ≤ (wr.alloc _).heap.size; rw [World.size_alloc]; omega)))
               clear hw2 hb2)))
        · go_wp2
          go_meet
          exact ⟨w2.heap.size, rfl, Whole.made _ _ _, HB2.out.alloc HB2.out.size _, HB2.out.size⟩
        · go_wp2
          go_meet
          exact ⟨wr.heap.size, rfl, (((((HW2.out.set_ 0 (.int .i64 2)).set_ 1 (.int .i64 (E : Int))).set_ 2 (.int .i64 (q : Int))).set_ 3 (.int .i64 (k : Int))).set_ 4 (.int .i64 (pn : Int))), (((((HB2.out.setCell (p := ⟨wr.heap.size, 0, none⟩) (Nat.le_refl _) _).setCell (p := ⟨wr.heap.size, 1, none⟩) (Nat.le_refl _) _).setCell (p := ⟨wr.heap.size, 2, none⟩) (Nat.le_refl _) _).setCell (p := ⟨wr.heap.size, 3, none⟩) (Nat.le_refl _) _).setCell (p := ⟨wr.heap.size, 4, none⟩) (Nat.le_refl _) _), Nat.le_refl _⟩
        · go_wp2
          go_meet
          exact ⟨wr.heap.size, rfl, (((((HW2.out.set_ 0 (.int .i64 2)).set_ 1 (.int .i64 (E : Int))).set_ 2 (.int .i64 (q : Int))).set_ 3 (.int .i64 (k : Int))).set_ 4 (.int .i64 (pn : Int))), (((((HB2.out.setCell (p := ⟨wr.heap.size, 0, none⟩) (Nat.le_refl _) _).setCell (p := ⟨wr.heap.size, 1, none⟩) (Nat.le_refl _) _).setCell (p := ⟨wr.heap.size, 2, none⟩) (Nat.le_refl _) _).setCell (p := ⟨wr.heap.size, 3, none⟩) (Nat.le_refl _) _).setCell (p := ⟨wr.heap.size, 4, none⟩) (Nat.le_refl _) _), Nat.le_refl _⟩
      case rest =>
        obtain ⟨hb, rfl, hwh, hbw, hge⟩ := hcut
        obtain ⟨m, hm⟩ : ∃ m, min ((k + 1) * 496) n = m := ⟨_, rfl⟩
        have hmn : m ≤ n := by rw [← hm]; exact Nat.min_le_right _ _
        have hkm : k * 496 ≤ m ∧ m - k * 496 ≤ 496 := by
          have := HPL.out
          have h2 := HLT.out
          rcases Nat.le_total ((k + 1) * 496) n with h3 | h3
          · rw [Nat.min_eq_left h3] at hm; omega
          · rw [Nat.min_eq_right h3] at hm; omega
        have hch : chunk l k = (l.drop (k * 496)).take (m - k * 496) := by rw [chunk_cut, HL.out, hm]
        have hcl : (chunk l k).length = m - k * 496 := by rw [hch, List.length_take, List.length_drop, HL.out]; omega
        have hrow : Row wc w.heap.size (cutR A c (k * 496)) ((chunk l k).map bc) := by
          rw [hch]
          exact (row_cut HA.out (by rw [HL.out]; exact hc) (by rw [HL.out]; exact hmn)).below (HB.out.trans (hbw.mono HB.out.size))
        have HBC := Lib.hid (HB.out.trans (hbw.mono HB.out.size))
        have hseal := seal_any (cutR A c (k * 496)) (c - k * 496) (m - k * 496) (recH E q k pn) (chunk l k) wc.drew hcl (hrow.mono HBC.out.size) (HVS.out _ HBC.out.drew) (by omega) (by unfold maxLen; omega)
        have hE0 : sealE (recH E q k pn) (chunk l k).length = 0 := sealE_ok (HHO.out k HLT.out) (length_chunk _ _)
        have hl512 := length_sealB (HHO.out k HLT.out) (length_chunk l k)
        unfold SealOut at hseal
        rw [hE0, hl512] at hseal
        obtain ⟨sb, hsb⟩ : ∃ sb, sealB (recH E q k pn) (chunk l k) = sb := ⟨_, rfl⟩
        rw [hsb] at hseal
        unfold SH.val recH at hseal
        have HSE := Lib.hid hseal
        have HSB : SealIs (recH E q k pn) (chunk l k) sb := ⟨hsb⟩
        have n0 : wc.cell? ⟨hb, 0, none⟩ = some (.int .i64 2) := hwh.cell 0
        have n1 : wc.cell? ⟨hb, 1, none⟩ = some (.int .i64 (E : Int)) := hwh.cell 1
        have n2 : wc.cell? ⟨hb, 2, none⟩ = some (.int .i64 (q : Int)) := hwh.cell 2
        have n3 : wc.cell? ⟨hb, 3, none⟩ = some (.int .i64 (k : Int)) := hwh.cell 3
        have n4 : wc.cell? ⟨hb, 4, none⟩ = some (.int .i64 (pn : Int)) := hwh.cell 4
        have HWH := Lib.hid hwh
        have HBW := Lib.hid hbw
        have HRC := Lib.hid (HRR.out.below hbw HRR.out.lt)
        obtain ⟨s0, hs0⟩ : ∃ s0, k * 496 = s0 := ⟨_, rfl⟩
        obtain ⟨s1, hs1⟩ : ∃ s1, (k + 1) * 496 = s1 := ⟨_, rfl⟩
        rw [hs0] at HSE hkm
        rw [hs1] at hm
        obtain ⟨k1, hk1⟩ : ∃ k1, k + 1 = k1 := ⟨_, rfl⟩
        have r0 : IntKind.i64.wrap (s0 : Int) = (s0 : Int) := IntWalk.i64_in _ (by omega)
        have r1 : IntKind.i64.wrap ((k : Int) + 1) = (k1 : Int) := by rw [show (k : Int) + 1 = (k1 : Int) by omega]; exact IntWalk.i64_in _ (by omega)
        have r2 : IntKind.i64.wrap ((k1 : Int) * 496) = (s1 : Int) := by rw [show (k1 : Int) * 496 = (s1 : Int) by omega]; exact IntWalk.i64_in _ (by omega)
        have e2 : (k : Int) * 496 = (s0 : Int) := by omega
        have b1 : (s0 : Int) ≤ (m : Int) := by omega
        have b1n : s0 ≤ m := hkm.1
        have b2 : (m : Int) ≤ (c : Int) := by omega
        have b2n : m ≤ c := by omega
        have b3 : min (s1 : Int) (n : Int) = (m : Int) := by omega
        have b6 : max (m : Int) 0 = (m : Int) := by omega
        unfold cutR at HSE
        obtain ⟨AA, hAA⟩ : ∃ AA, (if c = s0 then A else Option.map (fun x => x.add s0) A) = AA := ⟨_, rfl⟩
        rw [hAA] at HSE
        have HKB := Lib.hid (And.intro hl2 (And.intro ha2 (And.intro hp34 hc)))
        clear hl2 ha2 hp34 hc hki d1 hlt
        clear hm hmn hkm hch hcl hrow hseal hE0 hl512 hsb hwh hbw hge hs0 hs1 hk1
        go_wp2
        go_region_held3 (fun X => X.cell? ⟨hb, 0, none⟩ = some (.int .i64 2) ∧ X.cell? ⟨hb, 1, none⟩ = some (.int .i64 (E : Int)) ∧ X.cell? ⟨hb, 2, none⟩ = some (.int .i64 (q : Int)) ∧ X.cell? ⟨hb, 3, none⟩ = some (.int .i64 (k : Int)) ∧ X.cell? ⟨hb, 4, none⟩ = some (.int .i64 (pn : Int)))
          (go_keep)
          ((first
            | (go_at_call 44
               refine HSE.out.mono ?_
               rintro e w3 ⟨v3, rfl, hown3, hb3⟩
               have hb3' : Below wc.heap.size wc w3 := ⟨hb3.os, hb3.tape, hb3.output, hb3.size, hb3.block⟩
               have HB3 := Lib.hid hb3'
               have HO3 := Lib.hid hown3
               have hw3 := HWH.out.below hb3' HWH.out.lt
               have n0 : w3.cell? ⟨hb, 0, none⟩ = some (.int .i64 2) := hw3.cell 0
               have n1 : w3.cell? ⟨hb, 1, none⟩ = some (.int .i64 (E : Int)) := hw3.cell 1
               have n2 : w3.cell? ⟨hb, 2, none⟩ = some (.int .i64 (q : Int)) := hw3.cell 2
               have n3 : w3.cell? ⟨hb, 3, none⟩ = some (.int .i64 (k : Int)) := hw3.cell 3
               have n4 : w3.cell? ⟨hb, 4, none⟩ = some (.int .i64 (pn : Int)) := hw3.cell 4
               clear hb3 hb3' hown3 hw3)))
        obtain ⟨A3, c3, hv3, _, _⟩ := own_form HO3.out
        subst hv3
        have HRD := Lib.hid (HRC.out.below HB3.out HRC.out.lt)
        have p0 : w3.cell? ⟨w.heap.size, 0, none⟩ = some (.int .i64 (a : Int)) := (HRC.out.below HB3.out HRC.out.lt).cell 0
        have HBD := Lib.hid (HBC.out.trans (HB3.out.mono HBC.out.size))
        have har := HAR.out w3 HBD.out k (by have := HKB.out.2.2.1; have := HLT.out; omega)
        have HAK := Lib.hid har
        clear har hAA r0 r1 r2 e2 b1 b1n b2 b2n b3 b6
        have hown' : ∀ X, Below w3.heap.size w3 X → X.ownsRow w.heap.size 87 2 (.slice Ao k co) k (wcells ((recW P a q E l).take k) vs) := fun X hx => by
          have h1 := HUN.out.row
          rw [HK'.out] at h1
          exact own_keep h1 fun j ej => (hx.block j (by have h2 := (h1.lt j ej).2; have h3 := HBW.out.size; have h4 := HB3.out.size; omega)).trans ((HB3.out.block j (by have h2 := (h1.lt j ej).2; have h3 := HBW.out.size; omega)).trans (HBW.out.block j (h1.lt j ej).2))
        have HOX := Lib.hid hown'
        clear hown'
        have rak : IntKind.i64.wrap ((a : Int) + (k : Int)) = (a : Int) + (k : Int) := IntWalk.i64_in _ (by have h1 := HKB.out; have h2 := HLT.out; omega)
        have rk1 : IntKind.i64.wrap ((k : Int) + 1) = (k : Int) + 1 := IntWalk.i64_in _ (by have h1 := HKB.out; have h2 := HLT.out; omega)
        go_wp2_with fail
        refine HAK.out.mono ?_
        rintro e w' ⟨rfl, rfl⟩
        obtain ⟨ak, hak⟩ : ∃ ak, arN P (a + k) = ak := ⟨_, rfl⟩
        have HAKE := Lib.hid hak
        rw [hak]
        have hkm := HKB.out.2.2.1
        have hklt := HLT.out
        clear hak
        go_wp2_with (first
          | (refine wpList_buildSlice1 rfl 67 87 (.tmp 52) rfl [.int .i64 (ak : Int), .slice A3 512 c3] rfl Tryd.underlying67 wrt_row2 (by show 0 < 2; decide) (by show 2 ≤ 2 ^ 24; decide) ?_)
          | (at_builtin
             refine wpList_append_at rfl (.tmp 44) (.tmp 53) _ rfl w.heap.size 87 i1 z1 2 32 Tryd.underlying67 hi1 hz1 hz2 hz3 hz4 (by decide) (.slice Ao k co) k _ rfl (HOX.out _ ((Below.refl _ _).alloc (Nat.le_refl _) _)) (some ⟨w3.heap.size, 0, none⟩) 1 1 (w3.heap.size + 1) [.int .i64 (ak : Int), .slice A3 512 c3] rfl rfl (Row.made w3 _ _) (wrt_one _ _ _ _) (by unfold maxLen; omega) (by omega) (by rw [World.size_alloc]; have := HBD.out.size; omega) ?_
             intro v4 w4 hown4 hg4 _
             have HO4 := Lib.hid hown4
             have HG4 := Lib.hid hg4
             clear hown4 hg4))
        refine ⟨⟨k + 1, vs ++ [.slice A3 512 c3], by omega, by go_num, ?_, ?_, ?_⟩, by simp [intOf]; omega⟩
        · have hkl : k < (recW P a q E l).length := by rw [recW_length, HL.out, HPN.out]; exact hklt
          have hat : (recW P a q E l)[k] = ⟨ak, sb⟩ := by rw [recW_at (by rw [HL.out, HPN.out]; exact hklt), HAKE.out, HL.out, HPN.out, HSB.out]
          have hz := HBD.out.size
          refine UnsAt.next (w := wr) (w1 := w3) (w2 := w3.alloc (.cells ([.int .i64 (ak : Int), .slice A3 512 c3] : List Value).toArray 87)) hkl HUN.out (fun j hj => (HB3.out.block j (Nat.lt_of_lt_of_le hj HBW.out.size)).trans (HBW.out.block j hj)) ?_ (fun j hj => Below.heap_alloc w3 _ j hj) (Nat.le_trans HBW.out.size HB3.out.size) (by rw [World.size_alloc]; omega) ?_ HG4.out
          · rw [hat]
            exact own_mono HO3.out (Nat.le_trans HB.out.size HBW.out.size)
          · rw [hat]
            exact HO4.out
        · exact (HRD.out.alloc _).grown HG4.out (fun e => own_not_whole (HOX.out _ (Below.refl _ _)) HRD.out (by decide) e.symm)
        · exact own_below (HBD.out.alloc HBD.out.size _) (Nat.le_refl _) (by rw [World.size_alloc]; have := HBD.out.size; omega) (HOX.out _ ((Below.refl _ _).alloc (Nat.le_refl _) _)) HG4.out
    · obtain rfl : k = pn := by omega
      have d1 : decide (k < k) = false := by simp
      clear hun hwr hb hk hlt
      go_wp2
      go_ret2
      refine ⟨_, vs, rfl, ?_, HB.out⟩
      have h1 := HUN.out
      rwa [List.take_of_length_le (by rw [recW_length, HL.out, HPN.out]; exact Nat.le_refl _)] at h1
end

end Go.Proofs.YtgfoekbdmgljbaaDoor

namespace Go.Proofs.YtgfoekbdmgljbaaDoor
open Go.RowKit

theorem wcells_app {us us2 : List Wri} {vs vs2 : List Value} (h : us.length = vs.length) : wcells (us ++ us2) (vs ++ vs2) = wcells us vs ++ wcells us2 vs2 := by
  unfold wcells
  rw [List.zip_append h, List.flatMap_append]
theorem wcells_one (us : List Wri) (vs : List Value) (hv : ∀ v ∈ vs, v.oneCell' = true) : ∀ u ∈ wcells us vs, u.oneCell' = true := by
  intro u hu
  obtain ⟨p, hp, hu⟩ := List.mem_flatMap.1 hu
  rcases List.mem_cons.1 hu with rfl | hu
  · rfl
  · obtain rfl := List.mem_singleton.1 hu
    exact hv _ (List.of_mem_zip hp).2
theorem LmAt.widen {w0 X : World} {D : Nat} {x : Dv} {o : Lo} {g : Lm} {F F' : Nat → Prop} (h : LmAt w0 X D x o g F) (h1 : ∀ j, F j → F' j) (h2 : ∀ j, F' j → w0.heap.size ≤ j ∧ j < X.heap.size) : LmAt w0 X D x o g F' :=
  ⟨h.blk, h.recs, h.uns, h.dev, h.low, h.vars, fun j hj => h1 j (h.own j hj), h2⟩
section
variable {w0 X : World} {D : Nat} {x : Dv} {o : Lo} {g : Lm} {F : Nat → Prop}
/-- More writes that wait. -/
theorem LmAt.pushU (h : LmAt w0 X D x o g F) {w3 : World} {v3 : Value} {us2 : List Wri} {vs2 : List Value} (hlen : us2.length = vs2.length) (heach : ∀ j (h1 : j < us2.length) (h2 : j < vs2.length), X.ownsRow w0.heap.size 5 1 vs2[j] 512 ((us2[j]).data.map bc))
    (hnew : ∀ v ∈ vs2, ∀ j, v.ownBlock = some j → F j) (hown : w3.ownsRow w0.heap.size 87 2 v3 (g.us.length + us2.length) (wcells g.us o.vs ++ wcells us2 vs2)) (hg : X.grownBy w3 o.vu.ownBlock)
    (hv : v3.ownBlock = o.vu.ownBlock ∨ v3.ownBlock = some X.heap.size) : LmAt w0 (w3.setCell ⟨o.l, 8, none⟩ v3) D x { o with vu := v3, vs := o.vs ++ vs2 } { g with us := g.us ++ us2 } (ext F X (w3.setCell ⟨o.l, 8, none⟩ v3)) ∧ Moved F X (w3.setCell ⟨o.l, 8, none⟩ v3) (ext F X (w3.setCell ⟨o.l, 8, none⟩ v3)) := by
  have hb3 : Whole w3 o.l 69 (lCells D o g) := h.blk.grown hg (fun e => own_not_whole h.uns.row h.blk (by decide) e.symm)
  have hG : Grew (fun j => j = o.l ∨ o.vr.ownBlock = some j ∨ o.vu.ownBlock = some j) X (w3.setCell ⟨o.l, 8, none⟩ v3) := (Grew.of_grown hg fun j e => .inl (.inr (.inr e))).setCell (a := ⟨o.l, 8, none⟩) (.inl (.inl rfl)) _
  have hkeep : ∀ j, j < X.heap.size → j ≠ o.l → some j ≠ o.vu.ownBlock → (w3.setCell ⟨o.l, 8, none⟩ v3).heap[j]? = X.heap[j]? := fun j h1 h2 h3 => (Below.heap_setCell _ _ _ _ h2).trans (hg.block j h1 h3)
  have kU : ∀ {v : Value} {xs : List Value}, X.ownsRow w0.heap.size 5 1 v 512 xs → (w3.setCell ⟨o.l, 8, none⟩ v3).ownsRow w0.heap.size 5 1 v 512 xs := fun {v xs} hq => own_keep hq fun j e =>
    hkeep j (hq.lt j e).2 (fun e2 => own_not_whole hq h.blk (by decide) (by rw [e, e2])) (fun e2 => own_not_own hq h.uns.row (by decide) e2.symm e)
  refine h.rows (o' := { o with vu := v3, vs := o.vs ++ vs2 }) (g' := { g with us := g.us ++ us2 }) rfl hG (hb3.set_ 8 v3) ?_ ?_ ?_
  · exact own_keep h.recs fun j e => hkeep j (h.recs.lt j e).2 (fun e2 => own_not_whole h.recs h.blk (by decide) (by rw [e, e2])) (fun e2 => own_not_own h.recs h.uns.row (by decide) e2.symm e)
  · refine ⟨by show (g.us ++ us2).length = (o.vs ++ vs2).length; rw [List.length_append, List.length_append, h.uns.len, hlen], ?_, fun j h1 h2 => ?_⟩
    · show (w3.setCell ⟨o.l, 8, none⟩ v3).ownsRow w0.heap.size 87 2 v3 (g.us ++ us2).length (wcells (g.us ++ us2) (o.vs ++ vs2))
      rw [wcells_app h.uns.len, List.length_append]
      exact own_set_far hown (own_not_whole hown hb3 (by decide)) _
    · show (w3.setCell ⟨o.l, 8, none⟩ v3).ownsRow w0.heap.size 5 1 (o.vs ++ vs2)[j] 512 (((g.us ++ us2)[j]).data.map bc)
      have h1' : j < g.us.length + us2.length := by have h1 : j < (g.us ++ us2).length := h1; rwa [List.length_append] at h1
      have hl := h.uns.len
      rcases Nat.lt_or_ge j g.us.length with hj | hj
      · rw [List.getElem_append_left (by omega), List.getElem_append_left hj]
        exact kU (h.uns.each j hj (by omega))
      · rw [List.getElem_append_right (by omega), List.getElem_append_right hj]
        have hq := heach (j - g.us.length) (by omega) (by omega)
        have e : j - o.vs.length = j - g.us.length := by omega
        simp only [e]
        exact kU hq
  · intro j hj
    rcases hj with e | e | ⟨v, hv1, e⟩
    · exact .inl (h.own j (.inr (.inl e)))
    · rcases hv with h1 | h1
      · exact .inl (h.own j (.inr (.inr (.inl (by rw [← h1]; exact e)))))
      · have e' : v3.ownBlock = some j := e
        rw [h1] at e'
        injection e' with e'
        exact .inr (by omega)
    · rcases List.mem_append.1 hv1 with h1 | h1
      · exact .inl (h.own j (.inr (.inr (.inr (.inl ⟨v, h1, e⟩)))))
      · exact .inl (hnew v h1 j e)
end

section
variable {w0 w : World} {D : Nat} {x : Dv} {o : Lo} {g : Lm} {F : Nat → Prop}
set_option maxHeartbeats 1000000 in
theorem lappend_down (h : LmAt w0 w D x o g F) (hg : g.down = true) (v : Value) : Calls Tryd.prog 9 #[lptr o, v] w (fun r w' => r = .returned (.tuple #[.int .i64 0, .int .i64 8]) ∧ LmAt w0 w' D x o g F ∧ Moved F w w' F) := by
  have HR := Lib.hid (ready_down h hg)
  clear h hg
  unfold lptr at HR ⊢
  go_enter Tryd.func9, Tryd.ntmps9
  go_wp2_with fail
  refine HR.out.mono ?_
  rintro e w1 ⟨rfl, ha, hm⟩
  have HA := Lib.hid ha
  have HM := Lib.hid hm
  clear ha hm
  go_wp2
  go_ret2
  exact ⟨rfl, HA.out, HM.out⟩
set_option maxHeartbeats 4000000 in
set_option maxRecDepth 100000 in
theorem lappend_any (h : LmAt w0 w D x o g F) (hg : g.down = false) (hd : x.down = false) (hP : 2 ≤ g.places) (hP2 : g.places ≤ 4094) (first from_ E : Nat) (rs : List (List UInt8)) (hr : g.recs = posL g.places from_ rs) (hf : g.block.first = (first : Int)) (he : g.block.epoch = (E : Int)) (hb : g.block.begun = (from_ : Int))
    (hf2 : 2 ≤ from_) (hf3 : from_ < g.places + 2) (hsm : ∀ r ∈ rs, r.length ≤ 16384) (htk : takenL rs ≤ g.places) (hq : first + rs.length < 36028797018960000) (hE : E < 4294967296) (hus : g.us.length ≤ 4094)
    (A : Option Addr) (c n : Nat) (l : List UInt8) (hl : l.length = n) (hl2 : n ≤ 16384) (hA : Row w w.heap.size A (l.map bc)) (hc : n ≤ c) :
    Calls Tryd.prog 9 #[lptr o, .slice A n c] w (fun r w' => ∃ F', Moved F w w' F' ∧
      ((g.places < takenL rs + partsN n ∧ r = .returned (.tuple #[.int .i64 0, .int .i64 10]) ∧ LmAt w0 w' D x o g F') ∨
       (takenL rs + partsN n ≤ g.places ∧ r = .returned (.tuple #[.int .i64 ((first + rs.length : Nat) : Int), .int .i64 0]) ∧ ∃ o', o'.l = o.l ∧ LmAt w0 w' D x o' { g with recs := posL g.places from_ (rs ++ [l]), us := g.us ++ recW g.places (from_ + takenL rs) (first + rs.length) E l } F'))) := by
  have HH := Lib.hid h
  have HR := Lib.hid (ready_ok h hg hd)
  have hrl : g.recs.length = rs.length := by rw [hr, length_posL]
  have hlt := length_le_taken rs
  have hmem : ∀ p ∈ g.recs, 2 ≤ p.1 ∧ p.1 ≤ 4096 ∧ p.2 ≤ 4096 := fun p hp => by
    rw [hr] at hp
    have := posL_mem (by omega) hsm hp
    omega
  have hend := end_any h from_ hb (by omega) hP2 hmem (by omega)
  obtain ⟨a, ha⟩ : ∃ a, arN g.places (from_ + takenL rs) = a := ⟨_, rfl⟩
  rw [hr, endN_posL hf2 hf3, ha] at hend
  have ha2 : 2 ≤ a ∧ a ≤ 4096 := by rw [← ha]; have h1 := arN_ge g.places (from_ + takenL rs); have h2 := arN_lt (P := g.places) (by omega) (from_ + takenL rs); omega
  have hroom : ∀ W, Below w.heap.size w W → Calls Tryd.prog 22 #[.pointer (some ⟨o.l, 0, none⟩)] W (Gave W (.int .i64 ((g.places - takenL rs : Nat) : Int))) := fun W hW => by
    have := room_any (h.below hW) (by rw [hr, sumP_posL]; exact htk) hP2 (by omega)
    rwa [hr, sumP_posL] at this
  have hseal : ∀ W, Below w.heap.size w W → Calls Tryd.prog 30 #[.pointer (some ⟨o.l, 0, none⟩), .agg #[.int .i64 (a : Int), .int .i64 (partsN n : Int)], .slice A n c] W (LSealOut W (recW g.places a (first + rs.length) E l)) := fun W hW =>
    lseal_any (h.below hW) hP hP2 first E (first + rs.length) hf he (by rw [hrl]) hq hE a ha2.1 ha2.2 A c n l hl hl2 ((hA.below hW).mono hW.size) hc _ rfl
  have hnext : ∀ W, Below w.heap.size w W → Calls Tryd.prog 19 #[.pointer (some ⟨o.l, 0, none⟩)] W (Gave W (.int .i64 ((first + rs.length : Nat) : Int))) := fun W hW => by
    have := next_any (h.below hW) first hf (by omega)
    rwa [hrl] at this
  have hparts : ∀ W, Calls Tryd.prog 29 #[.int .i64 (n : Int)] W (Told W (.int .i64 (partsN n : Int))) := fun W => sparts_any n (by omega) W
  have hrw : recW g.places (from_ + takenL rs) (first + rs.length) E l = recW g.places a (first + rs.length) E l := by
    unfold recW
    apply List.map_congr_left
    intro i _
    rw [← ha, arN_arN (by omega)]
  rw [hrw, posL_snoc, ha, ← hr, hl]
  obtain ⟨us2, hus2⟩ : ∃ us2, recW g.places a (first + rs.length) E l = us2 := ⟨_, rfl⟩
  have hul : us2.length = partsN n := by rw [← hus2, recW_length, hl]
  have hp34 := partsN_le hl2
  rw [hus2] at hseal ⊢
  obtain ⟨pn, hpn⟩ : ∃ pn, partsN n = pn := ⟨_, rfl⟩
  rw [hpn] at hseal hparts hul hp34 ⊢
  obtain ⟨tk, htke⟩ : ∃ tk, takenL rs = tk := ⟨_, rfl⟩
  rw [htke] at hroom htk ⊢
  obtain ⟨k, hk⟩ : ∃ k, rs.length = k := ⟨_, rfl⟩
  rw [hk] at hnext hrl hlt hq ⊢
  obtain ⟨P, hPe⟩ : ∃ P, g.places = P := ⟨_, rfl⟩
  rw [hPe] at hroom htk hP2 ⊢
  have HEND := Lib.hid hend
  have HROOM := Lib.hid hroom
  have HSEAL := Lib.hid hseal
  have HNEXT := Lib.hid hnext
  have HPARTS := Lib.hid hparts
  have HUL := Lib.hid hul
  have HRL := Lib.hid hrl
  have hkb : k ≤ 4094 := by omega
  have HUS := Lib.hid hus
  have HPE := Lib.hid hPe
  have HLT := Lib.hid h.lt
  obtain ⟨Ar, cr, hvr, _, _⟩ := h.vr
  rw [hrl] at hvr
  have HVR := Lib.hid hvr
  obtain ⟨Au, cu, hvu, _, _⟩ := h.vu
  have HVU := Lib.hid hvu
  obtain ⟨ri, rz, hri, hrz, hrs, hrb, hrz1⟩ := info_row rec_row
  obtain ⟨i1, z1, hi1, hz1, hz2, hz3, hz4⟩ := info_row wrt_row
  clear h hg hd hP hr hf he hb hf2 hf3 hsm hE hus hl hA hc hmem hend ha hroom hseal hnext hparts hrw hus2 hul hpn htke hk hPe hvr hvu hrl hlt hq
  have d16 : decide ((16384 : Int) < (n : Int)) = false := by simp; omega
  have d16n : decide (16384 < n) = false := by simp; omega
  unfold lptr at HR HEND ⊢
  go_enter Tryd.func9, Tryd.ntmps9
  go_wp2_with fail
  refine HR.out.mono ?_
  rintro e w1 ⟨rfl, rfl⟩
  go_wp2_with fail
  refine HEND.out.mono ?_
  rintro e w1 ⟨rfl, hb1⟩
  have HB1 := Lib.hid hb1
  clear hb1
  go_wp2_with fail
  refine (HPARTS.out _).mono ?_
  rintro e w2 ⟨rfl, rfl⟩
  have HRW := Lib.hid (Whole.made w1 [.int .i64 (a : Int), .int .i64 (pn : Int)] 72)
  have HB2 := Lib.hid (HB1.out.alloc HB1.out.size (.cells ([.int .i64 (a : Int), .int .i64 (pn : Int)] : List Value).toArray 72))
  have HZ1 := Lib.hid HB1.out.size
  obtain ⟨rm, hrm⟩ : ∃ rm, P - tk = rm := ⟨_, rfl⟩
  rw [hrm] at HROOM
  have p1 : (w1.alloc (.cells #[.int .i64 (a : Int), .int .i64 (pn : Int)] 72)).cell? ⟨w1.heap.size, 1, none⟩ = some (.int .i64 (pn : Int)) := HRW.out.cell 1
  go_wp2
  go_region_held3 (fun X => X.cell? ⟨w1.heap.size, 1, none⟩ = some (.int .i64 (pn : Int)))
    (go_keep)
    ((first
      | (go_at_call 22
         refine (HROOM.out _ HB2.out.drew).mono ?_
         rintro e w3 ⟨rfl, hb3⟩
         have HB3 := Lib.hid (HB2.out.drew.trans (hb3.mono HB2.out.size))
         have hw3 : Whole w3 w1.heap.size 72 [.int .i64 (a : Int), .int .i64 (pn : Int)] := HRW.out.keep (hb3.block w1.heap.size HRW.out.lt)
         have HW3 := Lib.hid hw3
         have p1 : w3.cell? ⟨w1.heap.size, 1, none⟩ = some (.int .i64 (pn : Int)) := hw3.cell 1
         clear hb3 hw3)))
  by_cases hfit : rm < pn
  · have d1 : decide ((rm : Int) < (pn : Int)) = true := by simp; omega
    have d1n : decide (rm < pn) = true := by simp; omega
    have HNF := Lib.hid (show P < tk + pn by omega)
    have hfi : (rm : Int) < (pn : Int) := by omega
    clear hrm
    go_wp2
    go_ret2
    exact ⟨F, Moved.of_below HB3.out, .inl ⟨HNF.out, rfl, HH.out.below HB3.out⟩⟩
  · have d1 : decide ((rm : Int) < (pn : Int)) = false := by simp; omega
    have d1n : decide (rm < pn) = false := by simp; omega
    have HFI := Lib.hid (show tk + pn ≤ P by omega)
    have p0 : w3.cell? ⟨w1.heap.size, 0, none⟩ = some (.int .i64 (a : Int)) := HW3.out.cell 0
    have hfi : ¬ (rm : Int) < (pn : Int) := by omega
    clear hrm
    go_wp2_with fail
    refine (HSEAL.out _ HB3.out).mono ?_
    rintro e w4 ⟨v4, vs4, rfl, hun4, hb4⟩
    obtain ⟨A4, c4, hv4, _, _⟩ := own_form hun4.row
    rw [HUL.out] at hv4
    subst hv4
    have HUN4 := Lib.hid hun4
    have HB4 := Lib.hid (HB3.out.trans (hb4.mono HB3.out.size))
    have HW4 := Lib.hid (HW3.out.below hb4 HW3.out.lt)
    have HB34 := Lib.hid hb4
    clear hun4 hb4
    go_wp2_with fail
    refine (HNEXT.out _ HB4.out).mono ?_
    rintro e w5 ⟨rfl, hb5⟩
    have HB5 := Lib.hid (HB4.out.trans (hb5.mono HB4.out.size))
    have HB45 := Lib.hid hb5
    have HW5 := Lib.hid (HW4.out.below hb5 HW4.out.lt)
    have HX := Lib.hid (fun X (hb : Below w5.heap.size w5 X) => (show LmAt w0 X D x o g (ext F w w5) ∧ X.ownsRow w0.heap.size 72 2 (.slice Ar k cr) k (recCells g.recs) ∧ w0.heap.size ≤ X.heap.size ∧ Whole X o.l 69 (lCells D o g) ∧ UnsAt X w3.heap.size (.slice A4 pn c4) us2 vs4 from by
      have hbx : Below w.heap.size w X := HB5.out.trans (hb.mono HB5.out.size)
      have h1 : LmAt w0 X D x o g (ext F w w5) := (HH.out.below hbx).widen (fun j hj => .inl hj) (fun j hj => by
        have hz := hb.size
        have hz5 := HB5.out.size
        rcases hj with h9 | h9
        · have := HH.out.foot j h9; omega
        · have := HH.out.below0.size; omega)
      have h2 := h1.recs
      rw [HRL.out, HVR.out] at h2
      refine ⟨h1, h2, h1.below0.size, h1.blk, HUN4.out.same fun j e => ?_⟩
      have hj : j < w4.heap.size := by
        rcases e with e | ⟨u, hu1, e⟩
        · exact (HUN4.out.row.lt j e).2
        · obtain ⟨k', hk', rfl⟩ := List.getElem_of_mem hu1
          exact ((HUN4.out.each k' (by rw [HUN4.out.len]; exact hk') hk').lt j e).2
      exact (hb.block j (by have := HB45.out.size; omega)).trans (HB45.out.block j hj)))
    have c7 : w5.cell? ⟨o.l, 7, none⟩ = some (.slice Ar k cr) := (HX.out w5 (Below.refl _ _)).1.c7.trans (by rw [HVR.out])
    have q0 : w5.cell? ⟨w1.heap.size, 0, none⟩ = some (.int .i64 (a : Int)) := HW5.out.cell 0
    have q1 : w5.cell? ⟨w1.heap.size, 1, none⟩ = some (.int .i64 (pn : Int)) := HW5.out.cell 1
    have hol : o.l < w5.heap.size := (HX.out _ (Below.refl _ _)).1.lt
    have c7n : (w5.alloc (.cells #[.int .i64 (a : Int), .int .i64 (pn : Int)] 72)).cell? ⟨o.l, 7, none⟩ = some (.slice Ar k cr) := (World.cell?_alloc_lt w5 _ ⟨o.l, 7, none⟩ hol).trans c7
    have c7d : (w5.alloc (.cells #[.int .i64 (a : Int), .int .i64 (pn : Int)] 72)).drew.cell? ⟨o.l, 7, none⟩ = some (.slice Ar k cr) := c7n
    clear hb5
    go_upto_region 13 with fail
    go_region_law (first
      | (refine step_append_at (by rfl) (.tmp 44) (.tmp 46) _ (by rfl) w0.heap.size 72 ri rz 2 16 Tryd.underlying66 hri hrz hrs hrb hrz1 (by decide) (.slice Ar k cr) k (recCells g.recs) (by rfl) (by exact (HX.out _ (by first | exact ((Below.refl _ _).alloc (Nat.le_refl _) _).drew | exact (Below.refl _ _).alloc (Nat.le_refl _) _ | exact ((Below.refl _ _).alloc (Nat.le_refl _) _).drew.drew | exact (Below.refl _ _).drew.alloc (Nat.le_refl _) _ | exact ((Below.refl _ _).drew.alloc (Nat.le_refl _) _).drew)).2.1) (some ⟨w5.heap.size, 0, none⟩) 1 1 (w5.heap.size + 1) [.int .i64 (a : Int), .int .i64 (pn : Int)] (by rfl) (by rfl) (by exact (by first | exact (Row.made w5 _ _).drew | exact Row.made w5 _ _ | exact (Row.made w5 _ _).drew.drew | exact Row.made w5.drew _ _ | exact (Row.made w5.drew _ _).drew)) (by exact rec_two _ _) (by unfold maxLen; omega) (by omega) (by exact (HX.out _ (by first | exact ((Below.refl _ _).alloc (Nat.le_refl _) _).drew | exact (Below.refl _ _).alloc (Nat.le_refl _) _ | exact ((Below.refl _ _).alloc (Nat.le_refl _) _).drew.drew | exact (Below.refl _ _).drew.alloc (Nat.le_refl _) _ | exact ((Below.refl _ _).drew.alloc (Nat.le_refl _) _).drew)).2.2.1) ?_
         intro v3' w3' hown3 hg3 hat3
         obtain ⟨A3, c3', rfl, _, _⟩ := own_form hown3
         have hbx := of_grown hg3 (fun X => Below w5.heap.size w5 X) (by first | exact ((Below.refl _ _).alloc (Nat.le_refl _) _).drew | exact (Below.refl _ _).alloc (Nat.le_refl _) _ | exact ((Below.refl _ _).alloc (Nat.le_refl _) _).drew.drew | exact (Below.refl _ _).drew.alloc (Nat.le_refl _) _ | exact ((Below.refl _ _).drew.alloc (Nat.le_refl _) _).drew)
         have hx := HX.out _ hbx
         have hwg := hx.2.2.2.1.grown hg3 (fun e => own_not_whole hx.2.1 hx.2.2.2.1 (by decide) e.symm)
         have t7 : w3'.cell? ⟨o.l, 7, none⟩ = some o.vr := hwg.cell 7
         have y7 := hwg.frozen 7
         have hpush := LmAt.push (a := a) (p := pn) hx.1 (by rw [HRL.out]; exact hown3) (by rw [HVR.out]; exact hg3) (by rw [HVR.out]; exact hat3)
         have hun6 : UnsAt (w3'.setCell ⟨o.l, 7, none⟩ (.slice A3 (k + 1) c3')) w3.heap.size (.slice A4 pn c4) us2 vs4 := by
           have hu5 := hx.2.2.2.2
           refine hu5.same fun j e => (Below.heap_setCell _ _ _ _ ?_).trans (hg3.block j ?_ ?_)
           · rcases e with e | ⟨u, hu1, e⟩
             · exact fun e2 => own_not_whole hu5.row hx.2.2.2.1 (by decide) (by rw [e, e2])
             · obtain ⟨k', hk', rfl⟩ := List.getElem_of_mem hu1
               exact fun e2 => own_not_whole (hu5.each k' (by rw [hu5.len]; exact hk') hk') hx.2.2.2.1 (by decide) (by rw [e, e2])
           · rcases e with e | ⟨u, hu1, e⟩
             · exact (hu5.row.lt j e).2
             · obtain ⟨k', hk', rfl⟩ := List.getElem_of_mem hu1
               exact ((hu5.each k' (by rw [hu5.len]; exact hk') hk').lt j e).2
           · rcases e with e | ⟨u, hu1, e⟩
             · exact fun e2 => own_not_own hu5.row hx.2.1 (by decide) e2.symm e
             · obtain ⟨k', hk', rfl⟩ := List.getElem_of_mem hu1
               exact fun e2 => own_not_own (hu5.each k' (by rw [hu5.len]; exact hk') hk') hx.2.1 (by decide) e2.symm e
         have HPU := Lib.hid hpush
         have HU6 := Lib.hid hun6
         have HBX := Lib.hid hbx
         have HG3 := Lib.hid hg3.size
         clear hown3 hg3 hat3 hx hbx hwg hpush hun6))
    all_goals
      have hvu := HVU.out
      obtain ⟨nu, hnu⟩ : ∃ nu, g.us.length = nu := ⟨_, rfl⟩
      rw [hnu] at hvu
      have hnb := HUS.out
      rw [hnu] at hnb
      have HNU := Lib.hid hnu
      have k8 : (w3'.setCell ⟨o.l, 7, none⟩ (.slice A3 (k + 1) c3')).cell? ⟨o.l, 8, none⟩ = some (.slice Au nu cu) := HPU.out.1.c8.trans (by rw [← hvu])
      have hurow : (w3'.setCell ⟨o.l, 7, none⟩ (.slice A3 (k + 1) c3')).ownsRow w0.heap.size 87 2 (.slice Au nu cu) nu (wcells g.us o.vs) := by
        have h1 := HPU.out.1.uns.row
        rw [show ({ g with recs := g.recs ++ [(a, pn)] } : Lm).us.length = nu from hnu, show ({ o with vr := .slice A3 (k + 1) c3' } : Lo).vu = .slice Au nu cu from hvu] at h1
        exact h1
      have hone : ∀ v ∈ vs4, v.oneCell' = true := fun v hv => by
        obtain ⟨k', hk', rfl⟩ := List.getElem_of_mem hv
        obtain ⟨A', c', e', _, _⟩ := own_form (HU6.out.each k' (by rw [HU6.out.len]; exact hk') hk')
        rw [e']
        rfl
      have HUR := Lib.hid hurow
      have HON := Lib.hid hone
      have HVU2 := Lib.hid hvu
      clear hvu hnu hurow hone
      go_wp2_with (
        at_builtin
        refine wpList_append_at rfl (.tmp 54) (.tmp 55) _ rfl w0.heap.size 87 i1 z1 2 32 Tryd.underlying67 hi1 hz1 hz2 hz3 hz4 (by decide) (.slice Au nu cu) nu (wcells g.us o.vs) rfl HUR.out A4 pn c4 _ (wcells us2 vs4) rfl (by rw [wcells_length HU6.out.len, HUL.out]) (Row.of_own (by have h1 := HU6.out.row; rw [HUL.out] at h1; exact h1)) (wcells_one _ _ HON.out) (by unfold maxLen; omega) (by omega) HPU.out.1.below0.size ?_
        intro v8 w8 hown8 hg8 hat8
        obtain ⟨A8, c8', hv8, _, _⟩ := own_form hown8
        subst hv8
        have hwg8 := HPU.out.1.blk.grown hg8 (fun e => own_not_whole HUR.out HPU.out.1.blk (by decide) e.symm)
        have t8 : w8.cell? ⟨o.l, 8, none⟩ = some (.slice Au nu cu) := (hwg8.cell 8).trans (by rw [← HVU2.out]; rfl)
        have y8 : w8.frozen? ⟨o.l, 8, none⟩ = false := hwg8.frozen 8
        have hpu := LmAt.pushU (us2 := us2) (vs2 := vs4) HPU.out.1 HU6.out.len (fun j h1 h2 => own_mono (HU6.out.each j h1 h2) (Nat.le_trans HH.out.below0.size HB3.out.size)) (fun v hv j ej => by
          obtain ⟨k', hk', rfl⟩ := List.getElem_of_mem hv
          have h4 := HUN4.out.each k' (by rw [HUN4.out.len]; exact hk') hk'
          have h5 := h4.lt j ej
          refine .inl (.inr ⟨Nat.le_trans HB3.out.size h5.1, Nat.lt_of_lt_of_le h5.2 HB45.out.size⟩)) (by
          rw [HUL.out, show ({ g with recs := g.recs ++ [(a, pn)] } : Lm).us.length = nu from HNU.out]
          exact hown8) (by rw [show ({ o with vr := .slice A3 (k + 1) c3' } : Lo).vu = .slice Au nu cu from HVU2.out]; exact hg8) (by rw [show ({ o with vr := .slice A3 (k + 1) c3' } : Lo).vu = .slice Au nu cu from HVU2.out]; exact hat8)
        have HPW := Lib.hid hpu
        clear hown8 hg8 hat8 hwg8 hpu)
      go_ret2
      refine ⟨_, ((Moved.ext (Moved.of_below HB5.out)).trans (Moved.of_below HBX.out)).trans (HPU.out.2.trans HPW.out.2), .inr ⟨HFI.out, rfl, ⟨o.l, .slice A3 (k + 1) c3', .slice A8 (nu + pn) c8', o.vs ++ vs4⟩, rfl, ?_⟩⟩
      have h9 := HPW.out.1
      simp only [HPE.out] at h9
      exact h9
end

end Go.Proofs.YtgfoekbdmgljbaaDoor
