/-
  The contract of the document's Sync.
-/
import Derived.Test.YtledoajhjkfaoaaVRefRead
import Derived.Test.YtledoajhjkfaoaaVSettle
import Derived.Test.YtledoajhjkfaoaaVSureP
namespace Go.Proofs.Ytledoajhjkfaoaa
open Go.RowKit

theorem rsec_size : (Try.prog.info? 65).map (·.size) = some 2 := by kernel_rfl
theorem built_rsec (A : Option Addr) (n c : Nat) : Try.prog.built 65 [(0, .slice A n c)] = some #[.slice A n c, .bool false] := by kernel_rfl
theorem rsec_one (A : Option Addr) (n c : Nat) (b : Bool) : ∀ v ∈ ([.slice A n c, .bool b] : List Value), v.oneCell' = true := by
  intro v hv
  simp only [List.mem_cons, List.not_mem_nil, or_false] at hv
  rcases hv with rfl | rfl <;> rfl

/-- What a call makes of the document's device. -/
def RWent (base : Nat) (w : World) (m : RLies) (y : Dv) (w' : World) : Prop := ∃ m' : RLies, m'.r = m.r ∧ RefAt w' base m' y ∧ Grew m.own w w'
def RWriteOut (base : Nat) (w : World) (m : RLies) (y : Dv) (k : Int) (e : Ending) (w' : World) : Prop := e = .returned (.int .i64 k) ∧ RWent base w m y w'
section
variable {w w1 w' wr V : World} {base : Nat} {m : RLies} {x y : Dv}
theorem RWent.refl (h : RefAt w base m x) : RWent base w m x w := ⟨m, rfl, h, Grew.refl _ _⟩
theorem RWent.spent (hg : Grew (fun j => j = m.r) w w1) (h : RWent base w1 m y w') : RWent base w m y w' := by
  obtain ⟨m', h1, h2, h3⟩ := h
  exact ⟨m', h1, h2, (hg.mono fun _ hj => .inl (.inl hj)).trans h3 fun _ hj => .inl hj⟩
/-- What is known within the loops over what is not sure. -/
structure RSet (w : World) (base r gs n c : Nat) (u : Value) (us : List Wri) (vs : List Value) (lim : Nat) (dn : Bool) (S : List Sec) (wr : World) : Prop where
  blk : Whole wr r 40 (refCells ⟨r, .slice (some ⟨gs, 0, none⟩) n c, u⟩ lim dn)
  sure : SAt wr base (.slice (some ⟨gs, 0, none⟩) n c) S
  uns : UnsAt wr base u us vs
  grew : Grew (RLies.own ⟨r, .slice (some ⟨gs, 0, none⟩) n c, u⟩) w wr
  lr : base ≤ r
variable {r gs n c : Nat} {u : Value} {us : List Wri} {vs : List Value} {lim : Nat} {dn : Bool} {S : List Sec}
theorem u8_block {e : TypeId} {size k : Nat} {v : Value} {xs : List Value} (h : w.ownsRow base e size v k xs) (he : e ≠ 5) {g : Nat} (hg : v.ownBlock = some g) : ¬ ∃ t fr cs, w.heap[g]? = some (.cells cs t fr) ∧ t = 5 := by
  rintro ⟨t, fr, cs, h1, rfl⟩
  rcases h.2 with ⟨rfl, _⟩ | ⟨g', cap, cur, rfl, _, hh, _⟩
  · cases hg
  · simp [Value.ownBlock] at hg
    subst hg
    rw [hh] at h1
    injection h1 with h1
    injection h1 with _ h1 _
    exact he h1
theorem RSet.keep (h : RSet w base r gs n c u us vs lim dn S wr) (hb : Below wr.heap.size wr V) : RSet w base r gs n c u us vs lim dn S V :=
  ⟨h.blk.keep (hb.block _ h.blk.lt), h.sure.keep fun g hg _ => hb.block g hg, h.uns.keep fun g hg _ => hb.block g hg, h.grew.then_below hb, h.lr⟩
/-- One sector is another one. -/
theorem RSet.put (h : RSet w base r gs n c u us vs lim dn S wr) {P : List (Sec × Value)} (hP : P.map Prod.fst = S) (hrow : wr.ownsRow base 65 2 (.slice (some ⟨gs, 0, none⟩) n c) n (scells P)) (heach : ∀ p ∈ P, wr.ownsRow base 5 1 p.2 512 (p.1.data.map bc))
    (hl : P.length = n) {p : Nat} {s : Sec} {b : Value} (hp : p < n) (hb : wr.ownsRow base 5 1 b 512 (s.data.map bc))
    (hV : V.ownsRow base 65 2 (.slice (some ⟨gs, 0, none⟩) n c) n (splice (scells P) (p * 2) [b, .bool s.torn])) (hg : Grew (fun j => j = gs) wr V) : RSet w base r gs n c u us vs lim dn (S.set p s) V := by
  rw [scells_set (by omega)] at hV
  have hnu : ∀ g, (∃ t fr cs, wr.heap[g]? = some (.cells cs t fr) ∧ t = 5) → g ≠ gs := by
    rintro g h1 rfl
    exact u8_block hrow (by decide) rfl h1
  have hkeep : ∀ g, g < wr.heap.size → (∃ t fr cs, wr.heap[g]? = some (.cells cs t fr) ∧ t = 5) → V.heap[g]? = wr.heap[g]? := fun g hg' h1 => hg.block g hg' (hnu g h1)
  have hby : ∀ {v : Value} {l : List UInt8}, wr.ownsRow base 5 1 v 512 (l.map bc) → V.ownsRow base 5 1 v 512 (l.map bc) := fun {v l} h1 => own_keep h1 fun g e => hkeep g (h1.lt g e).2 (by
    rcases h1.2 with ⟨e1, _⟩ | ⟨g', cap, cur, e1, _, hh, _⟩
    · rw [e1] at e; cases e
    · rw [e1] at e
      simp [Value.ownBlock] at e
      subst e
      exact ⟨_, _, _, hh, rfl⟩)
  have hr : r ≠ gs := fun e => own_not_whole hrow h.blk (by decide) (by rw [e]; rfl)
  refine ⟨h.blk.grew hg hr, ⟨P.set p (s, b), ?_, ?_, ?_⟩, h.uns.keep fun g hg' hj => ?_, h.grew.trans hg fun j hj => .inl (.inr (.inl (by rw [hj]; rfl))), h.lr⟩
  · rw [List.map_set, hP]
  · rw [List.length_set, hl]; exact hV
  · intro q hq
    rcases List.mem_or_eq_of_mem_set hq with h1 | rfl
    · exact hby (heach q h1)
    · exact hby hb
  · rcases hj with hj | hj
    · exact hg.block g hg' fun e => own_not_own h.uns.row hrow (by decide) rfl (by rw [hj, e])
    · exact hkeep g hg' hj
/-- The end: nothing is unsure. -/
theorem RSet.fin (h : RSet w base r gs n c u us vs lim dn S wr) (hy : y.ok) (h1 : y.sure = S) (h2 : y.uns = []) (h3 : y.limit = lim) (h4 : y.down = dn) : RWent base w ⟨r, .slice (some ⟨gs, 0, none⟩) n c, u⟩ y (wr.setCell ⟨r, 1, none⟩ (.slice none 0 0)) := by
  have hg : Grew (fun j => j = r) wr (wr.setCell ⟨r, 1, none⟩ (.slice none 0 0)) := grew_one _ _ _ _
  have hne : ∀ g, (∃ t fr cs, wr.heap[g]? = some (.cells cs t fr) ∧ t = 5) → g ≠ r := by
    rintro g ⟨t, fr, cs, hg5, ht⟩ rfl
    have hb := h.blk
    unfold Whole at hb
    rw [hg5] at hb
    simp at hb
    have h2 := hb.2.1
    rw [ht] at h2
    exact absurd h2 (by decide)
  refine ⟨⟨r, .slice (some ⟨gs, 0, none⟩) n c, .slice none 0 0⟩, rfl, ⟨?_, ?_, ⟨[], ?_⟩, h.lr, hy⟩, h.grew.trans hg fun j hj => .inl (.inl hj)⟩
  · rw [h3, h4]; exact h.blk.set_ 1 _
  · rw [h1]
    refine h.sure.keep fun g hg' hj => hg.block g hg' ?_
    rcases hj with hj | hj
    · obtain ⟨P, _, h2, _⟩ := h.sure
      rintro rfl
      exact own_not_whole h2 h.blk (by decide) hj
    · exact hne g hj
  · rw [h2]
    exact ⟨rfl, World.ownsRow_nil _ _ _ _, fun j hj _ => absurd hj (Nat.not_lt_zero _)⟩
end
def RRel (w : World) (base r gs n c : Nat) (u : Value) (x : Dv) (vs : List Value) (mk t : Nat) (i : Value) (wr : World) : Prop :=
  ∃ k : Nat, k ≤ x.uns.length ∧ i = .int .i64 k ∧ RSet w base r gs n c u x.uns vs x.limit x.down (crashN mk t x.uns x.sure k) wr

set_option maxRecDepth 4000 in
set_option maxHeartbeats 1000000 in
theorem ref_sync (w : World) (base : Nat) (m : RLies) (x : Dv) (h : RefAt w base m x) (hn : 0 < x.sure.length) (hu : x.uns.length < 4294967296) :
    Calls Try.prog 13 #[.pointer (some ⟨m.r, 0, none⟩)] w (RWriteOut base w m x.sync x.syncE) := by
  have c3 : w.cell? ⟨m.r, 3, none⟩ = some (.bool x.down) := h.blk.cell 3
  by_cases hd : x.down = true
  · have e1 : x.sync = x := by unfold Dv.sync; rw [if_pos hd]
    have e2 : x.syncE = 8 := by unfold Dv.syncE; rw [if_pos (.inl hd)]
    rw [e1, e2]
    rw [hd] at c3
    have H := Lib.hid h
    clear h hd e1 e2
    go_enter Try.func13, Try.ntmps13
    go_wp2
    go_ret
    exact ⟨rfl, RWent.refl H.out⟩
  have hdf : x.down = false := by simpa using hd
  have hl := ref_spend w base m x h hdf
  rw [hdf] at c3
  cases hlast : x.lasts with
  | false =>
    have e1 : x.sync = x.spent := by unfold Dv.sync; rw [if_neg hd, if_pos hlast]
    have e2 : x.syncE = 8 := by unfold Dv.syncE; rw [if_pos (.inr hlast)]
    rw [e1, e2]
    have hl2 : Calls Try.prog 28 #[.pointer (some ⟨m.r, 0, none⟩)] w (fun e w' => e = .returned (.bool false) ∧ RWent base w m x.spent w') := hl.mono fun e w' ⟨h1, h2, h3, h4⟩ => ⟨by rw [h1, hlast], RWent.spent h3 (RWent.refl h2)⟩
    have HL := Lib.hid hl2
    clear h hd hdf hl hl2 e1 e2 hlast
    go_enter Try.func13, Try.ntmps13
    go_wp2_with fail
    refine HL.out.mono ?_
    rintro e w' ⟨rfl, hw⟩
    have HW := Lib.hid hw
    clear hw
    go_wp2
    go_ret
    exact ⟨rfl, HW.out⟩
  | true =>
    have e1 : x.sync = x.spent.settled allOnes 0 := by unfold Dv.sync; rw [if_neg hd, if_neg (by rw [hlast]; decide)]
    have e2 : x.syncE = 0 := by unfold Dv.syncE; rw [if_neg (by rw [hlast]; simp [hd])]
    rw [e1, e2]
    have hl2 : Calls Try.prog 28 #[.pointer (some ⟨m.r, 0, none⟩)] w (fun e w' => e = .returned (.bool true) ∧ RefAt w' base m x.spent ∧ Grew (fun j => j = m.r) w w') := hl.mono fun e w' ⟨h1, h2, h3, h4⟩ => ⟨by rw [h1, hlast], h2, h3⟩
    have hu2 : x.spent.uns.length < 4294967296 := by rw [spent_uns]; exact hu
    have hn2 : 0 < x.spent.sure.length := by rw [spent_sure]; exact hn
    obtain ⟨y, hy⟩ : ∃ y, y = x.spent := ⟨_, rfl⟩
    rw [← hy] at hl2 hu2 hn2 ⊢
    have HL := Lib.hid hl2
    clear h hd hdf hl hl2 e1 e2 hlast hy hu hn
    go_enter Try.func13, Try.ntmps13
    go_wp2_with fail
    refine HL.out.mono ?_
    rintro e w1 ⟨rfl, h1, hg⟩
    have HG := Lib.hid hg
    obtain ⟨r, s, u⟩ := m
    obtain ⟨vs, huns⟩ := h1.uns
    obtain ⟨P0, hP0, hrow0, heach0⟩ := h1.sure
    obtain ⟨Au, cu, rfl, _, _⟩ := own_form huns.row
    have hPl0 : P0.length = y.sure.length := by rw [← hP0, List.length_map]
    rw [hPl0] at hrow0
    obtain ⟨As, cs, rfl, _, _⟩ := own_form hrow0
    obtain ⟨gs, rfl⟩ := own_some hrow0 (by omega)
    have hs1 : RSet w1 base r gs y.sure.length cs (.slice Au y.uns.length cu) y.uns vs y.limit y.down y.sure w1 := ⟨h1.blk, h1.sure, huns, Grew.refl _ _, h1.lr⟩
    have HS1 := Lib.hid hs1
    have H1 := Lib.hid h1
    have hfew := h1.ok.few
    have c1 : w1.cell? ⟨r, 1, none⟩ = some (.slice Au y.uns.length cu) := h1.blk.cell 1
    clear hs1 h1 hg hrow0 huns hP0 heach0 hPl0
    go_wp2
    go_loopw [3] (RRel w1 base r gs y.sure.length cs (.slice Au y.uns.length cu) y vs allOnes 0) (fun i _ => y.uns.length - (intOf i).toNat)
    case atStart => exact ⟨0, Nat.zero_le _, rfl, HS1.out⟩
    case round =>
      obtain ⟨k, hk, rfl, hs⟩ := hrel
      have HS := Lib.hid hs
      have c1 : wr.cell? ⟨r, 1, none⟩ = some (.slice Au y.uns.length cu) := hs.blk.cell 1
      have z1 : wr.frozen? ⟨r, 1, none⟩ = false := hs.blk.frozen 1
      by_cases hlt : k < y.uns.length
      · have c0 : wr.cell? ⟨r, 0, none⟩ = some (.slice (some ⟨gs, 0, none⟩) y.sure.length cs) := hs.blk.cell 0
        obtain ⟨gu, rfl⟩ := own_some hs.uns.row (by omega)
        have hw := wcells_at hs.uns.len hlt
        have hjv : k < vs.length := by have := hs.uns.len; omega
        have p0 : wr.cell? ⟨gu, k * 2, none⟩ = some (.int .i64 ((y.uns[k]).place : Int)) := by
          obtain ⟨h2, h3⟩ := List.getElem?_eq_some_iff.1 hw.1
          rw [own_cell hs.uns.row h2, h3]
        have p1 : wr.cell? ⟨gu, k * 2 + 1, none⟩ = some vs[k] := by
          obtain ⟨h2, h3⟩ := List.getElem?_eq_some_iff.1 hw.2
          rw [own_cell hs.uns.row h2, h3]
        have hv := hs.uns.each k hlt hjv
        have huw : y.uns[k].place < y.sure.length ∧ y.uns[k].data.length = 512 := H1.out.ok.u _ (List.getElem_mem hlt)
        have hstep := crashN_succ (m := allOnes) (t := 0) (us := y.uns) (l := y.sure) hlt
        obtain ⟨uk, huk⟩ : ∃ uk, uk = y.uns[k] := ⟨_, rfl⟩
        rw [← huk] at p0 hv huw hstep
        have hstep2 : crashN allOnes 0 y.uns y.sure (k + 1) = (crashN allOnes 0 y.uns y.sure k).set uk.place uk.sec := by
          rw [hstep]
          unfold stepC
          rw [if_neg (by simp [bitAt]), if_pos (ones_bit k)]
        obtain ⟨vk, hvk⟩ : ∃ vk, vk = vs[k] := ⟨_, rfl⟩
        rw [← hvk] at p1 hv
        obtain ⟨Ak, ck, rfl, _, _⟩ := own_form hv
        obtain ⟨P, hP, hrow, heach⟩ := hs.sure
        have hPl : P.length = y.sure.length := by rw [← length_crashN (m := allOnes) (t := 0) (us := y.uns) (l := y.sure) k, ← hP, List.length_map]
        rw [hPl] at hrow
        have hp := huw.1
        have HUW := Lib.hid huw
        have HV := Lib.hid hv
        have HST := Lib.hid hstep2
        have HP := Lib.hid hP
        have HROW := Lib.hid hrow
        have HE := Lib.hid heach
        have HPL := Lib.hid hPl
        clear hw hv huw hstep hstep2 huk hvk hP hrow heach hPl hs
        go_wp2_with fail
        refine wp_region_still_tail 22 (by kernel_rfl) (by kernel_rfl) ?_
        simp only [List.take_succ_cons, List.take_zero, List.drop_succ_cons, List.drop_zero]
        repeat (first
          | (refine wpStill_build1 rfl 65 0 (.tmp 41) rfl _ rfl _ (built_rsec Ak 512 ck) ?_)
          | still_step)
        refine wpStill_nil ?_
        refine wpList_store_own rfl 65 (.tmp 43) (.tmp 42) rfl gs (uk.place * 2) [.slice Ak 512 ck, .bool false] rfl rfl base 65 2 y.sure.length cs (scells P) (own_keep HROW.out fun _ _ => rfl) ?d1 rsec_size (rsec_one _ _ _ _) ?_
        case d1 => rw [length_scells, HPL.out]; show uk.place * 2 + 2 ≤ _; omega
        intro V4 hV4 hG4 hS4
        have HSV4 := Lib.hid (HS.out.put HP.out HROW.out HE.out HPL.out (s := uk.sec) hp HV.out hV4 (grew_rec hG4))
        clear hV4 hG4 hS4 p0 p1 c0 c1
        go_wp2
        refine ⟨⟨k + 1, by omega, by go_num, ?_⟩, by simp [intOf]; omega⟩
        rw [HST.out]
        exact HSV4.out
      · obtain rfl : k = y.uns.length := by omega
        clear hs
        go_wp2
        go_ret
        exact ⟨rfl, RWent.spent HG.out (HS.out.fin (H1.out.ok.settled _ _) rfl rfl rfl rfl)⟩

end Go.Proofs.Ytledoajhjkfaoaa
