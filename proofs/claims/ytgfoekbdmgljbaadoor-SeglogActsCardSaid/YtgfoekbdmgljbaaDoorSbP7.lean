/-
  Drop, Read and Open, over a model; the program's log is a log.
-/
import Derived.Test.YtgfoekbdmgljbaaDoorSbP6
import Derived.Test.YtgfoekbdmgljbaaDoorSbP5
namespace Go.Proofs.YtgfoekbdmgljbaaDoor
open Go.RowKit

/-- What Open leaves: a log that has saved the next block, or none, and a device that is as far. -/
def LOpenOut (w0 w : World) (D : Nat) (x : Dv) (b' : Blk) (P from_ : Nat) (rs : List (List UInt8)) (F : Nat → Prop) (e : Ending) (w' : World) : Prop :=
  ∃ F', Moved F w w' F' ∧ ((x.saveE b' = 0 ∧ ∃ o, e = .returned (.tuple #[lptr o, .int .i64 0]) ∧ LmAt w0 w' D (x.save b') o ⟨P, b', posL P from_ rs, [], false⟩ F') ∨
    (x.saveE b' ≠ 0 ∧ e = .returned (.tuple #[.pointer none, .int .i64 (x.saveE b')]) ∧ Holds w0 w' D (x.save b') ∧ (∀ j, ownD w' D j → F' j) ∧ ∀ j, F' j → w0.heap.size ≤ j ∧ j < w'.heap.size))
/-- A log, and a block that is none of its own. -/
theorem LmAt.offG {w0 w w' : World} {D : Nat} {x : Dv} {o : Lo} {g : Lm} {F : Nat → Prop} {b : Nat} (h : LmAt w0 w D x o g F) (hb : ¬ F b) (h0 : w0.heap.size ≤ b) (hg : Grew (fun j => j = b) w w') : LmAt w0 w' D x o g F :=
  h.keep (hg.below (fun j e => by subst e; exact h0) h.below0.size) fun j hj => hg.block j (h.foot j hj).2 fun e => hb (e ▸ hj)
section
variable {w0 w : World} {D : Nat} {x : Dv} {F : Nat → Prop}
set_option maxHeartbeats 4000000 in
set_option maxRecDepth 8000 in
theorem lopen_any (h : Holds w0 w D x) (hv : VarsAt w0) (hown : ∀ j, ownD w D j → F j) (hfoot : ∀ j, F j → w0.heap.size ≤ j ∧ j < w.heap.size) (hd : x.down = false) (P : Nat) (hP : 2 ≤ P) (hP2 : P ≤ 4094) (hx : x.sure.length = P + 2) (hu : x.uns.length < 4294967295)
    (gen : Int) (from_ first E cnt : Nat) (hg : -1 ≤ gen) (hg2 : gen ≤ 10000000) (hE : E < 4294967295) (hf2 : 2 ≤ from_) (hf3 : from_ < P + 2) (es : List Nat) (rs : List (List UInt8)) (hfi : first + rs.length ≤ 36028797018960000)
    (hF : Found (viewS x.now) P from_ first E cnt es rs)
    (hlast : ∀ W, Below w.heap.size w W → Calls Tryd.prog 24 #[.pointer (some ⟨D, 0, none⟩)] W (Gave W (.tuple #[.agg #[.int .i64 gen, .int .i64 (E : Int), .int .i64 (first : Int), .int .i64 (from_ : Int), .int .i64 (cnt : Int)], .int .i64 0]))) :
    Calls Tryd.prog 7 #[.pointer (some ⟨D, 0, none⟩)] w (LOpenOut w0 w D x ⟨gen + 1, (E : Int) + 1, first, from_, rs.length⟩ P from_ rs F) := by
  have hrl : rs.length ≤ 4094 := by have := length_le_taken rs; have := hF.few; omega
  have hfits : (⟨gen + 1, (E : Int) + 1, first, from_, rs.length⟩ : Blk).fits = true := by
    rw [show (E : Int) + 1 = ((E + 1 : Nat) : Int) from rfl]
    obtain ⟨g1, hg1⟩ : ∃ g1 : Nat, gen + 1 = (g1 : Int) := ⟨(gen + 1).toNat, by omega⟩
    rw [hg1]
    exact mkB_fits (by omega) (by omega) (by omega) (by omega) (by omega)
  have hlen : ∀ W, Below w.heap.size w W → Calls Tryd.prog 23 #[.pointer (some ⟨D, 0, none⟩)] W (Told W (.int .i64 ((P + 2 : Nat) : Int))) := fun W hb => by
    have := h_len (h.next hb)
    rwa [hx] at this
  have HLEN := Lib.hid hlen
  have HLAST := Lib.hid (hlast w (Below.refl _ _))
  have hfind : ∀ (V W : World) lb, Below w.heap.size w W → w.heap.size ≤ V.heap.size → V.heap.size ≤ lb → Whole W lb 69 (lCells D ⟨lb, .slice none 0 0, .slice none 0 0, []⟩ ⟨P, ⟨gen, E, first, from_, cnt⟩, [], [], false⟩) →
      LmAt w0 W D x ⟨lb, .slice none 0 0, .slice none 0 0, []⟩ ⟨P, ⟨gen, E, first, from_, cnt⟩, [], [], false⟩ (ext F V W) := fun V W lb hb hV hlb hw => by
    have hz := h.below.size
    refine ⟨hw, World.ownsRow_nil _ _ _ _, UnsAt.nil _ _, h.next hb, (by show w0.heap.size ≤ lb; omega), hv, fun j hj => ?_, fun j hj => ?_⟩
    · rcases hj with e | e | e | ⟨v, hv, e⟩ | e
      · subst e; exact .inr ⟨hlb, hw.lt⟩
      · cases e
      · cases e
      · cases hv
      · exact .inl (hown j ((ownD_keep (hb.block D h.lt) j).1 e))
    · have := hb.size
      rcases hj with h1 | h1
      · have := hfoot j h1; omega
      · omega
  have hfind2 : ∀ V W lb, LmAt w0 W D x ⟨lb, .slice none 0 0, .slice none 0 0, []⟩ ⟨P, ⟨gen, E, first, from_, cnt⟩, [], [], false⟩ (ext F V W) →
      Calls Tryd.prog 25 #[.pointer (some ⟨lb, 0, none⟩)] W (FindOut w0 W D x ⟨lb, .slice none 0 0, .slice none 0 0, []⟩ ⟨P, ⟨gen, E, first, from_, cnt⟩, [], [], false⟩ from_ rs (ext F V W)) := fun V W lb hl =>
    find_any hl hd rfl rfl hP hP2 hx from_ first E cnt es rs rfl rfl rfl rfl hf2 hf3 hfi (by omega) hF
  have HFI := Lib.hid hfind
  have HFI2 := Lib.hid hfind2
  have HFIT := Lib.hid hfits
  have HU := Lib.hid hu
  have HLW := Lib.hid h.below.size
  have HFT := Lib.hid hfoot
  obtain ⟨N, hN⟩ : ∃ N, rs.length = N := ⟨_, rfl⟩
  have HN := Lib.hid hN
  rw [hN] at HFIT hrl ⊢
  obtain ⟨L2, hL2⟩ : ∃ L2, P + 2 = L2 := ⟨_, rfl⟩
  rw [hL2] at HLEN
  have HL2 := Lib.hid hL2
  have d1 : decide ((L2 : Int) < 4) = false := by simp; omega
  have d1n : ¬ (L2 : Int) < 4 := by omega
  have d1m : ¬ L2 < 4 := by omega
  have r0 : IntKind.i64.wrap ((L2 : Int) - 2) = (P : Int) := by rw [show (L2 : Int) - 2 = (P : Int) by omega]; exact IntWalk.i64_in _ (by omega)
  have r1 : IntKind.i64.wrap (gen + 1) = gen + 1 := IntWalk.i64_in _ (by omega)
  have r2 : IntKind.i64.wrap ((E : Int) + 1) = (E : Int) + 1 := IntWalk.i64_in _ (by omega)
  clear h hv hown hfoot hd hP hx hu hg hg2 hE hf2 hf3 hfi hF hlast hfits hlen hfind hfind2 hN hL2
  go_enter Tryd.func7, Tryd.ntmps7
  go_wp2_with fail
  refine (HLEN.out _ (Below.refl _ _)).mono ?_
  rintro e w1 ⟨rfl, rfl⟩
  go_wp2_with fail
  refine HLAST.out.mono ?_
  rintro e w1 ⟨rfl, hb1⟩
  have HB1 := Lib.hid hb1
  clear hb1
  go_upto_region 6 with fail
  generalize hW2 : w1.alloc (Obj.cells #[.int .i64 gen, .int .i64 (E : Int), .int .i64 (first : Int), .int .i64 (from_ : Int), .int .i64 (cnt : Int)] 63) = W2
  have HB2 := Lib.hid (show Below w.heap.size w W2 by rw [← hW2]; exact HB1.out.alloc HB1.out.size _)
  have hwl : Whole W2 w1.heap.size 63 [.int .i64 gen, .int .i64 (E : Int), .int .i64 (first : Int), .int .i64 (from_ : Int), .int .i64 (cnt : Int)] := by rw [← hW2]; exact Whole.made _ _ _
  have HWL := Lib.hid hwl
  have HZ1 := Lib.hid HB1.out.size
  have m0 : W2.cell? ⟨w1.heap.size, 0, none⟩ = some (.int .i64 gen) := hwl.cell 0
  have m1 : W2.cell? ⟨w1.heap.size, 1, none⟩ = some (.int .i64 (E : Int)) := hwl.cell 1
  have m2 : W2.cell? ⟨w1.heap.size, 2, none⟩ = some (.int .i64 (first : Int)) := hwl.cell 2
  have m3 : W2.cell? ⟨w1.heap.size, 3, none⟩ = some (.int .i64 (from_ : Int)) := hwl.cell 3
  have m4 : W2.cell? ⟨w1.heap.size, 4, none⟩ = some (.int .i64 (cnt : Int)) := hwl.cell 4
  clear hW2 hwl
  go_region_held3 (fun X => X.cell? ⟨w1.heap.size, 0, none⟩ = some (.int .i64 gen) ∧ X.cell? ⟨w1.heap.size, 1, none⟩ = some (.int .i64 (E : Int)) ∧ X.cell? ⟨w1.heap.size, 2, none⟩ = some (.int .i64 (first : Int)) ∧ X.cell? ⟨w1.heap.size, 3, none⟩ = some (.int .i64 (from_ : Int)) ∧ X.cell? ⟨w1.heap.size, 4, none⟩ = some (.int .i64 (cnt : Int)))
    (go_keep)
    ((first
      | (go_at_call 23
         refine (HLEN.out _ HB2.out.drew).mono ?_
         rintro e w3 ⟨rfl, rfl⟩)))
  go_wp2_with fail
  have hW3 : ∃ W3, W3 = (W2.alloc (.cells #[.pointer (some ⟨D, 0, none⟩), .int .i64 (P : Int), .int .i64 gen, .int .i64 (E : Int), .int .i64 (first : Int), .int .i64 (from_ : Int), .int .i64 (cnt : Int), .slice none 0 0, .slice none 0 0, .bool false] 69)).drew := ⟨_, rfl⟩
  obtain ⟨W3, hW3⟩ := hW3
  rw [← hW3]
  have hb23 : Below W2.heap.size W2 W3 := by rw [hW3]; exact ((Below.refl _ _).alloc (Nat.le_refl _) _).drew
  have HB3 := Lib.hid (HB2.out.trans (hb23.mono HB2.out.size))
  have hlg : Whole W3 W2.heap.size 69 (lCells D ⟨W2.heap.size, .slice none 0 0, .slice none 0 0, []⟩ ⟨P, ⟨gen, E, first, from_, cnt⟩, [], [], false⟩) := by rw [hW3]; exact Whole.made W2 _ _
  have HLG := Lib.hid (HFI.out W2 W3 W2.heap.size HB3.out HB2.out.size (Nat.le_refl _) hlg)
  have HWL3 := Lib.hid (HWL.out.below hb23 HWL.out.lt)
  have HNF := Lib.hid (show w1.heap.size < W3.heap.size from HWL3.out.lt)
  have HNE := Lib.hid (show ¬ ext F W2 W3 w1.heap.size from fun he => by
    rcases he with h1 | h1
    · exact absurd (HFT.out _ h1).2 (by have := HB1.out.size; omega)
    · have := HWL.out.lt; omega)
  clear hW3 hb23 hlg
  refine (HFI2.out W2 W3 W2.heap.size HLG.out).mono ?_
  rintro e w4 ⟨rfl, o1, F1, hl4, ho1, hmv4⟩
  have HL4 := Lib.hid hl4
  have HO1 := Lib.hid ho1
  have HMV4 := Lib.hid hmv4
  have HWL4 := Lib.hid (hmv4.whole HWL3.out HNE.out)
  have HNF1 := Lib.hid (show ¬ F1 w1.heap.size from fun hf => by
    rcases hmv4.2 _ hf with h1 | h1
    · exact HNE.out h1
    · have := HNF.out; omega)
  have c7 := hl4.c7
  rw [ho1] at c7
  obtain ⟨Ar, cr, hvr, _, _⟩ := hl4.vr
  rw [hvr, show ({ places := P, block := ⟨gen, (E : Int), (first : Int), (from_ : Int), (cnt : Int)⟩, recs := posL P from_ rs, us := [], down := false } : Lm).recs.length = N from (length_posL _ _ _).trans HN.out] at c7
  have q0 : w4.cell? ⟨w1.heap.size, 0, none⟩ = some (.int .i64 gen) := HWL4.out.cell 0
  have q1 : w4.cell? ⟨w1.heap.size, 1, none⟩ = some (.int .i64 (E : Int)) := HWL4.out.cell 1
  have q4 : w4.cell? ⟨w1.heap.size, 4, none⟩ = some (.int .i64 (cnt : Int)) := HWL4.out.cell 4
  have y0 := HWL4.out.frozen 0
  have y1 := HWL4.out.frozen 1
  have y4 := HWL4.out.frozen 4
  have hne : w1.heap.size ≠ W2.heap.size := Nat.ne_of_lt HWL.out.lt
  have hne2 : W2.heap.size ≠ w1.heap.size := fun e => hne e.symm
  clear hl4 hmv4 hvr
  go_wp2_with fail
  go_region
  go_upto_region 10 with fail
  generalize hW5 : (((w4.setCell ⟨w1.heap.size, 0, none⟩ (.int .i64 (gen + 1))).setCell ⟨w1.heap.size, 1, none⟩ (.int .i64 ((E : Int) + 1))).setCell ⟨w1.heap.size, 4, none⟩ (.int .i64 (N : Int))).drew = W5
  have hg5 : Grew (fun j => j = w1.heap.size) w4 W5 := by
    rw [← hW5]
    exact ((((Grew.refl (fun j => j = w1.heap.size) w4).setCell (a := ⟨w1.heap.size, 0, none⟩) (.inl rfl) _).setCell (a := ⟨w1.heap.size, 1, none⟩) (.inl rfl) _).setCell (a := ⟨w1.heap.size, 4, none⟩) (.inl rfl) _).drewN 1
  have hw5 : Whole W5 w1.heap.size 63 [.int .i64 (gen + 1), .int .i64 ((E : Int) + 1), .int .i64 (first : Int), .int .i64 (from_ : Int), .int .i64 (N : Int)] := by
    rw [← hW5]
    exact (((HWL4.out.set_ 0 (.int .i64 (gen + 1))).set_ 1 (.int .i64 ((E : Int) + 1))).set_ 4 (.int .i64 (N : Int)))
  have hl5 := HL4.out.offG HNF1.out (Nat.le_trans HLW.out HZ1.out) hg5
  have hm5 : Moved F w W5 F1 := by
    have h1 : Moved F w W3 (ext F W2 W3) := ⟨Grew.all HB3.out, fun j hj => hj.imp id fun h => Nat.le_trans HB2.out.size h.1⟩
    have h2 := h1.trans HMV4.out
    exact ⟨h2.1.trans hg5 fun j e => .inr (by subst e; exact HZ1.out), h2.2⟩
  have HW5 := Lib.hid hw5
  have HL5 := Lib.hid hl5
  have HM5 := Lib.hid hm5
  have hc := lsave_any hl5 ⟨gen + 1, (E : Int) + 1, first, from_, N⟩ HFIT.out HU.out
  unfold lptr Blk.val at hc
  rw [HO1.out] at hc
  have HC := Lib.hid hc
  clear hc
  have m0 : W5.cell? ⟨w1.heap.size, 0, none⟩ = some (.int .i64 (gen + 1)) := hw5.cell 0
  have m1 : W5.cell? ⟨w1.heap.size, 1, none⟩ = some (.int .i64 ((E : Int) + 1)) := hw5.cell 1
  have m2 : W5.cell? ⟨w1.heap.size, 2, none⟩ = some (.int .i64 (first : Int)) := hw5.cell 2
  have m3 : W5.cell? ⟨w1.heap.size, 3, none⟩ = some (.int .i64 (from_ : Int)) := hw5.cell 3
  have m4 : W5.cell? ⟨w1.heap.size, 4, none⟩ = some (.int .i64 (N : Int)) := hw5.cell 4
  clear hW5 hg5 hw5 hl5 hm5 q0 q1 q4 y0 y1 y4 c7
  go_wp2_with fail
  refine HC.out.mono ?_
  rintro e w6 ⟨he, F6, hm6, hs6⟩
  obtain ⟨SE, hSE⟩ : ∃ SE, x.saveE ⟨gen + 1, (E : Int) + 1, first, from_, N⟩ = SE := ⟨_, rfl⟩
  rw [hSE] at he
  subst he
  have HSE := Lib.hid hSE
  clear hSE
  have HM6 := Lib.hid (HM5.out.trans hm6)
  have HS6 := Lib.hid hs6
  clear hm6 hs6
  by_cases hE0 : SE = 0
  · subst hE0
    go_wp2
    go_ret2
    refine ⟨F6, HM6.out, .inl ⟨HSE.out, { o1 with vu := .slice none 0 0, vs := [] }, ?_, ?_⟩⟩
    case refine_2 =>
      rcases HS6.out with ⟨_, h1⟩ | ⟨h1, _⟩
      · exact h1
      · exact absurd HSE.out h1
    · unfold lptr
      rw [HO1.out]
      rfl
  · have dS : (SE != 0) = true := by rw [bne_iff_ne]; exact hE0
    have HE0 := Lib.hid hE0
    clear hE0
    go_wp2
    go_ret2
    refine ⟨F6, HM6.out, .inr ⟨(by rw [HSE.out]; exact HE0.out), (by rw [HSE.out]; rfl), ?_⟩⟩
    rcases HS6.out with ⟨h1, _⟩ | ⟨_, h1⟩
    · exact absurd (HSE.out.symm.trans h1) HE0.out
    · exact ⟨h1.dev, fun j hj => h1.own j (.inr (.inr (.inr (.inr hj)))), fun j hj => h1.foot j hj⟩
end

end Go.Proofs.YtgfoekbdmgljbaaDoor

namespace Go.Proofs.YtgfoekbdmgljbaaDoor
open Go.RowKit

theorem length_unsW (P from_ first E k : Nat) (rs : List (List UInt8)) : (unsW P from_ first E k rs).length = takenL (rs.drop k) := by
  unfold unsW takenL
  rw [List.length_flatMap]
  congr 1
  refine List.ext_getElem (by simp) fun i h1 h2 => ?_
  simp only [List.getElem_map, List.getElem_range, recW_length, List.getElem_drop]
  rw [List.getD_eq_getElem?_getD, List.getElem?_eq_getElem (by simp at h2; omega)]
  rfl
/-- The log stands, for the model M. -/
structure AtR (w0 w : World) (D : Nat) (x : Dv) (o : Lo) (g : Lm) (M : Lg) (fr : Bool) (F : Nat → Prop) (gen from_ cnt : Nat) : Prop where
  at_ : LmAt w0 w D x o g F
  ok : M.ok
  p2 : 2 ≤ M.places
  lim : fr = true → x.limit = 0
  places : g.places = M.places
  block : g.block = mkB gen M.epoch M.first from_ cnt
  recs : g.recs = posL M.places from_ M.recs
  hi : M.first + M.recs.length < 36028797018960000
  state : (M.down = false ∧ g.down = false ∧ g.us = unsW M.places from_ M.first M.epoch M.sure M.recs ∧ ∃ S L es, x = ⟨S, [], L, false⟩ ∧ Live S M gen from_ cnt es) ∨
    (M.down = true ∧ g.down = true ∧ x.uns.length ≤ 4294967294 ∧ ∀ m t, Opens (x.crash m t).sure M)
def AtL (w : World) (b : Nat) (lv : Value) (D : Nat) (M : Lg) (fr : Bool) (F : Nat → Prop) : Prop :=
  ∃ w0 x o g gen from_ cnt, w0.heap.size = b ∧ lv = lptr o ∧ AtR w0 w D x o g M fr F gen from_ cnt
def DeadL (w : World) (b D : Nat) (M : Lg) (fr : Bool) (F : Nat → Prop) : Prop :=
  ∃ w0 S L, w0.heap.size = b ∧ VarsAt w0 ∧ Holds w0 w D ⟨S, [], L, false⟩ ∧ (fr = true → L = 0) ∧ Opens S M ∧ (∀ j, ownD w D j → F j) ∧ ∀ j, F j → b ≤ j ∧ j < w.heap.size
def BrokenL (w : World) (b D : Nat) (M : Lg) (F : Nat → Prop) : Prop :=
  ∃ w0 x, w0.heap.size = b ∧ VarsAt w0 ∧ Holds w0 w D x ∧ x.uns.length ≤ 4294967294 ∧ (∀ m t, Opens (x.crash m t).sure M) ∧ (∀ j, ownD w D j → F j) ∧ ∀ j, F j → b ≤ j ∧ j < w.heap.size

section
variable {w0 w w' : World} {b D : Nat} {lv : Value} {x : Dv} {o : Lo} {g : Lm} {M : Lg} {fr : Bool} {F F' : Nat → Prop} {gen from_ cnt : Nat}
theorem AtR.with_ (h : AtR w0 w D x o g M fr F gen from_ cnt) (h' : LmAt w0 w' D x o g F') : AtR w0 w' D x o g M fr F' gen from_ cnt :=
  ⟨h', h.ok, h.p2, h.lim, h.places, h.block, h.recs, h.hi, h.state⟩
theorem AtR.reclen (h : AtR w0 w D x o g M fr F gen from_ cnt) : g.recs.length = M.recs.length := by rw [h.recs, length_posL]
theorem AtR.few (h : AtR w0 w D x o g M fr F gen from_ cnt) : M.recs.length ≤ 4094 := by
  have h1 := length_le_taken M.recs
  have h2 := h.ok.few
  have h3 := h.ok.places
  unfold Lg.taken at h2
  omega
theorem AtR.first_ (h : AtR w0 w D x o g M fr F gen from_ cnt) : g.block.first = (M.first : Int) := by rw [h.block]; rfl
theorem AtR.epoch_ (h : AtR w0 w D x o g M fr F gen from_ cnt) : g.block.epoch = (M.epoch : Int) := by rw [h.block]; rfl
theorem AtR.begun_ (h : AtR w0 w D x o g M fr F gen from_ cnt) : g.block.begun = (from_ : Int) := by rw [h.block]; rfl
theorem few_uns (h : M.ok) : (unsW M.places from_ M.first M.epoch M.sure M.recs).length ≤ 4094 := by
  rw [length_unsW]
  have h1 := takenL_drop M.recs M.sure
  have h2 := h.few
  have h3 := h.places
  unfold Lg.taken at h2
  omega
theorem AtR.fewU (h : AtR w0 w D x o g M fr F gen from_ cnt) (hu : g.us = unsW M.places from_ M.first M.epoch M.sure M.recs) : g.us.length ≤ 4094 := by rw [hu]; exact few_uns h.ok
theorem at_own (h : AtL w b lv D M fr F) : b ≤ w.heap.size ∧ ∀ j, F j → b ≤ j ∧ j < w.heap.size := by
  obtain ⟨w0, x, o, g, gen, from_, cnt, rfl, _, h⟩ := h
  exact ⟨h.at_.below0.size, h.at_.foot⟩
theorem at_keep (h : AtL w b lv D M fr F) (hb : Below b w w') (hk : ∀ j, F j → w'.heap[j]? = w.heap[j]?) : AtL w' b lv D M fr F := by
  obtain ⟨w0, x, o, g, gen, from_, cnt, rfl, hl, h⟩ := h
  exact ⟨w0, x, o, g, gen, from_, cnt, rfl, hl, h.with_ (h.at_.keep hb hk)⟩
theorem dead_keep (h : DeadL w b D M fr F) (hb : Below b w w') (hk : ∀ j, F j → w'.heap[j]? = w.heap[j]?) : DeadL w' b D M fr F := by
  obtain ⟨w0, S, L, rfl, hv, hh, hf, ho, h1, h2⟩ := h
  have hkd : ∀ j, ownD w D j → w'.heap[j]? = w.heap[j]? := fun j hj => hk j (h1 j hj)
  exact ⟨w0, S, L, rfl, hv, hh.keep (hh.below.trans hb) hkd, hf, ho, fun j hj => h1 j ((ownD_keep (hkd D (.inl rfl)) j).1 hj), fun j hj => by have := h2 j hj; have := hb.size; omega⟩

theorem first_at (h : AtL w b lv D M fr F) : Calls Tryd.prog 18 #[lv] w (Gave w (.int .i64 (M.first : Int))) := by
  obtain ⟨w0, x, o, g, gen, from_, cnt, rfl, rfl, h⟩ := h
  exact (first_any h.at_ M.first h.first_).mono fun e w' ⟨h1, h2⟩ => ⟨h1, by subst h2; exact Below.refl _ _⟩
theorem epoch_at (h : AtL w b lv D M fr F) : Calls Tryd.prog 36 #[lv] w (Gave w (.int .i64 (M.epoch : Int))) := by
  obtain ⟨w0, x, o, g, gen, from_, cnt, rfl, rfl, h⟩ := h
  exact (epoch_any h.at_ M.epoch h.epoch_).mono fun e w' ⟨h1, h2⟩ => ⟨h1, by subst h2; exact Below.refl _ _⟩
theorem next_at (h : AtL w b lv D M fr F) : Calls Tryd.prog 19 #[lv] w (Gave w (.int .i64 (M.next : Int))) := by
  obtain ⟨w0, x, o, g, gen, from_, cnt, rfl, rfl, h⟩ := h
  have h1 := next_any h.at_ M.first h.first_ (by rw [h.reclen]; exact h.ok.high)
  rw [h.reclen] at h1
  exact h1
theorem room_at (h : AtL w b lv D M fr F) : Calls Tryd.prog 22 #[lv] w (Gave w (.int .i64 ((M.places - M.taken : Nat) : Int))) := by
  obtain ⟨w0, x, o, g, gen, from_, cnt, rfl, rfl, h⟩ := h
  have h1 := room_any h.at_ (by rw [h.recs, sumP_posL, h.places]; exact h.ok.few) (by rw [h.places]; exact h.ok.places) (by rw [h.reclen]; exact h.few)
  rw [h.recs, sumP_posL, h.places] at h1
  exact h1
theorem append_at (h : AtL w b lv D M fr F) (hu : M.used < 1000000) (A : Option Addr) (c n : Nat) (l : List UInt8) (hl : l.length = n) (hA : Row w w.heap.size A (l.map bc)) (hc : n ≤ c) (hn : n ≤ 16384) :
    Calls Tryd.prog 9 #[lv, .slice A n c] w
      (fun e w' => ∃ z g M' F', e = .returned (.tuple #[.int .i64 z, .int .i64 g]) ∧ AppendTo M fr l z g M' ∧ AtL w' b lv D M' fr F' ∧ Moved F w w' F') := by
  obtain ⟨w0, x, o, g, gen, from_, cnt, rfl, rfl, h⟩ := h
  rcases h.state with ⟨hd, hg, hus, S, L, es, rfl, hv⟩ | ⟨hd, hg, hs⟩
  · have hbk := hv.bk
    have hnx := hv.nxt
    have hlm := hv.lim
    unfold maxUsed at hlm
    have hrg := hbk.rng
    have hep := hbk.ep
    have hfw := hbk.few
    refine (lappend_any h.at_ hg rfl (by rw [h.places]; exact h.p2) (by rw [h.places]; exact h.ok.places) M.first from_ M.epoch M.recs (by rw [h.places]; exact h.recs) h.first_ h.epoch_ h.begun_ hrg.1 (by rw [h.places]; exact hrg.2) h.ok.recs (by rw [h.places]; exact h.ok.few) h.hi (by omega) (h.fewU hus) A c n l hl hn hA hc).mono ?_
    rintro e w' ⟨F', hm, ⟨h1, rfl, ha⟩ | ⟨h1, rfl, o', ho', ha⟩⟩
    · exact ⟨0, 10, M, F', rfl, .inr (.inl ⟨hd, by rw [← h.places, hl]; exact h1, rfl, rfl⟩), ⟨w0, _, o, g, gen, from_, cnt, rfl, rfl, h.with_ ha⟩, hm⟩
    · have hlv := hv.pushed (l := l) (by omega) (by rw [← h.places, hl]; exact h1) (by unfold maxUsed; exact hu)
      refine ⟨_, 0, { M with recs := M.recs ++ [l], used := M.used + 1 }, F', rfl, .inr (.inr (.inl ⟨hd, by rw [← h.places, hl]; exact h1, rfl, rfl, rfl⟩)), ⟨w0, _, o', _, gen, from_, cnt, rfl, by unfold lptr; rw [ho'], ha, hlv.ok, h.p2, h.lim, h.places, h.block, by rw [h.places], ?_, .inl ⟨hd, hg, ?_, S, L, es, rfl, hlv⟩⟩, hm⟩
      · show M.first + (M.recs ++ [l]).length < _
        rw [List.length_append, List.length_singleton]
        omega
      · show g.us ++ _ = unsW M.places from_ M.first M.epoch M.sure (M.recs ++ [l])
        rw [unsW_app hv.sure, hus, h.places]
  · refine (lappend_down h.at_ hg _).mono ?_
    rintro e w' ⟨rfl, ha, hm⟩
    exact ⟨0, 8, M, F, rfl, .inl ⟨hd, rfl, rfl⟩, ⟨w0, _, o, g, gen, from_, cnt, rfl, rfl, h.with_ ha⟩, hm⟩
theorem okU_at (h : AtR w0 w D x o g M fr F gen from_ cnt) {S : List Sec} {es : List Nat} (hus : g.us = unsW M.places from_ M.first M.epoch M.sure M.recs) (hv : Live S M gen from_ cnt es) : ∀ u ∈ g.us, u.place < S.length ∧ u.data.length = 512 := fun u hu => by
  rw [hus] at hu
  obtain ⟨j, i, _, _, _, h4, _, _, h5⟩ := hv.write hu
  exact ⟨by rw [h4, hv.len]; exact arN_lt (by have := h.p2; omega) _, h5⟩
theorem sync_at (h : AtL w b lv D M fr F) : Calls Tryd.prog 12 #[lv] w
      (fun e w' => ∃ g M' F', e = .returned (.int .i64 g) ∧ SyncTo M fr g M' ∧ AtL w' b lv D M' fr F' ∧ Moved F w w' F') := by
  obtain ⟨w0, x, o, g, gen, from_, cnt, rfl, rfl, h⟩ := h
  rcases h.state with ⟨hd, hg, hus, S, L, es, rfl, hv⟩ | ⟨hd, hg, hs⟩
  · refine (lsync_any h.at_ hg (h.fewU hus) (okU_at h hus hv)).mono ?_
    rintro e w' ⟨F', hm, ⟨rfl, L', o', hL, ho', ha⟩ | ⟨rfl, hL, k, ha⟩⟩
    · obtain ⟨es', hy⟩ := hv.synced hus
      refine ⟨0, { M with sure := M.recs.length }, F', rfl, .inr (.inl ⟨hd, rfl, rfl⟩), ⟨w0, _, o', _, gen, from_, cnt, rfl, by unfold lptr; rw [ho'], ha, hy.ok, h.p2, fun hf => hL (h.lim hf), h.places, h.block, h.recs, h.hi, .inl ⟨hd, hg, ?_, _, L', es', rfl, hy⟩⟩, hm⟩
      exact (unsW_none _ _ _ _ _).symm
    · have hfr : fr = false := by
        cases fr
        · rfl
        · exact absurd (h.lim rfl) hL
      refine ⟨8, { M with down := true }, F', rfl, .inr (.inr ⟨hd, hfr, rfl, rfl⟩), ⟨w0, _, o, _, gen, from_, cnt, rfl, rfl, ha, ⟨h.ok.few, h.ok.places, h.ok.sure, h.ok.high, h.ok.age, h.ok.recs⟩, h.p2, fun hf => absurd hf (by rw [hfr]; decide), h.places, h.block, h.recs, h.hi, .inr ⟨rfl, rfl, ?_, fun m t => ?_⟩⟩, hm⟩
      · have := h.fewU hus
        show (g.us.take k).length ≤ _
        rw [List.length_take]
        omega
      · exact (After.crash hv m t (U := g.us.take k) (fun u hu => by rw [← hus]; exact List.mem_of_mem_take hu) _).opens hv ⟨rfl, rfl, rfl, rfl⟩ (Nat.le_refl _) (Nat.le_refl _) hv.lim
  · refine (lsync_down h.at_ hg).mono ?_
    rintro e w' ⟨rfl, ha, hm⟩
    exact ⟨8, M, F, rfl, .inl ⟨hd, rfl, rfl⟩, ⟨w0, _, o, g, gen, from_, cnt, rfl, rfl, h.with_ ha⟩, hm⟩
theorem crash_at (h : AtL w b lv D M fr F) (m t : Nat) (hm : m < 18446744073709551616) (ht : t < 18446744073709551616) : Calls Tryd.prog 15 #[.pointer (some ⟨D, 0, none⟩), .int .u64 (m : Int), .int .u64 (t : Int)] w
      (fun e w' => ∃ F', e = .returned (.int .i64 0) ∧ DeadL w' b D M true F' ∧ Moved F w w' F') := by
  obtain ⟨w0, x, o, g, gen, from_, cnt, rfl, rfl, h⟩ := h
  have hu : x.uns.length ≤ 4294967294 := by
    rcases h.state with ⟨_, _, _, S, L, es, rfl, _⟩ | ⟨_, _, h1, _⟩
    · exact Nat.zero_le _
    · exact h1
  have ho : Opens (x.crash m t).sure M := by
    rcases h.state with ⟨_, _, _, S, L, es, rfl, hv⟩ | ⟨_, _, _, h1⟩
    · exact hv.opens ⟨rfl, rfl, rfl, rfl⟩ (Nat.le_refl _) (Nat.le_refl _) hv.lim
    · exact h1 m t
  refine (e_crash h.at_.dev m t hm ht (by omega)).mono ?_
  rintro e w' ⟨rfl, hh, hk⟩
  obtain ⟨ha, hmv⟩ := h.at_.stepE hk hh
  exact ⟨_, rfl, ⟨w0, _, _, rfl, ha.vars, ha.dev, fun _ => rfl, ho, fun j hj => ha.own j (.inr (.inr (.inr (.inr hj)))), ha.foot⟩, hmv⟩
theorem limit_at (h : AtL w b lv D M fr F) (n : Nat) (hn : n ≤ 9223372036854775807) : Calls Tryd.prog 14 #[.pointer (some ⟨D, 0, none⟩), .int .i64 (n : Int)] w
      (fun e w' => ∃ F', e = .returned (.int .i64 0) ∧ AtL w' b lv D M (decide (n = 0)) F' ∧ Moved F w w' F') := by
  obtain ⟨w0, x, o, g, gen, from_, cnt, rfl, rfl, h⟩ := h
  refine (e_limit h.at_.dev n hn).mono ?_
  rintro e w' ⟨rfl, hh, hk⟩
  obtain ⟨ha, hmv⟩ := h.at_.stepE hk hh
  refine ⟨_, rfl, ⟨w0, _, o, g, gen, from_, cnt, rfl, rfl, ha, h.ok, h.p2, fun hf => by simpa using hf, h.places, h.block, h.recs, h.hi, ?_⟩, hmv⟩
  rcases h.state with ⟨hd, hg, hus, S, L, es, rfl, hv⟩ | ⟨hd, hg, h1, h2⟩
  · exact .inl ⟨hd, hg, hus, S, n, es, rfl, hv⟩
  · exact .inr ⟨hd, hg, h1, h2⟩
/-- The frame of what a device's call leaves. -/
theorem heldE {F : Nat → Prop} (hk : KeptE D w w') (hh : Holds w0 w' D x) (h1 : ∀ j, ownD w D j → F j) (h2 : ∀ j, F j → w0.heap.size ≤ j ∧ j < w.heap.size) (hz : w0.heap.size ≤ w.heap.size) : (∀ j, ownD w' D j → ext F w w' j) ∧ (∀ j, ext F w w' j → w0.heap.size ≤ j ∧ j < w'.heap.size) ∧ Moved F w w' (ext F w w') := by
  have hs := hk.grew.size
  refine ⟨fun j hj => ?_, fun j hj => ?_, hk.grew.mono fun j hj => .inl (h1 j hj), fun j hj => hj.imp id fun h => h.1⟩
  · rcases hk.own_ j hj with e | e
    · exact .inl (h1 j e)
    · exact .inr ⟨e, (hh.own_ hj).2⟩
  · rcases hj with e | e
    · have := h2 j e; omega
    · omega
theorem crash_broken_at (h : BrokenL w b D M F) (m t : Nat) (hm : m < 18446744073709551616) (ht : t < 18446744073709551616) : Calls Tryd.prog 15 #[.pointer (some ⟨D, 0, none⟩), .int .u64 (m : Int), .int .u64 (t : Int)] w
      (fun e w' => ∃ F', e = .returned (.int .i64 0) ∧ DeadL w' b D M true F' ∧ Moved F w w' F') := by
  obtain ⟨w0, x, rfl, hv, hh, hu, ho, h1, h2⟩ := h
  refine (e_crash hh m t hm ht (by omega)).mono ?_
  rintro e w' ⟨rfl, hh', hk⟩
  obtain ⟨k1, k2, k3⟩ := heldE hk hh' h1 h2 hh.below.size
  exact ⟨_, rfl, ⟨w0, _, _, rfl, hv, hh', fun _ => rfl, ho m t, k1, k2⟩, k3⟩
theorem limit_dead_at (h : DeadL w b D M fr F) (n : Nat) (hn : n ≤ 9223372036854775807) : Calls Tryd.prog 14 #[.pointer (some ⟨D, 0, none⟩), .int .i64 (n : Int)] w
      (fun e w' => ∃ F', e = .returned (.int .i64 0) ∧ DeadL w' b D M (decide (n = 0)) F' ∧ Moved F w w' F') := by
  obtain ⟨w0, S, L, rfl, hv, hh, _, ho, h1, h2⟩ := h
  refine (e_limit hh n hn).mono ?_
  rintro e w' ⟨rfl, hh', hk⟩
  obtain ⟨k1, k2, k3⟩ := heldE hk hh' h1 h2 hh.below.size
  exact ⟨_, rfl, ⟨w0, S, n, rfl, hv, hh', fun hf => by simpa using hf, ho, k1, k2⟩, k3⟩
end

end Go.Proofs.YtgfoekbdmgljbaaDoor

namespace Go.Proofs.YtgfoekbdmgljbaaDoor
open Go.RowKit

section
variable {w0 w w' : World} {b D : Nat} {lv : Value} {x : Dv} {o : Lo} {g : Lm} {M : Lg} {fr : Bool} {F F' : Nat → Prop} {gen from_ cnt : Nat}
theorem lgread_at (h : AtL w b lv D M fr F) (hd : M.down = false) (i : Int) : Calls Tryd.prog 20 #[lv, .int .i64 i] w
      (fun e w' => ∃ A c F', e = .returned (.tuple #[.slice A (readGB M i).length c, .int .i64 (readGE M i)]) ∧ w'.ownsRow w.heap.size 5 1 (.slice A (readGB M i).length c) (readGB M i).length ((readGB M i).map bc) ∧
        AtL w' b lv D M fr F' ∧ Moved F w w' F') := by
  obtain ⟨w0, x, o, g, gen, from_, cnt, rfl, rfl, h⟩ := h
  rcases h.state with ⟨_, hg, hus, S, L, es, rfl, hv⟩ | ⟨hd', _⟩
  case inr => rw [hd] at hd'; cases hd'
  have fin : ∀ e w', ReadOutL w (readGB M i) (readGE M i) e w' → ∃ A c F', e = .returned (.tuple #[.slice A (readGB M i).length c, .int .i64 (readGE M i)]) ∧ w'.ownsRow w.heap.size 5 1 (.slice A (readGB M i).length c) (readGB M i).length ((readGB M i).map bc) ∧
        AtL w' w0.heap.size (lptr o) D M fr F' ∧ Moved F w w' F' := fun e w' ⟨v, he, hown, hb⟩ => by
    obtain ⟨A, c, rfl, _, _⟩ := own_form hown
    exact ⟨A, c, F, he, hown, ⟨w0, _, o, g, gen, from_, cnt, rfl, rfl, h.with_ (h.at_.below hb)⟩, Moved.of_below hb⟩
  refine Calls.mono ?_ fin
  have hhi := h.hi
  rcases Int.lt_or_le i (M.first : Int) with h1 | h1
  · have e1 : readGE M i = 12 := by unfold readGE; rw [if_pos h1]
    have e2 : readGB M i = [] := by unfold readGB; rw [e1, if_neg (by decide)]
    rw [e1, e2]
    exact lread_no h.at_ hg rfl M.first M.recs.length h.first_ h.reclen (by omega) i 12 (.inl ⟨h1, rfl⟩)
  · rcases Int.lt_or_le i (M.next : Int) with h2 | h2
    · have e1 : readGE M i = 0 := by unfold readGE; rw [if_neg (by omega), if_neg (by omega)]
      obtain ⟨j, hj⟩ : ∃ j, (i - (M.first : Int)).toNat = j := ⟨_, rfl⟩
      have e2 : readGB M i = M.recs.getD j [] := by unfold readGB; rw [e1, if_pos rfl, hj]
      have hjl : j < M.recs.length := by unfold Lg.next at h2; omega
      obtain ⟨ep, hrec⟩ := hv.seen hjl
      rw [e1, e2]
      refine lread_yes h.at_ hg rfl (h.fewU hus) (by rw [h.places]; exact h.p2) (by rw [h.places]; exact h.ok.places) (by rw [h.places]; exact hv.len) M.first from_ M.recs.length M.recs h.first_ (by rw [h.places]; exact h.recs) rfl h.few (by omega) j hjl (ep := ep) ?_ hv.bk.rng.1 i (by omega)
      rw [h.places]
      show RecIn (viewU g.us (viewS S)) _ _ _ _ _
      rw [hus]
      exact hrec
    · have e1 : readGE M i = 11 := by unfold readGE; rw [if_neg (by omega), if_pos h2]
      have e2 : readGB M i = [] := by unfold readGB; rw [e1, if_neg (by decide)]
      rw [e1, e2]
      exact lread_no h.at_ hg rfl M.first M.recs.length h.first_ h.reclen (by omega) i 11 (.inr ⟨h2, rfl⟩)
set_option maxHeartbeats 1000000 in
theorem drop_at (h : AtL w b lv D M fr F) (hu : M.used < 1000000) (sq : Int) : Calls Tryd.prog 13 #[lv, .int .i64 sq] w
      (fun e w' => ∃ g M' F', e = .returned (.int .i64 g) ∧ DropTo M fr sq g M' ∧ AtL w' b lv D M' fr F' ∧ Moved F w w' F') := by
  obtain ⟨w0, x, o, g, gen, from_, cnt, rfl, rfl, h⟩ := h
  rcases h.state with ⟨hd, hg, hus, S, L, es, rfl, hv⟩ | ⟨hd, hg, hs⟩
  case inr =>
    refine (ldrop_down h.at_ hg sq).mono ?_
    rintro e w' ⟨rfl, ha, hm⟩
    exact ⟨8, M, F, rfl, .inl ⟨hd, rfl, rfl⟩, ⟨w0, _, o, g, gen, from_, cnt, rfl, rfl, h.with_ ha⟩, hm⟩
  have hhi := h.hi
  have gave : ∀ (E : Int) e w', Gave w (.int .i64 E) e w' → DropTo M fr sq E M → ∃ g' M' F', e = .returned (.int .i64 g') ∧ DropTo M fr sq g' M' ∧ AtL w' w0.heap.size (lptr o) D M' fr F' ∧ Moved F w w' F' := fun E e w' ⟨he, hb⟩ hT =>
    ⟨E, M, F, he, hT, ⟨w0, _, o, g, gen, from_, cnt, rfl, rfl, h.with_ (h.at_.below hb)⟩, Moved.of_below hb⟩
  rcases Int.lt_or_le (M.next : Int) sq with h1 | h1
  · refine (ldrop_none h.at_ hg rfl M.first h.first_ (by rw [h.reclen]; omega) sq (by rw [h.reclen]; exact h1)).mono fun e w' hq => gave 11 e w' hq ?_
    exact .inr (.inl ⟨hd, h1, rfl, rfl⟩)
  rcases Int.lt_or_le sq (M.first : Int) with h2 | h2
  · refine (ldrop_old h.at_ hg rfl M.first h.first_ (by rw [h.reclen]; omega) sq h2).mono fun e w' hq => gave 12 e w' hq ?_
    exact .inr (.inr (.inl ⟨hd, h2, rfl, rfl⟩))
  obtain ⟨k, rfl⟩ : ∃ k : Nat, sq = ((M.first + k : Nat) : Int) := ⟨(sq - (M.first : Int)).toNat, by omega⟩
  have hk : k ≤ M.recs.length := by unfold Lg.next at h1; omega
  have hbk := hv.bk
  have hnx := hv.nxt
  have hlm := hv.lim
  have hmu : M.used < maxUsed := hu
  unfold maxUsed at hlm
  have hrg := hbk.rng
  have hep := hbk.ep
  have hfw := hbk.few
  have hp4 := h.ok.places
  have hfw2 := h.few
  have hdB : dropB g M.first k (dropFrom M.places from_ M.recs k) = mkB (gen + 1) M.epoch (M.first + k) (dropFrom M.places from_ M.recs k) (M.recs.length - k) := by
    unfold dropB
    rw [h.block, h.reclen]
    rfl
  have hge := arN_ge M.places (from_ + offN M.recs k)
  have hlt := arN_lt (P := M.places) (by have := h.p2; omega) (from_ + offN M.recs k)
  have hfit : (mkB (gen + 1) M.epoch (M.first + k) (dropFrom M.places from_ M.recs k) (M.recs.length - k)).fits = true := mkB_fits (by omega) (by omega) (by omega) (by unfold dropFrom; omega) (by omega)
  have hmem : ∀ r ∈ g.recs, 2 ≤ r.1 ∧ r.1 ≤ 4096 ∧ r.2 ≤ 4096 := fun p hp => by
    rw [h.recs] at hp
    have := posL_mem (by have := h.p2; omega) h.ok.recs hp
    omega
  have hcall := ldrop_any h.at_ hg (h.fewU hus) (okU_at h hus hv) M.first from_ h.first_ h.begun_ (by rw [h.reclen]; omega) (by rw [h.places]; have := h.p2; omega) (by rw [h.places]; exact hp4) hmem (by rw [h.reclen]; exact hfw2)
    (by rw [h.block]; show (-1 : Int) ≤ (gen : Int); omega) (by rw [h.block]; show (gen : Int) ≤ 10000000; omega) k (by rw [h.reclen]; exact hk) (dropFrom M.places from_ M.recs k)
    (fun hkl => by
      have e : g.recs[k]'hkl = (posL M.places from_ M.recs)[k]'(h.recs ▸ hkl) := List.getElem_of_eq h.recs hkl
      rw [e, posL_at (by rw [h.reclen] at hkl; exact hkl)]
      rfl)
    (fun hkl => by
      rw [h.reclen] at hkl
      rw [h.places, h.recs, endN_posL hrg.1 hrg.2]
      unfold dropFrom
      rw [hkl, offN_all])
    (by rw [hdB]; exact hfit)
  rw [hdB] at hcall
  have hfrL : L ≠ 0 → fr = false := fun hL => by
    cases fr
    · rfl
    · exact absurd (h.lim rfl) hL
  have okM : ∀ dr, Lg.ok { M with drop := dr, down := true, used := M.used + 1 } := fun dr => ⟨h.ok.few, h.ok.places, h.ok.sure, h.ok.high, h.ok.age, h.ok.recs⟩
  obtain ⟨q, hq2, hq, hnext⟩ := nextB gen M.epoch M.first from_ cnt M.epoch (M.first + k) (dropFrom M.places from_ M.recs k) (M.recs.length - k)
  refine hcall.mono ?_
  rintro e w' ⟨F', hm, ⟨rfl, hL, j, ha⟩ | ⟨rfl, hs⟩⟩
  · refine ⟨8, { M with drop := some (M.first + k), down := true, used := M.used + 1 }, F', rfl, .inr (.inr (.inr ⟨k, hd, hk, rfl, .inr ⟨hfrL hL, rfl, rfl⟩⟩)), ⟨w0, _, o, _, gen, from_, cnt, rfl, rfl, ha, okM _, h.p2, fun hf => absurd hf (by rw [hfrL hL]; decide), h.places, h.block, h.recs, h.hi, .inr ⟨rfl, rfl, ?_, fun m t => ?_⟩⟩, hm⟩
    · have := h.fewU hus
      show (g.us.take j).length ≤ _
      rw [List.length_take]
      omega
    · exact (After.crash hv m t (U := g.us.take j) (fun u hu => by rw [← hus]; exact List.mem_of_mem_take hu) _).opens hv (M' := { M with drop := some (M.first + k), down := true, used := M.used + 1 }) ⟨rfl, rfl, rfl, rfl⟩ (Nat.le_refl _) (Nat.le_succ _) (by show M.used + 1 ≤ maxUsed; unfold maxUsed at hmu ⊢; omega)
  · have hsv := save_uns (S := S) (U := g.us) (by rw [hv.len]; omega) hnext hfit ((hv.nowInv (U := g.us) (fun u hu => by rw [← hus]; exact hu) 0 false).load) (L - g.us.length)
    rcases hsv with ⟨hE, L', hL', hx⟩ | ⟨hE, hL', hx⟩
    · rcases hs with ⟨_, o', ho', ha⟩ | ⟨h3, _⟩
      case inr => exact absurd hE h3
      rw [hx] at ha
      rw [hE]
      obtain ⟨es', hy⟩ := hv.synced hus
      have hy : Live (sureS S g.us) { M with sure := M.recs.length } gen from_ cnt es' := hy
      have hl := hy.dropped rfl hk hmu hq hq2 M.down
      have hl : Live ((sureS S g.us).set q ⟨(mkB (gen + 1) M.epoch (M.first + k) (dropFrom M.places from_ M.recs k) (M.recs.length - k)).sec, false⟩) { M with first := M.first + k, recs := M.recs.drop k, sure := (M.recs.drop k).length, used := M.used + 1 } (gen + 1) (dropFrom M.places from_ M.recs k) (M.recs.length - k) (es'.drop k) := hl
      refine ⟨0, { M with first := M.first + k, recs := M.recs.drop k, sure := (M.recs.drop k).length, used := M.used + 1 }, F', rfl, .inr (.inr (.inr ⟨k, hd, hk, rfl, .inl ⟨rfl, rfl⟩⟩)), ⟨w0, _, o', _, gen + 1, dropFrom M.places from_ M.recs k, M.recs.length - k, rfl, by unfold lptr; rw [ho'], ha, hl.ok, h.p2, fun hf => hL' (by have := h.lim hf; show L - g.us.length = 0; have e0 : L = 0 := this; omega), h.places, rfl, ?_, ?_, .inl ⟨hd, hg, ?_, _, L', _, rfl, hl⟩⟩, hm⟩
      · show g.recs.drop k = posL M.places (dropFrom M.places from_ M.recs k) (M.recs.drop k)
        rw [h.recs]
        exact (posL_drop hk fun i => arN_arN (by omega) i).symm
      · show M.first + k + (M.recs.drop k).length < _
        rw [List.length_drop]
        omega
      · exact (unsW_none _ _ _ _ _).symm
    · rcases hs with ⟨h3, _⟩ | ⟨_, ha⟩
      · rw [hE] at h3; cases h3
      rw [hE, show (g.down || ((8 : Int) == 8)) = true from Bool.or_true _] at ha
      rw [hE]
      have hL : L ≠ 0 := by omega
      refine ⟨8, { M with drop := some (M.first + k), down := true, used := M.used + 1 }, F', rfl, .inr (.inr (.inr ⟨k, hd, hk, rfl, .inr ⟨hfrL hL, rfl, rfl⟩⟩)), ⟨w0, _, o, _, gen, from_, cnt, rfl, rfl, ha, okM _, h.p2, fun hf => absurd hf (by rw [hfrL hL]; decide), h.places, h.block, h.recs, h.hi, .inr ⟨rfl, rfl, ?_, fun m t => ?_⟩⟩, hm⟩
      · have := h.fewU hus
        rcases hx with e | e | e
        · rw [e]; show g.us.length ≤ _; omega
        · rw [e]; exact Nat.zero_le _
        · rw [e]; show 1 ≤ _; omega
      · exact hv.cutDrop (M' := { M with drop := some (M.first + k), down := true, used := M.used + 1 }) hus hk hmu hq hq2 ⟨rfl, rfl, rfl, rfl⟩ (Nat.le_refl _) rfl rfl hx m t
/-- Open, of a device that may be opened. -/
theorem open_disk {S : List Sec} {L gen E gone n cnt : Nat} {es : List Nat} (hh : Holds w0 w D ⟨S, [], L, false⟩) (hv : VarsAt w0) (h1 : ∀ j, ownD w D j → F j) (h2 : ∀ j, F j → w0.heap.size ≤ j ∧ j < w.heap.size) (hk : DiskAt S M gen E gone n from_ cnt es) (hu : M.used < 1000000) :
    Calls Tryd.prog 7 #[.pointer (some ⟨D, 0, none⟩)] w (fun e w' => ∃ lv g F', e = .returned (.tuple #[lv, .int .i64 g]) ∧ Moved F w w' F' ∧
        ((g = 0 ∧ AtL w' w0.heap.size lv D (openLg M E gone n) (decide (L = 0)) F') ∨ (L ≠ 0 ∧ g = 8 ∧ BrokenL w' w0.heap.size D { M with used := M.used + 1 } F'))) := by
  have hmu : M.used < maxUsed := hu
  have hlm := hk.lim
  unfold maxUsed at hlm
  have hbk := hk.bk
  have hp2 := hk.p2
  have hp4 := hk.p4
  have hle := hk.le
  have hnx := hk.nxt
  have hrg := hbk.rng
  have hep := hbk.ep
  have hfw := hbk.few
  have hln : ((M.recs.drop gone).take n).length = n := by rw [List.length_take, List.length_drop]; omega
  have hcall := lopen_any hh hv h1 h2 rfl M.places hp2 hp4 hk.len (by show 0 < 4294967295; omega) (gen : Int) from_ (M.first + gone) E cnt (by omega) (by omega) (by omega) hrg.1 hrg.2 es ((M.recs.drop gone).take n) (by rw [hln]; omega) hk.found
    (fun W hb => last_old (h := hh.next hb) hv hk.inv (by rw [hk.len]; omega) (by rw [hk.len]; omega) hep (by omega) ⟨hrg.1, by rw [hk.len]; exact hrg.2⟩ hbk.zero hbk.more)
  rw [hln] at hcall
  have hcall : Calls Tryd.prog 7 #[.pointer (some ⟨D, 0, none⟩)] w (LOpenOut w0 w D ⟨S, [], L, false⟩ (mkB (gen + 1) (E + 1) (M.first + gone) from_ n) M.places from_ ((M.recs.drop gone).take n) F) := hcall
  obtain ⟨q, hq2, hq, hnext⟩ := nextB gen E (M.first + gone) from_ cnt (E + 1) (M.first + gone) from_ n
  have hfit : (mkB (gen + 1) (E + 1) (M.first + gone) from_ n).fits = true := mkB_fits (by omega) (by omega) (by omega) (by omega) (by omega)
  have hsv := save_uns (S := S) (U := []) (by rw [hk.len]; omega) hnext hfit hk.inv.load L
  refine hcall.mono ?_
  rintro e w' ⟨F', hm, ⟨hE, o, rfl, ha⟩ | ⟨hE, rfl, hh', k1, k2⟩⟩
  · rcases hsv with ⟨_, L', hL', hx⟩ | ⟨h8, _⟩
    case inr => rw [hE] at h8; cases h8
    rw [hx, sureS_nil] at ha
    have hl := hk.opened hmu hq hq2
    refine ⟨_, 0, F', rfl, hm, .inl ⟨rfl, w0, _, o, _, gen + 1, from_, n, rfl, rfl, ha, hl.ok, hp2, fun hf => hL' (by simpa using hf), rfl, rfl, rfl, ?_, .inl ⟨rfl, rfl, ?_, _, L', es, rfl, hl⟩⟩⟩
    · show M.first + gone + ((M.recs.drop gone).take n).length < _
      rw [hln]
      omega
    · have e := unsW_none M.places from_ (M.first + gone) (E + 1) ((M.recs.drop gone).take n)
      rw [hln] at e
      exact e.symm
  · rcases hsv with ⟨h0, _⟩ | ⟨h8, hL', hx⟩
    · exact absurd h0 hE
    rw [h8]
    rw [sureS_nil] at hx
    have hx' : (Dv.mk S [] L false).save (mkB (gen + 1) (E + 1) (M.first + gone) from_ n) = ⟨S, [], 0, true⟩ ∨ (Dv.mk S [] L false).save (mkB (gen + 1) (E + 1) (M.first + gone) from_ n) = ⟨S, [⟨q, (mkB (gen + 1) (E + 1) (M.first + gone) from_ n).sec⟩], 0, true⟩ := by
      rcases hx with e | e | e
      · exact .inl e
      · exact .inl e
      · exact .inr e
    refine ⟨_, 8, F', rfl, hm, .inr ⟨hL', rfl, w0, _, rfl, hv, hh', ?_, fun m t => hk.cutOpen hmu hq hq2 hx' m t, k1, k2⟩⟩
    rcases hx' with e | e
    · rw [e]; exact Nat.zero_le _
    · rw [e]; show 1 ≤ _; omega
theorem open_dead_at (h : DeadL w b D M fr F) (hu : M.used < 1000000) : Calls Tryd.prog 7 #[.pointer (some ⟨D, 0, none⟩)] w
      (fun e w' => ∃ lv g F', e = .returned (.tuple #[lv, .int .i64 g]) ∧ Moved F w w' F' ∧
        ((g = 0 ∧ ∃ M', AgainTo M M' ∧ AtL w' b lv D M' fr F') ∨ (fr = false ∧ g = 8 ∧ BrokenL w' b D { M with used := M.used + 1 } F'))) := by
  obtain ⟨w0, S, L, rfl, hv, hh, hL, ⟨gen, E, gone, n, from_, cnt, es, hk⟩, h1, h2⟩ := h
  refine (open_disk hh hv h1 h2 hk hu).mono ?_
  rintro e w' ⟨lv, g, F', rfl, hm, ⟨rfl, ha⟩ | ⟨hL', rfl, hb⟩⟩
  · refine ⟨lv, 0, F', rfl, hm, .inl ⟨rfl, _, hk.again, ?_⟩⟩
    obtain ⟨w1, x, o, g, gen, from_, cnt, h3, h4, h5⟩ := ha
    exact ⟨w1, x, o, g, gen, from_, cnt, h3, h4, ⟨h5.at_, h5.ok, h5.p2, fun hf => h5.lim (by simpa using hL hf), h5.places, h5.block, h5.recs, h5.hi, h5.state⟩⟩
  · refine ⟨lv, 8, F', rfl, hm, .inr ⟨?_, rfl, hb⟩⟩
    cases fr
    · rfl
    · exact absurd (hL rfl) hL'
theorem reopen_at (h : AtL w b lv D M true F) (hd : M.down = false) (hs : M.sure = M.recs.length) (hu : M.used < 1000000) : Calls Tryd.prog 7 #[.pointer (some ⟨D, 0, none⟩)] w
      (fun e w' => ∃ lv' M' F', e = .returned (.tuple #[lv', .int .i64 0]) ∧ Moved F w w' F' ∧ AgainTo M M' ∧ AtL w' b lv' D M' true F') := by
  obtain ⟨w0, x, o, g, gen, from_, cnt, rfl, rfl, h⟩ := h
  rcases h.state with ⟨_, hg, hus, S, L, es, rfl, hv⟩ | ⟨hd', _⟩
  case inr => rw [hd] at hd'; cases hd'
  have hL : L = 0 := h.lim rfl
  subst hL
  have hk : DiskAt S M gen M.epoch 0 M.recs.length from_ cnt es := hv.disk hs rfl rfl (by rw [List.drop_zero, List.take_length]) (by omega) (.inl rfl) (by omega) (Nat.le_refl _) (Nat.le_refl _) h.ok.few h.ok.recs hv.nxt hv.lim
  refine (open_disk h.at_.dev h.at_.vars (fun j hj => h.at_.own j (.inr (.inr (.inr (.inr hj))))) h.at_.foot hk hu).mono ?_
  rintro e w' ⟨lv, g, F', rfl, hm, ⟨rfl, ha⟩ | ⟨hL', rfl, hb⟩⟩
  · exact ⟨lv, _, F', rfl, hm, hk.again, ha⟩
  · exact absurd rfl hL'
theorem open_new_at {n : Nat} (hv : VarsAt w0) (hh : Holds w0 w D (newDv n)) (h4 : 4 ≤ n) (hn : n ≤ 4096) : Calls Tryd.prog 7 #[.pointer (some ⟨D, 0, none⟩)] w
    (fun e w' => ∃ lv F, e = .returned (.tuple #[lv, .int .i64 0]) ∧ AtL w' w0.heap.size lv D ⟨0, [], 0, none, n - 2, 1, false, 0⟩ true F ∧ Below w0.heap.size w0 w') := by
  have hF : Found (viewS (newDv n).now) (n - 2) 2 0 0 0 [] [] := by
    refine ⟨⟨rfl, fun i hi => absurd hi (Nat.not_lt_zero _)⟩, ⟨fun i hi => absurd hi (Nat.not_lt_zero _), fun i hi => absurd hi (Nat.not_lt_zero _), fun i _ hi => absurd hi (Nat.not_lt_zero _)⟩, Nat.le_refl _, fun r hr => ?_, Nat.zero_le _⟩
    have h0 := hr.all 0 (partsN_pos _)
    have h1 := fresh_view n (arN (n - 2) (2 + takenL [] + 0))
    have h1 : viewS (newDv n).now (arN (n - 2) (2 + takenL [] + 0)) = none := h1
    rw [h1] at h0
    cases h0
  have hlen : (newDv n).sure.length = n := List.length_replicate
  have hcall := lopen_any (F := fun j => w0.heap.size ≤ j ∧ j < w.heap.size) hh hv (fun j hj => hh.own_ hj) (fun j hj => hj) rfl (n - 2) (by omega) (by omega) (by rw [hlen]; omega) (by show 0 < 4294967295; omega) (-1) 2 0 0 0 (by omega) (by omega) (by omega) (by omega) (by omega) [] [] (by show 0 + 0 ≤ _; omega) hF
    (fun W hb => last_new (h := hh.next hb) hv (by omega) hn)
  have hcall : Calls Tryd.prog 7 #[.pointer (some ⟨D, 0, none⟩)] w (LOpenOut w0 w D (newDv n) (mkB 0 1 0 2 0) (n - 2) 2 [] (fun j => w0.heap.size ≤ j ∧ j < w.heap.size)) := hcall
  have hnext : Next none (mkB 0 1 0 2 0) 0 := ⟨rfl, by decide, rfl⟩
  have hfit : (mkB 0 1 0 2 0).fits = true := mkB_fits (by decide) (by decide) (by decide) (by decide) (by decide)
  have hsv := save_uns (S := List.replicate n secZero) (U := []) (by rw [List.length_replicate]; omega) hnext hfit (inv_new n).load 0
  have hlv := fresh_live h4 hn
  refine hcall.mono ?_
  rintro e w' ⟨F', hm, ⟨hE, o, rfl, ha⟩ | ⟨hE, rfl, hh', k1, k2⟩⟩
  · rcases hsv with ⟨_, L', hL', hx⟩ | ⟨_, hL, _⟩
    case inr => exact absurd rfl hL
    have hx : (newDv n).save (mkB 0 1 0 2 0) = _ := hx
    rw [hx, sureS_nil] at ha
    exact ⟨_, F', rfl, ⟨w0, _, o, _, 0, 2, 0, rfl, rfl, ha, hlv.ok, hlv.p2, fun _ => hL' rfl, rfl, rfl, rfl, by show 0 + 0 < _; omega, .inl ⟨rfl, rfl, rfl, _, L', [], rfl, hlv⟩⟩, ha.below0⟩
  · rcases hsv with ⟨h0, _⟩ | ⟨_, hL, _⟩
    · exact absurd h0 hE
    · exact absurd rfl hL
end
/-- The program's log. -/
def theLog : LogSpec where
  Vars := VarsAt
  At := AtL
  Dead := DeadL
  Broken := BrokenL
  vars_next := fun h hb => h.next hb
  at_own := at_own
  at_ok := fun ⟨_, _, _, _, _, _, _, _, _, h⟩ => h.ok
  at_keep := at_keep
  dead_own := fun ⟨_, _, _, hb, _, hh, _, _, _, h2⟩ => ⟨by rw [← hb]; exact hh.below.size, h2⟩
  dead_keep := dead_keep
  broken_own := fun ⟨_, _, hb, _, hh, _, _, _, h2⟩ => ⟨by rw [← hb]; exact hh.below.size, h2⟩
  open_new := open_new_at
  first := first_at
  next := next_at
  room := room_at
  epoch := epoch_at
  append := fun h hu A c n l hl hA hc hn => append_at h hu A c n l hl hA hc hn
  sync := sync_at
  drop := fun h hu sq _ _ => drop_at h hu sq
  read := fun h hd i _ _ => lgread_at h hd i
  limit := limit_at
  crash := crash_at
  crash_broken := crash_broken_at
  limit_dead := limit_dead_at
  open_dead := open_dead_at
  reopen := reopen_at

end Go.Proofs.YtgfoekbdmgljbaaDoor
