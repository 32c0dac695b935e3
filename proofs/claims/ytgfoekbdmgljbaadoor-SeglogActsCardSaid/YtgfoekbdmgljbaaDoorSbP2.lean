/-
  Plain mathematics of a log on a device: what holds of one that stands, and of one that is to be opened; how calls lead from one to the other. No program is imported.
-/
import Derived.Test.YtgfoekbdmgljbaaDoorSbP1
import Derived.Test.YtgfoekbdmgljbaaDoorProg
import Derived.Laws.IdiomStrings
import Derived.WalkSpells
import Derived.WalkLawsBesides
import Derived.Lib.LaidTab
import Derived.Laws.Rows
import Derived.Maps.OwnSet
import Derived.Deep.MidRow
import Derived.Deep.RegionHeld3
namespace Go.Proofs.YtgfoekbdmgljbaaDoor
open Go.RowKit

/-- So many calls are thought of. -/
def maxUsed : Nat := 1000000
/-- What holds of a block's numbers. -/
structure Bk (gen E first from_ cnt used P : Nat) : Prop where
  ep : 1 ≤ E ∧ E ≤ gen + 1
  zero : first = 0 → from_ = 2 ∧ (0 < gen ∨ cnt = 0)
  more : 0 < first → E ≤ gen
  rng : 2 ≤ from_ ∧ from_ < P + 2
  few : gen ≤ used
theorem Bk.used {gen E first from_ cnt used used' P : Nat} (h : Bk gen E first from_ cnt used P) (hu : used ≤ used') : Bk gen E first from_ cnt used' P := ⟨h.ep, h.zero, h.more, h.rng, Nat.le_trans h.few hu⟩

/-- A log that stands: S is sure, the records from M.sure on wait. -/
structure Live (S : List Sec) (M : Lg) (gen from_ cnt : Nat) (es : List Nat) : Prop where
  few : M.taken ≤ M.places
  p2 : 2 ≤ M.places
  p4 : M.places ≤ 4094
  small : ∀ r ∈ M.recs, r.length ≤ 16384
  sure : M.sure ≤ M.recs.length
  len : S.length = M.places + 2
  inv : Inv S (some (mkB gen M.epoch M.first from_ cnt))
  bk : Bk gen M.epoch M.first from_ cnt M.used M.places
  chain : Chain (viewS S) M.places from_ M.first es (M.recs.take M.sure)
  ups : Ups M.epoch cnt es
  cnt : cnt ≤ M.sure
  old : Old (viewS S) M.epoch (M.first + M.sure)
  nxt : M.first + M.recs.length ≤ M.used
  lim : M.used ≤ maxUsed
/-- A device that is to be opened: the block there, what will be found. -/
structure DiskAt (S : List Sec) (M : Lg) (gen E gone n from_ cnt : Nat) (es : List Nat) : Prop where
  few : M.taken ≤ M.places
  p2 : 2 ≤ M.places
  p4 : M.places ≤ 4094
  small : ∀ r ∈ M.recs, r.length ≤ 16384
  len : S.length = M.places + 2
  inv : Inv S (some (mkB gen E (M.first + gone) from_ cnt))
  bk : Bk gen E (M.first + gone) from_ cnt M.used M.places
  way : gone = 0 ∨ M.drop = some (M.first + gone)
  le : gone + n ≤ M.recs.length
  sure : M.sure ≤ gone + n
  found : Found (viewS S) M.places from_ (M.first + gone) E cnt es ((M.recs.drop gone).take n)
  age : M.epoch ≤ E
  old : OldE (viewS S) E
  nxt : M.first + M.recs.length ≤ M.used
  lim : M.used ≤ maxUsed
def Opens (S : List Sec) (M : Lg) : Prop := ∃ gen E gone n from_ cnt es, DiskAt S M gen E gone n from_ cnt es

theorem Live.ok {S : List Sec} {M : Lg} {gen from_ cnt : Nat} {es : List Nat} (h : Live S M gen from_ cnt es) : M.ok := by
  have h1 := h.nxt
  have h2 := h.lim
  have h3 := h.bk.ep
  have h4 := h.bk.few
  unfold maxUsed at h2
  exact ⟨h.few, h.p4, h.sure, by omega, by omega, h.small⟩

theorem Inv.congr {S S' : List Sec} {o : Option Blk} (h : Inv S o) (h0 : S'.getD 0 secZero = S.getD 0 secZero) (h1 : S'.getD 1 secZero = S.getD 1 secZero) : Inv S' o := by
  match o, h with
  | none, h => exact ⟨by rw [h0]; exact h.1, by rw [h1]; exact h.2⟩
  | some c, ⟨k, hk, hm, hb, hd⟩ =>
    have e : k = 0 ∨ k = 1 := by omega
    rcases e with rfl | rfl
    · exact ⟨0, hk, hm, by rw [h0]; exact hb, by rw [show 1 - 0 = 1 from rfl, h1]; exact hd⟩
    · exact ⟨1, hk, hm, by rw [h1]; exact hb, by rw [show 1 - 1 = 0 from rfl, h0]; exact hd⟩
theorem view_set {S : List Sec} {q i : Nat} {s : Sec} (hq : q < 2) (hi : 2 ≤ i) : viewS (S.set q s) i = viewS S i := by
  unfold viewS
  rw [getD_set_ne (by omega)]
theorem chain_congr {V V' : View} {P from_ first : Nat} {es : List Nat} {rs : List (List UInt8)} (h : Chain V P from_ first es rs) (hv : ∀ i, 2 ≤ i → V' i = V i) : Chain V' P from_ first es rs := h.view fun _ _ => hv _ (arN_ge _ _)
theorem old_congr {V V' : View} {E q : Nat} (h : Old V E q) (hv : ∀ i, 2 ≤ i → V' i = V i) : Old V' E q := fun i x b h2 e => h i x b h2 (by rw [← hv i h2]; exact e)
theorem oldE_congr {V V' : View} {E : Nat} (h : OldE V E) (hv : ∀ i, 2 ≤ i → V' i = V i) : OldE V' E := fun i x b h2 e => h i x b h2 (by rw [← hv i h2]; exact e)
theorem rec_congr {V V' : View} {P a seq ep : Nat} {r : List UInt8} (h : RecIn V P a seq ep r) (hv : ∀ i, 2 ≤ i → V' i = V i) : RecIn V' P a seq ep r := h.view fun _ _ => hv _ (arN_ge _ _)
theorem found_congr {V V' : View} {P from_ first E cnt : Nat} {es : List Nat} {rs : List (List UInt8)} (h : Found V P from_ first E cnt es rs) (hv : ∀ i, 2 ≤ i → V' i = V i) : Found V' P from_ first E cnt es rs :=
  ⟨chain_congr h.chain hv, h.ups, h.cnt, fun r hr => h.stop r (rec_congr hr fun i hi => (hv i hi).symm), h.few⟩
/-- Nothing of epoch E from number q on: no record of that number. -/
theorem Old.stop {V : View} {E q : Nat} (h : Old V E q) (P a : Nat) (r : List UInt8) : ¬ RecIn V P a q E r := fun hr => by
  have h0 := hr.all 0 (partsN_pos _)
  have h1 := h _ _ _ (arN_ge _ _) h0
  simp only [recH] at h1
  omega
theorem DiskAt.set_ {S : List Sec} {M : Lg} {gen E gone n from_ cnt : Nat} {es : List Nat} (h : DiskAt S M gen E gone n from_ cnt es) {q : Nat} (hq : q < 2) {s : Sec} (hi : Inv (S.set q s) (some (mkB gen E (M.first + gone) from_ cnt))) : DiskAt (S.set q s) M gen E gone n from_ cnt es :=
  ⟨h.few, h.p2, h.p4, h.small, by rw [List.length_set]; exact h.len, hi, h.bk, h.way, h.le, h.sure, found_congr h.found fun _ h2 => view_set hq h2, h.age, oldE_congr h.old fun _ h2 => view_set hq h2, h.nxt, h.lim⟩
theorem DiskAt.used {S : List Sec} {M : Lg} {gen E gone n from_ cnt : Nat} {es : List Nat} (h : DiskAt S M gen E gone n from_ cnt es) {u : Nat} (h1 : M.used ≤ u) (h2 : u ≤ maxUsed) (dn : Bool) : DiskAt S { M with used := u, down := dn } gen E gone n from_ cnt es :=
  ⟨h.few, h.p2, h.p4, h.small, h.len, h.inv, h.bk.used h1, h.way, h.le, h.sure, h.found, h.age, h.old, Nat.le_trans h.nxt h1, h2⟩
/-- A log of which all is sure, opened anew, is what it was. -/
theorem Live.disk {S : List Sec} {N M : Lg} {gen from_ cnt : Nat} {es : List Nat} (h : Live S N gen from_ cnt es) (hs : N.sure = N.recs.length) {gone n : Nat} (hp : M.places = N.places) (hf : N.first = M.first + gone) (hr : N.recs = (M.recs.drop gone).take n) (hn : gone + n ≤ M.recs.length)
    (hg : gone = 0 ∨ M.drop = some (M.first + gone)) (hsu : M.sure ≤ gone + n) (he : M.epoch ≤ N.epoch) (hu : N.used ≤ M.used) (ht : M.taken ≤ M.places) (hsm : ∀ r ∈ M.recs, r.length ≤ 16384) (hx : M.first + M.recs.length ≤ M.used) (hl : M.used ≤ maxUsed) :
    DiskAt S M gen N.epoch gone n from_ cnt es := by
  have hc := h.chain
  rw [hs, List.take_length] at hc
  have hln : N.recs.length = n := by rw [hr, List.length_take, List.length_drop]; omega
  refine ⟨ht, by rw [hp]; exact h.p2, by rw [hp]; exact h.p4, hsm, by rw [hp]; exact h.len, by rw [← hf]; exact h.inv, by rw [← hf, hp]; exact h.bk.used hu, hg, hn, hsu, ?_, he, h.old.e, hx, hl⟩
  rw [← hr, ← hf, hp]
  refine ⟨hc, h.ups, by have := h.cnt; omega, fun r hr => ?_, h.few⟩
  have ho := h.old
  rw [hs] at ho
  exact ho.stop _ _ r hr

section
variable {S : List Sec} {M : Lg} {gen from_ cnt : Nat} {es : List Nat}
theorem rec_len (hs : ∀ r ∈ M.recs, r.length ≤ 16384) (j : Nat) : (M.recs.getD j []).length ≤ 16384 := by
  rw [List.getD_eq_getElem?_getD]
  cases e : M.recs[j]? with
  | none => exact Nat.zero_le _
  | some r => exact hs r (List.mem_of_getElem? e)
/-- What a waiting write shows. -/
theorem Live.write (h : Live S M gen from_ cnt es) {u : Wri} (hu : u ∈ unsW M.places from_ M.first M.epoch M.sure M.recs) :
    ∃ j i, M.sure ≤ j ∧ j < M.recs.length ∧ i < partsN (M.recs.getD j []).length ∧ u.place = arN M.places (from_ + offN M.recs j + i) ∧ offN M.recs j + i < M.places ∧
      openV u.data = some (recH M.epoch (M.first + j) i (partsN (M.recs.getD j []).length), chunk (M.recs.getD j []) i) ∧ u.data.length = 512 := by
  obtain ⟨j, i, h1, h2, h3, rfl⟩ := mem_unsW.1 hu
  have hl := rec_len h.small j
  have hp := partsN_le hl
  have ho := offN_end h2
  have hf := h.few
  unfold Lg.taken at hf
  have hb : headB (recH M.epoch (M.first + j) i (partsN (M.recs.getD j []).length)) = true := by
    have q1 := h.nxt
    have q2 := h.lim
    have q3 := h.bk.ep
    have q4 := h.bk.few
    unfold maxUsed at q2
    exact recH_ok (by omega) (by omega) h3 hp
  have e1 := openV_seal hb (length_chunk (M.recs.getD j []) i)
  have e2 := length_sealB hb (length_chunk (M.recs.getD j []) i)
  generalize sealB (recH M.epoch (M.first + j) i (partsN (M.recs.getD j []).length)) (chunk (M.recs.getD j []) i) = s at e1 e2
  exact ⟨j, i, h1, h2, h3, rfl, by omega, e1, e2⟩
/-- Of all places of its records just one write is a place's. -/
theorem Live.place (h : Live S M gen from_ cnt es) {u : Wri} (hu : u ∈ unsW M.places from_ M.first M.epoch M.sure M.recs) {j i : Nat} (hj : j < M.recs.length) (hi : i < partsN (M.recs.getD j []).length) (hp : u.place = arN M.places (from_ + offN M.recs j + i)) :
    M.sure ≤ j ∧ openV u.data = some (recH M.epoch (M.first + j) i (partsN (M.recs.getD j []).length), chunk (M.recs.getD j []) i) := by
  obtain ⟨j', i', h1, h2, h3, h4, h5, h6, _⟩ := h.write hu
  have ho := offN_end hj
  have hf := h.few
  unfold Lg.taken at hf
  rw [h4, Nat.add_assoc, Nat.add_assoc] at hp
  have e := arN_inj h.bk.rng.1 h5 (by omega) hp
  obtain ⟨rfl, rfl⟩ := off_inj h2 hj h3 hi e
  exact ⟨h1, h6⟩
/-- .. so that the sure records' places are not written. -/
theorem Live.apart (h : Live S M gen from_ cnt es) {u : Wri} (hu : u ∈ unsW M.places from_ M.first M.epoch M.sure M.recs) {k : Nat} (hk : k < takenL (M.recs.take M.sure)) : u.place ≠ arN M.places (from_ + k) := fun e => by
  obtain ⟨j', i', h1, h2, h3, h4, h5, _⟩ := h.write hu
  have hf := h.few
  unfold Lg.taken at hf
  have := takenL_take M.recs M.sure
  rw [h4, Nat.add_assoc] at e
  have e2 := arN_inj h.bk.rng.1 h5 (by omega) e
  have h6 := offN_mono (rs := M.recs) h1
  unfold offN at h6 e2
  omega

/-- What is known behind a Crash of which some writes lasted, others not. -/
structure After (S : List Sec) (M : Lg) (from_ : Nat) (S' : List Sec) : Prop where
  len : S'.length = S.length
  low : ∀ i, i < 2 → S'.getD i secZero = S.getD i secZero
  each : ∀ i, viewS S' i = viewS S i ∨ (∃ u ∈ unsW M.places from_ M.first M.epoch M.sure M.recs, u.place = i ∧ (viewS S' i = none ∨ viewS S' i = openV u.data))
theorem After.crash (h : Live S M gen from_ cnt es) (m t : Nat) {U : List Wri} (hU : ∀ u ∈ U, u ∈ unsW M.places from_ M.first M.epoch M.sure M.recs) (k : Nat) : After S M from_ (crashN m t U S k) := by
  refine ⟨length_crashN k, fun i hi => ?_, fun i => ?_⟩
  · rcases crashN_at (m := m) (t := t) (us := U) (S := S) (i := i) k with h1 | ⟨u, hu, hp, _⟩
    · exact h1
    · obtain ⟨j', i', _, _, _, h4, _⟩ := h.write (hU u hu)
      have := arN_ge M.places (from_ + offN M.recs j' + i')
      omega
  · rcases crashN_at (m := m) (t := t) (us := U) (S := S) (i := i) k with h1 | ⟨u, hu, hp, h1 | h1⟩
    · left; unfold viewS; rw [h1]
    · right; exact ⟨u, hU u hu, hp, .inl (by unfold viewS; rw [h1]; exact secV_torn)⟩
    · right; exact ⟨u, hU u hu, hp, .inr (by unfold viewS; rw [h1]; rfl)⟩
theorem After.inv {S' : List Sec} (h : After S M from_ S') {o : Option Blk} (hi : Inv S o) : Inv S' o := hi.congr (h.low 0 (by decide)) (h.low 1 (by decide))
theorem After.chain {S' : List Sec} (a : After S M from_ S') (h : Live S M gen from_ cnt es) : Chain (viewS S') M.places from_ M.first es (M.recs.take M.sure) := by
  refine h.chain.view fun k hk => ?_
  rcases a.each (arN M.places (from_ + k)) with h1 | ⟨u, hu, hp, _⟩
  · exact h1
  · exact absurd hp (h.apart hu hk)
theorem After.old {S' : List Sec} (a : After S M from_ S') (h : Live S M gen from_ cnt es) : Old (viewS S') M.epoch (M.first + M.recs.length) := fun i x b h2 hv => by
  rcases a.each i with h1 | ⟨u, hu, hp, h1 | h1⟩
  · rw [h1] at hv
    have := h.old i x b h2 hv
    have := h.sure
    omega
  · rw [h1] at hv; cases hv
  · obtain ⟨j', i', _, q2, _, _, _, q6, _⟩ := h.write hu
    rw [h1, q6] at hv
    injection hv with hv
    injection hv with hv _
    subst hv
    right
    refine ⟨rfl, ?_⟩
    show ((M.first + j' : Nat) : Int) < ((M.first + M.recs.length : Nat) : Int)
    omega
/-- A record that is not sure is there whole, or not at all. -/
theorem After.whole {S' : List Sec} (a : After S M from_ S') (h : Live S M gen from_ cnt es) {n : Nat} (hn : M.sure ≤ n) {p : Nat} {r : List UInt8} (hr : RecIn (viewS S') M.places p (M.first + n) M.epoch r) : n < M.recs.length ∧ r = M.recs.getD n [] := by
  have key : ∀ i, i < partsN r.length → n < M.recs.length ∧ partsN r.length = partsN (M.recs.getD n []).length ∧ chunk r i = chunk (M.recs.getD n []) i := fun i hi => by
    have h0 := hr.all i hi
    rcases a.each (arN M.places (p + i)) with h1 | ⟨u, hu, hp, h1 | h1⟩
    · rw [h1] at h0
      have h2 := h.old _ _ _ (arN_ge _ _) h0
      simp only [recH] at h2
      omega
    · rw [h1] at h0; cases h0
    · obtain ⟨j', i', _, q2, _, _, _, q6, _⟩ := h.write hu
      rw [h1, q6] at h0
      have e := Option.some.inj h0
      obtain ⟨_, e2, e3, e4⟩ := recH_inj (congrArg Prod.fst e)
      have e5 := congrArg Prod.snd e
      obtain rfl : j' = n := by omega
      subst e3
      exact ⟨q2, e4.symm, e5.symm⟩
  obtain ⟨h1, h2, _⟩ := key 0 (partsN_pos _)
  exact ⟨h1, chunk_ext h2 fun i hi => (key i hi).2.2⟩
theorem Ups.snoc {E cnt : Nat} {es : List Nat} (h : Ups E cnt es) (h1 : 1 ≤ E) : Ups E cnt (es ++ [E]) := by
  have e : ∀ i, i < es.length → (es ++ [E]).getD i 0 = es.getD i 0 := fun i hi => by rw [List.getD_eq_getElem?_getD, List.getD_eq_getElem?_getD, List.getElem?_append_left hi]
  have f : (es ++ [E]).getD es.length 0 = E := by rw [List.getD_eq_getElem?_getD, List.getElem?_append_right (Nat.le_refl _), Nat.sub_self]; rfl
  refine ⟨fun i hi => ?_, fun i hi => ?_, fun i hc hi => ?_⟩
  · rw [List.length_append, List.length_singleton] at hi
    rcases Nat.lt_or_ge i es.length with hl | hl
    · rw [e i hl]; exact h.low i hl
    · obtain rfl : i = es.length := by omega
      rw [f]; omega
  · rw [List.length_append, List.length_singleton] at hi
    rcases Nat.lt_or_ge (i + 1) es.length with hl | hl
    · rw [e i (by omega), e (i + 1) hl]; exact h.mono i hl
    · obtain e1 : i + 1 = es.length := by omega
      rw [e i (by omega), e1, f]
      exact (h.low i (by omega)).2
  · rw [List.length_append, List.length_singleton] at hi
    rcases Nat.lt_or_ge i es.length with hl | hl
    · rw [e i hl]; exact h.tail i hc hl
    · obtain rfl : i = es.length := by omega
      exact f
theorem take_snoc {rs : List (List UInt8)} {n : Nat} (h : n < rs.length) : rs.take (n + 1) = rs.take n ++ [rs.getD n []] := by
  rw [List.take_succ_eq_append_getElem h, List.getD_eq_getElem?_getD, List.getElem?_eq_getElem h]
  rfl
/-- The first few of the records are found. -/
theorem After.found {S' : List Sec} (a : After S M from_ S') (h : Live S M gen from_ cnt es) : ∀ (d n : Nat) (es' : List Nat), n + d = M.recs.length → M.sure ≤ n → Chain (viewS S') M.places from_ M.first es' (M.recs.take n) → Ups M.epoch cnt es' →
    ∃ n es', M.sure ≤ n ∧ n ≤ M.recs.length ∧ Found (viewS S') M.places from_ M.first M.epoch cnt es' (M.recs.take n) := by
  intro d
  induction d with
  | zero =>
    intro n es' hn hs hc hu
    obtain rfl : n = M.recs.length := by omega
    refine ⟨_, es', hs, Nat.le_refl _, hc, hu, by rw [List.take_length]; have := h.cnt; have := h.sure; omega, fun r hr => ?_, by rw [List.take_length]; exact h.few⟩
    rw [List.take_length] at hr
    exact absurd (a.whole h h.sure hr).1 (by omega)
  | succ d ih =>
    intro n es' hn hs hc hu
    have hln : (M.recs.take n).length = n := by rw [List.length_take]; omega
    by_cases hex : ∃ r, RecIn (viewS S') M.places (from_ + takenL (M.recs.take n)) (M.first + (M.recs.take n).length) M.epoch r
    · obtain ⟨r, hr⟩ := hex
      have hr' := hr
      rw [hln] at hr'
      obtain ⟨h1, rfl⟩ := a.whole h hs hr'
      refine ih (n + 1) (es' ++ [M.epoch]) (by omega) (by omega) ?_ (hu.snoc h.bk.ep.1)
      rw [take_snoc h1]
      exact hc.snoc hr
    · refine ⟨n, es', hs, by omega, hc, hu, by rw [hln]; have := h.cnt; omega, fun r hr => hex ⟨r, hr⟩, ?_⟩
      have := takenL_take M.recs n
      have := h.few
      unfold Lg.taken at this
      omega
/-- Wherever the waiting writes are cut off: what was sure is there, and the first few of the others. -/
theorem After.disk {S' : List Sec} (a : After S M from_ S') (h : Live S M gen from_ cnt es) : ∃ n es', DiskAt S' M gen M.epoch 0 n from_ cnt es' := by
  obtain ⟨n, es', h1, h2, hf⟩ := a.found h (M.recs.length - M.sure) M.sure es (by have := h.sure; omega) (Nat.le_refl _) (a.chain h) h.ups
  exact ⟨n, es', h.few, h.p2, h.p4, h.small, by rw [a.len]; exact h.len, by rw [Nat.add_zero]; exact a.inv h.inv, by rw [Nat.add_zero]; exact h.bk, .inl rfl, by omega, by omega, by rw [List.drop_zero, Nat.add_zero]; exact hf, Nat.le_refl _, (a.old h).e, h.nxt, h.lim⟩
end

end Go.Proofs.YtgfoekbdmgljbaaDoor

namespace Go.Proofs.YtgfoekbdmgljbaaDoor
open Go.RowKit

structure SameLg (M M' : Lg) : Prop where
  first : M'.first = M.first
  recs : M'.recs = M.recs
  places : M'.places = M.places
  epoch : M'.epoch = M.epoch
theorem DiskAt.weaken {S : List Sec} {M M' : Lg} {gen E gone n from_ cnt : Nat} {es : List Nat} (h : DiskAt S M gen E gone n from_ cnt es) (hs : SameLg M M') (h1 : M'.sure ≤ gone + n) (h2 : gone = 0 ∨ M'.drop = some (M'.first + gone)) (h3 : M.used ≤ M'.used) (h4 : M'.used ≤ maxUsed) :
    DiskAt S M' gen E gone n from_ cnt es := by
  obtain ⟨f, rs, su, dr, pl, ep, dn, us⟩ := M
  obtain ⟨f', rs', su', dr', pl', ep', dn', us'⟩ := M'
  obtain ⟨e1, e2, e3, e4⟩ := hs
  simp only at e1 e2 e3 e4 h1 h2 h3 h4
  subst e1 e2 e3 e4
  exact ⟨h.few, h.p2, h.p4, h.small, h.len, h.inv, h.bk.used h3, h2, h.le, h1, h.found, h.age, h.old, Nat.le_trans h.nxt h3, h4⟩

section
variable {S : List Sec} {M : Lg} {gen from_ cnt : Nat} {es : List Nat}
theorem After.opens {S' : List Sec} (a : After S M from_ S') (h : Live S M gen from_ cnt es) {M' : Lg} (hs : SameLg M M') (h1 : M'.sure ≤ M.sure) (h3 : M.used ≤ M'.used) (h4 : M'.used ≤ maxUsed) : Opens S' M' := by
  obtain ⟨n, es', hd⟩ := a.disk h
  have := hd.sure
  exact ⟨_, _, _, _, _, _, _, hd.weaken hs (by omega) (.inl rfl) h3 h4⟩
/-- All that waited is sure. -/
theorem Live.synced (h : Live S M gen from_ cnt es) {U : List Wri} (hU : U = unsW M.places from_ M.first M.epoch M.sure M.recs) :
    ∃ es', Live (crashN allOnes 0 U S U.length) { M with sure := M.recs.length } gen from_ cnt es' := by
  have a := After.crash h allOnes 0 (U := U) (fun u hu => by rw [← hU]; exact hu) U.length
  have hrec : ∀ j, M.sure ≤ j → j < M.recs.length → RecIn (viewS (crashN allOnes 0 U S U.length)) M.places (from_ + offN M.recs j) (M.first + j) M.epoch (M.recs.getD j []) := fun j h1 h2 => by
    refine ⟨rec_len h.small j, fun i hi => ?_⟩
    have hu0 : (⟨arN M.places (from_ + offN M.recs j + i), sealB (recH M.epoch (M.first + j) i (partsN (M.recs.getD j []).length)) (chunk (M.recs.getD j []) i)⟩ : Wri) ∈ U := by
      rw [hU]; exact mem_unsW.2 ⟨j, i, h1, h2, hi, rfl⟩
    have hp2 := arN_lt (P := M.places) (by have := h.p2; omega) (from_ + offN M.recs j + i)
    obtain ⟨u, hu, hp, he⟩ := settled_at (us := U) (S := S) (i := arN M.places (from_ + offN M.recs j + i)) (by rw [h.len]; exact hp2) U.length ⟨_, by rw [List.take_length]; exact hu0, rfl⟩
    rw [hU] at hu
    have := (h.place hu h2 hi hp).2
    unfold viewS
    rw [he]
    exact this
  have hc : ∀ d, M.sure + d ≤ M.recs.length → ∃ es', Chain (viewS (crashN allOnes 0 U S U.length)) M.places from_ M.first es' (M.recs.take (M.sure + d)) ∧ Ups M.epoch cnt es' := by
    intro d
    induction d with
    | zero => exact fun _ => ⟨es, a.chain h, h.ups⟩
    | succ d ih =>
      intro hd
      obtain ⟨es', h1, h2⟩ := ih (by omega)
      refine ⟨es' ++ [M.epoch], ?_, h2.snoc h.bk.ep.1⟩
      rw [show M.sure + (d + 1) = (M.sure + d) + 1 by omega, take_snoc (by omega)]
      have hl : (M.recs.take (M.sure + d)).length = M.sure + d := by rw [List.length_take]; omega
      have hr := hrec (M.sure + d) (by omega) (by omega)
      refine h1.snoc ?_
      rw [hl]
      exact hr
  obtain ⟨es', h1, h2⟩ := hc (M.recs.length - M.sure) (by have := h.sure; omega)
  have hs := h.sure
  rw [show M.sure + (M.recs.length - M.sure) = M.recs.length by omega] at h1
  exact ⟨es', h.few, h.p2, h.p4, h.small, Nat.le_refl _, by rw [a.len]; exact h.len, a.inv h.inv, h.bk, h1, h2, Nat.le_trans h.cnt h.sure, a.old h, h.nxt, h.lim⟩
theorem Live.opens (h : Live S M gen from_ cnt es) {M' : Lg} (hs : SameLg M M') (h1 : M'.sure ≤ M.sure) (h3 : M.used ≤ M'.used) (h4 : M'.used ≤ maxUsed) : Opens S M' :=
  (After.crash h 0 0 (U := []) (fun u hu => by cases hu) 0).opens h hs h1 h3 h4

/-- Where the block of a Drop says that the records begin. -/
def dropFrom (P from_ : Nat) (rs : List (List UInt8)) (k : Nat) : Nat := arN P (from_ + offN rs k)
theorem Live.dropped (h : Live S M gen from_ cnt es) (hs : M.sure = M.recs.length) {k : Nat} (hk : k ≤ M.recs.length) (hu : M.used < maxUsed) {q : Nat} (hq : ((gen + 1 : Nat) : Int) % 2 = (q : Int)) (hq2 : q < 2) (dn : Bool) :
    Live (S.set q ⟨(mkB (gen + 1) M.epoch (M.first + k) (dropFrom M.places from_ M.recs k) (M.recs.length - k)).sec, false⟩) { M with first := M.first + k, recs := M.recs.drop k, sure := (M.recs.drop k).length, used := M.used + 1, down := dn } (gen + 1) (dropFrom M.places from_ M.recs k) (M.recs.length - k) (es.drop k) := by
  have hp2 := h.p2
  have hbk := h.bk
  have hlim := h.lim
  unfold maxUsed at hlim hu
  have hfr := hbk.rng
  have hge := arN_ge M.places (from_ + offN M.recs k)
  have hlt := arN_lt (P := M.places) (by omega) (from_ + offN M.recs k)
  have hfits : (mkB (gen + 1) M.epoch (M.first + k) (dropFrom M.places from_ M.recs k) (M.recs.length - k)).fits = true := by
    have q1 := hbk.few
    have q2 := hbk.ep
    have q3 := h.nxt
    have q4 := h.p4
    exact mkB_fits (by omega) (by omega) (by omega) (by unfold dropFrom; omega) (by omega)
  have hcl : es.length = M.recs.length := by rw [h.chain.len, List.length_take, hs, Nat.min_self]
  have hc : Chain (viewS S) M.places from_ M.first es M.recs := by have := h.chain; rwa [hs, List.take_length] at this
  refine ⟨?_, hp2, h.p4, fun r hr => h.small r (List.mem_of_mem_drop hr), Nat.le_refl _, by rw [List.length_set]; exact h.len, ?_, ?_, ?_, ?_, by simp, ?_, ?_, ?_⟩
  · have := takenL_drop M.recs k
    have h2 := h.few
    unfold Lg.taken at h2 ⊢
    exact Nat.le_trans this h2
  · exact h.inv.write (by rw [h.len]; omega) ⟨by show ((gen + 1 : Nat) : Int) = (gen : Int) + 1; omega, hq2, hq⟩ hfits
  · refine ⟨⟨hbk.ep.1, by have := hbk.ep; show M.epoch ≤ gen + 1 + 1; omega⟩, fun h0 => ?_, fun _ => hbk.ep.2, ⟨hge, hlt⟩, by have := hbk.few; show gen + 1 ≤ M.used + 1; omega⟩
    have h0' : M.first = 0 ∧ k = 0 := by
      have h0 : M.first + k = 0 := h0
      omega
    refine ⟨?_, .inl (by omega)⟩
    unfold dropFrom
    rw [h0'.2, offN_zero, Nat.add_zero, arN_small hfr.1 hfr.2]
    exact (hbk.zero h0'.1).1
  · rw [List.take_length]
    refine chain_congr (hc.drop hk fun i => ?_) fun _ h2 => view_set hq2 h2
    exact arN_arN (by omega) i
  · have gd : ∀ j, (es.drop k).getD j 0 = es.getD (k + j) 0 := fun j => by rw [List.getD_eq_getElem?_getD, List.getElem?_drop, ← List.getD_eq_getElem?_getD]
    refine ⟨fun i hi => ?_, fun i hi => ?_, fun i h1 h2 => ?_⟩
    · rw [List.length_drop] at hi
      rw [gd]
      exact h.ups.low _ (by omega)
    · rw [List.length_drop] at hi
      rw [gd, gd]
      exact h.ups.mono (k + i) (by omega)
    · rw [List.length_drop, hcl] at h2
      omega
  · refine old_congr (h.old.mono ?_) fun _ h2 => view_set hq2 h2
    rw [hs]
    show M.first + M.recs.length ≤ M.first + k + (M.recs.drop k).length
    rw [List.length_drop]
    omega
  · have := h.nxt
    show M.first + k + (M.recs.drop k).length ≤ M.used + 1
    rw [List.length_drop]
    omega
  · show M.used + 1 ≤ maxUsed
    unfold maxUsed
    omega
/-- .. and, where it was cut off behind that, what may be opened. -/
theorem Live.dropOpens (h : Live S M gen from_ cnt es) (hs : M.sure = M.recs.length) {k : Nat} (hk : k ≤ M.recs.length) (hu : M.used < maxUsed) {q : Nat} (hq : ((gen + 1 : Nat) : Int) % 2 = (q : Int)) (hq2 : q < 2) {M' : Lg} (hsm : SameLg M M') (hsu : M'.sure ≤ M.sure) (hd : M'.drop = some (M.first + k)) (hus : M'.used = M.used + 1) :
    Opens (S.set q ⟨(mkB (gen + 1) M.epoch (M.first + k) (dropFrom M.places from_ M.recs k) (M.recs.length - k)).sec, false⟩) M' := by
  have hl := h.dropped hs hk hu hq hq2 false
  have hlen : (M.recs.drop k).length = M.recs.length - k := List.length_drop
  refine ⟨_, _, k, M.recs.length - k, _, _, _, hl.disk rfl (M := M') hsm.places (by rw [hsm.first]) ?_ ?_ (.inr (by rw [hd, hsm.first])) ?_ ?_ ?_ ?_ ?_ ?_ ?_⟩
  · show M.recs.drop k = (M'.recs.drop k).take (M.recs.length - k)
    rw [hsm.recs, List.take_of_length_le (by rw [hlen]; exact Nat.le_refl _)]
  · rw [hsm.recs]; omega
  · rw [hs] at hsu; omega
  · rw [hsm.epoch]; exact Nat.le_refl _
  · rw [hus]; exact Nat.le_refl _
  · unfold Lg.taken; rw [hsm.recs, hsm.places]; exact h.few
  · rw [hsm.recs]; exact h.small
  · have := h.nxt; rw [hsm.first, hsm.recs, hus]; omega
  · rw [hus]; unfold maxUsed at hu ⊢; omega
end

section
variable {S : List Sec} {M : Lg} {gen E gone n from_ cnt : Nat} {es : List Nat}
/-- What is opened. -/
def openLg (M : Lg) (E gone n : Nat) : Lg := ⟨M.first + gone, (M.recs.drop gone).take n, n, none, M.places, E + 1, false, M.used + 1⟩
theorem DiskAt.opened (h : DiskAt S M gen E gone n from_ cnt es) (hu : M.used < maxUsed) {q : Nat} (hq : ((gen + 1 : Nat) : Int) % 2 = (q : Int)) (hq2 : q < 2) :
    Live (S.set q ⟨(mkB (gen + 1) (E + 1) (M.first + gone) from_ n).sec, false⟩) (openLg M E gone n) (gen + 1) from_ n es := by
  have hbk := h.bk
  have hlim := h.lim
  unfold maxUsed at hlim hu
  have hle := h.le
  have hln : ((M.recs.drop gone).take n).length = n := by rw [List.length_take, List.length_drop]; omega
  have hfits : (mkB (gen + 1) (E + 1) (M.first + gone) from_ n).fits = true := by
    have q1 := hbk.few
    have q2 := hbk.ep
    have q3 := h.nxt
    have q4 := h.p4
    have q5 := hbk.rng
    exact mkB_fits (by omega) (by omega) (by omega) (by omega) (by omega)
  refine ⟨h.found.few, h.p2, h.p4, fun r hr => h.small r (List.mem_of_mem_drop (List.mem_of_mem_take hr)), Nat.le_of_eq hln.symm, by rw [List.length_set]; exact h.len, ?_, ?_, ?_, ?_, Nat.le_refl _, ?_, ?_, ?_⟩
  · exact h.inv.write (by rw [h.len]; have := h.p2; omega) ⟨by show ((gen + 1 : Nat) : Int) = (gen : Int) + 1; omega, hq2, hq⟩ hfits
  · refine ⟨⟨by show 1 ≤ E + 1; omega, by have := hbk.ep; show E + 1 ≤ gen + 1 + 1; omega⟩, fun h0 => ?_, fun h0 => ?_, hbk.rng, by have := hbk.few; show gen + 1 ≤ M.used + 1; omega⟩
    · exact ⟨(hbk.zero h0).1, .inl (by omega)⟩
    · have := hbk.more h0
      show E + 1 ≤ gen + 1
      omega
  · show Chain _ _ _ _ _ (((M.recs.drop gone).take n).take n)
    rw [List.take_take, Nat.min_self]
    exact chain_congr h.found.chain fun _ h2 => view_set hq2 h2
  · have hel : es.length = n := by rw [h.found.chain.len, hln]
    exact ⟨fun i hi => ⟨(h.found.ups.low i hi).1, by have := (h.found.ups.low i hi).2; show es.getD i 0 ≤ E + 1; omega⟩, h.found.ups.mono, fun i h1 h2 => by omega⟩
  · exact old_congr (OldE.next h.old) fun _ h2 => view_set hq2 h2
  · show M.first + gone + ((M.recs.drop gone).take n).length ≤ M.used + 1
    rw [hln]
    have := h.nxt
    omega
  · show M.used + 1 ≤ maxUsed
    unfold maxUsed
    omega
theorem DiskAt.openOpens (h : DiskAt S M gen E gone n from_ cnt es) (hu : M.used < maxUsed) {q : Nat} (hq : ((gen + 1 : Nat) : Int) % 2 = (q : Int)) (hq2 : q < 2) :
    Opens (S.set q ⟨(mkB (gen + 1) (E + 1) (M.first + gone) from_ n).sec, false⟩) { M with used := M.used + 1 } := by
  have hl := h.opened hu hq hq2
  have hle := h.le
  have hln : ((M.recs.drop gone).take n).length = n := by rw [List.length_take, List.length_drop]; omega
  exact ⟨_, _, gone, n, _, _, _, hl.disk hln.symm (M := { M with used := M.used + 1 }) rfl rfl rfl h.le h.way h.sure (by have := h.age; show M.epoch ≤ E + 1; omega) (Nat.le_refl _) h.few h.small (by have := h.nxt; show M.first + M.recs.length ≤ M.used + 1; omega) (by show M.used + 1 ≤ maxUsed; unfold maxUsed at hu ⊢; omega)⟩
theorem DiskAt.again (h : DiskAt S M gen E gone n from_ cnt es) : AgainTo M (openLg M E gone n) := ⟨gone, n, h.way, h.le, h.sure, E + 1, by have := h.age; omega, rfl⟩
end

/-- A device on which nothing was written yet, opened. -/
theorem fresh_view (n : Nat) (i : Nat) : viewS (List.replicate n secZero) i = none := by
  unfold viewS
  rw [List.getD_eq_getElem?_getD, List.getElem?_replicate]
  split <;> exact secV_zero
theorem fresh_live {n : Nat} (h4 : 4 ≤ n) (hn : n ≤ 4096) : Live ((List.replicate n secZero).set 0 ⟨(mkB 0 1 0 2 0).sec, false⟩) ⟨0, [], 0, none, n - 2, 1, false, 0⟩ 0 2 0 [] := by
  have hv : ∀ i, 2 ≤ i → viewS ((List.replicate n secZero).set 0 ⟨(mkB 0 1 0 2 0).sec, false⟩) i = none := fun i hi => by rw [view_set (by decide) hi]; exact fresh_view n i
  have hf : (mkB 0 1 0 2 0).fits = true := mkB_fits (by decide) (by decide) (by decide) (by decide) (by decide)
  refine ⟨Nat.zero_le _, by show 2 ≤ n - 2; omega, by show n - 2 ≤ 4094; omega, fun r hr => by (cases hr), Nat.le_refl _, by rw [List.length_set, List.length_replicate]; show n = n - 2 + 2; omega, ?_, ?_, ?_, ?_, Nat.le_refl _, ?_, Nat.le_refl _, by show 0 ≤ maxUsed; exact Nat.zero_le _⟩
  · exact (inv_new n).write (by show 2 ≤ (List.replicate n secZero).length; rw [List.length_replicate]; omega) ⟨rfl, by decide, rfl⟩ hf
  · exact ⟨⟨Nat.le_refl _, Nat.le_refl _⟩, fun _ => ⟨rfl, .inr rfl⟩, fun h => absurd h (Nat.lt_irrefl 0), ⟨Nat.le_refl _, by show 2 < n - 2 + 2; omega⟩, Nat.le_refl _⟩
  · exact ⟨rfl, fun i hi => absurd hi (Nat.not_lt_zero _)⟩
  · exact ⟨fun i hi => absurd hi (Nat.not_lt_zero _), fun i hi => absurd hi (Nat.not_lt_zero _), fun i _ hi => absurd hi (Nat.not_lt_zero _)⟩
  · intro i x b h2 e
    rw [hv i h2] at e
    cases e

/-- All its records are seen, those that wait too. -/
theorem Live.seen {S : List Sec} {M : Lg} {gen from_ cnt : Nat} {es : List Nat} (h : Live S M gen from_ cnt es) {j : Nat} (hj : j < M.recs.length) :
    ∃ ep, RecIn (viewU (unsW M.places from_ M.first M.epoch M.sure M.recs) (viewS S)) M.places (from_ + offN M.recs j) (M.first + j) ep (M.recs.getD j []) := by
  rcases Nat.lt_or_ge j M.sure with hs | hs
  · have hlt : j < (M.recs.take M.sure).length := by rw [List.length_take]; omega
    have h1 := h.chain.all j hlt
    rw [getD_take hs, offN_take (Nat.le_of_lt hs)] at h1
    refine ⟨_, h1.view fun i hi => ?_⟩
    unfold viewU
    split
    · rename_i u e
      have hm := List.mem_of_find?_eq_some e
      have hp := List.find?_some e
      have hp' : u.place = arN M.places (from_ + offN M.recs j + i) := by simpa using hp
      exact absurd (h.place hm hj hi hp').1 (by omega)
    · rfl
  · refine ⟨M.epoch, rec_len h.small j, fun i hi => ?_⟩
    have hu0 : (⟨arN M.places (from_ + offN M.recs j + i), sealB (recH M.epoch (M.first + j) i (partsN (M.recs.getD j []).length)) (chunk (M.recs.getD j []) i)⟩ : Wri) ∈ unsW M.places from_ M.first M.epoch M.sure M.recs := mem_unsW.2 ⟨j, i, hs, hj, hi, rfl⟩
    unfold viewU
    split
    · rename_i u e
      have hm := List.mem_of_find?_eq_some e
      have hp := List.find?_some e
      have hp' : u.place = arN M.places (from_ + offN M.recs j + i) := by simpa using hp
      exact (h.place hm hj hi hp').2
    · rename_i e
      have := List.find?_eq_none.1 e _ hu0
      simp at this

end Go.Proofs.YtgfoekbdmgljbaaDoor

namespace Go.Proofs.YtgfoekbdmgljbaaDoor
open Go.RowKit

theorem u8_info : (Tryd.prog.info? 5).map (fun i => (i.zero, i.size, i.bytes)) = some (some (.int .u8 0), 1, 1) := by kernel_rfl
theorem u8_size : (Tryd.prog.info? 5).map (·.size) = some 1 := by kernel_rfl

theorem own_form {w : World} {base : Nat} {t : TypeId} {v : Value} {n : Nat} {xs : List Value} {size : Nat} (h : w.ownsRow base t size v n xs) : ∃ A c, v = .slice A n c ∧ n ≤ c ∧ c ≤ maxLen := by
  rcases h.2 with ⟨rfl, rfl⟩ | ⟨g, cap, cur, rfl, _, _, hn, hc, _⟩
  · exact ⟨none, 0, rfl, Nat.le_refl _, by unfold maxLen; omega⟩
  · exact ⟨_, cap, rfl, hn, hc⟩
theorem own_cap {w : World} {base : Nat} {t : TypeId} {A : Option Addr} {n c : Nat} {xs : List Value} {size : Nat} (h : w.ownsRow base t size (.slice A n c) n xs) : n ≤ c := by
  obtain ⟨A', c', e, h1, _⟩ := own_form h
  injection e with _ _ e
  omega
theorem bc_one (l : List UInt8) : ∀ u ∈ l.map bc, u.oneCell' = true := by
  intro u hu
  obtain ⟨x, _, rfl⟩ := List.mem_map.1 hu
  rfl

/-- The call answers a slice of its own, which reads as l; nothing that was there has turned. -/
def Owned (w : World) (l : List UInt8) (e : Ending) (w' : World) : Prop :=
  ∃ A c, e = .returned (.slice A l.length c) ∧ w'.ownsRow w.heap.size 5 1 (.slice A l.length c) l.length (l.map bc) ∧ Below w.heap.size w w'

def TrueB (w : World) (e : Ending) (w' : World) : Prop := e = .returned (.bool true) ∧ Below w.heap.size w w'
/-- The call answers v; it may have drawn. -/
def Drewn (w : World) (v : Value) (e : Ending) (w' : World) : Prop := e = .returned v ∧ ∃ k, w' = w.drewN k
/-- The call answers v; nothing that was there has turned. -/
def Gave (w : World) (v : Value) (e : Ending) (w' : World) : Prop := e = .returned v ∧ Below w.heap.size w w'
/-- The call answers v; the world is as it was. -/
def Told (w : World) (v : Value) (e : Ending) (w' : World) : Prop := e = .returned v ∧ w = w'

theorem ret_bool {a b : Bool} (h : a = b) : Ending.returned (.bool a) = .returned (.bool b) := by rw [h]
theorem ret_int {k : IntKind} {a b : Int} (h : a = b) : Ending.returned (.int k a) = .returned (.int k b) := by rw [h]

theorem below_cells {W w1 : World} (hb : Below W.heap.size W w1) : ∀ b o, b < W.heap.size → w1.cell? ⟨b, o, none⟩ = W.cell? ⟨b, o, none⟩ := fun b o h => hb.cell (p := ⟨b, o, none⟩) h

/-- Block g is known whole; the mark that a conversion laid stands behind its last cell. -/
def Marked (w : World) (g : Nat) (t : TypeId) (L : List Value) : Prop := ∃ m, L.length ≤ m ∧ w.heap[g]? = some (.cells L.toArray t (m, m + 1))
section
variable {w w' : World} {g : Nat} {t : TypeId} {L : List Value}
theorem Marked.lt (h : Marked w g t L) : g < w.heap.size := by
  obtain ⟨m, _, h⟩ := h
  rcases Nat.lt_or_ge g w.heap.size with hl | hl
  · exact hl
  · rw [Array.getElem?_eq_none hl] at h; cases h
theorem Marked.cell (h : Marked w g t L) (i : Nat) : w.cell? ⟨g, i, none⟩ = L[i]? := by
  obtain ⟨m, _, h⟩ := h
  simp [World.cell?, h]
theorem Marked.frozen (h : Marked w g t L) {i : Nat} (hi : i < L.length) : w.frozen? ⟨g, i, none⟩ = false := by
  obtain ⟨m, hm, h⟩ := h
  simp [World.frozen?, h]
  omega
theorem Marked.drewN (h : Marked w g t L) (n : Nat) : Marked (w.drewN n) g t L := h
theorem Marked.alloc (h : Marked w g t L) (o : Obj) : Marked (w.alloc o) g t L := by
  have hl := h.lt
  obtain ⟨m, hm, h⟩ := h
  exact ⟨m, hm, (Below.heap_alloc w o g hl).trans h⟩
theorem Marked.set_ (h : Marked w g t L) (i : Nat) (u : Value) : Marked (w.setCell ⟨g, i, none⟩ u) g t (L.set i u) := by
  obtain ⟨m, hm, h⟩ := h
  refine ⟨m, by simpa using hm, ?_⟩
  simp [World.setCell, Array.getElem?_modify, h]
theorem Marked.below {B : Nat} (h : Marked w g t L) (hb : Below B w w') (hg : g < B) : Marked w' g t L := by
  obtain ⟨m, hm, h⟩ := h
  exact ⟨m, hm, (hb.block g hg).trans h⟩
theorem Marked.row (h : Marked w g t L) : Row w w.heap.size (some ⟨g, 0, none⟩) L := Row.of_cells h.lt fun j u hu => by rw [Nat.zero_add, h.cell]; exact hu
end

/-- A string as a cell. -/
def sv (l : List UInt8) : Value := .string ⟨l.toArray⟩

theorem sv_one (n : List (List UInt8)) : ∀ u ∈ n.map sv, u.oneCell' = true := by
  intro u hu
  obtain ⟨x, _, rfl⟩ := List.mem_map.1 hu
  rfl
theorem Row.name_at {w : World} {H : Nat} {A : Option Addr} {n : List (List UInt8)} (h : Row w H A (n.map sv)) {k : Nat} (hk : k < n.length) :
    ∃ b off, A = some ⟨b, off, none⟩ ∧ b < H ∧ w.cell? ⟨b, off + k, none⟩ = some (.string ⟨(n[k]).toArray⟩) := by
  obtain ⟨b, off, e, hb, hc⟩ := h.at_ (k := k) (by rw [List.length_map]; exact hk)
  exact ⟨b, off, e, hb, by rw [hc]; simp [sv]⟩

/-- What a statement's argument is: a name, read in the world w. -/
def NameIn (w : World) (A : Option Addr) (n : List (List UInt8)) : Prop := Row w w.heap.size A (n.map sv) ∧ n.length ≤ 140737488351232 ∧ ∀ k (h : k < n.length), (n[k]).length ≤ maxLen

theorem bytesRow_list (l : List UInt8) (cap : Nat) : bytesRow ⟨l.toArray⟩ cap = (l.map bc ++ zerosL (.int .u8 0) (cap - l.length)).toArray := by
  unfold bytesRow zerosL
  simp
  rfl

/-- '[]byte(s)': a block of the call's own, the bytes and zeros behind them. -/
theorem wpList_bytes {P : Program} {w : World} {ops : Array Oper} {rest : List Oper} {o : Oper} {a : Act} {Q : Exit → Act → World → Prop} (hgd : o.guard = none) (x : Operand) (src dst e : TypeId) (hop : o.op = Op.convert src dst x)
    (hs : P.underlying src = some .string) (hd : P.underlying dst = some (.slice e)) (he : P.underlying e = some (.int .u8)) (l : List UInt8) (hx : a.eval x = .string ⟨l.toArray⟩)
    (h : ∀ C w', l.length ≤ C → Marked w' w.heap.size e (l.map bc ++ zerosL (.int .u8 0) (C - l.length)) → Below w.heap.size w w' → w'.heap.size = w.heap.size + 1 →
      wpList P ops Q rest (a.put o.dst (.slice (some ⟨w.heap.size, 0, none⟩) l.length C)) w') : wpList P ops Q (o :: rest) a w := by
  refine wpList_plain hgd fun K hK => ?_
  have hr := run_bytes_of_string (P := P) w src dst e ⟨l.toArray⟩ hs hd he
  have hsz : (ByteArray.mk l.toArray).size = l.length := by simp [ByteArray.size]
  rw [hsz] at hr
  unfold Oper.wp
  simp [execOp, hop, hx, hr, Result.andThen]
  refine hK _ _ (h _ _ (grownCap_ge w l.length 0 e) ?_ ?_ ?_)
  · refine ⟨(bytesRow ⟨l.toArray⟩ (grownCap w l.length 0 e)).size, ?_, ?_⟩
    · rw [bytesRow_list]; simp
    · rw [bytesRow_list]
      exact heap_alloc_new w.drew _
  · exact ((Below.refl _ w).drew).alloc (Nat.le_refl _) _
  · simp

end Go.Proofs.YtgfoekbdmgljbaaDoor

namespace Go.Proofs.YtgfoekbdmgljbaaDoor
open Go.RowKit

set_option maxHeartbeats 400000 in
theorem sized_yes (s : Int) (w : World) (h1 : 1 ≤ s) (h2 : s ≤ 7) :
    Calls Tryd.prog 65 #[.int .i64 s] w fun e w' => e = .returned (.bool true) ∧ w = w' := by
  go_enter Tryd.func65, Tryd.ntmps65
  go_wp2
  go_ret
  exact ⟨rfl, rfl⟩

set_option maxHeartbeats 400000 in
theorem sized_no (s : Int) (w : World) (h : s < 1 ∨ 7 < s) :
    Calls Tryd.prog 65 #[.int .i64 s] w fun e w' => e = .returned (.bool false) ∧ w = w' := by
  rcases h with h | h
  · go_enter Tryd.func65, Tryd.ntmps65
    go_wp2
    go_ret
    exact ⟨rfl, rfl⟩
  · have h1 : ¬ s < 1 := by omega
    have hd : decide (s ≤ 7) = false := by simp; omega
    go_enter Tryd.func65, Tryd.ntmps65
    go_wp2
    go_ret
    exact ⟨rfl, rfl⟩

set_option maxHeartbeats 400000 in
theorem fits_any (n s : Int) (w : World) :
    Calls Tryd.prog 54 #[.int .i64 n, .int .i64 s] w fun e w' => e = .returned (.bool (fitB n s)) ∧ w = w' := by
  by_cases hs : 1 ≤ s ∧ s ≤ 7
  · obtain ⟨h1, h2⟩ := hs
    by_cases hn : 0 ≤ n
    · go_enter Tryd.func54, Tryd.ntmps54
      go_wp2_with (go_at_call 65; refine (sized_yes _ _ h1 h2).mono ?_; rintro e w' ⟨rfl, rfl⟩)
      go_ret
      exact ⟨by rw [← fitB_shr h1 h2 hn]; rfl, rfl⟩
    · have hd : decide (0 ≤ n) = false := by simp; omega
      go_enter Tryd.func54, Tryd.ntmps54
      go_wp2_with (go_at_call 65; refine (sized_yes _ _ h1 h2).mono ?_; rintro e w' ⟨rfl, rfl⟩)
      go_ret
      exact ⟨by rw [fitB_neg (by omega)]; rfl, rfl⟩
  · have hs' : s < 1 ∨ 7 < s := by omega
    go_enter Tryd.func54, Tryd.ntmps54
    go_wp2_with (go_at_call 65; refine (sized_no _ _ hs').mono ?_; rintro e w' ⟨rfl, rfl⟩)
    go_ret
    exact ⟨by rw [fitB_no_size hs]; rfl, rfl⟩
















































end Go.Proofs.YtgfoekbdmgljbaaDoor

namespace Go.Proofs.YtgfoekbdmgljbaaDoor
open Go.RowKit

/-- The variable's five cells. -/
def SizesAt (w : World) : Prop := ∃ t fr, w.heap[1]? = some (.cells (szL.map fun z => Value.int .i64 z).toArray t fr)
section
variable {w w' : World}
theorem SizesAt.lt (h : SizesAt w) : 1 < w.heap.size := by
  obtain ⟨t, fr, h⟩ := h
  rcases Nat.lt_or_ge 1 w.heap.size with h0 | h0
  · exact h0
  · rw [Array.getElem?_eq_none h0] at h
    cases h
theorem SizesAt.below {B : Nat} (h : SizesAt w) (hb : Below B w w') (hB : 1 < B) : SizesAt w' := by
  obtain ⟨t, fr, h⟩ := h
  exact ⟨t, fr, (hb.block _ hB).trans h⟩
theorem SizesAt.next (h : SizesAt w) (hb : Below w.heap.size w w') : SizesAt w' := h.below hb h.lt
theorem SizesAt.alloc (h : SizesAt w) (o : Obj) : SizesAt (w.alloc o) := h.below ((Below.refl w.heap.size w).alloc (Nat.le_refl _) o) h.lt
theorem SizesAt.drewN (h : SizesAt w) (k : Nat) : SizesAt (w.drewN k) := h
theorem SizesAt.cell (h : SizesAt w) {k : Nat} (hk : k < 5) : w.cell? ⟨1, k, none⟩ = some (.int .i64 (szN k)) := by
  obtain ⟨t, fr, h⟩ := h
  have hs : (szL.map fun z => Value.int .i64 z)[k]? = some (.int .i64 (szN k)) := by
    have hl : k < szL.length := hk
    rw [List.getElem?_map, List.getElem?_eq_getElem hl]
    simp [szN, List.getD_eq_getElem?_getD, List.getElem?_eq_getElem hl]
  rw [← hs]
  simp [World.cell?, h]
end

set_option maxRecDepth 20000 in
theorem arr_index0 (h : SH) (w : World) : (Instr.index 103 h.val (.int .i64 0)).run Tryd.prog w = .ok (.int .i64 h.kind) w := by rfl
set_option maxRecDepth 20000 in
theorem arr_index1 (h : SH) (w : World) : (Instr.index 103 h.val (.int .i64 1)).run Tryd.prog w = .ok (.int .i64 h.epoch) w := by rfl
set_option maxRecDepth 20000 in
theorem arr_index2 (h : SH) (w : World) : (Instr.index 103 h.val (.int .i64 2)).run Tryd.prog w = .ok (.int .i64 h.seq) w := by rfl
set_option maxRecDepth 20000 in
theorem arr_index3 (h : SH) (w : World) : (Instr.index 103 h.val (.int .i64 3)).run Tryd.prog w = .ok (.int .i64 h.part) w := by rfl
set_option maxRecDepth 20000 in
theorem arr_index4 (h : SH) (w : World) : (Instr.index 103 h.val (.int .i64 4)).run Tryd.prog w = .ok (.int .i64 h.parts) w := by rfl
theorem arr_index (h : SH) {k : Nat} (hk : k < 5) (w : World) : (Instr.index 103 h.val (.int .i64 (k : Int))).run Tryd.prog w = .ok (.int .i64 (h.num k)) w := by
  have e : k = 0 ∨ k = 1 ∨ k = 2 ∨ k = 3 ∨ k = 4 := by omega
  rcases e with rfl | rfl | rfl | rfl | rfl
  · exact arr_index0 h w
  · exact arr_index1 h w
  · exact arr_index2 h w
  · exact arr_index3 h w
  · exact arr_index4 h w

theorem numbers_any (h : SH) (w : World) : Calls Tryd.prog 58 #[h.val] w (Gave w h.val) := by
  unfold SH.val
  go_enter Tryd.func58, Tryd.ntmps58
  go_wp2
  exact bodyPost_ret (v := .agg #[.int .i64 h.kind, .int .i64 h.epoch, .int .i64 h.seq, .int .i64 h.part, .int .i64 h.parts]) (by simp [results, Tryd.results58, go_sem]) rfl ⟨rfl, ((Below.refl _ _).alloc (Nat.le_refl _) _).alloc (by simp) _⟩

def SoundRel (h : SH) (w : World) (i : Value) (wr : World) : Prop := ∃ k : Nat, k ≤ 5 ∧ i = .int .i64 k ∧ fitsTo h k = true ∧ wr = w

set_option maxHeartbeats 400000 in
theorem sound_any (h : SH) (w : World) (hs : SizesAt w) : Calls Tryd.prog 57 #[h.val] w (Gave w (.bool (headB h))) := by
  have HN := Lib.hid (numbers_any h)
  
  have HS := Lib.hid hs
  clear hs
  unfold SH.val
  go_enter Tryd.func57, Tryd.ntmps57
  go_wp2_with fail
  refine (HN.out _).mono ?_
  rintro e w1 ⟨rfl, hb1⟩
  have HS1 := Lib.hid ((HS.out.alloc _).next hb1)
  have HB1 := Lib.hid (((Below.refl w.heap.size w).alloc (Nat.le_refl _) _).trans (hb1.mono (by simp)))
  have hc0 : ∀ j v, h.cells[j]? = some v → w1.cell? ⟨w.heap.size, j, none⟩ = some v := fun j v hj => by
    rw [hb1.cell (p := ⟨w.heap.size, j, none⟩) (by simp), World.cell?_alloc_at _ _ _ _ rfl]
    simpa [SH.cells] using hj
  have c0 := hc0 0 _ rfl
  have c3 := hc0 3 _ rfl
  have c4 := hc0 4 _ rfl
  clear hc0 hb1
  go_wp2
  go_loopw [7] (SoundRel h w1) (fun i _ => 5 - (intOf i).toNat)
  case atStart => exact ⟨0, by omega, rfl, rfl, rfl⟩
  case round =>
    obtain ⟨k, hk, rfl, hf, rfl⟩ := hrel
    by_cases hlt : k < 5
    · have hi := fun w => arr_index h hlt w
      have hcel := HS1.out.cell hlt
      cases hfit : fitB (h.num k) (szN k) with
      | true =>
        have hc := fun W => fits_any (h.num k) (szN k) W
        rw [hfit] at hc
        have HC := Lib.hid hc
        have HF := Lib.hid (show fitsTo h (k + 1) = true by simp only [fitsTo, hf, hfit, Bool.and_self])
        clear hc hf hfit
        go_wp2_with fail
        refine (HC.out _).mono ?_
        rintro e w' ⟨rfl, rfl⟩
        go_wp2
        refine ⟨⟨k + 1, by omega, by go_num, HF.out, rfl⟩, by simp [intOf]; omega⟩
      | false =>
        have hc := fun W => fits_any (h.num k) (szN k) W
        rw [hfit] at hc
        have HC := Lib.hid hc
        have HF := Lib.hid (headB_no_fit hlt hfit)
        clear hc hf hfit
        go_wp2_with fail
        refine (HC.out _).mono ?_
        rintro e w' ⟨rfl, rfl⟩
        go_wp2
        go_ret
        exact ⟨by rw [HF.out]; rfl, HB1.out⟩
    · obtain rfl : k = 5 := by omega
      by_cases hk0 : h.kind = 0
      · have d1 : (h.kind != 0) = false := by simp [hk0]
        have HF := Lib.hid (show headB h = false by simp [headB, hk0])
        clear hk0 hf
        go_wp2
        go_ret
        exact ⟨by rw [HF.out]; rfl, HB1.out⟩
      · have d1 : (h.kind != 0) = true := by simp [hk0]
        by_cases hp : h.part < h.parts
        · have d2 : decide (h.part < h.parts) = true := by simp [hp]
          have HF := Lib.hid (show headB h = true by simp [headB, hk0, hp, hf])
          clear hk0 hf hp
          go_wp2
          go_ret
          exact ⟨by rw [HF.out]; rfl, HB1.out⟩
        · have d2 : decide (h.part < h.parts) = false := by simp [hp]
          have HF := Lib.hid (show headB h = false by simp [headB, hp])
          clear hk0 hf hp
          go_wp2
          go_ret
          exact ⟨by rw [HF.out]; rfl, HB1.out⟩

end Go.Proofs.YtgfoekbdmgljbaaDoor

namespace Go.Proofs.YtgfoekbdmgljbaaDoor
open Go.RowKit

set_option maxHeartbeats 400000 in
theorem put_no (A : Option Addr) (k c H : Nat) (l : List UInt8) (n s : Int) (w : World) (hl : l.length = k) (hA : Row w H A (l.map bc)) (hb : k ≤ 140737488355328) (hf : fitB n s = false) :
    Calls Tryd.prog 59 #[.slice A k c, .int .i64 n, .int .i64 s] w (Owned w l) := by
  have hf2 := fun W => fits_any n s W
  rw [hf] at hf2
  obtain ⟨i0, hi0, hz0, hz1, hz2⟩ := info_parts u8_info
  have HF := Lib.hid hf2
  have HL := Lib.hid hl
  have HA := Lib.hid hA
  clear hf hf2 hl hA
  go_enter Tryd.func59, Tryd.ntmps59
  go_wp2_with (first
    | (go_at_call 54; refine (HF.out _).mono ?_; rintro e w' ⟨rfl, rfl⟩)
    | (at_builtin
       refine wpList_append_row rfl (.const (.slice none 0 0)) (.tmp 13) _ rfl w.heap.size 5 i0 _ 1 1 Tryd.underlying35 hi0 hz0 hz1 hz2 rfl (by omega) (.slice none 0 0) 0 [] rfl
         (World.ownsRow_nil _ _ _ _) A k c H (l.map bc) rfl (by rw [List.length_map, HL.out]; omega) HA.out (bc_one l) (by unfold maxLen; omega) (by omega) (Nat.le_refl _) ?_
       intro v1 w1 hown1 hg1))
  go_ret
  obtain ⟨A', c', rfl, _, _⟩ := own_form hown1
  have hL := HL.out
  subst hL
  rw [Nat.zero_add] at *
  exact ⟨A', c', rfl, by simpa using hown1, own_below (Below.refl _ _) (Nat.le_refl _) (Nat.le_refl _) (World.ownsRow_nil _ w.heap.size 5 1) hg1⟩

def PutRel (B : Nat) (w : World) (l : List UInt8) (n s : Nat) (v i : Value) (wr : World) : Prop :=
  ∃ k : Nat, k ≤ s ∧ i = .int .i64 ((s : Int) - 1 - k) ∧ wr.ownsRow B 5 1 v (l.length + k) ((l ++ (digs n s).take k).map bc) ∧ Below B w wr ∧ B ≤ wr.heap.size

set_option maxRecDepth 4000 in
set_option maxHeartbeats 400000 in
theorem put_yes (A : Option Addr) (m c H : Nat) (l : List UInt8) (n s : Nat) (w : World) (hl : l.length = m) (hA : Row w H A (l.map bc)) (hH : H ≤ w.heap.size) (hb : m ≤ 140737488355000) (hf : fitB n s = true) :
    Calls Tryd.prog 59 #[.slice A m c, .int .i64 n, .int .i64 s] w (Owned w (l ++ digs n s)) := by
  obtain ⟨h1, h2, h3, h4⟩ : (1 : Int) ≤ s ∧ (s : Int) ≤ 7 ∧ (0 : Int) ≤ n ∧ (n : Int) < 2 ^ (8 * (s : Int).toNat) := by simpa [fitB] using hf
  have hf2 := fun W => fits_any n s W
  rw [hf] at hf2
  obtain ⟨i0, hi0, hz0, hz1, hz2⟩ := info_parts u8_info
  have HF := Lib.hid hf2
  have HL := Lib.hid hl
  have HA := Lib.hid hA
  have H4 := Lib.hid h4
  have HH := Lib.hid hH
  clear hf hf2 hl hA h4 hH
  go_enter Tryd.func59, Tryd.ntmps59
  go_wp2_with (first
    | (go_at_call 54; refine (HF.out _).mono ?_; rintro e w' ⟨rfl, rfl⟩)
    | (refine wpList_make_zeros rfl (.tmp 16) (.tmp 20) _ rfl 5 i0 _ 1 Tryd.underlying35 hi0 hz0 hz1 hz2 rfl .i64 .i64 _ _ m (m + s) rfl rfl rfl (by omega) (by omega) (by omega) (by unfold maxLen; omega) ?_)
    | (with_reducible refine wpList_copy_splice rfl _ _ _ _ rfl 5 Tryd.underlying35 u8_size _ _ _ _ _ _ rfl rfl w.heap.size 0 (zerosL (.int .u8 0) (m + s)) 5 (heap_alloc_new w _) (l.map bc) ?c3 ?c4 ?c5 (bc_one l) w.heap.size w ?c7 (Nat.le_refl _) ?_
       case c3 => rw [List.length_map, HL.out]; exact (Nat.min_self m).symm
       case c4 => exact fun h0 => ⟨rfl, (HA.out.alloc HH.out _).pos h0⟩
       case c5 => rw [List.length_map, HL.out, length_zerosL]; omega
       case c7 => exact (Below.refl _ _).alloc (Nat.le_refl _) _
       intro w2 HG2 hB2))
  have hown : w2.ownsRow w.heap.size 5 1 (.slice (some ⟨w.heap.size, 0, none⟩) m (m + s)) (l.length + 0) ((l ++ (digs n s).take 0).map bc) := by
    rw [Nat.add_zero, HL.out]
    refine own_of_block HG2.out (Nat.le_refl _) ?_ (by omega) (by unfold maxLen; omega) ?_
    · rw [length_splice _ _ _ (by rw [List.length_map, HL.out, length_zerosL]; omega), length_zerosL]
    · simp [splice, HL.out]
  have HO := Lib.hid hown
  have hz := hB2.size
  clear hown HG2
  go_loopw [7, 8] (PutRel w.heap.size w l n s) (fun _ i _ => (intOf i + 1).toNat)
  case atStart => exact ⟨0, by omega, by simp, HO.out, hB2, hz⟩
  case round =>
    obtain ⟨k, hk, rfl, hown, hbw, hbz⟩ := hrel
    obtain ⟨A1, c1, rfl, hc1, hc2⟩ := own_form hown
    have HO1 := Lib.hid hown
    have HB1 := Lib.hid hbw
    clear hown hbw
    by_cases hlt : k < s
    · have hd : decide ((k : Int) ≤ (s : Int) - 1) = true := by simp; omega
      have hr := Row.made wr #[.int .u8 ((n : Int) / 2 ^ (8 * (s - 1 - k)) % 256)] 5
      have HR := Lib.hid hr
      clear hr
      go_wp2_with (
        at_builtin
        refine wpList_append_row rfl (.tmp 31) (.tmp 37) _ rfl w.heap.size 5 i0 _ 1 1 Tryd.underlying35 hi0 hz0 hz1 hz2 rfl (by omega) (.slice A1 (l.length + k) c1) (l.length + k) _ rfl (HO1.out.alloc _)
          (some ⟨wr.heap.size, 0, none⟩) 1 1 (wr.heap.size + 1) [.int .u8 ((n : Int) / 2 ^ (8 * (s - 1 - k)) % 256)] rfl rfl HR.out (by simp [Value.oneCell']) (by unfold maxLen; have := HL.out; omega) (by have := HL.out; omega) (by simp; omega) ?_
        intro v1 w1 hown1 hg1)
      refine ⟨⟨k + 1, by omega, by go_num, ?_, ?_, ?_⟩, ?_⟩
      · rw [← digs_cells l n s k hlt]; exact hown1
      · exact own_below (HB1.out.alloc hbz _) (Nat.le_refl _) (by simp; omega) (HO1.out.alloc _) hg1
      · have := hg1.size; simp at this; omega
      · simp [intOf]; omega
    · obtain rfl : k = s := by omega
      have hd : decide ((0 : Int) ≤ (k : Int) - 1 - k) = false := by simp; omega
      go_wp2
      go_ret
      have hL : l.length + k = (l ++ digs n k).length := by simp [length_digs]
      have hT : (digs n k).take k = digs n k := List.take_of_length_le (by rw [length_digs]; omega)
      have ho := HO1.out
      rw [hT, hL] at ho
      exact ⟨A1, c1, by rw [← hL]; rfl, ho, HB1.out⟩

theorem put_any (A : Option Addr) (m c H : Nat) (l : List UInt8) (n s : Int) (w : World) (hl : l.length = m) (hA : Row w H A (l.map bc)) (hH : H ≤ w.heap.size) (hb : m ≤ 140737488355000) :
    Calls Tryd.prog 59 #[.slice A m c, .int .i64 n, .int .i64 s] w (Owned w (putL l n s)) := by
  cases hf : fitB n s with
  | false => rw [putL_no hf]; exact put_no A m c H l n s w hl hA (by omega) hf
  | true =>
    have h := hf
    simp only [fitB, decide_eq_true_eq] at h
    obtain ⟨n', rfl⟩ : ∃ k : Nat, n = k := ⟨n.toNat, by omega⟩
    obtain ⟨s', rfl⟩ : ∃ k : Nat, s = k := ⟨s.toNat, by omega⟩
    rw [putL_yes hf]
    exact put_yes A m c H l n' s' w hl hA hH hb hf

end Go.Proofs.YtgfoekbdmgljbaaDoor

namespace Go.Proofs.YtgfoekbdmgljbaaDoor
open Go.RowKit

structure Grew (F : Nat → Prop) (w w' : World) : Prop where
  os : w'.os = w.os
  tape : w'.tape = w.tape
  output : w'.output = w.output
  size : w.heap.size ≤ w'.heap.size
  block : ∀ k, k < w.heap.size → ¬ F k → w'.heap[k]? = w.heap[k]?

section
variable {F G : Nat → Prop} {w w' w'' : World}
theorem Grew.refl (F : Nat → Prop) (w : World) : Grew F w w := ⟨rfl, rfl, rfl, Nat.le_refl _, fun _ _ _ => rfl⟩
theorem Grew.trans (h : Grew F w w') (k : Grew G w' w'') (hG : ∀ j, G j → F j ∨ w.heap.size ≤ j) : Grew F w w'' :=
  ⟨k.os.trans h.os, k.tape.trans h.tape, k.output.trans h.output, Nat.le_trans h.size k.size, fun j hj hF =>
    (k.block j (Nat.lt_of_lt_of_le hj h.size) (fun hg => by rcases hG j hg with h1 | h1; exact hF h1; omega)).trans (h.block j hj hF)⟩
theorem Grew.mono (h : Grew F w w') (hG : ∀ j, F j → G j ∨ w.heap.size ≤ j) : Grew G w w' :=
  ⟨h.os, h.tape, h.output, h.size, fun j hj hg => h.block j hj (fun hf => by rcases hG j hf with h1 | h1; exact hg h1; omega)⟩
theorem Grew.of_below {B : Nat} (h : Below B w w') (hF : ∀ j, B ≤ j → F j ∨ w.heap.size ≤ j) : Grew F w w' :=
  ⟨h.os, h.tape, h.output, h.size, fun j hj hf => h.block j (by rcases Nat.lt_or_ge j B with h1 | h1; exact h1; rcases hF j h1 with h2 | h2; exact absurd h2 hf; omega)⟩
theorem Grew.all (h : Below w.heap.size w w') : Grew F w w' := Grew.of_below h fun _ hj => .inr hj
theorem Grew.below (h : Grew F w w') {B : Nat} (hF : ∀ j, F j → B ≤ j) (hB : B ≤ w.heap.size) : Below B w w' :=
  ⟨h.os, h.tape, h.output, h.size, fun k hk => h.block k (Nat.lt_of_lt_of_le hk hB) (fun hf => by have := hF k hf; omega)⟩
theorem Grew.of_grown {row : Option Nat} (h : w.grownBy w' row) (hF : ∀ j, row = some j → F j ∨ w.heap.size ≤ j) : Grew F w w' :=
  ⟨h.os, h.tape, h.output, h.size, fun k hk hf => h.block k hk (fun e => by rcases hF k e.symm with h1 | h1; exact hf h1; omega)⟩
theorem Grew.alloc (h : Grew F w w') (o : Obj) : Grew F w (w'.alloc o) := h.trans (G := fun _ => False) (Grew.all ((Below.refl _ _).alloc (Nat.le_refl _) o)) (fun _ h => h.elim)
theorem Grew.drewN (h : Grew F w w') (n : Nat) : Grew F w (w'.drewN n) := ⟨h.os, h.tape, h.output, h.size, h.block⟩
theorem Grew.setCell (h : Grew F w w') {a : Addr} (ha : F a.block ∨ w.heap.size ≤ a.block) (u : Value) : Grew F w (w'.setCell a u) :=
  ⟨h.os, h.tape, h.output, by simpa using h.size, fun k hk hf => (Below.heap_setCell w' a u k (fun e => by rcases ha with h1 | h1; exact hf (e ▸ h1); omega)).trans (h.block k hk hf)⟩
theorem Grew.grown (h : Grew F w w') {row : Option Nat} (hg : w'.grownBy w'' row) (hr : ∀ j, row = some j → F j ∨ w.heap.size ≤ j) : Grew F w w'' :=
  h.trans (G := fun j => row = some j) (Grew.of_grown hg fun _ h => .inl h) hr
theorem Grew.then_below (h : Grew F w w') (hb : Below w'.heap.size w' w'') : Grew F w w'' :=
  h.trans (G := fun _ => False) (Grew.all hb) (fun _ h => h.elim)

/-- A row of the call's own stays, if its block does. -/
theorem own_keep {base : Nat} {e : TypeId} {size n : Nat} {v : Value} {xs : List Value} (h : w.ownsRow base e size v n xs) (hk : ∀ g, v.ownBlock = some g → w'.heap[g]? = w.heap[g]?) : w'.ownsRow base e size v n xs := by
  obtain ⟨h1, h2⟩ := h
  refine ⟨h1, ?_⟩
  rcases h2 with h2 | ⟨g, cap, cur, rfl, hg, hh, r⟩
  · exact .inl h2
  · exact .inr ⟨g, cap, cur, rfl, hg, (hk g rfl).trans hh, r⟩
theorem own_grew {base : Nat} {e : TypeId} {size n : Nat} {v : Value} {xs : List Value} (h : w.ownsRow base e size v n xs) (hg : Grew F w w') (hf : ∀ g, v.ownBlock = some g → ¬ F g) : w'.ownsRow base e size v n xs :=
  own_keep h fun g hv => hg.block g (h.lt g hv).2 (hf g hv)
theorem own_mono {base base' : Nat} {e : TypeId} {size n : Nat} {v : Value} {xs : List Value} (h : w.ownsRow base e size v n xs) (hb : base' ≤ base) : w.ownsRow base' e size v n xs := by
  obtain ⟨h1, h2⟩ := h
  refine ⟨h1, ?_⟩
  rcases h2 with h2 | ⟨g, cap, cur, rfl, hg, r⟩
  · exact .inl h2
  · exact .inr ⟨g, cap, cur, rfl, Nat.le_trans hb hg, r⟩
theorem Whole.keep {g : Nat} {t : TypeId} {L : List Value} (h : Whole w g t L) (hk : w'.heap[g]? = w.heap[g]?) : Whole w' g t L := hk.trans h
theorem Whole.grew {g : Nat} {t : TypeId} {L : List Value} (h : Whole w g t L) (hg : Grew F w w') (hf : ¬ F g) : Whole w' g t L := h.keep (hg.block g h.lt hf)
theorem Row.grew {H : Nat} {A : Option Addr} {xs : List Value} (h : Row w H A xs) (hg : Grew F w w') (hH : H ≤ w.heap.size) (hf : ∀ j, F j → H ≤ j) : Row w' H A xs :=
  h.below (hg.below hf hH)
/-- A row of other elements is another block. -/
theorem own_not_whole {base : Nat} {e t : TypeId} {size n g : Nat} {v : Value} {xs L : List Value} (h : w.ownsRow base e size v n xs) (hw : Whole w g t L) (ht : e ≠ t) : v.ownBlock ≠ some g := by
  intro hv
  rcases h.2 with ⟨rfl, _⟩ | ⟨g', cap, cur, rfl, _, hh, _⟩
  · cases hv
  · simp [Value.ownBlock] at hv
    subst hv
    unfold Whole at hw
    rw [hw] at hh
    simp at hh
    exact ht hh.2.symm
/-- A store into a row of the call's own. -/
theorem own_store {base g : Nat} {e : TypeId} {n c : Nat} {xs : List Value} (h : w.ownsRow base e 1 (.slice (some ⟨g, 0, none⟩) n c) n xs) {k : Nat} (_hk : k < n) (u : Value) :
    (w.setCell ⟨g, k, none⟩ u).ownsRow base e 1 (.slice (some ⟨g, 0, none⟩) n c) n (xs.set k u) := by
  obtain ⟨h1, h2⟩ := h
  refine ⟨by simpa using h1, ?_⟩
  rcases h2 with ⟨hv, _⟩ | ⟨g', cap, cur, hv, hg, hh, h3, h4, h5, h6⟩
  · cases hv
  · injection hv with hv _ hc
    injection hv with hv
    injection hv with hv
    subst hv
    subst hc
    refine .inr ⟨g, c, cur.setIfInBounds k u, rfl, hg, ?_, h3, h4, by simpa using h5, ?_⟩
    · simp [World.setCell, Array.getElem?_modify, hh]
    · rw [← h6]
      simp [List.take_set]
theorem own_cell {base g : Nat} {e : TypeId} {n c : Nat} {xs : List Value} {size : Nat} (h : w.ownsRow base e size (.slice (some ⟨g, 0, none⟩) n c) n xs) {k : Nat} (hk : k < xs.length) : w.cell? ⟨g, k, none⟩ = some xs[k] := by
  have h1 := h.cells (g := g) rfl k _ (List.getElem?_eq_getElem hk)
  rwa [addr_add, Nat.zero_add] at h1
theorem own_frozen {base g : Nat} {e : TypeId} {size n c : Nat} {xs : List Value} (h : w.ownsRow base e size (.slice (some ⟨g, 0, none⟩) n c) n xs) (k : Nat) : w.frozen? ⟨g, k, none⟩ = false := by
  rcases h.2 with ⟨hv, _⟩ | ⟨g', cap, cur, hv, hg, hh, _⟩
  · cases hv
  · injection hv with hv _ hc
    injection hv with hv
    injection hv with hv
    subst hv
    simp [World.frozen?, hh]
end

/-- append onto a row of the call's own, as wpList_append_row; it says where the new row lies. -/
theorem wpList_append_at {P : Program} {w : World} {ops : Array Oper} {rest : List Oper} {o : Oper} {a : Act} {Q : Exit → Act → World → Prop} (hgd : Region.wanted o (yielded ops a.tmps) = true) (s x : Operand) (t : TypeId)
    (ho : o.op = .call { callee := .builtin .append, args := #[s, x], argTypes := #[t, t] })
    (base : Nat) (e : TypeId) (i : TypeInfo) (z : Value) (size bytes : Nat) (ht : P.underlying t = some (.slice e)) (hi : P.info? e = some i) (hz : i.zero = some z)
    (hsize : i.size = size) (hby : i.bytes = bytes) (hzs : z.cells.size = size) (hsz : 0 < size)
    (v : Value) (n : Nat) (xs : List Value) (hs : a.eval s = v) (hown : w.ownsRow base e size v n xs)
    (A : Option Addr) (m c H : Nat) (news : List Value) (hx : a.eval x = .slice A m c) (hl : news.length = m * size) (hr : Row w H A news) (h1 : ∀ u ∈ news, u.oneCell' = true)
    (h63 : n + m ≤ maxLen) (hbytes : (n + m) * bytes ≤ 140737488355328) (hbase : base ≤ w.heap.size)
    (h : ∀ v' w', w'.ownsRow base e size v' (n + m) (xs ++ news) → w.grownBy w' v.ownBlock → (v'.ownBlock = v.ownBlock ∨ v'.ownBlock = some w.heap.size) → wpList P ops Q rest (a.put o.dst v') w') : wpList P ops Q (o :: rest) a w := by
  have key : ∃ v' w', (Builtin.append_ #[t, t] o.type #[v, .slice A m c]).run P w = .ok v' w' ∧ w'.ownsRow base e size v' (n + m) (xs ++ news) ∧ w.grownBy w' v.ownBlock ∧ (v'.ownBlock = v.ownBlock ∨ v'.ownBlock = some w.heap.size) := by
    rcases A with _ | ad
    · have hn : news = [] := by
        rcases news with _ | ⟨u, us⟩
        · rfl
        · obtain ⟨_, _, h, _⟩ := hr (by simp)
          cases h
      have hm : m = 0 := by
        subst hn
        rcases Nat.eq_zero_or_pos m with h0 | h0
        · exact h0
        · have := Nat.mul_pos h0 hsz
          simp at hl; omega
      subst hn; subst hm
      exact ⟨v, w, append_nil_run (P := P) w base t o.type e i size ht hi v n xs hown c, by simpa using hown, World.grownBy.refl w _, .inl rfl⟩
    · have hc : ∀ j u, news[j]? = some u → w.cell? (ad.add j) = some u := by
        intro j u hu
        obtain ⟨b, off, e, _, hc⟩ := hr (fun e => by rw [e] at hu; simp at hu)
        injection e with e
        subst e
        rw [addr_add]
        exact hc j u hu
      obtain ⟨v', w', h2, h3, h4, _, h6⟩ := run_append_own_at (P := P) w base t o.type e i z size bytes ht hi hz hsize hby hzs hsz v n xs hown ad m c news hl hc h1 h63 hbytes hbase
      exact ⟨v', w', h2, h3, h4, h6⟩
  obtain ⟨v', w', hrun, h2, h3, h4⟩ := key
  refine wpList_step fun K hK => ?_
  rw [if_pos hgd]
  unfold Oper.wp
  simp [execOp, ho, resolve, invoke, builtin, hs, hx, hrun, Result.andThen]
  exact hK _ _ (h v' w' h2 h3 h4)

end Go.Proofs.YtgfoekbdmgljbaaDoor

namespace Go.Proofs.YtgfoekbdmgljbaaDoor
open Go.RowKit

theorem Whole.range {w : World} {g : Nat} {t : TypeId} {L : List Value} (h : Whole w g t L) {o : Nat} {cs : List Value} (hc : ∀ j v, cs[j]? = some v → L[o + j]? = some v) : w.rangeAt g o cs := fun j v hv => by
  rw [h.cell]; exact hc j v hv
theorem Whole.there {w : World} {g : Nat} {t : TypeId} {L : List Value} (h : Whole w g t L) {o n : Nat} (hn : o + n ≤ L.length) : w.there g o n := fun j hj => by
  refine ⟨?_, h.frozen _⟩
  rw [h.cell, List.getElem?_eq_getElem (by omega)]
  rfl
theorem splice_nil {α : Type} (L : List α) (o : Nat) : splice L o [] = L := by simp [splice]
theorem splice_cons {L : List Value} {o : Nat} {v : Value} {r : List Value} (h : o < L.length) : splice (L.set o v) (o + 1) r = splice L o (v :: r) := by
  unfold splice
  rw [List.take_succ_eq_append_getElem (by simpa using h)]
  simp only [List.getElem_set_self, List.take_set_of_le (Nat.le_refl o), List.length_cons]
  rw [List.drop_set_of_lt (by omega), show o + 1 + r.length = o + (r.length + 1) by omega]
  simp
theorem Whole.setCells {g : Nat} {t : TypeId} : ∀ (vs : List Value) (o : Nat) {w : World} {L : List Value}, Whole w g t L → o + vs.length ≤ L.length → Whole (w.setCells g o vs) g t (splice L o vs)
  | [], o, w, L, h, _ => by rw [splice_nil]; exact h
  | v :: r, o, w, L, h, hl => by
    simp only [List.length_cons] at hl
    have h1 := Whole.setCells r (o + 1) (h.set_ o v) (by simp; omega)
    rw [splice_cons (by omega)] at h1
    exact h1
theorem grew_setCells {F : Nat → Prop} {g : Nat} {w0 : World} : ∀ (vs : List Value) (o : Nat) {w : World}, Grew F w0 w → (F g ∨ w0.heap.size ≤ g) → Grew F w0 (w.setCells g o vs)
  | [], _, _, h, _ => h
  | v :: r, o, _, h, hg => grew_setCells r (o + 1) (h.setCell (a := ⟨g, o, none⟩) hg v) hg
theorem size_setCells {g : Nat} : ∀ (vs : List Value) (o : Nat) (w : World), (w.setCells g o vs).heap.size = w.heap.size
  | [], _, _ => rfl
  | v :: r, o, w => by rw [World.setCells, size_setCells r (o + 1)]; simp
/-- Many cells are stored in a block that is known whole. -/
theorem wpList_store_at {P : Program} {w : World} {ops : Array Oper} {rest : List Oper} {op : Oper} {a : Act} {Q : Exit → Act → World → Prop} (hgd : op.guard = none) (ty : TypeId) (x y : Operand) (ho : op.op = .store ty x y)
    (b o : Nat) (cells : List Value) (hx : a.eval x = .pointer (some ⟨b, o, none⟩)) (hy : a.eval y = .agg cells.toArray) (t : TypeId) (L : List Value) (hw : Whole w b t L) (hfit : o + cells.length ≤ L.length)
    (hi : (P.info? ty).map (·.size) = some cells.length) (h1 : ∀ v ∈ cells, v.oneCell' = true)
    (h : ∀ V, Whole V b t (splice L o cells) → Grew (fun j => j = b) w V → V.heap.size = w.heap.size → wpList P ops Q rest (a.put op.dst undef) V) : wpList P ops Q (op :: rest) a w :=
  wpList_store_mid hgd ty x y ho b o cells.toArray hx hy (by simpa using hw.there hfit) (by simpa using hi) (all_oneCell_toArray h1)
    (h _ (hw.setCells cells o hfit) (grew_setCells cells o (Grew.refl _ _) (.inl rfl)) (size_setCells _ _ _))
theorem wpList_load_at {P : Program} {w : World} {ops : Array Oper} {rest : List Oper} {op : Oper} {a : Act} {Q : Exit → Act → World → Prop} (hgd : op.guard = none) (ty : TypeId) (x : Operand) (ho : op.op = .load ty x)
    (b o : Nat) (hx : a.eval x = .pointer (some ⟨b, o, none⟩)) (cs : List Value) (d : TypeDesc) (hu : P.underlying ty = some d) (hd : d.isRow = true) (hi : (P.info? ty).map (·.size) = some cs.length)
    (t : TypeId) (L : List Value) (hw : Whole w b t L) (hc : ∀ j v, cs[j]? = some v → L[o + j]? = some v)
    (h : wpList P ops Q rest (a.put op.dst (.agg cs.toArray)) w) : wpList P ops Q (op :: rest) a w :=
  wpList_load_mid hgd ty x ho b o hx cs d (hw.range hc) hu hd hi h

/-- A store into a row of the call's own, whatever its elements' size. -/
theorem own_storeG {w : World} {base g : Nat} {e : TypeId} {size n c : Nat} {xs : List Value} (h : w.ownsRow base e size (.slice (some ⟨g, 0, none⟩) n c) n xs) (k : Nat) (u : Value) :
    (w.setCell ⟨g, k, none⟩ u).ownsRow base e size (.slice (some ⟨g, 0, none⟩) n c) n (xs.set k u) := by
  obtain ⟨h1, h2⟩ := h
  refine ⟨by simpa using h1, ?_⟩
  rcases h2 with ⟨hv, _⟩ | ⟨g', cap, cur, hv, hg, hh, h3, h4, h5, h6⟩
  · cases hv
  · injection hv with hv _ hc
    injection hv with hv
    injection hv with hv
    subst hv
    subst hc
    refine .inr ⟨g, c, cur.setIfInBounds k u, rfl, hg, ?_, h3, h4, by simpa using h5, ?_⟩
    · simp [World.setCell, Array.getElem?_modify, hh]
    · rw [← h6]
      simp [List.take_set]
theorem own_setCells {base g : Nat} {e : TypeId} {size n c : Nat} : ∀ (vs : List Value) (o : Nat) {w : World} {xs : List Value}, w.ownsRow base e size (.slice (some ⟨g, 0, none⟩) n c) n xs → o + vs.length ≤ xs.length →
    (w.setCells g o vs).ownsRow base e size (.slice (some ⟨g, 0, none⟩) n c) n (splice xs o vs)
  | [], o, w, L, h, _ => by rw [splice_nil]; exact h
  | v :: r, o, w, L, h, hl => by
    simp only [List.length_cons] at hl
    have h1 := own_setCells r (o + 1) (own_storeG h o v) (by simp; omega)
    rw [splice_cons (by omega)] at h1
    exact h1
theorem own_range {w : World} {base g : Nat} {e : TypeId} {size n c : Nat} {xs : List Value} (h : w.ownsRow base e size (.slice (some ⟨g, 0, none⟩) n c) n xs) {o : Nat} {cs : List Value} (hc : ∀ j v, cs[j]? = some v → xs[o + j]? = some v) : w.rangeAt g o cs := fun j v hv => by
  obtain ⟨h1, h3⟩ := List.getElem?_eq_some_iff.1 (hc j v hv)
  rw [own_cell h h1, h3]
theorem own_there {w : World} {base g : Nat} {e : TypeId} {size n c : Nat} {xs : List Value} (h : w.ownsRow base e size (.slice (some ⟨g, 0, none⟩) n c) n xs) {o k : Nat} (hn : o + k ≤ xs.length) : w.there g o k := fun j hj => by
  refine ⟨?_, own_frozen h _⟩
  rw [own_cell h (by omega)]
  rfl
/-- Many cells are stored in a row of the call's own. -/
theorem wpList_store_own {P : Program} {w : World} {ops : Array Oper} {rest : List Oper} {op : Oper} {a : Act} {Q : Exit → Act → World → Prop} (hgd : op.guard = none) (ty : TypeId) (x y : Operand) (ho : op.op = .store ty x y)
    (b o : Nat) (cells : List Value) (hx : a.eval x = .pointer (some ⟨b, o, none⟩)) (hy : a.eval y = .agg cells.toArray) (base : Nat) (e : TypeId) (size n c : Nat) (L : List Value) (hw : w.ownsRow base e size (.slice (some ⟨b, 0, none⟩) n c) n L) (hfit : o + cells.length ≤ L.length)
    (hi : (P.info? ty).map (·.size) = some cells.length) (h1 : ∀ v ∈ cells, v.oneCell' = true)
    (h : ∀ V, V.ownsRow base e size (.slice (some ⟨b, 0, none⟩) n c) n (splice L o cells) → Grew (fun j => j = b) w V → V.heap.size = w.heap.size → wpList P ops Q rest (a.put op.dst undef) V) : wpList P ops Q (op :: rest) a w :=
  wpList_store_mid hgd ty x y ho b o cells.toArray hx hy (by simpa using own_there hw hfit) (by simpa using hi) (all_oneCell_toArray h1)
    (h _ (own_setCells cells o hw hfit) (grew_setCells cells o (Grew.refl _ _) (.inl rfl)) (size_setCells _ _ _))
theorem wpList_load_own {P : Program} {w : World} {ops : Array Oper} {rest : List Oper} {op : Oper} {a : Act} {Q : Exit → Act → World → Prop} (hgd : op.guard = none) (ty : TypeId) (x : Operand) (ho : op.op = .load ty x)
    (b o : Nat) (hx : a.eval x = .pointer (some ⟨b, o, none⟩)) (cs : List Value) (d : TypeDesc) (hu : P.underlying ty = some d) (hd : d.isRow = true) (hi : (P.info? ty).map (·.size) = some cs.length)
    (base : Nat) (e : TypeId) (size n c : Nat) (L : List Value) (hw : w.ownsRow base e size (.slice (some ⟨b, 0, none⟩) n c) n L) (hc : ∀ j v, cs[j]? = some v → L[o + j]? = some v)
    (h : wpList P ops Q rest (a.put op.dst (.agg cs.toArray)) w) : wpList P ops Q (op :: rest) a w :=
  wpList_load_mid hgd ty x ho b o hx cs d (own_range hw hc) hu hd hi h
/-- Rows of different elements are different blocks. -/
theorem own_not_own {w : World} {base base' : Nat} {e e' : TypeId} {size size' n n' g : Nat} {v v' : Value} {xs xs' : List Value} (h : w.ownsRow base e size v n xs) (h' : w.ownsRow base' e' size' v' n' xs') (ht : e ≠ e') (hg : v'.ownBlock = some g) : v.ownBlock ≠ some g := by
  intro hv
  rcases h'.2 with ⟨rfl, _⟩ | ⟨g', cap, cur, rfl, _, hh, _⟩
  · cases hg
  · simp [Value.ownBlock] at hg
    subst hg
    rcases h.2 with ⟨rfl, _⟩ | ⟨g', cap, cur, rfl, _, hh', _⟩
    · cases hv
    · simp [Value.ownBlock] at hv
      subst hv
      rw [hh] at hh'
      simp at hh'
      exact ht hh'.2.symm

end Go.Proofs.YtgfoekbdmgljbaaDoor

namespace Go.Proofs.YtgfoekbdmgljbaaDoor
open Go.RowKit

/-- The head's five cells. -/
def HeadAt (w : World) : Prop := ∃ t fr, w.heap[0]? = some (.cells supH.cells.toArray t fr)
structure VarsAt (w : World) : Prop where
  sizes : SizesAt w
  head : HeadAt w
section
variable {w w' : World}
theorem HeadAt.lt (h : HeadAt w) : 0 < w.heap.size := by
  obtain ⟨t, fr, h⟩ := h
  rcases Nat.lt_or_ge 0 w.heap.size with h0 | h0
  · exact h0
  · rw [Array.getElem?_eq_none h0] at h
    cases h
theorem HeadAt.next (h : HeadAt w) (hb : Below w.heap.size w w') : HeadAt w' := by
  have hl := h.lt
  obtain ⟨t, fr, h⟩ := h
  exact ⟨t, fr, (hb.block _ hl).trans h⟩
theorem HeadAt.cell (h : HeadAt w) {k : Nat} {v : Value} (hk : supH.cells[k]? = some v) : w.cell? ⟨0, k, none⟩ = some v := by
  obtain ⟨t, fr, h⟩ := h
  simp only [World.cell?, h, List.getElem?_toArray]
  exact hk
theorem VarsAt.next (h : VarsAt w) (hb : Below w.heap.size w w') : VarsAt w' := ⟨h.sizes.next hb, h.head.next hb⟩
theorem VarsAt.alloc (h : VarsAt w) (o : Obj) : VarsAt (w.alloc o) := h.next ((Below.refl w.heap.size w).alloc (Nat.le_refl _) o)
theorem VarsAt.drewN (h : VarsAt w) (k : Nat) : VarsAt (w.drewN k) := ⟨h.sizes.drewN k, h.head⟩
end

/-- Where a block's five numbers stand. -/
def ptr5 (B : Nat) : Value := .agg #[.pointer (some ⟨B, 0, none⟩), .pointer (some ⟨B, 1, none⟩), .pointer (some ⟨B, 2, none⟩), .pointer (some ⟨B, 3, none⟩), .pointer (some ⟨B, 4, none⟩)]
set_option maxRecDepth 20000 in
theorem ptr_index (B : Nat) {k : Nat} (hk : k < 5) (w : World) : (Instr.index 113 (ptr5 B) (.int .i64 (k : Int))).run Tryd.prog w = .ok (.pointer (some ⟨B, k, none⟩)) w := by
  have e : k = 0 ∨ k = 1 ∨ k = 2 ∨ k = 3 ∨ k = 4 := by omega
  rcases e with rfl | rfl | rfl | rfl | rfl <;> rfl

theorem bnumbers_any (B : Nat) (w : World) : Calls Tryd.prog 66 #[.pointer (some ⟨B, 0, none⟩)] w (Gave w (ptr5 B)) := by
  go_enter Tryd.func66, Tryd.ntmps66
  go_wp2
  go_region_held3 (fun _ => True) (go_keep) (skip)
  go_wp2
  exact bodyPost_ret (v := ptr5 B) (by simp [results, Tryd.results66, go_sem, ptr5]) rfl ⟨rfl, ((Below.refl w.heap.size w).alloc (Nat.le_refl _) _).drew⟩

theorem bfits_no {b : Blk} {k : Nat} (hk : k < 5) (h : fitB (b.num k) 7 = false) : b.fits = false := by
  have e : k = 0 ∨ k = 1 ∨ k = 2 ∨ k = 3 ∨ k = 4 := by omega
  unfold Blk.fits
  rcases e with rfl | rfl | rfl | rfl | rfl <;> simp [bfitsTo, h]
theorem Blk.cell_num (b : Blk) {k : Nat} (hk : k < 5) : b.cells[k]? = some (.int .i64 (b.num k)) := by
  have e : k = 0 ∨ k = 1 ∨ k = 2 ∨ k = 3 ∨ k = 4 := by omega
  rcases e with rfl | rfl | rfl | rfl | rfl <;> rfl

def BfitsRel (b : Blk) (w : World) (i : Value) (wr : World) : Prop := ∃ k : Nat, k ≤ 5 ∧ i = .int .i64 k ∧ bfitsTo b k = true ∧ wr = w

set_option maxHeartbeats 400000 in
theorem bfits_any (b : Blk) (w : World) : Calls Tryd.prog 55 #[b.val] w (Gave w (.bool b.fits)) := by
  have HN := Lib.hid (bnumbers_any w.heap.size)
  unfold Blk.val
  go_enter Tryd.func55, Tryd.ntmps55
  go_wp2_with fail
  refine (HN.out _).mono ?_
  rintro e w1 ⟨rfl, hb1⟩
  have HB1 := Lib.hid (((Below.refl w.heap.size w).alloc (Nat.le_refl _) _).trans (hb1.mono (by simp)))
  have hc0 : ∀ j v, b.cells[j]? = some v → w1.cell? ⟨w.heap.size, j, none⟩ = some v := fun j v hj => by
    rw [hb1.cell (p := ⟨w.heap.size, j, none⟩) (by simp), World.cell?_alloc_at _ _ _ _ rfl]
    simpa [Blk.cells] using hj
  have HC0 := Lib.hid hc0
  clear hc0 hb1
  go_wp2
  go_loopw [6] (BfitsRel b w1) (fun i _ => 5 - (intOf i).toNat)
  case atStart => exact ⟨0, by omega, rfl, rfl, rfl⟩
  case round =>
    obtain ⟨k, hk, rfl, hf, rfl⟩ := hrel
    by_cases hlt : k < 5
    · have hi := fun W => ptr_index w.heap.size hlt W
      have hcel := HC0.out k _ (b.cell_num hlt)
      cases hfit : fitB (b.num k) 7 with
      | true =>
        have hc := fun W => fits_any (b.num k) 7 W
        rw [hfit] at hc
        have HC := Lib.hid hc
        have HF := Lib.hid (show bfitsTo b (k + 1) = true by simp only [bfitsTo, hf, hfit, Bool.and_self])
        clear hc hf hfit
        go_wp2_with fail
        refine (HC.out _).mono ?_
        rintro e w' ⟨rfl, rfl⟩
        go_wp2
        refine ⟨⟨k + 1, by omega, by go_num, HF.out, rfl⟩, by simp [intOf]; omega⟩
      | false =>
        have hc := fun W => fits_any (b.num k) 7 W
        rw [hfit] at hc
        have HC := Lib.hid hc
        have HF := Lib.hid (bfits_no hlt hfit)
        clear hc hf hfit
        go_wp2_with fail
        refine (HC.out _).mono ?_
        rintro e w' ⟨rfl, rfl⟩
        go_wp2
        go_ret
        exact ⟨by rw [HF.out]; rfl, HB1.out⟩
    · obtain rfl : k = 5 := by omega
      have HF := Lib.hid (show b.fits = true from hf)
      clear hf
      go_wp2
      go_ret
      exact ⟨by rw [HF.out]; rfl, HB1.out⟩

/-- What bytesOf leaves: bytes of its own. -/
def BytesOut (w : World) (l : List UInt8) (e : Ending) (w' : World) : Prop :=
  ∃ v, e = .returned v ∧ w'.ownsRow w.heap.size 5 1 v l.length (l.map bc) ∧ Below w.heap.size w w'
def BytesRel (b : Blk) (w : World) (v i : Value) (wr : World) : Prop :=
  ∃ k : Nat, k ≤ 5 ∧ i = .int .i64 k ∧ wr.ownsRow w.heap.size 5 1 v (bytesTo b k).length ((bytesTo b k).map bc) ∧ Below w.heap.size w wr

set_option maxHeartbeats 1000000 in
theorem bbytes_any (b : Blk) (w : World) : Calls Tryd.prog 56 #[b.val] w (BytesOut w (bytesTo b 5)) := by
  have HN := Lib.hid (bnumbers_any w.heap.size)
  unfold Blk.val
  go_enter Tryd.func56, Tryd.ntmps56
  go_wp2_with fail
  refine (HN.out _).mono ?_
  rintro e w1 ⟨rfl, hb1⟩
  have HB1 := Lib.hid (((Below.refl w.heap.size w).alloc (Nat.le_refl _) _).trans (hb1.mono (by simp)))
  have hc0 : ∀ j v, b.cells[j]? = some v → w1.cell? ⟨w.heap.size, j, none⟩ = some v := fun j v hj => by
    rw [hb1.cell (p := ⟨w.heap.size, j, none⟩) (by simp), World.cell?_alloc_at _ _ _ _ rfl]
    simpa [Blk.cells] using hj
  have HC0 := Lib.hid hc0
  have HZ := Lib.hid (Nat.lt_of_lt_of_le (by simp) hb1.size : w.heap.size < w1.heap.size)
  clear hc0 hb1
  go_wp2
  go_loopw [3, 7] (BytesRel b w1) (fun _ i _ => 5 - (intOf i).toNat)
  case atStart => exact ⟨0, by omega, rfl, World.ownsRow_nil _ _ _ _, Below.refl _ _⟩
  case round =>
    obtain ⟨k, hk, rfl, hown, hbr⟩ := hrel
    obtain ⟨A1, c1, rfl, hc1, hc2⟩ := own_form hown
    have hlk := length_bytesTo b k
    have HO := Lib.hid hown
    have HB := Lib.hid hbr
    by_cases hlt : k < 5
    · have hi := fun W => ptr_index w.heap.size hlt W
      have hcel : wr.cell? ⟨w.heap.size, k, none⟩ = some (.int .i64 (b.num k)) := (hbr.cell (p := ⟨w.heap.size, k, none⟩) HZ.out).trans (HC0.out k _ (b.cell_num hlt))
      have HP := Lib.hid (put_any A1 (bytesTo b k).length c1 wr.heap.size (bytesTo b k) (b.num k) 7 wr rfl (Row.of_own HO.out) (Nat.le_refl _) (by omega))
      clear hlk hc1 hc2 hown hbr
      go_wp2_with fail
      refine HP.out.mono ?_
      rintro e w3 ⟨A3, c3, rfl, hown3, hb3⟩
      have hsz := HB.out.size
      have HO3 := Lib.hid (own_mono hown3 hsz)
      have HB3 := Lib.hid (HB.out.trans (hb3.mono hsz))
      clear hown3 hb3
      go_wp2
      exact ⟨⟨k + 1, by omega, by go_num, HO3.out, HB3.out⟩, by simp [intOf]; omega⟩
    · obtain rfl : k = 5 := by omega
      clear hlk hc1 hc2 hown hbr
      go_wp2
      go_ret
      exact ⟨_, rfl, own_mono HO.out (Nat.le_of_lt HZ.out), HB1.out.trans (HB.out.mono (Nat.le_of_lt HZ.out))⟩

end Go.Proofs.YtgfoekbdmgljbaaDoor

namespace Go.Proofs.YtgfoekbdmgljbaaDoor
open Go.RowKit

def Gets (w : World) (r : Int × Int) (e : Ending) (w' : World) : Prop := e = .returned (.tuple #[.int .i64 r.1, .int .i64 r.2]) ∧ w = w'
def GetRel (l : List UInt8) (a s : Nat) (n i : Value) : Prop := ∃ k : Nat, k ≤ s ∧ i = .int .i64 k ∧ n = .int .i64 (numN (cutL l a k))

theorem getL_size {l : List UInt8} {a s : Int} (h : ¬ (1 ≤ s ∧ s ≤ 7)) : getL l a s = (0, 1) := by unfold getL; rw [szB_false h, if_pos (.inl rfl)]
theorem getL_neg {l : List UInt8} {a s : Int} (h : a < 0) : getL l a s = (0, 1) := by unfold getL; rw [if_pos (.inr h)]
theorem getL_short {l : List UInt8} {a s : Int} (h1 : 1 ≤ s) (h2 : s ≤ 7) (h3 : 0 ≤ a) (h : (l.length : Int) < a + s) : getL l a s = (0, 3) := by
  unfold getL; rw [szB_true ⟨h1, h2⟩, if_neg (by simp; omega), if_pos h]
theorem getL_ok {l : List UInt8} {a s : Nat} (h1 : 1 ≤ s) (h2 : s ≤ 7) (h : a + s ≤ l.length) : getL l a s = ((numN (cutL l a s) : Int), (0 : Int)) := by
  unfold getL; rw [szB_true ⟨by omega, by omega⟩, if_neg (by simp), if_neg (by omega)]; simp

set_option maxHeartbeats 400000 in
theorem get_ok (A : Option Addr) (n c H : Nat) (l : List UInt8) (a s : Nat) (w : World) (hl : l.length = n) (hA : Row w H A (l.map bc)) (hm : n ≤ maxLen) (hc : n ≤ c) (h1 : 1 ≤ s) (h2 : s ≤ 7) (h3 : a + s ≤ n) :
    Calls Tryd.prog 69 #[.slice A n c, .int .i64 a, .int .i64 s] w (Gets w (getL l a s)) := by
  rw [getL_ok h1 h2 (by omega)]
  unfold maxLen at hm
  obtain ⟨b, off, rfl, _, hcell⟩ := hA.some_ (by rw [List.length_map]; omega)
  have d3 : decide ((a : Int) < 0) = false := by simp
  have d4 : decide ((n : Int) - (s : Int) < (a : Int)) = false := by simp; omega
  have HL := Lib.hid hl
  have HC := Lib.hid hcell
  clear hl hcell hA
  go_enter Tryd.func69, Tryd.ntmps69
  go_wp2_with (go_at_call 65; refine (sized_yes _ _ (by omega) (by omega)).mono ?_; rintro e w' ⟨rfl, rfl⟩)
  go_loop [8, 31] (GetRel l a s) (fun _ i => s - (intOf i).toNat)
  case atStart => exact ⟨0, by omega, rfl, rfl⟩
  case round =>
    obtain ⟨k, hk, rfl, rfl⟩ := hrel
    by_cases hlt : k < s
    · have hb : a + k < l.length := by rw [HL.out]; omega
      have hcel : w.cell? ⟨b, off + a + k, none⟩ = some (.int .u8 (l[a + k]).toNat) := by
        rw [Nat.add_assoc, HC.out (a + k) (bc l[a + k]) (by rw [List.getElem?_map, List.getElem?_eq_getElem hb]; rfl)]; rfl
      have hsn := cutL_succ hb
      have HS := Lib.hid hsn
      have hq := numN_le48 (cutL l a k) (by rw [length_cutL (by omega)]; omega)
      have hx := (l[a + k]).toNat_lt
      clear hsn
      go_wp2
      refine ⟨⟨k + 1, by omega, by go_num, ?_⟩, by simp [intOf]; omega⟩
      rw [HS.out, numN_snoc, or_byte _ _ hq hx]
    · obtain rfl : k = s := by omega
      go_wp2
      go_ret2
      exact ⟨rfl, rfl⟩

set_option maxHeartbeats 400000 in
theorem get_short (A : Option Addr) (n c : Nat) (a s : Int) (w : World) (hm : n ≤ maxLen) (h1 : 1 ≤ s) (h2 : s ≤ 7) (h0 : 0 ≤ a) (h3 : (n : Int) < a + s) :
    Calls Tryd.prog 69 #[.slice A n c, .int .i64 a, .int .i64 s] w (Gets w (0, 3)) := by
  unfold maxLen at hm
  have d3 : decide (a < 0) = false := by simp; omega
  have d4 : decide ((n : Int) - s < a) = true := by simp; omega
  go_enter Tryd.func69, Tryd.ntmps69
  go_wp2_with (go_at_call 65; refine (sized_yes _ _ h1 h2).mono ?_; rintro e w' ⟨rfl, rfl⟩)
  go_ret2
  exact ⟨rfl, rfl⟩

set_option maxHeartbeats 400000 in
theorem get_arg (A : Option Addr) (n c : Nat) (a s : Int) (w : World) (h : ¬ (1 ≤ s ∧ s ≤ 7) ∨ a < 0) :
    Calls Tryd.prog 69 #[.slice A n c, .int .i64 a, .int .i64 s] w (Gets w (0, 1)) := by
  by_cases hs : 1 ≤ s ∧ s ≤ 7
  · obtain ⟨h1, h2⟩ := hs
    have h0 : a < 0 := by omega
    have d3 : decide (a < 0) = true := by simp; omega
    clear h
    go_enter Tryd.func69, Tryd.ntmps69
    go_wp2_with (go_at_call 65; refine (sized_yes _ _ h1 h2).mono ?_; rintro e w' ⟨rfl, rfl⟩)
    go_ret2
    exact ⟨rfl, rfl⟩
  · have hs' : s < 1 ∨ 7 < s := by omega
    clear h
    go_enter Tryd.func69, Tryd.ntmps69
    go_wp2_with (go_at_call 65; refine (sized_no _ _ hs').mono ?_; rintro e w' ⟨rfl, rfl⟩)
    go_ret2
    exact ⟨rfl, rfl⟩

theorem get_any (A : Option Addr) (n c H : Nat) (l : List UInt8) (a s : Int) (w : World) (hl : l.length = n) (hA : Row w H A (l.map bc)) (hm : n ≤ maxLen) (hc : n ≤ c) :
    Calls Tryd.prog 69 #[.slice A n c, .int .i64 a, .int .i64 s] w (Gets w (getL l a s)) := by
  by_cases hs : 1 ≤ s ∧ s ≤ 7
  · obtain ⟨h1, h2⟩ := hs
    by_cases h0 : a < 0
    · rw [getL_neg h0]
      exact get_arg A n c a s w (.inr h0)
    · by_cases h3 : (n : Int) < a + s
      · rw [getL_short h1 h2 (by omega) (by rw [hl]; exact h3)]
        exact get_short A n c a s w hm h1 h2 (by omega) h3
      · obtain ⟨a', rfl⟩ : ∃ m : Nat, a = m := ⟨a.toNat, by omega⟩
        obtain ⟨s', rfl⟩ : ∃ m : Nat, s = m := ⟨s.toNat, by omega⟩
        exact get_ok A n c H l a' s' w hl hA hm hc (by omega) (by omega) (by omega)
  · rw [getL_size hs]
    exact get_arg A n c a s w (.inl hs)

end Go.Proofs.YtgfoekbdmgljbaaDoor

namespace Go.Proofs.YtgfoekbdmgljbaaDoor
open Go.RowKit

/-- Where the number k begins; its size. -/
def atO (k : Nat) : Nat := [0, 1, 5, 12, 13, 14].getD k 0
def szM (k : Nat) : Nat := [1, 4, 7, 1, 1].getD k 0
theorem szM_eq {k : Nat} (hk : k < 5) : (szM k : Int) = szN k := by
  have e : k = 0 ∨ k = 1 ∨ k = 2 ∨ k = 3 ∨ k = 4 := by omega
  rcases e with rfl | rfl | rfl | rfl | rfl <;> rfl
theorem szM_le {k : Nat} (hk : k < 5) : 1 ≤ szM k ∧ szM k ≤ 7 ∧ atO k + szM k = atO (k + 1) ∧ atO (k + 1) ≤ 14 := by
  have e : k = 0 ∨ k = 1 ∨ k = 2 ∨ k = 3 ∨ k = 4 := by omega
  rcases e with rfl | rfl | rfl | rfl | rfl <;> decide
/-- The number k, as it is read. -/
def numR (l : List UInt8) (k : Nat) : Nat := numN (cutL l (atO k) (szM k))
/-- The array behind k rounds. -/
def readV (l : List UInt8) (k : Nat) : List Value := [0, 1, 2, 3, 4].map fun j => if j < k then .int .i64 (numR l j : Int) else .int .i64 0
theorem length_readV (l : List UInt8) (k : Nat) : (readV l k).length = 5 := rfl
theorem readV_set (l : List UInt8) {k : Nat} (hk : k < 5) : (readV l k).set k (.int .i64 (numR l k : Int)) = readV l (k + 1) := by
  have e : k = 0 ∨ k = 1 ∨ k = 2 ∨ k = 3 ∨ k = 4 := by omega
  rcases e with rfl | rfl | rfl | rfl | rfl <;> rfl
theorem readV_five (l : List UInt8) : readV l 5 = (readH l).cells := rfl
theorem int5_cells : (Tryd.prog.info? 103).map (·.size) = some 5 := by kernel_rfl
theorem head_cells : (Tryd.prog.info? 79).map (·.size) = some 5 := by kernel_rfl

/-- What read leaves. -/
def HReadOut (w : World) (l : List UInt8) (e : Ending) (w' : World) : Prop := e = .returned (.tuple #[(readH l).val, .int .i64 (readC l : Int)]) ∧ Below w.heap.size w w'
def ReadRel (l : List UInt8) (w : World) (p i : Value) (wr : World) : Prop :=
  ∃ k : Nat, k ≤ 5 ∧ i = .int .i64 k ∧ p = .int .i64 (atO k : Int) ∧ Whole wr w.heap.size 79 hzero.cells ∧ Whole wr (w.heap.size + 1) 103 (readV l k) ∧ Below w.heap.size w wr

set_option maxHeartbeats 400000 in
set_option maxRecDepth 4000 in
theorem read_any (A : Option Addr) (c : Nat) (l : List UInt8) (w : World) (hl : l.length = 512) (hA : Row w w.heap.size A (l.map bc)) (hc : 512 ≤ c) (hs : SizesAt w) :
    Calls Tryd.prog 67 #[.slice A 512 c] w (HReadOut w l) := by
  obtain ⟨ty, fr, hfr⟩ := ((hs.alloc (.cells #[.int .i64 0, .int .i64 0, .int .i64 0, .int .i64 0, .int .i64 0] 79)).alloc (.cells #[.int .i64 0, .int .i64 0, .int .i64 0, .int .i64 0, .int .i64 0] 103))
  have HS := Lib.hid hs
  have HL := Lib.hid hl
  have HA := Lib.hid hA
  have HFR := Lib.hid hfr
  clear hs hl hA hfr
  go_enter Tryd.func67, Tryd.ntmps67
  go_wp2_with (refine wpList_load_row rfl 103 (.global 1) rfl 1 rfl ty _ fr _ HFR.out Tryd.underlying103 rfl int5_cells ?_)
  have hw1 := Whole.made w hzero.cells 79
  have hw2 := (hw1.alloc (.cells (readV l 0).toArray 103))
  have hw3 := Whole.made (w.alloc (.cells hzero.cells.toArray 79)) (readV l 0) 103
  have HW2 := Lib.hid hw2
  have HW3 := Lib.hid hw3
  clear hw1 hw2 hw3
  go_loopw [5, 9] (ReadRel l w) (fun _ i _ => 5 - (intOf i).toNat)
  case atStart =>
    refine ⟨0, by omega, rfl, rfl, HW2.out, ?_, ((Below.refl _ _).alloc (Nat.le_refl _) _).alloc (by simp) _⟩
    have h3 := HW3.out
    rwa [show (w.alloc (.cells hzero.cells.toArray 79)).heap.size = w.heap.size + 1 by simp] at h3
  case round =>
    obtain ⟨k, hk, rfl, rfl, hwh, hwa, hb⟩ := hrel
    have HWH := Lib.hid hwh
    have HWA := Lib.hid hwa
    have HB := Lib.hid hb
    have HAr := Lib.hid (HA.out.below hb)
    clear hwh hb
    by_cases hlt : k < 5
    · obtain ⟨h1, h7, ha, h14⟩ := szM_le hlt
      have hi := fun w => arr_index ⟨1, 4, 7, 1, 1⟩ hlt w
      have hi2 : ∀ w, (Instr.index 103 (.agg (List.map (fun z => Value.int IntKind.i64 z) szL).toArray) (.int .i64 (k : Int))).run Tryd.prog w = .ok (.int .i64 (szM k : Int)) w := fun w => by rw [szM_eq hlt]; exact hi w
      have HG := Lib.hid (get_ok A 512 c w.heap.size l (atO k) (szM k) wr HL.out HAr.out (by decide) hc h1 h7 (by omega))
      have hg := getL_ok (l := l) h1 h7 (show atO k + szM k ≤ l.length by have := HL.out; omega)
      have HE := Lib.hid hg
      have HATO := Lib.hid ha
      have hsum : atO k + szM k ≤ 14 := by omega
      have hcel : wr.cell? ⟨w.heap.size + 1, k, none⟩ = some ((readV l k)[k]'(by rw [length_readV]; omega)) := by rw [hwa.cell]; exact List.getElem?_eq_getElem _
      have hfr := hwa.frozen k
      clear hi hg hwa ha
      go_wp2_with fail
      refine HG.out.mono ?_
      rw [HE.out]
      rintro e w' ⟨rfl, rfl⟩
      go_wp2
      refine ⟨⟨k + 1, by omega, by go_num, ?_, ?_, ?_, ?_⟩, by simp [intOf]; omega⟩
      · rw [← HATO.out]; go_num
      · exact HWH.out.keep (Below.heap_setCell _ _ _ _ (by simp))
      · rw [← readV_set l hlt]; exact HWA.out.set_ _ _
      · exact HB.out.setCell (by simp) _
    · obtain rfl : k = 5 := by omega
      have HG := Lib.hid (get_ok A 512 c w.heap.size l (atO 5) 2 wr HL.out HAr.out (by decide) hc (by decide) (by decide) (by decide))
      have HE := Lib.hid (show getL l (atO 5 : Nat) (2 : Nat) = ((readC l : Int), (0 : Int)) from getL_ok (by decide) (by decide) (by have := HL.out; rw [this]; decide))
      have c0 : wr.cell? ⟨w.heap.size + 1, 0, none⟩ = some (.int .i64 (readH l).kind) := hwa.cell 0
      have c1 : wr.cell? ⟨w.heap.size + 1, 1, none⟩ = some (.int .i64 (readH l).epoch) := hwa.cell 1
      have c2 : wr.cell? ⟨w.heap.size + 1, 2, none⟩ = some (.int .i64 (readH l).seq) := hwa.cell 2
      have c3 : wr.cell? ⟨w.heap.size + 1, 3, none⟩ = some (.int .i64 (readH l).part) := hwa.cell 3
      have c4 : wr.cell? ⟨w.heap.size + 1, 4, none⟩ = some (.int .i64 (readH l).parts) := hwa.cell 4
      clear hwa
      obtain ⟨hx, ehx⟩ : ∃ hx, readH l = hx := ⟨_, rfl⟩
      rw [ehx] at c0 c1 c2 c3 c4
      have HX := Lib.hid ehx
      clear ehx
      go_wp2_with fail
      refine HG.out.mono ?_
      rw [HE.out]
      rintro e w' ⟨rfl, rfl⟩
      go_wp2_with (
        refine wpList_store_at rfl 79 (.tmp 2) (.tmp 42) rfl w.heap.size 0 hx.cells rfl rfl 79 _ HWH.out (SH.fit _ _) head_cells hx.one ?_
        intro V hv1 hv2 hv3
        rw [SH.splice] at hv1
        have v0 : V.cell? ⟨w.heap.size, 0, none⟩ = some (.int .i64 hx.kind) := hv1.cell 0
        have v1 : V.cell? ⟨w.heap.size, 1, none⟩ = some (.int .i64 hx.epoch) := hv1.cell 1
        have v2 : V.cell? ⟨w.heap.size, 2, none⟩ = some (.int .i64 hx.seq) := hv1.cell 2
        have v3 : V.cell? ⟨w.heap.size, 3, none⟩ = some (.int .i64 hx.part) := hv1.cell 3
        have v4 : V.cell? ⟨w.heap.size, 4, none⟩ = some (.int .i64 hx.parts) := hv1.cell 4
        have HV := Lib.hid (HB.out.trans (hv2.below (B := w.heap.size) (fun j hj => by omega) HB.out.size))
        clear hv1 hv2 hv3)
      exact bodyPost_ret (v := .tuple #[hx.val, .int .i64 (readC l : Int)]) (by simp [results, Tryd.results67, go_sem, v0, v1, v2, v3, v4, SH.val]) rfl ⟨by rw [HX.out], HV.out⟩

end Go.Proofs.YtgfoekbdmgljbaaDoor

namespace Go.Proofs.YtgfoekbdmgljbaaDoor
open Go.RowKit

/-- What Seal leaves: an error and no bytes, or its bytes, of its own. -/
def SealOut (w : World) (h : SH) (l : List UInt8) (e : Ending) (w' : World) : Prop :=
  ∃ v, e = .returned (.tuple #[v, .int .i64 (sealE h l.length)]) ∧ w'.ownsRow w.heap.size 5 1 v (sealB h l).length ((sealB h l).map bc) ∧ Below w.heap.size w w'

set_option maxHeartbeats 400000 in
theorem seal_head (A : Option Addr) (c n : Nat) (h : SH) (l : List UInt8) (w : World) (_ : l.length = n) (hs : SizesAt w) (hb : headB h = false) :
    Calls Tryd.prog 44 #[h.val, .slice A n c] w (SealOut w h l) := by
  have HE := Lib.hid (sealE_head (n := l.length) hb)
  have HBB := Lib.hid (sealB_head (l := l) hb)
  have hn := sound_any h
  rw [hb] at hn
  have HN := Lib.hid hn
  have HS := Lib.hid (hs.alloc (.cells h.cells.toArray 79))
  clear hs hb hn
  unfold SH.val
  go_enter Tryd.func44, Tryd.ntmps44
  go_wp2_with fail
  refine (HN.out _ HS.out).mono ?_
  rintro e w1 ⟨rfl, hb1⟩
  have HB1 := Lib.hid (((Below.refl w.heap.size w).alloc (Nat.le_refl _) _).trans (hb1.mono (by simp)))
  clear hb1
  go_wp2
  go_ret2
  exact ⟨.slice none 0 0, by rw [HE.out]; rfl, by rw [HBB.out]; exact World.ownsRow_nil _ _ _ _, HB1.out⟩

set_option maxHeartbeats 400000 in
theorem seal_large (A : Option Addr) (c n : Nat) (h : SH) (l : List UInt8) (w : World) (hl : l.length = n) (hs : SizesAt w) (hb : headB h = true) (hn : 496 < n) (_ : n ≤ maxLen) :
    Calls Tryd.prog 44 #[h.val, .slice A n c] w (SealOut w h l) := by
  have HE := Lib.hid (sealE_large (n := l.length) hb (by omega))
  have HBB := Lib.hid (sealB_large (h := h) (l := l) (by omega))
  have hn2 := sound_any h
  rw [hb] at hn2
  have HN := Lib.hid hn2
  have HS := Lib.hid (hs.alloc (.cells h.cells.toArray 79))
  have d1 : decide ((496 : Int) < (n : Int)) = true := by simp; omega
  clear hs hb hl hn2
  unfold SH.val
  go_enter Tryd.func44, Tryd.ntmps44
  go_wp2_with fail
  refine (HN.out _ HS.out).mono ?_
  rintro e w1 ⟨rfl, hb1⟩
  have HB1 := Lib.hid (((Below.refl w.heap.size w).alloc (Nat.le_refl _) _).trans (hb1.mono (by simp)))
  clear hb1
  go_wp2
  go_ret2
  exact ⟨.slice none 0 0, by rw [HE.out]; rfl, by rw [HBB.out]; exact World.ownsRow_nil _ _ _ _, HB1.out⟩

structure HdLen (h : SH) (n : Nat) : Prop where
  out : (hdB h n).length = 16
def SealRel (h : SH) (w : World) (v i : Value) (wr : World) : Prop :=
  ∃ k : Nat, k ≤ 5 ∧ i = .int .i64 k ∧ wr.ownsRow w.heap.size 5 1 v (hdP h k).length ((hdP h k).map bc) ∧ Below w.heap.size w wr

set_option maxHeartbeats 1000000 in
set_option maxRecDepth 4000 in
theorem seal_ok (A : Option Addr) (c n : Nat) (h : SH) (l : List UInt8) (w : World) (hl : l.length = n) (hA : Row w w.heap.size A (l.map bc)) (hs : SizesAt w) (hb : headB h = true) (hn : n ≤ 496) (_ : n ≤ c) :
    Calls Tryd.prog 44 #[h.val, .slice A n c] w (SealOut w h l) := by
  have HE := Lib.hid (sealE_ok (n := l.length) hb (by omega))
  have HBB := Lib.hid (sealB_ok (l := l) hb (by omega))
  have HBL := Lib.hid (length_sealB (l := l) hb (by omega))
  have hlh := length_hdB (n := n) (headB_fits hb) hn
  have hn2 := sound_any h
  rw [hb] at hn2
  have HN := Lib.hid hn2
  have HNN := Lib.hid (numbers_any h)
  have HS0 := Lib.hid hs
  have HS := Lib.hid (hs.alloc (.cells h.cells.toArray 79))
  have HL := Lib.hid hl
  have HA := Lib.hid hA
  have HLH : HdLen h n := ⟨hlh⟩
  have d1 : decide ((496 : Int) < (n : Int)) = false := by simp; omega
  obtain ⟨i0, hi0, hz0, hz1, hz2⟩ := info_parts u8_info
  clear hs hb hl hn2 hA hlh
  unfold SH.val
  go_enter Tryd.func44, Tryd.ntmps44
  go_wp2_with fail
  refine (HN.out _ HS.out).mono ?_
  rintro e w1 ⟨rfl, hb1⟩
  have HB1 := Lib.hid (((Below.refl w.heap.size w).alloc (Nat.le_refl _) _).trans (hb1.mono (by simp)))
  have hc0 : ∀ j v, h.cells[j]? = some v → w1.cell? ⟨w.heap.size, j, none⟩ = some v := fun j v hj => by
    rw [hb1.cell (p := ⟨w.heap.size, j, none⟩) (by simp), World.cell?_alloc_at _ _ _ _ rfl]
    simpa [SH.cells] using hj
  have c0 := hc0 0 _ rfl
  have c1 := hc0 1 _ rfl
  have c2 := hc0 2 _ rfl
  have c3 := hc0 3 _ rfl
  have c4 := hc0 4 _ rfl
  clear hc0 hb1
  go_wp2_with fail
  refine (HNN.out _).mono ?_
  rintro e w2 ⟨rfl, hb2⟩
  have HB2 := Lib.hid (HB1.out.trans (hb2.mono HB1.out.size))
  clear hb2 c0 c1 c2 c3 c4
  go_wp2
  go_loopw [6, 18] (SealRel h w) (fun _ i _ => 5 - (intOf i).toNat)
  case atStart => exact ⟨0, by omega, rfl, World.ownsRow_nil _ _ _ _, HB2.out⟩
  case round =>
    obtain ⟨k, hk, rfl, hown, hbr⟩ := hrel
    obtain ⟨A1, c1, rfl, hc1, hc2⟩ := own_form hown
    have hlk := length_hdP h k
    have HO := Lib.hid hown
    have HB := Lib.hid hbr
    have HSr := Lib.hid (HS0.out.next hbr)
    clear hown hbr
    by_cases hlt : k < 5
    · have hi := fun w => arr_index h hlt w
      have hcel := HSr.out.cell hlt
      have HP := Lib.hid (put_any A1 (hdP h k).length c1 wr.heap.size (hdP h k) (h.num k) (szN k) wr rfl (Row.of_own HO.out) (Nat.le_refl _) (by omega))
      clear hlk hc1 hc2 d1
      go_wp2_with fail
      refine HP.out.mono ?_
      rintro e w3 ⟨A3, c3, rfl, hown3, hb3⟩
      have hsz := HB.out.size
      have HO3 := Lib.hid (own_mono hown3 hsz)
      have HB3 := Lib.hid (HB.out.trans (hb3.mono hsz))
      clear hown3 hb3
      go_wp2
      exact ⟨⟨k + 1, by omega, by go_num, HO3.out, HB3.out⟩, by simp [intOf]; omega⟩
    · obtain rfl : k = 5 := by omega
      have HP := Lib.hid (put_any A1 (hdP h 5).length c1 wr.heap.size (hdP h 5) n 2 wr rfl (Row.of_own HO.out) (Nat.le_refl _) (by omega))
      clear hlk
      have hsz := HB.out.size
      go_wp2_with fail
      refine HP.out.mono ?_
      rintro e w3 ⟨A3, c3, rfl, hown3, hb3⟩
      have hlen : (putL (hdP h 5) n 2).length = 16 := HLH.out
      rw [hlen] at hown3 ⊢
      have HR3 := Lib.hid (Row.of_own hown3)
      have hsz3 := hb3.size
      have HB3 := Lib.hid (HB.out.trans (hb3.mono hsz))
      have HD := Lib.hid (show putL (hdP h 5) n 2 = hdB h n from rfl)
      clear hown3 hb3 hlen
      have HA3 := Lib.hid (HA.out.below HB3.out)
      go_wp2_with (first
        | (refine wpList_make_zeros rfl (.const (.int .i64 512)) (.const (.int .i64 512)) _ rfl 5 i0 _ 1 Tryd.underlying35 hi0 hz0 hz1 hz2 rfl .i64 .i64 512 512 512 512 rfl rfl (by omega) (by omega) (by omega) (by omega) (by unfold maxLen; omega) ?_)
        | (with_reducible refine wpList_copy_splice rfl (.tmp 34) (.tmp 35) _ _ rfl 5 Tryd.underlying35 u8_size _ _ _ _ _ _ rfl rfl w3.heap.size 0 (zerosL (.int .u8 0) 512) 5 (heap_alloc_new w3 _) ((hdB h n).map bc) ?c3 ?c4 ?c5 (bc_one _) w3.heap.size w3 ?c7 (Nat.le_refl _) ?_
           case c3 => rw [List.length_map, HLH.out]; rfl
           case c4 => exact fun h0 => ⟨rfl, (HR3.out.alloc (Nat.le_refl _) _).pos (by rw [List.length_map, HD.out]; rwa [List.length_map] at h0)⟩
           case c5 => rw [List.length_map, HLH.out, length_zerosL]; omega
           case c7 => exact (Below.refl _ _).alloc (Nat.le_refl _) _
           intro w4 HG4 hB4
           have HB4 := Lib.hid hB4
           have HA4 := Lib.hid (HA3.out.below (hB4.mono (Nat.le_trans hsz hsz3)))
           clear hB4)
        | (with_reducible refine wpList_copy_splice rfl (.tmp 38) (.tmp 39) _ _ rfl 5 Tryd.underlying35 u8_size _ _ _ _ _ _ rfl rfl w3.heap.size 16 (splice (zerosL (.int .u8 0) 512) 0 ((hdB h n).map bc)) 5 HG4.out (l.map bc) ?d3 ?d4 ?d5 (bc_one _) w3.heap.size w3 HB4.out (Nat.le_refl _) ?_
           case d3 => rw [List.length_map, HL.out]; exact (Nat.min_eq_left hn).symm
           case d4 => exact fun h0 => ⟨rfl, HA4.out.pos h0⟩
           case d5 => rw [length_splice _ _ _ (by rw [List.length_map, HLH.out, length_zerosL]; omega), List.length_map, HL.out, length_zerosL]; omega
           intro w5 HG5 hB5
           have HB5 := Lib.hid hB5
           clear hB5))
      go_ret2
      refine ⟨.slice (some ⟨w3.heap.size, 0, none⟩) 512 512, by rw [HE.out]; rfl, ?_, HB3.out.trans (HB5.out.mono (Nat.le_trans hsz hsz3))⟩
      have hbl := HBL.out
      rw [hbl, HBB.out, HL.out]
      have h5 := HG5.out
      have hsp := seal_splice (hd := hdB h n) (l := l) HLH.out (by have := HL.out; omega)
      rw [hsp] at h5
      refine own_of_block h5 (Nat.le_trans hsz hsz3) ?_ (Nat.le_refl _) (by unfold maxLen; omega) ?_
      · rw [List.length_map, ← HL.out, ← HBB.out, hbl]
      · rw [HL.out]; exact List.take_of_length_le (by rw [List.length_map, ← HL.out, ← HBB.out, hbl]; exact Nat.le_refl _)

theorem seal_any (A : Option Addr) (c n : Nat) (h : SH) (l : List UInt8) (w : World) (hl : l.length = n) (hA : Row w w.heap.size A (l.map bc)) (hs : SizesAt w) (hc : n ≤ c) (hm : n ≤ maxLen) :
    Calls Tryd.prog 44 #[h.val, .slice A n c] w (SealOut w h l) := by
  cases hb : headB h with
  | false => exact seal_head A c n h l w hl hs hb
  | true =>
    by_cases hn : n ≤ 496
    · exact seal_ok A c n h l w hl hA hs hb hn hc
    · exact seal_large A c n h l w hl hs hb (by omega) hm

end Go.Proofs.YtgfoekbdmgljbaaDoor

namespace Go.Proofs.YtgfoekbdmgljbaaDoor
open Go.RowKit

set_option maxHeartbeats 400000 in
theorem eqbytes_any (A B : Option Addr) (n m c d H : Nat) (xs ys : List UInt8) (w : World) (hx : xs.length = n) (hy : ys.length = m) (hA : Row w H A (xs.map bc)) (hB : Row w H B (ys.map bc)) :
    Calls Tryd.prog 68 #[.slice A n c, .slice B m d] w (Told w (.bool (decide (xs = ys)))) := by
  have h1 := convert_row_run (P := Tryd.prog) w 35 9 5 Tryd.underlying35 Tryd.underlying5 Tryd.underlying9 A n c H xs hx hA
  have h2 := convert_row_run (P := Tryd.prog) w 35 9 5 Tryd.underlying35 Tryd.underlying5 Tryd.underlying9 B m d H ys hy hB
  by_cases he : xs = ys
  · have hne : (xs == ys) = true := by rw [beq_iff_eq]; exact he
    have HF := Lib.hid (show decide (xs = ys) = true by rw [decide_eq_true_eq]; exact he)
    clear he hA hB hx hy
    go_enter Tryd.func68, Tryd.ntmps68
    go_wp2
    go_ret
    exact ⟨by rw [HF.out]; rfl, rfl⟩
  · have hne : (xs == ys) = false := by rw [beq_eq_false_iff_ne]; exact he
    have HF := Lib.hid (show decide (xs = ys) = false by rw [decide_eq_false_iff_not]; exact he)
    clear he hA hB hx hy
    go_enter Tryd.func68, Tryd.ntmps68
    go_wp2
    go_ret
    exact ⟨by rw [HF.out]; rfl, rfl⟩

end Go.Proofs.YtgfoekbdmgljbaaDoor

namespace Go.Proofs.YtgfoekbdmgljbaaDoor
open Go.RowKit

/-- What Open leaves: what the bytes tell, the data of its own; or an error and nothing. -/
def OpenOut (w : World) (l : List UInt8) (e : Ending) (w' : World) : Prop :=
  ∃ v, e = .returned (.tuple #[(openH l).val, v, .int .i64 (openE l)]) ∧ w'.ownsRow w.heap.size 5 1 v (openB l).length ((openB l).map bc) ∧ Below w.heap.size w w'
theorem openE_short {l : List UInt8} (h : l.length ≠ 512) : openE l = 3 := by unfold openE; rw [if_pos h]
theorem openE_bad {l : List UInt8} (h : l.length = 512) (hm : madeB l = false) : openE l = 14 := by unfold openE; rw [if_neg (by simp [h]), if_neg (by simp [hm])]
theorem openE_ok {l : List UInt8} (h : l.length = 512) (hm : madeB l = true) : openE l = 0 := by unfold openE; rw [if_neg (by simp [h]), if_pos hm]
theorem openH_no {l : List UInt8} (h : openE l ≠ 0) : openH l = hzero := by unfold openH; rw [if_neg h]
theorem openB_no {l : List UInt8} (h : openE l ≠ 0) : openB l = [] := by unfold openB; rw [if_neg h]
theorem openH_ok {l : List UInt8} (h : openE l = 0) : openH l = readH l := by unfold openH; rw [if_pos h]
theorem openB_ok {l : List UInt8} (h : openE l = 0) : openB l = (l.drop 16).take (readC l) := by unfold openB; rw [if_pos h]

set_option maxHeartbeats 400000 in
theorem open_short (A : Option Addr) (n c : Nat) (l : List UInt8) (w : World) (hl : l.length = n) (hn : n ≠ 512) : Calls Tryd.prog 61 #[.slice A n c] w (OpenOut w l) := by
  have he := openE_short (l := l) (by omega)
  have HH := Lib.hid (openH_no (l := l) (by rw [he]; decide))
  have HB := Lib.hid (openB_no (l := l) (by rw [he]; decide))
  have HE := Lib.hid he
  have d1 : ((n : Int) != 512) = true := by rw [bne_iff_ne]; omega
  clear he hn hl
  go_enter Tryd.func61, Tryd.ntmps61
  go_wp2
  exact bodyPost_ret (v := .tuple #[hzero.val, .slice none 0 0, .int .i64 3]) (by simp [results, Tryd.results61, go_sem, SH.val, hzero]) rfl
    ⟨.slice none 0 0, by rw [HE.out, HH.out], by rw [HB.out]; exact World.ownsRow_nil _ _ _ _, (Below.refl _ _).alloc (Nat.le_refl _) _⟩

set_option maxHeartbeats 1000000 in
set_option maxRecDepth 4000 in
theorem open_full (A : Option Addr) (c : Nat) (l : List UInt8) (w : World) (hl : l.length = 512) (hA : Row w w.heap.size A (l.map bc)) (hc : 512 ≤ c) (hs : SizesAt w) :
    Calls Tryd.prog 61 #[.slice A 512 c] w (OpenOut w l) := by
  obtain ⟨b, off, rfl, _, _⟩ := hA.some_ (by rw [List.length_map, hl]; decide)
  obtain ⟨i0, hi0, hz0, hz1, hz2⟩ := info_parts u8_info
  have HR := Lib.hid (read_any (some ⟨b, off, none⟩) c l (w.alloc (.cells #[.int .i64 0, .int .i64 0, .int .i64 0, .int .i64 0, .int .i64 0] 79)) hl ((hA.alloc (Nat.le_refl _) _).mono (by simp)) hc (hs.alloc _))
  have HW0 := Lib.hid (Whole.made w hzero.cells 79)
  have HL := Lib.hid hl
  have HA := Lib.hid hA
  have HS := Lib.hid hs
  by_cases hn : readC l ≤ 496
  · have d1 : decide ((496 : Int) < (readC l : Int)) = false := by simp; omega
    obtain ⟨m, hm⟩ : ∃ m, madeB l = m := ⟨_, rfl⟩
    have hsr := seal_read hl hn
    rw [hm] at hsr
    have HSR := Lib.hid hsr
    have HM := Lib.hid hm
    obtain ⟨x, hx⟩ : ∃ x, (l.drop 16).take (readC l) = x := ⟨_, rfl⟩
    have hxl : x.length = readC l := by rw [← hx]; simp; omega
    obtain ⟨hd, hhd⟩ : ∃ hd, readH l = hd := ⟨_, rfl⟩
    obtain ⟨cn, hcn⟩ : ∃ cn, readC l = cn := ⟨_, rfl⟩
    have HX := Lib.hid hx
    have HHD := Lib.hid hhd
    have HCN := Lib.hid hcn
    have hr0 := HR.out
    unfold HReadOut at hr0
    rw [hhd, hcn] at hr0
    have HR2 := Lib.hid hr0
    rw [hcn] at d1 hxl hn
    have HXL := Lib.hid hxl
    have HCC := Lib.hid (show 16 + cn - 16 = cn by omega)
    clear hl hA hs hsr hm hx hxl hhd hcn hr0
    go_enter Tryd.func61, Tryd.ntmps61
    go_wp2_with fail
    refine HR2.out.mono ?_
    rintro e w1 ⟨rfl, hb1⟩
    have HB1 := Lib.hid (((Below.refl w.heap.size w).alloc (Nat.le_refl _) _).trans (hb1.mono (by simp)))
    have HW1 := Lib.hid (HW0.out.below hb1 (by simp))
    clear hb1
    go_wp2_with (first
      | (refine wpList_store_at rfl 79 (.tmp 2) (.tmp 15) rfl w.heap.size 0 hd.cells rfl rfl 79 _ HW1.out (SH.fit _ _) head_cells hd.one ?_
         intro V hv1 hv2 hv3
         rw [SH.splice] at hv1
         have HV := Lib.hid hv1
         have hvb := HB1.out.trans (hv2.below (B := w.heap.size) (fun j hj => by omega) HB1.out.size)
         have HVB := Lib.hid hvb
         have hvz := hvb.size
         have HAV := Lib.hid (HA.out.below hvb)
         have hrx := (HAV.out.drop (k := 16) rfl).take cn
         rw [← List.map_drop, ← List.map_take, ← HCN.out, HX.out] at hrx
         have HRX := Lib.hid hrx
         clear hv1 hv2 hv3 hvb hrx)
      | (at_builtin
         refine wpList_append_row rfl (.tmp 20) (.tmp 24) _ rfl w.heap.size 5 i0 _ 1 1 Tryd.underlying35 hi0 hz0 hz1 hz2 rfl (by omega) (.slice none 0 0) 0 [] rfl
           (World.ownsRow_nil _ _ _ _) (some ⟨b, off + 16, none⟩) cn (c - 16) w.heap.size (x.map bc) (congrArg (fun z => Value.slice (some ⟨b, off + 16, none⟩) z (c - 16)) HCC.out) (by rw [List.length_map, HXL.out]; omega) HRX.out (bc_one x) (by unfold maxLen; omega) (by omega) hvz ?_
         intro v2 V2 hown2 hg2
         simp only [Nat.zero_add, List.nil_append] at hown2
         obtain ⟨A2, c2, rfl, hc1, hc2⟩ := own_form hown2
         have HO2 := Lib.hid hown2
         have HV2 := Lib.hid (HV.out.grown hg2 (by simp [Value.ownBlock]))
         have hvb2 := own_below HVB.out (Nat.le_refl _) hvz (World.ownsRow_nil V w.heap.size 5 1) hg2
         have HVB2 := Lib.hid hvb2
         have HS2 := Lib.hid (HS.out.next hvb2)
         have HAV2 := Lib.hid (HA.out.below hvb2)
         have hvz2 := hvb2.size
         clear hown2 hg2 hvb2)
      | (refine wpList_load_at rfl 79 (.tmp 2) rfl w.heap.size 0 rfl hd.cells _ Tryd.underlying79 rfl head_cells 79 _ HV2.out (fun j v hj => by rwa [Nat.zero_add]) ?_))
    refine (seal_any A2 c2 cn hd x V2 HXL.out (Row.of_own HO2.out) HS2.out hc1 (Nat.le_trans hc1 hc2)).mono ?_
    rintro e V3 ⟨v3, rfl, hown3, hb3⟩
    obtain ⟨A3, c3, rfl, hc3, hc4⟩ := own_form hown3
    have HO3 := Lib.hid hown3
    have HVB3 := Lib.hid (HVB2.out.trans (hb3.mono hvz2))
    have HV3 := Lib.hid (HV2.out.below hb3 HV2.out.lt)
    have HA3 := Lib.hid (HAV2.out.below (hb3.mono hvz2))
    have HX3 := Lib.hid (own_keep HO2.out (fun g hg => hb3.block g (HO2.out.lt g hg).2))
    have hvz3 := hb3.size
    have hmb : decide (sealB hd x = l) = m := by rw [← HHD.out, ← HX.out]; exact HSR.out
    have HMB := Lib.hid hmb
    clear hown3 hb3 hmb
    generalize sealB hd x = sb at *
    generalize sealE hd x.length = se
    go_wp2_with fail
    refine (eqbytes_any A3 (some ⟨b, off, none⟩) sb.length 512 c3 c V3.heap.size sb l V3 rfl HL.out (Row.of_own HO3.out) (HA3.out.mono (Nat.le_trans hvz2 hvz3))).mono ?_
    rw [HMB.out]
    rintro e w' ⟨rfl, rfl⟩
    cases m with
    | true =>
      have he := openE_ok HL.out HM.out
      have HH := Lib.hid (openH_ok he)
      have HB := Lib.hid (openB_ok he)
      have HE := Lib.hid he
      clear he
      go_wp2_with (first
        | (refine wpList_load_at rfl 79 (.tmp 2) rfl w.heap.size 0 rfl hd.cells _ Tryd.underlying79 rfl head_cells 79 _ HV3.out (fun j v hj => by rwa [Nat.zero_add]) ?_)
        | (refine wpList_store_at rfl 79 (.tmp 2) (.tmp 37) rfl w.heap.size 0 hd.cells rfl rfl 79 _ HV3.out (SH.fit _ _) head_cells hd.one ?_
           intro V4 hv1 hv2 hv3
           rw [SH.splice] at hv1
           have v0 : V4.cell? ⟨w.heap.size, 0, none⟩ = some (.int .i64 hd.kind) := hv1.cell 0
           have v1 : V4.cell? ⟨w.heap.size, 1, none⟩ = some (.int .i64 hd.epoch) := hv1.cell 1
           have v2 : V4.cell? ⟨w.heap.size, 2, none⟩ = some (.int .i64 hd.seq) := hv1.cell 2
           have v3 : V4.cell? ⟨w.heap.size, 3, none⟩ = some (.int .i64 hd.part) := hv1.cell 3
           have v4 : V4.cell? ⟨w.heap.size, 4, none⟩ = some (.int .i64 hd.parts) := hv1.cell 4
           have HVB4 := Lib.hid (HVB3.out.trans (hv2.below (B := w.heap.size) (fun j hj => by omega) HVB3.out.size))
           have HX4 := Lib.hid (own_grew HX3.out hv2 (fun g hg => fun e => own_not_whole HX3.out HV3.out (by decide) (hg.trans (congrArg some e))))
           clear hv1 hv2 hv3))
      exact bodyPost_ret (v := .tuple #[hd.val, .slice A2 cn c2, .int .i64 0]) (by simp [results, Tryd.results61, go_sem, SH.val, v0, v1, v2, v3, v4]) rfl
        ⟨.slice A2 cn c2, by rw [HE.out, HH.out, HHD.out], by rw [HB.out, HX.out, HXL.out]; exact HX4.out, HVB4.out⟩
    | false =>
      have he := openE_bad HL.out HM.out
      have HH := Lib.hid (openH_no (l := l) (by rw [he]; decide))
      have HB := Lib.hid (openB_no (l := l) (by rw [he]; decide))
      have HE := Lib.hid he
      clear he
      go_wp2_with (
        refine wpList_store_at rfl 79 (.tmp 2) (.tmp 36) rfl w.heap.size 0 hzero.cells rfl rfl 79 _ HV3.out (SH.fit _ _) head_cells hzero.one ?_
        intro V4 hv1 hv2 hv3
        rw [SH.splice] at hv1
        have v0 : V4.cell? ⟨w.heap.size, 0, none⟩ = some (.int .i64 0) := hv1.cell 0
        have v1 : V4.cell? ⟨w.heap.size, 1, none⟩ = some (.int .i64 0) := hv1.cell 1
        have v2 : V4.cell? ⟨w.heap.size, 2, none⟩ = some (.int .i64 0) := hv1.cell 2
        have v3 : V4.cell? ⟨w.heap.size, 3, none⟩ = some (.int .i64 0) := hv1.cell 3
        have v4 : V4.cell? ⟨w.heap.size, 4, none⟩ = some (.int .i64 0) := hv1.cell 4
        have HVB4 := Lib.hid (HVB3.out.trans (hv2.below (B := w.heap.size) (fun j hj => by omega) HVB3.out.size))
        clear hv1 hv2 hv3)
      exact bodyPost_ret (v := .tuple #[hzero.val, .slice none 0 0, .int .i64 14]) (by simp [results, Tryd.results61, go_sem, SH.val, hzero, v0, v1, v2, v3, v4]) rfl
        ⟨.slice none 0 0, by rw [HE.out, HH.out], by rw [HB.out]; exact World.ownsRow_nil _ _ _ _, HVB4.out⟩
  · have d1 : decide ((496 : Int) < (readC l : Int)) = true := by simp; omega
    have he := openE_bad hl (show madeB l = false by simp [madeB, hn])
    have HH := Lib.hid (openH_no (l := l) (by rw [he]; decide))
    have HB := Lib.hid (openB_no (l := l) (by rw [he]; decide))
    have HE := Lib.hid he
    clear he hl hA hs
    go_enter Tryd.func61, Tryd.ntmps61
    go_wp2_with fail
    refine HR.out.mono ?_
    rintro e w1 ⟨rfl, hb1⟩
    have HB1 := Lib.hid (((Below.refl w.heap.size w).alloc (Nat.le_refl _) _).trans (hb1.mono (by simp)))
    have HW1 := Lib.hid (HW0.out.below hb1 (by simp))
    clear hb1
    generalize readH l = hx
    go_wp2_with (first
      | (refine wpList_store_at rfl 79 (.tmp 2) (.tmp 15) rfl w.heap.size 0 hx.cells rfl rfl 79 _ HW1.out (SH.fit _ _) head_cells hx.one ?_
         intro V hv1 hv2 hv3
         rw [SH.splice] at hv1
         have HV := Lib.hid hv1
         have HVB := Lib.hid (HB1.out.trans (hv2.below (B := w.heap.size) (fun j hj => by omega) HB1.out.size))
         clear hv1 hv2 hv3)
      | (refine wpList_store_at rfl 79 (.tmp 2) (.tmp 19) rfl w.heap.size 0 hzero.cells rfl rfl 79 _ HV.out (SH.fit _ _) head_cells hzero.one ?_
         intro V2 hv1 hv2 hv3
         rw [SH.splice] at hv1
         have v0 : V2.cell? ⟨w.heap.size, 0, none⟩ = some (.int .i64 0) := hv1.cell 0
         have v1 : V2.cell? ⟨w.heap.size, 1, none⟩ = some (.int .i64 0) := hv1.cell 1
         have v2 : V2.cell? ⟨w.heap.size, 2, none⟩ = some (.int .i64 0) := hv1.cell 2
         have v3 : V2.cell? ⟨w.heap.size, 3, none⟩ = some (.int .i64 0) := hv1.cell 3
         have v4 : V2.cell? ⟨w.heap.size, 4, none⟩ = some (.int .i64 0) := hv1.cell 4
         have HVB2 := Lib.hid (HVB.out.trans (hv2.below (B := w.heap.size) (fun j hj => by omega) HVB.out.size))
         clear hv1 hv2 hv3))
    exact bodyPost_ret (v := .tuple #[hzero.val, .slice none 0 0, .int .i64 14]) (by simp [results, Tryd.results61, go_sem, SH.val, hzero, v0, v1, v2, v3, v4]) rfl
      ⟨.slice none 0 0, by rw [HE.out, HH.out], by rw [HB.out]; exact World.ownsRow_nil _ _ _ _, HVB2.out⟩

theorem open_any (A : Option Addr) (n c : Nat) (l : List UInt8) (w : World) (hl : l.length = n) (hA : Row w w.heap.size A (l.map bc)) (hc : n ≤ c) (hs : SizesAt w) :
    Calls Tryd.prog 61 #[.slice A n c] w (OpenOut w l) := by
  by_cases hn : n = 512
  · subst hn
    exact open_full A c l w hl hA hc hs
  · exact open_short A n c l w hl hn

end Go.Proofs.YtgfoekbdmgljbaaDoor
