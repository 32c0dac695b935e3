/-
  How a cache in memory turns: an item is used, put, taken out.
-/
import Derived.Test.YtmbcbfalgdgmjaaGreatDoorKcP8
import Derived.Deep.CutRange
import Derived.Test.YtmbcbfalgdgmjaaGreatDoorKcP5
namespace Go.Proofs.YtmbcbfalgdgmjaaGreatDoor
open Go.RowKit

/-- Blocks of all types but a cache's and an item's stay. -/
def ckT (t : TypeId) : Prop := t = 57 ∨ t = 61
def KeptC (w w' : World) : Prop := ∀ (g : Nat) cs t fr, w.heap[g]? = some (Obj.cells cs t fr) → ¬ ckT t → w'.heap[g]? = w.heap[g]?
theorem KeptC.own {w w' : World} (h : KeptC w w') {base : Nat} {e : TypeId} {size n : Nat} {v : Value} {xs : List Value} (hr : w.ownsRow base e size v n xs) (ht : ¬ ckT e) : w'.ownsRow base e size v n xs := by
  refine own_keep hr fun g hv => ?_
  rcases hr.2 with ⟨rfl, _⟩ | ⟨g', cap, cur, rfl, _, hh, _⟩
  · cases hv
  · simp [Value.ownBlock] at hv
    subst hv
    exact h _ _ _ _ hh ht
theorem str_notC : ¬ ckT 9 := by unfold ckT; decide
theorem dat_notC : ¬ ckT 34 := by unfold ckT; decide
theorem u8_notC : ¬ ckT 5 := by unfold ckT; decide
theorem int_notC : ¬ ckT 3 := by unfold ckT; decide
theorem OwnD.keptC {w w' : World} {B : Nat} {x : DV} {d : Dt} (h : OwnD w B x d) (hk : KeptC w w') : OwnD w' B x d :=
  ⟨hk.own h.b u8_notC, hk.own h.h str_notC, hk.own h.m str_notC, hk.own h.n int_notC, hk.own h.t str_notC⟩
theorem FOwn.keptC {w w' : World} {B : Nat} {x : FV} (h : FOwn w B x) (hk : KeptC w w') : FOwn w' B x :=
  ⟨hk.own h.n str_notC, hk.own h.z str_notC, h.d.keptC hk, hk.own h.s dat_notC, fun p hp => (h.e p hp).keptC hk⟩
theorem lt_of_get {w : World} {g : Nat} {o : Obj} (h : w.heap[g]? = some o) : g < w.heap.size := by
  rcases Nat.lt_or_ge g w.heap.size with h1 | h1
  · exact h1
  · rw [Array.getElem?_eq_none h1] at h; cases h
theorem KeptC.of_two {w w' : World} {cb g : Nat} {L M : List Value} (hc : Whole w cb 57 L) (hi : Whole w g 61 M) (hG : Grew (fun j => j = cb ∨ j = g) w w') : KeptC w w' := fun j cs t fr hj ht => by
  refine hG.block j (lt_of_get hj) ?_
  rintro (rfl | rfl)
  · unfold Whole at hc
    rw [hc] at hj
    injection hj with hj
    injection hj with _ hj _
    exact ht (.inl hj.symm)
  · unfold Whole at hi
    rw [hi] at hj
    injection hj with hj
    injection hj with _ hj _
    exact ht (.inr hj.symm)
theorem KeptC.of_map {w w' : World} {mb n : Nat} {D : DataW Unit} {R : Value → Option (DataW Unit × List MemPlace)} {P : Program} {k : TypeId} (h : w.ownsMap P k R mb n D) (hg : w.grownBy w' (some mb)) : KeptC w w' := fun j cs t fr hj _ => by
  refine hg.block j (lt_of_get hj) fun e => ?_
  injection e with e
  subst e
  obtain ⟨es, clock, hb, _⟩ := h
  rw [hb] at hj
  cases hj
theorem map_not_whole {w : World} {mb n g : Nat} {t : TypeId} {L : List Value} {D : DataW Unit} {R : Value → Option (DataW Unit × List MemPlace)} {P : Program} {k : TypeId} (h : w.ownsMap P k R mb n D) (hw : Whole w g t L) : g ≠ mb := fun e => by
  subst e
  obtain ⟨es, clock, hb, _⟩ := h
  unfold Whole at hw
  rw [hb] at hw
  cases hw

theorem whole_type {w : World} {g : Nat} {t t' : TypeId} {L L' : List Value} (h : Whole w g t L) (h' : Whole w g t' L') : t = t' := by
  unfold Whole at h h'
  rw [h] at h'
  injection h' with h'
  injection h'

/-! ### lists of items -/
theorem restI_mem {its : List Im} {l : List UInt8} {i : Im} (h : i ∈ restI its l) : i ∈ its ∧ i.key ≠ l := by
  obtain ⟨h1, h2⟩ := List.mem_filter.1 h
  exact ⟨h1, by simpa using h2⟩
theorem restI_of {its : List Im} {l : List UInt8} {i : Im} (h : i ∈ its) (hk : i.key ≠ l) : i ∈ restI its l := List.mem_filter.2 ⟨h, by simpa using hk⟩
theorem eq_of_key {its : List Im} (hp : its.Pairwise fun i j => i.key ≠ j.key) : ∀ {i j : Im}, i ∈ its → j ∈ its → i.key = j.key → i = j := by
  induction its with
  | nil => intro i j hi; exact absurd hi List.not_mem_nil
  | cons a its ih =>
    obtain ⟨h1, h2⟩ := List.pairwise_cons.1 hp
    intro i j hi hj e
    rcases List.mem_cons.1 hi with rfl | hi'
    · rcases List.mem_cons.1 hj with rfl | hj'
      · rfl
      · exact absurd e (h1 j hj')
    · rcases List.mem_cons.1 hj with rfl | hj'
      · exact absurd e.symm (h1 i hi')
      · exact ih h2 hi' hj' e
theorem restI_none {its : List Im} {l : List UInt8} (h : its.any (fun i => decide (i.key = l)) = false) : restI its l = its := by
  unfold restI
  rw [List.filter_eq_self]
  intro i hi
  have := List.any_eq_false.1 h i hi
  simpa using this
theorem restI_len {its : List Im} (hp : its.Pairwise fun i j => i.key ≠ j.key) (l : List UInt8) : (restI its l).length + (if its.any (fun i => decide (i.key = l)) = true then 1 else 0) = its.length := by
  induction its with
  | nil => rfl
  | cons a its ih =>
    obtain ⟨h1, h2⟩ := List.pairwise_cons.1 hp
    have ih := ih h2
    unfold restI at ih ⊢
    rw [List.filter_cons, List.any_cons]
    by_cases e : a.key = l
    · have hn : its.any (fun i => decide (i.key = l)) = false := List.any_eq_false.2 fun j hj => by
        have := h1 j hj
        simp only [decide_eq_true_eq]
        exact fun e2 => this (e.trans e2.symm)
      rw [hn] at ih
      simp only [e, decide_true, Bool.not_true, Bool.false_eq_true, if_false, Bool.true_or, if_true, List.length_cons]
      simpa using ih
    · simp only [e, decide_false, Bool.not_false, if_true, Bool.false_or, List.length_cons]
      omega
theorem any_rest {its : List Im} {l m : List UInt8} (h : m ≠ l) : (restI its l).any (fun i => decide (i.key = m)) = its.any fun i => decide (i.key = m) := by
  rw [Bool.eq_iff_iff, List.any_eq_true, List.any_eq_true]
  constructor
  · rintro ⟨i, hi, e⟩
    exact ⟨i, (restI_mem hi).1, e⟩
  · rintro ⟨i, hi, e⟩
    exact ⟨i, restI_of hi (by rw [of_decide_eq_true e]; exact h), e⟩
theorem any_rest_same (its : List Im) (l : List UInt8) : (restI its l).any (fun i => decide (i.key = l)) = false := by
  rw [List.any_eq_false]
  intro i hi
  have := (restI_mem hi).2
  simpa using this
theorem isKey_str (l : List UInt8) : WideAt.IsKeyLit (.string l) := by simp [WideAt.IsKeyLit]
theorem str_ne {l m : List UInt8} (h : m ≠ l) : (Lit.string m) ≠ .string l := fun e => h (by injection e)
/-- One is put. -/
theorem HasI.put {D : DataW Unit} {its : List Im} (h : HasI D its) (hp : its.Pairwise fun i j => i.key ≠ j.key) (i : Im) : HasI (D.put (.string i.key) (.lit (.int .i64 i.g))) (restI its i.key ++ [i]) := by
  refine ⟨h.m.put (isKey_str _) _, fun l => ?_, fun j hj z => ?_, ?_⟩
  · rw [List.any_append, List.any_cons, List.any_nil, Bool.or_false]
    by_cases e : i.key = l
    · rw [← e, Maps.has_put_same h.m.isMap (isKey_str _)]
      simp
    · rw [Maps.has_put_other (str_ne (Ne.symm e)), h.has, any_rest (Ne.symm e)]
      simp [e]
  · rcases List.mem_append.1 hj with hj | hj
    · obtain ⟨h1, h2⟩ := restI_mem hj
      rw [Maps.atKey_put_other (str_ne h2)]
      exact h.at_ j h1 z
    · rw [List.mem_singleton.1 hj]
      exact Maps.atKey_put_same h.m.isMap (isKey_str _) _ _
  · rw [Maps.size_put h.m, h.has, h.size, List.length_append, List.length_singleton]
    have h1 := restI_len hp i.key
    split
    · rename_i e
      rw [if_pos e] at h1
      omega
    · rename_i e
      rw [if_neg e] at h1
      omega
/-- One goes. -/
theorem HasI.del {D : DataW Unit} {its : List Im} (h : HasI D its) (hp : its.Pairwise fun i j => i.key ≠ j.key) (l : List UInt8) : HasI (D.del (.string l)) (restI its l) := by
  refine ⟨h.m.del _, fun m => ?_, fun j hj z => ?_, ?_⟩
  · by_cases e : m = l
    · rw [e, Maps.has_del_same, any_rest_same]
    · rw [Maps.has_del_other (str_ne e), h.has, any_rest e]
  · obtain ⟨h1, h2⟩ := restI_mem hj
    rw [Maps.atKey_del_other (str_ne h2)]
    exact h.at_ j h1 z
  · have h1 := Maps.size_del (k := .string l) h.m
    rw [h.has, h.size] at h1
    have h2 := restI_len hp l
    omega
/-- Only keys and blocks count. -/
theorem HasI.same {D : DataW Unit} {its its' : List Im} (h : HasI D its) (hl : its'.length = its.length) (h1 : ∀ i ∈ its, ∃ j ∈ its', j.key = i.key) (h2 : ∀ j ∈ its', ∃ i ∈ its, i.key = j.key ∧ i.g = j.g) : HasI D its' := by
  refine ⟨h.m, fun l => ?_, fun j hj z => ?_, by rw [hl, h.size]⟩
  · rw [h.has, Bool.eq_iff_iff, List.any_eq_true, List.any_eq_true]
    constructor
    · rintro ⟨i, hi, e⟩
      obtain ⟨j, hj, e2⟩ := h1 i hi
      exact ⟨j, hj, by rw [e2]; exact e⟩
    · rintro ⟨j, hj, e⟩
      obtain ⟨i, hi, e2, _⟩ := h2 j hj
      exact ⟨i, hi, by rw [e2]; exact e⟩
  · obtain ⟨i, hi, e1, e2⟩ := h2 j hj
    rw [← e1, h.at_ i hi, e2]
theorem rest_its {C : Ca} {its : List Im} (hl : C.list = its.map fun i => i.x.fact) (h : C.ok) {f : Fc} (hf : soundF f = true) : C.rest f = (restI its (keyF f)).map fun i => i.x.fact := by
  have hs := h.s
  unfold Ca.rest restI
  rw [hl] at hs ⊢
  rw [List.filter_map]
  congr 1
  refine List.filter_congr fun i hi => ?_
  have s1 := hs _ (List.mem_map.2 ⟨i, hi, rfl⟩)
  show (!keyB f.name f.h.typ i.x.fact) = _
  rw [keyB_keyS s1 (soundF_name hf)]
  rfl

section
variable {w w' : World} {b cb mb most uses : Nat} {window : Int} {its : List Im}
theorem eq_of_use {its : List Im} (hp : its.Pairwise fun i j => i.u < j.u) : ∀ {i j : Im}, i ∈ its → j ∈ its → i.u = j.u → i = j := by
  induction its with
  | nil => intro i j hi; exact absurd hi List.not_mem_nil
  | cons a its ih =>
    obtain ⟨h1, h2⟩ := List.pairwise_cons.1 hp
    intro i j hi hj e
    rcases List.mem_cons.1 hi with rfl | hi'
    · rcases List.mem_cons.1 hj with rfl | hj'
      · rfl
      · have := h1 j hj'; omega
    · rcases List.mem_cons.1 hj with rfl | hj'
      · have := h1 i hi'; omega
      · exact ih h2 hi' hj' e
theorem CMem.inj (h : CMem w b cb mb most window uses its) {i j : Im} (hi : i ∈ its) (hj : j ∈ its) (e : i.g = j.g) : i = j := by
  have h1 := h.item i hi
  have h2 := h.item j hj
  have c1 := h1.cell 13
  have c2 := h2.cell 13
  rw [← e, c1] at c2
  have e2 : (cellsI i)[13]? = some (.int .i64 i.u) := rfl
  have e3 : (cellsI j)[13]? = some (.int .i64 j.u) := rfl
  rw [e2, e3] at c2
  injection c2 with c2
  injection c2 with _ c2
  exact eq_of_use h.used hi hj (by omega)
/-- An item that is no one's yet is used. -/
theorem CMem.touch (h : CMem w b cb mb most window uses its) {g : Nat} {L : List Value} (hg : b ≤ g) (hne : ∀ i ∈ its, i.g ≠ g) (hi : Whole w g 61 L) (hu : Used w cb g (.int .i64 most) (.int .i64 window) (.map (some mb)) uses L w') : CMem w' b cb mb most window (uses + 1) its := by
  obtain ⟨u1, u2, u3, u4⟩ := hu
  obtain ⟨D, hD, hh⟩ := h.map
  have hb : Below b w w' := u3.below (fun j hj => by rcases hj with rfl | rfl; exact h.cge; exact hg) h.low
  have hm1 : cb ≠ mb := map_not_whole hD h.blk
  have hm2 : g ≠ mb := map_not_whole hD hi
  refine ⟨h.cge, h.mge, u1, ⟨D, ownsMap_keepB hD (u3.block mb hD.lt (by omega)), hh⟩, h.ige, fun i hii => ?_, fun i hii => (h.own i hii).keptC (KeptC.of_two h.blk hi u3), h.used, fun i hii => Nat.le_succ_of_le (h.last i hii), h.keys, h.snd, h.pows.next hb⟩
  refine (u3.block i.g (h.item i hii).lt ?_).trans (h.item i hii)
  rintro (e | e)
  · have h1 := h.item i hii
    rw [e] at h1
    exact absurd (whole_type h1 h.blk) (by decide)
  · exact hne i hii e
/-- An item is used. -/
theorem CMem.useI (h : CMem w b cb mb most window uses its) {i : Im} (hi : i ∈ its) (hu : Used w cb i.g (.int .i64 most) (.int .i64 window) (.map (some mb)) uses (cellsI i) w') : CMem w' b cb mb most window (uses + 1) (restI its i.key ++ [{ i with u := uses + 1 }]) := by
  obtain ⟨u1, u2, u3, u4⟩ := hu
  obtain ⟨D, hD, hh⟩ := h.map
  have hw := h.item i hi
  have hb : Below b w w' := u3.below (fun j hj => by rcases hj with rfl | rfl; exact h.cge; exact h.ige i hi) h.low
  have hm1 : cb ≠ mb := map_not_whole hD h.blk
  have hm2 : i.g ≠ mb := map_not_whole hD hw
  have hlen : (restI its i.key ++ [{ i with u := uses + 1 }]).length = its.length := by
    have h1 := restI_len h.keys i.key
    rw [if_pos (List.any_eq_true.2 ⟨i, hi, by simp⟩)] at h1
    simp
    omega
  have mem : ∀ j ∈ restI its i.key ++ [{ i with u := uses + 1 }], (j ∈ its ∧ j.key ≠ i.key) ∨ j = { i with u := uses + 1 } := fun j hj => by
    rcases List.mem_append.1 hj with hj | hj
    · exact .inl (restI_mem hj)
    · exact .inr (List.mem_singleton.1 hj)
  refine ⟨h.cge, h.mge, u1, ⟨D, by rw [hlen]; exact ownsMap_keepB hD (u3.block mb hD.lt (by omega)), hh.same hlen (fun j hj => ?_) (fun j hj => ?_)⟩, fun j hj => ?_, fun j hj => ?_, fun j hj => ?_, ?_, fun j hj => ?_, ?_, fun j hj => ?_, h.pows.next hb⟩
  · by_cases e : j.key = i.key
    · exact ⟨{ i with u := uses + 1 }, List.mem_append_right _ (List.mem_singleton.2 rfl), e.symm⟩
    · exact ⟨j, List.mem_append_left _ (restI_of hj e), rfl⟩
  · rcases mem j hj with ⟨h1, _⟩ | rfl
    · exact ⟨j, h1, rfl, rfl⟩
    · exact ⟨i, hi, rfl, rfl⟩
  · rcases mem j hj with ⟨h1, _⟩ | rfl
    · exact h.ige j h1
    · exact h.ige i hi
  · rcases mem j hj with ⟨h1, h2⟩ | rfl
    · refine (u3.block j.g (h.item j h1).lt ?_).trans (h.item j h1)
      rintro (e | e)
      · have h3 := h.item j h1
        rw [e] at h3
        exact absurd (whole_type h3 h.blk) (by decide)
      · exact h2 (by rw [h.inj h1 hi e])
    · exact u2
  · rcases mem j hj with ⟨h1, _⟩ | rfl
    · exact (h.own j h1).keptC (KeptC.of_two h.blk hw u3)
    · exact (h.own i hi).keptC (KeptC.of_two h.blk hw u3)
  · rw [List.pairwise_append]
    refine ⟨h.used.sublist List.filter_sublist, List.pairwise_singleton _ _, fun j hj k hk => ?_⟩
    rw [List.mem_singleton.1 hk]
    have := h.last j (restI_mem hj).1
    show j.u < uses + 1
    omega
  · rcases mem j hj with ⟨h1, _⟩ | rfl
    · exact Nat.le_succ_of_le (h.last j h1)
    · exact Nat.le_refl _
  · rw [List.pairwise_append]
    refine ⟨h.keys.sublist List.filter_sublist, List.pairwise_singleton _ _, fun j hj k hk => ?_⟩
    rw [List.mem_singleton.1 hk]
    exact (restI_mem hj).2
  · rcases mem j hj with ⟨h1, _⟩ | rfl
    · exact h.snd j h1
    · exact h.snd i hi
/-- An item that was used last takes its place. -/
theorem CMem.putI (h : CMem w b cb mb most window uses its) (hlt : ∀ j ∈ its, j.u < uses) {i : Im} (hu : i.u = uses) (hg : b ≤ i.g) (hw : Whole w i.g 61 (cellsI i)) (ho : FOwn w b i.x) (hs : soundF i.x.fact = true)
    {n : Nat} {D : DataW Unit} (hD : w.ownsMap Tryz.prog 9 ptrE mb n D) (hh : HasI D its) (hD' : w'.ownsMap Tryz.prog 9 ptrE mb (n + 1) (D.put (.string i.key) (.lit (.int .i64 i.g)))) (hgr : w.grownBy w' (some mb)) :
    CMem w' b cb mb most window uses (restI its i.key ++ [i]) := by
  have hb : Below b w w' := (Grew.of_grown (F := fun j => j = mb) hgr fun j e => .inl (by injection e with e; exact e.symm)).below (fun j hj => by rw [hj]; exact h.mge) h.low
  have kw : ∀ {g : Nat} {t : TypeId} {L : List Value}, Whole w g t L → Whole w' g t L := fun hx => (hgr.block _ hx.lt fun e => map_not_whole hD hx (by injection e)).trans hx
  have kc := KeptC.of_map hD hgr
  have hP := hh.put h.keys i
  have mem : ∀ j ∈ restI its i.key ++ [i], (j ∈ its ∧ j.key ≠ i.key) ∨ j = i := fun j hj => by
    rcases List.mem_append.1 hj with hj | hj
    · exact .inl (restI_mem hj)
    · exact .inr (List.mem_singleton.1 hj)
  refine ⟨h.cge, h.mge, kw h.blk, ⟨_, by rw [← hP.size]; exact ownsMap_size hD', hP⟩, fun j hj => ?_, fun j hj => ?_, fun j hj => ?_, ?_, fun j hj => ?_, ?_, fun j hj => ?_, h.pows.next hb⟩
  · rcases mem j hj with ⟨h1, _⟩ | rfl
    · exact h.ige j h1
    · exact hg
  · rcases mem j hj with ⟨h1, _⟩ | rfl
    · exact kw (h.item j h1)
    · exact kw hw
  · rcases mem j hj with ⟨h1, _⟩ | rfl
    · exact (h.own j h1).keptC kc
    · exact ho.keptC kc
  · rw [List.pairwise_append]
    refine ⟨h.used.sublist List.filter_sublist, List.pairwise_singleton _ _, fun j hj k hk => ?_⟩
    rw [List.mem_singleton.1 hk, hu]
    exact hlt j (restI_mem hj).1
  · rcases mem j hj with ⟨h1, _⟩ | rfl
    · exact h.last j h1
    · omega
  · rw [List.pairwise_append]
    refine ⟨h.keys.sublist List.filter_sublist, List.pairwise_singleton _ _, fun j hj k hk => ?_⟩
    rw [List.mem_singleton.1 hk]
    exact (restI_mem hj).2
  · rcases mem j hj with ⟨h1, _⟩ | rfl
    · exact h.snd j h1
    · exact hs
/-- One of a key goes. -/
theorem CMem.dropI (h : CMem w b cb mb most window uses its) (l : List UInt8) {n : Nat} {D : DataW Unit} (hD : w.ownsMap Tryz.prog 9 ptrE mb n D) (hh : HasI D its) (hD' : w'.ownsMap Tryz.prog 9 ptrE mb n (D.del (.string l))) (hgr : w.grownBy w' (some mb)) :
    CMem w' b cb mb most window uses (restI its l) := by
  have hb : Below b w w' := (Grew.of_grown (F := fun j => j = mb) hgr fun j e => .inl (by injection e with e; exact e.symm)).below (fun j hj => by rw [hj]; exact h.mge) h.low
  have kw : ∀ {g : Nat} {t : TypeId} {L : List Value}, Whole w g t L → Whole w' g t L := fun hx => (hgr.block _ hx.lt fun e => map_not_whole hD hx (by injection e)).trans hx
  have kc := KeptC.of_map hD hgr
  have hP := hh.del h.keys l
  exact ⟨h.cge, h.mge, kw h.blk, ⟨_, by rw [← hP.size]; exact ownsMap_size hD', hP⟩, fun j hj => h.ige j (restI_mem hj).1, fun j hj => kw (h.item j (restI_mem hj).1), fun j hj => (h.own j (restI_mem hj).1).keptC kc, h.used.sublist List.filter_sublist,
    fun j hj => h.last j (restI_mem hj).1, h.keys.sublist List.filter_sublist, fun j hj => h.snd j (restI_mem hj).1, h.pows.next hb⟩
end

end Go.Proofs.YtmbcbfalgdgmjaaGreatDoor

namespace Go.Proofs.YtmbcbfalgdgmjaaGreatDoor
open Go.RowKit

def ptrV : Option Nat → Value
  | none => .pointer none
  | some g => .pointer (some ⟨g, 0, none⟩)
theorem ptrV_inv (v : Value) (y : DataW Unit × List MemPlace) (h : ptrE v = some y) : ∃ c, v = ptrV c := by
  rcases ptrE_inv h with ⟨rfl, _⟩ | ⟨g, rfl, _⟩
  · exact ⟨none, rfl⟩
  · exact ⟨some g, rfl⟩
def strV (l : List UInt8) : Value := .string ⟨l.toArray⟩
theorem str_key_invP {P : Program} {k : TypeId} (hk : P.underlying k = some .string) {key : Value} {kl : Lit} (h : keyOf P k key = some kl) : ∃ l, key = strV l ∧ kl = .string l ∧ l.length ≤ maxLen := by
  rw [keyOf_string hk] at h
  cases key <;> first | (simp [mapKey, hk] at h; done) | skip
  rename_i s
  simp only [mapKey, hk] at h
  split at h
  · rename_i h1
    injection h with h
    exact ⟨s.data.toList, rfl, h.symm, by rw [Array.length_toList]; exact h1⟩
  · cases h
theorem str_key_inv (key : Value) (kl : Lit) (h : keyOf Tryz.prog 9 key = some kl) : ∃ l, key = strV l ∧ kl = .string l ∧ l.length ≤ maxLen := str_key_invP Tryz.underlying9 h

/-- A range under way: lf: which keys are to come. -/
def RangeI (w : World) (mb r n : Nat) (D : DataW Unit) (lf : List UInt8 → Bool) (cnt : Nat) : Prop := ∃ left, w.ranges Tryz.prog 9 ptrE mb r n D left cnt ∧ ∀ l, left (.string l) = lf l
section
variable {w w' : World} {mb r n cnt : Nat} {D : DataW Unit} {lf : List UInt8 → Bool} {its : List Im}
theorem RangeI.keep (h : RangeI w mb r n D lf cnt) {row : Option Nat} (hg : w.grownBy w' row) (h1 : some mb ≠ row) (h2 : some r ≠ row) : RangeI w' mb r n D lf cnt := by
  obtain ⟨left, hr, hl⟩ := h
  exact ⟨left, hr.kept hg h1 h2, hl⟩
theorem RangeI.step (h : RangeI w mb r n D lf cnt) (hb : Below w.heap.size w w') : RangeI w' mb r n D lf cnt :=
  h.keep (row := none) ⟨hb.os, hb.tape, hb.output, hb.size, fun i hi _ => hb.block i hi⟩ (fun e => by cases e) (fun e => by cases e)
theorem RangeI.owns (h : RangeI w mb r n D lf cnt) : w.ownsMap Tryz.prog 9 ptrE mb n D := by obtain ⟨left, hr, _⟩ := h; exact hr.owns
theorem RangeI.left_eq (h : RangeI w mb r n D lf cnt) : w.rangeLeft mb r = cnt := by obtain ⟨left, hr, _⟩ := h; exact hr.left_eq
theorem RangeI.lt (h : RangeI w mb r n D lf cnt) : r < w.heap.size := by obtain ⟨left, hr, _⟩ := h; exact hr.lt
theorem RangeI.ne (h : RangeI w mb r n D lf cnt) : r ≠ mb := by obtain ⟨left, hr, _⟩ := h; exact hr.ne

set_option maxRecDepth 8000 in
theorem wpList_range_items {ops : Array Oper} {rest : List Oper} {o : Oper} {a : Act} {Q : Exit → Act → World → Prop} (hg : o.guard = none) (m : Operand) (hop : o.op = Op.range 55 m)
    (hm : a.eval m = .map (some mb)) (hown : w.ownsMap Tryz.prog 9 ptrE mb n D) (hh : HasI D its)
    (hK : ∀ w', RangeI w' mb w.heap.size n D (fun l => its.any fun i => decide (i.key = l)) its.length → Below w.heap.size w w' → wpList Tryz.prog ops Q rest (a.put o.dst (.pointer (some ⟨w.heap.size, 0, none⟩))) w') :
    wpList Tryz.prog ops Q (o :: rest) a w := by
  refine wpList_range_own w hg m 55 hop 9 58 ptr_keyed Tryz.underlying55 ptrE mb n D hm hown fun w' h1 h2 _ => hK w' ⟨_, by rw [← hh.size]; exact h1, hh.has⟩ ⟨h2.os, h2.tape, h2.output, h2.size, fun k hk => h2.block k hk (by simp)⟩
theorem same_str (l m : List UInt8) : (Lit.string l).sameKey (.string m) = decide (l = m) := by
  by_cases e : l = m
  · rw [e, decide_eq_true rfl]
    exact WideAt.sameKey_self (isKey_str m)
  · rw [decide_eq_false e]
    exact Maps.sameKey_ne (str_ne e)
set_option maxRecDepth 8000 in
theorem wpList_next_items {ops : Array Oper} {rest : List Oper} {o : Oper} {a : Act} {Q : Exit → Act → World → Prop} (hg : o.guard = none) (it : Operand) (hop : o.op = Op.next it false)
    (hit : a.eval it = .pointer (some ⟨r, 0, none⟩)) (h : RangeI w mb r n D lf cnt) (hh : HasI D its)
    (hDone : (∀ l, lf l = false) → wpList Tryz.prog ops Q rest (a.put o.dst (.tuple #[.bool false])) w)
    (hMore : ∀ i ∈ its, lf i.key = true → ∀ (w' : World) (cnt' : Nat), RangeI w' mb r n D (fun l => lf l && !decide (l = i.key)) cnt' → cnt' < cnt → Grew (fun j => j = r) w w' → w'.heap.size = w.heap.size →
      (Instr.entry (.pointer (some ⟨r, 0, none⟩))).run Tryz.prog w' = .ok (.tuple #[strV i.key, .pointer (some ⟨i.g, 0, none⟩)]) w' →
      wpList Tryz.prog ops Q rest (a.put o.dst (.tuple #[.bool true, strV i.key, .pointer (some ⟨i.g, 0, none⟩)])) w') :
    wpList Tryz.prog ops Q (o :: rest) a w := by
  obtain ⟨left, hr, hl⟩ := h
  refine wpList_next_ranges w hg it hop 9 ptr_keyed ptrE strV ptrV (fun key kl hk => by obtain ⟨l, e, _⟩ := str_key_inv key kl hk; exact ⟨l, e⟩) ptrV_inv mb r n D left cnt hit hr (fun _ h2 => hDone fun l => by rw [← hl]; exact h2 _) ?_
  intro x c kl y w2 cnt2 hkey hlk hv hat hrg hlt hgr hsz hen
  obtain ⟨l, e1, rfl, _⟩ := str_key_inv _ _ hkey
  obtain rfl : x = l := by
    unfold strV at e1
    injection e1 with e1
    injection e1 with e1
    simpa using congrArg Array.toList e1
  have hhas : Maps.has D (.string x) = true := Maps.has_true_of_atKey hat
  rw [hh.has] at hhas
  obtain ⟨i, hi, e2⟩ := List.any_eq_true.1 hhas
  obtain rfl := of_decide_eq_true e2
  have e3 := hat (.lit (.bool false))
  rw [hh.at_ i hi] at e3
  obtain rfl : c = some i.g := by
    cases c with
    | none =>
      have e4 : y = (.lit (.bool false), []) := (Option.some.inj hv).symm
      rw [e4] at e3
      simp at e3
    | some g =>
      have e4 : y = (.lit (.int .i64 g), []) := (Option.some.inj hv).symm
      rw [e4] at e3
      simp at e3
      rw [Int.ofNat.inj e3]
  exact hMore i hi (by rw [← hl]; exact hlk) w2 cnt2 ⟨_, hrg, fun l => by show (left (.string l) && !(Lit.string l).sameKey (.string i.key)) = _; rw [hl, same_str]⟩ hlt (Grew.of_grown hgr fun j e => .inl (by injection e with e; exact e.symm)) hsz hen
end

end Go.Proofs.YtmbcbfalgdgmjaaGreatDoor

namespace Go.Proofs.YtmbcbfalgdgmjaaGreatDoor
open Go.RowKit

/-- Who was used longest ago among those that have come. -/
def Least (its : List Im) (lf : List UInt8 → Bool) : Option Im → Prop
  | none => ∀ j ∈ its, lf j.key = true
  | some i => i ∈ its ∧ ∀ j ∈ its, lf j.key = false → i.u ≤ j.u
def FirstRelC (w : World) (mb : Nat) (D : DataW Unit) (its : List Im) (v : Value) (wr : World) : Prop :=
  ∃ o lf cnt, v = itv o ∧ RangeI wr mb w.heap.size its.length D lf cnt ∧ Least its lf o ∧ Below w.heap.size w wr
theorem least_head {its : List Im} (hp : its.Pairwise fun i j => i.u < j.u) {o : Option Im} {lf : List UInt8 → Bool} (hl : ∀ l, lf l = false) (h : Least its lf o) : o = its.head? := by
  cases its with
  | nil =>
    cases o with
    | none => rfl
    | some i => exact absurd h.1 List.not_mem_nil
  | cons a its =>
    cases o with
    | none =>
      have h1 := h a List.mem_cons_self
      rw [hl] at h1
      cases h1
    | some i =>
      obtain ⟨hi, hu⟩ := h
      have h1 := hu a List.mem_cons_self (hl _)
      rcases List.mem_cons.1 hi with rfl | hi
      · rfl
      · have := (List.pairwise_cons.1 hp).1 i hi
        omega
theorem eql_none (g : Nat) (w : World) : (binOp .eql 58 (.pointer (some ⟨g, 0, none⟩)) (.pointer none)).run Tryz.prog w = .ok (.bool false) w := by kernel_rfl

set_option maxRecDepth 20000 in
set_option maxHeartbeats 4000000 in
theorem first_any {w : World} {b cb mb most uses : Nat} {window : Int} {its : List Im} (h : CMem w b cb mb most window uses its) (_ : uses ≤ 2000000) :
    Calls Tryz.prog 59 #[.pointer (some ⟨cb, 0, none⟩)] w (Gave w (itv its.head?)) := by
  obtain ⟨D, hD, hh⟩ := h.map
  have c3 : w.cell? ⟨cb, 3, none⟩ = some (.map (some mb)) := h.blk.cell 3
  have HM := Lib.hid (fun W (hb : Below w.heap.size w W) => h.step hb)
  have HD := Lib.hid hD
  have HH := Lib.hid hh
  have HU := Lib.hid h.used
  have HLS := Lib.hid h.last
  have HKY := Lib.hid h.keys
  clear h hD hh
  go_enter Tryz.func59, Tryz.ntmps59
  go_wp2_with (
    at_range
    refine wpList_range_items rfl _ rfl rfl HD.out HH.out ?_
    intro w0 hrg hb0
    have HR0 := Lib.hid hrg
    have HB0 := Lib.hid hb0
    clear hrg hb0)
  go_frame
  go_loopw [3] (FirstRelC w mb D its) (fun _ wr => wr.rangeLeft mb w.heap.size)
  case atStart => exact ⟨none, _, _, rfl, HR0.out, fun j hj => List.any_eq_true.2 ⟨j, hj, by simp⟩, HB0.out⟩
  case round =>
  obtain ⟨o, lf, cnt, rfl, hrg, hls, hb⟩ := hrel
  have HRG := Lib.hid hrg
  have HLE := Lib.hid hls
  have HB := Lib.hid hb
  clear hrg hls hb HR0 HB0 c3
  go_wp2_with (
    at_next
    refine wpList_next_items rfl _ rfl rfl HRG.out HH.out ?_ ?_)
  · intro hl0
    have HL0 := Lib.hid hl0
    clear hl0
    go_wp2
    go_ret
    exact ⟨by rw [← least_head HU.out HL0.out HLE.out]; rfl, HB.out⟩
  · intro i hi hlk w2 cnt2 hrg2 hlt hg2 hs2 hen
    have HI := Lib.hid hi
    have HRG2 := Lib.hid hrg2
    have HLT := Lib.hid hlt
    have HLK := Lib.hid hlk
    have HB2 := Lib.hid (show Below w.heap.size w w2 from HB.out.trans (hg2.below (fun j hj => by rw [hj]; exact Nat.le_refl _) HB.out.size))
    have u1 : w2.cell? ⟨i.g, 13, none⟩ = some (.int .i64 i.u) := ((HM.out _ HB2.out).item i hi).cell 13
    have hiu := HLS.out i hi
    clear hi hrg2 hlt hg2 hs2 hlk
    cases o with
    | none =>
      have e0 : itv none = Value.pointer none := rfl
      rw [e0]
      go_wp2
      refine wp_region_held_drew (S := fun _ => True) (by kernel_rfl) (by trivial) (fun hHeld => ?_)
      refine wpAnyH_take (i := 0) (oi := ⟨some 15, _, _, _, _, _⟩) (v := ?_) rfl (by kernel_rfl) (by kernel_rfl) (by kernel_rfl) (fun _ _ _ h => h) (Or.inl ⟨by kernel_rfl, ?_⟩) (by assumption) ?_
      rotate_left
      · intro W hSw
        try dsimp only at hSw
        go_simp
        all_goals (with_reducible rfl)
      try simp only [Act.put, List.setIfInBounds_toArray, List.set_cons_zero, List.set_cons_succ]
      refine wpAnyH_take (i := 1) (oi := ⟨some 16, _, _, _, _, _⟩) (v := ?_) rfl (by kernel_rfl) (by kernel_rfl) (by kernel_rfl) (fun _ _ _ h => h) (Or.inl ⟨by kernel_rfl, ?_⟩) (by assumption) ?_
      rotate_left
      · intro W hSw
        try dsimp only at hSw
        go_simp
        all_goals (with_reducible rfl)
      try simp only [Act.put, List.setIfInBounds_toArray, List.set_cons_zero, List.set_cons_succ]
      refine wpAnyH_take (i := 2) (oi := ⟨some 17, _, _, _, _, _⟩) (v := ?_) rfl (by kernel_rfl) (by kernel_rfl) (by kernel_rfl) (fun _ _ _ h => h) (Or.inl ⟨by kernel_rfl, ?_⟩) (by assumption) ?_
      rotate_left
      · intro W hSw
        try dsimp only at hSw
        go_simp
        all_goals (with_reducible rfl)
      try simp only [Act.put, List.setIfInBounds_toArray, List.set_cons_zero, List.set_cons_succ]
      refine wpAnyH_take (i := 3) (oi := ⟨some 18, _, _, _, _, _⟩) rfl (by kernel_rfl) (by kernel_rfl) (by kernel_rfl) (fun _ _ _ h => h) (Or.inr ⟨by kernel_rfl, rfl⟩) (by assumption) ?_
      try simp only [Act.put, List.setIfInBounds_toArray, List.set_cons_zero, List.set_cons_succ]
      refine wpAnyH_take (i := 4) (oi := ⟨some 19, _, _, _, _, _⟩) rfl (by kernel_rfl) (by kernel_rfl) (by kernel_rfl) (fun _ _ _ h => h) (Or.inr ⟨by kernel_rfl, rfl⟩) (by assumption) ?_
      try simp only [Act.put, List.setIfInBounds_toArray, List.set_cons_zero, List.set_cons_succ]
      refine wpAnyH_take (i := 5) (oi := ⟨some 20, _, _, _, _, _⟩) rfl (by kernel_rfl) (by kernel_rfl) (by kernel_rfl) (fun _ _ _ h => h) (Or.inr ⟨by kernel_rfl, rfl⟩) (by assumption) ?_
      try simp only [Act.put, List.setIfInBounds_toArray, List.set_cons_zero, List.set_cons_succ]
      refine wpAnyH_take (i := 6) (oi := ⟨some 21, _, _, _, _, _⟩) rfl (by kernel_rfl) (by kernel_rfl) (by kernel_rfl) (fun _ _ _ h => h) (Or.inr ⟨by kernel_rfl, rfl⟩) (by assumption) ?_
      try simp only [Act.put, List.setIfInBounds_toArray, List.set_cons_zero, List.set_cons_succ]
      refine wpAnyH_take (i := 7) (oi := ⟨some 22, _, _, _, _, _⟩) rfl (by kernel_rfl) (by kernel_rfl) (by kernel_rfl) (fun _ _ _ h => h) (Or.inr ⟨by kernel_rfl, rfl⟩) (by assumption) ?_
      try simp only [Act.put, List.setIfInBounds_toArray, List.set_cons_zero, List.set_cons_succ]
      refine wpAnyH_take (i := 8) (oi := ⟨some 23, _, _, _, _, _⟩) rfl (by kernel_rfl) (by kernel_rfl) (by kernel_rfl) (fun _ _ _ h => h) (Or.inr ⟨by kernel_rfl, rfl⟩) (by assumption) ?_
      try simp only [Act.put, List.setIfInBounds_toArray, List.set_cons_zero, List.set_cons_succ]
      refine wpAnyH_take (i := 9) (oi := ⟨some 24, _, _, _, _, _⟩) rfl (by kernel_rfl) (by kernel_rfl) (by kernel_rfl) (fun _ _ _ h => h) (Or.inr ⟨by kernel_rfl, rfl⟩) (by assumption) ?_
      try simp only [Act.put, List.setIfInBounds_toArray, List.set_cons_zero, List.set_cons_succ]
      refine wpAnyH_take (i := 10) (oi := ⟨some 25, _, _, _, _, _⟩) rfl (by kernel_rfl) (by kernel_rfl) (by kernel_rfl) (fun _ _ _ h => h) (Or.inr ⟨by kernel_rfl, rfl⟩) (by assumption) ?_
      try simp only [Act.put, List.setIfInBounds_toArray, List.set_cons_zero, List.set_cons_succ]
      refine wpAnyH_take (i := 11) (oi := ⟨some 26, _, _, _, _, _⟩) rfl (by kernel_rfl) (by kernel_rfl) (by kernel_rfl) (fun _ _ _ h => h) (Or.inr ⟨by kernel_rfl, rfl⟩) (by assumption) ?_
      try simp only [Act.put, List.setIfInBounds_toArray, List.set_cons_zero, List.set_cons_succ]
      refine wpAnyH_take (i := 12) (oi := ⟨some 27, _, _, _, _, _⟩) (v := ?_) rfl (by kernel_rfl) (by kernel_rfl) (by kernel_rfl) (fun _ _ _ h => h) (Or.inl ⟨by kernel_rfl, ?_⟩) (by assumption) ?_
      rotate_left
      · intro W hSw
        try dsimp only at hSw
        go_simp
        all_goals (with_reducible rfl)
      try simp only [Act.put, List.setIfInBounds_toArray, List.set_cons_zero, List.set_cons_succ]
      refine wpAnyH_done (by kernel_rfl) ?_ _
      go_wp2
      have HRG3 := Lib.hid (HRG2.out.step (Below.refl w2.heap.size w2).drew)
      refine ⟨⟨some i, _, cnt2, rfl, HRG3.out, ⟨HI.out, fun j hj hf => ?_⟩, HB2.out.drew⟩, ?_⟩
      · have h1 := HLE.out j hj
        simp only [h1, Bool.true_and, Bool.not_eq_false', decide_eq_true_eq] at hf
        rw [eq_of_key HKY.out hj HI.out hf]
        exact Nat.le_refl _
      · rw [HRG3.out.left_eq, HRG.out.left_eq]; exact HLT.out
    | some m =>
      have HE := HLE.out
      have hm := HE.1
      have u2 : w2.cell? ⟨m.g, 13, none⟩ = some (.int .i64 m.u) := ((HM.out _ HB2.out).item m hm).cell 13
      have hmu := HLS.out m hm
      have HIM := Lib.hid hm
      have HMN := Lib.hid HE.2
      clear hm HE
      have e0 : itv (some m) = Value.pointer (some ⟨m.g, 0, none⟩) := rfl
      rw [e0]
      go_wp2
      refine wp_region_held_drew (S := fun W => W.cell? ⟨i.g, 13, none⟩ = some (.int .i64 i.u) ∧ W.cell? ⟨m.g, 13, none⟩ = some (.int .i64 m.u)) (by kernel_rfl) (by exact ⟨u1, u2⟩) (fun hHeld => ?_)
      refine wpAnyH_take (i := 0) (oi := ⟨some 15, _, _, _, _, _⟩) (v := ?_) rfl (by kernel_rfl) (by kernel_rfl) (by kernel_rfl) (fun _ _ _ h => h) (Or.inl ⟨by kernel_rfl, ?_⟩) (by assumption) ?_
      rotate_left
      · intro W hSw
        try dsimp only at hSw
        go_simp
        all_goals (with_reducible rfl)
      try simp only [Act.put, List.setIfInBounds_toArray, List.set_cons_zero, List.set_cons_succ]
      refine wpAnyH_take (i := 1) (oi := ⟨some 16, _, _, _, _, _⟩) (v := ?_) rfl (by kernel_rfl) (by kernel_rfl) (by kernel_rfl) (fun _ _ _ h => h) (Or.inl ⟨by kernel_rfl, ?_⟩) (by assumption) ?_
      rotate_left
      · intro W hSw
        try dsimp only at hSw
        go_simp
        all_goals (with_reducible rfl)
      try simp only [Act.put, List.setIfInBounds_toArray, List.set_cons_zero, List.set_cons_succ]
      refine wpAnyH_take (i := 2) (oi := ⟨some 17, _, _, _, _, _⟩) (v := ?_) rfl (by kernel_rfl) (by kernel_rfl) (by kernel_rfl) (fun _ _ _ h => h) (Or.inl ⟨by kernel_rfl, ?_⟩) (by assumption) ?_
      rotate_left
      · intro W hSw
        try dsimp only at hSw
        go_simp
        all_goals (with_reducible rfl)
      try simp only [Act.put, List.setIfInBounds_toArray, List.set_cons_zero, List.set_cons_succ]
      refine wpAnyH_take (i := 3) (oi := ⟨some 18, _, _, _, _, _⟩) (v := ?_) rfl (by kernel_rfl) (by kernel_rfl) (by kernel_rfl) (fun _ _ _ h => h) (Or.inl ⟨by kernel_rfl, ?_⟩) (by assumption) ?_
      rotate_left
      · intro W hSw
        try dsimp only at hSw
        go_simp
        all_goals (with_reducible rfl)
      try simp only [Act.put, List.setIfInBounds_toArray, List.set_cons_zero, List.set_cons_succ]
      refine wpAnyH_take (i := 4) (oi := ⟨some 19, _, _, _, _, _⟩) (v := ?_) rfl (by kernel_rfl) (by kernel_rfl) (by kernel_rfl) (fun _ _ _ h => h) (Or.inl ⟨by kernel_rfl, ?_⟩) (by assumption) ?_
      rotate_left
      · intro W hSw
        try dsimp only at hSw
        go_simp
        all_goals (with_reducible rfl)
      try simp only [Act.put, List.setIfInBounds_toArray, List.set_cons_zero, List.set_cons_succ]
      refine wpAnyH_take (i := 5) (oi := ⟨some 20, _, _, _, _, _⟩) (v := ?_) rfl (by kernel_rfl) (by kernel_rfl) (by kernel_rfl) (fun _ _ _ h => h) (Or.inl ⟨by kernel_rfl, ?_⟩) (by assumption) ?_
      rotate_left
      · intro W hSw
        try dsimp only at hSw
        go_simp
        all_goals (with_reducible rfl)
      try simp only [Act.put, List.setIfInBounds_toArray, List.set_cons_zero, List.set_cons_succ]
      refine wpAnyH_take (i := 6) (oi := ⟨some 21, _, _, _, _, _⟩) (v := ?_) rfl (by kernel_rfl) (by kernel_rfl) (by kernel_rfl) (fun _ _ _ h => h) (Or.inl ⟨by kernel_rfl, ?_⟩) (by assumption) ?_
      rotate_left
      · intro W hSw
        try dsimp only at hSw
        go_simp
        all_goals (with_reducible rfl)
      try simp only [Act.put, List.setIfInBounds_toArray, List.set_cons_zero, List.set_cons_succ]
      refine wpAnyH_take (i := 7) (oi := ⟨some 22, _, _, _, _, _⟩) (v := ?_) rfl (by kernel_rfl) (by kernel_rfl) (by kernel_rfl) (fun _ _ _ h => h) (Or.inl ⟨by kernel_rfl, ?_⟩) (by assumption) ?_
      rotate_left
      · intro W hSw
        try dsimp only at hSw
        go_simp
        all_goals (with_reducible rfl)
      try simp only [Act.put, List.setIfInBounds_toArray, List.set_cons_zero, List.set_cons_succ]
      refine wpAnyH_take (i := 8) (oi := ⟨some 23, _, _, _, _, _⟩) (v := ?_) rfl (by kernel_rfl) (by kernel_rfl) (by kernel_rfl) (fun _ _ _ h => h) (Or.inl ⟨by kernel_rfl, ?_⟩) (by assumption) ?_
      rotate_left
      · intro W hSw
        try dsimp only at hSw
        go_simp
        all_goals (with_reducible rfl)
      try simp only [Act.put, List.setIfInBounds_toArray, List.set_cons_zero, List.set_cons_succ]
      refine wpAnyH_take (i := 9) (oi := ⟨some 24, _, _, _, _, _⟩) (v := ?_) rfl (by kernel_rfl) (by kernel_rfl) (by kernel_rfl) (fun _ _ _ h => h) (Or.inl ⟨by kernel_rfl, ?_⟩) (by assumption) ?_
      rotate_left
      · intro W hSw
        try dsimp only at hSw
        go_simp
        all_goals (with_reducible rfl)
      try simp only [Act.put, List.setIfInBounds_toArray, List.set_cons_zero, List.set_cons_succ]
      refine wpAnyH_take (i := 10) (oi := ⟨some 25, _, _, _, _, _⟩) (v := ?_) rfl (by kernel_rfl) (by kernel_rfl) (by kernel_rfl) (fun _ _ _ h => h) (Or.inl ⟨by kernel_rfl, ?_⟩) (by assumption) ?_
      rotate_left
      · intro W hSw
        try dsimp only at hSw
        go_simp
        all_goals (with_reducible rfl)
      try simp only [Act.put, List.setIfInBounds_toArray, List.set_cons_zero, List.set_cons_succ]
      refine wpAnyH_take (i := 11) (oi := ⟨some 26, _, _, _, _, _⟩) (v := ?_) rfl (by kernel_rfl) (by kernel_rfl) (by kernel_rfl) (fun _ _ _ h => h) (Or.inl ⟨by kernel_rfl, ?_⟩) (by assumption) ?_
      rotate_left
      · intro W hSw
        try dsimp only at hSw
        go_simp
        all_goals (with_reducible rfl)
      try simp only [Act.put, List.setIfInBounds_toArray, List.set_cons_zero, List.set_cons_succ]
      refine wpAnyH_take (i := 12) (oi := ⟨some 27, _, _, _, _, _⟩) (v := ?_) rfl (by kernel_rfl) (by kernel_rfl) (by kernel_rfl) (fun _ _ _ h => h) (Or.inl ⟨by kernel_rfl, ?_⟩) (by assumption) ?_
      rotate_left
      · intro W hSw
        try dsimp only at hSw
        go_simp
        all_goals (with_reducible rfl)
      try simp only [Act.put, List.setIfInBounds_toArray, List.set_cons_zero, List.set_cons_succ]
      refine wpAnyH_done (by kernel_rfl) ?_ _
      have HRG3 := Lib.hid (HRG2.out.step (Below.refl w2.heap.size w2).drew)
      by_cases hc : i.u < m.u
      · have t : decide ((i.u : Int) < (m.u : Int)) = true := decide_eq_true (by omega)
        have HC := Lib.hid hc
        clear hc
        go_wp2
        refine ⟨⟨some i, _, cnt2, rfl, HRG3.out, ⟨HI.out, fun j hj hf => ?_⟩, HB2.out.drew⟩, ?_⟩
        · have hC := HC.out
          cases h1 : lf j.key with
          | true =>
            simp only [h1, Bool.true_and, Bool.not_eq_false', decide_eq_true_eq] at hf
            rw [eq_of_key HKY.out hj HI.out hf]
            exact Nat.le_refl _
          | false =>
            have := HMN.out j hj h1
            omega
        · rw [HRG3.out.left_eq, HRG.out.left_eq]; exact HLT.out
      · have t : decide ((i.u : Int) < (m.u : Int)) = false := decide_eq_false (by omega)
        have HC := Lib.hid hc
        clear hc
        go_wp2
        refine ⟨⟨some m, _, cnt2, rfl, HRG3.out, ⟨HIM.out, fun j hj hf => ?_⟩, HB2.out.drew⟩, ?_⟩
        · have hC := HC.out
          cases h1 : lf j.key with
          | true =>
            simp only [h1, Bool.true_and, Bool.not_eq_false', decide_eq_true_eq] at hf
            rw [eq_of_key HKY.out hj HI.out hf]
            omega
          | false => exact HMN.out j hj h1
        · rw [HRG3.out.left_eq, HRG.out.left_eq]; exact HLT.out

end Go.Proofs.YtmbcbfalgdgmjaaGreatDoor

namespace Go.Proofs.YtmbcbfalgdgmjaaGreatDoor
open Go.RowKit

theorem wp_update {P : Program} {w w' : World} {o : Oper} {a : Act} {K : Act → World → Prop} {Q : Exit → Act → World → Prop} (t : TypeId) (m x v : Operand) (ho : o.op = .mapUpdate t m x v) (mv key val : Value) (hm : a.eval m = mv) (hx : a.eval x = key) (hv : a.eval v = val)
    (hr : (Instr.mapUpdate t mv key val).run P w = .ok () w') (h : K (a.put o.dst undef) w') : o.wp P a w K Q := by
  unfold Oper.wp
  simp [execOp, ho, hm, hx, hv, hr, Result.andThen]
  exact h
theorem wp_len {P : Program} {w : World} {o : Oper} {a : Act} {K : Act → World → Prop} {Q : Exit → Act → World → Prop} (m : Operand) (t : TypeId) (ho : o.op = .call { callee := .builtin .len, args := #[m], argTypes := #[t] }) (mv v : Value) (hm : a.eval m = mv)
    (hr : (Builtin.len_ #[t] o.type #[mv]).run P w = .ok v w) (h : K (a.put o.dst v) w) : o.wp P a w K Q := by
  unfold Oper.wp
  simp [execOp, ho, resolve, invoke, builtin, hm, hr, Result.andThen]
  exact h
theorem wp_delete {P : Program} {w w' : World} {o : Oper} {a : Act} {K : Act → World → Prop} {Q : Exit → Act → World → Prop} (m x : Operand) (t k : TypeId) (ho : o.op = .call { callee := .builtin .delete, args := #[m, x], argTypes := #[t, k] }) (mv key : Value) (hm : a.eval m = mv) (hx : a.eval x = key)
    (hr : (Builtin.delete_ #[t, k] o.type #[mv, key]).run P w = .ok (.tuple #[]) w') (h : K (a.put o.dst (.tuple #[])) w') : o.wp P a w K Q := by
  unfold Oper.wp
  simp [execOp, ho, resolve, invoke, builtin, hm, hx, hr, Result.andThen]
  exact h
/-- One is laid. -/
def layI (most : Nat) (its : List Im) (i : Im) : List Im := if most < (restI its i.key ++ [i]).length then (restI its i.key ++ [i]).tail else restI its i.key ++ [i]
theorem restI_head {i : Im} {r : List Im} (h : (i :: r).Pairwise fun i j => i.key ≠ j.key) : restI (i :: r) i.key = r := by
  obtain ⟨h1, _⟩ := List.pairwise_cons.1 h
  unfold restI
  rw [List.filter_cons, decide_eq_true rfl]
  simp only [Bool.not_true, Bool.false_eq_true, if_false]
  rw [List.filter_eq_self]
  intro j hj
  have := h1 j hj
  simpa using Ne.symm this
theorem sound_fewD {k : Int} {d : Dt} (h : soundD k d = true) : FewD d := by
  have h2 := (SoundR.small (r := ⟨[], k, 1, 0, d⟩) ⟨(by decide +kernel : soundN [] = true), h, (by decide +kernel : fitB 1 2 = true), (by decide : (0 : Int) ≤ 0), (by decide : (0 : Int) ≤ 2147483647)⟩).2
  have h3 : d.host.length ≤ 200 := h2.l1
  have h4 : d.mail.length ≤ 200 := h2.l2
  have h5 : d.texts.length ≤ 100 := h2.l3
  have h6 : d.nums.length ≤ 100 := h2.l4
  have h7 : d.bytes.length ≤ 200000 := h2.l5
  exact ⟨by omega, by omega, by omega, by omega, by omega⟩
/-- A row of strings lies in no cache. -/
theorem Row.off_cache {w : World} {H cb : Nat} {A : Option Addr} {n : List (List UInt8)} {a b c : Int} {mb : Option Nat} (h : Row w H A (n.map sv)) (hc : Whole w cb 57 [.int .i64 a, .int .i64 b, .int .i64 c, .map mb]) : n.map sv ≠ [] → ∃ g off, A = some ⟨g, off, none⟩ ∧ g < H ∧ g ≠ cb ∧ ∀ j v, (n.map sv)[j]? = some v → w.cell? ⟨g, off + j, none⟩ = some v := by
  intro hne
  obtain ⟨g, off, e, hg, hr⟩ := h hne
  refine ⟨g, off, e, hg, fun e2 => ?_, hr⟩
  subst e2
  rcases n with _ | ⟨l, n⟩
  · exact hne rfl
  · have h1 := hr 0 (sv l) rfl
    rw [hc.cell] at h1
    have h2 : off + 0 = 0 ∨ off + 0 = 1 ∨ off + 0 = 2 ∨ off + 0 = 3 ∨ 4 ≤ off + 0 := by omega
    rcases h2 with e | e | e | e | e
    · rw [e] at h1; simp [sv] at h1
    · rw [e] at h1; simp [sv] at h1
    · rw [e] at h1; simp [sv] at h1
    · rw [e] at h1; simp [sv] at h1
    · rw [List.getElem?_eq_none (by simpa using e)] at h1
      cases h1
theorem Row.kept_use {w w' : World} {H cb g : Nat} {A : Option Addr} {n : List (List UInt8)} {a b c : Int} {mb : Option Nat} (h : Row w H A (n.map sv)) (hc : Whole w cb 57 [.int .i64 a, .int .i64 b, .int .i64 c, .map mb]) (hG : Grew (fun j => j = cb ∨ j = g) w w') (hg : H ≤ g) (hH : H ≤ w.heap.size) : Row w' H A (n.map sv) := by
  intro hne
  obtain ⟨j, off, e, hj, hjc, hr⟩ := h.off_cache hc hne
  refine ⟨j, off, e, hj, fun k v hv => (World.cell?_of_block (hG.block j (by omega) ?_)).trans (hr k v hv)⟩
  rintro (e | e)
  · exact hjc e
  · omega
/-- What is sound may be cloned. -/
theorem sound_fewF {x : FV} (h : soundF x.fact = true) : FewF x := by
  obtain ⟨hh, hk⟩ := soundF_parts h
  have a1 : soundN x.name = true := (headB_parts hh).1
  have n1 := sound_few a1
  rcases hk with ⟨_, hb⟩ | ⟨_, hb⟩
  · unfold hasB at hb
    simp only [Bool.and_eq_true, decide_eq_true_eq] at hb
    obtain ⟨_, _, b3, b4, b5, b6⟩ := hb
    have ez : x.zone = [] := List.eq_nil_of_length_eq_zero b4
    have b5' : emptyD x.soa = true := b5
    unfold emptyD at b5'
    simp only [Bool.and_eq_true, decide_eq_true_eq] at b5'
    have b3' : x.sp.length ≤ 64 := by have h := b3; rwa [show x.fact.set.length = x.sp.length from length_dats _] at h
    exact ⟨by omega, by rw [ez]; exact Nat.zero_le _, by omega, ⟨by omega, by omega, by omega, by omega, by omega⟩, fun p hp => sound_fewD (setOk_each b6 (List.mem_map.2 ⟨p, hp, rfl⟩))⟩
  · obtain ⟨_, _, p3, _, p5, _, p7⟩ := noB_parts hb
    have e0 : x.sp = [] := by
      have e : (dats x.sp).length = 0 := p3
      rw [length_dats] at e
      exact List.eq_nil_of_length_eq_zero e
    have n2 : x.zone.length ≤ 127 := sound_few p5
    exact ⟨by omega, by omega, by rw [e0]; exact Nat.zero_le _, sound_fewD p7, fun p hp => by rw [e0] at hp; exact absurd hp (List.not_mem_nil)⟩

/-- What lay leaves. -/
def Laid (w : World) (b cb mb most : Nat) (window : Int) (uses : Nat) (its : List Im) (f : Fc) (w' : World) : Prop :=
  ∃ i : Im, i.x.fact = f ∧ CMem w' b cb mb most window (uses + 1) (layI most its i) ∧ MovedC (Foot cb mb its) w w' (Foot cb mb (layI most its i))
set_option maxRecDepth 20000 in
set_option maxHeartbeats 8000000 in
theorem lay_any {w : World} {b cb mb most uses : Nat} {window : Int} {its : List Im} (h : CMem w b cb mb most window uses its) (hul : uses ≤ 1000000) (_ : most ≤ 4096) (hil : its.length ≤ 4096) (x : FV) (hx : FAt w w.heap.size x) (hs : soundF x.fact = true) :
    Calls Tryz.prog 30 #[.pointer (some ⟨cb, 0, none⟩), x.val] w (fun e w' => e = .returned (.tuple #[]) ∧ Laid w b cb mb most window uses its x.fact w') := by
  have HF := Lib.hid (FBox.made w x)
  have HM := Lib.hid (fun W (hb : Below w.heap.size w W) => h.step hb)
  have HCL := Lib.hid (fun W (hb : FBox w x W) => clone_any W x ((hx.below hb.below).mono hb.below.size) (sound_fewF hs))
  have hin := soundF_in hs
  have HKY := Lib.hid (fun W (hb : Below b w W) (hz : w.heap.size ≤ W.heap.size) (hr : Row W W.heap.size x.A (x.name.map sv)) => key_any W b (h.pows.next hb) (Nat.le_trans h.low hz) x hr (soundF_name hs) hin.h.t)
  have HKL := Lib.hid (show (keyF x.fact).length ≤ maxLen from key_len (soundF_name hs) hin.h.t)
  have HSND := Lib.hid hs
  have HLST := Lib.hid h.last
  have HXN := Lib.hid hx.n
  have HLOW := Lib.hid h.low
  have HFT := Lib.hid h.foot
  clear h hx hs hin
  go_enter Tryz.func30, Tryz.ntmps30
  go_wp2_with fail
  refine (HCL.out _ HF.out).mono ?_
  rintro e w1 ⟨x', rfl, hx', ho, hb1⟩
  have HF1 := Lib.hid (HF.out.step hb1)
  have HZ1 := Lib.hid (show w.heap.size < w1.heap.size from HF1.out.size)
  have HOB := Lib.hid (show ∀ v ∈ x'.vals, ∀ g, v.ownBlock = some g → w.heap.size ≤ g from fun v hv g e => by have h1 := (ho.vlt v hv g e).1; have h2 := HF.out.size; omega)
  have HOZ := Lib.hid (show b ≤ (w.alloc (.cells #[.slice x.A x.name.length x.c, .int .i64 x.h.typ, .int .i64 x.h.knd, .int .i64 x.h.rank, .int .i64 x.h.got, .int .i64 x.h.ttl, .slice x.sA x.sp.length x.sc, .slice x.zA x.zone.length x.zc, .slice x.d.Ab x.soa.bytes.length x.d.cb, .slice x.d.Ah x.soa.host.length x.d.ch, .slice x.d.Am x.soa.mail.length x.d.cm, .slice x.d.An x.soa.nums.length x.d.cn, .slice x.d.At x.soa.texts.length x.d.ct] 36)).heap.size from by have h1 := HLOW.out; have h2 := HF.out.size; omega)
  have HO1 := Lib.hid ho
  have HXE := Lib.hid hx'
  clear HF ho hb1 hx' HCL
  have HF2 := Lib.hid (HF1.out.step ((Below.refl w1.heap.size w1).alloc (Nat.le_refl _) (.cells #[.slice x'.A x'.name.length x'.c, .int .i64 x'.h.typ, .int .i64 x'.h.knd, .int .i64 x'.h.rank, .int .i64 x'.h.got, .int .i64 x'.h.ttl, .slice x'.sA x'.sp.length x'.sc, .slice x'.zA x'.zone.length x'.zc, .slice x'.d.Ab x'.soa.bytes.length x'.d.cb, .slice x'.d.Ah x'.soa.host.length x'.d.ch, .slice x'.d.Am x'.soa.mail.length x'.d.cm, .slice x'.d.An x'.soa.nums.length x'.d.cn, .slice x'.d.At x'.soa.texts.length x'.d.ct, .int .i64 0] 61)))
  have HI2 := Lib.hid (Whole.made w1 (cellsF x' ++ [.int .i64 0]) 61)
  have HO2 := Lib.hid (HO1.out.keepB (w' := w1.alloc (.cells #[.slice x'.A x'.name.length x'.c, .int .i64 x'.h.typ, .int .i64 x'.h.knd, .int .i64 x'.h.rank, .int .i64 x'.h.got, .int .i64 x'.h.ttl, .slice x'.sA x'.sp.length x'.sc, .slice x'.zA x'.zone.length x'.zc, .slice x'.d.Ab x'.soa.bytes.length x'.d.cb, .slice x'.d.Ah x'.soa.host.length x'.d.ch, .slice x'.d.Am x'.soa.mail.length x'.d.cm, .slice x'.d.An x'.soa.nums.length x'.d.cn, .slice x'.d.At x'.soa.texts.length x'.d.ct, .int .i64 0] 61)) fun g _ hg => Below.heap_alloc w1 _ g hg)
  have HSZ2 := Lib.hid (show w1.heap.size < (w1.alloc (.cells #[.slice x'.A x'.name.length x'.c, .int .i64 x'.h.typ, .int .i64 x'.h.knd, .int .i64 x'.h.rank, .int .i64 x'.h.got, .int .i64 x'.h.ttl, .slice x'.sA x'.sp.length x'.sc, .slice x'.zA x'.zone.length x'.zc, .slice x'.d.Ab x'.soa.bytes.length x'.d.cb, .slice x'.d.Ah x'.soa.host.length x'.d.ch, .slice x'.d.Am x'.soa.mail.length x'.d.cm, .slice x'.d.An x'.soa.nums.length x'.d.cn, .slice x'.d.At x'.soa.texts.length x'.d.ct, .int .i64 0] 61)).heap.size by simp)
  go_upto_region 2 with fail
  generalize hW2 : w1.alloc (.cells #[.slice x'.A x'.name.length x'.c, .int .i64 x'.h.typ, .int .i64 x'.h.knd, .int .i64 x'.h.rank, .int .i64 x'.h.got, .int .i64 x'.h.ttl, .slice x'.sA x'.sp.length x'.sc, .slice x'.zA x'.zone.length x'.zc, .slice x'.d.Ab x'.soa.bytes.length x'.d.cb, .slice x'.d.Ah x'.soa.host.length x'.d.ch, .slice x'.d.Am x'.soa.mail.length x'.d.cm, .slice x'.d.An x'.soa.nums.length x'.d.cn, .slice x'.d.At x'.soa.texts.length x'.d.ct, .int .i64 0] 61) = w2 at HF2 HO2 HSZ2 ⊢
  have HI3 := Lib.hid (show Whole w2 w1.heap.size 61 (cellsF x' ++ [.int .i64 0]) from by rw [← hW2]; exact HI2.out)
  clear hW2 HI2 HF1 HO1
  have HM2 := Lib.hid (HM.out _ HF2.out.below)
  have HUS := Lib.hid (use_any w2 cb w1.heap.size uses (.int .i64 most) (.int .i64 window) (.map (some mb)) (.int .i64 0) (cellsF x' ++ [.int .i64 0]) HM2.out.blk HI3.out rfl (by omega))
  go_wp2_with fail
  refine HUS.out.mono ?_
  rintro e w3 ⟨rfl, hu⟩
  have HM3 := Lib.hid (HM2.out.touch (g := w1.heap.size) (by have := HLOW.out; have := HZ1.out; omega) (fun i hi => by have h1 := (HFT.out i.g (.inr (.inr ⟨i, hi, .inl rfl⟩))).2; have h2 := HZ1.out; omega) HI3.out hu)
  have HI4 := Lib.hid (show Whole w3 w1.heap.size 61 (cellsI ⟨w1.heap.size, x', uses + 1⟩) from hu.2.1)
  have HO3 := Lib.hid (show FOwn w3 b x' from (HO2.out.monoB HOZ.out).keptC (KeptC.of_two HM2.out.blk HI3.out hu.2.2.1))
  have HG3 := Lib.hid (show Grew (Foot cb mb its) w w3 from (Grew.all HF2.out.below).trans hu.2.2.1 (fun j hj => by
    rcases hj with rfl | rfl
    · exact .inl (.inl rfl)
    · exact .inr (Nat.le_of_lt HZ1.out)))
  have HBX3 := Lib.hid (show Whole w3 w.heap.size 36 (cellsF x) from (hu.2.2.1.block w.heap.size HF2.out.f.lt (by
    rintro (e | e)
    · have h1 := (HFT.out cb (.inl rfl)).2; omega
    · have h1 := HZ1.out; omega)).trans HF2.out.f)
  have HR3 := Lib.hid (show Row w3 w.heap.size x.A (x.name.map sv) from (HXN.out.below HF2.out.below).kept_use HM2.out.blk hu.2.2.1 (Nat.le_of_lt HZ1.out) (by have := HF2.out.size; omega))
  have HB3 := Lib.hid (show Below b w w3 from HG3.out.below (fun j hj => (HFT.out j hj).1) HLOW.out)
  clear hu HM2 HI3 HO2 HF2 HUS
  have HSX := Lib.hid (show ∀ W, CMem W b cb mb most window (uses + 1) its → Whole W w.heap.size 36 (cellsF x) → (W.cell? ⟨cb, 3, none⟩ = some (.map (some mb)) ∧ W.cell? ⟨w.heap.size, 0, none⟩ = some (.slice x.A x.name.length x.c) ∧ W.cell? ⟨w.heap.size, 1, none⟩ = some (.int .i64 x.h.typ) ∧ W.cell? ⟨w.heap.size, 2, none⟩ = some (.int .i64 x.h.knd) ∧ W.cell? ⟨w.heap.size, 3, none⟩ = some (.int .i64 x.h.rank) ∧ W.cell? ⟨w.heap.size, 4, none⟩ = some (.int .i64 x.h.got) ∧ W.cell? ⟨w.heap.size, 5, none⟩ = some (.int .i64 x.h.ttl) ∧ W.cell? ⟨w.heap.size, 6, none⟩ = some (.slice x.sA x.sp.length x.sc) ∧ W.cell? ⟨w.heap.size, 7, none⟩ = some (.slice x.zA x.zone.length x.zc) ∧ W.cell? ⟨w.heap.size, 8, none⟩ = some (.slice x.d.Ab x.soa.bytes.length x.d.cb) ∧ W.cell? ⟨w.heap.size, 9, none⟩ = some (.slice x.d.Ah x.soa.host.length x.d.ch) ∧ W.cell? ⟨w.heap.size, 10, none⟩ = some (.slice x.d.Am x.soa.mail.length x.d.cm) ∧ W.cell? ⟨w.heap.size, 11, none⟩ = some (.slice x.d.An x.soa.nums.length x.d.cn) ∧ W.cell? ⟨w.heap.size, 12, none⟩ = some (.slice x.d.At x.soa.texts.length x.d.ct)) from fun W h1 h2 => ⟨h1.blk.cell 3, h2.cell 0, h2.cell 1, h2.cell 2, h2.cell 3, h2.cell 4, h2.cell 5, h2.cell 6, h2.cell 7, h2.cell 8, h2.cell 9, h2.cell 10, h2.cell 11, h2.cell 12⟩)
  go_upto_region 3 with fail
  refine wp_region_held_drew (S := fun W => (W.cell? ⟨cb, 3, none⟩ = some (.map (some mb)) ∧ W.cell? ⟨w.heap.size, 0, none⟩ = some (.slice x.A x.name.length x.c) ∧ W.cell? ⟨w.heap.size, 1, none⟩ = some (.int .i64 x.h.typ) ∧ W.cell? ⟨w.heap.size, 2, none⟩ = some (.int .i64 x.h.knd) ∧ W.cell? ⟨w.heap.size, 3, none⟩ = some (.int .i64 x.h.rank) ∧ W.cell? ⟨w.heap.size, 4, none⟩ = some (.int .i64 x.h.got) ∧ W.cell? ⟨w.heap.size, 5, none⟩ = some (.int .i64 x.h.ttl) ∧ W.cell? ⟨w.heap.size, 6, none⟩ = some (.slice x.sA x.sp.length x.sc) ∧ W.cell? ⟨w.heap.size, 7, none⟩ = some (.slice x.zA x.zone.length x.zc) ∧ W.cell? ⟨w.heap.size, 8, none⟩ = some (.slice x.d.Ab x.soa.bytes.length x.d.cb) ∧ W.cell? ⟨w.heap.size, 9, none⟩ = some (.slice x.d.Ah x.soa.host.length x.d.ch) ∧ W.cell? ⟨w.heap.size, 10, none⟩ = some (.slice x.d.Am x.soa.mail.length x.d.cm) ∧ W.cell? ⟨w.heap.size, 11, none⟩ = some (.slice x.d.An x.soa.nums.length x.d.cn) ∧ W.cell? ⟨w.heap.size, 12, none⟩ = some (.slice x.d.At x.soa.texts.length x.d.ct))) (by kernel_rfl) (by exact HSX.out _ (HM3.out.step (Below.refl _ _).drew) (HBX3.out.below (Below.refl w3.heap.size w3).drew HBX3.out.lt)) (fun hHeld => ?_)
  refine wpAnyH_take (i := 0) (oi := ⟨some 12, _, _, _, _, _⟩) (v := ?_) rfl (by kernel_rfl) (by kernel_rfl) (by kernel_rfl) (fun _ _ _ h => h) (Or.inl ⟨by kernel_rfl, ?_⟩) (by assumption) ?_
  rotate_left
  · intro W hSw
    try dsimp only at hSw
    go_simp
    all_goals (with_reducible rfl)
  try simp only [Act.put, List.setIfInBounds_toArray, List.set_cons_zero, List.set_cons_succ]
  refine wpAnyH_take (i := 1) (oi := ⟨some 13, _, _, _, _, _⟩) (v := ?_) rfl (by kernel_rfl) (by kernel_rfl) (by kernel_rfl) (fun _ _ _ h => h) (Or.inl ⟨by kernel_rfl, ?_⟩) (by assumption) ?_
  rotate_left
  · intro W hSw
    try dsimp only at hSw
    go_simp
    all_goals (with_reducible rfl)
  try simp only [Act.put, List.setIfInBounds_toArray, List.set_cons_zero, List.set_cons_succ]
  refine wpAnyH_take (i := 2) (oi := ⟨some 14, _, _, _, _, _⟩) (v := ?_) rfl (by kernel_rfl) (by kernel_rfl) (by kernel_rfl) (fun _ _ _ h => h) (Or.inl ⟨by kernel_rfl, ?_⟩) (by assumption) ?_
  rotate_left
  · intro W hSw
    try dsimp only at hSw
    go_simp
    all_goals (with_reducible rfl)
  try simp only [Act.put, List.setIfInBounds_toArray, List.set_cons_zero, List.set_cons_succ]
  refine wpAnyH_take (i := 3) (oi := ⟨some 15, _, _, _, _, _⟩) (v := ?_) rfl (by kernel_rfl) (by kernel_rfl) (by kernel_rfl) (fun _ _ _ h => h) (Or.inl ⟨by kernel_rfl, ?_⟩) (by assumption) ?_
  rotate_left
  · intro W hSw
    try dsimp only at hSw
    go_simp
    all_goals (with_reducible rfl)
  try simp only [Act.put, List.setIfInBounds_toArray, List.set_cons_zero, List.set_cons_succ]
  refine wpAnyH_take (i := 4) (oi := ⟨some 16, _, _, _, _, _⟩) (v := ?_) rfl (by kernel_rfl) (by kernel_rfl) (by kernel_rfl) (fun _ _ _ h => h) (Or.inl ⟨by kernel_rfl, ?_⟩) (by assumption) ?_
  rotate_left
  · intro W hSw
    try dsimp only at hSw
    go_simp
    all_goals (with_reducible rfl)
  try simp only [Act.put, List.setIfInBounds_toArray, List.set_cons_zero, List.set_cons_succ]
  refine wpAnyH_take (i := 6) (oi := ⟨some 18, _, _, _, _, _⟩) (v := ?_) rfl (by kernel_rfl) (by kernel_rfl) (by kernel_rfl) (fun _ _ _ h => h) (Or.inl ⟨by kernel_rfl, ?_⟩) (by assumption) ?_
  rotate_left
  · intro W hSw
    try dsimp only at hSw
    go_simp
    all_goals (with_reducible rfl)
  try simp only [Act.put, List.setIfInBounds_toArray, List.set_cons_zero, List.set_cons_succ]
  refine wpAnyH_ready (rs := [5]) (by kernel_rfl) (by simp) ?_
  refine AllReadyH.cons (o := ⟨some 17, _, _, _, _, _⟩) rfl (fun K hK => ?_) AllReadyH.nil
  go_simp
  refine (HKY.out _ (HB3.out.drew) (by have := HG3.out.size; exact this) (((HR3.out.below (Below.refl _ _).drew)).mono HG3.out.size)).mono ?_
  rintro e w4 ⟨rfl, hb4⟩
  have HB4 := Lib.hid (show Below w3.heap.size w3 w4 from (Below.refl _ _).drew.trans hb4)
  have HM4 := Lib.hid (HM3.out.step HB4.out)
  have HBX4 := Lib.hid (HBX3.out.below HB4.out HBX3.out.lt)
  have HI5 := Lib.hid (HI4.out.below HB4.out HI4.out.lt)
  have HO4 := Lib.hid (HO3.out.keepB fun g _ hg => HB4.out.block g hg)
  have HG4 := Lib.hid (HG3.out.then_below HB4.out)
  clear hb4
  refine hK.out _ _ (by exact HSX.out _ HM4.out HBX4.out) (fun hHeld2 => ?_)
  clear hK K hHeld
  have hHeld := hHeld2
  clear hHeld2
  try simp only [Act.put, List.setIfInBounds_toArray, List.set_cons_zero, List.set_cons_succ]
  refine wpAnyH_ready (rs := [7]) (by kernel_rfl) (by simp) ?_
  refine AllReadyH.cons (o := ⟨none, _, _, _, _, _⟩) rfl (fun K hK => ?_) AllReadyH.nil
  obtain ⟨D, hD, hh⟩ := HM4.out.map
  obtain ⟨w5, hrun, hD5, hgr5⟩ := hD.update ptr_keyed Tryz.underlying55 (by unfold maxLen; omega) (ptr_key HKL.out) (d := .lit (.int .i64 w1.heap.size)) (ps := []) (val := .pointer (some ⟨w1.heap.size, 0, none⟩)) rfl
  have HKE := Lib.hid (show Im.key ⟨w1.heap.size, x', uses + 1⟩ = keyF x.fact from congrArg keyF HXE.out)
  have HM5 := Lib.hid (HM4.out.putI (fun j hj => Nat.lt_succ_of_le ?hlast) (i := ⟨w1.heap.size, x', uses + 1⟩) rfl (by have := HLOW.out; have := HZ1.out; show b ≤ w1.heap.size; omega) HI5.out HO4.out (by show soundF x'.fact = true; rw [HXE.out]; exact HSND.out) hD hh (by rw [HKE.out]; exact hD5) hgr5)
  case hlast => exact HLST.out j hj
  have HG5 := Lib.hid (show Grew (Foot cb mb its) w w5 from HG4.out.grown hgr5 fun j e => .inl (.inr (.inl (by injection e with e; exact e.symm))))
  have HBX5 := Lib.hid (show Whole w5 w.heap.size 36 (cellsF x) from (hgr5.block _ HBX4.out.lt (fun e => by injection e with e; have h1 := (HFT.out mb (.inr (.inl rfl))).2; omega)).trans HBX4.out)
  refine wp_update 55 (.tmp 15) (.tmp 17) (.tmp 18) rfl _ _ _ rfl rfl rfl hrun ?_
  clear hD hh hrun hD5 hgr5
  refine hK.out _ _ (by exact ⟨HM5.out.blk.cell 3, HBX5.out.cell 0, HBX5.out.cell 1, HBX5.out.cell 2, HBX5.out.cell 3, HBX5.out.cell 4, HBX5.out.cell 5, HBX5.out.cell 6, HBX5.out.cell 7, HBX5.out.cell 8, HBX5.out.cell 9, HBX5.out.cell 10, HBX5.out.cell 11, HBX5.out.cell 12⟩) (fun hHeld2 => ?_)
  clear hK K hHeld
  have hHeld := hHeld2
  clear hHeld2
  try simp only [Act.put]
  refine wpAnyH_done (by kernel_rfl) ?_ _
  have HP := Lib.hid (show ∀ i ∈ restI its (Im.key ⟨w1.heap.size, x', uses + 1⟩) ++ [(⟨w1.heap.size, x', uses + 1⟩ : Im)], i ∈ its ∨ i = ⟨w1.heap.size, x', uses + 1⟩ from fun i hi => by
    rcases List.mem_append.1 hi with hi | hi
    · exact .inl (restI_mem hi).1
    · exact .inr (List.mem_singleton.1 hi))
  have HFF := Lib.hid (show ∀ l : List Im, (∀ i ∈ l, i ∈ its ∨ i = ⟨w1.heap.size, x', uses + 1⟩) → ∀ j, Foot cb mb l j → Foot cb mb its j ∨ w.heap.size ≤ j from fun l hl j hj => by
    rcases hj with rfl | rfl | ⟨i, hi, hj⟩
    · exact .inl (.inl rfl)
    · exact .inl (.inr (.inl rfl))
    · rcases hl i hi with h1 | rfl
      · exact .inl (.inr (.inr ⟨i, h1, hj⟩))
      · rcases hj with rfl | ⟨v, hv, e⟩
        · exact .inr (Nat.le_of_lt HZ1.out)
        · exact .inr (HOB.out v hv j e))
  have HLI := Lib.hid (show layI most its ⟨w1.heap.size, x', uses + 1⟩ = if most < (restI its (Im.key ⟨w1.heap.size, x', uses + 1⟩) ++ [(⟨w1.heap.size, x', uses + 1⟩ : Im)]).length then (restI its (Im.key ⟨w1.heap.size, x', uses + 1⟩) ++ [(⟨w1.heap.size, x', uses + 1⟩ : Im)]).tail else restI its (Im.key ⟨w1.heap.size, x', uses + 1⟩) ++ [(⟨w1.heap.size, x', uses + 1⟩ : Im)] from rfl)
  have hl1 : (restI its (Im.key ⟨w1.heap.size, x', uses + 1⟩) ++ [(⟨w1.heap.size, x', uses + 1⟩ : Im)]).length ≤ 5000 := by
    rw [List.length_append, List.length_singleton]
    have : (restI its (Im.key ⟨w1.heap.size, x', uses + 1⟩)).length ≤ its.length := List.length_filter_le _ _
    omega
  revert HM5 HP HLI hl1
  generalize restI its (Im.key ⟨w1.heap.size, x', uses + 1⟩) ++ [(⟨w1.heap.size, x', uses + 1⟩ : Im)] = its1
  intro HM5 HP HLI hl1
  clear HM4 HM3 HI4 HI5 HO3 HO4 HBX3 HBX4 HBX5 HR3 HG3 HG4 HB3 HB4
  go_upto_region 4 with fail
  have HM6 := Lib.hid (HM5.out.step (Below.refl w5.heap.size w5).drew)
  refine wp_region_held_drew (S := fun W => (W.cell? ⟨cb, 3, none⟩ = some (.map (some mb)) ∧ W.cell? ⟨cb, 0, none⟩ = some (.int .i64 most))) (by kernel_rfl) (by exact ⟨HM6.out.blk.cell 3, HM6.out.blk.cell 0⟩) (fun hHeld => ?_)
  refine wpAnyH_take (i := 0) (oi := ⟨some 19, _, _, _, _, _⟩) (v := ?_) rfl (by kernel_rfl) (by kernel_rfl) (by kernel_rfl) (fun _ _ _ h => h) (Or.inl ⟨by kernel_rfl, ?_⟩) (by assumption) ?_
  rotate_left
  · intro W hSw
    try dsimp only at hSw
    go_simp
    all_goals (with_reducible rfl)
  try simp only [Act.put, List.setIfInBounds_toArray, List.set_cons_zero, List.set_cons_succ]
  refine wpAnyH_take (i := 1) (oi := ⟨some 20, _, _, _, _, _⟩) (v := ?_) rfl (by kernel_rfl) (by kernel_rfl) (by kernel_rfl) (fun _ _ _ h => h) (Or.inl ⟨by kernel_rfl, ?_⟩) (by assumption) ?_
  rotate_left
  · intro W hSw
    try dsimp only at hSw
    go_simp
    all_goals (with_reducible rfl)
  try simp only [Act.put, List.setIfInBounds_toArray, List.set_cons_zero, List.set_cons_succ]
  refine wpAnyH_take (i := 2) (oi := ⟨some 21, _, _, _, _, _⟩) (v := ?_) rfl (by kernel_rfl) (by kernel_rfl) (by kernel_rfl) (fun _ _ _ h => h) (Or.inl ⟨by kernel_rfl, ?_⟩) (by assumption) ?_
  rotate_left
  · intro W hSw
    try dsimp only at hSw
    go_simp
    all_goals (with_reducible rfl)
  try simp only [Act.put, List.setIfInBounds_toArray, List.set_cons_zero, List.set_cons_succ]
  refine wpAnyH_take (i := 3) (oi := ⟨some 22, _, _, _, _, _⟩) (v := ?_) rfl (by kernel_rfl) (by kernel_rfl) (by kernel_rfl) (fun _ _ _ h => h) (Or.inl ⟨by kernel_rfl, ?_⟩) (by assumption) ?_
  rotate_left
  · intro W hSw
    try dsimp only at hSw
    go_simp
    all_goals (with_reducible rfl)
  try simp only [Act.put, List.setIfInBounds_toArray, List.set_cons_zero, List.set_cons_succ]
  refine wpAnyH_take (i := 5) (oi := ⟨some 24, _, _, _, _, _⟩) (v := ?_) rfl (by kernel_rfl) (by kernel_rfl) (by kernel_rfl) (fun _ _ _ h => h) (Or.inl ⟨by kernel_rfl, ?_⟩) (by assumption) ?_
  rotate_left
  · intro W hSw
    try dsimp only at hSw
    go_simp
    all_goals (with_reducible rfl)
  try simp only [Act.put, List.setIfInBounds_toArray, List.set_cons_zero, List.set_cons_succ]
  refine wpAnyH_take (i := 6) (oi := ⟨some 25, _, _, _, _, _⟩) (v := ?_) rfl (by kernel_rfl) (by kernel_rfl) (by kernel_rfl) (fun _ _ _ h => h) (Or.inl ⟨by kernel_rfl, ?_⟩) (by assumption) ?_
  rotate_left
  · intro W hSw
    try dsimp only at hSw
    go_simp
    all_goals (with_reducible rfl)
  try simp only [Act.put, List.setIfInBounds_toArray, List.set_cons_zero, List.set_cons_succ]
  refine wpAnyH_take (i := 7) (oi := ⟨some 26, _, _, _, _, _⟩) (v := ?_) rfl (by kernel_rfl) (by kernel_rfl) (by kernel_rfl) (fun _ _ _ h => h) (Or.inl ⟨by kernel_rfl, ?_⟩) (by assumption) ?_
  rotate_left
  · intro W hSw
    try dsimp only at hSw
    go_simp
    all_goals (with_reducible rfl)
  try simp only [Act.put, List.setIfInBounds_toArray, List.set_cons_zero, List.set_cons_succ]
  refine wpAnyH_take (i := 8) (oi := ⟨some 27, _, _, _, _, _⟩) (v := ?_) rfl (by kernel_rfl) (by kernel_rfl) (by kernel_rfl) (fun _ _ _ h => h) (Or.inl ⟨by kernel_rfl, ?_⟩) (by assumption) ?_
  rotate_left
  · intro W hSw
    try dsimp only at hSw
    go_simp
    all_goals (with_reducible rfl)
  try simp only [Act.put, List.setIfInBounds_toArray, List.set_cons_zero, List.set_cons_succ]
  refine wpAnyH_ready (rs := [4]) (by kernel_rfl) (by simp) ?_
  refine AllReadyH.cons (o := ⟨some 23, _, _, _, _, _⟩) rfl (fun K hK => ?_) AllReadyH.nil
  obtain ⟨D, hD, hh⟩ := HM6.out.map
  have hrun := hD.len Tryz.underlying55 3
  rw [hh.size] at hrun
  refine wp_len (.tmp 22) 55 rfl _ _ rfl hrun ?_
  clear hD hh hrun
  refine hK.out _ _ (by exact hHeld) (fun hHeld2 => ?_)
  clear hK K hHeld
  have hHeld := hHeld2
  clear hHeld2
  try simp only [Act.put, List.setIfInBounds_toArray, List.set_cons_zero, List.set_cons_succ]
  refine wpAnyH_take (i := 9) (oi := ⟨some 28, _, _, _, _, _⟩) (v := ?_) rfl (by kernel_rfl) (by kernel_rfl) (by kernel_rfl) (fun _ _ _ h => h) (Or.inl ⟨by kernel_rfl, ?_⟩) (by assumption) ?_
  rotate_left
  · intro W hSw
    try dsimp only at hSw
    go_simp
    all_goals (with_reducible rfl)
  try simp only [Act.put, List.setIfInBounds_toArray, List.set_cons_zero, List.set_cons_succ]
  refine wpAnyH_done (by kernel_rfl) ?_ _
  by_cases hgt : most < its1.length
  case neg =>
    have t : decide ((most : Int) < (its1.length : Int)) = false := decide_eq_false (by omega)
    have t2 : decide (most < its1.length) = false := decide_eq_false hgt
    rw [if_neg hgt] at HLI
    rw [t2]
    go_wp2
    go_end0
    exact ⟨rfl, ⟨w1.heap.size, x', uses + 1⟩, HXE.out, by rw [HLI.out]; exact HM6.out, by rw [HLI.out]; exact ⟨HG5.out.drewN 1, HFF.out _ HP.out⟩⟩
  have t : decide ((most : Int) < (its1.length : Int)) = true := decide_eq_true (by omega)
  have t2 : decide (most < its1.length) = true := decide_eq_true hgt
  rw [if_pos hgt] at HLI
  obtain ⟨i0, r, h01⟩ : ∃ i0 r, its1 = i0 :: r := by
    cases its1 with
    | nil => exact absurd hgt (Nat.not_lt_zero _)
    | cons i0 r => exact ⟨i0, r, rfl⟩
  have HFI := Lib.hid (fun W (hb : Below w5.heap.size w5 W) => first_any (HM5.out.step hb) (by omega))
  have H01 := Lib.hid h01
  have HM0 := Lib.hid (show i0 ∈ its1 by rw [h01]; exact List.mem_cons_self)
  clear h01
  have hs0 := HM5.out.snd i0 HM0.out
  have hin0 := soundF_in hs0
  have HK0 := Lib.hid (fun W (hb : Below w5.heap.size w5 W) => key_any W b (HM5.out.step hb).pows (HM5.out.step hb).low i0.x (((HM5.out.step hb).own i0 HM0.out).at_.n) (soundF_name hs0) hin0.h.t)
  have HK0L := Lib.hid (show i0.key.length ≤ maxLen from key_len (soundF_name hs0) hin0.h.t)
  clear hs0 hin0 HM6
  rw [t2]
  go_upto_region 5 with fail
  have HSY := Lib.hid (show ∀ W, CMem W b cb mb most window (uses + 1) its1 → (W.cell? ⟨cb, 3, none⟩ = some (.map (some mb)) ∧ W.cell? ⟨i0.g, 0, none⟩ = some (.slice i0.x.A i0.x.name.length i0.x.c) ∧ W.cell? ⟨i0.g, 1, none⟩ = some (.int .i64 i0.x.h.typ) ∧ W.cell? ⟨i0.g, 2, none⟩ = some (.int .i64 i0.x.h.knd) ∧ W.cell? ⟨i0.g, 3, none⟩ = some (.int .i64 i0.x.h.rank) ∧ W.cell? ⟨i0.g, 4, none⟩ = some (.int .i64 i0.x.h.got) ∧ W.cell? ⟨i0.g, 5, none⟩ = some (.int .i64 i0.x.h.ttl) ∧ W.cell? ⟨i0.g, 6, none⟩ = some (.slice i0.x.sA i0.x.sp.length i0.x.sc) ∧ W.cell? ⟨i0.g, 7, none⟩ = some (.slice i0.x.zA i0.x.zone.length i0.x.zc) ∧ W.cell? ⟨i0.g, 8, none⟩ = some (.slice i0.x.d.Ab i0.x.soa.bytes.length i0.x.d.cb) ∧ W.cell? ⟨i0.g, 9, none⟩ = some (.slice i0.x.d.Ah i0.x.soa.host.length i0.x.d.ch) ∧ W.cell? ⟨i0.g, 10, none⟩ = some (.slice i0.x.d.Am i0.x.soa.mail.length i0.x.d.cm) ∧ W.cell? ⟨i0.g, 11, none⟩ = some (.slice i0.x.d.An i0.x.soa.nums.length i0.x.d.cn) ∧ W.cell? ⟨i0.g, 12, none⟩ = some (.slice i0.x.d.At i0.x.soa.texts.length i0.x.d.ct)) from fun W h1 => ⟨h1.blk.cell 3, (h1.item i0 HM0.out).cell 0, (h1.item i0 HM0.out).cell 1, (h1.item i0 HM0.out).cell 2, (h1.item i0 HM0.out).cell 3, (h1.item i0 HM0.out).cell 4, (h1.item i0 HM0.out).cell 5, (h1.item i0 HM0.out).cell 6, (h1.item i0 HM0.out).cell 7, (h1.item i0 HM0.out).cell 8, (h1.item i0 HM0.out).cell 9, (h1.item i0 HM0.out).cell 10, (h1.item i0 HM0.out).cell 11, (h1.item i0 HM0.out).cell 12⟩)
  refine wp_region_held_drew (S := fun W => (W.cell? ⟨cb, 3, none⟩ = some (.map (some mb)) ∧ W.cell? ⟨i0.g, 0, none⟩ = some (.slice i0.x.A i0.x.name.length i0.x.c) ∧ W.cell? ⟨i0.g, 1, none⟩ = some (.int .i64 i0.x.h.typ) ∧ W.cell? ⟨i0.g, 2, none⟩ = some (.int .i64 i0.x.h.knd) ∧ W.cell? ⟨i0.g, 3, none⟩ = some (.int .i64 i0.x.h.rank) ∧ W.cell? ⟨i0.g, 4, none⟩ = some (.int .i64 i0.x.h.got) ∧ W.cell? ⟨i0.g, 5, none⟩ = some (.int .i64 i0.x.h.ttl) ∧ W.cell? ⟨i0.g, 6, none⟩ = some (.slice i0.x.sA i0.x.sp.length i0.x.sc) ∧ W.cell? ⟨i0.g, 7, none⟩ = some (.slice i0.x.zA i0.x.zone.length i0.x.zc) ∧ W.cell? ⟨i0.g, 8, none⟩ = some (.slice i0.x.d.Ab i0.x.soa.bytes.length i0.x.d.cb) ∧ W.cell? ⟨i0.g, 9, none⟩ = some (.slice i0.x.d.Ah i0.x.soa.host.length i0.x.d.ch) ∧ W.cell? ⟨i0.g, 10, none⟩ = some (.slice i0.x.d.Am i0.x.soa.mail.length i0.x.d.cm) ∧ W.cell? ⟨i0.g, 11, none⟩ = some (.slice i0.x.d.An i0.x.soa.nums.length i0.x.d.cn) ∧ W.cell? ⟨i0.g, 12, none⟩ = some (.slice i0.x.d.At i0.x.soa.texts.length i0.x.d.ct))) (by kernel_rfl) (by exact HSY.out _ (HM5.out.step (Below.refl w5.heap.size w5).drew.drew)) (fun hHeld => ?_)
  refine wpAnyH_take (i := 0) (oi := ⟨some 29, _, _, _, _, _⟩) (v := ?_) rfl (by kernel_rfl) (by kernel_rfl) (by kernel_rfl) (fun _ _ _ h => h) (Or.inl ⟨by kernel_rfl, ?_⟩) (by assumption) ?_
  rotate_left
  · intro W hSw
    try dsimp only at hSw
    go_simp
    all_goals (with_reducible rfl)
  try simp only [Act.put, List.setIfInBounds_toArray, List.set_cons_zero, List.set_cons_succ]
  refine wpAnyH_take (i := 1) (oi := ⟨some 30, _, _, _, _, _⟩) (v := ?_) rfl (by kernel_rfl) (by kernel_rfl) (by kernel_rfl) (fun _ _ _ h => h) (Or.inl ⟨by kernel_rfl, ?_⟩) (by assumption) ?_
  rotate_left
  · intro W hSw
    try dsimp only at hSw
    go_simp
    all_goals (with_reducible rfl)
  try simp only [Act.put, List.setIfInBounds_toArray, List.set_cons_zero, List.set_cons_succ]
  refine wpAnyH_take (i := 2) (oi := ⟨some 31, _, _, _, _, _⟩) (v := ?_) rfl (by kernel_rfl) (by kernel_rfl) (by kernel_rfl) (fun _ _ _ h => h) (Or.inl ⟨by kernel_rfl, ?_⟩) (by assumption) ?_
  rotate_left
  · intro W hSw
    try dsimp only at hSw
    go_simp
    all_goals (with_reducible rfl)
  try simp only [Act.put, List.setIfInBounds_toArray, List.set_cons_zero, List.set_cons_succ]
  refine wpAnyH_take (i := 3) (oi := ⟨some 32, _, _, _, _, _⟩) (v := ?_) rfl (by kernel_rfl) (by kernel_rfl) (by kernel_rfl) (fun _ _ _ h => h) (Or.inl ⟨by kernel_rfl, ?_⟩) (by assumption) ?_
  rotate_left
  · intro W hSw
    try dsimp only at hSw
    go_simp
    all_goals (with_reducible rfl)
  try simp only [Act.put, List.setIfInBounds_toArray, List.set_cons_zero, List.set_cons_succ]
  refine wpAnyH_take (i := 4) (oi := ⟨some 33, _, _, _, _, _⟩) (v := ?_) rfl (by kernel_rfl) (by kernel_rfl) (by kernel_rfl) (fun _ _ _ h => h) (Or.inl ⟨by kernel_rfl, ?_⟩) (by assumption) ?_
  rotate_left
  · intro W hSw
    try dsimp only at hSw
    go_simp
    all_goals (with_reducible rfl)
  try simp only [Act.put, List.setIfInBounds_toArray, List.set_cons_zero, List.set_cons_succ]
  refine wpAnyH_ready (rs := [5]) (by kernel_rfl) (by simp) ?_
  refine AllReadyH.cons (o := ⟨some 34, _, _, _, _, _⟩) rfl (fun K hK => ?_) AllReadyH.nil
  go_simp
  refine (HFI.out _ (Below.refl w5.heap.size w5).drew.drew).mono ?_
  rintro e w7 ⟨rfl, hb7⟩
  have HB7 := Lib.hid (show Below w5.heap.size w5 w7 from (Below.refl _ _).drew.drew.trans hb7)
  have e7 : itv its1.head? = Value.pointer (some ⟨i0.g, 0, none⟩) := by rw [H01.out]; rfl
  rw [e7]
  clear hb7 e7
  refine hK.out _ _ (by exact HSY.out _ (HM5.out.step HB7.out)) (fun hHeld2 => ?_)
  clear hK K hHeld
  have hHeld := hHeld2
  clear hHeld2
  try simp only [Act.put, List.setIfInBounds_toArray, List.set_cons_zero, List.set_cons_succ]
  refine wpAnyH_take (i := 6) (oi := ⟨some 35, _, _, _, _, _⟩) (v := ?_) rfl (by kernel_rfl) (by kernel_rfl) (by kernel_rfl) (fun _ _ _ h => h) (Or.inl ⟨by kernel_rfl, ?_⟩) (by assumption) ?_
  rotate_left
  · intro W hSw
    try dsimp only at hSw
    go_simp
    all_goals (with_reducible rfl)
  try simp only [Act.put, List.setIfInBounds_toArray, List.set_cons_zero, List.set_cons_succ]
  refine wpAnyH_take (i := 7) (oi := ⟨some 36, _, _, _, _, _⟩) (v := ?_) rfl (by kernel_rfl) (by kernel_rfl) (by kernel_rfl) (fun _ _ _ h => h) (Or.inl ⟨by kernel_rfl, ?_⟩) (by assumption) ?_
  rotate_left
  · intro W hSw
    try dsimp only at hSw
    go_simp
    all_goals (with_reducible rfl)
  try simp only [Act.put, List.setIfInBounds_toArray, List.set_cons_zero, List.set_cons_succ]
  refine wpAnyH_take (i := 8) (oi := ⟨some 37, _, _, _, _, _⟩) (v := ?_) rfl (by kernel_rfl) (by kernel_rfl) (by kernel_rfl) (fun _ _ _ h => h) (Or.inl ⟨by kernel_rfl, ?_⟩) (by assumption) ?_
  rotate_left
  · intro W hSw
    try dsimp only at hSw
    go_simp
    all_goals (with_reducible rfl)
  try simp only [Act.put, List.setIfInBounds_toArray, List.set_cons_zero, List.set_cons_succ]
  refine wpAnyH_ready (rs := [9]) (by kernel_rfl) (by simp) ?_
  refine AllReadyH.cons (o := ⟨some 38, _, _, _, _, _⟩) rfl (fun K hK => ?_) AllReadyH.nil
  go_simp
  refine (HK0.out _ HB7.out).mono ?_
  rintro e w8 ⟨rfl, hb8⟩
  have HB8 := Lib.hid (show Below w5.heap.size w5 w8 from HB7.out.trans (hb8.mono HB7.out.size))
  have HM8 := Lib.hid (HM5.out.step HB8.out)
  clear hb8
  refine hK.out _ _ (by exact HSY.out _ HM8.out) (fun hHeld2 => ?_)
  clear hK K hHeld
  have hHeld := hHeld2
  clear hHeld2
  try simp only [Act.put, List.setIfInBounds_toArray, List.set_cons_zero, List.set_cons_succ]
  refine wpAnyH_ready (rs := [10]) (by kernel_rfl) (by simp) ?_
  refine AllReadyH.cons (o := ⟨none, _, _, _, _, _⟩) rfl (fun K hK => ?_) AllReadyH.nil
  obtain ⟨D, hD, hh⟩ := HM8.out.map
  obtain ⟨w9, hrun, hD9, htu⟩ := hD.drop ptr_keyed Tryz.underlying55 (ptr_key HK0L.out) 0
  have HM9 := Lib.hid (show CMem w9 b cb mb most window (uses + 1) r from by have h1 := HM8.out.dropI i0.key hD hh hD9 htu.grown; have h2 := HM8.out.keys; rw [H01.out] at h1 h2; rwa [restI_head h2] at h1)
  have HG9 := Lib.hid (show Grew (Foot cb mb its) w w9 from (HG5.out.then_below HB8.out).grown htu.grown fun j e => .inl (.inr (.inl (by injection e with e; exact e.symm))))
  have HW9 := Lib.hid (show Whole w9 i0.g 61 (cellsI i0) from (htu.grown.block i0.g (HM8.out.item i0 HM0.out).lt (fun e => map_not_whole hD (HM8.out.item i0 HM0.out) (by injection e))).trans (HM8.out.item i0 HM0.out))
  have HS9 := Lib.hid (show (w9.cell? ⟨cb, 3, none⟩ = some (.map (some mb)) ∧ w9.cell? ⟨i0.g, 0, none⟩ = some (.slice i0.x.A i0.x.name.length i0.x.c) ∧ w9.cell? ⟨i0.g, 1, none⟩ = some (.int .i64 i0.x.h.typ) ∧ w9.cell? ⟨i0.g, 2, none⟩ = some (.int .i64 i0.x.h.knd) ∧ w9.cell? ⟨i0.g, 3, none⟩ = some (.int .i64 i0.x.h.rank) ∧ w9.cell? ⟨i0.g, 4, none⟩ = some (.int .i64 i0.x.h.got) ∧ w9.cell? ⟨i0.g, 5, none⟩ = some (.int .i64 i0.x.h.ttl) ∧ w9.cell? ⟨i0.g, 6, none⟩ = some (.slice i0.x.sA i0.x.sp.length i0.x.sc) ∧ w9.cell? ⟨i0.g, 7, none⟩ = some (.slice i0.x.zA i0.x.zone.length i0.x.zc) ∧ w9.cell? ⟨i0.g, 8, none⟩ = some (.slice i0.x.d.Ab i0.x.soa.bytes.length i0.x.d.cb) ∧ w9.cell? ⟨i0.g, 9, none⟩ = some (.slice i0.x.d.Ah i0.x.soa.host.length i0.x.d.ch) ∧ w9.cell? ⟨i0.g, 10, none⟩ = some (.slice i0.x.d.Am i0.x.soa.mail.length i0.x.d.cm) ∧ w9.cell? ⟨i0.g, 11, none⟩ = some (.slice i0.x.d.An i0.x.soa.nums.length i0.x.d.cn) ∧ w9.cell? ⟨i0.g, 12, none⟩ = some (.slice i0.x.d.At i0.x.soa.texts.length i0.x.d.ct)) from ⟨HM9.out.blk.cell 3, HW9.out.cell 0, HW9.out.cell 1, HW9.out.cell 2, HW9.out.cell 3, HW9.out.cell 4, HW9.out.cell 5, HW9.out.cell 6, HW9.out.cell 7, HW9.out.cell 8, HW9.out.cell 9, HW9.out.cell 10, HW9.out.cell 11, HW9.out.cell 12⟩)
  refine wp_delete (.tmp 32) (.tmp 38) 55 9 rfl _ _ rfl rfl hrun ?_
  clear hD hh hrun hD9 htu
  refine hK.out _ _ (by exact HS9.out) (fun hHeld2 => ?_)
  clear hK K hHeld
  have hHeld := hHeld2
  clear hHeld2
  try simp only [Act.put]
  refine wpAnyH_done (by kernel_rfl) ?_ _
  go_wp2
  go_end0
  exact ⟨rfl, ⟨w1.heap.size, x', uses + 1⟩, HXE.out, by rw [HLI.out, H01.out]; exact HM9.out, by rw [HLI.out, H01.out]; exact ⟨HG9.out, HFF.out _ fun i hi => HP.out i (by rw [H01.out]; exact List.mem_cons_of_mem _ hi)⟩⟩

end Go.Proofs.YtmbcbfalgdgmjaaGreatDoor

namespace Go.Proofs.YtmbcbfalgdgmjaaGreatDoor
open Go.RowKit

set_option maxHeartbeats 400000 in
theorem ctime_any (t : Int) (w : World) : Calls Tryz.prog 25 #[.int .i64 t] w (Told w (.bool (timeB t))) := by
  have HS := Lib.hid (show timeB t = (decide (0 ≤ t) && decide (t ≤ 36028797018963968)) from rfl)
  cases h1 : decide (0 ≤ t) with
  | false =>
    rw [h1] at HS
    go_enter Tryz.func25, Tryz.ntmps25
    go_wp2
    go_ret
    exact ⟨by rw [HS.out]; rfl, rfl⟩
  | true =>
    rw [h1] at HS
    go_enter Tryz.func25, Tryz.ntmps25
    go_wp2
    go_ret
    exact ⟨by rw [HS.out]; simp, rfl⟩

set_option maxHeartbeats 1000000 in
theorem ckind_any (k : Int) (w : World) : Calls Tryz.prog 71 #[.int .i64 k] w (Told w (.bool (typedB k))) := by
  by_cases c1 : k < 1
  · have t1 : decide (1 ≤ k) = false := decide_eq_false (by omega)
    have HV := Lib.hid (typedB_low c1)
    clear c1
    go_enter Tryz.func71, Tryz.ntmps71
    go_wp2
    go_ret
    exact ⟨by rw [HV.out]; rfl, rfl⟩
  have t1 : decide (1 ≤ k) = true := decide_eq_true (by omega)
  by_cases c2 : 65534 < k
  · have t2 : decide (k ≤ 65534) = false := decide_eq_false (by omega)
    have HV := Lib.hid (typedB_high c2)
    clear c1 c2
    go_enter Tryz.func71, Tryz.ntmps71
    go_wp2
    go_ret
    exact ⟨by rw [HV.out]; rfl, rfl⟩
  have t2 : decide (k ≤ 65534) = true := decide_eq_true (by omega)
  by_cases c3 : k = 41
  · subst c3
    have HV := Lib.hid typedB_41
    clear c1 c2
    go_enter Tryz.func71, Tryz.ntmps71
    go_wp2
    go_ret
    exact ⟨by rw [HV.out]; rfl, rfl⟩
  have t3 : (k != 41) = true := by rw [bne_iff_ne]; exact c3
  by_cases c4 : k = 255
  · subst c4
    have HV := Lib.hid typedB_255
    clear c1 c2
    go_enter Tryz.func71, Tryz.ntmps71
    go_wp2
    go_ret
    exact ⟨by rw [HV.out]; rfl, rfl⟩
  have t4 : (k != 255) = true := by rw [bne_iff_ne]; exact c4
  have HV := Lib.hid (typedB_yes (by omega) (by omega) c3 c4)
  clear c1 c2 c3 c4
  go_enter Tryz.func71, Tryz.ntmps71
  go_wp2
  go_ret
  exact ⟨by rw [HV.out]; rfl, rfl⟩

end Go.Proofs.YtmbcbfalgdgmjaaGreatDoor

namespace Go.Proofs.YtmbcbfalgdgmjaaGreatDoor
open Go.RowKit

/-- Which item is told, by a test. -/
def pickI (its : List Im) (n : List (List UInt8)) (k : Int) (p : Fc → Bool) : Option Im :=
  if typedB k = true then (match (atI its n k).filter (fun i => p i.x.fact) with | some i => some i | none => (atI its n 0).filter (fun i => p i.x.fact)) else none
set_option maxRecDepth 8000 in
set_option maxHeartbeats 2000000 in
theorem mfresh_any (w : World) (i : Im) (now st : Int) (hw : Whole w i.g 61 (cellsI i)) :
    Calls Tryz.prog 47 #[.agg #[.int .i64 now, .int .i64 st], .pointer (some ⟨i.g, 0, none⟩)] w (Gave w (.bool (freshF now i.x.fact))) := by
  have HT := Lib.hid (fun W => fresh_any i.x.h.got i.x.h.ttl now W)
  have HLT := Lib.hid hw.lt
  have HB := Lib.hid ((Below.refl w.heap.size w).alloc (Nat.le_refl _) (.cells #[.int .i64 now, .int .i64 st] 80))
  have a4 : w.cell? ⟨i.g, 4, none⟩ = some (.int .i64 i.x.h.got) := hw.cell 4
  have a5 : w.cell? ⟨i.g, 5, none⟩ = some (.int .i64 i.x.h.ttl) := hw.cell 5
  have HS := Lib.hid (show ∀ W, W = (w.alloc (.cells #[.int .i64 now, .int .i64 st] 80)).drew → (W.cell? ⟨i.g, 4, none⟩ = some (.int .i64 i.x.h.got) ∧ W.cell? ⟨i.g, 5, none⟩ = some (.int .i64 i.x.h.ttl) ∧ W.cell? ⟨w.heap.size, 0, none⟩ = some (.int .i64 now) ∧ W.cell? ⟨w.heap.size, 1, none⟩ = some (.int .i64 st)) from fun W e => by
    have hm := Whole.made w [.int .i64 now, .int .i64 st] 80
    subst e
    exact ⟨(HB.out.cell (p := ⟨i.g, 4, none⟩) HLT.out).trans a4, (HB.out.cell (p := ⟨i.g, 5, none⟩) HLT.out).trans a5, hm.cell 0, hm.cell 1⟩)
  clear hw a4 a5
  go_enter Tryz.func47, Tryz.ntmps47
  go_upto_region 1 with fail
  refine wp_region_held_drew (S := fun W => (W.cell? ⟨i.g, 4, none⟩ = some (.int .i64 i.x.h.got) ∧ W.cell? ⟨i.g, 5, none⟩ = some (.int .i64 i.x.h.ttl) ∧ W.cell? ⟨w.heap.size, 0, none⟩ = some (.int .i64 now) ∧ W.cell? ⟨w.heap.size, 1, none⟩ = some (.int .i64 st))) (by kernel_rfl) (by exact HS.out _ rfl) (fun hHeld => ?_)
  refine wpAnyH_take (i := 0) (oi := ⟨some 5, _, _, _, _, _⟩) (v := ?_) rfl (by kernel_rfl) (by kernel_rfl) (by kernel_rfl) (fun _ _ _ h => h) (Or.inl ⟨by kernel_rfl, ?_⟩) (by assumption) ?_
  rotate_left
  · intro W hSw
    try dsimp only at hSw
    go_simp
    all_goals (with_reducible rfl)
  try simp only [Act.put, List.setIfInBounds_toArray, List.set_cons_zero, List.set_cons_succ]
  refine wpAnyH_take (i := 1) (oi := ⟨some 6, _, _, _, _, _⟩) (v := ?_) rfl (by kernel_rfl) (by kernel_rfl) (by kernel_rfl) (fun _ _ _ h => h) (Or.inl ⟨by kernel_rfl, ?_⟩) (by assumption) ?_
  rotate_left
  · intro W hSw
    try dsimp only at hSw
    go_simp
    all_goals (with_reducible rfl)
  try simp only [Act.put, List.setIfInBounds_toArray, List.set_cons_zero, List.set_cons_succ]
  refine wpAnyH_take (i := 2) (oi := ⟨some 7, _, _, _, _, _⟩) (v := ?_) rfl (by kernel_rfl) (by kernel_rfl) (by kernel_rfl) (fun _ _ _ h => h) (Or.inl ⟨by kernel_rfl, ?_⟩) (by assumption) ?_
  rotate_left
  · intro W hSw
    try dsimp only at hSw
    go_simp
    all_goals (with_reducible rfl)
  try simp only [Act.put, List.setIfInBounds_toArray, List.set_cons_zero, List.set_cons_succ]
  refine wpAnyH_take (i := 3) (oi := ⟨some 8, _, _, _, _, _⟩) (v := ?_) rfl (by kernel_rfl) (by kernel_rfl) (by kernel_rfl) (fun _ _ _ h => h) (Or.inl ⟨by kernel_rfl, ?_⟩) (by assumption) ?_
  rotate_left
  · intro W hSw
    try dsimp only at hSw
    go_simp
    all_goals (with_reducible rfl)
  try simp only [Act.put, List.setIfInBounds_toArray, List.set_cons_zero, List.set_cons_succ]
  refine wpAnyH_take (i := 4) (oi := ⟨some 9, _, _, _, _, _⟩) (v := ?_) rfl (by kernel_rfl) (by kernel_rfl) (by kernel_rfl) (fun _ _ _ h => h) (Or.inl ⟨by kernel_rfl, ?_⟩) (by assumption) ?_
  rotate_left
  · intro W hSw
    try dsimp only at hSw
    go_simp
    all_goals (with_reducible rfl)
  try simp only [Act.put, List.setIfInBounds_toArray, List.set_cons_zero, List.set_cons_succ]
  refine wpAnyH_take (i := 5) (oi := ⟨some 10, _, _, _, _, _⟩) (v := ?_) rfl (by kernel_rfl) (by kernel_rfl) (by kernel_rfl) (fun _ _ _ h => h) (Or.inl ⟨by kernel_rfl, ?_⟩) (by assumption) ?_
  rotate_left
  · intro W hSw
    try dsimp only at hSw
    go_simp
    all_goals (with_reducible rfl)
  try simp only [Act.put, List.setIfInBounds_toArray, List.set_cons_zero, List.set_cons_succ]
  refine wpAnyH_take (i := 6) (oi := ⟨some 11, _, _, _, _, _⟩) (v := ?_) rfl (by kernel_rfl) (by kernel_rfl) (by kernel_rfl) (fun _ _ _ h => h) (Or.inl ⟨by kernel_rfl, ?_⟩) (by assumption) ?_
  rotate_left
  · intro W hSw
    try dsimp only at hSw
    go_simp
    all_goals (with_reducible rfl)
  try simp only [Act.put, List.setIfInBounds_toArray, List.set_cons_zero, List.set_cons_succ]
  refine wpAnyH_take (i := 7) (oi := ⟨some 12, _, _, _, _, _⟩) (v := ?_) rfl (by kernel_rfl) (by kernel_rfl) (by kernel_rfl) (fun _ _ _ h => h) (Or.inl ⟨by kernel_rfl, ?_⟩) (by assumption) ?_
  rotate_left
  · intro W hSw
    try dsimp only at hSw
    go_simp
    all_goals (with_reducible rfl)
  try simp only [Act.put, List.setIfInBounds_toArray, List.set_cons_zero, List.set_cons_succ]
  refine wpAnyH_take (i := 8) (oi := ⟨some 13, _, _, _, _, _⟩) (v := ?_) rfl (by kernel_rfl) (by kernel_rfl) (by kernel_rfl) (fun _ _ _ h => h) (Or.inl ⟨by kernel_rfl, ?_⟩) (by assumption) ?_
  rotate_left
  · intro W hSw
    try dsimp only at hSw
    go_simp
    all_goals (with_reducible rfl)
  try simp only [Act.put, List.setIfInBounds_toArray, List.set_cons_zero, List.set_cons_succ]
  refine wpAnyH_take (i := 9) (oi := ⟨some 14, _, _, _, _, _⟩) (v := ?_) rfl (by kernel_rfl) (by kernel_rfl) (by kernel_rfl) (fun _ _ _ h => h) (Or.inl ⟨by kernel_rfl, ?_⟩) (by assumption) ?_
  rotate_left
  · intro W hSw
    try dsimp only at hSw
    go_simp
    all_goals (with_reducible rfl)
  try simp only [Act.put, List.setIfInBounds_toArray, List.set_cons_zero, List.set_cons_succ]
  refine wpAnyH_take (i := 10) (oi := ⟨some 15, _, _, _, _, _⟩) (v := ?_) rfl (by kernel_rfl) (by kernel_rfl) (by kernel_rfl) (fun _ _ _ h => h) (Or.inl ⟨by kernel_rfl, ?_⟩) (by assumption) ?_
  rotate_left
  · intro W hSw
    try dsimp only at hSw
    go_simp
    all_goals (with_reducible rfl)
  try simp only [Act.put, List.setIfInBounds_toArray, List.set_cons_zero, List.set_cons_succ]
  refine wpAnyH_take (i := 11) (oi := ⟨some 16, _, _, _, _, _⟩) (v := ?_) rfl (by kernel_rfl) (by kernel_rfl) (by kernel_rfl) (fun _ _ _ h => h) (Or.inl ⟨by kernel_rfl, ?_⟩) (by assumption) ?_
  rotate_left
  · intro W hSw
    try dsimp only at hSw
    go_simp
    all_goals (with_reducible rfl)
  try simp only [Act.put, List.setIfInBounds_toArray, List.set_cons_zero, List.set_cons_succ]
  refine wpAnyH_ready (rs := [12]) (by kernel_rfl) (by simp) ?_
  refine AllReadyH.cons (o := ⟨some 17, _, _, _, _, _⟩) rfl (fun K hK => ?_) AllReadyH.nil
  go_simp
  refine (HT.out _).mono ?_
  rintro e w2 ⟨rfl, hb2⟩
  have HB2 := Lib.hid (HB.out.drew.trans (hb2.mono (by simp)))
  have HH2 := Lib.hid (show (w2.cell? ⟨i.g, 4, none⟩ = some (.int .i64 i.x.h.got) ∧ w2.cell? ⟨i.g, 5, none⟩ = some (.int .i64 i.x.h.ttl) ∧ w2.cell? ⟨w.heap.size, 0, none⟩ = some (.int .i64 now) ∧ w2.cell? ⟨w.heap.size, 1, none⟩ = some (.int .i64 st)) from ⟨(hb2.cell (p := ⟨i.g, 4, none⟩) (by have := HLT.out; simp; omega)).trans hHeld.1, (hb2.cell (p := ⟨i.g, 5, none⟩) (by have := HLT.out; simp; omega)).trans hHeld.2.1, (hb2.cell (p := ⟨w.heap.size, 0, none⟩) (by simp)).trans hHeld.2.2.1, (hb2.cell (p := ⟨w.heap.size, 1, none⟩) (by simp)).trans hHeld.2.2.2⟩)
  clear hb2
  refine hK.out _ _ (by exact HH2.out) (fun hHeld2 => ?_)
  clear hK K hHeld
  have hHeld := hHeld2
  clear hHeld2
  try simp only [Act.put, List.setIfInBounds_toArray, List.set_cons_zero, List.set_cons_succ]
  refine wpAnyH_take (i := 13) (oi := ⟨some 4, _, _, _, _, _⟩) (v := ?_) rfl (by kernel_rfl) (by kernel_rfl) (by kernel_rfl) (fun _ _ _ h => h) (Or.inl ⟨by kernel_rfl, ?_⟩) (by assumption) ?_
  rotate_left
  · intro W hSw
    try dsimp only at hSw
    go_simp
    all_goals (with_reducible rfl)
  try simp only [Act.put, List.setIfInBounds_toArray, List.set_cons_zero, List.set_cons_succ]
  refine wpAnyH_done (by kernel_rfl) ?_ _
  go_wp2
  go_ret
  exact ⟨rfl, HB2.out⟩

set_option maxRecDepth 8000 in
set_option maxHeartbeats 2000000 in
theorem mold_any (w : World) (i : Im) (now st : Int) (hw : Whole w i.g 61 (cellsI i)) :
    Calls Tryz.prog 48 #[.agg #[.int .i64 now, .int .i64 st], .pointer (some ⟨i.g, 0, none⟩)] w (Gave w (.bool (staleF st now i.x.fact))) := by
  have HT := Lib.hid (fun W => stale_any i.x.h.got i.x.h.ttl st now W)
  have HLT := Lib.hid hw.lt
  have HB := Lib.hid ((Below.refl w.heap.size w).alloc (Nat.le_refl _) (.cells #[.int .i64 now, .int .i64 st] 80))
  have a4 : w.cell? ⟨i.g, 4, none⟩ = some (.int .i64 i.x.h.got) := hw.cell 4
  have a5 : w.cell? ⟨i.g, 5, none⟩ = some (.int .i64 i.x.h.ttl) := hw.cell 5
  have HS := Lib.hid (show ∀ W, W = (w.alloc (.cells #[.int .i64 now, .int .i64 st] 80)).drew → (W.cell? ⟨i.g, 4, none⟩ = some (.int .i64 i.x.h.got) ∧ W.cell? ⟨i.g, 5, none⟩ = some (.int .i64 i.x.h.ttl) ∧ W.cell? ⟨w.heap.size, 0, none⟩ = some (.int .i64 now) ∧ W.cell? ⟨w.heap.size, 1, none⟩ = some (.int .i64 st)) from fun W e => by
    have hm := Whole.made w [.int .i64 now, .int .i64 st] 80
    subst e
    exact ⟨(HB.out.cell (p := ⟨i.g, 4, none⟩) HLT.out).trans a4, (HB.out.cell (p := ⟨i.g, 5, none⟩) HLT.out).trans a5, hm.cell 0, hm.cell 1⟩)
  clear hw a4 a5
  go_enter Tryz.func48, Tryz.ntmps48
  go_upto_region 1 with fail
  refine wp_region_held_drew (S := fun W => (W.cell? ⟨i.g, 4, none⟩ = some (.int .i64 i.x.h.got) ∧ W.cell? ⟨i.g, 5, none⟩ = some (.int .i64 i.x.h.ttl) ∧ W.cell? ⟨w.heap.size, 0, none⟩ = some (.int .i64 now) ∧ W.cell? ⟨w.heap.size, 1, none⟩ = some (.int .i64 st))) (by kernel_rfl) (by exact HS.out _ rfl) (fun hHeld => ?_)
  refine wpAnyH_take (i := 0) (oi := ⟨some 5, _, _, _, _, _⟩) (v := ?_) rfl (by kernel_rfl) (by kernel_rfl) (by kernel_rfl) (fun _ _ _ h => h) (Or.inl ⟨by kernel_rfl, ?_⟩) (by assumption) ?_
  rotate_left
  · intro W hSw
    try dsimp only at hSw
    go_simp
    all_goals (with_reducible rfl)
  try simp only [Act.put, List.setIfInBounds_toArray, List.set_cons_zero, List.set_cons_succ]
  refine wpAnyH_take (i := 1) (oi := ⟨some 6, _, _, _, _, _⟩) (v := ?_) rfl (by kernel_rfl) (by kernel_rfl) (by kernel_rfl) (fun _ _ _ h => h) (Or.inl ⟨by kernel_rfl, ?_⟩) (by assumption) ?_
  rotate_left
  · intro W hSw
    try dsimp only at hSw
    go_simp
    all_goals (with_reducible rfl)
  try simp only [Act.put, List.setIfInBounds_toArray, List.set_cons_zero, List.set_cons_succ]
  refine wpAnyH_take (i := 2) (oi := ⟨some 7, _, _, _, _, _⟩) (v := ?_) rfl (by kernel_rfl) (by kernel_rfl) (by kernel_rfl) (fun _ _ _ h => h) (Or.inl ⟨by kernel_rfl, ?_⟩) (by assumption) ?_
  rotate_left
  · intro W hSw
    try dsimp only at hSw
    go_simp
    all_goals (with_reducible rfl)
  try simp only [Act.put, List.setIfInBounds_toArray, List.set_cons_zero, List.set_cons_succ]
  refine wpAnyH_take (i := 3) (oi := ⟨some 8, _, _, _, _, _⟩) (v := ?_) rfl (by kernel_rfl) (by kernel_rfl) (by kernel_rfl) (fun _ _ _ h => h) (Or.inl ⟨by kernel_rfl, ?_⟩) (by assumption) ?_
  rotate_left
  · intro W hSw
    try dsimp only at hSw
    go_simp
    all_goals (with_reducible rfl)
  try simp only [Act.put, List.setIfInBounds_toArray, List.set_cons_zero, List.set_cons_succ]
  refine wpAnyH_take (i := 4) (oi := ⟨some 9, _, _, _, _, _⟩) (v := ?_) rfl (by kernel_rfl) (by kernel_rfl) (by kernel_rfl) (fun _ _ _ h => h) (Or.inl ⟨by kernel_rfl, ?_⟩) (by assumption) ?_
  rotate_left
  · intro W hSw
    try dsimp only at hSw
    go_simp
    all_goals (with_reducible rfl)
  try simp only [Act.put, List.setIfInBounds_toArray, List.set_cons_zero, List.set_cons_succ]
  refine wpAnyH_take (i := 5) (oi := ⟨some 10, _, _, _, _, _⟩) (v := ?_) rfl (by kernel_rfl) (by kernel_rfl) (by kernel_rfl) (fun _ _ _ h => h) (Or.inl ⟨by kernel_rfl, ?_⟩) (by assumption) ?_
  rotate_left
  · intro W hSw
    try dsimp only at hSw
    go_simp
    all_goals (with_reducible rfl)
  try simp only [Act.put, List.setIfInBounds_toArray, List.set_cons_zero, List.set_cons_succ]
  refine wpAnyH_take (i := 6) (oi := ⟨some 11, _, _, _, _, _⟩) (v := ?_) rfl (by kernel_rfl) (by kernel_rfl) (by kernel_rfl) (fun _ _ _ h => h) (Or.inl ⟨by kernel_rfl, ?_⟩) (by assumption) ?_
  rotate_left
  · intro W hSw
    try dsimp only at hSw
    go_simp
    all_goals (with_reducible rfl)
  try simp only [Act.put, List.setIfInBounds_toArray, List.set_cons_zero, List.set_cons_succ]
  refine wpAnyH_take (i := 7) (oi := ⟨some 12, _, _, _, _, _⟩) (v := ?_) rfl (by kernel_rfl) (by kernel_rfl) (by kernel_rfl) (fun _ _ _ h => h) (Or.inl ⟨by kernel_rfl, ?_⟩) (by assumption) ?_
  rotate_left
  · intro W hSw
    try dsimp only at hSw
    go_simp
    all_goals (with_reducible rfl)
  try simp only [Act.put, List.setIfInBounds_toArray, List.set_cons_zero, List.set_cons_succ]
  refine wpAnyH_take (i := 8) (oi := ⟨some 13, _, _, _, _, _⟩) (v := ?_) rfl (by kernel_rfl) (by kernel_rfl) (by kernel_rfl) (fun _ _ _ h => h) (Or.inl ⟨by kernel_rfl, ?_⟩) (by assumption) ?_
  rotate_left
  · intro W hSw
    try dsimp only at hSw
    go_simp
    all_goals (with_reducible rfl)
  try simp only [Act.put, List.setIfInBounds_toArray, List.set_cons_zero, List.set_cons_succ]
  refine wpAnyH_take (i := 9) (oi := ⟨some 14, _, _, _, _, _⟩) (v := ?_) rfl (by kernel_rfl) (by kernel_rfl) (by kernel_rfl) (fun _ _ _ h => h) (Or.inl ⟨by kernel_rfl, ?_⟩) (by assumption) ?_
  rotate_left
  · intro W hSw
    try dsimp only at hSw
    go_simp
    all_goals (with_reducible rfl)
  try simp only [Act.put, List.setIfInBounds_toArray, List.set_cons_zero, List.set_cons_succ]
  refine wpAnyH_take (i := 10) (oi := ⟨some 15, _, _, _, _, _⟩) (v := ?_) rfl (by kernel_rfl) (by kernel_rfl) (by kernel_rfl) (fun _ _ _ h => h) (Or.inl ⟨by kernel_rfl, ?_⟩) (by assumption) ?_
  rotate_left
  · intro W hSw
    try dsimp only at hSw
    go_simp
    all_goals (with_reducible rfl)
  try simp only [Act.put, List.setIfInBounds_toArray, List.set_cons_zero, List.set_cons_succ]
  refine wpAnyH_take (i := 11) (oi := ⟨some 16, _, _, _, _, _⟩) (v := ?_) rfl (by kernel_rfl) (by kernel_rfl) (by kernel_rfl) (fun _ _ _ h => h) (Or.inl ⟨by kernel_rfl, ?_⟩) (by assumption) ?_
  rotate_left
  · intro W hSw
    try dsimp only at hSw
    go_simp
    all_goals (with_reducible rfl)
  try simp only [Act.put, List.setIfInBounds_toArray, List.set_cons_zero, List.set_cons_succ]
  refine wpAnyH_take (i := 12) (oi := ⟨some 17, _, _, _, _, _⟩) (v := ?_) rfl (by kernel_rfl) (by kernel_rfl) (by kernel_rfl) (fun _ _ _ h => h) (Or.inl ⟨by kernel_rfl, ?_⟩) (by assumption) ?_
  rotate_left
  · intro W hSw
    try dsimp only at hSw
    go_simp
    all_goals (with_reducible rfl)
  try simp only [Act.put, List.setIfInBounds_toArray, List.set_cons_zero, List.set_cons_succ]
  refine wpAnyH_take (i := 13) (oi := ⟨some 18, _, _, _, _, _⟩) (v := ?_) rfl (by kernel_rfl) (by kernel_rfl) (by kernel_rfl) (fun _ _ _ h => h) (Or.inl ⟨by kernel_rfl, ?_⟩) (by assumption) ?_
  rotate_left
  · intro W hSw
    try dsimp only at hSw
    go_simp
    all_goals (with_reducible rfl)
  try simp only [Act.put, List.setIfInBounds_toArray, List.set_cons_zero, List.set_cons_succ]
  refine wpAnyH_ready (rs := [14]) (by kernel_rfl) (by simp) ?_
  refine AllReadyH.cons (o := ⟨some 19, _, _, _, _, _⟩) rfl (fun K hK => ?_) AllReadyH.nil
  go_simp
  refine (HT.out _).mono ?_
  rintro e w2 ⟨rfl, hb2⟩
  have HB2 := Lib.hid (HB.out.drew.trans (hb2.mono (by simp)))
  have HH2 := Lib.hid (show (w2.cell? ⟨i.g, 4, none⟩ = some (.int .i64 i.x.h.got) ∧ w2.cell? ⟨i.g, 5, none⟩ = some (.int .i64 i.x.h.ttl) ∧ w2.cell? ⟨w.heap.size, 0, none⟩ = some (.int .i64 now) ∧ w2.cell? ⟨w.heap.size, 1, none⟩ = some (.int .i64 st)) from ⟨(hb2.cell (p := ⟨i.g, 4, none⟩) (by have := HLT.out; simp; omega)).trans hHeld.1, (hb2.cell (p := ⟨i.g, 5, none⟩) (by have := HLT.out; simp; omega)).trans hHeld.2.1, (hb2.cell (p := ⟨w.heap.size, 0, none⟩) (by simp)).trans hHeld.2.2.1, (hb2.cell (p := ⟨w.heap.size, 1, none⟩) (by simp)).trans hHeld.2.2.2⟩)
  clear hb2
  refine hK.out _ _ (by exact HH2.out) (fun hHeld2 => ?_)
  clear hK K hHeld
  have hHeld := hHeld2
  clear hHeld2
  try simp only [Act.put, List.setIfInBounds_toArray, List.set_cons_zero, List.set_cons_succ]
  refine wpAnyH_take (i := 15) (oi := ⟨some 4, _, _, _, _, _⟩) (v := ?_) rfl (by kernel_rfl) (by kernel_rfl) (by kernel_rfl) (fun _ _ _ h => h) (Or.inl ⟨by kernel_rfl, ?_⟩) (by assumption) ?_
  rotate_left
  · intro W hSw
    try dsimp only at hSw
    go_simp
    all_goals (with_reducible rfl)
  try simp only [Act.put, List.setIfInBounds_toArray, List.set_cons_zero, List.set_cons_succ]
  refine wpAnyH_done (by kernel_rfl) ?_ _
  go_wp2
  go_ret
  exact ⟨rfl, HB2.out⟩

def FindfreshRel (w : World) (its : List Im) (n : List (List UInt8)) (k now _ : Int) (v : Value) (wr : World) : Prop :=
  ∃ j : Nat, j ≤ 2 ∧ v = .int .i64 j ∧ (1 ≤ j → (atI its n k).filter (fun i => freshF now i.x.fact) = none) ∧ (2 ≤ j → (atI its n 0).filter (fun i => freshF now i.x.fact) = none) ∧ Below w.heap.size w wr ∧ Whole wr w.heap.size 3 [.int .i64 k, .int .i64 0]
set_option maxRecDepth 20000 in
set_option maxHeartbeats 4000000 in
theorem find_fresh {w : World} {b cb mb most uses : Nat} {window : Int} {its : List Im} (h : CMem w b cb mb most window uses its) (A : Option Addr) (c : Nat) (n : List (List UInt8)) (k now st : Int) (hn : Row w w.heap.size A (n.map sv)) (hw : WideN n) (hl : n.length ≤ 300) (hk : (Lit.int .i64 k).wf = true) :
    Calls Tryz.prog 46 #[.pointer (some ⟨cb, 0, none⟩), .slice A n.length c, .int .i64 k, .func (.func 47) #[.agg #[.int .i64 now, .int .i64 st]] #[]] w (Gave w (itv (pickI its n k (freshF now)))) := by
  have HK := Lib.hid (fun W => ckind_any k W)
  have HA := Lib.hid (fun (j : Int) (hj : (Lit.int .i64 j).wf = true) W (hb : Below w.heap.size w W) => at_any (h.step hb) A c n j ((hn.below hb).mono hb.size) hw hl hj)
  have HP := Lib.hid (fun W (hb : Below w.heap.size w W) (i : Im) (hi : i ∈ its) => mfresh_any W i now st ((h.step hb).item i hi))
  have HMI := Lib.hid (show ∀ (j : Int) (i : Im), atI its n j = some i → i ∈ its from fun j i e => by unfold atI at e; split at e; exact (findI_mem e).1; cases e)
  have HKW := Lib.hid hk
  have HV := Lib.hid (show pickI its n k (freshF now) = if typedB k = true then (match (atI its n k).filter (fun i => freshF now i.x.fact) with | some i => some i | none => (atI its n 0).filter (fun i => freshF now i.x.fact)) else none from rfl)
  clear h hn hw hk
  generalize pickI its n k (freshF now) = o at HV ⊢
  go_enter Tryz.func46, Tryz.ntmps46
  go_wp2_with fail
  refine (HK.out _).mono ?_
  rintro e w1 ⟨rfl, rfl⟩
  cases ht : typedB k with
  | false =>
    rw [ht] at HV
    have HV2 := Lib.hid (show o = none from HV.out)
    clear HV
    go_wp2
    go_ret
    exact ⟨by rw [HV2.out]; rfl, Below.refl _ _⟩
  | true =>
  rw [ht] at HV
  have HV2 := Lib.hid (show o = (match (atI its n k).filter (fun i => freshF now i.x.fact) with | some i => some i | none => (atI its n 0).filter (fun i => freshF now i.x.fact)) from HV.out)
  clear HV ht
  have HB0 := Lib.hid ((Below.refl w.heap.size w).alloc (Nat.le_refl _) (.cells #[.int .i64 k, .int .i64 0] 3))
  have HW0 := Lib.hid (Whole.made w [.int .i64 k, .int .i64 0] 3)
  go_wp2
  go_loopw [18] (FindfreshRel w its n k now st) (fun i _ => 2 - (intOf i).toNat)
  case atStart => exact ⟨0, by omega, rfl, fun h => absurd h (by omega), fun h => absurd h (by omega), HB0.out, HW0.out⟩
  case round =>
  obtain ⟨j, hj, rfl, h1, h2, hb, hw⟩ := hrel
  have H1 := Lib.hid h1
  have H2 := Lib.hid h2
  have HB := Lib.hid hb
  have HW := Lib.hid hw
  have c0 : wr.cell? ⟨w.heap.size, 0, none⟩ = some (.int .i64 k) := hw.cell 0
  have c1 : wr.cell? ⟨w.heap.size, 1, none⟩ = some (.int .i64 0) := hw.cell 1
  clear h1 h2 hb hw HB0 HW0
  have h012 : j = 0 ∨ j = 1 ∨ j = 2 := by omega
  rcases h012 with rfl | rfl | rfl
  · have HAJ := Lib.hid (HA.out (k) HKW.out wr HB.out)
    have HMJ := Lib.hid (fun i => HMI.out (k) i)
    have HF := Lib.hid (show ∀ o, atI its n (k) = o → (atI its n (k)).filter (fun i => freshF now i.x.fact) = o.filter (fun i => freshF now i.x.fact) from fun o e => by rw [e])
    revert HAJ HMJ HF
    generalize hoj : atI its n (k) = oj
    intro HAJ HMJ HF
    have HOJ := Lib.hid hoj
    clear hoj
    go_wp2_with fail
    refine HAJ.out.mono ?_
    rintro e w2 ⟨rfl, hb2⟩
    have HB2 := Lib.hid (HB.out.trans (hb2.mono HB.out.size))
    have HW2 := Lib.hid (HW.out.below hb2 HW.out.lt)
    clear hb2 HAJ
    cases oj with
    | none =>
      have HNO := Lib.hid (show (atI its n (k)).filter (fun i => freshF now i.x.fact) = none from by rw [HOJ.out]; rfl)
      have e0 : itv none = Value.pointer none := rfl
      rw [e0]
      go_wp2
      exact ⟨⟨1, by omega, rfl, fun _ => HNO.out, fun h => absurd h (by omega), HB2.out, HW2.out⟩, by simp [intOf]⟩
    | some i =>
      have e0 : itv (some i) = Value.pointer (some ⟨i.g, 0, none⟩) := rfl
      rw [e0]
      have HPI := Lib.hid (HP.out w2 HB2.out i (HMJ.out i rfl))
      go_wp2_with fail
      refine HPI.out.mono ?_
      rintro e w3 ⟨rfl, hb3⟩
      have HB3 := Lib.hid (HB2.out.trans (hb3.mono HB2.out.size))
      have HW3 := Lib.hid (HW2.out.below hb3 HW2.out.lt)
      clear hb3
      cases hp : freshF now i.x.fact with
      | true =>
        have HYES := Lib.hid (show (atI its n (k)).filter (fun i => freshF now i.x.fact) = some i from by rw [HOJ.out]; simp [Option.filter, hp])
        clear hp
        go_wp2
        go_ret
        exact ⟨by rw [HV2.out, HYES.out]; rfl, HB3.out⟩
      | false =>
        have HNO := Lib.hid (show (atI its n (k)).filter (fun i => freshF now i.x.fact) = none from by rw [HOJ.out]; simp [Option.filter, hp])
        clear hp
        go_wp2
        exact ⟨⟨1, by omega, rfl, fun _ => HNO.out, fun h => absurd h (by omega), HB3.out, HW3.out⟩, by simp [intOf]⟩
  · have HAJ := Lib.hid (HA.out (0) (by decide) wr HB.out)
    have HMJ := Lib.hid (fun i => HMI.out (0) i)
    have HF := Lib.hid (show ∀ o, atI its n (0) = o → (atI its n (0)).filter (fun i => freshF now i.x.fact) = o.filter (fun i => freshF now i.x.fact) from fun o e => by rw [e])
    revert HAJ HMJ HF
    generalize hoj : atI its n (0) = oj
    intro HAJ HMJ HF
    have HOJ := Lib.hid hoj
    clear hoj
    go_wp2_with fail
    refine HAJ.out.mono ?_
    rintro e w2 ⟨rfl, hb2⟩
    have HB2 := Lib.hid (HB.out.trans (hb2.mono HB.out.size))
    have HW2 := Lib.hid (HW.out.below hb2 HW.out.lt)
    clear hb2 HAJ
    cases oj with
    | none =>
      have HNO := Lib.hid (show (atI its n (0)).filter (fun i => freshF now i.x.fact) = none from by rw [HOJ.out]; rfl)
      have e0 : itv none = Value.pointer none := rfl
      rw [e0]
      go_wp2
      exact ⟨⟨2, by omega, rfl, fun _ => H1.out (by omega), fun _ => HNO.out, HB2.out, HW2.out⟩, by simp [intOf]⟩
    | some i =>
      have e0 : itv (some i) = Value.pointer (some ⟨i.g, 0, none⟩) := rfl
      rw [e0]
      have HPI := Lib.hid (HP.out w2 HB2.out i (HMJ.out i rfl))
      go_wp2_with fail
      refine HPI.out.mono ?_
      rintro e w3 ⟨rfl, hb3⟩
      have HB3 := Lib.hid (HB2.out.trans (hb3.mono HB2.out.size))
      have HW3 := Lib.hid (HW2.out.below hb3 HW2.out.lt)
      clear hb3
      cases hp : freshF now i.x.fact with
      | true =>
        have HYES := Lib.hid (show (atI its n (0)).filter (fun i => freshF now i.x.fact) = some i from by rw [HOJ.out]; simp [Option.filter, hp])
        clear hp
        go_wp2
        go_ret
        exact ⟨by rw [HV2.out, H1.out (by omega), HYES.out]; rfl, HB3.out⟩
      | false =>
        have HNO := Lib.hid (show (atI its n (0)).filter (fun i => freshF now i.x.fact) = none from by rw [HOJ.out]; simp [Option.filter, hp])
        clear hp
        go_wp2
        exact ⟨⟨2, by omega, rfl, fun _ => H1.out (by omega), fun _ => HNO.out, HB3.out, HW3.out⟩, by simp [intOf]⟩
  · go_wp2
    go_ret
    exact ⟨by rw [HV2.out, H1.out (by omega), H2.out (by omega)]; rfl, HB.out⟩

def FindoldRel (w : World) (its : List Im) (n : List (List UInt8)) (k now st : Int) (v : Value) (wr : World) : Prop :=
  ∃ j : Nat, j ≤ 2 ∧ v = .int .i64 j ∧ (1 ≤ j → (atI its n k).filter (fun i => staleF st now i.x.fact) = none) ∧ (2 ≤ j → (atI its n 0).filter (fun i => staleF st now i.x.fact) = none) ∧ Below w.heap.size w wr ∧ Whole wr w.heap.size 3 [.int .i64 k, .int .i64 0]
set_option maxRecDepth 20000 in
set_option maxHeartbeats 4000000 in
theorem find_old {w : World} {b cb mb most uses : Nat} {window : Int} {its : List Im} (h : CMem w b cb mb most window uses its) (A : Option Addr) (c : Nat) (n : List (List UInt8)) (k now st : Int) (hn : Row w w.heap.size A (n.map sv)) (hw : WideN n) (hl : n.length ≤ 300) (hk : (Lit.int .i64 k).wf = true) :
    Calls Tryz.prog 46 #[.pointer (some ⟨cb, 0, none⟩), .slice A n.length c, .int .i64 k, .func (.func 48) #[.agg #[.int .i64 now, .int .i64 st]] #[]] w (Gave w (itv (pickI its n k (staleF st now)))) := by
  have HK := Lib.hid (fun W => ckind_any k W)
  have HA := Lib.hid (fun (j : Int) (hj : (Lit.int .i64 j).wf = true) W (hb : Below w.heap.size w W) => at_any (h.step hb) A c n j ((hn.below hb).mono hb.size) hw hl hj)
  have HP := Lib.hid (fun W (hb : Below w.heap.size w W) (i : Im) (hi : i ∈ its) => mold_any W i now st ((h.step hb).item i hi))
  have HMI := Lib.hid (show ∀ (j : Int) (i : Im), atI its n j = some i → i ∈ its from fun j i e => by unfold atI at e; split at e; exact (findI_mem e).1; cases e)
  have HKW := Lib.hid hk
  have HV := Lib.hid (show pickI its n k (staleF st now) = if typedB k = true then (match (atI its n k).filter (fun i => staleF st now i.x.fact) with | some i => some i | none => (atI its n 0).filter (fun i => staleF st now i.x.fact)) else none from rfl)
  clear h hn hw hk
  generalize pickI its n k (staleF st now) = o at HV ⊢
  go_enter Tryz.func46, Tryz.ntmps46
  go_wp2_with fail
  refine (HK.out _).mono ?_
  rintro e w1 ⟨rfl, rfl⟩
  cases ht : typedB k with
  | false =>
    rw [ht] at HV
    have HV2 := Lib.hid (show o = none from HV.out)
    clear HV
    go_wp2
    go_ret
    exact ⟨by rw [HV2.out]; rfl, Below.refl _ _⟩
  | true =>
  rw [ht] at HV
  have HV2 := Lib.hid (show o = (match (atI its n k).filter (fun i => staleF st now i.x.fact) with | some i => some i | none => (atI its n 0).filter (fun i => staleF st now i.x.fact)) from HV.out)
  clear HV ht
  have HB0 := Lib.hid ((Below.refl w.heap.size w).alloc (Nat.le_refl _) (.cells #[.int .i64 k, .int .i64 0] 3))
  have HW0 := Lib.hid (Whole.made w [.int .i64 k, .int .i64 0] 3)
  go_wp2
  go_loopw [18] (FindoldRel w its n k now st) (fun i _ => 2 - (intOf i).toNat)
  case atStart => exact ⟨0, by omega, rfl, fun h => absurd h (by omega), fun h => absurd h (by omega), HB0.out, HW0.out⟩
  case round =>
  obtain ⟨j, hj, rfl, h1, h2, hb, hw⟩ := hrel
  have H1 := Lib.hid h1
  have H2 := Lib.hid h2
  have HB := Lib.hid hb
  have HW := Lib.hid hw
  have c0 : wr.cell? ⟨w.heap.size, 0, none⟩ = some (.int .i64 k) := hw.cell 0
  have c1 : wr.cell? ⟨w.heap.size, 1, none⟩ = some (.int .i64 0) := hw.cell 1
  clear h1 h2 hb hw HB0 HW0
  have h012 : j = 0 ∨ j = 1 ∨ j = 2 := by omega
  rcases h012 with rfl | rfl | rfl
  · have HAJ := Lib.hid (HA.out (k) HKW.out wr HB.out)
    have HMJ := Lib.hid (fun i => HMI.out (k) i)
    have HF := Lib.hid (show ∀ o, atI its n (k) = o → (atI its n (k)).filter (fun i => staleF st now i.x.fact) = o.filter (fun i => staleF st now i.x.fact) from fun o e => by rw [e])
    revert HAJ HMJ HF
    generalize hoj : atI its n (k) = oj
    intro HAJ HMJ HF
    have HOJ := Lib.hid hoj
    clear hoj
    go_wp2_with fail
    refine HAJ.out.mono ?_
    rintro e w2 ⟨rfl, hb2⟩
    have HB2 := Lib.hid (HB.out.trans (hb2.mono HB.out.size))
    have HW2 := Lib.hid (HW.out.below hb2 HW.out.lt)
    clear hb2 HAJ
    cases oj with
    | none =>
      have HNO := Lib.hid (show (atI its n (k)).filter (fun i => staleF st now i.x.fact) = none from by rw [HOJ.out]; rfl)
      have e0 : itv none = Value.pointer none := rfl
      rw [e0]
      go_wp2
      exact ⟨⟨1, by omega, rfl, fun _ => HNO.out, fun h => absurd h (by omega), HB2.out, HW2.out⟩, by simp [intOf]⟩
    | some i =>
      have e0 : itv (some i) = Value.pointer (some ⟨i.g, 0, none⟩) := rfl
      rw [e0]
      have HPI := Lib.hid (HP.out w2 HB2.out i (HMJ.out i rfl))
      go_wp2_with fail
      refine HPI.out.mono ?_
      rintro e w3 ⟨rfl, hb3⟩
      have HB3 := Lib.hid (HB2.out.trans (hb3.mono HB2.out.size))
      have HW3 := Lib.hid (HW2.out.below hb3 HW2.out.lt)
      clear hb3
      cases hp : staleF st now i.x.fact with
      | true =>
        have HYES := Lib.hid (show (atI its n (k)).filter (fun i => staleF st now i.x.fact) = some i from by rw [HOJ.out]; simp [Option.filter, hp])
        clear hp
        go_wp2
        go_ret
        exact ⟨by rw [HV2.out, HYES.out]; rfl, HB3.out⟩
      | false =>
        have HNO := Lib.hid (show (atI its n (k)).filter (fun i => staleF st now i.x.fact) = none from by rw [HOJ.out]; simp [Option.filter, hp])
        clear hp
        go_wp2
        exact ⟨⟨1, by omega, rfl, fun _ => HNO.out, fun h => absurd h (by omega), HB3.out, HW3.out⟩, by simp [intOf]⟩
  · have HAJ := Lib.hid (HA.out (0) (by decide) wr HB.out)
    have HMJ := Lib.hid (fun i => HMI.out (0) i)
    have HF := Lib.hid (show ∀ o, atI its n (0) = o → (atI its n (0)).filter (fun i => staleF st now i.x.fact) = o.filter (fun i => staleF st now i.x.fact) from fun o e => by rw [e])
    revert HAJ HMJ HF
    generalize hoj : atI its n (0) = oj
    intro HAJ HMJ HF
    have HOJ := Lib.hid hoj
    clear hoj
    go_wp2_with fail
    refine HAJ.out.mono ?_
    rintro e w2 ⟨rfl, hb2⟩
    have HB2 := Lib.hid (HB.out.trans (hb2.mono HB.out.size))
    have HW2 := Lib.hid (HW.out.below hb2 HW.out.lt)
    clear hb2 HAJ
    cases oj with
    | none =>
      have HNO := Lib.hid (show (atI its n (0)).filter (fun i => staleF st now i.x.fact) = none from by rw [HOJ.out]; rfl)
      have e0 : itv none = Value.pointer none := rfl
      rw [e0]
      go_wp2
      exact ⟨⟨2, by omega, rfl, fun _ => H1.out (by omega), fun _ => HNO.out, HB2.out, HW2.out⟩, by simp [intOf]⟩
    | some i =>
      have e0 : itv (some i) = Value.pointer (some ⟨i.g, 0, none⟩) := rfl
      rw [e0]
      have HPI := Lib.hid (HP.out w2 HB2.out i (HMJ.out i rfl))
      go_wp2_with fail
      refine HPI.out.mono ?_
      rintro e w3 ⟨rfl, hb3⟩
      have HB3 := Lib.hid (HB2.out.trans (hb3.mono HB2.out.size))
      have HW3 := Lib.hid (HW2.out.below hb3 HW2.out.lt)
      clear hb3
      cases hp : staleF st now i.x.fact with
      | true =>
        have HYES := Lib.hid (show (atI its n (0)).filter (fun i => staleF st now i.x.fact) = some i from by rw [HOJ.out]; simp [Option.filter, hp])
        clear hp
        go_wp2
        go_ret
        exact ⟨by rw [HV2.out, H1.out (by omega), HYES.out]; rfl, HB3.out⟩
      | false =>
        have HNO := Lib.hid (show (atI its n (0)).filter (fun i => staleF st now i.x.fact) = none from by rw [HOJ.out]; simp [Option.filter, hp])
        clear hp
        go_wp2
        exact ⟨⟨2, by omega, rfl, fun _ => H1.out (by omega), fun _ => HNO.out, HB3.out, HW3.out⟩, by simp [intOf]⟩
  · go_wp2
    go_ret
    exact ⟨by rw [HV2.out, H1.out (by omega), H2.out (by omega)]; rfl, HB.out⟩

end Go.Proofs.YtmbcbfalgdgmjaaGreatDoor
