/-
  The contracts of the document's Data and of what it calls.
-/
import Derived.Test.YtmbcbfalgdgmjaaDoorKdP2
import Derived.Test.YtmbcbfalgdgmjaaDoorKdP1
import Derived.StillTail
import Derived.Test.YtmbcbfalgdgmjaaDoorProg
import Derived.WalkSpells
import Derived.WalkLawsBesides
import Derived.Laws.Externs
import Derived.StillTailTactics
import Derived.IntWalk
import Derived.Deep.RegionHeld3
import Derived.BigRegion
namespace Go.Proofs.YtmbcbfalgdgmjaaDoor
open Go.RowKit

def fitN (count : Nat) (size : Int) (l : List Int) : Bool := decide (l.length = count) && l.all fun n => fitB n size
theorem all_snocI {l : List Int} {k : Nat} (p : Int → Bool) (h : k < l.length) (ha : (l.take k).all p = true) (hp : p l[k] = true) : (l.take (k + 1)).all p = true := by
  rw [List.take_succ_eq_append_getElem h, List.all_append, ha]
  simp [hp]
theorem all_notI {l : List Int} {k : Nat} (p : Int → Bool) (h : k < l.length) (hp : p l[k] = false) : l.all p = false := by
  rw [List.all_eq_false]
  exact ⟨l[k], List.getElem_mem h, by simp [hp]⟩
def FitRel (l : List Int) (s : Int) (i : Value) : Prop := ∃ k : Nat, k ≤ l.length ∧ i = .int .i64 k ∧ (l.take k).all (fun n => fitB n s) = true




















































































































































































































































































theorem numsOk_two {ah : Nat} {l : List Int} (h : l.length ≤ ah) : numsOk ah l = l.all fun n => fitB n 2 := by
  unfold numsOk
  rw [Bool.eq_iff_iff, List.all_eq_true, List.all_eq_true]
  constructor
  · intro hr n hn
    obtain ⟨i, hi, rfl⟩ := List.getElem_of_mem hn
    have := hr i (List.mem_range.2 hi)
    rw [sizeAt, if_pos (by omega)] at this
    simpa [List.getD, hi] using this
  · intro hr i hi
    have hi2 := List.mem_range.1 hi
    rw [sizeAt, if_pos (by omega)]
    simpa [List.getD, hi2] using hr l[i] (List.getElem_mem hi2)
theorem numsOk_four (l : List Int) : numsOk 0 l = l.all fun n => fitB n 4 := by
  unfold numsOk
  rw [Bool.eq_iff_iff, List.all_eq_true, List.all_eq_true]
  constructor
  · intro hr n hn
    obtain ⟨i, hi, rfl⟩ := List.getElem_of_mem hn
    have := hr i (List.mem_range.2 hi)
    rw [sizeAt, if_neg (by omega)] at this
    simpa [List.getD, hi] using this
  · intro hr i hi
    have hi2 := List.mem_range.1 hi
    rw [sizeAt, if_neg (by omega)]
    simpa [List.getD, hi2] using hr l[i] (List.getElem_mem hi2)
theorem soundNm_true (n : List (List UInt8)) : soundNm n true = soundN n := by
  unfold soundNm
  by_cases h : n.length = 0
  · have : n = [] := List.eq_nil_of_length_eq_zero h
    subst this
    decide
  · simp [h]
theorem soundNm_false (n : List (List UInt8)) : soundNm n false = decide (n.length = 0) := by simp [soundNm]
theorem soundNs_two {a : Nat} {l : List Int} {s : Sh} (h1 : s.ahead = a) (h2 : s.behind = 0) : soundNs s l = fitN a 2 l := by
  unfold soundNs fitN
  rw [h1, h2]
  by_cases h : l.length = a
  · rw [numsOk_two (by omega)]; simp
  · simp [h]
theorem soundNs_four {b : Nat} {l : List Int} {s : Sh} (h1 : s.ahead = 0) (h2 : s.behind = b) : soundNs s l = fitN b 4 l := by
  unfold soundNs fitN
  rw [h1, h2, numsOk_four]
  simp
theorem fitN_zero (s : Int) (l : List Int) : fitN 0 s l = decide (l.length = 0) := by
  unfold fitN
  by_cases h : l.length = 0
  · have : l = [] := List.eq_nil_of_length_eq_zero h
    subst this
    rfl
  · simp [h]

theorem soundD_1 (d : Dt) : soundD 1 d = (decide (d.bytes.length = 4) && (decide (d.host.length = 0) && (decide (d.mail.length = 0) && (decide (d.nums.length = 0) && decide (d.texts.length = 0))))) := by
  have hk : kindB 1 = true := by decide
  have hs : shN 1 = ⟨0, false, false, false, 0, false, 4, 4⟩ := by simp [shN]
  unfold soundD
  rw [hk, hs, soundNs_two (s := ⟨0, false, false, false, 0, false, 4, 4⟩) (a := 0) rfl rfl]
  simp only [soundBs, soundTs, soundNm_false, fitN_zero, Bool.true_and]
  rw [Bool.eq_iff_iff]
  simp only [Bool.and_eq_true, decide_eq_true_eq, if_false, Bool.false_eq_true]
  constructor
  · rintro ⟨⟨a1, a2⟩, a3, a4, a5, a6⟩
    skip
    exact ⟨by omega, a3, a4, a5, a6⟩
  · rintro ⟨b1, b2, b3, b4, b5⟩
    exact ⟨⟨by omega, by omega⟩, b2, b3, b4, b5⟩

theorem soundD_28 (d : Dt) : soundD 28 d = (decide (d.bytes.length = 16) && (decide (d.host.length = 0) && (decide (d.mail.length = 0) && (decide (d.nums.length = 0) && decide (d.texts.length = 0))))) := by
  have hk : kindB 28 = true := by decide
  have hs : shN 28 = ⟨0, false, false, false, 0, false, 16, 16⟩ := by simp [shN]
  unfold soundD
  rw [hk, hs, soundNs_two (s := ⟨0, false, false, false, 0, false, 16, 16⟩) (a := 0) rfl rfl]
  simp only [soundBs, soundTs, soundNm_false, fitN_zero, Bool.true_and]
  rw [Bool.eq_iff_iff]
  simp only [Bool.and_eq_true, decide_eq_true_eq, if_false, Bool.false_eq_true]
  constructor
  · rintro ⟨⟨a1, a2⟩, a3, a4, a5, a6⟩
    skip
    exact ⟨by omega, a3, a4, a5, a6⟩
  · rintro ⟨b1, b2, b3, b4, b5⟩
    exact ⟨⟨by omega, by omega⟩, b2, b3, b4, b5⟩

theorem soundD_2 (d : Dt) : soundD 2 d = (soundN d.host && (decide (d.bytes.length = 0) && (decide (d.mail.length = 0) && (decide (d.nums.length = 0) && decide (d.texts.length = 0))))) := by
  have hk : kindB 2 = true := by decide
  have hs : shN 2 = ⟨0, true, false, true, 0, false, 0, 0⟩ := by simp [shN]
  unfold soundD
  rw [hk, hs, soundNs_two (s := ⟨0, true, false, true, 0, false, 0, 0⟩) (a := 0) rfl rfl]
  simp only [soundBs, soundTs, soundNm_true, soundNm_false, fitN_zero, Bool.true_and]
  rw [Bool.eq_iff_iff]
  simp only [Bool.and_eq_true, decide_eq_true_eq, if_false, Bool.false_eq_true]
  constructor
  · rintro ⟨⟨a1, a2⟩, a3, a4, a5, a6⟩
    skip
    exact ⟨a3, by omega, a4, a5, a6⟩
  · rintro ⟨b1, b2, b3, b4, b5⟩
    exact ⟨⟨by omega, by omega⟩, b1, b3, b4, b5⟩

theorem soundD_5 (d : Dt) : soundD 5 d = (soundN d.host && (decide (d.bytes.length = 0) && (decide (d.mail.length = 0) && (decide (d.nums.length = 0) && decide (d.texts.length = 0))))) := by
  have hk : kindB 5 = true := by decide
  have hs : shN 5 = ⟨0, true, false, true, 0, false, 0, 0⟩ := by simp [shN]
  unfold soundD
  rw [hk, hs, soundNs_two (s := ⟨0, true, false, true, 0, false, 0, 0⟩) (a := 0) rfl rfl]
  simp only [soundBs, soundTs, soundNm_true, soundNm_false, fitN_zero, Bool.true_and]
  rw [Bool.eq_iff_iff]
  simp only [Bool.and_eq_true, decide_eq_true_eq, if_false, Bool.false_eq_true]
  constructor
  · rintro ⟨⟨a1, a2⟩, a3, a4, a5, a6⟩
    skip
    exact ⟨a3, by omega, a4, a5, a6⟩
  · rintro ⟨b1, b2, b3, b4, b5⟩
    exact ⟨⟨by omega, by omega⟩, b1, b3, b4, b5⟩

theorem soundD_12 (d : Dt) : soundD 12 d = (soundN d.host && (decide (d.bytes.length = 0) && (decide (d.mail.length = 0) && (decide (d.nums.length = 0) && decide (d.texts.length = 0))))) := by
  have hk : kindB 12 = true := by decide
  have hs : shN 12 = ⟨0, true, false, true, 0, false, 0, 0⟩ := by simp [shN]
  unfold soundD
  rw [hk, hs, soundNs_two (s := ⟨0, true, false, true, 0, false, 0, 0⟩) (a := 0) rfl rfl]
  simp only [soundBs, soundTs, soundNm_true, soundNm_false, fitN_zero, Bool.true_and]
  rw [Bool.eq_iff_iff]
  simp only [Bool.and_eq_true, decide_eq_true_eq, if_false, Bool.false_eq_true]
  constructor
  · rintro ⟨⟨a1, a2⟩, a3, a4, a5, a6⟩
    skip
    exact ⟨a3, by omega, a4, a5, a6⟩
  · rintro ⟨b1, b2, b3, b4, b5⟩
    exact ⟨⟨by omega, by omega⟩, b1, b3, b4, b5⟩

theorem soundD_15 (d : Dt) : soundD 15 d = (soundN d.host && (fitN 1 2 d.nums && (decide (d.bytes.length = 0) && (decide (d.mail.length = 0) && decide (d.texts.length = 0))))) := by
  have hk : kindB 15 = true := by decide
  have hs : shN 15 = ⟨1, true, false, true, 0, false, 0, 0⟩ := by simp [shN]
  unfold soundD
  rw [hk, hs, soundNs_two (s := ⟨1, true, false, true, 0, false, 0, 0⟩) (a := 1) rfl rfl]
  simp only [soundBs, soundTs, soundNm_true, soundNm_false, Bool.true_and]
  rw [Bool.eq_iff_iff]
  simp only [Bool.and_eq_true, decide_eq_true_eq, if_false, Bool.false_eq_true]
  constructor
  · rintro ⟨⟨a1, a2⟩, a3, a4, a5, a6⟩
    skip
    exact ⟨a3, a5, by omega, a4, a6⟩
  · rintro ⟨b1, b2, b3, b4, b5⟩
    exact ⟨⟨by omega, by omega⟩, b1, b4, b2, b5⟩

theorem soundD_33 (d : Dt) : soundD 33 d = (soundN d.host && (fitN 3 2 d.nums && (decide (d.bytes.length = 0) && (decide (d.mail.length = 0) && decide (d.texts.length = 0))))) := by
  have hk : kindB 33 = true := by decide
  have hs : shN 33 = ⟨3, true, false, false, 0, false, 0, 0⟩ := by simp [shN]
  unfold soundD
  rw [hk, hs, soundNs_two (s := ⟨3, true, false, false, 0, false, 0, 0⟩) (a := 3) rfl rfl]
  simp only [soundBs, soundTs, soundNm_true, soundNm_false, Bool.true_and]
  rw [Bool.eq_iff_iff]
  simp only [Bool.and_eq_true, decide_eq_true_eq, if_false, Bool.false_eq_true]
  constructor
  · rintro ⟨⟨a1, a2⟩, a3, a4, a5, a6⟩
    skip
    exact ⟨a3, a5, by omega, a4, a6⟩
  · rintro ⟨b1, b2, b3, b4, b5⟩
    exact ⟨⟨by omega, by omega⟩, b1, b4, b2, b5⟩

theorem soundD_6 (d : Dt) : soundD 6 d = (soundN d.host && (soundN d.mail && (fitN 5 4 d.nums && (decide (d.bytes.length = 0) && decide (d.texts.length = 0))))) := by
  have hk : kindB 6 = true := by decide
  have hs : shN 6 = ⟨0, true, true, true, 5, false, 0, 0⟩ := by simp [shN]
  unfold soundD
  rw [hk, hs, soundNs_four (s := ⟨0, true, true, true, 5, false, 0, 0⟩) (b := 5) rfl rfl]
  simp only [soundBs, soundTs, soundNm_true, Bool.true_and]
  rw [Bool.eq_iff_iff]
  simp only [Bool.and_eq_true, decide_eq_true_eq, if_false, Bool.false_eq_true]
  constructor
  · rintro ⟨⟨a1, a2⟩, a3, a4, a5, a6⟩
    skip
    exact ⟨a3, a4, a5, by omega, a6⟩
  · rintro ⟨b1, b2, b3, b4, b5⟩
    exact ⟨⟨by omega, by omega⟩, b1, b2, b3, b5⟩

theorem soundD_16 (d : Dt) : soundD 16 d = (decide (1 ≤ d.texts.length) && (decide (d.texts.length ≤ 64) && ((decide (d.bytes.length = 0) && (decide (d.host.length = 0) && (decide (d.mail.length = 0) && decide (d.nums.length = 0)))) && d.texts.all (fun t => decide (t.length ≤ 255))))) := by
  have hk : kindB 16 = true := by decide
  have hs : shN 16 = ⟨0, false, false, false, 0, true, 0, 0⟩ := by simp [shN]
  unfold soundD
  rw [hk, hs, soundNs_two (s := ⟨0, false, false, false, 0, true, 0, 0⟩) (a := 0) rfl rfl]
  simp only [soundBs, soundTs, soundNm_false, fitN_zero, Bool.true_and]
  rw [Bool.eq_iff_iff]
  simp only [Bool.and_eq_true, decide_eq_true_eq, if_true]
  constructor
  · rintro ⟨⟨a1, a2⟩, a3, a4, a5, a6⟩
    obtain ⟨a6, a7, a8⟩ := a6
    exact ⟨a7, a8, ⟨by omega, a3, a4, a5⟩, a6⟩
  · rintro ⟨b1, b2, ⟨b3, b4, b5, b6⟩, b7⟩
    exact ⟨⟨by omega, by omega⟩, b4, b5, b6, b7, b1, b2⟩

theorem soundD_other {k : Int} (d : Dt) (hk : kindB k = true) (h : (k == 1) = false ∧ (k == 28) = false ∧ (k == 2) = false ∧ (k == 5) = false ∧ (k == 12) = false ∧ (k == 15) = false ∧ (k == 6) = false ∧ (k == 16) = false ∧ (k == 33) = false) :
    soundD k d = (decide (d.bytes.length ≤ 65535) && (decide (d.host.length = 0) && (decide (d.mail.length = 0) && (decide (d.nums.length = 0) && decide (d.texts.length = 0))))) := by
  unfold soundD
  rw [hk, shN_other h, soundNs_two (s := ⟨0, false, false, false, 0, false, 0, 65535⟩) (a := 0) rfl rfl]
  simp only [soundBs, soundTs, soundNm_false, fitN_zero, Bool.true_and]
  rw [Bool.eq_iff_iff]
  simp only [Bool.and_eq_true, decide_eq_true_eq, if_false, Bool.false_eq_true]
  constructor
  · rintro ⟨⟨a1, a2⟩, a3, a4, a5, a6⟩
    exact ⟨a2, a3, a4, a5, a6⟩
  · rintro ⟨b1, b2, b3, b4, b5⟩
    exact ⟨⟨by omega, b1⟩, b2, b3, b4, b5⟩

end Go.Proofs.YtmbcbfalgdgmjaaDoor

namespace Go.Proofs.YtmbcbfalgdgmjaaDoor
open Go.RowKit

/-- What the document's Data asks of its argument. -/
structure RefIn (d : Dt) : Prop where
  h : d.host.length ≤ maxLen ∧ ∀ k (h : k < d.host.length), (d.host[k]).length ≤ maxLen
  m : d.mail.length ≤ maxLen ∧ ∀ k (h : k < d.mail.length), (d.mail[k]).length ≤ maxLen
  t : d.texts.length ≤ maxLen
  tl : ∀ k (h : k < d.texts.length), (d.texts[k]).length ≤ maxLen
  n : ∀ n ∈ d.nums, n ≤ 9223372036854775807



































































































































































































































































































































































































































































































































































































end Go.Proofs.YtmbcbfalgdgmjaaDoor

namespace Go.Proofs.YtmbcbfalgdgmjaaDoor
open Go.RowKit


























































































































theorem sound_sz {k : Int} {d : Dt} (h : soundD k d = true) : szN d.host ≤ maxLen ∧ szN d.mail ≤ maxLen := by
  have sp := soundP h
  have key : ∀ (n : List (List UInt8)) (b : Bool), (b = true → soundN n = true) → (b = false → n = []) → szN n ≤ maxLen := by
    intro n b h1 h2
    cases b
    · rw [h2 rfl]; decide
    · have := (soundN_parts (h1 rfl)).2
      unfold maxLen
      omega
  exact ⟨key _ _ sp.h sp.h0, key _ _ sp.m sp.m0⟩
















end Go.Proofs.YtmbcbfalgdgmjaaDoor

namespace Go.Proofs.YtmbcbfalgdgmjaaDoor
open Go.RowKit

/-- Every edge leads back. -/
def backB (ops : Array Oper) : Bool := (List.range ops.size).all fun i => ((ops[i]?).map fun o => o.after.all fun e => decide (e.on < i)).getD true
/-- Operation j yields into slot d0 + j, for each j below n; no guards. -/
def slotsB (ops : Array Oper) (d0 n : Nat) : Bool := (List.range n).all fun i => ((ops[i]?).map fun o => decide (o.dst = some (d0 + i)) && o.guard.isNone).getD false

structure Facts (ops : Array Oper) (d0 n : Nat) (a0 : Act) (S : World → Prop) (F : Nat → Value → World → Prop) (D : Nat → Nat → Value → Value → Prop) (l : Array Bool) (a : Act) (w : World) : Prop where
  inv : HeadInv .any ops n l
  defers : a.defers = a0.defers
  size : a.tmps.size = a0.tmps.size
  low : ∀ s, s < d0 → a.tmps[s]? = a0.tmps[s]?
  S : S w
  facts : ∀ j, j < n → l.getD j false = true → ∃ v, a.tmps[d0 + j]? = some v ∧ F j v w
  dist : ∀ j k, j < n → k < n → j ≠ k → l.getD j false = true → l.getD k false = true → ∀ u v, a.tmps[d0 + j]? = some u → a.tmps[d0 + k]? = some v → D j k u v

/-- How many of the first n have not come up. -/
def left (n : Nat) (l : Array Bool) : Nat := (List.range n).countP fun i => !l.getD i false

theorem left_succ (n : Nat) (l : Array Bool) : left (n + 1) l = left n l + if l.getD n false = true then 0 else 1 := by
  unfold left
  rw [List.range_succ, List.countP_append, List.countP_singleton]
  cases l.getD n false <;> rfl
theorem left_far {i : Nat} {l : Array Bool} : ∀ {n : Nat}, n ≤ i → left n (l.setIfInBounds i true) = left n l
  | 0, _ => rfl
  | n + 1, h => by rw [left_succ, left_succ, left_far (by omega), getD_set_ne false (by omega)]
theorem left_set {i : Nat} {l : Array Bool} (hl : i < l.size) (h : l.getD i false = false) : ∀ {n : Nat}, i < n → left n (l.setIfInBounds i true) + 1 = left n l
  | 0, hi => by omega
  | n + 1, hi => by
    rw [left_succ, left_succ]
    by_cases hin : i = n
    · subst hin
      have : (l.setIfInBounds i true).getD i false = true := by simp [hl]
      rw [left_far (Nat.le_refl _), h, this]
      simp
    · have := left_set hl h (n := n) (by omega)
      rw [getD_set_ne false hin]
      omega

theorem left_zero {n : Nat} {l : Array Bool} (h : left n l = 0) : ∀ j, j < n → l.getD j false = true := by
  intro j hj
  unfold left at h
  have h1 := List.countP_eq_zero.1 h j (List.mem_range.2 hj)
  simpa using h1

theorem ready_some {ops : Array Oper} {n : Nat} {l : Array Bool} (hb : backB ops = true) (hsz : l.size = ops.size) (hn : n ≤ ops.size) : ∀ (d i : Nat), i ≤ d → i < n → l.getD i false = false → Region.ready .any ops l ≠ [] := by
  intro d
  induction d with
  | zero =>
    intro i hi hin hl
    obtain rfl : i = 0 := by omega
    have hlt : 0 < ops.size := by omega
    have h0 := List.all_eq_true.1 hb 0 (List.mem_range.2 hlt)
    rw [Array.getElem?_eq_getElem hlt] at h0
    simp only [Option.map_some, Option.getD_some] at h0
    have : 0 ∈ Region.ready .any ops l := mem_ready.2 ⟨getD_in (by omega) hl, ops[0], Array.getElem?_eq_getElem hlt, fun e he _ => by
      have := Array.all_eq_true'.1 h0 e he
      simp at this⟩
    exact fun h => by rw [h] at this; cases this
  | succ d ih =>
    intro i hi hin hl
    have hlt : i < ops.size := by omega
    have h0 := List.all_eq_true.1 hb i (List.mem_range.2 hlt)
    rw [Array.getElem?_eq_getElem hlt] at h0
    simp only [Option.map_some, Option.getD_some] at h0
    by_cases hall : ∀ e ∈ ops[i].after, Region.binds .any e = true → l.getD e.on false = true
    · have : i ∈ Region.ready .any ops l := mem_ready.2 ⟨getD_in (by omega) hl, ops[i], Array.getElem?_eq_getElem hlt, hall⟩
      exact fun h => by rw [h] at this; cases this
    · have : ∃ e, e ∈ ops[i].after ∧ l.getD e.on false = false := by
        apply Classical.byContradiction
        intro hno
        apply hall
        intro e he _
        cases hx : l.getD e.on false with
        | true => rfl
        | false => exact absurd ⟨e, he, hx⟩ hno
      obtain ⟨e, he, hx⟩ := this
      have := Array.all_eq_true'.1 h0 e he
      simp at this
      exact ih e.on (by omega) (by omega) hx

theorem wpAny_facts {P : Program} {ops : Array Oper} {Q : Exit → Act → World → Prop} {d0 n : Nat} {a0 : Act} {S : World → Prop} {F : Nat → Value → World → Prop} {D : Nat → Nat → Value → Value → Prop}
    (hsz : ops.size = n + 1) (hs : Region.sinkB .any ops n = true) (hc : Region.chainB .any ops n = true) (hb : backB ops = true) (hd : slotsB ops d0 n = true) (ha : d0 + n ≤ a0.tmps.size)
    (hq : Region.seqB .any ops 1 n ((Array.replicate n true).push false) = true)
    (hstep : ∀ i o, i < n → ops[i]? = some o → ∀ l a w, Facts ops d0 n a0 S F D l a w → (∀ e ∈ o.after, Region.binds .any e = true → l.getD e.on false = true) →
      ∀ K : Act → World → Prop, (∀ v w', F i v w' → S w' → (∀ j u, j < n → F j u w → F j u w') → (∀ j u, j < n → F j u w → D i j v u ∧ D j i u v) → K (a.put o.dst v) w') → o.wp P a w K Q)
    (htail : ∀ l a w o, ops[n]? = some o → Facts ops d0 n a0 S F D l a w → (∀ j, j < n → l.getD j false = true) → wpList P ops Q [o] a w) :
    ∀ (f : Nat) (l : Array Bool) (a : Act) (w : World), left n l ≤ f → Facts ops d0 n a0 S F D l a w → wpAny P .any ops Q (left n l + 1) l a w := by
  intro f
  induction f with
  | zero =>
    intro l a w hf h
    have hz : left n l = 0 := by omega
    have hall := left_zero hz
    have hl : l = (Array.replicate n true).push false := by
      apply Array.ext (by simp [h.inv.size, hsz])
      intro i h1 h2
      simp at h2
      rcases Nat.lt_or_ge i n with hi | hi
      · have := hall i hi
        simp [h1] at this
        simp [this, hi, Array.getElem_push]
      · obtain rfl : i = n := by omega
        have := h.inv.tail i (Nat.le_refl _) (by omega)
        simp [h1] at this
        simp [this, Array.getElem_push]
    have hlt : n < ops.size := by omega
    rw [hz, Nat.zero_add, hl]
    rw [hl] at h
    have := wpAny_of_seq (P := P) (md := .any) (ops := ops) (Q' := Q) [ops[n]] n ((Array.replicate n true).push false) a w (fun j => by
      rcases j with _ | j
      · simp [Array.getElem?_eq_getElem hlt]
      · simp
        omega) hq (htail _ a w _ (Array.getElem?_eq_getElem hlt) h fun j hj => hl ▸ hall j hj)
    exact this
  | succ f ih =>
    intro l a w hf h
    by_cases hz : left n l = 0
    · exact ih l a w (by omega) h
    have hne : Region.ready .any ops l ≠ [] := by
      have : ∃ i, i < n ∧ l.getD i false = false := by
        apply Classical.byContradiction
        intro hno
        apply hz
        unfold left
        rw [List.countP_eq_zero]
        intro i hi
        cases hx : l.getD i false with
        | true => simp
        | false => exact absurd ⟨i, List.mem_range.1 hi, hx⟩ hno
      obtain ⟨i, hi, hx⟩ := this
      exact ready_some hb h.inv.size (by omega) i i (Nat.le_refl _) hi hx
    refine ⟨fun h0 => absurd h0 hne, fun i hi => ?_⟩
    obtain ⟨hun, o, ho, hall⟩ := mem_ready.1 hi
    have hin : i < n := by
      rcases Nat.lt_or_ge i n with h1 | h1
      · exact h1
      · have : ∃ i, i < n ∧ l.getD i false = false := by
          apply Classical.byContradiction
          intro hno
          apply hz
          unfold left
          rw [List.countP_eq_zero]
          intro i hi
          cases hx : l.getD i false with
          | true => simp
          | false => exact absurd ⟨i, List.mem_range.1 hi, hx⟩ hno
        obtain ⟨j, hj, hx⟩ := this
        exact absurd hi (tail_waits hs hc (by omega) h.inv _ j rfl hj (getD_in (by rw [h.inv.size]; omega) hx) i h1)
    have hsl := List.all_eq_true.1 hd i (List.mem_range.2 hin)
    rw [ho] at hsl
    simp only [Option.map_some, Option.getD_some, Bool.and_eq_true, decide_eq_true_eq] at hsl
    have hg : o.guard = none := by simpa using hsl.2
    have hls : i < l.size := by rw [h.inv.size]; omega
    have hlt := left_set (l := l) (by rw [h.inv.size]; omega) (getD_both hun) hin
    unfold wpOp
    rw [ho]
    simp only
    rw [if_pos (by unfold Region.wanted; rw [hg])]
    refine .inl (hstep i o hin ho l a w h hall _ fun v w' hF hS hk hD => ?_)
    have hih := ih (l.setIfInBounds i true) (a.put o.dst v) w' (by omega) ?_
    · rwa [hlt] at hih
    · refine ⟨h.inv.set hi hin, by rw [hsl.1]; exact h.defers, by simp [Act.put, hsl.1, h.size], fun s hs => ?_, hS, fun j hj hl => ?_, fun j k hj hk' hjk hlj hlk u v' hu hv => ?_⟩
      · rw [hsl.1]
        simp only [Act.put]
        rw [Array.getElem?_setIfInBounds_ne (by omega)]
        exact h.low s hs
      · rw [hsl.1]
        simp only [Act.put]
        by_cases hij : i = j
        · subst hij
          exact ⟨v, by rw [Array.getElem?_setIfInBounds_self_of_lt (by have := h.size; omega)], hF⟩
        · rw [getD_set_ne false hij] at hl
          obtain ⟨u, hu, hFu⟩ := h.facts j hj hl
          exact ⟨u, by rw [Array.getElem?_setIfInBounds_ne (by omega)]; exact hu, hk j u hj hFu⟩
      · rw [hsl.1] at hu hv
        simp only [Act.put] at hu hv
        by_cases hij : i = j
        · subst hij
          rw [Array.getElem?_setIfInBounds_self_of_lt (by have := h.size; omega)] at hu
          rw [Array.getElem?_setIfInBounds_ne (by omega)] at hv
          injection hu with hu
          subst hu
          rw [getD_set_ne false hjk] at hlk
          obtain ⟨v2, hv2, hFv⟩ := h.facts k hk' hlk
          rw [hv] at hv2
          injection hv2 with hv2
          subst hv2
          exact (hD k v' hk' hFv).1
        · rw [Array.getElem?_setIfInBounds_ne (by omega)] at hu
          rw [getD_set_ne false hij] at hlj
          by_cases hik : i = k
          · subst hik
            rw [Array.getElem?_setIfInBounds_self_of_lt (by have := h.size; omega)] at hv
            injection hv with hv
            subst hv
            obtain ⟨u2, hu2, hFu⟩ := h.facts j hj hlj
            rw [hu] at hu2
            injection hu2 with hu2
            subst hu2
            exact (hD j u hj hFu).2
          · rw [Array.getElem?_setIfInBounds_ne (by omega)] at hv
            rw [getD_set_ne false hik] at hlk
            exact h.dist j k hj hk' hjk hlj hlk u v' hu hv

theorem left_none (n m : Nat) : left n (Array.replicate m false) = n := by
  have h : ∀ n, left n (Array.replicate m false) = n := fun n => by
    induction n with
    | zero => rfl
    | succ n ih => rw [left_succ, ih, getD_replicate_false]; rfl
  exact h n

/-- The region, from its beginning. -/
theorem wp_region_facts {P : Program} {ops : Array Oper} {Q : Exit → Act → World → Prop} {id : Nat} (d0 n : Nat) {a0 : Act} {w : World} (S : World → Prop) (F : Nat → Value → World → Prop) (D : Nat → Nat → Value → Value → Prop)
    (hm : P.follows .mixedOrders = true) (hsz : ops.size = n + 1) (hs : Region.sinkB .any ops n = true) (hc : Region.chainB .any ops n = true) (hb : backB ops = true) (hd : slotsB ops d0 n = true) (ha : d0 + n ≤ a0.tmps.size)
    (hq : Region.seqB .any ops 1 n ((Array.replicate n true).push false) = true) (hS : S w.drew)
    (hstep : ∀ i o, i < n → ops[i]? = some o → ∀ l a w, Facts ops d0 n a0 S F D l a w → (∀ e ∈ o.after, Region.binds .any e = true → l.getD e.on false = true) →
      ∀ K : Act → World → Prop, (∀ v w', F i v w' → S w' → (∀ j u, j < n → F j u w → F j u w') → (∀ j u, j < n → F j u w → D i j v u ∧ D j i u v) → K (a.put o.dst v) w') → o.wp P a w K Q)
    (htail : ∀ l a w o, ops[n]? = some o → Facts ops d0 n a0 S F D l a w → (∀ j, j < n → l.getD j false = true) → wpList P ops Q [o] a w) : (Code.region id ops true).wp P Q a0 w := by
  refine wp_region_any hm ?_
  have h := wpAny_facts hsz hs hc hb hd ha hq hstep htail n (Array.replicate ops.size false) a0 w.drew (by rw [left_none]; exact Nat.le_refl _)
    ⟨⟨by simp, fun j oj _ hl => (by rw [getD_replicate_false] at hl; cases hl), fun t _ ht => getD_in (by simpa using ht) (getD_replicate_false _ _)⟩, rfl, rfl, fun _ _ => rfl, hS,
      fun j _ hl => (by rw [getD_replicate_false] at hl; cases hl), fun j k _ _ _ hl => (by rw [getD_replicate_false] at hl; cases hl)⟩
  rw [left_none] at h
  rw [hsz] at h ⊢
  exact h

end Go.Proofs.YtmbcbfalgdgmjaaDoor

namespace Go.Proofs.YtmbcbfalgdgmjaaDoor
open Go.RowKit

theorem step_build {a : Act} {w : World} {K : Act → World → Prop} {Q : Exit → Act → World → Prop} (o : Oper) (T e : TypeId) (i : TypeInfo) (ho : o.op = .buildSlice T 0 #[]) (hT : Tryd.prog.underlying T = some (.slice e)) (hi : Tryd.prog.info? e = some i)
    (h : K (a.put o.dst (.slice (some ⟨w.heap.size, 0, none⟩) 0 0)) (w.alloc (.cells #[] e))) : o.wp Tryd.prog a w K Q := by
  unfold Oper.wp
  simp [execOp, ho, go_sem, run_underlying hT, sizeOf, typeInfo, hi]
  exact h

theorem step_field {a : Act} {w : World} {K : Act → World → Prop} {Q : Exit → Act → World → Prop} (o : Oper) (j H : Nat) (hj : j < 5) (ho : o.op = .fieldAddr 31 (.tmp 1) j) (h1 : a.tmps[1]? = some (.pointer (some ⟨H, 0, none⟩)))
    (h : K (a.put o.dst (.pointer (some ⟨H, j, none⟩))) w) : o.wp Tryd.prog a w K Q := by
  unfold Oper.wp
  obtain rfl | rfl | rfl | rfl | rfl : j = 0 ∨ j = 1 ∨ j = 2 ∨ j = 3 ∨ j = 4 := by omega
  all_goals
    simp [execOp, ho, h1, go_sem]
    exact h

theorem step_load {a : Act} {w : World} {K : Act → World → Prop} {Q : Exit → Act → World → Prop} (o : Oper) (T e : TypeId) (k : Nat) (p : Addr) (v : Value) (ho : o.op = .load T (.tmp k)) (hT : Tryd.prog.underlying T = some (.slice e)) (h1 : a.tmps[k]? = some (.pointer (some p)))
    (hc : w.cell? p = some v) (h : K (a.put o.dst v) w) : o.wp Tryd.prog a w K Q := by
  unfold Oper.wp
  simp [execOp, ho, h1, go_sem, isAgg, run_underlying hT, hc]
  exact h

theorem step_append {a : Act} {w : World} {K : Act → World → Prop} {Q : Exit → Act → World → Prop} (o : Oper) (k1 k2 : Nat) (B : Nat) (t e : TypeId) (i : TypeInfo) (z : Value) (bytes : Nat) (ho : o.op = .call { callee := .builtin .append, args := #[.tmp k1, .tmp k2], argTypes := #[t, t] })
    (ht : Tryd.prog.underlying t = some (.slice e)) (hi : Tryd.prog.info? e = some i) (hz : i.zero = some z) (hsize : i.size = 1) (hby : i.bytes = bytes) (hzs : z.cells.size = 1) (v : Value)
    (h1 : a.tmps[k1]? = some v) (hv : ∃ g, v = .slice (some ⟨g, 0, none⟩) 0 0 ∧ B ≤ g ∧ w.heap[g]? = some (.cells #[] e (0, 0)))
    (A : Option Addr) (m c H : Nat) (news : List Value) (h2 : a.tmps[k2]? = some (.slice A m c)) (hl : news.length = m) (hr : Row w H A news) (hn1 : ∀ u ∈ news, u.oneCell' = true) (h63 : m ≤ maxLen) (hbytes : m * bytes ≤ 140737488355328) (hB : B ≤ w.heap.size)
    (h : ∀ v' w', w'.ownsRow B e 1 v' m news → Below w.heap.size w w' → (0 < m → v'.ownBlock = some w.heap.size) → K (a.put o.dst v') w') : o.wp Tryd.prog a w K Q := by
  obtain ⟨g, rfl, hg, hh⟩ := hv
  obtain ⟨v', w', hrun, h3, h4, h5⟩ := append_zero_run (P := Tryd.prog) w B t o.type e i z bytes ht hi hz hsize hby hzs g hg hh A m c H news hl hr hn1 h63 hbytes hB
  unfold Oper.wp
  simp [execOp, ho, resolve, invoke, builtin, Act.eval, h1, h2, hrun, Result.andThen]
  exact h v' w' h3 h4 h5

theorem step_store {a : Act} {w : World} {K : Act → World → Prop} {Q : Exit → Act → World → Prop} (o : Oper) (g : Nat) (y : DV) (d : Dt) (u0 u1 u2 u3 u4 : Value) (ho : o.op = .store 31 (.tmp 2) (.tmp 23)) (h2 : a.tmps[2]? = some (.pointer (some ⟨g, 0, none⟩)))
    (hu : a.tmps[23]? = some (y.val d)) (hw : Whole w g 31 [u0, u1, u2, u3, u4])
    (h : K (a.put o.dst undef) (((((w.setCell ⟨g, 0, none⟩ (y.vb d)).setCell ⟨g, 1, none⟩ (y.vh d)).setCell ⟨g, 2, none⟩ (y.vm d)).setCell ⟨g, 3, none⟩ (y.vn d)).setCell ⟨g, 4, none⟩ (y.vt d))) : o.wp Tryd.prog a w K Q := by
  have q0 : w.cell? ⟨g, 0, none⟩ = some u0 := hw.cell 0
  have q1 : w.cell? ⟨g, 1, none⟩ = some u1 := hw.cell 1
  have q2 : w.cell? ⟨g, 2, none⟩ = some u2 := hw.cell 2
  have q3 : w.cell? ⟨g, 3, none⟩ = some u3 := hw.cell 3
  have q4 : w.cell? ⟨g, 4, none⟩ = some u4 := hw.cell 4
  have z0 : w.frozen? ⟨g, 0, none⟩ = false := hw.frozen 0
  have z1 : w.frozen? ⟨g, 1, none⟩ = false := hw.frozen 1
  have z2 : w.frozen? ⟨g, 2, none⟩ = false := hw.frozen 2
  have z3 : w.frozen? ⟨g, 3, none⟩ = false := hw.frozen 3
  have z4 : w.frozen? ⟨g, 4, none⟩ = false := hw.frozen 4
  unfold Oper.wp
  simp [execOp, ho, go_sem, h2, hu, q0, q1, q2, q3, q4, z0, z1, z2, z3, z4]
  exact h

/-- What each operation of the region yields. -/
def factF (H B : Nat) (x : DV) (d : Dt) : Nat → Value → World → Prop
  | 0 => fun v w => ∃ g, v = .slice (some ⟨g, 0, none⟩) 0 0 ∧ B ≤ g ∧ w.heap[g]? = some (.cells #[] 5 (0, 0))
  | 1 => fun v _ => v = .pointer (some ⟨H, 0, none⟩)
  | 2 => fun v _ => v = .slice x.Ab d.bytes.length x.cb
  | 3 => fun v w => w.ownsRow B 5 1 v d.bytes.length (d.bytes.map bc)
  | 4 => fun v w => ∃ g, v = .slice (some ⟨g, 0, none⟩) 0 0 ∧ B ≤ g ∧ w.heap[g]? = some (.cells #[] 9 (0, 0))
  | 5 => fun v _ => v = .pointer (some ⟨H, 1, none⟩)
  | 6 => fun v _ => v = .slice x.Ah d.host.length x.ch
  | 7 => fun v w => w.ownsRow B 9 1 v d.host.length (d.host.map sv)
  | 8 => fun v w => ∃ g, v = .slice (some ⟨g, 0, none⟩) 0 0 ∧ B ≤ g ∧ w.heap[g]? = some (.cells #[] 9 (0, 0))
  | 9 => fun v _ => v = .pointer (some ⟨H, 2, none⟩)
  | 10 => fun v _ => v = .slice x.Am d.mail.length x.cm
  | 11 => fun v w => w.ownsRow B 9 1 v d.mail.length (d.mail.map sv)
  | 12 => fun v w => ∃ g, v = .slice (some ⟨g, 0, none⟩) 0 0 ∧ B ≤ g ∧ w.heap[g]? = some (.cells #[] 3 (0, 0))
  | 13 => fun v _ => v = .pointer (some ⟨H, 3, none⟩)
  | 14 => fun v _ => v = .slice x.An d.nums.length x.cn
  | 15 => fun v w => w.ownsRow B 3 1 v d.nums.length (d.nums.map zv)
  | 16 => fun v w => ∃ g, v = .slice (some ⟨g, 0, none⟩) 0 0 ∧ B ≤ g ∧ w.heap[g]? = some (.cells #[] 9 (0, 0))
  | 17 => fun v _ => v = .pointer (some ⟨H, 4, none⟩)
  | 18 => fun v _ => v = .slice x.At d.texts.length x.ct
  | 19 => fun v w => w.ownsRow B 9 1 v d.texts.length (d.texts.map sv)
  | 20 => fun v w => ∃ y : DV, v = y.val d ∧ OwnD w B y d ∧ Apart (y.vh d) (y.vm d) ∧ Apart (y.vh d) (y.vt d)
  | _ => fun _ _ => True
theorem heap_some_lt {w : World} {g : Nat} {o : Obj} (h : w.heap[g]? = some o) : g < w.heap.size := by
  rcases Nat.lt_or_ge g w.heap.size with h1 | h1
  · exact h1
  · rw [Array.getElem?_eq_none h1] at h; cases h
theorem factF_mono {H B : Nat} {x : DV} {d : Dt} {w w' : World} (hw : ∀ g, g < w.heap.size → w'.heap[g]? = w.heap[g]?) : ∀ j u, j < 21 → factF H B x d j u w → factF H B x d j u w'
  | 0, _, _, ⟨g, e, hg, hh⟩ => ⟨g, e, hg, (hw g (heap_some_lt hh)).trans hh⟩
  | 1, _, _, h => h
  | 2, _, _, h => h
  | 3, _, _, h => own_keep h fun g e => hw g (World.ownsRow.lt h g e).2
  | 4, _, _, ⟨g, e, hg, hh⟩ => ⟨g, e, hg, (hw g (heap_some_lt hh)).trans hh⟩
  | 5, _, _, h => h
  | 6, _, _, h => h
  | 7, _, _, h => own_keep h fun g e => hw g (World.ownsRow.lt h g e).2
  | 8, _, _, ⟨g, e, hg, hh⟩ => ⟨g, e, hg, (hw g (heap_some_lt hh)).trans hh⟩
  | 9, _, _, h => h
  | 10, _, _, h => h
  | 11, _, _, h => own_keep h fun g e => hw g (World.ownsRow.lt h g e).2
  | 12, _, _, ⟨g, e, hg, hh⟩ => ⟨g, e, hg, (hw g (heap_some_lt hh)).trans hh⟩
  | 13, _, _, h => h
  | 14, _, _, h => h
  | 15, _, _, h => own_keep h fun g e => hw g (World.ownsRow.lt h g e).2
  | 16, _, _, ⟨g, e, hg, hh⟩ => ⟨g, e, hg, (hw g (heap_some_lt hh)).trans hh⟩
  | 17, _, _, h => h
  | 18, _, _, h => h
  | 19, _, _, h => own_keep h fun g e => hw g (World.ownsRow.lt h g e).2
  | 20, _, _, ⟨y, e, h, h1, h2⟩ => ⟨y, e, h.keep hw, h1, h2⟩
  | n + 21, _, h, _ => absurd h (by omega)
def isApp (i : Nat) : Bool := decide (i % 4 = 3)
def ownAp (i j : Nat) (u v : Value) : Prop := isApp i = true → isApp j = true → Apart u v
theorem factF_lt {H B : Nat} {x : DV} {d : Dt} {w : World} : ∀ j u, j < 21 → isApp j = true → factF H B x d j u w → ∀ g, u.ownBlock = some g → g < w.heap.size
  | 0, _, _, h, _, _, _ => by cases h
  | 1, _, _, h, _, _, _ => by cases h
  | 2, _, _, h, _, _, _ => by cases h
  | 3, _, _, _, h, g, e => (World.ownsRow.lt h g e).2
  | 4, _, _, h, _, _, _ => by cases h
  | 5, _, _, h, _, _, _ => by cases h
  | 6, _, _, h, _, _, _ => by cases h
  | 7, _, _, _, h, g, e => (World.ownsRow.lt h g e).2
  | 8, _, _, h, _, _, _ => by cases h
  | 9, _, _, h, _, _, _ => by cases h
  | 10, _, _, h, _, _, _ => by cases h
  | 11, _, _, _, h, g, e => (World.ownsRow.lt h g e).2
  | 12, _, _, h, _, _, _ => by cases h
  | 13, _, _, h, _, _, _ => by cases h
  | 14, _, _, h, _, _, _ => by cases h
  | 15, _, _, _, h, g, e => (World.ownsRow.lt h g e).2
  | 16, _, _, h, _, _, _ => by cases h
  | 17, _, _, h, _, _, _ => by cases h
  | 18, _, _, h, _, _, _ => by cases h
  | 19, _, _, _, h, g, e => (World.ownsRow.lt h g e).2
  | 20, _, _, h, _, _, _ => by cases h
  | n + 21, _, h, _, _, _, _ => absurd h (by omega)

theorem Apart.symm {u v : Value} (h : Apart u v) : Apart v u := by
  intro g k n m c c' e1 e2 h1 h2 e
  exact h k g m n c' c e2 e1 h2 h1 e.symm
theorem apart_new {H B : Nat} {x : DV} {d : Dt} {w w' : World} {i m : Nat} {v : Value} {t : TypeId} {xs : List Value} (ho : w'.ownsRow B t 1 v m xs) (hn : 0 < m → v.ownBlock = some w.heap.size) :
    ∀ j u, j < 21 → factF H B x d j u w → ownAp i j v u ∧ ownAp j i u v := by
  intro j u hj hF
  have h : isApp j = true → Apart v u := fun hj2 g k n m2 c c' e1 e2 h1 h2 e => by
    have hk := factF_lt j u hj hj2 hF k (by rw [e2]; rfl)
    obtain ⟨A, c2, e3, _, _⟩ := own_form ho
    rw [e1] at e3
    injection e3 with _ e4 _
    have hb := hn (by omega)
    rw [e1] at hb
    simp only [Value.ownBlock, Option.some.injEq] at hb
    omega
  exact ⟨fun _ hj2 => h hj2, fun hj2 _ => (h hj2).symm⟩
theorem apart_not {i j : Nat} {v u : Value} (h : isApp i = false) : ownAp i j v u ∧ ownAp j i u v := ⟨fun h1 => (by rw [h] at h1; cases h1), fun _ h1 => (by rw [h] at h1; cases h1)⟩

structure OwnS (W : World) (B : Nat) (w : World) : Prop where
  below : Below B W w
  size : B ≤ w.heap.size
theorem OwnS.more {W w w' : World} {B : Nat} (h : OwnS W B w) (hb : Below w.heap.size w w') : OwnS W B w' := ⟨h.below.trans (hb.mono h.size), Nat.le_trans h.size hb.size⟩

/-- What the call leaves: data that shares nothing. -/
def Owns (w : World) (d : Dt) (e : Ending) (w' : World) : Prop :=
  ∃ y : DV, e = .returned (y.val d) ∧ OwnD w' w.heap.size y d ∧ Apart (y.vh d) (y.vm d) ∧ Apart (y.vh d) (y.vt d) ∧ Below w.heap.size w w'

/-- Few parts, whatever their lengths. -/
structure FewD (d : Dt) : Prop where
  nh : d.host.length ≤ 300
  nm : d.mail.length ≤ 300
  nt : d.texts.length ≤ 200
  nn : d.nums.length ≤ 200
  nb : d.bytes.length ≤ 200000
theorem LightD.few {d : Dt} (h : LightD d) : FewD d := ⟨h.nh, h.nm, h.nt, h.nn, Nat.le_trans h.nb (by omega)⟩



























































































































































































end Go.Proofs.YtmbcbfalgdgmjaaDoor

namespace Go.Proofs.YtmbcbfalgdgmjaaDoor
open Go.RowKit

theorem run_enter {P : Program} {f : FuncId} {fn : Func} {c : Code} (hf : P.funcs[f]? = some fn) (hname : (fn.name == "runtime.NumGoroutine") = false) (hb : fn.body = some c) (args : Array Value) (w : World) :
    (callFunc f args).run P w = .ok (.enter f args) w := by
  have h1 : fn.name ≠ "runtime.NumGoroutine" := by simpa using hname
  simp [callFunc, hf, h1, hb]
/-- What 'fresh' leaves: a row of its own. -/
def Fresh (w : World) (t : TypeId) (n : Nat) (xs : List Value) (e : Ending) (w' : World) : Prop := ∃ v, e = .returned v ∧ w'.ownsRow w.heap.size t 1 v n xs ∧ Below w.heap.size w w'

theorem enter_byte (args : Array Value) (w : World) : (callFunc 42 args).run Tryd.prog w = .ok (.enter 42 args) w := run_enter Tryd.func42 (by kernel_rfl) rfl args w
set_option maxHeartbeats 400000 in
theorem fresh_byte (A : Option Addr) (m c H : Nat) (xs : List Value) (w : World) (hl : xs.length = m) (hA : Row w H A xs) (h1 : ∀ u ∈ xs, u.oneCell' = true) (hm : m ≤ 1000000) :
    Calls Tryd.prog 42 #[.slice A m c] w (Fresh w 5 m xs) := by
  obtain ⟨i0, hi0, hz0, hz1, hz2⟩ := info_parts u8_info
  have HA := Lib.hid hA
  have HL := Lib.hid hl
  have H1 := Lib.hid h1
  clear hA hl h1
  go_enter Tryd.func42, Tryd.ntmps42
  go_wp2_with (
    at_builtin
    refine wpList_append_row rfl (.const (.slice none 0 0)) (.tmp 3) _ rfl w.heap.size 5 i0 _ 1 1 Tryd.underlying22 hi0 hz0 hz1 hz2 rfl (by omega) (.slice none 0 0) 0 [] rfl (World.ownsRow_nil _ _ _ _)
      A m c H xs rfl (by rw [HL.out, Nat.mul_one]) HA.out H1.out (by unfold maxLen; omega) (by omega) (Nat.le_refl _) ?_
    intro v2 w2 hown2 hg2
    simp only [Nat.zero_add, List.nil_append] at hown2
    have HO2 := Lib.hid hown2
    have HB2 := Lib.hid (own_below (Below.refl w.heap.size w) (Nat.le_refl _) (Nat.le_refl _) (World.ownsRow_nil w w.heap.size 5 1) hg2)
    clear hown2 hg2)
  go_ret
  exact ⟨_, rfl, HO2.out, HB2.out⟩

theorem enter_string (args : Array Value) (w : World) : (callFunc 26 args).run Tryd.prog w = .ok (.enter 26 args) w := run_enter Tryd.func26 (by kernel_rfl) rfl args w
set_option maxHeartbeats 400000 in
theorem fresh_string (A : Option Addr) (m c H : Nat) (xs : List Value) (w : World) (hl : xs.length = m) (hA : Row w H A xs) (h1 : ∀ u ∈ xs, u.oneCell' = true) (hm : m ≤ 1000000) :
    Calls Tryd.prog 26 #[.slice A m c] w (Fresh w 9 m xs) := by
  obtain ⟨i0, hi0, hz0, hz1, hz2⟩ := info_parts str_info
  have HA := Lib.hid hA
  have HL := Lib.hid hl
  have H1 := Lib.hid h1
  clear hA hl h1
  go_enter Tryd.func26, Tryd.ntmps26
  go_wp2_with (
    at_builtin
    refine wpList_append_row rfl (.const (.slice none 0 0)) (.tmp 3) _ rfl w.heap.size 9 i0 _ 1 16 Tryd.underlying28 hi0 hz0 hz1 hz2 rfl (by omega) (.slice none 0 0) 0 [] rfl (World.ownsRow_nil _ _ _ _)
      A m c H xs rfl (by rw [HL.out, Nat.mul_one]) HA.out H1.out (by unfold maxLen; omega) (by omega) (Nat.le_refl _) ?_
    intro v2 w2 hown2 hg2
    simp only [Nat.zero_add, List.nil_append] at hown2
    have HO2 := Lib.hid hown2
    have HB2 := Lib.hid (own_below (Below.refl w.heap.size w) (Nat.le_refl _) (Nat.le_refl _) (World.ownsRow_nil w w.heap.size 9 1) hg2)
    clear hown2 hg2)
  go_ret
  exact ⟨_, rfl, HO2.out, HB2.out⟩

theorem enter_int (args : Array Value) (w : World) : (callFunc 43 args).run Tryd.prog w = .ok (.enter 43 args) w := run_enter Tryd.func43 (by kernel_rfl) rfl args w
set_option maxHeartbeats 400000 in
theorem fresh_int (A : Option Addr) (m c H : Nat) (xs : List Value) (w : World) (hl : xs.length = m) (hA : Row w H A xs) (h1 : ∀ u ∈ xs, u.oneCell' = true) (hm : m ≤ 1000000) :
    Calls Tryd.prog 43 #[.slice A m c] w (Fresh w 3 m xs) := by
  obtain ⟨i0, hi0, hz0, hz1, hz2⟩ := info_parts zint_info
  have HA := Lib.hid hA
  have HL := Lib.hid hl
  have H1 := Lib.hid h1
  clear hA hl h1
  go_enter Tryd.func43, Tryd.ntmps43
  go_wp2_with (
    at_builtin
    refine wpList_append_row rfl (.const (.slice none 0 0)) (.tmp 3) _ rfl w.heap.size 3 i0 _ 1 8 Tryd.underlying29 hi0 hz0 hz1 hz2 rfl (by omega) (.slice none 0 0) 0 [] rfl (World.ownsRow_nil _ _ _ _)
      A m c H xs rfl (by rw [HL.out, Nat.mul_one]) HA.out H1.out (by unfold maxLen; omega) (by omega) (Nat.le_refl _) ?_
    intro v2 w2 hown2 hg2
    simp only [Nat.zero_add, List.nil_append] at hown2
    have HO2 := Lib.hid hown2
    have HB2 := Lib.hid (own_below (Below.refl w.heap.size w) (Nat.le_refl _) (Nat.le_refl _) (World.ownsRow_nil w w.heap.size 3 1) hg2)
    clear hown2 hg2)
  go_ret
  exact ⟨_, rfl, HO2.out, HB2.out⟩

set_option maxRecDepth 8000 in
theorem step_fresh {a : Act} {w : World} {K : Act → World → Prop} {Q : Exit → Act → World → Prop} (o : Oper) (f : FuncId) (k : Nat) (ty e : TypeId) (n : Nat) (xs : List Value) (v : Value) (ho : o.op = .call { callee := .value (.func f), args := #[.tmp k], argTypes := #[ty] }) (h1 : a.tmps[k]? = some v) (he : (callFunc f #[v]).run Tryd.prog w = .ok (.enter f #[v]) w)
    (hc : Calls Tryd.prog f #[v] w (Fresh w e n xs)) (h : ∀ u w', w'.ownsRow w.heap.size e 1 u n xs → Below w.heap.size w w' → K (a.put o.dst u) w') : o.wp Tryd.prog a w K Q := by
  unfold Oper.wp
  simp [execOp, ho, resolve, invoke, Act.eval, h1, go_sem]
  rw [he]
  refine hc.mono ?_
  rintro _ w' ⟨u, rfl, h2, h3⟩
  exact h u w' h2 h3

/-- What each operation of the region yields. -/
def factC (H B : Nat) (x : DV) (d : Dt) : Nat → Value → World → Prop
  | 0 => fun v _ => v = .pointer (some ⟨H, 0, none⟩)
  | 1 => fun v _ => v = .slice x.Ab d.bytes.length x.cb
  | 2 => fun v w => w.ownsRow B 5 1 v d.bytes.length (d.bytes.map bc)
  | 3 => fun v _ => v = .pointer (some ⟨H, 1, none⟩)
  | 4 => fun v _ => v = .slice x.Ah d.host.length x.ch
  | 5 => fun v w => w.ownsRow B 9 1 v d.host.length (d.host.map sv)
  | 6 => fun v _ => v = .pointer (some ⟨H, 2, none⟩)
  | 7 => fun v _ => v = .slice x.Am d.mail.length x.cm
  | 8 => fun v w => w.ownsRow B 9 1 v d.mail.length (d.mail.map sv)
  | 9 => fun v _ => v = .pointer (some ⟨H, 3, none⟩)
  | 10 => fun v _ => v = .slice x.An d.nums.length x.cn
  | 11 => fun v w => w.ownsRow B 3 1 v d.nums.length (d.nums.map zv)
  | 12 => fun v _ => v = .pointer (some ⟨H, 4, none⟩)
  | 13 => fun v _ => v = .slice x.At d.texts.length x.ct
  | 14 => fun v w => w.ownsRow B 9 1 v d.texts.length (d.texts.map sv)
  | 15 => fun v w => ∃ y : DV, v = y.val d ∧ OwnD w B y d
  | _ => fun _ _ => True
set_option maxRecDepth 8000 in
theorem factC_mono {H B : Nat} {x : DV} {d : Dt} {w w' : World} (hw : ∀ g, g < w.heap.size → w'.heap[g]? = w.heap[g]?) : ∀ j u, j < 16 → factC H B x d j u w → factC H B x d j u w'
  | 0, _, _, h => h
  | 1, _, _, h => h
  | 2, _, _, h => own_keep h fun g e => hw g (World.ownsRow.lt h g e).2
  | 3, _, _, h => h
  | 4, _, _, h => h
  | 5, _, _, h => own_keep h fun g e => hw g (World.ownsRow.lt h g e).2
  | 6, _, _, h => h
  | 7, _, _, h => h
  | 8, _, _, h => own_keep h fun g e => hw g (World.ownsRow.lt h g e).2
  | 9, _, _, h => h
  | 10, _, _, h => h
  | 11, _, _, h => own_keep h fun g e => hw g (World.ownsRow.lt h g e).2
  | 12, _, _, h => h
  | 13, _, _, h => h
  | 14, _, _, h => own_keep h fun g e => hw g (World.ownsRow.lt h g e).2
  | 15, _, _, ⟨y, e, h⟩ => ⟨y, e, h.keep hw⟩
  | n + 16, _, h, _ => absurd h (by omega)

/-- What the call leaves: data of its own. -/
def OwnsC (w : World) (d : Dt) (e : Ending) (w' : World) : Prop := ∃ y : DV, e = .returned (y.val d) ∧ OwnD w' w.heap.size y d ∧ Below w.heap.size w w'

set_option maxRecDepth 8000 in
theorem step_storeC {a : Act} {w : World} {K : Act → World → Prop} {Q : Exit → Act → World → Prop} (o : Oper) (g : Nat) (y : DV) (d : Dt) (u0 u1 u2 u3 u4 : Value) (ho : o.op = .store 31 (.tmp 2) (.tmp 18)) (h2 : a.tmps[2]? = some (.pointer (some ⟨g, 0, none⟩)))
    (hu : a.tmps[18]? = some (y.val d)) (hw : Whole w g 31 [u0, u1, u2, u3, u4])
    (h : K (a.put o.dst undef) (((((w.setCell ⟨g, 0, none⟩ (y.vb d)).setCell ⟨g, 1, none⟩ (y.vh d)).setCell ⟨g, 2, none⟩ (y.vm d)).setCell ⟨g, 3, none⟩ (y.vn d)).setCell ⟨g, 4, none⟩ (y.vt d))) : o.wp Tryd.prog a w K Q := by
  have q0 : w.cell? ⟨g, 0, none⟩ = some u0 := hw.cell 0
  have q1 : w.cell? ⟨g, 1, none⟩ = some u1 := hw.cell 1
  have q2 : w.cell? ⟨g, 2, none⟩ = some u2 := hw.cell 2
  have q3 : w.cell? ⟨g, 3, none⟩ = some u3 := hw.cell 3
  have q4 : w.cell? ⟨g, 4, none⟩ = some u4 := hw.cell 4
  have z0 : w.frozen? ⟨g, 0, none⟩ = false := hw.frozen 0
  have z1 : w.frozen? ⟨g, 1, none⟩ = false := hw.frozen 1
  have z2 : w.frozen? ⟨g, 2, none⟩ = false := hw.frozen 2
  have z3 : w.frozen? ⟨g, 3, none⟩ = false := hw.frozen 3
  have z4 : w.frozen? ⟨g, 4, none⟩ = false := hw.frozen 4
  unfold Oper.wp
  simp [execOp, ho, go_sem, h2, hu, q0, q1, q2, q3, q4, z0, z1, z2, z3, z4]
  exact h

set_option maxRecDepth 20000 in
set_option maxHeartbeats 1000000 in
theorem copyOf_any (x : DV) (d : Dt) (w : World) (h : DataAt w w.heap.size x d) (hl : FewD d) :
    Calls Tryd.prog 28 #[x.val d] w (OwnsC w d) := by
  obtain ⟨hnh, hnm, hnt, hnn, hnb⟩ := hl
  go_enter Tryd.func28, Tryd.ntmps28
  go_wp2
  rename_i hret
  obtain ⟨W, hW⟩ : ∃ W, W = (w.alloc (.cells #[x.vb d, x.vh d, x.vm d, x.vn d, x.vt d] 31)).alloc (.cells #[.slice none 0 0, .slice none 0 0, .slice none 0 0, .slice none 0 0, .slice none 0 0] 31) := ⟨_, rfl⟩
  rw [← hW]
  have hw0 : Whole W w.heap.size 31 [x.vb d, x.vh d, x.vm d, x.vn d, x.vt d] := by
    rw [hW]
    exact (Whole.made w [x.vb d, x.vh d, x.vm d, x.vn d, x.vt d] _).alloc _
  have hw1 : Whole W (w.heap.size + 1) 31 [.slice none 0 0, .slice none 0 0, .slice none 0 0, .slice none 0 0, .slice none 0 0] := by
    rw [hW]
    have := Whole.made (w.alloc (.cells #[x.vb d, x.vh d, x.vm d, x.vn d, x.vt d] 31)) [.slice none 0 0, .slice none 0 0, .slice none 0 0, .slice none 0 0, .slice none 0 0] 31
    simpa using this
  have hbW : Below w.heap.size w W := by
    rw [hW]
    exact ((Below.refl _ _).alloc (Nat.le_refl _) _).alloc (by simp) _
  have hsW : W.heap.size = w.heap.size + 2 := by rw [hW]; simp
  have hdW : DataAt W w.heap.size x d := h.below hbW
  clear hW
  refine wp_region_facts 3 16 (OwnS W (w.heap.size + 2)) (factC w.heap.size (w.heap.size + 2) x d) (fun _ _ _ _ => True) (by kernel_rfl) rfl (by kernel_rfl) (by kernel_rfl) (by kernel_rfl) (by kernel_rfl) (by simp) (by kernel_rfl)
    ⟨(Below.refl _ W).drew, by simp [hsW]⟩ ?step ?tail
  case step =>
    intro i o hi ho l a v hF hdep K hK
    have hS := hF.S
    have h1 : a.tmps[1]? = some (.pointer (some ⟨w.heap.size, 0, none⟩)) := hF.low 1 (by omega)
    have hcell : ∀ k, v.cell? ⟨w.heap.size, k, none⟩ = [x.vb d, x.vh d, x.vm d, x.vn d, x.vt d][k]? := (hw0.below hS.below (by omega)).cell
    have hdv : DataAt v w.heap.size x d := hdW.below (hS.below.mono (by omega))
    have hK' : ∀ u w', factC w.heap.size (w.heap.size + 2) x d i u w' → Below v.heap.size v w' → K (a.put o.dst u) w' := fun u w' h2 h3 => hK u w' h2 (hS.more h3) (factC_mono fun g hg => h3.block g hg) fun _ _ _ _ => ⟨trivial, trivial⟩
    clear hK
    match i, hi, ho, hK' with
    | 0, _, ho, hK =>
      obtain rfl := Option.some.inj ho
      exact step_field _ 0 w.heap.size (by omega) rfl h1 (hK _ _ rfl (Below.refl _ _))
    | 1, _, ho, hK =>
      obtain rfl := Option.some.inj ho
      obtain ⟨u, hu, hFu⟩ := hF.facts 0 (by omega) (hdep ⟨0, .data⟩ (by simp) rfl)
      obtain rfl : u = .pointer (some ⟨w.heap.size, 0, none⟩) := hFu
      exact step_load _ 22 5 3 ⟨w.heap.size, 0, none⟩ _ rfl Tryd.underlying22 hu (hcell 0) (hK _ _ rfl (Below.refl _ _))
    | 2, _, ho, hK =>
      obtain rfl := Option.some.inj ho
      obtain ⟨y, hy, hFy⟩ := hF.facts 1 (by omega) (hdep ⟨1, .data⟩ (by simp) rfl)
      obtain rfl : y = .slice x.Ab d.bytes.length x.cb := hFy
      exact step_fresh _ 42 4 22 5 d.bytes.length (d.bytes.map bc) _ rfl hy (enter_byte _ _) (fresh_byte x.Ab d.bytes.length x.cb w.heap.size (d.bytes.map bc) v (by simp) hdv.b (bc_one _) (by omega))
        fun u w' h2 h3 => hK _ _ (own_mono h2 hS.size) h3
    | 3, _, ho, hK =>
      obtain rfl := Option.some.inj ho
      exact step_field _ 1 w.heap.size (by omega) rfl h1 (hK _ _ rfl (Below.refl _ _))
    | 4, _, ho, hK =>
      obtain rfl := Option.some.inj ho
      obtain ⟨u, hu, hFu⟩ := hF.facts 3 (by omega) (hdep ⟨3, .data⟩ (by simp) rfl)
      obtain rfl : u = .pointer (some ⟨w.heap.size, 1, none⟩) := hFu
      exact step_load _ 28 9 6 ⟨w.heap.size, 1, none⟩ _ rfl Tryd.underlying28 hu (hcell 1) (hK _ _ rfl (Below.refl _ _))
    | 5, _, ho, hK =>
      obtain rfl := Option.some.inj ho
      obtain ⟨y, hy, hFy⟩ := hF.facts 4 (by omega) (hdep ⟨4, .data⟩ (by simp) rfl)
      obtain rfl : y = .slice x.Ah d.host.length x.ch := hFy
      exact step_fresh _ 26 7 28 9 d.host.length (d.host.map sv) _ rfl hy (enter_string _ _) (fresh_string x.Ah d.host.length x.ch w.heap.size (d.host.map sv) v (by simp) hdv.h (sv_one _) (by omega))
        fun u w' h2 h3 => hK _ _ (own_mono h2 hS.size) h3
    | 6, _, ho, hK =>
      obtain rfl := Option.some.inj ho
      exact step_field _ 2 w.heap.size (by omega) rfl h1 (hK _ _ rfl (Below.refl _ _))
    | 7, _, ho, hK =>
      obtain rfl := Option.some.inj ho
      obtain ⟨u, hu, hFu⟩ := hF.facts 6 (by omega) (hdep ⟨6, .data⟩ (by simp) rfl)
      obtain rfl : u = .pointer (some ⟨w.heap.size, 2, none⟩) := hFu
      exact step_load _ 28 9 9 ⟨w.heap.size, 2, none⟩ _ rfl Tryd.underlying28 hu (hcell 2) (hK _ _ rfl (Below.refl _ _))
    | 8, _, ho, hK =>
      obtain rfl := Option.some.inj ho
      obtain ⟨y, hy, hFy⟩ := hF.facts 7 (by omega) (hdep ⟨7, .data⟩ (by simp) rfl)
      obtain rfl : y = .slice x.Am d.mail.length x.cm := hFy
      exact step_fresh _ 26 10 28 9 d.mail.length (d.mail.map sv) _ rfl hy (enter_string _ _) (fresh_string x.Am d.mail.length x.cm w.heap.size (d.mail.map sv) v (by simp) hdv.m (sv_one _) (by omega))
        fun u w' h2 h3 => hK _ _ (own_mono h2 hS.size) h3
    | 9, _, ho, hK =>
      obtain rfl := Option.some.inj ho
      exact step_field _ 3 w.heap.size (by omega) rfl h1 (hK _ _ rfl (Below.refl _ _))
    | 10, _, ho, hK =>
      obtain rfl := Option.some.inj ho
      obtain ⟨u, hu, hFu⟩ := hF.facts 9 (by omega) (hdep ⟨9, .data⟩ (by simp) rfl)
      obtain rfl : u = .pointer (some ⟨w.heap.size, 3, none⟩) := hFu
      exact step_load _ 29 3 12 ⟨w.heap.size, 3, none⟩ _ rfl Tryd.underlying29 hu (hcell 3) (hK _ _ rfl (Below.refl _ _))
    | 11, _, ho, hK =>
      obtain rfl := Option.some.inj ho
      obtain ⟨y, hy, hFy⟩ := hF.facts 10 (by omega) (hdep ⟨10, .data⟩ (by simp) rfl)
      obtain rfl : y = .slice x.An d.nums.length x.cn := hFy
      exact step_fresh _ 43 13 29 3 d.nums.length (d.nums.map zv) _ rfl hy (enter_int _ _) (fresh_int x.An d.nums.length x.cn w.heap.size (d.nums.map zv) v (by simp) hdv.n (zv_one _) (by omega))
        fun u w' h2 h3 => hK _ _ (own_mono h2 hS.size) h3
    | 12, _, ho, hK =>
      obtain rfl := Option.some.inj ho
      exact step_field _ 4 w.heap.size (by omega) rfl h1 (hK _ _ rfl (Below.refl _ _))
    | 13, _, ho, hK =>
      obtain rfl := Option.some.inj ho
      obtain ⟨u, hu, hFu⟩ := hF.facts 12 (by omega) (hdep ⟨12, .data⟩ (by simp) rfl)
      obtain rfl : u = .pointer (some ⟨w.heap.size, 4, none⟩) := hFu
      exact step_load _ 28 9 15 ⟨w.heap.size, 4, none⟩ _ rfl Tryd.underlying28 hu (hcell 4) (hK _ _ rfl (Below.refl _ _))
    | 14, _, ho, hK =>
      obtain rfl := Option.some.inj ho
      obtain ⟨y, hy, hFy⟩ := hF.facts 13 (by omega) (hdep ⟨13, .data⟩ (by simp) rfl)
      obtain rfl : y = .slice x.At d.texts.length x.ct := hFy
      exact step_fresh _ 26 16 28 9 d.texts.length (d.texts.map sv) _ rfl hy (enter_string _ _) (fresh_string x.At d.texts.length x.ct w.heap.size (d.texts.map sv) v (by simp) hdv.t (sv_one _) (by omega))
        fun u w' h2 h3 => hK _ _ (own_mono h2 hS.size) h3
    | 15, _, ho, hK =>
      obtain rfl := Option.some.inj ho
      have hl (j : Nat) (h : (⟨j, .data⟩ : Edge) ∈ #[(⟨2, .data⟩ : Edge), ⟨5, .data⟩, ⟨8, .data⟩, ⟨11, .data⟩, ⟨14, .data⟩]) := hdep ⟨j, .data⟩ h rfl
      obtain ⟨v0, g0, f0⟩ := hF.facts 2 (by omega) (hl 2 (by simp))
      obtain ⟨v1, g1, f1⟩ := hF.facts 5 (by omega) (hl 5 (by simp))
      obtain ⟨v2, g2, f2⟩ := hF.facts 8 (by omega) (hl 8 (by simp))
      obtain ⟨v3, g3, f3⟩ := hF.facts 11 (by omega) (hl 11 (by simp))
      obtain ⟨v4, g4, f4⟩ := hF.facts 14 (by omega) (hl 14 (by simp))
      obtain ⟨A0, c0, rfl, _, _⟩ := own_form f0
      obtain ⟨A1, c1, rfl, _, _⟩ := own_form f1
      obtain ⟨A2, c2, rfl, _, _⟩ := own_form f2
      obtain ⟨A3, c3, rfl, _, _⟩ := own_form f3
      obtain ⟨A4, c4, rfl, _, _⟩ := own_form f4
      have hk := hK (DV.val ⟨A0, A1, A2, A3, A4, c0, c1, c2, c3, c4⟩ d) v ⟨⟨A0, A1, A2, A3, A4, c0, c1, c2, c3, c4⟩, rfl, ⟨f0, f1, f2, f3, f4⟩⟩ (Below.refl _ _)
      unfold Oper.wp
      simp [execOp, go_sem, g0, g1, g2, g3, g4]
      exact hk
    | n + 16, hi, _, _ => exact absurd hi (by omega)
  case tail =>
    intro l a v o ho hF hl
    obtain rfl := Option.some.inj ho
    have hS := hF.S
    have h2 : a.tmps[2]? = some (.pointer (some ⟨w.heap.size + 1, 0, none⟩)) := hF.low 2 (by omega)
    obtain ⟨u, hu, y, rfl, hO⟩ := hF.facts 15 (by omega) (hl 15 (by omega))
    have hw := hw1.below hS.below (by omega)
    refine wpList_plain rfl fun K2 hK2 => step_storeC _ (w.heap.size + 1) y d _ _ _ _ _ rfl h2 hu hw ?_
    refine hK2 _ _ ?_
    obtain ⟨V, hV⟩ : ∃ V, V = ((((v.setCell ⟨w.heap.size + 1, 0, none⟩ (y.vb d)).setCell ⟨w.heap.size + 1, 1, none⟩ (y.vh d)).setCell ⟨w.heap.size + 1, 2, none⟩ (y.vm d)).setCell ⟨w.heap.size + 1, 3, none⟩ (y.vn d)).setCell ⟨w.heap.size + 1, 4, none⟩ (y.vt d) := ⟨_, rfl⟩
    rw [← hV]
    have hw5 : Whole V (w.heap.size + 1) 31 [y.vb d, y.vh d, y.vm d, y.vn d, y.vt d] := by
      rw [hV]
      exact ((((hw.set_ 0 _).set_ 1 _).set_ 2 _).set_ 3 _).set_ 4 _
    have hb5 : Below (w.heap.size + 1) v V := by
      rw [hV]
      have hs (W : World) (i : Nat) (u : Value) : Below (w.heap.size + 1) W (W.setCell ⟨w.heap.size + 1, i, none⟩ u) := (Below.refl _ W).setCell (p := ⟨w.heap.size + 1, i, none⟩) (Nat.le_refl _) u
      exact ((((hs _ 0 _).trans (hs _ 1 _)).trans (hs _ 2 _)).trans (hs _ 3 _)).trans (hs _ 4 _)
    have hf5 : ∀ g, g ≠ w.heap.size + 1 → V.heap[g]? = v.heap[g]? := fun g hg => by
      rw [hV]
      have hs (W : World) (i : Nat) (u : Value) : (W.setCell ⟨w.heap.size + 1, i, none⟩ u).heap[g]? = W.heap[g]? := Below.heap_setCell W ⟨w.heap.size + 1, i, none⟩ u g hg
      rw [hs, hs, hs, hs, hs]
    have hO5 : OwnD V (w.heap.size + 2) y d :=
      ⟨own_keep hO.b fun g e => hf5 g (by have := (hO.b.lt g e).1; omega), own_keep hO.h fun g e => hf5 g (by have := (hO.h.lt g e).1; omega), own_keep hO.m fun g e => hf5 g (by have := (hO.m.lt g e).1; omega), own_keep hO.n fun g e => hf5 g (by have := (hO.n.lt g e).1; omega), own_keep hO.t fun g e => hf5 g (by have := (hO.t.lt g e).1; omega)⟩
    have hO6 : OwnD V w.heap.size y d := ⟨own_mono hO5.b (by omega), own_mono hO5.h (by omega), own_mono hO5.m (by omega), own_mono hO5.n (by omega), own_mono hO5.t (by omega)⟩
    have hB : Below w.heap.size w V := (hbW.trans (hS.below.mono (by omega))).trans (hb5.mono (by omega))
    have q0 : V.cell? ⟨w.heap.size + 1, 0, none⟩ = some (y.vb d) := hw5.cell 0
    have q1 : V.cell? ⟨w.heap.size + 1, 1, none⟩ = some (y.vh d) := hw5.cell 1
    have q2 : V.cell? ⟨w.heap.size + 1, 2, none⟩ = some (y.vm d) := hw5.cell 2
    have q3 : V.cell? ⟨w.heap.size + 1, 3, none⟩ = some (y.vn d) := hw5.cell 3
    have q4 : V.cell? ⟨w.heap.size + 1, 4, none⟩ = some (y.vt d) := hw5.cell 4
    clear hV hw5 hb5 hf5 hO5 hw hw0 hw1 hO
    refine hret _ _ (wp_ret ?_)
    refine ⟨hF.defers, y.val d, ?_, y, rfl, hO6, hB⟩
    clear hF hl
    simp [results, Tryd.results28, go_sem, Act.put, h2, q0, q1, q2, q3, q4]


end Go.Proofs.YtmbcbfalgdgmjaaDoor

namespace Go.Proofs.YtmbcbfalgdgmjaaDoor
open Go.RowKit

theorem data_info : (Tryd.prog.info? 31).map (fun i => (i.zero, i.size, i.bytes)) = some (some (.agg #[.slice none 0 0, .slice none 0 0, .slice none 0 0, .slice none 0 0, .slice none 0 0]), 5, 120) := by kernel_rfl

/-- Is the record one of those that are asked for? -/
def selR (n : List (List UInt8)) (k : Int) (r : Rt) : Bool := decide (r.cls = 1) && (decide (r.kind = k) && eqN r.name n)
/-- One record more. -/
def stepS (s : List Dt × Int) (r : Rt) : List Dt × Int := (if hasD s.1 r.data = true then s.1 else s.1 ++ [r.data], if s.1 = [] ∨ r.ttl < s.2 then r.ttl else s.2)
/-- The set of a name and a type, and its least TTL. -/
def setF (rs : List Rt) (n : List (List UInt8)) (k : Int) : List Dt × Int := (rs.filter (selR n k)).foldl stepS ([], 0)
theorem setF_snoc (rs : List Rt) (r : Rt) (n : List (List UInt8)) (k : Int) : setF (rs ++ [r]) n k = if selR n k r = true then stepS (setF rs n k) r else setF rs n k := by
  unfold setF
  rw [List.filter_append, List.foldl_append]
  cases h : selR n k r <;> simp [h]
theorem recs_snoc {ps : List (RV × Rt)} {j : Nat} (hj : j < ps.length) : recs (ps.take (j + 1)) = recs (ps.take j) ++ [(ps[j]).2] := by
  rw [List.take_succ_eq_append_getElem hj, recs_append]
  rfl
theorem setF_take {ps : List (RV × Rt)} {j : Nat} (hj : j < ps.length) (n : List (List UInt8)) (k : Int) : setF (recs (ps.take (j + 1))) n k = if selR n k (ps[j]).2 = true then stepS (setF (recs (ps.take j)) n k) (ps[j]).2 else setF (recs (ps.take j)) n k := by
  rw [recs_snoc hj, setF_snoc]

theorem own_own_apart' {w : World} {b1 b2 : Nat} {e1 e2 : TypeId} {s1 s2 n1 n2 : Nat} {v1 v2 : Value} {x1 x2 : List Value} (h1 : w.ownsRow b1 e1 s1 v1 n1 x1) (h2 : w.ownsRow b2 e2 s2 v2 n2 x2) (he : e1 ≠ e2) {j : Nat} (hj : v1.ownBlock = some j) : v2.ownBlock ≠ some j := by
  intro hk
  rcases h1.2 with ⟨rfl, _⟩ | ⟨g1, _, c1, rfl, _, hh1, _⟩
  · cases hj
  rcases h2.2 with ⟨rfl, _⟩ | ⟨g2, _, c2, rfl, _, hh2, _⟩
  · cases hk
  simp only [Value.ownBlock, Option.some.injEq] at hj hk
  subst hj
  subst hk
  rw [hh1] at hh2
  injection hh2 with hh2
  injection hh2 with _ hh2 _
  exact he hh2
theorem OwnD.mono {w : World} {B B' : Nat} {x : DV} {d : Dt} (h : OwnD w B x d) (hb : B' ≤ B) : OwnD w B' x d := ⟨own_mono h.b hb, own_mono h.h hb, own_mono h.m hb, own_mono h.n hb, own_mono h.t hb⟩
theorem cellsD_one1 (p : DV × Dt) : ∀ u ∈ cellsD p, u.oneCell' = true := fun u hu => cellsD_one [p] u (by simpa using hu)
/-- Data of the call's own is kept while a row of data grows. -/
theorem OwnD.grown {w w' : World} {B : Nat} {x : DV} {d : Dt} (h : OwnD w B x d) {v : Value} {n : Nat} {xs : List Value} (hv : w.ownsRow B 31 5 v n xs) (hg : w.grownBy w' v.ownBlock) : OwnD w' B x d := by
  have hk : ∀ {e : TypeId} {s m : Nat} {u : Value} {ys : List Value}, w.ownsRow B e s u m ys → e ≠ 31 → ∀ g, u.ownBlock = some g → w'.heap[g]? = w.heap[g]? := fun ho hne g hj =>
    hg.block g (ho.lt g hj).2 (Ne.symm (own_own_apart' ho hv hne hj))
  exact ⟨own_keep h.b (hk h.b (by decide)), own_keep h.h (hk h.h (by decide)), own_keep h.m (hk h.m (by decide)), own_keep h.n (hk h.n (by decide)), own_keep h.t (hk h.t (by decide))⟩

/-- What Set has made ahead of a round: the rows of the set. -/
structure SetAt (w0 : World) (v : Value) (qs : List (DV × Dt)) (w : World) : Prop where
  row : w.ownsRow w0.heap.size 31 5 v qs.length (qs.flatMap cellsD)
  each : ∀ q ∈ qs, OwnD w w0.heap.size q.1 q.2
  below : Below w0.heap.size w0 w
  size : w0.heap.size ≤ w.heap.size
theorem SetAt.step {w0 w w' : World} {v : Value} {qs : List (DV × Dt)} (h : SetAt w0 v qs w) (hb : Below w.heap.size w w') : SetAt w0 v qs w' :=
  ⟨own_keep h.row fun j hj => hb.block j (h.row.lt j hj).2, fun q hq => (h.each q hq).keep fun g hg => hb.block g hg, h.below.trans (hb.mono h.size), Nat.le_trans h.size hb.size⟩
theorem SetAt.reads {w0 w : World} {A : Option Addr} {c : Nat} {qs : List (DV × Dt)} (h : SetAt w0 (.slice A qs.length c) qs w) : DsAt w w.heap.size A qs :=
  ⟨Row.of_own h.row, fun q hq => (h.each q hq).at_⟩
/-- One more has been appended. -/
theorem SetAt.snoc {w0 w w' : World} {v v' : Value} {qs : List (DV × Dt)} (h : SetAt w0 v qs w) {y : DV} {d : Dt} (hy : OwnD w w0.heap.size y d) (ho : w'.ownsRow w0.heap.size 31 5 v' (qs.length + 1) (qs.flatMap cellsD ++ cellsD (y, d)))
    (hg : w.grownBy w' v.ownBlock) : SetAt w0 v' (qs ++ [(y, d)]) w' := by
  refine ⟨by rw [List.length_append, List.flatMap_append]; simpa using ho, fun q hq => ?_, own_below h.below (Nat.le_refl _) h.size h.row hg, Nat.le_trans h.size hg.size⟩
  rcases List.mem_append.1 hq with hq | hq
  · exact (h.each q hq).grown h.row hg
  · rw [List.mem_singleton.1 hq]
    exact hy.grown h.row hg

/-- What Set leaves: slices of its own that say what the set says. -/
def SetOut (w : World) (s : List Dt × Int) (e : Ending) (w' : World) : Prop :=
  ∃ (A : Option Addr) (c : Nat) (qs : List (DV × Dt)), e = .returned (.tuple #[.slice A qs.length c, .int .i64 s.2]) ∧ dats qs = s.1 ∧ DsAt w' w'.heap.size A qs ∧ Below w.heap.size w w'
/-- The same, told more of: the slices are the call's own. -/
def SetOwn (w : World) (s : List Dt × Int) (e : Ending) (w' : World) : Prop :=
  ∃ (A : Option Addr) (c : Nat) (qs : List (DV × Dt)), e = .returned (.tuple #[.slice A qs.length c, .int .i64 s.2]) ∧ dats qs = s.1 ∧ SetAt w (.slice A qs.length c) qs w'
def SetRel (w : World) (ps : List (RV × Rt)) (n : List (List UInt8)) (k : Int) (v t i : Value) (wr : World) : Prop :=
  ∃ (j : Nat) (qs : List (DV × Dt)), j ≤ ps.length ∧ i = .int .i64 j ∧ t = .int .i64 (setF (recs (ps.take j)) n k).2 ∧ dats qs = (setF (recs (ps.take j)) n k).1 ∧ qs.length ≤ j ∧ (∀ q ∈ qs, Wide q.2) ∧ SetAt w v qs wr















































































































































































































































































end Go.Proofs.YtmbcbfalgdgmjaaDoor

namespace Go.Proofs.YtmbcbfalgdgmjaaDoor
open Go.RowKit

/-- Has a record few parts? -/
def lightR (r : Rt) : Bool := decide (r.name.length ≤ 200) && (decide (r.data.host.length ≤ 200) && (decide (r.data.mail.length ≤ 200) && (decide (r.data.texts.length ≤ 100) && (decide (r.data.nums.length ≤ 100) && (decide (r.data.bytes.length ≤ 66000))))))
def lightL (rs : List Rt) : Bool := rs.all lightR && decide (rs.length ≤ 60)
structure LightR (r : Rt) : Prop where
  l0 : r.name.length ≤ 200
  l1 : r.data.host.length ≤ 200
  l2 : r.data.mail.length ≤ 200
  l3 : r.data.texts.length ≤ 100
  l4 : r.data.nums.length ≤ 100
  l5 : r.data.bytes.length ≤ 200000
theorem lightR_iff {r : Rt} (h : lightR r = true) : LightR r := by
  unfold lightR at h
  simp only [Bool.and_eq_true, decide_eq_true_eq] at h
  obtain ⟨h0, h1, h2, h3, h4, h5⟩ := h
  exact ⟨h0, h1, h2, h3, h4, by omega⟩
theorem LightR.few {r : Rt} (h : LightR r) : FewD r.data := ⟨Nat.le_trans h.l1 (by omega), Nat.le_trans h.l2 (by omega), Nat.le_trans h.l3 (by omega), Nat.le_trans h.l4 (by omega), Nat.le_trans h.l5 (by omega)⟩
theorem lightL_each {rs : List Rt} (h : lightL rs = true) : (∀ r ∈ rs, LightR r) ∧ rs.length ≤ 60 := by
  unfold lightL at h
  rw [Bool.and_eq_true, decide_eq_true_eq, List.all_eq_true] at h
  exact ⟨fun r hr => lightR_iff (h.1 r hr), h.2⟩
theorem recs_at {ps : List (RV × Rt)} {k : Nat} (hk : k < ps.length) : recs (ps.take (k + 1)) = recs (ps.take k) ++ [(ps[k]).2] := by
  rw [List.take_succ_eq_append_getElem hk, recs_append]
  rfl
def LightRelR (w : World) (ps : List (RV × Rt)) (i : Value) (wr : World) : Prop := ∃ k : Nat, k ≤ ps.length ∧ i = .int .i64 k ∧ (recs (ps.take k)).all lightR = true ∧ Below w.heap.size w wr

end Go.Proofs.YtmbcbfalgdgmjaaDoor

namespace Go.Proofs.YtmbcbfalgdgmjaaDoor
open Go.RowKit


theorem own_apartR {w : World} {b1 b2 : Nat} {e1 e2 : TypeId} {s1 s2 n1 n2 : Nat} {v1 v2 : Value} {x1 x2 : List Value} (h1 : w.ownsRow b1 e1 s1 v1 n1 x1) (h2 : w.ownsRow b2 e2 s2 v2 n2 x2) (he : e1 ≠ e2) {j : Nat} (hj : v1.ownBlock = some j) : v2.ownBlock ≠ some j := by
  intro hk
  rcases h1.2 with ⟨rfl, _⟩ | ⟨g1, _, c1, rfl, _, hh1, _⟩
  · cases hj
  rcases h2.2 with ⟨rfl, _⟩ | ⟨g2, _, c2, rfl, _, hh2, _⟩
  · cases hk
  simp only [Value.ownBlock, Option.some.injEq] at hj hk
  subst hj
  subst hk
  rw [hh1] at hh2
  injection hh2 with hh2
  injection hh2 with _ hh2 _
  exact he hh2
theorem cellsR_one1 (p : RV × Rt) : ∀ u ∈ cellsR p, u.oneCell' = true := fun u hu => cellsR_one [p] u (by simpa using hu)
/-- A record whose slices are the call's own. -/
structure OwnR (w : World) (B : Nat) (x : RV) (r : Rt) : Prop where
  n : w.ownsRow B 9 1 (x.vn r) r.name.length (r.name.map sv)
  d : OwnD w B x.d r.data
theorem OwnD.monoB {w : World} {B B' : Nat} {x : DV} {d : Dt} (h : OwnD w B x d) (hb : B' ≤ B) : OwnD w B' x d := ⟨own_mono h.b hb, own_mono h.h hb, own_mono h.m hb, own_mono h.n hb, own_mono h.t hb⟩
theorem OwnR.at_ {w : World} {B : Nat} {x : RV} {r : Rt} (h : OwnR w B x r) : RAt w w.heap.size x r := ⟨Row.of_own h.n, own_cap h.n, h.d.at_⟩
theorem OwnR.keep {w w' : World} {B : Nat} {x : RV} {r : Rt} (h : OwnR w B x r) (hk : ∀ g, g < w.heap.size → w'.heap[g]? = w.heap[g]?) : OwnR w' B x r :=
  ⟨own_keep h.n fun g e => hk g (h.n.lt g e).2, h.d.keep hk⟩
theorem OwnR.keepB {w w' : World} {B : Nat} {x : RV} {r : Rt} (h : OwnR w B x r) (hk : ∀ g, B ≤ g → g < w.heap.size → w'.heap[g]? = w.heap[g]?) : OwnR w' B x r :=
  ⟨own_keep h.n fun g e => hk g (h.n.lt g e).1 (h.n.lt g e).2, own_keep h.d.b fun g e => hk g (h.d.b.lt g e).1 (h.d.b.lt g e).2, own_keep h.d.h fun g e => hk g (h.d.h.lt g e).1 (h.d.h.lt g e).2, own_keep h.d.m fun g e => hk g (h.d.m.lt g e).1 (h.d.m.lt g e).2,
    own_keep h.d.n fun g e => hk g (h.d.n.lt g e).1 (h.d.n.lt g e).2, own_keep h.d.t fun g e => hk g (h.d.t.lt g e).1 (h.d.t.lt g e).2⟩























































/-- What OwnRRs leaves: records of its own that read as those that were handed in. -/
def OwnRs (w : World) (rs : List Rt) (e : Ending) (w' : World) : Prop :=
  ∃ (A : Option Addr) (c : Nat) (qs : List (RV × Rt)), e = .returned (.slice A qs.length c) ∧ recs qs = rs ∧ RsAt w' w'.heap.size A qs ∧ Below w.heap.size w w'






































































































































end Go.Proofs.YtmbcbfalgdgmjaaDoor

namespace Go.Proofs.YtmbcbfalgdgmjaaDoor
open Go.RowKit

/-- Is data the same, byte by byte? -/
def exactW (a b : Dt) : Bool := sameD a b && (decide (a.host = b.host) && decide (a.mail = b.mail))
theorem exactW_self (d : Dt) : exactW d d = true := by simp [exactW, sameD, eqN]






































































theorem sameD_turn (a b : Dt) : sameD a b = sameD b a := by
  have h : ∀ {α : Type} [DecidableEq α] (x y : α), decide (x = y) = decide (y = x) := fun x y => decide_eq_decide.2 ⟨Eq.symm, Eq.symm⟩
  unfold sameD eqN
  rw [h a.bytes, h a.nums, h a.texts, h (lowN a.host), h (lowN a.mail)]

def InRel (w : World) (x : DV) (a : Dt) (ps : List (DV × Dt)) (i : Value) (wr : World) : Prop :=
  ∃ k : Nat, k ≤ ps.length ∧ i = .int .i64 k ∧ (dats (ps.take k)).any (fun e => sameD a e) = false ∧ Whole wr w.heap.size 31 [.slice x.Ab a.bytes.length x.cb, .slice x.Ah a.host.length x.ch, .slice x.Am a.mail.length x.cm, .slice x.An a.nums.length x.cn, .slice x.At a.texts.length x.ct] ∧ Below w.heap.size w wr






















































































end Go.Proofs.YtmbcbfalgdgmjaaDoor

namespace Go.Proofs.YtmbcbfalgdgmjaaDoor
open Go.RowKit

/-- A fact in memory: where its slices lie, and what it says. -/
structure FV where
  A : Option Addr
  c : Nat
  name : List (List UInt8)
  h : Fh
  sA : Option Addr
  sc : Nat
  sp : List (DV × Dt)
  zA : Option Addr
  zc : Nat
  zone : List (List UInt8)
  d : DV
  soa : Dt
def FV.fact (x : FV) : Fc := ⟨x.name, x.h, dats x.sp, x.zone, x.soa⟩
/-- Its cells. -/
def cellsF (x : FV) : List Value := [.slice x.A x.name.length x.c, .int .i64 x.h.typ, .int .i64 x.h.knd, .int .i64 x.h.rank, .int .i64 x.h.got, .int .i64 x.h.ttl, .slice x.sA x.sp.length x.sc, .slice x.zA x.zone.length x.zc,
  .slice x.d.Ab x.soa.bytes.length x.d.cb, .slice x.d.Ah x.soa.host.length x.d.ch, .slice x.d.Am x.soa.mail.length x.d.cm, .slice x.d.An x.soa.nums.length x.d.cn, .slice x.d.At x.soa.texts.length x.d.ct]
abbrev FV.val (x : FV) : Value := .agg #[.slice x.A x.name.length x.c, .int .i64 x.h.typ, .int .i64 x.h.knd, .int .i64 x.h.rank, .int .i64 x.h.got, .int .i64 x.h.ttl, .slice x.sA x.sp.length x.sc, .slice x.zA x.zone.length x.zc,
  .slice x.d.Ab x.soa.bytes.length x.d.cb, .slice x.d.Ah x.soa.host.length x.d.ch, .slice x.d.Am x.soa.mail.length x.d.cm, .slice x.d.An x.soa.nums.length x.d.cn, .slice x.d.At x.soa.texts.length x.d.ct]
theorem cellsF_len (x : FV) : (cellsF x).length = 13 := rfl
theorem cellsF_one (xs : List FV) : ∀ u ∈ xs.flatMap cellsF, u.oneCell' = true := by
  intro u hu
  obtain ⟨p, _, hp⟩ := List.mem_flatMap.1 hu
  simp only [cellsF, List.mem_cons, List.not_mem_nil, or_false] at hp
  rcases hp with rfl | rfl | rfl | rfl | rfl | rfl | rfl | rfl | rfl | rfl | rfl | rfl | rfl <;> rfl
theorem fact_cells : Tryd.prog.cellsOf 34 = 13 := by kernel_rfl

/-- In the world w the fact's lists read, below H. -/
structure FAt (w : World) (H : Nat) (x : FV) : Prop where
  n : Row w H x.A (x.name.map sv)
  s : DsAt w H x.sA x.sp
  z : Row w H x.zA (x.zone.map sv)
  d : DataAt w H x.d x.soa
  ln : x.name.length ≤ x.c
  lz : x.zone.length ≤ x.zc
  ls : x.sp.length ≤ x.sc
  ks : x.sc ≤ maxLen
section
variable {w w' : World} {H H' : Nat} {x : FV}
theorem FAt.below (h : FAt w H x) (hb : Below H w w') : FAt w' H x := ⟨h.n.below hb, h.s.below hb, h.z.below hb, h.d.below hb, h.ln, h.lz, h.ls, h.ks⟩
theorem FAt.mono (h : FAt w H x) (hb : H ≤ H') : FAt w H' x := ⟨h.n.mono hb, h.s.mono hb, h.z.mono hb, h.d.mono hb, h.ln, h.lz, h.ls, h.ks⟩
end
/-- Facts, one behind the other. -/
def FsAt (w : World) (H : Nat) (A : Option Addr) (xs : List FV) : Prop := Row w H A (xs.flatMap cellsF) ∧ ∀ x ∈ xs, FAt w H x
def facts (xs : List FV) : List Fc := xs.map FV.fact
theorem FsAt.below {w w' : World} {H : Nat} {A : Option Addr} {xs : List FV} (h : FsAt w H A xs) (hb : Below H w w') : FsAt w' H A xs := ⟨h.1.below hb, fun p hp => (h.2 p hp).below hb⟩
theorem FsAt.mono {w : World} {H H' : Nat} {A : Option Addr} {xs : List FV} (h : FsAt w H A xs) (hb : H ≤ H') : FsAt w H' A xs := ⟨h.1.mono hb, fun p hp => (h.2 p hp).mono hb⟩
/-- The cells of the fact number i of a list. -/
theorem FsAt.at_ {w : World} {H : Nat} {A : Option Addr} {xs : List FV} (h : FsAt w H A xs) {i : Nat} (hi : i < xs.length) :
    ∃ b off, A = some ⟨b, off, none⟩ ∧ b < H ∧ FAt w H xs[i] ∧ ∀ j v, (cellsF xs[i])[j]? = some v → w.cell? ⟨b, off + i * 13 + j, none⟩ = some v := by
  obtain ⟨b, off, e, hb, hc⟩ := h.1.part cellsF_len (by omega) hi
  exact ⟨b, off, e, hb, h.2 _ (List.getElem_mem hi), hc⟩

/-- Data whose lengths memory holds, and whose numbers a variable holds. -/
structure DatIn (d : Dt) : Prop where
  w : Wide d
  t : ∀ k (h : k < d.texts.length), (d.texts[k]).length ≤ maxLen
  n : ∀ n ∈ d.nums, (Lit.int .i64 n).wf = true
theorem DatIn.ref {d : Dt} (h : DatIn d) : RefIn d := ⟨h.w.h, h.w.m, h.w.t, h.t, fun n hn => by
  have h1 : IntKind.i64.max = 9223372036854775807 := rfl
  have h2 := h.n n hn
  simp only [Lit.wf, Bool.and_eq_true, decide_eq_true_eq] at h2
  omega⟩
theorem RIn.dat {r : Rt} (h : RIn r) : DatIn r.data := ⟨h.d, h.lt, h.nm⟩
structure FhIn (h : Fh) : Prop where
  t : (Lit.int .i64 h.typ).wf = true
  k : (Lit.int .i64 h.knd).wf = true
  r : (Lit.int .i64 h.rank).wf = true
  g : (Lit.int .i64 h.got).wf = true
  l : (Lit.int .i64 h.ttl).wf = true
/-- A fact whose lengths memory holds. -/
structure FIn (x : FV) : Prop where
  h : FhIn x.h
  n : WideN x.name
  z : WideN x.zone
  s : ∀ p ∈ x.sp, DatIn p.2
  d : DatIn x.soa

end Go.Proofs.YtmbcbfalgdgmjaaDoor

namespace Go.Proofs.YtmbcbfalgdgmjaaDoor
open Go.RowKit

























end Go.Proofs.YtmbcbfalgdgmjaaDoor

namespace Go.Proofs.YtmbcbfalgdgmjaaDoor
open Go.RowKit





































def LastRel (w : World) (M : Nat) (a b : List (List UInt8)) (i : Value) (wr : World) : Prop :=
  ∃ k : Nat, k ≤ M ∧ i = .int .i64 k ∧ (keyN a).take k = (keyN b).take k ∧ Below w.heap.size w wr

theorem key_snoc {a b : List (List UInt8)} {k : Nat} (h : (keyN a).take k = (keyN b).take k) (ha : k < a.length) (hb : k < b.length) (e : cmpB (lowL (a[a.length - 1 - k]'(by omega))) (lowL (b[b.length - 1 - k]'(by omega))) = 0) :
    (keyN a).take (k + 1) = (keyN b).take (k + 1) := by
  rw [List.take_succ_eq_append_getElem (by rw [length_keyN]; exact ha), List.take_succ_eq_append_getElem (by rw [length_keyN]; exact hb), h, keyN_at ha, keyN_at hb, cmpB_tot.eq_ _ _ e]
theorem key_part {a b : List (List UInt8)} {k : Nat} (h : (keyN a).take k = (keyN b).take k) (ha : k < a.length) (hb : k < b.length) (e : cmpB (lowL (a[a.length - 1 - k]'(by omega))) (lowL (b[b.length - 1 - k]'(by omega))) ≠ 0) :
    cmpN a b = cmpB (lowL (a[a.length - 1 - k]'(by omega))) (lowL (b[b.length - 1 - k]'(by omega))) := by
  unfold cmpN
  rw [lexC_at cmpB_tot h (by rw [length_keyN]; exact ha) (by rw [length_keyN]; exact hb) (by rw [keyN_at ha, keyN_at hb]; exact e), keyN_at ha, keyN_at hb]
theorem key_end {a b : List (List UInt8)} {k : Nat} (h : (keyN a).take k = (keyN b).take k) (hk : k = min a.length b.length) : cmpN a b = Lib.compareInt a.length b.length := by
  unfold cmpN
  rw [lexC_end cmpB_tot h (by rw [length_keyN, length_keyN]; exact hk), length_keyN, length_keyN]










































































































































































































end Go.Proofs.YtmbcbfalgdgmjaaDoor

namespace Go.Proofs.YtmbcbfalgdgmjaaDoor
open Go.RowKit

theorem szN_drop_le (n : List (List UInt8)) (k : Nat) : szN (n.drop k) ≤ szN n := by
  induction n generalizing k with
  | nil => simp
  | cons x n ih =>
    cases k with
    | zero => simp
    | succ k => simp only [List.drop_succ_cons, szN]; have := ih k; omega

set_option maxHeartbeats 400000 in
theorem under_short (A B : Option Addr) (c1 c2 : Nat) (n z : List (List UInt8)) (w : World) (hl : n.length < z.length) :
    Calls Tryd.prog 52 #[.slice A n.length c1, .slice B z.length c2] w (Gave w (.bool (underN n z))) := by
  have HF := Lib.hid (show underN n z = false by unfold underN; rw [decide_eq_false (by omega)]; rfl)
  have d1 : decide (z.length ≤ n.length) = false := by simp; omega
  go_enter Tryd.func52, Tryd.ntmps52
  go_wp2
  go_ret
  exact ⟨ret_bool HF.out.symm, Below.refl _ _⟩

set_option maxHeartbeats 400000 in
theorem under_long (A B : Option Addr) (c1 c2 : Nat) (n z : List (List UInt8)) (w : World) (hA : Row w w.heap.size A (n.map sv)) (hB : Row w w.heap.size B (z.map sv)) (hs1 : szN n ≤ maxLen) (hs2 : szN z ≤ maxLen) (hl : z.length ≤ n.length) (hc : n.length ≤ c1) (hz : 0 < z.length) :
    Calls Tryd.prog 52 #[.slice A n.length c1, .slice B z.length c2] w (Gave w (.bool (underN n z))) := by
  have HF := Lib.hid (show underN n z = eqN (n.drop (n.length - z.length)) z by unfold underN; rw [decide_eq_true hl]; rfl)
  have hn1 := length_lt_szN n
  have hn2 := length_lt_szN z
  have d1 : decide (z.length ≤ n.length) = true := by simp; omega
  obtain ⟨b, off, rfl, _, _⟩ := hA.some_ (by rw [List.length_map]; omega)
  have hd := hA.drop (k := n.length - z.length) rfl
  rw [← List.map_drop] at hd
  have HD := Lib.hid hd
  have HB := Lib.hid hB
  have hsd : szN (n.drop (n.length - z.length)) ≤ maxLen := Nat.le_trans (szN_drop_le _ _) hs1
  unfold maxLen at hs1
  clear hA hB hd
  go_enter Tryd.func52, Tryd.ntmps52
  go_wp2_with fail
  refine (equal_any _ _ _ _ _ _ _ _ _ _ (by rw [List.length_drop]) rfl HD.out HB.out (Nat.le_refl _) hsd hs2).mono ?_
  rintro e w1 ⟨rfl, hb1⟩
  have HB1 := Lib.hid hb1
  clear hb1
  go_wp2
  go_ret
  exact ⟨ret_bool HF.out.symm, HB1.out⟩

set_option maxHeartbeats 400000 in
theorem under_root (A B : Option Addr) (c1 c2 : Nat) (n : List (List UInt8)) (w : World) (hA : Row w w.heap.size A (n.map sv)) (hs1 : szN n ≤ maxLen) (hc : n.length ≤ c1) :
    Calls Tryd.prog 52 #[.slice A n.length c1, .slice B 0 c2] w (Gave w (.bool (underN n []))) := by
  have HF := Lib.hid (show underN n [] = eqN [] [] by simp [underN, eqN, lowN])
  have hn1 := length_lt_szN n
  have HC := Lib.hid (fun A' B' m1 c1' c2' w' (h : 0 = m1) => equal_any A' B' m1 0 c1' c2' 0 [] [] w' h rfl (Row.empty _ _ _) (Row.empty _ _ _) (Nat.zero_le _) (by simp [szN, maxLen]) (by simp [szN, maxLen]))
  generalize eqN [] [] = r at HC HF
  unfold maxLen at hs1
  by_cases hn : n = []
  · subst hn
    clear hA
    go_enter Tryd.func52, Tryd.ntmps52
    go_wp2_with fail
    all_goals
      refine (HC.out _ _ _ _ _ _ (by simp)).mono ?_
      rintro e w1 ⟨rfl, hb1⟩
      have HB1 := Lib.hid hb1
      clear hb1
      go_wp2
      go_ret
      exact ⟨ret_bool HF.out.symm, HB1.out⟩
  · have hnl : 0 < n.length := by
      rcases n with _ | ⟨x, n⟩
      · exact absurd rfl hn
      · simp
    obtain ⟨b, off, rfl, _, _⟩ := hA.some_ (by rw [List.length_map]; exact hnl)
    clear hA hn
    by_cases hcc : c1 = n.length
    · subst hcc
      go_enter Tryd.func52, Tryd.ntmps52
      go_wp2_with fail
      refine (HC.out _ _ _ _ _ _ (by omega)).mono ?_
      rintro e w1 ⟨rfl, hb1⟩
      have HB1 := Lib.hid hb1
      clear hb1
      go_wp2
      go_ret
      exact ⟨ret_bool HF.out.symm, HB1.out⟩
    · have hlt : n.length < c1 := by omega
      clear hcc
      go_enter Tryd.func52, Tryd.ntmps52
      go_wp2_with fail
      refine (HC.out _ _ _ _ _ _ (by omega)).mono ?_
      rintro e w1 ⟨rfl, hb1⟩
      have HB1 := Lib.hid hb1
      clear hb1
      go_wp2
      go_ret
      exact ⟨ret_bool HF.out.symm, HB1.out⟩

theorem under_any (A B : Option Addr) (m1 m2 c1 c2 H : Nat) (n z : List (List UInt8)) (w : World) (hl1 : n.length = m1) (hl2 : z.length = m2) (hA : Row w H A (n.map sv)) (hB : Row w H B (z.map sv)) (hH : H ≤ w.heap.size)
    (hs1 : szN n ≤ maxLen) (hs2 : szN z ≤ maxLen) (hc : m1 ≤ c1) :
    Calls Tryd.prog 52 #[.slice A m1 c1, .slice B m2 c2] w (Gave w (.bool (underN n z))) := by
  subst hl1
  subst hl2
  by_cases hl : z.length ≤ n.length
  · by_cases hz : z = []
    · subst hz
      exact under_root A B c1 c2 n w (hA.mono hH) hs1 hc
    · exact under_long A B c1 c2 n z w (hA.mono hH) (hB.mono hH) hs1 hs2 hl hc (by
        rcases z with _ | ⟨x, z⟩
        · exact absurd rfl hz
        · simp)
  · exact under_short A B c1 c2 n z w (by omega)

end Go.Proofs.YtmbcbfalgdgmjaaDoor

namespace Go.Proofs.YtmbcbfalgdgmjaaDoor
open Go.RowKit







































































































end Go.Proofs.YtmbcbfalgdgmjaaDoor

namespace Go.Proofs.YtmbcbfalgdgmjaaDoor
open Go.RowKit

theorem typedB_low {k : Int} (h : k < 1) : typedB k = false := by unfold typedB; rw [decide_eq_false (by omega)]; rfl
theorem typedB_high {k : Int} (h : 65534 < k) : typedB k = false := by unfold typedB; rw [decide_eq_false (show ¬ k ≤ 65534 by omega)]; simp
theorem typedB_41 : typedB 41 = false := by decide +kernel
theorem typedB_255 : typedB 255 = false := by decide +kernel
theorem typedB_yes {k : Int} (h1 : 1 ≤ k) (h2 : k ≤ 65534) (h3 : k ≠ 41) (h4 : k ≠ 255) : typedB k = true := by simp [typedB, h1, h2, h3, h4]





















































































































theorem headB_parts {n : List (List UInt8)} {h : Fh} (hh : headB n h = true) : soundN n = true ∧ 1 ≤ h.rank ∧ h.rank ≤ 4 ∧ timeB h.got = true ∧ 0 ≤ h.ttl ∧ h.ttl ≤ 604800 := by
  unfold headB at hh
  simpa only [Bool.and_eq_true, decide_eq_true_eq] using hh

































end Go.Proofs.YtmbcbfalgdgmjaaDoor

namespace Go.Proofs.YtmbcbfalgdgmjaaDoor
open Go.RowKit

theorem hasB_not {f : Fc} (h : typedB f.h.typ = false) : hasB f = false := by unfold hasB; rw [h]; rfl
theorem hasB_few {f : Fc} (h : f.set.length < 1) : hasB f = false := by unfold hasB; rw [decide_eq_false (show ¬ 1 ≤ f.set.length by omega)]; simp
theorem hasB_many {f : Fc} (h : 64 < f.set.length) : hasB f = false := by unfold hasB; rw [decide_eq_false (show ¬ f.set.length ≤ 64 by omega)]; simp
theorem hasB_zone {f : Fc} (h : 0 < f.zone.length) : hasB f = false := by unfold hasB; rw [decide_eq_false (show ¬ f.zone.length = 0 by omega)]; simp
theorem hasB_soa {f : Fc} (h : emptyD f.soa = false) : hasB f = false := by unfold hasB; rw [h]; simp
theorem hasB_set {f : Fc} (h : setOk f.h.typ f.set = false) : hasB f = false := by unfold hasB; rw [h]; simp
theorem hasB_yes {f : Fc} (h0 : typedB f.h.typ = true) (h1 : ¬ f.set.length < 1) (h2 : ¬ 64 < f.set.length) (h3 : ¬ 0 < f.zone.length) (h4 : emptyD f.soa = true) : hasB f = setOk f.h.typ f.set := by
  unfold hasB
  rw [h0, decide_eq_true (show 1 ≤ f.set.length by omega), decide_eq_true (show f.set.length ≤ 64 by omega), decide_eq_true (show f.zone.length = 0 by omega), h4]
  rfl
theorem emptyD_0 {d : Dt} (h : 0 < d.bytes.length) : emptyD d = false := by unfold emptyD; rw [decide_eq_false (show ¬ d.bytes.length = 0 by omega)]; rfl
theorem emptyD_1 {d : Dt} (h : 0 < d.host.length) : emptyD d = false := by unfold emptyD; rw [decide_eq_false (show ¬ d.host.length = 0 by omega)]; simp
theorem emptyD_2 {d : Dt} (h : 0 < d.mail.length) : emptyD d = false := by unfold emptyD; rw [decide_eq_false (show ¬ d.mail.length = 0 by omega)]; simp
theorem emptyD_3 {d : Dt} (h : 0 < d.nums.length) : emptyD d = false := by unfold emptyD; rw [decide_eq_false (show ¬ d.nums.length = 0 by omega)]; simp
theorem emptyD_4 {d : Dt} (h : 0 < d.texts.length) : emptyD d = false := by unfold emptyD; rw [decide_eq_false (show ¬ d.texts.length = 0 by omega)]; simp
theorem emptyD_yes {d : Dt} (h0 : ¬ 0 < d.bytes.length) (h1 : ¬ 0 < d.host.length) (h2 : ¬ 0 < d.mail.length) (h3 : ¬ 0 < d.nums.length) (h4 : ¬ 0 < d.texts.length) : emptyD d = true := by
  unfold emptyD
  rw [decide_eq_true (show d.bytes.length = 0 by omega), decide_eq_true (show d.host.length = 0 by omega), decide_eq_true (show d.mail.length = 0 by omega), decide_eq_true (show d.nums.length = 0 by omega), decide_eq_true (show d.texts.length = 0 by omega)]
  rfl
theorem DsAt.take {w : World} {H : Nat} {A : Option Addr} {ps : List (DV × Dt)} (h : DsAt w H A ps) (k : Nat) (hk : k ≤ ps.length) : DsAt w H A (ps.take k) := by
  refine ⟨?_, fun p hp => h.2 p (List.mem_of_mem_take hp)⟩
  have h1 := h.1.take (k * 5)
  have e : (ps.flatMap cellsD).take (k * 5) = (ps.take k).flatMap cellsD := by
    conv => lhs; rw [← List.take_append_drop k ps, List.flatMap_append]
    rw [List.take_left']
    rw [length_flat cellsD_len, List.length_take, Nat.min_eq_left hk]
  rwa [e] at h1
theorem dats_take (ps : List (DV × Dt)) (k : Nat) : (dats ps).take k = dats (ps.take k) := by simp [dats]
theorem dats_step {ps : List (DV × Dt)} {k : Nat} (hk : k < ps.length) : dats (ps.take (k + 1)) = dats (ps.take k) ++ [(ps[k]).2] := by
  rw [List.take_succ_eq_append_getElem hk, dats_append]
  rfl
theorem setOk_fails {kd : Int} {ps : List (DV × Dt)} {k : Nat} (_ : k < ps.length) (h : setOk kd (dats (ps.take (k + 1))) = false) : setOk kd (dats ps) = false := by
  have e : dats ps = dats (ps.take (k + 1)) ++ dats (ps.drop (k + 1)) := by rw [← dats_append, List.take_append_drop]
  rw [e]
  unfold setOk at h ⊢
  rw [setFrom_append, h]
  rfl

def HasRel (w : World) (x : FV) (i : Value) (wr : World) : Prop :=
  ∃ k : Nat, k ≤ x.sp.length ∧ i = .int .i64 k ∧ setOk x.h.typ (dats (x.sp.take k)) = true ∧ Whole wr w.heap.size 34 (cellsF x) ∧ Below w.heap.size w wr































































































































































































































































































































































































































































































end Go.Proofs.YtmbcbfalgdgmjaaDoor

namespace Go.Proofs.YtmbcbfalgdgmjaaDoor
open Go.RowKit

def ivT (n : Int) : Value := .int .i64 n

theorem allT_snoc {n : List Int} {k : Nat} (h : k < n.length) (ha : timesB (n.take k) = true) (hp : timeB n[k] = true) : timesB (n.take (k + 1)) = true := by
  unfold timesB at ha ⊢
  rw [List.take_succ_eq_append_getElem h, List.all_append, ha]
  simp [hp]
theorem allT_not {n : List Int} {k : Nat} (h : k < n.length) (hp : timeB n[k] = false) : timesB n = false := by
  unfold timesB
  rw [List.all_eq_false]
  exact ⟨n[k], List.getElem_mem h, by simp [hp]⟩
theorem Row.ivT_at {w : World} {H : Nat} {A : Option Addr} {l : List Int} (h : Row w H A (l.map ivT)) {k : Nat} (hk : k < l.length) : ∃ b off, A = some ⟨b, off, none⟩ ∧ b < H ∧ w.cell? ⟨b, off + k, none⟩ = some (.int .i64 l[k]) := by
  obtain ⟨b, off, e, hb, hc⟩ := h.at_ (k := k) (by rw [List.length_map]; exact hk)
  exact ⟨b, off, e, hb, by rw [hc, List.getElem_map]; rfl⟩

def TimesRel (l : List Int) (i : Value) : Prop := ∃ k : Nat, k ≤ l.length ∧ i = .int .i64 k ∧ timesB (l.take k) = true

set_option maxHeartbeats 400000 in
theorem may_any (A : Option Addr) (m c H : Nat) (l : List Int) (w : World) (hl : l.length = m) (hA : Row w H A (l.map ivT)) (hm : m ≤ maxLen) :
    Calls Tryd.prog 58 #[.slice A m c] w (Told w (.bool (timesB l))) := by
  subst hl
  unfold maxLen at hm
  have HA := Lib.hid hA
  clear hA
  go_enter Tryd.func58, Tryd.ntmps58
  go_wp2
  go_loop [7] (TimesRel l) (fun i => l.length - (intOf i).toNat)
  case atStart => exact ⟨0, Nat.zero_le _, rfl, by simp [timesB]⟩
  case round =>
    obtain ⟨k, hk, rfl, hall⟩ := hrel
    have HK := Lib.hid hall
    clear hall
    by_cases hlt : k < l.length
    · obtain ⟨b, off, rfl, _, hc⟩ := HA.out.ivT_at hlt
      generalize hx : l[k] = x at hc
      have HX := Lib.hid hx
      clear hx
      by_cases h1 : x < 0
      · have HF := Lib.hid (allT_not hlt (by rw [HX.out]; exact timeB_neg h1))
        go_wp2
        go_ret
        exact ⟨by rw [HF.out]; rfl, rfl⟩
      · by_cases h2 : 36028797018963968 < x
        · have hd2 : decide (36028797018963968 < x) = true := by simp; omega
          have HF := Lib.hid (allT_not hlt (by rw [HX.out]; exact timeB_big h2))
          go_wp2
          go_ret
          exact ⟨by rw [HF.out]; rfl, rfl⟩
        · have hd2 : decide (36028797018963968 < x) = false := by simp; omega
          have HF := Lib.hid (allT_snoc hlt HK.out (by rw [HX.out]; exact timeB_true (by omega) (by omega)))
          go_wp2
          exact ⟨⟨k + 1, by omega, by go_num, HF.out⟩, by simp [intOf]; omega⟩
    · obtain rfl : k = l.length := by omega
      go_wp2
      go_ret
      exact ⟨ret_bool (by have h := HK.out; rw [List.take_length] at h; exact h.symm), rfl⟩

end Go.Proofs.YtmbcbfalgdgmjaaDoor

namespace Go.Proofs.YtmbcbfalgdgmjaaDoor
open Go.RowKit

theorem row_made_ints (w : World) (l : List Int) (cs : Array Value) (t : TypeId) (h : cs.toList = l.map ivT) : Row (w.alloc (.cells cs t)) (w.heap.size + 1) (some ⟨w.heap.size, 0, none⟩) (l.map ivT) := by
  rw [← h]
  exact Row.made w cs t

set_option maxHeartbeats 400000 in
theorem left_any (g t n : Int) (w : World) : Calls Tryd.prog 41 #[.int .i64 g, .int .i64 t, .int .i64 n] w (Gave w (.int .i64 (leftI g t n))) := by
  have hm := fun W (h : W = w.alloc (.cells #[.int .i64 g, .int .i64 t, .int .i64 n] 3)) => may_any (some ⟨w.heap.size, 0, none⟩) 3 3 (w.heap.size + 1) [g, t, n] W rfl (by subst h; exact row_made_ints w _ _ _ rfl) (by unfold maxLen; omega)
  have hb : Below w.heap.size w (w.alloc (.cells #[.int .i64 g, .int .i64 t, .int .i64 n] 3)) := (Below.refl w.heap.size w).alloc (Nat.le_refl _) _
  have HB := Lib.hid hb
  clear hb
  cases hs : timesB [g, t, n]
  · rw [hs] at hm
    have HM := Lib.hid hm
    have HV := Lib.hid (leftI_no hs)
    clear hm hs
    go_enter Tryd.func41, Tryd.ntmps41
    go_wp2_with (go_at_call 58; refine (HM.out _ rfl).mono ?_; rintro e w' ⟨rfl, rfl⟩)
    go_ret
    exact ⟨ret_int (by rw [HV.out]), HB.out⟩
  · rw [hs] at hm
    have HM := Lib.hid hm
    obtain ⟨h1, h2, h3⟩ := times3_yes hs
    have HS := Lib.hid hs
    clear hm hs
    by_cases hn : n < g
    · have hx : max n g = g := by omega
      by_cases hy : g + t - g ≤ 0
      · have hz : max (g + t - g) 0 = 0 := by omega
        have HV := Lib.hid (leftI_end (g := g) (t := t) (n := n) (by rw [if_pos hn]; exact hy))
        go_enter Tryd.func41, Tryd.ntmps41
        go_wp2_with (go_at_call 58; refine (HM.out _ rfl).mono ?_; rintro e w' ⟨rfl, rfl⟩)
        go_ret
        exact ⟨ret_int (by rw [HV.out]; first | done | omega), HB.out⟩
      · have hz : max (g + t - g) 0 = g + t - g := by omega
        have HV := Lib.hid (leftI_some (g := g) (t := t) (n := n) HS.out (by rw [if_pos hn]; exact hy))
        go_enter Tryd.func41, Tryd.ntmps41
        go_wp2_with (go_at_call 58; refine (HM.out _ rfl).mono ?_; rintro e w' ⟨rfl, rfl⟩)
        go_ret
        exact ⟨ret_int (by rw [HV.out, if_pos hn]), HB.out⟩
    · have hx : max n g = n := by omega
      by_cases hy : g + t - n ≤ 0
      · have hz : max (g + t - n) 0 = 0 := by omega
        have HV := Lib.hid (leftI_end (g := g) (t := t) (n := n) (by rw [if_neg hn]; exact hy))
        go_enter Tryd.func41, Tryd.ntmps41
        go_wp2_with (go_at_call 58; refine (HM.out _ rfl).mono ?_; rintro e w' ⟨rfl, rfl⟩)
        all_goals (go_ret; exact ⟨ret_int (by rw [HV.out]; try omega), HB.out⟩)
      · have hz : max (g + t - n) 0 = g + t - n := by omega
        have HV := Lib.hid (leftI_some (g := g) (t := t) (n := n) HS.out (by rw [if_neg hn]; exact hy))
        go_enter Tryd.func41, Tryd.ntmps41
        go_wp2_with (go_at_call 58; refine (HM.out _ rfl).mono ?_; rintro e w' ⟨rfl, rfl⟩)
        go_ret
        exact ⟨ret_int (by rw [HV.out, if_neg (Int.not_lt.2 hn)]), HB.out⟩

theorem gtr0 (x : Int) : decide (x > 0) = decide (0 < x) := rfl

set_option maxHeartbeats 400000 in
theorem fresh_any (g t n : Int) (w : World) : Calls Tryd.prog 23 #[.int .i64 g, .int .i64 t, .int .i64 n] w (Gave w (.bool (decide (0 < leftI g t n)))) := by
  have HM := Lib.hid (fun W => left_any g t n W)
  generalize leftI g t n = x at HM ⊢
  go_enter Tryd.func23, Tryd.ntmps23
  go_wp2_with (go_at_call 41; refine (HM.out _).mono ?_; rintro e w' ⟨rfl, hb⟩)
  go_ret
  exact ⟨rfl, hb⟩

end Go.Proofs.YtmbcbfalgdgmjaaDoor

namespace Go.Proofs.YtmbcbfalgdgmjaaDoor
open Go.RowKit

theorem times4_three {g t k n : Int} (h : timesB [g, t, k, n] = true) : timesB [g, t, n] = true ∧ 0 ≤ k ∧ k ≤ 36028797018963968 := by
  rw [times4] at h
  simp only [Bool.and_eq_true] at h
  exact ⟨times3_true h.1 h.2.1 h.2.2.2, timeB_yes h.2.2.1⟩
theorem staleB_no {g t k n : Int} (h : timesB [g, t, k, n] = false) : staleB g t k n = false := by unfold staleB; rw [h]; rfl
theorem staleB_fresh {g t k n : Int} (h : 0 < leftI g t n) : staleB g t k n = false := by
  unfold staleB
  rw [show (leftI g t n == 0) = false from beq_eq_false_iff_ne.2 (by omega)]
  simp
theorem staleB_yes {g t k n : Int} (h : timesB [g, t, k, n] = true) (h' : ¬ 0 < leftI g t n) : staleB g t k n = decide (n < g + t + k) := by
  have h1 := leftI_bounds g t n
  unfold staleB
  rw [h, show leftI g t n = 0 by omega]
  rfl












































theorem tellI_no {g t n : Int} (h : timesB [g, t, n] = false) : tellI g t n = 0 := by unfold tellI; rw [if_neg (by rw [h]; simp)]
theorem tellI_left {g t n : Int} (h : 0 < leftI g t n) : tellI g t n = leftI g t n := by
  unfold tellI
  cases hs : timesB [g, t, n]
  · rw [leftI_no hs] at h; omega
  · rw [if_pos rfl, if_pos h]
theorem tellI_end {g t n : Int} (h : timesB [g, t, n] = true) (h' : ¬ 0 < leftI g t n) : tellI g t n = 30 := by unfold tellI; rw [if_pos h, if_neg h']












































theorem clampI_neg {t : Int} {b : Bool} (h : t < 0) : clampI t b = 0 := by unfold clampI; rw [if_pos h]
theorem clampI_n {t : Int} (h : ¬ t < 0) (h' : ¬ 10800 < t) (b : Bool) : clampI t b = t := by
  unfold clampI; rw [if_neg h, if_neg (fun x => h' x.2), if_neg (by omega)]
theorem clampI_neg_big {t : Int} (h' : 10800 < t) : clampI t true = 10800 := by
  unfold clampI; rw [if_neg (by omega), if_pos ⟨rfl, h'⟩]
theorem clampI_mid {t : Int} (h : ¬ t < 0) (h' : ¬ 604800 < t) : clampI t false = t := by
  unfold clampI; rw [if_neg h, if_neg (by simp), if_neg h']
theorem clampI_big {t : Int} (h' : 604800 < t) : clampI t false = 604800 := by
  unfold clampI; rw [if_neg (by omega), if_neg (by simp), if_pos h']

set_option maxHeartbeats 400000 in
theorem clamp_any (t : Int) (b : Bool) (w : World) : Calls Tryd.prog 44 #[.int .i64 t, .bool b] w (Told w (.int .i64 (clampI t b))) := by
  by_cases h : t < 0
  · have HV := Lib.hid (clampI_neg (b := b) h)
    cases b <;> (go_enter Tryd.func44, Tryd.ntmps44; go_wp2; go_ret; exact ⟨ret_int (by rw [HV.out]; try omega), rfl⟩)
  · cases b
    · by_cases h2 : 604800 < t
      · have HV := Lib.hid (clampI_big h2)
        go_enter Tryd.func44, Tryd.ntmps44
        go_wp2
        go_ret
        exact ⟨ret_int (by rw [HV.out]; try omega), rfl⟩
      · have HV := Lib.hid (clampI_mid h h2)
        go_enter Tryd.func44, Tryd.ntmps44
        go_wp2
        go_ret
        exact ⟨ret_int (by rw [HV.out]; try omega), rfl⟩
    · by_cases h2 : 10800 < t
      · have HV := Lib.hid (clampI_neg_big h2)
        go_enter Tryd.func44, Tryd.ntmps44
        go_wp2
        go_ret
        exact ⟨ret_int (by rw [HV.out]; try omega), rfl⟩
      · have HV := Lib.hid (clampI_n h h2 true)
        go_enter Tryd.func44, Tryd.ntmps44
        go_wp2
        go_ret
        exact ⟨ret_int (by rw [HV.out]; try omega), rfl⟩

end Go.Proofs.YtmbcbfalgdgmjaaDoor

namespace Go.Proofs.YtmbcbfalgdgmjaaDoor
open Go.RowKit

set_option maxHeartbeats 400000 in
theorem ftime_any (t : Int) (w : World) : Calls Tryd.prog 22 #[.int .i64 t] w (Told w (.bool (timeB t))) := by
  have HS := Lib.hid (show timeB t = (decide (0 ≤ t) && decide (t ≤ 36028797018963968)) from rfl)
  cases h1 : decide (0 ≤ t) with
  | false =>
    rw [h1] at HS
    go_enter Tryd.func22, Tryd.ntmps22
    go_wp2
    go_ret
    exact ⟨by rw [HS.out]; rfl, rfl⟩
  | true =>
    rw [h1] at HS
    go_enter Tryd.func22, Tryd.ntmps22
    go_wp2
    go_ret
    exact ⟨by rw [HS.out]; simp, rfl⟩

set_option maxHeartbeats 1000000 in
theorem fkind_any (k : Int) (w : World) : Calls Tryd.prog 30 #[.int .i64 k] w (Told w (.bool (typedB k))) := by
  by_cases c1 : k < 1
  · have t1 : decide (1 ≤ k) = false := decide_eq_false (by omega)
    have HV := Lib.hid (typedB_low c1)
    clear c1
    go_enter Tryd.func30, Tryd.ntmps30
    go_wp2
    go_ret
    exact ⟨by rw [HV.out]; rfl, rfl⟩
  have t1 : decide (1 ≤ k) = true := decide_eq_true (by omega)
  by_cases c2 : 65534 < k
  · have t2 : decide (k ≤ 65534) = false := decide_eq_false (by omega)
    have HV := Lib.hid (typedB_high c2)
    clear c1 c2
    go_enter Tryd.func30, Tryd.ntmps30
    go_wp2
    go_ret
    exact ⟨by rw [HV.out]; rfl, rfl⟩
  have t2 : decide (k ≤ 65534) = true := decide_eq_true (by omega)
  by_cases c3 : k = 41
  · subst c3
    have HV := Lib.hid typedB_41
    clear c1 c2
    go_enter Tryd.func30, Tryd.ntmps30
    go_wp2
    go_ret
    exact ⟨by rw [HV.out]; rfl, rfl⟩
  have t3 : (k != 41) = true := by rw [bne_iff_ne]; exact c3
  by_cases c4 : k = 255
  · subst c4
    have HV := Lib.hid typedB_255
    clear c1 c2
    go_enter Tryd.func30, Tryd.ntmps30
    go_wp2
    go_ret
    exact ⟨by rw [HV.out]; rfl, rfl⟩
  have t4 : (k != 255) = true := by rw [bne_iff_ne]; exact c4
  have HV := Lib.hid (typedB_yes (by omega) (by omega) c3 c4)
  clear c1 c2 c3 c4
  go_enter Tryd.func30, Tryd.ntmps30
  go_wp2
  go_ret
  exact ⟨by rw [HV.out]; rfl, rfl⟩

/-- Is a TTL within the bounds? -/
def fitT (t : Int) (b : Bool) : Bool := t == clampI t b
set_option maxHeartbeats 400000 in
theorem fitsT_any (t : Int) (b : Bool) (w : World) : Calls Tryd.prog 31 #[.int .i64 t, .bool b] w (Told w (.bool (fitT t b))) := by
  have HC := Lib.hid (clamp_any t b w)
  have HV := Lib.hid (show fitT t b = (t == clampI t b) from rfl)
  go_enter Tryd.func31, Tryd.ntmps31
  go_wp2_with fail
  refine HC.out.mono ?_
  rintro e w1 ⟨rfl, rfl⟩
  go_wp2
  go_ret
  exact ⟨by rw [HV.out]; rfl, rfl⟩

/-- What soundSet lays for its closure. -/
structure DBox (w : World) (g : Nat) (x : DV) (a : Dt) : Prop where
  bg : Whole w g 31 [x.vb a, x.vh a, x.vm a, x.vn a, x.vt a]
  d : DataAt w w.heap.size x a
theorem DBox.below {w w' : World} {g : Nat} {x : DV} {a : Dt} (h : DBox w g x a) (hb : Below w.heap.size w w') : DBox w' g x a :=
  ⟨h.bg.below hb h.bg.lt, (h.d.below hb).mono hb.size⟩

set_option maxHeartbeats 1000000 in
theorem same1_any (w : World) (g : Nat) (x y : DV) (a b : Dt) (h : DBox w g x a) (hy : DataAt w w.heap.size y b) (la : Wide a) (lb : Wide b) :
    Calls Tryd.prog 45 #[y.val b, .pointer (some ⟨g, 0, none⟩)] w (Gave w (.bool (sameD a b))) := by
  obtain ⟨W, hW⟩ : ∃ W, W = w.alloc (.cells #[.slice y.Ab b.bytes.length y.cb, .slice y.Ah b.host.length y.ch, .slice y.Am b.mail.length y.cm, .slice y.An b.nums.length y.cn, .slice y.At b.texts.length y.ct] 31) := ⟨_, rfl⟩
  have hB : Below w.heap.size w W := by rw [hW]; exact (Below.refl _ _).alloc (Nat.le_refl _) _
  have hx := h.below hB
  have hwh : Whole W w.heap.size 31 [y.vb b, y.vh b, y.vm b, y.vn b, y.vt b] := by rw [hW]; exact Whole.made w [y.vb b, y.vh b, y.vm b, y.vn b, y.vt b] _
  have c0 : W.cell? ⟨w.heap.size, 0, none⟩ = some (.slice y.Ab b.bytes.length y.cb) := hwh.cell 0
  have c1 : W.cell? ⟨w.heap.size, 1, none⟩ = some (.slice y.Ah b.host.length y.ch) := hwh.cell 1
  have c2 : W.cell? ⟨w.heap.size, 2, none⟩ = some (.slice y.Am b.mail.length y.cm) := hwh.cell 2
  have c3 : W.cell? ⟨w.heap.size, 3, none⟩ = some (.slice y.An b.nums.length y.cn) := hwh.cell 3
  have c4 : W.cell? ⟨w.heap.size, 4, none⟩ = some (.slice y.At b.texts.length y.ct) := hwh.cell 4
  have d0 : W.cell? ⟨g, 0, none⟩ = some (.slice x.Ab a.bytes.length x.cb) := hx.bg.cell 0
  have d1 : W.cell? ⟨g, 1, none⟩ = some (.slice x.Ah a.host.length x.ch) := hx.bg.cell 1
  have d2 : W.cell? ⟨g, 2, none⟩ = some (.slice x.Am a.mail.length x.cm) := hx.bg.cell 2
  have d3 : W.cell? ⟨g, 3, none⟩ = some (.slice x.An a.nums.length x.cn) := hx.bg.cell 3
  have d4 : W.cell? ⟨g, 4, none⟩ = some (.slice x.At a.texts.length x.ct) := hx.bg.cell 4
  have HC := Lib.hid (dsame_wide y x b a W ((hy.below hB).mono hB.size) hx.d lb la)
  have HB := Lib.hid hB
  have HT := Lib.hid (sameD_turn b a)
  clear hB hx hwh hy la lb h
  subst hW
  go_enter Tryd.func45, Tryd.ntmps45
  go_wp2_with fail
  refine HC.out.mono ?_
  rintro e w1 ⟨rfl, hb1⟩
  have HB1 := Lib.hid hb1
  clear hb1
  go_wp2
  go_ret
  exact ⟨by rw [HT.out]; rfl, HB.out.trans (HB1.out.mono HB.out.size)⟩

set_option maxHeartbeats 2000000 in
theorem index_same (w : World) (g : Nat) (x : DV) (a : Dt) (A : Option Addr) (c : Nat) (ps : List (DV × Dt)) (h : DBox w g x a) (hp : DsAt w w.heap.size A ps) (la : Wide a) (hc : ∀ p ∈ ps, Wide p.2) (hl : ps.length ≤ maxLen) :
    Calls Tryd.prog 65 #[.slice A ps.length c, .func (.func 45) #[] #[.pointer (some ⟨g, 0, none⟩)]] w (IndexOut w ((dats ps).any (fun e => sameD a e))) := by
  unfold maxLen at hl
  have HX := Lib.hid h
  have HP := Lib.hid hp
  have HC := Lib.hid hc
  clear h hp hc
  go_enter Tryd.func65, Tryd.ntmps65
  go_wp2
  go_loopw [8] (IndexRel w ps (fun e => sameD a e)) (fun i _ => ps.length - (intOf i).toNat)
  case atStart => exact ⟨0, Nat.zero_le _, rfl, rfl, Below.refl _ _⟩
  case round =>
    obtain ⟨k, hk, rfl, hn, hb⟩ := hrel
    have HN := Lib.hid hn
    have HB := Lib.hid hb
    have hz := hb.size
    clear hn hb
    by_cases hlt : k < ps.length
    · obtain ⟨b, off, rfl, hbH, hd, q0, q1, q2, q3, q4⟩ := (HP.out.below HB.out).at_ hlt
      have HCL := Lib.hid (same1_any wr g x (ps[k]).1 a (ps[k]).2 (HX.out.below HB.out) (hd.mono HB.out.size) la (HC.out _ (List.getElem_mem hlt)))
      have HI := Lib.hid (any_snoc (fun e => sameD a e) hlt HN.out)
      clear hd
      revert q0 q1 q2 q3 q4 HCL HI
      generalize ps[k] = p
      obtain ⟨y, d⟩ := p
      intro q0 q1 q2 q3 q4 HCL HI
      dsimp only at *
      go_wp2_with fail
      refine HCL.out.mono ?_
      rintro e w1 ⟨rfl, hb1⟩
      have HB1 := Lib.hid (HB.out.trans (hb1.mono hz))
      clear hb1
      cases hv : sameD a d with
      | true =>
        have HT := Lib.hid (HI.out.1 hv)
        clear HI
        go_wp2
        go_ret
        exact ⟨_, rfl, by rw [HT.out]; simp, HB1.out⟩
      | false =>
        have HT := Lib.hid (HI.out.2 hv)
        clear HI
        go_wp2
        exact ⟨⟨k + 1, by omega, by go_num, HT.out, HB1.out⟩, by simp [intOf]; omega⟩
    · obtain rfl : k = ps.length := by omega
      have HF := Lib.hid (show (dats ps).any (fun e => sameD a e) = false by have h := HN.out; rwa [List.take_length] at h)
      go_wp2
      go_ret
      exact ⟨_, rfl, by rw [HF.out]; rfl, HB.out⟩

set_option maxHeartbeats 1000000 in
theorem contains_same (w : World) (g : Nat) (x : DV) (a : Dt) (A : Option Addr) (c : Nat) (ps : List (DV × Dt)) (h : DBox w g x a) (hp : DsAt w w.heap.size A ps) (la : Wide a) (hc : ∀ p ∈ ps, Wide p.2) (hl : ps.length ≤ maxLen) :
    Calls Tryd.prog 47 #[.slice A ps.length c, .func (.func 45) #[] #[.pointer (some ⟨g, 0, none⟩)]] w (Gave w (.bool (hasD (dats ps) a))) := by
  have HC := Lib.hid (index_same w g x a A c ps h hp la hc hl)
  clear h hp hc
  go_enter Tryd.func47, Tryd.ntmps47
  go_wp2_with fail
  refine HC.out.mono ?_
  rintro e w1 ⟨i, rfl, hi, hb1⟩
  have HB1 := Lib.hid hb1
  have HI := Lib.hid hi
  clear hb1 hi
  go_wp2
  go_ret
  exact ⟨ret_bool HI.out, HB1.out⟩

/-- May data be the set of a type? -/
def setKB (k : Int) (l : List Dt) : Bool := decide (1 ≤ l.length) && (decide (l.length ≤ 64) && setOk k l)
def SetKRel (w : World) (k : Int) (ps : List (DV × Dt)) (i : Value) (wr : World) : Prop :=
  ∃ j : Nat, j ≤ ps.length ∧ i = .int .i64 j ∧ setOk k (dats (ps.take j)) = true ∧ Below w.heap.size w wr

set_option maxRecDepth 20000 in
set_option maxHeartbeats 4000000 in
theorem soundSet_any (w : World) (k : Int) (A : Option Addr) (c : Nat) (ps : List (DV × Dt)) (hp : DsAt w w.heap.size A ps) (hc : ∀ p ∈ ps, DatIn p.2) (hf : ∀ p ∈ ps, p.2.host.length ≤ 300 ∧ p.2.mail.length ≤ 300) (hl : ps.length ≤ c) (_ : c ≤ maxLen) :
    Calls Tryd.prog 32 #[.int .i64 k, .slice A ps.length c] w (Gave w (.bool (setKB k (dats ps)))) := by
  have hlen : (dats ps).length = ps.length := length_dats _
  have HS := Lib.hid (show setKB k (dats ps) = (decide (1 ≤ (dats ps).length) && (decide ((dats ps).length ≤ 64) && setOk k (dats ps))) from rfl)
  rw [hlen] at HS
  clear hlen
  have HP := Lib.hid hp
  have HC := Lib.hid hc
  have HFW := Lib.hid hf
  clear hp hc hf
  by_cases c1 : ps.length < 1
  · have e1 : decide ((ps.length : Int) < 1) = true := decide_eq_true (by omega)
    rw [decide_eq_false (show ¬ 1 ≤ ps.length by omega)] at HS
    go_enter Tryd.func32, Tryd.ntmps32
    go_wp2
    go_ret
    exact ⟨by rw [HS.out]; rfl, Below.refl _ _⟩
  have e1 : decide ((ps.length : Int) < 1) = false := decide_eq_false (by omega)
  rw [decide_eq_true (show 1 ≤ ps.length by omega)] at HS
  by_cases c2 : 64 < ps.length
  · have e2 : decide ((64 : Int) < (ps.length : Int)) = true := decide_eq_true (by omega)
    rw [decide_eq_false (show ¬ ps.length ≤ 64 by omega)] at HS
    go_enter Tryd.func32, Tryd.ntmps32
    go_wp2
    go_ret
    exact ⟨by rw [HS.out]; rfl, Below.refl _ _⟩
  have e2 : decide ((64 : Int) < (ps.length : Int)) = false := decide_eq_false (by omega)
  rw [decide_eq_true (show ps.length ≤ 64 by omega)] at HS
  go_enter Tryd.func32, Tryd.ntmps32
  go_wp2
  clear e1 e2
  go_loopw [18] (SetKRel w k ps) (fun i _ => ps.length - (intOf i).toNat)
  case atStart => exact ⟨0, Nat.zero_le _, rfl, rfl, Below.refl _ _⟩
  case round =>
    obtain ⟨j, hj, rfl, hn, hb⟩ := hrel
    have HN := Lib.hid hn
    have HB := Lib.hid hb
    have hz := hb.size
    clear hn hb
    by_cases hlt : j < ps.length
    · have HPW := Lib.hid (HP.out.below HB.out)
      obtain ⟨b, off, rfl, hbH, hd, q0, q1, q2, q3, q4⟩ := HPW.out.at_ hlt
      have HD := Lib.hid (hd.mono HB.out.size)
      have HI := Lib.hid (HC.out _ (List.getElem_mem hlt))
      have HFE := Lib.hid (HFW.out _ (List.getElem_mem hlt))
      have HST := Lib.hid (show setOk k (dats (ps.take (j + 1))) = (setOk k (dats (ps.take j)) && (soundD k (ps[j]).2 && !hasD (dats (ps.take j)) (ps[j]).2)) by rw [dats_step hlt, setOk_snoc])
      have HF := Lib.hid (fun h => setOk_fails (kd := k) hlt h)
      have htl : (ps.take j).length = j := by rw [List.length_take]; omega
      clear hd
      revert q0 q1 q2 q3 q4 HD HI HFE HST
      generalize ps[j] = p
      obtain ⟨y, d⟩ := p
      intro q0 q1 q2 q3 q4 HD HI HFE HST
      dsimp only at *
      have HNEW := Lib.hid ((Below.refl wr.heap.size wr).alloc (Nat.le_refl _) (.cells #[.slice y.Ab d.bytes.length y.cb, .slice y.Ah d.host.length y.ch, .slice y.Am d.mail.length y.cm, .slice y.An d.nums.length y.cn, .slice y.At d.texts.length y.ct] 31))
      have HWB := Lib.hid (Whole.made wr [y.vb d, y.vh d, y.vm d, y.vn d, y.vt d] 31)
      have HSND := Lib.hid (dsound_wide k y d (wr.alloc (.cells #[.slice y.Ab d.bytes.length y.cb, .slice y.Ah d.host.length y.ch, .slice y.Am d.mail.length y.cm, .slice y.An d.nums.length y.cn, .slice y.At d.texts.length y.ct] 31)) ((HD.out.below HNEW.out).mono HNEW.out.size) (by have := HFE.out.1; omega) HI.out.w.h.2 (by have := HFE.out.2; omega) HI.out.w.m.2 HI.out.w.t HI.out.t)
      go_wp2_with fail
      refine HSND.out.mono ?_
      rintro e w1 ⟨rfl, hb1⟩
      clear HSND
      have HB1 := Lib.hid hb1
      clear hb1
      cases h1 : soundD k d with
      | false =>
        have HT := Lib.hid (HF.out (by rw [HST.out, h1]; simp))
        go_wp2
        go_ret
        exact ⟨by rw [HS.out, HT.out]; rfl, HB.out.trans ((HNEW.out.trans (HB1.out.mono HNEW.out.size)).mono hz)⟩
      | true =>
        have HBX := Lib.hid (show DBox w1 wr.heap.size y d from ⟨HWB.out.below HB1.out HWB.out.lt, (((HD.out.below HNEW.out).mono HNEW.out.size).below HB1.out).mono HB1.out.size⟩)
        have HBW := Lib.hid (HB.out.trans ((HNEW.out.trans (HB1.out.mono HNEW.out.size)).mono hz))
        have HCT := Lib.hid (contains_same w1 wr.heap.size y d (some ⟨b, off, none⟩) c (ps.take j) HBX.out (((HP.out.below HBW.out).mono HBW.out.size).take j (by omega)) HI.out.w (fun p hp => (HC.out p (List.mem_of_mem_take hp)).w) (by unfold maxLen; omega))
        rw [htl] at HCT
        go_wp2_with fail
        refine HCT.out.mono ?_
        rintro e w2 ⟨rfl, hb2⟩
        have HB2 := Lib.hid (HBW.out.trans (hb2.mono HBW.out.size))
        clear hb2
        cases h2 : hasD (dats (ps.take j)) d with
        | true =>
          have HT := Lib.hid (HF.out (by rw [HST.out, h2]; simp))
          go_wp2
          go_ret
          exact ⟨by rw [HS.out, HT.out]; rfl, HB2.out⟩
        | false =>
          have HT := Lib.hid (show setOk k (dats (ps.take (j + 1))) = true by rw [HST.out, h1, h2, HN.out]; rfl)
          go_wp2
          exact ⟨⟨j + 1, by omega, by go_num, HT.out, HB2.out⟩, by simp [intOf]; omega⟩
    · obtain rfl : j = ps.length := by omega
      have HF := Lib.hid (show setOk k (dats ps) = true by have h := HN.out; rwa [List.take_length] at h)
      go_wp2
      go_ret
      exact ⟨by rw [HS.out, HF.out]; rfl, HB.out⟩

end Go.Proofs.YtmbcbfalgdgmjaaDoor

namespace Go.Proofs.YtmbcbfalgdgmjaaDoor
open Go.RowKit

theorem soundN_sz {n : List (List UInt8)} (h : soundN n = true) : szN n ≤ maxLen := by
  have h2 := (soundN_parts h).2
  unfold maxLen
  omega
/-- Both boxes of the document's Sound. -/
structure FBoxes (w : World) (x : FV) (W : World) : Prop where
  f : Whole W w.heap.size 34 (cellsF x)
  d : Whole W (w.heap.size + 1) 31 [.slice x.d.Ab x.soa.bytes.length x.d.cb, .slice x.d.Ah x.soa.host.length x.d.ch, .slice x.d.Am x.soa.mail.length x.d.cm, .slice x.d.An x.soa.nums.length x.d.cn, .slice x.d.At x.soa.texts.length x.d.ct]
  below : Below w.heap.size w W
  size : w.heap.size + 2 ≤ W.heap.size
theorem FBoxes.step {w : World} {x : FV} {W W' : World} (h : FBoxes w x W) (hb : Below W.heap.size W W') : FBoxes w x W' :=
  ⟨h.f.below hb h.f.lt, h.d.below hb h.d.lt, h.below.trans (hb.mono (by have := h.size; omega)), Nat.le_trans h.size hb.size⟩
theorem FBoxes.made (w : World) (x : FV) : FBoxes w x ((w.alloc (.cells #[.slice x.A x.name.length x.c, .int .i64 x.h.typ, .int .i64 x.h.knd, .int .i64 x.h.rank, .int .i64 x.h.got, .int .i64 x.h.ttl, .slice x.sA x.sp.length x.sc, .slice x.zA x.zone.length x.zc, .slice x.d.Ab x.soa.bytes.length x.d.cb, .slice x.d.Ah x.soa.host.length x.d.ch, .slice x.d.Am x.soa.mail.length x.d.cm, .slice x.d.An x.soa.nums.length x.d.cn, .slice x.d.At x.soa.texts.length x.d.ct] 34)).alloc (.cells #[.slice x.d.Ab x.soa.bytes.length x.d.cb, .slice x.d.Ah x.soa.host.length x.d.ch, .slice x.d.Am x.soa.mail.length x.d.cm, .slice x.d.An x.soa.nums.length x.d.cn, .slice x.d.At x.soa.texts.length x.d.ct] 31)).drew := by
  have hz : (w.alloc (.cells #[.slice x.A x.name.length x.c, .int .i64 x.h.typ, .int .i64 x.h.knd, .int .i64 x.h.rank, .int .i64 x.h.got, .int .i64 x.h.ttl, .slice x.sA x.sp.length x.sc, .slice x.zA x.zone.length x.zc, .slice x.d.Ab x.soa.bytes.length x.d.cb, .slice x.d.Ah x.soa.host.length x.d.ch, .slice x.d.Am x.soa.mail.length x.d.cm, .slice x.d.An x.soa.nums.length x.d.cn, .slice x.d.At x.soa.texts.length x.d.ct] 34)).heap.size = w.heap.size + 1 := by simp
  refine ⟨(Whole.made w (cellsF x) _).alloc _, ?_, ((((Below.refl _ _).alloc (Nat.le_refl _) _).alloc (by simp) _).drew), by simp⟩
  have := Whole.made (w.alloc (.cells #[.slice x.A x.name.length x.c, .int .i64 x.h.typ, .int .i64 x.h.knd, .int .i64 x.h.rank, .int .i64 x.h.got, .int .i64 x.h.ttl, .slice x.sA x.sp.length x.sc, .slice x.zA x.zone.length x.zc, .slice x.d.Ab x.soa.bytes.length x.d.cb, .slice x.d.Ah x.soa.host.length x.d.ch, .slice x.d.Am x.soa.mail.length x.d.cm, .slice x.d.An x.soa.nums.length x.d.cn, .slice x.d.At x.soa.texts.length x.d.ct] 34)) [.slice x.d.Ab x.soa.bytes.length x.d.cb, .slice x.d.Ah x.soa.host.length x.d.ch, .slice x.d.Am x.soa.mail.length x.d.cm, .slice x.d.An x.soa.nums.length x.d.cn, .slice x.d.At x.soa.texts.length x.d.ct] 31
  rw [hz] at this
  exact this

end Go.Proofs.YtmbcbfalgdgmjaaDoor

namespace Go.Proofs.YtmbcbfalgdgmjaaDoor
open Go.RowKit
























































































































































































































































































































































































































































































































































































































































































































































































end Go.Proofs.YtmbcbfalgdgmjaaDoor

namespace Go.Proofs.YtmbcbfalgdgmjaaDoor
open Go.RowKit

theorem noB_parts {f : Fc} (h : noB f = true) : (decide (f.h.knd = 2) == typedB f.h.typ) = true ∧ (f.h.knd = 2 ∨ f.h.typ = 0) ∧ f.set.length = 0 ∧ f.h.ttl ≤ 10800 ∧ soundN f.zone = true ∧ underN f.name f.zone = true ∧ soundD 6 f.soa = true := by
  unfold noB at h
  simpa only [Bool.and_eq_true, Bool.or_eq_true, decide_eq_true_eq] using h
theorem soundF_parts {f : Fc} (h : soundF f = true) : headB f.name f.h = true ∧ ((f.h.knd = 1 ∧ hasB f = true) ∨ ((f.h.knd = 2 ∨ f.h.knd = 3) ∧ noB f = true)) := by
  unfold soundF at h
  rw [Bool.and_eq_true] at h
  refine ⟨h.1, ?_⟩
  have h2 := h.2
  split at h2
  · exact .inl ⟨by assumption, h2⟩
  · split at h2
    · exact .inr ⟨by assumption, h2⟩
    · cases h2



























end Go.Proofs.YtmbcbfalgdgmjaaDoor
