/-
  Bytes that begin with others that are a message are no message.
-/
import Derived.Test.YtmbcbfalgdgmjaaGreatDoorKcP6
import Derived.Test.YtmbcbfalgdgmjaaGreatDoorKcP4
import Derived.BigRegion
import Derived.Laws.BitsLemmas
import Derived.Deep.CutRange
import Derived.Deep.RegionLaw
import Derived.Deep.RegionLawGrows
import Derived.StillTailTactics
import Derived.BigQuiet
import Derived.Test.YtmbcbfalgdgmjaaGreatDoorKcP5
import Derived.Test.YtmbcbfalgdgmjaaGreatDoorKcP1
import Derived.Lib.Builder
import Derived.Lib.UnsafeStr
import Derived.Laws.Externs
import Derived.RegionTactic
import Derived.Test.YtmbcbfalgdgmjaaGreatDoorKcP2
import Derived.Test.YtmbcbfalgdgmjaaGreatDoorKcP3
import Derived.Deep.MidRow
namespace Go.Proofs.YtmbcbfalgdgmjaaGreatDoor
open Go.RowKit

theorem getR_grow (Y b : List UInt8) (p q x : Nat) (n : List (List UInt8)) : ∀ {m : List (List UInt8)} {e : Nat}, getR b p q x n = (m, e, 0) → getR (b ++ Y) p q x n = (m, e, 0) := by
  induction p, q, x, n using getR.induct (b := b) with
  | case1 p q x n h0 h1 =>
    intro m e h
    rw [getR, dif_pos h0, if_pos h1] at h
    rw [getR, dif_pos (by simp; omega), if_pos (by rw [List.getElem_append_left h0]; exact h1)]
    exact h
  | case2 p q x n h0 h1 h2 h3 h4 ih =>
    intro m e h
    rw [getR, dif_pos h0, if_neg h1, if_pos h2, dif_pos h3, if_pos h4] at h
    have g := ih h
    rw [getR, dif_pos (by simp; omega)]
    simp only [List.getElem_append_left h0]
    rw [if_neg h1, if_pos h2, dif_pos (by simp; omega)]
    simp only [List.getElem_append_left h3]
    rw [if_pos h4]
    exact g
  | case3 p q x n h0 h1 h2 h3 h4 =>
    intro m e h
    rw [getR, dif_pos h0, if_neg h1, if_pos h2, dif_pos h3, if_neg h4] at h
    simp at h
  | case4 p q x n h0 h1 h2 h3 =>
    intro m e h
    rw [getR, dif_pos h0, if_neg h1, if_pos h2, dif_neg h3] at h
    simp at h
  | case5 p q x n h0 h1 h2 h3 =>
    intro m e h
    rw [getR, dif_pos h0, if_neg h1, if_neg h2, if_pos h3] at h
    simp at h
  | case6 p q x n h0 h1 h2 h3 h4 h5 ih =>
    intro m e h
    rw [getR, dif_pos h0, if_neg h1, if_neg h2, if_neg h3, if_pos h4, if_pos h5] at h
    have g := ih h
    rw [getR, dif_pos (by simp; omega)]
    simp only [List.getElem_append_left h0]
    rw [if_neg h1, if_neg h2, if_neg h3, if_pos (by simp; omega), cutL_more h4, if_pos h5]
    exact g
  | case7 p q x n h0 h1 h2 h3 h4 h5 =>
    intro m e h
    rw [getR, dif_pos h0, if_neg h1, if_neg h2, if_neg h3, if_pos h4, if_neg h5] at h
    simp at h
  | case8 p q x n h0 h1 h2 h3 h4 =>
    intro m e h
    rw [getR, dif_pos h0, if_neg h1, if_neg h2, if_neg h3, if_neg h4] at h
    simp at h
  | case9 p q x n h0 =>
    intro m e h
    rw [getR, dif_neg h0] at h
    simp at h

theorem getW_grow (Y : List UInt8) {b : List UInt8} {a : Int} {m : List (List UInt8)} {e : Nat} (h : getW b a = (m, e, 0)) : getW (b ++ Y) a = (m, e, 0) := by
  unfold getW at h ⊢
  split at h
  · simp at h
  · rw [if_neg (by assumption)]
    exact getR_grow Y b _ _ _ _ h
theorem numAt_more {b Y : List UInt8} {p s : Nat} (h : p + s ≤ b.length) : numAt (b ++ Y) p s = numAt b p s := by
  unfold numAt
  rw [cutL_more h]
theorem numsL_more {b Y : List UInt8} {p s : Nat} : ∀ {k : Nat}, p + k * s ≤ b.length → numsL (b ++ Y) p s k = numsL b p s k
  | 0, _ => rfl
  | k + 1, h => by
    rw [Nat.succ_mul] at h
    unfold numsL
    rw [numsL_more (by omega), cutL_more (by omega)]
theorem numsR_more {b Y : List UInt8} {p en s k : Nat} (h : en ≤ b.length) : numsR (b ++ Y) p en s k = numsR b p en s k := by
  unfold numsR
  split
  · rw [numsL_more (by omega)]
  · rfl
theorem nameR_more (Y : List UInt8) {b : List UInt8} {p en : Nat} {r : List (List UInt8) × Nat} (h : nameR b p en = .ok r) : nameR (b ++ Y) p en = .ok r := by
  unfold nameR at h ⊢
  rcases hr : getR b p p 0 [] with ⟨n, e, k⟩
  rw [hr] at h
  unfold nameF at h
  dsimp only at h
  split at h
  · cases h
  · rename_i hk
    have hk0 : k = 0 := by omega
    subst hk0
    rw [getR_grow Y b p p 0 [] hr]
    unfold nameF
    exact h
theorem textsR_more {b Y : List UInt8} {en : Nat} (hen : en ≤ b.length) : ∀ (d p : Nat) (acc : List (List UInt8)), en - p ≤ d → textsR (b ++ Y) p en acc = textsR b p en acc
  | d, p, acc, hd => by
    by_cases hp : p < en
    · by_cases ha : acc.length = 64
      · rw [textsR_large (b := b ++ Y) hp ha, textsR_large (b := b) hp ha]
      · have e1 : cutL (b ++ Y) p 1 = cutL b p 1 := cutL_more (by omega)
        by_cases hs : en < p + 1 + numN (cutL b p 1)
        · rw [textsR_short (b := b ++ Y) hp ha (by rw [e1]; exact hs), textsR_short (b := b) hp ha hs]
        · rw [textsR_next (b := b ++ Y) hp ha (by rw [e1]; omega), textsR_next (b := b) hp ha (by omega), e1, cutL_more (by omega)]
          match d, hd with
          | 0, hd => omega
          | d + 1, hd => exact textsR_more hen d _ _ (by omega)
    · rw [textsR.eq_def, textsR.eq_def b, dif_neg hp, dif_neg hp]
theorem bytesR_more {b Y : List UInt8} {p en l m : Nat} (h : en ≤ b.length) : bytesR (b ++ Y) p en l m = bytesR b p en l m := by
  unfold bytesR
  split
  · rfl
  · rw [cutL_more (by omega)]
theorem bind_ok {α β : Type} {x : Except Nat α} {f : α → Except Nat β} {y : β} (h : (x >>= f) = .ok y) : ∃ a, x = .ok a ∧ f a = .ok y := by
  cases x with
  | error k => cases h
  | ok a => exact ⟨a, rfl, h⟩
theorem ok_bind {α β : Type} {x : Except Nat α} {f : α → Except Nat β} {a : α} (h : x = .ok a) : (x >>= f) = f a := by
  subst h
  rfl
theorem readD_more (Y : List UInt8) {b : List UInt8} {p en : Nat} {s : Sh} {d : Dt} (hen : en ≤ b.length) (h : readD b p en s = .ok d) : readD (b ++ Y) p en s = .ok d := by
  unfold readD at h ⊢
  obtain ⟨n1, e1, h⟩ := bind_ok h
  obtain ⟨h1, e2, h⟩ := bind_ok h
  obtain ⟨m1, e3, h⟩ := bind_ok h
  obtain ⟨n2, e4, h⟩ := bind_ok h
  obtain ⟨t1, e5, h⟩ := bind_ok h
  obtain ⟨y1, e6, h⟩ := bind_ok h
  have f2 : (if s.host = true then nameR (b ++ Y) n1.2 en else .ok ([], n1.2)) = .ok h1 := by
    split at e2
    · rw [if_pos (by assumption)]
      exact nameR_more Y e2
    · rw [if_neg (by assumption)]
      exact e2
  have f3 : (if s.mail = true then nameR (b ++ Y) h1.2 en else .ok ([], h1.2)) = .ok m1 := by
    split at e3
    · rw [if_pos (by assumption)]
      exact nameR_more Y e3
    · rw [if_neg (by assumption)]
      exact e3
  have f5 : (if s.texts = true then textsR (b ++ Y) n2.2 en [] else .ok ([], n2.2)) = .ok t1 := by
    split at e5
    · rw [if_pos (by assumption), textsR_more hen _ _ _ (Nat.le_refl _)]
      exact e5
    · rw [if_neg (by assumption)]
      exact e5
  rw [numsR_more hen, ok_bind e1, ok_bind f2, ok_bind f3, numsR_more hen, ok_bind e4, ok_bind f5, bytesR_more hen, ok_bind e6]
  exact h
theorem bind_err {α β : Type} {x : Except Nat α} {f : α → Except Nat β} {k : Nat} (h : (x >>= f) = .error k) : x = .error k ∨ ∃ a, x = .ok a ∧ f a = .error k := by
  cases x with
  | error j =>
    injection h with h
    exact .inl (by rw [h])
  | ok a => exact .inr ⟨a, rfl, h⟩
theorem numsR_err {b : List UInt8} {p en s k : Nat} : numsR b p en s k ≠ .error 0 := by
  unfold numsR
  split <;> simp
theorem nameR_err {b : List UInt8} {p en : Nat} : nameR b p en ≠ .error 0 := by
  unfold nameR nameF
  split
  · simp; assumption
  · split <;> simp
theorem textsR_err {b : List UInt8} {en : Nat} : ∀ (d p : Nat) (acc : List (List UInt8)), en - p ≤ d → textsR b p en acc ≠ .error 0
  | d, p, acc, hd => by
    by_cases hp : p < en
    · by_cases ha : acc.length = 64
      · rw [textsR_large hp ha]
        simp
      · by_cases hs : en < p + 1 + numN (cutL b p 1)
        · rw [textsR_short hp ha hs]
          simp
        · rw [textsR_next hp ha (by omega)]
          match d, hd with
          | 0, hd => omega
          | d + 1, hd => exact textsR_err d _ _ (by omega)
    · rw [textsR, dif_neg hp]
      split <;> simp
theorem bytesR_err {b : List UInt8} {p en l m : Nat} : bytesR b p en l m ≠ .error 0 := by
  unfold bytesR
  split <;> simp
theorem readD_err (b : List UInt8) (p en : Nat) (s : Sh) : readD b p en s ≠ .error 0 := by
  intro h
  unfold readD at h
  rcases bind_err h with h | ⟨_, _, h⟩
  · exact numsR_err h
  rcases bind_err h with h | ⟨_, _, h⟩
  · split at h
    · exact nameR_err h
    · cases h
  rcases bind_err h with h | ⟨_, _, h⟩
  · split at h
    · exact nameR_err h
    · cases h
  rcases bind_err h with h | ⟨_, _, h⟩
  · exact numsR_err h
  rcases bind_err h with h | ⟨_, _, h⟩
  · split at h
    · exact textsR_err _ _ _ (Nat.le_refl _) h
    · cases h
  rcases bind_err h with h | ⟨_, _, h⟩
  · exact bytesR_err h
  · split at h <;> cases h
theorem getD_more (Y : List UInt8) {b : List UInt8} {a z k : Int} {d : Dt} (h : getD b a z k = (d, 0)) : getD (b ++ Y) a z k = (d, 0) := by
  unfold getD at h ⊢
  split at h
  · simp at h
  · rename_i h1
    split at h
    · simp at h
    · rename_i h2
      rw [if_neg h1, if_neg (by rw [List.length_append]; omega)]
      cases hr : readD b a.toNat (a + z).toNat (shN k) with
      | ok d' =>
        rw [hr] at h
        rw [readD_more Y (by omega) hr]
        exact h
      | error j =>
        rw [hr] at h
        dsimp only at h
        have hj : j = 0 := by injection h
        subst hj
        exact absurd hr (readD_err _ _ _ _)
theorem getQ_more (Y : List UInt8) {b : List UInt8} {p nx : Nat} {q : Qt} (h : getQ b p = (q, nx, 0)) : getQ (b ++ Y) p = (q, nx, 0) := by
  rcases hw : getW b (p : Int) with ⟨n, e, k⟩
  unfold getQ at h ⊢
  rw [hw] at h
  dsimp only at h
  by_cases hk : k = 0
  · subst hk
    rw [if_neg (by simp)] at h
    rw [getW_grow Y hw]
    dsimp only
    rw [if_neg (by simp)]
    split at h
    · simp at h
    · rename_i h2
      rw [if_neg (by rw [List.length_append]; omega), numAt_more (by omega), numAt_more (by omega)]
      exact h
  · rw [if_pos hk] at h
    simp at h
    exact absurd h.2.2 hk
theorem getRR_more (Y : List UInt8) {b : List UInt8} {p : Int} {nx : Nat} {r : Rt} (h : getRR b p = (r, nx, 0)) : getRR (b ++ Y) p = (r, nx, 0) := by
  rcases hw : getW b p with ⟨n, e, k⟩
  unfold getRR at h ⊢
  rw [hw] at h
  dsimp only at h
  by_cases hk : k = 0
  · subst hk
    rw [if_neg (by simp)] at h
    rw [getW_grow Y hw]
    dsimp only
    rw [if_neg (by simp)]
    split at h
    · simp at h
    · rename_i h2
      rw [if_neg (by rw [List.length_append]; omega), numAt_more (by omega), numAt_more (by omega), numAt_more (by omega)]
      have e4 : ttlAt (b ++ Y) (e + 4) = ttlAt b (e + 4) := by unfold ttlAt; rw [numAt_more (by omega)]
      rw [e4]
      split at h
      · simp at h
      · rw [if_neg (by assumption)]
        rcases hd : getD b ((e : Int) + 10) (numAt b (e + 8) 2) (numAt b e 2) with ⟨d, z⟩
        rw [hd] at h
        dsimp only at h
        by_cases hz : z = 0
        · subst hz
          rw [if_neg (by simp)] at h
          rw [getD_more Y hd]
          dsimp only
          rw [if_neg (by simp)]
          exact h
        · rw [if_pos hz] at h
          simp at h
          exact absurd h.2.2 hz
  · rw [if_pos hk] at h
    simp at h
    exact absurd h.2.2 hk
theorem getQs_grow (Y : List UInt8) {b : List UInt8} : ∀ (k p : Nat) (l : List Qt) {r : List Qt × Nat}, getQs b k p l = .ok r → getQs (b ++ Y) k p l = .ok r
  | 0, p, l, r, h => h
  | k + 1, p, l, r, h => by
    unfold getQs at h ⊢
    rcases hq : getQ b p with ⟨q, nx, e⟩
    rw [hq] at h
    dsimp only at h
    split at h
    · cases h
    · rename_i he
      have he0 : e = 0 := by omega
      subst he0
      rw [getQ_more Y hq]
      dsimp only
      rw [if_neg (by simp)]
      exact getQs_grow Y k _ _ h
theorem getRs_grow (Y : List UInt8) {b : List UInt8} (last : Bool) : ∀ (k : Nat) (s : Rd) {r : Rd}, getRs b last k s = .ok r → getRs (b ++ Y) last k s = .ok r
  | 0, s, r, h => h
  | k + 1, s, r, h => by
    unfold getRs at h ⊢
    obtain ⟨t, ht, h⟩ := bind_ok h
    have ht2 : stepR (b ++ Y) last s = .ok t := by
      unfold stepR at ht ⊢
      rcases hq : getRR b (s.p : Int) with ⟨q, nx, e⟩
      rw [hq] at ht
      dsimp only at ht
      split at ht
      · cases ht
      · rename_i he
        have he0 : e = 0 := by omega
        subst he0
        rw [getRR_more Y hq]
        dsimp only
        rw [if_neg (by simp)]
        exact ht
    rw [ok_bind ht2]
    exact getRs_grow Y last k _ h
theorem getQ_end {b : List UInt8} {p : Nat} (_ : (getQ b p).2.2 = 0) : (getQ b p).2.1 ≤ b.length := by
  unfold getQ
  split
  · exact Nat.zero_le _
  split
  · exact Nat.zero_le _
  split
  · exact Nat.zero_le _
  · dsimp only
    omega
theorem getRR_end {b : List UInt8} {p : Int} (_ : (getRR b p).2.2 = 0) : (getRR b p).2.1 ≤ b.length := by
  unfold getRR
  split
  · exact Nat.zero_le _
  rename_i h0
  split
  · exact Nat.zero_le _
  rename_i h1
  split
  · exact Nat.zero_le _
  rename_i h2
  split
  · exact Nat.zero_le _
  rename_i h3
  dsimp only
  have h4 : (getD b (((getW b p).2.1 : Int) + 10) (numAt b ((getW b p).2.1 + 8) 2) (numAt b (getW b p).2.1 2)).2 = 0 := by omega
  unfold getD at h4
  split at h4
  · simp at h4
  split at h4
  · simp at h4
  omega
theorem getQs_end {b : List UInt8} : ∀ (k p : Nat) (l : List Qt) {r : List Qt × Nat}, p ≤ b.length → getQs b k p l = .ok r → r.2 ≤ b.length
  | 0, p, l, r, hp, h => by
    unfold getQs at h
    injection h with h
    subst h
    exact hp
  | k + 1, p, l, r, hp, h => by
    unfold getQs at h
    split at h
    · cases h
    · exact getQs_end k _ _ (getQ_end (by omega)) h
theorem getRs_end {b : List UInt8} {last : Bool} : ∀ (k : Nat) (s : Rd) {r : Rd}, s.p ≤ b.length → getRs b last k s = .ok r → r.p ≤ b.length
  | 0, s, r, hp, h => by
    unfold getRs at h
    injection h with h
    subst h
    exact hp
  | k + 1, s, r, hp, h => by
    unfold getRs at h
    obtain ⟨t, ht, h⟩ := bind_ok h
    refine getRs_end k t ?_ h
    unfold stepR at ht
    split at ht
    · cases ht
    · have h1 := getRR_end (b := b) (p := (s.p : Int)) (by omega)
      unfold addR at ht
      split at ht
      · split at ht
        · cases ht
        · injection ht with ht
          subst ht
          exact h1
      · injection ht with ht
        subst ht
        exact h1
/-- What is read stays read, but for the bytes behind. -/
theorem decM_grow {b Y : List UInt8} {m : Mt} (h : decM b = .ok m) (hl : (b ++ Y).length ≤ 65535) (hY : Y ≠ []) : decM (b ++ Y) = .error 7 := by
  unfold decM at h ⊢
  rw [List.length_append] at hl
  split at h
  · cases h
  split at h
  · cases h
  rename_i h1 h2
  have hy : 0 < Y.length := List.length_pos_iff.2 hY
  rw [if_neg (by rw [List.length_append]; omega), if_neg (by rw [List.length_append]; omega), numAt_more (by omega), numAt_more (by omega), numAt_more (by omega), numAt_more (by omega), numAt_more (by omega), numAt_more (by omega)]
  split at h
  · cases h
  rename_i h3
  rw [if_neg h3]
  obtain ⟨q, e1, h⟩ := bind_ok h
  obtain ⟨x, e2, h⟩ := bind_ok h
  obtain ⟨y, e3, h⟩ := bind_ok h
  obtain ⟨z, e4, h⟩ := bind_ok h
  rw [ok_bind (getQs_grow Y _ _ _ e1), ok_bind (getRs_grow Y _ _ _ e2), ok_bind (getRs_grow Y _ _ _ e3), ok_bind (getRs_grow Y _ _ _ e4)]
  split at h
  · cases h
  · rename_i h4
    have hz : z.p ≤ b.length := by
      have g1 := getQs_end _ _ _ (by omega) e1
      have g2 := getRs_end _ ⟨[], q.2, false, 0⟩ g1 e2
      have g3 := getRs_end _ ⟨[], x.p, x.e, x.s⟩ g2 e3
      exact getRs_end _ ⟨[], y.p, y.e, y.s⟩ g3 e4
    rw [if_pos (by rw [List.length_append]; omega)]
/-- A message without its end is none. -/
theorem dec_cut {m : Mt} (hs : SoundM m) (hl : (encM m).length ≤ 65535) {k : Nat} (hk : k < (encM m).length) : ∃ e, decM ((encM m).take k) = .error e := by
  cases h : decM ((encM m).take k) with
  | error e => exact ⟨e, rfl⟩
  | ok x =>
    have h1 := decM_grow (Y := (encM m).drop k) h (by rw [List.take_append_drop]; exact hl) (by simp; omega)
    rw [List.take_append_drop] at h1
    have h2 := dec_enc hs [] (by simpa using hl)
    simp only [List.append_nil, if_true] at h2
    rw [h1] at h2
    cases h2

/-- No message is refused without an error. -/
theorem getQs_err {b : List UInt8} : ∀ (k p : Nat) (l : List Qt), getQs b k p l ≠ .error 0
  | 0, p, l => by simp [getQs]
  | k + 1, p, l => by
    unfold getQs
    split
    · simp; assumption
    · exact getQs_err k _ _
theorem getRs_err {b : List UInt8} {last : Bool} : ∀ (k : Nat) (s : Rd), getRs b last k s ≠ .error 0
  | 0, s => by simp [getRs]
  | k + 1, s => by
    unfold getRs
    intro h
    rcases bind_err h with h | ⟨t, _, h⟩
    · unfold stepR at h
      split at h
      · injection h with h
        omega
      · unfold addR at h
        split at h
        · split at h <;> cases h
        · cases h
    · exact getRs_err k t h
theorem decM_err {b : List UInt8} : decM b ≠ .error 0 := by
  intro h
  unfold decM at h
  split at h
  · cases h
  split at h
  · cases h
  split at h
  · cases h
  rcases bind_err h with h | ⟨_, _, h⟩
  · exact getQs_err _ _ _ h
  rcases bind_err h with h | ⟨_, _, h⟩
  · exact getRs_err _ _ h
  rcases bind_err h with h | ⟨_, _, h⟩
  · exact getRs_err _ _ h
  rcases bind_err h with h | ⟨_, _, h⟩
  · exact getRs_err _ _ h
  · split at h <;> cases h

end Go.Proofs.YtmbcbfalgdgmjaaGreatDoor

namespace Go.Proofs.YtmbcbfalgdgmjaaGreatDoor
open Go.RowKit

theorem getR_sound (b : List UInt8) (p q x : Nat) (n : List (List UInt8)) : ∀ {m : List (List UInt8)} {e : Nat}, getR b p q x n = (m, e, 0) → n.all fitL = true → szN n ≤ 255 → soundN m = true := by
  induction p, q, x, n using getR.induct (b := b) with
  | case1 p q x n h0 h1 =>
    intro m e h ha hz
    rw [getR, dif_pos h0, if_pos h1] at h
    injection h with h2 _
    subst h2
    simp [soundN, ha, hz]
  | case2 p q x n h0 h1 h2 h3 h4 ih =>
    intro m e h ha hz
    rw [getR, dif_pos h0, if_neg h1, if_pos h2, dif_pos h3, if_pos h4] at h
    exact ih h ha hz
  | case3 p q x n h0 h1 h2 h3 h4 =>
    intro m e h ha hz
    rw [getR, dif_pos h0, if_neg h1, if_pos h2, dif_pos h3, if_neg h4] at h
    simp at h
  | case4 p q x n h0 h1 h2 h3 =>
    intro m e h ha hz
    rw [getR, dif_pos h0, if_neg h1, if_pos h2, dif_neg h3] at h
    simp at h
  | case5 p q x n h0 h1 h2 h3 =>
    intro m e h ha hz
    rw [getR, dif_pos h0, if_neg h1, if_neg h2, if_pos h3] at h
    simp at h
  | case6 p q x n h0 h1 h2 h3 h4 h5 ih =>
    intro m e h ha hz
    rw [getR, dif_pos h0, if_neg h1, if_neg h2, if_neg h3, if_pos h4, if_pos h5] at h
    refine ih h ?_ h5
    rw [List.all_append, ha]
    have h6 := length_cutL h4
    simp [fitL, h6]
    omega
  | case7 p q x n h0 h1 h2 h3 h4 h5 =>
    intro m e h ha hz
    rw [getR, dif_pos h0, if_neg h1, if_neg h2, if_neg h3, if_pos h4, if_neg h5] at h
    simp at h
  | case8 p q x n h0 h1 h2 h3 h4 =>
    intro m e h ha hz
    rw [getR, dif_pos h0, if_neg h1, if_neg h2, if_neg h3, if_neg h4] at h
    simp at h
  | case9 p q x n h0 =>
    intro m e h ha hz
    rw [getR, dif_neg h0] at h
    simp at h
theorem getW_sound {b : List UInt8} {a : Int} (h : (getW b a).2.2 = 0) : soundN (getW b a).1 = true := by
  unfold getW at h ⊢
  split at h
  · simp at h
  · rename_i h0
    rw [if_neg h0]
    rcases hr : getR b a.toNat a.toNat 0 [] with ⟨m, e, k⟩
    rw [hr] at h
    dsimp only at h
    subst h
    exact getR_sound b _ _ _ _ hr rfl (by decide)
theorem nameR_sound {b : List UInt8} {p en : Nat} {r : List (List UInt8) × Nat} (h : nameR b p en = .ok r) : soundN r.1 = true := by
  unfold nameR at h
  rcases hr : getR b p p 0 [] with ⟨n, e, k⟩
  rw [hr] at h
  unfold nameF at h
  dsimp only at h
  split at h
  · cases h
  · rename_i hk
    have hk0 : k = 0 := by omega
    subst hk0
    split at h
    · cases h
    · injection h with h
      subst h
      exact getR_sound b _ _ _ _ hr rfl (by decide)
theorem num_fit {b : List UInt8} {p s : Nat} (h1 : 1 ≤ s) (h2 : s ≤ 7) : fitB ((numN (cutL b p s) : Nat) : Int) (s : Int) = true := by
  have h := numAt_lt b p s
  unfold numAt at h
  refine fitB_true (by omega) (by omega) (by omega) ?_
  have e : (2 : Int) ^ (8 * (s : Int).toNat) = ((2 ^ (8 * s) : Nat) : Int) := by
    rw [Int.toNat_natCast]
    push_cast
    rfl
  rw [e]
  exact Int.ofNat_lt.2 h
theorem numsL_sound {b : List UInt8} {p s : Nat} (h1 : 1 ≤ s) (h2 : s ≤ 7) : ∀ k, ∀ n ∈ numsL b p s k, fitB n (s : Int) = true
  | 0, n, h => absurd h (List.not_mem_nil)
  | k + 1, n, h => by
    unfold numsL at h
    rcases List.mem_append.1 h with h | h
    · exact numsL_sound h1 h2 k n h
    · rw [List.mem_singleton.1 h]
      exact num_fit h1 h2
theorem numsR_sound {b : List UInt8} {p en s k : Nat} {r : List Int × Nat} (h1 : 1 ≤ s) (h2 : s ≤ 7) (h : numsR b p en s k = .ok r) : r.1.length = k ∧ (∀ n ∈ r.1, fitB n (s : Int) = true) ∧ r.2 ≤ en := by
  unfold numsR at h
  split at h
  · injection h with h
    subst h
    exact ⟨length_numsL _ _ _ _, numsL_sound h1 h2 k, by assumption⟩
  · cases h
theorem textsR_sound {b : List UInt8} {en : Nat} : ∀ (d p : Nat) (acc : List (List UInt8)) {r : List (List UInt8) × Nat}, en - p ≤ d → textsR b p en acc = .ok r → acc.length ≤ 64 → (∀ t ∈ acc, t.length ≤ 255) → 1 ≤ r.1.length ∧ r.1.length ≤ 64 ∧ ∀ t ∈ r.1, t.length ≤ 255
  | d, p, acc, r, hd, h, hl, ht => by
    by_cases hp : p < en
    · by_cases ha : acc.length = 64
      · rw [textsR_large hp ha] at h
        cases h
      · by_cases hs : en < p + 1 + numN (cutL b p 1)
        · rw [textsR_short hp ha hs] at h
          cases h
        · rw [textsR_next hp ha (by omega)] at h
          match d, hd with
          | 0, hd => omega
          | d + 1, hd =>
            refine textsR_sound d _ _ (by omega) h (by simp; omega) fun t htt => ?_
            rcases List.mem_append.1 htt with h1 | h1
            · exact ht t h1
            · rw [List.mem_singleton.1 h1]
              have h2 := numN_one_lt b p
              have h3 : (cutL b (p + 1) (numN (cutL b p 1))).length ≤ numN (cutL b p 1) := by unfold cutL; simp; omega
              omega
    · rw [textsR, dif_neg hp] at h
      split at h
      · cases h
      · rename_i hne
        injection h with h
        subst h
        exact ⟨List.length_pos_iff.2 hne, hl, ht⟩
theorem bytesR_sound {b : List UInt8} {p en l m : Nat} {r : List UInt8 × Nat} (hlm : l ≤ m) (hen : en ≤ b.length) (h : bytesR b p en l m = .ok r) : l ≤ r.1.length ∧ r.1.length ≤ m := by
  unfold bytesR at h
  split at h
  · cases h
  · injection h with h
    subst h
    dsimp only
    rw [length_cutL (by omega)]
    omega
theorem shN_room (k : Int) : (shN k).least ≤ (shN k).most := by
  unfold shN
  repeat' split
  all_goals decide
theorem numsOk_of {ah : Nat} {l m : List Int} (hl : l.length = ah) (h1 : ∀ n ∈ l, fitB n 2 = true) (h2 : ∀ n ∈ m, fitB n 4 = true) : numsOk ah (l ++ m) = true := by
  unfold numsOk
  rw [List.all_eq_true]
  intro j hj
  have hj := List.mem_range.1 hj
  rw [List.length_append] at hj
  unfold sizeAt
  by_cases hja : j < ah
  · rw [if_pos hja, List.getD_eq_getElem?_getD, List.getElem?_append_left (by omega), List.getElem?_eq_getElem (by omega)]
    exact h1 _ (List.getElem_mem _)
  · rw [if_neg hja, List.getD_eq_getElem?_getD, List.getElem?_append_right (by omega), List.getElem?_eq_getElem (by omega)]
    exact h2 _ (List.getElem_mem _)
theorem readD_sound {b : List UInt8} {p en : Nat} {k : Int} {d : Dt} (hk : kindB k = true) (hen : en ≤ b.length) (h : readD b p en (shN k) = .ok d) : soundD k d = true := by
  unfold readD at h
  obtain ⟨n1, e1, h⟩ := bind_ok h
  obtain ⟨h1, e2, h⟩ := bind_ok h
  obtain ⟨m1, e3, h⟩ := bind_ok h
  obtain ⟨n2, e4, h⟩ := bind_ok h
  obtain ⟨t1, e5, h⟩ := bind_ok h
  obtain ⟨y1, e6, h⟩ := bind_ok h
  split at h
  · cases h
  injection h with h
  subst h
  obtain ⟨a1, a2, _⟩ := numsR_sound (by omega) (by omega) e1
  obtain ⟨b1, b2, _⟩ := numsR_sound (by omega) (by omega) e4
  obtain ⟨c1, c2⟩ := bytesR_sound (shN_room k) hen e6
  have g2 : soundNm h1.1 (shN k).host = true := by
    unfold soundNm
    split at e2
    · rename_i hh
      rw [hh, nameR_sound e2]
      simp
    · injection e2 with e2
      subst e2
      rfl
  have g3 : soundNm m1.1 (shN k).mail = true := by
    unfold soundNm
    split at e3
    · rename_i hh
      rw [hh, nameR_sound e3]
      simp
    · injection e3 with e3
      subst e3
      rfl
  have g5 : soundTs (shN k) t1.1 = true := by
    unfold soundTs
    split at e5
    · rename_i hh
      obtain ⟨d1, d2, d3⟩ := textsR_sound _ _ _ (Nat.le_refl _) e5 (by simp) (fun t ht => absurd ht (List.not_mem_nil))
      rw [if_pos hh]
      simp only [Bool.and_eq_true, List.all_eq_true, decide_eq_true_eq]
      exact ⟨d3, d1, d2⟩
    · rename_i hh
      injection e5 with e5
      subst e5
      rw [if_neg hh]
      rfl
  unfold soundD soundBs soundNs
  simp only [Bool.and_eq_true, decide_eq_true_eq]
  exact ⟨hk, ⟨c1, c2⟩, g2, g3, ⟨by rw [List.length_append]; omega, numsOk_of a1 a2 b2⟩, g5⟩
theorem kindB_num {b : List UInt8} {p : Nat} (h : numAt b p 2 ≠ 0) : kindB ((numAt b p 2 : Nat) : Int) = true := by
  have h1 := numAt_lt b p 2
  unfold kindB
  simp only [decide_eq_true_eq]
  have e : (2 : Nat) ^ (8 * 2) = 65536 := by decide
  omega
theorem ttlAt_le (b : List UInt8) (p : Nat) : ttlAt b p ≤ 2147483647 := by
  unfold ttlAt
  split <;> omega
theorem getRR_sound {b : List UInt8} {p : Int} (h : (getRR b p).2.2 = 0) : SoundR (getRR b p).1 := by
  unfold getRR at h ⊢
  split at h
  · rename_i h0
    exact absurd h h0
  rename_i h0
  rw [if_neg h0]
  split at h
  · simp at h
  rename_i h1
  rw [if_neg h1]
  split at h
  · simp at h
  rename_i h2
  rw [if_neg h2]
  split at h
  · rename_i h3
    exact absurd h h3
  rename_i h3
  rw [if_neg h3]
  have hk := kindB_num h2
  refine ⟨getW_sound (by omega), ?_, num_fit (by omega) (by omega), by dsimp only; omega, by have := ttlAt_le b ((getW b p).2.1 + 4); dsimp only; omega⟩
  dsimp only
  have h4 : (getD b (((getW b p).2.1 : Int) + 10) (numAt b ((getW b p).2.1 + 8) 2) (numAt b (getW b p).2.1 2)).2 = 0 := by omega
  generalize ((getW b p).2.1 : Int) + 10 = a at *
  generalize ((numAt b ((getW b p).2.1 + 8) 2 : Nat) : Int) = z at *
  unfold getD at h4 ⊢
  split at h4
  · simp at h4
  rename_i h5
  rw [if_neg h5]
  split at h4
  · simp at h4
  rename_i h6
  rw [if_neg h6]
  cases hr : readD b a.toNat (a + z).toNat (shN (numAt b (getW b p).2.1 2)) with
  | ok d => exact readD_sound hk (by omega) hr
  | error j =>
    rw [hr] at h4
    dsimp only at h4
    subst h4
    exact absurd hr (readD_err _ _ _ _)
theorem getQ_sound {b : List UInt8} {p : Nat} (h : (getQ b p).2.2 = 0) : soundQ (getQ b p).1 = true := by
  unfold getQ at h ⊢
  split at h
  · rename_i h0
    exact absurd h h0
  rename_i h0
  rw [if_neg h0]
  split at h
  · simp at h
  rename_i h1
  rw [if_neg h1]
  split at h
  · simp at h
  rename_i h2
  rw [if_neg h2]
  unfold soundQ
  simp only [Bool.and_eq_true, decide_eq_true_eq]
  exact ⟨getW_sound (by omega), by omega, num_fit (by omega) (by omega), num_fit (by omega) (by omega)⟩
theorem getQs_sound {b : List UInt8} : ∀ (k p : Nat) (l : List Qt) {r : List Qt × Nat}, getQs b k p l = .ok r → (∀ q ∈ l, soundQ q = true) → (∀ q ∈ r.1, soundQ q = true) ∧ r.1.length = l.length + k
  | 0, p, l, r, h, hl => by
    unfold getQs at h
    injection h with h
    subst h
    exact ⟨hl, rfl⟩
  | k + 1, p, l, r, h, hl => by
    unfold getQs at h
    split at h
    · cases h
    · rename_i h0
      obtain ⟨h1, h2⟩ := getQs_sound k _ _ h (fun q hq => by
        rcases List.mem_append.1 hq with h3 | h3
        · exact hl q h3
        · rw [List.mem_singleton.1 h3]
          exact getQ_sound (by omega))
      refine ⟨h1, ?_⟩
      rw [h2]
      simp
      omega
/-- What is known behind some records is sound. -/
structure RdOk (x : Rd) : Prop where
  r : ∀ r ∈ x.rs, soundX r = true
  s : fitB x.s 2 = true
  e : x.e = true ∨ x.s = 0
theorem stepR_sound {b : List UInt8} {last : Bool} {s t : Rd} (h : stepR b last s = .ok t) (hs : RdOk s) : RdOk t ∧ t.rs.length ≤ s.rs.length + 1 := by
  unfold stepR at h
  split at h
  · cases h
  · rename_i h0
    have h1 := getRR_sound (b := b) (p := (s.p : Int)) (by omega)
    unfold addR at h
    split at h
    · split at h
      · cases h
      · injection h with h
        subst h
        exact ⟨⟨hs.r, h1.c, .inl rfl⟩, by dsimp only; omega⟩
    · rename_i h2
      injection h with h
      subst h
      refine ⟨⟨fun r hr => ?_, hs.s, hs.e⟩, by simp⟩
      rcases List.mem_append.1 hr with h3 | h3
      · exact hs.r r h3
      · rw [List.mem_singleton.1 h3]
        exact soundX_iff.2 ⟨h2, h1⟩
theorem getRs_sound {b : List UInt8} {last : Bool} : ∀ (k : Nat) (s : Rd) {r : Rd}, getRs b last k s = .ok r → RdOk s → RdOk r ∧ r.rs.length ≤ s.rs.length + k
  | 0, s, r, h, hs => by
    unfold getRs at h
    injection h with h
    subst h
    exact ⟨hs, Nat.le_refl _⟩
  | k + 1, s, r, h, hs => by
    unfold getRs at h
    obtain ⟨t, ht, h⟩ := bind_ok h
    obtain ⟨h1, h2⟩ := stepR_sound ht hs
    obtain ⟨h3, h4⟩ := getRs_sound k t h h1
    exact ⟨h3, by omega⟩
theorem RdOk.next {s : Rd} (h : RdOk s) : RdOk ⟨[], s.p, s.e, s.s⟩ := ⟨fun _ h => absurd h (List.not_mem_nil), h.s, h.e⟩
/-- What bytes are is sound, but for how many there are. -/
structure DecOk (m : Mt) : Prop where
  h : soundH m.h = true
  q : ∀ q ∈ m.qs, soundQ q = true
  r : ∀ r ∈ m.all, soundX r = true
  n : m.qs.length + m.an.length + m.au.length + m.ex.length ≤ 513
theorem decM_sound {b : List UInt8} {m : Mt} (h : decM b = .ok m) : DecOk m := by
  unfold decM at h
  split at h
  · cases h
  split at h
  · cases h
  split at h
  · cases h
  rename_i h1 h2 h3
  obtain ⟨q, e1, h⟩ := bind_ok h
  obtain ⟨x, e2, h⟩ := bind_ok h
  obtain ⟨y, e3, h⟩ := bind_ok h
  obtain ⟨z, e4, h⟩ := bind_ok h
  split at h
  · cases h
  injection h with h
  subst h
  obtain ⟨q1, q2⟩ := getQs_sound _ _ _ e1 (fun q hq => absurd hq (List.not_mem_nil))
  obtain ⟨x1, x2⟩ := getRs_sound _ ⟨[], q.2, false, 0⟩ e2 ⟨fun _ h => absurd h (List.not_mem_nil), show fitB 0 2 = true by decide, .inr rfl⟩
  obtain ⟨y1, y2⟩ := getRs_sound _ ⟨[], x.p, x.e, x.s⟩ e3 x1.next
  obtain ⟨z1, z2⟩ := getRs_sound _ ⟨[], y.p, y.e, y.s⟩ e4 y1.next
  simp only [List.length_nil, Nat.zero_add] at q2 x2 y2 z2
  refine ⟨?_, q1, fun r hr => ?_, by dsimp only; omega⟩
  · unfold soundH hdOf codeB
    simp only [Bool.and_eq_true, decide_eq_true_eq, Bool.or_eq_true]
    refine ⟨num_fit (by omega) (by omega), ⟨by omega, by omega⟩, ⟨by omega, by omega⟩, z1.s, z1.e⟩
  · unfold Mt.all at hr
    rcases List.mem_append.1 hr with h4 | h4
    · exact x1.r r h4
    · rcases List.mem_append.1 h4 with h4 | h4
      · exact y1.r r h4
      · exact z1.r r h4
theorem DecOk.sound {m : Mt} (h : DecOk m) (hn : m.qs.length + m.an.length + m.au.length + m.ex.length ≤ 512) : SoundM m := ⟨h.h, hn, h.q, h.r⟩

end Go.Proofs.YtmbcbfalgdgmjaaGreatDoor

namespace Go.Proofs.YtmbcbfalgdgmjaaGreatDoor
open Go.RowKit

theorem i64_top {n : Int} (h : (Lit.int .i64 n).wf = true) : n ≤ 9223372036854775807 := by
  have h1 : IntKind.i64.min = -9223372036854775808 := rfl
  have h2 : IntKind.i64.max = 9223372036854775807 := rfl
  simp only [Lit.wf, Bool.and_eq_true, decide_eq_true_eq] at h
  omega

















































































































































end Go.Proofs.YtmbcbfalgdgmjaaGreatDoor

namespace Go.Proofs.YtmbcbfalgdgmjaaGreatDoor
open Go.RowKit

/-- Where records of one section lie. -/
structure Sec where
  A : Option Addr
  c : Nat
  ps : List (RV × Rt)
abbrev Sec.v (s : Sec) : Value := .slice s.A s.ps.length s.c
/-- A message in memory. -/
structure MV where
  h : Hd
  qA : Option Addr
  qc : Nat
  qp : List (QV × Qt)
  s0 : Sec
  s1 : Sec
  s2 : Sec
abbrev MV.vq (m : MV) : Value := .slice m.qA m.qp.length m.qc
def MV.sec (m : MV) (i : Nat) : Sec := if i = 0 then m.s0 else if i = 1 then m.s1 else m.s2
def cellsM (h : Hd) (vq va vu vx : Value) : List Value := [.int .i64 h.id, .bool h.resp, .int .i64 h.op, .bool h.aa, .bool h.tc, .bool h.rd, .bool h.ra, .int .i64 h.rc, vq, va, vu, vx, .bool h.edns, .int .i64 h.size]
abbrev valM (h : Hd) (vq va vu vx : Value) : Value := .agg #[.int .i64 h.id, .bool h.resp, .int .i64 h.op, .bool h.aa, .bool h.tc, .bool h.rd, .bool h.ra, .int .i64 h.rc, vq, va, vu, vx, .bool h.edns, .int .i64 h.size]
def MV.cells (m : MV) : List Value := cellsM m.h m.vq m.s0.v m.s1.v m.s2.v
abbrev MV.val (m : MV) : Value := valM m.h m.vq m.s0.v m.s1.v m.s2.v
def MV.msg (m : MV) : Mt := ⟨m.h, qsts m.qp, recs m.s0.ps, recs m.s1.ps, recs m.s2.ps⟩


/-- In the world w the message's lists read, below H. -/
structure MAt (w : World) (H : Nat) (m : MV) : Prop where
  q : QsAt w H m.qA m.qp
  s0 : RsAt w H m.s0.A m.s0.ps
  s1 : RsAt w H m.s1.A m.s1.ps
  s2 : RsAt w H m.s2.A m.s2.ps
section
variable {w w' : World} {H H' : Nat} {m : MV}
theorem MAt.below (h : MAt w H m) (hb : Below H w w') : MAt w' H m := ⟨h.q.below hb, h.s0.below hb, h.s1.below hb, h.s2.below hb⟩
theorem MAt.mono (h : MAt w H m) (hb : H ≤ H') : MAt w H' m := ⟨h.q.mono hb, h.s0.mono hb, h.s1.mono hb, h.s2.mono hb⟩
theorem MAt.sec (h : MAt w H m) (i : Nat) : RsAt w H (m.sec i).A (m.sec i).ps := by
  unfold MV.sec
  split
  · exact h.s0
  · split
    · exact h.s1
    · exact h.s2
end
/-- Numbers that a variable holds, lengths that memory holds; few parts. -/
structure QIn (q : Qt) : Prop where
  n : WideN q.name
  k : (Lit.int .i64 q.kind).wf = true
  c : (Lit.int .i64 q.cls).wf = true
  l : q.name.length ≤ 1048576
structure HIn (h : Hd) : Prop where
  i : (Lit.int .i64 h.id).wf = true
  o : (Lit.int .i64 h.op).wf = true
  r : (Lit.int .i64 h.rc).wf = true
  s : (Lit.int .i64 h.size).wf = true
structure MIn (m : MV) : Prop where
  h : HIn m.h
  q : ∀ p ∈ m.qp, QIn p.2
  r : ∀ i, ∀ p ∈ (m.sec i).ps, RIn p.2 ∧ LightR p.2
  ql : m.qp.length ≤ 1000
  rl : ∀ i, (m.sec i).ps.length ≤ 1000

















































































































































































end Go.Proofs.YtmbcbfalgdgmjaaGreatDoor

namespace Go.Proofs.YtmbcbfalgdgmjaaGreatDoor
open Go.RowKit

/-- How many questions, and records of the sections ahead of number j. -/
def sumTo (m : MV) : Nat → Nat
  | 0 => m.qp.length
  | j + 1 => sumTo m j + (m.sec j).ps.length
def allTo (m : MV) : Nat → List Rt
  | 0 => []
  | j + 1 => allTo m j ++ recs (m.sec j).ps
theorem sumTo_three (m : MV) : sumTo m 3 = m.qp.length + m.s0.ps.length + m.s1.ps.length + m.s2.ps.length := rfl
theorem allTo_three (m : MV) : allTo m 3 = m.msg.all := by
  show ([] ++ recs m.s0.ps ++ recs m.s1.ps) ++ recs m.s2.ps = recs m.s0.ps ++ (recs m.s1.ps ++ recs m.s2.ps)
  simp
theorem sumTo_le {m : MV} (hi : MIn m) : ∀ j, sumTo m j ≤ 1000 * (j + 1)
  | 0 => by have := hi.ql; show m.qp.length ≤ 1000 * (0 + 1); omega
  | j + 1 => by
    have h1 := sumTo_le hi j
    have h2 := hi.rl j
    show sumTo m j + (m.sec j).ps.length ≤ 1000 * (j + 1 + 1)
    omega
theorem soundM_at (m : MV) : soundM m.msg = (soundH m.h && (decide (sumTo m 3 ≤ 512) && ((qsts m.qp).all soundQ && (allTo m 3).all soundX))) := by
  rw [sumTo_three, allTo_three]
  unfold soundM MV.msg
  dsimp only
  rw [length_qsts, length_recs, length_recs, length_recs]
theorem all_fails {α : Type} {p : α → Bool} {l : List α} {x : α} (hx : x ∈ l) (h : p x = false) : l.all p = false := by
  rw [List.all_eq_false]
  exact ⟨x, hx, by rw [h]; decide⟩
theorem mem_allTo {m : MV} {j : Nat} (hj : j < 3) {p : RV × Rt} (hp : p ∈ (m.sec j).ps) : p.2 ∈ allTo m 3 := by
  have h : p.2 ∈ recs (m.sec j).ps := List.mem_map.2 ⟨p, hp, rfl⟩
  have e : allTo m 3 = recs (m.sec 0).ps ++ (recs (m.sec 1).ps ++ recs (m.sec 2).ps) := allTo_three m
  rw [e]
  rcases (show j = 0 ∨ j = 1 ∨ j = 2 by omega) with rfl | rfl | rfl
  · exact List.mem_append_left _ h
  · exact List.mem_append_right _ (List.mem_append_left _ h)
  · exact List.mem_append_right _ (List.mem_append_right _ h)












def SumRel (m : MV) (s i : Value) : Prop := ∃ j : Nat, j ≤ 3 ∧ i = .int .i64 j ∧ s = .int .i64 (sumTo m j)
def QuestRel (W : World) (qp : List (QV × Qt)) (i : Value) (wr : World) : Prop := ∃ k : Nat, k ≤ qp.length ∧ i = .int .i64 k ∧ (qsts (qp.take k)).all soundQ = true ∧ Below W.heap.size W wr
def SectsRel (W : World) (m : MV) (i : Value) (wr : World) : Prop := ∃ j : Nat, j ≤ 3 ∧ i = .int .i64 j ∧ (allTo m j).all soundX = true ∧ Below W.heap.size W wr
def SectRel (W : World) (s : Sec) (i : Value) (wr : World) : Prop := ∃ k : Nat, k ≤ s.ps.length ∧ i = .int .i64 k ∧ (recs (s.ps.take k)).all soundX = true ∧ Below W.heap.size W wr
theorem qsts_at {ps : List (QV × Qt)} {k : Nat} (hk : k < ps.length) : qsts (ps.take (k + 1)) = qsts (ps.take k) ++ [(ps[k]).2] := by
  rw [List.take_succ_eq_append_getElem hk, qsts_append]
  rfl


























































































































































































































end Go.Proofs.YtmbcbfalgdgmjaaGreatDoor

namespace Go.Proofs.YtmbcbfalgdgmjaaGreatDoor
open Go.RowKit

/-- The block j holds a slice of the record. -/
def RV.owns (x : RV) (r : Rt) (j : Nat) : Prop := (x.vn r).ownBlock = some j ∨ x.d.owns r.data j
theorem OwnR.base {w : World} {B : Nat} {x : RV} {r : Rt} (h : OwnR w B x r) {j : Nat} (hj : x.owns r j) : B ≤ j ∧ j < w.heap.size := by
  rcases hj with e | e
  · exact h.n.lt j e
  · exact h.d.base e
section
variable {base g H : Nat} {W1 wk : World} {vB vM : Value} {B : List UInt8} {R : Rs}







end








































































































































end Go.Proofs.YtmbcbfalgdgmjaaGreatDoor

namespace Go.Proofs.YtmbcbfalgdgmjaaGreatDoor
open Go.RowKit

/-- The bit number j of the flags: where its bool lies, where it is in the number, and whether it is on. -/
def fldF (j : Nat) : Nat := if j = 0 then 1 else j + 2
def posF (j : Nat) : Nat := if j = 0 then 15 else 11 - j
def onF (h : Hd) (j : Nat) : Bool := if j = 0 then h.resp else if j = 1 then h.aa else if j = 2 then h.tc else if j = 3 then h.rd else h.ra
def bitsTo (h : Hd) : Nat → Nat
  | 0 => h.op.toNat * 2048 + h.rc.toNat
  | j + 1 => bitsTo h j + bit (onF h j) (2 ^ posF j)
theorem bitsTo_five (h : Hd) : bitsTo h 5 = bitsH h := by
  show ((((h.op.toNat * 2048 + h.rc.toNat + bit h.resp 32768) + bit h.aa 1024) + bit h.tc 512) + bit h.rd 256) + bit h.ra 128 = bitsH h
  unfold bitsH
  omega
theorem or_i64_nat (a b : Nat) (ha : a < 65536) (hb : b < 65536) : bits .or .i64 (a : Int) (b : Int) = ((a ||| b : Nat) : Int) := by
  have hx : a ||| b < 2 ^ 16 := Nat.or_lt_two_pow (by omega) (by omega)
  have h1 : (BitVec.ofInt 64 (a : Int)).toNat = a := by
    rw [BitVec.ofInt_natCast, BitVec.toNat_ofNat]; exact Nat.mod_eq_of_lt (by omega)
  have h2 : (BitVec.ofInt 64 (b : Int)).toNat = b := by
    rw [BitVec.ofInt_natCast, BitVec.toNat_ofNat]; exact Nat.mod_eq_of_lt (by omega)
  show IntKind.i64.wrap ((BitVec.ofInt 64 (a : Int) ||| BitVec.ofInt 64 (b : Int)).toNat : Int) = _
  rw [BitVec.toNat_or, h1, h2]
  rw [IntKind.wrap_i64]
  omega
theorem or_code : ∀ o, o < 16 → ∀ c, c < 16 → (o * 2048 ||| c) = o * 2048 + c := by decide +kernel
theorem or_bit0 : ∀ o, o < 16 → ∀ c, c < 16 → (o * 2048 + c ||| 32768) = o * 2048 + c + 32768 := by decide +kernel
theorem or_bit1 : ∀ o, o < 16 → ∀ c, c < 16 → ∀ x, x < 2 → (o * 2048 + c + x * 32768 ||| 1024) = o * 2048 + c + x * 32768 + 1024 := by decide +kernel
theorem or_bit2 : ∀ o, o < 16 → ∀ c, c < 16 → ∀ x, x < 2 → ∀ y, y < 2 → (o * 2048 + c + x * 32768 + y * 1024 ||| 512) = o * 2048 + c + x * 32768 + y * 1024 + 512 := by decide +kernel
theorem or_bit3 : ∀ o, o < 16 → ∀ c, c < 16 → ∀ x, x < 2 → ∀ y, y < 2 → ∀ z, z < 2 → (o * 2048 + c + x * 32768 + y * 1024 + z * 512 ||| 256) = o * 2048 + c + x * 32768 + y * 1024 + z * 512 + 256 := by decide +kernel
theorem or_bit4 : ∀ o, o < 16 → ∀ c, c < 16 → ∀ x, x < 2 → ∀ y, y < 2 → ∀ z, z < 2 → ∀ u, u < 2 → (o * 2048 + c + x * 32768 + y * 1024 + z * 512 + u * 256 ||| 128) = o * 2048 + c + x * 32768 + y * 1024 + z * 512 + u * 256 + 128 := by decide +kernel
theorem bit_eq (b : Bool) (n : Nat) : ∃ x, x < 2 ∧ bit b n = x * n := by
  cases b
  · exact ⟨0, by omega, by simp [bit]⟩
  · exact ⟨1, by omega, by simp [bit]⟩
theorem codeB_nat {n : Int} (h : codeB n = true) : ∃ k : Nat, n = k ∧ k < 16 := by
  unfold codeB at h
  simp only [Bool.and_eq_true, decide_eq_true_eq] at h
  exact ⟨n.toNat, by omega, by omega⟩
/-- One more bit. -/
theorem bitsTo_or {h : Hd} (ho : codeB h.op = true) (hr : codeB h.rc = true) {j : Nat} (hj : j < 5) : bits .or .i64 ((bitsTo h j : Nat) : Int) ((2 ^ posF j : Nat) : Int) = ((bitsTo h j + 2 ^ posF j : Nat) : Int) ∧ bitsTo h j < 65536 := by
  obtain ⟨o, eo, ho2⟩ := codeB_nat ho
  obtain ⟨c, ec, hc2⟩ := codeB_nat hr
  obtain ⟨x, hx, ex⟩ := bit_eq h.resp 32768
  obtain ⟨y, hy, ey⟩ := bit_eq h.aa 1024
  obtain ⟨z, hz, ez⟩ := bit_eq h.tc 512
  obtain ⟨u, hu, eu⟩ := bit_eq h.rd 256
  have e0 : bitsTo h 0 = o * 2048 + c := by unfold bitsTo; rw [eo, ec, Int.toNat_natCast, Int.toNat_natCast]
  have e1 : bitsTo h 1 = o * 2048 + c + x * 32768 := by rw [← e0, ← ex]; rfl
  have e2 : bitsTo h 2 = o * 2048 + c + x * 32768 + y * 1024 := by rw [← e1, ← ey]; rfl
  have e3 : bitsTo h 3 = o * 2048 + c + x * 32768 + y * 1024 + z * 512 := by rw [← e2, ← ez]; rfl
  have e4 : bitsTo h 4 = o * 2048 + c + x * 32768 + y * 1024 + z * 512 + u * 256 := by rw [← e3, ← eu]; rfl
  rcases (show j = 0 ∨ j = 1 ∨ j = 2 ∨ j = 3 ∨ j = 4 by omega) with rfl | rfl | rfl | rfl | rfl
  · rw [e0, or_i64_nat _ _ (by omega) (by decide)]
    exact ⟨congrArg _ (or_bit0 o ho2 c hc2), by omega⟩
  · rw [e1, or_i64_nat _ _ (by omega) (by decide)]
    exact ⟨congrArg _ (or_bit1 o ho2 c hc2 x hx), by omega⟩
  · rw [e2, or_i64_nat _ _ (by omega) (by decide)]
    exact ⟨congrArg _ (or_bit2 o ho2 c hc2 x hx y hy), by omega⟩
  · rw [e3, or_i64_nat _ _ (by omega) (by decide)]
    exact ⟨congrArg _ (or_bit3 o ho2 c hc2 x hx y hy z hz), by omega⟩
  · rw [e4, or_i64_nat _ _ (by omega) (by decide)]
    exact ⟨congrArg _ (or_bit4 o ho2 c hc2 x hx y hy z hz u hu), by omega⟩
theorem bits_code {h : Hd} (ho : codeB h.op = true) (hr : codeB h.rc = true) : bits .or .i64 (wrap64 (h.op * 2048)) h.rc = ((bitsTo h 0 : Nat) : Int) := by
  obtain ⟨o, eo, ho2⟩ := codeB_nat ho
  obtain ⟨c, ec, hc2⟩ := codeB_nat hr
  have e0 : bitsTo h 0 = o * 2048 + c := by unfold bitsTo; rw [eo, ec, Int.toNat_natCast, Int.toNat_natCast]
  have ew : wrap64 (h.op * 2048) = ((o * 2048 : Nat) : Int) := by rw [eo]; unfold wrap64; omega
  rw [ew, ec, or_i64_nat _ _ (by omega) (by omega), e0, or_code o ho2 c hc2]














def BitsRel (W : World) (h : Hd) (s i : Value) (wr : World) : Prop := ∃ j : Nat, j ≤ 5 ∧ i = .int .i64 j ∧ s = .int .i64 (bitsTo h j) ∧ Below W.heap.size W wr

























































































































end Go.Proofs.YtmbcbfalgdgmjaaGreatDoor

namespace Go.Proofs.YtmbcbfalgdgmjaaGreatDoor
open Go.RowKit




/-- What is written ahead of the questions, up to section j. -/
def headTo (B : List UInt8) (m : MV) : Nat → List UInt8
  | 0 => ((B ++ putL [] m.h.id 2) ++ putL [] (bitsH m.h) 2) ++ putL [] m.qp.length 2
  | j + 1 => headTo B m j ++ putL [] (m.sec j).ps.length 2
theorem length_putL2 (n : Int) : (putL [] n 2).length ≤ 7 := by unfold putL; split <;> simp [length_digs]
theorem length_headTo (B : List UInt8) (m : MV) : ∀ j, (headTo B m j).length ≤ B.length + 21 + 7 * j
  | 0 => by
    have h1 := length_putL2 m.h.id
    have h2 := length_putL2 (bitsH m.h)
    have h3 := length_putL2 m.qp.length
    show (((B ++ putL [] m.h.id 2) ++ putL [] (bitsH m.h) 2) ++ putL [] m.qp.length 2).length ≤ B.length + 21 + 7 * 0
    simp only [List.length_append]
    omega
  | j + 1 => by
    have h1 := length_headTo B m j
    have h2 := length_putL2 (m.sec j).ps.length
    show (headTo B m j ++ putL [] (m.sec j).ps.length 2).length ≤ B.length + 21 + 7 * (j + 1)
    rw [List.length_append]
    omega















































































































end Go.Proofs.YtmbcbfalgdgmjaaGreatDoor

namespace Go.Proofs.YtmbcbfalgdgmjaaGreatDoor
open Go.RowKit

/-- Slices of nothing. -/
def nilV : RV := ⟨none, 0, ⟨none, none, none, none, none, 0, 0, 0, 0, 0⟩⟩
theorem opt_own (w : World) (B : Nat) (n : Int) : OwnR w B nilV (optR n) :=
  ⟨World.ownsRow_nil _ _ _ _, ⟨World.ownsRow_nil _ _ _ _, World.ownsRow_nil _ _ _ _, World.ownsRow_nil _ _ _ _, World.ownsRow_nil _ _ _ _, World.ownsRow_nil _ _ _ _⟩⟩
/-- All records' slices are own ones. -/
def OwnedM (w : World) (m : MV) : Prop := ∀ i, ∀ p ∈ (m.sec i).ps, OwnR w 0 p.1 p.2
theorem OwnedM.below {w w' : World} {m : MV} (h : OwnedM w m) (hb : Below w.heap.size w w') : OwnedM w' m := fun i p hp => (h i p hp).keep fun g hg => hb.block g hg



















/-- What Encode answers. -/
def encE (m : Mt) : Except Nat (List UInt8) := if soundM m = true then (if 65535 < (encM m).length then .error 4 else .ok (encM m)) else .error 2
def EncOut (w : World) (r : Except Nat (List UInt8)) (e : Ending) (w' : World) : Prop :=
  Below w.heap.size w w' ∧ match r with
  | .ok l => ∃ A c, e = .returned (.tuple #[.slice A l.length c, .int .i64 0]) ∧ w'.ownsRow w.heap.size 5 1 (.slice A l.length c) l.length (l.map bc)
  | .error k => e = .returned (.tuple #[.slice none 0 0, .int .i64 k])




theorem made_cells (w : World) (cs : Array Value) (t : TypeId) (j : Nat) (u : Value) (h : cs.toList[j]? = some u) : (w.alloc (.cells cs t)).cell? ((⟨w.heap.size, 0, none⟩ : Addr).add j) = some u := by
  rw [addr_add, Nat.zero_add, World.cell?_alloc_at _ _ _ _ rfl]
  simpa using h
theorem row_cells {w : World} {H : Nat} {A : Option Addr} {xs : List Value} (h : Row w H A xs) (b : Addr) (hb : A = some b) (j : Nat) (u : Value) (hu : xs[j]? = some u) : w.cell? (b.add j) = some u := by
  subst hb
  obtain ⟨b', off, e, hlt, hc⟩ := h.some_ (by have := (List.getElem?_eq_some_iff.1 hu).1; omega)
  injection e with e
  subst e
  rw [addr_add]
  exact hc j u hu
theorem none_empty {w : World} {H k : Nat} {α : Type} {f : α → List Value} {A : Option Addr} {ps : List α} (hf : ∀ p, (f p).length = k) (hk : 0 < k) (h : Row w H A (ps.flatMap f)) (hA : A = none) : ps.length = 0 ∧ ps.length = 0 := by
  subst hA
  rcases Nat.eq_zero_or_pos ps.length with h0 | h0
  · exact ⟨h0, h0⟩
  · obtain ⟨_, _, e, _⟩ := h.some_ (by rw [length_flat hf]; exact Nat.mul_pos h0 hk)
    cases e

theorem opt_in {n : Int} (h : (Lit.int .i64 n).wf = true) : RIn (optR n) ∧ LightR (optR n) := by
  have hw : WideN ([] : List (List UInt8)) := ⟨Nat.zero_le _, fun k hk => absurd hk (Nat.not_lt_zero _)⟩
  refine ⟨⟨hw, by show (Lit.int .i64 41).wf = true; decide, h, by show (Lit.int .i64 0).wf = true; decide, ⟨hw, hw, Nat.zero_le _⟩, fun k hk => absurd hk (Nat.not_lt_zero _), fun n hn => absurd hn (List.not_mem_nil)⟩, ⟨Nat.zero_le _, Nat.zero_le _, Nat.zero_le _, Nat.zero_le _, Nat.zero_le _, Nat.zero_le _⟩⟩










































theorem allTo_len (m : MV) : ∀ j, (allTo m j).length + m.qp.length = sumTo m j
  | 0 => by show ([] : List Rt).length + m.qp.length = m.qp.length; simp
  | j + 1 => by
    have h := allTo_len m j
    show (allTo m j ++ recs (m.sec j).ps).length + m.qp.length = sumTo m j + (m.sec j).ps.length
    rw [List.length_append, length_recs]
    omega
theorem sumTo_up (m : MV) {j : Nat} (hj : j < 3) : sumTo m j + (m.sec j).ps.length ≤ sumTo m 3 := by
  have e1 : sumTo m 1 = sumTo m 0 + (m.sec 0).ps.length := rfl
  have e2 : sumTo m 2 = sumTo m 1 + (m.sec 1).ps.length := rfl
  have e3 : sumTo m 3 = sumTo m 2 + (m.sec 2).ps.length := rfl
  rcases (show j = 0 ∨ j = 1 ∨ j = 2 by omega) with rfl | rfl | rfl <;> omega
theorem allTo_sound {m : MV} (hr : ∀ i, ∀ p ∈ (m.sec i).ps, SoundR p.2) : ∀ j, ∀ r ∈ allTo m j, SoundR r
  | 0, r, h => absurd h (List.not_mem_nil)
  | j + 1, r, h => by
    have h' : r ∈ allTo m j ++ recs (m.sec j).ps := h
    rcases List.mem_append.1 h' with h1 | h1
    · exact allTo_sound hr j r h1
    · obtain ⟨p, hp, rfl⟩ := List.mem_map.1 h1
      exact hr j p hp
/-- What has been written is good, and not too long. -/
structure Fine (s : List UInt8 × Rs) : Prop where
  l : s.1.length ≤ 90000000
  r : s.2.length ≤ 700000
  g : GoodR s.1 s.2
def headS (m : MV) : List UInt8 × Rs := (headTo [] m 3, [])
theorem encS_fine {m : MV} (hq : ∀ q ∈ qsts m.qp, soundQ q = true) (hr : ∀ i, ∀ p ∈ (m.sec i).ps, SoundR p.2) (hn : sumTo m 3 ≤ 513) :
    (∀ k, k ≤ m.qp.length → Fine (putQs (qsts (m.qp.take k)) (headS m))) ∧ (∀ j, j < 3 → ∀ k, k ≤ (m.sec j).ps.length → Fine (putRs (allTo m j ++ recs ((m.sec j).ps.take k)) (putQs (qsts m.qp) (headS m)))) ∧ Fine (putRs (allTo m 3) (putQs (qsts m.qp) (headS m))) := by
  have hh : (headS m).1.length ≤ 42 := by have := length_headTo [] m 3; simpa [headS] using this
  have hq0 : m.qp.length ≤ sumTo m 3 := by have := allTo_len m 3; omega
  have hQ (k : Nat) (hk : k ≤ m.qp.length) : GrownS (headS m) (putQs (qsts (m.qp.take k)) (headS m)) k := by
    have h := putQs_good (qsts (m.qp.take k)) (headS m) (GoodR.nil _) fun q h => hq q (by
      obtain ⟨p, hp, e⟩ := List.mem_map.1 h
      exact List.mem_map.2 ⟨p, List.mem_of_mem_take hp, e⟩)
    rwa [length_qsts, List.length_take, Nat.min_eq_left hk] at h
  have hT := hQ m.qp.length (Nat.le_refl _)
  rw [List.take_length] at hT
  have hR (l : List Rt) (hl : ∀ r ∈ l, SoundR r) (n : Nat) (hn1 : l.length = n) (hn2 : n + m.qp.length ≤ 513) : Fine (putRs l (putQs (qsts m.qp) (headS m))) := by
    have h := putRs_good l _ hT.g hl
    rw [hn1] at h
    have a1 := h.l
    have a2 := h.r
    have a3 := hT.l
    have a4 := hT.r
    have a5 : (headS m).2.length = 0 := rfl
    exact ⟨by omega, by omega, h.g⟩
  refine ⟨fun k hk => ?_, fun j hj k hk => ?_, ?_⟩
  · have h := hQ k hk
    have a1 := h.l
    have a2 := h.r
    have a5 : (headS m).2.length = 0 := rfl
    exact ⟨by omega, by omega, h.g⟩
  · have h1 := allTo_len m j
    have h2 := sumTo_up m hj
    refine hR _ ?_ ((allTo m j).length + k) (by rw [List.length_append, length_recs, List.length_take, Nat.min_eq_left hk]) (by omega)
    intro r h
    rcases List.mem_append.1 h with h | h
    · exact allTo_sound hr j r h
    · obtain ⟨p, hp, rfl⟩ := List.mem_map.1 h
      exact hr j p (List.mem_of_mem_take hp)
  · have h1 := allTo_len m 3
    exact hR _ (allTo_sound hr 3) _ rfl (by omega)
/-- What is written in the end. -/
theorem encS_eq {m m' : MV} (e : m'.h = m.h) (eq : m'.qp = m.qp) (e0 : m'.s0 = m.s0) (e1 : m'.s1 = m.s1) (e2 : recs m'.s2.ps = m.msg.exX) : (putRs (allTo m' 3) (putQs (qsts m'.qp) (headS m'))).1 = encM m.msg := by
  have h1 : allTo m' 3 = m.msg.an ++ (m.msg.au ++ m.msg.exX) := by
    rw [allTo_three]
    show recs m'.s0.ps ++ (recs m'.s1.ps ++ recs m'.s2.ps) = _
    rw [e0, e1, e2]
    rfl
  have h2 : headS m' = (m.msg.head, []) := by
    show (headTo [] m' 3, []) = _
    have h3 : headTo [] m' 3 = headM m'.h m'.qp.length m'.s0.ps.length m'.s1.ps.length m'.s2.ps.length := rfl
    have h4 : m'.s2.ps.length = m.msg.exX.length := by rw [← e2, length_recs]
    have h5 : m.msg.head = headM m.h (qsts m.qp).length (recs m.s0.ps).length (recs m.s1.ps).length m.msg.exX.length := rfl
    rw [h3, h5, e, eq, e0, e1, h4, length_qsts, length_recs, length_recs]
  rw [h1, h2, eq]
  rfl






























































































































































































































































































































































































end Go.Proofs.YtmbcbfalgdgmjaaGreatDoor

namespace Go.Proofs.YtmbcbfalgdgmjaaGreatDoor
open Go.RowKit

def nilSec : Sec := ⟨none, 0, []⟩
/-- A message that is a head alone. -/
def bareV (h : Hd) : MV := ⟨h, none, 0, [], nilSec, nilSec, nilSec⟩
theorem bare_at (h : Hd) (w : World) (H : Nat) : MAt w H (bareV h) :=
  ⟨⟨Row.empty _ _ _, fun _ h => absurd h (List.not_mem_nil)⟩, ⟨Row.empty _ _ _, fun _ h => absurd h (List.not_mem_nil)⟩, ⟨Row.empty _ _ _, fun _ h => absurd h (List.not_mem_nil)⟩, ⟨Row.empty _ _ _, fun _ h => absurd h (List.not_mem_nil)⟩⟩
theorem bare_sec (h : Hd) (i : Nat) : (bareV h).sec i = nilSec := by unfold MV.sec; split; rfl; split <;> rfl
theorem bare_in {h : Hd} (hh : HIn h) : MIn (bareV h) :=
  ⟨hh, fun _ h => absurd h (List.not_mem_nil), fun i p hp => by rw [bare_sec] at hp; exact absurd hp (List.not_mem_nil), Nat.zero_le _, fun i => by rw [bare_sec]; exact Nat.zero_le _⟩
theorem bare_own (h : Hd) (w : World) : OwnedM w (bareV h) := fun i p hp => by rw [bare_sec] at hp; exact absurd hp (List.not_mem_nil)



end Go.Proofs.YtmbcbfalgdgmjaaGreatDoor

namespace Go.Proofs.YtmbcbfalgdgmjaaGreatDoor
open Go.RowKit

theorem wide_255 {n : List (List UInt8)} (h : szN n ≤ 255) : WideN n := wide_sz (Nat.le_trans h (by unfold maxLen; omega))
theorem sound_few {n : List (List UInt8)} (h : soundN n = true) : n.length ≤ 127 := by
  obtain ⟨h1, h2⟩ := soundN_parts h
  have := szN_ge n h1
  omega
theorem fit_wf {n s : Int} (h : fitB n s = true) : (Lit.int .i64 n).wf = true := by
  unfold fitB at h
  simp only [decide_eq_true_eq] at h
  obtain ⟨h1, h2, h3, h4⟩ := h
  have h5 : (2 : Int) ^ (8 * s.toNat) ≤ 72057594037927936 := by
    obtain ⟨k, hk⟩ : ∃ k, k = s.toNat := ⟨_, rfl⟩
    rw [← hk]
    rcases (show k = 1 ∨ k = 2 ∨ k = 3 ∨ k = 4 ∨ k = 5 ∨ k = 6 ∨ k = 7 by omega) with h | h | h | h | h | h | h <;> rw [h] <;> decide +kernel
  have e1 : IntKind.i64.min = -9223372036854775808 := rfl
  have e2 : IntKind.i64.max = 9223372036854775807 := rfl
  simp only [Lit.wf, Bool.and_eq_true, decide_eq_true_eq]
  omega
/-- What is sound is small. -/
theorem SoundR.small {r : Rt} (h : SoundR r) : RIn r ∧ LightR r := by
  have sp := soundP h.d
  have hn := soundN_parts h.n
  have e1 : szN ([] : List (List UInt8)) = 1 := rfl
  have hh : szN r.data.host ≤ 255 ∧ r.data.host.length ≤ 127 := by
    cases hs : (shN r.kind).host with
    | true => exact ⟨(soundN_parts (sp.h hs)).2, sound_few (sp.h hs)⟩
    | false => rw [sp.h0 hs]; exact ⟨by rw [e1]; omega, by simp⟩
  have hm : szN r.data.mail ≤ 255 ∧ r.data.mail.length ≤ 127 := by
    cases hs : (shN r.kind).mail with
    | true => exact ⟨(soundN_parts (sp.m hs)).2, sound_few (sp.m hs)⟩
    | false => rw [sp.m0 hs]; exact ⟨by rw [e1]; omega, by simp⟩
  have hf := sound_few h.n
  have h1 := shN_small r.kind
  have h2 := sp.n
  have h3 := sp.b
  have h4 : (shN r.kind).most ≤ 65535 := by
    unfold shN
    repeat' split
    all_goals decide
  have h5 := sp.t
  have hk : kindB r.kind = true := by have h := h.d; unfold soundD at h; simp only [Bool.and_eq_true] at h; exact h.1
  unfold kindB at hk
  simp only [decide_eq_true_eq] at hk
  obtain ⟨f2, f4⟩ := nums_fit sp.ok
  have e6 : IntKind.i64.min = -9223372036854775808 := rfl
  have e7 : IntKind.i64.max = 9223372036854775807 := rfl
  refine ⟨⟨wide_255 hn.2, ?_, fit_wf h.c, ?_, ⟨wide_255 hh.1, wide_255 hm.1, by unfold maxLen; omega⟩, fun k hk => ?_, fun n hn => ?_⟩, ⟨by omega, by omega, by omega, by omega, by omega, by omega⟩⟩
  · simp only [Lit.wf, Bool.and_eq_true, decide_eq_true_eq]
    omega
  · have := h.t0
    have := h.t1
    simp only [Lit.wf, Bool.and_eq_true, decide_eq_true_eq]
    omega
  · have := sp.tl _ (List.getElem_mem hk)
    unfold maxLen
    omega
  · rw [← List.take_append_drop (shN r.kind).ahead r.data.nums] at hn
    rcases List.mem_append.1 hn with h6 | h6
    · exact fit_wf (f2 n h6)
    · exact fit_wf (f4 n h6)

def SameRsRel (w : World) (k0 : Nat) (i : Value) (wr : World) : Prop := ∃ k : Nat, k ≤ k0 ∧ i = .int .i64 k ∧ Below w.heap.size w wr










































































end Go.Proofs.YtmbcbfalgdgmjaaGreatDoor

namespace Go.Proofs.YtmbcbfalgdgmjaaGreatDoor
open Go.RowKit

/-- What is sound is small. -/
theorem soundD_in {k : Int} {d : Dt} (h : soundD k d = true) : DatIn d :=
  (SoundR.small (r := ⟨[], k, 1, 0, d⟩) ⟨(by decide +kernel : soundN [] = true), h, (by decide +kernel : fitB 1 2 = true), (by decide : (0 : Int) ≤ 0), (by decide : (0 : Int) ≤ 2147483647)⟩).1.dat
theorem dat_empty {d : Dt} (h : emptyD d = true) : DatIn d := by
  unfold emptyD at h
  simp only [Bool.and_eq_true, decide_eq_true_eq] at h
  obtain ⟨h0, h1, h2, h3, h4⟩ := h
  have e1 := List.eq_nil_of_length_eq_zero h1
  have e2 := List.eq_nil_of_length_eq_zero h2
  have e3 := List.eq_nil_of_length_eq_zero h3
  have e4 := List.eq_nil_of_length_eq_zero h4
  refine ⟨⟨?_, ?_, by omega⟩, fun k hk => by omega, fun n hn => by rw [e3] at hn; exact absurd hn (List.not_mem_nil)⟩
  · rw [e1]; exact ⟨Nat.zero_le _, fun k hk => absurd hk (Nat.not_lt_zero _)⟩
  · rw [e2]; exact ⟨Nat.zero_le _, fun k hk => absurd hk (Nat.not_lt_zero _)⟩
theorem soundN_wide {n : List (List UInt8)} (h : soundN n = true) : WideN n := wide_255 (soundN_parts h).2
theorem wf_i64 {n : Int} (h1 : -9223372036854775808 ≤ n) (h2 : n ≤ 9223372036854775807) : (Lit.int .i64 n).wf = true := by
  have e1 : IntKind.i64.min = -9223372036854775808 := rfl
  have e2 : IntKind.i64.max = 9223372036854775807 := rfl
  simp only [Lit.wf, Bool.and_eq_true, decide_eq_true_eq]
  omega
theorem typedB_in {k : Int} (h : typedB k = true) : 1 ≤ k ∧ k ≤ 65534 := by
  unfold typedB at h
  simp only [Bool.and_eq_true, decide_eq_true_eq] at h
  exact ⟨h.1, h.2.1⟩
theorem soundF_in {x : FV} (h : soundF x.fact = true) : FIn x := by
  obtain ⟨hh, hk⟩ := soundF_parts h
  obtain ⟨a1, a2, a3, a4, a5, a6⟩ := headB_parts hh
  have a4' := timeB_yes a4
  have wn : WideN x.name := soundN_wide a1
  rcases hk with ⟨k1, hb⟩ | ⟨k1, hb⟩
  · unfold hasB at hb
    simp only [Bool.and_eq_true, decide_eq_true_eq] at hb
    obtain ⟨b1, b2, b3, b4, b5, b6⟩ := hb
    have b1' := typedB_in b1
    have ez : x.zone = [] := List.eq_nil_of_length_eq_zero b4
    have k1' : x.h.knd = 1 := k1
    refine ⟨⟨wf_i64 (by have := b1'.1; show _ ≤ x.fact.h.typ; omega) (by have := b1'.2; show x.fact.h.typ ≤ _; omega), wf_i64 (by omega) (by omega), wf_i64 (by show _ ≤ x.fact.h.rank; omega) (by show x.fact.h.rank ≤ _; omega), wf_i64 (by show _ ≤ x.fact.h.got; omega) (by show x.fact.h.got ≤ _; omega), wf_i64 (by show _ ≤ x.fact.h.ttl; omega) (by show x.fact.h.ttl ≤ _; omega)⟩, wn, ?_, fun p hp => ?_, dat_empty b5⟩
    · rw [ez]; exact ⟨Nat.zero_le _, fun k hk => absurd hk (Nat.not_lt_zero _)⟩
    · exact soundD_in (setOk_each b6 (List.mem_map.2 ⟨p, hp, rfl⟩))
  · obtain ⟨p1, p2, p3, p4, p5, p6, p7⟩ := noB_parts hb
    have e0 : x.sp = [] := by
      have e : (dats x.sp).length = 0 := p3
      rw [length_dats] at e
      exact List.eq_nil_of_length_eq_zero e
    have k1' : x.h.knd = 2 ∨ x.h.knd = 3 := k1
    have ht : -1 ≤ x.h.typ ∧ x.h.typ ≤ 65535 := by
      rcases k1' with k2 | k3
      · have e : typedB x.h.typ = true := by
          have e1 : (decide (x.h.knd = 2) == typedB x.h.typ) = true := p1
          rw [decide_eq_true k2] at e1
          simpa using e1
        have := typedB_in e
        omega
      · rcases p2 with p | p
        · have : x.h.knd = 2 := p
          omega
        · have : x.h.typ = 0 := p
          omega
    refine ⟨⟨wf_i64 (by omega) (by omega), wf_i64 (by omega) (by omega), wf_i64 (by show _ ≤ x.fact.h.rank; omega) (by show x.fact.h.rank ≤ _; omega), wf_i64 (by show _ ≤ x.fact.h.got; omega) (by show x.fact.h.got ≤ _; omega), wf_i64 (by show _ ≤ x.fact.h.ttl; omega) (by show x.fact.h.ttl ≤ _; omega)⟩, wn, soundN_wide p5, fun p hp => ?_, soundD_in p7⟩
    rw [e0] at hp
    exact absurd hp (List.not_mem_nil)

end Go.Proofs.YtmbcbfalgdgmjaaGreatDoor

namespace Go.Proofs.YtmbcbfalgdgmjaaGreatDoor
open Go.RowKit























end Go.Proofs.YtmbcbfalgdgmjaaGreatDoor

namespace Go.Proofs.YtmbcbfalgdgmjaaGreatDoor
open Go.RowKit

def LowerRel (B : Nat) (w : World) (n : List (List UInt8)) (v i : Value) (wr : World) : Prop :=
  ∃ k : Nat, k ≤ n.length ∧ i = .int .i64 k ∧ wr.ownsRow B 9 1 v k (((lowN n).take k).map sv) ∧ Below B w wr ∧ B ≤ wr.heap.size

theorem low_cells {n : List (List UInt8)} {k : Nat} (h : k < n.length) : ((lowN n).take k).map sv ++ [.string ⟨(lowL n[k]).toArray⟩] = ((lowN n).take (k + 1)).map sv := by
  rw [List.take_succ_eq_append_getElem (by rw [length_lowN]; exact h), List.map_append]
  congr 1
  simp [lowN, sv]

set_option maxHeartbeats 1000000 in
theorem lower_any (A : Option Addr) (m c H : Nat) (n : List (List UInt8)) (w : World) (hl : n.length = m) (hA : Row w H A (n.map sv)) (hH : H ≤ w.heap.size) (hm : m ≤ 1000000) (hs : szN n ≤ maxLen) :
    Calls Tryz.prog 78 #[.slice A m c] w (OwnedS w (lowN n)) := by
  subst hl
  unfold maxLen at hs
  obtain ⟨i0, hi0, hz0, hz1, hz2⟩ := info_parts str_info
  have hlen := length_lt_szN n
  have HA := Lib.hid (hA.mono hH)
  clear hA
  go_enter Tryz.func78, Tryz.ntmps78
  go_wp2
  go_loopw [3, 8] (LowerRel w.heap.size w n) (fun _ i _ => n.length - (intOf i).toNat)
  case atStart => exact ⟨0, Nat.zero_le _, rfl, World.ownsRow_nil _ _ _ _, Below.refl _ _, Nat.le_refl _⟩
  case round =>
    obtain ⟨k, hk, rfl, hown, hbw, hz⟩ := hrel
    obtain ⟨A1, c1, rfl, hc1, hc2⟩ := own_form hown
    have HO := Lib.hid hown
    have HB := Lib.hid hbw
    have HAW := Lib.hid (HA.out.below hbw)
    clear hown hbw
    by_cases hlt : k < n.length
    · obtain ⟨b, off, rfl, _, hc⟩ := HAW.out.name_at hlt
      have hle := len_le_szN hlt
      have HC := Lib.hid (low_cells hlt)
      go_wp2_with fail
      refine (small_any n[k] wr (by unfold maxLen; omega)).mono ?_
      rintro e w1 ⟨rfl, hb1⟩
      have hs1 := hb1.size
      have HB1 := Lib.hid hb1
      have HO1 := Lib.hid (HO.out.kept (row := none) ⟨hb1.os, hb1.tape, hb1.output, hb1.size, fun j hj _ => hb1.block j hj⟩ (by cases hv : (Value.slice A1 k c1).ownBlock <;> simp))
      have HR1 := Lib.hid (Row.made w1 #[.string ⟨(lowL n[k]).toArray⟩] 9)
      clear hb1
      go_wp2_with (
        at_builtin
        refine wpList_append_row rfl (.tmp 12) (.tmp 15) _ rfl w.heap.size 9 i0 _ 1 16 Tryz.underlying29 hi0 hz0 hz1 hz2 rfl (by omega) (.slice A1 k c1) k _ rfl (HO1.out.alloc _)
          (some ⟨w1.heap.size, 0, none⟩) 1 1 (w1.heap.size + 1) [.string ⟨(lowL n[k]).toArray⟩] rfl rfl HR1.out (by simp [Value.oneCell']) (by unfold maxLen; omega) (by omega) (by simp; omega) ?_
        intro v2 w2 hown2 hg2
        rw [HC.out] at hown2
        have HO2 := Lib.hid hown2
        have HG2 := Lib.hid hg2
        have hs2 := hg2.size
        clear hown2 hg2)
      refine ⟨⟨k + 1, by omega, by go_num, HO2.out, ?_, ?_⟩, by simp [intOf]; omega⟩
      · exact own_below ((HB.out.trans (HB1.out.mono hz)).alloc (by omega) _) (Nat.le_refl _) (by simp; omega) (HO1.out.alloc _) HG2.out
      · simp at hs2; omega
    · obtain rfl : k = n.length := by omega
      go_wp2
      go_ret
      have ho := HO.out
      rw [List.take_of_length_le (by rw [length_lowN]; exact Nat.le_refl _)] at ho
      exact ⟨A1, c1, by rw [length_lowN]; rfl, by rw [length_lowN]; exact ho, HB.out⟩

end Go.Proofs.YtmbcbfalgdgmjaaGreatDoor

namespace Go.Proofs.YtmbcbfalgdgmjaaGreatDoor
open Go.RowKit

theorem bld_info : (Tryz.prog.info? 113).map (·.size) = some 2 := by kernel_rfl
theorem bld_lies : liesAt Tryz.prog Tryz.prog.depth 113 (2 / Tryz.prog.cellsOf 113) 0 113 1 = true := by kernel_rfl

/-- The builder in block b holds the bytes l. -/
def Bld (B b : Nat) (l : List UInt8) (w : World) : Prop := Lib.IsBuilder 113 5 B b (l.map bc) w

theorem Bld.drewN {B b : Nat} {l : List UInt8} {w : World} (h : Bld B b l w) (k : Nat) : Bld B b l (w.drewN k) := h

/-- The call leaves the builder with l; nothing below B has turned. -/
def Wrote (B b : Nat) (l : List UInt8) (w : World) (v : Value) (e : Ending) (w' : World) : Prop := e = .returned v ∧ Bld B b l w' ∧ Below B w w'

set_option maxRecDepth 8000 in
set_option maxHeartbeats 1000000 in
theorem check_used (b : Nat) (w : World) (h0 : w.cell? ⟨b, 0, none⟩ = some (.pointer (some ⟨b, 0, none⟩))) :
    Calls Tryz.prog 121 #[.pointer (some ⟨b, 0, none⟩)] w fun e w' => e = .returned (.tuple #[]) ∧ w' = w := by
  obtain ⟨j, hj, _⟩ := Option.map_eq_some_iff.1 bld_info
  go_enter Tryz.func121, Tryz.ntmps121
  go_wp2
  rw [Lib.run_neq_ptr_same w _ Tryz.underlying111 hj]
  go_wp2
  go_end0
  exact ⟨rfl, rfl⟩

set_option maxRecDepth 8000 in
set_option maxHeartbeats 1000000 in
theorem check_fresh (b : Nat) (w : World) (h0 : w.cell? ⟨b, 0, none⟩ = some (.pointer none)) (hsh : w.shape? b = some (113, 2)) (hfz : w.frozen? ⟨b, 0, none⟩ = false) :
    Calls Tryz.prog 121 #[.pointer (some ⟨b, 0, none⟩)] w fun e w' => e = .returned (.tuple #[]) ∧ w' = w.setCell ⟨b, 0, none⟩ (.pointer (some ⟨b, 0, none⟩)) := by
  obtain ⟨j, hj, hjs⟩ := Option.map_eq_some_iff.1 bld_info
  go_enter Tryz.func121, Tryz.ntmps121
  go_wp2
  rw [Lib.run_to_unsafe w ⟨b, 0, none⟩ Tryz.underlying111 Tryz.underlying155 hj (by rw [hjs]; decide) hsh (Nat.zero_lt_succ 1)]
  simp only [Result.andThen]
  rw [Oper.upon_value]
  go_wp2
  rw [run_callFunc_extern Tryz.func139 (by kernel_rfl) (by kernel_rfl) (by kernel_rfl) (e := Extern.AbiNoEscape.same) (by kernel_rfl)]
  rw [Lib.run_noEscape]
  simp only [Result.andThen]
  rw [Oper.upon_value]
  go_wp2
  rw [Lib.run_from_unsafe w ⟨b, 0, none⟩ Tryz.underlying155 Tryz.underlying111 hj hsh bld_lies]
  simp only [Result.andThen]
  rw [Oper.upon_value]
  go_wp2
  go_end0
  exact ⟨rfl, rfl⟩

theorem check_any (B b : Nat) (l : List UInt8) (w : World) (h : Bld B b l w) :
    Calls Tryz.prog 121 #[.pointer (some ⟨b, 0, none⟩)] w fun e w' => e = .returned (.tuple #[]) ∧
      (Lib.BuilderAt 113 5 B b (.pointer (some ⟨b, 0, none⟩)) (l.map bc) w' ∧ Below B w w') := by
  rcases h with h | h
  · refine (check_fresh b w h.cell0 h.shape h.frozen0).mono ?_
    rintro e w' ⟨rfl, rfl⟩
    exact ⟨rfl, h.used _, (Below.refl B w).setCell (p := ⟨b, 0, none⟩) h.1 _⟩
  · refine (check_used b w h.cell0).mono ?_
    rintro e w' ⟨rfl, rfl⟩
    exact ⟨rfl, h, Below.refl B _⟩

set_option maxHeartbeats 1000000 in
/-- b.WriteByte(c). -/
theorem write_any (B b : Nat) (l : List UInt8) (x : UInt8) (w : World) (h : Bld B b l w) (hlen : l.length + 1 ≤ 140737488355328) (hBw : B ≤ w.heap.size) :
    Calls Tryz.prog 98 #[.pointer (some ⟨b, 0, none⟩), .int .u8 x.toNat] w (Wrote B b (l ++ [x]) w .nilIface) := by
  obtain ⟨i0, hi0, hz0, hz1, hz2⟩ := info_parts u8_info
  have hch := check_any B b l w h
  have HC := Lib.hid hch
  clear hch h
  go_enter Tryz.func98, Tryz.ntmps98
  go_wp2_with fail
  refine HC.out.mono ?_
  rintro e w1 ⟨rfl, h1, hb1⟩
  obtain ⟨hB, v, hbk, hown, hne⟩ := h1
  have hsz := hb1.size
  have HB1 := Lib.hid hb1
  have HO := Lib.hid hown
  have HK := Lib.hid hbk
  have HN := Lib.hid hne
  have c1 : w1.cell? ⟨b, 1, none⟩ = some v := by rw [Lib.cell_of_heap hbk]; rfl
  have hlt : b < w1.heap.size := by
    rcases Nat.lt_or_ge b w1.heap.size with h' | h'
    · exact h'
    · simp [Array.getElem?_eq_none h'] at hbk
  clear hb1 hown hbk hne
  have hr := Row.made w1 #[.int .u8 x.toNat] 5
  have HR := Lib.hid hr
  clear hr
  go_wp2_with (
    at_builtin
    refine wpList_append_row rfl (.tmp 11) (.tmp 13) _ rfl B 5 i0 _ 1 1 Tryz.underlying31 hi0 hz0 hz1 hz2 rfl (by omega) v (l.map bc).length _ rfl (HO.out.alloc _)
      (some ⟨w1.heap.size, 0, none⟩) 1 1 (w1.heap.size + 1) [.int .u8 x.toNat] rfl rfl HR.out (by simp [Value.oneCell']) (by rw [List.length_map]; unfold maxLen; omega) (by rw [List.length_map]; omega) (by simp; omega) ?_
    intro v2 w2 hown2 hg2
    obtain ⟨A2, k2, rfl, hk1, hk2⟩ := own_form hown2
    obtain ⟨g2, rfl⟩ := own_some hown2 (by omega)
    have hb2 : w2.heap[b]? = some (.cells #[.pointer (some ⟨b, 0, none⟩), v] 113 (0, 0)) := by
      rw [hg2.block b (by simp; omega) (fun e => HN.out e.symm), Lib.alloc_old w1 _ b hlt]
      exact HK.out
    have d1 : w2.cell? ⟨b, 1, none⟩ = some v := by rw [Lib.cell_of_heap hb2]; rfl
    have f1 : w2.frozen? ⟨b, 1, none⟩ = false := Lib.frozen_of_heap hb2 1
    have HB2 := Lib.hid hb2
    have HO2 := Lib.hid hown2
    have HG2 := Lib.hid hg2
    clear hb2 hown2 hg2)
  go_ret
  refine ⟨rfl, ?_, ?_⟩
  · refine .inr (Lib.BuilderAt.put hB HB2.out (bs' := (l ++ [x]).map bc) ?_ (by decide))
    simpa [bc] using HO2.out
  · exact ((own_below (HB1.out.alloc (by omega) _) (Nat.le_refl _) (by simp; omega) (HO.out.alloc _) HG2.out)).setCell (p := ⟨b, 1, none⟩) hB _

set_option maxHeartbeats 1000000 in
/-- b.String(), where there is a byte. -/
theorem string_any (B b : Nat) (l : List UInt8) (w : World) (h : Bld B b l w) (h0 : l ≠ []) :
    Calls Tryz.prog 99 #[.pointer (some ⟨b, 0, none⟩)] w fun e w' => e = .returned (.string ⟨l.toArray⟩) ∧ Below B w w' := by
  obtain ⟨p, hB, v, hbk, hown, hne⟩ : ∃ p, Lib.BuilderAt 113 5 B b p (l.map bc) w := by
    rcases h with h | h
    · exact ⟨_, h⟩
    · exact ⟨_, h⟩
  have hl0 : l.length ≠ 0 := by simpa using h0
  rw [List.length_map] at hown
  obtain ⟨g, cap, cur, rfl, hbg, hg, hnc, hcm, hcs, htake⟩ : ∃ g cap cur, v = .slice (some ⟨g, 0, none⟩) l.length cap ∧ B ≤ g ∧ w.heap[g]? = some (.cells cur 5 (0, 0)) ∧ l.length ≤ cap ∧ cap ≤ maxLen ∧ cur.size = cap * 1 ∧ cur.toList.take (l.length * 1) = l.map bc := by
    rcases hown.2 with ⟨_, hz⟩ | ⟨g, cap, cur, hv, r⟩
    · exact absurd hz hl0
    · exact ⟨g, cap, cur, hv, r⟩
  have c1 : w.drew.cell? ⟨b, 1, none⟩ = some (.slice (some ⟨g, 0, none⟩) l.length cap) := by
    have : w.drew.heap[b]? = some (.cells #[p, .slice (some ⟨g, 0, none⟩) l.length cap] 113 (0, 0)) := hbk
    rw [Lib.cell_of_heap this]; rfl
  have hSD : (Builtin.unsafeSliceData_ #[31] 137 #[.slice (some ⟨g, 0, none⟩) l.length cap]).run Tryz.prog w.drew = .ok (.pointer (some ⟨g, 0, none⟩)) w.drew :=
    Lib.run_unsafeSliceData_row _ _ _ _ _ _ (by omega)
  have hUS : (Builtin.unsafeString_ #[137, 3] 9 #[.pointer (some ⟨g, 0, none⟩), .int .i64 l.length]).run Tryz.prog w.drew = .ok (.string ⟨l.toArray⟩) (w.drew.freeze ⟨g, 0, none⟩ l.length) := by
    refine Lib.run_unsafeString_row w.drew 137 3 9 5 Tryz.underlying137 (by kernel_rfl) g cur.size (by have hg' : w.drew.heap[g]? = some (.cells cur 5 (0, 0)) := hg; simp [World.shape?, hg']) l h0 (by omega) (by unfold maxLen at hcm; omega) ?_
    intro j x hx
    exact hown.cells (g := g) rfl j (.int .u8 x.toNat) (by simp [bc, hx])
  clear hown hbk h htake hcs h0 hg
  go_enter Tryz.func99, Tryz.ntmps99
  go_wp2
  go_region
  all_goals (go_wp2; go_ret; exact ⟨rfl, Lib.below_freeze (Below.drew (Below.refl B w)) (p := ⟨g, 0, none⟩) hbg _⟩)

end Go.Proofs.YtmbcbfalgdgmjaaGreatDoor

namespace Go.Proofs.YtmbcbfalgdgmjaaGreatDoor
open Go.RowKit

theorem Wrote.intro {B b : Nat} {l : List UInt8} {w w' : World} {v : Value} (h1 : Bld B b l w') (h2 : Below B w w') : Wrote B b l w v (.returned v) w' := ⟨rfl, h1, h2⟩

set_option maxHeartbeats 400000 in
theorem plain_any (c : UInt8) (w : World) :
    Calls Tryz.prog 120 #[.int .u8 c.toNat] w (Told w (.bool (plainC c))) := by
  have hc := c.toNat_lt
  by_cases h1 : 33 ≤ c.toNat
  · by_cases h2 : c.toNat ≤ 126
    · have d2 : decide ((c.toNat : Int) ≤ 126) = true := by simp; omega
      have HF := Lib.hid (plainC_yes (c := c) (by omega))
      go_enter Tryz.func120, Tryz.ntmps120
      go_wp2
      go_ret
      exact ⟨ret_bool HF.out.symm, rfl⟩
    · have d2 : decide ((c.toNat : Int) ≤ 126) = false := by simp; omega
      have HF := Lib.hid (plainC_no (c := c) (by omega))
      go_enter Tryz.func120, Tryz.ntmps120
      go_wp2
      go_ret
      exact ⟨ret_bool HF.out.symm, rfl⟩
  · have HF := Lib.hid (plainC_no (c := c) (by omega))
    go_enter Tryz.func120, Tryz.ntmps120
    go_wp2
    go_ret
    exact ⟨ret_bool HF.out.symm, rfl⟩

set_option maxHeartbeats 400000 in
theorem writeChar_esc (B b : Nat) (l : List UInt8) (c : UInt8) (w : World) (h : Bld B b l w) (hlen : l.length + 4 ≤ 140737488355328) (hBw : B ≤ w.heap.size) (hc : c.toNat = 46 ∨ c.toNat = 92) :
    Calls Tryz.prog 97 #[.pointer (some ⟨b, 0, none⟩), .int .u8 c.toNat] w (Wrote B b (l ++ textC c) w (.tuple #[])) := by
  rw [textC_esc hc]
  have HW := Lib.hid (write_any B b l 92 w h (by omega) hBw)
  have h1 : ((c.toNat : Int) == 46) = true ∨ (((c.toNat : Int) == 46) = false ∧ ((c.toNat : Int) == 92) = true) := by
    rcases hc with h | h <;> simp [h]
  clear hc h
  rcases h1 with h1 | ⟨h1, h2⟩
  all_goals
    go_enter Tryz.func97, Tryz.ntmps97
    go_wp2_with fail
    refine HW.out.mono ?_
    rintro e w1 ⟨rfl, hb1, hB1⟩
    have hz := hB1.size
    have HB1 := Lib.hid hB1
    have HD1 := Lib.hid hb1
    clear hb1 hB1
    go_wp2_with fail
    refine (write_any B b _ c w1 HD1.out (by simp; omega) (by omega)).mono ?_
    rintro e w2 ⟨rfl, hb2, hB2⟩
    have HB2 := Lib.hid hB2
    have HD2 := Lib.hid hb2
    clear hb2 hB2
    go_wp2
    go_end0
    exact Wrote.intro (by have h := HD2.out; simpa using h) (HB1.out.trans HB2.out)

set_option maxHeartbeats 400000 in
theorem writeChar_as (B b : Nat) (l : List UInt8) (c : UInt8) (w : World) (h : Bld B b l w) (hlen : l.length + 4 ≤ 140737488355328) (hBw : B ≤ w.heap.size) (hc : ¬ (c.toNat = 46 ∨ c.toNat = 92)) (hp : 33 ≤ c.toNat ∧ c.toNat ≤ 126) :
    Calls Tryz.prog 97 #[.pointer (some ⟨b, 0, none⟩), .int .u8 c.toNat] w (Wrote B b (l ++ textC c) w (.tuple #[])) := by
  rw [textC_as hc hp]
  have HW := Lib.hid (write_any B b l c w h (by omega) hBw)
  have hpl := plain_any c w
  rw [plainC_yes hp] at hpl
  have HP := Lib.hid hpl
  have h1 : ((c.toNat : Int) == 46) = false := by rw [beq_eq_false_iff_ne]; omega
  have h2 : ((c.toNat : Int) == 92) = false := by rw [beq_eq_false_iff_ne]; omega
  clear hc h hpl hp
  go_enter Tryz.func97, Tryz.ntmps97
  go_wp2_with fail
  refine HP.out.mono ?_
  rintro e w' ⟨rfl, rfl⟩
  go_wp2_with fail
  refine HW.out.mono ?_
  rintro e w1 ⟨rfl, hb1, hB1⟩
  have HB1 := Lib.hid hB1
  have HD1 := Lib.hid hb1
  clear hb1 hB1
  go_wp2
  go_end0
  exact Wrote.intro HD1.out HB1.out

set_option maxHeartbeats 400000 in
theorem writeChar_num (B b : Nat) (l : List UInt8) (c : UInt8) (w : World) (h : Bld B b l w) (hlen : l.length + 4 ≤ 140737488355328) (hBw : B ≤ w.heap.size) (hp : ¬ (33 ≤ c.toNat ∧ c.toNat ≤ 126)) :
    Calls Tryz.prog 97 #[.pointer (some ⟨b, 0, none⟩), .int .u8 c.toNat] w (Wrote B b (l ++ textC c) w (.tuple #[])) := by
  rw [textC_num hp]
  have HW := Lib.hid (write_any B b l 92 w h (by omega) hBw)
  have hpl := plain_any c w
  rw [plainC_no hp] at hpl
  have HP := Lib.hid hpl
  have h1 : ((c.toNat : Int) == 46) = false := by rw [beq_eq_false_iff_ne]; omega
  have h2 : ((c.toNat : Int) == 92) = false := by rw [beq_eq_false_iff_ne]; omega
  have hc := c.toNat_lt
  clear h hpl hp
  go_enter Tryz.func97, Tryz.ntmps97
  go_wp2_with fail
  refine HP.out.mono ?_
  rintro e w' ⟨rfl, rfl⟩
  go_wp2_with fail
  refine HW.out.mono ?_
  rintro e w1 ⟨rfl, hb1, hB1⟩
  have hz1 := hB1.size
  have HB1 := Lib.hid hB1
  have HD1 := Lib.hid hb1
  clear hb1 hB1
  go_wp2_with fail
  rw [dgH_int]
  refine (write_any B b _ (dgH c) w1 HD1.out (by simp; omega) (by omega)).mono ?_
  rintro e w2 ⟨rfl, hb2, hB2⟩
  have hz2 := hB2.size
  have HB2 := Lib.hid hB2
  have HD2 := Lib.hid hb2
  clear hb2 hB2
  go_wp2_with fail
  rw [dgT_int]
  refine (write_any B b _ (dgT c) w2 HD2.out (by simp; omega) (by omega)).mono ?_
  rintro e w3 ⟨rfl, hb3, hB3⟩
  have hz3 := hB3.size
  have HB3 := Lib.hid hB3
  have HD3 := Lib.hid hb3
  clear hb3 hB3
  go_wp2_with fail
  rw [dgO_int]
  refine (write_any B b _ (dgO c) w3 HD3.out (by simp; omega) (by omega)).mono ?_
  rintro e w4 ⟨rfl, hb4, hB4⟩
  have HB4 := Lib.hid hB4
  have HD4 := Lib.hid hb4
  clear hb4 hB4
  go_wp2
  go_end0
  exact Wrote.intro (by have h := HD4.out; simpa using h) (((HB1.out.trans HB2.out).trans HB3.out).trans HB4.out)

theorem writeChar_any (B b : Nat) (l : List UInt8) (c : UInt8) (w : World) (h : Bld B b l w) (hlen : l.length + 4 ≤ 140737488355328) (hBw : B ≤ w.heap.size) :
    Calls Tryz.prog 97 #[.pointer (some ⟨b, 0, none⟩), .int .u8 c.toNat] w (Wrote B b (l ++ textC c) w (.tuple #[])) := by
  by_cases hc : c.toNat = 46 ∨ c.toNat = 92
  · exact writeChar_esc B b l c w h hlen hBw hc
  · by_cases hp : 33 ≤ c.toNat ∧ c.toNat ≤ 126
    · exact writeChar_as B b l c w h hlen hBw hc hp
    · exact writeChar_num B b l c w h hlen hBw hp

def TextRel (w : World) (n : List (List UInt8)) (i : Value) (wr : World) : Prop :=
  ∃ k : Nat, k ≤ n.length ∧ i = .int .i64 k ∧ Bld w.heap.size w.heap.size (textN (n.take k)) wr ∧ Below w.heap.size w wr
def TextRel2 (w : World) (p l : List UInt8) (i : Value) (wr : World) : Prop :=
  ∃ k : Nat, k ≤ l.length ∧ i = .int .i64 k ∧ Bld w.heap.size w.heap.size (p ++ textL (l.take k)) wr ∧ Below w.heap.size w wr

theorem textA_nil : textA [] = [46] := rfl
theorem textA_ne {n : List (List UInt8)} (h : n ≠ []) : textA n = textN n := by unfold textA; rw [if_neg h]

set_option maxHeartbeats 400000 in
theorem text_nil (A : Option Addr) (c : Nat) (w : World) :
    Calls Tryz.prog 77 #[.slice A 0 c] w (Gave w (.string ⟨(textA []).toArray⟩)) := by
  rw [textA_nil]
  go_enter Tryz.func77, Tryz.ntmps77
  go_wp2
  go_ret
  exact ⟨rfl, Below.refl _ _⟩

set_option maxHeartbeats 400000 in
theorem text_ne (A : Option Addr) (m c H : Nat) (n : List (List UInt8)) (w : World) (hl : n.length = m) (hA : Row w H A (n.map sv)) (hH : H ≤ w.heap.size) (hs : szN n ≤ 17592186000000) (hn : n ≠ []) :
    Calls Tryz.prog 77 #[.slice A m c] w (Gave w (.string ⟨(textA n).toArray⟩)) := by
  subst hl
  rw [textA_ne hn]
  have hlen := length_lt_szN n
  have hnl : 0 < n.length := by
    rcases n with _ | ⟨x, n⟩
    · exact absurd rfl hn
    · simp
  have h0 : ((n.length : Int) == 0) = false := by rw [beq_eq_false_iff_ne]; omega
  have HN := Lib.hid (textN_ne hn)
  have HA := Lib.hid (hA.mono hH)
  clear hA hn hH
  go_enter Tryz.func77, Tryz.ntmps77
  go_wp2
  go_loopw [12] (TextRel w n) (fun i _ => n.length - (intOf i).toNat)
  case atStart => exact ⟨0, Nat.zero_le _, rfl, Lib.fresh_isBuilder _ _ _, (Below.refl _ _).alloc (Nat.le_refl _) _⟩
  case round =>
    obtain ⟨k, hk, rfl, hbk, hwk⟩ := hrel
    have hzk := hwk.size
    have HBK := Lib.hid hbk
    have HWK := Lib.hid hwk
    have HAK := Lib.hid (HA.out.below hwk)
    clear hbk hwk
    by_cases hlt : k < n.length
    · obtain ⟨b, off, rfl, _, hc⟩ := HAK.out.name_at hlt
      have hle := len_le_szN hlt
      have hpl := textN_take_le n k
      have HT := Lib.hid (textN_snoc hlt)
      go_wp2_with fail
      go_loopw [18] (TextRel2 w (textN (n.take k)) n[k]) (fun i _ => (n[k]).length - (intOf i).toNat)
      case atStart => exact ⟨0, Nat.zero_le _, rfl, by simpa [textL] using HBK.out, HWK.out⟩
      case round =>
        obtain ⟨j, hj, rfl, hbj, hwj⟩ := hrel
        have hzj := hwj.size
        have HBJ := Lib.hid hbj
        have HWJ := Lib.hid hwj
        clear hbj hwj
        have hpj := textL_take_le n[k] j
        by_cases hjt : j < (n[k]).length
        · have HL := Lib.hid (textL_snoc hjt)
          go_wp2_with fail
          refine (writeChar_any _ _ _ (n[k])[j] _ HBJ.out (by rw [List.length_append]; omega) hzj).mono ?_
          rintro e w2 ⟨rfl, hb2, hB2⟩
          have HB2 := Lib.hid hb2
          have HW2 := Lib.hid hB2
          clear hb2 hB2
          go_wp2
          refine ⟨⟨j + 1, by omega, by go_num, ?_, HWJ.out.trans HW2.out⟩, by simp [intOf]; omega⟩
          rw [HL.out, ← List.append_assoc]
          exact HB2.out
        · obtain rfl : j = (n[k]).length := by omega
          go_wp2_with fail
          refine (write_any _ _ _ 46 _ HBJ.out (by rw [List.length_append]; omega) hzj).mono ?_
          rintro e w2 ⟨rfl, hb2, hB2⟩
          have HB2 := Lib.hid hb2
          have HW2 := Lib.hid hB2
          clear hb2 hB2
          go_wp2
          refine ⟨⟨k + 1, by omega, by go_num, ?_, HWJ.out.trans HW2.out⟩, by simp [intOf]; omega⟩
          rw [HT.out]
          have h := HB2.out
          rw [List.take_length] at h
          exact h
    · obtain rfl : k = n.length := by omega
      rw [List.take_length] at HBK
      go_wp2_with fail
      refine (string_any _ _ _ _ HBK.out HN.out).mono ?_
      rintro e w2 ⟨rfl, hB2⟩
      have HW2 := Lib.hid hB2
      clear hB2
      go_wp2
      go_ret
      exact ⟨rfl, HWK.out.trans HW2.out⟩

theorem text_any (A : Option Addr) (m c H : Nat) (n : List (List UInt8)) (w : World) (hl : n.length = m) (hA : Row w H A (n.map sv)) (hH : H ≤ w.heap.size) (hs : szN n ≤ 17592186000000) :
    Calls Tryz.prog 77 #[.slice A m c] w (Gave w (.string ⟨(textA n).toArray⟩)) := by
  by_cases hn : n = []
  · subst hn
    subst hl
    exact text_nil A c w
  · exact text_ne A m c H n w hl hA hH hs hn

end Go.Proofs.YtmbcbfalgdgmjaaGreatDoor

namespace Go.Proofs.YtmbcbfalgdgmjaaGreatDoor
open Go.RowKit

theorem cat3 (a b : List UInt8) : (⟨a.toArray⟩ : ByteArray) ++ ⟨#[46]⟩ ++ ⟨b.toArray⟩ = ⟨(a ++ 46 :: b).toArray⟩ := by
  apply ByteArray.ext
  simp [ByteArray.data_append]

set_option maxRecDepth 20000 in
set_option maxHeartbeats 2000000 in
theorem key_any (w : World) (B : Nat) (hp : PowsAt B w) (hB : B ≤ w.heap.size) (x : FV) (hx : Row w w.heap.size x.A (x.name.map sv)) (hs : soundN x.name = true) (ht : (Lit.int .i64 x.h.typ).wf = true) :
    Calls Tryz.prog 51 #[x.val] w (Gave w (.string ⟨(keyF x.fact).toArray⟩)) := by
  have HF := Lib.hid (FBox.made w x)
  have nl := sound_few hs
  have nz := (soundN_parts hs).2
  have HI := Lib.hid (fun W (hb : FBox w x W) => itoa_any x.h.typ ht w.heap.size W ((hp.mono hB).next hb.below))
  have HLW := Lib.hid (fun W (hb : FBox w x W) => lower_any x.A x.name.length x.c w.heap.size x.name W rfl (hx.below hb.below) (by have := hb.size; omega) (by omega) (by unfold maxLen; omega))
  have HTX := Lib.hid (fun (A : Option Addr) (c H : Nat) W (hA : Row W H A ((lowN x.name).map sv)) (hH : H ≤ W.heap.size) => text_any A (lowN x.name).length c H (lowN x.name) W rfl hA hH (by rw [szN_lowN]; omega))
  have HS := Lib.hid (show ∀ W, FBox w x W → (W.cell? ⟨w.heap.size, 0, none⟩ = some (.slice x.A x.name.length x.c) ∧ W.cell? ⟨w.heap.size, 1, none⟩ = some (.int .i64 x.h.typ)) from fun W h => ⟨h.f.cell 0, h.f.cell 1⟩)
  have li := itoa_len ht
  have lt : (textA (lowN x.name)).length ≤ 1020 := by
    unfold textA
    split
    · simp
    · have h1 := length_textN (lowN x.name)
      rw [szN_lowN] at h1
      omega
  have HK := Lib.hid (show keyF x.fact = Lib.itoa x.h.typ ++ 46 :: textA (lowN x.name) from rfl)
  clear hx hs ht hp
  revert HI HTX li lt HK
  generalize Lib.itoa x.h.typ = I
  generalize textA (lowN x.name) = Tx
  intro HI HTX li lt HK
  have b1 : ¬ 9223372036854775807 < I.length + 1 := by omega
  have b2 : ¬ 9223372036854775807 < I.length + 1 + Tx.length := by omega
  go_enter Tryz.func51, Tryz.ntmps51
  go_upto_region 1 with fail
  generalize hW : w.alloc _ = W at HF ⊢
  clear hW
  have HF0 := Lib.hid (HF.out.step (Below.refl _ _).drew)
  refine wp_region_held_drew (S := fun W => (W.cell? ⟨w.heap.size, 0, none⟩ = some (.slice x.A x.name.length x.c) ∧ W.cell? ⟨w.heap.size, 1, none⟩ = some (.int .i64 x.h.typ))) (by kernel_rfl) (by exact HS.out _ HF0.out) (fun hHeld => ?_)
  refine wpAnyH_take (i := 0) (oi := ⟨some 3, _, _, _, _, _⟩) (v := ?_) rfl (by kernel_rfl) (by kernel_rfl) (by kernel_rfl) (fun _ _ _ h => h) (Or.inl ⟨by kernel_rfl, ?_⟩) (by assumption) ?_
  rotate_left
  · intro W hSw
    try dsimp only at hSw
    go_simp
    all_goals (with_reducible rfl)
  try simp only [Act.put, List.setIfInBounds_toArray, List.set_cons_zero, List.set_cons_succ]
  refine wpAnyH_take (i := 1) (oi := ⟨some 4, _, _, _, _, _⟩) (v := ?_) rfl (by kernel_rfl) (by kernel_rfl) (by kernel_rfl) (fun _ _ _ h => h) (Or.inl ⟨by kernel_rfl, ?_⟩) (by assumption) ?_
  rotate_left
  · intro W hSw
    try dsimp only at hSw
    go_simp
    all_goals (with_reducible rfl)
  try simp only [Act.put, List.setIfInBounds_toArray, List.set_cons_zero, List.set_cons_succ]
  refine wpAnyH_take (i := 4) (oi := ⟨some 7, _, _, _, _, _⟩) (v := ?_) rfl (by kernel_rfl) (by kernel_rfl) (by kernel_rfl) (fun _ _ _ h => h) (Or.inl ⟨by kernel_rfl, ?_⟩) (by assumption) ?_
  rotate_left
  · intro W hSw
    try dsimp only at hSw
    go_simp
    all_goals (with_reducible rfl)
  try simp only [Act.put, List.setIfInBounds_toArray, List.set_cons_zero, List.set_cons_succ]
  refine wpAnyH_take (i := 5) (oi := ⟨some 8, _, _, _, _, _⟩) (v := ?_) rfl (by kernel_rfl) (by kernel_rfl) (by kernel_rfl) (fun _ _ _ h => h) (Or.inl ⟨by kernel_rfl, ?_⟩) (by assumption) ?_
  rotate_left
  · intro W hSw
    try dsimp only at hSw
    go_simp
    all_goals (with_reducible rfl)
  try simp only [Act.put, List.setIfInBounds_toArray, List.set_cons_zero, List.set_cons_succ]
  refine wpAnyH_ready (rs := [2]) (by kernel_rfl) (by simp) ?_
  refine AllReadyH.cons (o := { dst := some 5, op := Go.Op.call { callee := Go.Callee.value (Go.Operand.func 76), args := #[Go.Operand.tmp 4], argTypes := #[3] }, type := 9, pos := "fact.go:40", after := #[{ on := 1, ground := Go.Ground.data }], guard := none }) rfl (fun K hK => ?_) AllReadyH.nil
  go_simp
  refine (HI.out _ HF0.out).mono ?_
  rintro e w2 ⟨rfl, hb2⟩
  have HF2 := Lib.hid (HF0.out.step hb2)
  clear hb2
  refine hK.out _ _ (by exact HS.out _ HF2.out) (fun hHeld2 => ?_)
  clear hK K hHeld
  have hHeld := hHeld2
  clear hHeld2
  try simp only [Act.put, List.setIfInBounds_toArray, List.set_cons_zero, List.set_cons_succ]
  refine wpAnyH_take (i := 3) (oi := ⟨some 6, _, _, _, _, _⟩) (v := ?_) rfl (by kernel_rfl) (by kernel_rfl) (by kernel_rfl) (fun _ _ _ h => h) (Or.inl ⟨by kernel_rfl, ?_⟩) (by assumption) ?_
  rotate_left
  · intro W hSw
    try dsimp only at hSw
    go_simp
    all_goals (with_reducible rfl)
  try simp only [Act.put, List.setIfInBounds_toArray, List.set_cons_zero, List.set_cons_succ]
  refine wpAnyH_ready (rs := [6]) (by kernel_rfl) (by simp) ?_
  refine AllReadyH.cons (o := { dst := some 9, op := Go.Op.call { callee := Go.Callee.value (Go.Operand.func 78), args := #[Go.Operand.tmp 8], argTypes := #[29] }, type := 29, pos := "fact.go:40", after := #[{ on := 5, ground := Go.Ground.data }, { on := 2, ground := Go.Ground.chain }], guard := none }) rfl (fun K hK => ?_) AllReadyH.nil
  go_simp
  refine (HLW.out _ HF2.out).mono ?_
  rintro e w6 ⟨A6, c6, rfl, hown, hb6⟩
  have HF6 := Lib.hid (HF2.out.step hb6)
  have HR6 := Lib.hid (Row.of_own hown)
  clear hown hb6
  refine hK.out _ _ (by exact HS.out _ HF6.out) (fun hHeld2 => ?_)
  clear hK K hHeld
  have hHeld := hHeld2
  clear hHeld2
  try simp only [Act.put, List.setIfInBounds_toArray, List.set_cons_zero, List.set_cons_succ]
  refine wpAnyH_ready (rs := [7]) (by kernel_rfl) (by simp) ?_
  refine AllReadyH.cons (o := { dst := some 10, op := Go.Op.call { callee := Go.Callee.value (Go.Operand.func 77), args := #[Go.Operand.tmp 9], argTypes := #[29] }, type := 9, pos := "fact.go:40", after := #[{ on := 6, ground := Go.Ground.data }, { on := 6, ground := Go.Ground.chain }], guard := none }) rfl (fun K hK => ?_) AllReadyH.nil
  go_simp
  refine (HTX.out _ _ _ _ HR6.out (Nat.le_refl _)).mono ?_
  rintro e w7 ⟨rfl, hb7⟩
  have HF7 := Lib.hid (HF6.out.step hb7)
  clear hb7
  refine hK.out _ _ (by exact HS.out _ HF7.out) (fun hHeld2 => ?_)
  clear hK K hHeld
  have hHeld := hHeld2
  clear hHeld2
  try simp only [Act.put, List.setIfInBounds_toArray, List.set_cons_zero, List.set_cons_succ]
  refine wpAnyH_take (i := 8) (oi := ⟨some 11, _, _, _, _, _⟩) (v := ?_) rfl (by kernel_rfl) (by kernel_rfl) (by kernel_rfl) (fun _ _ _ h => h) (Or.inl ⟨by kernel_rfl, ?_⟩) (by assumption) ?_
  rotate_left
  · intro W hSw
    try dsimp only at hSw
    go_simp
    all_goals (with_reducible rfl)
  try simp only [Act.put, List.setIfInBounds_toArray, List.set_cons_zero, List.set_cons_succ]
  refine wpAnyH_take (i := 9) (oi := ⟨some 2, _, _, _, _, _⟩) (v := ?_) rfl (by kernel_rfl) (by kernel_rfl) (by kernel_rfl) (fun _ _ _ h => h) (Or.inl ⟨by kernel_rfl, ?_⟩) (by assumption) ?_
  rotate_left
  · intro W hSw
    try dsimp only at hSw
    go_simp
    all_goals (with_reducible rfl)
  try simp only [Act.put, List.setIfInBounds_toArray, List.set_cons_zero, List.set_cons_succ]
  refine wpAnyH_done (by kernel_rfl) ?_ _
  go_wp2
  go_ret
  exact ⟨by rw [cat3, HK.out]; rfl, HF7.out.below⟩

end Go.Proofs.YtmbcbfalgdgmjaaGreatDoor

namespace Go.Proofs.YtmbcbfalgdgmjaaGreatDoor
open Go.RowKit

theorem Whole.range {w : World} {g : Nat} {t : TypeId} {L : List Value} (h : Whole w g t L) {o : Nat} {cs : List Value} (hc : ∀ j v, cs[j]? = some v → L[o + j]? = some v) : w.rangeAt g o cs := fun j v hv => by
  rw [h.cell]; exact hc j v hv
theorem Whole.there {w : World} {g : Nat} {t : TypeId} {L : List Value} (h : Whole w g t L) {o n : Nat} (hn : o + n ≤ L.length) : w.there g o n := fun j hj => by
  refine ⟨?_, h.frozen _⟩
  rw [h.cell, List.getElem?_eq_getElem (by omega)]
  rfl
theorem splice_nil {α : Type} (L : List α) (o : Nat) : splice L o [] = L := by simp [splice]
theorem splice_cons {L : List Value} {o : Nat} {v : Value} {r : List Value} (h : o < L.length) : splice (L.set o v) (o + 1) r = splice L o (v :: r) := by
  unfold splice
  rw [List.take_succ_eq_append_getElem (by simpa using h)]
  simp only [List.getElem_set_self, List.take_set_of_le (Nat.le_refl o), List.length_cons]
  rw [List.drop_set_of_lt (by omega), show o + 1 + r.length = o + (r.length + 1) by omega]
  simp
theorem Whole.setCells {g : Nat} {t : TypeId} : ∀ (vs : List Value) (o : Nat) {w : World} {L : List Value}, Whole w g t L → o + vs.length ≤ L.length → Whole (w.setCells g o vs) g t (splice L o vs)
  | [], o, w, L, h, _ => by rw [splice_nil]; exact h
  | v :: r, o, w, L, h, hl => by
    simp only [List.length_cons] at hl
    have h1 := Whole.setCells r (o + 1) (h.set_ o v) (by simp; omega)
    rw [splice_cons (by omega)] at h1
    exact h1
theorem grew_setCells {F : Nat → Prop} {g : Nat} {w0 : World} : ∀ (vs : List Value) (o : Nat) {w : World}, Grew F w0 w → (F g ∨ w0.heap.size ≤ g) → Grew F w0 (w.setCells g o vs)
  | [], _, _, h, _ => h
  | v :: r, o, _, h, hg => grew_setCells r (o + 1) (h.setCell (a := ⟨g, o, none⟩) hg v) hg
theorem size_setCells {g : Nat} : ∀ (vs : List Value) (o : Nat) (w : World), (w.setCells g o vs).heap.size = w.heap.size
  | [], _, _ => rfl
  | v :: r, o, w => by rw [World.setCells, size_setCells r (o + 1)]; simp
/-- Many cells are stored in a block that is known whole. -/
theorem wpList_store_at {P : Program} {w : World} {ops : Array Oper} {rest : List Oper} {op : Oper} {a : Act} {Q : Exit → Act → World → Prop} (hgd : op.guard = none) (ty : TypeId) (x y : Operand) (ho : op.op = .store ty x y)
    (b o : Nat) (cells : List Value) (hx : a.eval x = .pointer (some ⟨b, o, none⟩)) (hy : a.eval y = .agg cells.toArray) (t : TypeId) (L : List Value) (hw : Whole w b t L) (hfit : o + cells.length ≤ L.length)
    (hi : (P.info? ty).map (·.size) = some cells.length) (h1 : ∀ v ∈ cells, v.oneCell' = true)
    (h : ∀ V, Whole V b t (splice L o cells) → Grew (fun j => j = b) w V → V.heap.size = w.heap.size → wpList P ops Q rest (a.put op.dst undef) V) : wpList P ops Q (op :: rest) a w :=
  wpList_store_mid hgd ty x y ho b o cells.toArray hx hy (by simpa using hw.there hfit) (by simpa using hi) (all_oneCell_toArray h1)
    (h _ (hw.setCells cells o hfit) (grew_setCells cells o (Grew.refl _ _) (.inl rfl)) (size_setCells _ _ _))
theorem wpList_load_at {P : Program} {w : World} {ops : Array Oper} {rest : List Oper} {op : Oper} {a : Act} {Q : Exit → Act → World → Prop} (hgd : op.guard = none) (ty : TypeId) (x : Operand) (ho : op.op = .load ty x)
    (b o : Nat) (hx : a.eval x = .pointer (some ⟨b, o, none⟩)) (cs : List Value) (d : TypeDesc) (hu : P.underlying ty = some d) (hd : d.isRow = true) (hi : (P.info? ty).map (·.size) = some cs.length)
    (t : TypeId) (L : List Value) (hw : Whole w b t L) (hc : ∀ j v, cs[j]? = some v → L[o + j]? = some v)
    (h : wpList P ops Q rest (a.put op.dst (.agg cs.toArray)) w) : wpList P ops Q (op :: rest) a w :=
  wpList_load_mid hgd ty x ho b o hx cs d (hw.range hc) hu hd hi h

/-- A store into a row of the call's own, whatever its elements' size. -/
theorem own_storeG {w : World} {base g : Nat} {e : TypeId} {size n c : Nat} {xs : List Value} (h : w.ownsRow base e size (.slice (some ⟨g, 0, none⟩) n c) n xs) (k : Nat) (u : Value) :
    (w.setCell ⟨g, k, none⟩ u).ownsRow base e size (.slice (some ⟨g, 0, none⟩) n c) n (xs.set k u) := by
  obtain ⟨h1, h2⟩ := h
  refine ⟨by simpa using h1, ?_⟩
  rcases h2 with ⟨hv, _⟩ | ⟨g', cap, cur, hv, hg, hh, h3, h4, h5, h6⟩
  · cases hv
  · injection hv with hv _ hc
    injection hv with hv
    injection hv with hv
    subst hv
    subst hc
    refine .inr ⟨g, c, cur.setIfInBounds k u, rfl, hg, ?_, h3, h4, by simpa using h5, ?_⟩
    · simp [World.setCell, Array.getElem?_modify, hh]
    · rw [← h6]
      simp [List.take_set]
theorem own_setCells {base g : Nat} {e : TypeId} {size n c : Nat} : ∀ (vs : List Value) (o : Nat) {w : World} {xs : List Value}, w.ownsRow base e size (.slice (some ⟨g, 0, none⟩) n c) n xs → o + vs.length ≤ xs.length →
    (w.setCells g o vs).ownsRow base e size (.slice (some ⟨g, 0, none⟩) n c) n (splice xs o vs)
  | [], o, w, L, h, _ => by rw [splice_nil]; exact h
  | v :: r, o, w, L, h, hl => by
    simp only [List.length_cons] at hl
    have h1 := own_setCells r (o + 1) (own_storeG h o v) (by simp; omega)
    rw [splice_cons (by omega)] at h1
    exact h1
theorem own_range {w : World} {base g : Nat} {e : TypeId} {size n c : Nat} {xs : List Value} (h : w.ownsRow base e size (.slice (some ⟨g, 0, none⟩) n c) n xs) {o : Nat} {cs : List Value} (hc : ∀ j v, cs[j]? = some v → xs[o + j]? = some v) : w.rangeAt g o cs := fun j v hv => by
  obtain ⟨h1, h3⟩ := List.getElem?_eq_some_iff.1 (hc j v hv)
  rw [own_cell h h1, h3]
theorem own_there {w : World} {base g : Nat} {e : TypeId} {size n c : Nat} {xs : List Value} (h : w.ownsRow base e size (.slice (some ⟨g, 0, none⟩) n c) n xs) {o k : Nat} (hn : o + k ≤ xs.length) : w.there g o k := fun j hj => by
  refine ⟨?_, own_frozen h _⟩
  rw [own_cell h (by omega)]
  rfl
/-- Many cells are stored in a row of the call's own. -/
theorem wpList_store_own {P : Program} {w : World} {ops : Array Oper} {rest : List Oper} {op : Oper} {a : Act} {Q : Exit → Act → World → Prop} (hgd : op.guard = none) (ty : TypeId) (x y : Operand) (ho : op.op = .store ty x y)
    (b o : Nat) (cells : List Value) (hx : a.eval x = .pointer (some ⟨b, o, none⟩)) (hy : a.eval y = .agg cells.toArray) (base : Nat) (e : TypeId) (size n c : Nat) (L : List Value) (hw : w.ownsRow base e size (.slice (some ⟨b, 0, none⟩) n c) n L) (hfit : o + cells.length ≤ L.length)
    (hi : (P.info? ty).map (·.size) = some cells.length) (h1 : ∀ v ∈ cells, v.oneCell' = true)
    (h : ∀ V, V.ownsRow base e size (.slice (some ⟨b, 0, none⟩) n c) n (splice L o cells) → Grew (fun j => j = b) w V → V.heap.size = w.heap.size → wpList P ops Q rest (a.put op.dst undef) V) : wpList P ops Q (op :: rest) a w :=
  wpList_store_mid hgd ty x y ho b o cells.toArray hx hy (by simpa using own_there hw hfit) (by simpa using hi) (all_oneCell_toArray h1)
    (h _ (own_setCells cells o hw hfit) (grew_setCells cells o (Grew.refl _ _) (.inl rfl)) (size_setCells _ _ _))
theorem wpList_load_own {P : Program} {w : World} {ops : Array Oper} {rest : List Oper} {op : Oper} {a : Act} {Q : Exit → Act → World → Prop} (hgd : op.guard = none) (ty : TypeId) (x : Operand) (ho : op.op = .load ty x)
    (b o : Nat) (hx : a.eval x = .pointer (some ⟨b, o, none⟩)) (cs : List Value) (d : TypeDesc) (hu : P.underlying ty = some d) (hd : d.isRow = true) (hi : (P.info? ty).map (·.size) = some cs.length)
    (base : Nat) (e : TypeId) (size n c : Nat) (L : List Value) (hw : w.ownsRow base e size (.slice (some ⟨b, 0, none⟩) n c) n L) (hc : ∀ j v, cs[j]? = some v → L[o + j]? = some v)
    (h : wpList P ops Q rest (a.put op.dst (.agg cs.toArray)) w) : wpList P ops Q (op :: rest) a w :=
  wpList_load_mid hgd ty x ho b o hx cs d (own_range hw hc) hu hd hi h
/-- Rows of different elements are different blocks. -/
theorem own_not_own {w : World} {base base' : Nat} {e e' : TypeId} {size size' n n' g : Nat} {v v' : Value} {xs xs' : List Value} (h : w.ownsRow base e size v n xs) (h' : w.ownsRow base' e' size' v' n' xs') (ht : e ≠ e') (hg : v'.ownBlock = some g) : v.ownBlock ≠ some g := by
  intro hv
  rcases h'.2 with ⟨rfl, _⟩ | ⟨g', cap, cur, rfl, _, hh, _⟩
  · cases hg
  · simp [Value.ownBlock] at hg
    subst hg
    rcases h.2 with ⟨rfl, _⟩ | ⟨g', cap, cur, rfl, _, hh', _⟩
    · cases hv
    · simp [Value.ownBlock] at hv
      subst hv
      rw [hh] at hh'
      simp at hh'
      exact ht hh'.2.symm

end Go.Proofs.YtmbcbfalgdgmjaaGreatDoor

namespace Go.Proofs.YtmbcbfalgdgmjaaGreatDoor
open Go.RowKit

theorem wp_store_one {P : Program} {w : World} {op : Oper} {a : Act} {K : Act → World → Prop} {Q : Exit → Act → World → Prop} (ty : TypeId) (x y : Operand) (ho : op.op = .store ty x y)
    (b o : Nat) (v : Value) (hx : a.eval x = .pointer (some ⟨b, o, none⟩)) (hy : a.eval y = v) (hv : v.oneCell' = true) (hi : (P.info? ty).map (·.size) = some 1) (t : TypeId) (L : List Value) (hw : Whole w b t L) (u : Value) (hL : L[o]? = some u)
    (h : ∀ V, Whole V b t (L.set o v) → Grew (fun j => j = b) w V → V.heap.size = w.heap.size → K (a.put op.dst undef) V) : Oper.wp P op a w K Q := by
  have hc : w.cell? ⟨b, o, none⟩ = some u := by rw [hw.cell]; exact hL
  have hf : w.frozen? ⟨b, o, none⟩ = false := hw.frozen o
  obtain ⟨i, hi1, hi2⟩ := Option.map_eq_some_iff.1 hi
  have hvc : v.cells = #[v] := by
    cases v <;> first | rfl | (simp [Value.oneCell'] at hv)
  have hst : (storeVar ty ⟨b, o, none⟩ v).run P w = .ok () (w.setCell ⟨b, o, none⟩ v) := by
    have h1 := run_storeCells_cells (P := P) b o [v] 0 w (fun j hj => by
      have : j = 0 := by simpa using hj
      subst this
      rw [show (⟨b, o + (0 + 0), none⟩ : Addr) = ⟨b, o, none⟩ from rfl, hc]; rfl) (fun j hj => by
      have : j = 0 := by simpa using hj
      subst this
      exact hf) (fun x hx => by rw [List.mem_singleton.1 hx]; exact hv)
    simp only [Nat.add_zero] at h1
    simp [storeVar, sizeOf, typeInfo, hi1, hi2, hvc, h1, World.setCells]
  unfold Oper.wp execOp
  simp only [ho, hx, hy, Instr.storeAt, Instr.sureAddr, Sem.run_bind, Sem.run_pure, Result.andThen_ok, hst]
  exact h _ (hw.set_ o v) (Grew.setCell (F := fun j => j = b) (Grew.refl _ w) (a := ⟨b, o, none⟩) (.inl rfl) v) (by simp)

theorem wpList_store_one {P : Program} {w : World} {ops : Array Oper} {rest : List Oper} {op : Oper} {a : Act} {Q : Exit → Act → World → Prop} (hgd : op.guard = none) (ty : TypeId) (x y : Operand) (ho : op.op = .store ty x y)
    (b o : Nat) (v : Value) (hx : a.eval x = .pointer (some ⟨b, o, none⟩)) (hy : a.eval y = v) (hv : v.oneCell' = true) (hi : (P.info? ty).map (·.size) = some 1) (t : TypeId) (L : List Value) (hw : Whole w b t L) (u : Value) (hL : L[o]? = some u)
    (h : ∀ V, Whole V b t (L.set o v) → Grew (fun j => j = b) w V → V.heap.size = w.heap.size → wpList P ops Q rest (a.put op.dst undef) V) : wpList P ops Q (op :: rest) a w :=
  wpList_plain hgd fun _ hK => wp_store_one ty x y ho b o v hx hy hv hi t L hw u hL fun V h1 h2 h3 => hK _ _ (h V h1 h2 h3)

end Go.Proofs.YtmbcbfalgdgmjaaGreatDoor
