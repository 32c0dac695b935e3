/-
  Bytes that begin with others that are a message are no message.
-/
import Derived.Test.YtjkjhpaeckkpjaaGreatWbP7
import Derived.Test.YtjkjhpaeckkpjaaGreatWbP9
import Derived.Deep.RegionHeld3
import Derived.Test.YtjkjhpaeckkpjaaGreatWbP1
import Derived.Laws.Externs
import Derived.StillTailTactics
import Derived.IntWalk
import Derived.Test.YtjkjhpaeckkpjaaGreatWbP6
import Derived.BigQuiet
import Derived.Test.YtjkjhpaeckkpjaaGreatWbP8
namespace Go.Proofs.YtjkjhpaeckkpjaaGreat
open Go.RowKit

theorem getR_grow (Y b : List UInt8) (p q x : Nat) (n : List (List UInt8)) : ∀ {m : List (List UInt8)} {e : Nat}, getR b p q x n = (m, e, 0) → getR (b ++ Y) p q x n = (m, e, 0) := by
  induction p, q, x, n using getR.induct (b := b) with
  | case1 p q x n h0 h1 =>
    intro m e h
    rw [getR, dif_pos h0, if_pos h1] at h
    rw [getR, dif_pos (by simp; omega), if_pos (by rw [List.getElem_append_left h0]; exact h1)]
    exact h
  | case2 p q x n h0 h1 h2 h3 h4 ih =>
    intro m e h
    rw [getR, dif_pos h0, if_neg h1, if_pos h2, dif_pos h3, if_pos h4] at h
    have g := ih h
    rw [getR, dif_pos (by simp; omega)]
    simp only [List.getElem_append_left h0]
    rw [if_neg h1, if_pos h2, dif_pos (by simp; omega)]
    simp only [List.getElem_append_left h3]
    rw [if_pos h4]
    exact g
  | case3 p q x n h0 h1 h2 h3 h4 =>
    intro m e h
    rw [getR, dif_pos h0, if_neg h1, if_pos h2, dif_pos h3, if_neg h4] at h
    simp at h
  | case4 p q x n h0 h1 h2 h3 =>
    intro m e h
    rw [getR, dif_pos h0, if_neg h1, if_pos h2, dif_neg h3] at h
    simp at h
  | case5 p q x n h0 h1 h2 h3 =>
    intro m e h
    rw [getR, dif_pos h0, if_neg h1, if_neg h2, if_pos h3] at h
    simp at h
  | case6 p q x n h0 h1 h2 h3 h4 h5 ih =>
    intro m e h
    rw [getR, dif_pos h0, if_neg h1, if_neg h2, if_neg h3, if_pos h4, if_pos h5] at h
    have g := ih h
    rw [getR, dif_pos (by simp; omega)]
    simp only [List.getElem_append_left h0]
    rw [if_neg h1, if_neg h2, if_neg h3, if_pos (by simp; omega), cutL_more h4, if_pos h5]
    exact g
  | case7 p q x n h0 h1 h2 h3 h4 h5 =>
    intro m e h
    rw [getR, dif_pos h0, if_neg h1, if_neg h2, if_neg h3, if_pos h4, if_neg h5] at h
    simp at h
  | case8 p q x n h0 h1 h2 h3 h4 =>
    intro m e h
    rw [getR, dif_pos h0, if_neg h1, if_neg h2, if_neg h3, if_neg h4] at h
    simp at h
  | case9 p q x n h0 =>
    intro m e h
    rw [getR, dif_neg h0] at h
    simp at h

theorem getW_grow (Y : List UInt8) {b : List UInt8} {a : Int} {m : List (List UInt8)} {e : Nat} (h : getW b a = (m, e, 0)) : getW (b ++ Y) a = (m, e, 0) := by
  unfold getW at h ⊢
  split at h
  · simp at h
  · rw [if_neg (by assumption)]
    exact getR_grow Y b _ _ _ _ h
theorem numAt_more {b Y : List UInt8} {p s : Nat} (h : p + s ≤ b.length) : numAt (b ++ Y) p s = numAt b p s := by
  unfold numAt
  rw [cutL_more h]
theorem numsL_more {b Y : List UInt8} {p s : Nat} : ∀ {k : Nat}, p + k * s ≤ b.length → numsL (b ++ Y) p s k = numsL b p s k
  | 0, _ => rfl
  | k + 1, h => by
    rw [Nat.succ_mul] at h
    unfold numsL
    rw [numsL_more (by omega), cutL_more (by omega)]
theorem numsR_more {b Y : List UInt8} {p en s k : Nat} (h : en ≤ b.length) : numsR (b ++ Y) p en s k = numsR b p en s k := by
  unfold numsR
  split
  · rw [numsL_more (by omega)]
  · rfl
theorem nameR_more (Y : List UInt8) {b : List UInt8} {p en : Nat} {r : List (List UInt8) × Nat} (h : nameR b p en = .ok r) : nameR (b ++ Y) p en = .ok r := by
  unfold nameR at h ⊢
  rcases hr : getR b p p 0 [] with ⟨n, e, k⟩
  rw [hr] at h
  unfold nameF at h
  dsimp only at h
  split at h
  · cases h
  · rename_i hk
    have hk0 : k = 0 := by omega
    subst hk0
    rw [getR_grow Y b p p 0 [] hr]
    unfold nameF
    exact h
theorem textsR_more {b Y : List UInt8} {en : Nat} (hen : en ≤ b.length) : ∀ (d p : Nat) (acc : List (List UInt8)), en - p ≤ d → textsR (b ++ Y) p en acc = textsR b p en acc
  | d, p, acc, hd => by
    by_cases hp : p < en
    · by_cases ha : acc.length = 64
      · rw [textsR_large (b := b ++ Y) hp ha, textsR_large (b := b) hp ha]
      · have e1 : cutL (b ++ Y) p 1 = cutL b p 1 := cutL_more (by omega)
        by_cases hs : en < p + 1 + numN (cutL b p 1)
        · rw [textsR_short (b := b ++ Y) hp ha (by rw [e1]; exact hs), textsR_short (b := b) hp ha hs]
        · rw [textsR_next (b := b ++ Y) hp ha (by rw [e1]; omega), textsR_next (b := b) hp ha (by omega), e1, cutL_more (by omega)]
          match d, hd with
          | 0, hd => omega
          | d + 1, hd => exact textsR_more hen d _ _ (by omega)
    · rw [textsR.eq_def, textsR.eq_def b, dif_neg hp, dif_neg hp]
theorem bytesR_more {b Y : List UInt8} {p en l m : Nat} (h : en ≤ b.length) : bytesR (b ++ Y) p en l m = bytesR b p en l m := by
  unfold bytesR
  split
  · rfl
  · rw [cutL_more (by omega)]
theorem bind_ok {α β : Type} {x : Except Nat α} {f : α → Except Nat β} {y : β} (h : (x >>= f) = .ok y) : ∃ a, x = .ok a ∧ f a = .ok y := by
  cases x with
  | error k => cases h
  | ok a => exact ⟨a, rfl, h⟩
theorem ok_bind {α β : Type} {x : Except Nat α} {f : α → Except Nat β} {a : α} (h : x = .ok a) : (x >>= f) = f a := by
  subst h
  rfl
theorem readD_more (Y : List UInt8) {b : List UInt8} {p en : Nat} {s : Sh} {d : Dt} (hen : en ≤ b.length) (h : readD b p en s = .ok d) : readD (b ++ Y) p en s = .ok d := by
  unfold readD at h ⊢
  obtain ⟨n1, e1, h⟩ := bind_ok h
  obtain ⟨h1, e2, h⟩ := bind_ok h
  obtain ⟨m1, e3, h⟩ := bind_ok h
  obtain ⟨n2, e4, h⟩ := bind_ok h
  obtain ⟨t1, e5, h⟩ := bind_ok h
  obtain ⟨y1, e6, h⟩ := bind_ok h
  have f2 : (if s.host = true then nameR (b ++ Y) n1.2 en else .ok ([], n1.2)) = .ok h1 := by
    split at e2
    · rw [if_pos (by assumption)]
      exact nameR_more Y e2
    · rw [if_neg (by assumption)]
      exact e2
  have f3 : (if s.mail = true then nameR (b ++ Y) h1.2 en else .ok ([], h1.2)) = .ok m1 := by
    split at e3
    · rw [if_pos (by assumption)]
      exact nameR_more Y e3
    · rw [if_neg (by assumption)]
      exact e3
  have f5 : (if s.texts = true then textsR (b ++ Y) n2.2 en [] else .ok ([], n2.2)) = .ok t1 := by
    split at e5
    · rw [if_pos (by assumption), textsR_more hen _ _ _ (Nat.le_refl _)]
      exact e5
    · rw [if_neg (by assumption)]
      exact e5
  rw [numsR_more hen, ok_bind e1, ok_bind f2, ok_bind f3, numsR_more hen, ok_bind e4, ok_bind f5, bytesR_more hen, ok_bind e6]
  exact h
theorem bind_err {α β : Type} {x : Except Nat α} {f : α → Except Nat β} {k : Nat} (h : (x >>= f) = .error k) : x = .error k ∨ ∃ a, x = .ok a ∧ f a = .error k := by
  cases x with
  | error j =>
    injection h with h
    exact .inl (by rw [h])
  | ok a => exact .inr ⟨a, rfl, h⟩
theorem numsR_err {b : List UInt8} {p en s k : Nat} : numsR b p en s k ≠ .error 0 := by
  unfold numsR
  split <;> simp
theorem nameR_err {b : List UInt8} {p en : Nat} : nameR b p en ≠ .error 0 := by
  unfold nameR nameF
  split
  · simp; assumption
  · split <;> simp
theorem textsR_err {b : List UInt8} {en : Nat} : ∀ (d p : Nat) (acc : List (List UInt8)), en - p ≤ d → textsR b p en acc ≠ .error 0
  | d, p, acc, hd => by
    by_cases hp : p < en
    · by_cases ha : acc.length = 64
      · rw [textsR_large hp ha]
        simp
      · by_cases hs : en < p + 1 + numN (cutL b p 1)
        · rw [textsR_short hp ha hs]
          simp
        · rw [textsR_next hp ha (by omega)]
          match d, hd with
          | 0, hd => omega
          | d + 1, hd => exact textsR_err d _ _ (by omega)
    · rw [textsR, dif_neg hp]
      split <;> simp
theorem bytesR_err {b : List UInt8} {p en l m : Nat} : bytesR b p en l m ≠ .error 0 := by
  unfold bytesR
  split <;> simp
theorem readD_err (b : List UInt8) (p en : Nat) (s : Sh) : readD b p en s ≠ .error 0 := by
  intro h
  unfold readD at h
  rcases bind_err h with h | ⟨_, _, h⟩
  · exact numsR_err h
  rcases bind_err h with h | ⟨_, _, h⟩
  · split at h
    · exact nameR_err h
    · cases h
  rcases bind_err h with h | ⟨_, _, h⟩
  · split at h
    · exact nameR_err h
    · cases h
  rcases bind_err h with h | ⟨_, _, h⟩
  · exact numsR_err h
  rcases bind_err h with h | ⟨_, _, h⟩
  · split at h
    · exact textsR_err _ _ _ (Nat.le_refl _) h
    · cases h
  rcases bind_err h with h | ⟨_, _, h⟩
  · exact bytesR_err h
  · split at h <;> cases h
theorem getD_more (Y : List UInt8) {b : List UInt8} {a z k : Int} {d : Dt} (h : getD b a z k = (d, 0)) : getD (b ++ Y) a z k = (d, 0) := by
  unfold getD at h ⊢
  split at h
  · simp at h
  · rename_i h1
    split at h
    · simp at h
    · rename_i h2
      rw [if_neg h1, if_neg (by rw [List.length_append]; omega)]
      cases hr : readD b a.toNat (a + z).toNat (shN k) with
      | ok d' =>
        rw [hr] at h
        rw [readD_more Y (by omega) hr]
        exact h
      | error j =>
        rw [hr] at h
        dsimp only at h
        have hj : j = 0 := by injection h
        subst hj
        exact absurd hr (readD_err _ _ _ _)
theorem getQ_more (Y : List UInt8) {b : List UInt8} {p nx : Nat} {q : Qt} (h : getQ b p = (q, nx, 0)) : getQ (b ++ Y) p = (q, nx, 0) := by
  rcases hw : getW b (p : Int) with ⟨n, e, k⟩
  unfold getQ at h ⊢
  rw [hw] at h
  dsimp only at h
  by_cases hk : k = 0
  · subst hk
    rw [if_neg (by simp)] at h
    rw [getW_grow Y hw]
    dsimp only
    rw [if_neg (by simp)]
    split at h
    · simp at h
    · rename_i h2
      rw [if_neg (by rw [List.length_append]; omega), numAt_more (by omega), numAt_more (by omega)]
      exact h
  · rw [if_pos hk] at h
    simp at h
    exact absurd h.2.2 hk
theorem getRR_more (Y : List UInt8) {b : List UInt8} {p : Int} {nx : Nat} {r : Rt} (h : getRR b p = (r, nx, 0)) : getRR (b ++ Y) p = (r, nx, 0) := by
  rcases hw : getW b p with ⟨n, e, k⟩
  unfold getRR at h ⊢
  rw [hw] at h
  dsimp only at h
  by_cases hk : k = 0
  · subst hk
    rw [if_neg (by simp)] at h
    rw [getW_grow Y hw]
    dsimp only
    rw [if_neg (by simp)]
    split at h
    · simp at h
    · rename_i h2
      rw [if_neg (by rw [List.length_append]; omega), numAt_more (by omega), numAt_more (by omega), numAt_more (by omega)]
      have e4 : ttlAt (b ++ Y) (e + 4) = ttlAt b (e + 4) := by unfold ttlAt; rw [numAt_more (by omega)]
      rw [e4]
      split at h
      · simp at h
      · rw [if_neg (by assumption)]
        rcases hd : getD b ((e : Int) + 10) (numAt b (e + 8) 2) (numAt b e 2) with ⟨d, z⟩
        rw [hd] at h
        dsimp only at h
        by_cases hz : z = 0
        · subst hz
          rw [if_neg (by simp)] at h
          rw [getD_more Y hd]
          dsimp only
          rw [if_neg (by simp)]
          exact h
        · rw [if_pos hz] at h
          simp at h
          exact absurd h.2.2 hz
  · rw [if_pos hk] at h
    simp at h
    exact absurd h.2.2 hk
theorem getQs_grow (Y : List UInt8) {b : List UInt8} : ∀ (k p : Nat) (l : List Qt) {r : List Qt × Nat}, getQs b k p l = .ok r → getQs (b ++ Y) k p l = .ok r
  | 0, p, l, r, h => h
  | k + 1, p, l, r, h => by
    unfold getQs at h ⊢
    rcases hq : getQ b p with ⟨q, nx, e⟩
    rw [hq] at h
    dsimp only at h
    split at h
    · cases h
    · rename_i he
      have he0 : e = 0 := by omega
      subst he0
      rw [getQ_more Y hq]
      dsimp only
      rw [if_neg (by simp)]
      exact getQs_grow Y k _ _ h
theorem getRs_grow (Y : List UInt8) {b : List UInt8} (last : Bool) : ∀ (k : Nat) (s : Rd) {r : Rd}, getRs b last k s = .ok r → getRs (b ++ Y) last k s = .ok r
  | 0, s, r, h => h
  | k + 1, s, r, h => by
    unfold getRs at h ⊢
    obtain ⟨t, ht, h⟩ := bind_ok h
    have ht2 : stepR (b ++ Y) last s = .ok t := by
      unfold stepR at ht ⊢
      rcases hq : getRR b (s.p : Int) with ⟨q, nx, e⟩
      rw [hq] at ht
      dsimp only at ht
      split at ht
      · cases ht
      · rename_i he
        have he0 : e = 0 := by omega
        subst he0
        rw [getRR_more Y hq]
        dsimp only
        rw [if_neg (by simp)]
        exact ht
    rw [ok_bind ht2]
    exact getRs_grow Y last k _ h
theorem getQ_end {b : List UInt8} {p : Nat} (_ : (getQ b p).2.2 = 0) : (getQ b p).2.1 ≤ b.length := by
  unfold getQ
  split
  · exact Nat.zero_le _
  split
  · exact Nat.zero_le _
  split
  · exact Nat.zero_le _
  · dsimp only
    omega
theorem getRR_end {b : List UInt8} {p : Int} (_ : (getRR b p).2.2 = 0) : (getRR b p).2.1 ≤ b.length := by
  unfold getRR
  split
  · exact Nat.zero_le _
  rename_i h0
  split
  · exact Nat.zero_le _
  rename_i h1
  split
  · exact Nat.zero_le _
  rename_i h2
  split
  · exact Nat.zero_le _
  rename_i h3
  dsimp only
  have h4 : (getD b (((getW b p).2.1 : Int) + 10) (numAt b ((getW b p).2.1 + 8) 2) (numAt b (getW b p).2.1 2)).2 = 0 := by omega
  unfold getD at h4
  split at h4
  · simp at h4
  split at h4
  · simp at h4
  omega
theorem getQs_end {b : List UInt8} : ∀ (k p : Nat) (l : List Qt) {r : List Qt × Nat}, p ≤ b.length → getQs b k p l = .ok r → r.2 ≤ b.length
  | 0, p, l, r, hp, h => by
    unfold getQs at h
    injection h with h
    subst h
    exact hp
  | k + 1, p, l, r, hp, h => by
    unfold getQs at h
    split at h
    · cases h
    · exact getQs_end k _ _ (getQ_end (by omega)) h
theorem getRs_end {b : List UInt8} {last : Bool} : ∀ (k : Nat) (s : Rd) {r : Rd}, s.p ≤ b.length → getRs b last k s = .ok r → r.p ≤ b.length
  | 0, s, r, hp, h => by
    unfold getRs at h
    injection h with h
    subst h
    exact hp
  | k + 1, s, r, hp, h => by
    unfold getRs at h
    obtain ⟨t, ht, h⟩ := bind_ok h
    refine getRs_end k t ?_ h
    unfold stepR at ht
    split at ht
    · cases ht
    · have h1 := getRR_end (b := b) (p := (s.p : Int)) (by omega)
      unfold addR at ht
      split at ht
      · split at ht
        · cases ht
        · injection ht with ht
          subst ht
          exact h1
      · injection ht with ht
        subst ht
        exact h1
/-- What is read stays read, but for the bytes behind. -/
theorem decM_grow {b Y : List UInt8} {m : Mt} (h : decM b = .ok m) (hl : (b ++ Y).length ≤ 65535) (hY : Y ≠ []) : decM (b ++ Y) = .error 7 := by
  unfold decM at h ⊢
  rw [List.length_append] at hl
  split at h
  · cases h
  split at h
  · cases h
  rename_i h1 h2
  have hy : 0 < Y.length := List.length_pos_iff.2 hY
  rw [if_neg (by rw [List.length_append]; omega), if_neg (by rw [List.length_append]; omega), numAt_more (by omega), numAt_more (by omega), numAt_more (by omega), numAt_more (by omega), numAt_more (by omega), numAt_more (by omega)]
  split at h
  · cases h
  rename_i h3
  rw [if_neg h3]
  obtain ⟨q, e1, h⟩ := bind_ok h
  obtain ⟨x, e2, h⟩ := bind_ok h
  obtain ⟨y, e3, h⟩ := bind_ok h
  obtain ⟨z, e4, h⟩ := bind_ok h
  rw [ok_bind (getQs_grow Y _ _ _ e1), ok_bind (getRs_grow Y _ _ _ e2), ok_bind (getRs_grow Y _ _ _ e3), ok_bind (getRs_grow Y _ _ _ e4)]
  split at h
  · cases h
  · rename_i h4
    have hz : z.p ≤ b.length := by
      have g1 := getQs_end _ _ _ (by omega) e1
      have g2 := getRs_end _ ⟨[], q.2, false, 0⟩ g1 e2
      have g3 := getRs_end _ ⟨[], x.p, x.e, x.s⟩ g2 e3
      exact getRs_end _ ⟨[], y.p, y.e, y.s⟩ g3 e4
    rw [if_pos (by rw [List.length_append]; omega)]
/-- A message without its end is none. -/
theorem dec_cut {m : Mt} (hs : SoundM m) (hl : (encM m).length ≤ 65535) {k : Nat} (hk : k < (encM m).length) : ∃ e, decM ((encM m).take k) = .error e := by
  cases h : decM ((encM m).take k) with
  | error e => exact ⟨e, rfl⟩
  | ok x =>
    have h1 := decM_grow (Y := (encM m).drop k) h (by rw [List.take_append_drop]; exact hl) (by simp; omega)
    rw [List.take_append_drop] at h1
    have h2 := dec_enc hs [] (by simpa using hl)
    simp only [List.append_nil, if_true] at h2
    rw [h1] at h2
    cases h2

/-- No message is refused without an error. -/
theorem getQs_err {b : List UInt8} : ∀ (k p : Nat) (l : List Qt), getQs b k p l ≠ .error 0
  | 0, p, l => by simp [getQs]
  | k + 1, p, l => by
    unfold getQs
    split
    · simp; assumption
    · exact getQs_err k _ _
theorem getRs_err {b : List UInt8} {last : Bool} : ∀ (k : Nat) (s : Rd), getRs b last k s ≠ .error 0
  | 0, s => by simp [getRs]
  | k + 1, s => by
    unfold getRs
    intro h
    rcases bind_err h with h | ⟨t, _, h⟩
    · unfold stepR at h
      split at h
      · injection h with h
        omega
      · unfold addR at h
        split at h
        · split at h <;> cases h
        · cases h
    · exact getRs_err k t h
theorem decM_err {b : List UInt8} : decM b ≠ .error 0 := by
  intro h
  unfold decM at h
  split at h
  · cases h
  split at h
  · cases h
  split at h
  · cases h
  rcases bind_err h with h | ⟨_, _, h⟩
  · exact getQs_err _ _ _ h
  rcases bind_err h with h | ⟨_, _, h⟩
  · exact getRs_err _ _ h
  rcases bind_err h with h | ⟨_, _, h⟩
  · exact getRs_err _ _ h
  rcases bind_err h with h | ⟨_, _, h⟩
  · exact getRs_err _ _ h
  · split at h <;> cases h

end Go.Proofs.YtjkjhpaeckkpjaaGreat

namespace Go.Proofs.YtjkjhpaeckkpjaaGreat
open Go.RowKit

theorem getR_sound (b : List UInt8) (p q x : Nat) (n : List (List UInt8)) : ∀ {m : List (List UInt8)} {e : Nat}, getR b p q x n = (m, e, 0) → n.all fitL = true → szN n ≤ 255 → soundN m = true := by
  induction p, q, x, n using getR.induct (b := b) with
  | case1 p q x n h0 h1 =>
    intro m e h ha hz
    rw [getR, dif_pos h0, if_pos h1] at h
    injection h with h2 _
    subst h2
    simp [soundN, ha, hz]
  | case2 p q x n h0 h1 h2 h3 h4 ih =>
    intro m e h ha hz
    rw [getR, dif_pos h0, if_neg h1, if_pos h2, dif_pos h3, if_pos h4] at h
    exact ih h ha hz
  | case3 p q x n h0 h1 h2 h3 h4 =>
    intro m e h ha hz
    rw [getR, dif_pos h0, if_neg h1, if_pos h2, dif_pos h3, if_neg h4] at h
    simp at h
  | case4 p q x n h0 h1 h2 h3 =>
    intro m e h ha hz
    rw [getR, dif_pos h0, if_neg h1, if_pos h2, dif_neg h3] at h
    simp at h
  | case5 p q x n h0 h1 h2 h3 =>
    intro m e h ha hz
    rw [getR, dif_pos h0, if_neg h1, if_neg h2, if_pos h3] at h
    simp at h
  | case6 p q x n h0 h1 h2 h3 h4 h5 ih =>
    intro m e h ha hz
    rw [getR, dif_pos h0, if_neg h1, if_neg h2, if_neg h3, if_pos h4, if_pos h5] at h
    refine ih h ?_ h5
    rw [List.all_append, ha]
    have h6 := length_cutL h4
    simp [fitL, h6]
    omega
  | case7 p q x n h0 h1 h2 h3 h4 h5 =>
    intro m e h ha hz
    rw [getR, dif_pos h0, if_neg h1, if_neg h2, if_neg h3, if_pos h4, if_neg h5] at h
    simp at h
  | case8 p q x n h0 h1 h2 h3 h4 =>
    intro m e h ha hz
    rw [getR, dif_pos h0, if_neg h1, if_neg h2, if_neg h3, if_neg h4] at h
    simp at h
  | case9 p q x n h0 =>
    intro m e h ha hz
    rw [getR, dif_neg h0] at h
    simp at h
theorem getW_sound {b : List UInt8} {a : Int} (h : (getW b a).2.2 = 0) : soundN (getW b a).1 = true := by
  unfold getW at h ⊢
  split at h
  · simp at h
  · rename_i h0
    rw [if_neg h0]
    rcases hr : getR b a.toNat a.toNat 0 [] with ⟨m, e, k⟩
    rw [hr] at h
    dsimp only at h
    subst h
    exact getR_sound b _ _ _ _ hr rfl (by decide)
theorem nameR_sound {b : List UInt8} {p en : Nat} {r : List (List UInt8) × Nat} (h : nameR b p en = .ok r) : soundN r.1 = true := by
  unfold nameR at h
  rcases hr : getR b p p 0 [] with ⟨n, e, k⟩
  rw [hr] at h
  unfold nameF at h
  dsimp only at h
  split at h
  · cases h
  · rename_i hk
    have hk0 : k = 0 := by omega
    subst hk0
    split at h
    · cases h
    · injection h with h
      subst h
      exact getR_sound b _ _ _ _ hr rfl (by decide)
theorem num_fit {b : List UInt8} {p s : Nat} (h1 : 1 ≤ s) (h2 : s ≤ 7) : fitB ((numN (cutL b p s) : Nat) : Int) (s : Int) = true := by
  have h := numAt_lt b p s
  unfold numAt at h
  refine fitB_true (by omega) (by omega) (by omega) ?_
  have e : (2 : Int) ^ (8 * (s : Int).toNat) = ((2 ^ (8 * s) : Nat) : Int) := by
    rw [Int.toNat_natCast]
    push_cast
    rfl
  rw [e]
  exact Int.ofNat_lt.2 h
theorem numsL_sound {b : List UInt8} {p s : Nat} (h1 : 1 ≤ s) (h2 : s ≤ 7) : ∀ k, ∀ n ∈ numsL b p s k, fitB n (s : Int) = true
  | 0, n, h => absurd h (List.not_mem_nil)
  | k + 1, n, h => by
    unfold numsL at h
    rcases List.mem_append.1 h with h | h
    · exact numsL_sound h1 h2 k n h
    · rw [List.mem_singleton.1 h]
      exact num_fit h1 h2
theorem numsR_sound {b : List UInt8} {p en s k : Nat} {r : List Int × Nat} (h1 : 1 ≤ s) (h2 : s ≤ 7) (h : numsR b p en s k = .ok r) : r.1.length = k ∧ (∀ n ∈ r.1, fitB n (s : Int) = true) ∧ r.2 ≤ en := by
  unfold numsR at h
  split at h
  · injection h with h
    subst h
    exact ⟨length_numsL _ _ _ _, numsL_sound h1 h2 k, by assumption⟩
  · cases h
theorem textsR_sound {b : List UInt8} {en : Nat} : ∀ (d p : Nat) (acc : List (List UInt8)) {r : List (List UInt8) × Nat}, en - p ≤ d → textsR b p en acc = .ok r → acc.length ≤ 64 → (∀ t ∈ acc, t.length ≤ 255) → 1 ≤ r.1.length ∧ r.1.length ≤ 64 ∧ ∀ t ∈ r.1, t.length ≤ 255
  | d, p, acc, r, hd, h, hl, ht => by
    by_cases hp : p < en
    · by_cases ha : acc.length = 64
      · rw [textsR_large hp ha] at h
        cases h
      · by_cases hs : en < p + 1 + numN (cutL b p 1)
        · rw [textsR_short hp ha hs] at h
          cases h
        · rw [textsR_next hp ha (by omega)] at h
          match d, hd with
          | 0, hd => omega
          | d + 1, hd =>
            refine textsR_sound d _ _ (by omega) h (by simp; omega) fun t htt => ?_
            rcases List.mem_append.1 htt with h1 | h1
            · exact ht t h1
            · rw [List.mem_singleton.1 h1]
              have h2 := numN_one_lt b p
              have h3 : (cutL b (p + 1) (numN (cutL b p 1))).length ≤ numN (cutL b p 1) := by unfold cutL; simp; omega
              omega
    · rw [textsR, dif_neg hp] at h
      split at h
      · cases h
      · rename_i hne
        injection h with h
        subst h
        exact ⟨List.length_pos_iff.2 hne, hl, ht⟩
theorem bytesR_sound {b : List UInt8} {p en l m : Nat} {r : List UInt8 × Nat} (hlm : l ≤ m) (hen : en ≤ b.length) (h : bytesR b p en l m = .ok r) : l ≤ r.1.length ∧ r.1.length ≤ m := by
  unfold bytesR at h
  split at h
  · cases h
  · injection h with h
    subst h
    dsimp only
    rw [length_cutL (by omega)]
    omega
theorem shN_room (k : Int) : (shN k).least ≤ (shN k).most := by
  unfold shN
  repeat' split
  all_goals decide
theorem numsOk_of {ah : Nat} {l m : List Int} (hl : l.length = ah) (h1 : ∀ n ∈ l, fitB n 2 = true) (h2 : ∀ n ∈ m, fitB n 4 = true) : numsOk ah (l ++ m) = true := by
  unfold numsOk
  rw [List.all_eq_true]
  intro j hj
  have hj := List.mem_range.1 hj
  rw [List.length_append] at hj
  unfold sizeAt
  by_cases hja : j < ah
  · rw [if_pos hja, List.getD_eq_getElem?_getD, List.getElem?_append_left (by omega), List.getElem?_eq_getElem (by omega)]
    exact h1 _ (List.getElem_mem _)
  · rw [if_neg hja, List.getD_eq_getElem?_getD, List.getElem?_append_right (by omega), List.getElem?_eq_getElem (by omega)]
    exact h2 _ (List.getElem_mem _)
theorem readD_sound {b : List UInt8} {p en : Nat} {k : Int} {d : Dt} (hk : kindB k = true) (hen : en ≤ b.length) (h : readD b p en (shN k) = .ok d) : soundD k d = true := by
  unfold readD at h
  obtain ⟨n1, e1, h⟩ := bind_ok h
  obtain ⟨h1, e2, h⟩ := bind_ok h
  obtain ⟨m1, e3, h⟩ := bind_ok h
  obtain ⟨n2, e4, h⟩ := bind_ok h
  obtain ⟨t1, e5, h⟩ := bind_ok h
  obtain ⟨y1, e6, h⟩ := bind_ok h
  split at h
  · cases h
  injection h with h
  subst h
  obtain ⟨a1, a2, _⟩ := numsR_sound (by omega) (by omega) e1
  obtain ⟨b1, b2, _⟩ := numsR_sound (by omega) (by omega) e4
  obtain ⟨c1, c2⟩ := bytesR_sound (shN_room k) hen e6
  have g2 : soundNm h1.1 (shN k).host = true := by
    unfold soundNm
    split at e2
    · rename_i hh
      rw [hh, nameR_sound e2]
      simp
    · injection e2 with e2
      subst e2
      rfl
  have g3 : soundNm m1.1 (shN k).mail = true := by
    unfold soundNm
    split at e3
    · rename_i hh
      rw [hh, nameR_sound e3]
      simp
    · injection e3 with e3
      subst e3
      rfl
  have g5 : soundTs (shN k) t1.1 = true := by
    unfold soundTs
    split at e5
    · rename_i hh
      obtain ⟨d1, d2, d3⟩ := textsR_sound _ _ _ (Nat.le_refl _) e5 (by simp) (fun t ht => absurd ht (List.not_mem_nil))
      rw [if_pos hh]
      simp only [Bool.and_eq_true, List.all_eq_true, decide_eq_true_eq]
      exact ⟨d3, d1, d2⟩
    · rename_i hh
      injection e5 with e5
      subst e5
      rw [if_neg hh]
      rfl
  unfold soundD soundBs soundNs
  simp only [Bool.and_eq_true, decide_eq_true_eq]
  exact ⟨hk, ⟨c1, c2⟩, g2, g3, ⟨by rw [List.length_append]; omega, numsOk_of a1 a2 b2⟩, g5⟩
theorem kindB_num {b : List UInt8} {p : Nat} (h : numAt b p 2 ≠ 0) : kindB ((numAt b p 2 : Nat) : Int) = true := by
  have h1 := numAt_lt b p 2
  unfold kindB
  simp only [decide_eq_true_eq]
  have e : (2 : Nat) ^ (8 * 2) = 65536 := by decide
  omega
theorem ttlAt_le (b : List UInt8) (p : Nat) : ttlAt b p ≤ 2147483647 := by
  unfold ttlAt
  split <;> omega
theorem getRR_sound {b : List UInt8} {p : Int} (h : (getRR b p).2.2 = 0) : SoundR (getRR b p).1 := by
  unfold getRR at h ⊢
  split at h
  · rename_i h0
    exact absurd h h0
  rename_i h0
  rw [if_neg h0]
  split at h
  · simp at h
  rename_i h1
  rw [if_neg h1]
  split at h
  · simp at h
  rename_i h2
  rw [if_neg h2]
  split at h
  · rename_i h3
    exact absurd h h3
  rename_i h3
  rw [if_neg h3]
  have hk := kindB_num h2
  refine ⟨getW_sound (by omega), ?_, num_fit (by omega) (by omega), by dsimp only; omega, by have := ttlAt_le b ((getW b p).2.1 + 4); dsimp only; omega⟩
  dsimp only
  have h4 : (getD b (((getW b p).2.1 : Int) + 10) (numAt b ((getW b p).2.1 + 8) 2) (numAt b (getW b p).2.1 2)).2 = 0 := by omega
  generalize ((getW b p).2.1 : Int) + 10 = a at *
  generalize ((numAt b ((getW b p).2.1 + 8) 2 : Nat) : Int) = z at *
  unfold getD at h4 ⊢
  split at h4
  · simp at h4
  rename_i h5
  rw [if_neg h5]
  split at h4
  · simp at h4
  rename_i h6
  rw [if_neg h6]
  cases hr : readD b a.toNat (a + z).toNat (shN (numAt b (getW b p).2.1 2)) with
  | ok d => exact readD_sound hk (by omega) hr
  | error j =>
    rw [hr] at h4
    dsimp only at h4
    subst h4
    exact absurd hr (readD_err _ _ _ _)
theorem getQ_sound {b : List UInt8} {p : Nat} (h : (getQ b p).2.2 = 0) : soundQ (getQ b p).1 = true := by
  unfold getQ at h ⊢
  split at h
  · rename_i h0
    exact absurd h h0
  rename_i h0
  rw [if_neg h0]
  split at h
  · simp at h
  rename_i h1
  rw [if_neg h1]
  split at h
  · simp at h
  rename_i h2
  rw [if_neg h2]
  unfold soundQ
  simp only [Bool.and_eq_true, decide_eq_true_eq]
  exact ⟨getW_sound (by omega), by omega, num_fit (by omega) (by omega), num_fit (by omega) (by omega)⟩
theorem getQs_sound {b : List UInt8} : ∀ (k p : Nat) (l : List Qt) {r : List Qt × Nat}, getQs b k p l = .ok r → (∀ q ∈ l, soundQ q = true) → (∀ q ∈ r.1, soundQ q = true) ∧ r.1.length = l.length + k
  | 0, p, l, r, h, hl => by
    unfold getQs at h
    injection h with h
    subst h
    exact ⟨hl, rfl⟩
  | k + 1, p, l, r, h, hl => by
    unfold getQs at h
    split at h
    · cases h
    · rename_i h0
      obtain ⟨h1, h2⟩ := getQs_sound k _ _ h (fun q hq => by
        rcases List.mem_append.1 hq with h3 | h3
        · exact hl q h3
        · rw [List.mem_singleton.1 h3]
          exact getQ_sound (by omega))
      refine ⟨h1, ?_⟩
      rw [h2]
      simp
      omega
/-- What is known behind some records is sound. -/
structure RdOk (x : Rd) : Prop where
  r : ∀ r ∈ x.rs, soundX r = true
  s : fitB x.s 2 = true
  e : x.e = true ∨ x.s = 0
theorem stepR_sound {b : List UInt8} {last : Bool} {s t : Rd} (h : stepR b last s = .ok t) (hs : RdOk s) : RdOk t ∧ t.rs.length ≤ s.rs.length + 1 := by
  unfold stepR at h
  split at h
  · cases h
  · rename_i h0
    have h1 := getRR_sound (b := b) (p := (s.p : Int)) (by omega)
    unfold addR at h
    split at h
    · split at h
      · cases h
      · injection h with h
        subst h
        exact ⟨⟨hs.r, h1.c, .inl rfl⟩, by dsimp only; omega⟩
    · rename_i h2
      injection h with h
      subst h
      refine ⟨⟨fun r hr => ?_, hs.s, hs.e⟩, by simp⟩
      rcases List.mem_append.1 hr with h3 | h3
      · exact hs.r r h3
      · rw [List.mem_singleton.1 h3]
        exact soundX_iff.2 ⟨h2, h1⟩
theorem getRs_sound {b : List UInt8} {last : Bool} : ∀ (k : Nat) (s : Rd) {r : Rd}, getRs b last k s = .ok r → RdOk s → RdOk r ∧ r.rs.length ≤ s.rs.length + k
  | 0, s, r, h, hs => by
    unfold getRs at h
    injection h with h
    subst h
    exact ⟨hs, Nat.le_refl _⟩
  | k + 1, s, r, h, hs => by
    unfold getRs at h
    obtain ⟨t, ht, h⟩ := bind_ok h
    obtain ⟨h1, h2⟩ := stepR_sound ht hs
    obtain ⟨h3, h4⟩ := getRs_sound k t h h1
    exact ⟨h3, by omega⟩
theorem RdOk.next {s : Rd} (h : RdOk s) : RdOk ⟨[], s.p, s.e, s.s⟩ := ⟨fun _ h => absurd h (List.not_mem_nil), h.s, h.e⟩
/-- What bytes are is sound, but for how many there are. -/
structure DecOk (m : Mt) : Prop where
  h : soundH m.h = true
  q : ∀ q ∈ m.qs, soundQ q = true
  r : ∀ r ∈ m.all, soundX r = true
  n : m.qs.length + m.an.length + m.au.length + m.ex.length ≤ 513
theorem decM_sound {b : List UInt8} {m : Mt} (h : decM b = .ok m) : DecOk m := by
  unfold decM at h
  split at h
  · cases h
  split at h
  · cases h
  split at h
  · cases h
  rename_i h1 h2 h3
  obtain ⟨q, e1, h⟩ := bind_ok h
  obtain ⟨x, e2, h⟩ := bind_ok h
  obtain ⟨y, e3, h⟩ := bind_ok h
  obtain ⟨z, e4, h⟩ := bind_ok h
  split at h
  · cases h
  injection h with h
  subst h
  obtain ⟨q1, q2⟩ := getQs_sound _ _ _ e1 (fun q hq => absurd hq (List.not_mem_nil))
  obtain ⟨x1, x2⟩ := getRs_sound _ ⟨[], q.2, false, 0⟩ e2 ⟨fun _ h => absurd h (List.not_mem_nil), show fitB 0 2 = true by decide, .inr rfl⟩
  obtain ⟨y1, y2⟩ := getRs_sound _ ⟨[], x.p, x.e, x.s⟩ e3 x1.next
  obtain ⟨z1, z2⟩ := getRs_sound _ ⟨[], y.p, y.e, y.s⟩ e4 y1.next
  simp only [List.length_nil, Nat.zero_add] at q2 x2 y2 z2
  refine ⟨?_, q1, fun r hr => ?_, by dsimp only; omega⟩
  · unfold soundH hdOf codeB
    simp only [Bool.and_eq_true, decide_eq_true_eq, Bool.or_eq_true]
    refine ⟨num_fit (by omega) (by omega), ⟨by omega, by omega⟩, ⟨by omega, by omega⟩, z1.s, z1.e⟩
  · unfold Mt.all at hr
    rcases List.mem_append.1 hr with h4 | h4
    · exact x1.r r h4
    · rcases List.mem_append.1 h4 with h4 | h4
      · exact y1.r r h4
      · exact z1.r r h4
theorem DecOk.sound {m : Mt} (h : DecOk m) (hn : m.qs.length + m.an.length + m.au.length + m.ex.length ≤ 512) : SoundM m := ⟨h.h, hn, h.q, h.r⟩

end Go.Proofs.YtjkjhpaeckkpjaaGreat

namespace Go.Proofs.YtjkjhpaeckkpjaaGreat
open Go.RowKit

/-- The bytes, if there are any, and not too many. -/
def fitE (r : Except Nat (List UInt8)) (s : Int) : Option (List UInt8) :=
  match r with
  | .ok b => if (b.length : Int) ≤ s then some b else none
  | .error _ => none
def CEncOut (w : World) (o : Option (List UInt8)) (e : Ending) (w' : World) : Prop :=
  Below w.heap.size w w' ∧ match o with
  | some b => ∃ A c, e = .returned (.tuple #[.slice A b.length c, .bool true]) ∧ w'.ownsRow w.heap.size 5 1 (.slice A b.length c) b.length (b.map bc)
  | none => e = .returned (.tuple #[.slice none 0 0, .bool false])

set_option maxRecDepth 20000 in
set_option maxHeartbeats 4000000 in
theorem cencode_core (w : World) (m : MV) (s : Int) (h : Hd) (qA : Option Addr) (qc : Nat) (qp : List (QV × Qt)) (A0 A1 A2 : Option Addr) (k0 k1 k2 : Nat) (p0 p1 p2 : List (RV × Rt)) (he : m = ⟨h, qA, qc, qp, ⟨A0, k0, p0⟩, ⟨A1, k1, p1⟩, ⟨A2, k2, p2⟩⟩) (hm : MAt w w.heap.size m) (hi : MIn m) (ho : OwnedM w m) (hc : m.s2.ps.length ≤ m.s2.c ∧ m.s2.c ≤ maxLen) :
    Calls Tryz.prog 16 #[valM h (.slice qA qp.length qc) (.slice A0 p0.length k0) (.slice A1 p1.length k1) (.slice A2 p2.length k2), .int .i64 s] w (CEncOut w (fitE (encE m.msg) s)) := by
  obtain ⟨W, hW⟩ : ∃ W, W = w.alloc (.cells #[.int .i64 h.id, .bool h.resp, .int .i64 h.op, .bool h.aa, .bool h.tc, .bool h.rd, .bool h.ra, .int .i64 h.rc, .slice qA qp.length qc, .slice A0 p0.length k0, .slice A1 p1.length k1, .slice A2 p2.length k2, .bool h.edns, .int .i64 h.size] 25) := ⟨_, rfl⟩
  have hB : Below w.heap.size w W := by rw [hW]; exact (Below.refl _ _).alloc (Nat.le_refl _) _
  have ev : m.val = valM h (.slice qA qp.length qc) (.slice A0 p0.length k0) (.slice A1 p1.length k1) (.slice A2 p2.length k2) := by rw [he]
  have HE := Lib.hid (show Calls Tryz.prog 30 #[valM h (.slice qA qp.length qc) (.slice A0 p0.length k0) (.slice A1 p1.length k1) (.slice A2 p2.length k2)] W (EncOut W (encE m.msg)) from by
    have h1 := encode_any W m ((hm.below hB).mono hB.size) hi (ho.below hB) hc
    rwa [ev] at h1)
  have HB := Lib.hid hB
  have HN := Lib.hid (show ∀ k, encE m.msg = .error k → k ≠ 0 from fun k hk => by
    unfold encE at hk
    split at hk
    · split at hk
      · injection hk with hk
        omega
      · cases hk
    · injection hk with hk
      omega)
  have HL := Lib.hid (show ∀ b, encE m.msg = .ok b → b.length ≤ 65535 from fun b hb => by
    unfold encE at hb
    split at hb
    · split at hb
      · cases hb
      · injection hb with hb
        subst hb
        omega
    · cases hb)
  clear hB hm hi ho hc he ev
  generalize encE m.msg = E at *
  clear m
  subst hW
  go_enter Tryz.func16, Tryz.ntmps16
  go_wp2_with fail
  refine HE.out.mono ?_
  intro e w1 he1
  cases E with
  | error k =>
    obtain ⟨hb1, rfl⟩ := he1
    have hk := HN.out k rfl
    have HF := Lib.hid (HB.out.trans (hb1.mono HB.out.size))
    have d6 : ((k : Int) == 0) = false := by rw [beq_eq_false_iff_ne]; omega
    have d7 : ((k : Int) != 0) = true := by rw [bne_iff_ne]; omega
    have d8 : ¬ (k : Int) = 0 := by omega
    clear hb1 hk HE HN HL
    go_wp2
    refine ⟨rfl, .tuple #[.slice none 0 0, .bool false], by simp [results, Tryz.results16, go_sem], ?_⟩
    exact ⟨HF.out, rfl⟩
  | ok b =>
    obtain ⟨hb1, A, c, rfl, ho1⟩ := he1
    have hbl := HL.out b rfl
    have HF := Lib.hid (HB.out.trans (hb1.mono HB.out.size))
    have HO := Lib.hid (own_mono ho1 HB.out.size)
    clear hb1 ho1 HE HN HL
    by_cases hs : (b.length : Int) ≤ s
    · have d1 : decide (s < (b.length : Int)) = false := decide_eq_false (by omega)
      have HR := Lib.hid (show fitE (.ok b) s = some b from if_pos hs)
      clear hs
      go_wp2
      refine ⟨rfl, .tuple #[.slice A b.length c, .bool true], by simp [results, Tryz.results16, go_sem], ?_⟩
      rw [HR.out]
      exact ⟨HF.out, A, c, rfl, HO.out⟩
    · have d1 : decide (s < (b.length : Int)) = true := decide_eq_true (by omega)
      have HR := Lib.hid (show fitE (.ok b) s = none from if_neg hs)
      clear hs
      go_wp2
      refine ⟨rfl, .tuple #[.slice none 0 0, .bool false], by simp [results, Tryz.results16, go_sem], ?_⟩
      rw [HR.out]
      exact ⟨HF.out, rfl⟩
theorem cencode_any (w : World) (m : MV) (s : Int) (hm : MAt w w.heap.size m) (hi : MIn m) (ho : OwnedM w m) (hc : m.s2.ps.length ≤ m.s2.c ∧ m.s2.c ≤ maxLen) : Calls Tryz.prog 16 #[m.val, .int .i64 s] w (CEncOut w (fitE (encE m.msg) s)) := by
  obtain ⟨h, qA, qc, qp, ⟨A0, k0, p0⟩, ⟨A1, k1, p1⟩, ⟨A2, k2, p2⟩⟩ := m
  exact cencode_core w _ s h qA qc qp A0 A1 A2 k0 k1 k2 p0 p1 p2 rfl hm hi ho hc

end Go.Proofs.YtjkjhpaeckkpjaaGreat

namespace Go.Proofs.YtjkjhpaeckkpjaaGreat
open Go.RowKit

theorem sec_first (m : MV) (n : Nat) : (m.first n).s0 = m.s0.upto n ∧ (m.first n).s1 = m.s1.upto (n - m.s0.ps.length) ∧ (m.first n).s2 = m.s2.upto (n - m.s0.ps.length - m.s1.ps.length) := ⟨rfl, rfl, rfl⟩
theorem upto_sub {s : Sec} {k : Nat} {P : RV × Rt → Prop} (h : ∀ p ∈ s.ps, P p) : ∀ p ∈ (s.upto k).ps, P p := fun p hp => h p (List.mem_of_mem_take hp)
theorem upto_len {s : Sec} {k M : Nat} (h : s.ps.length ≤ M) : (s.upto k).ps.length ≤ M := by
  show (s.ps.take k).length ≤ M
  rw [List.length_take]
  omega
theorem first_in {m : MV} (h : MIn m) (n : Nat) : MIn (m.first n) := by
  refine ⟨⟨h.h.i, h.h.o, h.h.r, h.h.s⟩, h.q, fun i => ?_, h.ql, fun i => ?_⟩
  · exact sec_all (P := fun s => ∀ p ∈ s.ps, RIn p.2 ∧ LightR p.2) (upto_sub (h.r 0)) (upto_sub (h.r 1)) (upto_sub (h.r 2)) i
  · exact sec_all (P := fun s => s.ps.length ≤ 1000) (upto_len (h.rl 0)) (upto_len (h.rl 1)) (upto_len (h.rl 2)) i
theorem first_owned {w : World} {m : MV} (h : OwnedM w m) (n : Nat) : OwnedM w (m.first n) := fun i =>
  sec_all (P := fun s => ∀ p ∈ s.ps, OwnR w 0 p.1 p.2) (upto_sub (h 0)) (upto_sub (h 1)) (upto_sub (h 2)) i
theorem first_cap (m : MV) (n : Nat) (hl : m.s2.ps.length ≤ 1000) : (m.first n).s2.ps.length ≤ (m.first n).s2.c ∧ (m.first n).s2.c ≤ maxLen := by
  have e : (m.first n).s2 = m.s2.upto (n - m.s0.ps.length - m.s1.ps.length) := rfl
  rw [e]
  refine ⟨by show (m.s2.ps.take _).length ≤ min _ _; rw [List.length_take]; exact Nat.le_refl _, ?_⟩
  show min _ _ ≤ maxLen
  unfold maxLen
  omega

set_option maxRecDepth 20000 in
set_option maxHeartbeats 4000000 in
theorem most1_core (w : World) (g g2 : Nat) (s : Int) (i : Nat) (m : MV) (h : Hd) (qA : Option Addr) (qc : Nat) (qp : List (QV × Qt)) (A0 A1 A2 : Option Addr) (k0 k1 k2 : Nat) (p0 p1 p2 : List (RV × Rt)) (he : m = ⟨h, qA, qc, qp, ⟨A0, k0, p0⟩, ⟨A1, k1, p1⟩, ⟨A2, k2, p2⟩⟩)
    (hm : MAt w w.heap.size m) (hi : MIn m) (ho : OwnedM w m) (hc : ∀ i, (m.sec i).ps.length ≤ (m.sec i).c) (hn : i ≤ 10000) (hg : Whole w g 25 m.cells) (hg2 : Whole w g2 3 [.int .i64 s]) :
    Calls Tryz.prog 33 #[.int .i64 i, .pointer (some ⟨g, 0, none⟩), .pointer (some ⟨g2, 0, none⟩)] w (Gave w (.bool (!(fitE (encE (m.first (i + 1)).msg) s).isSome))) := by
  have ev : m.val = valM h (.slice qA qp.length qc) (.slice A0 p0.length k0) (.slice A1 p1.length k1) (.slice A2 p2.length k2) := by rw [he]
  have HC := Lib.hid (fun (W : World) (hb : Below w.heap.size w W) => (show W.cell? ⟨g, 0, none⟩ = some (.int .i64 h.id) ∧ W.cell? ⟨g, 1, none⟩ = some (.bool h.resp) ∧ W.cell? ⟨g, 2, none⟩ = some (.int .i64 h.op) ∧ W.cell? ⟨g, 3, none⟩ = some (.bool h.aa) ∧ W.cell? ⟨g, 4, none⟩ = some (.bool h.tc) ∧ W.cell? ⟨g, 5, none⟩ = some (.bool h.rd) ∧ W.cell? ⟨g, 6, none⟩ = some (.bool h.ra) ∧ W.cell? ⟨g, 7, none⟩ = some (.int .i64 h.rc) ∧ W.cell? ⟨g, 8, none⟩ = some (.slice qA qp.length qc) ∧ W.cell? ⟨g, 9, none⟩ = some (.slice A0 p0.length k0) ∧ W.cell? ⟨g, 10, none⟩ = some (.slice A1 p1.length k1) ∧ W.cell? ⟨g, 11, none⟩ = some (.slice A2 p2.length k2) ∧ W.cell? ⟨g, 12, none⟩ = some (.bool h.edns) ∧ W.cell? ⟨g, 13, none⟩ = some (.int .i64 h.size) ∧ W.cell? ⟨g2, 0, none⟩ = some (.int .i64 s) from by
    have a1 := hg.below hb hg.lt
    have a2 := hg2.below hb hg2.lt
    rw [he] at a1
    exact ⟨a1.cell 0, a1.cell 1, a1.cell 2, a1.cell 3, a1.cell 4, a1.cell 5, a1.cell 6, a1.cell 7, a1.cell 8, a1.cell 9, a1.cell 10, a1.cell 11, a1.cell 12, a1.cell 13, a2.cell 0⟩))
  have HF := Lib.hid (fun (W : World) (hb : Below w.heap.size w W) => (show Calls Tryz.prog 19 #[valM h (.slice qA qp.length qc) (.slice A0 p0.length k0) (.slice A1 p1.length k1) (.slice A2 p2.length k2), .int .i64 ((i : Int) + 1)] W (Gave W (m.first (i + 1)).val) from by
    have h1 := first_any W m (i + 1) (by omega) hi.rl hc
    rw [ev] at h1
    exact h1))
  have HE := Lib.hid (fun (W : World) (hb : Below w.heap.size w W) => (show Calls Tryz.prog 16 #[(m.first (i + 1)).val, .int .i64 s] W (CEncOut W (fitE (encE (m.first (i + 1)).msg) s)) from
    cencode_any W (m.first (i + 1)) s ((first_at (hm.below hb) (i + 1)).mono hb.size) (first_in hi _) ((first_owned ho _).below hb) (first_cap m _ (hi.rl 2))))
  have HBD := Lib.hid (Below.refl w.heap.size w).drew
  clear hm hi ho hc hg hg2 he ev
  generalize (m.first (i + 1)).val = fv at *
  generalize fitE (encE (m.first (i + 1)).msg) s = o at *
  clear m
  have hi1 : IntKind.i64.wrap ((i : Int) + 1) = (i : Int) + 1 := IntWalk.i64_in _ (by omega)
  go_enter Tryz.func33, Tryz.ntmps33
  go_wp2
  have HBX := HBD
  go_region_held3 (fun W => W.cell? ⟨g, 0, none⟩ = some (.int .i64 h.id) ∧ W.cell? ⟨g, 1, none⟩ = some (.bool h.resp) ∧ W.cell? ⟨g, 2, none⟩ = some (.int .i64 h.op) ∧ W.cell? ⟨g, 3, none⟩ = some (.bool h.aa) ∧ W.cell? ⟨g, 4, none⟩ = some (.bool h.tc) ∧ W.cell? ⟨g, 5, none⟩ = some (.bool h.rd) ∧ W.cell? ⟨g, 6, none⟩ = some (.bool h.ra) ∧ W.cell? ⟨g, 7, none⟩ = some (.int .i64 h.rc) ∧ W.cell? ⟨g, 8, none⟩ = some (.slice qA qp.length qc) ∧ W.cell? ⟨g, 9, none⟩ = some (.slice A0 p0.length k0) ∧ W.cell? ⟨g, 10, none⟩ = some (.slice A1 p1.length k1) ∧ W.cell? ⟨g, 11, none⟩ = some (.slice A2 p2.length k2) ∧ W.cell? ⟨g, 12, none⟩ = some (.bool h.edns) ∧ W.cell? ⟨g, 13, none⟩ = some (.int .i64 h.size) ∧ W.cell? ⟨g2, 0, none⟩ = some (.int .i64 s))
    (exact HC.out _ HBX.out)
    ((first
      | (go_at_call 19
         refine (HF.out _ HBX.out).mono ?_
         rintro e wn ⟨rfl, hb⟩
         have HBX := Lib.hid (HBX.out.trans (hb.mono HBX.out.size))
         clear hb)
      | (go_at_call 16
         refine (HE.out _ HBX.out).mono ?_
         intro e wn heo
         have HOB := Lib.hid heo
         have HBX := Lib.hid (HBX.out.trans (heo.1.mono HBX.out.size))
         obtain ⟨vb, hvb⟩ : ∃ vb, e = .returned (.tuple #[vb, .bool o.isSome]) := by
           cases o with
           | none => exact ⟨_, heo.2⟩
           | some b =>
             obtain ⟨_, A, c, a1, _⟩ := heo
             exact ⟨_, a1⟩
         subst hvb
         clear heo HOB)))
  all_goals
    rename_i hheld
    clear hheld
    go_wp2
    go_ret
    exact ⟨by cases o <;> rfl, HBX.out⟩

end Go.Proofs.YtjkjhpaeckkpjaaGreat

namespace Go.Proofs.YtjkjhpaeckkpjaaGreat
open Go.RowKit

/-- Do more than i of the records not fit? -/
def tooBig (m : MV) (s : Int) (i : Nat) : Bool := !(fitE (encE (m.first (i + 1)).msg) s).isSome
def MostOut (w : World) (m : MV) (s : Int) (e : Ending) (w' : World) : Prop :=
  Below w.heap.size w w' ∧ ∃ r : Nat, e = .returned (.int .i64 r) ∧ FirstYes (tooBig m s) (m.s0.ps.length + m.s1.ps.length + m.s2.ps.length) r

set_option maxRecDepth 20000 in
set_option maxHeartbeats 4000000 in
theorem most_core (w : World) (s : Int) (m : MV) (h : Hd) (qA : Option Addr) (qc : Nat) (qp : List (QV × Qt)) (A0 A1 A2 : Option Addr) (k0 k1 k2 : Nat) (p0 p1 p2 : List (RV × Rt)) (he : m = ⟨h, qA, qc, qp, ⟨A0, k0, p0⟩, ⟨A1, k1, p1⟩, ⟨A2, k2, p2⟩⟩)
    (hm : MAt w w.heap.size m) (hi : MIn m) (ho : OwnedM w m) (hc : ∀ i, (m.sec i).ps.length ≤ (m.sec i).c) (hmono : ∀ a b, a ≤ b → b < m.s0.ps.length + m.s1.ps.length + m.s2.ps.length → tooBig m s a = true → tooBig m s b = true) :
    Calls Tryz.prog 18 #[valM h (.slice qA qp.length qc) (.slice A0 p0.length k0) (.slice A1 p1.length k1) (.slice A2 p2.length k2), .int .i64 s] w (MostOut w m s) := by
  have hmf : ∀ (fn : Fn) (first cap : Array Value) (w : World), (Instr.makeFunc fn first cap).run Tryz.prog w = .ok (.func fn first cap) w := fun _ _ _ _ => rfl
  obtain ⟨W, hW⟩ : ∃ W, W = (w.alloc (.cells #[.int .i64 h.id, .bool h.resp, .int .i64 h.op, .bool h.aa, .bool h.tc, .bool h.rd, .bool h.ra, .int .i64 h.rc, .slice qA qp.length qc, .slice A0 p0.length k0, .slice A1 p1.length k1, .slice A2 p2.length k2, .bool h.edns, .int .i64 h.size] 25)).alloc (.cells #[.int .i64 s] 3) := ⟨_, rfl⟩
  have hB : Below w.heap.size w W := by rw [hW]; exact ((Below.refl _ _).alloc (Nat.le_refl _) _).alloc (by simp) _
  have hw1 : Whole W w.heap.size 25 m.cells := by rw [hW, he]; exact (Whole.made w [.int .i64 h.id, .bool h.resp, .int .i64 h.op, .bool h.aa, .bool h.tc, .bool h.rd, .bool h.ra, .int .i64 h.rc, .slice qA qp.length qc, .slice A0 p0.length k0, .slice A1 p1.length k1, .slice A2 p2.length k2, .bool h.edns, .int .i64 h.size] _).alloc _
  have hw2 : Whole W (w.heap.size + 1) 3 [.int .i64 s] := by
    rw [hW]
    have h1 := Whole.made (w.alloc (.cells #[.int .i64 h.id, .bool h.resp, .int .i64 h.op, .bool h.aa, .bool h.tc, .bool h.rd, .bool h.ra, .int .i64 h.rc, .slice qA qp.length qc, .slice A0 p0.length k0, .slice A1 p1.length k1, .slice A2 p2.length k2, .bool h.edns, .int .i64 h.size] 25)) [.int .i64 s] 3
    rw [show (w.alloc (.cells #[.int .i64 h.id, .bool h.resp, .int .i64 h.op, .bool h.aa, .bool h.tc, .bool h.rd, .bool h.ra, .int .i64 h.rc, .slice qA qp.length qc, .slice A0 p0.length k0, .slice A1 p1.length k1, .slice A2 p2.length k2, .bool h.edns, .int .i64 h.size] 25)).heap.size = w.heap.size + 1 by simp] at h1
    exact h1
  have l0 : m.s0.ps.length ≤ 1000 := hi.rl 0
  have l1 : m.s1.ps.length ≤ 1000 := hi.rl 1
  have l2 : m.s2.ps.length ≤ 1000 := hi.rl 2
  have e0 : m.s0.ps.length = p0.length := by rw [he]
  have e1 : m.s1.ps.length = p1.length := by rw [he]
  have e2 : m.s2.ps.length = p2.length := by rw [he]
  have HS := Lib.hid (search_any W (.pointer (some ⟨w.heap.size, 0, none⟩)) (.pointer (some ⟨w.heap.size + 1, 0, none⟩)) (tooBig m s) (m.s0.ps.length + m.s1.ps.length + m.s2.ps.length) (by omega) (fun i W' hin hb => by
    have h1 := hB.trans (hb.mono hB.size)
    exact most1_core W' w.heap.size (w.heap.size + 1) s i m h qA qc qp A0 A1 A2 k0 k1 k2 p0 p1 p2 he ((hm.below h1).mono h1.size) hi (ho.below h1) hc (by omega) (hw1.below hb hw1.lt) (hw2.below hb hw2.lt)) hmono)
  have HM := Lib.hid (show ∀ e w', Below W.heap.size W w' → (∃ r : Nat, e = .returned (.int .i64 r) ∧ FirstYes (tooBig m s) (m.s0.ps.length + m.s1.ps.length + m.s2.ps.length) r) → MostOut w m s e w' from fun e w' hb hr => ⟨hB.trans (hb.mono hB.size), hr⟩)
  rw [e0, e1, e2] at HS HM
  rw [e0] at l0
  rw [e1] at l1
  rw [e2] at l2
  clear hB hw1 hw2 hm hi ho hc hmono he e0 e1 e2
  have ec : (p0.length : Int) + (p1.length : Int) + (p2.length : Int) = ((p0.length + p1.length + p2.length : Nat) : Int) := by omega
  have HEC := Lib.hid ec
  clear ec
  subst hW
  go_enter Tryz.func18, Tryz.ntmps18
  go_wp2_with fail
  rw [HEC.out]
  refine HS.out.mono ?_
  rintro e w1 ⟨hb1, r, rfl, hr⟩
  have HR := Lib.hid (HM.out _ w1 hb1 ⟨r, rfl, hr⟩)
  clear hb1 hr HS HM HEC
  go_wp2
  go_ret
  exact HR.out
theorem most_any (w : World) (s : Int) (m : MV) (hm : MAt w w.heap.size m) (hi : MIn m) (ho : OwnedM w m) (hc : ∀ i, (m.sec i).ps.length ≤ (m.sec i).c) (hmono : ∀ a b, a ≤ b → b < m.s0.ps.length + m.s1.ps.length + m.s2.ps.length → tooBig m s a = true → tooBig m s b = true) :
    Calls Tryz.prog 18 #[m.val, .int .i64 s] w (MostOut w m s) := by
  obtain ⟨h, qA, qc, qp, ⟨A0, k0, p0⟩, ⟨A1, k1, p1⟩, ⟨A2, k2, p2⟩⟩ := m
  exact most_core w s _ h qA qc qp A0 A1 A2 k0 k1 k2 p0 p1 p2 rfl hm hi ho hc hmono

end Go.Proofs.YtjkjhpaeckkpjaaGreat

namespace Go.Proofs.YtjkjhpaeckkpjaaGreat
open Go.RowKit

set_option maxHeartbeats 400000 in
theorem small_any (l : List UInt8) (w : World) (hm : l.length ≤ maxLen) :
    Calls Tryz.prog 95 #[.string ⟨l.toArray⟩] w (Gave w (.string ⟨(lowL l).toArray⟩)) := by
  unfold maxLen at hm
  go_enter Tryz.func95, Tryz.ntmps95
  go_wp2_with (refine wpList_bytes rfl (.tmp 6) 9 29 5 rfl Tryz.underlying9 Tryz.underlying29 Tryz.underlying5 l rfl ?_; intro C w1 hC hM1 hB1 hz1)
  have HM := Lib.hid hM1
  have HB := Lib.hid hB1
  have HZ := Lib.hid hz1
  clear hM1 hB1 hz1
  obtain ⟨Z, hZ⟩ : ∃ Z, Z = zerosL (.int .u8 0) (C - l.length) := ⟨_, rfl⟩
  rw [← hZ] at HM
  clear hZ
  go_loopw [10] (SmallRel w l Z) (fun i _ => l.length - (intOf i).toNat)
  case atStart => exact ⟨0, Nat.zero_le _, rfl, by rw [lowUpto_zero]; exact HM.out, HB.out⟩
  case round =>
    obtain ⟨k, hk, rfl, hmk, hbk⟩ := hrel
    have HMK := Lib.hid hmk
    have HBK := Lib.hid hbk
    clear hmk hbk
    by_cases hlt : k < l.length
    · have hc : wr.cell? ⟨w.heap.size, k, none⟩ = some (.int .u8 (l[k]).toNat) := (HMK.out.cell k).trans (lowUpto_at Z hlt)
      have hf : wr.frozen? ⟨w.heap.size, k, none⟩ = false := HMK.out.frozen (by rw [length_lowUpto]; omega)
      have hlt8 := (l[k]).toNat_lt
      by_cases h1 : 65 ≤ (l[k]).toNat
      · by_cases h2 : (l[k]).toNat ≤ 90
        · have HU := Lib.hid (lowB_up h1 h2)
          go_wp2
          refine ⟨⟨k + 1, by omega, by go_num, ?_, ?_⟩, by simp [intOf]; omega⟩
          · rw [lowUpto_succ Z hlt, bc, HU.out]
            have h := HMK.out.set_ k (.int .u8 (((l[k]).toNat + 32 : Nat) : Int))
            rw [show ((l[k]).toNat : Int) - 65 + 97 = (((l[k]).toNat + 32 : Nat) : Int) from by omega]
            exact h
          · exact HBK.out.setCell (Nat.le_refl _) _
        · have HU := Lib.hid (lowUpto_same Z hlt (lowB_no (by omega)))
          go_wp2
          exact ⟨⟨k + 1, by omega, by go_num, by rw [HU.out]; exact HMK.out, HBK.out⟩, by simp [intOf]; omega⟩
      · have HU := Lib.hid (lowUpto_same Z hlt (lowB_no (by omega)))
        go_wp2
        exact ⟨⟨k + 1, by omega, by go_num, by rw [HU.out]; exact HMK.out, HBK.out⟩, by simp [intOf]; omega⟩
    · obtain rfl : k = l.length := by omega
      have hr := HMK.out.row.take l.length
      rw [lowUpto_all] at hr
      have hcv := convert_row_run (P := Tryz.prog) wr 29 9 5 Tryz.underlying29 Tryz.underlying5 Tryz.underlying9 _ l.length C _ (lowL l) (length_lowL l) hr
      clear hr
      go_wp2
      go_ret
      exact ⟨rfl, HBK.out⟩

end Go.Proofs.YtjkjhpaeckkpjaaGreat

namespace Go.Proofs.YtjkjhpaeckkpjaaGreat
open Go.RowKit

set_option maxRecDepth 8000 in
set_option maxHeartbeats 1000000 in
theorem compareString_any (a b : List UInt8) (w : World) :
    Calls Tryz.prog 101 #[.string ⟨a.toArray⟩, .string ⟨b.toArray⟩] w (Told w (.int .i64 (cmpB a b))) := by
  have hr := Lib.run_compareString (P := Tryz.prog) ⟨a.toArray⟩ ⟨b.toArray⟩
  simp only [compareBytes_lex] at hr
  go_enter Tryz.func101, Tryz.ntmps101
  go_wp2
  rw [run_callFunc_extern Tryz.func107 (by kernel_rfl) (by kernel_rfl) (by kernel_rfl) (e := Extern.BytealgCompare.compare) (by kernel_rfl), hr]
  simp only [Result.andThen]
  rw [Oper.upon_value]
  go_wp2
  go_ret
  exact ⟨rfl, rfl⟩

set_option maxHeartbeats 400000 in
theorem compare_any (a b : List UInt8) (w : World) :
    Calls Tryz.prog 94 #[.string ⟨a.toArray⟩, .string ⟨b.toArray⟩] w (Told w (.int .i64 (cmpB a b))) := by
  go_enter Tryz.func94, Tryz.ntmps94
  go_wp2_with fail
  refine (compareString_any _ _ _).mono ?_
  rintro e w' ⟨rfl, rfl⟩
  go_wp2
  go_ret
  exact ⟨rfl, rfl⟩

set_option maxHeartbeats 400000 in
theorem byLabel_any (a b : List UInt8) (w : World) (ha : a.length ≤ maxLen) (hb : b.length ≤ maxLen) :
    Calls Tryz.prog 90 #[.string ⟨a.toArray⟩, .string ⟨b.toArray⟩] w (Gave w (.int .i64 (cmpB (lowL a) (lowL b)))) := by
  go_enter Tryz.func90, Tryz.ntmps90
  go_wp2_with fail
  refine (small_any a w ha).mono ?_
  rintro e w1 ⟨rfl, hb1⟩
  have hz := hb1.size
  have HB1 := Lib.hid hb1
  clear hb1
  go_wp2_with fail
  refine (small_any b w1 hb).mono ?_
  rintro e w2 ⟨rfl, hb2⟩
  have HB2 := Lib.hid hb2
  clear hb2
  go_wp2_with fail
  refine (compare_any _ _ _).mono ?_
  rintro e w' ⟨rfl, rfl⟩
  go_wp2
  go_ret
  exact ⟨rfl, HB1.out.trans (HB2.out.mono hz)⟩

end Go.Proofs.YtjkjhpaeckkpjaaGreat

namespace Go.Proofs.YtjkjhpaeckkpjaaGreat
open Go.RowKit

set_option maxHeartbeats 400000 in
theorem sameLabel_yes (a b : List UInt8) (w : World) (ha : a.length ≤ maxLen) (hb : b.length ≤ maxLen) (he : lowL a = lowL b) :
    Calls Tryz.prog 77 #[.string ⟨a.toArray⟩, .string ⟨b.toArray⟩] w (Gave w (.bool true)) := by
  have hc := byLabel_any a b w ha hb
  rw [show cmpB (lowL a) (lowL b) = 0 by rw [he]; exact cmpB_tot.same _] at hc
  have HC := Lib.hid hc
  clear hc he
  go_enter Tryz.func77, Tryz.ntmps77
  go_wp2_with fail
  refine HC.out.mono ?_
  rintro e w1 ⟨rfl, hb1⟩
  have HB1 := Lib.hid hb1
  clear hb1
  go_wp2
  go_ret
  exact ⟨rfl, HB1.out⟩

set_option maxHeartbeats 400000 in
theorem sameLabel_no (a b : List UInt8) (w : World) (ha : a.length ≤ maxLen) (hb : b.length ≤ maxLen) (he : lowL a ≠ lowL b) :
    Calls Tryz.prog 77 #[.string ⟨a.toArray⟩, .string ⟨b.toArray⟩] w (Gave w (.bool false)) := by
  have hc := byLabel_any a b w ha hb
  have hr : (cmpB (lowL a) (lowL b) == 0) = false := by rw [beq_eq_false_iff_ne]; exact fun h => he (cmpB_tot.eq_ _ _ h)
  generalize cmpB (lowL a) (lowL b) = r at hc hr
  have HC := Lib.hid hc
  clear hc he
  go_enter Tryz.func77, Tryz.ntmps77
  go_wp2_with fail
  refine HC.out.mono ?_
  rintro e w1 ⟨rfl, hb1⟩
  have HB1 := Lib.hid hb1
  clear hb1
  go_wp2
  go_ret
  exact ⟨rfl, HB1.out⟩

set_option maxHeartbeats 400000 in
theorem equalFunc_ne (A B : Option Addr) (c1 c2 : Nat) (a b : List (List UInt8)) (w : World) (hl : a.length ≠ b.length) :
    Calls Tryz.prog 76 #[.slice A a.length c1, .slice B b.length c2, .func (.func 77) #[] #[]] w (Gave w (.bool (eqN a b))) := by
  have h1 : ((a.length : Int) != (b.length : Int)) = true := by rw [bne_iff_ne]; omega
  rw [eqN_len hl]
  clear hl
  go_enter Tryz.func76, Tryz.ntmps76
  go_wp2
  go_ret
  exact ⟨rfl, Below.refl _ _⟩

set_option maxHeartbeats 1000000 in
theorem equalFunc_len (A B : Option Addr) (c1 c2 : Nat) (a b : List (List UInt8)) (w : World) (hA : Row w w.heap.size A (a.map sv)) (hB : Row w w.heap.size B (b.map sv))
    (hs1 : WideN a) (hs2 : WideN b) (hl : a.length = b.length) :
    Calls Tryz.prog 76 #[.slice A a.length c1, .slice B b.length c2, .func (.func 77) #[] #[]] w (Gave w (.bool (eqN a b))) := by
  have hn1 := hs1.1
  have hn2 := hs2.1
  have HS1 := Lib.hid hs1.2
  have HS2 := Lib.hid hs2.2
  unfold maxLen at hn1 hn2
  clear hs1 hs2
  have HA := Lib.hid hA
  have HB := Lib.hid hB
  have h1 : ((a.length : Int) != (b.length : Int)) = false := by rw [hl]; simp
  have HL := Lib.hid hl
  clear hA hB hl
  go_enter Tryz.func76, Tryz.ntmps76
  go_wp2
  go_loopw [17] (EqRel w a b) (fun i _ => a.length - (intOf i).toNat)
  case atStart => exact ⟨0, Nat.zero_le _, rfl, rfl, Below.refl _ _⟩
  case round =>
    obtain ⟨k, hk, rfl, hkt, hbw⟩ := hrel
    have hz := hbw.size
    have HKT := Lib.hid hkt
    have HBW := Lib.hid hbw
    have HA1 := Lib.hid (HA.out.below hbw)
    have HB1 := Lib.hid (HB.out.below hbw)
    clear hkt hbw
    by_cases hlt : k < a.length
    · have hkb : k < b.length := by have := HL.out; omega
      obtain ⟨ba, oa, rfl, _, hca⟩ := HA1.out.name_at hlt
      obtain ⟨bb, ob, rfl, _, hcb⟩ := HB1.out.name_at hkb
      have hla := HS1.out k hlt
      have hlb := HS2.out k hkb
      by_cases he : lowL a[k] = lowL b[k]
      · have HC := Lib.hid (fun w' => sameLabel_yes a[k] b[k] w' hla hlb he)
        have HK := Lib.hid (low_snoc HKT.out hlt hkb he)
        clear he
        go_wp2_with fail
        refine (HC.out _).mono ?_
        rintro e w1 ⟨rfl, hb1⟩
        have HB2 := Lib.hid hb1
        clear hb1
        go_wp2
        exact ⟨⟨k + 1, by omega, by go_num, HK.out, HBW.out.trans (HB2.out.mono hz)⟩, by simp [intOf]; omega⟩
      · have HC := Lib.hid (fun w' => sameLabel_no a[k] b[k] w' hla hlb he)
        have HK := Lib.hid (low_part hlt hkb he)
        clear he
        go_wp2_with fail
        refine (HC.out _).mono ?_
        rintro e w1 ⟨rfl, hb1⟩
        have HB2 := Lib.hid hb1
        clear hb1
        go_wp2
        go_ret
        exact ⟨ret_bool HK.out.symm, HBW.out.trans (HB2.out.mono hz)⟩
    · obtain rfl : k = a.length := by omega
      have HK := Lib.hid (low_end HKT.out HL.out)
      go_wp2
      go_ret
      exact ⟨ret_bool HK.out.symm, HBW.out⟩

set_option maxHeartbeats 400000 in
theorem equal_wide (A B : Option Addr) (m1 m2 c1 c2 H : Nat) (a b : List (List UInt8)) (w : World) (hl1 : a.length = m1) (hl2 : b.length = m2) (hA : Row w H A (a.map sv)) (hB : Row w H B (b.map sv)) (hH : H ≤ w.heap.size)
    (hs1 : WideN a) (hs2 : WideN b) :
    Calls Tryz.prog 53 #[.slice A m1 c1, .slice B m2 c2] w (Gave w (.bool (eqN a b))) := by
  subst hl1
  subst hl2
  have hf : Calls Tryz.prog 76 #[.slice A a.length c1, .slice B b.length c2, .func (.func 77) #[] #[]] w (Gave w (.bool (eqN a b))) := by
    by_cases hl : a.length = b.length
    · exact equalFunc_len A B c1 c2 a b w (hA.mono hH) (hB.mono hH) hs1 hs2 hl
    · exact equalFunc_ne A B c1 c2 a b w hl
  have HC := Lib.hid hf
  clear hA hB hf
  go_enter Tryz.func53, Tryz.ntmps53
  go_wp2_with fail
  refine HC.out.mono ?_
  rintro e w1 ⟨rfl, hb1⟩
  have HB1 := Lib.hid hb1
  clear hb1
  go_wp2
  go_ret
  exact ⟨rfl, HB1.out⟩

theorem equal_any (A B : Option Addr) (m1 m2 c1 c2 H : Nat) (a b : List (List UInt8)) (w : World) (hl1 : a.length = m1) (hl2 : b.length = m2) (hA : Row w H A (a.map sv)) (hB : Row w H B (b.map sv)) (hH : H ≤ w.heap.size)
    (hs1 : szN a ≤ maxLen) (hs2 : szN b ≤ maxLen) :
    Calls Tryz.prog 53 #[.slice A m1 c1, .slice B m2 c2] w (Gave w (.bool (eqN a b))) :=
  equal_wide A B m1 m2 c1 c2 H a b w hl1 hl2 hA hB hH (wide_sz hs1) (wide_sz hs2)

end Go.Proofs.YtjkjhpaeckkpjaaGreat

namespace Go.Proofs.YtjkjhpaeckkpjaaGreat
open Go.RowKit

/-- Are two records of one set? -/
def alikeB (a b : Rt) : Bool := decide (a.kind = b.kind) && eqN a.name b.name

set_option maxRecDepth 20000 in
set_option maxHeartbeats 4000000 in
theorem alike_any (w : World) (x y : RV) (a b : Rt) (hx : RAt w w.heap.size x a) (hy : RAt w w.heap.size y b) (wa : WideN a.name) (wb : WideN b.name) :
    Calls Tryz.prog 31 #[x.val a, y.val b] w (Gave w (.bool (alikeB a b))) := by
  obtain ⟨W, hW⟩ : ∃ W, W = (w.alloc (.cells #[.slice x.A a.name.length x.c, .int .i64 a.kind, .int .i64 a.cls, .int .i64 a.ttl, .slice x.d.Ab a.data.bytes.length x.d.cb, .slice x.d.Ah a.data.host.length x.d.ch, .slice x.d.Am a.data.mail.length x.d.cm, .slice x.d.An a.data.nums.length x.d.cn, .slice x.d.At a.data.texts.length x.d.ct] 42)).alloc (.cells #[.slice y.A b.name.length y.c, .int .i64 b.kind, .int .i64 b.cls, .int .i64 b.ttl, .slice y.d.Ab b.data.bytes.length y.d.cb, .slice y.d.Ah b.data.host.length y.d.ch, .slice y.d.Am b.data.mail.length y.d.cm, .slice y.d.An b.data.nums.length y.d.cn, .slice y.d.At b.data.texts.length y.d.ct] 42) := ⟨_, rfl⟩
  have hB : Below w.heap.size w W := by rw [hW]; exact ((Below.refl _ _).alloc (Nat.le_refl _) _).alloc (by simp) _
  have HEQ := Lib.hid (show Calls Tryz.prog 53 #[.slice x.A a.name.length x.c, .slice y.A b.name.length y.c] W (Gave W (.bool (eqN a.name b.name))) from
    equal_wide x.A y.A _ _ x.c y.c w.heap.size a.name b.name W rfl rfl (hx.n.below hB) (hy.n.below hB) hB.size wa wb)
  have HB := Lib.hid hB
  have HA := Lib.hid (show alikeB a b = (decide (a.kind = b.kind) && eqN a.name b.name) from rfl)
  clear hB hx hy wa wb
  subst hW
  by_cases hk : a.kind = b.kind
  · have t : (a.kind == b.kind) = true := by rw [hk]; simp
    rw [decide_eq_true hk] at HA
    clear hk
    go_enter Tryz.func31, Tryz.ntmps31
    go_wp2_with fail
    refine HEQ.out.mono ?_
    rintro e w1 ⟨rfl, hb1⟩
    have HB1 := Lib.hid (HB.out.trans (hb1.mono HB.out.size))
    clear hb1
    go_wp2
    go_ret
    exact ⟨by rw [HA.out]; simp, HB1.out⟩
  · have t : (a.kind == b.kind) = false := by rw [beq_eq_false_iff_ne]; exact hk
    rw [decide_eq_false hk] at HA
    clear hk
    go_enter Tryz.func31, Tryz.ntmps31
    go_wp2
    go_ret
    exact ⟨by rw [HA.out]; rfl, HB.out⟩

end Go.Proofs.YtjkjhpaeckkpjaaGreat

namespace Go.Proofs.YtjkjhpaeckkpjaaGreat
open Go.RowKit

/-- So many of the first n records, or fewer, that they do not end within a set. -/
def wholeN (rs : List Rt) : Nat → Nat
  | 0 => 0
  | n + 1 => if h : n + 1 < rs.length then (if alikeB (rs[n]'(by omega)) rs[n + 1] = true then wholeN rs n else n + 1) else n + 1
theorem wholeN_le (rs : List Rt) : ∀ n, wholeN rs n ≤ n
  | 0 => Nat.le_refl _
  | n + 1 => by
    unfold wholeN
    split
    · split
      · have := wholeN_le rs n
        omega
      · exact Nat.le_refl _
    · exact Nat.le_refl _
def CWholeRel (w : World) (rs : List Rt) (n : Nat) (i : Value) (wr : World) : Prop := ∃ k : Nat, k ≤ n ∧ i = .int .i64 k ∧ wholeN rs k = wholeN rs n ∧ Below w.heap.size w wr

set_option maxRecDepth 20000 in
set_option maxHeartbeats 4000000 in
theorem wholeSets_any (w : World) (A : Option Addr) (c n : Nat) (ps : List (RV × Rt)) (hp : RsAt w w.heap.size A ps) (hw : ∀ p ∈ ps, WideN p.2.name) (_ : ps.length ≤ 100000) (hn : n ≤ 100000) :
    Calls Tryz.prog 17 #[.slice A ps.length c, .int .i64 n] w (Gave w (.int .i64 (wholeN (recs ps) n : Nat))) := by
  have HP := Lib.hid (fun W' (h : Below w.heap.size w W') => hp.below h)
  have HW := Lib.hid hw
  clear hp hw
  go_enter Tryz.func17, Tryz.ntmps17
  go_wp2
  go_loopw [1] (CWholeRel w (recs ps) n) (fun i _ => (intOf i).toNat)
  case atStart => exact ⟨n, Nat.le_refl _, rfl, rfl, Below.refl _ _⟩
  case round =>
  obtain ⟨k, hk, rfl, hwk, hb⟩ := hrel
  have HB := Lib.hid hb
  have HWK := Lib.hid hwk
  have HBD := Lib.hid hb.drew
  clear hb hwk
  by_cases h0 : k = 0
  · subst h0
    go_wp2
    go_quiet (fail)
    go_wp2
    go_ret
    exact ⟨by rw [← HWK.out]; rfl, below_drewN' HB.out _⟩
  by_cases h1 : k < ps.length
  case neg =>
    have d0 : decide ((0 : Int) < (k : Int)) = true := decide_eq_true (by omega)
    have d1 : decide ((k : Int) < (ps.length : Int)) = false := decide_eq_false (by omega)
    have d2 : decide (0 < k) = true := decide_eq_true (by omega)
    have d3 : decide (k < ps.length) = false := decide_eq_false (by omega)
    have HE := Lib.hid (show wholeN (recs ps) k = k by
      cases k with
      | zero => rfl
      | succ j =>
        unfold wholeN
        rw [dif_neg (by rw [length_recs]; omega)])
    clear h0 h1
    go_wp2
    go_quiet (fail)
    go_wp2
    go_ret
    exact ⟨by rw [← HWK.out, HE.out]; rfl, below_drewN' HB.out _⟩
  have d0 : decide ((0 : Int) < (k : Int)) = true := decide_eq_true (by omega)
  have d1 : decide ((k : Int) < (ps.length : Int)) = true := decide_eq_true (by omega)
  have d2 : decide (0 < k) = true := decide_eq_true (by omega)
  have d3 : decide (k < ps.length) = true := decide_eq_true (by omega)
  have hj : k - 1 < ps.length := by omega
  obtain ⟨b1, o1, rfl, hb1, hra, q0, q1, q2, q3, q4, q5, q6, q7, q8⟩ := (HP.out _ HB.out).at_ hj
  obtain ⟨b2, o2, e2, hb2, hrb, r0, r1, r2, r3, r4, r5, r6, r7, r8⟩ := (HP.out _ HB.out).at_ h1
  cases e2
  have hwa := HW.out _ (List.getElem_mem hj)
  have hwb := HW.out _ (List.getElem_mem h1)
  have HE := Lib.hid (show wholeN (recs ps) k = if alikeB (ps[k - 1]).2 (ps[k]).2 = true then wholeN (recs ps) (k - 1) else k by
    obtain ⟨j, rfl⟩ : ∃ j, k = j + 1 := ⟨k - 1, by omega⟩
    have hjl : j + 1 < (recs ps).length := by rw [length_recs]; exact h1
    rw [wholeN, dif_pos hjl]
    simp [recs])
  revert hra q0 q1 q2 q3 q4 q5 q6 q7 q8 hrb r0 r1 r2 r3 r4 r5 r6 r7 r8 hwa hwb HE
  generalize ps[k - 1] = p
  generalize ps[k] = q
  obtain ⟨x, r⟩ := p
  obtain ⟨y, r'⟩ := q
  intro hra q0 q1 q2 q3 q4 q5 q6 q7 q8 hrb r0 r1 r2 r3 r4 r5 r6 r7 r8 hwa hwb HE
  dsimp only at hra q0 q1 q2 q3 q4 q5 q6 q7 q8 hrb r0 r1 r2 r3 r4 r5 r6 r7 r8 hwa hwb HE
  have HCL := Lib.hid (alike_any wr.drew x y r r' ((hra.below (Below.refl w.heap.size wr).drew).mono HB.out.size) ((hrb.below (Below.refl w.heap.size wr).drew).mono HB.out.size) hwa hwb)
  have wa1 : IntKind.i64.wrap ((k : Int) - 1) = (k : Int) - 1 := IntWalk.i64_in _ (by omega)
  have wa2 : (0 : Int) ≤ (k : Int) - 1 := by omega
  have wa3 : (k : Int) - 1 < ps.length := by omega
  have wa4 : ((k : Int) - 1).toNat = k - 1 := by omega
  have wa5 : (1 : Int) ≤ (k : Int) := by omega
  have wa6 : 1 ≤ k := by omega
  clear hra hrb hwa hwb
  go_wp2
  go_still_tail 18, (by kernel_rfl)
  change wpList _ _ _ _ _ wr.drew
  clear q0 q1 q2 q3 q4 q5 q6 q7 q8 r0 r1 r2 r3 r4 r5 r6 r7 r8 wa1 wa2 wa3 wa4 wa6 d0 d1 d2 d3
  go_wp2_with fail
  refine HCL.out.mono ?_
  rintro e w1 ⟨rfl, hb1⟩
  have HB1 := Lib.hid (HBD.out.trans (hb1.mono HBD.out.size))
  clear hb1 HCL
  cases ha : alikeB r r' with
  | false =>
    rw [ha] at HE
    go_wp2
    go_ret
    exact ⟨by rw [← HWK.out, HE.out]; rfl, HB1.out⟩
  | true =>
    rw [ha] at HE
    go_wp2
    refine ⟨⟨k - 1, by omega, by go_num, by rw [← HWK.out, HE.out]; rfl, HB1.out⟩, by simp [intOf]; omega⟩

end Go.Proofs.YtjkjhpaeckkpjaaGreat

namespace Go.Proofs.YtjkjhpaeckkpjaaGreat
open Go.RowKit

/-- The record that Edns and Size are, as bytes. -/
theorem opt_bytes {n : Int} (h : fitB n 2 = true) (B : List UInt8) (R : Rs) : putRR (optR n) B R = (((B ++ [0, 0, 41]) ++ putL [] n 2) ++ [0, 0, 0, 0, 0, 0], R) := by
  obtain ⟨WL, hWL, _, _, hD0⟩ := putRR_eq (B := B) (R := R) (opt_sound h)
  have e1 : putL [] 41 2 = [0, 41] := by decide +kernel
  have e2 : putL [] 0 4 = [0, 0, 0, 0] := by decide +kernel
  have e3 : putL [] 0 2 = [0, 0] := by decide +kernel
  have h8 : putH8 (optR n) B R = (((B ++ [0]) ++ [0, 41]) ++ putL [] n 2) ++ [0, 0, 0, 0] := by
    unfold putH8
    show (((nameW true [] B R).1 ++ putL [] 41 2) ++ putL [] n 2) ++ putL [] 0 4 = _
    rw [nameW_nil, e1, e2]
  have hd : putD0 (optR n) B R = (putH8 (optR n) B R ++ [0, 0], R) := by
    unfold putD0
    show putD (shN 41) ⟨[], [], [], [], []⟩ (putH8 (optR n) B R ++ putL [] 0 2) (nameW true [] B R).2 = _
    rw [nameW_nil, e3]
    unfold putD putM putH
    simp [show (shN 41).host = false by decide +kernel, show (shN 41).mail = false by decide +kernel, numsW, textsW]
  unfold putRR
  rw [hd]
  dsimp only
  rw [show (putH8 (optR n) B R ++ ([0, 0] : List UInt8)).length - ((putH8 (optR n) B R).length + 2) = 0 by simp, show digs 0 2 = [0, 0] by decide +kernel]
  have hs : ∀ P : List UInt8, setB (P ++ [0, 0]) P.length [0, 0] = P ++ [0, 0] := fun P => by
    unfold setB
    simp
  rw [hs, h8]
  simp
theorem enc_all {m : Mt} : encM m = (putRs (if m.h.edns = true then [optR m.h.size] else []) (putRs m.all (putQs m.qs (m.head, [])))).1 := by
  rw [← putRs_append]
  unfold encM Mt.all Mt.exX
  simp only [List.append_assoc]

end Go.Proofs.YtjkjhpaeckkpjaaGreat

namespace Go.Proofs.YtjkjhpaeckkpjaaGreat
open Go.RowKit

/-- What is written of a question or a record hangs on the place alone. -/
theorem putQ_shift (q : Qt) (B C : List UInt8) (R : Rs) (h : B.length = C.length) : ∃ W R', putQ q B R = (B ++ W, R') ∧ putQ q C R = (C ++ W, R') := by
  obtain ⟨W, R', h1, h2⟩ := nameW_shift true q.name B C R h
  refine ⟨(W ++ putL [] q.kind 2) ++ putL [] q.cls 2, R', ?_, ?_⟩
  · unfold putQ
    rw [h1]
    simp
  · unfold putQ
    rw [h2]
    simp
theorem putQs_shift : ∀ (qs : List Qt) (B C : List UInt8) (R : Rs), B.length = C.length → ∃ W R', putQs qs (B, R) = (B ++ W, R') ∧ putQs qs (C, R) = (C ++ W, R')
  | [], B, C, R, _ => ⟨[], R, by simp [putQs], by simp [putQs]⟩
  | q :: qs, B, C, R, h => by
    obtain ⟨W, R', h1, h2⟩ := putQ_shift q B C R h
    obtain ⟨W2, R2, h3, h4⟩ := putQs_shift qs (B ++ W) (C ++ W) R' (by simp [h])
    refine ⟨W ++ W2, R2, ?_, ?_⟩
    · show putQs qs (putQ q B R) = _
      rw [h1, h3, List.append_assoc]
    · show putQs qs (putQ q C R) = _
      rw [h2, h4, List.append_assoc]
theorem putRR_shift {r : Rt} (hs : SoundR r) (B C : List UInt8) (R : Rs) (h : B.length = C.length) : ∃ W R', putRR r B R = (B ++ W, R') ∧ putRR r C R = (C ++ W, R') := by
  obtain ⟨X, R1, x1, x2⟩ := nameW_shift true r.name B C R h
  obtain ⟨W, _, w1, w2, _⟩ := putRR_eq (B := B) (R := R) hs
  obtain ⟨V, _, v1, v2, _⟩ := putRR_eq (B := C) (R := R) hs
  have hB : putH8 r B R = B ++ (((X ++ putL [] r.kind 2) ++ putL [] r.cls 2) ++ putL [] r.ttl 4) := by
    unfold putH8
    rw [x1]
    simp
  have hC : putH8 r C R = C ++ (((X ++ putL [] r.kind 2) ++ putL [] r.cls 2) ++ putL [] r.ttl 4) := by
    unfold putH8
    rw [x2]
    simp
  rw [x1] at w1
  rw [x2] at v1
  obtain ⟨Y, R2, y1, y2⟩ := putD_shift (shN r.kind) r.data (putH8 r B R ++ digs W.length 2) (putH8 r C R ++ digs V.length 2) R1 (by rw [hB, hC]; simp [length_digs, h])
  rw [y1] at w1
  rw [y2] at v1
  rw [w1] at w2
  rw [v1] at v2
  have e1 : Y = W := List.append_cancel_left w2
  have e2 : Y = V := List.append_cancel_left v2
  subst e1; subst e2
  refine ⟨(((X ++ putL [] r.kind 2) ++ putL [] r.cls 2) ++ putL [] r.ttl 4) ++ (digs Y.length 2 ++ Y), R2, ?_, ?_⟩
  · rw [w1, hB]
    simp
  · rw [v1, hC]
    simp
theorem putRs_shift : ∀ (rs : List Rt) (B C : List UInt8) (R : Rs), (∀ r ∈ rs, SoundR r) → B.length = C.length → ∃ W R', putRs rs (B, R) = (B ++ W, R') ∧ putRs rs (C, R) = (C ++ W, R')
  | [], B, C, R, _, _ => ⟨[], R, by simp [putRs], by simp [putRs]⟩
  | r :: rs, B, C, R, hs, h => by
    obtain ⟨W, R', h1, h2⟩ := putRR_shift (hs r (List.mem_cons_self ..)) B C R h
    obtain ⟨W2, R2, h3, h4⟩ := putRs_shift rs (B ++ W) (C ++ W) R' (fun x hx => hs x (List.mem_cons_of_mem _ hx)) (by simp [h])
    refine ⟨W ++ W2, R2, ?_, ?_⟩
    · show putRs rs (putRR r B R) = _
      rw [h1, h3, List.append_assoc]
    · show putRs rs (putRR r C R) = _
      rw [h2, h4, List.append_assoc]

/-- The message with the first n of its records alone. -/
def Mt.first (m : Mt) (n : Nat) : Mt := ⟨{ m.h with tc := m.h.tc || decide (n < m.an.length + m.au.length) }, m.qs, m.an.take n, m.au.take (n - m.an.length), m.ex.take (n - m.an.length - m.au.length)⟩
theorem first_msg (m : MV) (n : Nat) : (m.first n).msg = m.msg.first n := by
  have e : ∀ (ps : List (RV × Rt)) k, recs (ps.take k) = (recs ps).take k := fun ps k => by unfold recs; rw [List.map_take]
  show Mt.mk _ _ (recs (m.s0.ps.take n)) (recs (m.s1.ps.take (n - m.s0.ps.length))) (recs (m.s2.ps.take (n - m.s0.ps.length - m.s1.ps.length))) = _
  rw [e, e, e]
  unfold Mt.first MV.msg
  dsimp only
  rw [length_recs, length_recs]
  rfl
theorem first_all (m : Mt) (n : Nat) : (m.first n).all = m.all.take n := by
  unfold Mt.all Mt.first
  dsimp only
  rw [List.take_append, List.take_append]
theorem Mt.all_length (m : Mt) : m.all.length = m.an.length + (m.au.length + m.ex.length) := by
  unfold Mt.all
  rw [List.length_append, List.length_append]
theorem first_whole {m : Mt} {n : Nat} (h : m.all.length ≤ n) : m.first n = m := by
  rw [Mt.all_length] at h
  unfold Mt.first
  rw [List.take_of_length_le (by omega), List.take_of_length_le (by omega), List.take_of_length_le (by omega), decide_eq_false (by omega), Bool.or_false]
theorem first_sound {m : Mt} (hs : SoundM m) (n : Nat) : SoundM (m.first n) := by
  refine ⟨hs.h, ?_, hs.q, fun r hr => ?_⟩
  · have h1 := hs.n
    show m.qs.length + (m.an.take n).length + (m.au.take (n - m.an.length)).length + (m.ex.take (n - m.an.length - m.au.length)).length ≤ 512
    rw [List.length_take, List.length_take, List.length_take]
    omega
  · rw [first_all] at hr
    exact hs.r r (List.mem_of_mem_take hr)

/-- How long the first n records are, with all that stands ahead of them. -/
def lenF (m : Mt) (n : Nat) : Nat := (putRs (m.all.take n) (putQs m.qs (m.head, []))).1.length + (if m.h.edns = true then 11 else 0)
theorem first_len {m : Mt} (hs : SoundM m) (n : Nat) : (encM (m.first n)).length = lenF m n := by
  have h1 := length_head hs
  have h2 := length_head (first_sound hs n)
  obtain ⟨W, R1, w1, w2⟩ := putQs_shift m.qs m.head (m.first n).head [] (by rw [h1, h2])
  obtain ⟨V, R2, v1, v2⟩ := putRs_shift (m.all.take n) (m.head ++ W) ((m.first n).head ++ W) R1 (fun r hr => (soundX_iff.1 (hs.r r (List.mem_of_mem_take hr))).2) (by rw [List.length_append, List.length_append, h1, h2])
  have hz : fitB m.h.size 2 = true := by
    have hh := hs.h
    unfold soundH at hh
    simp only [Bool.and_eq_true] at hh
    exact hh.2.2.2.1
  have l2 : (putL [] m.h.size 2).length = 2 := by rw [(fit2 hz).2.2.1]; simp [length_digs]
  rw [enc_all, first_all]
  unfold lenF
  show (putRs (if m.h.edns = true then [optR m.h.size] else []) (putRs (m.all.take n) (putQs m.qs ((m.first n).head, [])))).1.length = _
  rw [w1, w2, v1, v2]
  cases m.h.edns with
  | false =>
    simp only [Bool.false_eq_true, if_false]
    show ((m.first n).head ++ W ++ V).length = (m.head ++ W ++ V).length + 0
    simp only [List.length_append, h1, h2]
    omega
  | true =>
    simp only [if_true]
    show (putRR (optR m.h.size) ((m.first n).head ++ W ++ V) R2).1.length = (m.head ++ W ++ V).length + 11
    rw [opt_bytes hz]
    simp only [List.length_append, h1, h2, l2, List.length_cons, List.length_nil]
theorem lenF_mono {m : Mt} (hs : SoundM m) {a b : Nat} (h : a ≤ b) : lenF m a ≤ lenF m b := by
  have hq := (putQs_good m.qs (m.head, []) (GoodR.nil _) hs.q).g
  have hr : ∀ r ∈ m.all, SoundR r := fun r h => (soundX_iff.1 (hs.r r h)).2
  have h1 := (putRs_good (m.all.take a) _ hq fun r h => hr r (List.mem_of_mem_take h)).g
  have e : m.all.take b = m.all.take a ++ (m.all.take b).drop a := by
    have := List.take_append_drop a (m.all.take b)
    rw [List.take_take, Nat.min_eq_left h] at this
    exact this.symm
  obtain ⟨S, hS⟩ := (putRs_good ((m.all.take b).drop a) _ h1 fun r h => hr r (List.mem_of_mem_take (List.mem_of_mem_drop h))).x
  unfold lenF
  rw [e, putRs_append, hS, List.length_append]
  omega
/-- Do the first n of the records fit? -/
theorem fits_first {m : Mt} (hs : SoundM m) {s : Int} (hs2 : s ≤ 65535) (n : Nat) : fitE (encE (m.first n)) s = if (lenF m n : Int) ≤ s then some (encM (m.first n)) else none := by
  have h1 := first_len hs n
  unfold encE
  rw [if_pos (soundM_iff.2 (first_sound hs n)), h1]
  by_cases h : (lenF m n : Int) ≤ s
  · rw [if_neg (by omega)]
    show (if ((encM (m.first n)).length : Int) ≤ s then _ else _) = _
    rw [h1, if_pos h]
  · rw [if_neg h]
    split
    · rfl
    · show (if ((encM (m.first n)).length : Int) ≤ s then _ else _) = _
      rw [h1, if_neg h]
theorem tooBig_iff {m : MV} (hs : SoundM m.msg) {s : Int} (hs2 : s ≤ 65535) (i : Nat) : tooBig m s i = !decide ((lenF m.msg (i + 1) : Int) ≤ s) := by
  unfold tooBig
  rw [first_msg, fits_first hs hs2]
  split <;> rename_i h
  · rw [decide_eq_true h]; rfl
  · rw [decide_eq_false h]; rfl
theorem tooBig_mono {m : MV} (hs : SoundM m.msg) {s : Int} (hs2 : s ≤ 65535) (a b : Nat) (h : a ≤ b) (ha : tooBig m s a = true) : tooBig m s b = true := by
  rw [tooBig_iff hs hs2] at ha ⊢
  simp only [Bool.not_eq_true', decide_eq_false_iff_not] at ha ⊢
  have := lenF_mono hs (show a + 1 ≤ b + 1 by omega)
  omega

/-- Alike is an equivalence. -/
theorem alikeB_iff {a b : Rt} : alikeB a b = true ↔ a.kind = b.kind ∧ lowN a.name = lowN b.name := by
  unfold alikeB eqN
  rw [Bool.and_eq_true, decide_eq_true_eq, decide_eq_true_eq]
theorem wholeN_stop (rs : List Rt) : ∀ n, wholeN rs (wholeN rs n) = wholeN rs n
  | 0 => rfl
  | n + 1 => by
    by_cases h1 : n + 1 < rs.length
    · by_cases h2 : alikeB (rs[n]'(by omega)) rs[n + 1] = true
      · have e : wholeN rs (n + 1) = wholeN rs n := by rw [wholeN, dif_pos h1, if_pos h2]
        rw [e]
        exact wholeN_stop rs n
      · have e : wholeN rs (n + 1) = n + 1 := by rw [wholeN, dif_pos h1, if_neg h2]
        rw [e, e]
    · have e : wholeN rs (n + 1) = n + 1 := by rw [wholeN, dif_neg h1]
      rw [e, e]
/-- It is the last end of a set that is not behind n. -/
theorem wholeN_last (rs : List Rt) : ∀ n k, k ≤ n → wholeN rs k = k → k ≤ wholeN rs n
  | 0, k, hk, _ => by rw [Nat.le_zero.1 hk]; exact Nat.zero_le _
  | n + 1, k, hk, hst => by
    rcases Nat.lt_or_ge n k with h | h
    · obtain rfl : k = n + 1 := by omega
      rw [hst]
      exact Nat.le_refl _
    · have h0 := wholeN_last rs n k h hst
      by_cases h1 : n + 1 < rs.length
      · by_cases h2 : alikeB (rs[n]'(by omega)) rs[n + 1] = true
        · rw [wholeN, dif_pos h1, if_pos h2]
          exact h0
        · rw [wholeN, dif_pos h1, if_neg h2]
          omega
      · rw [wholeN, dif_neg h1]
        omega
theorem wholeN_big {rs : List Rt} {n : Nat} (h : rs.length ≤ n) : wholeN rs n = n := by
  cases n with
  | zero => rfl
  | succ n => rw [wholeN, dif_neg (by omega)]
/-- Between two alike records no set ends. -/
theorem wholeN_mid {rs : List Rt} {n : Nat} (h1 : n + 1 < rs.length) (h2 : alikeB (rs[n]'(by omega)) rs[n + 1] = true) : wholeN rs (n + 1) ≠ n + 1 := by
  rw [wholeN, dif_pos h1, if_pos h2]
  have := wholeN_le rs n
  omega
theorem wholeN_end {rs : List Rt} {n : Nat} (h1 : n + 1 < rs.length) (h2 : alikeB (rs[n]'(by omega)) rs[n + 1] = false) : wholeN rs (n + 1) = n + 1 := by
  rw [wholeN, dif_pos h1, if_neg (by rw [h2]; decide)]

/-- k is the last end of a set at which m fits into s bytes; 0, if it fits at none. -/
structure LastFit (m : Mt) (s : Int) (k : Nat) : Prop where
  le : k ≤ m.all.length
  stop : wholeN m.an k = k
  last : ∀ n, n ≤ m.all.length → wholeN m.an n = n → (lenF m n : Int) ≤ s → n ≤ k
  fits : k = 0 ∨ (lenF m k : Int) ≤ s
/-- What is left of a message that must fit into s bytes, of its first k records. -/
def cutR (m : Mt) (s : Int) (k : Nat) : Except Nat (List UInt8) := if (lenF m k : Int) ≤ s then .ok (encM (m.first k)) else .error 4
theorem LastFit.uniq {m : Mt} {s : Int} {k l : Nat} (h : LastFit m s k) (g : LastFit m s l) : k = l := by
  rcases h.fits with rfl | h1
  · rcases g.fits with rfl | g1
    · rfl
    · have := h.last l g.le g.stop g1
      omega
  · have a1 := g.last k h.le h.stop h1
    rcases g.fits with rfl | g1
    · omega
    · have a2 := h.last l g.le g.stop g1
      omega
theorem lastFit_whole {m : Mt} {s : Int} (h : (lenF m m.all.length : Int) ≤ s) : LastFit m s m.all.length :=
  ⟨Nat.le_refl _, wholeN_big (by rw [Mt.all_length]; omega), fun _ hn _ _ => hn, .inr h⟩
theorem lastFit_first {m : MV} (hs : SoundM m.msg) {s : Int} (hs2 : s ≤ 65535) {r : Nat} (hr : FirstYes (tooBig m s) (m.s0.ps.length + m.s1.ps.length + m.s2.ps.length) r) : LastFit m.msg s (wholeN m.msg.an r) := by
  have hl : m.msg.all.length = m.s0.ps.length + m.s1.ps.length + m.s2.ps.length := by rw [all_len]; omega
  have hw := wholeN_le m.msg.an r
  have hrl := hr.le
  refine ⟨by omega, wholeN_stop _ _, fun n hn hst hf => ?_, ?_⟩
  · refine wholeN_last _ _ _ ?_ hst
    rcases Nat.lt_or_ge r n with h | h
    · have h1 := hr.yes (by omega)
      rw [tooBig_iff hs hs2] at h1
      simp only [Bool.not_eq_true', decide_eq_false_iff_not] at h1
      have := lenF_mono hs (show r + 1 ≤ n by omega)
      omega
    · exact h
  · cases r with
    | zero => exact .inl (Nat.le_zero.1 hw)
    | succ r =>
      have h1 := hr.no r (Nat.lt_succ_self r)
      rw [tooBig_iff hs hs2] at h1
      simp only [Bool.not_eq_false', decide_eq_true_eq] at h1
      have := lenF_mono hs hw
      exact .inr (by omega)

/-- What Fit answers. -/
def FitIs (m : Mt) (s : Int) (res : Except Nat (List UInt8)) : Prop :=
  if s < 512 ∨ 65535 < s then res = .error 1 else if soundM m = false then res = .error 2 else ∃ k, LastFit m s k ∧ res = cutR m s k
theorem FitIs.uniq {m : Mt} {s : Int} {r t : Except Nat (List UInt8)} (h : FitIs m s r) (g : FitIs m s t) : r = t := by
  unfold FitIs at h g
  split at h
  · rw [if_pos (by assumption)] at g
    rw [h, g]
  · rw [if_neg (by assumption)] at g
    split at h
    · rw [if_pos (by assumption)] at g
      rw [h, g]
    · rw [if_neg (by assumption)] at g
      obtain ⟨k, hk, rfl⟩ := h
      obtain ⟨l, hl, rfl⟩ := g
      rw [hk.uniq hl]
theorem fitIs_of {m : Mt} (hs : SoundM m) {s : Int} (h1 : ¬ s < 512) (h2 : ¬ 65535 < s) {k : Nat} (hk : LastFit m s k) : FitIs m s (cutR m s k) := by
  unfold FitIs
  rw [if_neg (by omega), if_neg (by rw [soundM_iff.2 hs]; decide)]
  exact ⟨k, hk, rfl⟩
theorem fitIs_whole {m : Mt} (hs : SoundM m) {s : Int} (h1 : ¬ s < 512) (h2 : ¬ 65535 < s) {b : List UInt8} (hb : fitE (encE m) s = some b) : FitIs m s (.ok b) := by
  have e := fits_first hs (show s ≤ 65535 by omega) m.all.length
  rw [first_whole (Nat.le_refl _), hb] at e
  by_cases h : (lenF m m.all.length : Int) ≤ s
  · rw [if_pos h] at e
    injection e with e
    have h3 := fitIs_of hs h1 h2 (lastFit_whole h)
    unfold cutR at h3
    rw [if_pos h, first_whole (Nat.le_refl _)] at h3
    rw [e]
    exact h3
  · rw [if_neg h] at e
    cases e
def orLarge : Option (List UInt8) → Except Nat (List UInt8)
  | some b => .ok b
  | none => .error 4
theorem fitIs_first {m : MV} (hs : SoundM m.msg) {s : Int} (h1 : ¬ s < 512) (h2 : ¬ 65535 < s) {r : Nat} (hr : FirstYes (tooBig m s) (m.s0.ps.length + m.s1.ps.length + m.s2.ps.length) r) : FitIs m.msg s (orLarge (fitE (encE (m.first (wholeN m.msg.an r)).msg) s)) := by
  have h3 := fitIs_of hs h1 h2 (lastFit_first hs (by omega) hr)
  rw [first_msg, fits_first hs (by omega)]
  unfold cutR at h3
  split <;> rename_i h
  · rw [if_pos h] at h3
    exact h3
  · rw [if_neg h] at h3
    exact h3

end Go.Proofs.YtjkjhpaeckkpjaaGreat

namespace Go.Proofs.YtjkjhpaeckkpjaaGreat
open Go.RowKit

def CFitOut (w : World) (m : MV) (s : Int) (e : Ending) (w' : World) : Prop := ∃ res, FitIs m.msg s res ∧ EncOut w res e w'

set_option maxRecDepth 20000 in
set_option maxHeartbeats 8000000 in
theorem cfit_core (w : World) (s : Int) (m : MV) (h : Hd) (qA : Option Addr) (qc : Nat) (qp : List (QV × Qt)) (A0 A1 A2 : Option Addr) (k0 k1 k2 : Nat) (p0 p1 p2 : List (RV × Rt)) (he : m = ⟨h, qA, qc, qp, ⟨A0, k0, p0⟩, ⟨A1, k1, p1⟩, ⟨A2, k2, p2⟩⟩)
    (hm : MAt w w.heap.size m) (hi : MIn m) (ho : OwnedM w m) (hc : ∀ i, (m.sec i).ps.length ≤ (m.sec i).c) (hcm : m.s2.c ≤ maxLen) :
    Calls Tryz.prog 7 #[valM h (.slice qA qp.length qc) (.slice A0 p0.length k0) (.slice A1 p1.length k1) (.slice A2 p2.length k2), .int .i64 s] w (CFitOut w m s) := by
  obtain ⟨W, hW⟩ : ∃ W, W = w.alloc (.cells #[.int .i64 h.id, .bool h.resp, .int .i64 h.op, .bool h.aa, .bool h.tc, .bool h.rd, .bool h.ra, .int .i64 h.rc, .slice qA qp.length qc, .slice A0 p0.length k0, .slice A1 p1.length k1, .slice A2 p2.length k2, .bool h.edns, .int .i64 h.size] 25) := ⟨_, rfl⟩
  have hB : Below w.heap.size w W := by rw [hW]; exact (Below.refl _ _).alloc (Nat.le_refl _) _
  have hzW : W.heap.size = w.heap.size + 1 := by rw [hW]; simp
  have hwm : Whole W w.heap.size 25 (cellsM h (.slice qA qp.length qc) (.slice A0 p0.length k0) (.slice A1 p1.length k1) (.slice A2 p2.length k2)) := by rw [hW]; exact Whole.made w [.int .i64 h.id, .bool h.resp, .int .i64 h.op, .bool h.aa, .bool h.tc, .bool h.rd, .bool h.ra, .int .i64 h.rc, .slice qA qp.length qc, .slice A0 p0.length k0, .slice A1 p1.length k1, .slice A2 p2.length k2, .bool h.edns, .int .i64 h.size] _
  have ev : m.val = valM h (.slice qA qp.length qc) (.slice A0 p0.length k0) (.slice A1 p1.length k1) (.slice A2 p2.length k2) := by rw [he]
  have HC := Lib.hid (fun (W' : World) (hb : Below W.heap.size W W') => cells14 (hwm.below hb (by omega)))
  have HW := Lib.hid (fun (W' : World) (hb : Below W.heap.size W W') => hB.trans (hb.mono hB.size))
  have HSD := Lib.hid (fun (W' : World) (hb : Below W.heap.size W W') => (show Calls Tryz.prog 15 #[valM h (.slice qA qp.length qc) (.slice A0 p0.length k0) (.slice A1 p1.length k1) (.slice A2 p2.length k2)] W' (Gave W' (.bool (soundM m.msg))) from by
    have h1 := msound_any W' m ((hm.below (HW.out _ hb)).mono (HW.out _ hb).size) hi
    rwa [ev] at h1))
  have HEN := Lib.hid (fun (W' : World) (hb : Below W.heap.size W W') => (show Calls Tryz.prog 16 #[valM h (.slice qA qp.length qc) (.slice A0 p0.length k0) (.slice A1 p1.length k1) (.slice A2 p2.length k2), .int .i64 s] W' (CEncOut W' (fitE (encE m.msg) s)) from by
    have h1 := cencode_any W' m s ((hm.below (HW.out _ hb)).mono (HW.out _ hb).size) hi (ho.below (HW.out _ hb)) ⟨hc 2, hcm⟩
    rwa [ev] at h1))
  have HMO := Lib.hid (fun (hs : SoundM m.msg) (hs2 : s ≤ 65535) (W' : World) (hb : Below W.heap.size W W') => (show Calls Tryz.prog 18 #[valM h (.slice qA qp.length qc) (.slice A0 p0.length k0) (.slice A1 p1.length k1) (.slice A2 p2.length k2), .int .i64 s] W' (MostOut W' m s) from by
    have h1 := most_any W' s m ((hm.below (HW.out _ hb)).mono (HW.out _ hb).size) hi (ho.below (HW.out _ hb)) hc (fun a b hab _ => tooBig_mono hs hs2 a b hab)
    rwa [ev] at h1))
  have HWS := Lib.hid (fun (r : Nat) (hr : r ≤ 100000) (W' : World) (hb : Below W.heap.size W W') => (show Calls Tryz.prog 17 #[.slice A0 p0.length k0, .int .i64 r] W' (Gave W' (.int .i64 (wholeN (recs m.s0.ps) r : Nat))) from by
    have h0 := (hm.below (HW.out _ hb)).s0.mono (HW.out _ hb).size
    have h1 := wholeSets_any W' m.s0.A m.s0.c r m.s0.ps h0 (fun p hp => (hi.r 0 p hp).1.n) (by have := hi.rl 0; exact Nat.le_trans this (by omega)) hr
    rw [he] at h1 ⊢
    exact h1))
  have HFI := Lib.hid (fun (r : Nat) (hr : r ≤ 100000) (W' : World) (hb : Below W.heap.size W W') => (show Calls Tryz.prog 19 #[valM h (.slice qA qp.length qc) (.slice A0 p0.length k0) (.slice A1 p1.length k1) (.slice A2 p2.length k2), .int .i64 r] W' (Gave W' (m.first r).val) from by
    have h1 := first_any W' m r hr hi.rl hc
    rw [ev] at h1
    exact h1))
  have HE2 := Lib.hid (fun (r : Nat) (W' : World) (hb : Below W.heap.size W W') => (show Calls Tryz.prog 16 #[(m.first r).val, .int .i64 s] W' (CEncOut W' (fitE (encE (m.first r).msg) s)) from
    cencode_any W' (m.first r) s ((first_at (hm.below (HW.out _ hb)) r).mono (HW.out _ hb).size) (first_in hi _) ((first_owned ho _).below (HW.out _ hb)) (first_cap m _ (hi.rl 2))))
  have HN := Lib.hid (show m.s0.ps.length + m.s1.ps.length + m.s2.ps.length ≤ 3000 by have h0 := hi.rl 0; have h1 := hi.rl 1; have h2 := hi.rl 2; have e0 : (m.sec 0).ps.length = m.s0.ps.length := rfl; have e1 : (m.sec 1).ps.length = m.s1.ps.length := rfl; have e2 : (m.sec 2).ps.length = m.s2.ps.length := rfl; omega)
  have HRF := Lib.hid (Below.refl W.heap.size W)
  clear hB hzW hwm hm hi ho hc hcm ev he
  by_cases hs1 : s < 512
  · have d0 : decide (s < 512) = true := decide_eq_true hs1
    have HI := Lib.hid (show FitIs m.msg s (.error 1) from by unfold FitIs; rw [if_pos (.inl hs1)])
    have HBW := Lib.hid (HW.out W HRF.out)
    clear hs1
    subst hW
    go_enter Tryz.func7, Tryz.ntmps7
    go_wp2
    refine ⟨rfl, .tuple #[.slice none 0 0, .int .i64 1], by simp [results, Tryz.results7, go_sem], ?_⟩
    exact ⟨_, HI.out, HBW.out, rfl⟩
  by_cases hs2 : 65535 < s
  · have d0 : decide (s < 512) = false := decide_eq_false hs1
    have d1 : decide (65535 < s) = true := decide_eq_true hs2
    have HI := Lib.hid (show FitIs m.msg s (.error 1) from by unfold FitIs; rw [if_pos (.inr hs2)])
    have HBW := Lib.hid (HW.out W HRF.out)
    clear hs1 hs2
    subst hW
    go_enter Tryz.func7, Tryz.ntmps7
    go_wp2
    refine ⟨rfl, .tuple #[.slice none 0 0, .int .i64 1], by simp [results, Tryz.results7, go_sem], ?_⟩
    exact ⟨_, HI.out, HBW.out, rfl⟩
  have d0 : decide (s < 512) = false := decide_eq_false hs1
  have d1 : decide (65535 < s) = false := decide_eq_false hs2
  cases hsd : soundM m.msg with
  | false =>
    have HI := Lib.hid (show FitIs m.msg s (.error 2) from by unfold FitIs; rw [if_neg (by omega), if_pos hsd])
    rw [hsd] at HSD
    clear hs1 hs2 hsd HEN HMO HWS HFI HE2 HN HC
    subst hW
    go_enter Tryz.func7, Tryz.ntmps7
    go_wp2_with fail
    refine (HSD.out _ HRF.out).mono ?_
    rintro e w1 ⟨rfl, hb1⟩
    have HB1 := Lib.hid (HW.out _ hb1)
    clear hb1
    go_wp2
    refine ⟨rfl, .tuple #[.slice none 0 0, .int .i64 2], by simp [results, Tryz.results7, go_sem], ?_⟩
    exact ⟨_, HI.out, HB1.out, rfl⟩
  | true =>
  have hsm := soundM_iff.1 hsd
  have HFW := Lib.hid (fun b (hb : fitE (encE m.msg) s = some b) => fitIs_whole hsm hs1 hs2 hb)
  have HFF := Lib.hid (fun r (hr : FirstYes (tooBig m s) (m.s0.ps.length + m.s1.ps.length + m.s2.ps.length) r) => (show FitIs m.msg s (orLarge (fitE (encE (m.first (wholeN (recs m.s0.ps) r)).msg) s)) from fitIs_first hsm hs1 hs2 hr))
  have HMO := Lib.hid (HMO.out hsm (by omega))
  rw [hsd] at HSD
  clear hs1 hs2 hsd hsm
  subst hW
  go_enter Tryz.func7, Tryz.ntmps7
  go_wp2_with fail
  refine (HSD.out _ HRF.out).mono ?_
  rintro e w1 ⟨rfl, hb1⟩
  generalize w.alloc (.cells #[.int .i64 h.id, .bool h.resp, .int .i64 h.op, .bool h.aa, .bool h.tc, .bool h.rd, .bool h.ra, .int .i64 h.rc, .slice qA qp.length qc, .slice A0 p0.length k0, .slice A1 p1.length k1, .slice A2 p2.length k2, .bool h.edns, .int .i64 h.size] 25) = V at *
  have HB1 := Lib.hid hb1
  clear hb1 d0 d1 HSD
  obtain ⟨m0, m1, m2, m3, m4, m5, m6, m7, m8, m9, m10, m11, m12, m13⟩ := HC.out w1 HB1.out
  go_wp2_with fail
  refine (HEN.out _ HB1.out).mono ?_
  intro e w2 he2
  clear m0 m1 m2 m3 m4 m5 m6 m7 m8 m9 m10 m11 m12 m13
  cases hf : fitE (encE m.msg) s with
  | some b =>
    rw [hf] at he2
    obtain ⟨hb2, A, c, rfl, ho⟩ := he2
    have HI := Lib.hid (HFW.out b hf)
    have HB2 := Lib.hid (HW.out _ (HB1.out.trans (hb2.mono HB1.out.size)))
    have HO := Lib.hid (own_mono ho (HW.out _ HB1.out).size)
    clear hb2 ho hf HFW HFF HMO HEN HWS HFI HE2 HN HC HW HB1
    go_wp2
    refine ⟨rfl, .tuple #[.slice A b.length c, .int .i64 0], by simp [results, Tryz.results7, go_sem], ?_⟩
    exact ⟨_, HI.out, HB2.out, A, c, rfl, HO.out⟩
  | none =>
  rw [hf] at he2
  obtain ⟨hb2, rfl⟩ := he2
  have HBX := Lib.hid ((HB1.out.trans (hb2.mono HB1.out.size)).drew)
  have HBY := Lib.hid (HB1.out.trans (hb2.mono HB1.out.size))
  clear hb2 hf HB1 HFW HEN
  go_wp2
  go_region_held3 (fun X => X.cell? ⟨w.heap.size, 0, none⟩ = some (.int .i64 h.id) ∧ X.cell? ⟨w.heap.size, 1, none⟩ = some (.bool h.resp) ∧ X.cell? ⟨w.heap.size, 2, none⟩ = some (.int .i64 h.op) ∧ X.cell? ⟨w.heap.size, 3, none⟩ = some (.bool h.aa) ∧ X.cell? ⟨w.heap.size, 4, none⟩ = some (.bool h.tc) ∧ X.cell? ⟨w.heap.size, 5, none⟩ = some (.bool h.rd) ∧ X.cell? ⟨w.heap.size, 6, none⟩ = some (.bool h.ra) ∧ X.cell? ⟨w.heap.size, 7, none⟩ = some (.int .i64 h.rc) ∧ X.cell? ⟨w.heap.size, 8, none⟩ = some (.slice qA qp.length qc) ∧ X.cell? ⟨w.heap.size, 9, none⟩ = some (.slice A0 p0.length k0) ∧ X.cell? ⟨w.heap.size, 10, none⟩ = some (.slice A1 p1.length k1) ∧ X.cell? ⟨w.heap.size, 11, none⟩ = some (.slice A2 p2.length k2) ∧ X.cell? ⟨w.heap.size, 12, none⟩ = some (.bool h.edns) ∧ X.cell? ⟨w.heap.size, 13, none⟩ = some (.int .i64 h.size))
    (exact HC.out _ HBX.out)
    ((first
      | (go_at_call 18
         refine (HMO.out _ HBX.out).mono ?_
         rintro e wn ⟨hb, r, rfl, hr⟩
         have HR := Lib.hid hr
         have hrl : r ≤ 100000 := by have h1 := hr.le; have h2 := HN.out; omega
         have HBX := Lib.hid (HBX.out.trans (hb.mono HBX.out.size))
         clear hb hr)
      | (go_at_call 17
         refine (HWS.out r hrl _ HBX.out).mono ?_
         rintro e wn ⟨rfl, hb⟩
         have HBX := Lib.hid (HBX.out.trans (hb.mono HBX.out.size))
         clear hb)))
  all_goals
    rename_i hheld
    clear hheld
    have hkl := Nat.le_trans (wholeN_le (recs m.s0.ps) r) hrl
    have HF1 := Lib.hid (fun (W' : World) (hb : Below V.heap.size V W') => HFI.out (wholeN (recs m.s0.ps) r) hkl W' hb)
    have HE1 := Lib.hid (fun (W' : World) (hb : Below V.heap.size V W') => HE2.out (wholeN (recs m.s0.ps) r) W' hb)
    have HFO := Lib.hid (HFF.out r HR.out)
    clear HFF HFI HE2 HMO HWS HR HN
    obtain ⟨m0, m1, m2, m3, m4, m5, m6, m7, m8, m9, m10, m11, m12, m13⟩ := HC.out _ HBX.out
    revert HF1 HE1 HFO hkl
    generalize wholeN (recs m.s0.ps) r = kk
    intro hkl HF1 HE1 HFO
    revert HF1 HE1 HFO
    generalize (m.first kk).val = fv
    generalize fitE (encE (m.first kk).msg) s = o
    intro HF1 HE1 HFO
    go_wp2_with fail
    refine (HF1.out _ HBX.out).mono ?_
    rintro e w4 ⟨rfl, hb4⟩
    have HB4 := Lib.hid (HBX.out.trans (hb4.mono HBX.out.size))
    clear hb4 m0 m1 m2 m3 m4 m5 m6 m7 m8 m9 m10 m11 m12 m13
    go_wp2_with fail
    refine (HE1.out _ HB4.out).mono ?_
    intro e w5 he5
    cases o with
    | some b =>
      obtain ⟨hb5, A, c, rfl, ho⟩ := he5
      have HB5 := Lib.hid (HW.out _ (HB4.out.trans (hb5.mono HB4.out.size)))
      have HO := Lib.hid (own_mono ho (HW.out _ HB4.out).size)
      clear hb5 ho HF1 HE1 HC HW HB4
      go_wp2
      refine ⟨rfl, .tuple #[.slice A b.length c, .int .i64 0], by simp [results, Tryz.results7, go_sem], ?_⟩
      exact ⟨_, HFO.out, HB5.out, A, c, rfl, HO.out⟩
    | none =>
      obtain ⟨hb5, rfl⟩ := he5
      have HB5 := Lib.hid (HW.out _ (HB4.out.trans (hb5.mono HB4.out.size)))
      clear hb5 HF1 HE1 HC HW HB4
      go_wp2
      refine ⟨rfl, .tuple #[.slice none 0 0, .int .i64 4], by simp [results, Tryz.results7, go_sem], ?_⟩
      exact ⟨_, HFO.out, HB5.out, rfl⟩
theorem cfit_any (w : World) (s : Int) (m : MV) (hm : MAt w w.heap.size m) (hi : MIn m) (ho : OwnedM w m) (hc : ∀ i, (m.sec i).ps.length ≤ (m.sec i).c) (hcm : m.s2.c ≤ maxLen) :
    Calls Tryz.prog 7 #[m.val, .int .i64 s] w (CFitOut w m s) := by
  obtain ⟨h, qA, qc, qp, ⟨A0, k0, p0⟩, ⟨A1, k1, p1⟩, ⟨A2, k2, p2⟩⟩ := m
  exact cfit_core w s _ h qA qc qp A0 A1 A2 k0 k1 k2 p0 p1 p2 rfl hm hi ho hc hcm

end Go.Proofs.YtjkjhpaeckkpjaaGreat

namespace Go.Proofs.YtjkjhpaeckkpjaaGreat
open Go.RowKit

theorem encOut_no {w w' : World} {r : Except Nat (List UInt8)} {e : Ending} {k : Nat} (h : EncOut w r e w') (hr : r = .error k) : e = .returned (.tuple #[.slice none 0 0, .int .i64 k]) ∧ Below w.heap.size w w' := by
  subst hr
  exact ⟨h.2, h.1⟩
theorem encOut_yes {w w' : World} {r : Except Nat (List UInt8)} {e : Ending} {l : List UInt8} (h : EncOut w r e w') (hr : r = .ok l) : ∃ A c, e = .returned (.tuple #[.slice A l.length c, .int .i64 0]) ∧ w'.ownsRow w.heap.size 5 1 (.slice A l.length c) l.length (l.map bc) ∧ Below w.heap.size w w' := by
  subst hr
  obtain ⟨h1, A, c, h2, h3⟩ := h
  exact ⟨A, c, h2, h3, h1⟩
theorem decOut_yes {w w' : World} {r : Except Nat Mt} {e : Ending} {x : Mt} (h : DecOut w r e w') (hr : r = .ok x) : ∃ m : MV, e = .returned (.tuple #[m.val, .int .i64 0]) ∧ m.msg = x ∧ DOwn w' w.heap.size m ∧ Below w.heap.size w w' := by
  subst hr
  obtain ⟨h1, m, h2, h3, h4⟩ := h
  exact ⟨m, h2, h3, h4, h1⟩
/-- What Fit answers of a sound message within a size that may be. -/
theorem fitIs_sound {m : Mt} (hs : SoundM m) {s : Int} (h1 : 512 ≤ s) (h2 : s ≤ 65535) {res : Except Nat (List UInt8)} (h : FitIs m s res) :
    ∃ k, LastFit m s k ∧ ((res = .error 4 ∧ ¬ (lenF m k : Int) ≤ s) ∨ ((lenF m k : Int) ≤ s ∧ res = .ok (encM (m.first k)) ∧ (encM (m.first k)).length = lenF m k ∧ decM (encM (m.first k)) = .ok (m.first k))) := by
  unfold FitIs at h
  rw [if_neg (by omega), if_neg (by rw [soundM_iff.2 hs]; decide)] at h
  obtain ⟨k, hk, rfl⟩ := h
  refine ⟨k, hk, ?_⟩
  have hl := first_len hs k
  unfold cutR
  split <;> rename_i hf
  · have h3 := dec_enc (first_sound hs k) [] (by simp; omega)
    simp only [List.append_nil, if_true] at h3
    exact .inr ⟨hf, rfl, hl, h3⟩
  · exact .inl ⟨rfl, hf⟩
theorem cut_more {m : Mt} (hs : SoundM m) {n k : Int} (h1 : 512 ≤ n) (hnk : n ≤ k) (h2 : k ≤ 65535) {r1 r2 : Except Nat (List UInt8)} (f1 : FitIs m n r1) (f2 : FitIs m k r2) :
    r1 = .error 4 ∨ ∃ a b x y, r1 = .ok a ∧ r2 = .ok b ∧ decM a = .ok x ∧ decM b = .ok y ∧ a.length ≤ b.length ∧ x.an.length ≤ y.an.length ∧ x.au.length ≤ y.au.length ∧ x.ex.length ≤ y.ex.length ∧ (x.h.tc = true ∨ (x.h.tc = false ∧ y.h.tc = false)) := by
  obtain ⟨a, ha, ea⟩ := fitIs_sound hs h1 (by omega) f1
  obtain ⟨b, hb, eb⟩ := fitIs_sound hs (by omega) h2 f2
  rcases ea with ⟨ea, _⟩ | ⟨fa, ea, la, da⟩
  · exact .inl ea
  · have hab : a ≤ b := hb.last a ha.le ha.stop (by omega)
    have hm := lenF_mono hs hab
    rcases eb with ⟨_, nb⟩ | ⟨fb, eb, lb, db⟩
    · rcases hb.fits with rfl | h3
      · obtain rfl : a = 0 := by omega
        omega
      · exact absurd h3 nb
    · refine .inr ⟨_, _, _, _, ea, eb, da, db, by omega, ?_, ?_, ?_, ?_⟩
      · show (m.an.take a).length ≤ (m.an.take b).length
        rw [List.length_take, List.length_take]
        omega
      · show (m.au.take (a - m.an.length)).length ≤ (m.au.take (b - m.an.length)).length
        rw [List.length_take, List.length_take]
        omega
      · show (m.ex.take (a - m.an.length - m.au.length)).length ≤ (m.ex.take (b - m.an.length - m.au.length)).length
        rw [List.length_take, List.length_take]
        omega
      · show (m.h.tc || decide (a < m.an.length + m.au.length)) = true ∨ ((m.h.tc || decide (a < m.an.length + m.au.length)) = false ∧ (m.h.tc || decide (b < m.an.length + m.au.length)) = false)
        cases m.h.tc with
        | true => exact .inl rfl
        | false =>
          by_cases h3 : a < m.an.length + m.au.length
          · exact .inl (by rw [decide_eq_true h3]; rfl)
          · exact .inr ⟨by rw [decide_eq_false h3]; rfl, by rw [decide_eq_false (by omega)]; rfl⟩

end Go.Proofs.YtjkjhpaeckkpjaaGreat

namespace Go.Proofs.YtjkjhpaeckkpjaaGreat
open Go.RowKit

def ansC : Hd := ⟨7, false, 0, false, false, false, false, 0, false, 0⟩
theorem cans_bytes {res : Except Nat (List UInt8)} (h : FitIs (bareV ansC).msg 512 res) : res = .ok [0, 7, 0, 0, 0, 0, 0, 0, 0, 0, 0, 0] := by
  have h1 : soundM (bareV ansC).msg = true := by decide +kernel
  have h2 : encM (bareV ansC).msg = [0, 7, 0, 0, 0, 0, 0, 0, 0, 0, 0, 0] := by decide +kernel
  have h3 : fitE (encE (bareV ansC).msg) 512 = some [0, 7, 0, 0, 0, 0, 0, 0, 0, 0, 0, 0] := by
    unfold encE
    rw [if_pos h1, h2]
    rfl
  exact h.uniq (fitIs_whole (soundM_iff.1 h1) (by omega) (by omega) h3)

set_option maxRecDepth 20000 in
set_option maxHeartbeats 4000000 in
theorem canswers_any (w : World) : Calls Tryz.prog 4 #[] w (TrueB w) := by
  have hh : HIn ansC := ⟨by decide, by decide, by decide, by decide⟩
  have HE := Lib.hid (show Calls Tryz.prog 7 #[valM ansC (.slice none 0 0) (.slice none 0 0) (.slice none 0 0) (.slice none 0 0), .int .i64 512] w (CFitOut w (bareV ansC) 512) from
    cfit_any w 512 (bareV ansC) (bare_at ansC w _) (bare_in hh) (bare_own ansC w) (fun i => by rw [bare_sec]; exact Nat.le_refl _) (Nat.zero_le _))
  go_enter Tryz.func4, Tryz.ntmps4
  go_wp2_with fail
  refine HE.out.mono ?_
  rintro e w1 ⟨res, hf, he⟩
  rw [cans_bytes hf] at he
  obtain ⟨hb1, A1, c1, rfl, hown⟩ := he
  have HB1 := Lib.hid hb1
  have HRW := Lib.hid (Row.of_own hown)
  obtain ⟨b, off, rfl, hblt, hcell⟩ := HRW.out.some_ (by simp)
  have q1 : w1.cell? ⟨b, off + 1, none⟩ = some (.int .u8 7) := hcell 1 _ rfl
  clear hb1 hown hcell HE hf
  go_wp2
  go_ret
  exact ⟨rfl, HB1.out⟩

end Go.Proofs.YtjkjhpaeckkpjaaGreat

namespace Go.Proofs.YtjkjhpaeckkpjaaGreat
open Go.RowKit

def lightC (m : Mt) : Bool := decide (m.all.length ≤ 150) && (decide (m.qs.length ≤ 150) && (m.all.all fewR && (m.qs.all fewQ && decide (sumB m.all < 200000))))
theorem lightC_M {m : Mt} (h : lightC m = true) : LightM m ∧ m.all.length ≤ 150 ∧ m.qs.length ≤ 150 := by
  unfold lightC at h
  simp only [Bool.and_eq_true, decide_eq_true_eq] at h
  obtain ⟨h0, h1, h2, h3, h4⟩ := h
  refine ⟨lightM_iff ?_, h0, h1⟩
  unfold lightM
  simp only [Bool.and_eq_true, decide_eq_true_eq]
  exact ⟨by omega, by omega, h2, h3, h4⟩
set_option maxRecDepth 20000 in
set_option maxHeartbeats 8000000 in
theorem clight_core (w : World) (m : MV) (h : Hd) (qA : Option Addr) (qc : Nat) (qp : List (QV × Qt)) (A0 A1 A2 : Option Addr) (k0 k1 k2 : Nat) (p0 p1 p2 : List (RV × Rt)) (he : m = ⟨h, qA, qc, qp, ⟨A0, k0, p0⟩, ⟨A1, k1, p1⟩, ⟨A2, k2, p2⟩⟩) (hm : MAt w w.heap.size m)
    (hn : (p0.length + p1.length + p2.length) * 168 ≤ 140737488355328) (hq : qp.length ≤ maxLen) (hql : ∀ p ∈ qp, p.2.name.length ≤ maxLen) (hb : ∀ r ∈ m.msg.all, r.data.bytes.length ≤ 140737488355328) :
    Calls Tryz.prog 5 #[valM h (.slice qA qp.length qc) (.slice A0 p0.length k0) (.slice A1 p1.length k1) (.slice A2 p2.length k2)] w (Gave w (.bool (lightC m.msg))) := by
  obtain ⟨i0, hi0, hz0, hz1, hz2⟩ := info_parts rr_info
  obtain ⟨W, hW⟩ : ∃ W, W = w.alloc (.cells #[.int .i64 h.id, .bool h.resp, .int .i64 h.op, .bool h.aa, .bool h.tc, .bool h.rd, .bool h.ra, .int .i64 h.rc, .slice qA qp.length qc, .slice A0 p0.length k0, .slice A1 p1.length k1, .slice A2 p2.length k2, .bool h.edns, .int .i64 h.size] 25) := ⟨_, rfl⟩
  have hB : Below w.heap.size w W := by rw [hW]; exact (Below.refl _ _).alloc (Nat.le_refl _) _
  have hzW : W.heap.size = w.heap.size + 1 := by rw [hW]; simp
  have hwm : Whole W w.heap.size 25 (cellsM h (.slice qA qp.length qc) (.slice A0 p0.length k0) (.slice A1 p1.length k1) (.slice A2 p2.length k2)) := by rw [hW]; exact Whole.made w [.int .i64 h.id, .bool h.resp, .int .i64 h.op, .bool h.aa, .bool h.tc, .bool h.rd, .bool h.ra, .int .i64 h.rc, .slice qA qp.length qc, .slice A0 p0.length k0, .slice A1 p1.length k1, .slice A2 p2.length k2, .bool h.edns, .int .i64 h.size] _
  have hbl : Below W.heap.size W (W.alloc (.cells #[] 42)).drew := ((Below.refl _ _).alloc (Nat.le_refl _) _).drew
  have HL := Lib.hid (show (W.alloc (.cells #[] 42)).drew.ownsRow (w.heap.size + 1) 42 9 (.slice (some ⟨w.heap.size + 1, 0, none⟩) 0 0) 0 [] from by
    have h1 := own_lit W 42 9
    rw [hzW] at h1
    exact own_keep h1 fun _ _ => rfl)
  have HBL := Lib.hid (hB.trans (hbl.mono hB.size))
  have HWL := Lib.hid (hwm.below hbl hwm.lt)
  have hzl : w.heap.size + 1 ≤ (W.alloc (.cells #[] 42)).drew.heap.size := by have := hbl.size; omega
  have HZL := Lib.hid hzl
  have HS0 := Lib.hid (fun W' (hb : Below w.heap.size w W') => (show RsAt W' w.heap.size A0 p0 by have h2 := hm.s0.below hb; rw [he] at h2; exact h2))
  have HS1 := Lib.hid (fun W' (hb : Below w.heap.size w W') => (show RsAt W' w.heap.size A1 p1 by have h2 := hm.s1.below hb; rw [he] at h2; exact h2))
  have HS2 := Lib.hid (fun W' (hb : Below w.heap.size w W') => (show RsAt W' w.heap.size A2 p2 by have h2 := hm.s2.below hb; rw [he] at h2; exact h2))
  have HQ := Lib.hid (fun W' (hb : Below w.heap.size w W') => (show QsAt W' w.heap.size qA qp by have h2 := hm.q.below hb; rw [he] at h2; exact h2))
  have HE := Lib.hid he
  have HBY := Lib.hid (show ∀ r ∈ recs (p0 ++ p1 ++ p2), r.data.bytes.length ≤ 140737488355328 by intro r hr; refine hb r ?_; rw [he]; show r ∈ recs p0 ++ (recs p1 ++ recs p2); simpa [recs_append] using hr)
  have c9 : (W.alloc (.cells #[] 42)).drew.cell? ⟨w.heap.size, 9, none⟩ = some (.slice A0 p0.length k0) := HWL.out.cell 9
  have c10 : (W.alloc (.cells #[] 42)).drew.cell? ⟨w.heap.size, 10, none⟩ = some (.slice A1 p1.length k1) := HWL.out.cell 10
  have c11 : (W.alloc (.cells #[] 42)).drew.cell? ⟨w.heap.size, 11, none⟩ = some (.slice A2 p2.length k2) := HWL.out.cell 11
  clear hB hwm hbl hm he hb hzl hzW
  subst hW
  go_enter Tryz.func5, Tryz.ntmps5
  go_upto_region 1 with fail
  go_cut [3] from 8 to 17 (fun s3 wx => AllRel w (cellsM h (.slice qA qp.length qc) (.slice A0 p0.length k0) (.slice A1 p1.length k1) (.slice A2 p2.length k2)) (p0 ++ p1 ++ p2) s3 wx)
  case first =>
   go_region_law (first
     | (refine step_append_any rfl (.tmp 8) (.tmp 10) _ rfl (w.heap.size + 1) 42 i0 _ 9 168 Tryz.underlying23 hi0 hz0 hz1 hz2 rfl (by omega) (.slice (some ⟨w.heap.size + 1, 0, none⟩) 0 0) 0 _ rfl HL.out
          A0 p0.length k0 w.heap.size (p0.flatMap cellsR) rfl (length_flat cellsR_len p0) (HS0.out _ HBL.out).1 (cellsR_one p0) (by unfold maxLen; omega) (by omega) HZL.out ?_
        intro v1 w1 hown1 hg1
        rw [Nat.zero_add, List.nil_append] at hown1
        have HB1 := Lib.hid (own_below HBL.out (Nat.le_succ _) HBL.out.size HL.out hg1)
        have HW1 := Lib.hid (HWL.out.grown hg1 (by simp [Value.ownBlock]))
        have HZ1 := Lib.hid (Nat.le_trans HZL.out hg1.size)
        obtain ⟨B1, d1, rfl, _, _⟩ := own_form hown1
        have HO1 := Lib.hid hown1
        have c10 : w1.cell? ⟨w.heap.size, 10, none⟩ = some (.slice A1 p1.length k1) := HW1.out.cell 10
        have c11 : w1.cell? ⟨w.heap.size, 11, none⟩ = some (.slice A2 p2.length k2) := HW1.out.cell 11
        clear hown1 hg1)
     | (refine step_append_any rfl (.tmp 11) (.tmp 13) _ rfl (w.heap.size + 1) 42 i0 _ 9 168 Tryz.underlying23 hi0 hz0 hz1 hz2 rfl (by omega) (.slice B1 p0.length d1) p0.length _ rfl HO1.out
          A1 p1.length k1 w.heap.size (p1.flatMap cellsR) rfl (length_flat cellsR_len p1) (HS1.out _ HB1.out).1 (cellsR_one p1) (by unfold maxLen; omega) (by omega) HZ1.out ?_
        intro v2 w2 hown2 hg2
        have HB2 := Lib.hid (own_below HB1.out (Nat.le_succ _) HB1.out.size HO1.out hg2)
        have HW2 := Lib.hid (HW1.out.grown hg2 (fun h => by have := (HO1.out.lt _ h.symm).1; omega))
        have HZ2 := Lib.hid (Nat.le_trans HZ1.out hg2.size)
        obtain ⟨B2, d2, rfl, _, _⟩ := own_form hown2
        have HO2 := Lib.hid hown2
        have c11 : w2.cell? ⟨w.heap.size, 11, none⟩ = some (.slice A2 p2.length k2) := HW2.out.cell 11
        clear hown2 hg2)
     | (refine step_append_any rfl (.tmp 14) (.tmp 16) _ rfl (w.heap.size + 1) 42 i0 _ 9 168 Tryz.underlying23 hi0 hz0 hz1 hz2 rfl (by omega) (.slice B2 (p0.length + p1.length) d2) (p0.length + p1.length) _ rfl HO2.out
          A2 p2.length k2 w.heap.size (p2.flatMap cellsR) rfl (length_flat cellsR_len p2) (HS2.out _ HB2.out).1 (cellsR_one p2) (by unfold maxLen; omega) (by omega) HZ2.out ?_
        intro v3 w3 hown3 hg3
        have HB3 := Lib.hid (own_below HB2.out (Nat.le_succ _) HB2.out.size HO2.out hg3)
        have HW3 := Lib.hid (HW2.out.grown hg3 (fun h => by have := (HO2.out.lt _ h.symm).1; omega))
        obtain ⟨B3, d3, rfl, _, _⟩ := own_form hown3
        have HO3 := Lib.hid hown3
        clear hown3 hg3))
   all_goals
    have HRR := Lib.hid (show AllRel w (cellsM h (.slice qA qp.length qc) (.slice A0 p0.length k0) (.slice A1 p1.length k1) (.slice A2 p2.length k2)) (p0 ++ p1 ++ p2) (.slice B3 (p0.length + p1.length + p2.length) d3) w3 from
      ⟨B3, d3, by rw [List.length_append, List.length_append], by rw [List.flatMap_append, List.flatMap_append]; exact Row.of_own HO3.out, HW3.out, HB3.out⟩)
    go_wp2
    go_meet
    exact HRR.out
  case rest =>
    obtain ⟨A, c, rfl, hrow, hw, hb⟩ := hcut
    have HB := Lib.hid hb
    have HW := Lib.hid hw
    have HPS := Lib.hid (show RsAt wc wc.heap.size A (p0 ++ p1 ++ p2) from ⟨hrow, fun p hp => by
      rcases List.mem_append.1 hp with h1 | h1
      · rcases List.mem_append.1 h1 with h1 | h1
        · exact ((HS0.out _ hb).2 p h1).mono hb.size
        · exact ((HS1.out _ hb).2 p h1).mono hb.size
      · exact ((HS2.out _ hb).2 p h1).mono hb.size⟩)
    have HLM := Lib.hid (show lightC m.msg = (decide ((p0 ++ p1 ++ p2).length ≤ 150) && (decide (qp.length ≤ 150) && ((recs (p0 ++ p1 ++ p2)).all fewR && ((qsts qp).all fewQ && decide (sumB (recs (p0 ++ p1 ++ p2)) < 200000))))) from by
      have e1 : m.msg.all = recs (p0 ++ p1 ++ p2) := by rw [HE.out]; show recs p0 ++ (recs p1 ++ recs p2) = _; simp [recs_append]
      have e2 : m.msg.qs = qsts qp := by rw [HE.out]; rfl
      unfold lightC
      rw [e1, e2, length_recs, length_qsts])
    have c8 : wc.cell? ⟨w.heap.size, 8, none⟩ = some (.slice qA qp.length qc) := Whole.cell hw 8
    have hlp : (p0 ++ p1 ++ p2).length * 168 ≤ 140737488355328 := by rw [List.length_append, List.length_append]; exact hn
    clear hrow hw hb HS0 HS1 HS2 HBL HWL HZL HL hn
    revert HBY HPS HLM hlp
    generalize p0 ++ p1 ++ p2 = ps
    intro HBY HPS HLM hlp
    unfold maxLen at hq
    by_cases e0 : ps.length ≤ 150
    case neg =>
      have d0 : decide ((150 : Int) < (ps.length : Int)) = true := by rw [decide_eq_true_eq]; omega
      rw [decide_eq_false e0] at HLM
      go_wp2
      go_ret
      exact ⟨by rw [HLM.out]; rfl, HB.out⟩
    have d0 : decide ((150 : Int) < (ps.length : Int)) = false := decide_eq_false (by omega)
    rw [decide_eq_true e0] at HLM
    by_cases e1 : qp.length ≤ 150
    case neg =>
      have d1 : decide ((150 : Int) < (qp.length : Int)) = true := by rw [decide_eq_true_eq]; omega
      rw [decide_eq_false e1] at HLM
      go_wp2
      go_ret
      exact ⟨by rw [HLM.out]; rfl, HB.out⟩
    have d1 : decide ((150 : Int) < (qp.length : Int)) = false := decide_eq_false (by omega)
    rw [decide_eq_true e1] at HLM
    go_wp2
    clear d0 d1 c8
    go_loopw [4, 5] (SumRelL wc ps) (fun _ i _ => ps.length - (intOf i).toNat)
    case atStart => exact ⟨0, Nat.zero_le _, rfl, rfl, rfl, Below.refl _ _⟩
    case round =>
    obtain ⟨k, hk, rfl, rfl, hal, hbr⟩ := hrel
    have HAL := Lib.hid hal
    have HBR := Lib.hid hbr
    have HB1 := Lib.hid (HB.out.trans (hbr.mono HB.out.size))
    have hz := hbr.size
    have hzz := HB.out.size
    have hsum : sumB (recs (ps.take k)) ≤ 150 * 140737488355328 := by
      have h1 := sumB_le (rs := recs (ps.take k)) (M := 140737488355328) fun r hr => HBY.out r (by
        obtain ⟨p, hp, rfl⟩ := List.mem_map.1 hr
        exact List.mem_map.2 ⟨p, List.mem_of_mem_take hp, rfl⟩)
      have h2 : (recs (ps.take k)).length ≤ 150 := by rw [length_recs, List.length_take]; omega
      exact Nat.le_trans h1 (Nat.mul_le_mul_right _ h2)
    clear hal hbr
    by_cases hlt : k < ps.length
    · obtain ⟨b, off, rfl, hbH, hra, q0, q1, q2, q3, q4, q5, q6, q7, q8⟩ := (show RsAt wr wc.heap.size A ps from HPS.out.below HBR.out).at_ hlt
      have hby := HBY.out _ (List.mem_map.2 ⟨ps[k], List.getElem_mem hlt, rfl⟩)
      have HF := Lib.hid (show fewR (ps[k]).2 = false → (recs ps).all fewR = false by
        intro h
        rw [List.all_eq_false]
        exact ⟨(ps[k]).2, List.mem_map.2 ⟨ps[k], List.getElem_mem hlt, rfl⟩, by rw [h]; decide⟩)
      have HT := Lib.hid (show fewR (ps[k]).2 = true → (recs (ps.take (k + 1))).all fewR = true by
        intro h
        rw [recs_at hlt, List.all_append, HAL.out]
        simp [h])
      have HSU := Lib.hid (show sumB (recs (ps.take (k + 1))) = sumB (recs (ps.take k)) + (ps[k]).2.data.bytes.length by
        rw [recs_at hlt, sumB_append]
        simp [sumB])
      clear hra
      revert hby q0 q1 q2 q3 q4 q5 q6 q7 q8 HF HT HSU
      generalize ps[k] = p
      obtain ⟨x, r⟩ := p
      intro q0 q1 q2 q3 q4 q5 q6 q7 q8 hby HF HT HSU
      dsimp only at *
      have r0 : (wr.alloc (.cells #[.slice x.d.Ab r.data.bytes.length x.d.cb, .slice x.d.Ah r.data.host.length x.d.ch, .slice x.d.Am r.data.mail.length x.d.cm, .slice x.d.An r.data.nums.length x.d.cn, .slice x.d.At r.data.texts.length x.d.ct] 40)).cell? ⟨b, off + k * 9, none⟩ = some (.slice x.A r.name.length x.c) := (World.cell?_alloc_lt wr _ ⟨b, off + k * 9, none⟩ (by dsimp only; omega)).trans q0
      have HB2 := Lib.hid (HB1.out.alloc (by omega) (.cells #[.slice x.d.Ab r.data.bytes.length x.d.cb, .slice x.d.Ah r.data.host.length x.d.ch, .slice x.d.Am r.data.mail.length x.d.cm, .slice x.d.An r.data.nums.length x.d.cn, .slice x.d.At r.data.texts.length x.d.ct] 40))
      have HBR2 := Lib.hid (HBR.out.alloc hz (.cells #[.slice x.d.Ab r.data.bytes.length x.d.cb, .slice x.d.Ah r.data.host.length x.d.ch, .slice x.d.Am r.data.mail.length x.d.cm, .slice x.d.An r.data.nums.length x.d.cn, .slice x.d.At r.data.texts.length x.d.ct] 40))
      by_cases e2 : r.name.length ≤ 200
      case neg =>
        have d2 : decide ((200 : Int) < (r.name.length : Int)) = true := by simp; omega
        have HX := Lib.hid (HF.out (by unfold fewR; rw [show decide (r.name.length ≤ 200) = false by simp; omega]; simp))
        go_wp2
        go_ret
        exact ⟨by rw [HLM.out, HX.out]; rfl, HB2.out⟩
      have d2 : decide ((200 : Int) < (r.name.length : Int)) = false := by simp; omega
      by_cases e3 : r.data.host.length ≤ 200
      case neg =>
        have d3 : decide ((200 : Int) < (r.data.host.length : Int)) = true := by simp; omega
        have HX := Lib.hid (HF.out (by unfold fewR; rw [show decide (r.data.host.length ≤ 200) = false by simp; omega]; simp))
        go_wp2
        go_ret
        exact ⟨by rw [HLM.out, HX.out]; rfl, HB2.out⟩
      have d3 : decide ((200 : Int) < (r.data.host.length : Int)) = false := by simp; omega
      by_cases e4 : r.data.mail.length ≤ 200
      case neg =>
        have d4 : decide ((200 : Int) < (r.data.mail.length : Int)) = true := by simp; omega
        have HX := Lib.hid (HF.out (by unfold fewR; rw [show decide (r.data.mail.length ≤ 200) = false by simp; omega]; simp))
        go_wp2
        go_ret
        exact ⟨by rw [HLM.out, HX.out]; rfl, HB2.out⟩
      have d4 : decide ((200 : Int) < (r.data.mail.length : Int)) = false := by simp; omega
      by_cases e5 : r.data.texts.length ≤ 100
      case neg =>
        have d5 : decide ((100 : Int) < (r.data.texts.length : Int)) = true := by simp; omega
        have HX := Lib.hid (HF.out (by unfold fewR; rw [show decide (r.data.texts.length ≤ 100) = false by simp; omega]; simp))
        go_wp2
        go_ret
        exact ⟨by rw [HLM.out, HX.out]; rfl, HB2.out⟩
      have d5 : decide ((100 : Int) < (r.data.texts.length : Int)) = false := by simp; omega
      by_cases e6 : r.data.nums.length ≤ 100
      case neg =>
        have d6 : decide ((100 : Int) < (r.data.nums.length : Int)) = true := by simp; omega
        have HX := Lib.hid (HF.out (by unfold fewR; rw [show decide (r.data.nums.length ≤ 100) = false by simp; omega]; simp))
        go_wp2
        go_ret
        exact ⟨by rw [HLM.out, HX.out]; rfl, HB2.out⟩
      have d6 : decide ((100 : Int) < (r.data.nums.length : Int)) = false := by simp; omega
      have HX := Lib.hid (HT.out (by unfold fewR; simp [e2, e3, e4, e5, e6]))
      go_wp2
      exact ⟨⟨k + 1, by omega, by go_num, by rw [HSU.out]; go_num, HX.out, HBR2.out⟩, by simp [intOf]; omega⟩
    · obtain rfl : k = ps.length := by omega
      have hal := HAL.out
      rw [List.take_length] at hsum hal ⊢
      rw [hal] at HLM
      have hwr : Whole wr w.heap.size 25 (cellsM h (.slice qA qp.length qc) (.slice A0 p0.length k0) (.slice A1 p1.length k1) (.slice A2 p2.length k2)) := HW.out.below HBR.out HW.out.lt
      have HWR := Lib.hid hwr
      have c8 : wr.cell? ⟨w.heap.size, 8, none⟩ = some (.slice qA qp.length qc) := Whole.cell hwr 8
      have HSS := Lib.hid hsum
      clear hal hwr HAL HBY HPS hlt
      revert HLM HSS hsum
      generalize sumB (recs ps) = S
      intro HLM hsum HSS
      go_wp2
      clear c8
      go_loopw [7] (FewQRel w (cellsM h (.slice qA qp.length qc) (.slice A0 p0.length k0) (.slice A1 p1.length k1) (.slice A2 p2.length k2)) qp) (fun i _ => qp.length - (intOf i).toNat)
      case atStart => exact ⟨0, Nat.zero_le _, rfl, rfl, HWR.out, HB1.out⟩
      case round =>
      obtain ⟨j, hj, rfl, haq, hwq, hbq⟩ := hrel
      have HAQ := Lib.hid haq
      have HBQ := Lib.hid hbq
      have HWQ := Lib.hid hwq
      have c8 : wr.cell? ⟨w.heap.size, 8, none⟩ = some (.slice qA qp.length qc) := Whole.cell hwq 8
      clear haq hwq hbq
      by_cases hlt : j < qp.length
      · obtain ⟨b, off, rfl, hbH, hqa, q0, q1, q2⟩ := (HQ.out _ HBQ.out).at_ hlt
        have hnl := hql _ (List.getElem_mem hlt)
        have HF := Lib.hid (show fewQ (qp[j]).2 = false → (qsts qp).all fewQ = false by
          intro h
          rw [List.all_eq_false]
          exact ⟨(qp[j]).2, List.mem_map.2 ⟨qp[j], List.getElem_mem hlt, rfl⟩, by rw [h]; decide⟩)
        have HT := Lib.hid (show fewQ (qp[j]).2 = true → (qsts (qp.take (j + 1))).all fewQ = true by
          intro h
          rw [qsts_step hlt, List.all_append, HAQ.out]
          simp [h])
        clear hqa
        revert hnl q0 q1 q2 HF HT
        generalize qp[j] = p
        obtain ⟨x, q⟩ := p
        intro q0 q1 q2 hnl HF HT
        dsimp only at *
        unfold maxLen at hnl
        by_cases e2 : q.name.length ≤ 200
        case neg =>
          have d2 : decide ((200 : Int) < (q.name.length : Int)) = true := by simp; omega
          have HX := Lib.hid (HF.out (by unfold fewQ; exact decide_eq_false e2))
          go_wp2
          go_ret
          exact ⟨by rw [HLM.out, HX.out]; rfl, HBQ.out⟩
        have d2 : decide ((200 : Int) < (q.name.length : Int)) = false := by simp; omega
        have HX := Lib.hid (HT.out (by unfold fewQ; exact decide_eq_true e2))
        go_wp2
        exact ⟨⟨j + 1, by omega, by go_num, HX.out, HWQ.out, HBQ.out⟩, by simp [intOf]; omega⟩
      · obtain rfl : j = qp.length := by omega
        have haq := HAQ.out
        rw [List.take_length] at haq
        rw [haq] at HLM
        go_wp2
        go_ret
        refine ⟨?_, HBQ.out⟩
        rw [HLM.out]
        simp
        omega
theorem clight_any (w : World) (m : MV) (hm : MAt w w.heap.size m) (hn : (m.s0.ps.length + m.s1.ps.length + m.s2.ps.length) * 168 ≤ 140737488355328) (hq : m.qp.length ≤ maxLen) (hql : ∀ p ∈ m.qp, p.2.name.length ≤ maxLen)
    (hb : ∀ r ∈ m.msg.all, r.data.bytes.length ≤ 140737488355328) : Calls Tryz.prog 5 #[m.val] w (Gave w (.bool (lightC m.msg))) := by
  obtain ⟨h, qA, qc, qp, ⟨A0, k0, p0⟩, ⟨A1, k1, p1⟩, ⟨A2, k2, p2⟩⟩ := m
  exact clight_core w _ h qA qc qp A0 A1 A2 k0 k1 k2 p0 p1 p2 rfl hm hn hq hql hb

end Go.Proofs.YtjkjhpaeckkpjaaGreat
