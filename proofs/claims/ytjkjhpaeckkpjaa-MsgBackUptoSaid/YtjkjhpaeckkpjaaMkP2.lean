/-
  MsgBack in its form for what is not too great: msg.Decode reads a sound message's bytes as it, and what it reads of bytes is sound, and its own bytes are it again; of messages that take, with what else comes in, at most 1,048,576 values and letters in all. No other condition.
-/
import Derived.Test.YtjkjhpaeckkpjaaMkP1
import Derived.Test.YtjkjhpaeckkpjaaMbP8
import Derived.StillTailTactics
import Derived.BigQuiet
import Derived.Test.YtjkjhpaeckkpjaaMbP7
namespace Go.Proofs.Ytjkjhpaeckkpjaa
open Go.RowKit

theorem getR_sound (b : List UInt8) (p q x : Nat) (n : List (List UInt8)) : ∀ {m : List (List UInt8)} {e : Nat}, getR b p q x n = (m, e, 0) → n.all fitL = true → szN n ≤ 255 → soundN m = true := by
  induction p, q, x, n using getR.induct (b := b) with
  | case1 p q x n h0 h1 =>
    intro m e h ha hz
    rw [getR, dif_pos h0, if_pos h1] at h
    injection h with h2 _
    subst h2
    simp [soundN, ha, hz]
  | case2 p q x n h0 h1 h2 h3 h4 ih =>
    intro m e h ha hz
    rw [getR, dif_pos h0, if_neg h1, if_pos h2, dif_pos h3, if_pos h4] at h
    exact ih h ha hz
  | case3 p q x n h0 h1 h2 h3 h4 =>
    intro m e h ha hz
    rw [getR, dif_pos h0, if_neg h1, if_pos h2, dif_pos h3, if_neg h4] at h
    simp at h
  | case4 p q x n h0 h1 h2 h3 =>
    intro m e h ha hz
    rw [getR, dif_pos h0, if_neg h1, if_pos h2, dif_neg h3] at h
    simp at h
  | case5 p q x n h0 h1 h2 h3 =>
    intro m e h ha hz
    rw [getR, dif_pos h0, if_neg h1, if_neg h2, if_pos h3] at h
    simp at h
  | case6 p q x n h0 h1 h2 h3 h4 h5 ih =>
    intro m e h ha hz
    rw [getR, dif_pos h0, if_neg h1, if_neg h2, if_neg h3, if_pos h4, if_pos h5] at h
    refine ih h ?_ h5
    rw [List.all_append, ha]
    have h6 := length_cutL h4
    simp [fitL, h6]
    omega
  | case7 p q x n h0 h1 h2 h3 h4 h5 =>
    intro m e h ha hz
    rw [getR, dif_pos h0, if_neg h1, if_neg h2, if_neg h3, if_pos h4, if_neg h5] at h
    simp at h
  | case8 p q x n h0 h1 h2 h3 h4 =>
    intro m e h ha hz
    rw [getR, dif_pos h0, if_neg h1, if_neg h2, if_neg h3, if_neg h4] at h
    simp at h
  | case9 p q x n h0 =>
    intro m e h ha hz
    rw [getR, dif_neg h0] at h
    simp at h
theorem getW_sound {b : List UInt8} {a : Int} (h : (getW b a).2.2 = 0) : soundN (getW b a).1 = true := by
  unfold getW at h ⊢
  split at h
  · simp at h
  · rename_i h0
    rw [if_neg h0]
    rcases hr : getR b a.toNat a.toNat 0 [] with ⟨m, e, k⟩
    rw [hr] at h
    dsimp only at h
    subst h
    exact getR_sound b _ _ _ _ hr rfl (by decide)
theorem nameR_sound {b : List UInt8} {p en : Nat} {r : List (List UInt8) × Nat} (h : nameR b p en = .ok r) : soundN r.1 = true := by
  unfold nameR at h
  rcases hr : getR b p p 0 [] with ⟨n, e, k⟩
  rw [hr] at h
  unfold nameF at h
  dsimp only at h
  split at h
  · cases h
  · rename_i hk
    have hk0 : k = 0 := by omega
    subst hk0
    split at h
    · cases h
    · injection h with h
      subst h
      exact getR_sound b _ _ _ _ hr rfl (by decide)
theorem num_fit {b : List UInt8} {p s : Nat} (h1 : 1 ≤ s) (h2 : s ≤ 7) : fitB ((numN (cutL b p s) : Nat) : Int) (s : Int) = true := by
  have h := numAt_lt b p s
  unfold numAt at h
  refine fitB_true (by omega) (by omega) (by omega) ?_
  have e : (2 : Int) ^ (8 * (s : Int).toNat) = ((2 ^ (8 * s) : Nat) : Int) := by
    rw [Int.toNat_natCast]
    push_cast
    rfl
  rw [e]
  exact Int.ofNat_lt.2 h
theorem numsL_sound {b : List UInt8} {p s : Nat} (h1 : 1 ≤ s) (h2 : s ≤ 7) : ∀ k, ∀ n ∈ numsL b p s k, fitB n (s : Int) = true
  | 0, n, h => absurd h (List.not_mem_nil)
  | k + 1, n, h => by
    unfold numsL at h
    rcases List.mem_append.1 h with h | h
    · exact numsL_sound h1 h2 k n h
    · rw [List.mem_singleton.1 h]
      exact num_fit h1 h2
theorem numsR_sound {b : List UInt8} {p en s k : Nat} {r : List Int × Nat} (h1 : 1 ≤ s) (h2 : s ≤ 7) (h : numsR b p en s k = .ok r) : r.1.length = k ∧ (∀ n ∈ r.1, fitB n (s : Int) = true) ∧ r.2 ≤ en := by
  unfold numsR at h
  split at h
  · injection h with h
    subst h
    exact ⟨length_numsL _ _ _ _, numsL_sound h1 h2 k, by assumption⟩
  · cases h
theorem textsR_sound {b : List UInt8} {en : Nat} : ∀ (d p : Nat) (acc : List (List UInt8)) {r : List (List UInt8) × Nat}, en - p ≤ d → textsR b p en acc = .ok r → acc.length ≤ 64 → (∀ t ∈ acc, t.length ≤ 255) → 1 ≤ r.1.length ∧ r.1.length ≤ 64 ∧ ∀ t ∈ r.1, t.length ≤ 255
  | d, p, acc, r, hd, h, hl, ht => by
    by_cases hp : p < en
    · by_cases ha : acc.length = 64
      · rw [textsR_large hp ha] at h
        cases h
      · by_cases hs : en < p + 1 + numN (cutL b p 1)
        · rw [textsR_short hp ha hs] at h
          cases h
        · rw [textsR_next hp ha (by omega)] at h
          match d, hd with
          | 0, hd => omega
          | d + 1, hd =>
            refine textsR_sound d _ _ (by omega) h (by simp; omega) fun t htt => ?_
            rcases List.mem_append.1 htt with h1 | h1
            · exact ht t h1
            · rw [List.mem_singleton.1 h1]
              have h2 := numN_one_lt b p
              have h3 : (cutL b (p + 1) (numN (cutL b p 1))).length ≤ numN (cutL b p 1) := by unfold cutL; simp; omega
              omega
    · rw [textsR, dif_neg hp] at h
      split at h
      · cases h
      · rename_i hne
        injection h with h
        subst h
        exact ⟨List.length_pos_iff.2 hne, hl, ht⟩
theorem bytesR_sound {b : List UInt8} {p en l m : Nat} {r : List UInt8 × Nat} (hlm : l ≤ m) (hen : en ≤ b.length) (h : bytesR b p en l m = .ok r) : l ≤ r.1.length ∧ r.1.length ≤ m := by
  unfold bytesR at h
  split at h
  · cases h
  · injection h with h
    subst h
    dsimp only
    rw [length_cutL (by omega)]
    omega
theorem shN_room (k : Int) : (shN k).least ≤ (shN k).most := by
  unfold shN
  repeat' split
  all_goals decide
theorem numsOk_of {ah : Nat} {l m : List Int} (hl : l.length = ah) (h1 : ∀ n ∈ l, fitB n 2 = true) (h2 : ∀ n ∈ m, fitB n 4 = true) : numsOk ah (l ++ m) = true := by
  unfold numsOk
  rw [List.all_eq_true]
  intro j hj
  have hj := List.mem_range.1 hj
  rw [List.length_append] at hj
  unfold sizeAt
  by_cases hja : j < ah
  · rw [if_pos hja, List.getD_eq_getElem?_getD, List.getElem?_append_left (by omega), List.getElem?_eq_getElem (by omega)]
    exact h1 _ (List.getElem_mem _)
  · rw [if_neg hja, List.getD_eq_getElem?_getD, List.getElem?_append_right (by omega), List.getElem?_eq_getElem (by omega)]
    exact h2 _ (List.getElem_mem _)
theorem readD_sound {b : List UInt8} {p en : Nat} {k : Int} {d : Dt} (hk : kindB k = true) (hen : en ≤ b.length) (h : readD b p en (shN k) = .ok d) : soundD k d = true := by
  unfold readD at h
  obtain ⟨n1, e1, h⟩ := bind_ok h
  obtain ⟨h1, e2, h⟩ := bind_ok h
  obtain ⟨m1, e3, h⟩ := bind_ok h
  obtain ⟨n2, e4, h⟩ := bind_ok h
  obtain ⟨t1, e5, h⟩ := bind_ok h
  obtain ⟨y1, e6, h⟩ := bind_ok h
  split at h
  · cases h
  injection h with h
  subst h
  obtain ⟨a1, a2, _⟩ := numsR_sound (by omega) (by omega) e1
  obtain ⟨b1, b2, _⟩ := numsR_sound (by omega) (by omega) e4
  obtain ⟨c1, c2⟩ := bytesR_sound (shN_room k) hen e6
  have g2 : soundNm h1.1 (shN k).host = true := by
    unfold soundNm
    split at e2
    · rename_i hh
      rw [hh, nameR_sound e2]
      simp
    · injection e2 with e2
      subst e2
      rfl
  have g3 : soundNm m1.1 (shN k).mail = true := by
    unfold soundNm
    split at e3
    · rename_i hh
      rw [hh, nameR_sound e3]
      simp
    · injection e3 with e3
      subst e3
      rfl
  have g5 : soundTs (shN k) t1.1 = true := by
    unfold soundTs
    split at e5
    · rename_i hh
      obtain ⟨d1, d2, d3⟩ := textsR_sound _ _ _ (Nat.le_refl _) e5 (by simp) (fun t ht => absurd ht (List.not_mem_nil))
      rw [if_pos hh]
      simp only [Bool.and_eq_true, List.all_eq_true, decide_eq_true_eq]
      exact ⟨d3, d1, d2⟩
    · rename_i hh
      injection e5 with e5
      subst e5
      rw [if_neg hh]
      rfl
  unfold soundD soundBs soundNs
  simp only [Bool.and_eq_true, decide_eq_true_eq]
  exact ⟨hk, ⟨c1, c2⟩, g2, g3, ⟨by rw [List.length_append]; omega, numsOk_of a1 a2 b2⟩, g5⟩
theorem kindB_num {b : List UInt8} {p : Nat} (h : numAt b p 2 ≠ 0) : kindB ((numAt b p 2 : Nat) : Int) = true := by
  have h1 := numAt_lt b p 2
  unfold kindB
  simp only [decide_eq_true_eq]
  have e : (2 : Nat) ^ (8 * 2) = 65536 := by decide
  omega
theorem ttlAt_le (b : List UInt8) (p : Nat) : ttlAt b p ≤ 2147483647 := by
  unfold ttlAt
  split <;> omega
theorem getRR_sound {b : List UInt8} {p : Int} (h : (getRR b p).2.2 = 0) : SoundR (getRR b p).1 := by
  unfold getRR at h ⊢
  split at h
  · rename_i h0
    exact absurd h h0
  rename_i h0
  rw [if_neg h0]
  split at h
  · simp at h
  rename_i h1
  rw [if_neg h1]
  split at h
  · simp at h
  rename_i h2
  rw [if_neg h2]
  split at h
  · rename_i h3
    exact absurd h h3
  rename_i h3
  rw [if_neg h3]
  have hk := kindB_num h2
  refine ⟨getW_sound (by omega), ?_, num_fit (by omega) (by omega), by dsimp only; omega, by have := ttlAt_le b ((getW b p).2.1 + 4); dsimp only; omega⟩
  dsimp only
  have h4 : (getD b (((getW b p).2.1 : Int) + 10) (numAt b ((getW b p).2.1 + 8) 2) (numAt b (getW b p).2.1 2)).2 = 0 := by omega
  generalize ((getW b p).2.1 : Int) + 10 = a at *
  generalize ((numAt b ((getW b p).2.1 + 8) 2 : Nat) : Int) = z at *
  unfold getD at h4 ⊢
  split at h4
  · simp at h4
  rename_i h5
  rw [if_neg h5]
  split at h4
  · simp at h4
  rename_i h6
  rw [if_neg h6]
  cases hr : readD b a.toNat (a + z).toNat (shN (numAt b (getW b p).2.1 2)) with
  | ok d => exact readD_sound hk (by omega) hr
  | error j =>
    rw [hr] at h4
    dsimp only at h4
    subst h4
    exact absurd hr (readD_err _ _ _ _)
theorem getQ_sound {b : List UInt8} {p : Nat} (h : (getQ b p).2.2 = 0) : soundQ (getQ b p).1 = true := by
  unfold getQ at h ⊢
  split at h
  · rename_i h0
    exact absurd h h0
  rename_i h0
  rw [if_neg h0]
  split at h
  · simp at h
  rename_i h1
  rw [if_neg h1]
  split at h
  · simp at h
  rename_i h2
  rw [if_neg h2]
  unfold soundQ
  simp only [Bool.and_eq_true, decide_eq_true_eq]
  exact ⟨getW_sound (by omega), by omega, num_fit (by omega) (by omega), num_fit (by omega) (by omega)⟩
theorem getQs_sound {b : List UInt8} : ∀ (k p : Nat) (l : List Qt) {r : List Qt × Nat}, getQs b k p l = .ok r → (∀ q ∈ l, soundQ q = true) → (∀ q ∈ r.1, soundQ q = true) ∧ r.1.length = l.length + k
  | 0, p, l, r, h, hl => by
    unfold getQs at h
    injection h with h
    subst h
    exact ⟨hl, rfl⟩
  | k + 1, p, l, r, h, hl => by
    unfold getQs at h
    split at h
    · cases h
    · rename_i h0
      obtain ⟨h1, h2⟩ := getQs_sound k _ _ h (fun q hq => by
        rcases List.mem_append.1 hq with h3 | h3
        · exact hl q h3
        · rw [List.mem_singleton.1 h3]
          exact getQ_sound (by omega))
      refine ⟨h1, ?_⟩
      rw [h2]
      simp
      omega
/-- What is known behind some records is sound. -/
structure RdOk (x : Rd) : Prop where
  r : ∀ r ∈ x.rs, soundX r = true
  s : fitB x.s 2 = true
  e : x.e = true ∨ x.s = 0
theorem stepR_sound {b : List UInt8} {last : Bool} {s t : Rd} (h : stepR b last s = .ok t) (hs : RdOk s) : RdOk t ∧ t.rs.length ≤ s.rs.length + 1 := by
  unfold stepR at h
  split at h
  · cases h
  · rename_i h0
    have h1 := getRR_sound (b := b) (p := (s.p : Int)) (by omega)
    unfold addR at h
    split at h
    · split at h
      · cases h
      · injection h with h
        subst h
        exact ⟨⟨hs.r, h1.c, .inl rfl⟩, by dsimp only; omega⟩
    · rename_i h2
      injection h with h
      subst h
      refine ⟨⟨fun r hr => ?_, hs.s, hs.e⟩, by simp⟩
      rcases List.mem_append.1 hr with h3 | h3
      · exact hs.r r h3
      · rw [List.mem_singleton.1 h3]
        exact soundX_iff.2 ⟨h2, h1⟩
theorem getRs_sound {b : List UInt8} {last : Bool} : ∀ (k : Nat) (s : Rd) {r : Rd}, getRs b last k s = .ok r → RdOk s → RdOk r ∧ r.rs.length ≤ s.rs.length + k
  | 0, s, r, h, hs => by
    unfold getRs at h
    injection h with h
    subst h
    exact ⟨hs, Nat.le_refl _⟩
  | k + 1, s, r, h, hs => by
    unfold getRs at h
    obtain ⟨t, ht, h⟩ := bind_ok h
    obtain ⟨h1, h2⟩ := stepR_sound ht hs
    obtain ⟨h3, h4⟩ := getRs_sound k t h h1
    exact ⟨h3, by omega⟩
theorem RdOk.next {s : Rd} (h : RdOk s) : RdOk ⟨[], s.p, s.e, s.s⟩ := ⟨fun _ h => absurd h (List.not_mem_nil), h.s, h.e⟩
/-- What bytes are is sound, but for how many there are. -/
structure DecOk (m : Mt) : Prop where
  h : soundH m.h = true
  q : ∀ q ∈ m.qs, soundQ q = true
  r : ∀ r ∈ m.all, soundX r = true
  n : m.qs.length + m.an.length + m.au.length + m.ex.length ≤ 513
theorem decM_sound {b : List UInt8} {m : Mt} (h : decM b = .ok m) : DecOk m := by
  unfold decM at h
  split at h
  · cases h
  split at h
  · cases h
  split at h
  · cases h
  rename_i h1 h2 h3
  obtain ⟨q, e1, h⟩ := bind_ok h
  obtain ⟨x, e2, h⟩ := bind_ok h
  obtain ⟨y, e3, h⟩ := bind_ok h
  obtain ⟨z, e4, h⟩ := bind_ok h
  split at h
  · cases h
  injection h with h
  subst h
  obtain ⟨q1, q2⟩ := getQs_sound _ _ _ e1 (fun q hq => absurd hq (List.not_mem_nil))
  obtain ⟨x1, x2⟩ := getRs_sound _ ⟨[], q.2, false, 0⟩ e2 ⟨fun _ h => absurd h (List.not_mem_nil), show fitB 0 2 = true by decide, .inr rfl⟩
  obtain ⟨y1, y2⟩ := getRs_sound _ ⟨[], x.p, x.e, x.s⟩ e3 x1.next
  obtain ⟨z1, z2⟩ := getRs_sound _ ⟨[], y.p, y.e, y.s⟩ e4 y1.next
  simp only [List.length_nil, Nat.zero_add] at q2 x2 y2 z2
  refine ⟨?_, q1, fun r hr => ?_, by dsimp only; omega⟩
  · unfold soundH hdOf codeB
    simp only [Bool.and_eq_true, decide_eq_true_eq, Bool.or_eq_true]
    refine ⟨num_fit (by omega) (by omega), ⟨by omega, by omega⟩, ⟨by omega, by omega⟩, z1.s, z1.e⟩
  · unfold Mt.all at hr
    rcases List.mem_append.1 hr with h4 | h4
    · exact x1.r r h4
    · rcases List.mem_append.1 h4 with h4 | h4
      · exact y1.r r h4
      · exact z1.r r h4
theorem DecOk.sound {m : Mt} (h : DecOk m) (hn : m.qs.length + m.an.length + m.au.length + m.ex.length ≤ 512) : SoundM m := ⟨h.h, hn, h.q, h.r⟩

end Go.Proofs.Ytjkjhpaeckkpjaa

namespace Go.Proofs.Ytjkjhpaeckkpjaa
open Go.RowKit

theorem wide_255 {n : List (List UInt8)} (h : szN n ≤ 255) : WideN n := wide_sz (Nat.le_trans h (by unfold maxLen; omega))
theorem sound_few {n : List (List UInt8)} (h : soundN n = true) : n.length ≤ 127 := by
  obtain ⟨h1, h2⟩ := soundN_parts h
  have := szN_ge n h1
  omega
theorem fit_wf {n s : Int} (h : fitB n s = true) : (Lit.int .i64 n).wf = true := by
  unfold fitB at h
  simp only [decide_eq_true_eq] at h
  obtain ⟨h1, h2, h3, h4⟩ := h
  have h5 : (2 : Int) ^ (8 * s.toNat) ≤ 72057594037927936 := by
    obtain ⟨k, hk⟩ : ∃ k, k = s.toNat := ⟨_, rfl⟩
    rw [← hk]
    rcases (show k = 1 ∨ k = 2 ∨ k = 3 ∨ k = 4 ∨ k = 5 ∨ k = 6 ∨ k = 7 by omega) with h | h | h | h | h | h | h <;> rw [h] <;> decide +kernel
  have e1 : IntKind.i64.min = -9223372036854775808 := rfl
  have e2 : IntKind.i64.max = 9223372036854775807 := rfl
  simp only [Lit.wf, Bool.and_eq_true, decide_eq_true_eq]
  omega
/-- What is sound is small. -/
theorem SoundR.small {r : Rt} (h : SoundR r) : RIn r ∧ LightR r := by
  have sp := soundP h.d
  have hn := soundN_parts h.n
  have e1 : szN ([] : List (List UInt8)) = 1 := rfl
  have hh : szN r.data.host ≤ 255 ∧ r.data.host.length ≤ 127 := by
    cases hs : (shN r.kind).host with
    | true => exact ⟨(soundN_parts (sp.h hs)).2, sound_few (sp.h hs)⟩
    | false => rw [sp.h0 hs]; exact ⟨by rw [e1]; omega, by simp⟩
  have hm : szN r.data.mail ≤ 255 ∧ r.data.mail.length ≤ 127 := by
    cases hs : (shN r.kind).mail with
    | true => exact ⟨(soundN_parts (sp.m hs)).2, sound_few (sp.m hs)⟩
    | false => rw [sp.m0 hs]; exact ⟨by rw [e1]; omega, by simp⟩
  have hf := sound_few h.n
  have h1 := shN_small r.kind
  have h2 := sp.n
  have h3 := sp.b
  have h4 : (shN r.kind).most ≤ 65535 := by
    unfold shN
    repeat' split
    all_goals decide
  have h5 := sp.t
  have hk : kindB r.kind = true := by have h := h.d; unfold soundD at h; simp only [Bool.and_eq_true] at h; exact h.1
  unfold kindB at hk
  simp only [decide_eq_true_eq] at hk
  obtain ⟨f2, f4⟩ := nums_fit sp.ok
  have e6 : IntKind.i64.min = -9223372036854775808 := rfl
  have e7 : IntKind.i64.max = 9223372036854775807 := rfl
  refine ⟨⟨wide_255 hn.2, ?_, fit_wf h.c, ?_, ⟨wide_255 hh.1, wide_255 hm.1, by unfold maxLen; omega⟩, fun k hk => ?_, fun n hn => ?_⟩, ⟨by omega, by omega, by omega, by omega, by omega, by omega⟩⟩
  · simp only [Lit.wf, Bool.and_eq_true, decide_eq_true_eq]
    omega
  · have := h.t0
    have := h.t1
    simp only [Lit.wf, Bool.and_eq_true, decide_eq_true_eq]
    omega
  · have := sp.tl _ (List.getElem_mem hk)
    unfold maxLen
    omega
  · rw [← List.take_append_drop (shN r.kind).ahead r.data.nums] at hn
    rcases List.mem_append.1 hn with h6 | h6
    · exact fit_wf (f2 n h6)
    · exact fit_wf (f4 n h6)

def SameRsRel (w : World) (k0 : Nat) (i : Value) (wr : World) : Prop := ∃ k : Nat, k ≤ k0 ∧ i = .int .i64 k ∧ Below w.heap.size w wr
set_option maxRecDepth 20000 in
set_option maxHeartbeats 4000000 in
theorem sameRRs_self (w : World) (A B : Option Addr) (c d : Nat) (ps qs : List (RV × Rt)) (hp : RsAt w w.heap.size A ps) (hq : RsAt w w.heap.size B qs) (he : recs ps = recs qs) (hs : ∀ r ∈ recs ps, SoundR r) (hl : ps.length ≤ 1000) :
    Calls Try.prog 43 #[.slice A ps.length c, .slice B qs.length d] w (Gave w (.bool true)) := by
  have hlen : qs.length = ps.length := by rw [← length_recs qs, ← he, length_recs]
  have HP := Lib.hid (fun W' (h : Below w.heap.size w W') => hp.below h)
  have HQ := Lib.hid (fun W' (h : Below w.heap.size w W') => hq.below h)
  have HS := Lib.hid hs
  have HE := Lib.hid (fun k (h1 : k < ps.length) (h2 : k < qs.length) => (show (qs[k]).2 = (ps[k]).2 from by
    have h3 : (recs qs)[k]? = (recs ps)[k]? := by rw [he]
    unfold recs at h3
    rw [List.getElem?_map, List.getElem?_map, List.getElem?_eq_getElem h1, List.getElem?_eq_getElem h2] at h3
    simpa using h3))
  clear hp hq hs he
  have HLQ := Lib.hid hlen
  rw [hlen]
  clear hlen
  go_enter Try.func43, Try.ntmps43
  go_wp2
  go_loopw [5] (SameRsRel w ps.length) (fun i _ => ps.length - (intOf i).toNat)
  case atStart => exact ⟨0, Nat.zero_le _, rfl, Below.refl _ _⟩
  case round =>
  obtain ⟨k, hk, rfl, hb⟩ := hrel
  have HB := Lib.hid hb
  clear hb
  by_cases hlt : k < ps.length
  · have hlq : k < qs.length := by rw [HLQ.out]; exact hlt
    obtain ⟨b1, o1, rfl, hb1, hra, q0, q1, q2, q3, q4, q5, q6, q7, q8⟩ := (HP.out _ HB.out).at_ hlt
    obtain ⟨b2, o2, rfl, hb2, hrb, r0, r1, r2, r3, r4, r5, r6, r7, r8⟩ := (HQ.out _ HB.out).at_ hlq
    have hsr := HS.out _ (List.mem_map.2 ⟨ps[k], List.getElem_mem hlt, rfl⟩)
    have hee := HE.out k hlt hlq
    revert hra hrb q0 q1 q2 q3 q4 q5 q6 q7 q8 r0 r1 r2 r3 r4 r5 r6 r7 r8 hsr hee
    generalize ps[k] = p
    generalize qs[k] = q
    obtain ⟨x, r⟩ := p
    obtain ⟨y, r'⟩ := q
    intro hra q0 q1 q2 q3 q4 q5 q6 q7 q8 hrb r0 r1 r2 r3 r4 r5 r6 r7 r8 hsr hee
    dsimp only at hra q0 q1 q2 q3 q4 q5 q6 q7 q8 hrb r0 r1 r2 r3 r4 r5 r6 r7 r8 hsr hee
    subst hee
    obtain ⟨hin, hlr⟩ := hsr.small
    have hw1 := hlr.l0
    have hw2 := hlr.l1
    have hw3 := hlr.l2
    have hsd := soundP hsr.d
    have hz : Sized r'.data := by
      have e1 : szN ([] : List (List UInt8)) = 1 := rfl
      have h5 := hsd.t
      refine ⟨?_, ?_, by unfold maxLen; omega⟩
      · cases hs : (shN r'.kind).host with
        | true => have := (soundN_parts (hsd.h hs)).2; unfold maxLen; omega
        | false => rw [hsd.h0 hs, e1]; unfold maxLen; omega
      · cases hs : (shN r'.kind).mail with
        | true => have := (soundN_parts (hsd.m hs)).2; unfold maxLen; omega
        | false => rw [hsd.m0 hs, e1]; unfold maxLen; omega
    have HCL := Lib.hid (sameRR_any x y r' r' wr.drew ((hra.below (Below.refl w.heap.size wr).drew).mono HB.out.size) ((hrb.below (Below.refl w.heap.size wr).drew).mono HB.out.size) (by unfold maxLen; omega) hz hz (by unfold maxLen; omega) (by unfold maxLen; omega))
    rw [sameR_self] at HCL
    clear hra hrb hsr hin hlr hw1 hw2 hw3 hsd hz
    go_wp2
    go_still_tail 8, (by kernel_rfl)
    change wpList _ _ _ _ _ wr.drew
    have HBD := Lib.hid HB.out.drew
    clear q0 q1 q2 q3 q4 q5 q6 q7 q8 r0 r1 r2 r3 r4 r5 r6 r7 r8
    go_wp2_with fail
    refine HCL.out.mono ?_
    rintro e w1 ⟨rfl, hb1⟩
    have HB1 := Lib.hid (HBD.out.trans (hb1.mono HBD.out.size))
    clear hb1
    go_wp2
    exact ⟨⟨k + 1, by omega, by go_num, HB1.out⟩, by simp [intOf]; omega⟩
  · obtain rfl : k = ps.length := by omega
    go_wp2
    go_ret
    exact ⟨rfl, HB.out⟩

def SameQRel (W : World) (k0 : Nat) (i : Value) (wr : World) : Prop := ∃ k : Nat, k ≤ k0 ∧ i = .int .i64 k ∧ Below W.heap.size W wr
set_option maxRecDepth 20000 in
set_option maxHeartbeats 8000000 in
theorem samemsg_core (w : World) (h : Hd) (qA qB : Option Addr) (qc qd : Nat) (qp qr : List (QV × Qt)) (A0 A1 A2 B0 B1 B2 : Option Addr) (k0 k1 k2 j0 j1 j2 : Nat) (p0 p1 p2 r0 r1 r2 : List (RV × Rt))
    (hq : QsAt w w.heap.size qA qp) (gq : QsAt w w.heap.size qB qr) (h0 : RsAt w w.heap.size A0 p0) (g0 : RsAt w w.heap.size B0 r0) (h1 : RsAt w w.heap.size A1 p1) (g1 : RsAt w w.heap.size B1 r1) (h2 : RsAt w w.heap.size A2 p2) (g2 : RsAt w w.heap.size B2 r2)
    (eq : qsts qp = qsts qr) (e0 : recs p0 = recs r0) (e1 : recs p1 = recs r1) (e2 : recs p2 = recs r2) (hsq : ∀ q ∈ qsts qp, soundQ q = true) (s0 : ∀ r ∈ recs p0, SoundR r) (s1 : ∀ r ∈ recs p1, SoundR r) (s2 : ∀ r ∈ recs p2, SoundR r)
    (lq : qp.length ≤ 1000) (l0 : p0.length ≤ 1000) (l1 : p1.length ≤ 1000) (l2 : p2.length ≤ 1000) :
    Calls Try.prog 19 #[valM h (.slice qA qp.length qc) (.slice A0 p0.length k0) (.slice A1 p1.length k1) (.slice A2 p2.length k2), valM h (.slice qB qr.length qd) (.slice B0 r0.length j0) (.slice B1 r1.length j1) (.slice B2 r2.length j2)] w (Gave w (.bool true)) := by
  have nq : qr.length = qp.length := by rw [← length_qsts qr, ← eq, length_qsts]
  have n0 : r0.length = p0.length := by rw [← length_recs r0, ← e0, length_recs]
  have n1 : r1.length = p1.length := by rw [← length_recs r1, ← e1, length_recs]
  have n2 : r2.length = p2.length := by rw [← length_recs r2, ← e2, length_recs]
  have HS0 := Lib.hid (fun W' (hb : Below w.heap.size w W') => sameRRs_self W' A0 B0 k0 j0 p0 r0 ((h0.below hb).mono hb.size) ((g0.below hb).mono hb.size) e0 s0 l0)
  have HS1 := Lib.hid (fun W' (hb : Below w.heap.size w W') => sameRRs_self W' A1 B1 k1 j1 p1 r1 ((h1.below hb).mono hb.size) ((g1.below hb).mono hb.size) e1 s1 l1)
  have HS2 := Lib.hid (fun W' (hb : Below w.heap.size w W') => sameRRs_self W' A2 B2 k2 j2 p2 r2 ((h2.below hb).mono hb.size) ((g2.below hb).mono hb.size) e2 s2 l2)
  rw [n0] at HS0
  rw [n1] at HS1
  rw [n2] at HS2
  have HQ := Lib.hid (fun W' (hb : Below w.heap.size w W') => hq.below hb)
  have HR := Lib.hid (fun W' (hb : Below w.heap.size w W') => gq.below hb)
  have HSQ := Lib.hid hsq
  have HE := Lib.hid (fun k (a1 : k < qp.length) (a2 : k < qr.length) => (show (qr[k]).2 = (qp[k]).2 from by
    have h3 : (qsts qr)[k]? = (qsts qp)[k]? := by rw [eq]
    unfold qsts at h3
    rw [List.getElem?_map, List.getElem?_map, List.getElem?_eq_getElem a1, List.getElem?_eq_getElem a2] at h3
    simpa using h3))
  have HNQ := Lib.hid nq
  rw [nq, n0, n1, n2]
  obtain ⟨W, hW⟩ : ∃ W, W = (w.alloc (.cells #[.int .i64 h.id, .bool h.resp, .int .i64 h.op, .bool h.aa, .bool h.tc, .bool h.rd, .bool h.ra, .int .i64 h.rc, .slice qA qp.length qc, .slice A0 p0.length k0, .slice A1 p1.length k1, .slice A2 p2.length k2, .bool h.edns, .int .i64 h.size] 25)).alloc (.cells #[.int .i64 h.id, .bool h.resp, .int .i64 h.op, .bool h.aa, .bool h.tc, .bool h.rd, .bool h.ra, .int .i64 h.rc, .slice qB qp.length qd, .slice B0 p0.length j0, .slice B1 p1.length j1, .slice B2 p2.length j2, .bool h.edns, .int .i64 h.size] 25) := ⟨_, rfl⟩
  have hB : Below w.heap.size w W := by rw [hW]; exact ((Below.refl _ _).alloc (Nat.le_refl _) _).alloc (by simp) _
  have hzW : W.heap.size = w.heap.size + 2 := by rw [hW]; simp
  have hw1 : Whole W w.heap.size 25 (cellsM h (.slice qA qp.length qc) (.slice A0 p0.length k0) (.slice A1 p1.length k1) (.slice A2 p2.length k2)) := by rw [hW]; exact (Whole.made w [.int .i64 h.id, .bool h.resp, .int .i64 h.op, .bool h.aa, .bool h.tc, .bool h.rd, .bool h.ra, .int .i64 h.rc, .slice qA qp.length qc, .slice A0 p0.length k0, .slice A1 p1.length k1, .slice A2 p2.length k2, .bool h.edns, .int .i64 h.size] _).alloc _
  have hw2 : Whole W (w.heap.size + 1) 25 (cellsM h (.slice qB qp.length qd) (.slice B0 p0.length j0) (.slice B1 p1.length j1) (.slice B2 p2.length j2)) := by
    rw [hW]
    have h1 := Whole.made (w.alloc (.cells #[.int .i64 h.id, .bool h.resp, .int .i64 h.op, .bool h.aa, .bool h.tc, .bool h.rd, .bool h.ra, .int .i64 h.rc, .slice qA qp.length qc, .slice A0 p0.length k0, .slice A1 p1.length k1, .slice A2 p2.length k2, .bool h.edns, .int .i64 h.size] 25)) [.int .i64 h.id, .bool h.resp, .int .i64 h.op, .bool h.aa, .bool h.tc, .bool h.rd, .bool h.ra, .int .i64 h.rc, .slice qB qp.length qd, .slice B0 p0.length j0, .slice B1 p1.length j1, .slice B2 p2.length j2, .bool h.edns, .int .i64 h.size] 25
    rw [show (w.alloc (.cells #[.int .i64 h.id, .bool h.resp, .int .i64 h.op, .bool h.aa, .bool h.tc, .bool h.rd, .bool h.ra, .int .i64 h.rc, .slice qA qp.length qc, .slice A0 p0.length k0, .slice A1 p1.length k1, .slice A2 p2.length k2, .bool h.edns, .int .i64 h.size] 25)).heap.size = w.heap.size + 1 by simp] at h1
    exact h1
  have HC := Lib.hid (fun (W' : World) (hb : Below W.heap.size W W') => (show (W'.cell? ⟨w.heap.size, 8, none⟩ = some (.slice qA qp.length qc) ∧ W'.cell? ⟨w.heap.size, 9, none⟩ = some (.slice A0 p0.length k0) ∧ W'.cell? ⟨w.heap.size, 10, none⟩ = some (.slice A1 p1.length k1) ∧ W'.cell? ⟨w.heap.size, 11, none⟩ = some (.slice A2 p2.length k2)) ∧
    (W'.cell? ⟨w.heap.size + 1, 8, none⟩ = some (.slice qB qp.length qd) ∧ W'.cell? ⟨w.heap.size + 1, 9, none⟩ = some (.slice B0 p0.length j0) ∧ W'.cell? ⟨w.heap.size + 1, 10, none⟩ = some (.slice B1 p1.length j1) ∧ W'.cell? ⟨w.heap.size + 1, 11, none⟩ = some (.slice B2 p2.length j2)) from by
      have a1 := hw1.below hb (by omega)
      have a2 := hw2.below hb (by omega)
      exact ⟨⟨a1.cell 8, a1.cell 9, a1.cell 10, a1.cell 11⟩, ⟨a2.cell 8, a2.cell 9, a2.cell 10, a2.cell 11⟩⟩))
  have HB := Lib.hid hB
  have HBW := Lib.hid (Below.refl W.heap.size W)
  clear hB hw1 hw2 hzW hq gq h0 g0 h1 g1 h2 g2 eq e0 e1 e2 hsq s0 s1 s2 nq n0 n1 n2
  subst hW
  go_enter Try.func19, Try.ntmps19
  go_wp2
  generalize (w.alloc (.cells #[.int .i64 h.id, .bool h.resp, .int .i64 h.op, .bool h.aa, .bool h.tc, .bool h.rd, .bool h.ra, .int .i64 h.rc, .slice qA qp.length qc, .slice A0 p0.length k0, .slice A1 p1.length k1, .slice A2 p2.length k2, .bool h.edns, .int .i64 h.size] 25)).alloc (.cells #[.int .i64 h.id, .bool h.resp, .int .i64 h.op, .bool h.aa, .bool h.tc, .bool h.rd, .bool h.ra, .int .i64 h.rc, .slice qB qp.length qd, .slice B0 p0.length j0, .slice B1 p1.length j1, .slice B2 p2.length j2, .bool h.edns, .int .i64 h.size] 25) = V at *
  go_loopw [5] (SameQRel V qp.length) (fun i _ => qp.length - (intOf i).toNat)
  case atStart => exact ⟨0, Nat.zero_le _, rfl, HBW.out⟩
  case round =>
  obtain ⟨k, hk, rfl, hb⟩ := hrel
  have HBR := Lib.hid hb
  obtain ⟨⟨m8, _, _, _⟩, ⟨n8, _, _, _⟩⟩ := HC.out wr hb
  clear hb
  by_cases hlt : k < qp.length
  · have hlq : k < qr.length := by rw [HNQ.out]; exact hlt
    have HBT := Lib.hid (HB.out.trans (HBR.out.mono HB.out.size))
    obtain ⟨b1, o1, rfl, hb1, hra, q0, q1, q2⟩ := (HQ.out _ HBT.out).at_ hlt
    obtain ⟨b2, o2, rfl, hb2, hrb, t0, t1, t2⟩ := (HR.out _ HBT.out).at_ hlq
    have hsr := HSQ.out _ (List.mem_map.2 ⟨qp[k], List.getElem_mem hlt, rfl⟩)
    have hee := HE.out k hlt hlq
    revert hra hrb q0 q1 q2 t0 t1 t2 hsr hee
    generalize qp[k] = p
    generalize qr[k] = q
    obtain ⟨x, r⟩ := p
    obtain ⟨y, r'⟩ := q
    intro hra q0 q1 q2 hrb t0 t1 t2 hsr hee
    dsimp only at hra q0 q1 q2 hrb t0 t1 t2 hsr hee
    subst hee
    have hnl := (show r'.name.length ≤ 127 from by
      unfold soundQ at hsr
      simp only [Bool.and_eq_true] at hsr
      exact sound_few hsr.1)
    have HX := Lib.hid (fun k => (show Calls Try.prog 42 #[.slice x.1 r'.name.length x.2, .slice y.1 r'.name.length y.2] (wr.drewN k) (fun e w' => e = .returned (.bool true) ∧ ∃ j, w' = wr.drewN j) from by
      have h1 := exact_any x.1 y.1 r'.name.length r'.name.length x.2 y.2 w.heap.size r'.name r'.name (wr.drewN k) rfl rfl (Row.drewN hra k) (Row.drewN hrb k) (by unfold maxLen; omega)
      refine h1.mono fun e w' ⟨ha, j, hj⟩ => ?_
      rw [show decide (r'.name = r'.name) = true by simp] at ha
      exact ⟨ha, k + j, by rw [hj, World.drewN_drewN]⟩))
    clear hra hrb hsr
    go_wp2
    go_quiet ((go_at_call 42; exact HX.out _))
    have HBN := Lib.hid (below_drewN' HBR.out nq)
    go_wp2
    exact ⟨⟨k + 1, by omega, by go_num, HBN.out⟩, by simp [intOf]; omega⟩
  · obtain rfl : k = qp.length := by omega
    have HBT := Lib.hid (HB.out.trans (HBR.out.mono HB.out.size))
    obtain ⟨⟨_, m9, _, _⟩, ⟨_, n9, _, _⟩⟩ := HC.out wr HBR.out
    go_wp2_with fail
    refine (HS0.out _ HBT.out).mono ?_
    rintro e w1 ⟨rfl, hb1⟩
    have HB1 := Lib.hid (HBR.out.trans (hb1.mono HBR.out.size))
    have HT1 := Lib.hid (HBT.out.trans (hb1.mono HBT.out.size))
    clear hb1 m9 n9
    obtain ⟨⟨_, _, m10, _⟩, ⟨_, _, n10, _⟩⟩ := HC.out w1 HB1.out
    go_wp2_with fail
    refine (HS1.out _ HT1.out).mono ?_
    rintro e w2 ⟨rfl, hb2⟩
    have HB2 := Lib.hid (HB1.out.trans (hb2.mono HB1.out.size))
    have HT2 := Lib.hid (HT1.out.trans (hb2.mono HT1.out.size))
    clear hb2 m10 n10
    obtain ⟨⟨_, _, _, m11⟩, ⟨_, _, _, n11⟩⟩ := HC.out w2 HB2.out
    go_wp2_with fail
    refine (HS2.out _ HT2.out).mono ?_
    rintro e w3 ⟨rfl, hb3⟩
    have HT3 := Lib.hid (HT2.out.trans (hb3.mono HT2.out.size))
    clear hb3
    go_wp2
    go_ret
    exact ⟨rfl, HT3.out⟩
/-- Two messages that are the same are the same to the document. -/
theorem samemsg_self (w : World) (m m' : MV) (hm : MAt w w.heap.size m) (hm' : MAt w w.heap.size m') (he : m'.msg = m.msg) (hq : ∀ q ∈ m.msg.qs, soundQ q = true) (hr : ∀ r ∈ m.msg.all, SoundR r) (lq : m.qp.length ≤ 1000) (lr : ∀ i, (m.sec i).ps.length ≤ 1000) :
    Calls Try.prog 19 #[m.val, m'.val] w (Gave w (.bool true)) := by
  obtain ⟨h, qA, qc, qp, ⟨A0, k0, p0⟩, ⟨A1, k1, p1⟩, ⟨A2, k2, p2⟩⟩ := m
  obtain ⟨h', qB, qd, qr, ⟨B0, j0, r0⟩, ⟨B1, j1, r1⟩, ⟨B2, j2, r2⟩⟩ := m'
  unfold MV.msg at he
  injection he with e0 e1 e2 e3 e4
  dsimp only at e0
  subst e0
  have l0 : p0.length ≤ 1000 := lr 0
  have l1 : p1.length ≤ 1000 := lr 1
  have l2 : p2.length ≤ 1000 := lr 2
  exact samemsg_core w _ qA qB qc qd qp qr A0 A1 A2 B0 B1 B2 k0 k1 k2 j0 j1 j2 p0 p1 p2 r0 r1 r2 hm.q hm'.q hm.s0 hm'.s0 hm.s1 hm'.s1 hm.s2 hm'.s2 e1.symm e2.symm e3.symm e4.symm hq
    (fun r h => hr r (List.mem_append_left _ h)) (fun r h => hr r (List.mem_append_right _ (List.mem_append_left _ h))) (fun r h => hr r (List.mem_append_right _ (List.mem_append_right _ h))) lq l0 l1 l2

end Go.Proofs.Ytjkjhpaeckkpjaa

namespace Go.Proofs.Ytjkjhpaeckkpjaa
open Go.RowKit

theorem DecOut.no_ {w w' : World} {r : Except Nat Mt} {e : Ending} {k : Nat} (h : DecOut w r e w') (hr : r = .error k) : e = .returned (.tuple #[valM hd0 (.slice none 0 0) (.slice none 0 0) (.slice none 0 0) (.slice none 0 0), .int .i64 k]) ∧ k ≠ 0 ∧ Below w.heap.size w w' := by
  subst hr
  exact ⟨h.2.1, h.2.2, h.1⟩
theorem DecOut.yes {w w' : World} {r : Except Nat Mt} {e : Ending} {x : Mt} (h : DecOut w r e w') (hr : r = .ok x) : ∃ m : MV, e = .returned (.tuple #[m.val, .int .i64 0]) ∧ m.msg = x ∧ DOwn w' w.heap.size m ∧ Below w.heap.size w w' := by
  subst hr
  obtain ⟨h1, m, h2, h3, h4⟩ := h
  exact ⟨m, h2, h3, h4, h1⟩
theorem encE_ok {m : Mt} {b : List UInt8} (h : encE m = .ok b) : SoundM m ∧ b = encM m ∧ b.length ≤ 65535 ∧ decM b = .ok m := by
  unfold encE at h
  split at h
  · rename_i hs
    split at h
    · cases h
    · injection h with h
      subst h
      have h1 := dec_enc (soundM_iff.1 hs) [] (by simp; omega)
      simp only [List.append_nil, if_true] at h1
      exact ⟨soundM_iff.1 hs, rfl, by omega, h1⟩
  · cases h
theorem encE_err {m : Mt} {k : Nat} (h : encE m = .error k) : k = 4 ∨ k = 2 := by
  unfold encE at h
  split at h
  · split at h
    · injection h with h
      exact .inl h.symm
    · cases h
  · injection h with h
    exact .inr h.symm
theorem EncOut.no {w w' : World} {r : Except Nat (List UInt8)} {e : Ending} {k : Nat} (h : EncOut w r e w') (hr : r = .error k) : e = .returned (.tuple #[.slice none 0 0, .int .i64 k]) ∧ Below w.heap.size w w' := by
  subst hr
  exact ⟨h.2, h.1⟩
theorem EncOut.yes {w w' : World} {r : Except Nat (List UInt8)} {e : Ending} {l : List UInt8} (h : EncOut w r e w') (hr : r = .ok l) : ∃ A c, e = .returned (.tuple #[.slice A l.length c, .int .i64 0]) ∧ w'.ownsRow w.heap.size 5 1 (.slice A l.length c) l.length (l.map bc) ∧ Below w.heap.size w w' := by
  subst hr
  obtain ⟨h1, A, c, h2, h3⟩ := h
  exact ⟨A, c, h2, h3, h1⟩
theorem code_wf {n : Int} (h : codeB n = true) : (Lit.int .i64 n).wf = true := by
  unfold codeB at h
  simp only [Bool.and_eq_true, decide_eq_true_eq] at h
  have e1 : IntKind.i64.min = -9223372036854775808 := rfl
  have e2 : IntKind.i64.max = 9223372036854775807 := rfl
  simp only [Lit.wf, Bool.and_eq_true, decide_eq_true_eq]
  omega
/-- What is read is small. -/
theorem DecOk.small {m : MV} (h : DecOk m.msg) : MIn m ∧ (∀ i, (m.sec i).ps.length ≤ 700) ∧ m.qp.length ≤ 700 ∧ m.qp.length + m.s0.ps.length + m.s1.ps.length + m.s2.ps.length ≤ 513 := by
  have hn := h.n
  have e0 : m.msg.qs.length = m.qp.length := length_qsts _
  have e1 : m.msg.an.length = m.s0.ps.length := length_recs _
  have e2 : m.msg.au.length = m.s1.ps.length := length_recs _
  have e3 : m.msg.ex.length = m.s2.ps.length := length_recs _
  rw [e0, e1, e2, e3] at hn
  have hl : ∀ i, (m.sec i).ps.length ≤ 700 := fun i => sec_all (P := fun s => s.ps.length ≤ 700) (by omega) (by omega) (by omega) i
  have hh := h.h
  unfold soundH at hh
  simp only [Bool.and_eq_true] at hh
  obtain ⟨a1, a2, a3, a4, _⟩ := hh
  refine ⟨⟨⟨fit_wf a1, code_wf a2, code_wf a3, fit_wf a4⟩, fun p hp => ?_, fun i p hp => ?_, by omega, fun i => by have := hl i; omega⟩, hl, by omega, hn⟩
  · have h1 := h.q p.2 (List.mem_map.2 ⟨p, hp, rfl⟩)
    unfold soundQ at h1
    simp only [Bool.and_eq_true] at h1
    obtain ⟨b1, _, b3, b4⟩ := h1
    exact ⟨wide_255 (soundN_parts b1).2, fit_wf b3, fit_wf b4, by have := sound_few b1; omega⟩
  · exact ((soundX_iff.1 (h.r _ (in_all hp))).2).small
theorem DecOk.of_sound {m : Mt} (h : SoundM m) : DecOk m := ⟨h.h, h.q, h.r, by have := h.n; omega⟩
theorem DecOk.all {m : Mt} (h : DecOk m) : ∀ r ∈ m.all, SoundR r := fun r hr => (soundX_iff.1 (h.r r hr)).2

set_option maxRecDepth 20000 in
set_option maxHeartbeats 8000000 in
theorem mback_core (w : World) (m : MV) (h : Hd) (qA : Option Addr) (qc : Nat) (qp : List (QV × Qt)) (A0 A1 A2 : Option Addr) (k0 k1 k2 : Nat) (p0 p1 p2 : List (RV × Rt)) (he : m = ⟨h, qA, qc, qp, ⟨A0, k0, p0⟩, ⟨A1, k1, p1⟩, ⟨A2, k2, p2⟩⟩) (hm : MAt w w.heap.size m) (hs : MSafe m)
    (X : Option Addr) (c : Nat) (l : List UInt8) (hX : Row w w.heap.size X (l.map bc)) (hll : l.length ≤ maxLen) (_ : l.length ≤ c) :
    Calls Try.prog 4 #[valM h (.slice qA qp.length qc) (.slice A0 p0.length k0) (.slice A1 p1.length k1) (.slice A2 p2.length k2), .slice X l.length c] w (TrueB w) := by
  obtain ⟨i0, hi0, hz0, hz1, hz2⟩ := info_parts u8_info
  have HA := Lib.hid (fun W' => manswers_any W')
  obtain ⟨W, hW⟩ : ∃ W, W = w.alloc (.cells #[.int .i64 h.id, .bool h.resp, .int .i64 h.op, .bool h.aa, .bool h.tc, .bool h.rd, .bool h.ra, .int .i64 h.rc, .slice qA qp.length qc, .slice A0 p0.length k0, .slice A1 p1.length k1, .slice A2 p2.length k2, .bool h.edns, .int .i64 h.size] 25) := ⟨_, rfl⟩
  have hB : Below w.heap.size w W := by rw [hW]; exact (Below.refl _ _).alloc (Nat.le_refl _) _
  have hzW : W.heap.size = w.heap.size + 1 := by rw [hW]; simp
  have hwm : Whole W w.heap.size 25 (cellsM h (.slice qA qp.length qc) (.slice A0 p0.length k0) (.slice A1 p1.length k1) (.slice A2 p2.length k2)) := by rw [hW]; exact Whole.made w [.int .i64 h.id, .bool h.resp, .int .i64 h.op, .bool h.aa, .bool h.tc, .bool h.rd, .bool h.ra, .int .i64 h.rc, .slice qA qp.length qc, .slice A0 p0.length k0, .slice A1 p1.length k1, .slice A2 p2.length k2, .bool h.edns, .int .i64 h.size] _
  have ev : m.val = valM h (.slice qA qp.length qc) (.slice A0 p0.length k0) (.slice A1 p1.length k1) (.slice A2 p2.length k2) := by rw [he]
  have HC := Lib.hid (fun (W' : World) (hb : Below W.heap.size W W') => cells14 (hwm.below hb (by omega)))
  have HMA := Lib.hid (fun (W' : World) (hb : Below W.heap.size W W') => (show MAt W' W'.heap.size m from by
    have hb2 := hB.trans (hb.mono hB.size)
    exact (hm.below hb2).mono hb2.size))
  have HLT := Lib.hid (fun (W' : World) (hb : Below W.heap.size W W') => (show Calls Try.prog 11 #[valM h (.slice qA qp.length qc) (.slice A0 p0.length k0) (.slice A1 p1.length k1) (.slice A2 p2.length k2)] W' (Gave W' (.bool (lightM m.msg))) from by
    have h1 := hs.light W' (HMA.out W' hb)
    rwa [ev] at h1))
  have HIN := Lib.hid (fun (m' : MV) (e : m'.msg = m.msg) (hl : LightM m.msg) => ((hs.small hl).1.same e))
  have HOM := Lib.hid (fun (W' : World) (hb : Below W.heap.size W W') (hl : LightM m.msg) => (show Calls Try.prog 13 #[valM h (.slice qA qp.length qc) (.slice A0 p0.length k0) (.slice A1 p1.length k1) (.slice A2 p2.length k2)] W' (OwnMOut W' m.msg) from by
    have h1 := ownMsg_any W' m (HMA.out W' hb) (hs.small hl).1 (hs.small hl).2
    rwa [ev] at h1))
  have HSM := Lib.hid (fun (W' : World) (hb : Below W.heap.size W W') (y : MV) (hy : MAt W' W'.heap.size y) (hym : y.msg = m.msg) (hk : DecOk m.msg) => (show Calls Try.prog 19 #[y.val, valM h (.slice qA qp.length qc) (.slice A0 p0.length k0) (.slice A1 p1.length k1) (.slice A2 p2.length k2)] W' (Gave W' (.bool true)) from by
    have hk2 : DecOk y.msg := by rw [hym]; exact hk
    have h1 := samemsg_self W' y m hy (HMA.out W' hb) hym.symm hk2.q hk2.all (by have := hk2.small.2.2.1; omega) (fun i => by have := hk2.small.2.1 i; omega)
    rwa [ev] at h1))
  have HX := Lib.hid (fun (W' : World) (hb : Below W.heap.size W W') => (show Row W' w.heap.size X (l.map bc) from hX.below (hB.trans (hb.mono hB.size))))
  have HB := Lib.hid hB
  have HWB := Lib.hid (Below.refl W.heap.size W)
  unfold maxLen at hll
  clear hB hzW hwm hm hs he ev HMA hX
  generalize m.msg = M at *
  clear m
  subst hW
  go_enter Try.func4, Try.ntmps4
  go_wp2_with fail
  refine (HA.out _).mono ?_
  rintro e w1 ⟨rfl, hb1⟩
  generalize w.alloc (.cells #[.int .i64 h.id, .bool h.resp, .int .i64 h.op, .bool h.aa, .bool h.tc, .bool h.rd, .bool h.ra, .int .i64 h.rc, .slice qA qp.length qc, .slice A0 p0.length k0, .slice A1 p1.length k1, .slice A2 p2.length k2, .bool h.edns, .int .i64 h.size] 25) = V at *
  have HB1 := Lib.hid hb1
  obtain ⟨m0, m1, m2, m3, m4, m5, m6, m7, m8, m9, m10, m11, m12, m13⟩ := HC.out w1 HB1.out
  clear hb1
  go_wp2_with fail
  refine (HLT.out _ HB1.out).mono ?_
  rintro e w2 ⟨rfl, hb2⟩
  have HB2 := Lib.hid (HB1.out.trans (hb2.mono HB1.out.size))
  clear hb2 m0 m1 m2 m3 m4 m5 m6 m7 m8 m9 m10 m11 m12 m13
  cases hl : lightM M with
  | false =>
    go_wp2_with fail
    refine (HA.out _).mono ?_
    rintro e w3 ⟨rfl, hb3⟩
    have HB3 := Lib.hid (HB2.out.trans (hb3.mono HB2.out.size))
    clear hb3
    go_wp2
    go_ret
    exact ⟨rfl, HB.out.trans (HB3.out.mono HB.out.size)⟩
  | true =>
  have HLM := Lib.hid (lightM_iff hl)
  clear hl
  by_cases hlen : l.length ≤ 70000
  case neg =>
    have d1 : decide ((70000 : Int) < (l.length : Int)) = true := decide_eq_true (by omega)
    go_wp2_with fail
    refine (HA.out _).mono ?_
    rintro e w3 ⟨rfl, hb3⟩
    have HB3 := Lib.hid (HB2.out.trans (hb3.mono HB2.out.size))
    clear hb3
    go_wp2
    go_ret
    exact ⟨rfl, HB.out.trans (HB3.out.mono HB.out.size)⟩
  have d1 : decide ((70000 : Int) < (l.length : Int)) = false := decide_eq_false (by omega)
  obtain ⟨m0, m1, m2, m3, m4, m5, m6, m7, m8, m9, m10, m11, m12, m13⟩ := HC.out w2 HB2.out
  go_wp2_with fail
  refine (HOM.out _ HB2.out HLM.out).mono ?_
  rintro e w4 ⟨m', rfl, hmsg, hown, hb4⟩
  have HB4 := Lib.hid (HB2.out.trans (hb4.mono HB2.out.size))
  have HEC := Lib.hid (encode_any w4 m' hown.at_ (HIN.out m' hmsg HLM.out) hown.owned ⟨own_cap hown.s2.row, own_capM hown.s2.row⟩)
  rw [hmsg] at HEC
  clear hb4 m0 m1 m2 m3 m4 m5 m6 m7 m8 m9 m10 m11 m12 m13 hmsg hown d1
  obtain ⟨h', qA', qc', qp', s0', s1', s2'⟩ := m'
  go_wp2_with fail
  refine HEC.out.mono ?_
  intro e w5 he5
  have HE5 := Lib.hid he5
  clear he5 HEC HIN HOM HLT HLM HB1 HB2
  obtain ⟨v5, k5, HF⟩ : ∃ v k, Hid (e = .returned (.tuple #[v, .int .i64 k]) ∧ Below w4.heap.size w4 w5 ∧ (k = 0 → ∃ A c b, v = .slice A b.length c ∧ w5.ownsRow w4.heap.size 5 1 (.slice A b.length c) b.length (b.map bc) ∧ decM b = .ok M ∧ SoundM M)) := by
    cases hE : encE M with
    | error k =>
      obtain ⟨a1, a2⟩ := HE5.out.no hE
      refine ⟨.slice none 0 0, (k : Int), Lib.hid ⟨a1, a2, fun hk => ?_⟩⟩
      rcases encE_err hE with h1 | h1 <;> rw [h1] at hk <;> cases hk
    | ok b =>
      obtain ⟨A, c', a1, a2, a3⟩ := HE5.out.yes hE
      obtain ⟨b1, b2, b3, b4⟩ := encE_ok hE
      exact ⟨_, 0, Lib.hid ⟨a1, a3, fun _ => ⟨A, c', b, rfl, a2, b4, b1⟩⟩⟩
  obtain rfl : e = _ := HF.out.1
  have HB5 := Lib.hid (HB4.out.trans (HF.out.2.1.mono HB4.out.size))
  go_upto_if 35 with fail
  go_cut [7, 8] from 36 to 48 (fun _ _ wx => Below V.heap.size V wx)
  case first =>
    by_cases hk5 : k5 = 0
    case neg =>
      have d2 : (k5 == 0) = false := by rw [beq_eq_false_iff_ne]; exact hk5
      go_wp2
      go_meet
      exact HB5.out
    obtain ⟨A5, c5, b, rfl, ho5, hd5, hs5⟩ := HF.out.2.2 hk5
    subst hk5
    have HD5 := Lib.hid (decode_any A5 b.length c5 b w5 rfl (Row.of_own ho5) (own_cap ho5) (own_capM ho5))
    have HK := Lib.hid (DecOk.of_sound hs5)
    have HDE := Lib.hid hd5
    clear ho5 hd5 hs5
    go_wp2_with fail
    refine HD5.out.mono ?_
    intro e w6 he6
    obtain ⟨y, rfl, hym, hyo, hb6⟩ := he6.yes HDE.out
    have HB6 := Lib.hid (HB5.out.trans (hb6.mono HB5.out.size))
    have HYA := Lib.hid hyo.at_
    have HYM := Lib.hid hym
    clear he6 hb6 hyo hym HD5
    obtain ⟨h2, qA2, qc2, qp2, ⟨A20, k20, p20⟩, ⟨A21, k21, p21⟩, ⟨A22, k22, p22⟩⟩ := y
    obtain ⟨W7, hW7⟩ : ∃ W7, W7 = w6.alloc (.cells #[.int .i64 h2.id, .bool h2.resp, .int .i64 h2.op, .bool h2.aa, .bool h2.tc, .bool h2.rd, .bool h2.ra, .int .i64 h2.rc, .slice qA2 qp2.length qc2, .slice A20 p20.length k20, .slice A21 p21.length k21, .slice A22 p22.length k22, .bool h2.edns, .int .i64 h2.size] 25) := ⟨_, rfl⟩
    have hb7 : Below w6.heap.size w6 W7 := by rw [hW7]; exact (Below.refl _ _).alloc (Nat.le_refl _) _
    have HB7 := Lib.hid (HB6.out.trans (hb7.mono HB6.out.size))
    obtain ⟨m0, m1, m2, m3, m4, m5, m6, m7, m8, m9, m10, m11, m12, m13⟩ := HC.out W7 HB7.out
    have HSC := Lib.hid (HSM.out W7 HB7.out _ ((HYA.out.below hb7).mono hb7.size) HYM.out HK.out)
    clear hb7
    subst hW7
    go_wp2_with fail
    refine HSC.out.mono ?_
    rintro e w8 ⟨rfl, hb8⟩
    have HB8 := Lib.hid (HB7.out.trans (hb8.mono HB7.out.size))
    clear hb8 m0 m1 m2 m3 m4 m5 m6 m7 m8 m9 m10 m11 m12 m13
    go_wp2
    go_meet
    exact HB8.out
  case rest =>
    have HBC := Lib.hid hcut
    have hws : w.heap.size ≤ wc.heap.size := Nat.le_trans HB.out.size hcut.size
    have HXR := Lib.hid (HX.out wc hcut)
    clear hcut HF HE5 HB5 HB4 HSM HC
    go_wp2_with (first
      | (at_builtin
         refine wpList_append_row rfl (.tmp 50) (.tmp 51) _ rfl wc.heap.size 5 i0 _ 1 1 Try.underlying28 hi0 hz0 hz1 hz2 rfl (by omega) (.slice (some ⟨wc.heap.size, 0, none⟩) 0 0) 0 [] rfl
           (own_lit _ _ _) X l.length c w.heap.size (l.map bc) rfl (by rw [List.length_map, Nat.mul_one]) (HXR.out.alloc hws _) (bc_one _) (by unfold maxLen; omega) (by omega) (by simp) ?_
         intro v6 w6 hown6 hg6
         simp only [Nat.zero_add, List.nil_append] at hown6
         obtain ⟨A6, c6, rfl, hc6, hc6m⟩ := own_form hown6
         have HB6 := Lib.hid (own_below ((Below.refl wc.heap.size wc).alloc (Nat.le_refl _) _) (Nat.le_refl _) (by simp) (own_lit wc 5 1) hg6)
         have HD6 := Lib.hid (decode_any A6 l.length c6 l w6 rfl (Row.of_own hown6) hc6 hc6m)
         clear hown6 hg6 hc6 hc6m))
    refine HD6.out.mono ?_
    intro e w7 he7
    have hwc := HB.out.trans (HBC.out.mono HB.out.size)
    have HBT := Lib.hid (show Below w.heap.size w w6 from hwc.trans (HB6.out.mono hwc.size))
    clear hwc HD6 HXR hws HB6 HBC
    cases hdx : decM l with
    | error k =>
      obtain ⟨rfl, hne, hb7⟩ := he7.no_ hdx
      have HF7 := Lib.hid (HBT.out.trans (hb7.mono HBT.out.size))
      have HF8 := Lib.hid (HF7.out.alloc HF7.out.size (.cells #[.int .i64 hd0.id, .bool hd0.resp, .int .i64 hd0.op, .bool hd0.aa, .bool hd0.tc, .bool hd0.rd, .bool hd0.ra, .int .i64 hd0.rc, .slice none 0 0, .slice none 0 0, .slice none 0 0, .slice none 0 0, .bool hd0.edns, .int .i64 hd0.size] 25))
      have d6 : ((k : Int) == 0) = false := by rw [beq_eq_false_iff_ne]; omega
      have d7 : ((k : Int) != 0) = true := by rw [bne_iff_ne]; omega
      have d8 : ¬ (k : Int) = 0 := by omega
      clear he7 hb7 hne hdx
      go_wp2
      go_ret
      exact ⟨rfl, HF8.out⟩
    | ok x =>
      obtain ⟨m2, rfl, hm2, ho2, hb7⟩ := he7.yes hdx
      subst hm2
      have hk := decM_sound hdx
      obtain ⟨hin, hl7, hq7, hsum⟩ := hk.small
      obtain ⟨W8, hW8⟩ : ∃ W8, W8 = w7.alloc (.cells #[.int .i64 m2.h.id, .bool m2.h.resp, .int .i64 m2.h.op, .bool m2.h.aa, .bool m2.h.tc, .bool m2.h.rd, .bool m2.h.ra, .int .i64 m2.h.rc, .slice m2.qA m2.qp.length m2.qc, .slice m2.s0.A m2.s0.ps.length m2.s0.c, .slice m2.s1.A m2.s1.ps.length m2.s1.c, .slice m2.s2.A m2.s2.ps.length m2.s2.c, .bool m2.h.edns, .int .i64 m2.h.size] 25) := ⟨_, rfl⟩
      have hb8 : Below w7.heap.size w7 W8 := by rw [hW8]; exact (Below.refl _ _).alloc (Nat.le_refl _) _
      have hz8 : W8.heap.size = w7.heap.size + 1 := by rw [hW8]; simp
      have hw8 : Whole W8 w7.heap.size 25 m2.cells := by rw [hW8]; exact Whole.made w7 [.int .i64 m2.h.id, .bool m2.h.resp, .int .i64 m2.h.op, .bool m2.h.aa, .bool m2.h.tc, .bool m2.h.rd, .bool m2.h.ra, .int .i64 m2.h.rc, .slice m2.qA m2.qp.length m2.qc, .slice m2.s0.A m2.s0.ps.length m2.s0.c, .slice m2.s1.A m2.s1.ps.length m2.s1.c, .slice m2.s2.A m2.s2.ps.length m2.s2.c, .bool m2.h.edns, .int .i64 m2.h.size] _
      have HBW := Lib.hid (show Below w.heap.size w W8 from by
        have h1 := HBT.out.trans (hb7.mono HBT.out.size)
        exact h1.trans (hb8.mono h1.size))
      have HM2 := Lib.hid (fun (W' : World) (hb : Below W8.heap.size W8 W') => (show MAt W' W'.heap.size m2 from by
        have h1 := hb8.trans (hb.mono hb8.size)
        exact (ho2.at_.below h1).mono h1.size))
      have HC2 := Lib.hid (fun (W' : World) (hb : Below W8.heap.size W8 W') => (show Cells14 W' w7.heap.size m2.h m2.vq m2.s0.v m2.s1.v m2.s2.v from cells14 (hw8.below hb (by omega))))
      have HSD := Lib.hid (fun (W' : World) (hb : Below W8.heap.size W8 W') => msound_any W' m2 (HM2.out W' hb) hin)
      have HEN := Lib.hid (fun (W' : World) (hb : Below W8.heap.size W8 W') => encode_any W' m2 (HM2.out W' hb) hin (ho2.owned.below (hb8.trans (hb.mono hb8.size))) ⟨own_cap ho2.s2.row, own_capM ho2.s2.row⟩)
      have HS2 := Lib.hid (fun (W' : World) (hb : Below W8.heap.size W8 W') (z : MV) (hz : MAt W' W'.heap.size z) (he : z.msg = m2.msg) => samemsg_self W' m2 z (HM2.out W' hb) hz he hk.q hk.all (by omega) (fun i => by have := hl7 i; omega))
      have HSS := Lib.hid (fun (hn : m2.qp.length + m2.s0.ps.length + m2.s1.ps.length + m2.s2.ps.length ≤ 512) => (show soundM m2.msg = true from soundM_iff.2 (hk.sound (by
        have e0 : m2.msg.qs.length = m2.qp.length := length_qsts _
        have e1 : m2.msg.an.length = m2.s0.ps.length := length_recs _
        have e2 : m2.msg.au.length = m2.s1.ps.length := length_recs _
        have e3 : m2.msg.ex.length = m2.s2.ps.length := length_recs _
        omega))))
      clear he7 hb7 hb8 hz8 hw8 hk hin hl7 hq7 ho2 hdx HM2 HBT
      generalize m2.msg = Y at *
      obtain ⟨h2, qA2, qc2, qp2, ⟨A20, k20, p20⟩, ⟨A21, k21, p21⟩, ⟨A22, k22, p22⟩⟩ := m2
      dsimp only at hsum
      by_cases hs2 : qp2.length + p20.length + p21.length + p22.length ≤ 512
      · have d2 : decide ((qp2.length : Int) + (p20.length : Int) + (p21.length : Int) + (p22.length : Int) ≤ 512) = true := decide_eq_true (by omega)
        rw [HSS.out hs2] at HSD
        have HRF := Lib.hid (Below.refl W8.heap.size W8)
        clear HSS hs2
        subst hW8
        go_wp2_with fail
        refine (HSD.out _ HRF.out).mono ?_
        rintro e w9 ⟨rfl, hb9⟩
        have HB9 := Lib.hid hb9
        clear hb9 d2
        generalize w7.alloc (.cells #[.int .i64 h2.id, .bool h2.resp, .int .i64 h2.op, .bool h2.aa, .bool h2.tc, .bool h2.rd, .bool h2.ra, .int .i64 h2.rc, .slice qA2 qp2.length qc2, .slice A20 p20.length k20, .slice A21 p21.length k21, .slice A22 p22.length k22, .bool h2.edns, .int .i64 h2.size] 25) = W8 at *
        obtain ⟨n0, n1, n2, n3, n4, n5, n6, n7, n8, n9, n10, n11, n12, n13⟩ := HC2.out _ HB9.out
        go_wp2_with fail
        refine (HEN.out _ HB9.out).mono ?_
        intro e w10 he10
        clear n0 n1 n2 n3 n4 n5 n6 n7 n8 n9 n10 n11 n12 n13
        cases hE : encE Y with
        | error k =>
          obtain ⟨rfl, hb10⟩ := he10.no hE
          have HF10 := Lib.hid (show Below w.heap.size w w10 from HBW.out.trans ((HB9.out.trans (hb10.mono HB9.out.size)).mono HBW.out.size))
          rcases encE_err hE with rfl | rfl
          · clear he10 hb10
            go_wp2
            go_ret
            exact ⟨rfl, HF10.out⟩
          · clear he10 hb10
            go_wp2
            go_ret
            exact ⟨rfl, HF10.out⟩
        | ok b =>
          obtain ⟨A10, c10, rfl, ho10, hb10⟩ := he10.yes hE
          have hd10 := (encE_ok hE).2.2.2
          have HDE := Lib.hid hd10
          have HB10 := Lib.hid (HB9.out.trans (hb10.mono HB9.out.size))
          have HD10 := Lib.hid (decode_any A10 b.length c10 b w10 rfl (Row.of_own ho10) (own_cap ho10) (own_capM ho10))
          clear he10 hb10 ho10 hd10
          go_wp2_with fail
          refine HD10.out.mono ?_
          intro e w11 he11
          obtain ⟨m3, rfl, hm3, ho3, hb11⟩ := he11.yes HDE.out
          have HB11 := Lib.hid (HB10.out.trans (hb11.mono HB10.out.size))
          have HYA := Lib.hid ho3.at_
          have HYM := Lib.hid hm3
          clear he11 hb11 ho3 hm3 HD10
          obtain ⟨h3, qA3, qc3, qp3, ⟨A30, k30, p30⟩, ⟨A31, k31, p31⟩, ⟨A32, k32, p32⟩⟩ := m3
          obtain ⟨W12, hW12⟩ : ∃ W12, W12 = w11.alloc (.cells #[.int .i64 h3.id, .bool h3.resp, .int .i64 h3.op, .bool h3.aa, .bool h3.tc, .bool h3.rd, .bool h3.ra, .int .i64 h3.rc, .slice qA3 qp3.length qc3, .slice A30 p30.length k30, .slice A31 p31.length k31, .slice A32 p32.length k32, .bool h3.edns, .int .i64 h3.size] 25) := ⟨_, rfl⟩
          have hb12 : Below w11.heap.size w11 W12 := by rw [hW12]; exact (Below.refl _ _).alloc (Nat.le_refl _) _
          have HB12 := Lib.hid (HB11.out.trans (hb12.mono HB11.out.size))
          obtain ⟨n0, n1, n2, n3, n4, n5, n6, n7, n8, n9, n10, n11, n12, n13⟩ := HC2.out W12 HB12.out
          have HSC := Lib.hid (HS2.out W12 HB12.out _ ((HYA.out.below hb12).mono hb12.size) HYM.out)
          clear hb12
          subst hW12
          go_wp2_with fail
          refine HSC.out.mono ?_
          rintro e w13 ⟨rfl, hb13⟩
          have HF13 := Lib.hid (show Below w.heap.size w w13 from HBW.out.trans ((HB12.out.trans (hb13.mono HB12.out.size)).mono HBW.out.size))
          clear hb13 n0 n1 n2 n3 n4 n5 n6 n7 n8 n9 n10 n11 n12 n13
          go_wp2
          go_ret
          exact ⟨rfl, HF13.out⟩
      · have d2 : decide ((qp2.length : Int) + (p20.length : Int) + (p21.length : Int) + (p22.length : Int) ≤ 512) = false := decide_eq_false (by omega)
        have HRF := Lib.hid (Below.refl W8.heap.size W8)
        clear HSS hs2
        subst hW8
        obtain ⟨n0, n1, n2, n3, n4, n5, n6, n7, n8, n9, n10, n11, n12, n13⟩ := HC2.out _ HRF.out
        go_wp2_with fail
        refine (HEN.out _ HRF.out).mono ?_
        intro e w10 he10
        generalize w7.alloc (.cells #[.int .i64 h2.id, .bool h2.resp, .int .i64 h2.op, .bool h2.aa, .bool h2.tc, .bool h2.rd, .bool h2.ra, .int .i64 h2.rc, .slice qA2 qp2.length qc2, .slice A20 p20.length k20, .slice A21 p21.length k21, .slice A22 p22.length k22, .bool h2.edns, .int .i64 h2.size] 25) = W8 at *
        clear n0 n1 n2 n3 n4 n5 n6 n7 n8 n9 n10 n11 n12 n13
        cases hE : encE Y with
        | error k =>
          obtain ⟨rfl, hb10⟩ := he10.no hE
          have HF10 := Lib.hid (show Below w.heap.size w w10 from HBW.out.trans ((HRF.out.trans (hb10.mono HRF.out.size)).mono HBW.out.size))
          rcases encE_err hE with rfl | rfl
          · clear he10 hb10
            go_wp2
            go_ret
            exact ⟨rfl, HF10.out⟩
          · clear he10 hb10
            go_wp2
            go_ret
            exact ⟨rfl, HF10.out⟩
        | ok b =>
          obtain ⟨A10, c10, rfl, ho10, hb10⟩ := he10.yes hE
          have hd10 := (encE_ok hE).2.2.2
          have HDE := Lib.hid hd10
          have HB10 := Lib.hid (HRF.out.trans (hb10.mono HRF.out.size))
          have HD10 := Lib.hid (decode_any A10 b.length c10 b w10 rfl (Row.of_own ho10) (own_cap ho10) (own_capM ho10))
          clear he10 hb10 ho10 hd10
          go_wp2_with fail
          refine HD10.out.mono ?_
          intro e w11 he11
          obtain ⟨m3, rfl, hm3, ho3, hb11⟩ := he11.yes HDE.out
          have HB11 := Lib.hid (HB10.out.trans (hb11.mono HB10.out.size))
          have HYA := Lib.hid ho3.at_
          have HYM := Lib.hid hm3
          clear he11 hb11 ho3 hm3 HD10
          obtain ⟨h3, qA3, qc3, qp3, ⟨A30, k30, p30⟩, ⟨A31, k31, p31⟩, ⟨A32, k32, p32⟩⟩ := m3
          obtain ⟨W12, hW12⟩ : ∃ W12, W12 = w11.alloc (.cells #[.int .i64 h3.id, .bool h3.resp, .int .i64 h3.op, .bool h3.aa, .bool h3.tc, .bool h3.rd, .bool h3.ra, .int .i64 h3.rc, .slice qA3 qp3.length qc3, .slice A30 p30.length k30, .slice A31 p31.length k31, .slice A32 p32.length k32, .bool h3.edns, .int .i64 h3.size] 25) := ⟨_, rfl⟩
          have hb12 : Below w11.heap.size w11 W12 := by rw [hW12]; exact (Below.refl _ _).alloc (Nat.le_refl _) _
          have HB12 := Lib.hid (HB11.out.trans (hb12.mono HB11.out.size))
          obtain ⟨n0, n1, n2, n3, n4, n5, n6, n7, n8, n9, n10, n11, n12, n13⟩ := HC2.out W12 HB12.out
          have HSC := Lib.hid (HS2.out W12 HB12.out _ ((HYA.out.below hb12).mono hb12.size) HYM.out)
          clear hb12
          subst hW12
          go_wp2_with fail
          refine HSC.out.mono ?_
          rintro e w13 ⟨rfl, hb13⟩
          have HF13 := Lib.hid (show Below w.heap.size w w13 from HBW.out.trans ((HB12.out.trans (hb13.mono HB12.out.size)).mono HBW.out.size))
          clear hb13 n0 n1 n2 n3 n4 n5 n6 n7 n8 n9 n10 n11 n12 n13
          go_wp2
          go_ret
          exact ⟨rfl, HF13.out⟩
theorem mback_any (w : World) (m : MV) (hm : MAt w w.heap.size m) (hs : MSafe m) (X : Option Addr) (c : Nat) (l : List UInt8) (hX : Row w w.heap.size X (l.map bc)) (hll : l.length ≤ maxLen) (hcl : l.length ≤ c) :
    Calls Try.prog 4 #[m.val, .slice X l.length c] w (TrueB w) := by
  obtain ⟨h, qA, qc, qp, ⟨A0, k0, p0⟩, ⟨A1, k1, p1⟩, ⟨A2, k2, p2⟩⟩ := m
  exact mback_core w _ h qA qc qp A0 A1 A2 k0 k1 k2 p0 p1 p2 rfl hm hs X c l hX hll hcl

end Go.Proofs.Ytjkjhpaeckkpjaa

namespace Go.Proofs.Ytjkjhpaeckkpjaa
open Go.ChangeShapes Go.WideShapes Go.ChangeAt Go.RowKit

set_option maxRecDepth 100000 in
theorem mback_lifted (os : Os) (started : os.Started) (H : Type) (enc : TypeId × Value → H) (F : Stop.Interp) :
    ReturnsInHanded {} Try.checked os 4 .any ((Rows.OpenSpec.upto Rows.msgBackSpec).pre6 enc Try.prog Try.f4 Rows.msgBackUptoRow.domain false) (((Rows.OpenSpec.upto Rows.msgBackSpec).at F).post enc Try.prog Try.f4 false true false false) := by
  refine returnsInHanded_of_cond (C := Try.checked) (s := Rows.OpenSpec.upto Rows.msgBackSpec) (k := Rows.uptoSmall) rfl Try.own started (by kernel_rfl) Try.func4
    (OpenSpec.witness (enc := enc) (C := Try.checked) (s := Rows.OpenSpec.upto Rows.msgBackSpec) (k := Rows.uptoSmall) rfl false ⟨#[], #[.agg #[.int .i64 0, .bool false, .int .i64 0, .bool false, .bool false, .bool false, .bool false, .int .i64 0, .slice none 0 0, .slice none 0 0, .slice none 0 0, .slice none 0 0, .bool false, .int .i64 0], .slice none 0 0], []⟩ 8 (by kernel_rfl) (by kernel_rfl) (by kernel_rfl)
      (x := ([.agg [.lit (.int .i64 0), .lit (.bool false), .lit (.int .i64 0), .lit (.bool false), .lit (.bool false), .lit (.bool false), .lit (.bool false), .lit (.int .i64 0), .nil, .nil, .nil, .nil, .lit (.bool false), .lit (.int .i64 0)], .nil], [], [])) (by kernel_rfl) rfl (by kernel_rfl)) ?_
  intro W base args ds gs before hval0 hW _ hk0 _
  have hval : ∀ (j : Nat) t v, Try.f4.params[j]? = some t → args[j]? = some v → Value.okWide Try.prog W .any base t v := hval0
  have hW' := hW
  obtain ⟨p, q, hA0, hV, rfl, _, _⟩ := hW
  have hA : DataW.TrodAll enc Try.prog W 0 (fun _ => true) true Try.f4.params.toList args.toList ds p := hA0
  rw [Try.params4] at hA hval
  obtain ⟨v0, v1, d0, d1, p0, p1, rfl, rfl, rfl, h0, h1⟩ := trodAll_two hA
  obtain ⟨rfl, rfl⟩ := trodVars_none hV
  have hk : Rows.uptoBulkAll ([d0, d1] : List (DataW H)) ≤ 1048576 := of_decide_eq_true hk0
  simp only [Rows.uptoBulkAll] at hk
  clear hk0 hA0
  obtain ⟨m0, rfl, hm0, hs0⟩ := open_msg (hval 0 25 v0 rfl rfl) h0 (fun x hx => hW'.lt x (by simp [hx])) (by omega)
  obtain ⟨A1, m1, c1, l1, rfl, hl1, hr1, hc1, hm1, hcm1, hd1⟩ := open_row_u8c u8_cells Try.underlying28 (hval 1 28 v1 rfl rfl) h1 (fun x hx => hW'.lt x (by simp [hx]))
  have key : Calls Try.prog 4 #[m0.val, .slice A1 m1 c1] W (TrueB W) := by
    subst hl1
    exact mback_any W m0 hm0 hs0 A1 c1 l1 hr1 hm1 hc1
  refine key.mono fun e W' ⟨he, hb⟩ => ?_
  subst he
  exact ⟨_, rfl, law_post (P := Try.prog) (tb := 4) Try.laidOut (by kernel_rfl) (by kernel_rfl) (by kernel_rfl) Try.underlying4 rfl hW' rfl rfl rfl hb⟩

theorem mback_holds : Rows.MsgBackUptoSaid :=
  OpenClaim.holds_of_cond 4 Try.f4 rfl rfl rfl rfl rfl rfl rfl ⟨rfl, rfl, rfl, rfl, rfl⟩ rfl rfl rfl rfl rfl (by kernel_rfl) Try.func4 (by kernel_rfl)
    (of_decide_eq_true (by kernel_rfl)) (by unfold Func.isWrapper; first | (rw [if_pos (by decide +kernel)]; kernel_rfl) | (rw [if_neg (by decide +kernel)]; exact ⟨rfl, rfl⟩))
    (fun os started H enc _ F => mback_lifted os started H enc F)

end Go.Proofs.Ytjkjhpaeckkpjaa
