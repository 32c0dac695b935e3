/-
  What is read of bytes is sound.
-/
import Derived.Test.YtjkjhpaeckkpjaaCmP1
import Derived.Deep.RegionHeld3
import Derived.Test.YtjkjhpaeckkpjaaMbP1
import Derived.Laws.Externs
import Derived.StillTailTactics
import Derived.IntWalk
import Derived.Test.YtjkjhpaeckkpjaaMbP6
import Derived.BigQuiet
import Derived.Test.YtjkjhpaeckkpjaaMbP7
import Derived.Test.YtjkjhpaeckkpjaaMbP3
import Derived.Test.YtjkjhpaeckkpjaaMbP8
namespace Go.Proofs.Ytjkjhpaeckkpjaa
open Go.RowKit

theorem getR_sound (b : List UInt8) (p q x : Nat) (n : List (List UInt8)) : ∀ {m : List (List UInt8)} {e : Nat}, getR b p q x n = (m, e, 0) → n.all fitL = true → szN n ≤ 255 → soundN m = true := by
  induction p, q, x, n using getR.induct (b := b) with
  | case1 p q x n h0 h1 =>
    intro m e h ha hz
    rw [getR, dif_pos h0, if_pos h1] at h
    injection h with h2 _
    subst h2
    simp [soundN, ha, hz]
  | case2 p q x n h0 h1 h2 h3 h4 ih =>
    intro m e h ha hz
    rw [getR, dif_pos h0, if_neg h1, if_pos h2, dif_pos h3, if_pos h4] at h
    exact ih h ha hz
  | case3 p q x n h0 h1 h2 h3 h4 =>
    intro m e h ha hz
    rw [getR, dif_pos h0, if_neg h1, if_pos h2, dif_pos h3, if_neg h4] at h
    simp at h
  | case4 p q x n h0 h1 h2 h3 =>
    intro m e h ha hz
    rw [getR, dif_pos h0, if_neg h1, if_pos h2, dif_neg h3] at h
    simp at h
  | case5 p q x n h0 h1 h2 h3 =>
    intro m e h ha hz
    rw [getR, dif_pos h0, if_neg h1, if_neg h2, if_pos h3] at h
    simp at h
  | case6 p q x n h0 h1 h2 h3 h4 h5 ih =>
    intro m e h ha hz
    rw [getR, dif_pos h0, if_neg h1, if_neg h2, if_neg h3, if_pos h4, if_pos h5] at h
    refine ih h ?_ h5
    rw [List.all_append, ha]
    have h6 := length_cutL h4
    simp [fitL, h6]
    omega
  | case7 p q x n h0 h1 h2 h3 h4 h5 =>
    intro m e h ha hz
    rw [getR, dif_pos h0, if_neg h1, if_neg h2, if_neg h3, if_pos h4, if_neg h5] at h
    simp at h
  | case8 p q x n h0 h1 h2 h3 h4 =>
    intro m e h ha hz
    rw [getR, dif_pos h0, if_neg h1, if_neg h2, if_neg h3, if_neg h4] at h
    simp at h
  | case9 p q x n h0 =>
    intro m e h ha hz
    rw [getR, dif_neg h0] at h
    simp at h
theorem getW_sound {b : List UInt8} {a : Int} (h : (getW b a).2.2 = 0) : soundN (getW b a).1 = true := by
  unfold getW at h ⊢
  split at h
  · simp at h
  · rename_i h0
    rw [if_neg h0]
    rcases hr : getR b a.toNat a.toNat 0 [] with ⟨m, e, k⟩
    rw [hr] at h
    dsimp only at h
    subst h
    exact getR_sound b _ _ _ _ hr rfl (by decide)
theorem nameR_sound {b : List UInt8} {p en : Nat} {r : List (List UInt8) × Nat} (h : nameR b p en = .ok r) : soundN r.1 = true := by
  unfold nameR at h
  rcases hr : getR b p p 0 [] with ⟨n, e, k⟩
  rw [hr] at h
  unfold nameF at h
  dsimp only at h
  split at h
  · cases h
  · rename_i hk
    have hk0 : k = 0 := by omega
    subst hk0
    split at h
    · cases h
    · injection h with h
      subst h
      exact getR_sound b _ _ _ _ hr rfl (by decide)
theorem num_fit {b : List UInt8} {p s : Nat} (h1 : 1 ≤ s) (h2 : s ≤ 7) : fitB ((numN (cutL b p s) : Nat) : Int) (s : Int) = true := by
  have h := numAt_lt b p s
  unfold numAt at h
  refine fitB_true (by omega) (by omega) (by omega) ?_
  have e : (2 : Int) ^ (8 * (s : Int).toNat) = ((2 ^ (8 * s) : Nat) : Int) := by
    rw [Int.toNat_natCast]
    push_cast
    rfl
  rw [e]
  exact Int.ofNat_lt.2 h
theorem numsL_sound {b : List UInt8} {p s : Nat} (h1 : 1 ≤ s) (h2 : s ≤ 7) : ∀ k, ∀ n ∈ numsL b p s k, fitB n (s : Int) = true
  | 0, n, h => absurd h (List.not_mem_nil)
  | k + 1, n, h => by
    unfold numsL at h
    rcases List.mem_append.1 h with h | h
    · exact numsL_sound h1 h2 k n h
    · rw [List.mem_singleton.1 h]
      exact num_fit h1 h2
theorem numsR_sound {b : List UInt8} {p en s k : Nat} {r : List Int × Nat} (h1 : 1 ≤ s) (h2 : s ≤ 7) (h : numsR b p en s k = .ok r) : r.1.length = k ∧ (∀ n ∈ r.1, fitB n (s : Int) = true) ∧ r.2 ≤ en := by
  unfold numsR at h
  split at h
  · injection h with h
    subst h
    exact ⟨length_numsL _ _ _ _, numsL_sound h1 h2 k, by assumption⟩
  · cases h
theorem textsR_sound {b : List UInt8} {en : Nat} : ∀ (d p : Nat) (acc : List (List UInt8)) {r : List (List UInt8) × Nat}, en - p ≤ d → textsR b p en acc = .ok r → acc.length ≤ 64 → (∀ t ∈ acc, t.length ≤ 255) → 1 ≤ r.1.length ∧ r.1.length ≤ 64 ∧ ∀ t ∈ r.1, t.length ≤ 255
  | d, p, acc, r, hd, h, hl, ht => by
    by_cases hp : p < en
    · by_cases ha : acc.length = 64
      · rw [textsR_large hp ha] at h
        cases h
      · by_cases hs : en < p + 1 + numN (cutL b p 1)
        · rw [textsR_short hp ha hs] at h
          cases h
        · rw [textsR_next hp ha (by omega)] at h
          match d, hd with
          | 0, hd => omega
          | d + 1, hd =>
            refine textsR_sound d _ _ (by omega) h (by simp; omega) fun t htt => ?_
            rcases List.mem_append.1 htt with h1 | h1
            · exact ht t h1
            · rw [List.mem_singleton.1 h1]
              have h2 := numN_one_lt b p
              have h3 : (cutL b (p + 1) (numN (cutL b p 1))).length ≤ numN (cutL b p 1) := by unfold cutL; simp; omega
              omega
    · rw [textsR, dif_neg hp] at h
      split at h
      · cases h
      · rename_i hne
        injection h with h
        subst h
        exact ⟨List.length_pos_iff.2 hne, hl, ht⟩
theorem bytesR_sound {b : List UInt8} {p en l m : Nat} {r : List UInt8 × Nat} (hlm : l ≤ m) (hen : en ≤ b.length) (h : bytesR b p en l m = .ok r) : l ≤ r.1.length ∧ r.1.length ≤ m := by
  unfold bytesR at h
  split at h
  · cases h
  · injection h with h
    subst h
    dsimp only
    rw [length_cutL (by omega)]
    omega
theorem shN_room (k : Int) : (shN k).least ≤ (shN k).most := by
  unfold shN
  repeat' split
  all_goals decide
theorem numsOk_of {ah : Nat} {l m : List Int} (hl : l.length = ah) (h1 : ∀ n ∈ l, fitB n 2 = true) (h2 : ∀ n ∈ m, fitB n 4 = true) : numsOk ah (l ++ m) = true := by
  unfold numsOk
  rw [List.all_eq_true]
  intro j hj
  have hj := List.mem_range.1 hj
  rw [List.length_append] at hj
  unfold sizeAt
  by_cases hja : j < ah
  · rw [if_pos hja, List.getD_eq_getElem?_getD, List.getElem?_append_left (by omega), List.getElem?_eq_getElem (by omega)]
    exact h1 _ (List.getElem_mem _)
  · rw [if_neg hja, List.getD_eq_getElem?_getD, List.getElem?_append_right (by omega), List.getElem?_eq_getElem (by omega)]
    exact h2 _ (List.getElem_mem _)
theorem readD_sound {b : List UInt8} {p en : Nat} {k : Int} {d : Dt} (hk : kindB k = true) (hen : en ≤ b.length) (h : readD b p en (shN k) = .ok d) : soundD k d = true := by
  unfold readD at h
  obtain ⟨n1, e1, h⟩ := bind_ok h
  obtain ⟨h1, e2, h⟩ := bind_ok h
  obtain ⟨m1, e3, h⟩ := bind_ok h
  obtain ⟨n2, e4, h⟩ := bind_ok h
  obtain ⟨t1, e5, h⟩ := bind_ok h
  obtain ⟨y1, e6, h⟩ := bind_ok h
  split at h
  · cases h
  injection h with h
  subst h
  obtain ⟨a1, a2, _⟩ := numsR_sound (by omega) (by omega) e1
  obtain ⟨b1, b2, _⟩ := numsR_sound (by omega) (by omega) e4
  obtain ⟨c1, c2⟩ := bytesR_sound (shN_room k) hen e6
  have g2 : soundNm h1.1 (shN k).host = true := by
    unfold soundNm
    split at e2
    · rename_i hh
      rw [hh, nameR_sound e2]
      simp
    · injection e2 with e2
      subst e2
      rfl
  have g3 : soundNm m1.1 (shN k).mail = true := by
    unfold soundNm
    split at e3
    · rename_i hh
      rw [hh, nameR_sound e3]
      simp
    · injection e3 with e3
      subst e3
      rfl
  have g5 : soundTs (shN k) t1.1 = true := by
    unfold soundTs
    split at e5
    · rename_i hh
      obtain ⟨d1, d2, d3⟩ := textsR_sound _ _ _ (Nat.le_refl _) e5 (by simp) (fun t ht => absurd ht (List.not_mem_nil))
      rw [if_pos hh]
      simp only [Bool.and_eq_true, List.all_eq_true, decide_eq_true_eq]
      exact ⟨d3, d1, d2⟩
    · rename_i hh
      injection e5 with e5
      subst e5
      rw [if_neg hh]
      rfl
  unfold soundD soundBs soundNs
  simp only [Bool.and_eq_true, decide_eq_true_eq]
  exact ⟨hk, ⟨c1, c2⟩, g2, g3, ⟨by rw [List.length_append]; omega, numsOk_of a1 a2 b2⟩, g5⟩
theorem kindB_num {b : List UInt8} {p : Nat} (h : numAt b p 2 ≠ 0) : kindB ((numAt b p 2 : Nat) : Int) = true := by
  have h1 := numAt_lt b p 2
  unfold kindB
  simp only [decide_eq_true_eq]
  have e : (2 : Nat) ^ (8 * 2) = 65536 := by decide
  omega
theorem ttlAt_le (b : List UInt8) (p : Nat) : ttlAt b p ≤ 2147483647 := by
  unfold ttlAt
  split <;> omega
theorem getRR_sound {b : List UInt8} {p : Int} (h : (getRR b p).2.2 = 0) : SoundR (getRR b p).1 := by
  unfold getRR at h ⊢
  split at h
  · rename_i h0
    exact absurd h h0
  rename_i h0
  rw [if_neg h0]
  split at h
  · simp at h
  rename_i h1
  rw [if_neg h1]
  split at h
  · simp at h
  rename_i h2
  rw [if_neg h2]
  split at h
  · rename_i h3
    exact absurd h h3
  rename_i h3
  rw [if_neg h3]
  have hk := kindB_num h2
  refine ⟨getW_sound (by omega), ?_, num_fit (by omega) (by omega), by dsimp only; omega, by have := ttlAt_le b ((getW b p).2.1 + 4); dsimp only; omega⟩
  dsimp only
  have h4 : (getD b (((getW b p).2.1 : Int) + 10) (numAt b ((getW b p).2.1 + 8) 2) (numAt b (getW b p).2.1 2)).2 = 0 := by omega
  generalize ((getW b p).2.1 : Int) + 10 = a at *
  generalize ((numAt b ((getW b p).2.1 + 8) 2 : Nat) : Int) = z at *
  unfold getD at h4 ⊢
  split at h4
  · simp at h4
  rename_i h5
  rw [if_neg h5]
  split at h4
  · simp at h4
  rename_i h6
  rw [if_neg h6]
  cases hr : readD b a.toNat (a + z).toNat (shN (numAt b (getW b p).2.1 2)) with
  | ok d => exact readD_sound hk (by omega) hr
  | error j =>
    rw [hr] at h4
    dsimp only at h4
    subst h4
    exact absurd hr (readD_err _ _ _ _)
theorem getQ_sound {b : List UInt8} {p : Nat} (h : (getQ b p).2.2 = 0) : soundQ (getQ b p).1 = true := by
  unfold getQ at h ⊢
  split at h
  · rename_i h0
    exact absurd h h0
  rename_i h0
  rw [if_neg h0]
  split at h
  · simp at h
  rename_i h1
  rw [if_neg h1]
  split at h
  · simp at h
  rename_i h2
  rw [if_neg h2]
  unfold soundQ
  simp only [Bool.and_eq_true, decide_eq_true_eq]
  exact ⟨getW_sound (by omega), by omega, num_fit (by omega) (by omega), num_fit (by omega) (by omega)⟩
theorem getQs_sound {b : List UInt8} : ∀ (k p : Nat) (l : List Qt) {r : List Qt × Nat}, getQs b k p l = .ok r → (∀ q ∈ l, soundQ q = true) → (∀ q ∈ r.1, soundQ q = true) ∧ r.1.length = l.length + k
  | 0, p, l, r, h, hl => by
    unfold getQs at h
    injection h with h
    subst h
    exact ⟨hl, rfl⟩
  | k + 1, p, l, r, h, hl => by
    unfold getQs at h
    split at h
    · cases h
    · rename_i h0
      obtain ⟨h1, h2⟩ := getQs_sound k _ _ h (fun q hq => by
        rcases List.mem_append.1 hq with h3 | h3
        · exact hl q h3
        · rw [List.mem_singleton.1 h3]
          exact getQ_sound (by omega))
      refine ⟨h1, ?_⟩
      rw [h2]
      simp
      omega
/-- What is known behind some records is sound. -/
structure RdOk (x : Rd) : Prop where
  r : ∀ r ∈ x.rs, soundX r = true
  s : fitB x.s 2 = true
  e : x.e = true ∨ x.s = 0
theorem stepR_sound {b : List UInt8} {last : Bool} {s t : Rd} (h : stepR b last s = .ok t) (hs : RdOk s) : RdOk t ∧ t.rs.length ≤ s.rs.length + 1 := by
  unfold stepR at h
  split at h
  · cases h
  · rename_i h0
    have h1 := getRR_sound (b := b) (p := (s.p : Int)) (by omega)
    unfold addR at h
    split at h
    · split at h
      · cases h
      · injection h with h
        subst h
        exact ⟨⟨hs.r, h1.c, .inl rfl⟩, by dsimp only; omega⟩
    · rename_i h2
      injection h with h
      subst h
      refine ⟨⟨fun r hr => ?_, hs.s, hs.e⟩, by simp⟩
      rcases List.mem_append.1 hr with h3 | h3
      · exact hs.r r h3
      · rw [List.mem_singleton.1 h3]
        exact soundX_iff.2 ⟨h2, h1⟩
theorem getRs_sound {b : List UInt8} {last : Bool} : ∀ (k : Nat) (s : Rd) {r : Rd}, getRs b last k s = .ok r → RdOk s → RdOk r ∧ r.rs.length ≤ s.rs.length + k
  | 0, s, r, h, hs => by
    unfold getRs at h
    injection h with h
    subst h
    exact ⟨hs, Nat.le_refl _⟩
  | k + 1, s, r, h, hs => by
    unfold getRs at h
    obtain ⟨t, ht, h⟩ := bind_ok h
    obtain ⟨h1, h2⟩ := stepR_sound ht hs
    obtain ⟨h3, h4⟩ := getRs_sound k t h h1
    exact ⟨h3, by omega⟩
theorem RdOk.next {s : Rd} (h : RdOk s) : RdOk ⟨[], s.p, s.e, s.s⟩ := ⟨fun _ h => absurd h (List.not_mem_nil), h.s, h.e⟩
/-- What bytes are is sound, but for how many there are. -/
structure DecOk (m : Mt) : Prop where
  h : soundH m.h = true
  q : ∀ q ∈ m.qs, soundQ q = true
  r : ∀ r ∈ m.all, soundX r = true
  n : m.qs.length + m.an.length + m.au.length + m.ex.length ≤ 513
theorem decM_sound {b : List UInt8} {m : Mt} (h : decM b = .ok m) : DecOk m := by
  unfold decM at h
  split at h
  · cases h
  split at h
  · cases h
  split at h
  · cases h
  rename_i h1 h2 h3
  obtain ⟨q, e1, h⟩ := bind_ok h
  obtain ⟨x, e2, h⟩ := bind_ok h
  obtain ⟨y, e3, h⟩ := bind_ok h
  obtain ⟨z, e4, h⟩ := bind_ok h
  split at h
  · cases h
  injection h with h
  subst h
  obtain ⟨q1, q2⟩ := getQs_sound _ _ _ e1 (fun q hq => absurd hq (List.not_mem_nil))
  obtain ⟨x1, x2⟩ := getRs_sound _ ⟨[], q.2, false, 0⟩ e2 ⟨fun _ h => absurd h (List.not_mem_nil), show fitB 0 2 = true by decide, .inr rfl⟩
  obtain ⟨y1, y2⟩ := getRs_sound _ ⟨[], x.p, x.e, x.s⟩ e3 x1.next
  obtain ⟨z1, z2⟩ := getRs_sound _ ⟨[], y.p, y.e, y.s⟩ e4 y1.next
  simp only [List.length_nil, Nat.zero_add] at q2 x2 y2 z2
  refine ⟨?_, q1, fun r hr => ?_, by dsimp only; omega⟩
  · unfold soundH hdOf codeB
    simp only [Bool.and_eq_true, decide_eq_true_eq, Bool.or_eq_true]
    refine ⟨num_fit (by omega) (by omega), ⟨by omega, by omega⟩, ⟨by omega, by omega⟩, z1.s, z1.e⟩
  · unfold Mt.all at hr
    rcases List.mem_append.1 hr with h4 | h4
    · exact x1.r r h4
    · rcases List.mem_append.1 h4 with h4 | h4
      · exact y1.r r h4
      · exact z1.r r h4
theorem DecOk.sound {m : Mt} (h : DecOk m) (hn : m.qs.length + m.an.length + m.au.length + m.ex.length ≤ 512) : SoundM m := ⟨h.h, hn, h.q, h.r⟩

end Go.Proofs.Ytjkjhpaeckkpjaa

namespace Go.Proofs.Ytjkjhpaeckkpjaa
open Go.RowKit

/-- The bytes, if there are any, and not too many. -/
def fitE (r : Except Nat (List UInt8)) (s : Int) : Option (List UInt8) :=
  match r with
  | .ok b => if (b.length : Int) ≤ s then some b else none
  | .error _ => none
def CEncOut (w : World) (o : Option (List UInt8)) (e : Ending) (w' : World) : Prop :=
  Below w.heap.size w w' ∧ match o with
  | some b => ∃ A c, e = .returned (.tuple #[.slice A b.length c, .bool true]) ∧ w'.ownsRow w.heap.size 5 1 (.slice A b.length c) b.length (b.map bc)
  | none => e = .returned (.tuple #[.slice none 0 0, .bool false])

set_option maxRecDepth 20000 in
set_option maxHeartbeats 4000000 in
theorem cencode_core (w : World) (m : MV) (s : Int) (h : Hd) (qA : Option Addr) (qc : Nat) (qp : List (QV × Qt)) (A0 A1 A2 : Option Addr) (k0 k1 k2 : Nat) (p0 p1 p2 : List (RV × Rt)) (he : m = ⟨h, qA, qc, qp, ⟨A0, k0, p0⟩, ⟨A1, k1, p1⟩, ⟨A2, k2, p2⟩⟩) (hm : MAt w w.heap.size m) (hi : MIn m) (ho : OwnedM w m) (hc : m.s2.ps.length ≤ m.s2.c ∧ m.s2.c ≤ maxLen) :
    Calls Try.prog 44 #[valM h (.slice qA qp.length qc) (.slice A0 p0.length k0) (.slice A1 p1.length k1) (.slice A2 p2.length k2), .int .i64 s] w (CEncOut w (fitE (encE m.msg) s)) := by
  obtain ⟨W, hW⟩ : ∃ W, W = w.alloc (.cells #[.int .i64 h.id, .bool h.resp, .int .i64 h.op, .bool h.aa, .bool h.tc, .bool h.rd, .bool h.ra, .int .i64 h.rc, .slice qA qp.length qc, .slice A0 p0.length k0, .slice A1 p1.length k1, .slice A2 p2.length k2, .bool h.edns, .int .i64 h.size] 25) := ⟨_, rfl⟩
  have hB : Below w.heap.size w W := by rw [hW]; exact (Below.refl _ _).alloc (Nat.le_refl _) _
  have ev : m.val = valM h (.slice qA qp.length qc) (.slice A0 p0.length k0) (.slice A1 p1.length k1) (.slice A2 p2.length k2) := by rw [he]
  have HE := Lib.hid (show Calls Try.prog 12 #[valM h (.slice qA qp.length qc) (.slice A0 p0.length k0) (.slice A1 p1.length k1) (.slice A2 p2.length k2)] W (EncOut W (encE m.msg)) from by
    have h1 := encode_any W m ((hm.below hB).mono hB.size) hi (ho.below hB) hc
    rwa [ev] at h1)
  have HB := Lib.hid hB
  have HN := Lib.hid (show ∀ k, encE m.msg = .error k → k ≠ 0 from fun k hk => by
    unfold encE at hk
    split at hk
    · split at hk
      · injection hk with hk
        omega
      · cases hk
    · injection hk with hk
      omega)
  have HL := Lib.hid (show ∀ b, encE m.msg = .ok b → b.length ≤ 65535 from fun b hb => by
    unfold encE at hb
    split at hb
    · split at hb
      · cases hb
      · injection hb with hb
        subst hb
        omega
    · cases hb)
  clear hB hm hi ho hc he ev
  generalize encE m.msg = E at *
  clear m
  subst hW
  go_enter Try.func44, Try.ntmps44
  go_wp2_with fail
  refine HE.out.mono ?_
  intro e w1 he1
  cases E with
  | error k =>
    obtain ⟨hb1, rfl⟩ := he1
    have hk := HN.out k rfl
    have HF := Lib.hid (HB.out.trans (hb1.mono HB.out.size))
    have d6 : ((k : Int) == 0) = false := by rw [beq_eq_false_iff_ne]; omega
    have d7 : ((k : Int) != 0) = true := by rw [bne_iff_ne]; omega
    have d8 : ¬ (k : Int) = 0 := by omega
    clear hb1 hk HE HN HL
    go_wp2
    refine ⟨rfl, .tuple #[.slice none 0 0, .bool false], by simp [results, Try.results44, go_sem], ?_⟩
    exact ⟨HF.out, rfl⟩
  | ok b =>
    obtain ⟨hb1, A, c, rfl, ho1⟩ := he1
    have hbl := HL.out b rfl
    have HF := Lib.hid (HB.out.trans (hb1.mono HB.out.size))
    have HO := Lib.hid (own_mono ho1 HB.out.size)
    clear hb1 ho1 HE HN HL
    by_cases hs : (b.length : Int) ≤ s
    · have d1 : decide (s < (b.length : Int)) = false := decide_eq_false (by omega)
      have HR := Lib.hid (show fitE (.ok b) s = some b from if_pos hs)
      clear hs
      go_wp2
      refine ⟨rfl, .tuple #[.slice A b.length c, .bool true], by simp [results, Try.results44, go_sem], ?_⟩
      rw [HR.out]
      exact ⟨HF.out, A, c, rfl, HO.out⟩
    · have d1 : decide (s < (b.length : Int)) = true := decide_eq_true (by omega)
      have HR := Lib.hid (show fitE (.ok b) s = none from if_neg hs)
      clear hs
      go_wp2
      refine ⟨rfl, .tuple #[.slice none 0 0, .bool false], by simp [results, Try.results44, go_sem], ?_⟩
      rw [HR.out]
      exact ⟨HF.out, rfl⟩
theorem cencode_any (w : World) (m : MV) (s : Int) (hm : MAt w w.heap.size m) (hi : MIn m) (ho : OwnedM w m) (hc : m.s2.ps.length ≤ m.s2.c ∧ m.s2.c ≤ maxLen) : Calls Try.prog 44 #[m.val, .int .i64 s] w (CEncOut w (fitE (encE m.msg) s)) := by
  obtain ⟨h, qA, qc, qp, ⟨A0, k0, p0⟩, ⟨A1, k1, p1⟩, ⟨A2, k2, p2⟩⟩ := m
  exact cencode_core w _ s h qA qc qp A0 A1 A2 k0 k1 k2 p0 p1 p2 rfl hm hi ho hc

end Go.Proofs.Ytjkjhpaeckkpjaa

namespace Go.Proofs.Ytjkjhpaeckkpjaa
open Go.RowKit

theorem sec_first (m : MV) (n : Nat) : (m.first n).s0 = m.s0.upto n ∧ (m.first n).s1 = m.s1.upto (n - m.s0.ps.length) ∧ (m.first n).s2 = m.s2.upto (n - m.s0.ps.length - m.s1.ps.length) := ⟨rfl, rfl, rfl⟩
theorem upto_sub {s : Sec} {k : Nat} {P : RV × Rt → Prop} (h : ∀ p ∈ s.ps, P p) : ∀ p ∈ (s.upto k).ps, P p := fun p hp => h p (List.mem_of_mem_take hp)
theorem upto_len {s : Sec} {k M : Nat} (h : s.ps.length ≤ M) : (s.upto k).ps.length ≤ M := by
  show (s.ps.take k).length ≤ M
  rw [List.length_take]
  omega
theorem first_in {m : MV} (h : MIn m) (n : Nat) : MIn (m.first n) := by
  refine ⟨⟨h.h.i, h.h.o, h.h.r, h.h.s⟩, h.q, fun i => ?_, h.ql, fun i => ?_⟩
  · exact sec_all (P := fun s => ∀ p ∈ s.ps, RIn p.2 ∧ LightR p.2) (upto_sub (h.r 0)) (upto_sub (h.r 1)) (upto_sub (h.r 2)) i
  · exact sec_all (P := fun s => s.ps.length ≤ 1000) (upto_len (h.rl 0)) (upto_len (h.rl 1)) (upto_len (h.rl 2)) i
theorem first_owned {w : World} {m : MV} (h : OwnedM w m) (n : Nat) : OwnedM w (m.first n) := fun i =>
  sec_all (P := fun s => ∀ p ∈ s.ps, OwnR w 0 p.1 p.2) (upto_sub (h 0)) (upto_sub (h 1)) (upto_sub (h 2)) i
theorem first_cap (m : MV) (n : Nat) (hl : m.s2.ps.length ≤ 1000) : (m.first n).s2.ps.length ≤ (m.first n).s2.c ∧ (m.first n).s2.c ≤ maxLen := by
  have e : (m.first n).s2 = m.s2.upto (n - m.s0.ps.length - m.s1.ps.length) := rfl
  rw [e]
  refine ⟨by show (m.s2.ps.take _).length ≤ min _ _; rw [List.length_take]; exact Nat.le_refl _, ?_⟩
  show min _ _ ≤ maxLen
  unfold maxLen
  omega

set_option maxRecDepth 20000 in
set_option maxHeartbeats 4000000 in
theorem most1_core (w : World) (g g2 : Nat) (s : Int) (i : Nat) (m : MV) (h : Hd) (qA : Option Addr) (qc : Nat) (qp : List (QV × Qt)) (A0 A1 A2 : Option Addr) (k0 k1 k2 : Nat) (p0 p1 p2 : List (RV × Rt)) (he : m = ⟨h, qA, qc, qp, ⟨A0, k0, p0⟩, ⟨A1, k1, p1⟩, ⟨A2, k2, p2⟩⟩)
    (hm : MAt w w.heap.size m) (hi : MIn m) (ho : OwnedM w m) (hc : ∀ i, (m.sec i).ps.length ≤ (m.sec i).c) (hn : i ≤ 10000) (hg : Whole w g 25 m.cells) (hg2 : Whole w g2 3 [.int .i64 s]) :
    Calls Try.prog 72 #[.int .i64 i, .pointer (some ⟨g, 0, none⟩), .pointer (some ⟨g2, 0, none⟩)] w (Gave w (.bool (!(fitE (encE (m.first (i + 1)).msg) s).isSome))) := by
  have ev : m.val = valM h (.slice qA qp.length qc) (.slice A0 p0.length k0) (.slice A1 p1.length k1) (.slice A2 p2.length k2) := by rw [he]
  have HC := Lib.hid (fun (W : World) (hb : Below w.heap.size w W) => (show W.cell? ⟨g, 0, none⟩ = some (.int .i64 h.id) ∧ W.cell? ⟨g, 1, none⟩ = some (.bool h.resp) ∧ W.cell? ⟨g, 2, none⟩ = some (.int .i64 h.op) ∧ W.cell? ⟨g, 3, none⟩ = some (.bool h.aa) ∧ W.cell? ⟨g, 4, none⟩ = some (.bool h.tc) ∧ W.cell? ⟨g, 5, none⟩ = some (.bool h.rd) ∧ W.cell? ⟨g, 6, none⟩ = some (.bool h.ra) ∧ W.cell? ⟨g, 7, none⟩ = some (.int .i64 h.rc) ∧ W.cell? ⟨g, 8, none⟩ = some (.slice qA qp.length qc) ∧ W.cell? ⟨g, 9, none⟩ = some (.slice A0 p0.length k0) ∧ W.cell? ⟨g, 10, none⟩ = some (.slice A1 p1.length k1) ∧ W.cell? ⟨g, 11, none⟩ = some (.slice A2 p2.length k2) ∧ W.cell? ⟨g, 12, none⟩ = some (.bool h.edns) ∧ W.cell? ⟨g, 13, none⟩ = some (.int .i64 h.size) ∧ W.cell? ⟨g2, 0, none⟩ = some (.int .i64 s) from by
    have a1 := hg.below hb hg.lt
    have a2 := hg2.below hb hg2.lt
    rw [he] at a1
    exact ⟨a1.cell 0, a1.cell 1, a1.cell 2, a1.cell 3, a1.cell 4, a1.cell 5, a1.cell 6, a1.cell 7, a1.cell 8, a1.cell 9, a1.cell 10, a1.cell 11, a1.cell 12, a1.cell 13, a2.cell 0⟩))
  have HF := Lib.hid (fun (W : World) (hb : Below w.heap.size w W) => (show Calls Try.prog 47 #[valM h (.slice qA qp.length qc) (.slice A0 p0.length k0) (.slice A1 p1.length k1) (.slice A2 p2.length k2), .int .i64 ((i : Int) + 1)] W (Gave W (m.first (i + 1)).val) from by
    have h1 := first_any W m (i + 1) (by omega) hi.rl hc
    rw [ev] at h1
    exact h1))
  have HE := Lib.hid (fun (W : World) (hb : Below w.heap.size w W) => (show Calls Try.prog 44 #[(m.first (i + 1)).val, .int .i64 s] W (CEncOut W (fitE (encE (m.first (i + 1)).msg) s)) from
    cencode_any W (m.first (i + 1)) s ((first_at (hm.below hb) (i + 1)).mono hb.size) (first_in hi _) ((first_owned ho _).below hb) (first_cap m _ (hi.rl 2))))
  have HBD := Lib.hid (Below.refl w.heap.size w).drew
  clear hm hi ho hc hg hg2 he ev
  generalize (m.first (i + 1)).val = fv at *
  generalize fitE (encE (m.first (i + 1)).msg) s = o at *
  clear m
  have hi1 : IntKind.i64.wrap ((i : Int) + 1) = (i : Int) + 1 := IntWalk.i64_in _ (by omega)
  go_enter Try.func72, Try.ntmps72
  go_wp2
  have HBX := HBD
  go_region_held3 (fun W => W.cell? ⟨g, 0, none⟩ = some (.int .i64 h.id) ∧ W.cell? ⟨g, 1, none⟩ = some (.bool h.resp) ∧ W.cell? ⟨g, 2, none⟩ = some (.int .i64 h.op) ∧ W.cell? ⟨g, 3, none⟩ = some (.bool h.aa) ∧ W.cell? ⟨g, 4, none⟩ = some (.bool h.tc) ∧ W.cell? ⟨g, 5, none⟩ = some (.bool h.rd) ∧ W.cell? ⟨g, 6, none⟩ = some (.bool h.ra) ∧ W.cell? ⟨g, 7, none⟩ = some (.int .i64 h.rc) ∧ W.cell? ⟨g, 8, none⟩ = some (.slice qA qp.length qc) ∧ W.cell? ⟨g, 9, none⟩ = some (.slice A0 p0.length k0) ∧ W.cell? ⟨g, 10, none⟩ = some (.slice A1 p1.length k1) ∧ W.cell? ⟨g, 11, none⟩ = some (.slice A2 p2.length k2) ∧ W.cell? ⟨g, 12, none⟩ = some (.bool h.edns) ∧ W.cell? ⟨g, 13, none⟩ = some (.int .i64 h.size) ∧ W.cell? ⟨g2, 0, none⟩ = some (.int .i64 s))
    (exact HC.out _ HBX.out)
    ((first
      | (go_at_call 47
         refine (HF.out _ HBX.out).mono ?_
         rintro e wn ⟨rfl, hb⟩
         have HBX := Lib.hid (HBX.out.trans (hb.mono HBX.out.size))
         clear hb)
      | (go_at_call 44
         refine (HE.out _ HBX.out).mono ?_
         intro e wn heo
         have HOB := Lib.hid heo
         have HBX := Lib.hid (HBX.out.trans (heo.1.mono HBX.out.size))
         obtain ⟨vb, hvb⟩ : ∃ vb, e = .returned (.tuple #[vb, .bool o.isSome]) := by
           cases o with
           | none => exact ⟨_, heo.2⟩
           | some b =>
             obtain ⟨_, A, c, a1, _⟩ := heo
             exact ⟨_, a1⟩
         subst hvb
         clear heo HOB)))
  all_goals
    rename_i hheld
    clear hheld
    go_wp2
    go_ret
    exact ⟨by cases o <;> rfl, HBX.out⟩

end Go.Proofs.Ytjkjhpaeckkpjaa

namespace Go.Proofs.Ytjkjhpaeckkpjaa
open Go.RowKit

/-- Do more than i of the records not fit? -/
def tooBig (m : MV) (s : Int) (i : Nat) : Bool := !(fitE (encE (m.first (i + 1)).msg) s).isSome
def MostOut (w : World) (m : MV) (s : Int) (e : Ending) (w' : World) : Prop :=
  Below w.heap.size w w' ∧ ∃ r : Nat, e = .returned (.int .i64 r) ∧ FirstYes (tooBig m s) (m.s0.ps.length + m.s1.ps.length + m.s2.ps.length) r

set_option maxRecDepth 20000 in
set_option maxHeartbeats 4000000 in
theorem most_core (w : World) (s : Int) (m : MV) (h : Hd) (qA : Option Addr) (qc : Nat) (qp : List (QV × Qt)) (A0 A1 A2 : Option Addr) (k0 k1 k2 : Nat) (p0 p1 p2 : List (RV × Rt)) (he : m = ⟨h, qA, qc, qp, ⟨A0, k0, p0⟩, ⟨A1, k1, p1⟩, ⟨A2, k2, p2⟩⟩)
    (hm : MAt w w.heap.size m) (hi : MIn m) (ho : OwnedM w m) (hc : ∀ i, (m.sec i).ps.length ≤ (m.sec i).c) (hmono : ∀ a b, a ≤ b → b < m.s0.ps.length + m.s1.ps.length + m.s2.ps.length → tooBig m s a = true → tooBig m s b = true) :
    Calls Try.prog 46 #[valM h (.slice qA qp.length qc) (.slice A0 p0.length k0) (.slice A1 p1.length k1) (.slice A2 p2.length k2), .int .i64 s] w (MostOut w m s) := by
  have hmf : ∀ (fn : Fn) (first cap : Array Value) (w : World), (Instr.makeFunc fn first cap).run Try.prog w = .ok (.func fn first cap) w := fun _ _ _ _ => rfl
  obtain ⟨W, hW⟩ : ∃ W, W = (w.alloc (.cells #[.int .i64 h.id, .bool h.resp, .int .i64 h.op, .bool h.aa, .bool h.tc, .bool h.rd, .bool h.ra, .int .i64 h.rc, .slice qA qp.length qc, .slice A0 p0.length k0, .slice A1 p1.length k1, .slice A2 p2.length k2, .bool h.edns, .int .i64 h.size] 25)).alloc (.cells #[.int .i64 s] 3) := ⟨_, rfl⟩
  have hB : Below w.heap.size w W := by rw [hW]; exact ((Below.refl _ _).alloc (Nat.le_refl _) _).alloc (by simp) _
  have hw1 : Whole W w.heap.size 25 m.cells := by rw [hW, he]; exact (Whole.made w [.int .i64 h.id, .bool h.resp, .int .i64 h.op, .bool h.aa, .bool h.tc, .bool h.rd, .bool h.ra, .int .i64 h.rc, .slice qA qp.length qc, .slice A0 p0.length k0, .slice A1 p1.length k1, .slice A2 p2.length k2, .bool h.edns, .int .i64 h.size] _).alloc _
  have hw2 : Whole W (w.heap.size + 1) 3 [.int .i64 s] := by
    rw [hW]
    have h1 := Whole.made (w.alloc (.cells #[.int .i64 h.id, .bool h.resp, .int .i64 h.op, .bool h.aa, .bool h.tc, .bool h.rd, .bool h.ra, .int .i64 h.rc, .slice qA qp.length qc, .slice A0 p0.length k0, .slice A1 p1.length k1, .slice A2 p2.length k2, .bool h.edns, .int .i64 h.size] 25)) [.int .i64 s] 3
    rw [show (w.alloc (.cells #[.int .i64 h.id, .bool h.resp, .int .i64 h.op, .bool h.aa, .bool h.tc, .bool h.rd, .bool h.ra, .int .i64 h.rc, .slice qA qp.length qc, .slice A0 p0.length k0, .slice A1 p1.length k1, .slice A2 p2.length k2, .bool h.edns, .int .i64 h.size] 25)).heap.size = w.heap.size + 1 by simp] at h1
    exact h1
  have l0 : m.s0.ps.length ≤ 1000 := hi.rl 0
  have l1 : m.s1.ps.length ≤ 1000 := hi.rl 1
  have l2 : m.s2.ps.length ≤ 1000 := hi.rl 2
  have e0 : m.s0.ps.length = p0.length := by rw [he]
  have e1 : m.s1.ps.length = p1.length := by rw [he]
  have e2 : m.s2.ps.length = p2.length := by rw [he]
  have HS := Lib.hid (search_any W (.pointer (some ⟨w.heap.size, 0, none⟩)) (.pointer (some ⟨w.heap.size + 1, 0, none⟩)) (tooBig m s) (m.s0.ps.length + m.s1.ps.length + m.s2.ps.length) (by omega) (fun i W' hin hb => by
    have h1 := hB.trans (hb.mono hB.size)
    exact most1_core W' w.heap.size (w.heap.size + 1) s i m h qA qc qp A0 A1 A2 k0 k1 k2 p0 p1 p2 he ((hm.below h1).mono h1.size) hi (ho.below h1) hc (by omega) (hw1.below hb hw1.lt) (hw2.below hb hw2.lt)) hmono)
  have HM := Lib.hid (show ∀ e w', Below W.heap.size W w' → (∃ r : Nat, e = .returned (.int .i64 r) ∧ FirstYes (tooBig m s) (m.s0.ps.length + m.s1.ps.length + m.s2.ps.length) r) → MostOut w m s e w' from fun e w' hb hr => ⟨hB.trans (hb.mono hB.size), hr⟩)
  rw [e0, e1, e2] at HS HM
  rw [e0] at l0
  rw [e1] at l1
  rw [e2] at l2
  clear hB hw1 hw2 hm hi ho hc hmono he e0 e1 e2
  have ec : (p0.length : Int) + (p1.length : Int) + (p2.length : Int) = ((p0.length + p1.length + p2.length : Nat) : Int) := by omega
  have HEC := Lib.hid ec
  clear ec
  subst hW
  go_enter Try.func46, Try.ntmps46
  go_wp2_with fail
  rw [HEC.out]
  refine HS.out.mono ?_
  rintro e w1 ⟨hb1, r, rfl, hr⟩
  have HR := Lib.hid (HM.out _ w1 hb1 ⟨r, rfl, hr⟩)
  clear hb1 hr HS HM HEC
  go_wp2
  go_ret
  exact HR.out
theorem most_any (w : World) (s : Int) (m : MV) (hm : MAt w w.heap.size m) (hi : MIn m) (ho : OwnedM w m) (hc : ∀ i, (m.sec i).ps.length ≤ (m.sec i).c) (hmono : ∀ a b, a ≤ b → b < m.s0.ps.length + m.s1.ps.length + m.s2.ps.length → tooBig m s a = true → tooBig m s b = true) :
    Calls Try.prog 46 #[m.val, .int .i64 s] w (MostOut w m s) := by
  obtain ⟨h, qA, qc, qp, ⟨A0, k0, p0⟩, ⟨A1, k1, p1⟩, ⟨A2, k2, p2⟩⟩ := m
  exact most_core w s _ h qA qc qp A0 A1 A2 k0 k1 k2 p0 p1 p2 rfl hm hi ho hc hmono

end Go.Proofs.Ytjkjhpaeckkpjaa

namespace Go.Proofs.Ytjkjhpaeckkpjaa
open Go.RowKit

set_option maxHeartbeats 400000 in
theorem small_any (l : List UInt8) (w : World) (hm : l.length ≤ maxLen) :
    Calls Try.prog 120 #[.string ⟨l.toArray⟩] w (Gave w (.string ⟨(lowL l).toArray⟩)) := by
  unfold maxLen at hm
  go_enter Try.func120, Try.ntmps120
  go_wp2_with (refine wpList_bytes rfl (.tmp 6) 9 28 5 rfl Try.underlying9 Try.underlying28 Try.underlying5 l rfl ?_; intro C w1 hC hM1 hB1 hz1)
  have HM := Lib.hid hM1
  have HB := Lib.hid hB1
  have HZ := Lib.hid hz1
  clear hM1 hB1 hz1
  obtain ⟨Z, hZ⟩ : ∃ Z, Z = zerosL (.int .u8 0) (C - l.length) := ⟨_, rfl⟩
  rw [← hZ] at HM
  clear hZ
  go_loopw [10] (SmallRel w l Z) (fun i _ => l.length - (intOf i).toNat)
  case atStart => exact ⟨0, Nat.zero_le _, rfl, by rw [lowUpto_zero]; exact HM.out, HB.out⟩
  case round =>
    obtain ⟨k, hk, rfl, hmk, hbk⟩ := hrel
    have HMK := Lib.hid hmk
    have HBK := Lib.hid hbk
    clear hmk hbk
    by_cases hlt : k < l.length
    · have hc : wr.cell? ⟨w.heap.size, k, none⟩ = some (.int .u8 (l[k]).toNat) := (HMK.out.cell k).trans (lowUpto_at Z hlt)
      have hf : wr.frozen? ⟨w.heap.size, k, none⟩ = false := HMK.out.frozen (by rw [length_lowUpto]; omega)
      have hlt8 := (l[k]).toNat_lt
      by_cases h1 : 65 ≤ (l[k]).toNat
      · by_cases h2 : (l[k]).toNat ≤ 90
        · have HU := Lib.hid (lowB_up h1 h2)
          go_wp2
          refine ⟨⟨k + 1, by omega, by go_num, ?_, ?_⟩, by simp [intOf]; omega⟩
          · rw [lowUpto_succ Z hlt, bc, HU.out]
            have h := HMK.out.set_ k (.int .u8 (((l[k]).toNat + 32 : Nat) : Int))
            rw [show ((l[k]).toNat : Int) - 65 + 97 = (((l[k]).toNat + 32 : Nat) : Int) from by omega]
            exact h
          · exact HBK.out.setCell (Nat.le_refl _) _
        · have HU := Lib.hid (lowUpto_same Z hlt (lowB_no (by omega)))
          go_wp2
          exact ⟨⟨k + 1, by omega, by go_num, by rw [HU.out]; exact HMK.out, HBK.out⟩, by simp [intOf]; omega⟩
      · have HU := Lib.hid (lowUpto_same Z hlt (lowB_no (by omega)))
        go_wp2
        exact ⟨⟨k + 1, by omega, by go_num, by rw [HU.out]; exact HMK.out, HBK.out⟩, by simp [intOf]; omega⟩
    · obtain rfl : k = l.length := by omega
      have hr := HMK.out.row.take l.length
      rw [lowUpto_all] at hr
      have hcv := convert_row_run (P := Try.prog) wr 28 9 5 Try.underlying28 Try.underlying5 Try.underlying9 _ l.length C _ (lowL l) (length_lowL l) hr
      clear hr
      go_wp2
      go_ret
      exact ⟨rfl, HBK.out⟩

end Go.Proofs.Ytjkjhpaeckkpjaa

namespace Go.Proofs.Ytjkjhpaeckkpjaa
open Go.RowKit

set_option maxRecDepth 8000 in
set_option maxHeartbeats 1000000 in
theorem compareString_any (a b : List UInt8) (w : World) :
    Calls Try.prog 126 #[.string ⟨a.toArray⟩, .string ⟨b.toArray⟩] w (Told w (.int .i64 (cmpB a b))) := by
  have hr := Lib.run_compareString (P := Try.prog) ⟨a.toArray⟩ ⟨b.toArray⟩
  simp only [compareBytes_lex] at hr
  go_enter Try.func126, Try.ntmps126
  go_wp2
  rw [run_callFunc_extern Try.func129 (by kernel_rfl) (by kernel_rfl) (by kernel_rfl) (e := Extern.BytealgCompare.compare) (by kernel_rfl), hr]
  simp only [Result.andThen]
  rw [Oper.upon_value]
  go_wp2
  go_ret
  exact ⟨rfl, rfl⟩

set_option maxHeartbeats 400000 in
theorem compare_any (a b : List UInt8) (w : World) :
    Calls Try.prog 119 #[.string ⟨a.toArray⟩, .string ⟨b.toArray⟩] w (Told w (.int .i64 (cmpB a b))) := by
  go_enter Try.func119, Try.ntmps119
  go_wp2_with fail
  refine (compareString_any _ _ _).mono ?_
  rintro e w' ⟨rfl, rfl⟩
  go_wp2
  go_ret
  exact ⟨rfl, rfl⟩

set_option maxHeartbeats 400000 in
theorem byLabel_any (a b : List UInt8) (w : World) (ha : a.length ≤ maxLen) (hb : b.length ≤ maxLen) :
    Calls Try.prog 113 #[.string ⟨a.toArray⟩, .string ⟨b.toArray⟩] w (Gave w (.int .i64 (cmpB (lowL a) (lowL b)))) := by
  go_enter Try.func113, Try.ntmps113
  go_wp2_with fail
  refine (small_any a w ha).mono ?_
  rintro e w1 ⟨rfl, hb1⟩
  have hz := hb1.size
  have HB1 := Lib.hid hb1
  clear hb1
  go_wp2_with fail
  refine (small_any b w1 hb).mono ?_
  rintro e w2 ⟨rfl, hb2⟩
  have HB2 := Lib.hid hb2
  clear hb2
  go_wp2_with fail
  refine (compare_any _ _ _).mono ?_
  rintro e w' ⟨rfl, rfl⟩
  go_wp2
  go_ret
  exact ⟨rfl, HB1.out.trans (HB2.out.mono hz)⟩

end Go.Proofs.Ytjkjhpaeckkpjaa

namespace Go.Proofs.Ytjkjhpaeckkpjaa
open Go.RowKit

set_option maxHeartbeats 400000 in
theorem sameLabel_yes (a b : List UInt8) (w : World) (ha : a.length ≤ maxLen) (hb : b.length ≤ maxLen) (he : lowL a = lowL b) :
    Calls Try.prog 107 #[.string ⟨a.toArray⟩, .string ⟨b.toArray⟩] w (Gave w (.bool true)) := by
  have hc := byLabel_any a b w ha hb
  rw [show cmpB (lowL a) (lowL b) = 0 by rw [he]; exact cmpB_tot.same _] at hc
  have HC := Lib.hid hc
  clear hc he
  go_enter Try.func107, Try.ntmps107
  go_wp2_with fail
  refine HC.out.mono ?_
  rintro e w1 ⟨rfl, hb1⟩
  have HB1 := Lib.hid hb1
  clear hb1
  go_wp2
  go_ret
  exact ⟨rfl, HB1.out⟩

set_option maxHeartbeats 400000 in
theorem sameLabel_no (a b : List UInt8) (w : World) (ha : a.length ≤ maxLen) (hb : b.length ≤ maxLen) (he : lowL a ≠ lowL b) :
    Calls Try.prog 107 #[.string ⟨a.toArray⟩, .string ⟨b.toArray⟩] w (Gave w (.bool false)) := by
  have hc := byLabel_any a b w ha hb
  have hr : (cmpB (lowL a) (lowL b) == 0) = false := by rw [beq_eq_false_iff_ne]; exact fun h => he (cmpB_tot.eq_ _ _ h)
  generalize cmpB (lowL a) (lowL b) = r at hc hr
  have HC := Lib.hid hc
  clear hc he
  go_enter Try.func107, Try.ntmps107
  go_wp2_with fail
  refine HC.out.mono ?_
  rintro e w1 ⟨rfl, hb1⟩
  have HB1 := Lib.hid hb1
  clear hb1
  go_wp2
  go_ret
  exact ⟨rfl, HB1.out⟩

set_option maxHeartbeats 400000 in
theorem equalFunc_ne (A B : Option Addr) (c1 c2 : Nat) (a b : List (List UInt8)) (w : World) (hl : a.length ≠ b.length) :
    Calls Try.prog 106 #[.slice A a.length c1, .slice B b.length c2, .func (.func 107) #[] #[]] w (Gave w (.bool (eqN a b))) := by
  have h1 : ((a.length : Int) != (b.length : Int)) = true := by rw [bne_iff_ne]; omega
  rw [eqN_len hl]
  clear hl
  go_enter Try.func106, Try.ntmps106
  go_wp2
  go_ret
  exact ⟨rfl, Below.refl _ _⟩

set_option maxHeartbeats 1000000 in
theorem equalFunc_len (A B : Option Addr) (c1 c2 : Nat) (a b : List (List UInt8)) (w : World) (hA : Row w w.heap.size A (a.map sv)) (hB : Row w w.heap.size B (b.map sv))
    (hs1 : WideN a) (hs2 : WideN b) (hl : a.length = b.length) :
    Calls Try.prog 106 #[.slice A a.length c1, .slice B b.length c2, .func (.func 107) #[] #[]] w (Gave w (.bool (eqN a b))) := by
  have hn1 := hs1.1
  have hn2 := hs2.1
  have HS1 := Lib.hid hs1.2
  have HS2 := Lib.hid hs2.2
  unfold maxLen at hn1 hn2
  clear hs1 hs2
  have HA := Lib.hid hA
  have HB := Lib.hid hB
  have h1 : ((a.length : Int) != (b.length : Int)) = false := by rw [hl]; simp
  have HL := Lib.hid hl
  clear hA hB hl
  go_enter Try.func106, Try.ntmps106
  go_wp2
  go_loopw [17] (EqRel w a b) (fun i _ => a.length - (intOf i).toNat)
  case atStart => exact ⟨0, Nat.zero_le _, rfl, rfl, Below.refl _ _⟩
  case round =>
    obtain ⟨k, hk, rfl, hkt, hbw⟩ := hrel
    have hz := hbw.size
    have HKT := Lib.hid hkt
    have HBW := Lib.hid hbw
    have HA1 := Lib.hid (HA.out.below hbw)
    have HB1 := Lib.hid (HB.out.below hbw)
    clear hkt hbw
    by_cases hlt : k < a.length
    · have hkb : k < b.length := by have := HL.out; omega
      obtain ⟨ba, oa, rfl, _, hca⟩ := HA1.out.name_at hlt
      obtain ⟨bb, ob, rfl, _, hcb⟩ := HB1.out.name_at hkb
      have hla := HS1.out k hlt
      have hlb := HS2.out k hkb
      by_cases he : lowL a[k] = lowL b[k]
      · have HC := Lib.hid (fun w' => sameLabel_yes a[k] b[k] w' hla hlb he)
        have HK := Lib.hid (low_snoc HKT.out hlt hkb he)
        clear he
        go_wp2_with fail
        refine (HC.out _).mono ?_
        rintro e w1 ⟨rfl, hb1⟩
        have HB2 := Lib.hid hb1
        clear hb1
        go_wp2
        exact ⟨⟨k + 1, by omega, by go_num, HK.out, HBW.out.trans (HB2.out.mono hz)⟩, by simp [intOf]; omega⟩
      · have HC := Lib.hid (fun w' => sameLabel_no a[k] b[k] w' hla hlb he)
        have HK := Lib.hid (low_part hlt hkb he)
        clear he
        go_wp2_with fail
        refine (HC.out _).mono ?_
        rintro e w1 ⟨rfl, hb1⟩
        have HB2 := Lib.hid hb1
        clear hb1
        go_wp2
        go_ret
        exact ⟨ret_bool HK.out.symm, HBW.out.trans (HB2.out.mono hz)⟩
    · obtain rfl : k = a.length := by omega
      have HK := Lib.hid (low_end HKT.out HL.out)
      go_wp2
      go_ret
      exact ⟨ret_bool HK.out.symm, HBW.out⟩

set_option maxHeartbeats 400000 in
theorem equal_wide (A B : Option Addr) (m1 m2 c1 c2 H : Nat) (a b : List (List UInt8)) (w : World) (hl1 : a.length = m1) (hl2 : b.length = m2) (hA : Row w H A (a.map sv)) (hB : Row w H B (b.map sv)) (hH : H ≤ w.heap.size)
    (hs1 : WideN a) (hs2 : WideN b) :
    Calls Try.prog 99 #[.slice A m1 c1, .slice B m2 c2] w (Gave w (.bool (eqN a b))) := by
  subst hl1
  subst hl2
  have hf : Calls Try.prog 106 #[.slice A a.length c1, .slice B b.length c2, .func (.func 107) #[] #[]] w (Gave w (.bool (eqN a b))) := by
    by_cases hl : a.length = b.length
    · exact equalFunc_len A B c1 c2 a b w (hA.mono hH) (hB.mono hH) hs1 hs2 hl
    · exact equalFunc_ne A B c1 c2 a b w hl
  have HC := Lib.hid hf
  clear hA hB hf
  go_enter Try.func99, Try.ntmps99
  go_wp2_with fail
  refine HC.out.mono ?_
  rintro e w1 ⟨rfl, hb1⟩
  have HB1 := Lib.hid hb1
  clear hb1
  go_wp2
  go_ret
  exact ⟨rfl, HB1.out⟩

theorem equal_any (A B : Option Addr) (m1 m2 c1 c2 H : Nat) (a b : List (List UInt8)) (w : World) (hl1 : a.length = m1) (hl2 : b.length = m2) (hA : Row w H A (a.map sv)) (hB : Row w H B (b.map sv)) (hH : H ≤ w.heap.size)
    (hs1 : szN a ≤ maxLen) (hs2 : szN b ≤ maxLen) :
    Calls Try.prog 99 #[.slice A m1 c1, .slice B m2 c2] w (Gave w (.bool (eqN a b))) :=
  equal_wide A B m1 m2 c1 c2 H a b w hl1 hl2 hA hB hH (wide_sz hs1) (wide_sz hs2)

end Go.Proofs.Ytjkjhpaeckkpjaa

namespace Go.Proofs.Ytjkjhpaeckkpjaa
open Go.RowKit

/-- Are two records of one set? -/
def alikeB (a b : Rt) : Bool := decide (a.kind = b.kind) && eqN a.name b.name

set_option maxRecDepth 20000 in
set_option maxHeartbeats 4000000 in
theorem alike_any (w : World) (x y : RV) (a b : Rt) (hx : RAt w w.heap.size x a) (hy : RAt w w.heap.size y b) (wa : WideN a.name) (wb : WideN b.name) :
    Calls Try.prog 70 #[x.val a, y.val b] w (Gave w (.bool (alikeB a b))) := by
  obtain ⟨W, hW⟩ : ∃ W, W = (w.alloc (.cells #[.slice x.A a.name.length x.c, .int .i64 a.kind, .int .i64 a.cls, .int .i64 a.ttl, .slice x.d.Ab a.data.bytes.length x.d.cb, .slice x.d.Ah a.data.host.length x.d.ch, .slice x.d.Am a.data.mail.length x.d.cm, .slice x.d.An a.data.nums.length x.d.cn, .slice x.d.At a.data.texts.length x.d.ct] 48)).alloc (.cells #[.slice y.A b.name.length y.c, .int .i64 b.kind, .int .i64 b.cls, .int .i64 b.ttl, .slice y.d.Ab b.data.bytes.length y.d.cb, .slice y.d.Ah b.data.host.length y.d.ch, .slice y.d.Am b.data.mail.length y.d.cm, .slice y.d.An b.data.nums.length y.d.cn, .slice y.d.At b.data.texts.length y.d.ct] 48) := ⟨_, rfl⟩
  have hB : Below w.heap.size w W := by rw [hW]; exact ((Below.refl _ _).alloc (Nat.le_refl _) _).alloc (by simp) _
  have HEQ := Lib.hid (show Calls Try.prog 99 #[.slice x.A a.name.length x.c, .slice y.A b.name.length y.c] W (Gave W (.bool (eqN a.name b.name))) from
    equal_wide x.A y.A _ _ x.c y.c w.heap.size a.name b.name W rfl rfl (hx.n.below hB) (hy.n.below hB) hB.size wa wb)
  have HB := Lib.hid hB
  have HA := Lib.hid (show alikeB a b = (decide (a.kind = b.kind) && eqN a.name b.name) from rfl)
  clear hB hx hy wa wb
  subst hW
  by_cases hk : a.kind = b.kind
  · have t : (a.kind == b.kind) = true := by rw [hk]; simp
    rw [decide_eq_true hk] at HA
    clear hk
    go_enter Try.func70, Try.ntmps70
    go_wp2_with fail
    refine HEQ.out.mono ?_
    rintro e w1 ⟨rfl, hb1⟩
    have HB1 := Lib.hid (HB.out.trans (hb1.mono HB.out.size))
    clear hb1
    go_wp2
    go_ret
    exact ⟨by rw [HA.out]; simp, HB1.out⟩
  · have t : (a.kind == b.kind) = false := by rw [beq_eq_false_iff_ne]; exact hk
    rw [decide_eq_false hk] at HA
    clear hk
    go_enter Try.func70, Try.ntmps70
    go_wp2
    go_ret
    exact ⟨by rw [HA.out]; rfl, HB.out⟩

end Go.Proofs.Ytjkjhpaeckkpjaa

namespace Go.Proofs.Ytjkjhpaeckkpjaa
open Go.RowKit

/-- So many of the first n records, or fewer, that they do not end within a set. -/
def wholeN (rs : List Rt) : Nat → Nat
  | 0 => 0
  | n + 1 => if h : n + 1 < rs.length then (if alikeB (rs[n]'(by omega)) rs[n + 1] = true then wholeN rs n else n + 1) else n + 1
theorem wholeN_le (rs : List Rt) : ∀ n, wholeN rs n ≤ n
  | 0 => Nat.le_refl _
  | n + 1 => by
    unfold wholeN
    split
    · split
      · have := wholeN_le rs n
        omega
      · exact Nat.le_refl _
    · exact Nat.le_refl _
def CWholeRel (w : World) (rs : List Rt) (n : Nat) (i : Value) (wr : World) : Prop := ∃ k : Nat, k ≤ n ∧ i = .int .i64 k ∧ wholeN rs k = wholeN rs n ∧ Below w.heap.size w wr

set_option maxRecDepth 20000 in
set_option maxHeartbeats 4000000 in
theorem wholeSets_any (w : World) (A : Option Addr) (c n : Nat) (ps : List (RV × Rt)) (hp : RsAt w w.heap.size A ps) (hw : ∀ p ∈ ps, WideN p.2.name) (_ : ps.length ≤ 100000) (hn : n ≤ 100000) :
    Calls Try.prog 45 #[.slice A ps.length c, .int .i64 n] w (Gave w (.int .i64 (wholeN (recs ps) n : Nat))) := by
  have HP := Lib.hid (fun W' (h : Below w.heap.size w W') => hp.below h)
  have HW := Lib.hid hw
  clear hp hw
  go_enter Try.func45, Try.ntmps45
  go_wp2
  go_loopw [1] (CWholeRel w (recs ps) n) (fun i _ => (intOf i).toNat)
  case atStart => exact ⟨n, Nat.le_refl _, rfl, rfl, Below.refl _ _⟩
  case round =>
  obtain ⟨k, hk, rfl, hwk, hb⟩ := hrel
  have HB := Lib.hid hb
  have HWK := Lib.hid hwk
  have HBD := Lib.hid hb.drew
  clear hb hwk
  by_cases h0 : k = 0
  · subst h0
    go_wp2
    go_quiet (fail)
    go_wp2
    go_ret
    exact ⟨by rw [← HWK.out]; rfl, below_drewN' HB.out _⟩
  by_cases h1 : k < ps.length
  case neg =>
    have d0 : decide ((0 : Int) < (k : Int)) = true := decide_eq_true (by omega)
    have d1 : decide ((k : Int) < (ps.length : Int)) = false := decide_eq_false (by omega)
    have d2 : decide (0 < k) = true := decide_eq_true (by omega)
    have d3 : decide (k < ps.length) = false := decide_eq_false (by omega)
    have HE := Lib.hid (show wholeN (recs ps) k = k by
      cases k with
      | zero => rfl
      | succ j =>
        unfold wholeN
        rw [dif_neg (by rw [length_recs]; omega)])
    clear h0 h1
    go_wp2
    go_quiet (fail)
    go_wp2
    go_ret
    exact ⟨by rw [← HWK.out, HE.out]; rfl, below_drewN' HB.out _⟩
  have d0 : decide ((0 : Int) < (k : Int)) = true := decide_eq_true (by omega)
  have d1 : decide ((k : Int) < (ps.length : Int)) = true := decide_eq_true (by omega)
  have d2 : decide (0 < k) = true := decide_eq_true (by omega)
  have d3 : decide (k < ps.length) = true := decide_eq_true (by omega)
  have hj : k - 1 < ps.length := by omega
  obtain ⟨b1, o1, rfl, hb1, hra, q0, q1, q2, q3, q4, q5, q6, q7, q8⟩ := (HP.out _ HB.out).at_ hj
  obtain ⟨b2, o2, e2, hb2, hrb, r0, r1, r2, r3, r4, r5, r6, r7, r8⟩ := (HP.out _ HB.out).at_ h1
  cases e2
  have hwa := HW.out _ (List.getElem_mem hj)
  have hwb := HW.out _ (List.getElem_mem h1)
  have HE := Lib.hid (show wholeN (recs ps) k = if alikeB (ps[k - 1]).2 (ps[k]).2 = true then wholeN (recs ps) (k - 1) else k by
    obtain ⟨j, rfl⟩ : ∃ j, k = j + 1 := ⟨k - 1, by omega⟩
    have hjl : j + 1 < (recs ps).length := by rw [length_recs]; exact h1
    rw [wholeN, dif_pos hjl]
    simp [recs])
  revert hra q0 q1 q2 q3 q4 q5 q6 q7 q8 hrb r0 r1 r2 r3 r4 r5 r6 r7 r8 hwa hwb HE
  generalize ps[k - 1] = p
  generalize ps[k] = q
  obtain ⟨x, r⟩ := p
  obtain ⟨y, r'⟩ := q
  intro hra q0 q1 q2 q3 q4 q5 q6 q7 q8 hrb r0 r1 r2 r3 r4 r5 r6 r7 r8 hwa hwb HE
  dsimp only at hra q0 q1 q2 q3 q4 q5 q6 q7 q8 hrb r0 r1 r2 r3 r4 r5 r6 r7 r8 hwa hwb HE
  have HCL := Lib.hid (alike_any wr.drew x y r r' ((hra.below (Below.refl w.heap.size wr).drew).mono HB.out.size) ((hrb.below (Below.refl w.heap.size wr).drew).mono HB.out.size) hwa hwb)
  have wa1 : IntKind.i64.wrap ((k : Int) - 1) = (k : Int) - 1 := IntWalk.i64_in _ (by omega)
  have wa2 : (0 : Int) ≤ (k : Int) - 1 := by omega
  have wa3 : (k : Int) - 1 < ps.length := by omega
  have wa4 : ((k : Int) - 1).toNat = k - 1 := by omega
  have wa5 : (1 : Int) ≤ (k : Int) := by omega
  have wa6 : 1 ≤ k := by omega
  clear hra hrb hwa hwb
  go_wp2
  go_still_tail 18, (by kernel_rfl)
  change wpList _ _ _ _ _ wr.drew
  clear q0 q1 q2 q3 q4 q5 q6 q7 q8 r0 r1 r2 r3 r4 r5 r6 r7 r8 wa1 wa2 wa3 wa4 wa6 d0 d1 d2 d3
  go_wp2_with fail
  refine HCL.out.mono ?_
  rintro e w1 ⟨rfl, hb1⟩
  have HB1 := Lib.hid (HBD.out.trans (hb1.mono HBD.out.size))
  clear hb1 HCL
  cases ha : alikeB r r' with
  | false =>
    rw [ha] at HE
    go_wp2
    go_ret
    exact ⟨by rw [← HWK.out, HE.out]; rfl, HB1.out⟩
  | true =>
    rw [ha] at HE
    go_wp2
    refine ⟨⟨k - 1, by omega, by go_num, by rw [← HWK.out, HE.out]; rfl, HB1.out⟩, by simp [intOf]; omega⟩

end Go.Proofs.Ytjkjhpaeckkpjaa

namespace Go.Proofs.Ytjkjhpaeckkpjaa
open Go.RowKit

theorem fitB2 (n : Int) : fitB n 2 = (decide (0 ≤ n) && decide (n < 65536)) := by
  unfold fitB
  rw [← Bool.decide_and]
  exact decide_eq_decide.2 (by simp)
theorem soundQ_low {q : Qt} (h : q.kind < 1) : soundQ q = false := by
  unfold soundQ
  by_cases h0 : q.kind = 0
  · rw [show decide (q.kind ≠ 0) = false by simp [h0]]
    simp
  · rw [show fitB q.kind 2 = false from fitB_neg (by omega)]
    simp
theorem soundQ_high {q : Qt} (h : 65535 < q.kind) : soundQ q = false := by
  unfold soundQ
  rw [fitB2 q.kind, decide_eq_false (show ¬ q.kind < 65536 by omega)]
  simp
theorem soundQ_mid {q : Qt} (h1 : ¬ q.kind < 1) (h2 : ¬ 65535 < q.kind) : soundQ q = (soundN q.name && fitB q.cls 2) := by
  unfold soundQ
  rw [fitB2 q.kind, decide_eq_true (show 0 ≤ q.kind by omega), decide_eq_true (show q.kind < 65536 by omega), show decide (q.kind ≠ 0) = true by rw [decide_eq_true_eq]; omega]
  simp
def RecsRel (w : World) (ps : List (RV × Rt)) (i : Value) (wr : World) : Prop := ∃ k : Nat, k ≤ ps.length ∧ i = .int .i64 k ∧ (recs (ps.take k)).all soundX = true ∧ Below w.heap.size w wr

set_option maxRecDepth 20000 in
set_option maxHeartbeats 8000000 in
theorem refrecords_any (w : World) (A : Option Addr) (c : Nat) (ps : List (RV × Rt)) (hp : RsAt w w.heap.size A ps) (hi : ∀ p ∈ ps, RIn p.2 ∧ LightR p.2) (hl : ps.length ≤ 1000) :
    Calls Try.prog 40 #[.slice A ps.length c] w (Gave w (.bool ((recs ps).all soundX))) := by
  have HP := Lib.hid hp
  have HI := Lib.hid hi
  clear hp hi
  go_enter Try.func40, Try.ntmps40
  go_wp2
  go_loopw [3] (RecsRel w ps) (fun i _ => ps.length - (intOf i).toNat)
  case atStart => exact ⟨0, Nat.zero_le _, rfl, rfl, Below.refl _ _⟩
  case round =>
    obtain ⟨k, hk, rfl, ha, hb⟩ := hrel
    have HA := Lib.hid ha
    have HB := Lib.hid hb
    clear ha hb
    by_cases hlt : k < ps.length
    · obtain ⟨b, off, rfl, hbH, hra, q0, q1, q2, q3, q4, q5, q6, q7, q8⟩ := (HP.out.below HB.out).at_ hlt
      have HRI := Lib.hid (HI.out _ (List.getElem_mem hlt))
      have HF := Lib.hid (show soundX (ps[k]).2 = false → (recs ps).all soundX = false from all_fails (List.mem_map.2 ⟨ps[k], List.getElem_mem hlt, rfl⟩))
      have HTS := Lib.hid (recs_at hlt)
      revert hra q0 q1 q2 q3 q4 q5 q6 q7 q8 HRI HF HTS
      generalize ps[k] = p
      obtain ⟨x, r⟩ := p
      intro hra q0 q1 q2 q3 q4 q5 q6 q7 q8 HRI HF HTS
      dsimp only at *
      have HSX := Lib.hid (show soundX r = (decide (r.kind ≠ 41) && soundR r) from rfl)
      have HC := Lib.hid (ref_rsound_any x r wr (hra.mono HB.out.size) HRI.out.1 HRI.out.2)
      clear hra
      by_cases h41 : r.kind = 41
      · have t : (r.kind == 41) = true := by rw [beq_iff_eq]; exact h41
        rw [show decide (r.kind ≠ 41) = false from decide_eq_false (by omega)] at HSX
        have HFX := Lib.hid (HF.out HSX.out)
        clear h41 HF HTS
        go_wp2
        go_ret
        exact ⟨by rw [HFX.out]; rfl, HB.out⟩
      have t : (r.kind == 41) = false := by rw [beq_eq_false_iff_ne]; exact h41
      rw [show decide (r.kind ≠ 41) = true from decide_eq_true h41, Bool.true_and] at HSX
      clear h41
      go_wp2_with fail
      refine HC.out.mono ?_
      rintro e w8 ⟨rfl, hb8⟩
      have HB8 := Lib.hid (HB.out.trans (hb8.mono HB.out.size))
      clear hb8 HC
      cases hv : soundR r with
      | false =>
        have HFX := Lib.hid (HF.out (HSX.out.trans hv))
        clear HF HTS
        go_wp2
        go_ret
        exact ⟨by rw [HFX.out]; rfl, HB8.out⟩
      | true =>
        have HT := Lib.hid (show (recs (ps.take (k + 1))).all soundX = true by rw [HTS.out, List.all_append, HA.out]; simp [HSX.out, hv])
        clear HF HTS hv HSX
        go_wp2
        exact ⟨⟨k + 1, by omega, by go_num, HT.out, HB8.out⟩, by simp [intOf]; omega⟩
    · obtain rfl : k = ps.length := by omega
      have HT := Lib.hid (show (recs ps).all soundX = true by have h := HA.out; rwa [List.take_length] at h)
      go_wp2
      go_ret
      exact ⟨by rw [HT.out]; rfl, HB.out⟩

def RefQRel (w : World) (L : List Value) (qp : List (QV × Qt)) (i : Value) (wr : World) : Prop := ∃ k : Nat, k ≤ qp.length ∧ i = .int .i64 k ∧ (qsts (qp.take k)).all soundQ = true ∧ Whole wr w.heap.size 25 L ∧ Below w.heap.size w wr
set_option maxRecDepth 20000 in
set_option maxHeartbeats 8000000 in
theorem refmsg_core (w : World) (m : MV) (h : Hd) (qA : Option Addr) (qc : Nat) (qp : List (QV × Qt)) (A0 A1 A2 : Option Addr) (k0 k1 k2 : Nat) (p0 p1 p2 : List (RV × Rt)) (he : m = ⟨h, qA, qc, qp, ⟨A0, k0, p0⟩, ⟨A1, k1, p1⟩, ⟨A2, k2, p2⟩⟩) (hm : MAt w w.heap.size m) (hi : MIn m) :
    Calls Try.prog 16 #[valM h (.slice qA qp.length qc) (.slice A0 p0.length k0) (.slice A1 p1.length k1) (.slice A2 p2.length k2)] w (Gave w (.bool (soundM m.msg))) := by
  obtain ⟨W, hW⟩ : ∃ W, W = w.alloc (.cells #[.int .i64 h.id, .bool h.resp, .int .i64 h.op, .bool h.aa, .bool h.tc, .bool h.rd, .bool h.ra, .int .i64 h.rc, .slice qA qp.length qc, .slice A0 p0.length k0, .slice A1 p1.length k1, .slice A2 p2.length k2, .bool h.edns, .int .i64 h.size] 25) := ⟨_, rfl⟩
  have hB : Below w.heap.size w W := by rw [hW]; exact (Below.refl _ _).alloc (Nat.le_refl _) _
  have hwm : Whole W w.heap.size 25 (cellsM h (.slice qA qp.length qc) (.slice A0 p0.length k0) (.slice A1 p1.length k1) (.slice A2 p2.length k2)) := by rw [hW]; exact Whole.made w [.int .i64 h.id, .bool h.resp, .int .i64 h.op, .bool h.aa, .bool h.tc, .bool h.rd, .bool h.ra, .int .i64 h.rc, .slice qA qp.length qc, .slice A0 p0.length k0, .slice A1 p1.length k1, .slice A2 p2.length k2, .bool h.edns, .int .i64 h.size] _
  have HB := Lib.hid hB
  have HW := Lib.hid hwm
  have HS := Lib.hid (show soundM m.msg = (soundH h && (decide (qp.length + p0.length + p1.length + p2.length ≤ 512) && ((qsts qp).all soundQ && ((recs p0).all soundX && ((recs p1).all soundX && (recs p2).all soundX))))) from by
    rw [he]
    unfold soundM MV.msg Mt.all
    dsimp only
    rw [length_qsts, length_recs, length_recs, length_recs, List.all_append, List.all_append])
  have HFH := Lib.hid (show soundH h = false → soundM m.msg = false from fun h1 => by rw [HS.out, h1]; rfl)
  have HFT := Lib.hid (show ¬ qp.length + p0.length + p1.length + p2.length ≤ 512 → soundM m.msg = false from fun h1 => by rw [HS.out, decide_eq_false h1]; simp)
  have HFQ := Lib.hid (show (qsts qp).all soundQ = false → soundM m.msg = false from fun h1 => by rw [HS.out, h1]; simp)
  have HF0 := Lib.hid (show (recs p0).all soundX = false → soundM m.msg = false from fun h1 => by rw [HS.out, h1]; simp)
  have HF1 := Lib.hid (show (recs p1).all soundX = false → soundM m.msg = false from fun h1 => by rw [HS.out, h1]; simp)
  have HF2 := Lib.hid (show (recs p2).all soundX = false → soundM m.msg = false from fun h1 => by rw [HS.out, h1]; simp)
  have hl0 : p0.length ≤ 1000 := by have h2 := hi.rl 0; rw [he] at h2; exact h2
  have hl1 : p1.length ≤ 1000 := by have h2 := hi.rl 1; rw [he] at h2; exact h2
  have hl2 : p2.length ≤ 1000 := by have h2 := hi.rl 2; rw [he] at h2; exact h2
  have hql : qp.length ≤ 1000 := by have h2 := hi.ql; rw [he] at h2; exact h2
  have HQA := Lib.hid (fun (W' : World) (hb : Below w.heap.size w W') => (show QsAt W' w.heap.size qA qp by have h := hm.q.below hb; rw [he] at h; exact h))
  have HQI := Lib.hid (show ∀ p ∈ qp, QIn p.2 by have h := hi.q; rw [he] at h; exact h)
  have HR0 := Lib.hid (fun (W' : World) (hb : Below w.heap.size w W') => refrecords_any W' A0 k0 p0 (by have h2 := (hm.s0.below hb).mono hb.size; rw [he] at h2; exact h2) (fun p hp => hi.r 0 p (by rw [he]; exact hp)) hl0)
  have HR1 := Lib.hid (fun (W' : World) (hb : Below w.heap.size w W') => refrecords_any W' A1 k1 p1 (by have h2 := (hm.s1.below hb).mono hb.size; rw [he] at h2; exact h2) (fun p hp => hi.r 1 p (by rw [he]; exact hp)) hl1)
  have HR2 := Lib.hid (fun (W' : World) (hb : Below w.heap.size w W') => refrecords_any W' A2 k2 p2 (by have h2 := (hm.s2.below hb).mono hb.size; rw [he] at h2; exact h2) (fun p hp => hi.r 2 p (by rw [he]; exact hp)) hl2)
  have HH := Lib.hid (show HIn h by have h2 := hi.h; rw [he] at h2; exact h2)
  clear hB hwm hm hi he
  subst hW
  go_enter Try.func16, Try.ntmps16
  by_cases a0 : qp.length ≤ 512
  case neg =>
    have d0 : decide ((512 : Int) < (qp.length : Int)) = true := by rw [decide_eq_true_eq]; omega
    have HX := Lib.hid (HFT.out (by omega))
    go_wp2
    go_ret
    exact ⟨by rw [HX.out]; rfl, HB.out⟩
  have d0 : decide ((512 : Int) < (qp.length : Int)) = false := decide_eq_false (by omega)
  by_cases a1 : p0.length ≤ 512
  case neg =>
    have d1 : decide ((512 : Int) < (p0.length : Int)) = true := by rw [decide_eq_true_eq]; omega
    have HX := Lib.hid (HFT.out (by omega))
    go_wp2
    go_ret
    exact ⟨by rw [HX.out]; rfl, HB.out⟩
  have d1 : decide ((512 : Int) < (p0.length : Int)) = false := decide_eq_false (by omega)
  by_cases a2 : p1.length ≤ 512
  case neg =>
    have d2 : decide ((512 : Int) < (p1.length : Int)) = true := by rw [decide_eq_true_eq]; omega
    have HX := Lib.hid (HFT.out (by omega))
    go_wp2
    go_ret
    exact ⟨by rw [HX.out]; rfl, HB.out⟩
  have d2 : decide ((512 : Int) < (p1.length : Int)) = false := decide_eq_false (by omega)
  by_cases a3 : p2.length ≤ 512
  case neg =>
    have d3 : decide ((512 : Int) < (p2.length : Int)) = true := by rw [decide_eq_true_eq]; omega
    have HX := Lib.hid (HFT.out (by omega))
    go_wp2
    go_ret
    exact ⟨by rw [HX.out]; rfl, HB.out⟩
  have d3 : decide ((512 : Int) < (p2.length : Int)) = false := decide_eq_false (by omega)
  by_cases a4 : qp.length + p0.length + p1.length + p2.length ≤ 512
  case neg =>
    have d4 : decide ((512 : Int) < (qp.length : Int) + (p0.length : Int) + (p1.length : Int) + (p2.length : Int)) = true := by rw [decide_eq_true_eq]; omega
    have HX := Lib.hid (HFT.out a4)
    go_wp2
    go_ret
    exact ⟨by rw [HX.out]; rfl, HB.out⟩
  have d4 : decide ((512 : Int) < (qp.length : Int) + (p0.length : Int) + (p1.length : Int) + (p2.length : Int)) = false := decide_eq_false (by omega)
  go_wp2
  clear d0 d1 d2 d3 d4
  go_loopw [3] (RefQRel w (cellsM h (.slice qA qp.length qc) (.slice A0 p0.length k0) (.slice A1 p1.length k1) (.slice A2 p2.length k2)) qp) (fun i _ => qp.length - (intOf i).toNat)
  case atStart => exact ⟨0, Nat.zero_le _, rfl, rfl, HW.out, HB.out⟩
  case round =>
    obtain ⟨j, hj, rfl, ha, hw, hb⟩ := hrel
    have HA := Lib.hid ha
    have HBR := Lib.hid hb
    have HWR := Lib.hid hw
    have c8 : wr.cell? ⟨w.heap.size, 8, none⟩ = some (.slice qA qp.length qc) := Whole.cell hw 8
    have hgl : w.heap.size < wr.heap.size := hw.lt
    clear ha hw hb
    by_cases hlt : j < qp.length
    · obtain ⟨b, off, rfl, hbH, hqa, q0, q1, q2⟩ := (HQA.out _ HBR.out).at_ hlt
      have HI := Lib.hid (HQI.out _ (List.getElem_mem hlt))
      have HF := Lib.hid (show soundQ (qp[j]).2 = false → (qsts qp).all soundQ = false from all_fails (List.mem_map.2 ⟨qp[j], List.getElem_mem hlt, rfl⟩))
      have HT := Lib.hid (show soundQ (qp[j]).2 = true → (qsts (qp.take (j + 1))).all soundQ = true by
        intro h
        rw [qsts_at hlt, List.all_append, HA.out]
        simp [h])
      revert hqa q0 q1 q2 HI HF HT
      generalize qp[j] = p
      obtain ⟨y, q⟩ := p
      intro hqa q0 q1 q2 HI HF HT
      dsimp only at *
      have hba : Below wr.heap.size wr (wr.alloc (.cells #[.slice y.1 q.name.length y.2, .int .i64 q.kind, .int .i64 q.cls] 42)) := (Below.refl _ _).alloc (Nat.le_refl _) _
      have HBA := Lib.hid (HBR.out.trans (hba.mono HBR.out.size))
      have HWA := Lib.hid (HWR.out.below hba hgl)
      have HC := Lib.hid (ref_sound_wide y.1 y.2 w.heap.size q.name (wr.alloc (.cells #[.slice y.1 q.name.length y.2, .int .i64 q.kind, .int .i64 q.cls] 42)) (Row.below hqa (hba.mono HBR.out.size)) HI.out.n.1 HI.out.n.2)
      have HSQ := Lib.hid (show soundQ q = (soundN q.name && (decide (q.kind ≠ 0) && (fitB q.kind 2 && fitB q.cls 2))) from rfl)
      clear hqa hba
      go_wp2_with fail
      refine HC.out.mono ?_
      rintro e w2 ⟨rfl, rfl⟩
      have HZ := Lib.hid (show soundN q.name = false → soundQ q = false from fun h1 => by unfold soundQ; rw [h1]; rfl)
      have HCF := Lib.hid (fun W' => ref_fits_any q.cls 2 W' (i64_top HI.out.c))
      clear c8 q0 q1 q2 hbH
      cases hv : soundN q.name with
      | false =>
        have HX := Lib.hid (HFQ.out (HF.out (HZ.out hv)))
        clear HSQ HT HF HZ
        go_wp2
        go_ret
        exact ⟨by rw [HX.out]; rfl, HBA.out⟩
      | true =>
      by_cases e1 : q.kind < 1
      · have d1 : decide (q.kind < 1) = true := decide_eq_true e1
        have HX := Lib.hid (HFQ.out (HF.out (soundQ_low e1)))
        clear HSQ HT HF HZ
        go_wp2
        go_ret
        exact ⟨by rw [HX.out]; rfl, HBA.out⟩
      have d1 : decide (q.kind < 1) = false := decide_eq_false e1
      by_cases e2 : 65535 < q.kind
      · have d2 : decide (65535 < q.kind) = true := decide_eq_true e2
        have HX := Lib.hid (HFQ.out (HF.out (soundQ_high e2)))
        clear HSQ HT HF HZ
        go_wp2
        go_ret
        exact ⟨by rw [HX.out]; rfl, HBA.out⟩
      have d2 : decide (65535 < q.kind) = false := decide_eq_false e2
      have HM := Lib.hid (show soundQ q = fitB q.cls 2 by rw [soundQ_mid e1 e2, hv]; rfl)
      clear e1 e2 HSQ HZ
      go_wp2_with fail
      refine (HCF.out _).mono ?_
      rintro e w3 ⟨rfl, rfl⟩
      cases hc : fitB q.cls 2 with
      | false =>
        have HX := Lib.hid (HFQ.out (HF.out (HM.out.trans hc)))
        clear HT HF HM
        go_wp2
        go_ret
        exact ⟨by rw [HX.out]; rfl, HBA.out⟩
      | true =>
        have HX := Lib.hid (HT.out (HM.out.trans hc))
        clear HT HF HM
        go_wp2
        exact ⟨⟨j + 1, by omega, by go_num, HX.out, HWA.out, HBA.out⟩, by simp [intOf]; omega⟩
    · obtain rfl : j = qp.length := by omega
      have HAQ := Lib.hid (show (qsts qp).all soundQ = true by have h := HA.out; rwa [List.take_length] at h)
      have HTT := Lib.hid (show soundH h = true → (recs p0).all soundX = true → (recs p1).all soundX = true → (recs p2).all soundX = true → soundM m.msg = true from fun h1 h2 h3 h4 => by
        rw [HS.out, h1, h2, h3, h4, HAQ.out, decide_eq_true a4]
        rfl)
      have g0 : wr.cell? ⟨w.heap.size, 0, none⟩ = some (.int .i64 h.id) := Whole.cell HWR.out 0
      have g2 : wr.cell? ⟨w.heap.size, 2, none⟩ = some (.int .i64 h.op) := Whole.cell HWR.out 2
      have g7 : wr.cell? ⟨w.heap.size, 7, none⟩ = some (.int .i64 h.rc) := Whole.cell HWR.out 7
      have g9 : wr.cell? ⟨w.heap.size, 9, none⟩ = some (.slice A0 p0.length k0) := Whole.cell HWR.out 9
      have g12 : wr.cell? ⟨w.heap.size, 12, none⟩ = some (.bool h.edns) := Whole.cell HWR.out 12
      have g13 : wr.cell? ⟨w.heap.size, 13, none⟩ = some (.int .i64 h.size) := Whole.cell HWR.out 13
      have HCI := Lib.hid (fun W' => ref_fits_any h.id 2 W' (i64_top HH.out.i))
      have HCS := Lib.hid (fun W' => ref_fits_any h.size 2 W' (i64_top HH.out.s))
      have HSH := Lib.hid (show soundH h = (fitB h.id 2 && (codeB h.op && (codeB h.rc && (fitB h.size 2 && (h.edns || decide (h.size = 0)))))) from rfl)
      have HCO := Lib.hid (show codeB h.op = (decide (0 ≤ h.op) && decide (h.op ≤ 15)) from rfl)
      have HCR := Lib.hid (show codeB h.rc = (decide (0 ≤ h.rc) && decide (h.rc ≤ 15)) from rfl)
      clear HFQ HFT HQA HQI HA HAQ hlt hj a0 a1 a2 a3
      go_wp2_with fail
      refine (HCI.out _).mono ?_
      rintro e w2 ⟨rfl, rfl⟩
      cases hi1 : fitB h.id 2 with
      | false =>
        have HX := Lib.hid (HFH.out (by rw [HSH.out, hi1]; rfl))
        clear HTT HSH HCO HCR
        go_wp2
        go_ret
        exact ⟨by rw [HX.out]; rfl, HBR.out⟩
      | true =>
      by_cases o1 : 0 ≤ h.op
      case neg =>
        have do1 : decide (0 ≤ h.op) = false := decide_eq_false o1
        have HX := Lib.hid (HFH.out (by rw [HSH.out, HCO.out, decide_eq_false o1]; simp))
        clear HTT HSH HCO HCR
        go_wp2
        go_ret
        exact ⟨by rw [HX.out]; rfl, HBR.out⟩
      have do1 : decide (0 ≤ h.op) = true := decide_eq_true o1
      by_cases o2 : h.op ≤ 15
      case neg =>
        have do2 : decide (h.op ≤ 15) = false := decide_eq_false o2
        have HX := Lib.hid (HFH.out (by rw [HSH.out, HCO.out, decide_eq_false o2]; simp))
        clear HTT HSH HCO HCR
        go_wp2
        go_ret
        exact ⟨by rw [HX.out]; rfl, HBR.out⟩
      have do2 : decide (h.op ≤ 15) = true := decide_eq_true o2
      by_cases o3 : 0 ≤ h.rc
      case neg =>
        have do3 : decide (0 ≤ h.rc) = false := decide_eq_false o3
        have HX := Lib.hid (HFH.out (by rw [HSH.out, HCR.out, decide_eq_false o3]; simp))
        clear HTT HSH HCO HCR
        go_wp2
        go_ret
        exact ⟨by rw [HX.out]; rfl, HBR.out⟩
      have do3 : decide (0 ≤ h.rc) = true := decide_eq_true o3
      by_cases o4 : h.rc ≤ 15
      case neg =>
        have do4 : decide (h.rc ≤ 15) = false := decide_eq_false o4
        have HX := Lib.hid (HFH.out (by rw [HSH.out, HCR.out, decide_eq_false o4]; simp))
        clear HTT HSH HCO HCR
        go_wp2
        go_ret
        exact ⟨by rw [HX.out]; rfl, HBR.out⟩
      have do4 : decide (h.rc ≤ 15) = true := decide_eq_true o4
      go_wp2_with fail
      refine (HCS.out _).mono ?_
      rintro e w2 ⟨rfl, rfl⟩
      cases hs1 : fitB h.size 2 with
      | false =>
        have HX := Lib.hid (HFH.out (by rw [HSH.out, hs1]; simp))
        clear HTT HSH HCO HCR
        go_wp2
        go_ret
        exact ⟨by rw [HX.out]; rfl, HBR.out⟩
      | true =>
      by_cases hx : h.edns = false ∧ h.size ≠ 0
      · obtain ⟨hx1, hx2⟩ := hx
        have t : (h.size == 0) = false := by rw [beq_eq_false_iff_ne]; exact hx2
        rw [hx1] at g12
        have HX := Lib.hid (HFH.out (by rw [HSH.out, hx1, decide_eq_false hx2]; simp))
        clear HTT HSH HCO HCR
        go_wp2
        go_ret
        exact ⟨by rw [HX.out]; rfl, HBR.out⟩
      have HHT := Lib.hid (show soundH h = true from by
        rw [HSH.out, HCO.out, HCR.out, hi1, hs1, decide_eq_true o1, decide_eq_true o2, decide_eq_true o3, decide_eq_true o4]
        cases h1 : h.edns with
        | true => rfl
        | false =>
          by_cases h2 : h.size = 0
          · rw [decide_eq_true h2]; rfl
          · exact absurd ⟨h1, h2⟩ hx)
      have HZ := Lib.hid (show h.edns = false → (h.size == 0) = true from fun h1 => by
        by_cases h2 : h.size = 0
        · rw [beq_iff_eq]; exact h2
        · exact absurd ⟨h1, h2⟩ hx)
      have HRC := Lib.hid (HR0.out _ HBR.out)
      clear HSH HCO HCR HR0 HCI HCS hx hi1 hs1 o1 o2 o3 o4
      cases hed : h.edns with
      | false =>
        have t := HZ.out hed
        rw [hed] at g12
        go_wp2_with fail
        refine HRC.out.mono ?_
        rintro e w3 ⟨rfl, hb3⟩
        have hw3 := HWR.out.below hb3 hgl
        have g10 : w3.cell? ⟨w.heap.size, 10, none⟩ = some (.slice A1 p1.length k1) := Whole.cell hw3 10
        have hgl3 : w.heap.size < w3.heap.size := hw3.lt
        have HW3 := Lib.hid hw3
        have HB3 := Lib.hid (HBR.out.trans (hb3.mono HBR.out.size))
        clear hb3 hw3 HRC g0 g2 g7 g9 g12 g13
        cases hr0 : (recs p0).all soundX with
        | false =>
          have HX := Lib.hid (HF0.out hr0)
          clear HTT
          go_wp2
          go_ret
          exact ⟨by rw [HX.out]; rfl, HB3.out⟩
        | true =>
        have HRC := Lib.hid (HR1.out _ HB3.out)
        go_wp2_with fail
        refine HRC.out.mono ?_
        rintro e w4 ⟨rfl, hb4⟩
        have hw4 := HW3.out.below hb4 hgl3
        have g11 : w4.cell? ⟨w.heap.size, 11, none⟩ = some (.slice A2 p2.length k2) := Whole.cell hw4 11
        have HB4 := Lib.hid (HB3.out.trans (hb4.mono HB3.out.size))
        clear hb4 hw4 HRC g10
        cases hr1 : (recs p1).all soundX with
        | false =>
          have HX := Lib.hid (HF1.out hr1)
          clear HTT
          go_wp2
          go_ret
          exact ⟨by rw [HX.out]; rfl, HB4.out⟩
        | true =>
        have HRC := Lib.hid (HR2.out _ HB4.out)
        go_wp2_with fail
        refine HRC.out.mono ?_
        rintro e w5 ⟨rfl, hb5⟩
        have HB5 := Lib.hid (HB4.out.trans (hb5.mono HB4.out.size))
        clear hb5 HRC g11
        cases hr2 : (recs p2).all soundX with
        | false =>
          have HX := Lib.hid (HF2.out hr2)
          clear HTT
          go_wp2
          go_ret
          exact ⟨by rw [HX.out]; rfl, HB5.out⟩
        | true =>
        have HX := Lib.hid (HTT.out HHT.out hr0 hr1 hr2)
        clear HTT
        go_wp2
        go_ret
        exact ⟨by rw [HX.out]; rfl, HB5.out⟩
      | true =>
        rw [hed] at g12
        go_wp2_with fail
        refine HRC.out.mono ?_
        rintro e w3 ⟨rfl, hb3⟩
        have hw3 := HWR.out.below hb3 hgl
        have g10 : w3.cell? ⟨w.heap.size, 10, none⟩ = some (.slice A1 p1.length k1) := Whole.cell hw3 10
        have hgl3 : w.heap.size < w3.heap.size := hw3.lt
        have HW3 := Lib.hid hw3
        have HB3 := Lib.hid (HBR.out.trans (hb3.mono HBR.out.size))
        clear hb3 hw3 HRC g0 g2 g7 g9 g12 g13
        cases hr0 : (recs p0).all soundX with
        | false =>
          have HX := Lib.hid (HF0.out hr0)
          clear HTT
          go_wp2
          go_ret
          exact ⟨by rw [HX.out]; rfl, HB3.out⟩
        | true =>
        have HRC := Lib.hid (HR1.out _ HB3.out)
        go_wp2_with fail
        refine HRC.out.mono ?_
        rintro e w4 ⟨rfl, hb4⟩
        have hw4 := HW3.out.below hb4 hgl3
        have g11 : w4.cell? ⟨w.heap.size, 11, none⟩ = some (.slice A2 p2.length k2) := Whole.cell hw4 11
        have HB4 := Lib.hid (HB3.out.trans (hb4.mono HB3.out.size))
        clear hb4 hw4 HRC g10
        cases hr1 : (recs p1).all soundX with
        | false =>
          have HX := Lib.hid (HF1.out hr1)
          clear HTT
          go_wp2
          go_ret
          exact ⟨by rw [HX.out]; rfl, HB4.out⟩
        | true =>
        have HRC := Lib.hid (HR2.out _ HB4.out)
        go_wp2_with fail
        refine HRC.out.mono ?_
        rintro e w5 ⟨rfl, hb5⟩
        have HB5 := Lib.hid (HB4.out.trans (hb5.mono HB4.out.size))
        clear hb5 HRC g11
        cases hr2 : (recs p2).all soundX with
        | false =>
          have HX := Lib.hid (HF2.out hr2)
          clear HTT
          go_wp2
          go_ret
          exact ⟨by rw [HX.out]; rfl, HB5.out⟩
        | true =>
        have HX := Lib.hid (HTT.out HHT.out hr0 hr1 hr2)
        clear HTT
        go_wp2
        go_ret
        exact ⟨by rw [HX.out]; rfl, HB5.out⟩
theorem refmsg_any (w : World) (m : MV) (hm : MAt w w.heap.size m) (hi : MIn m) : Calls Try.prog 16 #[m.val] w (Gave w (.bool (soundM m.msg))) := by
  obtain ⟨h, qA, qc, qp, ⟨A0, k0, p0⟩, ⟨A1, k1, p1⟩, ⟨A2, k2, p2⟩⟩ := m
  exact refmsg_core w _ h qA qc qp A0 A1 A2 k0 k1 k2 p0 p1 p2 rfl hm hi

end Go.Proofs.Ytjkjhpaeckkpjaa

namespace Go.Proofs.Ytjkjhpaeckkpjaa
open Go.RowKit

def RefPutRel (B g m n s : Nat) (w : World) (l : List UInt8) (v1 : Value) (N i : Value) (wr : World) : Prop :=
  ∃ k : Nat, k ≤ s ∧ i = .int .i64 ((s : Int) - 1 - k) ∧ N = .int .i64 ((n : Int) / 2 ^ (8 * k)) ∧ Whole wr g 5 (laid n s k) ∧ wr.ownsRow B 5 1 v1 m (l.map bc) ∧ Below B w wr

set_option maxHeartbeats 400000 in
theorem ref_put_no (A : Option Addr) (k c H : Nat) (l : List UInt8) (n s : Int) (w : World) (hl : l.length = k) (hA : Row w H A (l.map bc)) (hH : H ≤ w.heap.size) (hb : k ≤ 140737488355328) (hn : n ≤ 9223372036854775807) (hf : fitB n s = false) :
    Calls Try.prog 82 #[.slice A k c, .int .i64 n, .int .i64 s] w (Owned w l) := by
  have hf2 := fun W => ref_fits_any n s W hn
  rw [hf] at hf2
  obtain ⟨i0, hi0, hz0, hz1, hz2⟩ := info_parts u8_info
  have HF := Lib.hid hf2
  have HL := Lib.hid hl
  have HA := Lib.hid (hA.alloc hH (.cells #[] 5))
  clear hf hf2 hl hA hH
  go_enter Try.func82, Try.ntmps82
  go_wp2_with (first
    | (go_at_call 39; refine (HF.out _).mono ?_; rintro e w' ⟨rfl, rfl⟩)
    | (at_builtin
       refine wpList_append_row rfl (.tmp 10) (.tmp 11) _ rfl w.heap.size 5 i0 _ 1 1 Try.underlying28 hi0 hz0 hz1 hz2 rfl (by omega) (.slice (some ⟨w.heap.size, 0, none⟩) 0 0) 0 [] rfl
         (own_lit _ _ _) A k c H (l.map bc) rfl (by rw [List.length_map, HL.out]; omega) HA.out (bc_one l) (by unfold maxLen; omega) (by omega) (by simp) ?_
       intro v1 w1 hown1 hg1
       simp only [Nat.zero_add, List.nil_append] at hown1
       obtain ⟨A1, c1, rfl, hc1, hc2⟩ := own_form hown1
       have HO1 := Lib.hid hown1
       have HB1 := Lib.hid (own_below ((Below.refl w.heap.size w).alloc (Nat.le_refl _) _) (Nat.le_refl _) (by simp) (own_lit w 5 1) hg1)
       clear hown1 hg1))
  go_ret
  have hL := HL.out
  have ho := HO1.out
  rw [← hL] at ho
  exact ⟨A1, c1, by rw [hL]; rfl, ho, HB1.out⟩

set_option maxRecDepth 4000 in
set_option maxHeartbeats 400000 in
theorem ref_put_yes (A : Option Addr) (m c H : Nat) (l : List UInt8) (n s : Nat) (w : World) (hl : l.length = m) (hA : Row w H A (l.map bc)) (hH : H ≤ w.heap.size) (hb : m ≤ 140737488355000) (hf : fitB n s = true) :
    Calls Try.prog 82 #[.slice A m c, .int .i64 n, .int .i64 s] w (Owned w (l ++ digs n s)) := by
  obtain ⟨h1, h2, h3, h4⟩ : (1 : Int) ≤ s ∧ (s : Int) ≤ 7 ∧ (0 : Int) ≤ n ∧ (n : Int) < 2 ^ (8 * (s : Int).toNat) := by simpa [fitB] using hf
  have hn : (n : Int) ≤ 9223372036854775807 := by
    have : (2 : Int) ^ (8 * (s : Int).toNat) ≤ 2 ^ 56 := by
      have := Nat.pow_le_pow_right (n := 2) (by omega) (show 8 * (s : Int).toNat ≤ 56 by omega)
      exact_mod_cast this
    omega
  have hf2 := fun W => ref_fits_any n s W hn
  rw [hf] at hf2
  obtain ⟨i0, hi0, hz0, hz1, hz2⟩ := info_parts u8_info
  have HF := Lib.hid hf2
  have HL := Lib.hid hl
  have HA := Lib.hid (hA.alloc hH (.cells #[] 5))
  have H4 := Lib.hid h4
  clear hf hf2 hl hA h4 hH
  go_enter Try.func82, Try.ntmps82
  go_wp2_with (first
    | (go_at_call 39; refine (HF.out _).mono ?_; rintro e w' ⟨rfl, rfl⟩)
    | (at_builtin
       refine wpList_append_row rfl (.tmp 10) (.tmp 11) _ rfl w.heap.size 5 i0 _ 1 1 Try.underlying28 hi0 hz0 hz1 hz2 rfl (by omega) (.slice (some ⟨w.heap.size, 0, none⟩) 0 0) 0 [] rfl
         (own_lit _ _ _) A m c H (l.map bc) rfl (by rw [List.length_map, HL.out]; omega) HA.out (bc_one l) (by unfold maxLen; omega) (by omega) (by simp) ?_
       intro v1 w1 hown1 hg1
       simp only [Nat.zero_add, List.nil_append] at hown1
       obtain ⟨A1, c1, rfl, hc1, hc2⟩ := own_form hown1
       have HO1 := Lib.hid hown1
       have HB1 := Lib.hid (own_below ((Below.refl w.heap.size w).alloc (Nat.le_refl _) _) (Nat.le_refl _) (by simp) (own_lit w 5 1) hg1)
       have hw1 := HB1.out.size
       clear hown1 hg1)
    | (refine wpList_make_zeros rfl (.tmp 18) (.tmp 18) _ rfl 5 i0 _ 1 Try.underlying28 hi0 hz0 hz1 hz2 rfl .i64 .i64 _ _ s s rfl rfl rfl rfl (by omega) (by omega) (by unfold maxLen; omega) ?_))
  have hown2 := HO1.out.alloc (.cells (zerosL (.int .u8 0) s).toArray 5)
  have hwh := Whole.made w1 (zerosL (.int .u8 0) s) 5
  rw [show zerosL (.int .u8 0) s = laid n s 0 from by simp [laid, zerosL, List.drop_of_length_le (Nat.le_of_eq (length_digs n s))]] at hwh hown2 ⊢
  have HO2 := Lib.hid hown2
  have HW := Lib.hid hwh
  have HB2 := Lib.hid (HB1.out.alloc hw1 (.cells (laid n s 0).toArray 5))
  clear hown2 hwh
  go_loopw [1, 9] (RefPutRel w.heap.size w1.heap.size m n s w l (.slice A1 m c1)) (fun _ i _ => (intOf i + 1).toNat)
  case atStart => exact ⟨0, by omega, by simp, by simp, HW.out, HO2.out, HB2.out⟩
  case round =>
    obtain ⟨k, hk, rfl, rfl, hwh, hown, hbw⟩ := hrel
    have hlt9 := hwh.lt
    have HW1 := Lib.hid hwh
    have HO3 := Lib.hid hown
    have HB3 := Lib.hid hbw
    clear hown hbw
    have g1 := div_nonneg' h3 k
    have g2 := div_le' h3 k
    by_cases hlt : k < s
    · have hd : decide ((k : Int) ≤ (s : Int) - 1) = true := by simp; omega
      have hcel : wr.cell? ⟨w1.heap.size, s - 1 - k, none⟩ = some ((laid n s k)[s - 1 - k]'(by rw [length_laid]; omega)) := by
        rw [hwh.cell]; exact List.getElem?_eq_getElem _
      have hfr := hwh.frozen (s - 1 - k)
      clear hwh
      go_wp2
      refine ⟨⟨k + 1, by omega, by go_num, by rw [div_step], ?_, ?_, ?_⟩, by simp [intOf]; omega⟩
      · rw [← laid_set hlt]; exact HW1.out.set_ _ _
      · refine own_set_far HO3.out (fun e => ?_) _
        have := (HO1.out.lt _ e).2
        exact absurd this (Nat.lt_irrefl _)
      · exact HB3.out.setCell hw1 _
    · obtain rfl : k = s := by omega
      have hd : decide ((0 : Int) ≤ (k : Int) - 1 - k) = false := by simp; omega
      have hrow := hwh.row
      rw [laid_all] at hrow
      have HR := Lib.hid hrow
      clear hwh hrow
      go_wp2_with (
        at_builtin
        refine wpList_append_row rfl (.tmp 34) (.tmp 35) _ rfl w.heap.size 5 i0 _ 1 1 Try.underlying28 hi0 hz0 hz1 hz2 rfl (by omega) (.slice A1 m c1) m _ rfl HO3.out
          (some ⟨w1.heap.size, 0, none⟩) k k wr.heap.size ((digs n k).map bc) rfl (by rw [List.length_map, length_digs]; omega) HR.out (bc_one _) (by unfold maxLen; omega) (by omega) (by omega) ?_
        intro v2 w2 hown2 hg2
        obtain ⟨A2, c2, rfl, hc3, hc4⟩ := own_form hown2
        have HO4 := Lib.hid hown2
        have HB4 := Lib.hid (own_below HB3.out (Nat.le_refl _) (by omega) HO3.out hg2)
        clear hown2 hg2)
      go_ret
      have hL : m + k = (l ++ digs n k).length := by simp [length_digs, HL.out]
      have ho := HO4.out
      rw [← List.map_append, hL] at ho
      exact ⟨A2, c2, by rw [← hL]; rfl, ho, HB4.out⟩

theorem ref_put_any (A : Option Addr) (m c H : Nat) (l : List UInt8) (n s : Int) (w : World) (hl : l.length = m) (hA : Row w H A (l.map bc)) (hH : H ≤ w.heap.size) (hb : m ≤ 140737488355000) (hn : n ≤ 9223372036854775807) :
    Calls Try.prog 82 #[.slice A m c, .int .i64 n, .int .i64 s] w (Owned w (putL l n s)) := by
  cases hf : fitB n s with
  | false => rw [putL_no hf]; exact ref_put_no A m c H l n s w hl hA hH (by omega) hn hf
  | true =>
    have h := hf
    simp only [fitB, decide_eq_true_eq] at h
    obtain ⟨n', rfl⟩ : ∃ k : Nat, n = k := ⟨n.toNat, by omega⟩
    obtain ⟨s', rfl⟩ : ∃ k : Nat, s = k := ⟨s.toNat, by omega⟩
    rw [putL_yes hf]
    exact ref_put_yes A m c H l n' s' w hl hA hH hb hf

end Go.Proofs.Ytjkjhpaeckkpjaa

namespace Go.Proofs.Ytjkjhpaeckkpjaa
open Go.RowKit

theorem own_own_apart {w : World} {b1 b2 : Nat} {e1 e2 : TypeId} {s1 s2 n1 n2 : Nat} {v1 v2 : Value} {x1 x2 : List Value} (h1 : w.ownsRow b1 e1 s1 v1 n1 x1) (h2 : w.ownsRow b2 e2 s2 v2 n2 x2) (he : e1 ≠ e2) {j : Nat} (hj : v1.ownBlock = some j) : v2.ownBlock ≠ some j := by
  intro hk
  rcases h1.2 with ⟨rfl, _⟩ | ⟨g1, _, c1, rfl, _, hh1, _⟩
  · cases hj
  · rcases h2.2 with ⟨rfl, _⟩ | ⟨g2, _, c2, rfl, _, hh2, _⟩
    · cases hk
    · simp [Value.ownBlock] at hj hk
      subst hj; subst hk
      rw [hh1] at hh2
      simp at hh2
      exact he hh2.2

/-- Rests as cells: two each. -/
def restL : Rs → List Value → List Value
  | r :: R, v :: vs => iv r.2 :: v :: restL R vs
  | _, _ => []
theorem restL_snoc : ∀ (R : Rs) (vs : List Value) (r : List (List UInt8) × Nat) (v : Value), vs.length = R.length → restL (R ++ [r]) (vs ++ [v]) = restL R vs ++ [iv r.2, v]
  | [], [], _, _, _ => rfl
  | _ :: R, _ :: vs, r, v, h => by simp only [List.cons_append, restL]; rw [restL_snoc R vs r v (by simpa using h)]
theorem length_restL : ∀ (R : Rs) (vs : List Value), vs.length = R.length → (restL R vs).length = R.length * 2
  | [], [], _ => rfl
  | _ :: R, _ :: vs, h => by simp only [restL, List.length_cons]; rw [length_restL R vs (by simpa using h)]; omega
theorem restL_at : ∀ (R : Rs) (vs : List Value) (i : Nat) (h : i < R.length), vs.length = R.length → (restL R vs)[i * 2]? = some (iv R[i].2) ∧ (restL R vs)[i * 2 + 1]? = vs[i]?
  | _ :: _, _ :: _, 0, _, _ => ⟨rfl, rfl⟩
  | _ :: R, _ :: vs, i + 1, h, hl => by
    have := restL_at R vs i (by simpa using h) (by simpa using hl)
    rw [Nat.add_mul, Nat.one_mul]
    simpa [restL] using this

/-- The row vR says the rests R; all its blocks hold Fp. -/
def RestsOf (w : World) (base : Nat) (Fp : Nat → Prop) (vR : Value) (R : Rs) : Prop :=
  ∃ vs : List Value, vs.length = R.length ∧ w.ownsRow base 124 2 vR R.length (restL R vs) ∧ (∀ j, vR.ownBlock = some j → Fp j) ∧
    ∀ i (h : i < R.length), ∃ A c, vs[i]? = some (.slice A (R[i].1).length c) ∧ w.ownsRow base 9 1 (.slice A (R[i].1).length c) (R[i].1).length ((R[i].1).map sv) ∧ ∀ j, (Value.slice A (R[i].1).length c).ownBlock = some j → Fp j

/-- The document's Writer: its block is g; all its blocks hold Fp. -/
structure RWr (w : World) (base : Nat) (Fp : Nat → Prop) (g : Nat) (vB vR : Value) (B : List UInt8) (R : Rs) : Prop where
  blk : Whole w g 94 [vB, vR]
  fg : Fp g
  row : w.ownsRow base 5 1 vB B.length (B.map bc)
  frow : ∀ j, vB.ownBlock = some j → Fp j
  rests : RestsOf w base Fp vR R
  low : ∀ j, Fp j → base ≤ j ∧ j < w.heap.size

section
variable {w w' : World} {base g : Nat} {Fp Gp : Nat → Prop} {vB vR : Value} {B : List UInt8} {R : Rs}
theorem RWr.c0 (h : RWr w base Fp g vB vR B R) : w.cell? ⟨g, 0, none⟩ = some vB := h.blk.cell 0
theorem RWr.c1 (h : RWr w base Fp g vB vR B R) : w.cell? ⟨g, 1, none⟩ = some vR := h.blk.cell 1
theorem RWr.f0 (h : RWr w base Fp g vB vR B R) : w.frozen? ⟨g, 0, none⟩ = false := h.blk.frozen 0
theorem RWr.f1 (h : RWr w base Fp g vB vR B R) : w.frozen? ⟨g, 1, none⟩ = false := h.blk.frozen 1
theorem RWr.size (h : RWr w base Fp g vB vR B R) : base ≤ w.heap.size := by have := h.low g h.fg; omega
theorem RestsOf.keep (h : RestsOf w base Fp vR R) (hk : ∀ j, Fp j → w'.heap[j]? = w.heap[j]?) : RestsOf w' base Fp vR R := by
  obtain ⟨vs, h1, h2, h3, h4⟩ := h
  refine ⟨vs, h1, own_keep h2 fun j hj => hk j (h3 j hj), h3, fun i hi => ?_⟩
  obtain ⟨A, c, h5, h6, h7⟩ := h4 i hi
  exact ⟨A, c, h5, own_keep h6 fun j hj => hk j (h7 j hj), h7⟩
theorem RestsOf.wider (h : RestsOf w base Fp vR R) (hf : ∀ j, Fp j → Gp j) : RestsOf w base Gp vR R := by
  obtain ⟨vs, h1, h2, h3, h4⟩ := h
  refine ⟨vs, h1, h2, fun j hj => hf j (h3 j hj), fun i hi => ?_⟩
  obtain ⟨A, c, h5, h6, h7⟩ := h4 i hi
  exact ⟨A, c, h5, h6, fun j hj => hf j (h7 j hj)⟩
theorem RWr.keep (h : RWr w base Fp g vB vR B R) (hs : w.heap.size ≤ w'.heap.size) (hk : ∀ j, Fp j → w'.heap[j]? = w.heap[j]?) : RWr w' base Fp g vB vR B R :=
  ⟨h.blk.keep (hk g h.fg), h.fg, own_keep h.row fun j hj => hk j (h.frow j hj), h.frow, h.rests.keep hk, fun j hj => ⟨(h.low j hj).1, Nat.lt_of_lt_of_le (h.low j hj).2 hs⟩⟩
theorem RWr.below (h : RWr w base Fp g vB vR B R) (hb : Below w.heap.size w w') : RWr w' base Fp g vB vR B R := h.keep hb.size fun j hj => hb.block j (h.low j hj).2
theorem RWr.grew (h : RWr w base Fp g vB vR B R) {F : Nat → Prop} (hg : Grew F w w') (hf : ∀ j, Fp j → ¬ F j) : RWr w' base Fp g vB vR B R := h.keep hg.size fun j hj => hg.block j (h.low j hj).2 (hf j hj)
end

/-- The document's Writer has B and R now; nothing but its own has turned. -/
def RPenned (base : Nat) (w : World) (Fp : Nat → Prop) (g : Nat) (B : List UInt8) (R : Rs) (w' : World) : Prop :=
  ∃ Gp vB vR, RWr w' base Gp g vB vR B R ∧ Grew Fp w w' ∧ ∀ j, Gp j → Fp j ∨ w.heap.size ≤ j
theorem RPenned.then {base : Nat} {w w1 w2 : World} {Fp Gp : Nat → Prop} {g : Nat} {B : List UInt8} {R : Rs} (hg : Grew Fp w w1) (hf : ∀ j, Gp j → Fp j ∨ w.heap.size ≤ j) (h : RPenned base w1 Gp g B R w2) : RPenned base w Fp g B R w2 := by
  obtain ⟨Gq, vB, vR, h1, h2, h3⟩ := h
  refine ⟨Gq, vB, vR, h1, hg.trans h2 hf, fun j hj => ?_⟩
  rcases h3 j hj with h4 | h4
  · exact hf j h4
  · exact .inr (Nat.le_trans hg.size h4)

/-- A new row of bytes has been put into the first cell. -/
theorem RWr.newB {w w' : World} {base g : Nat} {Fp : Nat → Prop} {vB vR v : Value} {B l : List UInt8} {R : Rs} (h : RWr w base Fp g vB vR B R) (hb : Below w.heap.size w w') (ho : w'.ownsRow w.heap.size 5 1 v l.length (l.map bc)) :
    RPenned base w Fp g l R (w'.setCell ⟨g, 0, none⟩ v) := by
  have hw := h.below hb
  have hne : v.ownBlock ≠ some g := own_not_whole ho hw.blk (by decide)
  have hk : ∀ j, j ≠ g → (w'.setCell ⟨g, 0, none⟩ v).heap[j]? = w'.heap[j]? := fun j hj => Below.heap_setCell w' ⟨g, 0, none⟩ v j hj
  have hgp : ∀ j, Fp j → Fp j ∨ (w.heap.size ≤ j ∧ j < w'.heap.size) := fun j hj => .inl hj
  refine ⟨fun j => Fp j ∨ (w.heap.size ≤ j ∧ j < w'.heap.size), v, vR, ⟨hw.blk.set_ 0 v, .inl h.fg, ?_, fun j hj => .inr (ho.lt j hj), ?_, ?_⟩, ?_, ?_⟩
  · exact own_mono (own_set_far ho hne v) h.size
  · obtain ⟨vs, h1, h2, h3, h4⟩ := hw.rests
    refine RestsOf.wider (Fp := Fp) ⟨vs, h1, own_set_far h2 (own_not_whole h2 hw.blk (by decide)) v, h3, fun i hi => ?_⟩ hgp
    obtain ⟨A, c, h5, h6, h7⟩ := h4 i hi
    exact ⟨A, c, h5, own_set_far h6 (own_not_whole h6 hw.blk (by decide)) v, h7⟩
  · intro j hj
    have hs : (w'.setCell ⟨g, 0, none⟩ v).heap.size = w'.heap.size := by simp
    rw [hs]
    rcases hj with hj | hj
    · have := h.low j hj; have := hb.size; omega
    · have := h.size; omega
  · exact (Grew.all hb).setCell (.inl h.fg) _
  · intro j hj
    rcases hj with hj | hj
    · exact .inl hj
    · exact .inr hj.1

set_option maxHeartbeats 1000000 in
theorem rraw_any (base : Nat) (w : World) (Fp : Nat → Prop) (g : Nat) (vB vR : Value) (B : List UInt8) (R : Rs) (A : Option Addr) (m c : Nat) (l : List UInt8) (h : RWr w base Fp g vB vR B R) (hl : l.length = m) (hr : Row w w.heap.size A (l.map bc)) (hm : B.length + m ≤ 140737488355000) :
    Calls Try.prog 59 #[.pointer (some ⟨g, 0, none⟩), .slice A m c] w (fun e w' => e = .returned (.tuple #[]) ∧ RPenned base w Fp g (B ++ l) R w') := by
  obtain ⟨i0, hi0, hz0, hz1, hz2⟩ := info_parts u8_info
  obtain ⟨A0, c0, rfl, _, _⟩ := own_form h.row
  have h0 := h.c0
  have hgl := h.blk.lt
  have HR := Lib.hid hr
  have HL := Lib.hid hl
  have HW := Lib.hid h
  have HR0 := Lib.hid ((Row.of_own h.row).alloc (Nat.le_refl _) (.cells #[] 5))
  clear h hl hr
  go_enter Try.func59, Try.ntmps59
  go_wp2_with (first
    | (at_builtin
       refine wpList_append_row rfl (.tmp 5) (.tmp 9) _ rfl w.heap.size 5 i0 _ 1 1 Try.underlying28 hi0 hz0 hz1 hz2 rfl (by omega) (.slice (some ⟨w.heap.size, 0, none⟩) 0 0) 0 [] rfl
         (own_lit _ _ _) A0 B.length c0 w.heap.size (B.map bc) rfl (by rw [List.length_map, Nat.mul_one]) HR0.out (bc_one B) (by unfold maxLen; omega) (by omega) (by simp) ?_
       intro v1 w1 hown1 hg1
       simp only [Nat.zero_add, List.nil_append] at hown1
       obtain ⟨A1, c1, rfl, _, _⟩ := own_form hown1
       have HO1 := Lib.hid hown1
       have HB1 := Lib.hid (own_below ((Below.refl w.heap.size w).alloc (Nat.le_refl _) _) (Nat.le_refl _) (by simp) (own_lit w 5 1) hg1)
       have hz1' : w.heap.size ≤ w1.heap.size := HB1.out.size
       clear hown1 hg1)
    | (at_builtin
       refine wpList_append_row rfl (.tmp 10) (.tmp 11) _ rfl w.heap.size 5 i0 _ 1 1 Try.underlying28 hi0 hz0 hz1 hz2 rfl (by omega) (.slice A1 B.length c1) B.length _ rfl HO1.out
         A m c w.heap.size (l.map bc) rfl (by rw [List.length_map, HL.out, Nat.mul_one]) (HR.out.below HB1.out) (bc_one l) (by unfold maxLen; omega) (by omega) hz1' ?_
       intro v2 w2 hown2 hg2
       obtain ⟨A2, c2, rfl, _, _⟩ := own_form hown2
       have HO2 := Lib.hid hown2
       have hb2 := own_below HB1.out (Nat.le_refl _) hz1' HO1.out hg2
       have hk2 := (HW.out.below hb2)
       have c0' := hk2.c0
       have f0' := hk2.f0
       have HB2 := Lib.hid hb2
       clear hown2 hg2 hb2 hk2))
  go_end0
  have ho := HO2.out
  have hl2 : B.length + m = (B ++ l).length := by rw [List.length_append, HL.out]
  rw [← List.map_append] at ho
  rw [hl2] at ho ⊢
  exact ⟨rfl, HW.out.newB HB2.out ho⟩

set_option maxHeartbeats 1000000 in
theorem rnum_any (base : Nat) (w : World) (Fp : Nat → Prop) (g : Nat) (vB vR : Value) (B : List UInt8) (R : Rs) (n s : Int) (h : RWr w base Fp g vB vR B R) (hm : B.length ≤ 140737488354000) (hn : n ≤ 9223372036854775807) :
    Calls Try.prog 55 #[.pointer (some ⟨g, 0, none⟩), .int .i64 n, .int .i64 s] w (fun e w' => e = .returned (.tuple #[]) ∧ RPenned base w Fp g (putL B n s) R w') := by
  obtain ⟨A0, c0, rfl, _, _⟩ := own_form h.row
  have HP := Lib.hid (ref_put_any A0 B.length c0 w.heap.size B n s w rfl (Row.of_own h.row) (Nat.le_refl _) (by omega) hn)
  have h0 := h.c0
  have HW := Lib.hid h
  clear h
  generalize putL B n s = l at *
  go_enter Try.func55, Try.ntmps55
  go_wp2_with fail
  refine HP.out.mono ?_
  rintro e w1 ⟨A1, c1, rfl, ho, hb⟩
  have hk1 := HW.out.below hb
  have c0' := hk1.c0
  have f0' := hk1.f0
  have HO := Lib.hid ho
  have HB := Lib.hid hb
  clear ho hb hk1
  go_wp2
  go_end0
  exact ⟨rfl, HW.out.newB HB.out HO.out⟩

end Go.Proofs.Ytjkjhpaeckkpjaa

namespace Go.Proofs.Ytjkjhpaeckkpjaa
open Go.RowKit

theorem nameW_prefix (short : Bool) : ∀ (n : List (List UInt8)) (B : List UInt8) (R : Rs), ∃ T, (nameW short n B R).2 = R ++ T
  | [], B, R => ⟨[], by simp [nameW_nil]⟩
  | l :: n, B, R => by
    have step : ∃ T, (nameW short n (B ++ UInt8.ofNat l.length :: l) (if B.length < 16384 then R ++ [(l :: n, B.length)] else R)).2 = R ++ T := by
      obtain ⟨T, hT⟩ := nameW_prefix short n (B ++ UInt8.ofNat l.length :: l) (if B.length < 16384 then R ++ [(l :: n, B.length)] else R)
      rw [hT]
      split
      · exact ⟨(l :: n, B.length) :: T, by simp⟩
      · exact ⟨T, rfl⟩
    cases hfi : findR R (l :: n) with
    | none => rw [nameW_miss hfi]; exact step
    | some k =>
      cases short with
      | false => rw [nameW_long]; exact step
      | true => rw [nameW_hit hfi]; exact ⟨[], by simp⟩
theorem findR_append {R : Rs} {n : List (List UInt8)} {k : Nat} (T : Rs) (h : findR R n = some k) : findR (R ++ T) n = some k := by
  unfold findR at h ⊢
  rw [List.find?_append]
  cases hf : R.find? fun r => decide (r.1 = n) with
  | none => rw [hf] at h; cases h
  | some r => rw [hf] at h; exact h
theorem findR_other {R : Rs} {n : List (List UInt8)} (h : ∀ r ∈ R, n.length < r.1.length) : findR R n = none := by
  unfold findR
  rw [Option.map_eq_none_iff, List.find?_eq_none]
  intro r hr
  have := h r hr
  simp
  intro e
  rw [e] at this
  omega
/-- A name of which no rest was written is written whole. -/
theorem nameW_fresh (short : Bool) : ∀ (n : List (List UInt8)) (B : List UInt8) (R : Rs), (∀ r ∈ R, n.length < r.1.length) → (nameW short n B R).1.length = B.length + szN n ∧ (16384 ≤ B.length → (nameW short n B R).2 = R) ∧ (B.length < 16384 → n ≠ [] → findR (nameW short n B R).2 n = some B.length)
  | [], B, R, _ => by simp [nameW_nil, szN]
  | l :: n, B, R, h => by
    have hfi := findR_other h
    rw [nameW_miss hfi]
    obtain ⟨h1, h2, _⟩ := nameW_fresh short n (B ++ UInt8.ofNat l.length :: l) (if B.length < 16384 then R ++ [(l :: n, B.length)] else R) (fun r hr => by
      split at hr
      · rcases List.mem_append.1 hr with hr | hr
        · have := h r hr; simp at this; omega
        · rw [List.mem_singleton.1 hr]; simp
      · have := h r hr; simp at this; omega)
    refine ⟨?_, fun hb => ?_, fun hb _ => ?_⟩
    · rw [h1]; simp [szN]; omega
    · rw [h2 (by simp; omega), if_neg (by omega)]
    · rw [if_pos hb]
      obtain ⟨T, hT⟩ := nameW_prefix short n (B ++ UInt8.ofNat l.length :: l) (R ++ [(l :: n, B.length)])
      rw [hT]
      refine findR_append T ?_
      rw [findR_snoc, hfi, if_pos rfl]
      rfl
theorem length_nameW_hit {n : List (List UInt8)} {B : List UInt8} {R : Rs} {k : Nat} (hn : n ≠ []) (h : findR R n = some k) : (nameW true n B R).1.length = B.length + 2 := by
  cases n with
  | nil => exact absurd rfl hn
  | cons l n => rw [nameW_hit h]; simp [length_digs]

end Go.Proofs.Ytjkjhpaeckkpjaa
