/-
  What is read of bytes is sound.
-/
import Derived.Test.YthppgofpbpjglaaFbP7
import Derived.Test.YthppgofpbpjglaaFbP4
import Derived.BigRegion
import Derived.Laws.BitsLemmas
import Derived.Deep.CutRange
import Derived.Deep.RegionLaw
import Derived.Deep.RegionLawGrows
import Derived.StillTailTactics
import Derived.BigQuiet
import Derived.Test.YthppgofpbpjglaaFbP1
import Derived.Test.YthppgofpbpjglaaFbP3
import Derived.Deep.MidRow
namespace Go.Proofs.Ythppgofpbpjglaa
open Go.RowKit

theorem getR_sound (b : List UInt8) (p q x : Nat) (n : List (List UInt8)) : ∀ {m : List (List UInt8)} {e : Nat}, getR b p q x n = (m, e, 0) → n.all fitL = true → szN n ≤ 255 → soundN m = true := by
  induction p, q, x, n using getR.induct (b := b) with
  | case1 p q x n h0 h1 =>
    intro m e h ha hz
    rw [getR, dif_pos h0, if_pos h1] at h
    injection h with h2 _
    subst h2
    simp [soundN, ha, hz]
  | case2 p q x n h0 h1 h2 h3 h4 ih =>
    intro m e h ha hz
    rw [getR, dif_pos h0, if_neg h1, if_pos h2, dif_pos h3, if_pos h4] at h
    exact ih h ha hz
  | case3 p q x n h0 h1 h2 h3 h4 =>
    intro m e h ha hz
    rw [getR, dif_pos h0, if_neg h1, if_pos h2, dif_pos h3, if_neg h4] at h
    simp at h
  | case4 p q x n h0 h1 h2 h3 =>
    intro m e h ha hz
    rw [getR, dif_pos h0, if_neg h1, if_pos h2, dif_neg h3] at h
    simp at h
  | case5 p q x n h0 h1 h2 h3 =>
    intro m e h ha hz
    rw [getR, dif_pos h0, if_neg h1, if_neg h2, if_pos h3] at h
    simp at h
  | case6 p q x n h0 h1 h2 h3 h4 h5 ih =>
    intro m e h ha hz
    rw [getR, dif_pos h0, if_neg h1, if_neg h2, if_neg h3, if_pos h4, if_pos h5] at h
    refine ih h ?_ h5
    rw [List.all_append, ha]
    have h6 := length_cutL h4
    simp [fitL, h6]
    omega
  | case7 p q x n h0 h1 h2 h3 h4 h5 =>
    intro m e h ha hz
    rw [getR, dif_pos h0, if_neg h1, if_neg h2, if_neg h3, if_pos h4, if_neg h5] at h
    simp at h
  | case8 p q x n h0 h1 h2 h3 h4 =>
    intro m e h ha hz
    rw [getR, dif_pos h0, if_neg h1, if_neg h2, if_neg h3, if_neg h4] at h
    simp at h
  | case9 p q x n h0 =>
    intro m e h ha hz
    rw [getR, dif_neg h0] at h
    simp at h
theorem getW_sound {b : List UInt8} {a : Int} (h : (getW b a).2.2 = 0) : soundN (getW b a).1 = true := by
  unfold getW at h ⊢
  split at h
  · simp at h
  · rename_i h0
    rw [if_neg h0]
    rcases hr : getR b a.toNat a.toNat 0 [] with ⟨m, e, k⟩
    rw [hr] at h
    dsimp only at h
    subst h
    exact getR_sound b _ _ _ _ hr rfl (by decide)
theorem nameR_sound {b : List UInt8} {p en : Nat} {r : List (List UInt8) × Nat} (h : nameR b p en = .ok r) : soundN r.1 = true := by
  unfold nameR at h
  rcases hr : getR b p p 0 [] with ⟨n, e, k⟩
  rw [hr] at h
  unfold nameF at h
  dsimp only at h
  split at h
  · cases h
  · rename_i hk
    have hk0 : k = 0 := by omega
    subst hk0
    split at h
    · cases h
    · injection h with h
      subst h
      exact getR_sound b _ _ _ _ hr rfl (by decide)
theorem num_fit {b : List UInt8} {p s : Nat} (h1 : 1 ≤ s) (h2 : s ≤ 7) : fitB ((numN (cutL b p s) : Nat) : Int) (s : Int) = true := by
  have h := numAt_lt b p s
  unfold numAt at h
  refine fitB_true (by omega) (by omega) (by omega) ?_
  have e : (2 : Int) ^ (8 * (s : Int).toNat) = ((2 ^ (8 * s) : Nat) : Int) := by
    rw [Int.toNat_natCast]
    push_cast
    rfl
  rw [e]
  exact Int.ofNat_lt.2 h
theorem numsL_sound {b : List UInt8} {p s : Nat} (h1 : 1 ≤ s) (h2 : s ≤ 7) : ∀ k, ∀ n ∈ numsL b p s k, fitB n (s : Int) = true
  | 0, n, h => absurd h (List.not_mem_nil)
  | k + 1, n, h => by
    unfold numsL at h
    rcases List.mem_append.1 h with h | h
    · exact numsL_sound h1 h2 k n h
    · rw [List.mem_singleton.1 h]
      exact num_fit h1 h2
theorem numsR_sound {b : List UInt8} {p en s k : Nat} {r : List Int × Nat} (h1 : 1 ≤ s) (h2 : s ≤ 7) (h : numsR b p en s k = .ok r) : r.1.length = k ∧ (∀ n ∈ r.1, fitB n (s : Int) = true) ∧ r.2 ≤ en := by
  unfold numsR at h
  split at h
  · injection h with h
    subst h
    exact ⟨length_numsL _ _ _ _, numsL_sound h1 h2 k, by assumption⟩
  · cases h
theorem textsR_sound {b : List UInt8} {en : Nat} : ∀ (d p : Nat) (acc : List (List UInt8)) {r : List (List UInt8) × Nat}, en - p ≤ d → textsR b p en acc = .ok r → acc.length ≤ 64 → (∀ t ∈ acc, t.length ≤ 255) → 1 ≤ r.1.length ∧ r.1.length ≤ 64 ∧ ∀ t ∈ r.1, t.length ≤ 255
  | d, p, acc, r, hd, h, hl, ht => by
    by_cases hp : p < en
    · by_cases ha : acc.length = 64
      · rw [textsR_large hp ha] at h
        cases h
      · by_cases hs : en < p + 1 + numN (cutL b p 1)
        · rw [textsR_short hp ha hs] at h
          cases h
        · rw [textsR_next hp ha (by omega)] at h
          match d, hd with
          | 0, hd => omega
          | d + 1, hd =>
            refine textsR_sound d _ _ (by omega) h (by simp; omega) fun t htt => ?_
            rcases List.mem_append.1 htt with h1 | h1
            · exact ht t h1
            · rw [List.mem_singleton.1 h1]
              have h2 := numN_one_lt b p
              have h3 : (cutL b (p + 1) (numN (cutL b p 1))).length ≤ numN (cutL b p 1) := by unfold cutL; simp; omega
              omega
    · rw [textsR, dif_neg hp] at h
      split at h
      · cases h
      · rename_i hne
        injection h with h
        subst h
        exact ⟨List.length_pos_iff.2 hne, hl, ht⟩
theorem bytesR_sound {b : List UInt8} {p en l m : Nat} {r : List UInt8 × Nat} (hlm : l ≤ m) (hen : en ≤ b.length) (h : bytesR b p en l m = .ok r) : l ≤ r.1.length ∧ r.1.length ≤ m := by
  unfold bytesR at h
  split at h
  · cases h
  · injection h with h
    subst h
    dsimp only
    rw [length_cutL (by omega)]
    omega
theorem shN_room (k : Int) : (shN k).least ≤ (shN k).most := by
  unfold shN
  repeat' split
  all_goals decide
theorem numsOk_of {ah : Nat} {l m : List Int} (hl : l.length = ah) (h1 : ∀ n ∈ l, fitB n 2 = true) (h2 : ∀ n ∈ m, fitB n 4 = true) : numsOk ah (l ++ m) = true := by
  unfold numsOk
  rw [List.all_eq_true]
  intro j hj
  have hj := List.mem_range.1 hj
  rw [List.length_append] at hj
  unfold sizeAt
  by_cases hja : j < ah
  · rw [if_pos hja, List.getD_eq_getElem?_getD, List.getElem?_append_left (by omega), List.getElem?_eq_getElem (by omega)]
    exact h1 _ (List.getElem_mem _)
  · rw [if_neg hja, List.getD_eq_getElem?_getD, List.getElem?_append_right (by omega), List.getElem?_eq_getElem (by omega)]
    exact h2 _ (List.getElem_mem _)
theorem readD_sound {b : List UInt8} {p en : Nat} {k : Int} {d : Dt} (hk : kindB k = true) (hen : en ≤ b.length) (h : readD b p en (shN k) = .ok d) : soundD k d = true := by
  unfold readD at h
  obtain ⟨n1, e1, h⟩ := bind_ok h
  obtain ⟨h1, e2, h⟩ := bind_ok h
  obtain ⟨m1, e3, h⟩ := bind_ok h
  obtain ⟨n2, e4, h⟩ := bind_ok h
  obtain ⟨t1, e5, h⟩ := bind_ok h
  obtain ⟨y1, e6, h⟩ := bind_ok h
  split at h
  · cases h
  injection h with h
  subst h
  obtain ⟨a1, a2, _⟩ := numsR_sound (by omega) (by omega) e1
  obtain ⟨b1, b2, _⟩ := numsR_sound (by omega) (by omega) e4
  obtain ⟨c1, c2⟩ := bytesR_sound (shN_room k) hen e6
  have g2 : soundNm h1.1 (shN k).host = true := by
    unfold soundNm
    split at e2
    · rename_i hh
      rw [hh, nameR_sound e2]
      simp
    · injection e2 with e2
      subst e2
      rfl
  have g3 : soundNm m1.1 (shN k).mail = true := by
    unfold soundNm
    split at e3
    · rename_i hh
      rw [hh, nameR_sound e3]
      simp
    · injection e3 with e3
      subst e3
      rfl
  have g5 : soundTs (shN k) t1.1 = true := by
    unfold soundTs
    split at e5
    · rename_i hh
      obtain ⟨d1, d2, d3⟩ := textsR_sound _ _ _ (Nat.le_refl _) e5 (by simp) (fun t ht => absurd ht (List.not_mem_nil))
      rw [if_pos hh]
      simp only [Bool.and_eq_true, List.all_eq_true, decide_eq_true_eq]
      exact ⟨d3, d1, d2⟩
    · rename_i hh
      injection e5 with e5
      subst e5
      rw [if_neg hh]
      rfl
  unfold soundD soundBs soundNs
  simp only [Bool.and_eq_true, decide_eq_true_eq]
  exact ⟨hk, ⟨c1, c2⟩, g2, g3, ⟨by rw [List.length_append]; omega, numsOk_of a1 a2 b2⟩, g5⟩
theorem kindB_num {b : List UInt8} {p : Nat} (h : numAt b p 2 ≠ 0) : kindB ((numAt b p 2 : Nat) : Int) = true := by
  have h1 := numAt_lt b p 2
  unfold kindB
  simp only [decide_eq_true_eq]
  have e : (2 : Nat) ^ (8 * 2) = 65536 := by decide
  omega
theorem ttlAt_le (b : List UInt8) (p : Nat) : ttlAt b p ≤ 2147483647 := by
  unfold ttlAt
  split <;> omega
theorem getRR_sound {b : List UInt8} {p : Int} (h : (getRR b p).2.2 = 0) : SoundR (getRR b p).1 := by
  unfold getRR at h ⊢
  split at h
  · rename_i h0
    exact absurd h h0
  rename_i h0
  rw [if_neg h0]
  split at h
  · simp at h
  rename_i h1
  rw [if_neg h1]
  split at h
  · simp at h
  rename_i h2
  rw [if_neg h2]
  split at h
  · rename_i h3
    exact absurd h h3
  rename_i h3
  rw [if_neg h3]
  have hk := kindB_num h2
  refine ⟨getW_sound (by omega), ?_, num_fit (by omega) (by omega), by dsimp only; omega, by have := ttlAt_le b ((getW b p).2.1 + 4); dsimp only; omega⟩
  dsimp only
  have h4 : (getD b (((getW b p).2.1 : Int) + 10) (numAt b ((getW b p).2.1 + 8) 2) (numAt b (getW b p).2.1 2)).2 = 0 := by omega
  generalize ((getW b p).2.1 : Int) + 10 = a at *
  generalize ((numAt b ((getW b p).2.1 + 8) 2 : Nat) : Int) = z at *
  unfold getD at h4 ⊢
  split at h4
  · simp at h4
  rename_i h5
  rw [if_neg h5]
  split at h4
  · simp at h4
  rename_i h6
  rw [if_neg h6]
  cases hr : readD b a.toNat (a + z).toNat (shN (numAt b (getW b p).2.1 2)) with
  | ok d => exact readD_sound hk (by omega) hr
  | error j =>
    rw [hr] at h4
    dsimp only at h4
    subst h4
    exact absurd hr (readD_err _ _ _ _)
theorem getQ_sound {b : List UInt8} {p : Nat} (h : (getQ b p).2.2 = 0) : soundQ (getQ b p).1 = true := by
  unfold getQ at h ⊢
  split at h
  · rename_i h0
    exact absurd h h0
  rename_i h0
  rw [if_neg h0]
  split at h
  · simp at h
  rename_i h1
  rw [if_neg h1]
  split at h
  · simp at h
  rename_i h2
  rw [if_neg h2]
  unfold soundQ
  simp only [Bool.and_eq_true, decide_eq_true_eq]
  exact ⟨getW_sound (by omega), by omega, num_fit (by omega) (by omega), num_fit (by omega) (by omega)⟩
theorem getQs_sound {b : List UInt8} : ∀ (k p : Nat) (l : List Qt) {r : List Qt × Nat}, getQs b k p l = .ok r → (∀ q ∈ l, soundQ q = true) → (∀ q ∈ r.1, soundQ q = true) ∧ r.1.length = l.length + k
  | 0, p, l, r, h, hl => by
    unfold getQs at h
    injection h with h
    subst h
    exact ⟨hl, rfl⟩
  | k + 1, p, l, r, h, hl => by
    unfold getQs at h
    split at h
    · cases h
    · rename_i h0
      obtain ⟨h1, h2⟩ := getQs_sound k _ _ h (fun q hq => by
        rcases List.mem_append.1 hq with h3 | h3
        · exact hl q h3
        · rw [List.mem_singleton.1 h3]
          exact getQ_sound (by omega))
      refine ⟨h1, ?_⟩
      rw [h2]
      simp
      omega
/-- What is known behind some records is sound. -/
structure RdOk (x : Rd) : Prop where
  r : ∀ r ∈ x.rs, soundX r = true
  s : fitB x.s 2 = true
  e : x.e = true ∨ x.s = 0
theorem stepR_sound {b : List UInt8} {last : Bool} {s t : Rd} (h : stepR b last s = .ok t) (hs : RdOk s) : RdOk t ∧ t.rs.length ≤ s.rs.length + 1 := by
  unfold stepR at h
  split at h
  · cases h
  · rename_i h0
    have h1 := getRR_sound (b := b) (p := (s.p : Int)) (by omega)
    unfold addR at h
    split at h
    · split at h
      · cases h
      · injection h with h
        subst h
        exact ⟨⟨hs.r, h1.c, .inl rfl⟩, by dsimp only; omega⟩
    · rename_i h2
      injection h with h
      subst h
      refine ⟨⟨fun r hr => ?_, hs.s, hs.e⟩, by simp⟩
      rcases List.mem_append.1 hr with h3 | h3
      · exact hs.r r h3
      · rw [List.mem_singleton.1 h3]
        exact soundX_iff.2 ⟨h2, h1⟩
theorem getRs_sound {b : List UInt8} {last : Bool} : ∀ (k : Nat) (s : Rd) {r : Rd}, getRs b last k s = .ok r → RdOk s → RdOk r ∧ r.rs.length ≤ s.rs.length + k
  | 0, s, r, h, hs => by
    unfold getRs at h
    injection h with h
    subst h
    exact ⟨hs, Nat.le_refl _⟩
  | k + 1, s, r, h, hs => by
    unfold getRs at h
    obtain ⟨t, ht, h⟩ := bind_ok h
    obtain ⟨h1, h2⟩ := stepR_sound ht hs
    obtain ⟨h3, h4⟩ := getRs_sound k t h h1
    exact ⟨h3, by omega⟩
theorem RdOk.next {s : Rd} (h : RdOk s) : RdOk ⟨[], s.p, s.e, s.s⟩ := ⟨fun _ h => absurd h (List.not_mem_nil), h.s, h.e⟩
/-- What bytes are is sound, but for how many there are. -/
structure DecOk (m : Mt) : Prop where
  h : soundH m.h = true
  q : ∀ q ∈ m.qs, soundQ q = true
  r : ∀ r ∈ m.all, soundX r = true
  n : m.qs.length + m.an.length + m.au.length + m.ex.length ≤ 513
theorem decM_sound {b : List UInt8} {m : Mt} (h : decM b = .ok m) : DecOk m := by
  unfold decM at h
  split at h
  · cases h
  split at h
  · cases h
  split at h
  · cases h
  rename_i h1 h2 h3
  obtain ⟨q, e1, h⟩ := bind_ok h
  obtain ⟨x, e2, h⟩ := bind_ok h
  obtain ⟨y, e3, h⟩ := bind_ok h
  obtain ⟨z, e4, h⟩ := bind_ok h
  split at h
  · cases h
  injection h with h
  subst h
  obtain ⟨q1, q2⟩ := getQs_sound _ _ _ e1 (fun q hq => absurd hq (List.not_mem_nil))
  obtain ⟨x1, x2⟩ := getRs_sound _ ⟨[], q.2, false, 0⟩ e2 ⟨fun _ h => absurd h (List.not_mem_nil), show fitB 0 2 = true by decide, .inr rfl⟩
  obtain ⟨y1, y2⟩ := getRs_sound _ ⟨[], x.p, x.e, x.s⟩ e3 x1.next
  obtain ⟨z1, z2⟩ := getRs_sound _ ⟨[], y.p, y.e, y.s⟩ e4 y1.next
  simp only [List.length_nil, Nat.zero_add] at q2 x2 y2 z2
  refine ⟨?_, q1, fun r hr => ?_, by dsimp only; omega⟩
  · unfold soundH hdOf codeB
    simp only [Bool.and_eq_true, decide_eq_true_eq, Bool.or_eq_true]
    refine ⟨num_fit (by omega) (by omega), ⟨by omega, by omega⟩, ⟨by omega, by omega⟩, z1.s, z1.e⟩
  · unfold Mt.all at hr
    rcases List.mem_append.1 hr with h4 | h4
    · exact x1.r r h4
    · rcases List.mem_append.1 h4 with h4 | h4
      · exact y1.r r h4
      · exact z1.r r h4
theorem DecOk.sound {m : Mt} (h : DecOk m) (hn : m.qs.length + m.an.length + m.au.length + m.ex.length ≤ 512) : SoundM m := ⟨h.h, hn, h.q, h.r⟩

end Go.Proofs.Ythppgofpbpjglaa

namespace Go.Proofs.Ythppgofpbpjglaa
open Go.RowKit

theorem i64_top {n : Int} (h : (Lit.int .i64 n).wf = true) : n ≤ 9223372036854775807 := by
  have h1 : IntKind.i64.min = -9223372036854775808 := rfl
  have h2 : IntKind.i64.max = 9223372036854775807 := rfl
  simp only [Lit.wf, Bool.and_eq_true, decide_eq_true_eq] at h
  omega

set_option maxRecDepth 20000 in
set_option maxHeartbeats 4000000 in
theorem rsound_any (x : RV) (r : Rt) (w : World) (hx : RAt w w.heap.size x r) (hi : RIn r) (hl : LightR r) :
    Calls Try.prog 102 #[x.val r] w (Gave w (.bool (soundR r))) := by
  obtain ⟨W, hW⟩ : ∃ W, W = w.alloc (.cells #[.slice x.A r.name.length x.c, .int .i64 r.kind, .int .i64 r.cls, .int .i64 r.ttl, .slice x.d.Ab r.data.bytes.length x.d.cb, .slice x.d.Ah r.data.host.length x.d.ch, .slice x.d.Am r.data.mail.length x.d.cm, .slice x.d.An r.data.nums.length x.d.cn, .slice x.d.At r.data.texts.length x.d.ct] 54) := ⟨_, rfl⟩
  have hB : Below w.heap.size w W := by rw [hW]; exact (Below.refl _ _).alloc (Nat.le_refl _) _
  have hwh : Whole W w.heap.size 54 [.slice x.A r.name.length x.c, .int .i64 r.kind, .int .i64 r.cls, .int .i64 r.ttl, .slice x.d.Ab r.data.bytes.length x.d.cb, .slice x.d.Ah r.data.host.length x.d.ch, .slice x.d.Am r.data.mail.length x.d.cm, .slice x.d.An r.data.nums.length x.d.cn, .slice x.d.At r.data.texts.length x.d.ct] := by rw [hW]; exact Whole.made w _ _
  have HX := Lib.hid (fun W' (h : Below w.heap.size w W') => (hx.below h).mono h.size)
  have HB0 := Lib.hid hB
  have HW0 := Lib.hid hwh
  have h200 := hl.l0
  have h201 := hl.l1
  have h202 := hl.l2
  have HI := Lib.hid hi
  have HS := Lib.hid (show soundR r = (soundN r.name && (soundD r.kind r.data && (fitB r.cls 2 && (decide (0 ≤ r.ttl) && decide (r.ttl ≤ 2147483647))))) from rfl)
  have HN := Lib.hid (fun W' (h : Below w.heap.size w W') => sound_wide x.A r.name.length x.c w.heap.size r.name W' rfl ((hx.below h).n) (by omega) hi.n.2)
  have HD := Lib.hid (fun W' (h : Below w.heap.size w W') => dsound_wide r.kind x.d r.data W' ((hx.below h).mono h.size).d (by omega) hi.d.h.2 (by omega) hi.d.m.2 hi.d.t hi.lt)
  have HF := Lib.hid (fun W' => fits_any r.cls 2 W')
  clear hB hwh hx hi hl
  subst hW
  go_enter Try.func102, Try.ntmps102
  go_wp2_with fail
  refine (HN.out _ HB0.out).mono ?_
  rintro e w1 ⟨rfl, rfl⟩
  cases h1 : soundN r.name with
  | false =>
    rw [h1] at HS
    go_wp2
    go_ret
    exact ⟨by rw [HS.out]; rfl, HB0.out⟩
  | true =>
  rw [h1] at HS
  go_wp2_with fail
  refine (HD.out _ HB0.out).mono ?_
  rintro e w2 ⟨rfl, hb2⟩
  have HW2 := Lib.hid (HW0.out.below hb2 (by simp))
  have HB2 := Lib.hid (HB0.out.trans (hb2.mono HB0.out.size))
  clear hb2 HW0 HB0
  cases h2 : soundD r.kind r.data with
  | false =>
    rw [h2] at HS
    go_wp2
    go_ret
    exact ⟨by rw [HS.out]; rfl, HB2.out⟩
  | true =>
  rw [h2] at HS
  have p2 : w2.cell? ⟨w.heap.size, 2, none⟩ = some (.int .i64 r.cls) := Whole.cell (L := [.slice x.A r.name.length x.c, .int .i64 r.kind, .int .i64 r.cls, .int .i64 r.ttl, .slice x.d.Ab r.data.bytes.length x.d.cb, .slice x.d.Ah r.data.host.length x.d.ch, .slice x.d.Am r.data.mail.length x.d.cm, .slice x.d.An r.data.nums.length x.d.cn, .slice x.d.At r.data.texts.length x.d.ct]) HW2.out 2
  have p3 : w2.cell? ⟨w.heap.size, 3, none⟩ = some (.int .i64 r.ttl) := Whole.cell (L := [.slice x.A r.name.length x.c, .int .i64 r.kind, .int .i64 r.cls, .int .i64 r.ttl, .slice x.d.Ab r.data.bytes.length x.d.cb, .slice x.d.Ah r.data.host.length x.d.ch, .slice x.d.Am r.data.mail.length x.d.cm, .slice x.d.An r.data.nums.length x.d.cn, .slice x.d.At r.data.texts.length x.d.ct]) HW2.out 3
  go_wp2_with fail
  refine (HF.out _).mono ?_
  rintro e w3 ⟨rfl, rfl⟩
  cases h3 : fitB r.cls 2 with
  | false =>
    rw [h3] at HS
    go_wp2
    go_ret
    exact ⟨by rw [HS.out]; rfl, HB2.out⟩
  | true =>
  rw [h3] at HS
  cases h4 : decide (0 ≤ r.ttl) with
  | false =>
    rw [h4] at HS
    go_wp2
    go_ret
    exact ⟨by rw [HS.out]; rfl, HB2.out⟩
  | true =>
  rw [h4] at HS
  skip
  go_wp2
  go_ret
  exact ⟨by rw [HS.out]; simp, HB2.out⟩









































































end Go.Proofs.Ythppgofpbpjglaa

namespace Go.Proofs.Ythppgofpbpjglaa
open Go.RowKit

/-- Where records of one section lie. -/
structure Sec where
  A : Option Addr
  c : Nat
  ps : List (RV × Rt)
abbrev Sec.v (s : Sec) : Value := .slice s.A s.ps.length s.c
/-- A message in memory. -/
structure MV where
  h : Hd
  qA : Option Addr
  qc : Nat
  qp : List (QV × Qt)
  s0 : Sec
  s1 : Sec
  s2 : Sec
abbrev MV.vq (m : MV) : Value := .slice m.qA m.qp.length m.qc
def MV.sec (m : MV) (i : Nat) : Sec := if i = 0 then m.s0 else if i = 1 then m.s1 else m.s2
def cellsM (h : Hd) (vq va vu vx : Value) : List Value := [.int .i64 h.id, .bool h.resp, .int .i64 h.op, .bool h.aa, .bool h.tc, .bool h.rd, .bool h.ra, .int .i64 h.rc, vq, va, vu, vx, .bool h.edns, .int .i64 h.size]
abbrev valM (h : Hd) (vq va vu vx : Value) : Value := .agg #[.int .i64 h.id, .bool h.resp, .int .i64 h.op, .bool h.aa, .bool h.tc, .bool h.rd, .bool h.ra, .int .i64 h.rc, vq, va, vu, vx, .bool h.edns, .int .i64 h.size]
def MV.cells (m : MV) : List Value := cellsM m.h m.vq m.s0.v m.s1.v m.s2.v
abbrev MV.val (m : MV) : Value := valM m.h m.vq m.s0.v m.s1.v m.s2.v
def MV.msg (m : MV) : Mt := ⟨m.h, qsts m.qp, recs m.s0.ps, recs m.s1.ps, recs m.s2.ps⟩
theorem msg_cells : Try.prog.cellsOf 43 = 14 := by kernel_rfl

/-- In the world w the message's lists read, below H. -/
structure MAt (w : World) (H : Nat) (m : MV) : Prop where
  q : QsAt w H m.qA m.qp
  s0 : RsAt w H m.s0.A m.s0.ps
  s1 : RsAt w H m.s1.A m.s1.ps
  s2 : RsAt w H m.s2.A m.s2.ps
section
variable {w w' : World} {H H' : Nat} {m : MV}
theorem MAt.below (h : MAt w H m) (hb : Below H w w') : MAt w' H m := ⟨h.q.below hb, h.s0.below hb, h.s1.below hb, h.s2.below hb⟩
theorem MAt.mono (h : MAt w H m) (hb : H ≤ H') : MAt w H' m := ⟨h.q.mono hb, h.s0.mono hb, h.s1.mono hb, h.s2.mono hb⟩
theorem MAt.sec (h : MAt w H m) (i : Nat) : RsAt w H (m.sec i).A (m.sec i).ps := by
  unfold MV.sec
  split
  · exact h.s0
  · split
    · exact h.s1
    · exact h.s2
end
/-- Numbers that a variable holds, lengths that memory holds; few parts. -/
structure QIn (q : Qt) : Prop where
  n : WideN q.name
  k : (Lit.int .i64 q.kind).wf = true
  c : (Lit.int .i64 q.cls).wf = true
  l : q.name.length ≤ 1048576
structure HIn (h : Hd) : Prop where
  i : (Lit.int .i64 h.id).wf = true
  o : (Lit.int .i64 h.op).wf = true
  r : (Lit.int .i64 h.rc).wf = true
  s : (Lit.int .i64 h.size).wf = true
structure MIn (m : MV) : Prop where
  h : HIn m.h
  q : ∀ p ∈ m.qp, QIn p.2
  r : ∀ i, ∀ p ∈ (m.sec i).ps, RIn p.2 ∧ LightR p.2
  ql : m.qp.length ≤ 1000
  rl : ∀ i, (m.sec i).ps.length ≤ 1000

set_option maxHeartbeats 400000 in
theorem fitsCode_any (n : Int) (w : World) : Calls Try.prog 122 #[.int .i64 n] w (Told w (.bool (codeB n))) := by
  have HS := Lib.hid (show codeB n = (decide (0 ≤ n) && decide (n ≤ 15)) from rfl)
  cases h1 : decide (0 ≤ n) with
  | false =>
    rw [h1] at HS
    go_enter Try.func122, Try.ntmps122
    go_wp2
    go_ret
    exact ⟨by rw [HS.out]; rfl, rfl⟩
  | true =>
    rw [h1] at HS
    go_enter Try.func122, Try.ntmps122
    go_wp2
    go_ret
    exact ⟨by rw [HS.out]; simp, rfl⟩

set_option maxRecDepth 20000 in
set_option maxHeartbeats 2000000 in
theorem soundQuestion_any (x : QV) (q : Qt) (w : World) (hx : QAt w w.heap.size x q) (hi : QIn q) :
    Calls Try.prog 101 #[valQ x q] w (Gave w (.bool (soundQ q))) := by
  obtain ⟨W, hW⟩ : ∃ W, W = w.alloc (.cells #[.slice x.1 q.name.length x.2, .int .i64 q.kind, .int .i64 q.cls] 41) := ⟨_, rfl⟩
  have hB : Below w.heap.size w W := by rw [hW]; exact (Below.refl _ _).alloc (Nat.le_refl _) _
  have HB := Lib.hid hB
  have HS := Lib.hid (show soundQ q = (soundN q.name && (decide (q.kind ≠ 0) && (fitB q.kind 2 && fitB q.cls 2))) from rfl)
  have hl := hi.l
  have HN := Lib.hid (fun W' (h : Below w.heap.size w W') => sound_wide x.1 q.name.length x.2 w.heap.size q.name W' rfl (Row.below hx h) (by omega) hi.n.2)
  have HF := Lib.hid (fun W' => fits_any q.cls 2 W')
  have HK := Lib.hid (fun W' => fits_any q.kind 2 W')
  clear hB hx hi
  subst hW
  go_enter Try.func101, Try.ntmps101
  go_wp2_with fail
  refine (HN.out _ HB.out).mono ?_
  rintro e w1 ⟨rfl, rfl⟩
  cases h1 : soundN q.name with
  | false =>
    rw [h1] at HS
    go_wp2
    go_ret
    exact ⟨by rw [HS.out]; rfl, HB.out⟩
  | true =>
  rw [h1] at HS
  by_cases hk : q.kind = 0
  · have t : (q.kind != 0) = false := by rw [hk]; rfl
    rw [show decide (q.kind ≠ 0) = false from decide_eq_false (by omega)] at HS
    clear hk
    go_wp2
    go_ret
    exact ⟨by rw [HS.out]; rfl, HB.out⟩
  have t : (q.kind != 0) = true := by rw [bne_iff_ne]; exact hk
  rw [show decide (q.kind ≠ 0) = true from decide_eq_true hk] at HS
  clear hk
  go_wp2_with fail
  refine (HK.out _).mono ?_
  rintro e w2 ⟨rfl, rfl⟩
  cases h2 : fitB q.kind 2 with
  | false =>
    rw [h2] at HS
    go_wp2
    go_ret
    exact ⟨by rw [HS.out]; rfl, HB.out⟩
  | true =>
  rw [h2] at HS
  go_wp2_with fail
  refine (HF.out _).mono ?_
  rintro e w3 ⟨rfl, rfl⟩
  go_wp2
  go_ret
  exact ⟨by rw [HS.out]; simp, HB.out⟩

set_option maxRecDepth 20000 in
set_option maxHeartbeats 4000000 in
theorem soundHead_any (h : Hd) (vq va vu vx : Value) (w : World) : Calls Try.prog 99 #[valM h vq va vu vx] w (Gave w (.bool (soundH h))) := by
  obtain ⟨W, hW⟩ : ∃ W, W = w.alloc (.cells #[.int .i64 h.id, .bool h.resp, .int .i64 h.op, .bool h.aa, .bool h.tc, .bool h.rd, .bool h.ra, .int .i64 h.rc, vq, va, vu, vx, .bool h.edns, .int .i64 h.size] 43) := ⟨_, rfl⟩
  have hB : Below w.heap.size w W := by rw [hW]; exact (Below.refl _ _).alloc (Nat.le_refl _) _
  have HB := Lib.hid hB
  have HS := Lib.hid (show soundH h = (fitB h.id 2 && (codeB h.op && (codeB h.rc && (fitB h.size 2 && (h.edns || decide (h.size = 0)))))) from rfl)
  have HI := Lib.hid (fun W' => fits_any h.id 2 W')
  have HO := Lib.hid (fun W' => fitsCode_any h.op W')
  have HR := Lib.hid (fun W' => fitsCode_any h.rc W')
  have HZ := Lib.hid (fun W' => fits_any h.size 2 W')
  clear hB
  subst hW
  go_enter Try.func99, Try.ntmps99
  go_wp2_with fail
  refine (HI.out _).mono ?_
  rintro e w1 ⟨rfl, rfl⟩
  cases h1 : fitB h.id 2 with
  | false =>
    rw [h1] at HS
    go_wp2
    go_ret
    exact ⟨by rw [HS.out]; rfl, HB.out⟩
  | true =>
  rw [h1] at HS
  go_wp2_with fail
  refine (HO.out _).mono ?_
  rintro e w2 ⟨rfl, rfl⟩
  cases h2 : codeB h.op with
  | false =>
    rw [h2] at HS
    go_wp2
    go_ret
    exact ⟨by rw [HS.out]; rfl, HB.out⟩
  | true =>
  rw [h2] at HS
  go_wp2_with fail
  refine (HR.out _).mono ?_
  rintro e w3 ⟨rfl, rfl⟩
  cases h3 : codeB h.rc with
  | false =>
    rw [h3] at HS
    go_wp2
    go_ret
    exact ⟨by rw [HS.out]; rfl, HB.out⟩
  | true =>
  rw [h3] at HS
  go_wp2_with fail
  refine (HZ.out _).mono ?_
  rintro e w4 ⟨rfl, rfl⟩
  cases h4 : fitB h.size 2 with
  | false =>
    rw [h4] at HS
    go_wp2
    go_ret
    exact ⟨by rw [HS.out]; rfl, HB.out⟩
  | true =>
  rw [h4] at HS
  cases h5 : h.edns with
  | true =>
    rw [h5] at HS HB
    go_wp2
    go_ret
    exact ⟨by rw [HS.out]; rfl, HB.out⟩
  | false =>
    rw [h5] at HS HB
    by_cases hz : h.size = 0
    · have t : (h.size == 0) = true := by rw [hz]; rfl
      rw [show decide (h.size = 0) = true from decide_eq_true hz] at HS
      clear hz
      go_wp2
      go_ret
      exact ⟨by rw [HS.out]; rfl, HB.out⟩
    · have t : (h.size == 0) = false := by rw [beq_eq_false_iff_ne]; exact hz
      rw [show decide (h.size = 0) = false from decide_eq_false hz] at HS
      clear hz
      go_wp2
      go_ret
      exact ⟨by rw [HS.out]; rfl, HB.out⟩

/-- What sections leaves: pointers to the three lists. -/
def SecsOut (w : World) (g o : Nat) (e : Ending) (w' : World) : Prop :=
  ∃ b, e = .returned (.slice (some ⟨b, 0, none⟩) 3 3) ∧ w.heap.size ≤ b ∧ Whole w' b 131 [.pointer (some ⟨g, o + 9, none⟩), .pointer (some ⟨g, o + 10, none⟩), .pointer (some ⟨g, o + 11, none⟩)] ∧ Below w.heap.size w w'
set_option maxHeartbeats 1000000 in
theorem sections_at (w : World) (g o : Nat) : Calls Try.prog 100 #[.pointer (some ⟨g, o, none⟩)] w (SecsOut w g o) := by
  go_enter Try.func100, Try.ntmps100
  go_wp2
  go_region
  go_wp2
  go_ret
  exact ⟨w.heap.size, rfl, Nat.le_refl _, Whole.made w [_, _, _] _, ((Below.refl _ _).alloc (Nat.le_refl _) _).drew⟩
theorem sections_any (w : World) (g : Nat) : Calls Try.prog 100 #[.pointer (some ⟨g, 0, none⟩)] w (SecsOut w g 0) := sections_at w g 0













end Go.Proofs.Ythppgofpbpjglaa

namespace Go.Proofs.Ythppgofpbpjglaa
open Go.RowKit

/-- How many questions, and records of the sections ahead of number j. -/
def sumTo (m : MV) : Nat → Nat
  | 0 => m.qp.length
  | j + 1 => sumTo m j + (m.sec j).ps.length
def allTo (m : MV) : Nat → List Rt
  | 0 => []
  | j + 1 => allTo m j ++ recs (m.sec j).ps
theorem sumTo_three (m : MV) : sumTo m 3 = m.qp.length + m.s0.ps.length + m.s1.ps.length + m.s2.ps.length := rfl
theorem allTo_three (m : MV) : allTo m 3 = m.msg.all := by
  show ([] ++ recs m.s0.ps ++ recs m.s1.ps) ++ recs m.s2.ps = recs m.s0.ps ++ (recs m.s1.ps ++ recs m.s2.ps)
  simp
theorem sumTo_le {m : MV} (hi : MIn m) : ∀ j, sumTo m j ≤ 1000 * (j + 1)
  | 0 => by have := hi.ql; show m.qp.length ≤ 1000 * (0 + 1); omega
  | j + 1 => by
    have h1 := sumTo_le hi j
    have h2 := hi.rl j
    show sumTo m j + (m.sec j).ps.length ≤ 1000 * (j + 1 + 1)
    omega
theorem soundM_at (m : MV) : soundM m.msg = (soundH m.h && (decide (sumTo m 3 ≤ 512) && ((qsts m.qp).all soundQ && (allTo m 3).all soundX))) := by
  rw [sumTo_three, allTo_three]
  unfold soundM MV.msg
  dsimp only
  rw [length_qsts, length_recs, length_recs, length_recs]
theorem all_fails {α : Type} {p : α → Bool} {l : List α} {x : α} (hx : x ∈ l) (h : p x = false) : l.all p = false := by
  rw [List.all_eq_false]
  exact ⟨x, hx, by rw [h]; decide⟩
theorem mem_allTo {m : MV} {j : Nat} (hj : j < 3) {p : RV × Rt} (hp : p ∈ (m.sec j).ps) : p.2 ∈ allTo m 3 := by
  have h : p.2 ∈ recs (m.sec j).ps := List.mem_map.2 ⟨p, hp, rfl⟩
  have e : allTo m 3 = recs (m.sec 0).ps ++ (recs (m.sec 1).ps ++ recs (m.sec 2).ps) := allTo_three m
  rw [e]
  rcases (show j = 0 ∨ j = 1 ∨ j = 2 by omega) with rfl | rfl | rfl
  · exact List.mem_append_left _ h
  · exact List.mem_append_right _ (List.mem_append_left _ h)
  · exact List.mem_append_right _ (List.mem_append_right _ h)

/-- The message's block, and the row of pointers to its sections. -/
structure Boxed (w : World) (g b : Nat) (m : MV) : Prop where
  bg : Whole w g 43 m.cells
  bb : Whole w b 131 [.pointer (some ⟨g, 9, none⟩), .pointer (some ⟨g, 10, none⟩), .pointer (some ⟨g, 11, none⟩)]
theorem Boxed.below {w w' : World} {g b : Nat} {m : MV} (h : Boxed w g b m) (hb : Below w.heap.size w w') : Boxed w' g b m := ⟨h.bg.below hb h.bg.lt, h.bb.below hb h.bb.lt⟩
theorem Boxed.ptr {w : World} {g b : Nat} {m : MV} (h : Boxed w g b m) {j : Nat} (hj : j < 3) : w.cell? ⟨b, j, none⟩ = some (.pointer (some ⟨g, 9 + j, none⟩)) ∧ w.cell? ⟨g, 9 + j, none⟩ = some (.slice (m.sec j).A (m.sec j).ps.length (m.sec j).c) := by
  rcases (show j = 0 ∨ j = 1 ∨ j = 2 by omega) with rfl | rfl | rfl
  · exact ⟨h.bb.cell 0, h.bg.cell 9⟩
  · exact ⟨h.bb.cell 1, h.bg.cell 10⟩
  · exact ⟨h.bb.cell 2, h.bg.cell 11⟩

def SumRel (m : MV) (s i : Value) : Prop := ∃ j : Nat, j ≤ 3 ∧ i = .int .i64 j ∧ s = .int .i64 (sumTo m j)
def QuestRel (W : World) (qp : List (QV × Qt)) (i : Value) (wr : World) : Prop := ∃ k : Nat, k ≤ qp.length ∧ i = .int .i64 k ∧ (qsts (qp.take k)).all soundQ = true ∧ Below W.heap.size W wr
def SectsRel (W : World) (m : MV) (i : Value) (wr : World) : Prop := ∃ j : Nat, j ≤ 3 ∧ i = .int .i64 j ∧ (allTo m j).all soundX = true ∧ Below W.heap.size W wr
def SectRel (W : World) (s : Sec) (i : Value) (wr : World) : Prop := ∃ k : Nat, k ≤ s.ps.length ∧ i = .int .i64 k ∧ (recs (s.ps.take k)).all soundX = true ∧ Below W.heap.size W wr
theorem qsts_at {ps : List (QV × Qt)} {k : Nat} (hk : k < ps.length) : qsts (ps.take (k + 1)) = qsts (ps.take k) ++ [(ps[k]).2] := by
  rw [List.take_succ_eq_append_getElem hk, qsts_append]
  rfl

set_option maxRecDepth 20000 in
set_option maxHeartbeats 8000000 in
theorem msound_core (w : World) (m : MV) (h : Hd) (qA : Option Addr) (qc : Nat) (qp : List (QV × Qt)) (s0 s1 s2 : Sec) (he : m = ⟨h, qA, qc, qp, s0, s1, s2⟩) (hm : MAt w w.heap.size m) (hi : MIn m) :
    Calls Try.prog 72 #[valM h (.slice qA qp.length qc) s0.v s1.v s2.v] w (Gave w (.bool (soundM m.msg))) := by
  obtain ⟨W, hW⟩ : ∃ W, W = w.alloc (.cells #[.int .i64 h.id, .bool h.resp, .int .i64 h.op, .bool h.aa, .bool h.tc, .bool h.rd, .bool h.ra, .int .i64 h.rc, .slice qA qp.length qc, s0.v, s1.v, s2.v, .bool h.edns, .int .i64 h.size] 43) := ⟨_, rfl⟩
  have hB : Below w.heap.size w W := by rw [hW]; exact (Below.refl _ _).alloc (Nat.le_refl _) _
  have hwh : Whole W w.heap.size 43 m.cells := by rw [hW, he]; exact Whole.made w _ _
  have HB := Lib.hid hB
  have HW := Lib.hid hwh
  have HM := Lib.hid hm
  have HI := Lib.hid hi
  have HS := Lib.hid (show soundM m.msg = (soundH h && (decide (sumTo m 3 ≤ 512) && ((qsts qp).all soundQ && (allTo m 3).all soundX))) by rw [soundM_at, he])
  have HH := Lib.hid (fun W' => soundHead_any h (.slice qA qp.length qc) s0.v s1.v s2.v W')
  have hql : qp.length ≤ 1000 := by have h := hi.ql; rw [he] at h; exact h
  have HC8 := Lib.hid (fun (W' : World) (hw : Whole W' w.heap.size 43 m.cells) => (show W'.cell? ⟨w.heap.size, 8, none⟩ = some (.slice qA qp.length qc) by rw [he] at hw; exact hw.cell 8))
  have HQA := Lib.hid (fun (W' : World) (hb : Below w.heap.size w W') => (show QsAt W' w.heap.size qA qp by have h := hm.q.below hb; rw [he] at h; exact h))
  have HQI := Lib.hid (show ∀ p ∈ qp, QIn p.2 by have h := hi.q; rw [he] at h; exact h)
  have hs3 := sumTo_le hi 3
  have HS0 := Lib.hid (show sumTo m 0 = qp.length by rw [he]; rfl)
  have hlt : w.heap.size < W.heap.size := hwh.lt
  clear hB hwh hm hi he
  subst hW
  go_enter Try.func72, Try.ntmps72
  go_wp2_with fail
  refine (HH.out _).mono ?_
  rintro e w1 ⟨rfl, hb1⟩
  have HB1 := Lib.hid (HB.out.trans (hb1.mono HB.out.size))
  have HW1 := Lib.hid (HW.out.below hb1 hlt)
  have hlt1 : w.heap.size < w1.heap.size := HW1.out.lt
  clear hb1 HB HW HH hlt
  cases h1 : soundH h with
  | false =>
    rw [h1] at HS
    go_wp2
    go_ret
    exact ⟨by rw [HS.out]; rfl, HB1.out⟩
  | true =>
  rw [h1] at HS
  have c8 := HC8.out w1 HW1.out
  go_wp2_with fail
  refine (sections_any w1 w.heap.size).mono ?_
  rintro e w2 ⟨b, rfl, hbb, hwb, hb2⟩
  have HX2 := Lib.hid (Boxed.mk (HW1.out.below hb2 hlt1) hwb)
  have HB2 := Lib.hid (HB1.out.trans (hb2.mono (Nat.le_of_lt hlt1)))
  clear hwb hb2 HW1 HB1 c8 hbb
  go_wp2
  go_loop [3, 20] (SumRel m) (fun _ i => 3 - (intOf i).toNat)
  case atStart => exact ⟨0, by omega, rfl, by rw [HS0.out]⟩
  case round =>
    obtain ⟨j, hj, rfl, rfl⟩ := hrel
    have hsj := sumTo_le HI.out j
    by_cases hlt : j < 3
    · obtain ⟨p0, p1⟩ := HX2.out.ptr hlt
      have hrl := HI.out.rl j
      go_wp2
      exact ⟨⟨j + 1, by omega, by go_num, by show Value.int .i64 _ = Value.int .i64 ((sumTo m j + (m.sec j).ps.length : Nat) : Int); congr 1⟩, by simp [intOf]; omega⟩
    · obtain rfl : j = 3 := by omega
      clear hsj hj
      by_cases hn : sumTo m 3 ≤ 512
      case neg =>
        have d1 : decide ((512 : Int) < ((sumTo m 3 : Nat) : Int)) = true := by rw [decide_eq_true_eq]; omega
        rw [show decide (sumTo m 3 ≤ 512) = false from decide_eq_false hn] at HS
        clear hn
        go_wp2
        go_ret
        exact ⟨by rw [HS.out]; rfl, HB2.out⟩
      have d1 : decide ((512 : Int) < ((sumTo m 3 : Nat) : Int)) = false := decide_eq_false (by omega)
      rw [show decide (sumTo m 3 ≤ 512) = true from decide_eq_true hn] at HS
      clear hn
      have c8 := HC8.out w2 HX2.out.bg
      go_wp2
      clear d1 hlt
      go_loopw [36] (QuestRel w2 qp) (fun i _ => qp.length - (intOf i).toNat)
      case atStart => exact ⟨0, Nat.zero_le _, rfl, rfl, Below.refl _ _⟩
      case round =>
        obtain ⟨k, hk, rfl, ha, hb⟩ := hrel
        have HA := Lib.hid ha
        have HX3 := Lib.hid (HX2.out.below hb)
        have HB3 := Lib.hid (HB2.out.trans (hb.mono HB2.out.size))
        have HBW := Lib.hid hb
        clear ha hb
        by_cases hlt2 : k < qp.length
        · obtain ⟨b1, o1, rfl, hb1, hda, q0, q1, q2⟩ := (HQA.out _ HB3.out).at_ hlt2
          have HQ := Lib.hid (HQI.out _ (List.getElem_mem hlt2))
          have HTS := Lib.hid (qsts_at hlt2)
          have HF := Lib.hid (show soundQ (qp[k]).2 = false → (qsts qp).all soundQ = false from all_fails (List.mem_map.2 ⟨qp[k], List.getElem_mem hlt2, rfl⟩))
          revert hda q0 q1 q2 HQ HTS HF
          generalize qp[k] = p1
          obtain ⟨y, q⟩ := p1
          intro hda q0 q1 q2 HQ HTS HF
          dsimp only at *
          have hba : Below wr.heap.size wr (wr.alloc (.cells #[.slice y.1 q.name.length y.2, .int .i64 q.kind, .int .i64 q.cls] 41)) := (Below.refl _ _).alloc (Nat.le_refl _) _
          have HC := Lib.hid (soundQuestion_any y q (wr.alloc (.cells #[.slice y.1 q.name.length y.2, .int .i64 q.kind, .int .i64 q.cls] 41)) (Row.mono (Row.below hda (hba.mono HB3.out.size)) (Nat.le_trans HB3.out.size hba.size)) HQ.out)
          have HBA := Lib.hid hba
          clear hda hba
          go_wp2_with fail
          refine HC.out.mono ?_
          rintro e w4 ⟨rfl, hb4⟩
          have HB4 := Lib.hid (HBW.out.trans ((HBA.out.trans (hb4.mono HBA.out.size)).mono HBW.out.size))
          clear hb4 HC HBA
          cases hv : soundQ q with
          | false =>
            have HFX := Lib.hid (HF.out hv)
            clear HTS HF
            go_wp2
            go_ret
            exact ⟨by rw [HS.out, HFX.out]; rfl, HB2.out.trans (HB4.out.mono HB2.out.size)⟩
          | true =>
            have HT := Lib.hid (show (qsts (qp.take (k + 1))).all soundQ = true by rw [HTS.out, List.all_append, HA.out]; simp [hv])
            clear HTS HF hv
            go_wp2
            exact ⟨⟨k + 1, by omega, by go_num, HT.out, HB4.out⟩, by simp [intOf]; omega⟩
        · obtain rfl : k = qp.length := by omega
          have HT := Lib.hid (show (qsts qp).all soundQ = true by have h := HA.out; rwa [List.take_length] at h)
          clear HA
          rw [HT.out] at HS
          clear c8
          go_wp2_with fail
          refine (sections_any wr w.heap.size).mono ?_
          rintro e w5 ⟨b5, rfl, hbb5, hwb5, hb5⟩
          have HX5 := Lib.hid (Boxed.mk (HX3.out.bg.below hb5 HX3.out.bg.lt) hwb5)
          have HB5 := Lib.hid (HB3.out.trans (hb5.mono HB3.out.size))
          clear hwb5 hb5 hbb5 HX3 HB3 HBW HX2 HB2 HT hk hlt2
          go_wp2
          go_loopw [46] (SectsRel w5 m) (fun i _ => 3 - (intOf i).toNat)
          case atStart => exact ⟨0, by omega, rfl, rfl, Below.refl _ _⟩
          case round =>
            obtain ⟨j, hj, rfl, ha, hb⟩ := hrel
            have HA := Lib.hid ha
            have HX6 := Lib.hid (HX5.out.below hb)
            have HB6 := Lib.hid hb
            clear ha hb
            by_cases hlt : j < 3
            · obtain ⟨p0, p1⟩ := HX6.out.ptr hlt
              have hrl := HI.out.rl j
              have HMS := Lib.hid (fun (k : Nat) (hk : k < (m.sec j).ps.length) => (show soundX ((m.sec j).ps[k]).2 = false → (allTo m 3).all soundX = false from all_fails (mem_allTo hlt (List.getElem_mem hk))))
              have HRJ := Lib.hid (HI.out.r j)
              have HMJ := Lib.hid (fun W' (h : Below w.heap.size w W') => (HM.out.below h).sec j)
              have HN := Lib.hid (show allTo m (j + 1) = allTo m j ++ recs (m.sec j).ps from rfl)
              revert p1 hrl HMS HRJ HMJ HN
              generalize m.sec j = s
              obtain ⟨sA, sc, ps⟩ := s
              intro p1 hrl HMS HRJ HMJ HN
              dsimp only at *
              have hj1 : (j : Int) < 3 := by omega
              go_wp2
              go_loopw [54] (SectRel wr ⟨sA, sc, ps⟩) (fun i _ => ps.length - (intOf i).toNat)
              case atStart => exact ⟨0, Nat.zero_le _, rfl, rfl, Below.refl _ _⟩
              case round =>
                obtain ⟨k, hk, rfl, ha, hb⟩ := hrel
                dsimp only at hk ha
                have HA2 := Lib.hid ha
                have HX7 := Lib.hid (HX6.out.below hb)
                have HB7 := Lib.hid (HB6.out.trans (hb.mono HB6.out.size))
                have HBW := Lib.hid hb
                clear ha hb
                by_cases hlt2 : k < ps.length
                · obtain ⟨b1, o1, rfl, hb1, hra, q0, q1, q2, q3, q4, q5, q6, q7, q8⟩ := (HMJ.out _ (HB5.out.trans (HB7.out.mono HB5.out.size))).at_ hlt2
                  have HRI := Lib.hid (HRJ.out _ (List.getElem_mem hlt2))
                  have HF := Lib.hid (HMS.out k hlt2)
                  have HTS := Lib.hid (recs_at hlt2)
                  revert hra q0 q1 q2 q3 q4 q5 q6 q7 q8 HRI HF HTS
                  generalize ps[k] = p1
                  obtain ⟨x, r⟩ := p1
                  intro hra q0 q1 q2 q3 q4 q5 q6 q7 q8 HRI HF HTS
                  dsimp only at *
                  have HSX := Lib.hid (show soundX r = (decide (r.kind ≠ 41) && soundR r) from rfl)
                  have hba : Below wr.heap.size wr (wr.alloc (.cells #[.slice x.A r.name.length x.c, .int .i64 r.kind, .int .i64 r.cls, .int .i64 r.ttl, .slice x.d.Ab r.data.bytes.length x.d.cb, .slice x.d.Ah r.data.host.length x.d.ch, .slice x.d.Am r.data.mail.length x.d.cm, .slice x.d.An r.data.nums.length x.d.cn, .slice x.d.At r.data.texts.length x.d.ct] 54)) := (Below.refl _ _).alloc (Nat.le_refl _) _
                  have HC := Lib.hid (rsound_any x r _ ((hra.below (hba.mono (HB5.out.trans (HB7.out.mono HB5.out.size)).size)).mono (Nat.le_trans (HB5.out.trans (HB7.out.mono HB5.out.size)).size hba.size)) HRI.out.1 HRI.out.2)
                  have HBA := Lib.hid (HBW.out.trans (hba.mono HBW.out.size))
                  clear hra hba
                  by_cases h41 : r.kind = 41
                  · have t : (r.kind == 41) = true := by rw [beq_iff_eq]; exact h41
                    rw [show decide (r.kind ≠ 41) = false from decide_eq_false (by omega)] at HSX
                    have HFX := Lib.hid (HF.out HSX.out)
                    clear h41 HF HTS
                    go_wp2
                    go_ret
                    exact ⟨by rw [HS.out, HFX.out]; rfl, HB5.out.trans ((HB6.out.trans (HBA.out.mono HB6.out.size)).mono HB5.out.size)⟩
                  have t : (r.kind == 41) = false := by rw [beq_eq_false_iff_ne]; exact h41
                  rw [show decide (r.kind ≠ 41) = true from decide_eq_true h41, Bool.true_and] at HSX
                  clear h41
                  go_wp2_with fail
                  refine HC.out.mono ?_
                  rintro e w8 ⟨rfl, hb8⟩
                  have HB8 := Lib.hid (HBA.out.trans (hb8.mono HBA.out.size))
                  clear hb8 HC HBA
                  cases hv : soundR r with
                  | false =>
                    have HFX := Lib.hid (HF.out (HSX.out.trans hv))
                    clear HF HTS
                    go_wp2
                    go_ret
                    exact ⟨by rw [HS.out, HFX.out]; rfl, HB5.out.trans ((HB6.out.trans (HB8.out.mono HB6.out.size)).mono HB5.out.size)⟩
                  | true =>
                    have HT := Lib.hid (show (recs (ps.take (k + 1))).all soundX = true by rw [HTS.out, List.all_append, HA2.out]; simp [HSX.out, hv])
                    clear HF HTS hv HSX
                    go_wp2
                    exact ⟨⟨k + 1, by show k + 1 ≤ ps.length; omega, by go_num, HT.out, HB8.out⟩, by simp [intOf]; omega⟩
                · obtain rfl : k = ps.length := by omega
                  have HT := Lib.hid (show (allTo m (j + 1)).all soundX = true by
                    have h := HA2.out
                    rw [List.take_length] at h
                    rw [HN.out, List.all_append, HA.out, h]
                    rfl)
                  go_wp2
                  exact ⟨⟨j + 1, by omega, by go_num, HT.out, HB7.out⟩, by simp [intOf]; omega⟩
            · obtain rfl : j = 3 := by omega
              have HT := Lib.hid HA.out
              rw [HT.out] at HS
              go_wp2
              go_ret
              exact ⟨by rw [HS.out]; rfl, HB5.out.trans (HB6.out.mono HB5.out.size)⟩

theorem msound_any (w : World) (m : MV) (hm : MAt w w.heap.size m) (hi : MIn m) : Calls Try.prog 72 #[m.val] w (Gave w (.bool (soundM m.msg))) :=
  msound_core w m m.h m.qA m.qc m.qp m.s0 m.s1 m.s2 rfl hm hi

end Go.Proofs.Ythppgofpbpjglaa

namespace Go.Proofs.Ythppgofpbpjglaa
open Go.RowKit

/-- The block j holds a slice of the record. -/
def RV.owns (x : RV) (r : Rt) (j : Nat) : Prop := (x.vn r).ownBlock = some j ∨ x.d.owns r.data j
theorem OwnR.base {w : World} {B : Nat} {x : RV} {r : Rt} (h : OwnR w B x r) {j : Nat} (hj : x.owns r j) : B ≤ j ∧ j < w.heap.size := by
  rcases hj with e | e
  · exact h.n.lt j e
  · exact h.d.base e
section
variable {base g H : Nat} {W1 wk : World} {vB vM : Value} {B : List UInt8} {R : Rs}







end








































































































































end Go.Proofs.Ythppgofpbpjglaa

namespace Go.Proofs.Ythppgofpbpjglaa
open Go.RowKit

/-- The bit number j of the flags: where its bool lies, where it is in the number, and whether it is on. -/
def fldF (j : Nat) : Nat := if j = 0 then 1 else j + 2
def posF (j : Nat) : Nat := if j = 0 then 15 else 11 - j
def onF (h : Hd) (j : Nat) : Bool := if j = 0 then h.resp else if j = 1 then h.aa else if j = 2 then h.tc else if j = 3 then h.rd else h.ra
def bitsTo (h : Hd) : Nat → Nat
  | 0 => h.op.toNat * 2048 + h.rc.toNat
  | j + 1 => bitsTo h j + bit (onF h j) (2 ^ posF j)
theorem bitsTo_five (h : Hd) : bitsTo h 5 = bitsH h := by
  show ((((h.op.toNat * 2048 + h.rc.toNat + bit h.resp 32768) + bit h.aa 1024) + bit h.tc 512) + bit h.rd 256) + bit h.ra 128 = bitsH h
  unfold bitsH
  omega
theorem or_i64_nat (a b : Nat) (ha : a < 65536) (hb : b < 65536) : bits .or .i64 (a : Int) (b : Int) = ((a ||| b : Nat) : Int) := by
  have hx : a ||| b < 2 ^ 16 := Nat.or_lt_two_pow (by omega) (by omega)
  have h1 : (BitVec.ofInt 64 (a : Int)).toNat = a := by
    rw [BitVec.ofInt_natCast, BitVec.toNat_ofNat]; exact Nat.mod_eq_of_lt (by omega)
  have h2 : (BitVec.ofInt 64 (b : Int)).toNat = b := by
    rw [BitVec.ofInt_natCast, BitVec.toNat_ofNat]; exact Nat.mod_eq_of_lt (by omega)
  show IntKind.i64.wrap ((BitVec.ofInt 64 (a : Int) ||| BitVec.ofInt 64 (b : Int)).toNat : Int) = _
  rw [BitVec.toNat_or, h1, h2]
  rw [IntKind.wrap_i64]
  omega
theorem or_code : ∀ o, o < 16 → ∀ c, c < 16 → (o * 2048 ||| c) = o * 2048 + c := by decide +kernel
theorem or_bit0 : ∀ o, o < 16 → ∀ c, c < 16 → (o * 2048 + c ||| 32768) = o * 2048 + c + 32768 := by decide +kernel
theorem or_bit1 : ∀ o, o < 16 → ∀ c, c < 16 → ∀ x, x < 2 → (o * 2048 + c + x * 32768 ||| 1024) = o * 2048 + c + x * 32768 + 1024 := by decide +kernel
theorem or_bit2 : ∀ o, o < 16 → ∀ c, c < 16 → ∀ x, x < 2 → ∀ y, y < 2 → (o * 2048 + c + x * 32768 + y * 1024 ||| 512) = o * 2048 + c + x * 32768 + y * 1024 + 512 := by decide +kernel
theorem or_bit3 : ∀ o, o < 16 → ∀ c, c < 16 → ∀ x, x < 2 → ∀ y, y < 2 → ∀ z, z < 2 → (o * 2048 + c + x * 32768 + y * 1024 + z * 512 ||| 256) = o * 2048 + c + x * 32768 + y * 1024 + z * 512 + 256 := by decide +kernel
theorem or_bit4 : ∀ o, o < 16 → ∀ c, c < 16 → ∀ x, x < 2 → ∀ y, y < 2 → ∀ z, z < 2 → ∀ u, u < 2 → (o * 2048 + c + x * 32768 + y * 1024 + z * 512 + u * 256 ||| 128) = o * 2048 + c + x * 32768 + y * 1024 + z * 512 + u * 256 + 128 := by decide +kernel
theorem bit_eq (b : Bool) (n : Nat) : ∃ x, x < 2 ∧ bit b n = x * n := by
  cases b
  · exact ⟨0, by omega, by simp [bit]⟩
  · exact ⟨1, by omega, by simp [bit]⟩
theorem codeB_nat {n : Int} (h : codeB n = true) : ∃ k : Nat, n = k ∧ k < 16 := by
  unfold codeB at h
  simp only [Bool.and_eq_true, decide_eq_true_eq] at h
  exact ⟨n.toNat, by omega, by omega⟩
/-- One more bit. -/
theorem bitsTo_or {h : Hd} (ho : codeB h.op = true) (hr : codeB h.rc = true) {j : Nat} (hj : j < 5) : bits .or .i64 ((bitsTo h j : Nat) : Int) ((2 ^ posF j : Nat) : Int) = ((bitsTo h j + 2 ^ posF j : Nat) : Int) ∧ bitsTo h j < 65536 := by
  obtain ⟨o, eo, ho2⟩ := codeB_nat ho
  obtain ⟨c, ec, hc2⟩ := codeB_nat hr
  obtain ⟨x, hx, ex⟩ := bit_eq h.resp 32768
  obtain ⟨y, hy, ey⟩ := bit_eq h.aa 1024
  obtain ⟨z, hz, ez⟩ := bit_eq h.tc 512
  obtain ⟨u, hu, eu⟩ := bit_eq h.rd 256
  have e0 : bitsTo h 0 = o * 2048 + c := by unfold bitsTo; rw [eo, ec, Int.toNat_natCast, Int.toNat_natCast]
  have e1 : bitsTo h 1 = o * 2048 + c + x * 32768 := by rw [← e0, ← ex]; rfl
  have e2 : bitsTo h 2 = o * 2048 + c + x * 32768 + y * 1024 := by rw [← e1, ← ey]; rfl
  have e3 : bitsTo h 3 = o * 2048 + c + x * 32768 + y * 1024 + z * 512 := by rw [← e2, ← ez]; rfl
  have e4 : bitsTo h 4 = o * 2048 + c + x * 32768 + y * 1024 + z * 512 + u * 256 := by rw [← e3, ← eu]; rfl
  rcases (show j = 0 ∨ j = 1 ∨ j = 2 ∨ j = 3 ∨ j = 4 by omega) with rfl | rfl | rfl | rfl | rfl
  · rw [e0, or_i64_nat _ _ (by omega) (by decide)]
    exact ⟨congrArg _ (or_bit0 o ho2 c hc2), by omega⟩
  · rw [e1, or_i64_nat _ _ (by omega) (by decide)]
    exact ⟨congrArg _ (or_bit1 o ho2 c hc2 x hx), by omega⟩
  · rw [e2, or_i64_nat _ _ (by omega) (by decide)]
    exact ⟨congrArg _ (or_bit2 o ho2 c hc2 x hx y hy), by omega⟩
  · rw [e3, or_i64_nat _ _ (by omega) (by decide)]
    exact ⟨congrArg _ (or_bit3 o ho2 c hc2 x hx y hy z hz), by omega⟩
  · rw [e4, or_i64_nat _ _ (by omega) (by decide)]
    exact ⟨congrArg _ (or_bit4 o ho2 c hc2 x hx y hy z hz u hu), by omega⟩
theorem bits_code {h : Hd} (ho : codeB h.op = true) (hr : codeB h.rc = true) : bits .or .i64 (wrap64 (h.op * 2048)) h.rc = ((bitsTo h 0 : Nat) : Int) := by
  obtain ⟨o, eo, ho2⟩ := codeB_nat ho
  obtain ⟨c, ec, hc2⟩ := codeB_nat hr
  have e0 : bitsTo h 0 = o * 2048 + c := by unfold bitsTo; rw [eo, ec, Int.toNat_natCast, Int.toNat_natCast]
  have ew : wrap64 (h.op * 2048) = ((o * 2048 : Nat) : Int) := by rw [eo]; unfold wrap64; omega
  rw [ew, ec, or_i64_nat _ _ (by omega) (by omega), e0, or_code o ho2 c hc2]














def BitsRel (W : World) (h : Hd) (s i : Value) (wr : World) : Prop := ∃ j : Nat, j ≤ 5 ∧ i = .int .i64 j ∧ s = .int .i64 (bitsTo h j) ∧ Below W.heap.size W wr

























































































































end Go.Proofs.Ythppgofpbpjglaa

namespace Go.Proofs.Ythppgofpbpjglaa
open Go.RowKit




/-- What is written ahead of the questions, up to section j. -/
def headTo (B : List UInt8) (m : MV) : Nat → List UInt8
  | 0 => ((B ++ putL [] m.h.id 2) ++ putL [] (bitsH m.h) 2) ++ putL [] m.qp.length 2
  | j + 1 => headTo B m j ++ putL [] (m.sec j).ps.length 2
theorem length_putL2 (n : Int) : (putL [] n 2).length ≤ 7 := by unfold putL; split <;> simp [length_digs]
theorem length_headTo (B : List UInt8) (m : MV) : ∀ j, (headTo B m j).length ≤ B.length + 21 + 7 * j
  | 0 => by
    have h1 := length_putL2 m.h.id
    have h2 := length_putL2 (bitsH m.h)
    have h3 := length_putL2 m.qp.length
    show (((B ++ putL [] m.h.id 2) ++ putL [] (bitsH m.h) 2) ++ putL [] m.qp.length 2).length ≤ B.length + 21 + 7 * 0
    simp only [List.length_append]
    omega
  | j + 1 => by
    have h1 := length_headTo B m j
    have h2 := length_putL2 (m.sec j).ps.length
    show (headTo B m j ++ putL [] (m.sec j).ps.length 2).length ≤ B.length + 21 + 7 * (j + 1)
    rw [List.length_append]
    omega















































































































end Go.Proofs.Ythppgofpbpjglaa

namespace Go.Proofs.Ythppgofpbpjglaa
open Go.RowKit

/-- Slices of nothing. -/
def nilV : RV := ⟨none, 0, ⟨none, none, none, none, none, 0, 0, 0, 0, 0⟩⟩
theorem opt_own (w : World) (B : Nat) (n : Int) : OwnR w B nilV (optR n) :=
  ⟨World.ownsRow_nil _ _ _ _, ⟨World.ownsRow_nil _ _ _ _, World.ownsRow_nil _ _ _ _, World.ownsRow_nil _ _ _ _, World.ownsRow_nil _ _ _ _, World.ownsRow_nil _ _ _ _⟩⟩
/-- All records' slices are own ones. -/
def OwnedM (w : World) (m : MV) : Prop := ∀ i, ∀ p ∈ (m.sec i).ps, OwnR w 0 p.1 p.2
theorem OwnedM.below {w w' : World} {m : MV} (h : OwnedM w m) (hb : Below w.heap.size w w') : OwnedM w' m := fun i p hp => (h i p hp).keep fun g hg => hb.block g hg



















/-- What Encode answers. -/
def encE (m : Mt) : Except Nat (List UInt8) := if soundM m = true then (if 65535 < (encM m).length then .error 4 else .ok (encM m)) else .error 2
def EncOut (w : World) (r : Except Nat (List UInt8)) (e : Ending) (w' : World) : Prop :=
  Below w.heap.size w w' ∧ match r with
  | .ok l => ∃ A c, e = .returned (.tuple #[.slice A l.length c, .int .i64 0]) ∧ w'.ownsRow w.heap.size 5 1 (.slice A l.length c) l.length (l.map bc)
  | .error k => e = .returned (.tuple #[.slice none 0 0, .int .i64 k])
/-- The message with Extra as it is written. -/
def EdnsRel (w0 : World) (H : Nat) (m : MV) (wx : World) : Prop :=
  ∃ s : Sec, recs s.ps = m.msg.exX ∧ Whole wx H 43 (MV.cells ⟨m.h, m.qA, m.qc, m.qp, m.s0, m.s1, s⟩) ∧ RsAt wx wx.heap.size s.A s.ps ∧ (∀ p ∈ s.ps, OwnR wx 0 p.1 p.2) ∧ (∀ p ∈ s.ps, RIn p.2 ∧ LightR p.2) ∧ Below w0.heap.size w0 wx

theorem made_cells (w : World) (cs : Array Value) (t : TypeId) (j : Nat) (u : Value) (h : cs.toList[j]? = some u) : (w.alloc (.cells cs t)).cell? ((⟨w.heap.size, 0, none⟩ : Addr).add j) = some u := by
  rw [addr_add, Nat.zero_add, World.cell?_alloc_at _ _ _ _ rfl]
  simpa using h
theorem row_cells {w : World} {H : Nat} {A : Option Addr} {xs : List Value} (h : Row w H A xs) (b : Addr) (hb : A = some b) (j : Nat) (u : Value) (hu : xs[j]? = some u) : w.cell? (b.add j) = some u := by
  subst hb
  obtain ⟨b', off, e, hlt, hc⟩ := h.some_ (by have := (List.getElem?_eq_some_iff.1 hu).1; omega)
  injection e with e
  subst e
  rw [addr_add]
  exact hc j u hu
theorem none_empty {w : World} {H k : Nat} {α : Type} {f : α → List Value} {A : Option Addr} {ps : List α} (hf : ∀ p, (f p).length = k) (hk : 0 < k) (h : Row w H A (ps.flatMap f)) (hA : A = none) : ps.length = 0 ∧ ps.length = 0 := by
  subst hA
  rcases Nat.eq_zero_or_pos ps.length with h0 | h0
  · exact ⟨h0, h0⟩
  · obtain ⟨_, _, e, _⟩ := h.some_ (by rw [length_flat hf]; exact Nat.mul_pos h0 hk)
    cases e

theorem opt_in {n : Int} (h : (Lit.int .i64 n).wf = true) : RIn (optR n) ∧ LightR (optR n) := by
  have hw : WideN ([] : List (List UInt8)) := ⟨Nat.zero_le _, fun k hk => absurd hk (Nat.not_lt_zero _)⟩
  refine ⟨⟨hw, by show (Lit.int .i64 41).wf = true; decide, h, by show (Lit.int .i64 0).wf = true; decide, ⟨hw, hw, Nat.zero_le _⟩, fun k hk => absurd hk (Nat.not_lt_zero _), fun n hn => absurd hn (List.not_mem_nil)⟩, ⟨Nat.zero_le _, Nat.zero_le _, Nat.zero_le _, Nat.zero_le _, Nat.zero_le _, Nat.zero_le _⟩⟩
theorem edns_no {w w1 : World} {m : MV} (hed : m.h.edns = false) (hm : MAt w w.heap.size m) (hi : MIn m) (ho : OwnedM w m) (hb : Below w.heap.size w w1) (hw : Whole w1 w.heap.size 43 m.cells) : EdnsRel w w.heap.size m w1 := by
  refine ⟨m.s2, ?_, hw, (hm.below hb).s2.mono hb.size, fun p hp => ho.below hb 2 p hp, fun p hp => hi.r 2 p hp, hb⟩
  unfold Mt.exX MV.msg
  dsimp only
  rw [hed]
  simp
theorem edns_yes {w w1 w' : World} {m : MV} {A : Option Addr} {B n c : Nat} (hed : m.h.edns = true) (hm : MAt w w.heap.size m) (hi : MIn m) (ho : OwnedM w m) (hb : Below w.heap.size w w1) (hb3 : Below w1.heap.size w1 w') (hw : Whole w' w.heap.size 43 m.cells)
    (hr : w'.ownsRow B 54 9 (.slice A n c) n (m.s2.ps.flatMap cellsR ++ cellsR (nilV, optR m.h.size))) (hn : n = m.s2.ps.length + 1) (hB : w.heap.size < B) : EdnsRel w w.heap.size m (w'.setCell ⟨w.heap.size, 11, none⟩ (.slice A n c)) := by
  have hb2 : Below w.heap.size w w' := hb.trans (hb3.mono hb.size)
  have hbf : Below w.heap.size w (w'.setCell ⟨w.heap.size, 11, none⟩ (.slice A n c)) := hb2.setCell (p := ⟨w.heap.size, 11, none⟩) (Nat.le_refl _) _
  have hwf := hw.set_ 11 (.slice A n c)
  have hrf : (w'.setCell ⟨w.heap.size, 11, none⟩ (.slice A n c)).ownsRow B 54 9 (.slice A n c) n (m.s2.ps.flatMap cellsR ++ cellsR (nilV, optR m.h.size)) :=
    own_keep hr fun g hg => Below.heap_setCell w' ⟨w.heap.size, 11, none⟩ _ g (by have := (hr.lt g hg).1; show g ≠ w.heap.size; omega)
  have hl : (m.s2.ps ++ [(nilV, optR m.h.size)]).length = n := by rw [List.length_append, hn]; rfl
  refine ⟨⟨A, c, m.s2.ps ++ [(nilV, optR m.h.size)]⟩, ?_, ?_, ⟨?_, ?_⟩, ?_, ?_, hbf⟩
  · unfold Mt.exX MV.msg
    dsimp only
    rw [recs_append, hed]
    rfl
  · unfold MV.cells Sec.v
    dsimp only
    rw [hl]
    exact hwf
  · have h := Row.of_own hrf
    rw [List.flatMap_append]
    simpa using h
  · intro p hp
    rcases List.mem_append.1 hp with h | h
    · exact ((hm.s2.2 p h).below hbf).mono hbf.size
    · rw [List.mem_singleton.1 h]
      exact (opt_own _ 0 _).at_
  · intro p hp
    rcases List.mem_append.1 hp with h | h
    · exact ho.below hbf 2 p h
    · rw [List.mem_singleton.1 h]
      exact opt_own _ 0 _
  · intro p hp
    rcases List.mem_append.1 hp with h | h
    · exact hi.r 2 p h
    · rw [List.mem_singleton.1 h]
      exact opt_in hi.h.s

theorem allTo_len (m : MV) : ∀ j, (allTo m j).length + m.qp.length = sumTo m j
  | 0 => by show ([] : List Rt).length + m.qp.length = m.qp.length; simp
  | j + 1 => by
    have h := allTo_len m j
    show (allTo m j ++ recs (m.sec j).ps).length + m.qp.length = sumTo m j + (m.sec j).ps.length
    rw [List.length_append, length_recs]
    omega
theorem sumTo_up (m : MV) {j : Nat} (hj : j < 3) : sumTo m j + (m.sec j).ps.length ≤ sumTo m 3 := by
  have e1 : sumTo m 1 = sumTo m 0 + (m.sec 0).ps.length := rfl
  have e2 : sumTo m 2 = sumTo m 1 + (m.sec 1).ps.length := rfl
  have e3 : sumTo m 3 = sumTo m 2 + (m.sec 2).ps.length := rfl
  rcases (show j = 0 ∨ j = 1 ∨ j = 2 by omega) with rfl | rfl | rfl <;> omega
theorem allTo_sound {m : MV} (hr : ∀ i, ∀ p ∈ (m.sec i).ps, SoundR p.2) : ∀ j, ∀ r ∈ allTo m j, SoundR r
  | 0, r, h => absurd h (List.not_mem_nil)
  | j + 1, r, h => by
    have h' : r ∈ allTo m j ++ recs (m.sec j).ps := h
    rcases List.mem_append.1 h' with h1 | h1
    · exact allTo_sound hr j r h1
    · obtain ⟨p, hp, rfl⟩ := List.mem_map.1 h1
      exact hr j p hp
/-- What has been written is good, and not too long. -/
structure Fine (s : List UInt8 × Rs) : Prop where
  l : s.1.length ≤ 90000000
  r : s.2.length ≤ 700000
  g : GoodR s.1 s.2
def headS (m : MV) : List UInt8 × Rs := (headTo [] m 3, [])
theorem encS_fine {m : MV} (hq : ∀ q ∈ qsts m.qp, soundQ q = true) (hr : ∀ i, ∀ p ∈ (m.sec i).ps, SoundR p.2) (hn : sumTo m 3 ≤ 513) :
    (∀ k, k ≤ m.qp.length → Fine (putQs (qsts (m.qp.take k)) (headS m))) ∧ (∀ j, j < 3 → ∀ k, k ≤ (m.sec j).ps.length → Fine (putRs (allTo m j ++ recs ((m.sec j).ps.take k)) (putQs (qsts m.qp) (headS m)))) ∧ Fine (putRs (allTo m 3) (putQs (qsts m.qp) (headS m))) := by
  have hh : (headS m).1.length ≤ 42 := by have := length_headTo [] m 3; simpa [headS] using this
  have hq0 : m.qp.length ≤ sumTo m 3 := by have := allTo_len m 3; omega
  have hQ (k : Nat) (hk : k ≤ m.qp.length) : GrownS (headS m) (putQs (qsts (m.qp.take k)) (headS m)) k := by
    have h := putQs_good (qsts (m.qp.take k)) (headS m) (GoodR.nil _) fun q h => hq q (by
      obtain ⟨p, hp, e⟩ := List.mem_map.1 h
      exact List.mem_map.2 ⟨p, List.mem_of_mem_take hp, e⟩)
    rwa [length_qsts, List.length_take, Nat.min_eq_left hk] at h
  have hT := hQ m.qp.length (Nat.le_refl _)
  rw [List.take_length] at hT
  have hR (l : List Rt) (hl : ∀ r ∈ l, SoundR r) (n : Nat) (hn1 : l.length = n) (hn2 : n + m.qp.length ≤ 513) : Fine (putRs l (putQs (qsts m.qp) (headS m))) := by
    have h := putRs_good l _ hT.g hl
    rw [hn1] at h
    have a1 := h.l
    have a2 := h.r
    have a3 := hT.l
    have a4 := hT.r
    have a5 : (headS m).2.length = 0 := rfl
    exact ⟨by omega, by omega, h.g⟩
  refine ⟨fun k hk => ?_, fun j hj k hk => ?_, ?_⟩
  · have h := hQ k hk
    have a1 := h.l
    have a2 := h.r
    have a5 : (headS m).2.length = 0 := rfl
    exact ⟨by omega, by omega, h.g⟩
  · have h1 := allTo_len m j
    have h2 := sumTo_up m hj
    refine hR _ ?_ ((allTo m j).length + k) (by rw [List.length_append, length_recs, List.length_take, Nat.min_eq_left hk]) (by omega)
    intro r h
    rcases List.mem_append.1 h with h | h
    · exact allTo_sound hr j r h
    · obtain ⟨p, hp, rfl⟩ := List.mem_map.1 h
      exact hr j p (List.mem_of_mem_take hp)
  · have h1 := allTo_len m 3
    exact hR _ (allTo_sound hr 3) _ rfl (by omega)
/-- What is written in the end. -/
theorem encS_eq {m m' : MV} (e : m'.h = m.h) (eq : m'.qp = m.qp) (e0 : m'.s0 = m.s0) (e1 : m'.s1 = m.s1) (e2 : recs m'.s2.ps = m.msg.exX) : (putRs (allTo m' 3) (putQs (qsts m'.qp) (headS m'))).1 = encM m.msg := by
  have h1 : allTo m' 3 = m.msg.an ++ (m.msg.au ++ m.msg.exX) := by
    rw [allTo_three]
    show recs m'.s0.ps ++ (recs m'.s1.ps ++ recs m'.s2.ps) = _
    rw [e0, e1, e2]
    rfl
  have h2 : headS m' = (m.msg.head, []) := by
    show (headTo [] m' 3, []) = _
    have h3 : headTo [] m' 3 = headM m'.h m'.qp.length m'.s0.ps.length m'.s1.ps.length m'.s2.ps.length := rfl
    have h4 : m'.s2.ps.length = m.msg.exX.length := by rw [← e2, length_recs]
    have h5 : m.msg.head = headM m.h (qsts m.qp).length (recs m.s0.ps).length (recs m.s1.ps).length m.msg.exX.length := rfl
    rw [h3, h5, e, eq, e0, e1, h4, length_qsts, length_recs, length_recs]
  rw [h1, h2, eq]
  rfl






























































































































































































































































































































































































end Go.Proofs.Ythppgofpbpjglaa

namespace Go.Proofs.Ythppgofpbpjglaa
open Go.RowKit

def nilSec : Sec := ⟨none, 0, []⟩
/-- A message that is a head alone. -/
def bareV (h : Hd) : MV := ⟨h, none, 0, [], nilSec, nilSec, nilSec⟩
theorem bare_at (h : Hd) (w : World) (H : Nat) : MAt w H (bareV h) :=
  ⟨⟨Row.empty _ _ _, fun _ h => absurd h (List.not_mem_nil)⟩, ⟨Row.empty _ _ _, fun _ h => absurd h (List.not_mem_nil)⟩, ⟨Row.empty _ _ _, fun _ h => absurd h (List.not_mem_nil)⟩, ⟨Row.empty _ _ _, fun _ h => absurd h (List.not_mem_nil)⟩⟩
theorem bare_sec (h : Hd) (i : Nat) : (bareV h).sec i = nilSec := by unfold MV.sec; split; rfl; split <;> rfl
theorem bare_in {h : Hd} (hh : HIn h) : MIn (bareV h) :=
  ⟨hh, fun _ h => absurd h (List.not_mem_nil), fun i p hp => by rw [bare_sec] at hp; exact absurd hp (List.not_mem_nil), Nat.zero_le _, fun i => by rw [bare_sec]; exact Nat.zero_le _⟩
theorem bare_own (h : Hd) (w : World) : OwnedM w (bareV h) := fun i p hp => by rw [bare_sec] at hp; exact absurd hp (List.not_mem_nil)



end Go.Proofs.Ythppgofpbpjglaa

namespace Go.Proofs.Ythppgofpbpjglaa
open Go.RowKit

theorem wide_255 {n : List (List UInt8)} (h : szN n ≤ 255) : WideN n := wide_sz (Nat.le_trans h (by unfold maxLen; omega))
theorem sound_few {n : List (List UInt8)} (h : soundN n = true) : n.length ≤ 127 := by
  obtain ⟨h1, h2⟩ := soundN_parts h
  have := szN_ge n h1
  omega
theorem fit_wf {n s : Int} (h : fitB n s = true) : (Lit.int .i64 n).wf = true := by
  unfold fitB at h
  simp only [decide_eq_true_eq] at h
  obtain ⟨h1, h2, h3, h4⟩ := h
  have h5 : (2 : Int) ^ (8 * s.toNat) ≤ 72057594037927936 := by
    obtain ⟨k, hk⟩ : ∃ k, k = s.toNat := ⟨_, rfl⟩
    rw [← hk]
    rcases (show k = 1 ∨ k = 2 ∨ k = 3 ∨ k = 4 ∨ k = 5 ∨ k = 6 ∨ k = 7 by omega) with h | h | h | h | h | h | h <;> rw [h] <;> decide +kernel
  have e1 : IntKind.i64.min = -9223372036854775808 := rfl
  have e2 : IntKind.i64.max = 9223372036854775807 := rfl
  simp only [Lit.wf, Bool.and_eq_true, decide_eq_true_eq]
  omega
/-- What is sound is small. -/
theorem SoundR.small {r : Rt} (h : SoundR r) : RIn r ∧ LightR r := by
  have sp := soundP h.d
  have hn := soundN_parts h.n
  have e1 : szN ([] : List (List UInt8)) = 1 := rfl
  have hh : szN r.data.host ≤ 255 ∧ r.data.host.length ≤ 127 := by
    cases hs : (shN r.kind).host with
    | true => exact ⟨(soundN_parts (sp.h hs)).2, sound_few (sp.h hs)⟩
    | false => rw [sp.h0 hs]; exact ⟨by rw [e1]; omega, by simp⟩
  have hm : szN r.data.mail ≤ 255 ∧ r.data.mail.length ≤ 127 := by
    cases hs : (shN r.kind).mail with
    | true => exact ⟨(soundN_parts (sp.m hs)).2, sound_few (sp.m hs)⟩
    | false => rw [sp.m0 hs]; exact ⟨by rw [e1]; omega, by simp⟩
  have hf := sound_few h.n
  have h1 := shN_small r.kind
  have h2 := sp.n
  have h3 := sp.b
  have h4 : (shN r.kind).most ≤ 65535 := by
    unfold shN
    repeat' split
    all_goals decide
  have h5 := sp.t
  have hk : kindB r.kind = true := by have h := h.d; unfold soundD at h; simp only [Bool.and_eq_true] at h; exact h.1
  unfold kindB at hk
  simp only [decide_eq_true_eq] at hk
  obtain ⟨f2, f4⟩ := nums_fit sp.ok
  have e6 : IntKind.i64.min = -9223372036854775808 := rfl
  have e7 : IntKind.i64.max = 9223372036854775807 := rfl
  refine ⟨⟨wide_255 hn.2, ?_, fit_wf h.c, ?_, ⟨wide_255 hh.1, wide_255 hm.1, by unfold maxLen; omega⟩, fun k hk => ?_, fun n hn => ?_⟩, ⟨by omega, by omega, by omega, by omega, by omega, by omega⟩⟩
  · simp only [Lit.wf, Bool.and_eq_true, decide_eq_true_eq]
    omega
  · have := h.t0
    have := h.t1
    simp only [Lit.wf, Bool.and_eq_true, decide_eq_true_eq]
    omega
  · have := sp.tl _ (List.getElem_mem hk)
    unfold maxLen
    omega
  · rw [← List.take_append_drop (shN r.kind).ahead r.data.nums] at hn
    rcases List.mem_append.1 hn with h6 | h6
    · exact fit_wf (f2 n h6)
    · exact fit_wf (f4 n h6)

def SameRsRel (w : World) (k0 : Nat) (i : Value) (wr : World) : Prop := ∃ k : Nat, k ≤ k0 ∧ i = .int .i64 k ∧ Below w.heap.size w wr
set_option maxRecDepth 20000 in
set_option maxHeartbeats 4000000 in
theorem sameRRs_self (w : World) (A B : Option Addr) (c d : Nat) (ps qs : List (RV × Rt)) (hp : RsAt w w.heap.size A ps) (hq : RsAt w w.heap.size B qs) (he : recs ps = recs qs) (hs : ∀ r ∈ recs ps, SoundR r) (hl : ps.length ≤ 1000) :
    Calls Try.prog 45 #[.slice A ps.length c, .slice B qs.length d] w (Gave w (.bool true)) := by
  have hlen : qs.length = ps.length := by rw [← length_recs qs, ← he, length_recs]
  have HP := Lib.hid (fun W' (h : Below w.heap.size w W') => hp.below h)
  have HQ := Lib.hid (fun W' (h : Below w.heap.size w W') => hq.below h)
  have HS := Lib.hid hs
  have HE := Lib.hid (fun k (h1 : k < ps.length) (h2 : k < qs.length) => (show (qs[k]).2 = (ps[k]).2 from by
    have h3 : (recs qs)[k]? = (recs ps)[k]? := by rw [he]
    unfold recs at h3
    rw [List.getElem?_map, List.getElem?_map, List.getElem?_eq_getElem h1, List.getElem?_eq_getElem h2] at h3
    simpa using h3))
  clear hp hq hs he
  have HLQ := Lib.hid hlen
  rw [hlen]
  clear hlen
  go_enter Try.func45, Try.ntmps45
  go_wp2
  go_loopw [5] (SameRsRel w ps.length) (fun i _ => ps.length - (intOf i).toNat)
  case atStart => exact ⟨0, Nat.zero_le _, rfl, Below.refl _ _⟩
  case round =>
  obtain ⟨k, hk, rfl, hb⟩ := hrel
  have HB := Lib.hid hb
  clear hb
  by_cases hlt : k < ps.length
  · have hlq : k < qs.length := by rw [HLQ.out]; exact hlt
    obtain ⟨b1, o1, rfl, hb1, hra, q0, q1, q2, q3, q4, q5, q6, q7, q8⟩ := (HP.out _ HB.out).at_ hlt
    obtain ⟨b2, o2, rfl, hb2, hrb, r0, r1, r2, r3, r4, r5, r6, r7, r8⟩ := (HQ.out _ HB.out).at_ hlq
    have hsr := HS.out _ (List.mem_map.2 ⟨ps[k], List.getElem_mem hlt, rfl⟩)
    have hee := HE.out k hlt hlq
    revert hra hrb q0 q1 q2 q3 q4 q5 q6 q7 q8 r0 r1 r2 r3 r4 r5 r6 r7 r8 hsr hee
    generalize ps[k] = p
    generalize qs[k] = q
    obtain ⟨x, r⟩ := p
    obtain ⟨y, r'⟩ := q
    intro hra q0 q1 q2 q3 q4 q5 q6 q7 q8 hrb r0 r1 r2 r3 r4 r5 r6 r7 r8 hsr hee
    dsimp only at hra q0 q1 q2 q3 q4 q5 q6 q7 q8 hrb r0 r1 r2 r3 r4 r5 r6 r7 r8 hsr hee
    subst hee
    obtain ⟨hin, hlr⟩ := hsr.small
    have hw1 := hlr.l0
    have hw2 := hlr.l1
    have hw3 := hlr.l2
    have hsd := soundP hsr.d
    have hz : Sized r'.data := by
      have e1 : szN ([] : List (List UInt8)) = 1 := rfl
      have h5 := hsd.t
      refine ⟨?_, ?_, by unfold maxLen; omega⟩
      · cases hs : (shN r'.kind).host with
        | true => have := (soundN_parts (hsd.h hs)).2; unfold maxLen; omega
        | false => rw [hsd.h0 hs, e1]; unfold maxLen; omega
      · cases hs : (shN r'.kind).mail with
        | true => have := (soundN_parts (hsd.m hs)).2; unfold maxLen; omega
        | false => rw [hsd.m0 hs, e1]; unfold maxLen; omega
    have HCL := Lib.hid (sameRR_any x y r' r' wr.drew ((hra.below (Below.refl w.heap.size wr).drew).mono HB.out.size) ((hrb.below (Below.refl w.heap.size wr).drew).mono HB.out.size) (by unfold maxLen; omega) hz hz (by unfold maxLen; omega) (by unfold maxLen; omega))
    rw [sameR_self] at HCL
    clear hra hrb hsr hin hlr hw1 hw2 hw3 hsd hz
    go_wp2
    go_still_tail 8, (by kernel_rfl)
    change wpList _ _ _ _ _ wr.drew
    have HBD := Lib.hid HB.out.drew
    clear q0 q1 q2 q3 q4 q5 q6 q7 q8 r0 r1 r2 r3 r4 r5 r6 r7 r8
    go_wp2_with fail
    refine HCL.out.mono ?_
    rintro e w1 ⟨rfl, hb1⟩
    have HB1 := Lib.hid (HBD.out.trans (hb1.mono HBD.out.size))
    clear hb1
    go_wp2
    exact ⟨⟨k + 1, by omega, by go_num, HB1.out⟩, by simp [intOf]; omega⟩
  · obtain rfl : k = ps.length := by omega
    go_wp2
    go_ret
    exact ⟨rfl, HB.out⟩

end Go.Proofs.Ythppgofpbpjglaa

namespace Go.Proofs.Ythppgofpbpjglaa
open Go.RowKit

/-- What is sound is small. -/
theorem soundD_in {k : Int} {d : Dt} (h : soundD k d = true) : DatIn d :=
  (SoundR.small (r := ⟨[], k, 1, 0, d⟩) ⟨(by decide +kernel : soundN [] = true), h, (by decide +kernel : fitB 1 2 = true), (by decide : (0 : Int) ≤ 0), (by decide : (0 : Int) ≤ 2147483647)⟩).1.dat
theorem dat_empty {d : Dt} (h : emptyD d = true) : DatIn d := by
  unfold emptyD at h
  simp only [Bool.and_eq_true, decide_eq_true_eq] at h
  obtain ⟨h0, h1, h2, h3, h4⟩ := h
  have e1 := List.eq_nil_of_length_eq_zero h1
  have e2 := List.eq_nil_of_length_eq_zero h2
  have e3 := List.eq_nil_of_length_eq_zero h3
  have e4 := List.eq_nil_of_length_eq_zero h4
  refine ⟨⟨?_, ?_, by omega⟩, fun k hk => by omega, fun n hn => by rw [e3] at hn; exact absurd hn (List.not_mem_nil)⟩
  · rw [e1]; exact ⟨Nat.zero_le _, fun k hk => absurd hk (Nat.not_lt_zero _)⟩
  · rw [e2]; exact ⟨Nat.zero_le _, fun k hk => absurd hk (Nat.not_lt_zero _)⟩
theorem soundN_wide {n : List (List UInt8)} (h : soundN n = true) : WideN n := wide_255 (soundN_parts h).2
theorem wf_i64 {n : Int} (h1 : -9223372036854775808 ≤ n) (h2 : n ≤ 9223372036854775807) : (Lit.int .i64 n).wf = true := by
  have e1 : IntKind.i64.min = -9223372036854775808 := rfl
  have e2 : IntKind.i64.max = 9223372036854775807 := rfl
  simp only [Lit.wf, Bool.and_eq_true, decide_eq_true_eq]
  omega
theorem typedB_in {k : Int} (h : typedB k = true) : 1 ≤ k ∧ k ≤ 65534 := by
  unfold typedB at h
  simp only [Bool.and_eq_true, decide_eq_true_eq] at h
  exact ⟨h.1, h.2.1⟩
theorem soundF_in {x : FV} (h : soundF x.fact = true) : FIn x := by
  obtain ⟨hh, hk⟩ := soundF_parts h
  obtain ⟨a1, a2, a3, a4, a5, a6⟩ := headB_parts hh
  have a4' := timeB_yes a4
  have wn : WideN x.name := soundN_wide a1
  rcases hk with ⟨k1, hb⟩ | ⟨k1, hb⟩
  · unfold hasB at hb
    simp only [Bool.and_eq_true, decide_eq_true_eq] at hb
    obtain ⟨b1, b2, b3, b4, b5, b6⟩ := hb
    have b1' := typedB_in b1
    have ez : x.zone = [] := List.eq_nil_of_length_eq_zero b4
    have k1' : x.h.knd = 1 := k1
    refine ⟨⟨wf_i64 (by have := b1'.1; show _ ≤ x.fact.h.typ; omega) (by have := b1'.2; show x.fact.h.typ ≤ _; omega), wf_i64 (by omega) (by omega), wf_i64 (by show _ ≤ x.fact.h.rank; omega) (by show x.fact.h.rank ≤ _; omega), wf_i64 (by show _ ≤ x.fact.h.got; omega) (by show x.fact.h.got ≤ _; omega), wf_i64 (by show _ ≤ x.fact.h.ttl; omega) (by show x.fact.h.ttl ≤ _; omega)⟩, wn, ?_, fun p hp => ?_, dat_empty b5⟩
    · rw [ez]; exact ⟨Nat.zero_le _, fun k hk => absurd hk (Nat.not_lt_zero _)⟩
    · exact soundD_in (setOk_each b6 (List.mem_map.2 ⟨p, hp, rfl⟩))
  · obtain ⟨p1, p2, p3, p4, p5, p6, p7⟩ := noB_parts hb
    have e0 : x.sp = [] := by
      have e : (dats x.sp).length = 0 := p3
      rw [length_dats] at e
      exact List.eq_nil_of_length_eq_zero e
    have k1' : x.h.knd = 2 ∨ x.h.knd = 3 := k1
    have ht : -1 ≤ x.h.typ ∧ x.h.typ ≤ 65535 := by
      rcases k1' with k2 | k3
      · have e : typedB x.h.typ = true := by
          have e1 : (decide (x.h.knd = 2) == typedB x.h.typ) = true := p1
          rw [decide_eq_true k2] at e1
          simpa using e1
        have := typedB_in e
        omega
      · rcases p2 with p | p
        · have : x.h.knd = 2 := p
          omega
        · have : x.h.typ = 0 := p
          omega
    refine ⟨⟨wf_i64 (by omega) (by omega), wf_i64 (by omega) (by omega), wf_i64 (by show _ ≤ x.fact.h.rank; omega) (by show x.fact.h.rank ≤ _; omega), wf_i64 (by show _ ≤ x.fact.h.got; omega) (by show x.fact.h.got ≤ _; omega), wf_i64 (by show _ ≤ x.fact.h.ttl; omega) (by show x.fact.h.ttl ≤ _; omega)⟩, wn, soundN_wide p5, fun p hp => ?_, soundD_in p7⟩
    rw [e0] at hp
    exact absurd hp (List.not_mem_nil)

end Go.Proofs.Ythppgofpbpjglaa

namespace Go.Proofs.Ythppgofpbpjglaa
open Go.RowKit

/-- Is this record one of class IN, of this name and type, that says so? -/
def isB (n : List (List UInt8)) (kd : Int) (d : Dt) (r : Rt) : Bool := decide (r.cls = 1) && (decide (r.kind = kd) && (eqN r.name n && sameD r.data d))
def thereB (rs : List Rt) (n : List (List UInt8)) (kd : Int) (d : Dt) : Bool := rs.any (isB n kd d)
theorem thereB_yes {rs : List Rt} {n : List (List UInt8)} {kd : Int} {d : Dt} {r : Rt} (h : r ∈ rs) (hr : isB n kd d r = true) : thereB rs n kd d = true := List.any_eq_true.2 ⟨r, h, hr⟩

def ThereRel (w : World) (z : DV) (d : Dt) (ps : List (RV × Rt)) (n : List (List UInt8)) (kd : Int) (i : Value) (wr : World) : Prop :=
  ∃ k : Nat, k ≤ ps.length ∧ i = .int .i64 k ∧ thereB (recs (ps.take k)) n kd d = false ∧ Whole wr w.heap.size 34 [.slice z.Ab d.bytes.length z.cb, .slice z.Ah d.host.length z.ch, .slice z.Am d.mail.length z.cm, .slice z.An d.nums.length z.cn, .slice z.At d.texts.length z.ct] ∧ Below w.heap.size w wr



























































































































































































































































































































































































































































































































































































































































































































































































































































































































































































































































































































end Go.Proofs.Ythppgofpbpjglaa

namespace Go.Proofs.Ythppgofpbpjglaa
open Go.RowKit

/-- append onto a row of the call's own, as one step of a region that draws. -/
theorem step_append_any {P : Program} {w : World} {ops : Array Oper} {o : Oper} {a : Act} {K : Act → World → Prop} {Q : Exit → Act → World → Prop} {E : Prop} (hgd : o.guard = none) (s x : Operand) (t : TypeId)
    (ho : o.op = .call { callee := .builtin .append, args := #[s, x], argTypes := #[t, t] })
    (base : Nat) (e : TypeId) (i : TypeInfo) (z : Value) (size bytes : Nat) (ht : P.underlying t = some (.slice e)) (hi : P.info? e = some i) (hz : i.zero = some z)
    (hsize : i.size = size) (hby : i.bytes = bytes) (hzs : z.cells.size = size) (hsz : 0 < size)
    (v : Value) (n : Nat) (xs : List Value) (hs : a.eval s = v) (hown : w.ownsRow base e size v n xs)
    (A : Option Addr) (m c H : Nat) (news : List Value) (hx : a.eval x = .slice A m c) (hl : news.length = m * size) (hr : Row w H A news) (h1 : ∀ u ∈ news, u.oneCell' = true)
    (h63 : n + m ≤ maxLen) (hbytes : (n + m) * bytes ≤ 140737488355328) (hbase : base ≤ w.heap.size)
    (h : ∀ v' w', w'.ownsRow base e size v' (n + m) (xs ++ news) → w.grownBy w' v.ownBlock → K (a.put o.dst v') w') : if Region.wanted o (yielded ops a.tmps) = true then Oper.wp P o a w K Q else E := by
  have hw : Region.wanted o (yielded ops a.tmps) = true := by simp [Region.wanted, hgd]
  rw [if_pos hw]
  obtain ⟨v', w', hrun, h2, h3⟩ := append_row_run (P := P) w base t o.type e i z size bytes ht hi hz hsize hby hzs hsz v n xs hown A m c H news hl hr h1 h63 hbytes hbase
  unfold Oper.wp
  simp [execOp, ho, resolve, invoke, builtin, hs, hx, hrun, Result.andThen]
  exact h v' w' h2 h3

end Go.Proofs.Ythppgofpbpjglaa

namespace Go.Proofs.Ythppgofpbpjglaa
open Go.RowKit

theorem int_info : (Try.prog.info? 3).map (fun i => (i.zero, i.size, i.bytes)) = some (some (.int .i64 0), 1, 8) := by kernel_rfl
/-- A number as a cell. -/
def iv (n : Nat) : Value := .int .i64 (n : Int)
theorem iv_one (l : List Nat) : ∀ u ∈ l.map iv, u.oneCell' = true := by
  intro u hu
  obtain ⟨x, _, rfl⟩ := List.mem_map.1 hu
  rfl









theorem own_capM {w : World} {base : Nat} {t : TypeId} {A : Option Addr} {n c : Nat} {xs : List Value} {size : Nat} (h : w.ownsRow base t size (.slice A n c) n xs) : c ≤ maxLen := by
  obtain ⟨A', c', e, _, h2⟩ := own_form h
  injection e with _ _ e
  omega
theorem ownF_new {g j : Nat} (h : ownF g (.slice none 0 0) (.map none) j) : j = g := by
  rcases h with h | h | h
  · exact h
  · simp [Value.ownBlock] at h
  · cases h
section
variable {w w' : World} {base g1 : Nat} {vB1 vM1 : Value} {B1 : List UInt8} {R1 : Rs} {g2 : Nat} {vB2 vM2 : Value} {B2 : List UInt8} {R2 : Rs} {va : Value} {ats : List Nat}
































end





























































/-- The names ns stand in B at the places ats, one behind the other, and B ends with the last one. -/
def Laid (ns : List (List (List UInt8))) (B : List UInt8) (ats : List Nat) : Prop :=
  ats.length = ns.length ∧ ∀ i, i < ns.length → AtN B (ats.getD i 0) (ats.getD i 0) (ns.getD i []) ((ats ++ [B.length]).getD (i + 1) 0)
theorem Laid.nil (B : List UInt8) : Laid [] B [] := ⟨rfl, fun _ h => absurd h (Nat.not_lt_zero _)⟩
theorem getD_left {α : Type} {l m : List α} {i : Nat} {d : α} (h : i < l.length) : (l ++ m).getD i d = l.getD i d := by
  simp [List.getD, List.getElem?_append_left h]
theorem getD_at {α : Type} {l : List α} {a d : α} {i : Nat} (h : i = l.length) : (l ++ [a]).getD i d = a := by
  subst h
  simp [List.getD]
theorem Laid.snoc {ns : List (List (List UInt8))} {B B' S : List UInt8} {ats : List Nat} {n : List (List UInt8)} (h : Laid ns B ats) (hB : B' = B ++ S) (hn : AtN B' B.length B.length n B'.length) : Laid (ns ++ [n]) B' (ats ++ [B.length]) := by
  obtain ⟨h1, h2⟩ := h
  refine ⟨by simp [h1], fun i hi => ?_⟩
  simp only [List.length_append, List.length_cons, List.length_nil] at hi
  by_cases hlt : i < ns.length
  · rw [getD_left (by omega), getD_left hlt, getD_left (by simp; omega)]
    rw [hB]
    exact (h2 i hlt).more S
  · obtain rfl : i = ns.length := by omega
    rw [getD_at h1.symm, getD_at rfl, getD_at (by simp [h1])]
    exact hn

end Go.Proofs.Ythppgofpbpjglaa

namespace Go.Proofs.Ythppgofpbpjglaa
open Go.RowKit

/-- Has a record few parts, its bytes apart? -/
def fewR (r : Rt) : Bool := decide (r.name.length ≤ 200) && (decide (r.data.host.length ≤ 200) && (decide (r.data.mail.length ≤ 200) && (decide (r.data.texts.length ≤ 100) && decide (r.data.nums.length ≤ 100))))
def sumB (rs : List Rt) : Nat := (rs.map fun r => r.data.bytes.length).sum
def fewQ (q : Qt) : Bool := decide (q.name.length ≤ 200)
def lightM (m : Mt) : Bool := decide (m.all.length ≤ 600) && (decide (m.qs.length ≤ 600) && (m.all.all fewR && (m.qs.all fewQ && decide (sumB m.all < 200000))))
theorem sumB_append (a b : List Rt) : sumB (a ++ b) = sumB a + sumB b := by simp [sumB]
theorem len_le_sumB {rs : List Rt} {r : Rt} (h : r ∈ rs) : r.data.bytes.length ≤ sumB rs := by
  induction rs with
  | nil => exact absurd h (List.not_mem_nil)
  | cons x rs ih =>
    have e : sumB (x :: rs) = x.data.bytes.length + sumB rs := by simp [sumB]
    rcases List.mem_cons.1 h with rfl | h
    · omega
    · have := ih h
      omega
/-- What a light message is. -/
structure LightM (m : Mt) : Prop where
  n : m.all.length ≤ 600
  q : m.qs.length ≤ 600
  r : ∀ r ∈ m.all, LightR r
  k : ∀ q ∈ m.qs, q.name.length ≤ 200
theorem lightM_iff {m : Mt} (h : lightM m = true) : LightM m := by
  unfold lightM at h
  simp only [Bool.and_eq_true, decide_eq_true_eq, List.all_eq_true] at h
  obtain ⟨h0, h1, h2, h3, h4⟩ := h
  refine ⟨h0, h1, fun r hr => ?_, fun q hq => by have := h3 q hq; unfold fewQ at this; simpa using this⟩
  have h5 := h2 r hr
  unfold fewR at h5
  simp only [Bool.and_eq_true, decide_eq_true_eq] at h5
  obtain ⟨e0, e1, e2, e3, e4⟩ := h5
  exact ⟨e0, e1, e2, e3, e4, by have := len_le_sumB hr; omega⟩

theorem sumB_le {M : Nat} : ∀ {rs : List Rt}, (∀ r ∈ rs, r.data.bytes.length ≤ M) → sumB rs ≤ rs.length * M
  | [], _ => Nat.zero_le _
  | r :: rs, h => by
    have h1 := sumB_le (rs := rs) fun x hx => h x (List.mem_cons_of_mem _ hx)
    have h2 := h r (List.mem_cons_self)
    have e : sumB (r :: rs) = r.data.bytes.length + sumB rs := by simp [sumB]
    rw [e, List.length_cons, Nat.succ_mul]
    omega
theorem qsts_step {ps : List (QV × Qt)} {k : Nat} (hk : k < ps.length) : qsts (ps.take (k + 1)) = qsts (ps.take k) ++ [(ps[k]).2] := by
  rw [List.take_succ_eq_append_getElem hk, qsts_append]
  rfl
def SumRelL (W : World) (ps : List (RV × Rt)) (s i : Value) (wr : World) : Prop := ∃ k : Nat, k ≤ ps.length ∧ i = .int .i64 k ∧ s = .int .i64 (sumB (recs (ps.take k)) : Nat) ∧ (recs (ps.take k)).all fewR = true ∧ Below W.heap.size W wr
def FewQRel (w : World) (L : List Value) (qp : List (QV × Qt)) (i : Value) (wr : World) : Prop := ∃ k : Nat, k ≤ qp.length ∧ i = .int .i64 k ∧ (qsts (qp.take k)).all fewQ = true ∧ Whole wr w.heap.size 43 L ∧ Below w.heap.size w wr
def AllRel (w : World) (L : List Value) (ps : List (RV × Rt)) (v : Value) (wx : World) : Prop :=
  ∃ (A : Option Addr) (c : Nat), v = .slice A ps.length c ∧ Row wx wx.heap.size A (ps.flatMap cellsR) ∧ Whole wx w.heap.size 43 L ∧ Below w.heap.size w wx

end Go.Proofs.Ythppgofpbpjglaa

namespace Go.Proofs.Ythppgofpbpjglaa
open Go.RowKit

def smallR (r : Rt) : Bool := decide (r.name.length ≤ 200) && (decide (r.data.bytes.length ≤ 3000) && (decide (r.data.host.length ≤ 200) && (decide (r.data.mail.length ≤ 200) && (decide (r.data.texts.length ≤ 100) && decide (r.data.nums.length ≤ 100)))))
def lightG (m : Mt) : Bool := m.all.all smallR && (decide (m.all.length ≤ 150) && decide (m.qs.length ≤ 50))
/-- What a light message is. -/
structure LightG (m : Mt) : Prop where
  n : m.all.length ≤ 150
  q : m.qs.length ≤ 50
  r : ∀ r ∈ m.all, LightR r
  b : ∀ r ∈ m.all, r.data.bytes.length ≤ 3000
theorem lightG_iff {m : Mt} (h : lightG m = true) : LightG m := by
  unfold lightG at h
  simp only [Bool.and_eq_true, decide_eq_true_eq, List.all_eq_true] at h
  obtain ⟨h0, h1, h2⟩ := h
  have h3 : ∀ r ∈ m.all, LightR r ∧ r.data.bytes.length ≤ 3000 := fun r hr => by
    have h5 := h0 r hr
    unfold smallR at h5
    simp only [Bool.and_eq_true, decide_eq_true_eq] at h5
    obtain ⟨e0, e1, e2, e3, e4, e5⟩ := h5
    exact ⟨⟨e0, e2, e3, e4, e5, by omega⟩, e1⟩
  exact ⟨h1, h2, fun r hr => (h3 r hr).1, fun r hr => (h3 r hr).2⟩
def SmallRRel (W : World) (ps : List (RV × Rt)) (i : Value) (wr : World) : Prop := ∃ k : Nat, k ≤ ps.length ∧ i = .int .i64 k ∧ (recs (ps.take k)).all smallR = true ∧ Below W.heap.size W wr

set_option maxRecDepth 20000 in
set_option maxHeartbeats 8000000 in
theorem flight_core (w : World) (m : MV) (h : Hd) (qA : Option Addr) (qc : Nat) (qp : List (QV × Qt)) (A0 A1 A2 : Option Addr) (k0 k1 k2 : Nat) (p0 p1 p2 : List (RV × Rt)) (he : m = ⟨h, qA, qc, qp, ⟨A0, k0, p0⟩, ⟨A1, k1, p1⟩, ⟨A2, k2, p2⟩⟩) (hm : MAt w w.heap.size m)
    (hn : (p0.length + p1.length + p2.length) * 168 ≤ 140737488355328) (hq : qp.length ≤ maxLen) :
    Calls Try.prog 19 #[valM h (.slice qA qp.length qc) (.slice A0 p0.length k0) (.slice A1 p1.length k1) (.slice A2 p2.length k2)] w (Gave w (.bool (lightG m.msg))) := by
  obtain ⟨i0, hi0, hz0, hz1, hz2⟩ := info_parts rr_info
  obtain ⟨W, hW⟩ : ∃ W, W = w.alloc (.cells #[.int .i64 h.id, .bool h.resp, .int .i64 h.op, .bool h.aa, .bool h.tc, .bool h.rd, .bool h.ra, .int .i64 h.rc, .slice qA qp.length qc, .slice A0 p0.length k0, .slice A1 p1.length k1, .slice A2 p2.length k2, .bool h.edns, .int .i64 h.size] 43) := ⟨_, rfl⟩
  have hB : Below w.heap.size w W := by rw [hW]; exact (Below.refl _ _).alloc (Nat.le_refl _) _
  have hzW : W.heap.size = w.heap.size + 1 := by rw [hW]; simp
  have hwm : Whole W w.heap.size 43 (cellsM h (.slice qA qp.length qc) (.slice A0 p0.length k0) (.slice A1 p1.length k1) (.slice A2 p2.length k2)) := by rw [hW]; exact Whole.made w [.int .i64 h.id, .bool h.resp, .int .i64 h.op, .bool h.aa, .bool h.tc, .bool h.rd, .bool h.ra, .int .i64 h.rc, .slice qA qp.length qc, .slice A0 p0.length k0, .slice A1 p1.length k1, .slice A2 p2.length k2, .bool h.edns, .int .i64 h.size] _
  have hbl : Below W.heap.size W (W.alloc (.cells #[] 54)).drew := ((Below.refl _ _).alloc (Nat.le_refl _) _).drew
  have HL := Lib.hid (show (W.alloc (.cells #[] 54)).drew.ownsRow (w.heap.size + 1) 54 9 (.slice (some ⟨w.heap.size + 1, 0, none⟩) 0 0) 0 [] from by
    have h1 := own_lit W 54 9
    rw [hzW] at h1
    exact own_keep h1 fun _ _ => rfl)
  have HBL := Lib.hid (hB.trans (hbl.mono hB.size))
  have HWL := Lib.hid (hwm.below hbl hwm.lt)
  have hzl : w.heap.size + 1 ≤ (W.alloc (.cells #[] 54)).drew.heap.size := by have := hbl.size; omega
  have HZL := Lib.hid hzl
  have HS0 := Lib.hid (fun W' (hb : Below w.heap.size w W') => (show RsAt W' w.heap.size A0 p0 by have h2 := hm.s0.below hb; rw [he] at h2; exact h2))
  have HS1 := Lib.hid (fun W' (hb : Below w.heap.size w W') => (show RsAt W' w.heap.size A1 p1 by have h2 := hm.s1.below hb; rw [he] at h2; exact h2))
  have HS2 := Lib.hid (fun W' (hb : Below w.heap.size w W') => (show RsAt W' w.heap.size A2 p2 by have h2 := hm.s2.below hb; rw [he] at h2; exact h2))
  have HE := Lib.hid he
  have c9 : (W.alloc (.cells #[] 54)).drew.cell? ⟨w.heap.size, 9, none⟩ = some (.slice A0 p0.length k0) := HWL.out.cell 9
  have c10 : (W.alloc (.cells #[] 54)).drew.cell? ⟨w.heap.size, 10, none⟩ = some (.slice A1 p1.length k1) := HWL.out.cell 10
  have c11 : (W.alloc (.cells #[] 54)).drew.cell? ⟨w.heap.size, 11, none⟩ = some (.slice A2 p2.length k2) := HWL.out.cell 11
  clear hB hwm hbl hm he hzl hzW
  subst hW
  go_enter Try.func19, Try.ntmps19
  go_upto_region 1 with fail
  go_cut [3] from 6 to 15 (fun s3 wx => AllRel w (cellsM h (.slice qA qp.length qc) (.slice A0 p0.length k0) (.slice A1 p1.length k1) (.slice A2 p2.length k2)) (p0 ++ p1 ++ p2) s3 wx)
  case first =>
   go_region_law (first
     | (refine step_append_any rfl (.tmp 6) (.tmp 8) _ rfl (w.heap.size + 1) 54 i0 _ 9 168 Try.underlying22 hi0 hz0 hz1 hz2 rfl (by omega) (.slice (some ⟨w.heap.size + 1, 0, none⟩) 0 0) 0 _ rfl HL.out
          A0 p0.length k0 w.heap.size (p0.flatMap cellsR) rfl (length_flat cellsR_len p0) (HS0.out _ HBL.out).1 (cellsR_one p0) (by unfold maxLen; omega) (by omega) HZL.out ?_
        intro v1 w1 hown1 hg1
        rw [Nat.zero_add, List.nil_append] at hown1
        have HB1 := Lib.hid (own_below HBL.out (Nat.le_succ _) HBL.out.size HL.out hg1)
        have HW1 := Lib.hid (HWL.out.grown hg1 (by simp [Value.ownBlock]))
        have HZ1 := Lib.hid (Nat.le_trans HZL.out hg1.size)
        obtain ⟨B1, d1, rfl, _, _⟩ := own_form hown1
        have HO1 := Lib.hid hown1
        have c10 : w1.cell? ⟨w.heap.size, 10, none⟩ = some (.slice A1 p1.length k1) := HW1.out.cell 10
        have c11 : w1.cell? ⟨w.heap.size, 11, none⟩ = some (.slice A2 p2.length k2) := HW1.out.cell 11
        clear hown1 hg1)
     | (refine step_append_any rfl (.tmp 9) (.tmp 11) _ rfl (w.heap.size + 1) 54 i0 _ 9 168 Try.underlying22 hi0 hz0 hz1 hz2 rfl (by omega) (.slice B1 p0.length d1) p0.length _ rfl HO1.out
          A1 p1.length k1 w.heap.size (p1.flatMap cellsR) rfl (length_flat cellsR_len p1) (HS1.out _ HB1.out).1 (cellsR_one p1) (by unfold maxLen; omega) (by omega) HZ1.out ?_
        intro v2 w2 hown2 hg2
        have HB2 := Lib.hid (own_below HB1.out (Nat.le_succ _) HB1.out.size HO1.out hg2)
        have HW2 := Lib.hid (HW1.out.grown hg2 (fun h => by have := (HO1.out.lt _ h.symm).1; omega))
        have HZ2 := Lib.hid (Nat.le_trans HZ1.out hg2.size)
        obtain ⟨B2, d2, rfl, _, _⟩ := own_form hown2
        have HO2 := Lib.hid hown2
        have c11 : w2.cell? ⟨w.heap.size, 11, none⟩ = some (.slice A2 p2.length k2) := HW2.out.cell 11
        clear hown2 hg2)
     | (refine step_append_any rfl (.tmp 12) (.tmp 14) _ rfl (w.heap.size + 1) 54 i0 _ 9 168 Try.underlying22 hi0 hz0 hz1 hz2 rfl (by omega) (.slice B2 (p0.length + p1.length) d2) (p0.length + p1.length) _ rfl HO2.out
          A2 p2.length k2 w.heap.size (p2.flatMap cellsR) rfl (length_flat cellsR_len p2) (HS2.out _ HB2.out).1 (cellsR_one p2) (by unfold maxLen; omega) (by omega) HZ2.out ?_
        intro v3 w3 hown3 hg3
        have HB3 := Lib.hid (own_below HB2.out (Nat.le_succ _) HB2.out.size HO2.out hg3)
        have HW3 := Lib.hid (HW2.out.grown hg3 (fun h => by have := (HO2.out.lt _ h.symm).1; omega))
        obtain ⟨B3, d3, rfl, _, _⟩ := own_form hown3
        have HO3 := Lib.hid hown3
        clear hown3 hg3))
   all_goals
    have HRR := Lib.hid (show AllRel w (cellsM h (.slice qA qp.length qc) (.slice A0 p0.length k0) (.slice A1 p1.length k1) (.slice A2 p2.length k2)) (p0 ++ p1 ++ p2) (.slice B3 (p0.length + p1.length + p2.length) d3) w3 from
      ⟨B3, d3, by rw [List.length_append, List.length_append], by rw [List.flatMap_append, List.flatMap_append]; exact Row.of_own HO3.out, HW3.out, HB3.out⟩)
    go_wp2
    go_meet
    exact HRR.out
  case rest =>
    obtain ⟨A, c, rfl, hrow, hw, hb⟩ := hcut
    have HB := Lib.hid hb
    have HW := Lib.hid hw
    have HPS := Lib.hid (show RsAt wc wc.heap.size A (p0 ++ p1 ++ p2) from ⟨hrow, fun p hp => by
      rcases List.mem_append.1 hp with h1 | h1
      · rcases List.mem_append.1 h1 with h1 | h1
        · exact ((HS0.out _ hb).2 p h1).mono hb.size
        · exact ((HS1.out _ hb).2 p h1).mono hb.size
      · exact ((HS2.out _ hb).2 p h1).mono hb.size⟩)
    have HLM := Lib.hid (show lightG m.msg = ((recs (p0 ++ p1 ++ p2)).all smallR && (decide ((p0 ++ p1 ++ p2).length ≤ 150) && decide (qp.length ≤ 50))) from by
      have e1 : m.msg.all = recs (p0 ++ p1 ++ p2) := by rw [HE.out]; show recs p0 ++ (recs p1 ++ recs p2) = _; simp [recs_append]
      have e2 : m.msg.qs = qsts qp := by rw [HE.out]; rfl
      unfold lightG
      rw [e1, e2, length_recs, length_qsts])
    have hlp : (p0 ++ p1 ++ p2).length * 168 ≤ 140737488355328 := by rw [List.length_append, List.length_append]; exact hn
    clear hrow hw hb HS0 HS1 HS2 HBL HWL HZL HL hn
    revert HPS HLM hlp
    generalize p0 ++ p1 ++ p2 = ps
    intro HPS HLM hlp
    unfold maxLen at hq
    go_wp2
    go_loopw [4] (SmallRRel wc ps) (fun i _ => ps.length - (intOf i).toNat)
    case atStart => exact ⟨0, Nat.zero_le _, rfl, rfl, Below.refl _ _⟩
    case round =>
    obtain ⟨k, hk, rfl, hal, hbr⟩ := hrel
    have HAL := Lib.hid hal
    have HBR := Lib.hid hbr
    have HB1 := Lib.hid (HB.out.trans (hbr.mono HB.out.size))
    have hz := hbr.size
    have hzz := HB.out.size
    clear hal hbr
    by_cases hlt : k < ps.length
    · obtain ⟨b, off, rfl, hbH, hra, q0, q1, q2, q3, q4, q5, q6, q7, q8⟩ := (show RsAt wr wc.heap.size A ps from HPS.out.below HBR.out).at_ hlt
      have HF := Lib.hid (show smallR (ps[k]).2 = false → (recs ps).all smallR = false by
        intro h
        rw [List.all_eq_false]
        exact ⟨(ps[k]).2, List.mem_map.2 ⟨ps[k], List.getElem_mem hlt, rfl⟩, by rw [h]; decide⟩)
      have HT := Lib.hid (show smallR (ps[k]).2 = true → (recs (ps.take (k + 1))).all smallR = true by
        intro h
        rw [recs_at hlt, List.all_append, HAL.out]
        simp [h])
      have hld := hra.d
      have hl0 : (ps[k]).2.data.bytes.length ≤ maxLen := Nat.le_trans hld.lb hld.kb
      clear hra hld
      revert hl0 q0 q1 q2 q3 q4 q5 q6 q7 q8 HF HT
      generalize ps[k] = p
      obtain ⟨x, r⟩ := p
      intro q0 q1 q2 q3 q4 q5 q6 q7 q8 HF HT hl0
      dsimp only at *
      unfold maxLen at hl0
      have r0 : (wr.alloc (.cells #[.slice x.d.Ab r.data.bytes.length x.d.cb, .slice x.d.Ah r.data.host.length x.d.ch, .slice x.d.Am r.data.mail.length x.d.cm, .slice x.d.An r.data.nums.length x.d.cn, .slice x.d.At r.data.texts.length x.d.ct] 34)).cell? ⟨b, off + k * 9, none⟩ = some (.slice x.A r.name.length x.c) := (World.cell?_alloc_lt wr _ ⟨b, off + k * 9, none⟩ (by dsimp only; omega)).trans q0
      have HB2 := Lib.hid (HB1.out.alloc (by omega) (.cells #[.slice x.d.Ab r.data.bytes.length x.d.cb, .slice x.d.Ah r.data.host.length x.d.ch, .slice x.d.Am r.data.mail.length x.d.cm, .slice x.d.An r.data.nums.length x.d.cn, .slice x.d.At r.data.texts.length x.d.ct] 34))
      have HBR2 := Lib.hid (HBR.out.alloc hz (.cells #[.slice x.d.Ab r.data.bytes.length x.d.cb, .slice x.d.Ah r.data.host.length x.d.ch, .slice x.d.Am r.data.mail.length x.d.cm, .slice x.d.An r.data.nums.length x.d.cn, .slice x.d.At r.data.texts.length x.d.ct] 34))
      by_cases e1 : r.name.length ≤ 200
      case neg =>
        have d1 : decide ((200 : Int) < (r.name.length : Int)) = true := by simp; omega
        have HX := Lib.hid (HF.out (by unfold smallR; rw [decide_eq_false e1]; simp))
        go_wp2
        go_ret
        exact ⟨by rw [HLM.out, HX.out]; rfl, HB2.out⟩
      have d1 : decide ((200 : Int) < (r.name.length : Int)) = false := by simp; omega
      by_cases e2 : r.data.bytes.length ≤ 3000
      case neg =>
        have d2 : decide ((3000 : Int) < (r.data.bytes.length : Int)) = true := by simp; omega
        have HX := Lib.hid (HF.out (by unfold smallR; rw [decide_eq_false e2]; simp))
        go_wp2
        go_ret
        exact ⟨by rw [HLM.out, HX.out]; rfl, HB2.out⟩
      have d2 : decide ((3000 : Int) < (r.data.bytes.length : Int)) = false := by simp; omega
      by_cases e3 : r.data.host.length ≤ 200
      case neg =>
        have d3 : decide ((200 : Int) < (r.data.host.length : Int)) = true := by simp; omega
        have HX := Lib.hid (HF.out (by unfold smallR; rw [decide_eq_false e3]; simp))
        go_wp2
        go_ret
        exact ⟨by rw [HLM.out, HX.out]; rfl, HB2.out⟩
      have d3 : decide ((200 : Int) < (r.data.host.length : Int)) = false := by simp; omega
      by_cases e4 : r.data.mail.length ≤ 200
      case neg =>
        have d4 : decide ((200 : Int) < (r.data.mail.length : Int)) = true := by simp; omega
        have HX := Lib.hid (HF.out (by unfold smallR; rw [decide_eq_false e4]; simp))
        go_wp2
        go_ret
        exact ⟨by rw [HLM.out, HX.out]; rfl, HB2.out⟩
      have d4 : decide ((200 : Int) < (r.data.mail.length : Int)) = false := by simp; omega
      by_cases e5 : r.data.texts.length ≤ 100
      case neg =>
        have d5 : decide ((100 : Int) < (r.data.texts.length : Int)) = true := by simp; omega
        have HX := Lib.hid (HF.out (by unfold smallR; rw [decide_eq_false e5]; simp))
        go_wp2
        go_ret
        exact ⟨by rw [HLM.out, HX.out]; rfl, HB2.out⟩
      have d5 : decide ((100 : Int) < (r.data.texts.length : Int)) = false := by simp; omega
      by_cases e6 : r.data.nums.length ≤ 100
      case neg =>
        have d6 : decide ((100 : Int) < (r.data.nums.length : Int)) = true := by simp; omega
        have HX := Lib.hid (HF.out (by unfold smallR; rw [decide_eq_false e6]; simp))
        go_wp2
        go_ret
        exact ⟨by rw [HLM.out, HX.out]; rfl, HB2.out⟩
      have d6 : decide ((100 : Int) < (r.data.nums.length : Int)) = false := by simp; omega
      have HX := Lib.hid (HT.out (by unfold smallR; simp [e1, e2, e3, e4, e5, e6]))
      go_wp2
      exact ⟨⟨k + 1, by omega, by go_num, HX.out, HBR2.out⟩, by simp [intOf]; omega⟩
    · obtain rfl : k = ps.length := by omega
      have hal := HAL.out
      rw [List.take_length] at hal
      rw [hal] at HLM
      have hwr : Whole wr w.heap.size 43 (cellsM h (.slice qA qp.length qc) (.slice A0 p0.length k0) (.slice A1 p1.length k1) (.slice A2 p2.length k2)) := HW.out.below HBR.out HW.out.lt
      have c8 : wr.cell? ⟨w.heap.size, 8, none⟩ = some (.slice qA qp.length qc) := Whole.cell hwr 8
      clear hal hwr HAL HPS hlt
      by_cases e7 : ps.length ≤ 150
      case neg =>
        have d7 : decide ((ps.length : Int) ≤ 150) = false := decide_eq_false (by omega)
        rw [decide_eq_false e7] at HLM
        go_wp2
        go_ret
        exact ⟨by rw [HLM.out]; rfl, HB1.out⟩
      have d7 : decide ((ps.length : Int) ≤ 150) = true := decide_eq_true (by omega)
      rw [decide_eq_true e7] at HLM
      by_cases e8 : qp.length ≤ 50
      case neg =>
        have d8 : decide ((qp.length : Int) ≤ 50) = false := decide_eq_false (by omega)
        rw [decide_eq_false e8] at HLM
        go_wp2
        go_ret
        exact ⟨by rw [HLM.out]; rfl, HB1.out⟩
      have d8 : decide ((qp.length : Int) ≤ 50) = true := decide_eq_true (by omega)
      rw [decide_eq_true e8] at HLM
      go_wp2
      go_ret
      exact ⟨by rw [HLM.out]; rfl, HB1.out⟩

theorem flight_any (w : World) (m : MV) (hm : MAt w w.heap.size m) (hn : (m.s0.ps.length + m.s1.ps.length + m.s2.ps.length) * 168 ≤ 140737488355328) (hq : m.qp.length ≤ maxLen) :
    Calls Try.prog 19 #[m.val] w (Gave w (.bool (lightG m.msg))) := by
  obtain ⟨h, qA, qc, qp, ⟨A0, k0, p0⟩, ⟨A1, k1, p1⟩, ⟨A2, k2, p2⟩⟩ := m
  exact flight_core w _ h qA qc qp A0 A1 A2 k0 k1 k2 p0 p1 p2 rfl hm hn hq

end Go.Proofs.Ythppgofpbpjglaa

namespace Go.Proofs.Ythppgofpbpjglaa
open Go.RowKit

/-- May the question q be the one of these? -/
def okQ (q : Qt) (l : List Qt) : Bool := match l with
  | [x] => eqN x.name q.name && (decide (x.kind = q.kind) && decide (x.cls = q.cls))
  | _ => false
/-- May facts come of this response? -/
def fromOk (q : Qt) (m : Mt) (z : List (List UInt8)) (now : Int) : Bool :=
  soundN q.name && (soundN z && (timeB now && (soundM m && (m.h.resp && (decide (m.h.op = 0) && ((decide (m.h.rc = 0) || decide (m.h.rc = 3)) && okQ q m.qs))))))
/-- What is asked of each fact that comes of a response of a server of zone z. -/
structure ToldF (m : Mt) (z : List (List UInt8)) (now : Int) (f : Fc) : Prop where
  s : soundF f = true
  u : underN f.name z = true
  g : f.h.got = now
  n : f.h.knd ≠ 1 → underN f.zone z = true ∧ thereB m.all f.zone 6 f.soa = true
  h : f.h.knd = 1 → ∀ d ∈ f.set, thereB m.all f.name f.h.typ d = true

/-- The first n cells from A on lie in a block of type T, of B or above. -/
def NewT (w : World) (B : Nat) (A : Option Addr) (n : Nat) (T : TypeId) : Prop :=
  0 < n → ∃ b off L, A = some ⟨b, off, none⟩ ∧ B ≤ b ∧ w.heap[b]? = some (.cells L T (0, 0))
theorem NewT.below {w w' : World} {B H : Nat} {A : Option Addr} {n : Nat} {T : TypeId} (h : NewT w B A n T) (hb : Below H w w') (hw : w.heap.size ≤ H) : NewT w' B A n T := fun hn => by
  obtain ⟨b, off, L, e, hB, hh⟩ := h hn
  have hlt : b < w.heap.size := by
    rcases Nat.lt_or_ge b w.heap.size with hl | hl
    · exact hl
    · rw [Array.getElem?_eq_none hl] at hh; cases hh
  exact ⟨b, off, L, e, hB, (hb.block b (by omega)).trans hh⟩
theorem NewT.of_own {w : World} {B : Nat} {T : TypeId} {size n c : Nat} {A : Option Addr} {xs : List Value} (h : w.ownsRow B T size (.slice A n c) n xs) : NewT w B A n T := fun hn => by
  rcases h.2 with ⟨_, h0⟩ | ⟨g, cap, cur, hv, hg, hh, _⟩
  · omega
  · have hA : A = some ⟨g, 0, none⟩ := by injection hv
    exact ⟨g, 0, cur, hA, hg, hh⟩
/-- A fact's memory is new. -/
structure FactT (w : World) (B : Nat) (x : FV) : Prop where
  n : NewT w B x.A x.name.length 9
  s : NewT w B x.sA x.sp.length 34
  b : ∀ p ∈ x.sp, NewT w B p.1.Ab p.2.bytes.length 5
  h : ∀ p ∈ x.sp, NewT w B p.1.Ah p.2.host.length 9
theorem FactT.below {w w' : World} {B H : Nat} {x : FV} (h : FactT w B x) (hb : Below H w w') (hw : w.heap.size ≤ H) : FactT w' B x :=
  ⟨h.n.below hb hw, h.s.below hb hw, fun p hp => (h.b p hp).below hb hw, fun p hp => (h.h p hp).below hb hw⟩

/-- What From answers. -/
def FromOut (w : World) (q : Qt) (m : Mt) (z : List (List UInt8)) (now : Int) (e : Ending) (w' : World) : Prop :=
  ∃ A c xs, e = .returned (.slice A xs.length c) ∧ FsAt w' w'.heap.size A xs ∧ NewT w' w.heap.size A xs.length 50 ∧ (∀ x ∈ xs, FactT w' w.heap.size x) ∧ xs.length ≤ maxLen ∧ (fromOk q m z now = false → xs = []) ∧
    (∀ x ∈ xs, ToldF m z now x.fact) ∧ Below w.heap.size w w'

/-- What the statements ask of the program. -/
structure FactSpec : Prop where
  snd : ∀ (w : World) (x : FV), FAt w w.heap.size x → FIn x → soundF x.fact = true → Calls Try.prog 36 #[x.val] w (Gave w (.bool true))
  frm : ∀ (w : World) (y : QV) (q : Qt) (m : MV) (A : Option Addr) (c : Nat) (z : List (List UInt8)) (now : Int), QAt w w.heap.size y q → QIn q → q.name.length ≤ 200 → q.name.length ≤ y.2 → MAt w w.heap.size m → MIn m → LightG m.msg →
    Row w w.heap.size A (z.map sv) → szN z ≤ maxLen → z.length ≤ 200 → z.length ≤ c → (Lit.int .i64 now).wf = true →
    Calls Try.prog 20 #[valQ y q, m.val, .slice A z.length c, .int .i64 now] w (FromOut w q m.msg z now)

end Go.Proofs.Ythppgofpbpjglaa

namespace Go.Proofs.Ythppgofpbpjglaa
open Go.RowKit

theorem sameD_refl (d : Dt) : sameD d d = true := by simp [sameD, eqN]
theorem isB_of {n : List (List UInt8)} {k : Int} {r : Rt} (h : selR n k r = true) : isB n k r.data r = true := by
  unfold selR at h
  unfold isB
  simp only [Bool.and_eq_true] at h ⊢
  exact ⟨h.1, h.2.1, h.2.2, sameD_refl _⟩
theorem stepS_mem {s : List Dt × Int} {r : Rt} {d : Dt} (h : d ∈ (stepS s r).1) : d ∈ s.1 ∨ d = r.data := by
  unfold stepS at h
  dsimp only at h
  split at h
  · exact .inl h
  · rcases List.mem_append.1 h with h | h
    · exact .inl h
    · exact .inr (List.mem_singleton.1 h)
theorem fold_mem {d : Dt} : ∀ (l : List Rt) (s : List Dt × Int), d ∈ (l.foldl stepS s).1 → d ∈ s.1 ∨ ∃ r ∈ l, d = r.data
  | [], _, h => .inl h
  | r :: l, s, h => by
    rcases fold_mem l (stepS s r) h with h1 | ⟨r', h1, h2⟩
    · rcases stepS_mem h1 with h2 | h2
      · exact .inl h2
      · exact .inr ⟨r, List.mem_cons_self, h2⟩
    · exact .inr ⟨r', List.mem_cons_of_mem _ h1, h2⟩
/-- What the set of a name and a type has, one of the records says. -/
theorem setF_mem {rs : List Rt} {n : List (List UInt8)} {k : Int} {d : Dt} (h : d ∈ (setF rs n k).1) : ∃ r ∈ rs, selR n k r = true ∧ r.data = d := by
  unfold setF at h
  rcases fold_mem _ _ h with h1 | ⟨r, h1, h2⟩
  · exact absurd h1 (List.not_mem_nil)
  · obtain ⟨h3, h4⟩ := List.mem_filter.1 h1
    exact ⟨r, h3, h4, h2.symm⟩
theorem setF_there {rs all : List Rt} {n : List (List UInt8)} {k : Int} {d : Dt} (h : d ∈ (setF rs n k).1) (hs : ∀ r ∈ rs, r ∈ all) : thereB all n k d = true := by
  obtain ⟨r, h1, h2, h3⟩ := setF_mem h
  have h4 := isB_of h2
  rw [h3] at h4
  exact thereB_yes (hs r h1) h4
/-- The names may be spelled otherwise. -/
theorem eqN_lowers {a b c : List (List UInt8)} (h1 : eqN a b = true) (h2 : eqN b c = true) : eqN a c = true := by
  unfold eqN at h1 h2 ⊢
  simp only [decide_eq_true_eq] at h1 h2 ⊢
  exact h1.trans h2
theorem thereB_name {rs : List Rt} {n m : List (List UInt8)} {k : Int} {d : Dt} (h : thereB rs n k d = true) (hn : eqN n m = true) : thereB rs m k d = true := by
  obtain ⟨r, h1, h2⟩ := List.any_eq_true.1 h
  refine thereB_yes h1 ?_
  unfold isB at h2 ⊢
  simp only [Bool.and_eq_true] at h2 ⊢
  exact ⟨h2.1, h2.2.1, eqN_lowers h2.2.2.1 hn, h2.2.2.2⟩
theorem an_all {m : Mt} {r : Rt} (h : r ∈ m.an) : r ∈ m.all := List.mem_append_left _ h
theorem au_all {m : Mt} {r : Rt} (h : r ∈ m.au) : r ∈ m.all := List.mem_append_right _ (List.mem_append_left _ h)
theorem ex_all {m : Mt} {r : Rt} (h : r ∈ m.ex) : r ∈ m.all := List.mem_append_right _ (List.mem_append_right _ h)
/-- A record of a sound message is sound. -/
theorem soundM_rec {m : Mt} (h : soundM m = true) {r : Rt} (hr : r ∈ m.all) : SoundR r := by
  unfold soundM at h
  simp only [Bool.and_eq_true] at h
  have h1 := h.2.2.2
  have h2 := List.all_eq_true.1 h1 r hr
  unfold soundX at h2
  rw [Bool.and_eq_true] at h2
  exact soundR_iff.1 h2.2
/-- A fact that has a set of the message. -/
theorem toldF_set {m : Mt} {z : List (List UInt8)} {now : Int} {rs : List Rt} {f : Fc} (hs : soundF f = true) (hu : underN f.name z = true) (hg : f.h.got = now) (hk : f.h.knd = 1) (hsub : ∀ r ∈ rs, r ∈ m.all) (hset : ∀ d ∈ f.set, d ∈ (setF rs f.name f.h.typ).1) : ToldF m z now f :=
  ⟨hs, hu, hg, fun h => absurd hk h, fun _ d hd => setF_there (hset d hd) hsub⟩
/-- A fact that says there is nothing, by a record of the message. -/
theorem toldF_no {m : Mt} {z : List (List UInt8)} {now : Int} {r : Rt} {f : Fc} (hs : soundF f = true) (hu : underN f.name z = true) (hg : f.h.got = now) (hk : f.h.knd ≠ 1) (hr : r ∈ m.all) (h1 : r.cls = 1) (h6 : r.kind = 6) (hz : eqN r.name f.zone = true) (hd : f.soa = r.data) (hzu : underN f.zone z = true) : ToldF m z now f := by
  refine ⟨hs, hu, hg, fun _ => ⟨hzu, thereB_yes hr ?_⟩, fun h => absurd h hk⟩
  unfold isB
  rw [hd, sameD_refl, hz, decide_eq_true h1, decide_eq_true h6]
  rfl

end Go.Proofs.Ythppgofpbpjglaa

namespace Go.Proofs.Ythppgofpbpjglaa
open Go.RowKit

theorem Whole.range {w : World} {g : Nat} {t : TypeId} {L : List Value} (h : Whole w g t L) {o : Nat} {cs : List Value} (hc : ∀ j v, cs[j]? = some v → L[o + j]? = some v) : w.rangeAt g o cs := fun j v hv => by
  rw [h.cell]; exact hc j v hv
theorem Whole.there {w : World} {g : Nat} {t : TypeId} {L : List Value} (h : Whole w g t L) {o n : Nat} (hn : o + n ≤ L.length) : w.there g o n := fun j hj => by
  refine ⟨?_, h.frozen _⟩
  rw [h.cell, List.getElem?_eq_getElem (by omega)]
  rfl
theorem splice_nil {α : Type} (L : List α) (o : Nat) : splice L o [] = L := by simp [splice]
theorem splice_cons {L : List Value} {o : Nat} {v : Value} {r : List Value} (h : o < L.length) : splice (L.set o v) (o + 1) r = splice L o (v :: r) := by
  unfold splice
  rw [List.take_succ_eq_append_getElem (by simpa using h)]
  simp only [List.getElem_set_self, List.take_set_of_le (Nat.le_refl o), List.length_cons]
  rw [List.drop_set_of_lt (by omega), show o + 1 + r.length = o + (r.length + 1) by omega]
  simp
theorem Whole.setCells {g : Nat} {t : TypeId} : ∀ (vs : List Value) (o : Nat) {w : World} {L : List Value}, Whole w g t L → o + vs.length ≤ L.length → Whole (w.setCells g o vs) g t (splice L o vs)
  | [], o, w, L, h, _ => by rw [splice_nil]; exact h
  | v :: r, o, w, L, h, hl => by
    simp only [List.length_cons] at hl
    have h1 := Whole.setCells r (o + 1) (h.set_ o v) (by simp; omega)
    rw [splice_cons (by omega)] at h1
    exact h1
theorem grew_setCells {F : Nat → Prop} {g : Nat} {w0 : World} : ∀ (vs : List Value) (o : Nat) {w : World}, Grew F w0 w → (F g ∨ w0.heap.size ≤ g) → Grew F w0 (w.setCells g o vs)
  | [], _, _, h, _ => h
  | v :: r, o, _, h, hg => grew_setCells r (o + 1) (h.setCell (a := ⟨g, o, none⟩) hg v) hg
theorem size_setCells {g : Nat} : ∀ (vs : List Value) (o : Nat) (w : World), (w.setCells g o vs).heap.size = w.heap.size
  | [], _, _ => rfl
  | v :: r, o, w => by rw [World.setCells, size_setCells r (o + 1)]; simp
/-- Many cells are stored in a block that is known whole. -/
theorem wpList_store_at {P : Program} {w : World} {ops : Array Oper} {rest : List Oper} {op : Oper} {a : Act} {Q : Exit → Act → World → Prop} (hgd : op.guard = none) (ty : TypeId) (x y : Operand) (ho : op.op = .store ty x y)
    (b o : Nat) (cells : List Value) (hx : a.eval x = .pointer (some ⟨b, o, none⟩)) (hy : a.eval y = .agg cells.toArray) (t : TypeId) (L : List Value) (hw : Whole w b t L) (hfit : o + cells.length ≤ L.length)
    (hi : (P.info? ty).map (·.size) = some cells.length) (h1 : ∀ v ∈ cells, v.oneCell' = true)
    (h : ∀ V, Whole V b t (splice L o cells) → Grew (fun j => j = b) w V → V.heap.size = w.heap.size → wpList P ops Q rest (a.put op.dst undef) V) : wpList P ops Q (op :: rest) a w :=
  wpList_store_mid hgd ty x y ho b o cells.toArray hx hy (by simpa using hw.there hfit) (by simpa using hi) (all_oneCell_toArray h1)
    (h _ (hw.setCells cells o hfit) (grew_setCells cells o (Grew.refl _ _) (.inl rfl)) (size_setCells _ _ _))
theorem wpList_load_at {P : Program} {w : World} {ops : Array Oper} {rest : List Oper} {op : Oper} {a : Act} {Q : Exit → Act → World → Prop} (hgd : op.guard = none) (ty : TypeId) (x : Operand) (ho : op.op = .load ty x)
    (b o : Nat) (hx : a.eval x = .pointer (some ⟨b, o, none⟩)) (cs : List Value) (d : TypeDesc) (hu : P.underlying ty = some d) (hd : d.isRow = true) (hi : (P.info? ty).map (·.size) = some cs.length)
    (t : TypeId) (L : List Value) (hw : Whole w b t L) (hc : ∀ j v, cs[j]? = some v → L[o + j]? = some v)
    (h : wpList P ops Q rest (a.put op.dst (.agg cs.toArray)) w) : wpList P ops Q (op :: rest) a w :=
  wpList_load_mid hgd ty x ho b o hx cs d (hw.range hc) hu hd hi h

/-- A store into a row of the call's own, whatever its elements' size. -/
theorem own_storeG {w : World} {base g : Nat} {e : TypeId} {size n c : Nat} {xs : List Value} (h : w.ownsRow base e size (.slice (some ⟨g, 0, none⟩) n c) n xs) (k : Nat) (u : Value) :
    (w.setCell ⟨g, k, none⟩ u).ownsRow base e size (.slice (some ⟨g, 0, none⟩) n c) n (xs.set k u) := by
  obtain ⟨h1, h2⟩ := h
  refine ⟨by simpa using h1, ?_⟩
  rcases h2 with ⟨hv, _⟩ | ⟨g', cap, cur, hv, hg, hh, h3, h4, h5, h6⟩
  · cases hv
  · injection hv with hv _ hc
    injection hv with hv
    injection hv with hv
    subst hv
    subst hc
    refine .inr ⟨g, c, cur.setIfInBounds k u, rfl, hg, ?_, h3, h4, by simpa using h5, ?_⟩
    · simp [World.setCell, Array.getElem?_modify, hh]
    · rw [← h6]
      simp [List.take_set]
theorem own_setCells {base g : Nat} {e : TypeId} {size n c : Nat} : ∀ (vs : List Value) (o : Nat) {w : World} {xs : List Value}, w.ownsRow base e size (.slice (some ⟨g, 0, none⟩) n c) n xs → o + vs.length ≤ xs.length →
    (w.setCells g o vs).ownsRow base e size (.slice (some ⟨g, 0, none⟩) n c) n (splice xs o vs)
  | [], o, w, L, h, _ => by rw [splice_nil]; exact h
  | v :: r, o, w, L, h, hl => by
    simp only [List.length_cons] at hl
    have h1 := own_setCells r (o + 1) (own_storeG h o v) (by simp; omega)
    rw [splice_cons (by omega)] at h1
    exact h1
theorem own_range {w : World} {base g : Nat} {e : TypeId} {size n c : Nat} {xs : List Value} (h : w.ownsRow base e size (.slice (some ⟨g, 0, none⟩) n c) n xs) {o : Nat} {cs : List Value} (hc : ∀ j v, cs[j]? = some v → xs[o + j]? = some v) : w.rangeAt g o cs := fun j v hv => by
  obtain ⟨h1, h3⟩ := List.getElem?_eq_some_iff.1 (hc j v hv)
  rw [own_cell h h1, h3]
theorem own_there {w : World} {base g : Nat} {e : TypeId} {size n c : Nat} {xs : List Value} (h : w.ownsRow base e size (.slice (some ⟨g, 0, none⟩) n c) n xs) {o k : Nat} (hn : o + k ≤ xs.length) : w.there g o k := fun j hj => by
  refine ⟨?_, own_frozen h _⟩
  rw [own_cell h (by omega)]
  rfl
/-- Many cells are stored in a row of the call's own. -/
theorem wpList_store_own {P : Program} {w : World} {ops : Array Oper} {rest : List Oper} {op : Oper} {a : Act} {Q : Exit → Act → World → Prop} (hgd : op.guard = none) (ty : TypeId) (x y : Operand) (ho : op.op = .store ty x y)
    (b o : Nat) (cells : List Value) (hx : a.eval x = .pointer (some ⟨b, o, none⟩)) (hy : a.eval y = .agg cells.toArray) (base : Nat) (e : TypeId) (size n c : Nat) (L : List Value) (hw : w.ownsRow base e size (.slice (some ⟨b, 0, none⟩) n c) n L) (hfit : o + cells.length ≤ L.length)
    (hi : (P.info? ty).map (·.size) = some cells.length) (h1 : ∀ v ∈ cells, v.oneCell' = true)
    (h : ∀ V, V.ownsRow base e size (.slice (some ⟨b, 0, none⟩) n c) n (splice L o cells) → Grew (fun j => j = b) w V → V.heap.size = w.heap.size → wpList P ops Q rest (a.put op.dst undef) V) : wpList P ops Q (op :: rest) a w :=
  wpList_store_mid hgd ty x y ho b o cells.toArray hx hy (by simpa using own_there hw hfit) (by simpa using hi) (all_oneCell_toArray h1)
    (h _ (own_setCells cells o hw hfit) (grew_setCells cells o (Grew.refl _ _) (.inl rfl)) (size_setCells _ _ _))
theorem wpList_load_own {P : Program} {w : World} {ops : Array Oper} {rest : List Oper} {op : Oper} {a : Act} {Q : Exit → Act → World → Prop} (hgd : op.guard = none) (ty : TypeId) (x : Operand) (ho : op.op = .load ty x)
    (b o : Nat) (hx : a.eval x = .pointer (some ⟨b, o, none⟩)) (cs : List Value) (d : TypeDesc) (hu : P.underlying ty = some d) (hd : d.isRow = true) (hi : (P.info? ty).map (·.size) = some cs.length)
    (base : Nat) (e : TypeId) (size n c : Nat) (L : List Value) (hw : w.ownsRow base e size (.slice (some ⟨b, 0, none⟩) n c) n L) (hc : ∀ j v, cs[j]? = some v → L[o + j]? = some v)
    (h : wpList P ops Q rest (a.put op.dst (.agg cs.toArray)) w) : wpList P ops Q (op :: rest) a w :=
  wpList_load_mid hgd ty x ho b o hx cs d (own_range hw hc) hu hd hi h
/-- Rows of different elements are different blocks. -/
theorem own_not_own {w : World} {base base' : Nat} {e e' : TypeId} {size size' n n' g : Nat} {v v' : Value} {xs xs' : List Value} (h : w.ownsRow base e size v n xs) (h' : w.ownsRow base' e' size' v' n' xs') (ht : e ≠ e') (hg : v'.ownBlock = some g) : v.ownBlock ≠ some g := by
  intro hv
  rcases h'.2 with ⟨rfl, _⟩ | ⟨g', cap, cur, rfl, _, hh, _⟩
  · cases hg
  · simp [Value.ownBlock] at hg
    subst hg
    rcases h.2 with ⟨rfl, _⟩ | ⟨g', cap, cur, rfl, _, hh', _⟩
    · cases hv
    · simp [Value.ownBlock] at hv
      subst hv
      rw [hh] at hh'
      simp at hh'
      exact ht hh'.2.symm

end Go.Proofs.Ythppgofpbpjglaa

namespace Go.Proofs.Ythppgofpbpjglaa
open Go.RowKit

theorem wp_store_one {P : Program} {w : World} {op : Oper} {a : Act} {K : Act → World → Prop} {Q : Exit → Act → World → Prop} (ty : TypeId) (x y : Operand) (ho : op.op = .store ty x y)
    (b o : Nat) (v : Value) (hx : a.eval x = .pointer (some ⟨b, o, none⟩)) (hy : a.eval y = v) (hv : v.oneCell' = true) (hi : (P.info? ty).map (·.size) = some 1) (t : TypeId) (L : List Value) (hw : Whole w b t L) (u : Value) (hL : L[o]? = some u)
    (h : ∀ V, Whole V b t (L.set o v) → Grew (fun j => j = b) w V → V.heap.size = w.heap.size → K (a.put op.dst undef) V) : Oper.wp P op a w K Q := by
  have hc : w.cell? ⟨b, o, none⟩ = some u := by rw [hw.cell]; exact hL
  have hf : w.frozen? ⟨b, o, none⟩ = false := hw.frozen o
  obtain ⟨i, hi1, hi2⟩ := Option.map_eq_some_iff.1 hi
  have hvc : v.cells = #[v] := by
    cases v <;> first | rfl | (simp [Value.oneCell'] at hv)
  have hst : (storeVar ty ⟨b, o, none⟩ v).run P w = .ok () (w.setCell ⟨b, o, none⟩ v) := by
    have h1 := run_storeCells_cells (P := P) b o [v] 0 w (fun j hj => by
      have : j = 0 := by simpa using hj
      subst this
      rw [show (⟨b, o + (0 + 0), none⟩ : Addr) = ⟨b, o, none⟩ from rfl, hc]; rfl) (fun j hj => by
      have : j = 0 := by simpa using hj
      subst this
      exact hf) (fun x hx => by rw [List.mem_singleton.1 hx]; exact hv)
    simp only [Nat.add_zero] at h1
    simp [storeVar, sizeOf, typeInfo, hi1, hi2, hvc, h1, World.setCells]
  unfold Oper.wp execOp
  simp only [ho, hx, hy, Instr.storeAt, Instr.sureAddr, Sem.run_bind, Sem.run_pure, Result.andThen_ok, hst]
  exact h _ (hw.set_ o v) (Grew.setCell (F := fun j => j = b) (Grew.refl _ w) (a := ⟨b, o, none⟩) (.inl rfl) v) (by simp)

theorem wpList_store_one {P : Program} {w : World} {ops : Array Oper} {rest : List Oper} {op : Oper} {a : Act} {Q : Exit → Act → World → Prop} (hgd : op.guard = none) (ty : TypeId) (x y : Operand) (ho : op.op = .store ty x y)
    (b o : Nat) (v : Value) (hx : a.eval x = .pointer (some ⟨b, o, none⟩)) (hy : a.eval y = v) (hv : v.oneCell' = true) (hi : (P.info? ty).map (·.size) = some 1) (t : TypeId) (L : List Value) (hw : Whole w b t L) (u : Value) (hL : L[o]? = some u)
    (h : ∀ V, Whole V b t (L.set o v) → Grew (fun j => j = b) w V → V.heap.size = w.heap.size → wpList P ops Q rest (a.put op.dst undef) V) : wpList P ops Q (op :: rest) a w :=
  wpList_plain hgd fun _ hK => wp_store_one ty x y ho b o v hx hy hv hi t L hw u hL fun V h1 h2 h3 => hK _ _ (h V h1 h2 h3)

end Go.Proofs.Ythppgofpbpjglaa
