/-
  Plain: what is written of data is read as it is; a byte less is too little.
-/
import Derived.Test.YtfehbkandfdepaaDPutD
import Derived.Test.YtfehbkandfdepaaDCatch
namespace Go.Proofs.Ytfehbkandfdepaa
open Go.RowKit

theorem putL_fit {n s : Int} (h : fitB n s = true) : ∃ m k : Nat, n = m ∧ s = k ∧ putL [] n s = digs m k ∧ m < 2 ^ (8 * k) ∧ (putL [] n s).length = k := by
  have h2 := h
  simp only [fitB, decide_eq_true_eq] at h2
  obtain ⟨a1, a2, a3, a4⟩ := h2
  obtain ⟨m, rfl⟩ : ∃ m : Nat, n = m := ⟨n.toNat, by omega⟩
  obtain ⟨k, rfl⟩ : ∃ k : Nat, s = k := ⟨s.toNat, by omega⟩
  have e := putL_yes (l := []) (n := m) (s := k) h
  rw [List.nil_append] at e
  refine ⟨m, k, rfl, rfl, e, ?_, by rw [e, length_digs]⟩
  rw [Int.toNat_natCast] at a4
  exact_mod_cast a4

theorem length_numsW_fit (s : Nat) : ∀ l : List Int, (∀ n ∈ l, fitB n s = true) → (numsW s l).length = l.length * s
  | [], _ => by simp [numsW]
  | n :: l, h => by
    have h1 := length_numsW_fit s l fun x hx => h x (List.mem_cons_of_mem _ hx)
    obtain ⟨m, k, rfl, hk, e, hm, hl⟩ := putL_fit (h n (List.mem_cons_self ..))
    have : k = s := by omega
    subst this
    simp only [numsW, List.length_append, List.length_cons, Nat.add_mul]
    omega
theorem numsL_back (s : Nat) (X : List UInt8) : ∀ (k : Nat) (l : List Int) (Y : List UInt8), l.length = k → (∀ n ∈ l, fitB n s = true) → numsL ((X ++ numsW s l) ++ Y) X.length s k = l
  | 0, l, Y, hl, _ => by rw [List.eq_nil_of_length_eq_zero hl]; rfl
  | k + 1, l, Y, hl, h => by
    have hne : l ≠ [] := fun e => by rw [e] at hl; cases hl
    obtain ⟨l', n, rfl⟩ : ∃ l' n, l = l' ++ [n] := ⟨l.dropLast, l.getLast hne, (List.dropLast_concat_getLast hne).symm⟩
    have hl' : l'.length = k := by simpa using hl
    have h' : ∀ x ∈ l', fitB x s = true := fun x hx => h x (List.mem_append_left _ hx)
    obtain ⟨m, j, rfl, hj, e, hm, hlen⟩ := putL_fit (h n (List.mem_append_right _ (List.mem_singleton.2 rfl)))
    have : j = s := by omega
    subst this
    have hw := length_numsW_fit j l' h'
    rw [numsL, numsW_snoc, e]
    have e1 : ((X ++ (numsW (j : Int) l' ++ digs m j)) ++ Y) = ((X ++ numsW (j : Int) l') ++ (digs m j ++ Y)) := by simp [List.append_assoc]
    have e2 : ((X ++ (numsW (j : Int) l' ++ digs m j)) ++ Y) = (((X ++ numsW (j : Int) l') ++ digs m j) ++ Y) := by simp [List.append_assoc]
    have r1 := numsL_back j X k l' (digs m j ++ Y) hl' h'
    rw [← e1] at r1
    rw [r1]
    congr 1
    have hp : X.length + k * j = (X ++ numsW (j : Int) l').length := by rw [List.length_append, hw, hl']
    rw [hp, e2, cutL_more (by simp only [List.length_append, length_digs]; omega), cutL_behind, numN_digs hm]

theorem numsR_back {s : Nat} {X Y : List UInt8} {l : List Int} {en k : Nat} (hk : l.length = k) (h : ∀ n ∈ l, fitB n s = true) (hen : (X ++ numsW s l).length ≤ en) : numsR ((X ++ numsW s l) ++ Y) X.length en s k = .ok (l, (X ++ numsW s l).length) := by
  have hw := length_numsW_fit s l h
  rw [List.length_append, hw, hk] at hen
  rw [numsR, if_pos hen, numsL_back s X k l Y hk h, List.length_append, hw, hk]

theorem nameR_back {C : List UInt8} {q e en : Nat} {n : List (List UInt8)} (h : AtN C q q n e) (he : 0 < e) (hn : szN n ≤ 255) : getR C q q 0 [] = (n, e, 0) ∧ (e ≤ en → nameR C q en = .ok (n, e)) ∧ (en < e → nameR C q en = .error 3) := by
  have h1 := h.read (x := 0) (m := []) (by have : szN [] = 1 := by decide
                                           omega)
  rw [List.nil_append] at h1
  have h2 : nextR 0 e = e := rfl
  rw [h2] at h1
  refine ⟨h1, fun hen => ?_, fun hen => ?_⟩
  · rw [nameR, h1, nameF, if_neg (by simp), if_neg (by simp; omega)]
  · rw [nameR, h1, nameF, if_neg (by simp), if_pos (by simpa using hen)]

theorem textsR_back : ∀ (l acc : List (List UInt8)) (X Y : List UInt8), acc ++ l ≠ [] → acc.length + l.length ≤ 64 → (∀ t ∈ l, t.length ≤ 255) → textsR ((X ++ textsW l) ++ Y) X.length (X ++ textsW l).length acc = .ok (acc ++ l, (X ++ textsW l).length)
  | [], acc, X, Y, hne, _, _ => by
    rw [textsR_end (by simp [textsW]) (by simpa using hne), List.append_nil]
    simp [textsW]
  | t :: l, acc, X, Y, hne, h64, ht => by
    have htl := ht t (List.mem_cons_self ..)
    have hfit : fitB (t.length : Int) ((1 : Nat) : Int) = true := fitB_true (by omega) (by omega) (by omega) (by simp; omega)
    obtain ⟨m, k, hm, hk, e, hm2, hl1⟩ := putL_fit hfit
    have hm' : m = t.length := by omega
    have hk' : k = 1 := by omega
    subst hm' hk'
    have e0 : putL [] (t.length : Int) 1 = digs t.length 1 := e
    have hx : (X ++ textsW (t :: l)) = ((X ++ (digs t.length 1 ++ t)) ++ textsW l) := by simp [textsW, e0, List.append_assoc]
    have hlen : (X ++ (digs t.length 1 ++ t)).length = X.length + 1 + t.length := by simp [length_digs]; omega
    have hc1 : cutL ((X ++ textsW (t :: l)) ++ Y) X.length 1 = digs t.length 1 := by
      rw [hx, show ((X ++ (digs t.length 1 ++ t)) ++ textsW l) ++ Y = (X ++ digs t.length 1) ++ (t ++ (textsW l ++ Y)) by simp [List.append_assoc], cutL_more (by rw [List.length_append, length_digs]; omega), cutL_behind]
    have hn : numN (cutL ((X ++ textsW (t :: l)) ++ Y) X.length 1) = t.length := by rw [hc1, numN_digs hm2]
    have hc2 : cutL ((X ++ textsW (t :: l)) ++ Y) (X.length + 1) t.length = t := by
      rw [hx, show ((X ++ (digs t.length 1 ++ t)) ++ textsW l) ++ Y = (X ++ digs t.length 1) ++ (t ++ (textsW l ++ Y)) by simp [List.append_assoc]]
      have hp : X.length + 1 = (X ++ digs t.length 1).length := by rw [List.length_append, length_digs]
      unfold cutL
      rw [hp, List.drop_left, List.take_left]
    have hle : X.length + 1 + t.length ≤ (X ++ textsW (t :: l)).length := by rw [hx, List.length_append, hlen]; omega
    rw [textsR_next (by omega) (by simp at h64; omega) (by rw [hn]; exact hle), hn, hc2]
    have ih := textsR_back l (acc ++ [t]) (X ++ (digs t.length 1 ++ t)) Y (by simp) (by simp at h64 ⊢; omega) (fun x hx => ht x (List.mem_cons_of_mem _ hx))
    rw [← hx, hlen] at ih
    rw [ih]
    simp

theorem bytesR_back {X l Y : List UInt8} {least most : Nat} (h1 : least ≤ l.length) (h2 : l.length ≤ most) : bytesR ((X ++ l) ++ Y) X.length (X ++ l).length least most = .ok (l, (X ++ l).length) := by
  have hs : max least (min most ((X ++ l).length - X.length)) = l.length := by
    rw [List.length_append]
    omega
  rw [bytesR, hs, if_neg (by rw [List.length_append]; omega)]
  have hc : cutL ((X ++ l) ++ Y) X.length l.length = l := by
    unfold cutL
    rw [List.append_assoc, List.drop_left, List.take_left]
  rw [hc, List.length_append]

theorem nums_fit {ah : Nat} {l : List Int} (h : numsOk ah l = true) : (∀ n ∈ l.take ah, fitB n ((2 : Nat) : Int) = true) ∧ (∀ n ∈ l.drop ah, fitB n ((4 : Nat) : Int) = true) := by
  unfold numsOk at h
  rw [List.all_eq_true] at h
  constructor
  · intro n hn
    obtain ⟨i, hi, rfl⟩ := List.getElem_of_mem hn
    have hi2 : i < ah ∧ i < l.length := by simp at hi; omega
    have := h i (List.mem_range.2 hi2.2)
    rw [sizeAt, if_pos hi2.1] at this
    simpa [List.getD, hi2.2] using this
  · intro n hn
    obtain ⟨i, hi, rfl⟩ := List.getElem_of_mem hn
    have hi2 : ah + i < l.length := by simp at hi; omega
    have := h (ah + i) (List.mem_range.2 hi2)
    rw [sizeAt, if_neg (by omega)] at this
    simpa [List.getD, hi2] using this

/-- What kinds of shapes there are. -/
structure ShP (s : Sh) : Prop where
  t : s.texts = true → s.host = false ∧ s.mail = false ∧ s.ahead = 0 ∧ s.behind = 0 ∧ s.least = 0 ∧ s.most = 0
  h : s.host = true → s.least = 0 ∧ s.most = 0
  m : s.mail = true → s.host = true ∧ 0 < s.behind
  b : 0 < s.behind → s.mail = true
  n : s.host = false → s.ahead = 0
theorem shP (k : Int) : ShP (shN k) := by
  rcases shN_cases k with rfl | rfl | rfl | rfl | rfl | rfl | rfl | rfl | rfl | hk
  case inr.inr.inr.inr.inr.inr.inr.inr.inr =>
    rw [shN_other hk]
    exact ⟨by decide, by decide, by decide, by decide, by decide⟩
  all_goals exact ⟨by decide, by decide, by decide, by decide, by decide⟩

theorem AtN.pos {B : List UInt8} {p q e : Nat} {n : List (List UInt8)} (h : AtN B p q n e) : p < e := by
  induction h <;> omega

/-- What stands where. -/
theorem parts {s : Sh} {d : Dt} (X : List UInt8) (sp : SoundP s d) : ∃ B1 x2 x3 : List UInt8,
    (putD s d X []).1 = ((x3 ++ numsW 4 (d.nums.drop s.ahead)) ++ textsW d.texts) ++ d.bytes ∧ B1 = X ++ numsW 2 (d.nums.take s.ahead) ∧ (∃ S, x2 = B1 ++ S) ∧ (∃ S, x3 = x2 ++ S) ∧
    (∀ C en, x2.length ≤ en → (if s.host = true then nameR (x2 ++ C) B1.length en else .ok ([], B1.length)) = .ok (d.host, x2.length)) ∧
    (∀ C en, x3.length ≤ en → (if s.mail = true then nameR (x3 ++ C) x2.length en else .ok ([], x2.length)) = .ok (d.mail, x3.length)) ∧
    (s.host = true → B1.length < x2.length ∧ ∀ C en, en < x2.length → nameR (x2 ++ C) B1.length en = .error 3) ∧ (s.host = false → x2 = B1) ∧ (s.mail = false → x3 = x2) := by
  have G0 : GoodR X [] := GoodR.nil X
  obtain ⟨B1, hB1⟩ : ∃ x, x = X ++ numsW 2 (d.nums.take s.ahead) := ⟨_, rfl⟩
  have G1 : GoodR B1 [] := by rw [hB1]; exact G0.more _
  obtain ⟨x2, hx2⟩ : ∃ x, x = putH s d X [] := ⟨_, rfl⟩
  have h2 : (∃ S, x2.1 = B1 ++ S) ∧ GoodR x2.1 x2.2 ∧ (∀ C en, x2.1.length ≤ en → (if s.host = true then nameR (x2.1 ++ C) B1.length en else .ok ([], B1.length)) = .ok (d.host, x2.1.length)) ∧
      (s.host = true → B1.length < x2.1.length ∧ ∀ C en, en < x2.1.length → nameR (x2.1 ++ C) B1.length en = .error 3) ∧ (s.host = false → x2.1 = B1) := by
    cases hh : s.host
    · have e : x2 = (B1, []) := by rw [hx2, putH, hh, if_neg (by decide), hB1]
      rw [e, sp.h0 hh]
      exact ⟨⟨[], by simp⟩, G1, fun C en _ => rfl, fun h => (by cases h), fun _ => rfl⟩
    · have hs := soundN_parts (sp.h hh)
      have e : x2 = nameW s.short d.host B1 [] := by rw [hx2, putH, hh, if_pos rfl, hB1]
      obtain ⟨hS, hat, hg⟩ := nameW_good (short := s.short) hs.1 G1
      rw [← e] at hS hat hg
      refine ⟨hS, hg, fun C en he => ?_, fun _ => ⟨hat.pos, fun C en he => ?_⟩, fun h => (by cases h)⟩
      · rw [if_pos rfl]
        exact (nameR_back (en := en) (hat.more C) (by have := hat.pos; omega) hs.2).2.1 he
      · exact (nameR_back (en := en) (hat.more C) (by have := hat.pos; omega) hs.2).2.2 he
  obtain ⟨hS2, G2, R2, E2, N2⟩ := h2
  obtain ⟨x3, hx3⟩ : ∃ x, x = putM s d x2 := ⟨_, rfl⟩
  have h3 : (∃ S, x3.1 = x2.1 ++ S) ∧ (∀ C en, x3.1.length ≤ en → (if s.mail = true then nameR (x3.1 ++ C) x2.1.length en else .ok ([], x2.1.length)) = .ok (d.mail, x3.1.length)) ∧ (s.mail = false → x3.1 = x2.1) := by
    cases hh : s.mail
    · have e : x3 = x2 := by rw [hx3, putM, hh, if_neg (by decide)]
      rw [e, sp.m0 hh]
      exact ⟨⟨[], by simp⟩, fun C en _ => rfl, fun _ => rfl⟩
    · have hs := soundN_parts (sp.m hh)
      have e : x3 = nameW s.short d.mail x2.1 x2.2 := by rw [hx3, putM, hh, if_pos rfl]
      obtain ⟨hS, hat, hg⟩ := nameW_good (short := s.short) hs.1 G2
      rw [← e] at hS hat hg
      refine ⟨hS, fun C en he => ?_, fun h => (by cases h)⟩
      rw [if_pos rfl]
      exact (nameR_back (en := en) (hat.more C) (by have := hat.pos; omega) hs.2).2.1 he
  obtain ⟨hS3, R3, N3⟩ := h3
  exact ⟨B1, x2.1, x3.1, by rw [putD, ← hx2, ← hx3], hB1, hS2, hS3, R2, R3, E2, N2, N3⟩

/-- The data that was written is read, whatever stands ahead and behind. -/
theorem read_back {s : Sh} {d : Dt} {X Y : List UInt8} (sp : SoundP s d) (sh : ShP s) : readD ((putD s d X []).1 ++ Y) X.length (putD s d X []).1.length s = .ok d := by
  have hn := nums_fit sp.ok
  have hlt : (d.nums.take s.ahead).length = s.ahead := by rw [List.length_take, sp.n]; omega
  have hld : (d.nums.drop s.ahead).length = s.behind := by rw [List.length_drop, sp.n]; omega
  obtain ⟨B1, x2, x3, hput, hB1, ⟨S2, hS2⟩, ⟨S3, hS3⟩, R2, R3, _, _, _⟩ := parts X sp
  rw [hput]
  obtain ⟨T, hT⟩ : ∃ T, T = (((x3 ++ numsW 4 (d.nums.drop s.ahead)) ++ textsW d.texts) ++ d.bytes) ++ Y := ⟨_, rfl⟩
  obtain ⟨en, hen⟩ : ∃ en, en = (((x3 ++ numsW 4 (d.nums.drop s.ahead)) ++ textsW d.texts) ++ d.bytes).length := ⟨_, rfl⟩
  rw [← hT, ← hen]
  have l1 : x3.length ≤ en := by rw [hen]; simp only [List.length_append]; omega
  have l2 : x2.length ≤ x3.length := by rw [hS3, List.length_append]; omega
  have l3 : B1.length ≤ x2.length := by rw [hS2, List.length_append]; omega
  have q1 : numsR T X.length en 2 s.ahead = .ok (d.nums.take s.ahead, B1.length) := by
    have hTx : T = (X ++ numsW ((2 : Nat) : Int) (d.nums.take s.ahead)) ++ ((S2 ++ S3) ++ (numsW 4 (d.nums.drop s.ahead) ++ (textsW d.texts ++ (d.bytes ++ Y)))) := by
      rw [hT, hS3, hS2, hB1]
      simp [List.append_assoc]
    have hle : (X ++ numsW ((2 : Nat) : Int) (d.nums.take s.ahead)).length ≤ en := by
      have h1 : B1.length ≤ en := by omega
      rw [hB1] at h1
      exact h1
    have h := numsR_back (X := X) (Y := (S2 ++ S3) ++ (numsW 4 (d.nums.drop s.ahead) ++ (textsW d.texts ++ (d.bytes ++ Y)))) (en := en) hlt hn.1 hle
    rw [← hTx] at h
    rw [hB1]
    exact h
  have q2 := R2 (S3 ++ (numsW 4 (d.nums.drop s.ahead) ++ (textsW d.texts ++ (d.bytes ++ Y)))) en (by omega)
  rw [show x2 ++ (S3 ++ (numsW 4 (d.nums.drop s.ahead) ++ (textsW d.texts ++ (d.bytes ++ Y)))) = T by rw [hT, hS3]; simp [List.append_assoc]] at q2
  have q3 := R3 (numsW 4 (d.nums.drop s.ahead) ++ (textsW d.texts ++ (d.bytes ++ Y))) en l1
  rw [show x3 ++ (numsW 4 (d.nums.drop s.ahead) ++ (textsW d.texts ++ (d.bytes ++ Y))) = T by rw [hT]; simp [List.append_assoc]] at q3
  have l4 : (x3 ++ numsW 4 (d.nums.drop s.ahead)).length ≤ en := by rw [hen]; simp only [List.length_append]; omega
  have q4 : numsR T x3.length en 4 s.behind = .ok (d.nums.drop s.ahead, (x3 ++ numsW 4 (d.nums.drop s.ahead)).length) := by
    have h := numsR_back (s := 4) (X := x3) (Y := textsW d.texts ++ (d.bytes ++ Y)) (en := en) hld hn.2 l4
    rw [show (x3 ++ numsW ((4 : Nat) : Int) (d.nums.drop s.ahead)) ++ (textsW d.texts ++ (d.bytes ++ Y)) = T by rw [hT]; simp [List.append_assoc]] at h
    exact h
  obtain ⟨x4, hx4⟩ : ∃ x, x = x3 ++ numsW 4 (d.nums.drop s.ahead) := ⟨_, rfl⟩
  rw [← hx4] at q4 l4 hT hen
  have q5 : (if s.texts = true then textsR T x4.length en [] else .ok ([], x4.length)) = .ok (d.texts, (x4 ++ textsW d.texts).length) := by
    cases ht : s.texts
    · rw [sp.t0 ht, if_neg (by decide)]
      simp [textsW]
    · rw [if_pos rfl]
      have hb0 : d.bytes = [] := List.eq_nil_of_length_eq_zero (by have h1 := sp.b; have h2 := (sh.t ht).2.2.2.2.2; omega)
      have h := textsR_back d.texts [] x4 Y (by rw [List.nil_append]; intro e; have := sp.t1 ht; rw [e] at this; simp at this) (by have := sp.t; simpa using this) sp.tl
      have e1 : (x4 ++ textsW d.texts) ++ Y = T := by rw [hT, hb0]; simp
      have e2 : (x4 ++ textsW d.texts).length = en := by rw [hen, hb0]; simp
      rw [e1, e2, List.nil_append] at h
      rw [e2]
      exact h
  have q6 : bytesR T (x4 ++ textsW d.texts).length en s.least s.most = .ok (d.bytes, en) := by
    have h := bytesR_back (X := x4 ++ textsW d.texts) (Y := Y) sp.bl sp.b
    rw [← hT, ← hen] at h
    exact h
  unfold readD
  rw [q1]
  simp only [bind, Except.bind]
  rw [q2]
  simp only []
  rw [q3]
  simp only []
  rw [q4]
  simp only []
  rw [q5]
  simp only []
  rw [q6]
  simp

/-- A byte less is too little. -/
theorem read_short {s : Sh} {d : Dt} {X Y : List UInt8} (sp : SoundP s d) (sh : ShP s) (hb : d.bytes = []) (ht1 : d.texts.length ≤ 1) (hsz : X.length < (putD s d X []).1.length) :
    ∃ k, k ≠ 0 ∧ readD ((putD s d X []).1 ++ Y) X.length ((putD s d X []).1.length - 1) s = .error k := by
  have hn := nums_fit sp.ok
  have hlt : (d.nums.take s.ahead).length = s.ahead := by rw [List.length_take, sp.n]; omega
  have hld : (d.nums.drop s.ahead).length = s.behind := by rw [List.length_drop, sp.n]; omega
  obtain ⟨B1, x2, x3, hput, hB1, ⟨S2, hS2⟩, ⟨S3, hS3⟩, R2, R3, E2, N2, N3⟩ := parts X sp
  rw [hb, List.append_nil] at hput
  rw [hput] at hsz ⊢
  obtain ⟨T, hT⟩ : ∃ T, T = ((x3 ++ numsW 4 (d.nums.drop s.ahead)) ++ textsW d.texts) ++ Y := ⟨_, rfl⟩
  obtain ⟨en, hen⟩ : ∃ en, en = ((x3 ++ numsW 4 (d.nums.drop s.ahead)) ++ textsW d.texts).length := ⟨_, rfl⟩
  rw [← hen] at hsz
  rw [← hT, ← hen]
  have l2 : x2.length ≤ x3.length := by rw [hS3, List.length_append]; omega
  have l3 : B1.length ≤ x2.length := by rw [hS2, List.length_append]; omega
  have q1 : B1.length ≤ en - 1 → numsR T X.length (en - 1) 2 s.ahead = .ok (d.nums.take s.ahead, B1.length) := fun hle => by
    have hTx : T = (X ++ numsW ((2 : Nat) : Int) (d.nums.take s.ahead)) ++ ((S2 ++ S3) ++ (numsW 4 (d.nums.drop s.ahead) ++ (textsW d.texts ++ Y))) := by
      rw [hT, hS3, hS2, hB1]
      simp [List.append_assoc]
    have hle2 : (X ++ numsW ((2 : Nat) : Int) (d.nums.take s.ahead)).length ≤ en - 1 := by
      rw [hB1] at hle
      exact hle
    have h := numsR_back (X := X) (Y := (S2 ++ S3) ++ (numsW 4 (d.nums.drop s.ahead) ++ (textsW d.texts ++ Y))) (en := en - 1) hlt hn.1 hle2
    rw [← hTx] at h
    rw [hB1]
    exact h
  have hT2 : x2 ++ (S3 ++ (numsW 4 (d.nums.drop s.ahead) ++ (textsW d.texts ++ Y))) = T := by rw [hT, hS3]; simp [List.append_assoc]
  have hT3 : x3 ++ (numsW 4 (d.nums.drop s.ahead) ++ (textsW d.texts ++ Y)) = T := by rw [hT]; simp [List.append_assoc]
  cases hh : s.host
  · have ha := sh.n hh
    have hm : s.mail = false := by
      cases hx : s.mail
      · rfl
      · have := (sh.m hx).1; rw [hh] at this; cases this
    have hbe : s.behind = 0 := by
      rcases Nat.eq_zero_or_pos s.behind with h0 | h0
      · exact h0
      · have := sh.b h0; rw [hm] at this; cases this
    have hnil : d.nums = [] := List.eq_nil_of_length_eq_zero (by rw [sp.n, ha, hbe])
    have e1 : B1 = X := by rw [hB1, hnil]; simp [numsW]
    have e3 : x3 = X := by rw [N3 hm, N2 hh, e1]
    rw [hnil, List.drop_nil] at hT hen
    simp only [numsW, List.append_nil] at hT hen
    rw [e3] at hT hen
    cases ht : s.texts
    · rw [sp.t0 ht] at hen
      simp [textsW] at hen
      omega
    · have h1 := sp.t1 ht
      obtain ⟨t, hts⟩ : ∃ t, d.texts = [t] := List.length_eq_one_iff.1 (by omega)
      have htl := sp.tl t (by rw [hts]; simp)
      rw [hts] at hT hen
      have hfit : fitB (t.length : Int) ((1 : Nat) : Int) = true := fitB_true (by omega) (by omega) (by omega) (by simp; omega)
      obtain ⟨m, k, hm1, hk1, e, hm2, hl1⟩ := putL_fit hfit
      have hm' : m = t.length := by omega
      have hk' : k = 1 := by omega
      subst hm' hk'
      have e0 : putL [] (t.length : Int) 1 = digs t.length 1 := e
      simp only [textsW, e0, List.append_nil] at hT hen
      have hen2 : en = X.length + 1 + t.length := by rw [hen]; simp [length_digs]; omega
      have hq1 := q1 (by rw [e1]; omega)
      have q5 : ∃ k, k ≠ 0 ∧ textsR T X.length (en - 1) [] = .error k := by
        rcases Nat.eq_zero_or_pos t.length with h0 | h0
        · exact ⟨2, by decide, textsR_none (by omega)⟩
        · have hc1 : cutL T X.length 1 = digs t.length 1 := by
            rw [hT, show (X ++ (digs t.length 1 ++ t)) ++ Y = (X ++ digs t.length 1) ++ (t ++ Y) by simp [List.append_assoc], cutL_more (by rw [List.length_append, length_digs]; omega), cutL_behind]
          have hnn : numN (cutL T X.length 1) = t.length := by rw [hc1, numN_digs hm2]
          exact ⟨3, by decide, textsR_short (by omega) (by simp) (by rw [hnn]; omega)⟩
      obtain ⟨k, hk0, hk⟩ := q5
      refine ⟨k, hk0, ?_⟩
      unfold readD
      rw [hq1, e1]
      simp only [bind, Except.bind, hh, hm, hbe, ht]
      simp [numsR, numsL]
      rw [if_pos (by omega)]
      simp [hk]
  · obtain ⟨hlt2, herr⟩ := E2 hh
    have ht : s.texts = false := by
      cases hx : s.texts
      · rfl
      · have := (sh.t hx).1; rw [hh] at this; cases this
    cases hm : s.mail
    · have hbe : s.behind = 0 := by
        rcases Nat.eq_zero_or_pos s.behind with h0 | h0
        · exact h0
        · have := sh.b h0; rw [hm] at this; cases this
      have hdn : d.nums.drop s.ahead = [] := List.eq_nil_of_length_eq_zero (by rw [hld, hbe])
      have he : en = x2.length := by rw [hen, hdn, sp.t0 ht, N3 hm]; simp [numsW, textsW]
      have hq1 := q1 (by omega)
      have hq2 := herr (S3 ++ (numsW 4 (d.nums.drop s.ahead) ++ (textsW d.texts ++ Y))) (en - 1) (by omega)
      rw [hT2] at hq2
      refine ⟨3, by decide, ?_⟩
      unfold readD
      rw [hq1]
      simp only [bind, Except.bind, hh, if_true]
      rw [hq2]
    · have hbe := (sh.m hm).2
      have hw4 := length_numsW_fit 4 (d.nums.drop s.ahead) hn.2
      rw [hld] at hw4
      have he : en = x3.length + s.behind * 4 := by
        rw [hen, sp.t0 ht]
        simp only [textsW, List.append_nil, List.length_append]
        have : (numsW 4 (d.nums.drop s.ahead)).length = s.behind * 4 := hw4
        omega
      have hq1 := q1 (by omega)
      have hq2 := R2 (S3 ++ (numsW 4 (d.nums.drop s.ahead) ++ (textsW d.texts ++ Y))) (en - 1) (by omega)
      rw [hT2] at hq2
      have hq3 := R3 (numsW 4 (d.nums.drop s.ahead) ++ (textsW d.texts ++ Y)) (en - 1) (by omega)
      rw [hT3] at hq3
      have hq4 : numsR T x3.length (en - 1) 4 s.behind = .error 3 := by rw [numsR, if_neg (by omega)]
      refine ⟨3, by decide, ?_⟩
      unfold readD
      rw [hq1]
      simp only [bind, Except.bind]
      rw [hq2]
      simp only []
      rw [hq3]
      simp only []
      rw [hq4]

end Go.Proofs.Ytfehbkandfdepaa
