/-
  Records that are written behind one another, with rests that have been noted, are read as they are.
-/
import Derived.Test.YthppgofpbpjglaaGreatFbP3
import Derived.Test.YthppgofpbpjglaaGreatFbP6
import Derived.Deep.RegionHeld3
import Derived.Deep.RegionLaw
import Derived.Test.YthppgofpbpjglaaGreatFbP4
import Derived.BigRegion
import Derived.Laws.BitsLemmas
namespace Go.Proofs.YthppgofpbpjglaaGreat
open Go.RowKit

/-- What stands where. -/
theorem partsR {s : Sh} {d : Dt} (X : List UInt8) {R : Rs} (G0 : GoodR X R) (sp : SoundP s d) : ∃ B1 x2 x3 : List UInt8,
    (putD s d X R).1 = ((x3 ++ numsW 4 (d.nums.drop s.ahead)) ++ textsW d.texts) ++ d.bytes ∧ B1 = X ++ numsW 2 (d.nums.take s.ahead) ∧ (∃ S, x2 = B1 ++ S) ∧ (∃ S, x3 = x2 ++ S) ∧
    (∀ C en, x2.length ≤ en → (if s.host = true then nameR (x2 ++ C) B1.length en else .ok ([], B1.length)) = .ok (d.host, x2.length)) ∧
    (∀ C en, x3.length ≤ en → (if s.mail = true then nameR (x3 ++ C) x2.length en else .ok ([], x2.length)) = .ok (d.mail, x3.length)) ∧
    (s.host = true → B1.length < x2.length ∧ ∀ C en, en < x2.length → nameR (x2 ++ C) B1.length en = .error 3) ∧ (s.host = false → x2 = B1) ∧ (s.mail = false → x3 = x2) ∧ GoodR (putD s d X R).1 (putD s d X R).2 := by
  obtain ⟨B1, hB1⟩ : ∃ x, x = X ++ numsW 2 (d.nums.take s.ahead) := ⟨_, rfl⟩
  have G1 : GoodR B1 R := by rw [hB1]; exact G0.more _
  obtain ⟨x2, hx2⟩ : ∃ x, x = putH s d X R := ⟨_, rfl⟩
  have h2 : (∃ S, x2.1 = B1 ++ S) ∧ GoodR x2.1 x2.2 ∧ (∀ C en, x2.1.length ≤ en → (if s.host = true then nameR (x2.1 ++ C) B1.length en else .ok ([], B1.length)) = .ok (d.host, x2.1.length)) ∧
      (s.host = true → B1.length < x2.1.length ∧ ∀ C en, en < x2.1.length → nameR (x2.1 ++ C) B1.length en = .error 3) ∧ (s.host = false → x2.1 = B1) := by
    cases hh : s.host
    · have e : x2 = (B1, R) := by rw [hx2, putH, hh, if_neg (by decide), hB1]
      rw [e, sp.h0 hh]
      exact ⟨⟨[], by simp⟩, G1, fun C en _ => rfl, fun h => (by cases h), fun _ => rfl⟩
    · have hs := soundN_parts (sp.h hh)
      have e : x2 = nameW s.short d.host B1 R := by rw [hx2, putH, hh, if_pos rfl, hB1]
      obtain ⟨hS, hat, hg⟩ := nameW_good (short := s.short) hs.1 G1
      rw [← e] at hS hat hg
      refine ⟨hS, hg, fun C en he => ?_, fun _ => ⟨hat.pos, fun C en he => ?_⟩, fun h => (by cases h)⟩
      · rw [if_pos rfl]
        exact (nameR_back (en := en) (hat.more C) (by have := hat.pos; omega) hs.2).2.1 he
      · exact (nameR_back (en := en) (hat.more C) (by have := hat.pos; omega) hs.2).2.2 he
  obtain ⟨hS2, G2, R2, E2, N2⟩ := h2
  obtain ⟨x3, hx3⟩ : ∃ x, x = putM s d x2 := ⟨_, rfl⟩
  have h3 : (∃ S, x3.1 = x2.1 ++ S) ∧ GoodR x3.1 x3.2 ∧ (∀ C en, x3.1.length ≤ en → (if s.mail = true then nameR (x3.1 ++ C) x2.1.length en else .ok ([], x2.1.length)) = .ok (d.mail, x3.1.length)) ∧ (s.mail = false → x3.1 = x2.1) := by
    cases hh : s.mail
    · have e : x3 = x2 := by rw [hx3, putM, hh, if_neg (by decide)]
      rw [e, sp.m0 hh]
      exact ⟨⟨[], by simp⟩, G2, fun C en _ => rfl, fun _ => rfl⟩
    · have hs := soundN_parts (sp.m hh)
      have e : x3 = nameW s.short d.mail x2.1 x2.2 := by rw [hx3, putM, hh, if_pos rfl]
      obtain ⟨hS, hat, hg⟩ := nameW_good (short := s.short) hs.1 G2
      rw [← e] at hS hat hg
      refine ⟨hS, hg, fun C en he => ?_, fun h => (by cases h)⟩
      rw [if_pos rfl]
      exact (nameR_back (en := en) (hat.more C) (by have := hat.pos; omega) hs.2).2.1 he
  obtain ⟨hS3, G3, R3, N3⟩ := h3
  exact ⟨B1, x2.1, x3.1, by rw [putD, ← hx2, ← hx3], hB1, hS2, hS3, R2, R3, E2, N2, N3, by rw [putD, ← hx2, ← hx3]; exact ((G3.more _).more _).more _⟩

/-- The data that was written is read, whatever stands ahead and behind. -/
theorem readR {s : Sh} {d : Dt} {X Y : List UInt8} {R : Rs} (G0 : GoodR X R) (sp : SoundP s d) (sh : ShP s) : readD ((putD s d X R).1 ++ Y) X.length (putD s d X R).1.length s = .ok d := by
  have hn := nums_fit sp.ok
  have hlt : (d.nums.take s.ahead).length = s.ahead := by rw [List.length_take, sp.n]; omega
  have hld : (d.nums.drop s.ahead).length = s.behind := by rw [List.length_drop, sp.n]; omega
  obtain ⟨B1, x2, x3, hput, hB1, ⟨S2, hS2⟩, ⟨S3, hS3⟩, R2, R3, _, _, _, _⟩ := partsR X G0 sp
  rw [hput]
  obtain ⟨T, hT⟩ : ∃ T, T = (((x3 ++ numsW 4 (d.nums.drop s.ahead)) ++ textsW d.texts) ++ d.bytes) ++ Y := ⟨_, rfl⟩
  obtain ⟨en, hen⟩ : ∃ en, en = (((x3 ++ numsW 4 (d.nums.drop s.ahead)) ++ textsW d.texts) ++ d.bytes).length := ⟨_, rfl⟩
  rw [← hT, ← hen]
  have l1 : x3.length ≤ en := by rw [hen]; simp only [List.length_append]; omega
  have l2 : x2.length ≤ x3.length := by rw [hS3, List.length_append]; omega
  have l3 : B1.length ≤ x2.length := by rw [hS2, List.length_append]; omega
  have q1 : numsR T X.length en 2 s.ahead = .ok (d.nums.take s.ahead, B1.length) := by
    have hTx : T = (X ++ numsW ((2 : Nat) : Int) (d.nums.take s.ahead)) ++ ((S2 ++ S3) ++ (numsW 4 (d.nums.drop s.ahead) ++ (textsW d.texts ++ (d.bytes ++ Y)))) := by
      rw [hT, hS3, hS2, hB1]
      simp [List.append_assoc]
    have hle : (X ++ numsW ((2 : Nat) : Int) (d.nums.take s.ahead)).length ≤ en := by
      have h1 : B1.length ≤ en := by omega
      rw [hB1] at h1
      exact h1
    have h := numsR_back (X := X) (Y := (S2 ++ S3) ++ (numsW 4 (d.nums.drop s.ahead) ++ (textsW d.texts ++ (d.bytes ++ Y)))) (en := en) hlt hn.1 hle
    rw [← hTx] at h
    rw [hB1]
    exact h
  have q2 := R2 (S3 ++ (numsW 4 (d.nums.drop s.ahead) ++ (textsW d.texts ++ (d.bytes ++ Y)))) en (by omega)
  rw [show x2 ++ (S3 ++ (numsW 4 (d.nums.drop s.ahead) ++ (textsW d.texts ++ (d.bytes ++ Y)))) = T by rw [hT, hS3]; simp [List.append_assoc]] at q2
  have q3 := R3 (numsW 4 (d.nums.drop s.ahead) ++ (textsW d.texts ++ (d.bytes ++ Y))) en l1
  rw [show x3 ++ (numsW 4 (d.nums.drop s.ahead) ++ (textsW d.texts ++ (d.bytes ++ Y))) = T by rw [hT]; simp [List.append_assoc]] at q3
  have l4 : (x3 ++ numsW 4 (d.nums.drop s.ahead)).length ≤ en := by rw [hen]; simp only [List.length_append]; omega
  have q4 : numsR T x3.length en 4 s.behind = .ok (d.nums.drop s.ahead, (x3 ++ numsW 4 (d.nums.drop s.ahead)).length) := by
    have h := numsR_back (s := 4) (X := x3) (Y := textsW d.texts ++ (d.bytes ++ Y)) (en := en) hld hn.2 l4
    rw [show (x3 ++ numsW ((4 : Nat) : Int) (d.nums.drop s.ahead)) ++ (textsW d.texts ++ (d.bytes ++ Y)) = T by rw [hT]; simp [List.append_assoc]] at h
    exact h
  obtain ⟨x4, hx4⟩ : ∃ x, x = x3 ++ numsW 4 (d.nums.drop s.ahead) := ⟨_, rfl⟩
  rw [← hx4] at q4 l4 hT hen
  have q5 : (if s.texts = true then textsR T x4.length en [] else .ok ([], x4.length)) = .ok (d.texts, (x4 ++ textsW d.texts).length) := by
    cases ht : s.texts
    · rw [sp.t0 ht, if_neg (by decide)]
      simp [textsW]
    · rw [if_pos rfl]
      have hb0 : d.bytes = [] := List.eq_nil_of_length_eq_zero (by have h1 := sp.b; have h2 := (sh.t ht).2.2.2.2.2; omega)
      have h := textsR_back d.texts [] x4 Y (by rw [List.nil_append]; intro e; have := sp.t1 ht; rw [e] at this; simp at this) (by have := sp.t; simpa using this) sp.tl
      have e1 : (x4 ++ textsW d.texts) ++ Y = T := by rw [hT, hb0]; simp
      have e2 : (x4 ++ textsW d.texts).length = en := by rw [hen, hb0]; simp
      rw [e1, e2, List.nil_append] at h
      rw [e2]
      exact h
  have q6 : bytesR T (x4 ++ textsW d.texts).length en s.least s.most = .ok (d.bytes, en) := by
    have h := bytesR_back (X := x4 ++ textsW d.texts) (Y := Y) sp.bl sp.b
    rw [← hT, ← hen] at h
    exact h
  unfold readD
  rw [q1]
  simp only [bind, Except.bind]
  rw [q2]
  simp only []
  rw [q3]
  simp only []
  rw [q4]
  simp only []
  rw [q5]
  simp only []
  rw [q6]
  simp


/-- The read of what was written. -/
theorem getR_data {k : Int} {d : Dt} {X Y : List UInt8} {R : Rs} (G0 : GoodR X R) (hs : soundD k d = true) : X.length ≤ (putD (shN k) d X R).1.length ∧ (∃ S, (putD (shN k) d X R).1 = X ++ S) ∧ GoodR (putD (shN k) d X R).1 (putD (shN k) d X R).2 ∧
    getD ((putD (shN k) d X R).1 ++ Y) X.length (((putD (shN k) d X R).1.length - X.length : Nat) : Int) k = (d, 0) := by
  have sp := soundP hs
  have hk : kindB k = true := by unfold soundD at hs; simp only [Bool.and_eq_true] at hs; exact hs.1
  obtain ⟨B1, x2, x3, hput, hB1, ⟨S2, hS2⟩, ⟨S3, hS3⟩, _, _, _, _, _, hg⟩ := partsR X G0 sp
  have hS : ∃ S, (putD (shN k) d X R).1 = X ++ S := ⟨_, by rw [hput, hS3, hS2, hB1]; simp only [List.append_assoc]; rfl⟩
  have hle : X.length ≤ (putD (shN k) d X R).1.length := by obtain ⟨S, e⟩ := hS; rw [e, List.length_append]; omega
  have hr := readR (Y := Y) G0 sp (shP k)
  refine ⟨hle, hS, hg, ?_⟩
  unfold getD
  rw [if_neg (by rw [hk]; first | (simp; done) | (simp; omega)), if_neg (by rw [List.length_append]; omega), Int.toNat_natCast, show ((X.length : Int) + (((putD (shN k) d X R).1.length - X.length : Nat) : Int)).toNat = (putD (shN k) d X R).1.length by omega, hr]

/-- What is written of a name hangs on the place alone. -/
theorem nameW_shift (short : Bool) : ∀ (n : List (List UInt8)) (B C : List UInt8) (R : Rs), B.length = C.length → ∃ W R', nameW short n B R = (B ++ W, R') ∧ nameW short n C R = (C ++ W, R')
  | [], B, C, R, _ => ⟨[0], R, rfl, rfl⟩
  | l :: n, B, C, R, h => by
    cases hf : findR R (l :: n) with
    | none =>
      obtain ⟨W, R', h1, h2⟩ := nameW_shift short n (B ++ UInt8.ofNat l.length :: l) (C ++ UInt8.ofNat l.length :: l) (if B.length < 16384 then R ++ [(l :: n, B.length)] else R) (by simp [h])
      refine ⟨(UInt8.ofNat l.length :: l) ++ W, R', ?_, ?_⟩
      · rw [nameW_miss hf, h1]; simp
      · rw [nameW_miss hf, ← h, h2]; simp
    | some k =>
      cases short with
      | false =>
        obtain ⟨W, R', h1, h2⟩ := nameW_shift false n (B ++ UInt8.ofNat l.length :: l) (C ++ UInt8.ofNat l.length :: l) (if B.length < 16384 then R ++ [(l :: n, B.length)] else R) (by simp [h])
        refine ⟨(UInt8.ofNat l.length :: l) ++ W, R', ?_, ?_⟩
        · rw [nameW_long, h1]; simp
        · rw [nameW_long, ← h, h2]; simp
      | true => exact ⟨digs (49152 + k) 2, R, nameW_hit hf, nameW_hit hf⟩
theorem putD_shift (s : Sh) (d : Dt) (B C : List UInt8) (R : Rs) (h : B.length = C.length) : ∃ W R', putD s d B R = (B ++ W, R') ∧ putD s d C R = (C ++ W, R') := by
  have hH : ∃ W R', putH s d B R = (B ++ W, R') ∧ putH s d C R = (C ++ W, R') := by
    unfold putH
    split
    · obtain ⟨W, R', h1, h2⟩ := nameW_shift s.short d.host (B ++ numsW 2 (d.nums.take s.ahead)) (C ++ numsW 2 (d.nums.take s.ahead)) R (by simp [h])
      exact ⟨numsW 2 (d.nums.take s.ahead) ++ W, R', by rw [h1]; simp, by rw [h2]; simp⟩
    · exact ⟨numsW 2 (d.nums.take s.ahead), R, rfl, rfl⟩
  obtain ⟨W, R1, h1, h2⟩ := hH
  have hM : ∃ W2 R', putM s d (B ++ W, R1) = (B ++ W2, R') ∧ putM s d (C ++ W, R1) = (C ++ W2, R') := by
    unfold putM
    split
    · obtain ⟨W2, R', h3, h4⟩ := nameW_shift s.short d.mail (B ++ W) (C ++ W) R1 (by simp [h])
      exact ⟨W ++ W2, R', by rw [h3]; simp, by rw [h4]; simp⟩
    · exact ⟨W, R1, rfl, rfl⟩
  obtain ⟨W2, R', h3, h4⟩ := hM
  refine ⟨(W2 ++ numsW 4 (d.nums.drop s.ahead)) ++ textsW d.texts ++ d.bytes, R', ?_, ?_⟩
  · unfold putD
    rw [h1, h3]
    simp
  · unfold putD
    rw [h2, h4]
    simp

end Go.Proofs.YthppgofpbpjglaaGreat

namespace Go.Proofs.YthppgofpbpjglaaGreat
open Go.RowKit

/-- copy into a row that is known whole, as one step of a region that draws: nothing but that row turns. -/
theorem step_copy_at {P : Program} {ops : Array Oper} {o : Oper} {a : Act} {w : World} {K : Act → World → Prop} {Q : Exit → Act → World → Prop} {E : Prop} (hgd : o.guard = none) (d s : Operand) (dT sT : TypeId)
    (ho : o.op = .call { callee := .builtin .copy, args := #[d, s], argTypes := #[dT, sT] }) (elem : TypeId) (hu : P.underlying dT = some (.slice elem)) (hsz : (P.info? elem).map (·.size) = some 1)
    (sp : Option Addr) (dLen dCap sLen sCap : Nat) (g off : Nat) (hd : a.eval d = .slice (some ⟨g, off, none⟩) dLen dCap) (hs : a.eval s = .slice sp sLen sCap)
    (cur : List Value) (t : TypeId) (hg : w.heap[g]? = some (.cells cur.toArray t (0, 0))) (H : Nat) (cs : List Value) (hn : cs.length = Nat.min sLen dLen) (hpos : 0 < cs.length) (hr : Row w H sp cs)
    (hfit : off + cs.length ≤ cur.length) (h1 : ∀ v ∈ cs, v.oneCell' = true)
    (h : ∀ w', Hid (w'.heap[g]? = some (.cells (splice cur off cs).toArray t (0, 0))) → Grew (· = g) w w' → K (a.put o.dst (goInt cs.length)) w') :
    if Region.wanted o (yielded ops a.tmps) = true then Oper.wp P o a w K Q else E := by
  have hw : Region.wanted o (yielded ops a.tmps) = true := by simp [Region.wanted, hgd]
  rw [if_pos hw]
  obtain ⟨ad, rfl, hsrc⟩ := hr.pos hpos
  have hrun := run_copy_row (P := P) w dT sT o.type elem g off dLen dCap ad sLen sCap cur.toArray t cs hu hsz hg hn hsrc (by simpa using hfit) h1
  unfold Oper.wp
  simp [execOp, ho, resolve, invoke, builtin, hd, hs, hrun, Result.andThen]
  refine h _ (show _ = _ by simpa [splice] using setRow_heap w g _ _ t _ hg) ⟨rfl, rfl, rfl, by simp, fun k _ hk => ?_⟩
  exact setRow_other w g k _ hk

/-- B with l in the place of the bytes from p on. -/
def setB (B : List UInt8) (p : Nat) (l : List UInt8) : List UInt8 := B.take p ++ (l ++ B.drop (p + l.length))
theorem length_setB {B : List UInt8} {p : Nat} {l : List UInt8} (h : p + l.length ≤ B.length) : (setB B p l).length = B.length := by
  simp [setB]; omega
theorem take_splice {α : Type} {L M : List α} {p m : Nat} {cs : List α} (hL : L.take m = M) (hm : M.length = m) (hp : p + cs.length ≤ m) : (splice L p cs).take m = M.take p ++ (cs ++ M.drop (p + cs.length)) := by
  have hml : m ≤ L.length := by rw [← hL, List.length_take] at hm; omega
  unfold splice
  rw [← hL, List.take_take, Nat.min_eq_left (by omega), List.take_append, List.take_append]
  simp only [List.length_take, List.drop_take]
  congr 1
  · rw [List.take_take]; congr 1; omega
  · congr 1
    · exact List.take_of_length_le (by omega)
    · congr 1; omega






























theorem fitB_size {n s : Int} (hf : fitB n s = true) : 1 ≤ s ∧ s ≤ 7 ∧ 0 ≤ n := by
  simp only [fitB, decide_eq_true_eq] at hf
  exact ⟨hf.1, hf.2.1, hf.2.2.1⟩












































































































end Go.Proofs.YthppgofpbpjglaaGreat

namespace Go.Proofs.YthppgofpbpjglaaGreat
open Go.RowKit

/-- May a record be? -/
def soundR (r : Rt) : Bool := soundN r.name && (soundD r.kind r.data && (fitB r.cls 2 && (decide (0 ≤ r.ttl) && decide (r.ttl ≤ 2147483647))))
structure SoundR (r : Rt) : Prop where
  n : soundN r.name = true
  d : soundD r.kind r.data = true
  c : fitB r.cls 2 = true
  t0 : 0 ≤ r.ttl
  t1 : r.ttl ≤ 2147483647
theorem soundR_iff {r : Rt} : soundR r = true ↔ SoundR r := by
  unfold soundR
  simp only [Bool.and_eq_true, decide_eq_true_eq]
  exact ⟨fun ⟨a, b, c, d, e⟩ => ⟨a, b, c, d, e⟩, fun ⟨a, b, c, d, e⟩ => ⟨a, b, c, d, e⟩⟩

/-- A record's name, and what stands ahead of the number that tells its data's length. -/
def putH8 (r : Rt) (B : List UInt8) (R : Rs) : List UInt8 := (((nameW true r.name B R).1 ++ putL [] r.kind 2) ++ putL [] r.cls 2) ++ putL [] r.ttl 4
/-- Its data, behind a length that is still 0. -/
def putD0 (r : Rt) (B : List UInt8) (R : Rs) : List UInt8 × Rs := putD (shN r.kind) r.data (putH8 r B R ++ putL [] 0 2) (nameW true r.name B R).2
/-- A record, behind B with the rests R. -/
def putRR (r : Rt) (B : List UInt8) (R : Rs) : List UInt8 × Rs :=
  (setB (putD0 r B R).1 (putH8 r B R).length (digs ((putD0 r B R).1.length - ((putH8 r B R).length + 2)) 2), (putD0 r B R).2)

theorem putD_room {k : Int} {d : Dt} (hs : soundD k d = true) (B : List UInt8) (R : Rs) : (putD (shN k) d B R).1.length ≤ B.length + 65535 := by
  have sp := soundP hs
  have n1 := length_numsW 2 (d.nums.take (shN k).ahead)
  have n2 := length_numsW 4 (d.nums.drop (shN k).ahead)
  rw [List.length_take] at n1
  rw [List.length_drop] at n2
  have n3 := sp.n
  have n4 := length_textsW 255 d.texts sp.tl
  have n5 : (255 + 7) * d.texts.length ≤ (255 + 7) * 64 := Nat.mul_le_mul_left _ sp.t
  have n6 := sp.b
  have hH : (putH (shN k) d B R).1.length ≤ B.length + (numsW 2 (d.nums.take (shN k).ahead)).length + (if (shN k).host = true then 255 else 0) := by
    unfold putH
    cases hh : (shN k).host
    · simp only [Bool.false_eq_true, if_false, List.length_append]
      omega
    · have hs := soundN_parts (sp.h hh)
      simp only [if_true]
      have := length_nameW_le (shN k).short d.host (B ++ numsW 2 (d.nums.take (shN k).ahead)) R hs.1
      rw [List.length_append] at this
      omega
  have hM : (putM (shN k) d (putH (shN k) d B R)).1.length ≤ B.length + (numsW 2 (d.nums.take (shN k).ahead)).length + (if (shN k).host = true then 255 else 0) + (if (shN k).mail = true then 255 else 0) := by
    unfold putM
    cases hh : (shN k).mail
    · simp only [Bool.false_eq_true, if_false]
      omega
    · have hs := soundN_parts (sp.m hh)
      simp only [if_true]
      have := length_nameW_le (shN k).short d.mail (putH (shN k) d B R).1 (putH (shN k) d B R).2 hs.1
      omega
  have hlen : (putD (shN k) d B R).1.length = (putM (shN k) d (putH (shN k) d B R)).1.length + (numsW 4 (d.nums.drop (shN k).ahead)).length + (textsW d.texts).length + d.bytes.length := by
    unfold putD
    simp only [List.length_append]
  have h10 := shN_small k
  rcases shN_cases k with hk | hk | hk | hk | hk | hk | hk | hk | hk | hk
  case inr.inr.inr.inr.inr.inr.inr.inr.inr =>
    rw [shN_other hk] at *
    have t0 := sp.t0 rfl
    rw [t0] at hlen
    simp only [textsW, List.length_nil, Bool.false_eq_true, if_false] at *
    omega
  all_goals
    have hm : (shN k).most ≤ 16 := by rw [hk]; decide
    have i1 : (if (shN k).host = true then 255 else 0) ≤ 255 := by split <;> omega
    have i2 : (if (shN k).mail = true then 255 else 0) ≤ 255 := by split <;> omega
    omega

theorem length_putD_rests {k : Int} {d : Dt} (hs : soundD k d = true) (B : List UInt8) (R : Rs) : (putD (shN k) d B R).2.length ≤ R.length + 600 := by
  have sp := soundP hs
  have hH : (putH (shN k) d B R).2.length ≤ R.length + 255 := by
    unfold putH
    cases hh : (shN k).host
    · simp only [Bool.false_eq_true, if_false]
      omega
    · have hs := soundN_parts (sp.h hh)
      simp only [if_true]
      have h1 := length_nameW_rests (shN k).short d.host (B ++ numsW 2 (d.nums.take (shN k).ahead)) R
      have h2 := length_lt_szN d.host
      omega
  unfold putD
  dsimp only
  unfold putM
  cases hh : (shN k).mail
  · simp only [Bool.false_eq_true, if_false]
    omega
  · have hs := soundN_parts (sp.m hh)
    simp only [if_true]
    have h1 := length_nameW_rests (shN k).short d.mail (putH (shN k) d B R).1 (putH (shN k) d B R).2
    have h2 := length_lt_szN d.mail
    omega

theorem numAt_digs {P Q : List UInt8} {m s : Nat} (hm : m < 2 ^ (8 * s)) : numAt ((P ++ digs m s) ++ Q) P.length s = m := by
  unfold numAt cutL
  rw [List.append_assoc, List.drop_left, List.take_append_of_le_length (by rw [length_digs]; exact Nat.le_refl _), List.take_of_length_le (by rw [length_digs]; exact Nat.le_refl _), numN_digs hm]

theorem setB_mid (P l W : List UInt8) (m : List UInt8) (h : l.length = m.length) : setB ((P ++ l) ++ W) P.length m = (P ++ m) ++ W := by
  unfold setB
  rw [List.append_assoc, List.take_left, ← h, List.drop_append, List.drop_of_length_le (by omega)]
  simp

/-- What Put writes is what is written of the data behind its length. -/
theorem putRR_eq {r : Rt} {B : List UInt8} {R : Rs} (hs : SoundR r) : ∃ W : List UInt8, W.length ≤ 65535 ∧
    putRR r B R = putD (shN r.kind) r.data (putH8 r B R ++ digs W.length 2) (nameW true r.name B R).2 ∧ (putRR r B R).1 = (putH8 r B R ++ digs W.length 2) ++ W ∧ (putD0 r B R).1 = (putH8 r B R ++ putL [] 0 2) ++ W := by
  have h0 : putL [] 0 2 = digs 0 2 := by decide +kernel
  obtain ⟨W, R', h1, _⟩ := putD_shift (shN r.kind) r.data (putH8 r B R ++ putL [] 0 2) (putH8 r B R ++ putL [] 0 2) (nameW true r.name B R).2 rfl
  obtain ⟨W2, R2, h3, h4⟩ := putD_shift (shN r.kind) r.data (putH8 r B R ++ putL [] 0 2) (putH8 r B R ++ digs W.length 2) (nameW true r.name B R).2 (by rw [h0]; simp [length_digs])
  rw [h1] at h3
  injection h3 with h5 h6
  have hW := List.append_cancel_left h5
  subst hW; subst h6
  have hd : putD0 r B R = ((putH8 r B R ++ putL [] 0 2) ++ W, R') := h1
  have hlen : (putD0 r B R).1.length - ((putH8 r B R).length + 2) = W.length := by rw [hd, h0]; simp [length_digs]; omega
  have hroom := putD_room hs.d (putH8 r B R ++ putL [] 0 2) (nameW true r.name B R).2
  rw [h1] at hroom
  simp only [List.length_append] at hroom
  have he : putRR r B R = ((putH8 r B R ++ digs W.length 2) ++ W, R') := by
    unfold putRR
    rw [hlen, hd]
    dsimp only
    rw [setB_mid _ _ _ _ (by rw [h0]; simp [length_digs])]
  exact ⟨W, by omega, by rw [he, h4], by rw [he], by rw [hd]⟩

/-- A record that was put is read as it is, whatever stands behind it. -/
theorem putRR_back {r : Rt} {B : List UInt8} {R : Rs} (hs : SoundR r) (G : GoodR B R) :
    (∃ S, (putRR r B R).1 = B ++ S) ∧ GoodR (putRR r B R).1 (putRR r B R).2 ∧ (putRR r B R).1.length ≤ B.length + 70000 ∧ (putRR r B R).2.length ≤ R.length + 900 ∧ ∀ Y, getRR ((putRR r B R).1 ++ Y) B.length = (r, (putRR r B R).1.length, 0) := by
  have hp := soundN_parts hs.n
  obtain ⟨⟨S0, hS0⟩, hat, hg⟩ := nameW_good (short := true) hp.1 G
  have hlx := length_nameW_le true r.name B R hp.1
  obtain ⟨W, hW, h1, h2, _⟩ := putRR_eq (B := B) (R := R) hs
  have hkd : kindB r.kind = true := by have h := hs.d; unfold soundD at h; simp only [Bool.and_eq_true] at h; exact h.1
  simp only [kindB, decide_eq_true_eq] at hkd
  obtain ⟨k, hk⟩ : ∃ k : Nat, r.kind = k := ⟨r.kind.toNat, by omega⟩
  obtain ⟨c, s2, hc, hs2, _, hclt, _⟩ := putL_fit hs.c
  obtain rfl : s2 = 2 := by omega
  obtain ⟨t, ht⟩ : ∃ t : Nat, r.ttl = t := ⟨r.ttl.toNat, by have := hs.t0; omega⟩
  have htb := hs.t1
  have hk16 : k < 2 ^ (8 * 2) := by simp; omega
  have ht32 : t < 2 ^ (8 * 4) := by simp; omega
  have fk : putL [] r.kind 2 = digs k 2 := by
    have h := putL_yes (l := []) (n := k) (s := 2) (fitB_true (by omega) (by omega) (by omega) (by simp; omega))
    rw [List.nil_append] at h
    rw [hk]; exact h
  have fc : putL [] r.cls 2 = digs c 2 := by
    have hcf := hs.c
    rw [hc] at hcf
    have h := putL_yes (l := []) (n := c) (s := 2) hcf
    rw [List.nil_append] at h
    rw [hc]; exact h
  have ft : putL [] r.ttl 4 = digs t 4 := by
    have h := putL_yes (l := []) (n := t) (s := 4) (fitB_true (by omega) (by omega) (by omega) (by simp; omega))
    rw [List.nil_append] at h
    rw [ht]; exact h
  obtain ⟨P, hP⟩ : ∃ P, P = (nameW true r.name B R).1 := ⟨_, rfl⟩
  have h8 : putH8 r B R = ((P ++ digs k 2) ++ digs c 2) ++ digs t 4 := by unfold putH8; rw [fk, fc, ft, hP]
  obtain ⟨X, hX⟩ : ∃ X, X = putH8 r B R ++ digs W.length 2 := ⟨_, rfl⟩
  have hXl : X.length = P.length + 10 := by rw [hX, h8]; simp [length_digs]
  have GX : GoodR X (nameW true r.name B R).2 := by
    rw [hX, h8, hP]
    exact (((hg.more _).more _).more _).more _
  rw [← hX] at h1 h2
  obtain ⟨_, ⟨S1, hS1⟩, hG2, _⟩ := getR_data (Y := []) GX hs.d
  have hlen : (putRR r B R).1.length = X.length + W.length := by rw [h2, List.length_append]
  have hrest : (putRR r B R).2.length ≤ R.length + 900 := by
    rw [h1]
    have a1 := length_nameW_rests true r.name B R
    have a2 := length_lt_szN r.name
    have a3 := length_putD_rests hs.d X (nameW true r.name B R).2
    omega
  refine ⟨?_, by rw [h1]; exact hG2, ?_, hrest, fun Y => ?_⟩
  · rw [h2, hX, h8, hP, hS0]
    exact ⟨_, by simp only [List.append_assoc]; rfl⟩
  · rw [hlen, hXl, hP]
    omega
  · have hgd := (getR_data (Y := Y) GX hs.d).2.2.2
    rw [← h1, h2] at hgd
    have e1 : (X ++ W).length - X.length = W.length := by rw [List.length_append]; omega
    rw [e1] at hgd
    have hB : (putRR r B R).1 ++ Y = P ++ ((digs k 2 ++ (digs c 2 ++ (digs t 4 ++ digs W.length 2))) ++ (W ++ Y)) := by
      rw [h2, hX, h8]
      simp only [List.append_assoc]
    have hw : getW ((putRR r B R).1 ++ Y) B.length = (r.name, P.length, 0) := by
      rw [getW_at, hB]
      have := (nameR_back (en := 0) (hat.more ((digs k 2 ++ (digs c 2 ++ (digs t 4 ++ digs W.length 2))) ++ (W ++ Y))) (by have := hat.pos; omega) hp.2).1
      rw [← hP] at this
      exact this
    have n0 : numAt ((putRR r B R).1 ++ Y) P.length 2 = k := by
      rw [hB]
      have := numAt_digs (P := P) (Q := (digs c 2 ++ (digs t 4 ++ digs W.length 2)) ++ (W ++ Y)) hk16
      simpa only [List.append_assoc] using this
    have n1 : numAt ((putRR r B R).1 ++ Y) (P.length + 2) 2 = c := by
      rw [hB]
      have := numAt_digs (P := P ++ digs k 2) (Q := (digs t 4 ++ digs W.length 2) ++ (W ++ Y)) hclt
      rw [List.length_append, length_digs] at this
      simpa only [List.append_assoc] using this
    have n2 : numAt ((putRR r B R).1 ++ Y) (P.length + 4) 4 = t := by
      rw [hB]
      have := numAt_digs (P := (P ++ digs k 2) ++ digs c 2) (Q := digs W.length 2 ++ (W ++ Y)) ht32
      rw [List.length_append, List.length_append, length_digs, length_digs] at this
      simpa only [List.append_assoc, Nat.add_assoc] using this
    have n3 : numAt ((putRR r B R).1 ++ Y) (P.length + 8) 2 = W.length := by
      rw [hB]
      have := numAt_digs (P := ((P ++ digs k 2) ++ digs c 2) ++ digs t 4) (Q := W ++ Y) (m := W.length) (s := 2) (by simp; omega)
      simp only [List.length_append, length_digs] at this
      simpa only [List.append_assoc, Nat.add_assoc] using this
    have hgd2 : getD ((putRR r B R).1 ++ Y) ((P.length : Int) + 10) W.length k = (r.data, 0) := by
      rw [h2, ← hk]
      have e2 : ((X.length : Nat) : Int) = (P.length : Int) + 10 := by omega
      rw [← e2]
      exact hgd
    unfold getRR
    rw [hw]
    dsimp only
    rw [if_neg (by simp), if_neg (by rw [List.length_append, hlen, hXl]; omega), n0, n3, if_neg (by omega), hgd2]
    dsimp only
    rw [if_neg (by simp), n1]
    have ht2 : ttlAt ((putRR r B R).1 ++ Y) (P.length + 4) = t := by
      unfold ttlAt
      rw [n2, if_neg (by omega)]
    rw [ht2, hlen, hXl, ← hk, ← hc, ← ht]

end Go.Proofs.YthppgofpbpjglaaGreat

namespace Go.Proofs.YthppgofpbpjglaaGreat
open Go.RowKit

/-- What a message says ahead of its questions and records. -/
structure Hd where
  id : Int
  resp : Bool
  op : Int
  aa : Bool
  tc : Bool
  rd : Bool
  ra : Bool
  rc : Int
  edns : Bool
  size : Int
/-- A message. -/
structure Mt where
  h : Hd
  qs : List Qt
  an : List Rt
  au : List Rt
  ex : List Rt
def codeB (n : Int) : Bool := decide (0 ≤ n) && decide (n ≤ 15)
def soundH (h : Hd) : Bool := fitB h.id 2 && (codeB h.op && (codeB h.rc && (fitB h.size 2 && (h.edns || decide (h.size = 0)))))
def soundQ (q : Qt) : Bool := soundN q.name && (decide (q.kind ≠ 0) && (fitB q.kind 2 && fitB q.cls 2))
/-- May a record be in a message? -/
def soundX (r : Rt) : Bool := decide (r.kind ≠ 41) && soundR r
def Mt.all (m : Mt) : List Rt := m.an ++ (m.au ++ m.ex)
def soundM (m : Mt) : Bool := soundH m.h && (decide (m.qs.length + m.an.length + m.au.length + m.ex.length ≤ 512) && (m.qs.all soundQ && m.all.all soundX))
structure SoundM (m : Mt) : Prop where
  h : soundH m.h = true
  n : m.qs.length + m.an.length + m.au.length + m.ex.length ≤ 512
  q : ∀ q ∈ m.qs, soundQ q = true
  r : ∀ r ∈ m.all, soundX r = true
theorem soundM_iff {m : Mt} : soundM m = true ↔ SoundM m := by
  unfold soundM
  simp only [Bool.and_eq_true, decide_eq_true_eq, List.all_eq_true]
  exact ⟨fun ⟨a, b, c, d⟩ => ⟨a, b, c, d⟩, fun ⟨a, b, c, d⟩ => ⟨a, b, c, d⟩⟩
theorem soundX_iff {r : Rt} : soundX r = true ↔ r.kind ≠ 41 ∧ SoundR r := by
  unfold soundX
  rw [Bool.and_eq_true, decide_eq_true_eq, soundR_iff]

def bit (b : Bool) (n : Nat) : Nat := if b = true then n else 0
/-- The flags as a number. -/
def bitsH (h : Hd) : Nat := bit h.resp 32768 + h.op.toNat * 2048 + bit h.aa 1024 + bit h.tc 512 + bit h.rd 256 + bit h.ra 128 + h.rc.toNat
/-- What the flags say. -/
def hdOf (i f : Nat) (edns : Bool) (size : Int) : Hd :=
  ⟨i, decide (f / 32768 % 2 = 1), (f / 2048 % 16 : Nat), decide (f / 1024 % 2 = 1), decide (f / 512 % 2 = 1), decide (f / 256 % 2 = 1), decide (f / 128 % 2 = 1), (f % 16 : Nat), edns, size⟩
theorem bitsH_lt {h : Hd} (ho : codeB h.op = true) (hr : codeB h.rc = true) : bitsH h < 65536 := by
  unfold codeB at ho hr
  simp only [Bool.and_eq_true, decide_eq_true_eq] at ho hr
  have : ∀ b n, bit b n ≤ n := fun b n => by unfold bit; split <;> omega
  have h1 := this h.resp 32768
  have h2 := this h.aa 1024
  have h3 := this h.tc 512
  have h4 := this h.rd 256
  have h5 := this h.ra 128
  unfold bitsH
  omega
theorem hdOf_bits {h : Hd} (hs : soundH h = true) : hdOf h.id.toNat (bitsH h) h.edns h.size = h := by
  unfold soundH at hs
  simp only [Bool.and_eq_true] at hs
  obtain ⟨hi, ho, hr, _, _⟩ := hs
  have hid : 0 ≤ h.id := by unfold fitB at hi; simp only [decide_eq_true_eq] at hi; omega
  unfold codeB at ho hr
  simp only [Bool.and_eq_true, decide_eq_true_eq] at ho hr
  obtain ⟨o, eo⟩ : ∃ o : Nat, h.op = o := ⟨h.op.toNat, by omega⟩
  obtain ⟨c, ec⟩ : ∃ c : Nat, h.rc = c := ⟨h.rc.toNat, by omega⟩
  obtain ⟨id, resp, op, aa, tc, rd, ra, rc, edns, size⟩ := h
  dsimp only at *
  subst eo; subst ec
  have e1 : ((id.toNat : Nat) : Int) = id := by omega
  unfold hdOf bitsH
  dsimp only
  simp only [Int.toNat_natCast, Hd.mk.injEq]
  have ho2 : o ≤ 15 := by omega
  have hc2 : c ≤ 15 := by omega
  refine ⟨e1, ?_, ?_, ?_, ?_, ?_, ?_, ?_, trivial, trivial⟩
  all_goals
    cases resp <;> cases aa <;> cases tc <;> cases rd <;> cases ra <;> simp only [bit, if_true, if_false, Bool.false_eq_true, decide_eq_true_eq, decide_eq_false_iff_not] <;> omega

/-- A question, behind B with the rests R. -/
def putQ (q : Qt) (B : List UInt8) (R : Rs) : List UInt8 × Rs := (((nameW true q.name B R).1 ++ putL [] q.kind 2) ++ putL [] q.cls 2, (nameW true q.name B R).2)
def putQs (qs : List Qt) (s : List UInt8 × Rs) : List UInt8 × Rs := qs.foldl (fun s q => putQ q s.1 s.2) s
def putRs (rs : List Rt) (s : List UInt8 × Rs) : List UInt8 × Rs := rs.foldl (fun s r => putRR r s.1 s.2) s
theorem putQs_snoc (qs : List Qt) (q : Qt) (s : List UInt8 × Rs) : putQs (qs ++ [q]) s = putQ q (putQs qs s).1 (putQs qs s).2 := by simp [putQs]
theorem putRs_snoc (rs : List Rt) (r : Rt) (s : List UInt8 × Rs) : putRs (rs ++ [r]) s = putRR r (putRs rs s).1 (putRs rs s).2 := by simp [putRs]
theorem putRs_append (rs ss : List Rt) (s : List UInt8 × Rs) : putRs (rs ++ ss) s = putRs ss (putRs rs s) := by simp [putRs]
/-- The record that Edns and Size are. -/
def optR (size : Int) : Rt := ⟨[], 41, size, 0, ⟨[], [], [], [], []⟩⟩
/-- Extra, as it is written. -/
def Mt.exX (m : Mt) : List Rt := m.ex ++ (if m.h.edns = true then [optR m.h.size] else [])
def headM (h : Hd) (a b c d : Int) : List UInt8 := ((((putL [] h.id 2 ++ putL [] (bitsH h) 2) ++ putL [] a 2) ++ putL [] b 2) ++ putL [] c 2) ++ putL [] d 2
def Mt.head (m : Mt) : List UInt8 := headM m.h m.qs.length m.an.length m.au.length m.exX.length
/-- A message's bytes. -/
def encM (m : Mt) : List UInt8 := (putRs (m.an ++ (m.au ++ m.exX)) (putQs m.qs (m.head, []))).1

/-- The question that begins at p, and the place behind it. -/
def getQ (b : List UInt8) (p : Nat) : Qt × Nat × Nat :=
  if (getW b p).2.2 ≠ 0 then (⟨[], 0, 0⟩, 0, (getW b p).2.2) else
  if b.length < (getW b p).2.1 + 4 then (⟨[], 0, 0⟩, 0, 3) else
  if numAt b (getW b p).2.1 2 = 0 then (⟨[], 0, 0⟩, 0, 2) else
  (⟨(getW b p).1, numAt b (getW b p).2.1 2, numAt b ((getW b p).2.1 + 2) 2⟩, (getW b p).2.1 + 4, 0)
/-- So many questions, from p on, behind those that are read. -/
def getQs (b : List UInt8) : Nat → Nat → List Qt → Except Nat (List Qt × Nat)
  | 0, p, l => .ok (l, p)
  | k + 1, p, l => if (getQ b p).2.2 ≠ 0 then .error (getQ b p).2.2 else getQs b k (getQ b p).2.1 (l ++ [(getQ b p).1])
/-- What is known behind some records: they, the place, Edns, Size. -/
structure Rd where
  rs : List Rt
  p : Nat
  e : Bool
  s : Int
/-- One record more, in the last section or not. -/
def addR (last : Bool) (r : Rt) (next : Nat) (s : Rd) : Except Nat Rd :=
  if r.kind = 41 then (if last = false ∨ s.e = true ∨ r.name ≠ [] then .error 2 else .ok ⟨s.rs, next, true, r.cls⟩) else .ok ⟨s.rs ++ [r], next, s.e, s.s⟩
def stepR (b : List UInt8) (last : Bool) (s : Rd) : Except Nat Rd :=
  if (getRR b s.p).2.2 ≠ 0 then .error (getRR b s.p).2.2 else addR last (getRR b s.p).1 (getRR b s.p).2.1 s
def getRs (b : List UInt8) (last : Bool) : Nat → Rd → Except Nat Rd
  | 0, s => .ok s
  | k + 1, s => stepR b last s >>= getRs b last k
/-- The message that bytes are. -/
def decM (b : List UInt8) : Except Nat Mt :=
  if 65535 < b.length then .error 4 else
  if b.length < 12 then .error 3 else
  if 513 < numAt b 4 2 + numAt b 6 2 + numAt b 8 2 + numAt b 10 2 then .error 4 else
  getQs b (numAt b 4 2) 12 [] >>= fun q =>
  getRs b false (numAt b 6 2) ⟨[], q.2, false, 0⟩ >>= fun x =>
  getRs b false (numAt b 8 2) ⟨[], x.p, x.e, x.s⟩ >>= fun y =>
  getRs b true (numAt b 10 2) ⟨[], y.p, y.e, y.s⟩ >>= fun z =>
  if z.p < b.length then .error 7 else .ok ⟨hdOf (numAt b 0 2) (numAt b 2 2) z.e z.s, q.1, x.rs, y.rs, z.rs⟩

end Go.Proofs.YthppgofpbpjglaaGreat

namespace Go.Proofs.YthppgofpbpjglaaGreat
open Go.RowKit

theorem putL_digs {n s : Int} (h : fitB n s = true) : putL [] n s = digs n.toNat s.toNat := by
  unfold putL
  rw [if_pos h, List.nil_append]
theorem fit2 {n : Int} (h : fitB n 2 = true) : 0 ≤ n ∧ n < 65536 ∧ putL [] n 2 = digs n.toNat 2 ∧ n.toNat < 2 ^ (8 * 2) := by
  have h2 := putL_digs h
  unfold fitB at h
  simp only [decide_eq_true_eq] at h
  obtain ⟨_, _, h0, h1⟩ := h
  have h1' : n < 65536 := h1
  exact ⟨h0, h1', h2, by simp; omega⟩
theorem fit2_of {n : Int} (h0 : 0 ≤ n) (h1 : n < 65536) : fitB n 2 = true := fitB_true (by omega) (by omega) h0 (by simpa using h1)

theorem putQ_back {q : Qt} {B : List UInt8} {R : Rs} (hs : soundQ q = true) (G : GoodR B R) :
    (∃ S, (putQ q B R).1 = B ++ S) ∧ GoodR (putQ q B R).1 (putQ q B R).2 ∧ (putQ q B R).1.length ≤ B.length + 70000 ∧ (putQ q B R).2.length ≤ R.length + 900 ∧ ∀ Y, getQ ((putQ q B R).1 ++ Y) B.length = (q, (putQ q B R).1.length, 0) := by
  unfold soundQ at hs
  simp only [Bool.and_eq_true, decide_eq_true_eq] at hs
  obtain ⟨hn, hk0, hk, hc⟩ := hs
  obtain ⟨k0, k1, k2, k3⟩ := fit2 hk
  obtain ⟨c0, c1, c2, c3⟩ := fit2 hc
  have hp := soundN_parts hn
  obtain ⟨⟨S0, hS0⟩, hat, hg⟩ := nameW_good (short := true) hp.1 G
  have hlx := length_nameW_le true q.name B R hp.1
  have a1 := length_nameW_rests true q.name B R
  have a2 := length_lt_szN q.name
  obtain ⟨P, hP⟩ : ∃ P, P = (nameW true q.name B R).1 := ⟨_, rfl⟩
  have e : putQ q B R = ((P ++ digs q.kind.toNat 2) ++ digs q.cls.toNat 2, (nameW true q.name B R).2) := by unfold putQ; rw [k2, c2, hP]
  have hl : (putQ q B R).1.length = P.length + 4 := by rw [e]; simp [length_digs]
  refine ⟨⟨S0 ++ (digs q.kind.toNat 2 ++ digs q.cls.toNat 2), by rw [e, hP, hS0]; simp⟩, by rw [e, hP]; exact (hg.more _).more _, by rw [hl, hP]; omega, by rw [e]; dsimp only; omega, fun Y => ?_⟩
  have hB : (putQ q B R).1 ++ Y = P ++ ((digs q.kind.toNat 2 ++ digs q.cls.toNat 2) ++ Y) := by rw [e]; simp only [List.append_assoc]
  have hw : getW ((putQ q B R).1 ++ Y) B.length = (q.name, P.length, 0) := by
    rw [getW_at, hB]
    have := (nameR_back (en := 0) (hat.more ((digs q.kind.toNat 2 ++ digs q.cls.toNat 2) ++ Y)) (by have := hat.pos; omega) hp.2).1
    rw [← hP] at this
    exact this
  have n0 : numAt ((putQ q B R).1 ++ Y) P.length 2 = q.kind.toNat := by
    rw [hB]
    have := numAt_digs (P := P) (Q := digs q.cls.toNat 2 ++ Y) k3
    simpa only [List.append_assoc] using this
  have n1 : numAt ((putQ q B R).1 ++ Y) (P.length + 2) 2 = q.cls.toNat := by
    rw [hB]
    have := numAt_digs (P := P ++ digs q.kind.toNat 2) (Q := Y) c3
    rw [List.length_append, length_digs] at this
    simpa only [List.append_assoc] using this
  unfold getQ
  rw [hw]
  dsimp only
  rw [if_neg (by simp), if_neg (by rw [List.length_append, hl]; omega), n0, n1, if_neg (by omega), hl]
  have e1 : ((q.kind.toNat : Nat) : Int) = q.kind := by omega
  have e2 : ((q.cls.toNat : Nat) : Int) = q.cls := by omega
  rw [e1, e2]

/-- What has been written: it began so, it is good, and not too long. -/
structure GrownS (s t : List UInt8 × Rs) (n : Nat) : Prop where
  x : ∃ S, t.1 = s.1 ++ S
  g : GoodR t.1 t.2
  l : t.1.length ≤ s.1.length + 70000 * n
  r : t.2.length ≤ s.2.length + 900 * n
theorem GrownS.step {s t u : List UInt8 × Rs} {n : Nat} (h : GrownS s t 1) (k : GrownS t u n) : GrownS s u (n + 1) := by
  obtain ⟨S, hS⟩ := h.x
  obtain ⟨T, hT⟩ := k.x
  have h1 := h.l
  have h2 := h.r
  have h3 := k.l
  have h4 := k.r
  exact ⟨⟨S ++ T, by rw [hT, hS, List.append_assoc]⟩, k.g, by omega, by omega⟩
theorem putQs_good : ∀ (qs : List Qt) (s : List UInt8 × Rs), GoodR s.1 s.2 → (∀ q ∈ qs, soundQ q = true) → GrownS s (putQs qs s) qs.length
  | [], s, hg, _ => ⟨⟨[], by simp [putQs]⟩, hg, Nat.le_refl _, Nat.le_refl _⟩
  | q :: qs, s, hg, hq => by
    obtain ⟨h1, h2, h3, h4, _⟩ := putQ_back (hq q (List.mem_cons_self ..)) hg
    exact GrownS.step (t := putQ q s.1 s.2) ⟨h1, h2, h3, h4⟩ (putQs_good qs (putQ q s.1 s.2) h2 fun x hx => hq x (List.mem_cons_of_mem _ hx))
theorem putRs_good : ∀ (rs : List Rt) (s : List UInt8 × Rs), GoodR s.1 s.2 → (∀ r ∈ rs, SoundR r) → GrownS s (putRs rs s) rs.length
  | [], s, hg, _ => ⟨⟨[], by simp [putRs]⟩, hg, Nat.le_refl _, Nat.le_refl _⟩
  | r :: rs, s, hg, hr => by
    obtain ⟨h1, h2, h3, h4, _⟩ := putRR_back (hr r (List.mem_cons_self ..)) hg
    exact GrownS.step (t := putRR r s.1 s.2) ⟨h1, h2, h3, h4⟩ (putRs_good rs (putRR r s.1 s.2) h2 fun x hx => hr x (List.mem_cons_of_mem _ hx))
theorem getQs_back : ∀ (qs : List Qt) (s : List UInt8 × Rs) (Y : List UInt8) (l : List Qt), GoodR s.1 s.2 → (∀ q ∈ qs, soundQ q = true) →
    getQs ((putQs qs s).1 ++ Y) qs.length s.1.length l = .ok (l ++ qs, (putQs qs s).1.length)
  | [], s, Y, l, _, _ => by simp [putQs, getQs]
  | q :: qs, s, Y, l, hg, hq => by
    obtain ⟨_, h2, _, _, h5⟩ := putQ_back (hq q (List.mem_cons_self ..)) hg
    have hqs := fun x hx => hq x (List.mem_cons_of_mem q hx)
    obtain ⟨S, hS⟩ := (putQs_good qs (putQ q s.1 s.2) h2 hqs).x
    have e : putQs (q :: qs) s = putQs qs (putQ q s.1 s.2) := rfl
    have h6 := h5 (S ++ Y)
    rw [← List.append_assoc, ← hS] at h6
    rw [e, List.length_cons]
    unfold getQs
    rw [h6]
    dsimp only
    rw [if_neg (by simp), getQs_back qs (putQ q s.1 s.2) Y (l ++ [q]) h2 hqs]
    simp
theorem getRs_more (b : List UInt8) (last : Bool) (n : Nat) : ∀ (m : Nat) (s : Rd), getRs b last (m + n) s = getRs b last m s >>= getRs b last n
  | 0, s => by simp only [Nat.zero_add, getRs]; rfl
  | m + 1, s => by
    rw [show m + 1 + n = (m + n) + 1 by omega]
    simp only [getRs]
    cases h : stepR b last s with
    | error k => rfl
    | ok t => exact getRs_more b last n m t
theorem getRs_back (last : Bool) (e : Bool) (z : Int) : ∀ (rs : List Rt) (s : List UInt8 × Rs) (Y : List UInt8) (l : List Rt), GoodR s.1 s.2 → (∀ r ∈ rs, soundX r = true) →
    getRs ((putRs rs s).1 ++ Y) last rs.length ⟨l, s.1.length, e, z⟩ = .ok ⟨l ++ rs, (putRs rs s).1.length, e, z⟩
  | [], s, Y, l, _, _ => by simp [putRs, getRs]
  | r :: rs, s, Y, l, hg, hr => by
    obtain ⟨hk, hr0⟩ := soundX_iff.1 (hr r (List.mem_cons_self ..))
    obtain ⟨_, h2, _, _, h5⟩ := putRR_back hr0 hg
    have hrs := fun x hx => hr x (List.mem_cons_of_mem r hx)
    obtain ⟨S, hS⟩ := (putRs_good rs (putRR r s.1 s.2) h2 fun x hx => (soundX_iff.1 (hrs x hx)).2).x
    have e0 : putRs (r :: rs) s = putRs rs (putRR r s.1 s.2) := rfl
    have h6 := h5 (S ++ Y)
    rw [← List.append_assoc, ← hS] at h6
    rw [e0, List.length_cons]
    unfold getRs stepR addR
    dsimp only
    rw [h6]
    dsimp only
    rw [if_neg (by simp), if_neg hk]
    have h7 := getRs_back last e z rs (putRR r s.1 s.2) Y (l ++ [r]) h2 hrs
    show getRs ((putRs rs (putRR r s.1 s.2)).1 ++ Y) last rs.length ⟨l ++ [r], (putRR r s.1 s.2).1.length, e, z⟩ = _
    rw [h7]
    simp

theorem opt_sound {n : Int} (h : fitB n 2 = true) : SoundR (optR n) := by
  refine ⟨show soundN [] = true by decide, show soundD 41 ⟨[], [], [], [], []⟩ = true by decide +kernel, h, Int.le_refl _, by show (0 : Int) ≤ 2147483647; omega⟩
theorem Mt.exX_sound {m : Mt} (hs : SoundM m) : ∀ r ∈ m.exX, SoundR r := by
  intro r hr
  unfold Mt.exX at hr
  rcases List.mem_append.1 hr with h | h
  · exact (soundX_iff.1 (hs.r r (List.mem_append_right _ (List.mem_append_right _ h)))).2
  · split at h
    · rw [List.mem_singleton.1 h]
      have hh := hs.h
      unfold soundH at hh
      simp only [Bool.and_eq_true] at hh
      exact opt_sound hh.2.2.2.1
    · exact absurd h (List.not_mem_nil)
theorem length_exX (m : Mt) : m.exX.length = m.ex.length + (if m.h.edns = true then 1 else 0) := by
  unfold Mt.exX
  rw [List.length_append]
  split <;> rfl

/-- The six numbers of a head. -/
theorem head_nums {a b c d e f : Nat} (ha : a < 65536) (hb : b < 65536) (hc : c < 65536) (hd : d < 65536) (he : e < 65536) (hf : f < 65536) (Z : List UInt8) :
    let X := (((((digs a 2 ++ digs b 2) ++ digs c 2) ++ digs d 2) ++ digs e 2) ++ digs f 2) ++ Z
    numAt X 0 2 = a ∧ numAt X 2 2 = b ∧ numAt X 4 2 = c ∧ numAt X 6 2 = d ∧ numAt X 8 2 = e ∧ numAt X 10 2 = f := by
  intro X
  have p16 : (2 : Nat) ^ (8 * 2) = 65536 := rfl
  refine ⟨?_, ?_, ?_, ?_, ?_, ?_⟩
  · have := numAt_digs (P := []) (Q := digs b 2 ++ (digs c 2 ++ (digs d 2 ++ (digs e 2 ++ (digs f 2 ++ Z))))) (m := a) (s := 2) (by omega)
    simpa only [X, List.append_assoc, List.nil_append, List.length_nil] using this
  · have := numAt_digs (P := digs a 2) (Q := digs c 2 ++ (digs d 2 ++ (digs e 2 ++ (digs f 2 ++ Z)))) (m := b) (s := 2) (by omega)
    simpa only [X, List.append_assoc, length_digs] using this
  · have := numAt_digs (P := digs a 2 ++ digs b 2) (Q := digs d 2 ++ (digs e 2 ++ (digs f 2 ++ Z))) (m := c) (s := 2) (by omega)
    simpa only [X, List.append_assoc, List.length_append, length_digs] using this
  · have := numAt_digs (P := (digs a 2 ++ digs b 2) ++ digs c 2) (Q := digs e 2 ++ (digs f 2 ++ Z)) (m := d) (s := 2) (by omega)
    simpa only [X, List.append_assoc, List.length_append, length_digs] using this
  · have := numAt_digs (P := ((digs a 2 ++ digs b 2) ++ digs c 2) ++ digs d 2) (Q := digs f 2 ++ Z) (m := e) (s := 2) (by omega)
    simpa only [X, List.append_assoc, List.length_append, length_digs] using this
  · have := numAt_digs (P := (((digs a 2 ++ digs b 2) ++ digs c 2) ++ digs d 2) ++ digs e 2) (Q := Z) (m := f) (s := 2) (by omega)
    simpa only [X, List.append_assoc, List.length_append, length_digs] using this

theorem head_eq {m : Mt} (hs : SoundM m) : m.head = ((((digs m.h.id.toNat 2 ++ digs (bitsH m.h) 2) ++ digs m.qs.length 2) ++ digs m.an.length 2) ++ digs m.au.length 2) ++ digs m.exX.length 2 := by
  have hh := hs.h
  unfold soundH at hh
  simp only [Bool.and_eq_true] at hh
  obtain ⟨hi, ho, hr, _, _⟩ := hh
  have hb := bitsH_lt ho hr
  have hx := length_exX m
  have hn := hs.n
  have hx2 : m.exX.length ≤ m.ex.length + 1 := by rw [hx]; split <;> omega
  have e : ∀ n : Nat, n < 65536 → putL [] (n : Int) 2 = digs n 2 := fun n hn => by
    have h := (fit2 (fit2_of (n := (n : Int)) (by omega) (by omega))).2.2.1
    rwa [Int.toNat_natCast] at h
  unfold Mt.head headM
  rw [(fit2 hi).2.2.1, e _ hb, e _ (by omega), e _ (by omega), e _ (by omega), e _ (by omega)]
theorem length_head {m : Mt} (hs : SoundM m) : m.head.length = 12 := by rw [head_eq hs]; simp [length_digs]

/-- What is written of a sound message, in its parts. -/
theorem enc_parts {m : Mt} (hs : SoundM m) : GrownS (m.head, []) (putQs m.qs (m.head, [])) m.qs.length ∧ GrownS (putQs m.qs (m.head, [])) (putRs m.an (putQs m.qs (m.head, []))) m.an.length ∧
    GrownS (putRs m.an (putQs m.qs (m.head, []))) (putRs m.au (putRs m.an (putQs m.qs (m.head, [])))) m.au.length ∧
    GrownS (putRs m.au (putRs m.an (putQs m.qs (m.head, [])))) (putRs m.ex (putRs m.au (putRs m.an (putQs m.qs (m.head, []))))) m.ex.length ∧
    GrownS (putRs m.ex (putRs m.au (putRs m.an (putQs m.qs (m.head, []))))) (putRs m.exX (putRs m.au (putRs m.an (putQs m.qs (m.head, []))))) 1 := by
  have hr : ∀ r ∈ m.all, SoundR r := fun r h => (soundX_iff.1 (hs.r r h)).2
  have h1 := putQs_good m.qs (m.head, []) (GoodR.nil _) hs.q
  have h2 := putRs_good m.an _ h1.g fun r h => hr r (List.mem_append_left _ h)
  have h3 := putRs_good m.au _ h2.g fun r h => hr r (List.mem_append_right _ (List.mem_append_left _ h))
  have h4 := putRs_good m.ex _ h3.g fun r h => hr r (List.mem_append_right _ (List.mem_append_right _ h))
  refine ⟨h1, h2, h3, h4, ?_⟩
  have e : putRs m.exX (putRs m.au (putRs m.an (putQs m.qs (m.head, [])))) = putRs (if m.h.edns = true then [optR m.h.size] else []) (putRs m.ex (putRs m.au (putRs m.an (putQs m.qs (m.head, []))))) := putRs_append _ _ _
  rw [e]
  split
  · have hh := hs.h
    unfold soundH at hh
    simp only [Bool.and_eq_true] at hh
    exact putRs_good [optR m.h.size] _ h4.g fun r h => by rw [List.mem_singleton.1 h]; exact opt_sound hh.2.2.2.1
  · exact ⟨⟨[], by simp [putRs]⟩, h4.g, by simp [putRs], by simp [putRs]⟩
theorem enc_eq (m : Mt) : encM m = (putRs m.exX (putRs m.au (putRs m.an (putQs m.qs (m.head, []))))).1 := by
  unfold encM
  rw [putRs_append, putRs_append]

theorem dec_enc {m : Mt} (hs : SoundM m) (Y : List UInt8) (hl : (encM m ++ Y).length ≤ 65535) : decM (encM m ++ Y) = if Y = [] then .ok m else .error 7 := by
  obtain ⟨h1, h2, h3, h4, h5⟩ := enc_parts hs
  obtain ⟨S5, e5⟩ := h5.x
  obtain ⟨S4, e4⟩ := h4.x
  obtain ⟨S3, e3⟩ := h3.x
  obtain ⟨S2, e2⟩ := h2.x
  obtain ⟨S1, e1⟩ := h1.x
  have hh := hs.h
  have hhd := hdOf_bits hh
  unfold soundH at hh
  simp only [Bool.and_eq_true] at hh
  obtain ⟨hi, ho, hr, hz, hez⟩ := hh
  have hb := bitsH_lt ho hr
  have hx := length_exX m
  have hn := hs.n
  have hx2 : m.exX.length ≤ m.ex.length + 1 := by rw [hx]; split <;> omega
  have h12 := length_head hs
  have hE : encM m = ((((m.head ++ S1) ++ S2) ++ S3) ++ S4) ++ S5 := by rw [enc_eq, e5, e4, e3, e2, e1]
  have hlen : (encM m ++ Y).length = 12 + (S1.length + S2.length + S3.length + S4.length + S5.length + Y.length) := by
    rw [hE]
    simp only [List.length_append, h12]
    omega
  obtain ⟨n0, n1, n2, n3, n4, n5⟩ := head_nums (a := m.h.id.toNat) (b := bitsH m.h) (c := m.qs.length) (d := m.an.length) (e := m.au.length) (f := m.exX.length)
    (by have := (fit2 hi).1; have := (fit2 hi).2.1; omega) hb (by omega) (by omega) (by omega) (by omega) (S1 ++ (S2 ++ (S3 ++ (S4 ++ (S5 ++ Y)))))
  rw [← head_eq hs] at n0 n1 n2 n3 n4 n5
  have hX : m.head ++ (S1 ++ (S2 ++ (S3 ++ (S4 ++ (S5 ++ Y))))) = encM m ++ Y := by rw [hE]; simp only [List.append_assoc]
  rw [hX] at n0 n1 n2 n3 n4 n5
  have g1 := getQs_back m.qs (m.head, []) (S2 ++ (S3 ++ (S4 ++ (S5 ++ Y)))) [] (GoodR.nil _) hs.q
  rw [e1] at g1
  rw [show (m.head, ([] : Rs)).1 = m.head from rfl, h12] at g1
  have hr1 := fun r (h : r ∈ m.an) => hs.r r (List.mem_append_left _ h)
  have hr2 := fun r (h : r ∈ m.au) => hs.r r (List.mem_append_right _ (List.mem_append_left _ h))
  have hr3 := fun r (h : r ∈ m.ex) => hs.r r (List.mem_append_right _ (List.mem_append_right _ h))
  have g2 := getRs_back false false 0 m.an (putQs m.qs (m.head, [])) (S3 ++ (S4 ++ (S5 ++ Y))) [] h1.g hr1
  have g3 := getRs_back false false 0 m.au _ (S4 ++ (S5 ++ Y)) [] h2.g hr2
  have g4 := getRs_back true false 0 m.ex _ (S5 ++ Y) [] h3.g hr3
  have w1 : (putQs m.qs (m.head, [])).1 ++ (S2 ++ (S3 ++ (S4 ++ (S5 ++ Y)))) = encM m ++ Y := by rw [e1, hE]; simp only [List.append_assoc]
  have w2 : (putRs m.an (putQs m.qs (m.head, []))).1 ++ (S3 ++ (S4 ++ (S5 ++ Y))) = encM m ++ Y := by rw [e2, e1, hE]; simp only [List.append_assoc]
  have w3 : (putRs m.au (putRs m.an (putQs m.qs (m.head, [])))).1 ++ (S4 ++ (S5 ++ Y)) = encM m ++ Y := by rw [e3, e2, e1, hE]; simp only [List.append_assoc]
  have w4 : (putRs m.ex (putRs m.au (putRs m.an (putQs m.qs (m.head, []))))).1 ++ (S5 ++ Y) = encM m ++ Y := by rw [e4, e3, e2, e1, hE]; simp only [List.append_assoc]
  rw [w2] at g2
  rw [w3] at g3
  rw [w4] at g4
  rw [← e1, w1] at g1
  simp only [List.nil_append] at g1 g2 g3 g4
  have g5 : getRs (encM m ++ Y) true m.exX.length ⟨[], (putRs m.au (putRs m.an (putQs m.qs (m.head, [])))).1.length, false, 0⟩ = .ok ⟨m.ex, (encM m).length, m.h.edns, m.h.size⟩ := by
    rw [hx, getRs_more, g4]
    show getRs (encM m ++ Y) true (if m.h.edns = true then 1 else 0) _ = _
    have e6 : putRs m.exX (putRs m.au (putRs m.an (putQs m.qs (m.head, [])))) = putRs (if m.h.edns = true then [optR m.h.size] else []) (putRs m.ex (putRs m.au (putRs m.an (putQs m.qs (m.head, []))))) := putRs_append _ _ _
    cases hed : m.h.edns with
    | false =>
      rw [hed] at e6 hez
      simp only [Bool.false_eq_true, if_false, Bool.false_or, decide_eq_true_eq] at e6 hez ⊢
      rw [show putRs [] (putRs m.ex (putRs m.au (putRs m.an (putQs m.qs (m.head, []))))) = putRs m.ex (putRs m.au (putRs m.an (putQs m.qs (m.head, [])))) from rfl] at e6
      rw [enc_eq, e6, hez]
      rfl
    | true =>
      rw [hed] at e6
      simp only [if_true] at e6 ⊢
      rw [show putRs [optR m.h.size] (putRs m.ex (putRs m.au (putRs m.an (putQs m.qs (m.head, []))))) = putRR (optR m.h.size) (putRs m.ex (putRs m.au (putRs m.an (putQs m.qs (m.head, []))))).1 (putRs m.ex (putRs m.au (putRs m.an (putQs m.qs (m.head, []))))).2 from rfl] at e6
      obtain ⟨_, _, _, _, k5⟩ := putRR_back (opt_sound hz) h4.g
      have k6 := k5 Y
      rw [← e6, ← enc_eq] at k6
      unfold getRs stepR
      dsimp only
      rw [k6]
      dsimp only
      rw [if_neg (by simp)]
      rfl
  unfold decM
  rw [if_neg (by omega), if_neg (by omega), n2, n3, n4, n5, if_neg (by omega), g1]
  show (getRs (encM m ++ Y) false m.an.length ⟨[], (putQs m.qs (m.head, [])).1.length, false, 0⟩ >>= _) = _
  rw [g2]
  show (getRs (encM m ++ Y) false m.au.length ⟨[], (putRs m.an (putQs m.qs (m.head, []))).1.length, false, 0⟩ >>= _) = _
  rw [g3]
  show (getRs (encM m ++ Y) true m.exX.length ⟨[], (putRs m.au (putRs m.an (putQs m.qs (m.head, [])))).1.length, false, 0⟩ >>= _) = _
  rw [g5]
  show (if (encM m).length < (encM m ++ Y).length then Except.error 7 else Except.ok _) = _
  rw [n0, n1]
  cases Y with
  | nil => rw [if_neg (by simp), if_pos rfl, hhd]
  | cons y Y => rw [if_pos (by simp), if_neg (by simp)]

end Go.Proofs.YthppgofpbpjglaaGreat

namespace Go.Proofs.YthppgofpbpjglaaGreat
open Go.RowKit

theorem getR_grow (Y b : List UInt8) (p q x : Nat) (n : List (List UInt8)) : ∀ {m : List (List UInt8)} {e : Nat}, getR b p q x n = (m, e, 0) → getR (b ++ Y) p q x n = (m, e, 0) := by
  induction p, q, x, n using getR.induct (b := b) with
  | case1 p q x n h0 h1 =>
    intro m e h
    rw [getR, dif_pos h0, if_pos h1] at h
    rw [getR, dif_pos (by simp; omega), if_pos (by rw [List.getElem_append_left h0]; exact h1)]
    exact h
  | case2 p q x n h0 h1 h2 h3 h4 ih =>
    intro m e h
    rw [getR, dif_pos h0, if_neg h1, if_pos h2, dif_pos h3, if_pos h4] at h
    have g := ih h
    rw [getR, dif_pos (by simp; omega)]
    simp only [List.getElem_append_left h0]
    rw [if_neg h1, if_pos h2, dif_pos (by simp; omega)]
    simp only [List.getElem_append_left h3]
    rw [if_pos h4]
    exact g
  | case3 p q x n h0 h1 h2 h3 h4 =>
    intro m e h
    rw [getR, dif_pos h0, if_neg h1, if_pos h2, dif_pos h3, if_neg h4] at h
    simp at h
  | case4 p q x n h0 h1 h2 h3 =>
    intro m e h
    rw [getR, dif_pos h0, if_neg h1, if_pos h2, dif_neg h3] at h
    simp at h
  | case5 p q x n h0 h1 h2 h3 =>
    intro m e h
    rw [getR, dif_pos h0, if_neg h1, if_neg h2, if_pos h3] at h
    simp at h
  | case6 p q x n h0 h1 h2 h3 h4 h5 ih =>
    intro m e h
    rw [getR, dif_pos h0, if_neg h1, if_neg h2, if_neg h3, if_pos h4, if_pos h5] at h
    have g := ih h
    rw [getR, dif_pos (by simp; omega)]
    simp only [List.getElem_append_left h0]
    rw [if_neg h1, if_neg h2, if_neg h3, if_pos (by simp; omega), cutL_more h4, if_pos h5]
    exact g
  | case7 p q x n h0 h1 h2 h3 h4 h5 =>
    intro m e h
    rw [getR, dif_pos h0, if_neg h1, if_neg h2, if_neg h3, if_pos h4, if_neg h5] at h
    simp at h
  | case8 p q x n h0 h1 h2 h3 h4 =>
    intro m e h
    rw [getR, dif_pos h0, if_neg h1, if_neg h2, if_neg h3, if_neg h4] at h
    simp at h
  | case9 p q x n h0 =>
    intro m e h
    rw [getR, dif_neg h0] at h
    simp at h

theorem getW_grow (Y : List UInt8) {b : List UInt8} {a : Int} {m : List (List UInt8)} {e : Nat} (h : getW b a = (m, e, 0)) : getW (b ++ Y) a = (m, e, 0) := by
  unfold getW at h ⊢
  split at h
  · simp at h
  · rw [if_neg (by assumption)]
    exact getR_grow Y b _ _ _ _ h
theorem numAt_more {b Y : List UInt8} {p s : Nat} (h : p + s ≤ b.length) : numAt (b ++ Y) p s = numAt b p s := by
  unfold numAt
  rw [cutL_more h]
theorem numsL_more {b Y : List UInt8} {p s : Nat} : ∀ {k : Nat}, p + k * s ≤ b.length → numsL (b ++ Y) p s k = numsL b p s k
  | 0, _ => rfl
  | k + 1, h => by
    rw [Nat.succ_mul] at h
    unfold numsL
    rw [numsL_more (by omega), cutL_more (by omega)]
theorem numsR_more {b Y : List UInt8} {p en s k : Nat} (h : en ≤ b.length) : numsR (b ++ Y) p en s k = numsR b p en s k := by
  unfold numsR
  split
  · rw [numsL_more (by omega)]
  · rfl
theorem nameR_more (Y : List UInt8) {b : List UInt8} {p en : Nat} {r : List (List UInt8) × Nat} (h : nameR b p en = .ok r) : nameR (b ++ Y) p en = .ok r := by
  unfold nameR at h ⊢
  rcases hr : getR b p p 0 [] with ⟨n, e, k⟩
  rw [hr] at h
  unfold nameF at h
  dsimp only at h
  split at h
  · cases h
  · rename_i hk
    have hk0 : k = 0 := by omega
    subst hk0
    rw [getR_grow Y b p p 0 [] hr]
    unfold nameF
    exact h
theorem textsR_more {b Y : List UInt8} {en : Nat} (hen : en ≤ b.length) : ∀ (d p : Nat) (acc : List (List UInt8)), en - p ≤ d → textsR (b ++ Y) p en acc = textsR b p en acc
  | d, p, acc, hd => by
    by_cases hp : p < en
    · by_cases ha : acc.length = 64
      · rw [textsR_large (b := b ++ Y) hp ha, textsR_large (b := b) hp ha]
      · have e1 : cutL (b ++ Y) p 1 = cutL b p 1 := cutL_more (by omega)
        by_cases hs : en < p + 1 + numN (cutL b p 1)
        · rw [textsR_short (b := b ++ Y) hp ha (by rw [e1]; exact hs), textsR_short (b := b) hp ha hs]
        · rw [textsR_next (b := b ++ Y) hp ha (by rw [e1]; omega), textsR_next (b := b) hp ha (by omega), e1, cutL_more (by omega)]
          match d, hd with
          | 0, hd => omega
          | d + 1, hd => exact textsR_more hen d _ _ (by omega)
    · rw [textsR.eq_def, textsR.eq_def b, dif_neg hp, dif_neg hp]
theorem bytesR_more {b Y : List UInt8} {p en l m : Nat} (h : en ≤ b.length) : bytesR (b ++ Y) p en l m = bytesR b p en l m := by
  unfold bytesR
  split
  · rfl
  · rw [cutL_more (by omega)]
theorem bind_ok {α β : Type} {x : Except Nat α} {f : α → Except Nat β} {y : β} (h : (x >>= f) = .ok y) : ∃ a, x = .ok a ∧ f a = .ok y := by
  cases x with
  | error k => cases h
  | ok a => exact ⟨a, rfl, h⟩
theorem ok_bind {α β : Type} {x : Except Nat α} {f : α → Except Nat β} {a : α} (h : x = .ok a) : (x >>= f) = f a := by
  subst h
  rfl
theorem readD_more (Y : List UInt8) {b : List UInt8} {p en : Nat} {s : Sh} {d : Dt} (hen : en ≤ b.length) (h : readD b p en s = .ok d) : readD (b ++ Y) p en s = .ok d := by
  unfold readD at h ⊢
  obtain ⟨n1, e1, h⟩ := bind_ok h
  obtain ⟨h1, e2, h⟩ := bind_ok h
  obtain ⟨m1, e3, h⟩ := bind_ok h
  obtain ⟨n2, e4, h⟩ := bind_ok h
  obtain ⟨t1, e5, h⟩ := bind_ok h
  obtain ⟨y1, e6, h⟩ := bind_ok h
  have f2 : (if s.host = true then nameR (b ++ Y) n1.2 en else .ok ([], n1.2)) = .ok h1 := by
    split at e2
    · rw [if_pos (by assumption)]
      exact nameR_more Y e2
    · rw [if_neg (by assumption)]
      exact e2
  have f3 : (if s.mail = true then nameR (b ++ Y) h1.2 en else .ok ([], h1.2)) = .ok m1 := by
    split at e3
    · rw [if_pos (by assumption)]
      exact nameR_more Y e3
    · rw [if_neg (by assumption)]
      exact e3
  have f5 : (if s.texts = true then textsR (b ++ Y) n2.2 en [] else .ok ([], n2.2)) = .ok t1 := by
    split at e5
    · rw [if_pos (by assumption), textsR_more hen _ _ _ (Nat.le_refl _)]
      exact e5
    · rw [if_neg (by assumption)]
      exact e5
  rw [numsR_more hen, ok_bind e1, ok_bind f2, ok_bind f3, numsR_more hen, ok_bind e4, ok_bind f5, bytesR_more hen, ok_bind e6]
  exact h
theorem bind_err {α β : Type} {x : Except Nat α} {f : α → Except Nat β} {k : Nat} (h : (x >>= f) = .error k) : x = .error k ∨ ∃ a, x = .ok a ∧ f a = .error k := by
  cases x with
  | error j =>
    injection h with h
    exact .inl (by rw [h])
  | ok a => exact .inr ⟨a, rfl, h⟩
theorem numsR_err {b : List UInt8} {p en s k : Nat} : numsR b p en s k ≠ .error 0 := by
  unfold numsR
  split <;> simp
theorem nameR_err {b : List UInt8} {p en : Nat} : nameR b p en ≠ .error 0 := by
  unfold nameR nameF
  split
  · simp; assumption
  · split <;> simp
theorem textsR_err {b : List UInt8} {en : Nat} : ∀ (d p : Nat) (acc : List (List UInt8)), en - p ≤ d → textsR b p en acc ≠ .error 0
  | d, p, acc, hd => by
    by_cases hp : p < en
    · by_cases ha : acc.length = 64
      · rw [textsR_large hp ha]
        simp
      · by_cases hs : en < p + 1 + numN (cutL b p 1)
        · rw [textsR_short hp ha hs]
          simp
        · rw [textsR_next hp ha (by omega)]
          match d, hd with
          | 0, hd => omega
          | d + 1, hd => exact textsR_err d _ _ (by omega)
    · rw [textsR, dif_neg hp]
      split <;> simp
theorem bytesR_err {b : List UInt8} {p en l m : Nat} : bytesR b p en l m ≠ .error 0 := by
  unfold bytesR
  split <;> simp
theorem readD_err (b : List UInt8) (p en : Nat) (s : Sh) : readD b p en s ≠ .error 0 := by
  intro h
  unfold readD at h
  rcases bind_err h with h | ⟨_, _, h⟩
  · exact numsR_err h
  rcases bind_err h with h | ⟨_, _, h⟩
  · split at h
    · exact nameR_err h
    · cases h
  rcases bind_err h with h | ⟨_, _, h⟩
  · split at h
    · exact nameR_err h
    · cases h
  rcases bind_err h with h | ⟨_, _, h⟩
  · exact numsR_err h
  rcases bind_err h with h | ⟨_, _, h⟩
  · split at h
    · exact textsR_err _ _ _ (Nat.le_refl _) h
    · cases h
  rcases bind_err h with h | ⟨_, _, h⟩
  · exact bytesR_err h
  · split at h <;> cases h
theorem getD_more (Y : List UInt8) {b : List UInt8} {a z k : Int} {d : Dt} (h : getD b a z k = (d, 0)) : getD (b ++ Y) a z k = (d, 0) := by
  unfold getD at h ⊢
  split at h
  · simp at h
  · rename_i h1
    split at h
    · simp at h
    · rename_i h2
      rw [if_neg h1, if_neg (by rw [List.length_append]; omega)]
      cases hr : readD b a.toNat (a + z).toNat (shN k) with
      | ok d' =>
        rw [hr] at h
        rw [readD_more Y (by omega) hr]
        exact h
      | error j =>
        rw [hr] at h
        dsimp only at h
        have hj : j = 0 := by injection h
        subst hj
        exact absurd hr (readD_err _ _ _ _)
theorem getQ_more (Y : List UInt8) {b : List UInt8} {p nx : Nat} {q : Qt} (h : getQ b p = (q, nx, 0)) : getQ (b ++ Y) p = (q, nx, 0) := by
  rcases hw : getW b (p : Int) with ⟨n, e, k⟩
  unfold getQ at h ⊢
  rw [hw] at h
  dsimp only at h
  by_cases hk : k = 0
  · subst hk
    rw [if_neg (by simp)] at h
    rw [getW_grow Y hw]
    dsimp only
    rw [if_neg (by simp)]
    split at h
    · simp at h
    · rename_i h2
      rw [if_neg (by rw [List.length_append]; omega), numAt_more (by omega), numAt_more (by omega)]
      exact h
  · rw [if_pos hk] at h
    simp at h
    exact absurd h.2.2 hk
theorem getRR_more (Y : List UInt8) {b : List UInt8} {p : Int} {nx : Nat} {r : Rt} (h : getRR b p = (r, nx, 0)) : getRR (b ++ Y) p = (r, nx, 0) := by
  rcases hw : getW b p with ⟨n, e, k⟩
  unfold getRR at h ⊢
  rw [hw] at h
  dsimp only at h
  by_cases hk : k = 0
  · subst hk
    rw [if_neg (by simp)] at h
    rw [getW_grow Y hw]
    dsimp only
    rw [if_neg (by simp)]
    split at h
    · simp at h
    · rename_i h2
      rw [if_neg (by rw [List.length_append]; omega), numAt_more (by omega), numAt_more (by omega), numAt_more (by omega)]
      have e4 : ttlAt (b ++ Y) (e + 4) = ttlAt b (e + 4) := by unfold ttlAt; rw [numAt_more (by omega)]
      rw [e4]
      split at h
      · simp at h
      · rw [if_neg (by assumption)]
        rcases hd : getD b ((e : Int) + 10) (numAt b (e + 8) 2) (numAt b e 2) with ⟨d, z⟩
        rw [hd] at h
        dsimp only at h
        by_cases hz : z = 0
        · subst hz
          rw [if_neg (by simp)] at h
          rw [getD_more Y hd]
          dsimp only
          rw [if_neg (by simp)]
          exact h
        · rw [if_pos hz] at h
          simp at h
          exact absurd h.2.2 hz
  · rw [if_pos hk] at h
    simp at h
    exact absurd h.2.2 hk
theorem getQs_grow (Y : List UInt8) {b : List UInt8} : ∀ (k p : Nat) (l : List Qt) {r : List Qt × Nat}, getQs b k p l = .ok r → getQs (b ++ Y) k p l = .ok r
  | 0, p, l, r, h => h
  | k + 1, p, l, r, h => by
    unfold getQs at h ⊢
    rcases hq : getQ b p with ⟨q, nx, e⟩
    rw [hq] at h
    dsimp only at h
    split at h
    · cases h
    · rename_i he
      have he0 : e = 0 := by omega
      subst he0
      rw [getQ_more Y hq]
      dsimp only
      rw [if_neg (by simp)]
      exact getQs_grow Y k _ _ h
theorem getRs_grow (Y : List UInt8) {b : List UInt8} (last : Bool) : ∀ (k : Nat) (s : Rd) {r : Rd}, getRs b last k s = .ok r → getRs (b ++ Y) last k s = .ok r
  | 0, s, r, h => h
  | k + 1, s, r, h => by
    unfold getRs at h ⊢
    obtain ⟨t, ht, h⟩ := bind_ok h
    have ht2 : stepR (b ++ Y) last s = .ok t := by
      unfold stepR at ht ⊢
      rcases hq : getRR b (s.p : Int) with ⟨q, nx, e⟩
      rw [hq] at ht
      dsimp only at ht
      split at ht
      · cases ht
      · rename_i he
        have he0 : e = 0 := by omega
        subst he0
        rw [getRR_more Y hq]
        dsimp only
        rw [if_neg (by simp)]
        exact ht
    rw [ok_bind ht2]
    exact getRs_grow Y last k _ h
theorem getQ_end {b : List UInt8} {p : Nat} (_ : (getQ b p).2.2 = 0) : (getQ b p).2.1 ≤ b.length := by
  unfold getQ
  split
  · exact Nat.zero_le _
  split
  · exact Nat.zero_le _
  split
  · exact Nat.zero_le _
  · dsimp only
    omega
theorem getRR_end {b : List UInt8} {p : Int} (_ : (getRR b p).2.2 = 0) : (getRR b p).2.1 ≤ b.length := by
  unfold getRR
  split
  · exact Nat.zero_le _
  rename_i h0
  split
  · exact Nat.zero_le _
  rename_i h1
  split
  · exact Nat.zero_le _
  rename_i h2
  split
  · exact Nat.zero_le _
  rename_i h3
  dsimp only
  have h4 : (getD b (((getW b p).2.1 : Int) + 10) (numAt b ((getW b p).2.1 + 8) 2) (numAt b (getW b p).2.1 2)).2 = 0 := by omega
  unfold getD at h4
  split at h4
  · simp at h4
  split at h4
  · simp at h4
  omega
theorem getQs_end {b : List UInt8} : ∀ (k p : Nat) (l : List Qt) {r : List Qt × Nat}, p ≤ b.length → getQs b k p l = .ok r → r.2 ≤ b.length
  | 0, p, l, r, hp, h => by
    unfold getQs at h
    injection h with h
    subst h
    exact hp
  | k + 1, p, l, r, hp, h => by
    unfold getQs at h
    split at h
    · cases h
    · exact getQs_end k _ _ (getQ_end (by omega)) h
theorem getRs_end {b : List UInt8} {last : Bool} : ∀ (k : Nat) (s : Rd) {r : Rd}, s.p ≤ b.length → getRs b last k s = .ok r → r.p ≤ b.length
  | 0, s, r, hp, h => by
    unfold getRs at h
    injection h with h
    subst h
    exact hp
  | k + 1, s, r, hp, h => by
    unfold getRs at h
    obtain ⟨t, ht, h⟩ := bind_ok h
    refine getRs_end k t ?_ h
    unfold stepR at ht
    split at ht
    · cases ht
    · have h1 := getRR_end (b := b) (p := (s.p : Int)) (by omega)
      unfold addR at ht
      split at ht
      · split at ht
        · cases ht
        · injection ht with ht
          subst ht
          exact h1
      · injection ht with ht
        subst ht
        exact h1
/-- What is read stays read, but for the bytes behind. -/
theorem decM_grow {b Y : List UInt8} {m : Mt} (h : decM b = .ok m) (hl : (b ++ Y).length ≤ 65535) (hY : Y ≠ []) : decM (b ++ Y) = .error 7 := by
  unfold decM at h ⊢
  rw [List.length_append] at hl
  split at h
  · cases h
  split at h
  · cases h
  rename_i h1 h2
  have hy : 0 < Y.length := List.length_pos_iff.2 hY
  rw [if_neg (by rw [List.length_append]; omega), if_neg (by rw [List.length_append]; omega), numAt_more (by omega), numAt_more (by omega), numAt_more (by omega), numAt_more (by omega), numAt_more (by omega), numAt_more (by omega)]
  split at h
  · cases h
  rename_i h3
  rw [if_neg h3]
  obtain ⟨q, e1, h⟩ := bind_ok h
  obtain ⟨x, e2, h⟩ := bind_ok h
  obtain ⟨y, e3, h⟩ := bind_ok h
  obtain ⟨z, e4, h⟩ := bind_ok h
  rw [ok_bind (getQs_grow Y _ _ _ e1), ok_bind (getRs_grow Y _ _ _ e2), ok_bind (getRs_grow Y _ _ _ e3), ok_bind (getRs_grow Y _ _ _ e4)]
  split at h
  · cases h
  · rename_i h4
    have hz : z.p ≤ b.length := by
      have g1 := getQs_end _ _ _ (by omega) e1
      have g2 := getRs_end _ ⟨[], q.2, false, 0⟩ g1 e2
      have g3 := getRs_end _ ⟨[], x.p, x.e, x.s⟩ g2 e3
      exact getRs_end _ ⟨[], y.p, y.e, y.s⟩ g3 e4
    rw [if_pos (by rw [List.length_append]; omega)]
/-- A message without its end is none. -/
theorem dec_cut {m : Mt} (hs : SoundM m) (hl : (encM m).length ≤ 65535) {k : Nat} (hk : k < (encM m).length) : ∃ e, decM ((encM m).take k) = .error e := by
  cases h : decM ((encM m).take k) with
  | error e => exact ⟨e, rfl⟩
  | ok x =>
    have h1 := decM_grow (Y := (encM m).drop k) h (by rw [List.take_append_drop]; exact hl) (by simp; omega)
    rw [List.take_append_drop] at h1
    have h2 := dec_enc hs [] (by simpa using hl)
    simp only [List.append_nil, if_true] at h2
    rw [h1] at h2
    cases h2

/-- No message is refused without an error. -/
theorem getQs_err {b : List UInt8} : ∀ (k p : Nat) (l : List Qt), getQs b k p l ≠ .error 0
  | 0, p, l => by simp [getQs]
  | k + 1, p, l => by
    unfold getQs
    split
    · simp; assumption
    · exact getQs_err k _ _
theorem getRs_err {b : List UInt8} {last : Bool} : ∀ (k : Nat) (s : Rd), getRs b last k s ≠ .error 0
  | 0, s => by simp [getRs]
  | k + 1, s => by
    unfold getRs
    intro h
    rcases bind_err h with h | ⟨t, _, h⟩
    · unfold stepR at h
      split at h
      · injection h with h
        omega
      · unfold addR at h
        split at h
        · split at h <;> cases h
        · cases h
    · exact getRs_err k t h
theorem decM_err {b : List UInt8} : decM b ≠ .error 0 := by
  intro h
  unfold decM at h
  split at h
  · cases h
  split at h
  · cases h
  split at h
  · cases h
  rcases bind_err h with h | ⟨_, _, h⟩
  · exact getQs_err _ _ _ h
  rcases bind_err h with h | ⟨_, _, h⟩
  · exact getRs_err _ _ h
  rcases bind_err h with h | ⟨_, _, h⟩
  · exact getRs_err _ _ h
  rcases bind_err h with h | ⟨_, _, h⟩
  · exact getRs_err _ _ h
  · split at h <;> cases h

end Go.Proofs.YthppgofpbpjglaaGreat

namespace Go.Proofs.YthppgofpbpjglaaGreat
open Go.RowKit

theorem getR_sound (b : List UInt8) (p q x : Nat) (n : List (List UInt8)) : ∀ {m : List (List UInt8)} {e : Nat}, getR b p q x n = (m, e, 0) → n.all fitL = true → szN n ≤ 255 → soundN m = true := by
  induction p, q, x, n using getR.induct (b := b) with
  | case1 p q x n h0 h1 =>
    intro m e h ha hz
    rw [getR, dif_pos h0, if_pos h1] at h
    injection h with h2 _
    subst h2
    simp [soundN, ha, hz]
  | case2 p q x n h0 h1 h2 h3 h4 ih =>
    intro m e h ha hz
    rw [getR, dif_pos h0, if_neg h1, if_pos h2, dif_pos h3, if_pos h4] at h
    exact ih h ha hz
  | case3 p q x n h0 h1 h2 h3 h4 =>
    intro m e h ha hz
    rw [getR, dif_pos h0, if_neg h1, if_pos h2, dif_pos h3, if_neg h4] at h
    simp at h
  | case4 p q x n h0 h1 h2 h3 =>
    intro m e h ha hz
    rw [getR, dif_pos h0, if_neg h1, if_pos h2, dif_neg h3] at h
    simp at h
  | case5 p q x n h0 h1 h2 h3 =>
    intro m e h ha hz
    rw [getR, dif_pos h0, if_neg h1, if_neg h2, if_pos h3] at h
    simp at h
  | case6 p q x n h0 h1 h2 h3 h4 h5 ih =>
    intro m e h ha hz
    rw [getR, dif_pos h0, if_neg h1, if_neg h2, if_neg h3, if_pos h4, if_pos h5] at h
    refine ih h ?_ h5
    rw [List.all_append, ha]
    have h6 := length_cutL h4
    simp [fitL, h6]
    omega
  | case7 p q x n h0 h1 h2 h3 h4 h5 =>
    intro m e h ha hz
    rw [getR, dif_pos h0, if_neg h1, if_neg h2, if_neg h3, if_pos h4, if_neg h5] at h
    simp at h
  | case8 p q x n h0 h1 h2 h3 h4 =>
    intro m e h ha hz
    rw [getR, dif_pos h0, if_neg h1, if_neg h2, if_neg h3, if_neg h4] at h
    simp at h
  | case9 p q x n h0 =>
    intro m e h ha hz
    rw [getR, dif_neg h0] at h
    simp at h
theorem getW_sound {b : List UInt8} {a : Int} (h : (getW b a).2.2 = 0) : soundN (getW b a).1 = true := by
  unfold getW at h ⊢
  split at h
  · simp at h
  · rename_i h0
    rw [if_neg h0]
    rcases hr : getR b a.toNat a.toNat 0 [] with ⟨m, e, k⟩
    rw [hr] at h
    dsimp only at h
    subst h
    exact getR_sound b _ _ _ _ hr rfl (by decide)
theorem nameR_sound {b : List UInt8} {p en : Nat} {r : List (List UInt8) × Nat} (h : nameR b p en = .ok r) : soundN r.1 = true := by
  unfold nameR at h
  rcases hr : getR b p p 0 [] with ⟨n, e, k⟩
  rw [hr] at h
  unfold nameF at h
  dsimp only at h
  split at h
  · cases h
  · rename_i hk
    have hk0 : k = 0 := by omega
    subst hk0
    split at h
    · cases h
    · injection h with h
      subst h
      exact getR_sound b _ _ _ _ hr rfl (by decide)
theorem num_fit {b : List UInt8} {p s : Nat} (h1 : 1 ≤ s) (h2 : s ≤ 7) : fitB ((numN (cutL b p s) : Nat) : Int) (s : Int) = true := by
  have h := numAt_lt b p s
  unfold numAt at h
  refine fitB_true (by omega) (by omega) (by omega) ?_
  have e : (2 : Int) ^ (8 * (s : Int).toNat) = ((2 ^ (8 * s) : Nat) : Int) := by
    rw [Int.toNat_natCast]
    push_cast
    rfl
  rw [e]
  exact Int.ofNat_lt.2 h
theorem numsL_sound {b : List UInt8} {p s : Nat} (h1 : 1 ≤ s) (h2 : s ≤ 7) : ∀ k, ∀ n ∈ numsL b p s k, fitB n (s : Int) = true
  | 0, n, h => absurd h (List.not_mem_nil)
  | k + 1, n, h => by
    unfold numsL at h
    rcases List.mem_append.1 h with h | h
    · exact numsL_sound h1 h2 k n h
    · rw [List.mem_singleton.1 h]
      exact num_fit h1 h2
theorem numsR_sound {b : List UInt8} {p en s k : Nat} {r : List Int × Nat} (h1 : 1 ≤ s) (h2 : s ≤ 7) (h : numsR b p en s k = .ok r) : r.1.length = k ∧ (∀ n ∈ r.1, fitB n (s : Int) = true) ∧ r.2 ≤ en := by
  unfold numsR at h
  split at h
  · injection h with h
    subst h
    exact ⟨length_numsL _ _ _ _, numsL_sound h1 h2 k, by assumption⟩
  · cases h
theorem textsR_sound {b : List UInt8} {en : Nat} : ∀ (d p : Nat) (acc : List (List UInt8)) {r : List (List UInt8) × Nat}, en - p ≤ d → textsR b p en acc = .ok r → acc.length ≤ 64 → (∀ t ∈ acc, t.length ≤ 255) → 1 ≤ r.1.length ∧ r.1.length ≤ 64 ∧ ∀ t ∈ r.1, t.length ≤ 255
  | d, p, acc, r, hd, h, hl, ht => by
    by_cases hp : p < en
    · by_cases ha : acc.length = 64
      · rw [textsR_large hp ha] at h
        cases h
      · by_cases hs : en < p + 1 + numN (cutL b p 1)
        · rw [textsR_short hp ha hs] at h
          cases h
        · rw [textsR_next hp ha (by omega)] at h
          match d, hd with
          | 0, hd => omega
          | d + 1, hd =>
            refine textsR_sound d _ _ (by omega) h (by simp; omega) fun t htt => ?_
            rcases List.mem_append.1 htt with h1 | h1
            · exact ht t h1
            · rw [List.mem_singleton.1 h1]
              have h2 := numN_one_lt b p
              have h3 : (cutL b (p + 1) (numN (cutL b p 1))).length ≤ numN (cutL b p 1) := by unfold cutL; simp; omega
              omega
    · rw [textsR, dif_neg hp] at h
      split at h
      · cases h
      · rename_i hne
        injection h with h
        subst h
        exact ⟨List.length_pos_iff.2 hne, hl, ht⟩
theorem bytesR_sound {b : List UInt8} {p en l m : Nat} {r : List UInt8 × Nat} (hlm : l ≤ m) (hen : en ≤ b.length) (h : bytesR b p en l m = .ok r) : l ≤ r.1.length ∧ r.1.length ≤ m := by
  unfold bytesR at h
  split at h
  · cases h
  · injection h with h
    subst h
    dsimp only
    rw [length_cutL (by omega)]
    omega
theorem shN_room (k : Int) : (shN k).least ≤ (shN k).most := by
  unfold shN
  repeat' split
  all_goals decide
theorem numsOk_of {ah : Nat} {l m : List Int} (hl : l.length = ah) (h1 : ∀ n ∈ l, fitB n 2 = true) (h2 : ∀ n ∈ m, fitB n 4 = true) : numsOk ah (l ++ m) = true := by
  unfold numsOk
  rw [List.all_eq_true]
  intro j hj
  have hj := List.mem_range.1 hj
  rw [List.length_append] at hj
  unfold sizeAt
  by_cases hja : j < ah
  · rw [if_pos hja, List.getD_eq_getElem?_getD, List.getElem?_append_left (by omega), List.getElem?_eq_getElem (by omega)]
    exact h1 _ (List.getElem_mem _)
  · rw [if_neg hja, List.getD_eq_getElem?_getD, List.getElem?_append_right (by omega), List.getElem?_eq_getElem (by omega)]
    exact h2 _ (List.getElem_mem _)
theorem readD_sound {b : List UInt8} {p en : Nat} {k : Int} {d : Dt} (hk : kindB k = true) (hen : en ≤ b.length) (h : readD b p en (shN k) = .ok d) : soundD k d = true := by
  unfold readD at h
  obtain ⟨n1, e1, h⟩ := bind_ok h
  obtain ⟨h1, e2, h⟩ := bind_ok h
  obtain ⟨m1, e3, h⟩ := bind_ok h
  obtain ⟨n2, e4, h⟩ := bind_ok h
  obtain ⟨t1, e5, h⟩ := bind_ok h
  obtain ⟨y1, e6, h⟩ := bind_ok h
  split at h
  · cases h
  injection h with h
  subst h
  obtain ⟨a1, a2, _⟩ := numsR_sound (by omega) (by omega) e1
  obtain ⟨b1, b2, _⟩ := numsR_sound (by omega) (by omega) e4
  obtain ⟨c1, c2⟩ := bytesR_sound (shN_room k) hen e6
  have g2 : soundNm h1.1 (shN k).host = true := by
    unfold soundNm
    split at e2
    · rename_i hh
      rw [hh, nameR_sound e2]
      simp
    · injection e2 with e2
      subst e2
      rfl
  have g3 : soundNm m1.1 (shN k).mail = true := by
    unfold soundNm
    split at e3
    · rename_i hh
      rw [hh, nameR_sound e3]
      simp
    · injection e3 with e3
      subst e3
      rfl
  have g5 : soundTs (shN k) t1.1 = true := by
    unfold soundTs
    split at e5
    · rename_i hh
      obtain ⟨d1, d2, d3⟩ := textsR_sound _ _ _ (Nat.le_refl _) e5 (by simp) (fun t ht => absurd ht (List.not_mem_nil))
      rw [if_pos hh]
      simp only [Bool.and_eq_true, List.all_eq_true, decide_eq_true_eq]
      exact ⟨d3, d1, d2⟩
    · rename_i hh
      injection e5 with e5
      subst e5
      rw [if_neg hh]
      rfl
  unfold soundD soundBs soundNs
  simp only [Bool.and_eq_true, decide_eq_true_eq]
  exact ⟨hk, ⟨c1, c2⟩, g2, g3, ⟨by rw [List.length_append]; omega, numsOk_of a1 a2 b2⟩, g5⟩
theorem kindB_num {b : List UInt8} {p : Nat} (h : numAt b p 2 ≠ 0) : kindB ((numAt b p 2 : Nat) : Int) = true := by
  have h1 := numAt_lt b p 2
  unfold kindB
  simp only [decide_eq_true_eq]
  have e : (2 : Nat) ^ (8 * 2) = 65536 := by decide
  omega
theorem ttlAt_le (b : List UInt8) (p : Nat) : ttlAt b p ≤ 2147483647 := by
  unfold ttlAt
  split <;> omega
theorem getRR_sound {b : List UInt8} {p : Int} (h : (getRR b p).2.2 = 0) : SoundR (getRR b p).1 := by
  unfold getRR at h ⊢
  split at h
  · rename_i h0
    exact absurd h h0
  rename_i h0
  rw [if_neg h0]
  split at h
  · simp at h
  rename_i h1
  rw [if_neg h1]
  split at h
  · simp at h
  rename_i h2
  rw [if_neg h2]
  split at h
  · rename_i h3
    exact absurd h h3
  rename_i h3
  rw [if_neg h3]
  have hk := kindB_num h2
  refine ⟨getW_sound (by omega), ?_, num_fit (by omega) (by omega), by dsimp only; omega, by have := ttlAt_le b ((getW b p).2.1 + 4); dsimp only; omega⟩
  dsimp only
  have h4 : (getD b (((getW b p).2.1 : Int) + 10) (numAt b ((getW b p).2.1 + 8) 2) (numAt b (getW b p).2.1 2)).2 = 0 := by omega
  generalize ((getW b p).2.1 : Int) + 10 = a at *
  generalize ((numAt b ((getW b p).2.1 + 8) 2 : Nat) : Int) = z at *
  unfold getD at h4 ⊢
  split at h4
  · simp at h4
  rename_i h5
  rw [if_neg h5]
  split at h4
  · simp at h4
  rename_i h6
  rw [if_neg h6]
  cases hr : readD b a.toNat (a + z).toNat (shN (numAt b (getW b p).2.1 2)) with
  | ok d => exact readD_sound hk (by omega) hr
  | error j =>
    rw [hr] at h4
    dsimp only at h4
    subst h4
    exact absurd hr (readD_err _ _ _ _)
theorem getQ_sound {b : List UInt8} {p : Nat} (h : (getQ b p).2.2 = 0) : soundQ (getQ b p).1 = true := by
  unfold getQ at h ⊢
  split at h
  · rename_i h0
    exact absurd h h0
  rename_i h0
  rw [if_neg h0]
  split at h
  · simp at h
  rename_i h1
  rw [if_neg h1]
  split at h
  · simp at h
  rename_i h2
  rw [if_neg h2]
  unfold soundQ
  simp only [Bool.and_eq_true, decide_eq_true_eq]
  exact ⟨getW_sound (by omega), by omega, num_fit (by omega) (by omega), num_fit (by omega) (by omega)⟩
theorem getQs_sound {b : List UInt8} : ∀ (k p : Nat) (l : List Qt) {r : List Qt × Nat}, getQs b k p l = .ok r → (∀ q ∈ l, soundQ q = true) → (∀ q ∈ r.1, soundQ q = true) ∧ r.1.length = l.length + k
  | 0, p, l, r, h, hl => by
    unfold getQs at h
    injection h with h
    subst h
    exact ⟨hl, rfl⟩
  | k + 1, p, l, r, h, hl => by
    unfold getQs at h
    split at h
    · cases h
    · rename_i h0
      obtain ⟨h1, h2⟩ := getQs_sound k _ _ h (fun q hq => by
        rcases List.mem_append.1 hq with h3 | h3
        · exact hl q h3
        · rw [List.mem_singleton.1 h3]
          exact getQ_sound (by omega))
      refine ⟨h1, ?_⟩
      rw [h2]
      simp
      omega
/-- What is known behind some records is sound. -/
structure RdOk (x : Rd) : Prop where
  r : ∀ r ∈ x.rs, soundX r = true
  s : fitB x.s 2 = true
  e : x.e = true ∨ x.s = 0
theorem stepR_sound {b : List UInt8} {last : Bool} {s t : Rd} (h : stepR b last s = .ok t) (hs : RdOk s) : RdOk t ∧ t.rs.length ≤ s.rs.length + 1 := by
  unfold stepR at h
  split at h
  · cases h
  · rename_i h0
    have h1 := getRR_sound (b := b) (p := (s.p : Int)) (by omega)
    unfold addR at h
    split at h
    · split at h
      · cases h
      · injection h with h
        subst h
        exact ⟨⟨hs.r, h1.c, .inl rfl⟩, by dsimp only; omega⟩
    · rename_i h2
      injection h with h
      subst h
      refine ⟨⟨fun r hr => ?_, hs.s, hs.e⟩, by simp⟩
      rcases List.mem_append.1 hr with h3 | h3
      · exact hs.r r h3
      · rw [List.mem_singleton.1 h3]
        exact soundX_iff.2 ⟨h2, h1⟩
theorem getRs_sound {b : List UInt8} {last : Bool} : ∀ (k : Nat) (s : Rd) {r : Rd}, getRs b last k s = .ok r → RdOk s → RdOk r ∧ r.rs.length ≤ s.rs.length + k
  | 0, s, r, h, hs => by
    unfold getRs at h
    injection h with h
    subst h
    exact ⟨hs, Nat.le_refl _⟩
  | k + 1, s, r, h, hs => by
    unfold getRs at h
    obtain ⟨t, ht, h⟩ := bind_ok h
    obtain ⟨h1, h2⟩ := stepR_sound ht hs
    obtain ⟨h3, h4⟩ := getRs_sound k t h h1
    exact ⟨h3, by omega⟩
theorem RdOk.next {s : Rd} (h : RdOk s) : RdOk ⟨[], s.p, s.e, s.s⟩ := ⟨fun _ h => absurd h (List.not_mem_nil), h.s, h.e⟩
/-- What bytes are is sound, but for how many there are. -/
structure DecOk (m : Mt) : Prop where
  h : soundH m.h = true
  q : ∀ q ∈ m.qs, soundQ q = true
  r : ∀ r ∈ m.all, soundX r = true
  n : m.qs.length + m.an.length + m.au.length + m.ex.length ≤ 513
theorem decM_sound {b : List UInt8} {m : Mt} (h : decM b = .ok m) : DecOk m := by
  unfold decM at h
  split at h
  · cases h
  split at h
  · cases h
  split at h
  · cases h
  rename_i h1 h2 h3
  obtain ⟨q, e1, h⟩ := bind_ok h
  obtain ⟨x, e2, h⟩ := bind_ok h
  obtain ⟨y, e3, h⟩ := bind_ok h
  obtain ⟨z, e4, h⟩ := bind_ok h
  split at h
  · cases h
  injection h with h
  subst h
  obtain ⟨q1, q2⟩ := getQs_sound _ _ _ e1 (fun q hq => absurd hq (List.not_mem_nil))
  obtain ⟨x1, x2⟩ := getRs_sound _ ⟨[], q.2, false, 0⟩ e2 ⟨fun _ h => absurd h (List.not_mem_nil), show fitB 0 2 = true by decide, .inr rfl⟩
  obtain ⟨y1, y2⟩ := getRs_sound _ ⟨[], x.p, x.e, x.s⟩ e3 x1.next
  obtain ⟨z1, z2⟩ := getRs_sound _ ⟨[], y.p, y.e, y.s⟩ e4 y1.next
  simp only [List.length_nil, Nat.zero_add] at q2 x2 y2 z2
  refine ⟨?_, q1, fun r hr => ?_, by dsimp only; omega⟩
  · unfold soundH hdOf codeB
    simp only [Bool.and_eq_true, decide_eq_true_eq, Bool.or_eq_true]
    refine ⟨num_fit (by omega) (by omega), ⟨by omega, by omega⟩, ⟨by omega, by omega⟩, z1.s, z1.e⟩
  · unfold Mt.all at hr
    rcases List.mem_append.1 hr with h4 | h4
    · exact x1.r r h4
    · rcases List.mem_append.1 h4 with h4 | h4
      · exact y1.r r h4
      · exact z1.r r h4
theorem DecOk.sound {m : Mt} (h : DecOk m) (hn : m.qs.length + m.an.length + m.au.length + m.ex.length ≤ 512) : SoundM m := ⟨h.h, hn, h.q, h.r⟩

end Go.Proofs.YthppgofpbpjglaaGreat

namespace Go.Proofs.YthppgofpbpjglaaGreat
open Go.RowKit

theorem i64_top {n : Int} (h : (Lit.int .i64 n).wf = true) : n ≤ 9223372036854775807 := by
  have h1 : IntKind.i64.min = -9223372036854775808 := rfl
  have h2 : IntKind.i64.max = 9223372036854775807 := rfl
  simp only [Lit.wf, Bool.and_eq_true, decide_eq_true_eq] at h
  omega

set_option maxRecDepth 20000 in
set_option maxHeartbeats 4000000 in
theorem rsound_any (x : RV) (r : Rt) (w : World) (hx : RAt w w.heap.size x r) (hi : RIn r) (hl : LightR r) :
    Calls Tryz.prog 71 #[x.val r] w (Gave w (.bool (soundR r))) := by
  obtain ⟨W, hW⟩ : ∃ W, W = w.alloc (.cells #[.slice x.A r.name.length x.c, .int .i64 r.kind, .int .i64 r.cls, .int .i64 r.ttl, .slice x.d.Ab r.data.bytes.length x.d.cb, .slice x.d.Ah r.data.host.length x.d.ch, .slice x.d.Am r.data.mail.length x.d.cm, .slice x.d.An r.data.nums.length x.d.cn, .slice x.d.At r.data.texts.length x.d.ct] 46) := ⟨_, rfl⟩
  have hB : Below w.heap.size w W := by rw [hW]; exact (Below.refl _ _).alloc (Nat.le_refl _) _
  have hwh : Whole W w.heap.size 46 [.slice x.A r.name.length x.c, .int .i64 r.kind, .int .i64 r.cls, .int .i64 r.ttl, .slice x.d.Ab r.data.bytes.length x.d.cb, .slice x.d.Ah r.data.host.length x.d.ch, .slice x.d.Am r.data.mail.length x.d.cm, .slice x.d.An r.data.nums.length x.d.cn, .slice x.d.At r.data.texts.length x.d.ct] := by rw [hW]; exact Whole.made w _ _
  have HX := Lib.hid (fun W' (h : Below w.heap.size w W') => (hx.below h).mono h.size)
  have HB0 := Lib.hid hB
  have HW0 := Lib.hid hwh
  have h200 := hl.l0
  have h201 := hl.l1
  have h202 := hl.l2
  have HI := Lib.hid hi
  have HS := Lib.hid (show soundR r = (soundN r.name && (soundD r.kind r.data && (fitB r.cls 2 && (decide (0 ≤ r.ttl) && decide (r.ttl ≤ 2147483647))))) from rfl)
  have HN := Lib.hid (fun W' (h : Below w.heap.size w W') => sound_wide x.A r.name.length x.c w.heap.size r.name W' rfl ((hx.below h).n) (by omega) hi.n.2)
  have HD := Lib.hid (fun W' (h : Below w.heap.size w W') => dsound_wide r.kind x.d r.data W' ((hx.below h).mono h.size).d (by omega) hi.d.h.2 (by omega) hi.d.m.2 hi.d.t hi.lt)
  have HF := Lib.hid (fun W' => fits_any r.cls 2 W')
  clear hB hwh hx hi hl
  subst hW
  go_enter Tryz.func71, Tryz.ntmps71
  go_wp2_with fail
  refine (HN.out _ HB0.out).mono ?_
  rintro e w1 ⟨rfl, rfl⟩
  cases h1 : soundN r.name with
  | false =>
    rw [h1] at HS
    go_wp2
    go_ret
    exact ⟨by rw [HS.out]; rfl, HB0.out⟩
  | true =>
  rw [h1] at HS
  go_wp2_with fail
  refine (HD.out _ HB0.out).mono ?_
  rintro e w2 ⟨rfl, hb2⟩
  have HW2 := Lib.hid (HW0.out.below hb2 (by simp))
  have HB2 := Lib.hid (HB0.out.trans (hb2.mono HB0.out.size))
  clear hb2 HW0 HB0
  cases h2 : soundD r.kind r.data with
  | false =>
    rw [h2] at HS
    go_wp2
    go_ret
    exact ⟨by rw [HS.out]; rfl, HB2.out⟩
  | true =>
  rw [h2] at HS
  have p2 : w2.cell? ⟨w.heap.size, 2, none⟩ = some (.int .i64 r.cls) := Whole.cell (L := [.slice x.A r.name.length x.c, .int .i64 r.kind, .int .i64 r.cls, .int .i64 r.ttl, .slice x.d.Ab r.data.bytes.length x.d.cb, .slice x.d.Ah r.data.host.length x.d.ch, .slice x.d.Am r.data.mail.length x.d.cm, .slice x.d.An r.data.nums.length x.d.cn, .slice x.d.At r.data.texts.length x.d.ct]) HW2.out 2
  have p3 : w2.cell? ⟨w.heap.size, 3, none⟩ = some (.int .i64 r.ttl) := Whole.cell (L := [.slice x.A r.name.length x.c, .int .i64 r.kind, .int .i64 r.cls, .int .i64 r.ttl, .slice x.d.Ab r.data.bytes.length x.d.cb, .slice x.d.Ah r.data.host.length x.d.ch, .slice x.d.Am r.data.mail.length x.d.cm, .slice x.d.An r.data.nums.length x.d.cn, .slice x.d.At r.data.texts.length x.d.ct]) HW2.out 3
  go_wp2_with fail
  refine (HF.out _).mono ?_
  rintro e w3 ⟨rfl, rfl⟩
  cases h3 : fitB r.cls 2 with
  | false =>
    rw [h3] at HS
    go_wp2
    go_ret
    exact ⟨by rw [HS.out]; rfl, HB2.out⟩
  | true =>
  rw [h3] at HS
  cases h4 : decide (0 ≤ r.ttl) with
  | false =>
    rw [h4] at HS
    go_wp2
    go_ret
    exact ⟨by rw [HS.out]; rfl, HB2.out⟩
  | true =>
  rw [h4] at HS
  skip
  go_wp2
  go_ret
  exact ⟨by rw [HS.out]; simp, HB2.out⟩









































































end Go.Proofs.YthppgofpbpjglaaGreat

namespace Go.Proofs.YthppgofpbpjglaaGreat
open Go.RowKit

/-- Where records of one section lie. -/
structure Sec where
  A : Option Addr
  c : Nat
  ps : List (RV × Rt)
abbrev Sec.v (s : Sec) : Value := .slice s.A s.ps.length s.c
/-- A message in memory. -/
structure MV where
  h : Hd
  qA : Option Addr
  qc : Nat
  qp : List (QV × Qt)
  s0 : Sec
  s1 : Sec
  s2 : Sec
abbrev MV.vq (m : MV) : Value := .slice m.qA m.qp.length m.qc
def MV.sec (m : MV) (i : Nat) : Sec := if i = 0 then m.s0 else if i = 1 then m.s1 else m.s2
def cellsM (h : Hd) (vq va vu vx : Value) : List Value := [.int .i64 h.id, .bool h.resp, .int .i64 h.op, .bool h.aa, .bool h.tc, .bool h.rd, .bool h.ra, .int .i64 h.rc, vq, va, vu, vx, .bool h.edns, .int .i64 h.size]
abbrev valM (h : Hd) (vq va vu vx : Value) : Value := .agg #[.int .i64 h.id, .bool h.resp, .int .i64 h.op, .bool h.aa, .bool h.tc, .bool h.rd, .bool h.ra, .int .i64 h.rc, vq, va, vu, vx, .bool h.edns, .int .i64 h.size]
def MV.cells (m : MV) : List Value := cellsM m.h m.vq m.s0.v m.s1.v m.s2.v
abbrev MV.val (m : MV) : Value := valM m.h m.vq m.s0.v m.s1.v m.s2.v
def MV.msg (m : MV) : Mt := ⟨m.h, qsts m.qp, recs m.s0.ps, recs m.s1.ps, recs m.s2.ps⟩
theorem msg_cells : Tryz.prog.cellsOf 28 = 14 := by kernel_rfl

/-- In the world w the message's lists read, below H. -/
structure MAt (w : World) (H : Nat) (m : MV) : Prop where
  q : QsAt w H m.qA m.qp
  s0 : RsAt w H m.s0.A m.s0.ps
  s1 : RsAt w H m.s1.A m.s1.ps
  s2 : RsAt w H m.s2.A m.s2.ps
section
variable {w w' : World} {H H' : Nat} {m : MV}
theorem MAt.below (h : MAt w H m) (hb : Below H w w') : MAt w' H m := ⟨h.q.below hb, h.s0.below hb, h.s1.below hb, h.s2.below hb⟩
theorem MAt.mono (h : MAt w H m) (hb : H ≤ H') : MAt w H' m := ⟨h.q.mono hb, h.s0.mono hb, h.s1.mono hb, h.s2.mono hb⟩
theorem MAt.sec (h : MAt w H m) (i : Nat) : RsAt w H (m.sec i).A (m.sec i).ps := by
  unfold MV.sec
  split
  · exact h.s0
  · split
    · exact h.s1
    · exact h.s2
end
/-- Numbers that a variable holds, lengths that memory holds; few parts. -/
structure QIn (q : Qt) : Prop where
  n : WideN q.name
  k : (Lit.int .i64 q.kind).wf = true
  c : (Lit.int .i64 q.cls).wf = true
  l : q.name.length ≤ 1048576
structure HIn (h : Hd) : Prop where
  i : (Lit.int .i64 h.id).wf = true
  o : (Lit.int .i64 h.op).wf = true
  r : (Lit.int .i64 h.rc).wf = true
  s : (Lit.int .i64 h.size).wf = true
structure MIn (m : MV) : Prop where
  h : HIn m.h
  q : ∀ p ∈ m.qp, QIn p.2
  r : ∀ i, ∀ p ∈ (m.sec i).ps, RIn p.2 ∧ LightR p.2
  ql : m.qp.length ≤ 1000
  rl : ∀ i, (m.sec i).ps.length ≤ 1000

set_option maxHeartbeats 400000 in
theorem fitsCode_any (n : Int) (w : World) : Calls Tryz.prog 92 #[.int .i64 n] w (Told w (.bool (codeB n))) := by
  have HS := Lib.hid (show codeB n = (decide (0 ≤ n) && decide (n ≤ 15)) from rfl)
  cases h1 : decide (0 ≤ n) with
  | false =>
    rw [h1] at HS
    go_enter Tryz.func92, Tryz.ntmps92
    go_wp2
    go_ret
    exact ⟨by rw [HS.out]; rfl, rfl⟩
  | true =>
    rw [h1] at HS
    go_enter Tryz.func92, Tryz.ntmps92
    go_wp2
    go_ret
    exact ⟨by rw [HS.out]; simp, rfl⟩

set_option maxRecDepth 20000 in
set_option maxHeartbeats 2000000 in
theorem soundQuestion_any (x : QV) (q : Qt) (w : World) (hx : QAt w w.heap.size x q) (hi : QIn q) :
    Calls Tryz.prog 70 #[valQ x q] w (Gave w (.bool (soundQ q))) := by
  obtain ⟨W, hW⟩ : ∃ W, W = w.alloc (.cells #[.slice x.1 q.name.length x.2, .int .i64 q.kind, .int .i64 q.cls] 24) := ⟨_, rfl⟩
  have hB : Below w.heap.size w W := by rw [hW]; exact (Below.refl _ _).alloc (Nat.le_refl _) _
  have HB := Lib.hid hB
  have HS := Lib.hid (show soundQ q = (soundN q.name && (decide (q.kind ≠ 0) && (fitB q.kind 2 && fitB q.cls 2))) from rfl)
  have hl := hi.l
  have HN := Lib.hid (fun W' (h : Below w.heap.size w W') => sound_wide x.1 q.name.length x.2 w.heap.size q.name W' rfl (Row.below hx h) (by omega) hi.n.2)
  have HF := Lib.hid (fun W' => fits_any q.cls 2 W')
  have HK := Lib.hid (fun W' => fits_any q.kind 2 W')
  clear hB hx hi
  subst hW
  go_enter Tryz.func70, Tryz.ntmps70
  go_wp2_with fail
  refine (HN.out _ HB.out).mono ?_
  rintro e w1 ⟨rfl, rfl⟩
  cases h1 : soundN q.name with
  | false =>
    rw [h1] at HS
    go_wp2
    go_ret
    exact ⟨by rw [HS.out]; rfl, HB.out⟩
  | true =>
  rw [h1] at HS
  by_cases hk : q.kind = 0
  · have t : (q.kind != 0) = false := by rw [hk]; rfl
    rw [show decide (q.kind ≠ 0) = false from decide_eq_false (by omega)] at HS
    clear hk
    go_wp2
    go_ret
    exact ⟨by rw [HS.out]; rfl, HB.out⟩
  have t : (q.kind != 0) = true := by rw [bne_iff_ne]; exact hk
  rw [show decide (q.kind ≠ 0) = true from decide_eq_true hk] at HS
  clear hk
  go_wp2_with fail
  refine (HK.out _).mono ?_
  rintro e w2 ⟨rfl, rfl⟩
  cases h2 : fitB q.kind 2 with
  | false =>
    rw [h2] at HS
    go_wp2
    go_ret
    exact ⟨by rw [HS.out]; rfl, HB.out⟩
  | true =>
  rw [h2] at HS
  go_wp2_with fail
  refine (HF.out _).mono ?_
  rintro e w3 ⟨rfl, rfl⟩
  go_wp2
  go_ret
  exact ⟨by rw [HS.out]; simp, HB.out⟩

set_option maxRecDepth 20000 in
set_option maxHeartbeats 4000000 in
theorem soundHead_any (h : Hd) (vq va vu vx : Value) (w : World) : Calls Tryz.prog 68 #[valM h vq va vu vx] w (Gave w (.bool (soundH h))) := by
  obtain ⟨W, hW⟩ : ∃ W, W = w.alloc (.cells #[.int .i64 h.id, .bool h.resp, .int .i64 h.op, .bool h.aa, .bool h.tc, .bool h.rd, .bool h.ra, .int .i64 h.rc, vq, va, vu, vx, .bool h.edns, .int .i64 h.size] 28) := ⟨_, rfl⟩
  have hB : Below w.heap.size w W := by rw [hW]; exact (Below.refl _ _).alloc (Nat.le_refl _) _
  have HB := Lib.hid hB
  have HS := Lib.hid (show soundH h = (fitB h.id 2 && (codeB h.op && (codeB h.rc && (fitB h.size 2 && (h.edns || decide (h.size = 0)))))) from rfl)
  have HI := Lib.hid (fun W' => fits_any h.id 2 W')
  have HO := Lib.hid (fun W' => fitsCode_any h.op W')
  have HR := Lib.hid (fun W' => fitsCode_any h.rc W')
  have HZ := Lib.hid (fun W' => fits_any h.size 2 W')
  clear hB
  subst hW
  go_enter Tryz.func68, Tryz.ntmps68
  go_wp2_with fail
  refine (HI.out _).mono ?_
  rintro e w1 ⟨rfl, rfl⟩
  cases h1 : fitB h.id 2 with
  | false =>
    rw [h1] at HS
    go_wp2
    go_ret
    exact ⟨by rw [HS.out]; rfl, HB.out⟩
  | true =>
  rw [h1] at HS
  go_wp2_with fail
  refine (HO.out _).mono ?_
  rintro e w2 ⟨rfl, rfl⟩
  cases h2 : codeB h.op with
  | false =>
    rw [h2] at HS
    go_wp2
    go_ret
    exact ⟨by rw [HS.out]; rfl, HB.out⟩
  | true =>
  rw [h2] at HS
  go_wp2_with fail
  refine (HR.out _).mono ?_
  rintro e w3 ⟨rfl, rfl⟩
  cases h3 : codeB h.rc with
  | false =>
    rw [h3] at HS
    go_wp2
    go_ret
    exact ⟨by rw [HS.out]; rfl, HB.out⟩
  | true =>
  rw [h3] at HS
  go_wp2_with fail
  refine (HZ.out _).mono ?_
  rintro e w4 ⟨rfl, rfl⟩
  cases h4 : fitB h.size 2 with
  | false =>
    rw [h4] at HS
    go_wp2
    go_ret
    exact ⟨by rw [HS.out]; rfl, HB.out⟩
  | true =>
  rw [h4] at HS
  cases h5 : h.edns with
  | true =>
    rw [h5] at HS HB
    go_wp2
    go_ret
    exact ⟨by rw [HS.out]; rfl, HB.out⟩
  | false =>
    rw [h5] at HS HB
    by_cases hz : h.size = 0
    · have t : (h.size == 0) = true := by rw [hz]; rfl
      rw [show decide (h.size = 0) = true from decide_eq_true hz] at HS
      clear hz
      go_wp2
      go_ret
      exact ⟨by rw [HS.out]; rfl, HB.out⟩
    · have t : (h.size == 0) = false := by rw [beq_eq_false_iff_ne]; exact hz
      rw [show decide (h.size = 0) = false from decide_eq_false hz] at HS
      clear hz
      go_wp2
      go_ret
      exact ⟨by rw [HS.out]; rfl, HB.out⟩

/-- What sections leaves: pointers to the three lists. -/
def SecsOut (w : World) (g o : Nat) (e : Ending) (w' : World) : Prop :=
  ∃ b, e = .returned (.slice (some ⟨b, 0, none⟩) 3 3) ∧ w.heap.size ≤ b ∧ Whole w' b 89 [.pointer (some ⟨g, o + 9, none⟩), .pointer (some ⟨g, o + 10, none⟩), .pointer (some ⟨g, o + 11, none⟩)] ∧ Below w.heap.size w w'
set_option maxHeartbeats 1000000 in
theorem sections_at (w : World) (g o : Nat) : Calls Tryz.prog 69 #[.pointer (some ⟨g, o, none⟩)] w (SecsOut w g o) := by
  go_enter Tryz.func69, Tryz.ntmps69
  go_wp2
  go_region
  go_wp2
  go_ret
  exact ⟨w.heap.size, rfl, Nat.le_refl _, Whole.made w [_, _, _] _, ((Below.refl _ _).alloc (Nat.le_refl _) _).drew⟩
theorem sections_any (w : World) (g : Nat) : Calls Tryz.prog 69 #[.pointer (some ⟨g, 0, none⟩)] w (SecsOut w g 0) := sections_at w g 0













end Go.Proofs.YthppgofpbpjglaaGreat

namespace Go.Proofs.YthppgofpbpjglaaGreat
open Go.RowKit

/-- How many questions, and records of the sections ahead of number j. -/
def sumTo (m : MV) : Nat → Nat
  | 0 => m.qp.length
  | j + 1 => sumTo m j + (m.sec j).ps.length
def allTo (m : MV) : Nat → List Rt
  | 0 => []
  | j + 1 => allTo m j ++ recs (m.sec j).ps
theorem sumTo_three (m : MV) : sumTo m 3 = m.qp.length + m.s0.ps.length + m.s1.ps.length + m.s2.ps.length := rfl
theorem allTo_three (m : MV) : allTo m 3 = m.msg.all := by
  show ([] ++ recs m.s0.ps ++ recs m.s1.ps) ++ recs m.s2.ps = recs m.s0.ps ++ (recs m.s1.ps ++ recs m.s2.ps)
  simp
theorem sumTo_le {m : MV} (hi : MIn m) : ∀ j, sumTo m j ≤ 1000 * (j + 1)
  | 0 => by have := hi.ql; show m.qp.length ≤ 1000 * (0 + 1); omega
  | j + 1 => by
    have h1 := sumTo_le hi j
    have h2 := hi.rl j
    show sumTo m j + (m.sec j).ps.length ≤ 1000 * (j + 1 + 1)
    omega
theorem soundM_at (m : MV) : soundM m.msg = (soundH m.h && (decide (sumTo m 3 ≤ 512) && ((qsts m.qp).all soundQ && (allTo m 3).all soundX))) := by
  rw [sumTo_three, allTo_three]
  unfold soundM MV.msg
  dsimp only
  rw [length_qsts, length_recs, length_recs, length_recs]
theorem all_fails {α : Type} {p : α → Bool} {l : List α} {x : α} (hx : x ∈ l) (h : p x = false) : l.all p = false := by
  rw [List.all_eq_false]
  exact ⟨x, hx, by rw [h]; decide⟩
theorem mem_allTo {m : MV} {j : Nat} (hj : j < 3) {p : RV × Rt} (hp : p ∈ (m.sec j).ps) : p.2 ∈ allTo m 3 := by
  have h : p.2 ∈ recs (m.sec j).ps := List.mem_map.2 ⟨p, hp, rfl⟩
  have e : allTo m 3 = recs (m.sec 0).ps ++ (recs (m.sec 1).ps ++ recs (m.sec 2).ps) := allTo_three m
  rw [e]
  rcases (show j = 0 ∨ j = 1 ∨ j = 2 by omega) with rfl | rfl | rfl
  · exact List.mem_append_left _ h
  · exact List.mem_append_right _ (List.mem_append_left _ h)
  · exact List.mem_append_right _ (List.mem_append_right _ h)

/-- The message's block, and the row of pointers to its sections. -/
structure Boxed (w : World) (g b : Nat) (m : MV) : Prop where
  bg : Whole w g 28 m.cells
  bb : Whole w b 89 [.pointer (some ⟨g, 9, none⟩), .pointer (some ⟨g, 10, none⟩), .pointer (some ⟨g, 11, none⟩)]
theorem Boxed.below {w w' : World} {g b : Nat} {m : MV} (h : Boxed w g b m) (hb : Below w.heap.size w w') : Boxed w' g b m := ⟨h.bg.below hb h.bg.lt, h.bb.below hb h.bb.lt⟩
theorem Boxed.ptr {w : World} {g b : Nat} {m : MV} (h : Boxed w g b m) {j : Nat} (hj : j < 3) : w.cell? ⟨b, j, none⟩ = some (.pointer (some ⟨g, 9 + j, none⟩)) ∧ w.cell? ⟨g, 9 + j, none⟩ = some (.slice (m.sec j).A (m.sec j).ps.length (m.sec j).c) := by
  rcases (show j = 0 ∨ j = 1 ∨ j = 2 by omega) with rfl | rfl | rfl
  · exact ⟨h.bb.cell 0, h.bg.cell 9⟩
  · exact ⟨h.bb.cell 1, h.bg.cell 10⟩
  · exact ⟨h.bb.cell 2, h.bg.cell 11⟩

def SumRel (m : MV) (s i : Value) : Prop := ∃ j : Nat, j ≤ 3 ∧ i = .int .i64 j ∧ s = .int .i64 (sumTo m j)
def QuestRel (W : World) (qp : List (QV × Qt)) (i : Value) (wr : World) : Prop := ∃ k : Nat, k ≤ qp.length ∧ i = .int .i64 k ∧ (qsts (qp.take k)).all soundQ = true ∧ Below W.heap.size W wr
def SectsRel (W : World) (m : MV) (i : Value) (wr : World) : Prop := ∃ j : Nat, j ≤ 3 ∧ i = .int .i64 j ∧ (allTo m j).all soundX = true ∧ Below W.heap.size W wr
def SectRel (W : World) (s : Sec) (i : Value) (wr : World) : Prop := ∃ k : Nat, k ≤ s.ps.length ∧ i = .int .i64 k ∧ (recs (s.ps.take k)).all soundX = true ∧ Below W.heap.size W wr
theorem qsts_at {ps : List (QV × Qt)} {k : Nat} (hk : k < ps.length) : qsts (ps.take (k + 1)) = qsts (ps.take k) ++ [(ps[k]).2] := by
  rw [List.take_succ_eq_append_getElem hk, qsts_append]
  rfl

set_option maxRecDepth 20000 in
set_option maxHeartbeats 8000000 in
theorem msound_core (w : World) (m : MV) (h : Hd) (qA : Option Addr) (qc : Nat) (qp : List (QV × Qt)) (s0 s1 s2 : Sec) (he : m = ⟨h, qA, qc, qp, s0, s1, s2⟩) (hm : MAt w w.heap.size m) (hi : MIn m) :
    Calls Tryz.prog 36 #[valM h (.slice qA qp.length qc) s0.v s1.v s2.v] w (Gave w (.bool (soundM m.msg))) := by
  obtain ⟨W, hW⟩ : ∃ W, W = w.alloc (.cells #[.int .i64 h.id, .bool h.resp, .int .i64 h.op, .bool h.aa, .bool h.tc, .bool h.rd, .bool h.ra, .int .i64 h.rc, .slice qA qp.length qc, s0.v, s1.v, s2.v, .bool h.edns, .int .i64 h.size] 28) := ⟨_, rfl⟩
  have hB : Below w.heap.size w W := by rw [hW]; exact (Below.refl _ _).alloc (Nat.le_refl _) _
  have hwh : Whole W w.heap.size 28 m.cells := by rw [hW, he]; exact Whole.made w _ _
  have HB := Lib.hid hB
  have HW := Lib.hid hwh
  have HM := Lib.hid hm
  have HI := Lib.hid hi
  have HS := Lib.hid (show soundM m.msg = (soundH h && (decide (sumTo m 3 ≤ 512) && ((qsts qp).all soundQ && (allTo m 3).all soundX))) by rw [soundM_at, he])
  have HH := Lib.hid (fun W' => soundHead_any h (.slice qA qp.length qc) s0.v s1.v s2.v W')
  have hql : qp.length ≤ 1000 := by have h := hi.ql; rw [he] at h; exact h
  have HC8 := Lib.hid (fun (W' : World) (hw : Whole W' w.heap.size 28 m.cells) => (show W'.cell? ⟨w.heap.size, 8, none⟩ = some (.slice qA qp.length qc) by rw [he] at hw; exact hw.cell 8))
  have HQA := Lib.hid (fun (W' : World) (hb : Below w.heap.size w W') => (show QsAt W' w.heap.size qA qp by have h := hm.q.below hb; rw [he] at h; exact h))
  have HQI := Lib.hid (show ∀ p ∈ qp, QIn p.2 by have h := hi.q; rw [he] at h; exact h)
  have hs3 := sumTo_le hi 3
  have HS0 := Lib.hid (show sumTo m 0 = qp.length by rw [he]; rfl)
  have hlt : w.heap.size < W.heap.size := hwh.lt
  clear hB hwh hm hi he
  subst hW
  go_enter Tryz.func36, Tryz.ntmps36
  go_wp2_with fail
  refine (HH.out _).mono ?_
  rintro e w1 ⟨rfl, hb1⟩
  have HB1 := Lib.hid (HB.out.trans (hb1.mono HB.out.size))
  have HW1 := Lib.hid (HW.out.below hb1 hlt)
  have hlt1 : w.heap.size < w1.heap.size := HW1.out.lt
  clear hb1 HB HW HH hlt
  cases h1 : soundH h with
  | false =>
    rw [h1] at HS
    go_wp2
    go_ret
    exact ⟨by rw [HS.out]; rfl, HB1.out⟩
  | true =>
  rw [h1] at HS
  have c8 := HC8.out w1 HW1.out
  go_wp2_with fail
  refine (sections_any w1 w.heap.size).mono ?_
  rintro e w2 ⟨b, rfl, hbb, hwb, hb2⟩
  have HX2 := Lib.hid (Boxed.mk (HW1.out.below hb2 hlt1) hwb)
  have HB2 := Lib.hid (HB1.out.trans (hb2.mono (Nat.le_of_lt hlt1)))
  clear hwb hb2 HW1 HB1 c8 hbb
  go_wp2
  go_loop [3, 20] (SumRel m) (fun _ i => 3 - (intOf i).toNat)
  case atStart => exact ⟨0, by omega, rfl, by rw [HS0.out]⟩
  case round =>
    obtain ⟨j, hj, rfl, rfl⟩ := hrel
    have hsj := sumTo_le HI.out j
    by_cases hlt : j < 3
    · obtain ⟨p0, p1⟩ := HX2.out.ptr hlt
      have hrl := HI.out.rl j
      go_wp2
      exact ⟨⟨j + 1, by omega, by go_num, by show Value.int .i64 _ = Value.int .i64 ((sumTo m j + (m.sec j).ps.length : Nat) : Int); congr 1⟩, by simp [intOf]; omega⟩
    · obtain rfl : j = 3 := by omega
      clear hsj hj
      by_cases hn : sumTo m 3 ≤ 512
      case neg =>
        have d1 : decide ((512 : Int) < ((sumTo m 3 : Nat) : Int)) = true := by rw [decide_eq_true_eq]; omega
        rw [show decide (sumTo m 3 ≤ 512) = false from decide_eq_false hn] at HS
        clear hn
        go_wp2
        go_ret
        exact ⟨by rw [HS.out]; rfl, HB2.out⟩
      have d1 : decide ((512 : Int) < ((sumTo m 3 : Nat) : Int)) = false := decide_eq_false (by omega)
      rw [show decide (sumTo m 3 ≤ 512) = true from decide_eq_true hn] at HS
      clear hn
      have c8 := HC8.out w2 HX2.out.bg
      go_wp2
      clear d1 hlt
      go_loopw [36] (QuestRel w2 qp) (fun i _ => qp.length - (intOf i).toNat)
      case atStart => exact ⟨0, Nat.zero_le _, rfl, rfl, Below.refl _ _⟩
      case round =>
        obtain ⟨k, hk, rfl, ha, hb⟩ := hrel
        have HA := Lib.hid ha
        have HX3 := Lib.hid (HX2.out.below hb)
        have HB3 := Lib.hid (HB2.out.trans (hb.mono HB2.out.size))
        have HBW := Lib.hid hb
        clear ha hb
        by_cases hlt2 : k < qp.length
        · obtain ⟨b1, o1, rfl, hb1, hda, q0, q1, q2⟩ := (HQA.out _ HB3.out).at_ hlt2
          have HQ := Lib.hid (HQI.out _ (List.getElem_mem hlt2))
          have HTS := Lib.hid (qsts_at hlt2)
          have HF := Lib.hid (show soundQ (qp[k]).2 = false → (qsts qp).all soundQ = false from all_fails (List.mem_map.2 ⟨qp[k], List.getElem_mem hlt2, rfl⟩))
          revert hda q0 q1 q2 HQ HTS HF
          generalize qp[k] = p1
          obtain ⟨y, q⟩ := p1
          intro hda q0 q1 q2 HQ HTS HF
          dsimp only at *
          have hba : Below wr.heap.size wr (wr.alloc (.cells #[.slice y.1 q.name.length y.2, .int .i64 q.kind, .int .i64 q.cls] 24)) := (Below.refl _ _).alloc (Nat.le_refl _) _
          have HC := Lib.hid (soundQuestion_any y q (wr.alloc (.cells #[.slice y.1 q.name.length y.2, .int .i64 q.kind, .int .i64 q.cls] 24)) (Row.mono (Row.below hda (hba.mono HB3.out.size)) (Nat.le_trans HB3.out.size hba.size)) HQ.out)
          have HBA := Lib.hid hba
          clear hda hba
          go_wp2_with fail
          refine HC.out.mono ?_
          rintro e w4 ⟨rfl, hb4⟩
          have HB4 := Lib.hid (HBW.out.trans ((HBA.out.trans (hb4.mono HBA.out.size)).mono HBW.out.size))
          clear hb4 HC HBA
          cases hv : soundQ q with
          | false =>
            have HFX := Lib.hid (HF.out hv)
            clear HTS HF
            go_wp2
            go_ret
            exact ⟨by rw [HS.out, HFX.out]; rfl, HB2.out.trans (HB4.out.mono HB2.out.size)⟩
          | true =>
            have HT := Lib.hid (show (qsts (qp.take (k + 1))).all soundQ = true by rw [HTS.out, List.all_append, HA.out]; simp [hv])
            clear HTS HF hv
            go_wp2
            exact ⟨⟨k + 1, by omega, by go_num, HT.out, HB4.out⟩, by simp [intOf]; omega⟩
        · obtain rfl : k = qp.length := by omega
          have HT := Lib.hid (show (qsts qp).all soundQ = true by have h := HA.out; rwa [List.take_length] at h)
          clear HA
          rw [HT.out] at HS
          clear c8
          go_wp2_with fail
          refine (sections_any wr w.heap.size).mono ?_
          rintro e w5 ⟨b5, rfl, hbb5, hwb5, hb5⟩
          have HX5 := Lib.hid (Boxed.mk (HX3.out.bg.below hb5 HX3.out.bg.lt) hwb5)
          have HB5 := Lib.hid (HB3.out.trans (hb5.mono HB3.out.size))
          clear hwb5 hb5 hbb5 HX3 HB3 HBW HX2 HB2 HT hk hlt2
          go_wp2
          go_loopw [46] (SectsRel w5 m) (fun i _ => 3 - (intOf i).toNat)
          case atStart => exact ⟨0, by omega, rfl, rfl, Below.refl _ _⟩
          case round =>
            obtain ⟨j, hj, rfl, ha, hb⟩ := hrel
            have HA := Lib.hid ha
            have HX6 := Lib.hid (HX5.out.below hb)
            have HB6 := Lib.hid hb
            clear ha hb
            by_cases hlt : j < 3
            · obtain ⟨p0, p1⟩ := HX6.out.ptr hlt
              have hrl := HI.out.rl j
              have HMS := Lib.hid (fun (k : Nat) (hk : k < (m.sec j).ps.length) => (show soundX ((m.sec j).ps[k]).2 = false → (allTo m 3).all soundX = false from all_fails (mem_allTo hlt (List.getElem_mem hk))))
              have HRJ := Lib.hid (HI.out.r j)
              have HMJ := Lib.hid (fun W' (h : Below w.heap.size w W') => (HM.out.below h).sec j)
              have HN := Lib.hid (show allTo m (j + 1) = allTo m j ++ recs (m.sec j).ps from rfl)
              revert p1 hrl HMS HRJ HMJ HN
              generalize m.sec j = s
              obtain ⟨sA, sc, ps⟩ := s
              intro p1 hrl HMS HRJ HMJ HN
              dsimp only at *
              have hj1 : (j : Int) < 3 := by omega
              go_wp2
              go_loopw [54] (SectRel wr ⟨sA, sc, ps⟩) (fun i _ => ps.length - (intOf i).toNat)
              case atStart => exact ⟨0, Nat.zero_le _, rfl, rfl, Below.refl _ _⟩
              case round =>
                obtain ⟨k, hk, rfl, ha, hb⟩ := hrel
                dsimp only at hk ha
                have HA2 := Lib.hid ha
                have HX7 := Lib.hid (HX6.out.below hb)
                have HB7 := Lib.hid (HB6.out.trans (hb.mono HB6.out.size))
                have HBW := Lib.hid hb
                clear ha hb
                by_cases hlt2 : k < ps.length
                · obtain ⟨b1, o1, rfl, hb1, hra, q0, q1, q2, q3, q4, q5, q6, q7, q8⟩ := (HMJ.out _ (HB5.out.trans (HB7.out.mono HB5.out.size))).at_ hlt2
                  have HRI := Lib.hid (HRJ.out _ (List.getElem_mem hlt2))
                  have HF := Lib.hid (HMS.out k hlt2)
                  have HTS := Lib.hid (recs_at hlt2)
                  revert hra q0 q1 q2 q3 q4 q5 q6 q7 q8 HRI HF HTS
                  generalize ps[k] = p1
                  obtain ⟨x, r⟩ := p1
                  intro hra q0 q1 q2 q3 q4 q5 q6 q7 q8 HRI HF HTS
                  dsimp only at *
                  have HSX := Lib.hid (show soundX r = (decide (r.kind ≠ 41) && soundR r) from rfl)
                  have hba : Below wr.heap.size wr (wr.alloc (.cells #[.slice x.A r.name.length x.c, .int .i64 r.kind, .int .i64 r.cls, .int .i64 r.ttl, .slice x.d.Ab r.data.bytes.length x.d.cb, .slice x.d.Ah r.data.host.length x.d.ch, .slice x.d.Am r.data.mail.length x.d.cm, .slice x.d.An r.data.nums.length x.d.cn, .slice x.d.At r.data.texts.length x.d.ct] 46)) := (Below.refl _ _).alloc (Nat.le_refl _) _
                  have HC := Lib.hid (rsound_any x r _ ((hra.below (hba.mono (HB5.out.trans (HB7.out.mono HB5.out.size)).size)).mono (Nat.le_trans (HB5.out.trans (HB7.out.mono HB5.out.size)).size hba.size)) HRI.out.1 HRI.out.2)
                  have HBA := Lib.hid (HBW.out.trans (hba.mono HBW.out.size))
                  clear hra hba
                  by_cases h41 : r.kind = 41
                  · have t : (r.kind == 41) = true := by rw [beq_iff_eq]; exact h41
                    rw [show decide (r.kind ≠ 41) = false from decide_eq_false (by omega)] at HSX
                    have HFX := Lib.hid (HF.out HSX.out)
                    clear h41 HF HTS
                    go_wp2
                    go_ret
                    exact ⟨by rw [HS.out, HFX.out]; rfl, HB5.out.trans ((HB6.out.trans (HBA.out.mono HB6.out.size)).mono HB5.out.size)⟩
                  have t : (r.kind == 41) = false := by rw [beq_eq_false_iff_ne]; exact h41
                  rw [show decide (r.kind ≠ 41) = true from decide_eq_true h41, Bool.true_and] at HSX
                  clear h41
                  go_wp2_with fail
                  refine HC.out.mono ?_
                  rintro e w8 ⟨rfl, hb8⟩
                  have HB8 := Lib.hid (HBA.out.trans (hb8.mono HBA.out.size))
                  clear hb8 HC HBA
                  cases hv : soundR r with
                  | false =>
                    have HFX := Lib.hid (HF.out (HSX.out.trans hv))
                    clear HF HTS
                    go_wp2
                    go_ret
                    exact ⟨by rw [HS.out, HFX.out]; rfl, HB5.out.trans ((HB6.out.trans (HB8.out.mono HB6.out.size)).mono HB5.out.size)⟩
                  | true =>
                    have HT := Lib.hid (show (recs (ps.take (k + 1))).all soundX = true by rw [HTS.out, List.all_append, HA2.out]; simp [HSX.out, hv])
                    clear HF HTS hv HSX
                    go_wp2
                    exact ⟨⟨k + 1, by show k + 1 ≤ ps.length; omega, by go_num, HT.out, HB8.out⟩, by simp [intOf]; omega⟩
                · obtain rfl : k = ps.length := by omega
                  have HT := Lib.hid (show (allTo m (j + 1)).all soundX = true by
                    have h := HA2.out
                    rw [List.take_length] at h
                    rw [HN.out, List.all_append, HA.out, h]
                    rfl)
                  go_wp2
                  exact ⟨⟨j + 1, by omega, by go_num, HT.out, HB7.out⟩, by simp [intOf]; omega⟩
            · obtain rfl : j = 3 := by omega
              have HT := Lib.hid HA.out
              rw [HT.out] at HS
              go_wp2
              go_ret
              exact ⟨by rw [HS.out]; rfl, HB5.out.trans (HB6.out.mono HB5.out.size)⟩

theorem msound_any (w : World) (m : MV) (hm : MAt w w.heap.size m) (hi : MIn m) : Calls Tryz.prog 36 #[m.val] w (Gave w (.bool (soundM m.msg))) :=
  msound_core w m m.h m.qA m.qc m.qp m.s0 m.s1 m.s2 rfl hm hi

end Go.Proofs.YthppgofpbpjglaaGreat

namespace Go.Proofs.YthppgofpbpjglaaGreat
open Go.RowKit

/-- The block j holds a slice of the record. -/
def RV.owns (x : RV) (r : Rt) (j : Nat) : Prop := (x.vn r).ownBlock = some j ∨ x.d.owns r.data j
theorem OwnR.base {w : World} {B : Nat} {x : RV} {r : Rt} (h : OwnR w B x r) {j : Nat} (hj : x.owns r j) : B ≤ j ∧ j < w.heap.size := by
  rcases hj with e | e
  · exact h.n.lt j e
  · exact h.d.base e
section
variable {base g H : Nat} {W1 wk : World} {vB vM : Value} {B : List UInt8} {R : Rs}







end








































































































































end Go.Proofs.YthppgofpbpjglaaGreat

namespace Go.Proofs.YthppgofpbpjglaaGreat
open Go.RowKit

/-- The bit number j of the flags: where its bool lies, where it is in the number, and whether it is on. -/
def fldF (j : Nat) : Nat := if j = 0 then 1 else j + 2
def posF (j : Nat) : Nat := if j = 0 then 15 else 11 - j
def onF (h : Hd) (j : Nat) : Bool := if j = 0 then h.resp else if j = 1 then h.aa else if j = 2 then h.tc else if j = 3 then h.rd else h.ra
def bitsTo (h : Hd) : Nat → Nat
  | 0 => h.op.toNat * 2048 + h.rc.toNat
  | j + 1 => bitsTo h j + bit (onF h j) (2 ^ posF j)
theorem bitsTo_five (h : Hd) : bitsTo h 5 = bitsH h := by
  show ((((h.op.toNat * 2048 + h.rc.toNat + bit h.resp 32768) + bit h.aa 1024) + bit h.tc 512) + bit h.rd 256) + bit h.ra 128 = bitsH h
  unfold bitsH
  omega
theorem or_i64_nat (a b : Nat) (ha : a < 65536) (hb : b < 65536) : bits .or .i64 (a : Int) (b : Int) = ((a ||| b : Nat) : Int) := by
  have hx : a ||| b < 2 ^ 16 := Nat.or_lt_two_pow (by omega) (by omega)
  have h1 : (BitVec.ofInt 64 (a : Int)).toNat = a := by
    rw [BitVec.ofInt_natCast, BitVec.toNat_ofNat]; exact Nat.mod_eq_of_lt (by omega)
  have h2 : (BitVec.ofInt 64 (b : Int)).toNat = b := by
    rw [BitVec.ofInt_natCast, BitVec.toNat_ofNat]; exact Nat.mod_eq_of_lt (by omega)
  show IntKind.i64.wrap ((BitVec.ofInt 64 (a : Int) ||| BitVec.ofInt 64 (b : Int)).toNat : Int) = _
  rw [BitVec.toNat_or, h1, h2]
  rw [IntKind.wrap_i64]
  omega
theorem or_code : ∀ o, o < 16 → ∀ c, c < 16 → (o * 2048 ||| c) = o * 2048 + c := by decide +kernel
theorem or_bit0 : ∀ o, o < 16 → ∀ c, c < 16 → (o * 2048 + c ||| 32768) = o * 2048 + c + 32768 := by decide +kernel
theorem or_bit1 : ∀ o, o < 16 → ∀ c, c < 16 → ∀ x, x < 2 → (o * 2048 + c + x * 32768 ||| 1024) = o * 2048 + c + x * 32768 + 1024 := by decide +kernel
theorem or_bit2 : ∀ o, o < 16 → ∀ c, c < 16 → ∀ x, x < 2 → ∀ y, y < 2 → (o * 2048 + c + x * 32768 + y * 1024 ||| 512) = o * 2048 + c + x * 32768 + y * 1024 + 512 := by decide +kernel
theorem or_bit3 : ∀ o, o < 16 → ∀ c, c < 16 → ∀ x, x < 2 → ∀ y, y < 2 → ∀ z, z < 2 → (o * 2048 + c + x * 32768 + y * 1024 + z * 512 ||| 256) = o * 2048 + c + x * 32768 + y * 1024 + z * 512 + 256 := by decide +kernel
theorem or_bit4 : ∀ o, o < 16 → ∀ c, c < 16 → ∀ x, x < 2 → ∀ y, y < 2 → ∀ z, z < 2 → ∀ u, u < 2 → (o * 2048 + c + x * 32768 + y * 1024 + z * 512 + u * 256 ||| 128) = o * 2048 + c + x * 32768 + y * 1024 + z * 512 + u * 256 + 128 := by decide +kernel
theorem bit_eq (b : Bool) (n : Nat) : ∃ x, x < 2 ∧ bit b n = x * n := by
  cases b
  · exact ⟨0, by omega, by simp [bit]⟩
  · exact ⟨1, by omega, by simp [bit]⟩
theorem codeB_nat {n : Int} (h : codeB n = true) : ∃ k : Nat, n = k ∧ k < 16 := by
  unfold codeB at h
  simp only [Bool.and_eq_true, decide_eq_true_eq] at h
  exact ⟨n.toNat, by omega, by omega⟩
/-- One more bit. -/
theorem bitsTo_or {h : Hd} (ho : codeB h.op = true) (hr : codeB h.rc = true) {j : Nat} (hj : j < 5) : bits .or .i64 ((bitsTo h j : Nat) : Int) ((2 ^ posF j : Nat) : Int) = ((bitsTo h j + 2 ^ posF j : Nat) : Int) ∧ bitsTo h j < 65536 := by
  obtain ⟨o, eo, ho2⟩ := codeB_nat ho
  obtain ⟨c, ec, hc2⟩ := codeB_nat hr
  obtain ⟨x, hx, ex⟩ := bit_eq h.resp 32768
  obtain ⟨y, hy, ey⟩ := bit_eq h.aa 1024
  obtain ⟨z, hz, ez⟩ := bit_eq h.tc 512
  obtain ⟨u, hu, eu⟩ := bit_eq h.rd 256
  have e0 : bitsTo h 0 = o * 2048 + c := by unfold bitsTo; rw [eo, ec, Int.toNat_natCast, Int.toNat_natCast]
  have e1 : bitsTo h 1 = o * 2048 + c + x * 32768 := by rw [← e0, ← ex]; rfl
  have e2 : bitsTo h 2 = o * 2048 + c + x * 32768 + y * 1024 := by rw [← e1, ← ey]; rfl
  have e3 : bitsTo h 3 = o * 2048 + c + x * 32768 + y * 1024 + z * 512 := by rw [← e2, ← ez]; rfl
  have e4 : bitsTo h 4 = o * 2048 + c + x * 32768 + y * 1024 + z * 512 + u * 256 := by rw [← e3, ← eu]; rfl
  rcases (show j = 0 ∨ j = 1 ∨ j = 2 ∨ j = 3 ∨ j = 4 by omega) with rfl | rfl | rfl | rfl | rfl
  · rw [e0, or_i64_nat _ _ (by omega) (by decide)]
    exact ⟨congrArg _ (or_bit0 o ho2 c hc2), by omega⟩
  · rw [e1, or_i64_nat _ _ (by omega) (by decide)]
    exact ⟨congrArg _ (or_bit1 o ho2 c hc2 x hx), by omega⟩
  · rw [e2, or_i64_nat _ _ (by omega) (by decide)]
    exact ⟨congrArg _ (or_bit2 o ho2 c hc2 x hx y hy), by omega⟩
  · rw [e3, or_i64_nat _ _ (by omega) (by decide)]
    exact ⟨congrArg _ (or_bit3 o ho2 c hc2 x hx y hy z hz), by omega⟩
  · rw [e4, or_i64_nat _ _ (by omega) (by decide)]
    exact ⟨congrArg _ (or_bit4 o ho2 c hc2 x hx y hy z hz u hu), by omega⟩
theorem bits_code {h : Hd} (ho : codeB h.op = true) (hr : codeB h.rc = true) : bits .or .i64 (wrap64 (h.op * 2048)) h.rc = ((bitsTo h 0 : Nat) : Int) := by
  obtain ⟨o, eo, ho2⟩ := codeB_nat ho
  obtain ⟨c, ec, hc2⟩ := codeB_nat hr
  have e0 : bitsTo h 0 = o * 2048 + c := by unfold bitsTo; rw [eo, ec, Int.toNat_natCast, Int.toNat_natCast]
  have ew : wrap64 (h.op * 2048) = ((o * 2048 : Nat) : Int) := by rw [eo]; unfold wrap64; omega
  rw [ew, ec, or_i64_nat _ _ (by omega) (by omega), e0, or_code o ho2 c hc2]














def BitsRel (W : World) (h : Hd) (s i : Value) (wr : World) : Prop := ∃ j : Nat, j ≤ 5 ∧ i = .int .i64 j ∧ s = .int .i64 (bitsTo h j) ∧ Below W.heap.size W wr

























































































































end Go.Proofs.YthppgofpbpjglaaGreat

namespace Go.Proofs.YthppgofpbpjglaaGreat
open Go.RowKit




/-- What is written ahead of the questions, up to section j. -/
def headTo (B : List UInt8) (m : MV) : Nat → List UInt8
  | 0 => ((B ++ putL [] m.h.id 2) ++ putL [] (bitsH m.h) 2) ++ putL [] m.qp.length 2
  | j + 1 => headTo B m j ++ putL [] (m.sec j).ps.length 2
theorem length_putL2 (n : Int) : (putL [] n 2).length ≤ 7 := by unfold putL; split <;> simp [length_digs]
theorem length_headTo (B : List UInt8) (m : MV) : ∀ j, (headTo B m j).length ≤ B.length + 21 + 7 * j
  | 0 => by
    have h1 := length_putL2 m.h.id
    have h2 := length_putL2 (bitsH m.h)
    have h3 := length_putL2 m.qp.length
    show (((B ++ putL [] m.h.id 2) ++ putL [] (bitsH m.h) 2) ++ putL [] m.qp.length 2).length ≤ B.length + 21 + 7 * 0
    simp only [List.length_append]
    omega
  | j + 1 => by
    have h1 := length_headTo B m j
    have h2 := length_putL2 (m.sec j).ps.length
    show (headTo B m j ++ putL [] (m.sec j).ps.length 2).length ≤ B.length + 21 + 7 * (j + 1)
    rw [List.length_append]
    omega















































































































end Go.Proofs.YthppgofpbpjglaaGreat
