/-
  MsgShort, whole: whatever question and answers a sound message has, msg.Encode of it has no more bytes than all of its parts with each name whole, or is ErrLarge; up to 600 records of up to 200 labels in each name, 100 texts, 100 numbers and 200,000 bytes in all (the statement looks at no others). No condition.
-/
import Derived.Test.YtjkjhpaeckkpjaaMsP1
import Derived.Test.YtjkjhpaeckkpjaaMbP9
import Derived.Test.YtjkjhpaeckkpjaaMbP2
namespace Go.Proofs.Ytjkjhpaeckkpjaa
open Go.RowKit

theorem MIn.of_msg {m m' : MV} (h : m'.msg = m.msg) (hi : MIn m) : MIn m' := by
  unfold MV.msg at h
  injection h with h0 h1 h2 h3 h4
  have hs : ∀ i, recs (m'.sec i).ps = recs (m.sec i).ps := fun i => by
    unfold MV.sec
    split
    · exact h2
    · split
      · exact h3
      · exact h4
  refine ⟨by rw [h0]; exact hi.h, fun p hp => ?_, fun i p hp => ?_, ?_, fun i => ?_⟩
  · have h5 : p.2 ∈ qsts m.qp := by rw [← h1]; exact List.mem_map.2 ⟨p, hp, rfl⟩
    obtain ⟨p', hp', e⟩ := List.mem_map.1 h5
    rw [← e]
    exact hi.q p' hp'
  · have h5 : p.2 ∈ recs (m.sec i).ps := by rw [← hs i]; exact List.mem_map.2 ⟨p, hp, rfl⟩
    obtain ⟨p', hp', e⟩ := List.mem_map.1 h5
    rw [← e]
    exact hi.r i p' hp'
  · rw [← length_qsts, h1, length_qsts]
    exact hi.ql
  · rw [← length_recs, hs i, length_recs]
    exact hi.rl i
theorem short_hin : HIn shortH := ⟨by decide, by decide, by decide, by decide⟩
def shortV (b : Nat) (y : QV) (q : Qt) (A : Option Addr) (c : Nat) (ps : List (RV × Rt)) : MV := ⟨shortH, some ⟨b, 0, none⟩, 1, [(y, q)], ⟨A, c, ps⟩, nilSec, nilSec⟩
theorem shortV_sec (b : Nat) (y : QV) (q : Qt) (A : Option Addr) (c : Nat) (ps : List (RV × Rt)) (i : Nat) : ((shortV b y q A c ps).sec i).ps = ps ∨ ((shortV b y q A c ps).sec i).ps = [] := by
  unfold MV.sec
  split
  · exact .inl rfl
  · split <;> exact .inr rfl
theorem short_all {q : Qt} {rs : List Rt} : (shortM q rs).all = rs := by
  show rs ++ ([] ++ []) = rs
  simp
theorem shortV_in {b : Nat} {y : QV} {q : Qt} {A : Option Addr} {c : Nat} {ps : List (RV × Rt)} (hqn : WideN q.name) (hqk : (Lit.int .i64 q.kind).wf = true) (hqc : (Lit.int .i64 q.cls).wf = true) (hi : ∀ p ∈ ps, RIn p.2) (hl : LightM (shortM q (recs ps))) : MIn (shortV b y q A c ps) ∧ ∀ i, ((shortV b y q A c ps).sec i).ps.length ≤ 700 := by
  have hn : ps.length ≤ 600 := by have h1 := hl.n; rwa [short_all, length_recs] at h1
  have hs : ∀ i, ((shortV b y q A c ps).sec i).ps.length ≤ 700 := fun i => by
    rcases shortV_sec b y q A c ps i with h | h <;> rw [h]
    · omega
    · exact Nat.zero_le _
  refine ⟨⟨short_hin, fun p hp => ?_, fun i p hp => ?_, by show 1 ≤ 1000; omega, fun i => by have := hs i; omega⟩, hs⟩
  · rw [List.mem_singleton.1 hp]
    exact ⟨hqn, hqk, hqc, hl.k q (List.mem_singleton.2 rfl)⟩
  · rcases shortV_sec b y q A c ps i with h | h <;> rw [h] at hp
    · exact ⟨hi p hp, hl.r p.2 (by rw [short_all]; exact List.mem_map.2 ⟨p, hp, rfl⟩)⟩
    · exact absurd hp (List.not_mem_nil)
theorem szRecs_append (a b : List Rt) : szRecs (a ++ b) = szRecs a + szRecs b := by simp [szRecs]
theorem szRecs_le {M : Nat} : ∀ {rs : List Rt}, (∀ r ∈ rs, szRec r ≤ M) → szRecs rs ≤ rs.length * M
  | [], _ => Nat.zero_le _
  | r :: rs, h => by
    have h1 := szRecs_le (rs := rs) fun x hx => h x (List.mem_cons_of_mem _ hx)
    have h2 := h r (List.mem_cons_self)
    have e : szRecs (r :: rs) = szRec r + szRecs rs := by simp [szRecs]
    rw [e, List.length_cons, Nat.succ_mul]
    omega
theorem szT_le {M : Nat} : ∀ {ts : List (List UInt8)}, (∀ t ∈ ts, t.length ≤ M) → szT ts ≤ ts.length * (1 + M)
  | [], _ => Nat.zero_le _
  | t :: ts, h => by
    have h1 := szT_le (ts := ts) fun x hx => h x (List.mem_cons_of_mem _ hx)
    have h2 := h t (List.mem_cons_self)
    have e : szT (t :: ts) = 1 + t.length + szT ts := by simp [szT]
    rw [e, List.length_cons, Nat.succ_mul]
    omega
theorem szRec_parts {r : Rt} (hs : SoundR r) : szN r.name ≤ 255 ∧ szN r.data.host ≤ 255 ∧ szN r.data.mail ≤ 255 ∧ r.data.nums.length ≤ 20 ∧ r.data.bytes.length ≤ 65535 ∧ szT r.data.texts ≤ 20000 := by
  have sp := soundP hs.d
  have h1 := shN_small r.kind
  have h2 := sp.n
  have h3 := sp.b
  have h4 : (shN r.kind).most ≤ 65535 := by
    unfold shN
    repeat' split
    all_goals decide
  have h5 := szT_le sp.tl
  have h6 := sp.t
  have h7 : r.data.texts.length * (1 + 255) ≤ 64 * 256 := Nat.mul_le_mul_right _ h6
  have e1 : szN ([] : List (List UInt8)) = 1 := rfl
  refine ⟨(soundN_parts hs.n).2, ?_, ?_, by omega, by omega, by omega⟩
  · cases hh : (shN r.kind).host with
    | true => exact (soundN_parts (sp.h hh)).2
    | false => rw [sp.h0 hh, e1]; omega
  · cases hh : (shN r.kind).mail with
    | true => exact (soundN_parts (sp.m hh)).2
    | false => rw [sp.m0 hh, e1]; omega
theorem szRec_le {r : Rt} (hs : SoundR r) : szRec r ≤ 100000 := by
  obtain ⟨h1, h2, h3, h4, h5, h6⟩ := szRec_parts hs
  unfold szRec
  omega
theorem szT_append (a b : List (List UInt8)) : szT (a ++ b) = szT a + szT b := by simp [szT]
def TextRelS (W : World) (U : Nat) (ts : List (List UInt8)) (s i : Value) (wx : World) : Prop := ∃ j : Nat, j ≤ ts.length ∧ i = .int .i64 j ∧ s = .int .i64 ((U + szT (ts.take j) : Nat) : Int) ∧ wx = W
def ShortRel (w : World) (S : Nat) (ps : List (RV × Rt)) (s i : Value) (wr : World) : Prop := ∃ k : Nat, k ≤ ps.length ∧ i = .int .i64 k ∧ s = .int .i64 ((S + szRecs (recs (ps.take k)) : Nat) : Int) ∧ Below w.heap.size w wr
theorem size_still {A : Option Addr} {m c base : Nat} {n : List (List UInt8)} {w : World} (hl : n.length = m) (hA : Row w base A (n.map sv)) (hs : szN n ≤ maxLen) (k : Nat) :
    Calls Try.prog 20 #[.slice A m c] (w.drewN k) fun e w' => e = .returned (.int .i64 (szN n)) ∧ ∃ j, w' = w.drewN j :=
  (ref_size_any A m c base n (w.drewN k) hl (hA.drewN k) hs).mono fun _ _ ⟨he, hw⟩ => ⟨he, k, hw.symm⟩
theorem EncOut.short {w w' : World} {q : Qt} {rs : List Rt} {e : Ending} (h : EncOut w (encE (shortM q rs)) e w') (hs : soundM (shortM q rs) = true) :
    Below w.heap.size w w' ∧ ∃ (A : Option Addr) (n c k : Nat), e = .returned (.tuple #[.slice A n c, .int .i64 (k : Nat)]) ∧ (k = 4 ∨ k = 0 ∧ n ≤ 12 + szN q.name + 4 + szRecs rs) := by
  rcases short_enc hs with ⟨b, hb, hl⟩ | hb
  · rw [hb] at h
    obtain ⟨h1, A, c, rfl, _⟩ := h
    exact ⟨h1, A, b.length, c, 0, rfl, .inr ⟨rfl, hl⟩⟩
  · rw [hb] at h
    obtain ⟨h1, rfl⟩ := h
    exact ⟨h1, none, 0, 0, 4, rfl, .inl rfl⟩

set_option maxRecDepth 20000 in
set_option maxHeartbeats 8000000 in
theorem mshort_any (w : World) (y : QV) (q : Qt) (A : Option Addr) (c : Nat) (ps : List (RV × Rt)) (hq : QAt w w.heap.size y q) (hqn : WideN q.name) (hqk : (Lit.int .i64 q.kind).wf = true) (hqc : (Lit.int .i64 q.cls).wf = true)
    (hp : RsAt w w.heap.size A ps) (hi : ∀ p ∈ ps, RIn p.2) (hn : ps.length * 168 ≤ 140737488355328) (hb : ∀ r ∈ recs ps, r.data.bytes.length ≤ 140737488355328) :
    Calls Try.prog 6 #[.agg #[.slice y.1 q.name.length y.2, .int .i64 q.kind, .int .i64 q.cls], .slice A ps.length c] w (TrueB w) := by
  have HA := Lib.hid (fun W' => manswers_any W')
  obtain ⟨W, hW⟩ : ∃ W, W = ((w.alloc (.cells #[.slice y.1 q.name.length y.2, .int .i64 q.kind, .int .i64 q.cls] 42)).alloc (.cells #[.slice y.1 q.name.length y.2, .int .i64 q.kind, .int .i64 q.cls] 42)).alloc (.cells #[.int .i64 0, .bool true, .int .i64 0, .bool false, .bool false, .bool false, .bool false, .int .i64 0, .slice (some ⟨w.heap.size + 1, 0, none⟩) 1 1, .slice A ps.length c, .slice none 0 0, .slice none 0 0, .bool false, .int .i64 0] 25) := ⟨_, rfl⟩
  have hB : Below w.heap.size w W := by rw [hW]; exact (((Below.refl _ _).alloc (Nat.le_refl _) _).alloc (by simp) _).alloc (by simp; omega) _
  have hzW : W.heap.size = w.heap.size + 3 := by rw [hW]; simp
  have hwm : Whole W (w.heap.size + 1 + 1) 25 [.int .i64 0, .bool true, .int .i64 0, .bool false, .bool false, .bool false, .bool false, .int .i64 0, .slice (some ⟨w.heap.size + 1, 0, none⟩) 1 1, .slice A ps.length c, .slice none 0 0, .slice none 0 0, .bool false, .int .i64 0] := by
    rw [hW]
    have h1 := Whole.made ((w.alloc (.cells #[.slice y.1 q.name.length y.2, .int .i64 q.kind, .int .i64 q.cls] 42)).alloc (.cells #[.slice y.1 q.name.length y.2, .int .i64 q.kind, .int .i64 q.cls] 42)) [.int .i64 0, .bool true, .int .i64 0, .bool false, .bool false, .bool false, .bool false, .int .i64 0, .slice (some ⟨w.heap.size + 1, 0, none⟩) 1 1, .slice A ps.length c, .slice none 0 0, .slice none 0 0, .bool false, .int .i64 0] 25
    rw [show ((w.alloc (.cells #[.slice y.1 q.name.length y.2, .int .i64 q.kind, .int .i64 q.cls] 42)).alloc (.cells #[.slice y.1 q.name.length y.2, .int .i64 q.kind, .int .i64 q.cls] 42)).heap.size = w.heap.size + 1 + 1 by simp] at h1
    exact h1
  have hwq : Whole W w.heap.size 42 [.slice y.1 q.name.length y.2, .int .i64 q.kind, .int .i64 q.cls] := by
    rw [hW]
    exact ((Whole.made w [.slice y.1 q.name.length y.2, .int .i64 q.kind, .int .i64 q.cls] 42).alloc _).alloc _
  have hqr : Row W W.heap.size (some ⟨w.heap.size + 1, 0, none⟩) (cellsQ (y, q)) := by
    rw [hW]
    have h1 := Row.made (w.alloc (.cells #[.slice y.1 q.name.length y.2, .int .i64 q.kind, .int .i64 q.cls] 42)) #[.slice y.1 q.name.length y.2, .int .i64 q.kind, .int .i64 q.cls] 42
    rw [show (w.alloc (.cells #[.slice y.1 q.name.length y.2, .int .i64 q.kind, .int .i64 q.cls] 42)).heap.size = w.heap.size + 1 by simp] at h1
    exact (h1.below ((Below.refl _ _).alloc (by simp) _)).mono (by simp)
  have HMA := Lib.hid (fun (W' : World) (h : Below W.heap.size W W') => (show MAt W' W'.heap.size (shortV (w.heap.size + 1) y q A c ps) from by
    have hb2 := hB.trans (h.mono hB.size)
    refine ⟨⟨?_, fun p hp => ?_⟩, (hp.below hb2).mono hb2.size, ⟨Row.empty _ _ _, fun _ h => absurd h (List.not_mem_nil)⟩, ⟨Row.empty _ _ _, fun _ h => absurd h (List.not_mem_nil)⟩⟩
    · show Row W' W'.heap.size (some ⟨w.heap.size + 1, 0, none⟩) ([(y, q)].flatMap cellsQ)
      rw [show ([(y, q)] : List (QV × Qt)).flatMap cellsQ = cellsQ (y, q) by simp]
      exact (hqr.below h).mono h.size
    · rw [List.mem_singleton.1 hp]
      exact Row.mono (Row.below hq hb2) hb2.size))
  have HLT := Lib.hid (fun (W' : World) (h : Below W.heap.size W W') => (show Calls Try.prog 11 #[.agg #[.int .i64 0, .bool true, .int .i64 0, .bool false, .bool false, .bool false, .bool false, .int .i64 0, .slice (some ⟨w.heap.size + 1, 0, none⟩) 1 1, .slice A ps.length c, .slice none 0 0, .slice none 0 0, .bool false, .int .i64 0]] W' (Gave W' (.bool (lightM (shortM q (recs ps))))) from
    light_any W' (shortV (w.heap.size + 1) y q A c ps) (HMA.out W' h) (by show (ps.length + 0 + 0) * 168 ≤ 140737488355328; omega) (by show 1 ≤ maxLen; unfold maxLen; omega) (fun p hp => by rw [List.mem_singleton.1 hp]; exact hqn.1) (fun r hr => hb r (by
      have h2 : r ∈ ((shortM q (recs ps))).all := hr
      rwa [short_all] at h2))))
  have HIN := Lib.hid (fun (hl : LightM (shortM q (recs ps))) => (shortV_in (b := w.heap.size + 1) (y := y) (A := A) (c := c) hqn hqk hqc hi hl))
  have HRM := Lib.hid (fun (W' : World) (h : Below W.heap.size W W') (hl : LightM (shortM q (recs ps))) => (show Calls Try.prog 16 #[.agg #[.int .i64 0, .bool true, .int .i64 0, .bool false, .bool false, .bool false, .bool false, .int .i64 0, .slice (some ⟨w.heap.size + 1, 0, none⟩) 1 1, .slice A ps.length c, .slice none 0 0, .slice none 0 0, .bool false, .int .i64 0]] W' (Gave W' (.bool (soundM (shortM q (recs ps))))) from refmsg_any W' (shortV (w.heap.size + 1) y q A c ps) (HMA.out W' h) (HIN.out hl).1))
  have HOM := Lib.hid (fun (W' : World) (h : Below W.heap.size W W') (hl : LightM (shortM q (recs ps))) => (show Calls Try.prog 13 #[.agg #[.int .i64 0, .bool true, .int .i64 0, .bool false, .bool false, .bool false, .bool false, .int .i64 0, .slice (some ⟨w.heap.size + 1, 0, none⟩) 1 1, .slice A ps.length c, .slice none 0 0, .slice none 0 0, .bool false, .int .i64 0]] W' (OwnMOut W' (shortM q (recs ps))) from ownMsg_any W' (shortV (w.heap.size + 1) y q A c ps) (HMA.out W' h) (HIN.out hl).1 (HIN.out hl).2))
  have HB := Lib.hid hB
  have HZW := Lib.hid hzW
  have HWM := Lib.hid hwm
  have HWQ := Lib.hid hwq
  have HP := Lib.hid (fun (W' : World) (h : Below w.heap.size w W') => hp.below h)
  have HQA := Lib.hid (fun (W' : World) (h : Below w.heap.size w W') => (show Row W' w.heap.size y.1 (q.name.map sv) from Row.below hq h))
  clear hB hzW hwm hwq hqr hq hp hi hqn hqk hqc hb
  subst hW
  go_enter Try.func6, Try.ntmps6
  go_wp2_with fail
  refine (HA.out _).mono ?_
  rintro e w1 ⟨rfl, hb1⟩
  have HB1 := Lib.hid hb1
  have hw1 := HWM.out.below hb1 HWM.out.lt
  have m0 : w1.cell? ⟨w.heap.size + 1 + 1, 0, none⟩ = some (.int .i64 0) := Whole.cell hw1 0
  have m1 : w1.cell? ⟨w.heap.size + 1 + 1, 1, none⟩ = some (.bool true) := Whole.cell hw1 1
  have m2 : w1.cell? ⟨w.heap.size + 1 + 1, 2, none⟩ = some (.int .i64 0) := Whole.cell hw1 2
  have m3 : w1.cell? ⟨w.heap.size + 1 + 1, 3, none⟩ = some (.bool false) := Whole.cell hw1 3
  have m4 : w1.cell? ⟨w.heap.size + 1 + 1, 4, none⟩ = some (.bool false) := Whole.cell hw1 4
  have m5 : w1.cell? ⟨w.heap.size + 1 + 1, 5, none⟩ = some (.bool false) := Whole.cell hw1 5
  have m6 : w1.cell? ⟨w.heap.size + 1 + 1, 6, none⟩ = some (.bool false) := Whole.cell hw1 6
  have m7 : w1.cell? ⟨w.heap.size + 1 + 1, 7, none⟩ = some (.int .i64 0) := Whole.cell hw1 7
  have m8 : w1.cell? ⟨w.heap.size + 1 + 1, 8, none⟩ = some (.slice (some ⟨w.heap.size + 1, 0, none⟩) 1 1) := Whole.cell hw1 8
  have m9 : w1.cell? ⟨w.heap.size + 1 + 1, 9, none⟩ = some (.slice A ps.length c) := Whole.cell hw1 9
  have m10 : w1.cell? ⟨w.heap.size + 1 + 1, 10, none⟩ = some (.slice none 0 0) := Whole.cell hw1 10
  have m11 : w1.cell? ⟨w.heap.size + 1 + 1, 11, none⟩ = some (.slice none 0 0) := Whole.cell hw1 11
  have m12 : w1.cell? ⟨w.heap.size + 1 + 1, 12, none⟩ = some (.bool false) := Whole.cell hw1 12
  have m13 : w1.cell? ⟨w.heap.size + 1 + 1, 13, none⟩ = some (.int .i64 0) := Whole.cell hw1 13
  have HW1 := Lib.hid hw1
  clear hb1 hw1
  go_wp2_with fail
  refine (HLT.out _ HB1.out).mono ?_
  rintro e w2 ⟨rfl, hb2⟩
  have HB2 := Lib.hid (HB1.out.trans (hb2.mono HB1.out.size))
  have hw2 := HW1.out.below hb2 HW1.out.lt
  have n0 : w2.cell? ⟨w.heap.size + 1 + 1, 0, none⟩ = some (.int .i64 0) := Whole.cell hw2 0
  have n1 : w2.cell? ⟨w.heap.size + 1 + 1, 1, none⟩ = some (.bool true) := Whole.cell hw2 1
  have n2 : w2.cell? ⟨w.heap.size + 1 + 1, 2, none⟩ = some (.int .i64 0) := Whole.cell hw2 2
  have n3 : w2.cell? ⟨w.heap.size + 1 + 1, 3, none⟩ = some (.bool false) := Whole.cell hw2 3
  have n4 : w2.cell? ⟨w.heap.size + 1 + 1, 4, none⟩ = some (.bool false) := Whole.cell hw2 4
  have n5 : w2.cell? ⟨w.heap.size + 1 + 1, 5, none⟩ = some (.bool false) := Whole.cell hw2 5
  have n6 : w2.cell? ⟨w.heap.size + 1 + 1, 6, none⟩ = some (.bool false) := Whole.cell hw2 6
  have n7 : w2.cell? ⟨w.heap.size + 1 + 1, 7, none⟩ = some (.int .i64 0) := Whole.cell hw2 7
  have n8 : w2.cell? ⟨w.heap.size + 1 + 1, 8, none⟩ = some (.slice (some ⟨w.heap.size + 1, 0, none⟩) 1 1) := Whole.cell hw2 8
  have n9 : w2.cell? ⟨w.heap.size + 1 + 1, 9, none⟩ = some (.slice A ps.length c) := Whole.cell hw2 9
  have n10 : w2.cell? ⟨w.heap.size + 1 + 1, 10, none⟩ = some (.slice none 0 0) := Whole.cell hw2 10
  have n11 : w2.cell? ⟨w.heap.size + 1 + 1, 11, none⟩ = some (.slice none 0 0) := Whole.cell hw2 11
  have n12 : w2.cell? ⟨w.heap.size + 1 + 1, 12, none⟩ = some (.bool false) := Whole.cell hw2 12
  have n13 : w2.cell? ⟨w.heap.size + 1 + 1, 13, none⟩ = some (.int .i64 0) := Whole.cell hw2 13
  have HW2 := Lib.hid hw2
  clear hb2 hw2 m0 m1 m2 m3 m4 m5 m6 m7 m8 m9 m10 m11 m12 m13
  cases hl : lightM (shortM q (recs ps)) with
  | false =>
    clear n0 n1 n2 n3 n4 n5 n6 n7 n8 n9 n10 n11 n12 n13
    go_wp2_with fail
    refine (HA.out _).mono ?_
    rintro e w3 ⟨rfl, hb3⟩
    have HB3 := Lib.hid (HB2.out.trans (hb3.mono HB2.out.size))
    clear hb3
    go_wp2
    go_ret
    exact ⟨rfl, HB.out.trans (HB3.out.mono HB.out.size)⟩
  | true =>
  have HLM := Lib.hid (lightM_iff hl)
  clear hl
  go_wp2_with fail
  refine (HRM.out _ HB2.out HLM.out).mono ?_
  rintro e w3 ⟨rfl, hb3⟩
  have HB3 := Lib.hid (HB2.out.trans (hb3.mono HB2.out.size))
  have hw3 := HW2.out.below hb3 HW2.out.lt
  have o0 : w3.cell? ⟨w.heap.size + 1 + 1, 0, none⟩ = some (.int .i64 0) := Whole.cell hw3 0
  have o1 : w3.cell? ⟨w.heap.size + 1 + 1, 1, none⟩ = some (.bool true) := Whole.cell hw3 1
  have o2 : w3.cell? ⟨w.heap.size + 1 + 1, 2, none⟩ = some (.int .i64 0) := Whole.cell hw3 2
  have o3 : w3.cell? ⟨w.heap.size + 1 + 1, 3, none⟩ = some (.bool false) := Whole.cell hw3 3
  have o4 : w3.cell? ⟨w.heap.size + 1 + 1, 4, none⟩ = some (.bool false) := Whole.cell hw3 4
  have o5 : w3.cell? ⟨w.heap.size + 1 + 1, 5, none⟩ = some (.bool false) := Whole.cell hw3 5
  have o6 : w3.cell? ⟨w.heap.size + 1 + 1, 6, none⟩ = some (.bool false) := Whole.cell hw3 6
  have o7 : w3.cell? ⟨w.heap.size + 1 + 1, 7, none⟩ = some (.int .i64 0) := Whole.cell hw3 7
  have o8 : w3.cell? ⟨w.heap.size + 1 + 1, 8, none⟩ = some (.slice (some ⟨w.heap.size + 1, 0, none⟩) 1 1) := Whole.cell hw3 8
  have o9 : w3.cell? ⟨w.heap.size + 1 + 1, 9, none⟩ = some (.slice A ps.length c) := Whole.cell hw3 9
  have o10 : w3.cell? ⟨w.heap.size + 1 + 1, 10, none⟩ = some (.slice none 0 0) := Whole.cell hw3 10
  have o11 : w3.cell? ⟨w.heap.size + 1 + 1, 11, none⟩ = some (.slice none 0 0) := Whole.cell hw3 11
  have o12 : w3.cell? ⟨w.heap.size + 1 + 1, 12, none⟩ = some (.bool false) := Whole.cell hw3 12
  have o13 : w3.cell? ⟨w.heap.size + 1 + 1, 13, none⟩ = some (.int .i64 0) := Whole.cell hw3 13
  have HW3 := Lib.hid hw3
  clear hb3 hw3 n0 n1 n2 n3 n4 n5 n6 n7 n8 n9 n10 n11 n12 n13
  cases hs : soundM (shortM q (recs ps)) with
  | false =>
    clear o0 o1 o2 o3 o4 o5 o6 o7 o8 o9 o10 o11 o12 o13
    go_wp2_with fail
    refine (HA.out _).mono ?_
    rintro e w4 ⟨rfl, hb4⟩
    have HB4 := Lib.hid (HB3.out.trans (hb4.mono HB3.out.size))
    clear hb4
    go_wp2
    go_ret
    exact ⟨rfl, HB.out.trans (HB4.out.mono HB.out.size)⟩
  | true =>
  have HSM := Lib.hid hs
  clear hs
  go_wp2_with fail
  refine (HOM.out _ HB3.out HLM.out).mono ?_
  rintro e w4 ⟨m', rfl, hmsg, hown, hb4⟩
  have HB4 := Lib.hid (HB3.out.trans (hb4.mono HB3.out.size))
  have HEC := Lib.hid (encode_any w4 m' hown.at_ (MIn.of_msg (m := (shortV (w.heap.size + 1) y q A c ps)) hmsg (HIN.out HLM.out).1) hown.owned ⟨own_cap hown.s2.row, own_capM hown.s2.row⟩)
  rw [hmsg] at HEC
  clear hb4 o0 o1 o2 o3 o4 o5 o6 o7 o8 o9 o10 o11 o12 o13 hmsg hown
  obtain ⟨h', qA', qc', qp', s0', s1', s2'⟩ := m'
  go_wp2_with fail
  refine HEC.out.mono ?_
  intro e w5 he5
  obtain ⟨hb5, A9, n9, c9, k9, rfl, hk9⟩ := he5.short HSM.out
  have HK9 := Lib.hid hk9
  have HB5 := Lib.hid (HB4.out.trans (hb5.mono HB4.out.size))
  clear he5 hb5 hk9 HEC
  have hwq5 := HWQ.out.below HB5.out HWQ.out.lt
  have z0 : w5.cell? ⟨w.heap.size, 0, none⟩ = some (.slice y.1 q.name.length y.2) := Whole.cell hwq5 0
  have HBW := Lib.hid (HB.out.trans (HB5.out.mono HB.out.size))
  have hss := soundM_iff.1 HSM.out
  have hq255 : szN q.name ≤ 255 := by
    have h1 : soundQ q = true := hss.q q (List.mem_singleton.2 rfl)
    unfold soundQ at h1
    simp only [Bool.and_eq_true] at h1
    exact (soundN_parts h1.1).2
  have HSR := Lib.hid (show ∀ r ∈ recs ps, SoundR r from fun r hr => (soundX_iff.1 (hss.r r (by rw [short_all]; exact hr))).2)
  have hps : ps.length ≤ 512 := by
    have h1 := hss.n
    simp only [shortM, List.length_cons, List.length_nil, length_recs] at h1
    omega
  have HSZ := Lib.hid (ref_size_any y.1 q.name.length y.2 w.heap.size q.name w5 rfl (HQA.out w5 HBW.out) (by unfold maxLen; omega))
  clear hwq5 hss HLT HIN HRM HOM HMA HB HZW HWM HWQ HB1 HB2 HB3 HB4 HB5 HW1 HW2 HW3 HLM HSM HQA
  go_wp2_with fail
  refine HSZ.out.mono ?_
  rintro e w6 ⟨rfl, rfl⟩
  clear HSZ z0
  revert hq255 HK9
  generalize szN q.name = zq
  intro HK9 hq255
  go_wp2
  go_loopw [8, 9] (ShortRel w (12 + zq + 4) ps) (fun _ i _ => ps.length - (intOf i).toNat)
  case atStart => exact ⟨0, Nat.zero_le _, rfl, by show Value.int .i64 _ = Value.int .i64 ((12 + zq + 4 + 0 : Nat) : Int); congr 1, HBW.out⟩
  case round =>
  obtain ⟨k, hk, rfl, rfl, hbr⟩ := hrel
  have HBR := Lib.hid hbr
  have hz := hbr.size
  have hsum : szRecs (recs (ps.take k)) ≤ 512 * 100000 := by
    have h1 := szRecs_le (rs := recs (ps.take k)) fun r hr => szRec_le (HSR.out r (by
      obtain ⟨p, hp, rfl⟩ := List.mem_map.1 hr
      exact List.mem_map.2 ⟨p, List.mem_of_mem_take hp, rfl⟩))
    have h2 : (recs (ps.take k)).length ≤ 512 := by rw [length_recs, List.length_take]; omega
    exact Nat.le_trans h1 (Nat.mul_le_mul_right _ h2)
  clear hbr
  by_cases hlt : k < ps.length
  · obtain ⟨b, off, rfl, hbH, hra, q0, q1, q2, q3, q4, q5, q6, q7, q8⟩ := (HP.out _ HBR.out).at_ hlt
    have hsr := HSR.out _ (List.mem_map.2 ⟨ps[k], List.getElem_mem hlt, rfl⟩)
    have HSU := Lib.hid (show szRecs (recs (ps.take (k + 1))) = szRecs (recs (ps.take k)) + szRec (ps[k]).2 by
      rw [recs_at hlt, szRecs_append]
      simp [szRecs])
    revert hra q0 q1 q2 q3 q4 q5 q6 q7 q8 hsr HSU
    generalize ps[k] = p
    obtain ⟨⟨xA, xc, ⟨Ab, Ah, Am, An, At, cb, ch, cm, cn, ct⟩⟩, r⟩ := p
    intro hra q0 q1 q2 q3 q4 q5 q6 q7 q8 hsr HSU
    dsimp only at *
    have hba : Below wr.heap.size wr (wr.alloc (.cells #[.slice Ab r.data.bytes.length cb, .slice Ah r.data.host.length ch, .slice Am r.data.mail.length cm, .slice An r.data.nums.length cn, .slice At r.data.texts.length ct] 46)) := (Below.refl _ _).alloc (Nat.le_refl _) _
    have r0 : (wr.alloc (.cells #[.slice Ab r.data.bytes.length cb, .slice Ah r.data.host.length ch, .slice Am r.data.mail.length cm, .slice An r.data.nums.length cn, .slice At r.data.texts.length ct] 46)).cell? ⟨b, off + k * 9, none⟩ = some (.slice xA r.name.length xc) := (World.cell?_alloc_lt wr _ ⟨b, off + k * 9, none⟩ (by dsimp only; omega)).trans q0
    have HB2 := Lib.hid (HBR.out.trans (hba.mono hz))
    have hra2 := hra.below (hba.mono hz)
    obtain ⟨hz1, hz2, hz3, hz4, hz5, hz6⟩ := szRec_parts hsr
    have HZ1 := Lib.hid (size_still (A := xA) (m := r.name.length) (c := xc) (n := r.name) (base := w.heap.size) rfl hra2.n (by unfold maxLen; omega))
    have HZ2 := Lib.hid (size_still (A := Ah) (m := r.data.host.length) (c := ch) (n := r.data.host) (base := w.heap.size) rfl hra2.d.h (by unfold maxLen; omega))
    have HZ3 := Lib.hid (size_still (A := Am) (m := r.data.mail.length) (c := cm) (n := r.data.mail) (base := w.heap.size) rfl hra2.d.m (by unfold maxLen; omega))
    have HTX := Lib.hid (fun W' (h : Below (wr.alloc (.cells #[.slice Ab r.data.bytes.length cb, .slice Ah r.data.host.length ch, .slice Am r.data.mail.length cm, .slice An r.data.nums.length cn, .slice At r.data.texts.length ct] 46)).heap.size (wr.alloc (.cells #[.slice Ab r.data.bytes.length cb, .slice Ah r.data.host.length ch, .slice Am r.data.mail.length cm, .slice An r.data.nums.length cn, .slice At r.data.texts.length ct] 46)) W') => (show Row W' w.heap.size At (r.data.texts.map sv) from Row.below hra2.d.t (h.mono HB2.out.size)))
    have HWD := Lib.hid (show Whole (wr.alloc (.cells #[.slice Ab r.data.bytes.length cb, .slice Ah r.data.host.length ch, .slice Am r.data.mail.length cm, .slice An r.data.nums.length cn, .slice At r.data.texts.length ct] 46)) wr.heap.size 46 [.slice Ab r.data.bytes.length cb, .slice Ah r.data.host.length ch, .slice Am r.data.mail.length cm, .slice An r.data.nums.length cn, .slice At r.data.texts.length ct] from Whole.made wr _ _)
    have HSE := Lib.hid (show szRec r = szN r.name + 10 + r.data.bytes.length + szN r.data.host + szN r.data.mail + 4 * r.data.nums.length + szT r.data.texts from rfl)
    have HTL := Lib.hid (soundP hsr.d).tl
    have htl := (soundP hsr.d).t
    clear hra hra2 hba hsr
    revert HZ1 HZ2 HZ3 HSE hz1 hz2 hz3
    generalize szN r.name = z1
    generalize szN r.data.host = z2
    generalize szN r.data.mail = z3
    intro hz1 hz2 hz3 HZ1 HZ2 HZ3 HSE
    obtain ⟨T, hT⟩ : ∃ T : Nat, T = 12 + zq + 4 + szRecs (recs (ps.take k)) := ⟨_, rfl⟩
    rw [← hT]
    have hTT : T ≤ 60000000 := by omega
    have HTD := Lib.hid hT
    clear hT hsum
    go_upto_region 10 with fail
    go_quiet ((go_at_call 20; first | with_reducible exact HZ1.out _ | with_reducible exact HZ2.out _ | with_reducible exact HZ3.out _))
    go_wp2
    obtain ⟨U, hU⟩ : ∃ U : Nat, U = T + z1 + 10 + r.data.bytes.length + z2 + z3 + 4 * r.data.nums.length := ⟨_, rfl⟩
    rw [show (T : Int) + (z1 : Int) + 10 + (r.data.bytes.length : Int) + (z2 : Int) + (z3 : Int) + 4 * (r.data.nums.length : Int) = (U : Int) by omega]
    have hUU : U ≤ 61000000 := by omega
    have HUD := Lib.hid hU
    obtain ⟨W2, hW2⟩ : ∃ W2, W2 = (wr.alloc (.cells #[.slice Ab r.data.bytes.length cb, .slice Ah r.data.host.length ch, .slice Am r.data.mail.length cm, .slice An r.data.nums.length cn, .slice At r.data.texts.length ct] 46)).drewN nq := ⟨_, rfl⟩
    have HTXX := Lib.hid (show Row W2 w.heap.size At (r.data.texts.map sv) from by rw [hW2]; exact (HTX.out _ (Below.refl _ _)).drewN nq)
    have hwd2 : Whole W2 wr.heap.size 46 [.slice Ab r.data.bytes.length cb, .slice Ah r.data.host.length ch, .slice Am r.data.mail.length cm, .slice An r.data.nums.length cn, .slice At r.data.texts.length ct] := by rw [hW2]; exact Whole.drewN HWD.out nq
    have HB3 := Lib.hid (show Below w.heap.size w W2 from by rw [hW2]; exact below_drewN' HB2.out nq)
    rw [← hW2]
    revert hwd2
    generalize wr.heap.size = gd
    intro hwd2
    have g4 : W2.cell? ⟨gd, 4, none⟩ = some (.slice At r.data.texts.length ct) := Whole.cell hwd2 4
    clear hU hW2 hwd2 HTX HWD HB2 HBR HZ1 HZ2 HZ3 q0 q1 q2 q3 q4 q5 q6 q7 q8 r0 hz hbH
    go_loopw [8, 11] (TextRelS W2 U r.data.texts) (fun _ i _ => r.data.texts.length - (intOf i).toNat)
    case atStart => exact ⟨0, Nat.zero_le _, rfl, by show Value.int .i64 _ = Value.int .i64 ((U + 0 : Nat) : Int); congr 1, rfl⟩
    case round =>
    obtain ⟨j, hj, rfl, rfl, rfl⟩ := hrel
    have hst : szT (r.data.texts.take j) ≤ 64 * 256 := by
      have h1 := szT_le (ts := r.data.texts.take j) fun t ht => HTL.out t (List.mem_of_mem_take ht)
      have h2 : (r.data.texts.take j).length ≤ 64 := by rw [List.length_take]; omega
      exact Nat.le_trans h1 (Nat.mul_le_mul_right _ h2)
    by_cases hlt : j < r.data.texts.length
    · obtain ⟨b2, o2, rfl, hb2, hcell⟩ := HTXX.out.some_ (by rw [List.length_map]; omega)
      have x0 := hcell j (sv (r.data.texts[j])) (by simp [hlt])
      have hl5 := HTL.out _ (List.getElem_mem hlt)
      have HSX := Lib.hid (show szT (r.data.texts.take (j + 1)) = szT (r.data.texts.take j) + (1 + (r.data.texts[j]).length) by
        rw [List.take_succ_eq_append_getElem hlt, szT_append]
        simp [szT])
      revert x0 hl5 HSX
      generalize r.data.texts[j] = tt
      intro x0 hl5 HSX
      unfold sv at x0
      clear hcell
      go_wp2
      refine ⟨⟨j + 1, by omega, by go_num, ?_, rfl⟩, by simp [intOf]; omega⟩
      rw [HSX.out]
      congr 1
      simp
      omega
    · obtain rfl : j = r.data.texts.length := by omega
      rw [List.take_length] at hst ⊢
      go_wp2
      refine ⟨⟨k + 1, by omega, by go_num, ?_, HB3.out⟩, by simp [intOf]; omega⟩
      congr 1
      have h1 := HSU.out
      have h2 := HSE.out
      have h3 := HTD.out
      have h4 := HUD.out
      omega
  · obtain rfl : k = ps.length := by omega
    rw [List.take_length] at hsum ⊢
    have hk9 := HK9.out
    rcases hk9 with rfl | ⟨rfl, h9⟩
    · go_wp2
      go_ret
      exact ⟨rfl, HBR.out⟩
    · have d9 : decide ((n9 : Int) ≤ 12 + (zq : Int) + 4 + (szRecs (recs ps) : Int)) = true := by rw [decide_eq_true_eq]; omega
      go_wp2
      go_ret
      exact ⟨rfl, HBR.out⟩

end Go.Proofs.Ytjkjhpaeckkpjaa

namespace Go.Proofs.Ytjkjhpaeckkpjaa
open Go.ChangeShapes Go.WideShapes Go.ChangeAt Go.RowKit

set_option maxRecDepth 100000 in
theorem mshort_lifted (os : Os) (started : os.Started) (H : Type) (enc : TypeId × Value → H) :
    ReturnsInHanded {} Try.checked os 6 .any (Rows.msgShortSpec.pre6 enc Try.prog Try.f6 Rows.msgShortRow.domain false) (Rows.msgShortSpec.post enc Try.prog Try.f6 false true false false) := by
  refine returnsInHanded_of_change_sized (C := Try.checked) Try.own started (by kernel_rfl) Try.func6
    (ChangeSpec.witness6 (enc := enc) (C := Try.checked) false ⟨#[], #[.agg #[.slice none 0 0, .int .i64 0, .int .i64 0], .slice none 0 0], []⟩ 8 (by kernel_rfl) (by kernel_rfl) (by kernel_rfl) (by kernel_rfl)) ?_
  intro W base args ds gs before hval0 hW _ hsz0 _
  have hsz : (DataW.weightsEach Try.prog (Try.f6.params.toList ++ Rows.msgShortSpec.plain.varTypes Try.prog) (ds ++ gs)).all (· ≤ reachBytes) = true := hsz0
  clear hsz0
  have hval : ∀ (j : Nat) t v, Try.f6.params[j]? = some t → args[j]? = some v → Value.okWide Try.prog W .any base t v := hval0
  have hW' := hW
  obtain ⟨p, q, hA0, hV, rfl, _, _⟩ := hW
  have hA : DataW.TrodAll enc Try.prog W 0 (fun _ => true) true Try.f6.params.toList args.toList ds p := hA0
  rw [Try.params6] at hA hval hsz
  obtain ⟨v0, v1, d0, d1, p0, p1, rfl, rfl, rfl, h0, h1⟩ := trodAll_two hA
  obtain ⟨rfl, rfl⟩ := trodVars_none hV
  obtain ⟨y0, q0, rfl, hq0, hn0, hk0, hc0⟩ := open_question (hval 0 _ v0 rfl rfl) h0 (fun x hx => hW'.lt x (by simp [hx]))
  obtain ⟨A1, c1, ps1, rfl, hp1, hr1, hc1, hm1, hn1, hb1⟩ := open_rrsW Try.underlying23 (hval 1 23 v1 rfl rfl) h1 (fun x hx => hW'.lt x (by simp [hx])) (weights_of hsz (j := 1) rfl rfl)
  have key : Calls Try.prog 6 #[.agg #[.slice y0.1 q0.name.length y0.2, .int .i64 q0.kind, .int .i64 q0.cls], .slice A1 ps1.length c1] W (TrueB W) := by
    exact mshort_any W y0 q0 A1 c1 ps1 hq0 hn0 hk0 hc0 hp1 hr1 hn1 (fun r hr => by obtain ⟨p, hp, rfl⟩ := List.mem_map.1 hr; exact hb1 p hp)
  refine key.mono fun e W' ⟨he, hb⟩ => ?_
  subst he
  exact ⟨_, rfl, law_post (P := Try.prog) (tb := 4) Try.laidOut (by kernel_rfl) (by kernel_rfl) (by kernel_rfl) Try.underlying4 rfl hW' rfl rfl rfl hb⟩

theorem mshort_holds : Rows.MsgShortSaid :=
  OpenClaim.holds_of_wide 6 Try.f6 rfl rfl rfl rfl rfl rfl rfl ⟨rfl, rfl, rfl, rfl, rfl⟩ rfl rfl rfl rfl rfl (by kernel_rfl) Try.func6 (by kernel_rfl)
    (of_decide_eq_true (by kernel_rfl)) (by unfold Func.isWrapper; first | (rw [if_pos (by decide +kernel)]; kernel_rfl) | (rw [if_neg (by decide +kernel)]; exact ⟨rfl, rfl⟩))
    (fun os started H enc _ => mshort_lifted os started H enc)

end Go.Proofs.Ytjkjhpaeckkpjaa
