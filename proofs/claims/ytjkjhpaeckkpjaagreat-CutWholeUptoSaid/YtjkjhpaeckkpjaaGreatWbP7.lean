/-
  The contract of a Writer's Set.
-/
import Derived.Test.YtjkjhpaeckkpjaaGreatWbP3
import Derived.Deep.RegionHeld3
import Derived.Deep.RegionLaw
import Derived.Test.YtjkjhpaeckkpjaaGreatWbP6
import Derived.Test.YtjkjhpaeckkpjaaGreatWbP2
import Derived.BigRegion
import Derived.Laws.BitsLemmas
namespace Go.Proofs.YtjkjhpaeckkpjaaGreat
open Go.RowKit

/-- copy into a row that is known whole, as one step of a region that draws: nothing but that row turns. -/
theorem step_copy_at {P : Program} {ops : Array Oper} {o : Oper} {a : Act} {w : World} {K : Act → World → Prop} {Q : Exit → Act → World → Prop} {E : Prop} (hgd : o.guard = none) (d s : Operand) (dT sT : TypeId)
    (ho : o.op = .call { callee := .builtin .copy, args := #[d, s], argTypes := #[dT, sT] }) (elem : TypeId) (hu : P.underlying dT = some (.slice elem)) (hsz : (P.info? elem).map (·.size) = some 1)
    (sp : Option Addr) (dLen dCap sLen sCap : Nat) (g off : Nat) (hd : a.eval d = .slice (some ⟨g, off, none⟩) dLen dCap) (hs : a.eval s = .slice sp sLen sCap)
    (cur : List Value) (t : TypeId) (hg : w.heap[g]? = some (.cells cur.toArray t (0, 0))) (H : Nat) (cs : List Value) (hn : cs.length = Nat.min sLen dLen) (hpos : 0 < cs.length) (hr : Row w H sp cs)
    (hfit : off + cs.length ≤ cur.length) (h1 : ∀ v ∈ cs, v.oneCell' = true)
    (h : ∀ w', Hid (w'.heap[g]? = some (.cells (splice cur off cs).toArray t (0, 0))) → Grew (· = g) w w' → K (a.put o.dst (goInt cs.length)) w') :
    if Region.wanted o (yielded ops a.tmps) = true then Oper.wp P o a w K Q else E := by
  have hw : Region.wanted o (yielded ops a.tmps) = true := by simp [Region.wanted, hgd]
  rw [if_pos hw]
  obtain ⟨ad, rfl, hsrc⟩ := hr.pos hpos
  have hrun := run_copy_row (P := P) w dT sT o.type elem g off dLen dCap ad sLen sCap cur.toArray t cs hu hsz hg hn hsrc (by simpa using hfit) h1
  unfold Oper.wp
  simp [execOp, ho, resolve, invoke, builtin, hd, hs, hrun, Result.andThen]
  refine h _ (show _ = _ by simpa [splice] using setRow_heap w g _ _ t _ hg) ⟨rfl, rfl, rfl, by simp, fun k _ hk => ?_⟩
  exact setRow_other w g k _ hk

/-- B with l in the place of the bytes from p on. -/
def setB (B : List UInt8) (p : Nat) (l : List UInt8) : List UInt8 := B.take p ++ (l ++ B.drop (p + l.length))
theorem length_setB {B : List UInt8} {p : Nat} {l : List UInt8} (h : p + l.length ≤ B.length) : (setB B p l).length = B.length := by
  simp [setB]; omega
theorem take_splice {α : Type} {L M : List α} {p m : Nat} {cs : List α} (hL : L.take m = M) (hm : M.length = m) (hp : p + cs.length ≤ m) : (splice L p cs).take m = M.take p ++ (cs ++ M.drop (p + cs.length)) := by
  have hml : m ≤ L.length := by rw [← hL, List.length_take] at hm; omega
  unfold splice
  rw [← hL, List.take_take, Nat.min_eq_left (by omega), List.take_append, List.take_append]
  simp only [List.length_take, List.drop_take]
  congr 1
  · rw [List.take_take]; congr 1; omega
  · congr 1
    · exact List.take_of_length_le (by omega)
    · congr 1; omega

set_option maxHeartbeats 400000 in
theorem set_misfit (p : Value) (q n s : Int) (w : World) (hf : fitB n s = false) :
    Calls Tryz.prog 75 #[p, .int .i64 q, .int .i64 n, .int .i64 s] w (Told w (.int .i64 1)) := by
  have HF := Lib.hid (fun W => fits_any n s W)
  rw [hf] at HF
  clear hf
  go_enter Tryz.func75, Tryz.ntmps75
  go_wp2_with fail
  refine (HF.out _).mono ?_
  rintro e w' ⟨rfl, rfl⟩
  go_wp2
  go_ret
  exact ⟨rfl, rfl⟩

set_option maxHeartbeats 400000 in
theorem set_neg (p : Value) (q n s : Int) (w : World) (hf : fitB n s = true) (hq : q < 0) :
    Calls Tryz.prog 75 #[p, .int .i64 q, .int .i64 n, .int .i64 s] w (Told w (.int .i64 1)) := by
  have HF := Lib.hid (fun W => fits_any n s W)
  rw [hf] at HF
  have d1 : decide (q < 0) = true := by simp; omega
  clear hf
  go_enter Tryz.func75, Tryz.ntmps75
  go_wp2_with fail
  refine (HF.out _).mono ?_
  rintro e w' ⟨rfl, rfl⟩
  go_wp2
  go_ret
  exact ⟨rfl, rfl⟩

theorem fitB_size {n s : Int} (hf : fitB n s = true) : 1 ≤ s ∧ s ≤ 7 ∧ 0 ≤ n := by
  simp only [fitB, decide_eq_true_eq] at hf
  exact ⟨hf.1, hf.2.1, hf.2.2.1⟩

set_option maxHeartbeats 400000 in
theorem set_far (base : Nat) (w : World) (g : Nat) (vB vM : Value) (B : List UInt8) (R : Rs) (q n s : Int) (h : Wr w base g vB vM B R) (hB : B.length ≤ 1000000000) (hf : fitB n s = true) (hq : 0 ≤ q) (hq2 : (B.length : Int) - s < q) :
    Calls Tryz.prog 75 #[.pointer (some ⟨g, 0, none⟩), .int .i64 q, .int .i64 n, .int .i64 s] w (Told w (.int .i64 1)) := by
  have HF := Lib.hid (fun W => fits_any n s W)
  rw [hf] at HF
  obtain ⟨hs1, hs2, _⟩ := fitB_size hf
  have HL := Lib.hid (len_any base w g vB vM B R h)
  have d1 : decide (q < 0) = false := by simp; omega
  have d2 : decide ((B.length : Int) - s < q) = true := by simp; omega
  clear hf h
  go_enter Tryz.func75, Tryz.ntmps75
  go_wp2_with fail
  refine (HF.out _).mono ?_
  rintro e w' ⟨rfl, rfl⟩
  go_wp2_with fail
  refine HL.out.mono ?_
  rintro e w' ⟨rfl, rfl⟩
  go_wp2
  go_ret
  exact ⟨rfl, rfl⟩

set_option maxHeartbeats 400000 in
theorem set_nil (w : World) : Calls Tryz.prog 75 #[.pointer none, .int .i64 0, .int .i64 0, .int .i64 1] w (Told w (.int .i64 1)) := by
  have HF := Lib.hid (fun W => fits_any 0 1 W)
  rw [show fitB 0 1 = true by decide +kernel] at HF
  go_enter Tryz.func75, Tryz.ntmps75
  go_wp2_with fail
  refine (HF.out _).mono ?_
  rintro e w' ⟨rfl, rfl⟩
  go_wp2_with fail
  refine (len_nil _).mono ?_
  rintro e w' ⟨rfl, rfl⟩
  go_wp2
  go_ret
  exact ⟨rfl, rfl⟩

set_option maxRecDepth 20000 in
set_option maxHeartbeats 2000000 in
theorem set_ok (base : Nat) (w : World) (g : Nat) (vB vM : Value) (B : List UInt8) (R : Rs) (q n s : Nat) (h : Wr w base g vB vM B R) (hB : B.length ≤ 1000000000) (hf : fitB n s = true) (hq : q + s ≤ B.length) :
    Calls Tryz.prog 75 #[.pointer (some ⟨g, 0, none⟩), .int .i64 q, .int .i64 n, .int .i64 s] w (fun e w' => e = .returned (.int .i64 0) ∧ Penned base w g vB vM (setB B q (digs n s)) R w') := by
  have HF := Lib.hid (fun W => fits_any n s W)
  rw [hf] at HF
  obtain ⟨hs1, hs2, _⟩ := fitB_size hf
  have HL := Lib.hid (len_any base w g vB vM B R h)
  have HP := Lib.hid (fun W => put_any none 0 0 0 [] (n : Int) (s : Int) W rfl (Row.empty _ _ _) (by omega) (by omega))
  rw [putL_yes hf, List.nil_append] at HP
  have hdl := length_digs n s
  have hbs := h.size
  have hgl := h.blk.lt
  have hap := h.apart
  rcases h.row.2 with ⟨_, h0⟩ | ⟨gB, cap, cur, rfl, hgB, hcur, hcap, hcm, hcs, htk⟩
  · omega
  have hBl := (h.row.lt gB rfl).2
  have h0 := h.c0
  have hgne : gB ≠ g := fun e => hap.1 (by rw [← e]; rfl)
  have d1 : decide ((q : Int) < 0) = false := by simp
  have d2 : decide ((B.length : Int) - (s : Int) < (q : Int)) = false := by simp; omega
  have e0 : (0 : Int) ≤ q := by omega
  have e1 : (q : Int) ≤ (B.length : Int) := by omega
  have hcf : (cap = q) = False := by simp; omega
  have hw1 : w.heap.size = w.drew.heap.size := rfl
  have HW := Lib.hid h
  have HCUR := Lib.hid hcur
  have HCS := Lib.hid hcs
  have HTK := Lib.hid htk
  have HD := Lib.hid hdl
  have HAP := Lib.hid hap
  clear h hf hcur hcs htk hdl hw1 hap
  go_enter Tryz.func75, Tryz.ntmps75
  go_wp2_with fail
  refine (HF.out _).mono ?_
  rintro e w' ⟨rfl, rfl⟩
  go_wp2_with fail
  refine HL.out.mono ?_
  rintro e w' ⟨rfl, rfl⟩
  go_wp2
  go_region_held3 (fun w' => w'.cell? ⟨g, 0, none⟩ = some (.slice (some ⟨gB, 0, none⟩) B.length cap))
    (first | go_keep)
    ((first
      | (go_at_call 85
         refine (HP.out _).mono ?_
         rintro e w1 ⟨A1, c1, rfl, ho1, hb1⟩
         have c0' : w1.cell? ⟨g, 0, none⟩ = some (.slice (some ⟨gB, 0, none⟩) B.length cap) := (hb1.cell (p := ⟨g, 0, none⟩) hgl).trans h0
         have HR1 := Lib.hid (Row.of_own ho1)
         have HB1 := Lib.hid (show Below w.heap.size w w1 from ⟨hb1.os, hb1.tape, hb1.output, hb1.size, hb1.block⟩)
         clear ho1 hb1)
      | (refine step_copy_at rfl (.tmp 30) (.tmp 33) _ _ rfl 5 Tryz.underlying29 u8_size A1 (B.length - q) (cap - q) (digs n s).length c1 gB q rfl rfl cur.toList 5 ((HB1.out.block gB hBl).trans HCUR.out) w1.heap.size ((digs n s).map bc) (by rw [List.length_map, HD.out]; exact (Nat.min_eq_left (by omega)).symm) (by rw [List.length_map, HD.out]; omega) HR1.out (by rw [List.length_map, HD.out, Array.length_toList, HCS.out]; omega) (bc_one _) ?_
         intro w2 hg2 hgr2
         have c0' : w2.cell? ⟨g, 0, none⟩ = some (.slice (some ⟨gB, 0, none⟩) B.length cap) := (World.cell?_of_block (a := ⟨g, 0, none⟩) (hgr2.block g (Nat.lt_of_lt_of_le hgl HB1.out.size) (Ne.symm hgne))).trans c0'
         have HG2 := Lib.hid hgr2
         clear hgr2)))
  go_wp2
  go_ret
  have hdl := HD.out
  have hBl2 : gB < w1.heap.size := Nat.lt_of_lt_of_le hBl HB1.out.size
  have hset := length_setB (B := B) (p := q) (l := digs n s) (by rw [hdl]; exact hq)
  have hk : ∀ j, j < w.heap.size → j ≠ gB → w2.heap[j]? = w.heap[j]? := fun j hj hne => (HG2.out.block j (Nat.lt_of_lt_of_le hj HB1.out.size) hne).trans (HB1.out.block j hj)
  refine ⟨rfl, .slice (some ⟨gB, 0, none⟩) B.length cap, vM, ⟨HW.out.blk.keep (hk g hgl (Ne.symm hgne)), HW.out.low, ?_, HW.out.map.keep fun j hj => hk j (HW.out.map.lt hj).2 (fun e => HAP.out.2.2 gB rfl (by rw [hj, e]))⟩, ?_, fun j hj => .inl hj⟩
  · rw [hset]
    refine ⟨by simp [hset], .inr ⟨gB, cap, _, rfl, hgB, hg2.out, hcap, hcm, ?_, ?_⟩⟩
    · rw [List.size_toArray, length_splice _ _ _ (by rw [List.length_map, hdl, Array.length_toList, HCS.out]; omega), Array.length_toList, HCS.out]
    · have htk := HTK.out
      rw [Nat.mul_one] at htk ⊢
      rw [List.toList_toArray, take_splice htk (by rw [List.length_map]) (by rw [List.length_map, hdl]; exact hq)]
      simp [setB, hdl]
  · exact (Grew.all HB1.out).trans HG2.out fun j hj => .inl (.inr (.inl (by rw [hj]; rfl)))

end Go.Proofs.YtjkjhpaeckkpjaaGreat

namespace Go.Proofs.YtjkjhpaeckkpjaaGreat
open Go.RowKit

/-- May a record be? -/
def soundR (r : Rt) : Bool := soundN r.name && (soundD r.kind r.data && (fitB r.cls 2 && (decide (0 ≤ r.ttl) && decide (r.ttl ≤ 2147483647))))
structure SoundR (r : Rt) : Prop where
  n : soundN r.name = true
  d : soundD r.kind r.data = true
  c : fitB r.cls 2 = true
  t0 : 0 ≤ r.ttl
  t1 : r.ttl ≤ 2147483647
theorem soundR_iff {r : Rt} : soundR r = true ↔ SoundR r := by
  unfold soundR
  simp only [Bool.and_eq_true, decide_eq_true_eq]
  exact ⟨fun ⟨a, b, c, d, e⟩ => ⟨a, b, c, d, e⟩, fun ⟨a, b, c, d, e⟩ => ⟨a, b, c, d, e⟩⟩

/-- A record's name, and what stands ahead of the number that tells its data's length. -/
def putH8 (r : Rt) (B : List UInt8) (R : Rs) : List UInt8 := (((nameW true r.name B R).1 ++ putL [] r.kind 2) ++ putL [] r.cls 2) ++ putL [] r.ttl 4
/-- Its data, behind a length that is still 0. -/
def putD0 (r : Rt) (B : List UInt8) (R : Rs) : List UInt8 × Rs := putD (shN r.kind) r.data (putH8 r B R ++ putL [] 0 2) (nameW true r.name B R).2
/-- A record, behind B with the rests R. -/
def putRR (r : Rt) (B : List UInt8) (R : Rs) : List UInt8 × Rs :=
  (setB (putD0 r B R).1 (putH8 r B R).length (digs ((putD0 r B R).1.length - ((putH8 r B R).length + 2)) 2), (putD0 r B R).2)

theorem putD_room {k : Int} {d : Dt} (hs : soundD k d = true) (B : List UInt8) (R : Rs) : (putD (shN k) d B R).1.length ≤ B.length + 65535 := by
  have sp := soundP hs
  have n1 := length_numsW 2 (d.nums.take (shN k).ahead)
  have n2 := length_numsW 4 (d.nums.drop (shN k).ahead)
  rw [List.length_take] at n1
  rw [List.length_drop] at n2
  have n3 := sp.n
  have n4 := length_textsW 255 d.texts sp.tl
  have n5 : (255 + 7) * d.texts.length ≤ (255 + 7) * 64 := Nat.mul_le_mul_left _ sp.t
  have n6 := sp.b
  have hH : (putH (shN k) d B R).1.length ≤ B.length + (numsW 2 (d.nums.take (shN k).ahead)).length + (if (shN k).host = true then 255 else 0) := by
    unfold putH
    cases hh : (shN k).host
    · simp only [Bool.false_eq_true, if_false, List.length_append]
      omega
    · have hs := soundN_parts (sp.h hh)
      simp only [if_true]
      have := length_nameW_le (shN k).short d.host (B ++ numsW 2 (d.nums.take (shN k).ahead)) R hs.1
      rw [List.length_append] at this
      omega
  have hM : (putM (shN k) d (putH (shN k) d B R)).1.length ≤ B.length + (numsW 2 (d.nums.take (shN k).ahead)).length + (if (shN k).host = true then 255 else 0) + (if (shN k).mail = true then 255 else 0) := by
    unfold putM
    cases hh : (shN k).mail
    · simp only [Bool.false_eq_true, if_false]
      omega
    · have hs := soundN_parts (sp.m hh)
      simp only [if_true]
      have := length_nameW_le (shN k).short d.mail (putH (shN k) d B R).1 (putH (shN k) d B R).2 hs.1
      omega
  have hlen : (putD (shN k) d B R).1.length = (putM (shN k) d (putH (shN k) d B R)).1.length + (numsW 4 (d.nums.drop (shN k).ahead)).length + (textsW d.texts).length + d.bytes.length := by
    unfold putD
    simp only [List.length_append]
  have h10 := shN_small k
  rcases shN_cases k with hk | hk | hk | hk | hk | hk | hk | hk | hk | hk
  case inr.inr.inr.inr.inr.inr.inr.inr.inr =>
    rw [shN_other hk] at *
    have t0 := sp.t0 rfl
    rw [t0] at hlen
    simp only [textsW, List.length_nil, Bool.false_eq_true, if_false] at *
    omega
  all_goals
    have hm : (shN k).most ≤ 16 := by rw [hk]; decide
    have i1 : (if (shN k).host = true then 255 else 0) ≤ 255 := by split <;> omega
    have i2 : (if (shN k).mail = true then 255 else 0) ≤ 255 := by split <;> omega
    omega

theorem length_putD_rests {k : Int} {d : Dt} (hs : soundD k d = true) (B : List UInt8) (R : Rs) : (putD (shN k) d B R).2.length ≤ R.length + 600 := by
  have sp := soundP hs
  have hH : (putH (shN k) d B R).2.length ≤ R.length + 255 := by
    unfold putH
    cases hh : (shN k).host
    · simp only [Bool.false_eq_true, if_false]
      omega
    · have hs := soundN_parts (sp.h hh)
      simp only [if_true]
      have h1 := length_nameW_rests (shN k).short d.host (B ++ numsW 2 (d.nums.take (shN k).ahead)) R
      have h2 := length_lt_szN d.host
      omega
  unfold putD
  dsimp only
  unfold putM
  cases hh : (shN k).mail
  · simp only [Bool.false_eq_true, if_false]
    omega
  · have hs := soundN_parts (sp.m hh)
    simp only [if_true]
    have h1 := length_nameW_rests (shN k).short d.mail (putH (shN k) d B R).1 (putH (shN k) d B R).2
    have h2 := length_lt_szN d.mail
    omega

theorem numAt_digs {P Q : List UInt8} {m s : Nat} (hm : m < 2 ^ (8 * s)) : numAt ((P ++ digs m s) ++ Q) P.length s = m := by
  unfold numAt cutL
  rw [List.append_assoc, List.drop_left, List.take_append_of_le_length (by rw [length_digs]; exact Nat.le_refl _), List.take_of_length_le (by rw [length_digs]; exact Nat.le_refl _), numN_digs hm]

theorem setB_mid (P l W : List UInt8) (m : List UInt8) (h : l.length = m.length) : setB ((P ++ l) ++ W) P.length m = (P ++ m) ++ W := by
  unfold setB
  rw [List.append_assoc, List.take_left, ← h, List.drop_append, List.drop_of_length_le (by omega)]
  simp

/-- What Put writes is what is written of the data behind its length. -/
theorem putRR_eq {r : Rt} {B : List UInt8} {R : Rs} (hs : SoundR r) : ∃ W : List UInt8, W.length ≤ 65535 ∧
    putRR r B R = putD (shN r.kind) r.data (putH8 r B R ++ digs W.length 2) (nameW true r.name B R).2 ∧ (putRR r B R).1 = (putH8 r B R ++ digs W.length 2) ++ W ∧ (putD0 r B R).1 = (putH8 r B R ++ putL [] 0 2) ++ W := by
  have h0 : putL [] 0 2 = digs 0 2 := by decide +kernel
  obtain ⟨W, R', h1, _⟩ := putD_shift (shN r.kind) r.data (putH8 r B R ++ putL [] 0 2) (putH8 r B R ++ putL [] 0 2) (nameW true r.name B R).2 rfl
  obtain ⟨W2, R2, h3, h4⟩ := putD_shift (shN r.kind) r.data (putH8 r B R ++ putL [] 0 2) (putH8 r B R ++ digs W.length 2) (nameW true r.name B R).2 (by rw [h0]; simp [length_digs])
  rw [h1] at h3
  injection h3 with h5 h6
  have hW := List.append_cancel_left h5
  subst hW; subst h6
  have hd : putD0 r B R = ((putH8 r B R ++ putL [] 0 2) ++ W, R') := h1
  have hlen : (putD0 r B R).1.length - ((putH8 r B R).length + 2) = W.length := by rw [hd, h0]; simp [length_digs]; omega
  have hroom := putD_room hs.d (putH8 r B R ++ putL [] 0 2) (nameW true r.name B R).2
  rw [h1] at hroom
  simp only [List.length_append] at hroom
  have he : putRR r B R = ((putH8 r B R ++ digs W.length 2) ++ W, R') := by
    unfold putRR
    rw [hlen, hd]
    dsimp only
    rw [setB_mid _ _ _ _ (by rw [h0]; simp [length_digs])]
  exact ⟨W, by omega, by rw [he, h4], by rw [he], by rw [hd]⟩

/-- A record that was put is read as it is, whatever stands behind it. -/
theorem putRR_back {r : Rt} {B : List UInt8} {R : Rs} (hs : SoundR r) (G : GoodR B R) :
    (∃ S, (putRR r B R).1 = B ++ S) ∧ GoodR (putRR r B R).1 (putRR r B R).2 ∧ (putRR r B R).1.length ≤ B.length + 70000 ∧ (putRR r B R).2.length ≤ R.length + 900 ∧ ∀ Y, getRR ((putRR r B R).1 ++ Y) B.length = (r, (putRR r B R).1.length, 0) := by
  have hp := soundN_parts hs.n
  obtain ⟨⟨S0, hS0⟩, hat, hg⟩ := nameW_good (short := true) hp.1 G
  have hlx := length_nameW_le true r.name B R hp.1
  obtain ⟨W, hW, h1, h2, _⟩ := putRR_eq (B := B) (R := R) hs
  have hkd : kindB r.kind = true := by have h := hs.d; unfold soundD at h; simp only [Bool.and_eq_true] at h; exact h.1
  simp only [kindB, decide_eq_true_eq] at hkd
  obtain ⟨k, hk⟩ : ∃ k : Nat, r.kind = k := ⟨r.kind.toNat, by omega⟩
  obtain ⟨c, s2, hc, hs2, _, hclt, _⟩ := putL_fit hs.c
  obtain rfl : s2 = 2 := by omega
  obtain ⟨t, ht⟩ : ∃ t : Nat, r.ttl = t := ⟨r.ttl.toNat, by have := hs.t0; omega⟩
  have htb := hs.t1
  have hk16 : k < 2 ^ (8 * 2) := by simp; omega
  have ht32 : t < 2 ^ (8 * 4) := by simp; omega
  have fk : putL [] r.kind 2 = digs k 2 := by
    have h := putL_yes (l := []) (n := k) (s := 2) (fitB_true (by omega) (by omega) (by omega) (by simp; omega))
    rw [List.nil_append] at h
    rw [hk]; exact h
  have fc : putL [] r.cls 2 = digs c 2 := by
    have hcf := hs.c
    rw [hc] at hcf
    have h := putL_yes (l := []) (n := c) (s := 2) hcf
    rw [List.nil_append] at h
    rw [hc]; exact h
  have ft : putL [] r.ttl 4 = digs t 4 := by
    have h := putL_yes (l := []) (n := t) (s := 4) (fitB_true (by omega) (by omega) (by omega) (by simp; omega))
    rw [List.nil_append] at h
    rw [ht]; exact h
  obtain ⟨P, hP⟩ : ∃ P, P = (nameW true r.name B R).1 := ⟨_, rfl⟩
  have h8 : putH8 r B R = ((P ++ digs k 2) ++ digs c 2) ++ digs t 4 := by unfold putH8; rw [fk, fc, ft, hP]
  obtain ⟨X, hX⟩ : ∃ X, X = putH8 r B R ++ digs W.length 2 := ⟨_, rfl⟩
  have hXl : X.length = P.length + 10 := by rw [hX, h8]; simp [length_digs]
  have GX : GoodR X (nameW true r.name B R).2 := by
    rw [hX, h8, hP]
    exact (((hg.more _).more _).more _).more _
  rw [← hX] at h1 h2
  obtain ⟨_, ⟨S1, hS1⟩, hG2, _⟩ := getR_data (Y := []) GX hs.d
  have hlen : (putRR r B R).1.length = X.length + W.length := by rw [h2, List.length_append]
  have hrest : (putRR r B R).2.length ≤ R.length + 900 := by
    rw [h1]
    have a1 := length_nameW_rests true r.name B R
    have a2 := length_lt_szN r.name
    have a3 := length_putD_rests hs.d X (nameW true r.name B R).2
    omega
  refine ⟨?_, by rw [h1]; exact hG2, ?_, hrest, fun Y => ?_⟩
  · rw [h2, hX, h8, hP, hS0]
    exact ⟨_, by simp only [List.append_assoc]; rfl⟩
  · rw [hlen, hXl, hP]
    omega
  · have hgd := (getR_data (Y := Y) GX hs.d).2.2.2
    rw [← h1, h2] at hgd
    have e1 : (X ++ W).length - X.length = W.length := by rw [List.length_append]; omega
    rw [e1] at hgd
    have hB : (putRR r B R).1 ++ Y = P ++ ((digs k 2 ++ (digs c 2 ++ (digs t 4 ++ digs W.length 2))) ++ (W ++ Y)) := by
      rw [h2, hX, h8]
      simp only [List.append_assoc]
    have hw : getW ((putRR r B R).1 ++ Y) B.length = (r.name, P.length, 0) := by
      rw [getW_at, hB]
      have := (nameR_back (en := 0) (hat.more ((digs k 2 ++ (digs c 2 ++ (digs t 4 ++ digs W.length 2))) ++ (W ++ Y))) (by have := hat.pos; omega) hp.2).1
      rw [← hP] at this
      exact this
    have n0 : numAt ((putRR r B R).1 ++ Y) P.length 2 = k := by
      rw [hB]
      have := numAt_digs (P := P) (Q := (digs c 2 ++ (digs t 4 ++ digs W.length 2)) ++ (W ++ Y)) hk16
      simpa only [List.append_assoc] using this
    have n1 : numAt ((putRR r B R).1 ++ Y) (P.length + 2) 2 = c := by
      rw [hB]
      have := numAt_digs (P := P ++ digs k 2) (Q := (digs t 4 ++ digs W.length 2) ++ (W ++ Y)) hclt
      rw [List.length_append, length_digs] at this
      simpa only [List.append_assoc] using this
    have n2 : numAt ((putRR r B R).1 ++ Y) (P.length + 4) 4 = t := by
      rw [hB]
      have := numAt_digs (P := (P ++ digs k 2) ++ digs c 2) (Q := digs W.length 2 ++ (W ++ Y)) ht32
      rw [List.length_append, List.length_append, length_digs, length_digs] at this
      simpa only [List.append_assoc, Nat.add_assoc] using this
    have n3 : numAt ((putRR r B R).1 ++ Y) (P.length + 8) 2 = W.length := by
      rw [hB]
      have := numAt_digs (P := ((P ++ digs k 2) ++ digs c 2) ++ digs t 4) (Q := W ++ Y) (m := W.length) (s := 2) (by simp; omega)
      simp only [List.length_append, length_digs] at this
      simpa only [List.append_assoc, Nat.add_assoc] using this
    have hgd2 : getD ((putRR r B R).1 ++ Y) ((P.length : Int) + 10) W.length k = (r.data, 0) := by
      rw [h2, ← hk]
      have e2 : ((X.length : Nat) : Int) = (P.length : Int) + 10 := by omega
      rw [← e2]
      exact hgd
    unfold getRR
    rw [hw]
    dsimp only
    rw [if_neg (by simp), if_neg (by rw [List.length_append, hlen, hXl]; omega), n0, n3, if_neg (by omega), hgd2]
    dsimp only
    rw [if_neg (by simp), n1]
    have ht2 : ttlAt ((putRR r B R).1 ++ Y) (P.length + 4) = t := by
      unfold ttlAt
      rw [n2, if_neg (by omega)]
    rw [ht2, hlen, hXl, ← hk, ← hc, ← ht]

end Go.Proofs.YtjkjhpaeckkpjaaGreat

namespace Go.Proofs.YtjkjhpaeckkpjaaGreat
open Go.RowKit

/-- What a message says ahead of its questions and records. -/
structure Hd where
  id : Int
  resp : Bool
  op : Int
  aa : Bool
  tc : Bool
  rd : Bool
  ra : Bool
  rc : Int
  edns : Bool
  size : Int
/-- A message. -/
structure Mt where
  h : Hd
  qs : List Qt
  an : List Rt
  au : List Rt
  ex : List Rt
def codeB (n : Int) : Bool := decide (0 ≤ n) && decide (n ≤ 15)
def soundH (h : Hd) : Bool := fitB h.id 2 && (codeB h.op && (codeB h.rc && (fitB h.size 2 && (h.edns || decide (h.size = 0)))))
def soundQ (q : Qt) : Bool := soundN q.name && (decide (q.kind ≠ 0) && (fitB q.kind 2 && fitB q.cls 2))
/-- May a record be in a message? -/
def soundX (r : Rt) : Bool := decide (r.kind ≠ 41) && soundR r
def Mt.all (m : Mt) : List Rt := m.an ++ (m.au ++ m.ex)
def soundM (m : Mt) : Bool := soundH m.h && (decide (m.qs.length + m.an.length + m.au.length + m.ex.length ≤ 512) && (m.qs.all soundQ && m.all.all soundX))
structure SoundM (m : Mt) : Prop where
  h : soundH m.h = true
  n : m.qs.length + m.an.length + m.au.length + m.ex.length ≤ 512
  q : ∀ q ∈ m.qs, soundQ q = true
  r : ∀ r ∈ m.all, soundX r = true
theorem soundM_iff {m : Mt} : soundM m = true ↔ SoundM m := by
  unfold soundM
  simp only [Bool.and_eq_true, decide_eq_true_eq, List.all_eq_true]
  exact ⟨fun ⟨a, b, c, d⟩ => ⟨a, b, c, d⟩, fun ⟨a, b, c, d⟩ => ⟨a, b, c, d⟩⟩
theorem soundX_iff {r : Rt} : soundX r = true ↔ r.kind ≠ 41 ∧ SoundR r := by
  unfold soundX
  rw [Bool.and_eq_true, decide_eq_true_eq, soundR_iff]

def bit (b : Bool) (n : Nat) : Nat := if b = true then n else 0
/-- The flags as a number. -/
def bitsH (h : Hd) : Nat := bit h.resp 32768 + h.op.toNat * 2048 + bit h.aa 1024 + bit h.tc 512 + bit h.rd 256 + bit h.ra 128 + h.rc.toNat
/-- What the flags say. -/
def hdOf (i f : Nat) (edns : Bool) (size : Int) : Hd :=
  ⟨i, decide (f / 32768 % 2 = 1), (f / 2048 % 16 : Nat), decide (f / 1024 % 2 = 1), decide (f / 512 % 2 = 1), decide (f / 256 % 2 = 1), decide (f / 128 % 2 = 1), (f % 16 : Nat), edns, size⟩
theorem bitsH_lt {h : Hd} (ho : codeB h.op = true) (hr : codeB h.rc = true) : bitsH h < 65536 := by
  unfold codeB at ho hr
  simp only [Bool.and_eq_true, decide_eq_true_eq] at ho hr
  have : ∀ b n, bit b n ≤ n := fun b n => by unfold bit; split <;> omega
  have h1 := this h.resp 32768
  have h2 := this h.aa 1024
  have h3 := this h.tc 512
  have h4 := this h.rd 256
  have h5 := this h.ra 128
  unfold bitsH
  omega
theorem hdOf_bits {h : Hd} (hs : soundH h = true) : hdOf h.id.toNat (bitsH h) h.edns h.size = h := by
  unfold soundH at hs
  simp only [Bool.and_eq_true] at hs
  obtain ⟨hi, ho, hr, _, _⟩ := hs
  have hid : 0 ≤ h.id := by unfold fitB at hi; simp only [decide_eq_true_eq] at hi; omega
  unfold codeB at ho hr
  simp only [Bool.and_eq_true, decide_eq_true_eq] at ho hr
  obtain ⟨o, eo⟩ : ∃ o : Nat, h.op = o := ⟨h.op.toNat, by omega⟩
  obtain ⟨c, ec⟩ : ∃ c : Nat, h.rc = c := ⟨h.rc.toNat, by omega⟩
  obtain ⟨id, resp, op, aa, tc, rd, ra, rc, edns, size⟩ := h
  dsimp only at *
  subst eo; subst ec
  have e1 : ((id.toNat : Nat) : Int) = id := by omega
  unfold hdOf bitsH
  dsimp only
  simp only [Int.toNat_natCast, Hd.mk.injEq]
  have ho2 : o ≤ 15 := by omega
  have hc2 : c ≤ 15 := by omega
  refine ⟨e1, ?_, ?_, ?_, ?_, ?_, ?_, ?_, trivial, trivial⟩
  all_goals
    cases resp <;> cases aa <;> cases tc <;> cases rd <;> cases ra <;> simp only [bit, if_true, if_false, Bool.false_eq_true, decide_eq_true_eq, decide_eq_false_iff_not] <;> omega

/-- A question, behind B with the rests R. -/
def putQ (q : Qt) (B : List UInt8) (R : Rs) : List UInt8 × Rs := (((nameW true q.name B R).1 ++ putL [] q.kind 2) ++ putL [] q.cls 2, (nameW true q.name B R).2)
def putQs (qs : List Qt) (s : List UInt8 × Rs) : List UInt8 × Rs := qs.foldl (fun s q => putQ q s.1 s.2) s
def putRs (rs : List Rt) (s : List UInt8 × Rs) : List UInt8 × Rs := rs.foldl (fun s r => putRR r s.1 s.2) s
theorem putQs_snoc (qs : List Qt) (q : Qt) (s : List UInt8 × Rs) : putQs (qs ++ [q]) s = putQ q (putQs qs s).1 (putQs qs s).2 := by simp [putQs]
theorem putRs_snoc (rs : List Rt) (r : Rt) (s : List UInt8 × Rs) : putRs (rs ++ [r]) s = putRR r (putRs rs s).1 (putRs rs s).2 := by simp [putRs]
theorem putRs_append (rs ss : List Rt) (s : List UInt8 × Rs) : putRs (rs ++ ss) s = putRs ss (putRs rs s) := by simp [putRs]
/-- The record that Edns and Size are. -/
def optR (size : Int) : Rt := ⟨[], 41, size, 0, ⟨[], [], [], [], []⟩⟩
/-- Extra, as it is written. -/
def Mt.exX (m : Mt) : List Rt := m.ex ++ (if m.h.edns = true then [optR m.h.size] else [])
def headM (h : Hd) (a b c d : Int) : List UInt8 := ((((putL [] h.id 2 ++ putL [] (bitsH h) 2) ++ putL [] a 2) ++ putL [] b 2) ++ putL [] c 2) ++ putL [] d 2
def Mt.head (m : Mt) : List UInt8 := headM m.h m.qs.length m.an.length m.au.length m.exX.length
/-- A message's bytes. -/
def encM (m : Mt) : List UInt8 := (putRs (m.an ++ (m.au ++ m.exX)) (putQs m.qs (m.head, []))).1

/-- The question that begins at p, and the place behind it. -/
def getQ (b : List UInt8) (p : Nat) : Qt × Nat × Nat :=
  if (getW b p).2.2 ≠ 0 then (⟨[], 0, 0⟩, 0, (getW b p).2.2) else
  if b.length < (getW b p).2.1 + 4 then (⟨[], 0, 0⟩, 0, 3) else
  if numAt b (getW b p).2.1 2 = 0 then (⟨[], 0, 0⟩, 0, 2) else
  (⟨(getW b p).1, numAt b (getW b p).2.1 2, numAt b ((getW b p).2.1 + 2) 2⟩, (getW b p).2.1 + 4, 0)
/-- So many questions, from p on, behind those that are read. -/
def getQs (b : List UInt8) : Nat → Nat → List Qt → Except Nat (List Qt × Nat)
  | 0, p, l => .ok (l, p)
  | k + 1, p, l => if (getQ b p).2.2 ≠ 0 then .error (getQ b p).2.2 else getQs b k (getQ b p).2.1 (l ++ [(getQ b p).1])
/-- What is known behind some records: they, the place, Edns, Size. -/
structure Rd where
  rs : List Rt
  p : Nat
  e : Bool
  s : Int
/-- One record more, in the last section or not. -/
def addR (last : Bool) (r : Rt) (next : Nat) (s : Rd) : Except Nat Rd :=
  if r.kind = 41 then (if last = false ∨ s.e = true ∨ r.name ≠ [] then .error 2 else .ok ⟨s.rs, next, true, r.cls⟩) else .ok ⟨s.rs ++ [r], next, s.e, s.s⟩
def stepR (b : List UInt8) (last : Bool) (s : Rd) : Except Nat Rd :=
  if (getRR b s.p).2.2 ≠ 0 then .error (getRR b s.p).2.2 else addR last (getRR b s.p).1 (getRR b s.p).2.1 s
def getRs (b : List UInt8) (last : Bool) : Nat → Rd → Except Nat Rd
  | 0, s => .ok s
  | k + 1, s => stepR b last s >>= getRs b last k
/-- The message that bytes are. -/
def decM (b : List UInt8) : Except Nat Mt :=
  if 65535 < b.length then .error 4 else
  if b.length < 12 then .error 3 else
  if 513 < numAt b 4 2 + numAt b 6 2 + numAt b 8 2 + numAt b 10 2 then .error 4 else
  getQs b (numAt b 4 2) 12 [] >>= fun q =>
  getRs b false (numAt b 6 2) ⟨[], q.2, false, 0⟩ >>= fun x =>
  getRs b false (numAt b 8 2) ⟨[], x.p, x.e, x.s⟩ >>= fun y =>
  getRs b true (numAt b 10 2) ⟨[], y.p, y.e, y.s⟩ >>= fun z =>
  if z.p < b.length then .error 7 else .ok ⟨hdOf (numAt b 0 2) (numAt b 2 2) z.e z.s, q.1, x.rs, y.rs, z.rs⟩

end Go.Proofs.YtjkjhpaeckkpjaaGreat

namespace Go.Proofs.YtjkjhpaeckkpjaaGreat
open Go.RowKit

theorem i64_top {n : Int} (h : (Lit.int .i64 n).wf = true) : n ≤ 9223372036854775807 := by
  have h1 : IntKind.i64.min = -9223372036854775808 := rfl
  have h2 : IntKind.i64.max = 9223372036854775807 := rfl
  simp only [Lit.wf, Bool.and_eq_true, decide_eq_true_eq] at h
  omega

set_option maxRecDepth 20000 in
set_option maxHeartbeats 4000000 in
theorem rsound_any (x : RV) (r : Rt) (w : World) (hx : RAt w w.heap.size x r) (hi : RIn r) (hl : LightR r) :
    Calls Tryz.prog 29 #[x.val r] w (Gave w (.bool (soundR r))) := by
  obtain ⟨W, hW⟩ : ∃ W, W = w.alloc (.cells #[.slice x.A r.name.length x.c, .int .i64 r.kind, .int .i64 r.cls, .int .i64 r.ttl, .slice x.d.Ab r.data.bytes.length x.d.cb, .slice x.d.Ah r.data.host.length x.d.ch, .slice x.d.Am r.data.mail.length x.d.cm, .slice x.d.An r.data.nums.length x.d.cn, .slice x.d.At r.data.texts.length x.d.ct] 42) := ⟨_, rfl⟩
  have hB : Below w.heap.size w W := by rw [hW]; exact (Below.refl _ _).alloc (Nat.le_refl _) _
  have hwh : Whole W w.heap.size 42 [.slice x.A r.name.length x.c, .int .i64 r.kind, .int .i64 r.cls, .int .i64 r.ttl, .slice x.d.Ab r.data.bytes.length x.d.cb, .slice x.d.Ah r.data.host.length x.d.ch, .slice x.d.Am r.data.mail.length x.d.cm, .slice x.d.An r.data.nums.length x.d.cn, .slice x.d.At r.data.texts.length x.d.ct] := by rw [hW]; exact Whole.made w _ _
  have HX := Lib.hid (fun W' (h : Below w.heap.size w W') => (hx.below h).mono h.size)
  have HB0 := Lib.hid hB
  have HW0 := Lib.hid hwh
  have h200 := hl.l0
  have h201 := hl.l1
  have h202 := hl.l2
  have HI := Lib.hid hi
  have HS := Lib.hid (show soundR r = (soundN r.name && (soundD r.kind r.data && (fitB r.cls 2 && (decide (0 ≤ r.ttl) && decide (r.ttl ≤ 2147483647))))) from rfl)
  have HN := Lib.hid (fun W' (h : Below w.heap.size w W') => sound_wide x.A r.name.length x.c w.heap.size r.name W' rfl ((hx.below h).n) (by omega) hi.n.2)
  have HD := Lib.hid (fun W' (h : Below w.heap.size w W') => dsound_wide r.kind x.d r.data W' ((hx.below h).mono h.size).d (by omega) hi.d.h.2 (by omega) hi.d.m.2 hi.d.t hi.lt)
  have HF := Lib.hid (fun W' => fits_any r.cls 2 W')
  clear hB hwh hx hi hl
  subst hW
  go_enter Tryz.func29, Tryz.ntmps29
  go_wp2_with fail
  refine (HN.out _ HB0.out).mono ?_
  rintro e w1 ⟨rfl, rfl⟩
  cases h1 : soundN r.name with
  | false =>
    rw [h1] at HS
    go_wp2
    go_ret
    exact ⟨by rw [HS.out]; rfl, HB0.out⟩
  | true =>
  rw [h1] at HS
  go_wp2_with fail
  refine (HD.out _ HB0.out).mono ?_
  rintro e w2 ⟨rfl, hb2⟩
  have HW2 := Lib.hid (HW0.out.below hb2 (by simp))
  have HB2 := Lib.hid (HB0.out.trans (hb2.mono HB0.out.size))
  clear hb2 HW0 HB0
  cases h2 : soundD r.kind r.data with
  | false =>
    rw [h2] at HS
    go_wp2
    go_ret
    exact ⟨by rw [HS.out]; rfl, HB2.out⟩
  | true =>
  rw [h2] at HS
  have p2 : w2.cell? ⟨w.heap.size, 2, none⟩ = some (.int .i64 r.cls) := Whole.cell (L := [.slice x.A r.name.length x.c, .int .i64 r.kind, .int .i64 r.cls, .int .i64 r.ttl, .slice x.d.Ab r.data.bytes.length x.d.cb, .slice x.d.Ah r.data.host.length x.d.ch, .slice x.d.Am r.data.mail.length x.d.cm, .slice x.d.An r.data.nums.length x.d.cn, .slice x.d.At r.data.texts.length x.d.ct]) HW2.out 2
  have p3 : w2.cell? ⟨w.heap.size, 3, none⟩ = some (.int .i64 r.ttl) := Whole.cell (L := [.slice x.A r.name.length x.c, .int .i64 r.kind, .int .i64 r.cls, .int .i64 r.ttl, .slice x.d.Ab r.data.bytes.length x.d.cb, .slice x.d.Ah r.data.host.length x.d.ch, .slice x.d.Am r.data.mail.length x.d.cm, .slice x.d.An r.data.nums.length x.d.cn, .slice x.d.At r.data.texts.length x.d.ct]) HW2.out 3
  go_wp2_with fail
  refine (HF.out _).mono ?_
  rintro e w3 ⟨rfl, rfl⟩
  cases h3 : fitB r.cls 2 with
  | false =>
    rw [h3] at HS
    go_wp2
    go_ret
    exact ⟨by rw [HS.out]; rfl, HB2.out⟩
  | true =>
  rw [h3] at HS
  cases h4 : decide (0 ≤ r.ttl) with
  | false =>
    rw [h4] at HS
    go_wp2
    go_ret
    exact ⟨by rw [HS.out]; rfl, HB2.out⟩
  | true =>
  rw [h4] at HS
  skip
  go_wp2
  go_ret
  exact ⟨by rw [HS.out]; simp, HB2.out⟩

set_option maxRecDepth 20000 in
set_option maxHeartbeats 4000000 in
theorem ref_rsound_any (x : RV) (r : Rt) (w : World) (hx : RAt w w.heap.size x r) (hi : RIn r) (hl : LightR r) :
    Calls Tryz.prog 25 #[x.val r] w (Gave w (.bool (soundR r))) := by
  obtain ⟨W, hW⟩ : ∃ W, W = w.alloc (.cells #[.slice x.A r.name.length x.c, .int .i64 r.kind, .int .i64 r.cls, .int .i64 r.ttl, .slice x.d.Ab r.data.bytes.length x.d.cb, .slice x.d.Ah r.data.host.length x.d.ch, .slice x.d.Am r.data.mail.length x.d.cm, .slice x.d.An r.data.nums.length x.d.cn, .slice x.d.At r.data.texts.length x.d.ct] 42) := ⟨_, rfl⟩
  have hB : Below w.heap.size w W := by rw [hW]; exact (Below.refl _ _).alloc (Nat.le_refl _) _
  have hwh : Whole W w.heap.size 42 [.slice x.A r.name.length x.c, .int .i64 r.kind, .int .i64 r.cls, .int .i64 r.ttl, .slice x.d.Ab r.data.bytes.length x.d.cb, .slice x.d.Ah r.data.host.length x.d.ch, .slice x.d.Am r.data.mail.length x.d.cm, .slice x.d.An r.data.nums.length x.d.cn, .slice x.d.At r.data.texts.length x.d.ct] := by rw [hW]; exact Whole.made w _ _
  have HX := Lib.hid (fun W' (h : Below w.heap.size w W') => (hx.below h).mono h.size)
  have HB0 := Lib.hid hB
  have HW0 := Lib.hid hwh
  have h200 := hl.l0
  have h201 := hl.l1
  have h202 := hl.l2
  have HI := Lib.hid hi
  have HS := Lib.hid (show soundR r = (soundN r.name && (soundD r.kind r.data && (fitB r.cls 2 && (decide (0 ≤ r.ttl) && decide (r.ttl ≤ 2147483647))))) from rfl)
  have HN := Lib.hid (fun W' (h : Below w.heap.size w W') => ref_sound_wide x.A x.c w.heap.size r.name W' ((hx.below h).n) hi.n.1 hi.n.2)
  have HD := Lib.hid (fun W' (h : Below w.heap.size w W') => refData_any r.kind x.d r.data W' ((hx.below h).mono h.size).d ⟨hi.d.h, hi.d.m, hi.d.t, hi.lt, fun n hn => i64_top (hi.nm n hn)⟩)
  have HF := Lib.hid (fun W' => ref_fits_any r.cls 2 W' (i64_top hi.c))
  clear hB hwh hx hi hl
  subst hW
  go_enter Tryz.func25, Tryz.ntmps25
  go_wp2_with fail
  refine (HN.out _ HB0.out).mono ?_
  rintro e w1 ⟨rfl, rfl⟩
  cases h1 : soundN r.name with
  | false =>
    rw [h1] at HS
    go_wp2
    go_ret
    exact ⟨by rw [HS.out]; rfl, HB0.out⟩
  | true =>
  rw [h1] at HS
  go_wp2_with fail
  refine (HD.out _ HB0.out).mono ?_
  rintro e w2 ⟨rfl, hb2⟩
  have HW2 := Lib.hid (HW0.out.below hb2 (by simp))
  have HB2 := Lib.hid (HB0.out.trans (hb2.mono HB0.out.size))
  clear hb2 HW0 HB0
  cases h2 : soundD r.kind r.data with
  | false =>
    rw [h2] at HS
    go_wp2
    go_ret
    exact ⟨by rw [HS.out]; rfl, HB2.out⟩
  | true =>
  rw [h2] at HS
  have p2 : w2.cell? ⟨w.heap.size, 2, none⟩ = some (.int .i64 r.cls) := Whole.cell (L := [.slice x.A r.name.length x.c, .int .i64 r.kind, .int .i64 r.cls, .int .i64 r.ttl, .slice x.d.Ab r.data.bytes.length x.d.cb, .slice x.d.Ah r.data.host.length x.d.ch, .slice x.d.Am r.data.mail.length x.d.cm, .slice x.d.An r.data.nums.length x.d.cn, .slice x.d.At r.data.texts.length x.d.ct]) HW2.out 2
  have p3 : w2.cell? ⟨w.heap.size, 3, none⟩ = some (.int .i64 r.ttl) := Whole.cell (L := [.slice x.A r.name.length x.c, .int .i64 r.kind, .int .i64 r.cls, .int .i64 r.ttl, .slice x.d.Ab r.data.bytes.length x.d.cb, .slice x.d.Ah r.data.host.length x.d.ch, .slice x.d.Am r.data.mail.length x.d.cm, .slice x.d.An r.data.nums.length x.d.cn, .slice x.d.At r.data.texts.length x.d.ct]) HW2.out 3
  go_wp2_with fail
  refine (HF.out _).mono ?_
  rintro e w3 ⟨rfl, rfl⟩
  cases h3 : fitB r.cls 2 with
  | false =>
    rw [h3] at HS
    go_wp2
    go_ret
    exact ⟨by rw [HS.out]; rfl, HB2.out⟩
  | true =>
  rw [h3] at HS
  cases h4 : decide (0 ≤ r.ttl) with
  | false =>
    rw [h4] at HS
    go_wp2
    go_ret
    exact ⟨by rw [HS.out]; rfl, HB2.out⟩
  | true =>
  rw [h4] at HS
  have hlast : decide (r.ttl < 2147483648) = decide (r.ttl ≤ 2147483647) := decide_eq_decide.2 (by omega)
  go_wp2
  go_ret
  exact ⟨by rw [HS.out]; rw [← hlast]; simp, HB2.out⟩

end Go.Proofs.YtjkjhpaeckkpjaaGreat

namespace Go.Proofs.YtjkjhpaeckkpjaaGreat
open Go.RowKit

/-- Where records of one section lie. -/
structure Sec where
  A : Option Addr
  c : Nat
  ps : List (RV × Rt)
abbrev Sec.v (s : Sec) : Value := .slice s.A s.ps.length s.c
/-- A message in memory. -/
structure MV where
  h : Hd
  qA : Option Addr
  qc : Nat
  qp : List (QV × Qt)
  s0 : Sec
  s1 : Sec
  s2 : Sec
abbrev MV.vq (m : MV) : Value := .slice m.qA m.qp.length m.qc
def MV.sec (m : MV) (i : Nat) : Sec := if i = 0 then m.s0 else if i = 1 then m.s1 else m.s2
def cellsM (h : Hd) (vq va vu vx : Value) : List Value := [.int .i64 h.id, .bool h.resp, .int .i64 h.op, .bool h.aa, .bool h.tc, .bool h.rd, .bool h.ra, .int .i64 h.rc, vq, va, vu, vx, .bool h.edns, .int .i64 h.size]
abbrev valM (h : Hd) (vq va vu vx : Value) : Value := .agg #[.int .i64 h.id, .bool h.resp, .int .i64 h.op, .bool h.aa, .bool h.tc, .bool h.rd, .bool h.ra, .int .i64 h.rc, vq, va, vu, vx, .bool h.edns, .int .i64 h.size]
def MV.cells (m : MV) : List Value := cellsM m.h m.vq m.s0.v m.s1.v m.s2.v
abbrev MV.val (m : MV) : Value := valM m.h m.vq m.s0.v m.s1.v m.s2.v
def MV.msg (m : MV) : Mt := ⟨m.h, qsts m.qp, recs m.s0.ps, recs m.s1.ps, recs m.s2.ps⟩
theorem msg_cells : Tryz.prog.cellsOf 25 = 14 := by kernel_rfl

/-- In the world w the message's lists read, below H. -/
structure MAt (w : World) (H : Nat) (m : MV) : Prop where
  q : QsAt w H m.qA m.qp
  s0 : RsAt w H m.s0.A m.s0.ps
  s1 : RsAt w H m.s1.A m.s1.ps
  s2 : RsAt w H m.s2.A m.s2.ps
section
variable {w w' : World} {H H' : Nat} {m : MV}
theorem MAt.below (h : MAt w H m) (hb : Below H w w') : MAt w' H m := ⟨h.q.below hb, h.s0.below hb, h.s1.below hb, h.s2.below hb⟩
theorem MAt.mono (h : MAt w H m) (hb : H ≤ H') : MAt w H' m := ⟨h.q.mono hb, h.s0.mono hb, h.s1.mono hb, h.s2.mono hb⟩
theorem MAt.sec (h : MAt w H m) (i : Nat) : RsAt w H (m.sec i).A (m.sec i).ps := by
  unfold MV.sec
  split
  · exact h.s0
  · split
    · exact h.s1
    · exact h.s2
end
/-- Numbers that a variable holds, lengths that memory holds; few parts. -/
structure QIn (q : Qt) : Prop where
  n : WideN q.name
  k : (Lit.int .i64 q.kind).wf = true
  c : (Lit.int .i64 q.cls).wf = true
  l : q.name.length ≤ 200
structure HIn (h : Hd) : Prop where
  i : (Lit.int .i64 h.id).wf = true
  o : (Lit.int .i64 h.op).wf = true
  r : (Lit.int .i64 h.rc).wf = true
  s : (Lit.int .i64 h.size).wf = true
structure MIn (m : MV) : Prop where
  h : HIn m.h
  q : ∀ p ∈ m.qp, QIn p.2
  r : ∀ i, ∀ p ∈ (m.sec i).ps, RIn p.2 ∧ LightR p.2
  ql : m.qp.length ≤ 1000
  rl : ∀ i, (m.sec i).ps.length ≤ 1000

set_option maxHeartbeats 400000 in
theorem fitsCode_any (n : Int) (w : World) : Calls Tryz.prog 43 #[.int .i64 n] w (Told w (.bool (codeB n))) := by
  have HS := Lib.hid (show codeB n = (decide (0 ≤ n) && decide (n ≤ 15)) from rfl)
  cases h1 : decide (0 ≤ n) with
  | false =>
    rw [h1] at HS
    go_enter Tryz.func43, Tryz.ntmps43
    go_wp2
    go_ret
    exact ⟨by rw [HS.out]; rfl, rfl⟩
  | true =>
    rw [h1] at HS
    go_enter Tryz.func43, Tryz.ntmps43
    go_wp2
    go_ret
    exact ⟨by rw [HS.out]; simp, rfl⟩

set_option maxRecDepth 20000 in
set_option maxHeartbeats 2000000 in
theorem soundQuestion_any (x : QV) (q : Qt) (w : World) (hx : QAt w w.heap.size x q) (hi : QIn q) :
    Calls Tryz.prog 28 #[valQ x q] w (Gave w (.bool (soundQ q))) := by
  obtain ⟨W, hW⟩ : ∃ W, W = w.alloc (.cells #[.slice x.1 q.name.length x.2, .int .i64 q.kind, .int .i64 q.cls] 46) := ⟨_, rfl⟩
  have hB : Below w.heap.size w W := by rw [hW]; exact (Below.refl _ _).alloc (Nat.le_refl _) _
  have HB := Lib.hid hB
  have HS := Lib.hid (show soundQ q = (soundN q.name && (decide (q.kind ≠ 0) && (fitB q.kind 2 && fitB q.cls 2))) from rfl)
  have hl := hi.l
  have HN := Lib.hid (fun W' (h : Below w.heap.size w W') => sound_wide x.1 q.name.length x.2 w.heap.size q.name W' rfl (Row.below hx h) (by omega) hi.n.2)
  have HF := Lib.hid (fun W' => fits_any q.cls 2 W')
  have HK := Lib.hid (fun W' => fits_any q.kind 2 W')
  clear hB hx hi
  subst hW
  go_enter Tryz.func28, Tryz.ntmps28
  go_wp2_with fail
  refine (HN.out _ HB.out).mono ?_
  rintro e w1 ⟨rfl, rfl⟩
  cases h1 : soundN q.name with
  | false =>
    rw [h1] at HS
    go_wp2
    go_ret
    exact ⟨by rw [HS.out]; rfl, HB.out⟩
  | true =>
  rw [h1] at HS
  by_cases hk : q.kind = 0
  · have t : (q.kind != 0) = false := by rw [hk]; rfl
    rw [show decide (q.kind ≠ 0) = false from decide_eq_false (by omega)] at HS
    clear hk
    go_wp2
    go_ret
    exact ⟨by rw [HS.out]; rfl, HB.out⟩
  have t : (q.kind != 0) = true := by rw [bne_iff_ne]; exact hk
  rw [show decide (q.kind ≠ 0) = true from decide_eq_true hk] at HS
  clear hk
  go_wp2_with fail
  refine (HK.out _).mono ?_
  rintro e w2 ⟨rfl, rfl⟩
  cases h2 : fitB q.kind 2 with
  | false =>
    rw [h2] at HS
    go_wp2
    go_ret
    exact ⟨by rw [HS.out]; rfl, HB.out⟩
  | true =>
  rw [h2] at HS
  go_wp2_with fail
  refine (HF.out _).mono ?_
  rintro e w3 ⟨rfl, rfl⟩
  go_wp2
  go_ret
  exact ⟨by rw [HS.out]; simp, HB.out⟩

set_option maxRecDepth 20000 in
set_option maxHeartbeats 4000000 in
theorem soundHead_any (h : Hd) (vq va vu vx : Value) (w : World) : Calls Tryz.prog 26 #[valM h vq va vu vx] w (Gave w (.bool (soundH h))) := by
  obtain ⟨W, hW⟩ : ∃ W, W = w.alloc (.cells #[.int .i64 h.id, .bool h.resp, .int .i64 h.op, .bool h.aa, .bool h.tc, .bool h.rd, .bool h.ra, .int .i64 h.rc, vq, va, vu, vx, .bool h.edns, .int .i64 h.size] 25) := ⟨_, rfl⟩
  have hB : Below w.heap.size w W := by rw [hW]; exact (Below.refl _ _).alloc (Nat.le_refl _) _
  have HB := Lib.hid hB
  have HS := Lib.hid (show soundH h = (fitB h.id 2 && (codeB h.op && (codeB h.rc && (fitB h.size 2 && (h.edns || decide (h.size = 0)))))) from rfl)
  have HI := Lib.hid (fun W' => fits_any h.id 2 W')
  have HO := Lib.hid (fun W' => fitsCode_any h.op W')
  have HR := Lib.hid (fun W' => fitsCode_any h.rc W')
  have HZ := Lib.hid (fun W' => fits_any h.size 2 W')
  clear hB
  subst hW
  go_enter Tryz.func26, Tryz.ntmps26
  go_wp2_with fail
  refine (HI.out _).mono ?_
  rintro e w1 ⟨rfl, rfl⟩
  cases h1 : fitB h.id 2 with
  | false =>
    rw [h1] at HS
    go_wp2
    go_ret
    exact ⟨by rw [HS.out]; rfl, HB.out⟩
  | true =>
  rw [h1] at HS
  go_wp2_with fail
  refine (HO.out _).mono ?_
  rintro e w2 ⟨rfl, rfl⟩
  cases h2 : codeB h.op with
  | false =>
    rw [h2] at HS
    go_wp2
    go_ret
    exact ⟨by rw [HS.out]; rfl, HB.out⟩
  | true =>
  rw [h2] at HS
  go_wp2_with fail
  refine (HR.out _).mono ?_
  rintro e w3 ⟨rfl, rfl⟩
  cases h3 : codeB h.rc with
  | false =>
    rw [h3] at HS
    go_wp2
    go_ret
    exact ⟨by rw [HS.out]; rfl, HB.out⟩
  | true =>
  rw [h3] at HS
  go_wp2_with fail
  refine (HZ.out _).mono ?_
  rintro e w4 ⟨rfl, rfl⟩
  cases h4 : fitB h.size 2 with
  | false =>
    rw [h4] at HS
    go_wp2
    go_ret
    exact ⟨by rw [HS.out]; rfl, HB.out⟩
  | true =>
  rw [h4] at HS
  cases h5 : h.edns with
  | true =>
    rw [h5] at HS HB
    go_wp2
    go_ret
    exact ⟨by rw [HS.out]; rfl, HB.out⟩
  | false =>
    rw [h5] at HS HB
    by_cases hz : h.size = 0
    · have t : (h.size == 0) = true := by rw [hz]; rfl
      rw [show decide (h.size = 0) = true from decide_eq_true hz] at HS
      clear hz
      go_wp2
      go_ret
      exact ⟨by rw [HS.out]; rfl, HB.out⟩
    · have t : (h.size == 0) = false := by rw [beq_eq_false_iff_ne]; exact hz
      rw [show decide (h.size = 0) = false from decide_eq_false hz] at HS
      clear hz
      go_wp2
      go_ret
      exact ⟨by rw [HS.out]; rfl, HB.out⟩

/-- What sections leaves: pointers to the three lists. -/
def SecsOut (w : World) (g o : Nat) (e : Ending) (w' : World) : Prop :=
  ∃ b, e = .returned (.slice (some ⟨b, 0, none⟩) 3 3) ∧ w.heap.size ≤ b ∧ Whole w' b 66 [.pointer (some ⟨g, o + 9, none⟩), .pointer (some ⟨g, o + 10, none⟩), .pointer (some ⟨g, o + 11, none⟩)] ∧ Below w.heap.size w w'
set_option maxHeartbeats 1000000 in
theorem sections_at (w : World) (g o : Nat) : Calls Tryz.prog 27 #[.pointer (some ⟨g, o, none⟩)] w (SecsOut w g o) := by
  go_enter Tryz.func27, Tryz.ntmps27
  go_wp2
  go_region
  go_wp2
  go_ret
  exact ⟨w.heap.size, rfl, Nat.le_refl _, Whole.made w [_, _, _] _, ((Below.refl _ _).alloc (Nat.le_refl _) _).drew⟩
theorem sections_any (w : World) (g : Nat) : Calls Tryz.prog 27 #[.pointer (some ⟨g, 0, none⟩)] w (SecsOut w g 0) := sections_at w g 0

/-- What flags leaves: pointers to the five bits, and where each one is. -/
def FlagsOut (w : World) (g o : Nat) (e : Ending) (w' : World) : Prop :=
  ∃ b, e = .returned (.slice (some ⟨b, 0, none⟩) 5 5) ∧ w.heap.size ≤ b ∧ Whole w' b 93 [.pointer (some ⟨g, o + 1, none⟩), .int .i64 15, .pointer (some ⟨g, o + 3, none⟩), .int .i64 10, .pointer (some ⟨g, o + 4, none⟩), .int .i64 9, .pointer (some ⟨g, o + 5, none⟩), .int .i64 8, .pointer (some ⟨g, o + 6, none⟩), .int .i64 7] ∧ Below w.heap.size w w'
set_option maxHeartbeats 4000000 in
theorem flags_at (w : World) (g o : Nat) : Calls Tryz.prog 55 #[.pointer (some ⟨g, o, none⟩)] w (FlagsOut w g o) := by
  go_enter Tryz.func55, Tryz.ntmps55
  go_wp2
  go_region
  go_wp2
  go_ret
  exact ⟨w.heap.size, rfl, Nat.le_refl _, Whole.made w [_, _, _, _, _, _, _, _, _, _] _, ((Below.refl _ _).alloc (Nat.le_refl _) _).drew⟩

end Go.Proofs.YtjkjhpaeckkpjaaGreat

namespace Go.Proofs.YtjkjhpaeckkpjaaGreat
open Go.RowKit

/-- How many questions, and records of the sections ahead of number j. -/
def sumTo (m : MV) : Nat → Nat
  | 0 => m.qp.length
  | j + 1 => sumTo m j + (m.sec j).ps.length
def allTo (m : MV) : Nat → List Rt
  | 0 => []
  | j + 1 => allTo m j ++ recs (m.sec j).ps
theorem sumTo_three (m : MV) : sumTo m 3 = m.qp.length + m.s0.ps.length + m.s1.ps.length + m.s2.ps.length := rfl
theorem allTo_three (m : MV) : allTo m 3 = m.msg.all := by
  show ([] ++ recs m.s0.ps ++ recs m.s1.ps) ++ recs m.s2.ps = recs m.s0.ps ++ (recs m.s1.ps ++ recs m.s2.ps)
  simp
theorem sumTo_le {m : MV} (hi : MIn m) : ∀ j, sumTo m j ≤ 1000 * (j + 1)
  | 0 => by have := hi.ql; show m.qp.length ≤ 1000 * (0 + 1); omega
  | j + 1 => by
    have h1 := sumTo_le hi j
    have h2 := hi.rl j
    show sumTo m j + (m.sec j).ps.length ≤ 1000 * (j + 1 + 1)
    omega
theorem soundM_at (m : MV) : soundM m.msg = (soundH m.h && (decide (sumTo m 3 ≤ 512) && ((qsts m.qp).all soundQ && (allTo m 3).all soundX))) := by
  rw [sumTo_three, allTo_three]
  unfold soundM MV.msg
  dsimp only
  rw [length_qsts, length_recs, length_recs, length_recs]
theorem all_fails {α : Type} {p : α → Bool} {l : List α} {x : α} (hx : x ∈ l) (h : p x = false) : l.all p = false := by
  rw [List.all_eq_false]
  exact ⟨x, hx, by rw [h]; decide⟩
theorem mem_allTo {m : MV} {j : Nat} (hj : j < 3) {p : RV × Rt} (hp : p ∈ (m.sec j).ps) : p.2 ∈ allTo m 3 := by
  have h : p.2 ∈ recs (m.sec j).ps := List.mem_map.2 ⟨p, hp, rfl⟩
  have e : allTo m 3 = recs (m.sec 0).ps ++ (recs (m.sec 1).ps ++ recs (m.sec 2).ps) := allTo_three m
  rw [e]
  rcases (show j = 0 ∨ j = 1 ∨ j = 2 by omega) with rfl | rfl | rfl
  · exact List.mem_append_left _ h
  · exact List.mem_append_right _ (List.mem_append_left _ h)
  · exact List.mem_append_right _ (List.mem_append_right _ h)

/-- The message's block, and the row of pointers to its sections. -/
structure Boxed (w : World) (g b : Nat) (m : MV) : Prop where
  bg : Whole w g 25 m.cells
  bb : Whole w b 66 [.pointer (some ⟨g, 9, none⟩), .pointer (some ⟨g, 10, none⟩), .pointer (some ⟨g, 11, none⟩)]
theorem Boxed.below {w w' : World} {g b : Nat} {m : MV} (h : Boxed w g b m) (hb : Below w.heap.size w w') : Boxed w' g b m := ⟨h.bg.below hb h.bg.lt, h.bb.below hb h.bb.lt⟩
theorem Boxed.ptr {w : World} {g b : Nat} {m : MV} (h : Boxed w g b m) {j : Nat} (hj : j < 3) : w.cell? ⟨b, j, none⟩ = some (.pointer (some ⟨g, 9 + j, none⟩)) ∧ w.cell? ⟨g, 9 + j, none⟩ = some (.slice (m.sec j).A (m.sec j).ps.length (m.sec j).c) := by
  rcases (show j = 0 ∨ j = 1 ∨ j = 2 by omega) with rfl | rfl | rfl
  · exact ⟨h.bb.cell 0, h.bg.cell 9⟩
  · exact ⟨h.bb.cell 1, h.bg.cell 10⟩
  · exact ⟨h.bb.cell 2, h.bg.cell 11⟩

def SumRel (m : MV) (s i : Value) : Prop := ∃ j : Nat, j ≤ 3 ∧ i = .int .i64 j ∧ s = .int .i64 (sumTo m j)
def QuestRel (W : World) (qp : List (QV × Qt)) (i : Value) (wr : World) : Prop := ∃ k : Nat, k ≤ qp.length ∧ i = .int .i64 k ∧ (qsts (qp.take k)).all soundQ = true ∧ Below W.heap.size W wr
def SectsRel (W : World) (m : MV) (i : Value) (wr : World) : Prop := ∃ j : Nat, j ≤ 3 ∧ i = .int .i64 j ∧ (allTo m j).all soundX = true ∧ Below W.heap.size W wr
def SectRel (W : World) (s : Sec) (i : Value) (wr : World) : Prop := ∃ k : Nat, k ≤ s.ps.length ∧ i = .int .i64 k ∧ (recs (s.ps.take k)).all soundX = true ∧ Below W.heap.size W wr
theorem qsts_at {ps : List (QV × Qt)} {k : Nat} (hk : k < ps.length) : qsts (ps.take (k + 1)) = qsts (ps.take k) ++ [(ps[k]).2] := by
  rw [List.take_succ_eq_append_getElem hk, qsts_append]
  rfl

set_option maxRecDepth 20000 in
set_option maxHeartbeats 8000000 in
theorem msound_core (w : World) (m : MV) (h : Hd) (qA : Option Addr) (qc : Nat) (qp : List (QV × Qt)) (s0 s1 s2 : Sec) (he : m = ⟨h, qA, qc, qp, s0, s1, s2⟩) (hm : MAt w w.heap.size m) (hi : MIn m) :
    Calls Tryz.prog 15 #[valM h (.slice qA qp.length qc) s0.v s1.v s2.v] w (Gave w (.bool (soundM m.msg))) := by
  obtain ⟨W, hW⟩ : ∃ W, W = w.alloc (.cells #[.int .i64 h.id, .bool h.resp, .int .i64 h.op, .bool h.aa, .bool h.tc, .bool h.rd, .bool h.ra, .int .i64 h.rc, .slice qA qp.length qc, s0.v, s1.v, s2.v, .bool h.edns, .int .i64 h.size] 25) := ⟨_, rfl⟩
  have hB : Below w.heap.size w W := by rw [hW]; exact (Below.refl _ _).alloc (Nat.le_refl _) _
  have hwh : Whole W w.heap.size 25 m.cells := by rw [hW, he]; exact Whole.made w _ _
  have HB := Lib.hid hB
  have HW := Lib.hid hwh
  have HM := Lib.hid hm
  have HI := Lib.hid hi
  have HS := Lib.hid (show soundM m.msg = (soundH h && (decide (sumTo m 3 ≤ 512) && ((qsts qp).all soundQ && (allTo m 3).all soundX))) by rw [soundM_at, he])
  have HH := Lib.hid (fun W' => soundHead_any h (.slice qA qp.length qc) s0.v s1.v s2.v W')
  have hql : qp.length ≤ 1000 := by have h := hi.ql; rw [he] at h; exact h
  have HC8 := Lib.hid (fun (W' : World) (hw : Whole W' w.heap.size 25 m.cells) => (show W'.cell? ⟨w.heap.size, 8, none⟩ = some (.slice qA qp.length qc) by rw [he] at hw; exact hw.cell 8))
  have HQA := Lib.hid (fun (W' : World) (hb : Below w.heap.size w W') => (show QsAt W' w.heap.size qA qp by have h := hm.q.below hb; rw [he] at h; exact h))
  have HQI := Lib.hid (show ∀ p ∈ qp, QIn p.2 by have h := hi.q; rw [he] at h; exact h)
  have hs3 := sumTo_le hi 3
  have HS0 := Lib.hid (show sumTo m 0 = qp.length by rw [he]; rfl)
  have hlt : w.heap.size < W.heap.size := hwh.lt
  clear hB hwh hm hi he
  subst hW
  go_enter Tryz.func15, Tryz.ntmps15
  go_wp2_with fail
  refine (HH.out _).mono ?_
  rintro e w1 ⟨rfl, hb1⟩
  have HB1 := Lib.hid (HB.out.trans (hb1.mono HB.out.size))
  have HW1 := Lib.hid (HW.out.below hb1 hlt)
  have hlt1 : w.heap.size < w1.heap.size := HW1.out.lt
  clear hb1 HB HW HH hlt
  cases h1 : soundH h with
  | false =>
    rw [h1] at HS
    go_wp2
    go_ret
    exact ⟨by rw [HS.out]; rfl, HB1.out⟩
  | true =>
  rw [h1] at HS
  have c8 := HC8.out w1 HW1.out
  go_wp2_with fail
  refine (sections_any w1 w.heap.size).mono ?_
  rintro e w2 ⟨b, rfl, hbb, hwb, hb2⟩
  have HX2 := Lib.hid (Boxed.mk (HW1.out.below hb2 hlt1) hwb)
  have HB2 := Lib.hid (HB1.out.trans (hb2.mono (Nat.le_of_lt hlt1)))
  clear hwb hb2 HW1 HB1 c8 hbb
  go_wp2
  go_loop [3, 20] (SumRel m) (fun _ i => 3 - (intOf i).toNat)
  case atStart => exact ⟨0, by omega, rfl, by rw [HS0.out]⟩
  case round =>
    obtain ⟨j, hj, rfl, rfl⟩ := hrel
    have hsj := sumTo_le HI.out j
    by_cases hlt : j < 3
    · obtain ⟨p0, p1⟩ := HX2.out.ptr hlt
      have hrl := HI.out.rl j
      go_wp2
      exact ⟨⟨j + 1, by omega, by go_num, by show Value.int .i64 _ = Value.int .i64 ((sumTo m j + (m.sec j).ps.length : Nat) : Int); congr 1⟩, by simp [intOf]; omega⟩
    · obtain rfl : j = 3 := by omega
      clear hsj hj
      by_cases hn : sumTo m 3 ≤ 512
      case neg =>
        have d1 : decide ((512 : Int) < ((sumTo m 3 : Nat) : Int)) = true := by rw [decide_eq_true_eq]; omega
        rw [show decide (sumTo m 3 ≤ 512) = false from decide_eq_false hn] at HS
        clear hn
        go_wp2
        go_ret
        exact ⟨by rw [HS.out]; rfl, HB2.out⟩
      have d1 : decide ((512 : Int) < ((sumTo m 3 : Nat) : Int)) = false := decide_eq_false (by omega)
      rw [show decide (sumTo m 3 ≤ 512) = true from decide_eq_true hn] at HS
      clear hn
      have c8 := HC8.out w2 HX2.out.bg
      go_wp2
      clear d1 hlt
      go_loopw [36] (QuestRel w2 qp) (fun i _ => qp.length - (intOf i).toNat)
      case atStart => exact ⟨0, Nat.zero_le _, rfl, rfl, Below.refl _ _⟩
      case round =>
        obtain ⟨k, hk, rfl, ha, hb⟩ := hrel
        have HA := Lib.hid ha
        have HX3 := Lib.hid (HX2.out.below hb)
        have HB3 := Lib.hid (HB2.out.trans (hb.mono HB2.out.size))
        have HBW := Lib.hid hb
        clear ha hb
        by_cases hlt2 : k < qp.length
        · obtain ⟨b1, o1, rfl, hb1, hda, q0, q1, q2⟩ := (HQA.out _ HB3.out).at_ hlt2
          have HQ := Lib.hid (HQI.out _ (List.getElem_mem hlt2))
          have HTS := Lib.hid (qsts_at hlt2)
          have HF := Lib.hid (show soundQ (qp[k]).2 = false → (qsts qp).all soundQ = false from all_fails (List.mem_map.2 ⟨qp[k], List.getElem_mem hlt2, rfl⟩))
          revert hda q0 q1 q2 HQ HTS HF
          generalize qp[k] = p1
          obtain ⟨y, q⟩ := p1
          intro hda q0 q1 q2 HQ HTS HF
          dsimp only at *
          have hba : Below wr.heap.size wr (wr.alloc (.cells #[.slice y.1 q.name.length y.2, .int .i64 q.kind, .int .i64 q.cls] 46)) := (Below.refl _ _).alloc (Nat.le_refl _) _
          have HC := Lib.hid (soundQuestion_any y q (wr.alloc (.cells #[.slice y.1 q.name.length y.2, .int .i64 q.kind, .int .i64 q.cls] 46)) (Row.mono (Row.below hda (hba.mono HB3.out.size)) (Nat.le_trans HB3.out.size hba.size)) HQ.out)
          have HBA := Lib.hid hba
          clear hda hba
          go_wp2_with fail
          refine HC.out.mono ?_
          rintro e w4 ⟨rfl, hb4⟩
          have HB4 := Lib.hid (HBW.out.trans ((HBA.out.trans (hb4.mono HBA.out.size)).mono HBW.out.size))
          clear hb4 HC HBA
          cases hv : soundQ q with
          | false =>
            have HFX := Lib.hid (HF.out hv)
            clear HTS HF
            go_wp2
            go_ret
            exact ⟨by rw [HS.out, HFX.out]; rfl, HB2.out.trans (HB4.out.mono HB2.out.size)⟩
          | true =>
            have HT := Lib.hid (show (qsts (qp.take (k + 1))).all soundQ = true by rw [HTS.out, List.all_append, HA.out]; simp [hv])
            clear HTS HF hv
            go_wp2
            exact ⟨⟨k + 1, by omega, by go_num, HT.out, HB4.out⟩, by simp [intOf]; omega⟩
        · obtain rfl : k = qp.length := by omega
          have HT := Lib.hid (show (qsts qp).all soundQ = true by have h := HA.out; rwa [List.take_length] at h)
          clear HA
          rw [HT.out] at HS
          clear c8
          go_wp2_with fail
          refine (sections_any wr w.heap.size).mono ?_
          rintro e w5 ⟨b5, rfl, hbb5, hwb5, hb5⟩
          have HX5 := Lib.hid (Boxed.mk (HX3.out.bg.below hb5 HX3.out.bg.lt) hwb5)
          have HB5 := Lib.hid (HB3.out.trans (hb5.mono HB3.out.size))
          clear hwb5 hb5 hbb5 HX3 HB3 HBW HX2 HB2 HT hk hlt2
          go_wp2
          go_loopw [46] (SectsRel w5 m) (fun i _ => 3 - (intOf i).toNat)
          case atStart => exact ⟨0, by omega, rfl, rfl, Below.refl _ _⟩
          case round =>
            obtain ⟨j, hj, rfl, ha, hb⟩ := hrel
            have HA := Lib.hid ha
            have HX6 := Lib.hid (HX5.out.below hb)
            have HB6 := Lib.hid hb
            clear ha hb
            by_cases hlt : j < 3
            · obtain ⟨p0, p1⟩ := HX6.out.ptr hlt
              have hrl := HI.out.rl j
              have HMS := Lib.hid (fun (k : Nat) (hk : k < (m.sec j).ps.length) => (show soundX ((m.sec j).ps[k]).2 = false → (allTo m 3).all soundX = false from all_fails (mem_allTo hlt (List.getElem_mem hk))))
              have HRJ := Lib.hid (HI.out.r j)
              have HMJ := Lib.hid (fun W' (h : Below w.heap.size w W') => (HM.out.below h).sec j)
              have HN := Lib.hid (show allTo m (j + 1) = allTo m j ++ recs (m.sec j).ps from rfl)
              revert p1 hrl HMS HRJ HMJ HN
              generalize m.sec j = s
              obtain ⟨sA, sc, ps⟩ := s
              intro p1 hrl HMS HRJ HMJ HN
              dsimp only at *
              have hj1 : (j : Int) < 3 := by omega
              go_wp2
              go_loopw [54] (SectRel wr ⟨sA, sc, ps⟩) (fun i _ => ps.length - (intOf i).toNat)
              case atStart => exact ⟨0, Nat.zero_le _, rfl, rfl, Below.refl _ _⟩
              case round =>
                obtain ⟨k, hk, rfl, ha, hb⟩ := hrel
                dsimp only at hk ha
                have HA2 := Lib.hid ha
                have HX7 := Lib.hid (HX6.out.below hb)
                have HB7 := Lib.hid (HB6.out.trans (hb.mono HB6.out.size))
                have HBW := Lib.hid hb
                clear ha hb
                by_cases hlt2 : k < ps.length
                · obtain ⟨b1, o1, rfl, hb1, hra, q0, q1, q2, q3, q4, q5, q6, q7, q8⟩ := (HMJ.out _ (HB5.out.trans (HB7.out.mono HB5.out.size))).at_ hlt2
                  have HRI := Lib.hid (HRJ.out _ (List.getElem_mem hlt2))
                  have HF := Lib.hid (HMS.out k hlt2)
                  have HTS := Lib.hid (recs_at hlt2)
                  revert hra q0 q1 q2 q3 q4 q5 q6 q7 q8 HRI HF HTS
                  generalize ps[k] = p1
                  obtain ⟨x, r⟩ := p1
                  intro hra q0 q1 q2 q3 q4 q5 q6 q7 q8 HRI HF HTS
                  dsimp only at *
                  have HSX := Lib.hid (show soundX r = (decide (r.kind ≠ 41) && soundR r) from rfl)
                  have hba : Below wr.heap.size wr (wr.alloc (.cells #[.slice x.A r.name.length x.c, .int .i64 r.kind, .int .i64 r.cls, .int .i64 r.ttl, .slice x.d.Ab r.data.bytes.length x.d.cb, .slice x.d.Ah r.data.host.length x.d.ch, .slice x.d.Am r.data.mail.length x.d.cm, .slice x.d.An r.data.nums.length x.d.cn, .slice x.d.At r.data.texts.length x.d.ct] 42)) := (Below.refl _ _).alloc (Nat.le_refl _) _
                  have HC := Lib.hid (rsound_any x r _ ((hra.below (hba.mono (HB5.out.trans (HB7.out.mono HB5.out.size)).size)).mono (Nat.le_trans (HB5.out.trans (HB7.out.mono HB5.out.size)).size hba.size)) HRI.out.1 HRI.out.2)
                  have HBA := Lib.hid (HBW.out.trans (hba.mono HBW.out.size))
                  clear hra hba
                  by_cases h41 : r.kind = 41
                  · have t : (r.kind == 41) = true := by rw [beq_iff_eq]; exact h41
                    rw [show decide (r.kind ≠ 41) = false from decide_eq_false (by omega)] at HSX
                    have HFX := Lib.hid (HF.out HSX.out)
                    clear h41 HF HTS
                    go_wp2
                    go_ret
                    exact ⟨by rw [HS.out, HFX.out]; rfl, HB5.out.trans ((HB6.out.trans (HBA.out.mono HB6.out.size)).mono HB5.out.size)⟩
                  have t : (r.kind == 41) = false := by rw [beq_eq_false_iff_ne]; exact h41
                  rw [show decide (r.kind ≠ 41) = true from decide_eq_true h41, Bool.true_and] at HSX
                  clear h41
                  go_wp2_with fail
                  refine HC.out.mono ?_
                  rintro e w8 ⟨rfl, hb8⟩
                  have HB8 := Lib.hid (HBA.out.trans (hb8.mono HBA.out.size))
                  clear hb8 HC HBA
                  cases hv : soundR r with
                  | false =>
                    have HFX := Lib.hid (HF.out (HSX.out.trans hv))
                    clear HF HTS
                    go_wp2
                    go_ret
                    exact ⟨by rw [HS.out, HFX.out]; rfl, HB5.out.trans ((HB6.out.trans (HB8.out.mono HB6.out.size)).mono HB5.out.size)⟩
                  | true =>
                    have HT := Lib.hid (show (recs (ps.take (k + 1))).all soundX = true by rw [HTS.out, List.all_append, HA2.out]; simp [HSX.out, hv])
                    clear HF HTS hv HSX
                    go_wp2
                    exact ⟨⟨k + 1, by show k + 1 ≤ ps.length; omega, by go_num, HT.out, HB8.out⟩, by simp [intOf]; omega⟩
                · obtain rfl : k = ps.length := by omega
                  have HT := Lib.hid (show (allTo m (j + 1)).all soundX = true by
                    have h := HA2.out
                    rw [List.take_length] at h
                    rw [HN.out, List.all_append, HA.out, h]
                    rfl)
                  go_wp2
                  exact ⟨⟨j + 1, by omega, by go_num, HT.out, HB7.out⟩, by simp [intOf]; omega⟩
            · obtain rfl : j = 3 := by omega
              have HT := Lib.hid HA.out
              rw [HT.out] at HS
              go_wp2
              go_ret
              exact ⟨by rw [HS.out]; rfl, HB5.out.trans (HB6.out.mono HB5.out.size)⟩

theorem msound_any (w : World) (m : MV) (hm : MAt w w.heap.size m) (hi : MIn m) : Calls Tryz.prog 15 #[m.val] w (Gave w (.bool (soundM m.msg))) :=
  msound_core w m m.h m.qA m.qc m.qp m.s0 m.s1 m.s2 rfl hm hi

end Go.Proofs.YtjkjhpaeckkpjaaGreat

namespace Go.Proofs.YtjkjhpaeckkpjaaGreat
open Go.RowKit

/-- The block j holds a slice of the record. -/
def RV.owns (x : RV) (r : Rt) (j : Nat) : Prop := (x.vn r).ownBlock = some j ∨ x.d.owns r.data j
theorem OwnR.base {w : World} {B : Nat} {x : RV} {r : Rt} (h : OwnR w B x r) {j : Nat} (hj : x.owns r j) : B ≤ j ∧ j < w.heap.size := by
  rcases hj with e | e
  · exact h.n.lt j e
  · exact h.d.base e
section
variable {base g H : Nat} {W1 wk : World} {vB vM : Value} {B : List UInt8} {R : Rs}
theorem pen_box {t : TypeId} {L : List Value} (hp : Penned base W1 g vB vM B R wk) (hb : Whole W1 H t L) (hn : ¬ ownF g vB vM H) : Whole wk H t L := by
  obtain ⟨_, _, _, hg, _⟩ := hp
  exact hb.grew hg hn
theorem pen_own {x : RV} {r : Rt} {Bd : Nat} (hp : Penned base W1 g vB vM B R wk) (ho : OwnR W1 Bd x r) (hs : ∀ j, ownF g vB vM j → ¬ x.owns r j) : OwnR wk Bd x r := by
  obtain ⟨_, _, _, hg, _⟩ := hp
  have hk : ∀ {e : TypeId} {s m : Nat} {u : Value} {ys : List Value}, W1.ownsRow Bd e s u m ys → (∀ j, u.ownBlock = some j → x.owns r j) → wk.ownsRow Bd e s u m ys := fun h1 h2 => own_grew h1 hg fun j e hj => hs j hj (h2 j e)
  exact ⟨hk ho.n fun j e => .inl e, hk ho.d.b fun j e => .inr (.inl e), hk ho.d.h fun j e => .inr (.inr (.inl e)), hk ho.d.m fun j e => .inr (.inr (.inr (.inl e))), hk ho.d.n fun j e => .inr (.inr (.inr (.inr (.inl e)))), hk ho.d.t fun j e => .inr (.inr (.inr (.inr (.inr e))))⟩
end

set_option maxRecDepth 200000 in
set_option maxHeartbeats 8000000 in
theorem rrput_sound (base : Nat) (w : World) (g : Nat) (vB vM : Value) (B : List UInt8) (R : Rs) (x : RV) (r : Rt) (Bd : Nat) (h : Wr w base g vB vM B R) (ho : OwnR w Bd x r) (hsep : ∀ j, ownF g vB vM j → ¬ x.owns r j) (hs : SoundR r) (hi : RIn r) (hl : LightR r)
    (hB : B.length ≤ 90000000) (hR : R.length ≤ 700000) (hG : GoodR B R) :
    Calls Tryz.prog 50 #[.pointer (some ⟨g, 0, none⟩), x.val r] w (fun e w' => e = .returned (.int .i64 0) ∧ Penned base w g vB vM (putRR r B R).1 (putRR r B R).2 w') := by
  obtain ⟨W, hW⟩ : ∃ W, W = w.alloc (.cells #[.slice x.A r.name.length x.c, .int .i64 r.kind, .int .i64 r.cls, .int .i64 r.ttl, .slice x.d.Ab r.data.bytes.length x.d.cb, .slice x.d.Ah r.data.host.length x.d.ch, .slice x.d.Am r.data.mail.length x.d.cm, .slice x.d.An r.data.nums.length x.d.cn, .slice x.d.At r.data.texts.length x.d.ct] 42) := ⟨_, rfl⟩
  have hB0 : Below w.heap.size w W := by rw [hW]; exact (Below.refl _ _).alloc (Nat.le_refl _) _
  have hwh : Whole W w.heap.size 42 [.slice x.A r.name.length x.c, .int .i64 r.kind, .int .i64 r.cls, .int .i64 r.ttl, .slice x.d.Ab r.data.bytes.length x.d.cb, .slice x.d.Ah r.data.host.length x.d.ch, .slice x.d.Am r.data.mail.length x.d.cm, .slice x.d.An r.data.nums.length x.d.cn, .slice x.d.At r.data.texts.length x.d.ct] := by rw [hW]; exact Whole.made w _ _
  have hlow : ∀ j, ownF g vB vM j → j < w.heap.size := fun j hj => (h.own hj).2
  have HB0 := Lib.hid hB0
  have HW0 := Lib.hid hwh
  have HS := Lib.hid (rsound_any x r W ((ho.at_.below hB0).mono hB0.size) hi hl)
  rw [soundR_iff.2 hs] at HS
  have HWR := Lib.hid h
  have HO := Lib.hid ho
  have HSEP := Lib.hid hsep
  have HSR := Lib.hid hs
  have HGD := Lib.hid hG
  have HLOW := Lib.hid hlow
  have hp := soundN_parts hs.n
  have hnl := length_nameW_le true r.name B R hp.1
  have hnr := length_nameW_rests true r.name B R
  have hnz := length_lt_szN r.name
  have hn255 := hp.2
  have hgn := nameW_good (short := true) hp.1 hG
  have HGN := Lib.hid hgn.2.2
  obtain ⟨WL, hWL, _, _, hD0⟩ := putRR_eq (B := B) (R := R) hs
  have HD0 := Lib.hid hD0
  have hl0 : (putL [] 0 2).length = 2 := by decide +kernel
  have hl123 : (putL [] r.kind 2).length = 2 ∧ (putL [] r.cls 2).length = 2 ∧ (putL [] r.ttl 4).length = 4 := by
    have hkd : kindB r.kind = true := by have h := hs.d; unfold soundD at h; simp only [Bool.and_eq_true] at h; exact h.1
    simp only [kindB, decide_eq_true_eq] at hkd
    obtain ⟨_, s1, _, es1, _, _, l1⟩ := putL_fit (n := r.kind) (s := 2) (fitB_true (by omega) (by omega) (by omega) (by simp; omega))
    obtain ⟨_, s2, _, es2, _, _, l2⟩ := putL_fit hs.c
    obtain ⟨_, s3, _, es3, _, _, l3⟩ := putL_fit (n := r.ttl) (s := 4) (fitB_true (by omega) (by omega) hs.t0 (by have := hs.t1; simp; omega))
    omega
  obtain ⟨hl1, hl2, hl3⟩ := hl123
  have hHL : (putH8 r B R).length = (nameW true r.name B R).1.length + 8 := by
    unfold putH8
    simp only [List.length_append]
    omega
  have hD0L : (putD0 r B R).1.length = (putH8 r B R).length + 2 + WL.length := by
    rw [hD0]
    simp only [List.length_append, hl0]
  clear hB0 hwh h ho hsep hs hG hlow hp hgn hi hl hD0
  subst hW
  go_enter Tryz.func50, Tryz.ntmps50
  go_wp2_with fail
  refine HS.out.mono ?_
  rintro e w1 ⟨rfl, hb1⟩
  have hz1 : w.heap.size < w1.heap.size := by have := hb1.size; simp at this; omega
  have HWB := Lib.hid (HW0.out.below hb1 (by simp))
  have HB1 := Lib.hid (HB0.out.trans (hb1.mono HB0.out.size))
  clear hb1 HS HB0 HW0
  have HWR1 := Lib.hid (HWR.out.below HB1.out)
  have HOR := Lib.hid (HO.out.keep fun j hj => HB1.out.block j hj)
  have HNB := Lib.hid (show ¬ ownF g vB vM w.heap.size from fun hj => Nat.lt_irrefl _ (HLOW.out _ hj))
  have HP := Lib.hid (Penned.refl HWR1.out)
  have p0 : w1.cell? ⟨w.heap.size, 0, none⟩ = some (.slice x.A r.name.length x.c) := Whole.cell (L := [.slice x.A r.name.length x.c, .int .i64 r.kind, .int .i64 r.cls, .int .i64 r.ttl, .slice x.d.Ab r.data.bytes.length x.d.cb, .slice x.d.Ah r.data.host.length x.d.ch, .slice x.d.Am r.data.mail.length x.d.cm, .slice x.d.An r.data.nums.length x.d.cn, .slice x.d.At r.data.texts.length x.d.ct]) (pen_box HP.out HWB.out HNB.out) 0
  go_wp2_with fail
  refine (name_sound base w1 g vB vM B R x.A r.name.length x.c w1.heap.size r.name true HWR1.out rfl HOR.out.at_.n (Nat.le_refl _) HSR.out.n (by omega) (by omega) fun q hq => (HGD.out q hq).1).mono ?_
  rintro e w2 ⟨rfl, hpn⟩
  have HP := Lib.hid hpn
  clear hpn p0
  have p1 : w2.cell? ⟨w.heap.size, 1, none⟩ = some (.int .i64 r.kind) := Whole.cell (L := [.slice x.A r.name.length x.c, .int .i64 r.kind, .int .i64 r.cls, .int .i64 r.ttl, .slice x.d.Ab r.data.bytes.length x.d.cb, .slice x.d.Ah r.data.host.length x.d.ch, .slice x.d.Am r.data.mail.length x.d.cm, .slice x.d.An r.data.nums.length x.d.cn, .slice x.d.At r.data.texts.length x.d.ct]) (pen_box HP.out HWB.out HNB.out) 1
  go_wp2_with fail
  obtain ⟨vB0, vM0, hw0, hg0, hf0⟩ := HP.out
  refine (num_any base w2 g vB0 vM0 _ _ r.kind 2 hw0 (by first | omega | (simp only [List.length_append]; omega))).mono ?_
  rintro e w3 ⟨rfl, hpn⟩
  have HP := Lib.hid (Penned.then hg0 hf0 hpn)
  clear hpn hw0 hg0 hf0 p1
  have p2 : w3.cell? ⟨w.heap.size, 2, none⟩ = some (.int .i64 r.cls) := Whole.cell (L := [.slice x.A r.name.length x.c, .int .i64 r.kind, .int .i64 r.cls, .int .i64 r.ttl, .slice x.d.Ab r.data.bytes.length x.d.cb, .slice x.d.Ah r.data.host.length x.d.ch, .slice x.d.Am r.data.mail.length x.d.cm, .slice x.d.An r.data.nums.length x.d.cn, .slice x.d.At r.data.texts.length x.d.ct]) (pen_box HP.out HWB.out HNB.out) 2
  go_wp2_with fail
  obtain ⟨vB1, vM1, hw1, hg1, hf1⟩ := HP.out
  refine (num_any base w3 g vB1 vM1 _ _ r.cls 2 hw1 (by first | omega | (simp only [List.length_append]; omega))).mono ?_
  rintro e w4 ⟨rfl, hpn⟩
  have HP := Lib.hid (Penned.then hg1 hf1 hpn)
  clear hpn hw1 hg1 hf1 p2
  have p3 : w4.cell? ⟨w.heap.size, 3, none⟩ = some (.int .i64 r.ttl) := Whole.cell (L := [.slice x.A r.name.length x.c, .int .i64 r.kind, .int .i64 r.cls, .int .i64 r.ttl, .slice x.d.Ab r.data.bytes.length x.d.cb, .slice x.d.Ah r.data.host.length x.d.ch, .slice x.d.Am r.data.mail.length x.d.cm, .slice x.d.An r.data.nums.length x.d.cn, .slice x.d.At r.data.texts.length x.d.ct]) (pen_box HP.out HWB.out HNB.out) 3
  go_wp2_with fail
  obtain ⟨vB2, vM2, hw2, hg2, hf2⟩ := HP.out
  refine (num_any base w4 g vB2 vM2 _ _ r.ttl 4 hw2 (by first | omega | (simp only [List.length_append]; omega))).mono ?_
  rintro e w5 ⟨rfl, hpn⟩
  have HP := Lib.hid (Penned.then hg2 hf2 hpn)
  clear hpn hw2 hg2 hf2 p3
  rw [show (((nameW true r.name B R).1 ++ putL [] r.kind 2) ++ putL [] r.cls 2) ++ putL [] r.ttl 4 = putH8 r B R from rfl] at HP
  obtain ⟨vB3, vM3, hw3, hg3, hf3⟩ := HP.out
  have HL := Lib.hid (len_any base w5 g vB3 vM3 _ _ hw3)
  go_wp2_with fail
  refine HL.out.mono ?_
  rintro e w6 ⟨rfl, rfl⟩
  clear HL
  go_wp2_with fail
  refine (num_any base w5 g vB3 vM3 _ _ 0 2 hw3 (by omega)).mono ?_
  rintro e w7 ⟨rfl, hpn⟩
  have HP := Lib.hid (Penned.then hg3 hf3 hpn)
  clear hpn hw3 hg3 hf3
  have p1 : w7.cell? ⟨w.heap.size, 1, none⟩ = some (.int .i64 r.kind) := Whole.cell (L := [.slice x.A r.name.length x.c, .int .i64 r.kind, .int .i64 r.cls, .int .i64 r.ttl, .slice x.d.Ab r.data.bytes.length x.d.cb, .slice x.d.Ah r.data.host.length x.d.ch, .slice x.d.Am r.data.mail.length x.d.cm, .slice x.d.An r.data.nums.length x.d.cn, .slice x.d.At r.data.texts.length x.d.ct]) (pen_box HP.out HWB.out HNB.out) 1
  have p4 : w7.cell? ⟨w.heap.size, 4, none⟩ = some (.slice x.d.Ab r.data.bytes.length x.d.cb) := Whole.cell (L := [.slice x.A r.name.length x.c, .int .i64 r.kind, .int .i64 r.cls, .int .i64 r.ttl, .slice x.d.Ab r.data.bytes.length x.d.cb, .slice x.d.Ah r.data.host.length x.d.ch, .slice x.d.Am r.data.mail.length x.d.cm, .slice x.d.An r.data.nums.length x.d.cn, .slice x.d.At r.data.texts.length x.d.ct]) (pen_box HP.out HWB.out HNB.out) 4
  have p5 : w7.cell? ⟨w.heap.size, 5, none⟩ = some (.slice x.d.Ah r.data.host.length x.d.ch) := Whole.cell (L := [.slice x.A r.name.length x.c, .int .i64 r.kind, .int .i64 r.cls, .int .i64 r.ttl, .slice x.d.Ab r.data.bytes.length x.d.cb, .slice x.d.Ah r.data.host.length x.d.ch, .slice x.d.Am r.data.mail.length x.d.cm, .slice x.d.An r.data.nums.length x.d.cn, .slice x.d.At r.data.texts.length x.d.ct]) (pen_box HP.out HWB.out HNB.out) 5
  have p6 : w7.cell? ⟨w.heap.size, 6, none⟩ = some (.slice x.d.Am r.data.mail.length x.d.cm) := Whole.cell (L := [.slice x.A r.name.length x.c, .int .i64 r.kind, .int .i64 r.cls, .int .i64 r.ttl, .slice x.d.Ab r.data.bytes.length x.d.cb, .slice x.d.Ah r.data.host.length x.d.ch, .slice x.d.Am r.data.mail.length x.d.cm, .slice x.d.An r.data.nums.length x.d.cn, .slice x.d.At r.data.texts.length x.d.ct]) (pen_box HP.out HWB.out HNB.out) 6
  have p7 : w7.cell? ⟨w.heap.size, 7, none⟩ = some (.slice x.d.An r.data.nums.length x.d.cn) := Whole.cell (L := [.slice x.A r.name.length x.c, .int .i64 r.kind, .int .i64 r.cls, .int .i64 r.ttl, .slice x.d.Ab r.data.bytes.length x.d.cb, .slice x.d.Ah r.data.host.length x.d.ch, .slice x.d.Am r.data.mail.length x.d.cm, .slice x.d.An r.data.nums.length x.d.cn, .slice x.d.At r.data.texts.length x.d.ct]) (pen_box HP.out HWB.out HNB.out) 7
  have p8 : w7.cell? ⟨w.heap.size, 8, none⟩ = some (.slice x.d.At r.data.texts.length x.d.ct) := Whole.cell (L := [.slice x.A r.name.length x.c, .int .i64 r.kind, .int .i64 r.cls, .int .i64 r.ttl, .slice x.d.Ab r.data.bytes.length x.d.cb, .slice x.d.Ah r.data.host.length x.d.ch, .slice x.d.Am r.data.mail.length x.d.cm, .slice x.d.An r.data.nums.length x.d.cn, .slice x.d.At r.data.texts.length x.d.ct]) (pen_box HP.out HWB.out HNB.out) 8
  go_wp2_with fail
  obtain ⟨vB4, vM4, hw4, hg4, hf4⟩ := HP.out
  have HOD := Lib.hid (pen_own HP.out HOR.out HSEP.out).d
  have hsep4 : ∀ j, ownF g vB4 vM4 j → ¬ x.d.owns r.data j := fun j hj ho => by
    rcases hf4 j hj with h1 | h1
    · exact HSEP.out j h1 (.inr ho)
    · have := (HOR.out.base (.inr ho)).2
      omega
  refine (put_apart base w7 g vB4 vM4 _ _ r.kind x.d r.data Bd hw4 HOD.out hsep4 HSR.out.d (by rw [List.length_append]; omega) (by omega) ?_).mono ?_
  · have h1 := (((HGN.out.more (putL [] r.kind 2)).more (putL [] r.cls 2)).more (putL [] r.ttl 4)).more (putL [] 0 2)
    exact h1
  rintro e w8 ⟨rfl, hpn⟩
  have HP := Lib.hid (show Penned base w1 g vB vM (putD0 r B R).1 (putD0 r B R).2 w8 from Penned.then hg4 hf4 hpn)
  clear hpn hw4 hg4 hf4 hsep4 HOD p1 p4 p5 p6 p7 p8
  obtain ⟨vB5, vM5, hw5, hg5, hf5⟩ := HP.out
  have HL := Lib.hid (len_any base w8 g vB5 vM5 _ _ hw5)
  go_wp2_with fail
  refine HL.out.mono ?_
  rintro e w9 ⟨rfl, rfl⟩
  clear HL
  go_wp2_with fail
  have e2 : ((nameW true r.name B R).1.length : Int) + 8 + 2 + (WL.length : Int) - (((nameW true r.name B R).1.length : Int) + 8) - 2 = (((putD0 r B R).1.length - ((putH8 r B R).length + 2) : Nat) : Int) := by omega
  have e1 : ((nameW true r.name B R).1.length : Int) + 8 = (((putH8 r B R).length : Nat) : Int) := by omega
  rw [e2, e1]
  refine (set_ok base w8 g vB5 vM5 _ _ (putH8 r B R).length ((putD0 r B R).1.length - ((putH8 r B R).length + 2)) 2 hw5 (by omega) (fitB_true (by omega) (by omega) (by omega) (by simp; omega)) (by omega)).mono ?_
  rintro e w10 ⟨rfl, hpn⟩
  have HP := Lib.hid (show Penned base w1 g vB vM (putRR r B R).1 (putRR r B R).2 w10 from Penned.then hg5 hf5 hpn)
  clear hpn hw5 hg5 hf5 e1 e2 hHL hD0L
  go_wp2
  go_ret
  exact ⟨rfl, Penned.from HB1.out HP.out⟩

end Go.Proofs.YtjkjhpaeckkpjaaGreat

namespace Go.Proofs.YtjkjhpaeckkpjaaGreat
open Go.RowKit

/-- The bit number j of the flags: where its bool lies, where it is in the number, and whether it is on. -/
def fldF (j : Nat) : Nat := if j = 0 then 1 else j + 2
def posF (j : Nat) : Nat := if j = 0 then 15 else 11 - j
def onF (h : Hd) (j : Nat) : Bool := if j = 0 then h.resp else if j = 1 then h.aa else if j = 2 then h.tc else if j = 3 then h.rd else h.ra
def bitsTo (h : Hd) : Nat → Nat
  | 0 => h.op.toNat * 2048 + h.rc.toNat
  | j + 1 => bitsTo h j + bit (onF h j) (2 ^ posF j)
theorem bitsTo_five (h : Hd) : bitsTo h 5 = bitsH h := by
  show ((((h.op.toNat * 2048 + h.rc.toNat + bit h.resp 32768) + bit h.aa 1024) + bit h.tc 512) + bit h.rd 256) + bit h.ra 128 = bitsH h
  unfold bitsH
  omega
theorem or_i64_nat (a b : Nat) (ha : a < 65536) (hb : b < 65536) : bits .or .i64 (a : Int) (b : Int) = ((a ||| b : Nat) : Int) := by
  have hx : a ||| b < 2 ^ 16 := Nat.or_lt_two_pow (by omega) (by omega)
  have h1 : (BitVec.ofInt 64 (a : Int)).toNat = a := by
    rw [BitVec.ofInt_natCast, BitVec.toNat_ofNat]; exact Nat.mod_eq_of_lt (by omega)
  have h2 : (BitVec.ofInt 64 (b : Int)).toNat = b := by
    rw [BitVec.ofInt_natCast, BitVec.toNat_ofNat]; exact Nat.mod_eq_of_lt (by omega)
  show IntKind.i64.wrap ((BitVec.ofInt 64 (a : Int) ||| BitVec.ofInt 64 (b : Int)).toNat : Int) = _
  rw [BitVec.toNat_or, h1, h2]
  rw [IntKind.wrap_i64]
  omega
theorem or_code : ∀ o, o < 16 → ∀ c, c < 16 → (o * 2048 ||| c) = o * 2048 + c := by decide +kernel
theorem or_bit0 : ∀ o, o < 16 → ∀ c, c < 16 → (o * 2048 + c ||| 32768) = o * 2048 + c + 32768 := by decide +kernel
theorem or_bit1 : ∀ o, o < 16 → ∀ c, c < 16 → ∀ x, x < 2 → (o * 2048 + c + x * 32768 ||| 1024) = o * 2048 + c + x * 32768 + 1024 := by decide +kernel
theorem or_bit2 : ∀ o, o < 16 → ∀ c, c < 16 → ∀ x, x < 2 → ∀ y, y < 2 → (o * 2048 + c + x * 32768 + y * 1024 ||| 512) = o * 2048 + c + x * 32768 + y * 1024 + 512 := by decide +kernel
theorem or_bit3 : ∀ o, o < 16 → ∀ c, c < 16 → ∀ x, x < 2 → ∀ y, y < 2 → ∀ z, z < 2 → (o * 2048 + c + x * 32768 + y * 1024 + z * 512 ||| 256) = o * 2048 + c + x * 32768 + y * 1024 + z * 512 + 256 := by decide +kernel
theorem or_bit4 : ∀ o, o < 16 → ∀ c, c < 16 → ∀ x, x < 2 → ∀ y, y < 2 → ∀ z, z < 2 → ∀ u, u < 2 → (o * 2048 + c + x * 32768 + y * 1024 + z * 512 + u * 256 ||| 128) = o * 2048 + c + x * 32768 + y * 1024 + z * 512 + u * 256 + 128 := by decide +kernel
theorem bit_eq (b : Bool) (n : Nat) : ∃ x, x < 2 ∧ bit b n = x * n := by
  cases b
  · exact ⟨0, by omega, by simp [bit]⟩
  · exact ⟨1, by omega, by simp [bit]⟩
theorem codeB_nat {n : Int} (h : codeB n = true) : ∃ k : Nat, n = k ∧ k < 16 := by
  unfold codeB at h
  simp only [Bool.and_eq_true, decide_eq_true_eq] at h
  exact ⟨n.toNat, by omega, by omega⟩
/-- One more bit. -/
theorem bitsTo_or {h : Hd} (ho : codeB h.op = true) (hr : codeB h.rc = true) {j : Nat} (hj : j < 5) : bits .or .i64 ((bitsTo h j : Nat) : Int) ((2 ^ posF j : Nat) : Int) = ((bitsTo h j + 2 ^ posF j : Nat) : Int) ∧ bitsTo h j < 65536 := by
  obtain ⟨o, eo, ho2⟩ := codeB_nat ho
  obtain ⟨c, ec, hc2⟩ := codeB_nat hr
  obtain ⟨x, hx, ex⟩ := bit_eq h.resp 32768
  obtain ⟨y, hy, ey⟩ := bit_eq h.aa 1024
  obtain ⟨z, hz, ez⟩ := bit_eq h.tc 512
  obtain ⟨u, hu, eu⟩ := bit_eq h.rd 256
  have e0 : bitsTo h 0 = o * 2048 + c := by unfold bitsTo; rw [eo, ec, Int.toNat_natCast, Int.toNat_natCast]
  have e1 : bitsTo h 1 = o * 2048 + c + x * 32768 := by rw [← e0, ← ex]; rfl
  have e2 : bitsTo h 2 = o * 2048 + c + x * 32768 + y * 1024 := by rw [← e1, ← ey]; rfl
  have e3 : bitsTo h 3 = o * 2048 + c + x * 32768 + y * 1024 + z * 512 := by rw [← e2, ← ez]; rfl
  have e4 : bitsTo h 4 = o * 2048 + c + x * 32768 + y * 1024 + z * 512 + u * 256 := by rw [← e3, ← eu]; rfl
  rcases (show j = 0 ∨ j = 1 ∨ j = 2 ∨ j = 3 ∨ j = 4 by omega) with rfl | rfl | rfl | rfl | rfl
  · rw [e0, or_i64_nat _ _ (by omega) (by decide)]
    exact ⟨congrArg _ (or_bit0 o ho2 c hc2), by omega⟩
  · rw [e1, or_i64_nat _ _ (by omega) (by decide)]
    exact ⟨congrArg _ (or_bit1 o ho2 c hc2 x hx), by omega⟩
  · rw [e2, or_i64_nat _ _ (by omega) (by decide)]
    exact ⟨congrArg _ (or_bit2 o ho2 c hc2 x hx y hy), by omega⟩
  · rw [e3, or_i64_nat _ _ (by omega) (by decide)]
    exact ⟨congrArg _ (or_bit3 o ho2 c hc2 x hx y hy z hz), by omega⟩
  · rw [e4, or_i64_nat _ _ (by omega) (by decide)]
    exact ⟨congrArg _ (or_bit4 o ho2 c hc2 x hx y hy z hz u hu), by omega⟩
theorem bits_code {h : Hd} (ho : codeB h.op = true) (hr : codeB h.rc = true) : bits .or .i64 (wrap64 (h.op * 2048)) h.rc = ((bitsTo h 0 : Nat) : Int) := by
  obtain ⟨o, eo, ho2⟩ := codeB_nat ho
  obtain ⟨c, ec, hc2⟩ := codeB_nat hr
  have e0 : bitsTo h 0 = o * 2048 + c := by unfold bitsTo; rw [eo, ec, Int.toNat_natCast, Int.toNat_natCast]
  have ew : wrap64 (h.op * 2048) = ((o * 2048 : Nat) : Int) := by rw [eo]; unfold wrap64; omega
  rw [ew, ec, or_i64_nat _ _ (by omega) (by omega), e0, or_code o ho2 c hc2]

structure FBoxed (w : World) (g b : Nat) (L : List Value) : Prop where
  bg : Whole w g 25 L
  bb : Whole w b 93 [.pointer (some ⟨g, 1, none⟩), .int .i64 15, .pointer (some ⟨g, 3, none⟩), .int .i64 10, .pointer (some ⟨g, 4, none⟩), .int .i64 9, .pointer (some ⟨g, 5, none⟩), .int .i64 8, .pointer (some ⟨g, 6, none⟩), .int .i64 7]
theorem FBoxed.below {w w' : World} {g b : Nat} {L : List Value} (h : FBoxed w g b L) (hb : Below w.heap.size w w') : FBoxed w' g b L := ⟨h.bg.below hb h.bg.lt, h.bb.below hb h.bb.lt⟩
theorem FBoxed.ptr {w : World} {g b : Nat} {h : Hd} {vq va vu vx : Value} (hx : FBoxed w g b (cellsM h vq va vu vx)) {j : Nat} (hj : j < 5) :
    w.cell? ⟨b, j * 2, none⟩ = some (.pointer (some ⟨g, fldF j, none⟩)) ∧ w.cell? ⟨b, j * 2 + 1, none⟩ = some (.int .i64 (posF j)) ∧ w.cell? ⟨g, fldF j, none⟩ = some (.bool (onF h j)) := by
  rcases (show j = 0 ∨ j = 1 ∨ j = 2 ∨ j = 3 ∨ j = 4 by omega) with rfl | rfl | rfl | rfl | rfl
  · exact ⟨hx.bb.cell 0, hx.bb.cell 1, hx.bg.cell 1⟩
  · exact ⟨hx.bb.cell 2, hx.bb.cell 3, hx.bg.cell 3⟩
  · exact ⟨hx.bb.cell 4, hx.bb.cell 5, hx.bg.cell 4⟩
  · exact ⟨hx.bb.cell 6, hx.bb.cell 7, hx.bg.cell 5⟩
  · exact ⟨hx.bb.cell 8, hx.bb.cell 9, hx.bg.cell 6⟩

def BitsRel (W : World) (h : Hd) (s i : Value) (wr : World) : Prop := ∃ j : Nat, j ≤ 5 ∧ i = .int .i64 j ∧ s = .int .i64 (bitsTo h j) ∧ Below W.heap.size W wr

set_option maxRecDepth 20000 in
set_option maxHeartbeats 4000000 in
theorem bitsOf_any (h : Hd) (vq va vu vx : Value) (w : World) (ho : codeB h.op = true) (hr : codeB h.rc = true) : Calls Tryz.prog 72 #[valM h vq va vu vx] w (Gave w (.int .i64 (bitsH h))) := by
  obtain ⟨W, hW⟩ : ∃ W, W = w.alloc (.cells #[.int .i64 h.id, .bool h.resp, .int .i64 h.op, .bool h.aa, .bool h.tc, .bool h.rd, .bool h.ra, .int .i64 h.rc, vq, va, vu, vx, .bool h.edns, .int .i64 h.size] 25) := ⟨_, rfl⟩
  have hB : Below w.heap.size w W := by rw [hW]; exact (Below.refl _ _).alloc (Nat.le_refl _) _
  have hwh : Whole W w.heap.size 25 (cellsM h vq va vu vx) := by rw [hW]; exact Whole.made w _ _
  have HB := Lib.hid hB
  have HW := Lib.hid hwh
  have HF := Lib.hid (bitsTo_five h)
  clear hB hwh
  subst hW
  have HBC := Lib.hid (bits_code ho hr)
  have HOR := Lib.hid (fun j (hj : j < 5) => bitsTo_or (h := h) ho hr (j := j) hj)
  clear ho hr
  go_enter Tryz.func72, Tryz.ntmps72
  go_wp2_with fail
  refine (flags_at _ w.heap.size 0).mono ?_
  rintro e w2 ⟨b, rfl, hbb, hwb, hb2⟩
  rw [HBC.out]
  have HX2 := Lib.hid (FBoxed.mk (HW.out.below hb2 HW.out.lt) (by simpa using hwb))
  have HB2 := Lib.hid (HB.out.trans (hb2.mono HB.out.size))
  clear hwb hb2 HB HW hbb HBC
  go_wp2
  go_loopw [3, 14] (BitsRel w2 h) (fun _ i _ => 5 - (intOf i).toNat)
  case atStart => exact ⟨0, by omega, rfl, rfl, Below.refl _ _⟩
  case round =>
    obtain ⟨j, hj, rfl, rfl, hb⟩ := hrel
    have HX3 := Lib.hid (HX2.out.below hb)
    have HBW := Lib.hid hb
    clear hb
    by_cases hlt : j < 5
    · obtain ⟨p0, p1, p2⟩ := HX3.out.ptr hlt
      obtain ⟨hor, hsm⟩ := HOR.out j hlt
      have hba : Below wr.heap.size wr (wr.alloc (.cells #[.pointer (some ⟨w.heap.size, fldF j, none⟩), .int .i64 (posF j)] 93)) := (Below.refl _ _).alloc (Nat.le_refl _) _
      have hgw := HX3.out.bg.lt
      have p3 := (HX3.out.below hba).ptr hlt
      have HBA := Lib.hid (HBW.out.trans (hba.mono HBW.out.size))
      have HST := Lib.hid (show bitsTo h (j + 1) = bitsTo h j + bit (onF h j) (2 ^ posF j) from rfl)
      obtain ⟨_, _, p4⟩ := p3
      clear hba
      have hpos : posF j < 16 := by unfold posF; split <;> omega
      cases hon : onF h j with
      | false =>
        rw [hon] at p2 p4 HST
        have HE := Lib.hid (show bitsTo h (j + 1) = bitsTo h j by rw [HST.out]; rfl)
        clear HST hon
        go_wp2
        exact ⟨⟨j + 1, by omega, by go_num, by rw [HE.out], HBA.out⟩, by simp [intOf]; omega⟩
      | true =>
        rw [hon] at p2 p4 HST
        have HE := Lib.hid (show bitsTo h (j + 1) = bitsTo h j + 2 ^ posF j from HST.out)
        clear HST hon
        have HW2 := Lib.hid (show wrap64 ((2 : Int) ^ posF j) = ((2 ^ posF j : Nat) : Int) by
          have h1 : 2 ^ posF j < 2 ^ 16 := Nat.pow_lt_pow_right (by omega) hpos
          rw [show ((2 : Int) ^ posF j) = ((2 ^ posF j : Nat) : Int) by push_cast; rfl]
          revert h1
          generalize 2 ^ posF j = z
          intro h1
          unfold wrap64
          omega)
        have HOJ := Lib.hid hor
        clear hor
        go_wp2
        exact ⟨⟨j + 1, by omega, by go_num, by rw [HW2.out, HOJ.out, HE.out], HBA.out⟩, by simp [intOf]; omega⟩
    · obtain rfl : j = 5 := by omega
      go_wp2
      go_ret
      exact ⟨by rw [HF.out]; rfl, HB2.out.trans (HBW.out.mono HB2.out.size)⟩

set_option maxRecDepth 20000 in
set_option maxHeartbeats 4000000 in
theorem putQuestion_any (base : Nat) (w : World) (g : Nat) (vB vM : Value) (B : List UInt8) (R : Rs) (x : QV) (q : Qt) (h : Wr w base g vB vM B R) (hx : QAt w base x q) (hs : soundQ q = true) (hB : B.length ≤ 90000000) (hR : R.length ≤ 700000) (hG : GoodR B R) :
    Calls Tryz.prog 49 #[.pointer (some ⟨g, 0, none⟩), valQ x q] w (fun e w' => e = .returned (.tuple #[]) ∧ Penned base w g vB vM (putQ q B R).1 (putQ q B R).2 w') := by
  unfold soundQ at hs
  simp only [Bool.and_eq_true, decide_eq_true_eq] at hs
  obtain ⟨hn, _, _, _⟩ := hs
  obtain ⟨W, hW⟩ : ∃ W, W = w.alloc (.cells #[.slice x.1 q.name.length x.2, .int .i64 q.kind, .int .i64 q.cls] 46) := ⟨_, rfl⟩
  have hB0 : Below w.heap.size w W := by rw [hW]; exact (Below.refl _ _).alloc (Nat.le_refl _) _
  have hwh : Whole W w.heap.size 46 [.slice x.1 q.name.length x.2, .int .i64 q.kind, .int .i64 q.cls] := by rw [hW]; exact Whole.made w _ _
  have hbs := h.size
  have HWR := Lib.hid (h.below hB0)
  have HNB := Lib.hid (show ¬ ownF g vB vM w.heap.size from fun hj => Nat.lt_irrefl _ (h.own hj).2)
  have HQ := Lib.hid (Row.below hx (hB0.mono hbs))
  have HB0 := Lib.hid hB0
  have HW0 := Lib.hid hwh
  have HGD := Lib.hid hG
  have HE := Lib.hid (show putQ q B R = (((nameW true q.name B R).1 ++ putL [] q.kind 2) ++ putL [] q.cls 2, (nameW true q.name B R).2) from rfl)
  have hp := soundN_parts hn
  have hnl := length_nameW_le true q.name B R hp.1
  have hp2 := hp.2
  have hl2 : (putL [] q.kind 2).length ≤ 7 := by unfold putL; split <;> simp [length_digs]
  have hz : base ≤ W.heap.size := Nat.le_trans hbs hB0.size
  clear hB0 hwh h hx hG hp
  subst hW
  go_enter Tryz.func49, Tryz.ntmps49
  have HP := Lib.hid (Penned.refl HWR.out)
  go_wp2_with fail
  refine (name_sound base _ g vB vM B R x.1 q.name.length x.2 base q.name true HWR.out rfl HQ.out hz hn (by omega) (by omega) fun q hq => (HGD.out q hq).1).mono ?_
  rintro e w2 ⟨rfl, hpn⟩
  have HP := Lib.hid hpn
  clear hpn
  have p1 : w2.cell? ⟨w.heap.size, 1, none⟩ = some (.int .i64 q.kind) := Whole.cell (L := [.slice x.1 q.name.length x.2, .int .i64 q.kind, .int .i64 q.cls]) (pen_box HP.out HW0.out HNB.out) 1
  go_wp2_with fail
  obtain ⟨vB0, vM0, hw0, hg0, hf0⟩ := HP.out
  refine (num_any base w2 g vB0 vM0 _ _ q.kind 2 hw0 (by omega)).mono ?_
  rintro e w3 ⟨rfl, hpn⟩
  have HP := Lib.hid (Penned.then hg0 hf0 hpn)
  clear hpn hw0 hg0 hf0 p1
  have p2 : w3.cell? ⟨w.heap.size, 2, none⟩ = some (.int .i64 q.cls) := Whole.cell (L := [.slice x.1 q.name.length x.2, .int .i64 q.kind, .int .i64 q.cls]) (pen_box HP.out HW0.out HNB.out) 2
  go_wp2_with fail
  obtain ⟨vB1, vM1, hw1, hg1, hf1⟩ := HP.out
  refine (num_any base w3 g vB1 vM1 _ _ q.cls 2 hw1 (by simp only [List.length_append]; omega)).mono ?_
  rintro e w4 ⟨rfl, hpn⟩
  have HP := Lib.hid (Penned.then hg1 hf1 hpn)
  clear hpn hw1 hg1 hf1 p2
  go_wp2
  go_end0
  rw [HE.out]
  exact ⟨rfl, Penned.from HB0.out HP.out⟩

end Go.Proofs.YtjkjhpaeckkpjaaGreat

namespace Go.Proofs.YtjkjhpaeckkpjaaGreat
open Go.RowKit

theorem pen_below {base g : Nat} {w w' : World} {vB vM : Value} {B B0 : List UInt8} {R R0 : Rs} (h : Wr w base g vB vM B0 R0) (hp : Penned base w g vB vM B R w') : Below base w w' := by
  obtain ⟨_, _, _, hg, _⟩ := hp
  exact hg.below (fun j hj => (h.own hj).1) h.size
/-- What is written ahead of the questions, up to section j. -/
def headTo (B : List UInt8) (m : MV) : Nat → List UInt8
  | 0 => ((B ++ putL [] m.h.id 2) ++ putL [] (bitsH m.h) 2) ++ putL [] m.qp.length 2
  | j + 1 => headTo B m j ++ putL [] (m.sec j).ps.length 2
theorem length_putL2 (n : Int) : (putL [] n 2).length ≤ 7 := by unfold putL; split <;> simp [length_digs]
theorem length_headTo (B : List UInt8) (m : MV) : ∀ j, (headTo B m j).length ≤ B.length + 21 + 7 * j
  | 0 => by
    have h1 := length_putL2 m.h.id
    have h2 := length_putL2 (bitsH m.h)
    have h3 := length_putL2 m.qp.length
    show (((B ++ putL [] m.h.id 2) ++ putL [] (bitsH m.h) 2) ++ putL [] m.qp.length 2).length ≤ B.length + 21 + 7 * 0
    simp only [List.length_append]
    omega
  | j + 1 => by
    have h1 := length_headTo B m j
    have h2 := length_putL2 (m.sec j).ps.length
    show (headTo B m j ++ putL [] (m.sec j).ps.length 2).length ≤ B.length + 21 + 7 * (j + 1)
    rw [List.length_append]
    omega
def HeadRel (base : Nat) (W : World) (g : Nat) (vB vM : Value) (B : List UInt8) (R : Rs) (m : MV) (i : Value) (wr : World) : Prop := ∃ j : Nat, j ≤ 3 ∧ i = .int .i64 j ∧ Penned base W g vB vM (headTo B m j) R wr

set_option maxRecDepth 20000 in
set_option maxHeartbeats 4000000 in
theorem putHead_core (base : Nat) (w : World) (g : Nat) (vB vM : Value) (B : List UInt8) (R : Rs) (m : MV) (h : Hd) (qA : Option Addr) (qc : Nat) (qp : List (QV × Qt)) (s0 s1 s2 : Sec) (he : m = ⟨h, qA, qc, qp, s0, s1, s2⟩)
    (hw : Wr w base g vB vM B R) (ho : codeB h.op = true) (hr : codeB h.rc = true) (hB : B.length ≤ 1000) :
    Calls Tryz.prog 48 #[.pointer (some ⟨g, 0, none⟩), valM h (.slice qA qp.length qc) s0.v s1.v s2.v] w (fun e w' => e = .returned (.tuple #[]) ∧ Penned base w g vB vM (headTo B m 3) R w') := by
  obtain ⟨W, hW⟩ : ∃ W, W = w.alloc (.cells #[.int .i64 h.id, .bool h.resp, .int .i64 h.op, .bool h.aa, .bool h.tc, .bool h.rd, .bool h.ra, .int .i64 h.rc, .slice qA qp.length qc, s0.v, s1.v, s2.v, .bool h.edns, .int .i64 h.size] 25) := ⟨_, rfl⟩
  have hB0 : Below w.heap.size w W := by rw [hW]; exact (Below.refl _ _).alloc (Nat.le_refl _) _
  have hwh : Whole W w.heap.size 25 m.cells := by rw [hW, he]; exact Whole.made w _ _
  have HWR := Lib.hid (hw.below hB0)
  have HNB := Lib.hid (show ¬ ownF g vB vM w.heap.size from fun hj => Nat.lt_irrefl _ (hw.own hj).2)
  have HB0 := Lib.hid hB0
  have HW0 := Lib.hid hwh
  have HBT := Lib.hid (fun W' => bitsOf_any h (.slice qA qp.length qc) s0.v s1.v s2.v W' ho hr)
  have HZ := Lib.hid (show headTo B m 0 = ((B ++ putL [] h.id 2) ++ putL [] (bitsH h) 2) ++ putL [] qp.length 2 by rw [he]; rfl)
  have HC := Lib.hid (fun (W' : World) (hw : Whole W' w.heap.size 25 m.cells) => (show W'.cell? ⟨w.heap.size, 0, none⟩ = some (.int .i64 h.id) ∧ W'.cell? ⟨w.heap.size, 1, none⟩ = some (.bool h.resp) ∧ W'.cell? ⟨w.heap.size, 2, none⟩ = some (.int .i64 h.op) ∧ W'.cell? ⟨w.heap.size, 3, none⟩ = some (.bool h.aa) ∧
    W'.cell? ⟨w.heap.size, 4, none⟩ = some (.bool h.tc) ∧ W'.cell? ⟨w.heap.size, 5, none⟩ = some (.bool h.rd) ∧ W'.cell? ⟨w.heap.size, 6, none⟩ = some (.bool h.ra) ∧ W'.cell? ⟨w.heap.size, 7, none⟩ = some (.int .i64 h.rc) ∧ W'.cell? ⟨w.heap.size, 8, none⟩ = some (.slice qA qp.length qc) ∧
    W'.cell? ⟨w.heap.size, 9, none⟩ = some s0.v ∧ W'.cell? ⟨w.heap.size, 10, none⟩ = some s1.v ∧ W'.cell? ⟨w.heap.size, 11, none⟩ = some s2.v ∧ W'.cell? ⟨w.heap.size, 12, none⟩ = some (.bool h.edns) ∧ W'.cell? ⟨w.heap.size, 13, none⟩ = some (.int .i64 h.size) by
      rw [he] at hw
      exact ⟨hw.cell 0, hw.cell 1, hw.cell 2, hw.cell 3, hw.cell 4, hw.cell 5, hw.cell 6, hw.cell 7, hw.cell 8, hw.cell 9, hw.cell 10, hw.cell 11, hw.cell 12, hw.cell 13⟩))
  have l1 := length_putL2 h.id
  have l2 := length_putL2 (bitsH h)
  have l3 := length_putL2 qp.length
  have hmb := length_headTo B m
  have HLT := Lib.hid hmb
  have HP := Lib.hid (Penned.refl HWR.out)
  clear hB0 hwh hw ho hr he hmb
  subst hW
  go_enter Tryz.func48, Tryz.ntmps48
  go_wp2_with fail
  refine (num_any base _ g vB vM B R h.id 2 HWR.out (by omega)).mono ?_
  rintro e w1 ⟨rfl, hpn⟩
  have HP := Lib.hid hpn
  clear hpn
  obtain ⟨c0, c1, c2, c3, c4, c5, c6, c7, c8, c9, c10, c11, c12, c13⟩ := HC.out w1 (pen_box HP.out HW0.out HNB.out)
  go_wp2_with fail
  refine (HBT.out _).mono ?_
  rintro e w2 ⟨rfl, hb2⟩
  clear c0 c1 c2 c3 c4 c5 c6 c7 c8 c9 c10 c11 c12 c13
  obtain ⟨vB1, vM1, hw1, hg1, hf1⟩ := HP.out
  have HWR2 := Lib.hid (hw1.below hb2)
  have HG2 := Lib.hid (hg1.then_below hb2)
  have HF2 := Lib.hid hf1
  clear hw1 hg1 hf1 hb2 HP
  go_wp2_with fail
  refine (num_any base w2 g vB1 vM1 _ _ (bitsH h) 2 HWR2.out (by simp only [List.length_append]; omega)).mono ?_
  rintro e w3 ⟨rfl, hpn⟩
  have HP := Lib.hid (Penned.then HG2.out HF2.out hpn)
  clear hpn HWR2 HG2 HF2
  have c8 := (HC.out w3 (pen_box HP.out HW0.out HNB.out)).2.2.2.2.2.2.2.2.1
  go_wp2_with fail
  obtain ⟨vB2, vM2, hw2, hg2, hf2⟩ := HP.out
  refine (num_any base w3 g vB2 vM2 _ _ qp.length 2 hw2 (by simp only [List.length_append]; omega)).mono ?_
  rintro e w4 ⟨rfl, hpn⟩
  have HP := Lib.hid (Penned.then hg2 hf2 hpn)
  clear hpn hw2 hg2 hf2 c8
  rw [← HZ.out] at HP
  go_wp2_with fail
  refine (sections_any w4 w.heap.size).mono ?_
  rintro e w5 ⟨b, rfl, hbb, hwb, hb5⟩
  obtain ⟨vB3, vM3, hw3, hg3, hf3⟩ := HP.out
  have HNB5 := Lib.hid (show ¬ ownF g vB3 vM3 b from fun hj => by have := (hw3.own hj).2; omega)
  have HNW5 := Lib.hid (show ¬ ownF g vB3 vM3 w.heap.size from fun hj => by
    rcases hf3 _ hj with h1 | h1
    · exact HNB.out h1
    · have := HW0.out.lt
      omega)
  have HX5 := Lib.hid (Boxed.mk (m := m) ((pen_box HP.out HW0.out HNB.out).below hb5 (pen_box HP.out HW0.out HNB.out).lt) hwb)
  have HWR5 := Lib.hid (hw3.below hb5)
  have HG5 := Lib.hid (hg3.then_below hb5)
  have HF5 := Lib.hid hf3
  clear hw3 hg3 hf3 hb5 hwb hbb HP HW0 HNB l1 l2 l3
  go_wp2
  go_loopw [21] (HeadRel base w5 g vB3 vM3 B R m) (fun i _ => 3 - (intOf i).toNat)
  case atStart => exact ⟨0, by omega, rfl, Penned.refl HWR5.out⟩
  case round =>
    obtain ⟨j, hj, rfl, hp⟩ := hrel
    have HP := Lib.hid hp
    have HXR := Lib.hid (Boxed.mk (m := m) (pen_box hp HX5.out.bg HNW5.out) (pen_box hp HX5.out.bb HNB5.out))
    have HLJ := Lib.hid (show (headTo B m j).length ≤ 140737488354000 by have := HLT.out j; omega)
    clear hp
    by_cases hlt : j < 3
    · obtain ⟨p0, p1⟩ := HXR.out.ptr hlt
      have HN := Lib.hid (show headTo B m (j + 1) = headTo B m j ++ putL [] (m.sec j).ps.length 2 from rfl)
      revert p1 HN
      generalize m.sec j = s
      obtain ⟨sA, sc, ps⟩ := s
      intro p1 HN
      dsimp only at *
      obtain ⟨vB4, vM4, hw4, hg4, hf4⟩ := HP.out
      have HW4 := Lib.hid hw4
      have HG4 := Lib.hid hg4
      have HF4 := Lib.hid hf4
      clear hw4 hg4 hf4
      go_wp2_with fail
      refine (num_any base wr g vB4 vM4 _ _ ps.length 2 HW4.out HLJ.out).mono ?_
      rintro e w6 ⟨rfl, hpn⟩
      have HP6 := Lib.hid (show Penned base w5 g vB3 vM3 (headTo B m (j + 1)) R w6 by rw [HN.out]; exact Penned.then HG4.out HF4.out hpn)
      clear hpn
      go_wp2
      exact ⟨⟨j + 1, by omega, by go_num, HP6.out⟩, by simp [intOf]; omega⟩
    · obtain rfl : j = 3 := by omega
      go_wp2
      go_end0
      exact ⟨rfl, Penned.from HB0.out (Penned.then HG5.out HF5.out HP.out)⟩

theorem putHead_any (base : Nat) (w : World) (g : Nat) (vB vM : Value) (B : List UInt8) (R : Rs) (m : MV) (hw : Wr w base g vB vM B R) (ho : codeB m.h.op = true) (hr : codeB m.h.rc = true) (hB : B.length ≤ 1000) :
    Calls Tryz.prog 48 #[.pointer (some ⟨g, 0, none⟩), m.val] w (fun e w' => e = .returned (.tuple #[]) ∧ Penned base w g vB vM (headTo B m 3) R w') :=
  putHead_core base w g vB vM B R m m.h m.qA m.qc m.qp m.s0 m.s1 m.s2 rfl hw ho hr hB

end Go.Proofs.YtjkjhpaeckkpjaaGreat

namespace Go.Proofs.YtjkjhpaeckkpjaaGreat
open Go.RowKit

theorem putL_digs {n s : Int} (h : fitB n s = true) : putL [] n s = digs n.toNat s.toNat := by
  unfold putL
  rw [if_pos h, List.nil_append]
theorem fit2 {n : Int} (h : fitB n 2 = true) : 0 ≤ n ∧ n < 65536 ∧ putL [] n 2 = digs n.toNat 2 ∧ n.toNat < 2 ^ (8 * 2) := by
  have h2 := putL_digs h
  unfold fitB at h
  simp only [decide_eq_true_eq] at h
  obtain ⟨_, _, h0, h1⟩ := h
  have h1' : n < 65536 := h1
  exact ⟨h0, h1', h2, by simp; omega⟩
theorem fit2_of {n : Int} (h0 : 0 ≤ n) (h1 : n < 65536) : fitB n 2 = true := fitB_true (by omega) (by omega) h0 (by simpa using h1)

theorem putQ_back {q : Qt} {B : List UInt8} {R : Rs} (hs : soundQ q = true) (G : GoodR B R) :
    (∃ S, (putQ q B R).1 = B ++ S) ∧ GoodR (putQ q B R).1 (putQ q B R).2 ∧ (putQ q B R).1.length ≤ B.length + 70000 ∧ (putQ q B R).2.length ≤ R.length + 900 ∧ ∀ Y, getQ ((putQ q B R).1 ++ Y) B.length = (q, (putQ q B R).1.length, 0) := by
  unfold soundQ at hs
  simp only [Bool.and_eq_true, decide_eq_true_eq] at hs
  obtain ⟨hn, hk0, hk, hc⟩ := hs
  obtain ⟨k0, k1, k2, k3⟩ := fit2 hk
  obtain ⟨c0, c1, c2, c3⟩ := fit2 hc
  have hp := soundN_parts hn
  obtain ⟨⟨S0, hS0⟩, hat, hg⟩ := nameW_good (short := true) hp.1 G
  have hlx := length_nameW_le true q.name B R hp.1
  have a1 := length_nameW_rests true q.name B R
  have a2 := length_lt_szN q.name
  obtain ⟨P, hP⟩ : ∃ P, P = (nameW true q.name B R).1 := ⟨_, rfl⟩
  have e : putQ q B R = ((P ++ digs q.kind.toNat 2) ++ digs q.cls.toNat 2, (nameW true q.name B R).2) := by unfold putQ; rw [k2, c2, hP]
  have hl : (putQ q B R).1.length = P.length + 4 := by rw [e]; simp [length_digs]
  refine ⟨⟨S0 ++ (digs q.kind.toNat 2 ++ digs q.cls.toNat 2), by rw [e, hP, hS0]; simp⟩, by rw [e, hP]; exact (hg.more _).more _, by rw [hl, hP]; omega, by rw [e]; dsimp only; omega, fun Y => ?_⟩
  have hB : (putQ q B R).1 ++ Y = P ++ ((digs q.kind.toNat 2 ++ digs q.cls.toNat 2) ++ Y) := by rw [e]; simp only [List.append_assoc]
  have hw : getW ((putQ q B R).1 ++ Y) B.length = (q.name, P.length, 0) := by
    rw [getW_at, hB]
    have := (nameR_back (en := 0) (hat.more ((digs q.kind.toNat 2 ++ digs q.cls.toNat 2) ++ Y)) (by have := hat.pos; omega) hp.2).1
    rw [← hP] at this
    exact this
  have n0 : numAt ((putQ q B R).1 ++ Y) P.length 2 = q.kind.toNat := by
    rw [hB]
    have := numAt_digs (P := P) (Q := digs q.cls.toNat 2 ++ Y) k3
    simpa only [List.append_assoc] using this
  have n1 : numAt ((putQ q B R).1 ++ Y) (P.length + 2) 2 = q.cls.toNat := by
    rw [hB]
    have := numAt_digs (P := P ++ digs q.kind.toNat 2) (Q := Y) c3
    rw [List.length_append, length_digs] at this
    simpa only [List.append_assoc] using this
  unfold getQ
  rw [hw]
  dsimp only
  rw [if_neg (by simp), if_neg (by rw [List.length_append, hl]; omega), n0, n1, if_neg (by omega), hl]
  have e1 : ((q.kind.toNat : Nat) : Int) = q.kind := by omega
  have e2 : ((q.cls.toNat : Nat) : Int) = q.cls := by omega
  rw [e1, e2]

/-- What has been written: it began so, it is good, and not too long. -/
structure GrownS (s t : List UInt8 × Rs) (n : Nat) : Prop where
  x : ∃ S, t.1 = s.1 ++ S
  g : GoodR t.1 t.2
  l : t.1.length ≤ s.1.length + 70000 * n
  r : t.2.length ≤ s.2.length + 900 * n
theorem GrownS.step {s t u : List UInt8 × Rs} {n : Nat} (h : GrownS s t 1) (k : GrownS t u n) : GrownS s u (n + 1) := by
  obtain ⟨S, hS⟩ := h.x
  obtain ⟨T, hT⟩ := k.x
  have h1 := h.l
  have h2 := h.r
  have h3 := k.l
  have h4 := k.r
  exact ⟨⟨S ++ T, by rw [hT, hS, List.append_assoc]⟩, k.g, by omega, by omega⟩
theorem putQs_good : ∀ (qs : List Qt) (s : List UInt8 × Rs), GoodR s.1 s.2 → (∀ q ∈ qs, soundQ q = true) → GrownS s (putQs qs s) qs.length
  | [], s, hg, _ => ⟨⟨[], by simp [putQs]⟩, hg, Nat.le_refl _, Nat.le_refl _⟩
  | q :: qs, s, hg, hq => by
    obtain ⟨h1, h2, h3, h4, _⟩ := putQ_back (hq q (List.mem_cons_self ..)) hg
    exact GrownS.step (t := putQ q s.1 s.2) ⟨h1, h2, h3, h4⟩ (putQs_good qs (putQ q s.1 s.2) h2 fun x hx => hq x (List.mem_cons_of_mem _ hx))
theorem putRs_good : ∀ (rs : List Rt) (s : List UInt8 × Rs), GoodR s.1 s.2 → (∀ r ∈ rs, SoundR r) → GrownS s (putRs rs s) rs.length
  | [], s, hg, _ => ⟨⟨[], by simp [putRs]⟩, hg, Nat.le_refl _, Nat.le_refl _⟩
  | r :: rs, s, hg, hr => by
    obtain ⟨h1, h2, h3, h4, _⟩ := putRR_back (hr r (List.mem_cons_self ..)) hg
    exact GrownS.step (t := putRR r s.1 s.2) ⟨h1, h2, h3, h4⟩ (putRs_good rs (putRR r s.1 s.2) h2 fun x hx => hr x (List.mem_cons_of_mem _ hx))
theorem getQs_back : ∀ (qs : List Qt) (s : List UInt8 × Rs) (Y : List UInt8) (l : List Qt), GoodR s.1 s.2 → (∀ q ∈ qs, soundQ q = true) →
    getQs ((putQs qs s).1 ++ Y) qs.length s.1.length l = .ok (l ++ qs, (putQs qs s).1.length)
  | [], s, Y, l, _, _ => by simp [putQs, getQs]
  | q :: qs, s, Y, l, hg, hq => by
    obtain ⟨_, h2, _, _, h5⟩ := putQ_back (hq q (List.mem_cons_self ..)) hg
    have hqs := fun x hx => hq x (List.mem_cons_of_mem q hx)
    obtain ⟨S, hS⟩ := (putQs_good qs (putQ q s.1 s.2) h2 hqs).x
    have e : putQs (q :: qs) s = putQs qs (putQ q s.1 s.2) := rfl
    have h6 := h5 (S ++ Y)
    rw [← List.append_assoc, ← hS] at h6
    rw [e, List.length_cons]
    unfold getQs
    rw [h6]
    dsimp only
    rw [if_neg (by simp), getQs_back qs (putQ q s.1 s.2) Y (l ++ [q]) h2 hqs]
    simp
theorem getRs_more (b : List UInt8) (last : Bool) (n : Nat) : ∀ (m : Nat) (s : Rd), getRs b last (m + n) s = getRs b last m s >>= getRs b last n
  | 0, s => by simp only [Nat.zero_add, getRs]; rfl
  | m + 1, s => by
    rw [show m + 1 + n = (m + n) + 1 by omega]
    simp only [getRs]
    cases h : stepR b last s with
    | error k => rfl
    | ok t => exact getRs_more b last n m t
theorem getRs_back (last : Bool) (e : Bool) (z : Int) : ∀ (rs : List Rt) (s : List UInt8 × Rs) (Y : List UInt8) (l : List Rt), GoodR s.1 s.2 → (∀ r ∈ rs, soundX r = true) →
    getRs ((putRs rs s).1 ++ Y) last rs.length ⟨l, s.1.length, e, z⟩ = .ok ⟨l ++ rs, (putRs rs s).1.length, e, z⟩
  | [], s, Y, l, _, _ => by simp [putRs, getRs]
  | r :: rs, s, Y, l, hg, hr => by
    obtain ⟨hk, hr0⟩ := soundX_iff.1 (hr r (List.mem_cons_self ..))
    obtain ⟨_, h2, _, _, h5⟩ := putRR_back hr0 hg
    have hrs := fun x hx => hr x (List.mem_cons_of_mem r hx)
    obtain ⟨S, hS⟩ := (putRs_good rs (putRR r s.1 s.2) h2 fun x hx => (soundX_iff.1 (hrs x hx)).2).x
    have e0 : putRs (r :: rs) s = putRs rs (putRR r s.1 s.2) := rfl
    have h6 := h5 (S ++ Y)
    rw [← List.append_assoc, ← hS] at h6
    rw [e0, List.length_cons]
    unfold getRs stepR addR
    dsimp only
    rw [h6]
    dsimp only
    rw [if_neg (by simp), if_neg hk]
    have h7 := getRs_back last e z rs (putRR r s.1 s.2) Y (l ++ [r]) h2 hrs
    show getRs ((putRs rs (putRR r s.1 s.2)).1 ++ Y) last rs.length ⟨l ++ [r], (putRR r s.1 s.2).1.length, e, z⟩ = _
    rw [h7]
    simp

theorem opt_sound {n : Int} (h : fitB n 2 = true) : SoundR (optR n) := by
  refine ⟨show soundN [] = true by decide, show soundD 41 ⟨[], [], [], [], []⟩ = true by decide +kernel, h, Int.le_refl _, by show (0 : Int) ≤ 2147483647; omega⟩
theorem Mt.exX_sound {m : Mt} (hs : SoundM m) : ∀ r ∈ m.exX, SoundR r := by
  intro r hr
  unfold Mt.exX at hr
  rcases List.mem_append.1 hr with h | h
  · exact (soundX_iff.1 (hs.r r (List.mem_append_right _ (List.mem_append_right _ h)))).2
  · split at h
    · rw [List.mem_singleton.1 h]
      have hh := hs.h
      unfold soundH at hh
      simp only [Bool.and_eq_true] at hh
      exact opt_sound hh.2.2.2.1
    · exact absurd h (List.not_mem_nil)
theorem length_exX (m : Mt) : m.exX.length = m.ex.length + (if m.h.edns = true then 1 else 0) := by
  unfold Mt.exX
  rw [List.length_append]
  split <;> rfl

/-- The six numbers of a head. -/
theorem head_nums {a b c d e f : Nat} (ha : a < 65536) (hb : b < 65536) (hc : c < 65536) (hd : d < 65536) (he : e < 65536) (hf : f < 65536) (Z : List UInt8) :
    let X := (((((digs a 2 ++ digs b 2) ++ digs c 2) ++ digs d 2) ++ digs e 2) ++ digs f 2) ++ Z
    numAt X 0 2 = a ∧ numAt X 2 2 = b ∧ numAt X 4 2 = c ∧ numAt X 6 2 = d ∧ numAt X 8 2 = e ∧ numAt X 10 2 = f := by
  intro X
  have p16 : (2 : Nat) ^ (8 * 2) = 65536 := rfl
  refine ⟨?_, ?_, ?_, ?_, ?_, ?_⟩
  · have := numAt_digs (P := []) (Q := digs b 2 ++ (digs c 2 ++ (digs d 2 ++ (digs e 2 ++ (digs f 2 ++ Z))))) (m := a) (s := 2) (by omega)
    simpa only [X, List.append_assoc, List.nil_append, List.length_nil] using this
  · have := numAt_digs (P := digs a 2) (Q := digs c 2 ++ (digs d 2 ++ (digs e 2 ++ (digs f 2 ++ Z)))) (m := b) (s := 2) (by omega)
    simpa only [X, List.append_assoc, length_digs] using this
  · have := numAt_digs (P := digs a 2 ++ digs b 2) (Q := digs d 2 ++ (digs e 2 ++ (digs f 2 ++ Z))) (m := c) (s := 2) (by omega)
    simpa only [X, List.append_assoc, List.length_append, length_digs] using this
  · have := numAt_digs (P := (digs a 2 ++ digs b 2) ++ digs c 2) (Q := digs e 2 ++ (digs f 2 ++ Z)) (m := d) (s := 2) (by omega)
    simpa only [X, List.append_assoc, List.length_append, length_digs] using this
  · have := numAt_digs (P := ((digs a 2 ++ digs b 2) ++ digs c 2) ++ digs d 2) (Q := digs f 2 ++ Z) (m := e) (s := 2) (by omega)
    simpa only [X, List.append_assoc, List.length_append, length_digs] using this
  · have := numAt_digs (P := (((digs a 2 ++ digs b 2) ++ digs c 2) ++ digs d 2) ++ digs e 2) (Q := Z) (m := f) (s := 2) (by omega)
    simpa only [X, List.append_assoc, List.length_append, length_digs] using this

theorem head_eq {m : Mt} (hs : SoundM m) : m.head = ((((digs m.h.id.toNat 2 ++ digs (bitsH m.h) 2) ++ digs m.qs.length 2) ++ digs m.an.length 2) ++ digs m.au.length 2) ++ digs m.exX.length 2 := by
  have hh := hs.h
  unfold soundH at hh
  simp only [Bool.and_eq_true] at hh
  obtain ⟨hi, ho, hr, _, _⟩ := hh
  have hb := bitsH_lt ho hr
  have hx := length_exX m
  have hn := hs.n
  have hx2 : m.exX.length ≤ m.ex.length + 1 := by rw [hx]; split <;> omega
  have e : ∀ n : Nat, n < 65536 → putL [] (n : Int) 2 = digs n 2 := fun n hn => by
    have h := (fit2 (fit2_of (n := (n : Int)) (by omega) (by omega))).2.2.1
    rwa [Int.toNat_natCast] at h
  unfold Mt.head headM
  rw [(fit2 hi).2.2.1, e _ hb, e _ (by omega), e _ (by omega), e _ (by omega), e _ (by omega)]
theorem length_head {m : Mt} (hs : SoundM m) : m.head.length = 12 := by rw [head_eq hs]; simp [length_digs]

/-- What is written of a sound message, in its parts. -/
theorem enc_parts {m : Mt} (hs : SoundM m) : GrownS (m.head, []) (putQs m.qs (m.head, [])) m.qs.length ∧ GrownS (putQs m.qs (m.head, [])) (putRs m.an (putQs m.qs (m.head, []))) m.an.length ∧
    GrownS (putRs m.an (putQs m.qs (m.head, []))) (putRs m.au (putRs m.an (putQs m.qs (m.head, [])))) m.au.length ∧
    GrownS (putRs m.au (putRs m.an (putQs m.qs (m.head, [])))) (putRs m.ex (putRs m.au (putRs m.an (putQs m.qs (m.head, []))))) m.ex.length ∧
    GrownS (putRs m.ex (putRs m.au (putRs m.an (putQs m.qs (m.head, []))))) (putRs m.exX (putRs m.au (putRs m.an (putQs m.qs (m.head, []))))) 1 := by
  have hr : ∀ r ∈ m.all, SoundR r := fun r h => (soundX_iff.1 (hs.r r h)).2
  have h1 := putQs_good m.qs (m.head, []) (GoodR.nil _) hs.q
  have h2 := putRs_good m.an _ h1.g fun r h => hr r (List.mem_append_left _ h)
  have h3 := putRs_good m.au _ h2.g fun r h => hr r (List.mem_append_right _ (List.mem_append_left _ h))
  have h4 := putRs_good m.ex _ h3.g fun r h => hr r (List.mem_append_right _ (List.mem_append_right _ h))
  refine ⟨h1, h2, h3, h4, ?_⟩
  have e : putRs m.exX (putRs m.au (putRs m.an (putQs m.qs (m.head, [])))) = putRs (if m.h.edns = true then [optR m.h.size] else []) (putRs m.ex (putRs m.au (putRs m.an (putQs m.qs (m.head, []))))) := putRs_append _ _ _
  rw [e]
  split
  · have hh := hs.h
    unfold soundH at hh
    simp only [Bool.and_eq_true] at hh
    exact putRs_good [optR m.h.size] _ h4.g fun r h => by rw [List.mem_singleton.1 h]; exact opt_sound hh.2.2.2.1
  · exact ⟨⟨[], by simp [putRs]⟩, h4.g, by simp [putRs], by simp [putRs]⟩
theorem enc_eq (m : Mt) : encM m = (putRs m.exX (putRs m.au (putRs m.an (putQs m.qs (m.head, []))))).1 := by
  unfold encM
  rw [putRs_append, putRs_append]

theorem dec_enc {m : Mt} (hs : SoundM m) (Y : List UInt8) (hl : (encM m ++ Y).length ≤ 65535) : decM (encM m ++ Y) = if Y = [] then .ok m else .error 7 := by
  obtain ⟨h1, h2, h3, h4, h5⟩ := enc_parts hs
  obtain ⟨S5, e5⟩ := h5.x
  obtain ⟨S4, e4⟩ := h4.x
  obtain ⟨S3, e3⟩ := h3.x
  obtain ⟨S2, e2⟩ := h2.x
  obtain ⟨S1, e1⟩ := h1.x
  have hh := hs.h
  have hhd := hdOf_bits hh
  unfold soundH at hh
  simp only [Bool.and_eq_true] at hh
  obtain ⟨hi, ho, hr, hz, hez⟩ := hh
  have hb := bitsH_lt ho hr
  have hx := length_exX m
  have hn := hs.n
  have hx2 : m.exX.length ≤ m.ex.length + 1 := by rw [hx]; split <;> omega
  have h12 := length_head hs
  have hE : encM m = ((((m.head ++ S1) ++ S2) ++ S3) ++ S4) ++ S5 := by rw [enc_eq, e5, e4, e3, e2, e1]
  have hlen : (encM m ++ Y).length = 12 + (S1.length + S2.length + S3.length + S4.length + S5.length + Y.length) := by
    rw [hE]
    simp only [List.length_append, h12]
    omega
  obtain ⟨n0, n1, n2, n3, n4, n5⟩ := head_nums (a := m.h.id.toNat) (b := bitsH m.h) (c := m.qs.length) (d := m.an.length) (e := m.au.length) (f := m.exX.length)
    (by have := (fit2 hi).1; have := (fit2 hi).2.1; omega) hb (by omega) (by omega) (by omega) (by omega) (S1 ++ (S2 ++ (S3 ++ (S4 ++ (S5 ++ Y)))))
  rw [← head_eq hs] at n0 n1 n2 n3 n4 n5
  have hX : m.head ++ (S1 ++ (S2 ++ (S3 ++ (S4 ++ (S5 ++ Y))))) = encM m ++ Y := by rw [hE]; simp only [List.append_assoc]
  rw [hX] at n0 n1 n2 n3 n4 n5
  have g1 := getQs_back m.qs (m.head, []) (S2 ++ (S3 ++ (S4 ++ (S5 ++ Y)))) [] (GoodR.nil _) hs.q
  rw [e1] at g1
  rw [show (m.head, ([] : Rs)).1 = m.head from rfl, h12] at g1
  have hr1 := fun r (h : r ∈ m.an) => hs.r r (List.mem_append_left _ h)
  have hr2 := fun r (h : r ∈ m.au) => hs.r r (List.mem_append_right _ (List.mem_append_left _ h))
  have hr3 := fun r (h : r ∈ m.ex) => hs.r r (List.mem_append_right _ (List.mem_append_right _ h))
  have g2 := getRs_back false false 0 m.an (putQs m.qs (m.head, [])) (S3 ++ (S4 ++ (S5 ++ Y))) [] h1.g hr1
  have g3 := getRs_back false false 0 m.au _ (S4 ++ (S5 ++ Y)) [] h2.g hr2
  have g4 := getRs_back true false 0 m.ex _ (S5 ++ Y) [] h3.g hr3
  have w1 : (putQs m.qs (m.head, [])).1 ++ (S2 ++ (S3 ++ (S4 ++ (S5 ++ Y)))) = encM m ++ Y := by rw [e1, hE]; simp only [List.append_assoc]
  have w2 : (putRs m.an (putQs m.qs (m.head, []))).1 ++ (S3 ++ (S4 ++ (S5 ++ Y))) = encM m ++ Y := by rw [e2, e1, hE]; simp only [List.append_assoc]
  have w3 : (putRs m.au (putRs m.an (putQs m.qs (m.head, [])))).1 ++ (S4 ++ (S5 ++ Y)) = encM m ++ Y := by rw [e3, e2, e1, hE]; simp only [List.append_assoc]
  have w4 : (putRs m.ex (putRs m.au (putRs m.an (putQs m.qs (m.head, []))))).1 ++ (S5 ++ Y) = encM m ++ Y := by rw [e4, e3, e2, e1, hE]; simp only [List.append_assoc]
  rw [w2] at g2
  rw [w3] at g3
  rw [w4] at g4
  rw [← e1, w1] at g1
  simp only [List.nil_append] at g1 g2 g3 g4
  have g5 : getRs (encM m ++ Y) true m.exX.length ⟨[], (putRs m.au (putRs m.an (putQs m.qs (m.head, [])))).1.length, false, 0⟩ = .ok ⟨m.ex, (encM m).length, m.h.edns, m.h.size⟩ := by
    rw [hx, getRs_more, g4]
    show getRs (encM m ++ Y) true (if m.h.edns = true then 1 else 0) _ = _
    have e6 : putRs m.exX (putRs m.au (putRs m.an (putQs m.qs (m.head, [])))) = putRs (if m.h.edns = true then [optR m.h.size] else []) (putRs m.ex (putRs m.au (putRs m.an (putQs m.qs (m.head, []))))) := putRs_append _ _ _
    cases hed : m.h.edns with
    | false =>
      rw [hed] at e6 hez
      simp only [Bool.false_eq_true, if_false, Bool.false_or, decide_eq_true_eq] at e6 hez ⊢
      rw [show putRs [] (putRs m.ex (putRs m.au (putRs m.an (putQs m.qs (m.head, []))))) = putRs m.ex (putRs m.au (putRs m.an (putQs m.qs (m.head, [])))) from rfl] at e6
      rw [enc_eq, e6, hez]
      rfl
    | true =>
      rw [hed] at e6
      simp only [if_true] at e6 ⊢
      rw [show putRs [optR m.h.size] (putRs m.ex (putRs m.au (putRs m.an (putQs m.qs (m.head, []))))) = putRR (optR m.h.size) (putRs m.ex (putRs m.au (putRs m.an (putQs m.qs (m.head, []))))).1 (putRs m.ex (putRs m.au (putRs m.an (putQs m.qs (m.head, []))))).2 from rfl] at e6
      obtain ⟨_, _, _, _, k5⟩ := putRR_back (opt_sound hz) h4.g
      have k6 := k5 Y
      rw [← e6, ← enc_eq] at k6
      unfold getRs stepR
      dsimp only
      rw [k6]
      dsimp only
      rw [if_neg (by simp)]
      rfl
  unfold decM
  rw [if_neg (by omega), if_neg (by omega), n2, n3, n4, n5, if_neg (by omega), g1]
  show (getRs (encM m ++ Y) false m.an.length ⟨[], (putQs m.qs (m.head, [])).1.length, false, 0⟩ >>= _) = _
  rw [g2]
  show (getRs (encM m ++ Y) false m.au.length ⟨[], (putRs m.an (putQs m.qs (m.head, []))).1.length, false, 0⟩ >>= _) = _
  rw [g3]
  show (getRs (encM m ++ Y) true m.exX.length ⟨[], (putRs m.au (putRs m.an (putQs m.qs (m.head, [])))).1.length, false, 0⟩ >>= _) = _
  rw [g5]
  show (if (encM m).length < (encM m ++ Y).length then Except.error 7 else Except.ok _) = _
  rw [n0, n1]
  cases Y with
  | nil => rw [if_neg (by simp), if_pos rfl, hhd]
  | cons y Y => rw [if_pos (by simp), if_neg (by simp)]

end Go.Proofs.YtjkjhpaeckkpjaaGreat
