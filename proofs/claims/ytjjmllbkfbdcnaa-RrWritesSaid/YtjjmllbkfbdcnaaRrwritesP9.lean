/-
  RrWrites, whole: rr.Put says of each record whether it may be, as rr.Sound does, and writes what the document asks, one behind the other, up to 100,000 bytes; a Writer that is not there is refused; up to 60 records of up to 200 labels in each name, 100 texts, 100 numbers and 66,000 bytes (the statement looks at no others). No condition.
-/
import Derived.Test.YtjjmllbkfbdcnaaRrwritesP2
import Derived.Deep.RegionHeld3
import Derived.Deep.RegionLaw
import Derived.Test.YtjjmllbkfbdcnaaRrwritesP8
import Derived.Test.YtjjmllbkfbdcnaaRrwritesP5
import Derived.Test.YtjjmllbkfbdcnaaRrwritesP6
import Derived.Test.YtjjmllbkfbdcnaaRrwritesP1
namespace Go.Proofs.Ytjjmllbkfbdcnaa
open Go.RowKit

/-- copy into a row that is known whole, as one step of a region that draws: nothing but that row turns. -/
theorem step_copy_at {P : Program} {ops : Array Oper} {o : Oper} {a : Act} {w : World} {K : Act → World → Prop} {Q : Exit → Act → World → Prop} {E : Prop} (hgd : o.guard = none) (d s : Operand) (dT sT : TypeId)
    (ho : o.op = .call { callee := .builtin .copy, args := #[d, s], argTypes := #[dT, sT] }) (elem : TypeId) (hu : P.underlying dT = some (.slice elem)) (hsz : (P.info? elem).map (·.size) = some 1)
    (sp : Option Addr) (dLen dCap sLen sCap : Nat) (g off : Nat) (hd : a.eval d = .slice (some ⟨g, off, none⟩) dLen dCap) (hs : a.eval s = .slice sp sLen sCap)
    (cur : List Value) (t : TypeId) (hg : w.heap[g]? = some (.cells cur.toArray t (0, 0))) (H : Nat) (cs : List Value) (hn : cs.length = Nat.min sLen dLen) (hpos : 0 < cs.length) (hr : Row w H sp cs)
    (hfit : off + cs.length ≤ cur.length) (h1 : ∀ v ∈ cs, v.oneCell' = true)
    (h : ∀ w', Hid (w'.heap[g]? = some (.cells (splice cur off cs).toArray t (0, 0))) → Grew (· = g) w w' → K (a.put o.dst (goInt cs.length)) w') :
    if Region.wanted o (yielded ops a.tmps) = true then Oper.wp P o a w K Q else E := by
  have hw : Region.wanted o (yielded ops a.tmps) = true := by simp [Region.wanted, hgd]
  rw [if_pos hw]
  obtain ⟨ad, rfl, hsrc⟩ := hr.pos hpos
  have hrun := run_copy_row (P := P) w dT sT o.type elem g off dLen dCap ad sLen sCap cur.toArray t cs hu hsz hg hn hsrc (by simpa using hfit) h1
  unfold Oper.wp
  simp [execOp, ho, resolve, invoke, builtin, hd, hs, hrun, Result.andThen]
  refine h _ (show _ = _ by simpa [splice] using setRow_heap w g _ _ t _ hg) ⟨rfl, rfl, rfl, by simp, fun k _ hk => ?_⟩
  exact setRow_other w g k _ hk

/-- B with l in the place of the bytes from p on. -/
def setB (B : List UInt8) (p : Nat) (l : List UInt8) : List UInt8 := B.take p ++ (l ++ B.drop (p + l.length))
theorem length_setB {B : List UInt8} {p : Nat} {l : List UInt8} (h : p + l.length ≤ B.length) : (setB B p l).length = B.length := by
  simp [setB]; omega
theorem take_splice {α : Type} {L M : List α} {p m : Nat} {cs : List α} (hL : L.take m = M) (hm : M.length = m) (hp : p + cs.length ≤ m) : (splice L p cs).take m = M.take p ++ (cs ++ M.drop (p + cs.length)) := by
  have hml : m ≤ L.length := by rw [← hL, List.length_take] at hm; omega
  unfold splice
  rw [← hL, List.take_take, Nat.min_eq_left (by omega), List.take_append, List.take_append]
  simp only [List.length_take, List.drop_take]
  congr 1
  · rw [List.take_take]; congr 1; omega
  · congr 1
    · exact List.take_of_length_le (by omega)
    · congr 1; omega

set_option maxHeartbeats 400000 in
theorem set_misfit (p : Value) (q n s : Int) (w : World) (hf : fitB n s = false) :
    Calls Try.prog 61 #[p, .int .i64 q, .int .i64 n, .int .i64 s] w (Told w (.int .i64 1)) := by
  have HF := Lib.hid (fun W => fits_any n s W)
  rw [hf] at HF
  clear hf
  go_enter Try.func61, Try.ntmps61
  go_wp2_with fail
  refine (HF.out _).mono ?_
  rintro e w' ⟨rfl, rfl⟩
  go_wp2
  go_ret
  exact ⟨rfl, rfl⟩

set_option maxHeartbeats 400000 in
theorem set_neg (p : Value) (q n s : Int) (w : World) (hf : fitB n s = true) (hq : q < 0) :
    Calls Try.prog 61 #[p, .int .i64 q, .int .i64 n, .int .i64 s] w (Told w (.int .i64 1)) := by
  have HF := Lib.hid (fun W => fits_any n s W)
  rw [hf] at HF
  have d1 : decide (q < 0) = true := by simp; omega
  clear hf
  go_enter Try.func61, Try.ntmps61
  go_wp2_with fail
  refine (HF.out _).mono ?_
  rintro e w' ⟨rfl, rfl⟩
  go_wp2
  go_ret
  exact ⟨rfl, rfl⟩

theorem fitB_size {n s : Int} (hf : fitB n s = true) : 1 ≤ s ∧ s ≤ 7 ∧ 0 ≤ n := by
  simp only [fitB, decide_eq_true_eq] at hf
  exact ⟨hf.1, hf.2.1, hf.2.2.1⟩

set_option maxHeartbeats 400000 in
theorem set_far (base : Nat) (w : World) (g : Nat) (vB vM : Value) (B : List UInt8) (R : Rs) (q n s : Int) (h : Wr w base g vB vM B R) (hB : B.length ≤ 1000000000) (hf : fitB n s = true) (hq : 0 ≤ q) (hq2 : (B.length : Int) - s < q) :
    Calls Try.prog 61 #[.pointer (some ⟨g, 0, none⟩), .int .i64 q, .int .i64 n, .int .i64 s] w (Told w (.int .i64 1)) := by
  have HF := Lib.hid (fun W => fits_any n s W)
  rw [hf] at HF
  obtain ⟨hs1, hs2, _⟩ := fitB_size hf
  have HL := Lib.hid (len_any base w g vB vM B R h)
  have d1 : decide (q < 0) = false := by simp; omega
  have d2 : decide ((B.length : Int) - s < q) = true := by simp; omega
  clear hf h
  go_enter Try.func61, Try.ntmps61
  go_wp2_with fail
  refine (HF.out _).mono ?_
  rintro e w' ⟨rfl, rfl⟩
  go_wp2_with fail
  refine HL.out.mono ?_
  rintro e w' ⟨rfl, rfl⟩
  go_wp2
  go_ret
  exact ⟨rfl, rfl⟩

set_option maxHeartbeats 400000 in
theorem set_nil (w : World) : Calls Try.prog 61 #[.pointer none, .int .i64 0, .int .i64 0, .int .i64 1] w (Told w (.int .i64 1)) := by
  have HF := Lib.hid (fun W => fits_any 0 1 W)
  rw [show fitB 0 1 = true by decide +kernel] at HF
  go_enter Try.func61, Try.ntmps61
  go_wp2_with fail
  refine (HF.out _).mono ?_
  rintro e w' ⟨rfl, rfl⟩
  go_wp2_with fail
  refine (len_nil _).mono ?_
  rintro e w' ⟨rfl, rfl⟩
  go_wp2
  go_ret
  exact ⟨rfl, rfl⟩

set_option maxRecDepth 20000 in
set_option maxHeartbeats 2000000 in
theorem set_ok (base : Nat) (w : World) (g : Nat) (vB vM : Value) (B : List UInt8) (R : Rs) (q n s : Nat) (h : Wr w base g vB vM B R) (hB : B.length ≤ 1000000000) (hf : fitB n s = true) (hq : q + s ≤ B.length) :
    Calls Try.prog 61 #[.pointer (some ⟨g, 0, none⟩), .int .i64 q, .int .i64 n, .int .i64 s] w (fun e w' => e = .returned (.int .i64 0) ∧ Penned base w g vB vM (setB B q (digs n s)) R w') := by
  have HF := Lib.hid (fun W => fits_any n s W)
  rw [hf] at HF
  obtain ⟨hs1, hs2, _⟩ := fitB_size hf
  have HL := Lib.hid (len_any base w g vB vM B R h)
  have HP := Lib.hid (fun W => put_any none 0 0 0 [] (n : Int) (s : Int) W rfl (Row.empty _ _ _) (by omega) (by omega))
  rw [putL_yes hf, List.nil_append] at HP
  have hdl := length_digs n s
  have hbs := h.size
  have hgl := h.blk.lt
  have hap := h.apart
  rcases h.row.2 with ⟨_, h0⟩ | ⟨gB, cap, cur, rfl, hgB, hcur, hcap, hcm, hcs, htk⟩
  · omega
  have hBl := (h.row.lt gB rfl).2
  have h0 := h.c0
  have hgne : gB ≠ g := fun e => hap.1 (by rw [← e]; rfl)
  have d1 : decide ((q : Int) < 0) = false := by simp
  have d2 : decide ((B.length : Int) - (s : Int) < (q : Int)) = false := by simp; omega
  have e0 : (0 : Int) ≤ q := by omega
  have e1 : (q : Int) ≤ (B.length : Int) := by omega
  have hcf : (cap = q) = False := by simp; omega
  have hw1 : w.heap.size = w.drew.heap.size := rfl
  have HW := Lib.hid h
  have HCUR := Lib.hid hcur
  have HCS := Lib.hid hcs
  have HTK := Lib.hid htk
  have HD := Lib.hid hdl
  have HAP := Lib.hid hap
  clear h hf hcur hcs htk hdl hw1 hap
  go_enter Try.func61, Try.ntmps61
  go_wp2_with fail
  refine (HF.out _).mono ?_
  rintro e w' ⟨rfl, rfl⟩
  go_wp2_with fail
  refine HL.out.mono ?_
  rintro e w' ⟨rfl, rfl⟩
  go_wp2
  go_region_held3 (fun w' => w'.cell? ⟨g, 0, none⟩ = some (.slice (some ⟨gB, 0, none⟩) B.length cap))
    (first | go_keep)
    ((first
      | (go_at_call 82
         refine (HP.out _).mono ?_
         rintro e w1 ⟨A1, c1, rfl, ho1, hb1⟩
         have c0' : w1.cell? ⟨g, 0, none⟩ = some (.slice (some ⟨gB, 0, none⟩) B.length cap) := (hb1.cell (p := ⟨g, 0, none⟩) hgl).trans h0
         have HR1 := Lib.hid (Row.of_own ho1)
         have HB1 := Lib.hid (show Below w.heap.size w w1 from ⟨hb1.os, hb1.tape, hb1.output, hb1.size, hb1.block⟩)
         clear ho1 hb1)
      | (refine step_copy_at rfl (.tmp 30) (.tmp 33) _ _ rfl 5 Try.underlying22 u8_size A1 (B.length - q) (cap - q) (digs n s).length c1 gB q rfl rfl cur.toList 5 ((HB1.out.block gB hBl).trans HCUR.out) w1.heap.size ((digs n s).map bc) (by rw [List.length_map, HD.out]; exact (Nat.min_eq_left (by omega)).symm) (by rw [List.length_map, HD.out]; omega) HR1.out (by rw [List.length_map, HD.out, Array.length_toList, HCS.out]; omega) (bc_one _) ?_
         intro w2 hg2 hgr2
         have c0' : w2.cell? ⟨g, 0, none⟩ = some (.slice (some ⟨gB, 0, none⟩) B.length cap) := (World.cell?_of_block (a := ⟨g, 0, none⟩) (hgr2.block g (Nat.lt_of_lt_of_le hgl HB1.out.size) (Ne.symm hgne))).trans c0'
         have HG2 := Lib.hid hgr2
         clear hgr2)))
  go_wp2
  go_ret
  have hdl := HD.out
  have hBl2 : gB < w1.heap.size := Nat.lt_of_lt_of_le hBl HB1.out.size
  have hset := length_setB (B := B) (p := q) (l := digs n s) (by rw [hdl]; exact hq)
  have hk : ∀ j, j < w.heap.size → j ≠ gB → w2.heap[j]? = w.heap[j]? := fun j hj hne => (HG2.out.block j (Nat.lt_of_lt_of_le hj HB1.out.size) hne).trans (HB1.out.block j hj)
  refine ⟨rfl, .slice (some ⟨gB, 0, none⟩) B.length cap, vM, ⟨HW.out.blk.keep (hk g hgl (Ne.symm hgne)), HW.out.low, ?_, HW.out.map.keep fun j hj => hk j (HW.out.map.lt hj).2 (fun e => HAP.out.2.2 gB rfl (by rw [hj, e]))⟩, ?_, fun j hj => .inl hj⟩
  · rw [hset]
    refine ⟨by simp [hset], .inr ⟨gB, cap, _, rfl, hgB, hg2.out, hcap, hcm, ?_, ?_⟩⟩
    · rw [List.size_toArray, length_splice _ _ _ (by rw [List.length_map, hdl, Array.length_toList, HCS.out]; omega), Array.length_toList, HCS.out]
    · have htk := HTK.out
      rw [Nat.mul_one] at htk ⊢
      rw [List.toList_toArray, take_splice htk (by rw [List.length_map]) (by rw [List.length_map, hdl]; exact hq)]
      simp [setB, hdl]
  · exact (Grew.all HB1.out).trans HG2.out fun j hj => .inl (.inr (.inl (by rw [hj]; rfl)))

end Go.Proofs.Ytjjmllbkfbdcnaa

namespace Go.Proofs.Ytjjmllbkfbdcnaa
open Go.RowKit

/-- May a record be? -/
def soundR (r : Rt) : Bool := soundN r.name && (soundD r.kind r.data && (fitB r.cls 2 && (decide (0 ≤ r.ttl) && decide (r.ttl ≤ 2147483647))))
structure SoundR (r : Rt) : Prop where
  n : soundN r.name = true
  d : soundD r.kind r.data = true
  c : fitB r.cls 2 = true
  t0 : 0 ≤ r.ttl
  t1 : r.ttl ≤ 2147483647
theorem soundR_iff {r : Rt} : soundR r = true ↔ SoundR r := by
  unfold soundR
  simp only [Bool.and_eq_true, decide_eq_true_eq]
  exact ⟨fun ⟨a, b, c, d, e⟩ => ⟨a, b, c, d, e⟩, fun ⟨a, b, c, d, e⟩ => ⟨a, b, c, d, e⟩⟩

/-- A record's name, and what stands ahead of the number that tells its data's length. -/
def putH8 (r : Rt) (B : List UInt8) (R : Rs) : List UInt8 := (((nameW true r.name B R).1 ++ putL [] r.kind 2) ++ putL [] r.cls 2) ++ putL [] r.ttl 4
/-- Its data, behind a length that is still 0. -/
def putD0 (r : Rt) (B : List UInt8) (R : Rs) : List UInt8 × Rs := putD (shN r.kind) r.data (putH8 r B R ++ putL [] 0 2) (nameW true r.name B R).2
/-- A record, behind B with the rests R. -/
def putRR (r : Rt) (B : List UInt8) (R : Rs) : List UInt8 × Rs :=
  (setB (putD0 r B R).1 (putH8 r B R).length (digs ((putD0 r B R).1.length - ((putH8 r B R).length + 2)) 2), (putD0 r B R).2)

theorem putD_room {k : Int} {d : Dt} (hs : soundD k d = true) (B : List UInt8) (R : Rs) : (putD (shN k) d B R).1.length ≤ B.length + 65535 := by
  have sp := soundP hs
  have n1 := length_numsW 2 (d.nums.take (shN k).ahead)
  have n2 := length_numsW 4 (d.nums.drop (shN k).ahead)
  rw [List.length_take] at n1
  rw [List.length_drop] at n2
  have n3 := sp.n
  have n4 := length_textsW 255 d.texts sp.tl
  have n5 : (255 + 7) * d.texts.length ≤ (255 + 7) * 64 := Nat.mul_le_mul_left _ sp.t
  have n6 := sp.b
  have hH : (putH (shN k) d B R).1.length ≤ B.length + (numsW 2 (d.nums.take (shN k).ahead)).length + (if (shN k).host = true then 255 else 0) := by
    unfold putH
    cases hh : (shN k).host
    · simp only [Bool.false_eq_true, if_false, List.length_append]
      omega
    · have hs := soundN_parts (sp.h hh)
      simp only [if_true]
      have := length_nameW_le (shN k).short d.host (B ++ numsW 2 (d.nums.take (shN k).ahead)) R hs.1
      rw [List.length_append] at this
      omega
  have hM : (putM (shN k) d (putH (shN k) d B R)).1.length ≤ B.length + (numsW 2 (d.nums.take (shN k).ahead)).length + (if (shN k).host = true then 255 else 0) + (if (shN k).mail = true then 255 else 0) := by
    unfold putM
    cases hh : (shN k).mail
    · simp only [Bool.false_eq_true, if_false]
      omega
    · have hs := soundN_parts (sp.m hh)
      simp only [if_true]
      have := length_nameW_le (shN k).short d.mail (putH (shN k) d B R).1 (putH (shN k) d B R).2 hs.1
      omega
  have hlen : (putD (shN k) d B R).1.length = (putM (shN k) d (putH (shN k) d B R)).1.length + (numsW 4 (d.nums.drop (shN k).ahead)).length + (textsW d.texts).length + d.bytes.length := by
    unfold putD
    simp only [List.length_append]
  have h10 := shN_small k
  rcases shN_cases k with hk | hk | hk | hk | hk | hk | hk | hk | hk | hk
  case inr.inr.inr.inr.inr.inr.inr.inr.inr =>
    rw [shN_other hk] at *
    have t0 := sp.t0 rfl
    rw [t0] at hlen
    simp only [textsW, List.length_nil, Bool.false_eq_true, if_false] at *
    omega
  all_goals
    have hm : (shN k).most ≤ 16 := by rw [hk]; decide
    have i1 : (if (shN k).host = true then 255 else 0) ≤ 255 := by split <;> omega
    have i2 : (if (shN k).mail = true then 255 else 0) ≤ 255 := by split <;> omega
    omega

theorem length_putD_rests {k : Int} {d : Dt} (hs : soundD k d = true) (B : List UInt8) (R : Rs) : (putD (shN k) d B R).2.length ≤ R.length + 600 := by
  have sp := soundP hs
  have hH : (putH (shN k) d B R).2.length ≤ R.length + 255 := by
    unfold putH
    cases hh : (shN k).host
    · simp only [Bool.false_eq_true, if_false]
      omega
    · have hs := soundN_parts (sp.h hh)
      simp only [if_true]
      have h1 := length_nameW_rests (shN k).short d.host (B ++ numsW 2 (d.nums.take (shN k).ahead)) R
      have h2 := length_lt_szN d.host
      omega
  unfold putD
  dsimp only
  unfold putM
  cases hh : (shN k).mail
  · simp only [Bool.false_eq_true, if_false]
    omega
  · have hs := soundN_parts (sp.m hh)
    simp only [if_true]
    have h1 := length_nameW_rests (shN k).short d.mail (putH (shN k) d B R).1 (putH (shN k) d B R).2
    have h2 := length_lt_szN d.mail
    omega

theorem numAt_digs {P Q : List UInt8} {m s : Nat} (hm : m < 2 ^ (8 * s)) : numAt ((P ++ digs m s) ++ Q) P.length s = m := by
  unfold numAt cutL
  rw [List.append_assoc, List.drop_left, List.take_append_of_le_length (by rw [length_digs]; exact Nat.le_refl _), List.take_of_length_le (by rw [length_digs]; exact Nat.le_refl _), numN_digs hm]

theorem setB_mid (P l W : List UInt8) (m : List UInt8) (h : l.length = m.length) : setB ((P ++ l) ++ W) P.length m = (P ++ m) ++ W := by
  unfold setB
  rw [List.append_assoc, List.take_left, ← h, List.drop_append, List.drop_of_length_le (by omega)]
  simp

/-- What Put writes is what is written of the data behind its length. -/
theorem putRR_eq {r : Rt} {B : List UInt8} {R : Rs} (hs : SoundR r) : ∃ W : List UInt8, W.length ≤ 65535 ∧
    putRR r B R = putD (shN r.kind) r.data (putH8 r B R ++ digs W.length 2) (nameW true r.name B R).2 ∧ (putRR r B R).1 = (putH8 r B R ++ digs W.length 2) ++ W ∧ (putD0 r B R).1 = (putH8 r B R ++ putL [] 0 2) ++ W := by
  have h0 : putL [] 0 2 = digs 0 2 := by decide +kernel
  obtain ⟨W, R', h1, _⟩ := putD_shift (shN r.kind) r.data (putH8 r B R ++ putL [] 0 2) (putH8 r B R ++ putL [] 0 2) (nameW true r.name B R).2 rfl
  obtain ⟨W2, R2, h3, h4⟩ := putD_shift (shN r.kind) r.data (putH8 r B R ++ putL [] 0 2) (putH8 r B R ++ digs W.length 2) (nameW true r.name B R).2 (by rw [h0]; simp [length_digs])
  rw [h1] at h3
  injection h3 with h5 h6
  have hW := List.append_cancel_left h5
  subst hW; subst h6
  have hd : putD0 r B R = ((putH8 r B R ++ putL [] 0 2) ++ W, R') := h1
  have hlen : (putD0 r B R).1.length - ((putH8 r B R).length + 2) = W.length := by rw [hd, h0]; simp [length_digs]; omega
  have hroom := putD_room hs.d (putH8 r B R ++ putL [] 0 2) (nameW true r.name B R).2
  rw [h1] at hroom
  simp only [List.length_append] at hroom
  have he : putRR r B R = ((putH8 r B R ++ digs W.length 2) ++ W, R') := by
    unfold putRR
    rw [hlen, hd]
    dsimp only
    rw [setB_mid _ _ _ _ (by rw [h0]; simp [length_digs])]
  exact ⟨W, by omega, by rw [he, h4], by rw [he], by rw [hd]⟩

/-- A record that was put is read as it is, whatever stands behind it. -/
theorem putRR_back {r : Rt} {B : List UInt8} {R : Rs} (hs : SoundR r) (G : GoodR B R) :
    (∃ S, (putRR r B R).1 = B ++ S) ∧ GoodR (putRR r B R).1 (putRR r B R).2 ∧ (putRR r B R).1.length ≤ B.length + 70000 ∧ (putRR r B R).2.length ≤ R.length + 900 ∧ ∀ Y, getRR ((putRR r B R).1 ++ Y) B.length = (r, (putRR r B R).1.length, 0) := by
  have hp := soundN_parts hs.n
  obtain ⟨⟨S0, hS0⟩, hat, hg⟩ := nameW_good (short := true) hp.1 G
  have hlx := length_nameW_le true r.name B R hp.1
  obtain ⟨W, hW, h1, h2, _⟩ := putRR_eq (B := B) (R := R) hs
  have hkd : kindB r.kind = true := by have h := hs.d; unfold soundD at h; simp only [Bool.and_eq_true] at h; exact h.1
  simp only [kindB, decide_eq_true_eq] at hkd
  obtain ⟨k, hk⟩ : ∃ k : Nat, r.kind = k := ⟨r.kind.toNat, by omega⟩
  obtain ⟨c, s2, hc, hs2, _, hclt, _⟩ := putL_fit hs.c
  obtain rfl : s2 = 2 := by omega
  obtain ⟨t, ht⟩ : ∃ t : Nat, r.ttl = t := ⟨r.ttl.toNat, by have := hs.t0; omega⟩
  have htb := hs.t1
  have hk16 : k < 2 ^ (8 * 2) := by simp; omega
  have ht32 : t < 2 ^ (8 * 4) := by simp; omega
  have fk : putL [] r.kind 2 = digs k 2 := by
    have h := putL_yes (l := []) (n := k) (s := 2) (fitB_true (by omega) (by omega) (by omega) (by simp; omega))
    rw [List.nil_append] at h
    rw [hk]; exact h
  have fc : putL [] r.cls 2 = digs c 2 := by
    have hcf := hs.c
    rw [hc] at hcf
    have h := putL_yes (l := []) (n := c) (s := 2) hcf
    rw [List.nil_append] at h
    rw [hc]; exact h
  have ft : putL [] r.ttl 4 = digs t 4 := by
    have h := putL_yes (l := []) (n := t) (s := 4) (fitB_true (by omega) (by omega) (by omega) (by simp; omega))
    rw [List.nil_append] at h
    rw [ht]; exact h
  obtain ⟨P, hP⟩ : ∃ P, P = (nameW true r.name B R).1 := ⟨_, rfl⟩
  have h8 : putH8 r B R = ((P ++ digs k 2) ++ digs c 2) ++ digs t 4 := by unfold putH8; rw [fk, fc, ft, hP]
  obtain ⟨X, hX⟩ : ∃ X, X = putH8 r B R ++ digs W.length 2 := ⟨_, rfl⟩
  have hXl : X.length = P.length + 10 := by rw [hX, h8]; simp [length_digs]
  have GX : GoodR X (nameW true r.name B R).2 := by
    rw [hX, h8, hP]
    exact (((hg.more _).more _).more _).more _
  rw [← hX] at h1 h2
  obtain ⟨_, ⟨S1, hS1⟩, hG2, _⟩ := getR_data (Y := []) GX hs.d
  have hlen : (putRR r B R).1.length = X.length + W.length := by rw [h2, List.length_append]
  have hrest : (putRR r B R).2.length ≤ R.length + 900 := by
    rw [h1]
    have a1 := length_nameW_rests true r.name B R
    have a2 := length_lt_szN r.name
    have a3 := length_putD_rests hs.d X (nameW true r.name B R).2
    omega
  refine ⟨?_, by rw [h1]; exact hG2, ?_, hrest, fun Y => ?_⟩
  · rw [h2, hX, h8, hP, hS0]
    exact ⟨_, by simp only [List.append_assoc]; rfl⟩
  · rw [hlen, hXl, hP]
    omega
  · have hgd := (getR_data (Y := Y) GX hs.d).2.2.2
    rw [← h1, h2] at hgd
    have e1 : (X ++ W).length - X.length = W.length := by rw [List.length_append]; omega
    rw [e1] at hgd
    have hB : (putRR r B R).1 ++ Y = P ++ ((digs k 2 ++ (digs c 2 ++ (digs t 4 ++ digs W.length 2))) ++ (W ++ Y)) := by
      rw [h2, hX, h8]
      simp only [List.append_assoc]
    have hw : getW ((putRR r B R).1 ++ Y) B.length = (r.name, P.length, 0) := by
      rw [getW_at, hB]
      have := (nameR_back (en := 0) (hat.more ((digs k 2 ++ (digs c 2 ++ (digs t 4 ++ digs W.length 2))) ++ (W ++ Y))) (by have := hat.pos; omega) hp.2).1
      rw [← hP] at this
      exact this
    have n0 : numAt ((putRR r B R).1 ++ Y) P.length 2 = k := by
      rw [hB]
      have := numAt_digs (P := P) (Q := (digs c 2 ++ (digs t 4 ++ digs W.length 2)) ++ (W ++ Y)) hk16
      simpa only [List.append_assoc] using this
    have n1 : numAt ((putRR r B R).1 ++ Y) (P.length + 2) 2 = c := by
      rw [hB]
      have := numAt_digs (P := P ++ digs k 2) (Q := (digs t 4 ++ digs W.length 2) ++ (W ++ Y)) hclt
      rw [List.length_append, length_digs] at this
      simpa only [List.append_assoc] using this
    have n2 : numAt ((putRR r B R).1 ++ Y) (P.length + 4) 4 = t := by
      rw [hB]
      have := numAt_digs (P := (P ++ digs k 2) ++ digs c 2) (Q := digs W.length 2 ++ (W ++ Y)) ht32
      rw [List.length_append, List.length_append, length_digs, length_digs] at this
      simpa only [List.append_assoc, Nat.add_assoc] using this
    have n3 : numAt ((putRR r B R).1 ++ Y) (P.length + 8) 2 = W.length := by
      rw [hB]
      have := numAt_digs (P := ((P ++ digs k 2) ++ digs c 2) ++ digs t 4) (Q := W ++ Y) (m := W.length) (s := 2) (by simp; omega)
      simp only [List.length_append, length_digs] at this
      simpa only [List.append_assoc, Nat.add_assoc] using this
    have hgd2 : getD ((putRR r B R).1 ++ Y) ((P.length : Int) + 10) W.length k = (r.data, 0) := by
      rw [h2, ← hk]
      have e2 : ((X.length : Nat) : Int) = (P.length : Int) + 10 := by omega
      rw [← e2]
      exact hgd
    unfold getRR
    rw [hw]
    dsimp only
    rw [if_neg (by simp), if_neg (by rw [List.length_append, hlen, hXl]; omega), n0, n3, if_neg (by omega), hgd2]
    dsimp only
    rw [if_neg (by simp), n1]
    have ht2 : ttlAt ((putRR r B R).1 ++ Y) (P.length + 4) = t := by
      unfold ttlAt
      rw [n2, if_neg (by omega)]
    rw [ht2, hlen, hXl, ← hk, ← hc, ← ht]

end Go.Proofs.Ytjjmllbkfbdcnaa

namespace Go.Proofs.Ytjjmllbkfbdcnaa
open Go.RowKit

theorem i64_top {n : Int} (h : (Lit.int .i64 n).wf = true) : n ≤ 9223372036854775807 := by
  have h1 : IntKind.i64.min = -9223372036854775808 := rfl
  have h2 : IntKind.i64.max = 9223372036854775807 := rfl
  simp only [Lit.wf, Bool.and_eq_true, decide_eq_true_eq] at h
  omega

set_option maxRecDepth 20000 in
set_option maxHeartbeats 4000000 in
theorem rsound_any (x : RV) (r : Rt) (w : World) (hx : RAt w w.heap.size x r) (hi : RIn r) (hl : LightR r) :
    Calls Try.prog 27 #[x.val r] w (Gave w (.bool (soundR r))) := by
  obtain ⟨W, hW⟩ : ∃ W, W = w.alloc (.cells #[.slice x.A r.name.length x.c, .int .i64 r.kind, .int .i64 r.cls, .int .i64 r.ttl, .slice x.d.Ab r.data.bytes.length x.d.cb, .slice x.d.Ah r.data.host.length x.d.ch, .slice x.d.Am r.data.mail.length x.d.cm, .slice x.d.An r.data.nums.length x.d.cn, .slice x.d.At r.data.texts.length x.d.ct] 51) := ⟨_, rfl⟩
  have hB : Below w.heap.size w W := by rw [hW]; exact (Below.refl _ _).alloc (Nat.le_refl _) _
  have hwh : Whole W w.heap.size 51 [.slice x.A r.name.length x.c, .int .i64 r.kind, .int .i64 r.cls, .int .i64 r.ttl, .slice x.d.Ab r.data.bytes.length x.d.cb, .slice x.d.Ah r.data.host.length x.d.ch, .slice x.d.Am r.data.mail.length x.d.cm, .slice x.d.An r.data.nums.length x.d.cn, .slice x.d.At r.data.texts.length x.d.ct] := by rw [hW]; exact Whole.made w _ _
  have HX := Lib.hid (fun W' (h : Below w.heap.size w W') => (hx.below h).mono h.size)
  have HB0 := Lib.hid hB
  have HW0 := Lib.hid hwh
  have h200 := hl.l0
  have h201 := hl.l1
  have h202 := hl.l2
  have HI := Lib.hid hi
  have HS := Lib.hid (show soundR r = (soundN r.name && (soundD r.kind r.data && (fitB r.cls 2 && (decide (0 ≤ r.ttl) && decide (r.ttl ≤ 2147483647))))) from rfl)
  have HN := Lib.hid (fun W' (h : Below w.heap.size w W') => sound_wide x.A r.name.length x.c w.heap.size r.name W' rfl ((hx.below h).n) (by omega) hi.n.2)
  have HD := Lib.hid (fun W' (h : Below w.heap.size w W') => dsound_wide r.kind x.d r.data W' ((hx.below h).mono h.size).d (by omega) hi.d.h.2 (by omega) hi.d.m.2 hi.d.t hi.lt)
  have HF := Lib.hid (fun W' => fits_any r.cls 2 W')
  clear hB hwh hx hi hl
  subst hW
  go_enter Try.func27, Try.ntmps27
  go_wp2_with fail
  refine (HN.out _ HB0.out).mono ?_
  rintro e w1 ⟨rfl, rfl⟩
  cases h1 : soundN r.name with
  | false =>
    rw [h1] at HS
    go_wp2
    go_ret
    exact ⟨by rw [HS.out]; rfl, HB0.out⟩
  | true =>
  rw [h1] at HS
  go_wp2_with fail
  refine (HD.out _ HB0.out).mono ?_
  rintro e w2 ⟨rfl, hb2⟩
  have HW2 := Lib.hid (HW0.out.below hb2 (by simp))
  have HB2 := Lib.hid (HB0.out.trans (hb2.mono HB0.out.size))
  clear hb2 HW0 HB0
  cases h2 : soundD r.kind r.data with
  | false =>
    rw [h2] at HS
    go_wp2
    go_ret
    exact ⟨by rw [HS.out]; rfl, HB2.out⟩
  | true =>
  rw [h2] at HS
  have p2 : w2.cell? ⟨w.heap.size, 2, none⟩ = some (.int .i64 r.cls) := Whole.cell (L := [.slice x.A r.name.length x.c, .int .i64 r.kind, .int .i64 r.cls, .int .i64 r.ttl, .slice x.d.Ab r.data.bytes.length x.d.cb, .slice x.d.Ah r.data.host.length x.d.ch, .slice x.d.Am r.data.mail.length x.d.cm, .slice x.d.An r.data.nums.length x.d.cn, .slice x.d.At r.data.texts.length x.d.ct]) HW2.out 2
  have p3 : w2.cell? ⟨w.heap.size, 3, none⟩ = some (.int .i64 r.ttl) := Whole.cell (L := [.slice x.A r.name.length x.c, .int .i64 r.kind, .int .i64 r.cls, .int .i64 r.ttl, .slice x.d.Ab r.data.bytes.length x.d.cb, .slice x.d.Ah r.data.host.length x.d.ch, .slice x.d.Am r.data.mail.length x.d.cm, .slice x.d.An r.data.nums.length x.d.cn, .slice x.d.At r.data.texts.length x.d.ct]) HW2.out 3
  go_wp2_with fail
  refine (HF.out _).mono ?_
  rintro e w3 ⟨rfl, rfl⟩
  cases h3 : fitB r.cls 2 with
  | false =>
    rw [h3] at HS
    go_wp2
    go_ret
    exact ⟨by rw [HS.out]; rfl, HB2.out⟩
  | true =>
  rw [h3] at HS
  cases h4 : decide (0 ≤ r.ttl) with
  | false =>
    rw [h4] at HS
    go_wp2
    go_ret
    exact ⟨by rw [HS.out]; rfl, HB2.out⟩
  | true =>
  rw [h4] at HS
  skip
  go_wp2
  go_ret
  exact ⟨by rw [HS.out]; simp, HB2.out⟩

set_option maxRecDepth 20000 in
set_option maxHeartbeats 4000000 in
theorem ref_rsound_any (x : RV) (r : Rt) (w : World) (hx : RAt w w.heap.size x r) (hi : RIn r) (hl : LightR r) :
    Calls Try.prog 26 #[x.val r] w (Gave w (.bool (soundR r))) := by
  obtain ⟨W, hW⟩ : ∃ W, W = w.alloc (.cells #[.slice x.A r.name.length x.c, .int .i64 r.kind, .int .i64 r.cls, .int .i64 r.ttl, .slice x.d.Ab r.data.bytes.length x.d.cb, .slice x.d.Ah r.data.host.length x.d.ch, .slice x.d.Am r.data.mail.length x.d.cm, .slice x.d.An r.data.nums.length x.d.cn, .slice x.d.At r.data.texts.length x.d.ct] 51) := ⟨_, rfl⟩
  have hB : Below w.heap.size w W := by rw [hW]; exact (Below.refl _ _).alloc (Nat.le_refl _) _
  have hwh : Whole W w.heap.size 51 [.slice x.A r.name.length x.c, .int .i64 r.kind, .int .i64 r.cls, .int .i64 r.ttl, .slice x.d.Ab r.data.bytes.length x.d.cb, .slice x.d.Ah r.data.host.length x.d.ch, .slice x.d.Am r.data.mail.length x.d.cm, .slice x.d.An r.data.nums.length x.d.cn, .slice x.d.At r.data.texts.length x.d.ct] := by rw [hW]; exact Whole.made w _ _
  have HX := Lib.hid (fun W' (h : Below w.heap.size w W') => (hx.below h).mono h.size)
  have HB0 := Lib.hid hB
  have HW0 := Lib.hid hwh
  have h200 := hl.l0
  have h201 := hl.l1
  have h202 := hl.l2
  have HI := Lib.hid hi
  have HS := Lib.hid (show soundR r = (soundN r.name && (soundD r.kind r.data && (fitB r.cls 2 && (decide (0 ≤ r.ttl) && decide (r.ttl ≤ 2147483647))))) from rfl)
  have HN := Lib.hid (fun W' (h : Below w.heap.size w W') => ref_sound_wide x.A x.c w.heap.size r.name W' ((hx.below h).n) hi.n.1 hi.n.2)
  have HD := Lib.hid (fun W' (h : Below w.heap.size w W') => refData_any r.kind x.d r.data W' ((hx.below h).mono h.size).d ⟨hi.d.h, hi.d.m, hi.d.t, hi.lt, fun n hn => i64_top (hi.nm n hn)⟩)
  have HF := Lib.hid (fun W' => ref_fits_any r.cls 2 W' (i64_top hi.c))
  clear hB hwh hx hi hl
  subst hW
  go_enter Try.func26, Try.ntmps26
  go_wp2_with fail
  refine (HN.out _ HB0.out).mono ?_
  rintro e w1 ⟨rfl, rfl⟩
  cases h1 : soundN r.name with
  | false =>
    rw [h1] at HS
    go_wp2
    go_ret
    exact ⟨by rw [HS.out]; rfl, HB0.out⟩
  | true =>
  rw [h1] at HS
  go_wp2_with fail
  refine (HD.out _ HB0.out).mono ?_
  rintro e w2 ⟨rfl, hb2⟩
  have HW2 := Lib.hid (HW0.out.below hb2 (by simp))
  have HB2 := Lib.hid (HB0.out.trans (hb2.mono HB0.out.size))
  clear hb2 HW0 HB0
  cases h2 : soundD r.kind r.data with
  | false =>
    rw [h2] at HS
    go_wp2
    go_ret
    exact ⟨by rw [HS.out]; rfl, HB2.out⟩
  | true =>
  rw [h2] at HS
  have p2 : w2.cell? ⟨w.heap.size, 2, none⟩ = some (.int .i64 r.cls) := Whole.cell (L := [.slice x.A r.name.length x.c, .int .i64 r.kind, .int .i64 r.cls, .int .i64 r.ttl, .slice x.d.Ab r.data.bytes.length x.d.cb, .slice x.d.Ah r.data.host.length x.d.ch, .slice x.d.Am r.data.mail.length x.d.cm, .slice x.d.An r.data.nums.length x.d.cn, .slice x.d.At r.data.texts.length x.d.ct]) HW2.out 2
  have p3 : w2.cell? ⟨w.heap.size, 3, none⟩ = some (.int .i64 r.ttl) := Whole.cell (L := [.slice x.A r.name.length x.c, .int .i64 r.kind, .int .i64 r.cls, .int .i64 r.ttl, .slice x.d.Ab r.data.bytes.length x.d.cb, .slice x.d.Ah r.data.host.length x.d.ch, .slice x.d.Am r.data.mail.length x.d.cm, .slice x.d.An r.data.nums.length x.d.cn, .slice x.d.At r.data.texts.length x.d.ct]) HW2.out 3
  go_wp2_with fail
  refine (HF.out _).mono ?_
  rintro e w3 ⟨rfl, rfl⟩
  cases h3 : fitB r.cls 2 with
  | false =>
    rw [h3] at HS
    go_wp2
    go_ret
    exact ⟨by rw [HS.out]; rfl, HB2.out⟩
  | true =>
  rw [h3] at HS
  cases h4 : decide (0 ≤ r.ttl) with
  | false =>
    rw [h4] at HS
    go_wp2
    go_ret
    exact ⟨by rw [HS.out]; rfl, HB2.out⟩
  | true =>
  rw [h4] at HS
  have hlast : decide (r.ttl < 2147483648) = decide (r.ttl ≤ 2147483647) := decide_eq_decide.2 (by omega)
  go_wp2
  go_ret
  exact ⟨by rw [HS.out]; rw [← hlast]; simp, HB2.out⟩

end Go.Proofs.Ytjjmllbkfbdcnaa

namespace Go.Proofs.Ytjjmllbkfbdcnaa
open Go.RowKit

section
variable {w : World} {base g : Nat} {Fp : Nat → Prop} {vB vR : Value} {B : List UInt8} {R : Rs}
theorem RWr.form (h : RWr w base Fp g vB vR B R) (hB : 0 < B.length) : ∃ b c, vB = .slice (some ⟨b, 0, none⟩) B.length c ∧ B.length ≤ c ∧ c ≤ maxLen := by
  obtain ⟨A, c, hv, h1, h2⟩ := own_form h.row
  subst hv
  rcases h.row.2 with ⟨hv, _⟩ | ⟨b, cap, cur, hv, _⟩
  · exfalso
    injection hv with _ hn _
    omega
  · injection hv with hA hn hc
    subst hA
    subst hc
    exact ⟨b, c, rfl, h1, h2⟩
/-- One byte of what stands there is another now. -/
theorem RWr.store {b c : Nat} (h : RWr w base Fp g (.slice (some ⟨b, 0, none⟩) B.length c) vR B R) {k : Nat} (hk : k < B.length) (u : UInt8) :
    RWr (w.setCell ⟨b, k, none⟩ (bc u)) base Fp g (.slice (some ⟨b, 0, none⟩) B.length c) vR (B.set k u) R := by
  have hne : b ≠ g := fun e => own_not_whole h.row h.blk (by decide) (by rw [← e]; rfl)
  have hk2 : ∀ j, j ≠ b → (w.setCell ⟨b, k, none⟩ (bc u)).heap[j]? = w.heap[j]? := fun j hj => Below.heap_setCell w ⟨b, k, none⟩ (bc u) j hj
  refine ⟨h.blk.keep (hk2 g (Ne.symm hne)), h.fg, ?_, h.frow, ?_, fun j hj => ?_⟩
  · have h1 := own_store h.row hk (bc u)
    rw [← List.map_set] at h1
    rw [List.length_set]
    exact h1
  · obtain ⟨vs, h1, h2, h3, h4⟩ := h.rests
    refine ⟨vs, h1, own_keep h2 fun j hj => hk2 j fun e => own_own_apart h2 h.row (by decide) hj (by rw [e]; rfl), h3, fun i hi => ?_⟩
    obtain ⟨A, c, h5, h6, h7⟩ := h4 i hi
    exact ⟨A, c, h5, own_keep h6 fun j hj => hk2 j fun e => own_own_apart h6 h.row (by decide) hj (by rw [e]; rfl), h7⟩
  · have := h.low j hj
    simp only [World.size_setCell]
    exact this
theorem rec_stays {x : RV} {r : Rt} {W : World} (hx : RAt w base x r) (hlow : ∀ j, Fp j → base ≤ j ∧ j < w.heap.size) (hb : base ≤ w.heap.size)
    (hp : RPenned base (w.alloc (.cells #[.slice x.A r.name.length x.c, .int .i64 r.kind, .int .i64 r.cls, .int .i64 r.ttl, .slice x.d.Ab r.data.bytes.length x.d.cb, .slice x.d.Ah r.data.host.length x.d.ch, .slice x.d.Am r.data.mail.length x.d.cm, .slice x.d.An r.data.nums.length x.d.cn, .slice x.d.At r.data.texts.length x.d.ct] 51)) Fp g B R W) : Whole W w.heap.size 51 [.slice x.A r.name.length x.c, .int .i64 r.kind, .int .i64 r.cls, .int .i64 r.ttl, .slice x.d.Ab r.data.bytes.length x.d.cb, .slice x.d.Ah r.data.host.length x.d.ch, .slice x.d.Am r.data.mail.length x.d.cm, .slice x.d.An r.data.nums.length x.d.cn, .slice x.d.At r.data.texts.length x.d.ct] ∧ RAt W base x r := by
  obtain ⟨_, _, _, _, hg, _⟩ := hp
  refine ⟨(Whole.made w [.slice x.A r.name.length x.c, .int .i64 r.kind, .int .i64 r.cls, .int .i64 r.ttl, .slice x.d.Ab r.data.bytes.length x.d.cb, .slice x.d.Ah r.data.host.length x.d.ch, .slice x.d.Am r.data.mail.length x.d.cm, .slice x.d.An r.data.nums.length x.d.cn, .slice x.d.At r.data.texts.length x.d.ct] _).keep (hg.block w.heap.size (by simp) fun hj => by have := (hlow _ hj).2; omega), (hx.below ((Below.refl _ _).alloc hb _)).below (hg.below (fun j hj => (hlow j hj).1) (by simp; omega))⟩
end
theorem digs_two (n : Nat) : digs n 2 = [UInt8.ofNat (n / 256), UInt8.ofNat n] := by simp [digs, List.range, List.range.loop]
theorem setB_two {B : List UInt8} {p : Nat} (a b : UInt8) (h : p + 2 ≤ B.length) : (B.set p a).set (p + 1) b = setB B p [a, b] := by
  obtain ⟨P, Q, rfl, rfl⟩ : ∃ P Q, B = P ++ Q ∧ P.length = p := ⟨B.take p, B.drop p, (List.take_append_drop p B).symm, by rw [List.length_take]; omega⟩
  match Q, h with
  | [], h => simp at h; omega
  | [_], h => simp at h
  | x :: y :: Q, _ =>
    unfold setB
    rw [List.set_append_right _ _ (Nat.le_refl _), List.set_append_right _ _ (by omega), List.take_left, Nat.sub_self, show P.length + 1 - P.length = 1 by omega, List.drop_append, List.drop_of_length_le (by omega)]
    simp

set_option maxRecDepth 20000 in
set_option maxHeartbeats 4000000 in
theorem rputRR_any (base : Nat) (w : World) (Fp : Nat → Prop) (g : Nat) (vB vR : Value) (B : List UInt8) (R : Rs) (x : RV) (r : Rt) (h : RWr w base Fp g vB vR B R) (hx : RAt w base x r) (hs : SoundR r) (hi : RIn r)
    (hB : B.length ≤ 90000000) (hR : R.length ≤ 700000) (hR16 : ∀ q ∈ R, q.2 < 16384 ∧ q.1.length ≤ 1000) :
    Calls Try.prog 28 #[.pointer (some ⟨g, 0, none⟩), x.val r] w (fun e w' => e = .returned (.bool true) ∧ RPenned base w Fp g (putRR r B R).1 (putRR r B R).2 w') := by
  have hp := soundN_parts hs.n
  have hnl := length_nameW_le true r.name B R hp.1
  have hnr := length_nameW_rests true r.name B R
  have hnz := length_lt_szN r.name
  have hn255 := hp.2
  have HR2 := Lib.hid (nameW_kept true r.name B R hR16 (by omega))
  have HR := Lib.hid hR16
  obtain ⟨WL, hWL, _, _, hD0⟩ := putRR_eq (B := B) (R := R) hs
  have hl0 : (putL [] 0 2).length = 2 := by decide +kernel
  have hl123 : (putL [] r.kind 2).length = 2 ∧ (putL [] r.cls 2).length = 2 ∧ (putL [] r.ttl 4).length = 4 := by
    have hkd : kindB r.kind = true := by have h := hs.d; unfold soundD at h; simp only [Bool.and_eq_true] at h; exact h.1
    simp only [kindB, decide_eq_true_eq] at hkd
    obtain ⟨_, s1, _, es1, _, _, l1⟩ := putL_fit (n := r.kind) (s := 2) (fitB_true (by omega) (by omega) (by omega) (by simp; omega))
    obtain ⟨_, s2, _, es2, _, _, l2⟩ := putL_fit hs.c
    obtain ⟨_, s3, _, es3, _, _, l3⟩ := putL_fit (n := r.ttl) (s := 4) (fitB_true (by omega) (by omega) hs.t0 (by have := hs.t1; simp; omega))
    omega
  obtain ⟨hl1, hl2, hl3⟩ := hl123
  have hHL : (putH8 r B R).length = (nameW true r.name B R).1.length + 8 := by
    unfold putH8
    simp only [List.length_append]
    omega
  have hD0L : (putD0 r B R).1.length = (putH8 r B R).length + 2 + WL.length := by
    rw [hD0]
    simp only [List.length_append, hl0]
  have HD := Lib.hid (show putRR r B R = (((putD0 r B R).1.set (putH8 r B R).length (UInt8.ofNat (WL.length / 256))).set ((putH8 r B R).length + 1) (UInt8.ofNat WL.length), (putD0 r B R).2) by
    unfold putRR
    rw [setB_two _ _ (by omega), show (putD0 r B R).1.length - ((putH8 r B R).length + 2) = WL.length by omega, digs_two])
  have HIK := Lib.hid (i64_top hi.k)
  have HIC := Lib.hid (i64_top hi.c)
  have HIT := Lib.hid (i64_top hi.t)
  have HIN := Lib.hid (fun n hn => i64_top (hi.nm n hn))
  have HS := Lib.hid hs
  have hlc := hx.l
  have HFIN := Lib.hid (fun B' R' W (hp : RPenned base (w.alloc (.cells #[.slice x.A r.name.length x.c, .int .i64 r.kind, .int .i64 r.cls, .int .i64 r.ttl, .slice x.d.Ab r.data.bytes.length x.d.cb, .slice x.d.Ah r.data.host.length x.d.ch, .slice x.d.Am r.data.mail.length x.d.cm, .slice x.d.An r.data.nums.length x.d.cn, .slice x.d.At r.data.texts.length x.d.ct] 51)) Fp g B' R' W) => hp.from)
  have HRC := Lib.hid (fun B' R' W (hp : RPenned base (w.alloc (.cells #[.slice x.A r.name.length x.c, .int .i64 r.kind, .int .i64 r.cls, .int .i64 r.ttl, .slice x.d.Ab r.data.bytes.length x.d.cb, .slice x.d.Ah r.data.host.length x.d.ch, .slice x.d.Am r.data.mail.length x.d.cm, .slice x.d.An r.data.nums.length x.d.cn, .slice x.d.At r.data.texts.length x.d.ct] 51)) Fp g B' R' W) => rec_stays hx h.low h.size hp)
  have HP := Lib.hid (show RPenned base (w.alloc (.cells #[.slice x.A r.name.length x.c, .int .i64 r.kind, .int .i64 r.cls, .int .i64 r.ttl, .slice x.d.Ab r.data.bytes.length x.d.cb, .slice x.d.Ah r.data.host.length x.d.ch, .slice x.d.Am r.data.mail.length x.d.cm, .slice x.d.An r.data.nums.length x.d.cn, .slice x.d.At r.data.texts.length x.d.ct] 51)) Fp g B R (w.alloc (.cells #[.slice x.A r.name.length x.c, .int .i64 r.kind, .int .i64 r.cls, .int .i64 r.ttl, .slice x.d.Ab r.data.bytes.length x.d.cb, .slice x.d.Ah r.data.host.length x.d.ch, .slice x.d.Am r.data.mail.length x.d.cm, .slice x.d.An r.data.nums.length x.d.cn, .slice x.d.At r.data.texts.length x.d.ct] 51)) from ⟨Fp, vB, vR, h.below ((Below.refl _ _).alloc (Nat.le_refl _) _), Grew.refl _ _, fun _ hj => .inl hj⟩)
  clear hp h hx hs hi hR16 hD0
  go_enter Try.func28, Try.ntmps28
  go_wp2_with fail
  refine (rnameP HP.out x.A x.c r.name true (HRC.out _ _ _ HP.out).2.n hlc HS.out.n (by omega) (by omega) HR.out).mono ?_
  rintro e w1 ⟨rfl, hpn⟩
  generalize w.alloc (.cells #[.slice x.A r.name.length x.c, .int .i64 r.kind, .int .i64 r.cls, .int .i64 r.ttl, .slice x.d.Ab r.data.bytes.length x.d.cb, .slice x.d.Ah r.data.host.length x.d.ch, .slice x.d.Am r.data.mail.length x.d.cm, .slice x.d.An r.data.nums.length x.d.cn, .slice x.d.At r.data.texts.length x.d.ct] 51) = w0 at *
  have HP := Lib.hid hpn
  clear hpn
  have p1 : w1.cell? ⟨w.heap.size, 1, none⟩ = some (.int .i64 r.kind) := (HRC.out _ _ _ HP.out).1.cell 1
  go_wp2_with fail
  refine (rnumP HP.out r.kind 2 (by omega) HIK.out).mono ?_
  rintro e w2 ⟨rfl, hpn⟩
  have HP := Lib.hid hpn
  clear hpn p1
  have p2 : w2.cell? ⟨w.heap.size, 2, none⟩ = some (.int .i64 r.cls) := (HRC.out _ _ _ HP.out).1.cell 2
  go_wp2_with fail
  refine (rnumP HP.out r.cls 2 (by rw [List.length_append]; omega) HIC.out).mono ?_
  rintro e w3 ⟨rfl, hpn⟩
  have HP := Lib.hid hpn
  clear hpn p2
  have p3 : w3.cell? ⟨w.heap.size, 3, none⟩ = some (.int .i64 r.ttl) := (HRC.out _ _ _ HP.out).1.cell 3
  go_wp2_with fail
  refine (rnumP HP.out r.ttl 4 (by rw [List.length_append, List.length_append]; omega) HIT.out).mono ?_
  rintro e w4 ⟨rfl, hpn⟩
  have HP := Lib.hid hpn
  clear hpn p3
  rw [show (((nameW true r.name B R).1 ++ putL [] r.kind 2) ++ putL [] r.cls 2) ++ putL [] r.ttl 4 = putH8 r B R from rfl] at HP
  obtain ⟨Gp, vB1, vR1, h1, hg, hf⟩ := HP.out
  obtain ⟨b1, c1, rfl, hc1, hc2⟩ := h1.form (by omega)
  have q0 := h1.c0
  obtain ⟨H, hHH⟩ : ∃ H, H = (putH8 r B R).length := ⟨_, rfl⟩
  rw [← hHH] at q0 HD hD0L hHL
  have hHb : H ≤ B.length + 300 := by omega
  have HH := Lib.hid hHH
  have HL0 := Lib.hid hl0
  clear h1 hg hf hc1 hc2 hHL hl0 hl1 hl2 hl3 hHH hnl
  go_wp2_with fail
  clear q0
  refine (rnumP HP.out 0 2 (by rw [← HH.out]; omega) (by omega)).mono ?_
  rintro e w5 ⟨rfl, hpn⟩
  have HP := Lib.hid hpn
  clear hpn
  have p1 : w5.cell? ⟨w.heap.size, 1, none⟩ = some (.int .i64 r.kind) := (HRC.out _ _ _ HP.out).1.cell 1
  have p4 : w5.cell? ⟨w.heap.size, 4, none⟩ = some (.slice x.d.Ab r.data.bytes.length x.d.cb) := (HRC.out _ _ _ HP.out).1.cell 4
  have p5 : w5.cell? ⟨w.heap.size, 5, none⟩ = some (.slice x.d.Ah r.data.host.length x.d.ch) := (HRC.out _ _ _ HP.out).1.cell 5
  have p6 : w5.cell? ⟨w.heap.size, 6, none⟩ = some (.slice x.d.Am r.data.mail.length x.d.cm) := (HRC.out _ _ _ HP.out).1.cell 6
  have p7 : w5.cell? ⟨w.heap.size, 7, none⟩ = some (.slice x.d.An r.data.nums.length x.d.cn) := (HRC.out _ _ _ HP.out).1.cell 7
  have p8 : w5.cell? ⟨w.heap.size, 8, none⟩ = some (.slice x.d.At r.data.texts.length x.d.ct) := (HRC.out _ _ _ HP.out).1.cell 8
  go_wp2_with fail
  obtain ⟨Gp, vB2, vR2, h1, hg, hf⟩ := HP.out
  refine (rput_any base w5 Gp g vB2 vR2 _ _ r.kind x.d r.data h1 (HRC.out _ _ _ HP.out).2.d HS.out.d HIN.out (by rw [List.length_append, HL0.out, ← HH.out]; omega) (by omega) HR2.out).mono ?_
  rintro e w6 ⟨rfl, hpn⟩
  have HP := Lib.hid (show RPenned base w0 Fp g (putD0 r B R).1 (putD0 r B R).2 w6 from RPenned.then hg hf hpn)
  clear hpn h1 hg hf p1 p4 p5 p6 p7 p8 HRC HR HR2
  obtain ⟨Gp, vB3, vR3, h1, hg, hf⟩ := HP.out
  obtain ⟨b, c, rfl, hc3, hc4⟩ := h1.form (by omega)
  have q0 := h1.c0
  obtain ⟨D, hDD⟩ : ∃ D, D = (putD0 r B R).1 := ⟨_, rfl⟩
  rw [← hDD] at h1 HP q0 hD0L hc3 HD
  have HDD := Lib.hid hDD
  have hbg : b ≠ g := fun e => own_not_whole h1.row h1.blk (by decide) (by rw [← e]; rfl)
  have f0 : w6.frozen? ⟨b, H, none⟩ = false := own_frozen h1.row _
  have k0 : w6.cell? ⟨b, H, none⟩ = some (((D.map bc))[H]'(by rw [List.length_map]; omega)) := own_cell h1.row _
  have f1 : w6.frozen? ⟨b, H + 1, none⟩ = false := own_frozen h1.row _
  have k1 : w6.cell? ⟨b, H + 1, none⟩ = some (((D.map bc))[H + 1]'(by rw [List.length_map]; omega)) := own_cell h1.row _
  have h2 := h1.store (k := H) (by omega) (UInt8.ofNat (WL.length / 256))
  have hx1 : b ≠ g ∧ g ≠ b := ⟨hbg, Ne.symm hbg⟩
  have h3 := RWr.store (B := D.set H (UInt8.ofNat (WL.length / 256))) (c := c) (b := b) (by rw [List.length_set]; exact h2) (k := H + 1) (by rw [List.length_set]; omega) (UInt8.ofNat WL.length)
  have hg3 := (hg.setCell (a := ⟨b, H, none⟩) (hf b (h1.frow b rfl)) (bc (UInt8.ofNat (WL.length / 256)))).setCell (a := ⟨b, H + 1, none⟩) (hf b (h1.frow b rfl)) (bc (UInt8.ofNat WL.length))
  have hz : RPenned base w0 Fp g ((D.set H (UInt8.ofNat (WL.length / 256))).set (H + 1) (UInt8.ofNat WL.length)) (putD0 r B R).2 ((w6.setCell ⟨b, H, none⟩ (bc (UInt8.ofNat (WL.length / 256)))).setCell ⟨b, H + 1, none⟩ (bc (UInt8.ofNat WL.length))) := ⟨Gp, _, _, h3, hg3, hf⟩
  have hz2 := HFIN.out _ _ _ hz
  rw [bc_dig, bc_dig, show (((WL.length / 256 : Nat) : Int) % 256) = (WL.length : Int) / 256 by omega] at hz2
  have hz3 := HD.out
  have HZ := Lib.hid hz2
  clear h1 h2 h3 hg hf hz hz2 hz3 hg3 hDD HFIN
  go_wp2
  go_ret
  rw [HD.out, show (H : Int) + 2 + (WL.length : Int) - (H : Int) - 2 = (WL.length : Int) by omega]
  exact ⟨rfl, HZ.out⟩

set_option maxHeartbeats 400000 in
theorem rrput_nil (w : World) : Calls Try.prog 24 #[.pointer none, .agg #[.slice none 0 0, .int .i64 99, .int .i64 0, .int .i64 0, .slice none 0 0, .slice none 0 0, .slice none 0 0, .slice none 0 0, .slice none 0 0]] w (Gave w (.int .i64 2)) := by
  go_enter Try.func24, Try.ntmps24
  go_wp2
  go_ret
  exact ⟨rfl, (Below.refl _ _).alloc (Nat.le_refl _) _⟩
set_option maxHeartbeats 400000 in
theorem rrput_bad (w : World) (g : Nat) (x : RV) (r : Rt) (hx : RAt w w.heap.size x r) (hs : soundR r = false) (hi : RIn r) (hl : LightR r) :
    Calls Try.prog 24 #[.pointer (some ⟨g, 0, none⟩), x.val r] w (Gave w (.int .i64 2)) := by
  have HB0 := Lib.hid ((Below.refl w.heap.size w).alloc (Nat.le_refl _) (.cells #[.slice x.A r.name.length x.c, .int .i64 r.kind, .int .i64 r.cls, .int .i64 r.ttl, .slice x.d.Ab r.data.bytes.length x.d.cb, .slice x.d.Ah r.data.host.length x.d.ch, .slice x.d.Am r.data.mail.length x.d.cm, .slice x.d.An r.data.nums.length x.d.cn, .slice x.d.At r.data.texts.length x.d.ct] 51))
  have HSD := Lib.hid (rsound_any x r (w.alloc (.cells #[.slice x.A r.name.length x.c, .int .i64 r.kind, .int .i64 r.cls, .int .i64 r.ttl, .slice x.d.Ab r.data.bytes.length x.d.cb, .slice x.d.Ah r.data.host.length x.d.ch, .slice x.d.Am r.data.mail.length x.d.cm, .slice x.d.An r.data.nums.length x.d.cn, .slice x.d.At r.data.texts.length x.d.ct] 51)) ((hx.below HB0.out).mono HB0.out.size) hi hl)
  rw [hs] at HSD
  clear hs hi hl hx
  go_enter Try.func24, Try.ntmps24
  go_wp2_with fail
  refine HSD.out.mono ?_
  rintro e w1 ⟨rfl, hb⟩
  have HB := Lib.hid (HB0.out.trans (hb.mono (by simp)))
  clear hb
  go_wp2
  go_ret
  exact ⟨rfl, HB.out⟩

end Go.Proofs.Ytjjmllbkfbdcnaa

namespace Go.Proofs.Ytjjmllbkfbdcnaa
open Go.RowKit

/-- The block j holds a slice of the record. -/
def RV.owns (x : RV) (r : Rt) (j : Nat) : Prop := (x.vn r).ownBlock = some j ∨ x.d.owns r.data j
theorem OwnR.base {w : World} {B : Nat} {x : RV} {r : Rt} (h : OwnR w B x r) {j : Nat} (hj : x.owns r j) : B ≤ j ∧ j < w.heap.size := by
  rcases hj with e | e
  · exact h.n.lt j e
  · exact h.d.base e
section
variable {base g H : Nat} {W1 wk : World} {vB vM : Value} {B : List UInt8} {R : Rs}
theorem pen_box {t : TypeId} {L : List Value} (hp : Penned base W1 g vB vM B R wk) (hb : Whole W1 H t L) (hn : ¬ ownF g vB vM H) : Whole wk H t L := by
  obtain ⟨_, _, _, hg, _⟩ := hp
  exact hb.grew hg hn
theorem pen_own {x : RV} {r : Rt} {Bd : Nat} (hp : Penned base W1 g vB vM B R wk) (ho : OwnR W1 Bd x r) (hs : ∀ j, ownF g vB vM j → ¬ x.owns r j) : OwnR wk Bd x r := by
  obtain ⟨_, _, _, hg, _⟩ := hp
  have hk : ∀ {e : TypeId} {s m : Nat} {u : Value} {ys : List Value}, W1.ownsRow Bd e s u m ys → (∀ j, u.ownBlock = some j → x.owns r j) → wk.ownsRow Bd e s u m ys := fun h1 h2 => own_grew h1 hg fun j e hj => hs j hj (h2 j e)
  exact ⟨hk ho.n fun j e => .inl e, hk ho.d.b fun j e => .inr (.inl e), hk ho.d.h fun j e => .inr (.inr (.inl e)), hk ho.d.m fun j e => .inr (.inr (.inr (.inl e))), hk ho.d.n fun j e => .inr (.inr (.inr (.inr (.inl e)))), hk ho.d.t fun j e => .inr (.inr (.inr (.inr (.inr e))))⟩
end

set_option maxRecDepth 200000 in
set_option maxHeartbeats 8000000 in
theorem rrput_sound (base : Nat) (w : World) (g : Nat) (vB vM : Value) (B : List UInt8) (R : Rs) (x : RV) (r : Rt) (Bd : Nat) (h : Wr w base g vB vM B R) (ho : OwnR w Bd x r) (hsep : ∀ j, ownF g vB vM j → ¬ x.owns r j) (hs : SoundR r) (hi : RIn r) (hl : LightR r)
    (hB : B.length ≤ 90000000) (hR : R.length ≤ 700000) (hG : GoodR B R) :
    Calls Try.prog 24 #[.pointer (some ⟨g, 0, none⟩), x.val r] w (fun e w' => e = .returned (.int .i64 0) ∧ Penned base w g vB vM (putRR r B R).1 (putRR r B R).2 w') := by
  obtain ⟨W, hW⟩ : ∃ W, W = w.alloc (.cells #[.slice x.A r.name.length x.c, .int .i64 r.kind, .int .i64 r.cls, .int .i64 r.ttl, .slice x.d.Ab r.data.bytes.length x.d.cb, .slice x.d.Ah r.data.host.length x.d.ch, .slice x.d.Am r.data.mail.length x.d.cm, .slice x.d.An r.data.nums.length x.d.cn, .slice x.d.At r.data.texts.length x.d.ct] 51) := ⟨_, rfl⟩
  have hB0 : Below w.heap.size w W := by rw [hW]; exact (Below.refl _ _).alloc (Nat.le_refl _) _
  have hwh : Whole W w.heap.size 51 [.slice x.A r.name.length x.c, .int .i64 r.kind, .int .i64 r.cls, .int .i64 r.ttl, .slice x.d.Ab r.data.bytes.length x.d.cb, .slice x.d.Ah r.data.host.length x.d.ch, .slice x.d.Am r.data.mail.length x.d.cm, .slice x.d.An r.data.nums.length x.d.cn, .slice x.d.At r.data.texts.length x.d.ct] := by rw [hW]; exact Whole.made w _ _
  have hlow : ∀ j, ownF g vB vM j → j < w.heap.size := fun j hj => (h.own hj).2
  have HB0 := Lib.hid hB0
  have HW0 := Lib.hid hwh
  have HS := Lib.hid (rsound_any x r W ((ho.at_.below hB0).mono hB0.size) hi hl)
  rw [soundR_iff.2 hs] at HS
  have HWR := Lib.hid h
  have HO := Lib.hid ho
  have HSEP := Lib.hid hsep
  have HSR := Lib.hid hs
  have HGD := Lib.hid hG
  have HLOW := Lib.hid hlow
  have hp := soundN_parts hs.n
  have hnl := length_nameW_le true r.name B R hp.1
  have hnr := length_nameW_rests true r.name B R
  have hnz := length_lt_szN r.name
  have hn255 := hp.2
  have hgn := nameW_good (short := true) hp.1 hG
  have HGN := Lib.hid hgn.2.2
  obtain ⟨WL, hWL, _, _, hD0⟩ := putRR_eq (B := B) (R := R) hs
  have HD0 := Lib.hid hD0
  have hl0 : (putL [] 0 2).length = 2 := by decide +kernel
  have hl123 : (putL [] r.kind 2).length = 2 ∧ (putL [] r.cls 2).length = 2 ∧ (putL [] r.ttl 4).length = 4 := by
    have hkd : kindB r.kind = true := by have h := hs.d; unfold soundD at h; simp only [Bool.and_eq_true] at h; exact h.1
    simp only [kindB, decide_eq_true_eq] at hkd
    obtain ⟨_, s1, _, es1, _, _, l1⟩ := putL_fit (n := r.kind) (s := 2) (fitB_true (by omega) (by omega) (by omega) (by simp; omega))
    obtain ⟨_, s2, _, es2, _, _, l2⟩ := putL_fit hs.c
    obtain ⟨_, s3, _, es3, _, _, l3⟩ := putL_fit (n := r.ttl) (s := 4) (fitB_true (by omega) (by omega) hs.t0 (by have := hs.t1; simp; omega))
    omega
  obtain ⟨hl1, hl2, hl3⟩ := hl123
  have hHL : (putH8 r B R).length = (nameW true r.name B R).1.length + 8 := by
    unfold putH8
    simp only [List.length_append]
    omega
  have hD0L : (putD0 r B R).1.length = (putH8 r B R).length + 2 + WL.length := by
    rw [hD0]
    simp only [List.length_append, hl0]
  clear hB0 hwh h ho hsep hs hG hlow hp hgn hi hl hD0
  subst hW
  go_enter Try.func24, Try.ntmps24
  go_wp2_with fail
  refine HS.out.mono ?_
  rintro e w1 ⟨rfl, hb1⟩
  have hz1 : w.heap.size < w1.heap.size := by have := hb1.size; simp at this; omega
  have HWB := Lib.hid (HW0.out.below hb1 (by simp))
  have HB1 := Lib.hid (HB0.out.trans (hb1.mono HB0.out.size))
  clear hb1 HS HB0 HW0
  have HWR1 := Lib.hid (HWR.out.below HB1.out)
  have HOR := Lib.hid (HO.out.keep fun j hj => HB1.out.block j hj)
  have HNB := Lib.hid (show ¬ ownF g vB vM w.heap.size from fun hj => Nat.lt_irrefl _ (HLOW.out _ hj))
  have HP := Lib.hid (Penned.refl HWR1.out)
  have p0 : w1.cell? ⟨w.heap.size, 0, none⟩ = some (.slice x.A r.name.length x.c) := Whole.cell (L := [.slice x.A r.name.length x.c, .int .i64 r.kind, .int .i64 r.cls, .int .i64 r.ttl, .slice x.d.Ab r.data.bytes.length x.d.cb, .slice x.d.Ah r.data.host.length x.d.ch, .slice x.d.Am r.data.mail.length x.d.cm, .slice x.d.An r.data.nums.length x.d.cn, .slice x.d.At r.data.texts.length x.d.ct]) (pen_box HP.out HWB.out HNB.out) 0
  go_wp2_with fail
  refine (name_sound base w1 g vB vM B R x.A r.name.length x.c w1.heap.size r.name true HWR1.out rfl HOR.out.at_.n (Nat.le_refl _) HSR.out.n (by omega) (by omega) fun q hq => (HGD.out q hq).1).mono ?_
  rintro e w2 ⟨rfl, hpn⟩
  have HP := Lib.hid hpn
  clear hpn p0
  have p1 : w2.cell? ⟨w.heap.size, 1, none⟩ = some (.int .i64 r.kind) := Whole.cell (L := [.slice x.A r.name.length x.c, .int .i64 r.kind, .int .i64 r.cls, .int .i64 r.ttl, .slice x.d.Ab r.data.bytes.length x.d.cb, .slice x.d.Ah r.data.host.length x.d.ch, .slice x.d.Am r.data.mail.length x.d.cm, .slice x.d.An r.data.nums.length x.d.cn, .slice x.d.At r.data.texts.length x.d.ct]) (pen_box HP.out HWB.out HNB.out) 1
  go_wp2_with fail
  obtain ⟨vB0, vM0, hw0, hg0, hf0⟩ := HP.out
  refine (num_any base w2 g vB0 vM0 _ _ r.kind 2 hw0 (by first | omega | (simp only [List.length_append]; omega))).mono ?_
  rintro e w3 ⟨rfl, hpn⟩
  have HP := Lib.hid (Penned.then hg0 hf0 hpn)
  clear hpn hw0 hg0 hf0 p1
  have p2 : w3.cell? ⟨w.heap.size, 2, none⟩ = some (.int .i64 r.cls) := Whole.cell (L := [.slice x.A r.name.length x.c, .int .i64 r.kind, .int .i64 r.cls, .int .i64 r.ttl, .slice x.d.Ab r.data.bytes.length x.d.cb, .slice x.d.Ah r.data.host.length x.d.ch, .slice x.d.Am r.data.mail.length x.d.cm, .slice x.d.An r.data.nums.length x.d.cn, .slice x.d.At r.data.texts.length x.d.ct]) (pen_box HP.out HWB.out HNB.out) 2
  go_wp2_with fail
  obtain ⟨vB1, vM1, hw1, hg1, hf1⟩ := HP.out
  refine (num_any base w3 g vB1 vM1 _ _ r.cls 2 hw1 (by first | omega | (simp only [List.length_append]; omega))).mono ?_
  rintro e w4 ⟨rfl, hpn⟩
  have HP := Lib.hid (Penned.then hg1 hf1 hpn)
  clear hpn hw1 hg1 hf1 p2
  have p3 : w4.cell? ⟨w.heap.size, 3, none⟩ = some (.int .i64 r.ttl) := Whole.cell (L := [.slice x.A r.name.length x.c, .int .i64 r.kind, .int .i64 r.cls, .int .i64 r.ttl, .slice x.d.Ab r.data.bytes.length x.d.cb, .slice x.d.Ah r.data.host.length x.d.ch, .slice x.d.Am r.data.mail.length x.d.cm, .slice x.d.An r.data.nums.length x.d.cn, .slice x.d.At r.data.texts.length x.d.ct]) (pen_box HP.out HWB.out HNB.out) 3
  go_wp2_with fail
  obtain ⟨vB2, vM2, hw2, hg2, hf2⟩ := HP.out
  refine (num_any base w4 g vB2 vM2 _ _ r.ttl 4 hw2 (by first | omega | (simp only [List.length_append]; omega))).mono ?_
  rintro e w5 ⟨rfl, hpn⟩
  have HP := Lib.hid (Penned.then hg2 hf2 hpn)
  clear hpn hw2 hg2 hf2 p3
  rw [show (((nameW true r.name B R).1 ++ putL [] r.kind 2) ++ putL [] r.cls 2) ++ putL [] r.ttl 4 = putH8 r B R from rfl] at HP
  obtain ⟨vB3, vM3, hw3, hg3, hf3⟩ := HP.out
  have HL := Lib.hid (len_any base w5 g vB3 vM3 _ _ hw3)
  go_wp2_with fail
  refine HL.out.mono ?_
  rintro e w6 ⟨rfl, rfl⟩
  clear HL
  go_wp2_with fail
  refine (num_any base w5 g vB3 vM3 _ _ 0 2 hw3 (by omega)).mono ?_
  rintro e w7 ⟨rfl, hpn⟩
  have HP := Lib.hid (Penned.then hg3 hf3 hpn)
  clear hpn hw3 hg3 hf3
  have p1 : w7.cell? ⟨w.heap.size, 1, none⟩ = some (.int .i64 r.kind) := Whole.cell (L := [.slice x.A r.name.length x.c, .int .i64 r.kind, .int .i64 r.cls, .int .i64 r.ttl, .slice x.d.Ab r.data.bytes.length x.d.cb, .slice x.d.Ah r.data.host.length x.d.ch, .slice x.d.Am r.data.mail.length x.d.cm, .slice x.d.An r.data.nums.length x.d.cn, .slice x.d.At r.data.texts.length x.d.ct]) (pen_box HP.out HWB.out HNB.out) 1
  have p4 : w7.cell? ⟨w.heap.size, 4, none⟩ = some (.slice x.d.Ab r.data.bytes.length x.d.cb) := Whole.cell (L := [.slice x.A r.name.length x.c, .int .i64 r.kind, .int .i64 r.cls, .int .i64 r.ttl, .slice x.d.Ab r.data.bytes.length x.d.cb, .slice x.d.Ah r.data.host.length x.d.ch, .slice x.d.Am r.data.mail.length x.d.cm, .slice x.d.An r.data.nums.length x.d.cn, .slice x.d.At r.data.texts.length x.d.ct]) (pen_box HP.out HWB.out HNB.out) 4
  have p5 : w7.cell? ⟨w.heap.size, 5, none⟩ = some (.slice x.d.Ah r.data.host.length x.d.ch) := Whole.cell (L := [.slice x.A r.name.length x.c, .int .i64 r.kind, .int .i64 r.cls, .int .i64 r.ttl, .slice x.d.Ab r.data.bytes.length x.d.cb, .slice x.d.Ah r.data.host.length x.d.ch, .slice x.d.Am r.data.mail.length x.d.cm, .slice x.d.An r.data.nums.length x.d.cn, .slice x.d.At r.data.texts.length x.d.ct]) (pen_box HP.out HWB.out HNB.out) 5
  have p6 : w7.cell? ⟨w.heap.size, 6, none⟩ = some (.slice x.d.Am r.data.mail.length x.d.cm) := Whole.cell (L := [.slice x.A r.name.length x.c, .int .i64 r.kind, .int .i64 r.cls, .int .i64 r.ttl, .slice x.d.Ab r.data.bytes.length x.d.cb, .slice x.d.Ah r.data.host.length x.d.ch, .slice x.d.Am r.data.mail.length x.d.cm, .slice x.d.An r.data.nums.length x.d.cn, .slice x.d.At r.data.texts.length x.d.ct]) (pen_box HP.out HWB.out HNB.out) 6
  have p7 : w7.cell? ⟨w.heap.size, 7, none⟩ = some (.slice x.d.An r.data.nums.length x.d.cn) := Whole.cell (L := [.slice x.A r.name.length x.c, .int .i64 r.kind, .int .i64 r.cls, .int .i64 r.ttl, .slice x.d.Ab r.data.bytes.length x.d.cb, .slice x.d.Ah r.data.host.length x.d.ch, .slice x.d.Am r.data.mail.length x.d.cm, .slice x.d.An r.data.nums.length x.d.cn, .slice x.d.At r.data.texts.length x.d.ct]) (pen_box HP.out HWB.out HNB.out) 7
  have p8 : w7.cell? ⟨w.heap.size, 8, none⟩ = some (.slice x.d.At r.data.texts.length x.d.ct) := Whole.cell (L := [.slice x.A r.name.length x.c, .int .i64 r.kind, .int .i64 r.cls, .int .i64 r.ttl, .slice x.d.Ab r.data.bytes.length x.d.cb, .slice x.d.Ah r.data.host.length x.d.ch, .slice x.d.Am r.data.mail.length x.d.cm, .slice x.d.An r.data.nums.length x.d.cn, .slice x.d.At r.data.texts.length x.d.ct]) (pen_box HP.out HWB.out HNB.out) 8
  go_wp2_with fail
  obtain ⟨vB4, vM4, hw4, hg4, hf4⟩ := HP.out
  have HOD := Lib.hid (pen_own HP.out HOR.out HSEP.out).d
  have hsep4 : ∀ j, ownF g vB4 vM4 j → ¬ x.d.owns r.data j := fun j hj ho => by
    rcases hf4 j hj with h1 | h1
    · exact HSEP.out j h1 (.inr ho)
    · have := (HOR.out.base (.inr ho)).2
      omega
  refine (put_apart base w7 g vB4 vM4 _ _ r.kind x.d r.data Bd hw4 HOD.out hsep4 HSR.out.d (by rw [List.length_append]; omega) (by omega) ?_).mono ?_
  · have h1 := (((HGN.out.more (putL [] r.kind 2)).more (putL [] r.cls 2)).more (putL [] r.ttl 4)).more (putL [] 0 2)
    exact h1
  rintro e w8 ⟨rfl, hpn⟩
  have HP := Lib.hid (show Penned base w1 g vB vM (putD0 r B R).1 (putD0 r B R).2 w8 from Penned.then hg4 hf4 hpn)
  clear hpn hw4 hg4 hf4 hsep4 HOD p1 p4 p5 p6 p7 p8
  obtain ⟨vB5, vM5, hw5, hg5, hf5⟩ := HP.out
  have HL := Lib.hid (len_any base w8 g vB5 vM5 _ _ hw5)
  go_wp2_with fail
  refine HL.out.mono ?_
  rintro e w9 ⟨rfl, rfl⟩
  clear HL
  go_wp2_with fail
  have e2 : ((nameW true r.name B R).1.length : Int) + 8 + 2 + (WL.length : Int) - (((nameW true r.name B R).1.length : Int) + 8) - 2 = (((putD0 r B R).1.length - ((putH8 r B R).length + 2) : Nat) : Int) := by omega
  have e1 : ((nameW true r.name B R).1.length : Int) + 8 = (((putH8 r B R).length : Nat) : Int) := by omega
  rw [e2, e1]
  refine (set_ok base w8 g vB5 vM5 _ _ (putH8 r B R).length ((putD0 r B R).1.length - ((putH8 r B R).length + 2)) 2 hw5 (by omega) (fitB_true (by omega) (by omega) (by omega) (by simp; omega)) (by omega)).mono ?_
  rintro e w10 ⟨rfl, hpn⟩
  have HP := Lib.hid (show Penned base w1 g vB vM (putRR r B R).1 (putRR r B R).2 w10 from Penned.then hg5 hf5 hpn)
  clear hpn hw5 hg5 hf5 e1 e2 hHL hD0L
  go_wp2
  go_ret
  exact ⟨rfl, Penned.from HB1.out HP.out⟩

end Go.Proofs.Ytjjmllbkfbdcnaa

namespace Go.Proofs.Ytjjmllbkfbdcnaa
open Go.RowKit

/-- Is data the same, byte by byte? -/
def exactD (a b : Dt) : Bool := sameD a b && (decide (a.host = b.host) && decide (a.mail = b.mail))
theorem exactD_self (d : Dt) : exactD d d = true := by simp [exactD, sameD, eqN]

set_option maxRecDepth 4000 in
set_option maxHeartbeats 2000000 in
theorem dexact_any (x y : DV) (a b : Dt) (w : World) (hx : DataAt w w.heap.size x a) (hy : DataAt w w.heap.size y b) (la : Sized a) (lb : Sized b) (kh : a.host.length ≤ maxLen) (km : a.mail.length ≤ maxLen) :
    Calls Try.prog 35 #[x.val a, y.val b] w (Gave w (.bool (exactD a b))) := by
  have HC1 := Lib.hid (fun W (h : Boxes w x y a b W) => ref_dsame_any x y a b W h.atA h.atB la lb)
  have HC2 := Lib.hid (fun W (h : Boxes w x y a b W) => exact_any x.Ah y.Ah a.host.length b.host.length x.ch y.ch w.heap.size a.host b.host W rfl rfl h.da.h h.db.h kh)
  have HC3 := Lib.hid (fun W (h : Boxes w x y a b W) => exact_any x.Am y.Am a.mail.length b.mail.length x.cm y.cm w.heap.size a.mail b.mail W rfl rfl h.da.m h.db.m km)
  have HX := Lib.hid (Boxes.made hx hy)
  have HS := Lib.hid (show exactD a b = (sameD a b && (decide (a.host = b.host) && decide (a.mail = b.mail))) from rfl)
  clear hx hy la lb kh km
  go_enter Try.func35, Try.ntmps35
  go_wp2_with fail
  obtain ⟨W0, hW0⟩ : ∃ W0, W0 = (w.alloc (.cells #[.slice x.Ab a.bytes.length x.cb, .slice x.Ah a.host.length x.ch, .slice x.Am a.mail.length x.cm, .slice x.An a.nums.length x.cn, .slice x.At a.texts.length x.ct] 26)).alloc (.cells #[.slice y.Ab b.bytes.length y.cb, .slice y.Ah b.host.length y.ch, .slice y.Am b.mail.length y.cm, .slice y.An b.nums.length y.cn, .slice y.At b.texts.length y.ct] 26) := ⟨_, rfl⟩
  rw [← hW0]
  have hx0 : Boxes w x y a b W0 := by rw [hW0]; exact HX.out
  clear HX hW0
  refine (HC1.out W0 hx0).mono ?_
  intro e W1 hO
  obtain ⟨he, hb⟩ := hO
  have hx1 := hx0.step hb
  clear hb hx0
  cases hv : sameD a b with
  | false =>
    rw [hv] at he HS
    subst he
    have HB := Lib.hid hx1.below
    clear hx1
    go_wp2
    go_ret
    exact ⟨by rw [HS.out]; rfl, HB.out⟩
  | true =>
  rw [hv] at he HS
  subst he
  have p1 : W1.cell? ⟨w.heap.size, 1, none⟩ = some (.slice x.Ah a.host.length x.ch) := hx1.ba.cell 1
  have q1 : W1.cell? ⟨w.heap.size + 1, 1, none⟩ = some (.slice y.Ah b.host.length y.ch) := hx1.bb.cell 1
  go_wp2_with fail
  refine (HC2.out W1 hx1).mono ?_
  intro e W2 hO
  obtain ⟨he, hb⟩ := gave_drewn hO
  have hx2 := hx1.step hb
  clear hO hb hx1 p1 q1
  cases hv : decide (a.host = b.host) with
  | false =>
    rw [hv] at he HS
    subst he
    have HB := Lib.hid hx2.below
    clear hx2
    go_wp2
    go_ret
    exact ⟨by rw [HS.out]; rfl, HB.out⟩
  | true =>
  rw [hv] at he HS
  subst he
  have p2 : W2.cell? ⟨w.heap.size, 2, none⟩ = some (.slice x.Am a.mail.length x.cm) := hx2.ba.cell 2
  have q2 : W2.cell? ⟨w.heap.size + 1, 2, none⟩ = some (.slice y.Am b.mail.length y.cm) := hx2.bb.cell 2
  go_wp2_with fail
  refine (HC3.out W2 hx2).mono ?_
  intro e W3 hO
  obtain ⟨he, hb⟩ := gave_drewn hO
  have hx3 := hx2.step hb
  clear hO hb hx2 p2 q2
  subst he
  have HB := Lib.hid hx3.below
  clear hx3
  go_wp2
  go_ret
  refine ⟨?_, HB.out⟩
  rw [HS.out]
  simp

end Go.Proofs.Ytjjmllbkfbdcnaa

namespace Go.Proofs.Ytjjmllbkfbdcnaa
open Go.RowKit

def OwnOne (w : World) (r : Rt) (e : Ending) (w' : World) : Prop := ∃ y : RV, e = .returned (y.val r) ∧ OwnR w' w.heap.size y r ∧ Below w.heap.size w w'

set_option maxRecDepth 100000 in
set_option maxHeartbeats 4000000 in
theorem own_one (x : RV) (r : Rt) (w : World) (hx : RAt w w.heap.size x r) (hl : LightR r) :
    Calls Try.prog 25 #[x.val r] w (OwnOne w r) := by
  obtain ⟨W1, hW1⟩ : ∃ W, W = (w.alloc (.cells #[.slice x.A r.name.length x.c, .int .i64 r.kind, .int .i64 r.cls, .int .i64 r.ttl, .slice x.d.Ab r.data.bytes.length x.d.cb, .slice x.d.Ah r.data.host.length x.d.ch, .slice x.d.Am r.data.mail.length x.d.cm, .slice x.d.An r.data.nums.length x.d.cn, .slice x.d.At r.data.texts.length x.d.ct] 51)).alloc (.cells #[.slice none 0 0, .int .i64 0, .int .i64 0, .int .i64 0, .slice none 0 0, .slice none 0 0, .slice none 0 0, .slice none 0 0, .slice none 0 0] 51) := ⟨_, rfl⟩
  obtain ⟨W2, hW2⟩ : ∃ W, W = W1.alloc (.cells #[.slice x.A r.name.length x.c, .int .i64 r.kind, .int .i64 r.cls, .int .i64 r.ttl, .slice x.d.Ab r.data.bytes.length x.d.cb, .slice x.d.Ah r.data.host.length x.d.ch, .slice x.d.Am r.data.mail.length x.d.cm, .slice x.d.An r.data.nums.length x.d.cn, .slice x.d.At r.data.texts.length x.d.ct] 51) := ⟨_, rfl⟩
  have hz1 : W1.heap.size = w.heap.size + 2 := by rw [hW1]; simp
  have hz2 : W2.heap.size = w.heap.size + 3 := by rw [hW2]; simp [hz1]
  have hb1 : Below w.heap.size w W1 := by rw [hW1]; exact ((Below.refl _ _).alloc (Nat.le_refl _) _).alloc (by simp) _
  have hb2 : Below w.heap.size w W2 := by rw [hW2]; exact hb1.alloc (by omega) _
  have hwh : Whole W2 (w.heap.size + 1) 51 [.slice none 0 0, .int .i64 0, .int .i64 0, .int .i64 0, .slice none 0 0, .slice none 0 0, .slice none 0 0, .slice none 0 0, .slice none 0 0] := by
    rw [hW2, hW1]
    have h := (Whole.made (w.alloc (.cells #[.slice x.A r.name.length x.c, .int .i64 r.kind, .int .i64 r.cls, .int .i64 r.ttl, .slice x.d.Ab r.data.bytes.length x.d.cb, .slice x.d.Ah r.data.host.length x.d.ch, .slice x.d.Am r.data.mail.length x.d.cm, .slice x.d.An r.data.nums.length x.d.cn, .slice x.d.At r.data.texts.length x.d.ct] 51)) [.slice none 0 0, .int .i64 0, .int .i64 0, .int .i64 0, .slice none 0 0, .slice none 0 0, .slice none 0 0, .slice none 0 0, .slice none 0 0] 51)
    rw [show (w.alloc (.cells #[.slice x.A r.name.length x.c, .int .i64 r.kind, .int .i64 r.cls, .int .i64 r.ttl, .slice x.d.Ab r.data.bytes.length x.d.cb, .slice x.d.Ah r.data.host.length x.d.ch, .slice x.d.Am r.data.mail.length x.d.cm, .slice x.d.An r.data.nums.length x.d.cn, .slice x.d.At r.data.texts.length x.d.ct] 51)).heap.size = w.heap.size + 1 by simp] at h
    exact h.alloc _
  have hrow : Row W2 W2.heap.size (some ⟨w.heap.size + 2, 0, none⟩) ([(x, r)].flatMap cellsR) := by
    have h := Row.made W1 #[.slice x.A r.name.length x.c, .int .i64 r.kind, .int .i64 r.cls, .int .i64 r.ttl, .slice x.d.Ab r.data.bytes.length x.d.cb, .slice x.d.Ah r.data.host.length x.d.ch, .slice x.d.Am r.data.mail.length x.d.cm, .slice x.d.An r.data.nums.length x.d.cn, .slice x.d.At r.data.texts.length x.d.ct] 51
    rw [hz1, ← hW2] at h
    rw [hz2]
    exact h
  have HC := Lib.hid (ownRRs_rows W2 (some ⟨w.heap.size + 2, 0, none⟩) 1 [(x, r)] ⟨hrow, fun p hp => by rw [List.mem_singleton.1 hp]; exact (hx.below hb2).mono hb2.size⟩ (fun p hp => by rw [List.mem_singleton.1 hp]; exact hl) (by simp))
  have HB2 := Lib.hid hb2
  have HW2 := Lib.hid hwh
  have HZ2 := Lib.hid hz2
  clear hb1 hb2 hwh hrow hx hl hz1 hz2
  subst hW2
  subst hW1
  go_enter Try.func25, Try.ntmps25
  go_wp2_with fail
  refine HC.out.mono ?_
  rintro e w3 ⟨A3, c3, qs, rfl, hq, hrs⟩
  have hql : qs.length = 1 := by rw [← length_recs, hq]; rfl
  match qs, hql, hq, hrs with
  | [(y, r2)], _, hq, hrs =>
  obtain rfl : r2 = r := by simpa [recs] using hq
  obtain ⟨b, off, rfl, hbH, _, q0, q1, q2, q3, q4, q5, q6, q7, q8⟩ := hrs.reads.at_ (i := 0) (by simp)
  simp only [List.getElem_cons_zero, Nat.zero_mul, Nat.add_zero] at q0 q1 q2 q3 q4 q5 q6 q7 q8
  have HY := Lib.hid (hrs.each (y, r2) (by simp))
  have hzz := hrs.size
  rw [HZ2.out] at hzz
  have HB3 := Lib.hid (HB2.out.trans (hrs.below.mono (by rw [HZ2.out]; omega)))
  have HW3 := Lib.hid (HW2.out.below hrs.below (by rw [HZ2.out]; omega))
  clear hrs hq HB2 HW2 HC
  go_wp2_with (
    refine wpList_storeRR (w.heap.size + 1) 2 7 y r2 _ rfl rfl rfl rfl HW3.out rfl ?_
    intro V hWV hbv hhv hvs
    have v0 : V.cell? ⟨w.heap.size + 1, 0, none⟩ = some (.slice y.A r2.name.length y.c) := hWV.cell 0
    have v1 : V.cell? ⟨w.heap.size + 1, 1, none⟩ = some (.int .i64 r2.kind) := hWV.cell 1
    have v2 : V.cell? ⟨w.heap.size + 1, 2, none⟩ = some (.int .i64 r2.cls) := hWV.cell 2
    have v3 : V.cell? ⟨w.heap.size + 1, 3, none⟩ = some (.int .i64 r2.ttl) := hWV.cell 3
    have v4 : V.cell? ⟨w.heap.size + 1, 4, none⟩ = some (.slice y.d.Ab r2.data.bytes.length y.d.cb) := hWV.cell 4
    have v5 : V.cell? ⟨w.heap.size + 1, 5, none⟩ = some (.slice y.d.Ah r2.data.host.length y.d.ch) := hWV.cell 5
    have v6 : V.cell? ⟨w.heap.size + 1, 6, none⟩ = some (.slice y.d.Am r2.data.mail.length y.d.cm) := hWV.cell 6
    have v7 : V.cell? ⟨w.heap.size + 1, 7, none⟩ = some (.slice y.d.An r2.data.nums.length y.d.cn) := hWV.cell 7
    have v8 : V.cell? ⟨w.heap.size + 1, 8, none⟩ = some (.slice y.d.At r2.data.texts.length y.d.ct) := hWV.cell 8
    have HBV := Lib.hid (HB3.out.trans (hbv.mono (Nat.le_succ _)))
    have HYV := Lib.hid (HY.out.keepB (w' := V) fun g h1 _ => hhv g (by rw [HZ2.out] at h1; omega))
    clear hWV hbv hhv hvs)
  refine ⟨rfl, y.val r2, ?_, y, rfl, ?_, HBV.out⟩
  · simp [results, Try.results25, go_sem, v0, v1, v2, v3, v4, v5, v6, v7, v8]
  · have h := HYV.out
    rw [HZ2.out] at h
    exact ⟨own_mono h.n (by omega), h.d.monoB (by omega)⟩

end Go.Proofs.Ytjjmllbkfbdcnaa

namespace Go.Proofs.Ytjjmllbkfbdcnaa
open Go.RowKit

set_option maxRecDepth 20000 in
theorem getRR_example : getRR [0, 0, 1, 0, 1, 0, 0, 0, 5, 0, 4, 1, 2, 3, 4] 0 = (⟨[], 1, 1, 5, ⟨[1, 2, 3, 4], [], [], [], []⟩⟩, 15, 0) := by
  have h : getW [0, 0, 1, 0, 1, 0, 0, 0, 5, 0, 4, 1, 2, 3, 4] 0 = ([], 1, 0) := by
    rw [show (0 : Int) = ((0 : Nat) : Int) from rfl, getW_at, getR_zero (by decide) (by decide)]
    rfl
  unfold getRR
  rw [h]
  rfl

set_option maxRecDepth 8000 in
set_option maxHeartbeats 2000000 in
theorem ranswers_any (w : World) : Calls Try.prog 22 #[] w (TrueB w) := by
  have HG := Lib.hid (fun W A c hr hc1 hc2 => rget_any A 15 c [0, 0, 1, 0, 1, 0, 0, 0, 5, 0, 4, 1, 2, 3, 4] 0 W rfl hr hc1 hc2 (by omega))
  rw [getRR_example] at HG
  go_enter Try.func22, Try.ntmps22
  go_wp2_with fail
  refine (HG.out _ (some ⟨w.heap.size, 0, none⟩) 15 ?_ (by decide) (by decide)).mono ?_
  · exact (Row.made w #[.int .u8 0, .int .u8 0, .int .u8 1, .int .u8 0, .int .u8 1, .int .u8 0, .int .u8 0, .int .u8 0, .int .u8 5, .int .u8 0, .int .u8 4, .int .u8 1, .int .u8 2, .int .u8 3, .int .u8 4] 5).mono (by simp)
  rintro e w1 ⟨⟨A, c, ⟨Ab, Ah, Am, An, At, cb, ch, cm, cn, ct⟩⟩, rfl, _, hb⟩
  have HB := Lib.hid hb
  clear hb
  go_wp2
  go_ret
  exact ⟨rfl, (((Below.refl _ _).alloc (Nat.le_refl _) _).trans (HB.out.mono (by simp))).alloc (Nat.le_trans (by simp) HB.out.size) _⟩

end Go.Proofs.Ytjjmllbkfbdcnaa

namespace Go.Proofs.Ytjjmllbkfbdcnaa
open Go.RowKit

theorem putD_kept {s : Sh} {d : Dt} (B : List UInt8) (R : Rs) (h : ∀ q ∈ R, q.2 < 16384 ∧ q.1.length ≤ 1000) (lh : d.host.length ≤ 1000) (lm : d.mail.length ≤ 1000) : ∀ q ∈ (putD s d B R).2, q.2 < 16384 ∧ q.1.length ≤ 1000 := by
  have hH : ∀ q ∈ (putH s d B R).2, q.2 < 16384 ∧ q.1.length ≤ 1000 := by
    unfold putH
    cases hh : s.host
    · simp only [Bool.false_eq_true, if_false]
      exact h
    · simp only [if_true]
      exact nameW_kept _ _ _ _ h lh
  unfold putD
  dsimp only
  unfold putM
  cases hh : s.mail
  · simp only [Bool.false_eq_true, if_false]
    exact hH
  · simp only [if_true]
    exact nameW_kept _ _ _ _ hH lm
theorem putRR_kept {r : Rt} (B : List UInt8) (R : Rs) (h : ∀ q ∈ R, q.2 < 16384 ∧ q.1.length ≤ 1000) (l : LightR r) : ∀ q ∈ (putRR r B R).2, q.2 < 16384 ∧ q.1.length ≤ 1000 := by
  have l0 := l.l0
  have l1 := l.l1
  have l2 := l.l2
  exact putD_kept _ _ (nameW_kept true r.name B R h (by omega)) (by omega) (by omega)

set_option maxRecDepth 20000 in
set_option maxHeartbeats 2000000 in
theorem rrwrites_dark (w : World) (A : Option Addr) (c : Nat) (ps : List (RV × Rt)) (hp : RsAt w w.heap.size A ps) (hm : ps.length ≤ maxLen) (hl : lightL (recs ps) = false) :
    Calls Try.prog 4 #[.slice A ps.length c] w (TrueB w) := by
  have HL := Lib.hid (fun W (h : Below w.heap.size w W) => lightL_any W A c ps ((hp.below h).mono h.size) hm)
  rw [hl] at HL
  clear hp hl
  go_enter Try.func4, Try.ntmps4
  go_wp2_with fail
  refine (ranswers_any _).mono ?_
  rintro e w1 ⟨rfl, hb1⟩
  have HB1 := Lib.hid hb1
  clear hb1
  go_wp2_with fail
  refine (HL.out w1 HB1.out).mono ?_
  rintro e w2 ⟨rfl, hb2⟩
  have HB2 := Lib.hid (HB1.out.trans (hb2.mono HB1.out.size))
  clear hb2
  go_wp2_with fail
  refine (ranswers_any _).mono ?_
  rintro e w3 ⟨rfl, hb3⟩
  have HB3 := Lib.hid (HB2.out.trans (hb3.mono HB2.out.size))
  clear hb3
  go_wp2
  go_ret
  exact ⟨rfl, HB3.out⟩

/-- Both Writers hold the same, ahead of a round. -/
def RWPut (w : World) (b0 g2 N : Nat) (i : Value) (wr : World) : Prop :=
  ∃ (k : Nat) (vB1 vM1 : Value) (B : List UInt8) (R : Rs) (Fp : Nat → Prop) (vB2 vR2 : Value), k ≤ N ∧ i = .int .i64 k ∧ Pair wr b0 b0 vB1 vM1 B R Fp g2 vB2 vR2 B R ∧
    B.length ≤ 70000 * k ∧ R.length ≤ 900 * k ∧ GoodR B R ∧ (∀ q ∈ R, q.2 < 16384 ∧ q.1.length ≤ 1000) ∧ Below w.heap.size w wr ∧ b0 ≤ wr.heap.size

set_option maxRecDepth 20000 in
set_option maxHeartbeats 8000000 in
theorem rrwrites_light (w : World) (A : Option Addr) (c : Nat) (ps : List (RV × Rt)) (hp : RsAt w w.heap.size A ps) (hr : ∀ p ∈ ps, RIn p.2) (hl : lightL (recs ps) = true) :
    Calls Try.prog 4 #[.slice A ps.length c] w (TrueB w) := by
  have hle := lightL_each hl
  have hn : ps.length ≤ 60 := by have := hle.2; rwa [length_recs] at this
  have hlr : ∀ p ∈ ps, LightR p.2 := fun p h => hle.1 _ (List.mem_map.2 ⟨p, h, rfl⟩)
  have HL := Lib.hid (fun W (h : Below w.heap.size w W) => lightL_any W A c ps ((hp.below h).mono h.size) (by unfold maxLen; omega))
  rw [hl] at HL
  have HP := Lib.hid hp
  have HR := Lib.hid hr
  have HLR := Lib.hid hlr
  clear hp hr hl hle hlr
  go_enter Try.func4, Try.ntmps4
  go_wp2_with fail
  refine (ranswers_any _).mono ?_
  rintro e w1 ⟨rfl, hb1⟩
  have HB1 := Lib.hid hb1
  clear hb1
  go_wp2_with fail
  refine (HL.out w1 HB1.out).mono ?_
  rintro e w2 ⟨rfl, hb2⟩
  have HB2 := Lib.hid (HB1.out.trans (hb2.mono HB1.out.size))
  clear hb2 HB1 HL
  go_wp2_with fail
  refine (new_any _).mono ?_
  rintro e w3 ⟨rfl, hw, hb⟩
  obtain ⟨b0, hb0⟩ : ∃ b0, b0 = w2.heap.size := ⟨_, rfl⟩
  rw [← hb0] at hw hb ⊢
  have hzb : w.heap.size ≤ b0 := by have := HB2.out.size; omega
  have HQ0 := Lib.hid (Pair.new hw)
  have hbn : Below b0 w2 (w3.alloc (.cells #[.slice none 0 0, .slice none 0 0] 35)) := hb.alloc (by have := hb.size; omega) _
  have HB3 := Lib.hid (HB2.out.trans (hbn.mono hzb))
  have HZ3 := Lib.hid (show b0 ≤ (w3.alloc (.cells #[.slice none 0 0, .slice none 0 0] 35)).heap.size by have := hbn.size; omega)
  clear hb hw HB2 hb0 hbn
  go_wp2
  obtain ⟨g2, hg2⟩ : ∃ g2, g2 = w3.heap.size := ⟨_, rfl⟩
  rw [← hg2] at HQ0 ⊢
  clear hg2
  go_loopw [5] (RWPut w b0 g2 ps.length) (fun i _ => ps.length - (intOf i).toNat)
  case atStart => exact ⟨0, _, _, [], [], _, _, _, Nat.zero_le _, rfl, HQ0.out, by simp, by simp, GoodR.nil _, fun r hr => absurd hr (List.not_mem_nil), HB3.out, HZ3.out⟩
  case round =>
    obtain ⟨k, vB1, vM1, B, R, Fp, vB2, vR2, hk, rfl, hpr, hBl, hRl, hG, hR16, hb, hz⟩ := hrel
    obtain ⟨A2, c2, rfl, _, _⟩ := own_form hpr.w2.row
    have s0 := hpr.w2.c0
    have HQ := Lib.hid hpr
    have HG := Lib.hid hG
    have HR16 := Lib.hid hR16
    have HB := Lib.hid hb
    clear hpr hG hR16 hb HQ0 HB3 HZ3
    by_cases hlt : k < ps.length
    case neg =>
      obtain rfl : k = ps.length := by omega
      have HPR := Lib.hid (HQ.out.below (Below.refl _ _).drew)
      have HBR := Lib.hid (HB.out.trans ((Below.refl wr.heap.size wr).drew.mono (show w.heap.size ≤ wr.heap.size by omega)))
      clear HQ HB
      go_wp2
      go_region_held3 (fun W => W.cell? ⟨g2, 0, none⟩ = some (.slice A2 B.length c2))
        (exact HPR.out.w2.c0)
        ((first
          | (go_at_call 21
             refine (bytes_any b0 _ b0 vB1 vM1 B R HPR.out.w1 (by omega)).mono ?_
             rintro e wn ⟨A7, c7, rfl, ho7, hb⟩
             have HR7 := Lib.hid (Row.of_own ho7)
             have HBR := Lib.hid (HBR.out.trans (hb.mono (Nat.le_trans hzb HPR.out.w1.size)))
             have HPR := Lib.hid (HPR.out.below hb)
             have HR27 := Lib.hid (Row.of_own HPR.out.w2.row)
             clear ho7 hb)
          | (go_at_call 20
             refine (same_yes _ A2 B.length B.length _ c2 _ B _ rfl rfl HR7.out HR27.out (by unfold maxLen; omega)).mono ?_
             rintro e wn ⟨rfl, k8, rfl⟩
             have HBR := Lib.hid (HBR.out.trans ((below_drewN (Below.refl _ _) k8).mono (Nat.le_trans hzb HPR.out.w1.size)))
             have HPR := Lib.hid (HPR.out.below (below_drewN (Below.refl _ _) k8)))
          | (go_at_call 24
             refine (rrput_nil _).mono ?_
             rintro e wn ⟨rfl, hb⟩
             have HBR := Lib.hid (HBR.out.trans (hb.mono (Nat.le_trans hzb HPR.out.w1.size)))
             have HPR := Lib.hid (HPR.out.below hb)
             clear hb)))
      go_wp2
      go_ret
      exact ⟨rfl, HBR.out⟩
    have hb5 : B.length ≤ 4200000 ∧ R.length ≤ 54000 := by omega
    have HBL := Lib.hid (And.intro hBl hRl)
    clear hBl hRl
    by_cases hmo : B.length < 100000
    case neg =>
      have d1 : decide ((B.length : Int) < 100000) = false := by simp; omega
      clear hmo
      have HPR := Lib.hid (HQ.out.below (Below.refl _ _).drew)
      have HBR := Lib.hid (HB.out.trans ((Below.refl wr.heap.size wr).drew.mono (show w.heap.size ≤ wr.heap.size by omega)))
      clear HQ HB
      go_wp2
      go_region_held3 (fun W => W.cell? ⟨g2, 0, none⟩ = some (.slice A2 B.length c2))
        (exact HPR.out.w2.c0)
        ((first
          | (go_at_call 21
             refine (bytes_any b0 _ b0 vB1 vM1 B R HPR.out.w1 (by omega)).mono ?_
             rintro e wn ⟨A7, c7, rfl, ho7, hb⟩
             have HR7 := Lib.hid (Row.of_own ho7)
             have HBR := Lib.hid (HBR.out.trans (hb.mono (Nat.le_trans hzb HPR.out.w1.size)))
             have HPR := Lib.hid (HPR.out.below hb)
             have HR27 := Lib.hid (Row.of_own HPR.out.w2.row)
             clear ho7 hb)
          | (go_at_call 20
             refine (same_yes _ A2 B.length B.length _ c2 _ B _ rfl rfl HR7.out HR27.out (by unfold maxLen; omega)).mono ?_
             rintro e wn ⟨rfl, k8, rfl⟩
             have HBR := Lib.hid (HBR.out.trans ((below_drewN (Below.refl _ _) k8).mono (Nat.le_trans hzb HPR.out.w1.size)))
             have HPR := Lib.hid (HPR.out.below (below_drewN (Below.refl _ _) k8)))
          | (go_at_call 24
             refine (rrput_nil _).mono ?_
             rintro e wn ⟨rfl, hb⟩
             have HBR := Lib.hid (HBR.out.trans (hb.mono (Nat.le_trans hzb HPR.out.w1.size)))
             have HPR := Lib.hid (HPR.out.below hb)
             clear hb)))
      go_wp2
      go_ret
      exact ⟨rfl, HBR.out⟩
    have d1 : decide ((B.length : Int) < 100000) = true := by simp; omega
    have HMO := Lib.hid hmo
    clear hmo
    obtain ⟨b, off, rfl, hbH, hra, q0, q1, q2, q3, q4, q5, q6, q7, q8⟩ := HP.out.at_ hlt
    have hri := HR.out _ (List.getElem_mem hlt)
    have hli := HLR.out _ (List.getElem_mem hlt)
    revert hra q0 q1 q2 q3 q4 q5 q6 q7 q8 hri hli
    generalize ps[k] = p
    obtain ⟨x, r⟩ := p
    intro hra q0 q1 q2 q3 q4 q5 q6 q7 q8 hri hli
    dsimp only at *
    have HRA := Lib.hid hra
    have HRI := Lib.hid hri
    have HLI := Lib.hid hli
    have Q0 := Lib.hid q0
    have Q1 := Lib.hid q1
    have Q2 := Lib.hid q2
    have Q3 := Lib.hid q3
    have Q4 := Lib.hid q4
    have Q5 := Lib.hid q5
    have Q6 := Lib.hid q6
    have Q7 := Lib.hid q7
    have Q8 := Lib.hid q8
    have k0 := (HB.out.cell (p := ⟨b, off + k * 9, none⟩) hbH).trans Q0.out
    have k1 := (HB.out.cell (p := ⟨b, off + k * 9 + 1, none⟩) hbH).trans Q1.out
    have k2 := (HB.out.cell (p := ⟨b, off + k * 9 + 2, none⟩) hbH).trans Q2.out
    have k3 := (HB.out.cell (p := ⟨b, off + k * 9 + 3, none⟩) hbH).trans Q3.out
    have k4 := (HB.out.cell (p := ⟨b, off + k * 9 + 4, none⟩) hbH).trans Q4.out
    have k5 := (HB.out.cell (p := ⟨b, off + k * 9 + 5, none⟩) hbH).trans Q5.out
    have k6 := (HB.out.cell (p := ⟨b, off + k * 9 + 6, none⟩) hbH).trans Q6.out
    have k7 := (HB.out.cell (p := ⟨b, off + k * 9 + 7, none⟩) hbH).trans Q7.out
    have k8 := (HB.out.cell (p := ⟨b, off + k * 9 + 8, none⟩) hbH).trans Q8.out
    have HOW := Lib.hid (own_one x r wr ((hra.below HB.out).mono (by omega)) hli)
    clear q0 q1 q2 q3 q4 q5 q6 q7 q8 hra hri hli
    go_wp2_with fail
    refine HOW.out.mono ?_
    rintro e w4 ⟨y, rfl, hy, hb4⟩
    have HY := Lib.hid hy
    have HQ4 := Lib.hid (HQ.out.below hb4)
    have HB4 := Lib.hid (HB.out.trans (hb4.mono (by omega)))
    have hz4 : b0 ≤ w4.heap.size := Nat.le_trans hz hb4.size
    clear hy hb4 HOW k0 k1 k2 k3 k4 k5 k6 k7 k8 s0
    cases hs : soundR r with
    | false =>
      have HPUT := Lib.hid (rrput_bad w4 b0 y r HY.out.at_ hs HRI.out HLI.out)
      have HSD := Lib.hid (fun y W (h : RAt W W.heap.size y r) => rsound_any y r W h HRI.out HLI.out)
      have HSR := Lib.hid (fun y W (h : RAt W W.heap.size y r) => ref_rsound_any y r W h HRI.out HLI.out)
      rw [hs] at HSD HSR
      clear hs
      go_wp2_with fail
      refine HPUT.out.mono ?_
      rintro e w5 ⟨rfl, hb5⟩
      have HQ5 := Lib.hid (HQ4.out.below hb5)
      have HB5 := Lib.hid (HB4.out.trans (hb5.mono (by omega)))
      have hz5 : b0 ≤ w5.heap.size := Nat.le_trans hz4 hb5.size
      clear hb5 HPUT HQ4 HB4 HY
      have k0 := (HB5.out.cell (p := ⟨b, off + k * 9, none⟩) hbH).trans Q0.out
      have k1 := (HB5.out.cell (p := ⟨b, off + k * 9 + 1, none⟩) hbH).trans Q1.out
      have k2 := (HB5.out.cell (p := ⟨b, off + k * 9 + 2, none⟩) hbH).trans Q2.out
      have k3 := (HB5.out.cell (p := ⟨b, off + k * 9 + 3, none⟩) hbH).trans Q3.out
      have k4 := (HB5.out.cell (p := ⟨b, off + k * 9 + 4, none⟩) hbH).trans Q4.out
      have k5 := (HB5.out.cell (p := ⟨b, off + k * 9 + 5, none⟩) hbH).trans Q5.out
      have k6 := (HB5.out.cell (p := ⟨b, off + k * 9 + 6, none⟩) hbH).trans Q6.out
      have k7 := (HB5.out.cell (p := ⟨b, off + k * 9 + 7, none⟩) hbH).trans Q7.out
      have k8 := (HB5.out.cell (p := ⟨b, off + k * 9 + 8, none⟩) hbH).trans Q8.out
      have HRA5 := Lib.hid ((HRA.out.below HB5.out).mono (show w.heap.size ≤ w5.heap.size by omega))
      go_wp2_with fail
      refine (HSR.out _ _ HRA5.out).mono ?_
      rintro e w6 ⟨rfl, hb6⟩
      have HQ6 := Lib.hid (HQ5.out.below hb6)
      have HB6 := Lib.hid (HB5.out.trans (hb6.mono (by omega)))
      have hz6 : b0 ≤ w6.heap.size := Nat.le_trans hz5 hb6.size
      clear hb6 HQ5 HB5 HRA5 k0 k1 k2 k3 k4 k5 k6 k7 k8
      have k0 := (HB6.out.cell (p := ⟨b, off + k * 9, none⟩) hbH).trans Q0.out
      have k1 := (HB6.out.cell (p := ⟨b, off + k * 9 + 1, none⟩) hbH).trans Q1.out
      have k2 := (HB6.out.cell (p := ⟨b, off + k * 9 + 2, none⟩) hbH).trans Q2.out
      have k3 := (HB6.out.cell (p := ⟨b, off + k * 9 + 3, none⟩) hbH).trans Q3.out
      have k4 := (HB6.out.cell (p := ⟨b, off + k * 9 + 4, none⟩) hbH).trans Q4.out
      have k5 := (HB6.out.cell (p := ⟨b, off + k * 9 + 5, none⟩) hbH).trans Q5.out
      have k6 := (HB6.out.cell (p := ⟨b, off + k * 9 + 6, none⟩) hbH).trans Q6.out
      have k7 := (HB6.out.cell (p := ⟨b, off + k * 9 + 7, none⟩) hbH).trans Q7.out
      have k8 := (HB6.out.cell (p := ⟨b, off + k * 9 + 8, none⟩) hbH).trans Q8.out
      have HOW := Lib.hid (own_one x r w6 ((HRA.out.below HB6.out).mono (by omega)) HLI.out)
      go_wp2_with fail
      refine HOW.out.mono ?_
      rintro e w7 ⟨y2, rfl, hy, hb7⟩
      have HY := Lib.hid hy
      have HQ7 := Lib.hid (HQ6.out.below hb7)
      have HB7 := Lib.hid (HB6.out.trans (hb7.mono (by omega)))
      have hz7 : b0 ≤ w7.heap.size := Nat.le_trans hz6 hb7.size
      clear hy hb7 HOW HQ6 HB6 k0 k1 k2 k3 k4 k5 k6 k7 k8
      go_wp2_with fail
      refine (HSD.out _ _ HY.out.at_).mono ?_
      rintro e w8 ⟨rfl, hb8⟩
      have HQ8 := Lib.hid (HQ7.out.below hb8)
      have HB8 := Lib.hid (HB7.out.trans (hb8.mono (by omega)))
      have hz8 : b0 ≤ w8.heap.size := Nat.le_trans hz7 hb8.size
      clear hb8 HQ7 HB7 HY
      go_wp2
      exact ⟨⟨k + 1, vB1, vM1, B, R, Fp, _, vR2, hlt, by go_num, HQ8.out, by have := HBL.out.1; omega, by have := HBL.out.2; omega, HG.out, HR16.out, HB8.out, hz8⟩, by simp [intOf]; omega⟩
    | true =>
      have hsr := soundR_iff.1 hs
      have HS := Lib.hid hsr
      have HSD := Lib.hid (fun y W (h : RAt W W.heap.size y r) => rsound_any y r W h HRI.out HLI.out)
      have HSR := Lib.hid (fun y W (h : RAt W W.heap.size y r) => ref_rsound_any y r W h HRI.out HLI.out)
      rw [hs] at HSD HSR
      have hwl := HQ.out.w1
      have hsep : ∀ j, ownF b0 vB1 vM1 j → ¬ y.owns r j := fun j hj ho => by
        have h1 := (hwl.own hj).2
        have h2 := (HY.out.base ho).1
        omega
      have HPUT := Lib.hid (rrput_sound b0 w4 b0 vB1 vM1 _ _ y r wr.heap.size HQ4.out.w1 HY.out hsep hsr HRI.out HLI.out (by omega) (by omega) HG.out)
      obtain ⟨_, hG2, hB2, hR2, _⟩ := putRR_back hsr HG.out
      have HG2 := Lib.hid hG2
      have HR162 := Lib.hid (putRR_kept B R HR16.out HLI.out)
      clear hs hsr hwl hsep hG2
      go_wp2_with fail
      refine HPUT.out.mono ?_
      rintro e w5 ⟨rfl, hpn⟩
      obtain ⟨vB3, vM3, hp5, hb5⟩ := HQ4.out.pen1 hpn
      have HQ5 := Lib.hid hp5
      have HB5 := Lib.hid (HB4.out.trans (hb5.mono hzb))
      have hz5 : b0 ≤ w5.heap.size := Nat.le_trans hz4 hb5.size
      clear hpn hp5 hb5 HPUT HQ4 HB4 HY
      have k0 := (HB5.out.cell (p := ⟨b, off + k * 9, none⟩) hbH).trans Q0.out
      have k1 := (HB5.out.cell (p := ⟨b, off + k * 9 + 1, none⟩) hbH).trans Q1.out
      have k2 := (HB5.out.cell (p := ⟨b, off + k * 9 + 2, none⟩) hbH).trans Q2.out
      have k3 := (HB5.out.cell (p := ⟨b, off + k * 9 + 3, none⟩) hbH).trans Q3.out
      have k4 := (HB5.out.cell (p := ⟨b, off + k * 9 + 4, none⟩) hbH).trans Q4.out
      have k5 := (HB5.out.cell (p := ⟨b, off + k * 9 + 5, none⟩) hbH).trans Q5.out
      have k6 := (HB5.out.cell (p := ⟨b, off + k * 9 + 6, none⟩) hbH).trans Q6.out
      have k7 := (HB5.out.cell (p := ⟨b, off + k * 9 + 7, none⟩) hbH).trans Q7.out
      have k8 := (HB5.out.cell (p := ⟨b, off + k * 9 + 8, none⟩) hbH).trans Q8.out
      have HRA5 := Lib.hid ((HRA.out.below HB5.out).mono (show w.heap.size ≤ w5.heap.size by omega))
      go_wp2_with fail
      refine (HSR.out _ _ HRA5.out).mono ?_
      rintro e w6 ⟨rfl, hb6⟩
      have HQ6 := Lib.hid (HQ5.out.below hb6)
      have HB6 := Lib.hid (HB5.out.trans (hb6.mono (by omega)))
      have hz6 : b0 ≤ w6.heap.size := Nat.le_trans hz5 hb6.size
      clear hb6 HQ5 HB5 HRA5 k0 k1 k2 k3 k4 k5 k6 k7 k8
      have k0 := (HB6.out.cell (p := ⟨b, off + k * 9, none⟩) hbH).trans Q0.out
      have k1 := (HB6.out.cell (p := ⟨b, off + k * 9 + 1, none⟩) hbH).trans Q1.out
      have k2 := (HB6.out.cell (p := ⟨b, off + k * 9 + 2, none⟩) hbH).trans Q2.out
      have k3 := (HB6.out.cell (p := ⟨b, off + k * 9 + 3, none⟩) hbH).trans Q3.out
      have k4 := (HB6.out.cell (p := ⟨b, off + k * 9 + 4, none⟩) hbH).trans Q4.out
      have k5 := (HB6.out.cell (p := ⟨b, off + k * 9 + 5, none⟩) hbH).trans Q5.out
      have k6 := (HB6.out.cell (p := ⟨b, off + k * 9 + 6, none⟩) hbH).trans Q6.out
      have k7 := (HB6.out.cell (p := ⟨b, off + k * 9 + 7, none⟩) hbH).trans Q7.out
      have k8 := (HB6.out.cell (p := ⟨b, off + k * 9 + 8, none⟩) hbH).trans Q8.out
      have HOW := Lib.hid (own_one x r w6 ((HRA.out.below HB6.out).mono (by omega)) HLI.out)
      go_wp2_with fail
      refine HOW.out.mono ?_
      rintro e w7 ⟨y2, rfl, hy, hb7⟩
      have HY := Lib.hid hy
      have HQ7 := Lib.hid (HQ6.out.below hb7)
      have HB7 := Lib.hid (HB6.out.trans (hb7.mono (by omega)))
      have hz7 : b0 ≤ w7.heap.size := Nat.le_trans hz6 hb7.size
      clear hy hb7 HOW HQ6 HB6 k0 k1 k2 k3 k4 k5 k6 k7 k8
      go_wp2_with fail
      refine (HSD.out _ _ HY.out.at_).mono ?_
      rintro e w8 ⟨rfl, hb8⟩
      have HQ8 := Lib.hid (HQ7.out.below hb8)
      have HB8 := Lib.hid (HB7.out.trans (hb8.mono (by omega)))
      have hz8 : b0 ≤ w8.heap.size := Nat.le_trans hz7 hb8.size
      clear hb8 HQ7 HB7 HY
      have k0 := (HB8.out.cell (p := ⟨b, off + k * 9, none⟩) hbH).trans Q0.out
      have k1 := (HB8.out.cell (p := ⟨b, off + k * 9 + 1, none⟩) hbH).trans Q1.out
      have k2 := (HB8.out.cell (p := ⟨b, off + k * 9 + 2, none⟩) hbH).trans Q2.out
      have k3 := (HB8.out.cell (p := ⟨b, off + k * 9 + 3, none⟩) hbH).trans Q3.out
      have k4 := (HB8.out.cell (p := ⟨b, off + k * 9 + 4, none⟩) hbH).trans Q4.out
      have k5 := (HB8.out.cell (p := ⟨b, off + k * 9 + 5, none⟩) hbH).trans Q5.out
      have k6 := (HB8.out.cell (p := ⟨b, off + k * 9 + 6, none⟩) hbH).trans Q6.out
      have k7 := (HB8.out.cell (p := ⟨b, off + k * 9 + 7, none⟩) hbH).trans Q7.out
      have k8 := (HB8.out.cell (p := ⟨b, off + k * 9 + 8, none⟩) hbH).trans Q8.out
      have HPR := Lib.hid (rputRR_any b0 w8 Fp g2 _ vR2 B R x r HQ8.out.w2 ((HRA.out.below HB8.out).mono hzb) HS.out HRI.out (by omega) (by omega) HR16.out)
      go_wp2_with fail
      refine HPR.out.mono ?_
      rintro e w9 ⟨rfl, hpn⟩
      obtain ⟨Gp, vB4, vR4, hp9, hb9⟩ := HQ8.out.pen2 hpn
      have HQ9 := Lib.hid hp9
      have HB9 := Lib.hid (HB8.out.trans (hb9.mono hzb))
      have hz9 : b0 ≤ w9.heap.size := Nat.le_trans hz8 hb9.size
      clear hpn hp9 hb9 HPR HQ8 HB8 k0 k1 k2 k3 k4 k5 k6 k7 k8
      go_wp2
      exact ⟨⟨k + 1, vB3, vM3, _, _, Gp, vB4, vR4, hlt, by go_num, HQ9.out, by have := HBL.out.1; omega, by have := HBL.out.2; omega, HG2.out, HR162.out, HB9.out, hz9⟩, by simp [intOf]; omega⟩

theorem rrwrites_any (w : World) (A : Option Addr) (c : Nat) (ps : List (RV × Rt)) (hp : RsAt w w.heap.size A ps) (hr : ∀ p ∈ ps, RIn p.2) (hm : ps.length ≤ maxLen) :
    Calls Try.prog 4 #[.slice A ps.length c] w (TrueB w) := by
  cases hl : lightL (recs ps) with
  | false => exact rrwrites_dark w A c ps hp hm hl
  | true => exact rrwrites_light w A c ps hp hr hl

end Go.Proofs.Ytjjmllbkfbdcnaa

namespace Go.Proofs.Ytjjmllbkfbdcnaa
open Go.ChangeShapes Go.WideShapes Go.ChangeAt Go.RowKit

set_option maxRecDepth 100000 in
theorem rrwrites_lifted (os : Os) (started : os.Started) (H : Type) (enc : TypeId × Value → H) :
    ReturnsInHanded {} Try.checked os 4 .any (Rows.rrWritesSpec.pre6 enc Try.prog Try.f4 Rows.rrWritesRow.domain false) (Rows.rrWritesSpec.post enc Try.prog Try.f4 false true false false) := by
  refine returnsInHanded_of_change_sized (C := Try.checked) Try.own started (by kernel_rfl) Try.func4
    (ChangeSpec.witness6 (enc := enc) (C := Try.checked) false ⟨#[], #[.slice none 0 0], []⟩ 8 (by kernel_rfl) (by kernel_rfl) (by kernel_rfl) (by kernel_rfl)) ?_
  intro W base args ds gs before hval0 hW _ hsz0 _
  have hsz : (DataW.weightsEach Try.prog (Try.f4.params.toList ++ Rows.rrWritesSpec.plain.varTypes Try.prog) (ds ++ gs)).all (· ≤ reachBytes) = true := hsz0
  clear hsz0
  have hval : ∀ (j : Nat) t v, Try.f4.params[j]? = some t → args[j]? = some v → Value.okWide Try.prog W .any base t v := hval0
  have hW' := hW
  obtain ⟨p, q, hA0, hV, rfl, _, _⟩ := hW
  have hA : DataW.TrodAll enc Try.prog W 0 (fun _ => true) true Try.f4.params.toList args.toList ds p := hA0
  rw [Try.params4] at hA hval hsz
  obtain ⟨v0, d0, rfl, rfl, h0⟩ := trodAll_one hA
  obtain ⟨rfl, rfl⟩ := trodVars_none hV
  obtain ⟨A0, c0, ps0, rfl, hp0, hr0, hc0, hm0⟩ := open_rrs Try.underlying47 (hval 0 47 v0 rfl rfl) h0 (fun x hx => hW'.lt x (by simp [hx]))
  have key : Calls Try.prog 4 #[.slice A0 ps0.length c0] W (TrueB W) := by
    exact rrwrites_any W A0 c0 ps0 hp0 hr0 (Nat.le_trans hc0 hm0)
  refine key.mono fun e W' ⟨he, hb⟩ => ?_
  subst he
  exact ⟨_, rfl, law_post (P := Try.prog) (tb := 4) Try.laidOut (by kernel_rfl) (by kernel_rfl) (by kernel_rfl) Try.underlying4 rfl hW' rfl rfl rfl hb⟩

theorem rrwrites_holds : Rows.RrWritesSaid :=
  OpenClaim.holds_of_wide 4 Try.f4 rfl rfl rfl rfl rfl rfl rfl ⟨rfl, rfl, rfl, rfl, rfl⟩ rfl rfl rfl rfl rfl (by kernel_rfl) Try.func4 (by kernel_rfl)
    (of_decide_eq_true (by kernel_rfl)) (by unfold Func.isWrapper; first | (rw [if_pos (by decide +kernel)]; kernel_rfl) | (rw [if_neg (by decide +kernel)]; exact ⟨rfl, rfl⟩))
    (fun os started H enc _ => rrwrites_lifted os started H enc)

end Go.Proofs.Ytjjmllbkfbdcnaa
