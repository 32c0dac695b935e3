/-
  Plain mathematics of a sector: its head, its bytes, what its bytes tell. No program is imported.
-/
import Derived.Test.YthjcpficpiddaaaDoorWords
import Derived.Laws.CopyOwn
namespace Go.Proofs.YthjcpficpiddaaaDoor
open Go.RowKit

/-- A sector's head: kind, epoch, seq, part, parts. -/
structure SH where
  kind : Int
  epoch : Int
  seq : Int
  part : Int
  parts : Int
/-- The head's numbers in their order. -/
def SH.nums (h : SH) : List Int := [h.kind, h.epoch, h.seq, h.part, h.parts]
/-- How many bytes each of them has. -/
def szL : List Int := [1, 4, 7, 1, 1]
def hzero : SH := ⟨0, 0, 0, 0, 0⟩
/-- The head as a value. -/
def SH.val (h : SH) : Value := .agg #[.int .i64 h.kind, .int .i64 h.epoch, .int .i64 h.seq, .int .i64 h.part, .int .i64 h.parts]
def SH.cells (h : SH) : List Value := [.int .i64 h.kind, .int .i64 h.epoch, .int .i64 h.seq, .int .i64 h.part, .int .i64 h.parts]

theorem SH.fit (h g : SH) : 0 + h.cells.length ≤ g.cells.length := Nat.le_refl 5
theorem SH.splice (h g : SH) : splice g.cells 0 h.cells = h.cells := rfl
theorem SH.one (h : SH) : ∀ v ∈ h.cells, v.oneCell' = true := by
  intro v hv
  simp only [SH.cells, List.mem_cons, List.not_mem_nil, or_false] at hv
  rcases hv with rfl | rfl | rfl | rfl | rfl <;> rfl

/-- The number at k, and its size. -/
def SH.num (h : SH) (k : Nat) : Int := h.nums.getD k 0
def szN (k : Nat) : Int := szL.getD k 0
/-- Do the first k numbers fit? -/
def fitsTo (h : SH) : Nat → Bool
  | 0 => true
  | k + 1 => fitsTo h k && fitB (h.num k) (szN k)
/-- May a sector have this head? -/
def headB (h : SH) : Bool := fitsTo h 5 && !(h.kind == 0) && decide (h.part < h.parts)
theorem fitsTo_five (h : SH) : fitsTo h 5 = (fitB h.kind 1 && fitB h.epoch 4 && fitB h.seq 7 && fitB h.part 1 && fitB h.parts 1) := by
  simp [fitsTo, SH.num, SH.nums, szN, szL]
theorem fitsTo_le {h : SH} {j k : Nat} (hjk : j ≤ k) (hk : fitsTo h k = true) : fitsTo h j = true := by
  induction k with
  | zero => obtain rfl : j = 0 := by omega
            exact hk
  | succ k ih =>
    rcases Nat.lt_or_ge j (k + 1) with hl | hl
    · simp only [fitsTo, Bool.and_eq_true] at hk
      exact ih (by omega) hk.1
    · obtain rfl : j = k + 1 := by omega
      exact hk
theorem fitsTo_at {h : SH} {k : Nat} (hk : fitsTo h (k + 1) = true) : fitB (h.num k) (szN k) = true := by
  simp only [fitsTo, Bool.and_eq_true] at hk
  exact hk.2
theorem headB_no_fit {h : SH} {k : Nat} (hk : k < 5) (hf : fitB (h.num k) (szN k) = false) : headB h = false := by
  cases hb : headB h with
  | false => rfl
  | true =>
    simp only [headB, Bool.and_eq_true] at hb
    have h1 := fitsTo_at (fitsTo_le (show k + 1 ≤ 5 by omega) hb.1.1)
    rw [hf] at h1
    exact absurd h1 (by decide)
theorem headB_parts {h : SH} (hb : headB h = true) : (h.kind == 0) = false ∧ (h.parts == 0) = false ∧ h.part < h.parts ∧ 0 ≤ h.part := by
  simp only [headB, Bool.and_eq_true, Bool.not_eq_true', decide_eq_true_eq, fitsTo_five] at hb
  obtain ⟨⟨⟨⟨_, h4⟩, _⟩, h2⟩, h3⟩ := hb
  simp only [fitB, decide_eq_true_eq] at h4
  refine ⟨h2, ?_, h3, h4.2.2.1⟩
  rw [beq_eq_false_iff_ne]
  omega

/-- The bytes of a head and of how much data there is, k of the numbers. -/
def hdP (h : SH) : Nat → List UInt8
  | 0 => []
  | k + 1 => putL (hdP h k) (h.num k) (szN k)
def hdB (h : SH) (n : Nat) : List UInt8 := putL (hdP h 5) n 2
theorem length_putL (l : List UInt8) (n s : Int) : (putL l n s).length ≤ l.length + 7 := by
  unfold putL
  split
  · rename_i hf
    simp only [fitB, decide_eq_true_eq] at hf
    rw [List.length_append, length_digs]
    omega
  · omega
theorem length_hdP (h : SH) (k : Nat) : (hdP h k).length ≤ 7 * k := by
  induction k with
  | zero => simp [hdP]
  | succ k ih => have := length_putL (hdP h k) (h.num k) (szN k); simp only [hdP]; omega
theorem putL_fit {l : List UInt8} {n s : Int} (h : fitB n s = true) : putL l n s = l ++ digs n.toNat s.toNat := by simp [putL, h]
/-- The head's bytes, where it may be. -/
def hd14 (h : SH) : List UInt8 := digs h.kind.toNat 1 ++ digs h.epoch.toNat 4 ++ digs h.seq.toNat 7 ++ digs h.part.toNat 1 ++ digs h.parts.toNat 1
theorem length_hd14 (h : SH) : (hd14 h).length = 14 := by simp [hd14, length_digs]
theorem hdP_five {h : SH} (hb : fitsTo h 5 = true) : hdP h 5 = hd14 h := by
  rw [fitsTo_five] at hb
  simp only [Bool.and_eq_true] at hb
  obtain ⟨⟨⟨⟨h1, h2⟩, h3⟩, h4⟩, h5⟩ := hb
  show putL (putL (putL (putL (putL [] h.kind 1) h.epoch 4) h.seq 7) h.part 1) h.parts 1 = _
  rw [putL_fit h1, putL_fit h2, putL_fit h3, putL_fit h4, putL_fit h5]
  rfl
theorem fit_count {n : Nat} (h : n ≤ 496) : fitB (n : Int) 2 = true := fitB_true (by omega) (by omega) (by omega) (by show (n : Int) < 65536; omega)
theorem hdB_eq {h : SH} {n : Nat} (hb : fitsTo h 5 = true) (hn : n ≤ 496) : hdB h n = hd14 h ++ digs n 2 := by
  unfold hdB
  rw [hdP_five hb, putL_fit (fit_count hn)]
  rfl
theorem length_hdB {h : SH} {n : Nat} (hb : fitsTo h 5 = true) (hn : n ≤ 496) : (hdB h n).length = 16 := by
  rw [hdB_eq hb hn, List.length_append, length_hd14, length_digs]
theorem length_hdB_le (h : SH) (n : Nat) : (hdB h n).length ≤ 42 := by
  have h1 := length_hdP h 5
  have h2 := length_putL (hdP h 5) n 2
  unfold hdB
  omega

/-- So many noughts. -/
def nought (n : Nat) : List UInt8 := List.replicate n 0
theorem length_nought (n : Nat) : (nought n).length = n := by simp [nought]
theorem nought_snoc (n : Nat) : nought n ++ [0] = nought (n + 1) := by simp [nought, List.replicate_succ']
/-- What Seal answers. -/
def sealE (h : SH) (n : Nat) : Int := if headB h = false then 15 else if 496 < n then 4 else 0
def sealB (h : SH) (l : List UInt8) : List UInt8 := if headB h = true ∧ l.length ≤ 496 then hdB h l.length ++ l ++ nought (496 - l.length) else []
theorem sealE_head {h : SH} {n : Nat} (hb : headB h = false) : sealE h n = 15 := by simp [sealE, hb]
theorem sealE_large {h : SH} {n : Nat} (hb : headB h = true) (hn : 496 < n) : sealE h n = 4 := by simp [sealE, hb, hn]
theorem sealE_ok {h : SH} {n : Nat} (hb : headB h = true) (hn : n ≤ 496) : sealE h n = 0 := by
  unfold sealE
  rw [if_neg (by simp [hb]), if_neg (by omega)]
theorem sealB_head {h : SH} {l : List UInt8} (hb : headB h = false) : sealB h l = [] := by simp [sealB, hb]
theorem sealB_large {h : SH} {l : List UInt8} (hn : 496 < l.length) : sealB h l = [] := by
  unfold sealB
  rw [if_neg (by omega)]
theorem sealB_ok {h : SH} {l : List UInt8} (hb : headB h = true) (hn : l.length ≤ 496) : sealB h l = hdB h l.length ++ l ++ nought (496 - l.length) := by
  unfold sealB
  rw [if_pos ⟨hb, hn⟩]
theorem headB_fits {h : SH} (hb : headB h = true) : fitsTo h 5 = true := by
  simp only [headB, Bool.and_eq_true] at hb
  exact hb.1.1
theorem length_sealB {h : SH} {l : List UInt8} (hb : headB h = true) (hn : l.length ≤ 496) : (sealB h l).length = 512 := by
  rw [sealB_ok hb hn, List.length_append, List.length_append, length_hdB (headB_fits hb) hn, length_nought]
  omega

/-- The block behind both copies. -/
theorem seal_splice {hd l : List UInt8} (h16 : hd.length = 16) (_ : l.length ≤ 496) :
    splice (splice (zerosL (.int .u8 0) 512) 0 (hd.map bc)) 16 (l.map bc) = (hd ++ l ++ nought (496 - l.length)).map bc := by
  have e1 : splice (zerosL (.int .u8 0) 512) 0 (hd.map bc) = hd.map bc ++ List.replicate 496 (.int .u8 0) := by
    unfold splice zerosL
    rw [List.take_zero, List.nil_append, Nat.zero_add, List.length_map, h16, List.drop_replicate]
  rw [e1]
  unfold splice nought
  rw [List.take_left' (by rw [List.length_map, h16]), List.length_map, List.drop_append, List.drop_eq_nil_of_le (by rw [List.length_map, h16]; omega), List.nil_append, List.length_map, h16,
    List.drop_replicate, List.map_append, List.map_append, List.map_replicate, List.append_assoc, show 496 - (16 + l.length - 16) = 496 - l.length by omega]
  rfl

/-- What stands in 512 bytes: a head, and how much data there is. -/
def readH (b : List UInt8) : SH := ⟨numN (cutL b 0 1), numN (cutL b 1 4), numN (cutL b 5 7), numN (cutL b 12 1), numN (cutL b 13 1)⟩
def readC (b : List UInt8) : Nat := numN (cutL b 14 2)
/-- Is all that stands behind the data a nought? -/
def restB (b : List UInt8) (n : Nat) : Bool := (b.drop (16 + n)).all (· == 0)
/-- Did Seal make it? -/
def madeB (b : List UInt8) : Bool := decide (readC b ≤ 496) && !((readH b).kind == 0) && !((readH b).parts == 0) && decide ((readH b).part < (readH b).parts) && restB b (readC b)
def openE (b : List UInt8) : Int := if b.length ≠ 512 then 3 else if madeB b = true then 0 else 14
def openH (b : List UInt8) : SH := if openE b = 0 then readH b else hzero
def openB (b : List UInt8) : List UInt8 := if openE b = 0 then (b.drop 16).take (readC b) else []

/-- The bytes of the number that bytes are, are these. -/
theorem digs_num : ∀ (l : List UInt8), digs (numN l) l.length = l := by
  intro l
  have h1 := numN_lt l
  have h2 : (256 : Nat) ^ l.length = 2 ^ (8 * l.length) := by rw [show (256 : Nat) = 2 ^ 8 from rfl, ← Nat.pow_mul]
  rw [h2] at h1
  exact ((bytesLess_num (digs (numN l) l.length) l (by rw [length_digs])).2).2 (numN_digs h1)
theorem fit_num {l : List UInt8} (h1 : 1 ≤ l.length) (h7 : l.length ≤ 7) : fitB (numN l) l.length = true := by
  have h3 := numN_lt l
  have h2 : (256 : Nat) ^ l.length = 2 ^ (8 * l.length) := by rw [show (256 : Nat) = 2 ^ 8 from rfl, ← Nat.pow_mul]
  rw [h2] at h3
  refine fitB_true (by omega) (by omega) (by omega) ?_
  rw [Int.toNat_natCast]
  exact_mod_cast h3
theorem fit_cut {b : List UInt8} {a k : Nat} (h : a + k ≤ b.length) (h1 : 1 ≤ k) (h7 : k ≤ 7) : fitB (numN (cutL b a k)) k = true := by
  have hl := length_cutL h
  have hf := fit_num (l := cutL b a k) (by omega) (by omega)
  rwa [hl] at hf
theorem digs_cut {b : List UInt8} {a k : Nat} (h : a + k ≤ b.length) : digs (numN (cutL b a k)) k = cutL b a k := by
  have hd := digs_num (cutL b a k)
  rwa [length_cutL h] at hd
theorem cutL_append (b : List UInt8) (a j k : Nat) : cutL b a j ++ cutL b (a + j) k = cutL b a (j + k) := by
  unfold cutL
  rw [List.take_add, List.drop_drop]
theorem readH_fits {b : List UInt8} (hl : b.length = 512) : fitsTo (readH b) 5 = true := by
  rw [fitsTo_five]
  simp only [readH, Bool.and_eq_true]
  exact ⟨⟨⟨⟨fit_cut (k := 1) (by omega) (by omega) (by omega), fit_cut (k := 4) (by omega) (by omega) (by omega)⟩, fit_cut (k := 7) (by omega) (by omega) (by omega)⟩, fit_cut (k := 1) (by omega) (by omega) (by omega)⟩, fit_cut (k := 1) (by omega) (by omega) (by omega)⟩
theorem readH_bytes {b : List UInt8} (hl : b.length = 512) : hd14 (readH b) ++ digs (readC b) 2 = b.take 16 := by
  unfold hd14 readH readC
  simp only [Int.toNat_natCast]
  rw [digs_cut (by omega), digs_cut (by omega), digs_cut (by omega), digs_cut (by omega), digs_cut (by omega), digs_cut (by omega),
    cutL_append b 0 1 4, cutL_append b 0 5 7, cutL_append b 0 12 1, cutL_append b 0 13 1, cutL_append b 0 14 2]
  simp [cutL]
theorem headB_read {b : List UInt8} (hl : b.length = 512) : headB (readH b) = (!((readH b).kind == 0) && decide ((readH b).part < (readH b).parts)) := by
  unfold headB
  rw [readH_fits hl, Bool.true_and]
/-- What Seal makes of what it tells is it, just where it was made by Seal. -/
theorem seal_read {b : List UInt8} (hl : b.length = 512) (hc : readC b ≤ 496) : decide (sealB (readH b) ((b.drop 16).take (readC b)) = b) = madeB b := by
  have hlen : ((b.drop 16).take (readC b)).length = readC b := by simp; omega
  have hb := headB_read hl
  have hrest : restB b (readC b) = decide (nought (496 - readC b) = b.drop (16 + readC b)) := by
    unfold restB nought
    rw [Bool.eq_iff_iff, decide_eq_true_eq, List.all_eq_true]
    have hd : (b.drop (16 + readC b)).length = 496 - readC b := by simp; omega
    constructor
    · intro h
      symm
      rw [List.eq_replicate_iff]
      exact ⟨hd, fun x hx => by simpa using h x hx⟩
    · intro h x hx
      rw [← h] at hx
      simpa using (List.mem_replicate.1 hx).2
  cases hh : headB (readH b) with
  | false =>
    rw [sealB_head hh]
    have h1 : madeB b = false := by
      rw [hh] at hb
      unfold madeB
      cases h2 : (readH b).kind == 0
      · rw [h2, Bool.not_false, Bool.true_and] at hb
        rw [← hb, Bool.and_false, Bool.false_and]
      · simp
    rw [h1, decide_eq_false_iff_not]
    intro e
    rw [← e] at hl
    simp at hl
  | true =>
    obtain ⟨h1, h2, h3, _⟩ := headB_parts hh
    have h4 : madeB b = restB b (readC b) := by
      unfold madeB
      rw [decide_eq_true hc, h1, h2, decide_eq_true h3]
      rfl
    rw [h4, hrest, sealB_ok hh (by omega), hlen, hdB_eq (headB_fits hh) hc, readH_bytes hl, Bool.eq_iff_iff, decide_eq_true_eq, decide_eq_true_eq]
    have e1 : b.take 16 ++ (b.drop 16).take (readC b) = b.take (16 + readC b) := by rw [List.take_add]
    rw [e1]
    constructor
    · intro h
      have h5 : b.take (16 + readC b) ++ nought (496 - readC b) = b.take (16 + readC b) ++ b.drop (16 + readC b) := by rw [h, List.take_append_drop]
      exact List.append_cancel_left h5
    · intro h
      rw [h, List.take_append_drop]

/-- What is sealed is told. -/
theorem open_seal {h : SH} {l : List UInt8} (hb : headB h = true) (hn : l.length ≤ 496) : openE (sealB h l) = 0 ∧ openH (sealB h l) = h ∧ openB (sealB h l) = l := by
  have hlen := length_sealB hb hn
  have hbytes : sealB h l = hd14 h ++ digs l.length 2 ++ l ++ nought (496 - l.length) := by rw [sealB_ok hb hn, hdB_eq (headB_fits hb) hn]
  have h14 := length_hd14 h
  have hfit := headB_fits hb
  rw [fitsTo_five] at hfit
  simp only [Bool.and_eq_true] at hfit
  have pick : ∀ (x y z : List UInt8) (a k : Nat), x.length = a → y.length = k → cutL (x ++ y ++ z) a k = y := by
    rintro x y z a k rfl rfl
    unfold cutL
    rw [List.append_assoc, List.drop_left, List.take_left]
  have nm : ∀ {n : Int} {s : Nat}, fitB n s = true → (numN (digs n.toNat s) : Int) = n := by
    intro n s hf
    simp only [fitB, decide_eq_true_eq, Int.toNat_natCast] at hf
    have h4 : n.toNat < 2 ^ (8 * s) := by
      have := hf.2.2.2
      have h0 := hf.2.2.1
      have e : ((n.toNat : Nat) : Int) < ((2 ^ (8 * s) : Nat) : Int) := by rw [Int.toNat_of_nonneg h0]; exact_mod_cast this
      exact_mod_cast e
    rw [numN_digs h4]
    exact Int.toNat_of_nonneg hf.2.2.1
  have r : readH (sealB h l) = h := by
    have e1 : cutL (sealB h l) 0 1 = digs h.kind.toNat 1 := by
      rw [hbytes]
      have := pick [] (digs h.kind.toNat 1) (digs h.epoch.toNat 4 ++ digs h.seq.toNat 7 ++ digs h.part.toNat 1 ++ digs h.parts.toNat 1 ++ digs l.length 2 ++ l ++ nought (496 - l.length)) 0 1 rfl (length_digs _ _)
      simpa [hd14, List.append_assoc] using this
    have e2 : cutL (sealB h l) 1 4 = digs h.epoch.toNat 4 := by
      rw [hbytes]
      have := pick (digs h.kind.toNat 1) (digs h.epoch.toNat 4) (digs h.seq.toNat 7 ++ digs h.part.toNat 1 ++ digs h.parts.toNat 1 ++ digs l.length 2 ++ l ++ nought (496 - l.length)) 1 4 (length_digs _ _) (length_digs _ _)
      simpa [hd14, List.append_assoc] using this
    have e3 : cutL (sealB h l) 5 7 = digs h.seq.toNat 7 := by
      rw [hbytes]
      have := pick (digs h.kind.toNat 1 ++ digs h.epoch.toNat 4) (digs h.seq.toNat 7) (digs h.part.toNat 1 ++ digs h.parts.toNat 1 ++ digs l.length 2 ++ l ++ nought (496 - l.length)) 5 7 (by simp [length_digs]) (length_digs _ _)
      simpa [hd14, List.append_assoc] using this
    have e4 : cutL (sealB h l) 12 1 = digs h.part.toNat 1 := by
      rw [hbytes]
      have := pick (digs h.kind.toNat 1 ++ digs h.epoch.toNat 4 ++ digs h.seq.toNat 7) (digs h.part.toNat 1) (digs h.parts.toNat 1 ++ digs l.length 2 ++ l ++ nought (496 - l.length)) 12 1 (by simp [length_digs]) (length_digs _ _)
      simpa [hd14, List.append_assoc] using this
    have e5 : cutL (sealB h l) 13 1 = digs h.parts.toNat 1 := by
      rw [hbytes]
      have := pick (digs h.kind.toNat 1 ++ digs h.epoch.toNat 4 ++ digs h.seq.toNat 7 ++ digs h.part.toNat 1) (digs h.parts.toNat 1) (digs l.length 2 ++ l ++ nought (496 - l.length)) 13 1 (by simp [length_digs]) (length_digs _ _)
      simpa [hd14, List.append_assoc] using this
    unfold readH
    rw [e1, e2, e3, e4, e5, nm hfit.1.1.1.1, nm hfit.1.1.1.2, nm hfit.1.1.2, nm hfit.1.2, nm hfit.2]
  have c : readC (sealB h l) = l.length := by
    have e6 : cutL (sealB h l) 14 2 = digs l.length 2 := by
      rw [hbytes]
      have := pick (hd14 h) (digs l.length 2) (l ++ nought (496 - l.length)) 14 2 h14 (length_digs _ _)
      simpa [List.append_assoc] using this
    unfold readC
    rw [e6]
    exact numN_digs (by show l.length < 65536; omega)
  have d : ((sealB h l).drop 16).take (readC (sealB h l)) = l := by
    rw [c, hbytes]
    have := pick (hd14 h ++ digs l.length 2) l (nought (496 - l.length)) 16 l.length (by rw [List.length_append, h14, length_digs]) rfl
    exact this
  have m : madeB (sealB h l) = true := by
    rw [← seal_read hlen (by omega), d, r, decide_eq_true_eq]
  have e : openE (sealB h l) = 0 := by
    unfold openE
    rw [if_neg (by simp [hlen]), if_pos m]
  exact ⟨e, by unfold openH; rw [if_pos e, r], by unfold openB; rw [if_pos e, d]⟩

end Go.Proofs.YthjcpficpiddaaaDoor
