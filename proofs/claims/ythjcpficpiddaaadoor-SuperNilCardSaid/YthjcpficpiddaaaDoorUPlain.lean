/-
  Plain mathematics of two places for one block: what counts, what is saved, wherever it is cut off. No program is imported.
-/
import Derived.Test.YthjcpficpiddaaaDoorJPlain
import Derived.Test.YthjcpficpiddaaaDoorVPlain
namespace Go.Proofs.YthjcpficpiddaaaDoor
open Go.RowKit

structure Blk where
  gen : Int
  epoch : Int
  first : Int
  begun : Int
  count : Int
/-- Heads that are alike. -/
def SH.same (a b : SH) : Bool := decide (a.nums = b.nums)
theorem SH.same_iff (a b : SH) : a.same b = true ↔ a = b := by
  obtain ⟨a0, a1, a2, a3, a4⟩ := a
  obtain ⟨b0, b1, b2, b3, b4⟩ := b
  simp [SH.same, SH.nums]
def bzero : Blk := ⟨0, 0, 0, 0, 0⟩
def Blk.val (b : Blk) : Value := .agg #[.int .i64 b.gen, .int .i64 b.epoch, .int .i64 b.first, .int .i64 b.begun, .int .i64 b.count]
def Blk.cells (b : Blk) : List Value := [.int .i64 b.gen, .int .i64 b.epoch, .int .i64 b.first, .int .i64 b.begun, .int .i64 b.count]
def Blk.nums (b : Blk) : List Int := [b.gen, b.epoch, b.first, b.begun, b.count]
def Blk.num (b : Blk) (k : Nat) : Int := b.nums.getD k 0
/-- Do the first k numbers fit? -/
def bfitsTo (b : Blk) : Nat → Bool
  | 0 => true
  | k + 1 => bfitsTo b k && fitB (b.num k) 7
def Blk.fits (b : Blk) : Bool := bfitsTo b 5
theorem Blk.fits_all (b : Blk) : b.fits = (fitB b.gen 7 && fitB b.epoch 7 && fitB b.first 7 && fitB b.begun 7 && fitB b.count 7) := by
  simp [Blk.fits, bfitsTo, Blk.num, Blk.nums]
/-- The bytes of a block, k of its numbers. -/
def bytesTo (b : Blk) : Nat → List UInt8
  | 0 => []
  | k + 1 => putL (bytesTo b k) (b.num k) 7
def Blk.bytes (b : Blk) : List UInt8 := digs b.gen.toNat 7 ++ digs b.epoch.toNat 7 ++ digs b.first.toNat 7 ++ digs b.begun.toNat 7 ++ digs b.count.toNat 7
theorem length_bbytes (b : Blk) : b.bytes.length = 35 := by simp [Blk.bytes, length_digs]
theorem length_bytesTo (b : Blk) (k : Nat) : (bytesTo b k).length ≤ 7 * k := by
  induction k with
  | zero => simp [bytesTo]
  | succ k ih => have := length_putL (bytesTo b k) (b.num k) 7; simp only [bytesTo]; omega
theorem bytesTo_five {b : Blk} (h : b.fits = true) : bytesTo b 5 = b.bytes := by
  rw [Blk.fits_all] at h
  simp only [Bool.and_eq_true] at h
  obtain ⟨⟨⟨⟨h1, h2⟩, h3⟩, h4⟩, h5⟩ := h
  show putL (putL (putL (putL (putL [] b.gen 7) b.epoch 7) b.first 7) b.begun 7) b.count 7 = _
  rw [putL_fit h1, putL_fit h2, putL_fit h3, putL_fit h4, putL_fit h5]
  rfl
/-- The head of a block's sector. -/
def supH : SH := ⟨1, 0, 0, 0, 1⟩
theorem supH_ok : headB supH = true := by decide +kernel
def Blk.sec (b : Blk) : List UInt8 := sealB supH b.bytes
theorem length_bsec (b : Blk) : b.sec.length = 512 := length_sealB supH_ok (by rw [length_bbytes]; decide)
theorem bsec_open (b : Blk) : openE b.sec = 0 ∧ openH b.sec = supH ∧ openB b.sec = b.bytes := open_seal supH_ok (by rw [length_bbytes]; decide)

/-- The block that data are. -/
def readBlk (l : List UInt8) : Blk := ⟨numN (cutL l 0 7), numN (cutL l 7 7), numN (cutL l 14 7), numN (cutL l 21 7), numN (cutL l 28 7)⟩
theorem num_fit {n : Int} {s : Nat} (hf : fitB n s = true) : (numN (digs n.toNat s) : Int) = n := by
  simp only [fitB, decide_eq_true_eq, Int.toNat_natCast] at hf
  have h0 := hf.2.2.1
  have h4 : n.toNat < 2 ^ (8 * s) := by
    have e : ((n.toNat : Nat) : Int) < ((2 ^ (8 * s) : Nat) : Int) := by rw [Int.toNat_of_nonneg h0]; exact_mod_cast hf.2.2.2
    exact_mod_cast e
  rw [numN_digs h4]
  exact Int.toNat_of_nonneg h0
theorem read_bytes_blk {b : Blk} (h : b.fits = true) : readBlk b.bytes = b := by
  rw [Blk.fits_all] at h
  simp only [Bool.and_eq_true] at h
  obtain ⟨⟨⟨⟨h1, h2⟩, h3⟩, h4⟩, h5⟩ := h
  have pick : ∀ (x y z : List UInt8) (a k : Nat), x.length = a → y.length = k → cutL (x ++ y ++ z) a k = y := by
    rintro x y z a k rfl rfl
    unfold cutL
    rw [List.append_assoc, List.drop_left, List.take_left]
  have e1 : cutL b.bytes 0 7 = digs b.gen.toNat 7 := by
    have := pick [] (digs b.gen.toNat 7) (digs b.epoch.toNat 7 ++ digs b.first.toNat 7 ++ digs b.begun.toNat 7 ++ digs b.count.toNat 7) 0 7 rfl (length_digs _ _)
    simpa [Blk.bytes, List.append_assoc] using this
  have e2 : cutL b.bytes 7 7 = digs b.epoch.toNat 7 := by
    have := pick (digs b.gen.toNat 7) (digs b.epoch.toNat 7) (digs b.first.toNat 7 ++ digs b.begun.toNat 7 ++ digs b.count.toNat 7) 7 7 (length_digs _ _) (length_digs _ _)
    simpa [Blk.bytes, List.append_assoc] using this
  have e3 : cutL b.bytes 14 7 = digs b.first.toNat 7 := by
    have := pick (digs b.gen.toNat 7 ++ digs b.epoch.toNat 7) (digs b.first.toNat 7) (digs b.begun.toNat 7 ++ digs b.count.toNat 7) 14 7 (by simp [length_digs]) (length_digs _ _)
    simpa [Blk.bytes, List.append_assoc] using this
  have e4 : cutL b.bytes 21 7 = digs b.begun.toNat 7 := by
    have := pick (digs b.gen.toNat 7 ++ digs b.epoch.toNat 7 ++ digs b.first.toNat 7) (digs b.begun.toNat 7) (digs b.count.toNat 7) 21 7 (by simp [length_digs]) (length_digs _ _)
    simpa [Blk.bytes, List.append_assoc] using this
  have e5 : cutL b.bytes 28 7 = digs b.count.toNat 7 := by
    have := pick (digs b.gen.toNat 7 ++ digs b.epoch.toNat 7 ++ digs b.first.toNat 7 ++ digs b.begun.toNat 7) (digs b.count.toNat 7) [] 28 7 (by simp [length_digs]) (length_digs _ _)
    simpa [Blk.bytes, List.append_assoc] using this
  unfold readBlk
  rw [e1, e2, e3, e4, e5, num_fit h1, num_fit h2, num_fit h3, num_fit h4, num_fit h5]

/-- Do these bytes, in sector k, hold a block that counts? -/
def countsB (l : List UInt8) (k : Nat) : Bool := decide (openE l = 0) && (openH l).same supH && decide ((openB l).length = 35) && decide ((readBlk (openB l)).gen % 2 = (k : Int))
/-- The block that counts in a sector. -/
def secBlk (s : Sec) (k : Nat) : Option Blk := if s.torn = false ∧ countsB s.data k = true then some (readBlk (openB s.data)) else none
theorem secBlk_zero (k : Nat) : secBlk secZero k = none := by
  have h : openE zero512 = 14 := by decide +kernel
  unfold secBlk countsB
  rw [if_neg]
  rintro ⟨_, h2⟩
  rw [show secZero.data = zero512 from rfl, h] at h2
  simp at h2
theorem secBlk_torn (k : Nat) : secBlk secTorn k = none := by
  unfold secBlk
  rw [if_neg]
  rintro ⟨h, _⟩
  cases h
theorem secBlk_sec {b : Blk} {k : Nat} (h : b.fits = true) (hk : b.gen % 2 = (k : Int)) : secBlk ⟨b.sec, false⟩ k = some b := by
  obtain ⟨h1, h2, h3⟩ := bsec_open b
  unfold secBlk countsB
  have h4 : supH.same supH = true := (SH.same_iff _ _).2 rfl
  simp only [h1, h2, h3, h4, length_bbytes, read_bytes_blk h, hk]
  rfl
/-- Of two blocks the one that counts. -/
def pickB : Option Blk → Option Blk → Option Blk
  | none, none => none
  | some a, none => some a
  | none, some b => some b
  | some a, some b => if b.gen < a.gen then some a else some b
/-- The block of a device's sectors. -/
def loadS (S : List Sec) : Option Blk := pickB (secBlk (S.getD 0 secZero) 0) (secBlk (S.getD 1 secZero) 1)

/-- The sectors hold just this block: in its own place, and nothing greater in the other one. -/
def Inv (S : List Sec) : Option Blk → Prop
  | none => secBlk (S.getD 0 secZero) 0 = none ∧ secBlk (S.getD 1 secZero) 1 = none
  | some c => ∃ k : Nat, k < 2 ∧ c.gen % 2 = (k : Int) ∧ secBlk (S.getD k secZero) k = some c ∧ ∀ d, secBlk (S.getD (1 - k) secZero) (1 - k) = some d → d.gen < c.gen
theorem Inv.load {S : List Sec} {o : Option Blk} (h : Inv S o) : loadS S = o := by
  unfold loadS
  match o, h with
  | none, ⟨h0, h1⟩ => rw [h0, h1]; rfl
  | some c, ⟨k, hk, _, h0, h1⟩ =>
    have e : k = 0 ∨ k = 1 := by omega
    rcases e with rfl | rfl
    · rw [h0]
      cases hd : secBlk (S.getD 1 secZero) 1 with
      | none => rfl
      | some d =>
        have := h1 d hd
        show (if d.gen < c.gen then some c else some d) = some c
        rw [if_pos this]
    · rw [h0]
      cases hd : secBlk (S.getD 0 secZero) 0 with
      | none => rfl
      | some d =>
        have := h1 d hd
        show (if c.gen < d.gen then some d else some c) = some c
        rw [if_neg (by omega)]
/-- The number that comes next. -/
def nextG : Option Blk → Int
  | none => 0
  | some c => c.gen + 1
def Next (o : Option Blk) (b : Blk) (k : Nat) : Prop := b.gen = nextG o ∧ k < 2 ∧ b.gen % 2 = (k : Int)
theorem getD_set_self {S : List Sec} {k : Nat} {s : Sec} (h : k < S.length) : (S.set k s).getD k secZero = s := by
  rw [List.getD_eq_getElem?_getD, List.getElem?_set_self h]
  rfl
theorem getD_set_ne {S : List Sec} {j k : Nat} {s : Sec} (h : k ≠ j) : (S.set k s).getD j secZero = S.getD j secZero := by
  rw [List.getD_eq_getElem?_getD, List.getElem?_set_ne h, List.getD_eq_getElem?_getD]
theorem Inv.write {S : List Sec} {o : Option Blk} (h : Inv S o) (hl : 2 ≤ S.length) {b : Blk} {k : Nat} (hn : Next o b k) (hf : b.fits = true) : Inv (S.set k ⟨b.sec, false⟩) (some b) := by
  obtain ⟨hg, hk, hm⟩ := hn
  refine ⟨k, hk, hm, by rw [getD_set_self (by omega)]; exact secBlk_sec hf hm, fun d hd => ?_⟩
  rw [getD_set_ne (by omega)] at hd
  match o, h with
  | none, ⟨h0, h1⟩ =>
    have e : k = 0 ∨ k = 1 := by omega
    rcases e with rfl | rfl
    · rw [h1] at hd; cases hd
    · rw [h0] at hd; cases hd
  | some c, ⟨k', hk', hm', h0, _⟩ =>
    simp only [nextG] at hg
    have e : 1 - k = k' := by omega
    rw [e, h0] at hd
    injection hd with hd
    subst hd
    omega
theorem Inv.tear {S : List Sec} {o : Option Blk} (h : Inv S o) (hl : 2 ≤ S.length) {b : Blk} {k : Nat} (hn : Next o b k) : Inv (S.set k secTorn) o := by
  obtain ⟨hg, hk, hm⟩ := hn
  match o, h with
  | none, ⟨h0, h1⟩ =>
    have e : k = 0 ∨ k = 1 := by omega
    rcases e with rfl | rfl
    · exact ⟨by rw [getD_set_self (by omega)]; exact secBlk_torn 0, by rw [getD_set_ne (by decide)]; exact h1⟩
    · exact ⟨by rw [getD_set_ne (by decide)]; exact h0, by rw [getD_set_self (by omega)]; exact secBlk_torn 1⟩
  | some c, ⟨k', hk', hm', h0, _⟩ =>
    simp only [nextG] at hg
    refine ⟨k', hk', hm', by rw [getD_set_ne (by omega)]; exact h0, fun d hd => ?_⟩
    have e : 1 - k' = k := by omega
    rw [e, getD_set_self (by omega), secBlk_torn] at hd
    cases hd
theorem Next.of (o : Option Blk) (b : Blk) (hg : b.gen = nextG o) (_ : 0 ≤ b.gen) : Next o b (b.gen % 2).toNat := ⟨hg, by omega, by omega⟩

end Go.Proofs.YthjcpficpiddaaaDoor
