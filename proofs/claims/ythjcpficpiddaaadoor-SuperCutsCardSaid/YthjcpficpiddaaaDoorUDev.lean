/-
  Plain mathematics of a Save on a device: what it answers, and what is there behind a Crash, wherever it is cut off. No program is imported.
-/
import Derived.Test.YthjcpficpiddaaaDoorUPlain
namespace Go.Proofs.YthjcpficpiddaaaDoor
open Go.RowKit

/-- What Load answers. -/
def Dv.loadE (x : Dv) : Int := if x.sure.length < 2 then 1 else if x.down = true then 8 else if (loadS x.now).isNone = true then 11 else 0
def Dv.loadB (x : Dv) : Blk := if x.loadE = 0 then (loadS x.now).getD bzero else bzero
/-- Why b is not to be saved (0: it is). -/
def Dv.saveNo (x : Dv) (b : Blk) : Int := if x.sure.length < 2 then 1 else if x.down = true then 8 else if b.fits = false ∨ b.gen ≠ nextG (loadS x.now) then 15 else 0
/-- Sync, Write, Sync: as far as it goes. -/
def Dv.put1 (x : Dv) : Dv := x.sync
def Dv.put2 (x : Dv) (b : Blk) : Dv := x.sync.write (b.gen % 2) b.sec
def Dv.put3 (x : Dv) (b : Blk) : Dv := (x.sync.write (b.gen % 2) b.sec).sync
def Dv.put2E (x : Dv) (b : Blk) : Int := x.sync.writeE (b.gen % 2) b.sec
def Dv.put3E (x : Dv) (b : Blk) : Int := (x.sync.write (b.gen % 2) b.sec).syncE
def Dv.saveE (x : Dv) (b : Blk) : Int := if x.saveNo b ≠ 0 then x.saveNo b else if x.syncE ≠ 0 then x.syncE else if x.put2E b ≠ 0 then x.put2E b else x.put3E b
def Dv.save (x : Dv) (b : Blk) : Dv := if x.saveNo b ≠ 0 then x else if x.syncE ≠ 0 then x.put1 else if x.put2E b ≠ 0 then x.put2 b else x.put3 b

/-- All is sure, and there is no limit. -/
structure Rest (x : Dv) : Prop where
  down : x.down = false
  limit : x.limit = 0
  uns : x.uns = []
  len : 2 ≤ x.sure.length
theorem Rest.form {x : Dv} (h : Rest x) : x = ⟨x.sure, [], 0, false⟩ := by
  obtain ⟨S, U, L, D⟩ := x
  obtain ⟨h1, h2, h3, _⟩ := h
  simp only at h1 h2 h3
  rw [h1, h2, h3]
theorem Rest.mk' {S : List Sec} (h : 2 ≤ S.length) : Rest ⟨S, [], 0, false⟩ := ⟨rfl, rfl, rfl, h⟩
theorem padB_full {l : List UInt8} (h : l.length = 512) : padB l = l := by simp [padB, h]
theorem bit_none (k : Nat) : bitAt 0 k = false := by unfold bitAt; exact Nat.zero_testBit _
theorem bit_all : bitAt allOnes 0 = true := by decide +kernel

section
variable {S : List Sec} {o : Option Blk} {b : Blk} {k : Nat}
theorem place_nat (hn : Next o b k) : (b.gen % 2).toNat = k := by have := hn.2.2; omega
theorem has_place (hl : 2 ≤ S.length) (U : List Wri) (L : Nat) (D : Bool) (hn : Next o b k) : (Dv.mk S U L D).has (b.gen % 2) = true := by
  have h1 := hn.2.2
  have h2 := hn.2.1
  simp only [Dv.has, decide_eq_true_eq]
  omega
/-- What a write of the block is. -/
theorem write_to (hl : 2 ≤ S.length) (hn : Next o b k) (L : Nat) (hL : L ≠ 1) :
    (Dv.mk S [] L false).write (b.gen % 2) b.sec = ⟨S, [⟨k, b.sec⟩], (if L = 0 then 0 else L - 1), false⟩ ∧ (Dv.mk S [] L false).writeE (b.gen % 2) b.sec = 0 := by
  have hh := has_place hl [] L false hn
  have hs := length_bsec b
  have hp := place_nat hn
  constructor
  · unfold Dv.write
    rw [if_neg (by rw [hh, hs]; simp), if_neg (by simp [Dv.lasts, hL]), hp, padB_full hs]
    unfold Dv.spent
    by_cases h0 : L = 0
    · subst h0; rfl
    · simp [h0, hL]
  · unfold Dv.writeE
    rw [if_neg (by simp), if_neg (by rw [hh, hs]; simp), if_neg (by simp [Dv.lasts, hL])]
theorem write_cut (hl : 2 ≤ S.length) (hn : Next o b k) :
    (Dv.mk S [] 1 false).write (b.gen % 2) b.sec = ⟨S, [], 0, true⟩ ∧ (Dv.mk S [] 1 false).writeE (b.gen % 2) b.sec = 8 := by
  have hh := has_place hl [] 1 false hn
  have hs := length_bsec b
  constructor
  · unfold Dv.write
    rw [if_neg (by rw [hh, hs]; simp), if_pos (by rfl)]
    rfl
  · unfold Dv.writeE
    rw [if_neg (by simp), if_neg (by rw [hh, hs]; simp), if_pos (by rfl)]
theorem sync_none (L : Nat) (hL : L ≠ 1) : (Dv.mk S [] L false).sync = ⟨S, [], (if L = 0 then 0 else L - 1), false⟩ ∧ (Dv.mk S [] L false).syncE = 0 := by
  constructor
  · unfold Dv.sync
    rw [if_neg (by simp), if_neg (by simp [Dv.lasts, hL])]
    unfold Dv.spent
    by_cases h0 : L = 0
    · subst h0; rfl
    · simp [h0, hL, Dv.settled, crashN]
  · unfold Dv.syncE
    rw [if_neg (by simp [Dv.lasts, hL])]
theorem sync_cut (U : List Wri) : (Dv.mk S U 1 false).sync = ⟨S, U, 0, true⟩ ∧ (Dv.mk S U 1 false).syncE = 8 := by
  constructor
  · unfold Dv.sync
    rw [if_neg (by simp), if_pos (by rfl)]
    rfl
  · unfold Dv.syncE
    rw [if_pos (.inr (by rfl))]
theorem sync_one (d : List UInt8) (L : Nat) (hL : L ≠ 1) : (Dv.mk S [⟨k, d⟩] L false).sync = ⟨S.set k ⟨d, false⟩, [], (if L = 0 then 0 else L - 1), false⟩ ∧ (Dv.mk S [⟨k, d⟩] L false).syncE = 0 := by
  have hst : crashN allOnes 0 [⟨k, d⟩] S 1 = S.set k ⟨d, false⟩ := by
    show stepC allOnes 0 S 0 ⟨k, d⟩ = _
    unfold stepC
    rw [if_neg (by rw [bit_none]; simp), if_pos bit_all]
    rfl
  constructor
  · unfold Dv.sync
    rw [if_neg (by simp), if_neg (by simp [Dv.lasts, hL])]
    unfold Dv.spent
    by_cases h0 : L = 0
    · subst h0
      simp only [Dv.settled, if_true, List.length_singleton, hst]
    · simp only [h0, if_false, Dv.settled, List.length_singleton, hst, decide_eq_false hL]
  · unfold Dv.syncE
    rw [if_neg (by simp [Dv.lasts, hL])]
theorem saveNo_ok (hl : 2 ≤ S.length) (hi : Inv S o) (hn : Next o b k) (hf : b.fits = true) (L : Nat) : (Dv.mk S [] L false).saveNo b = 0 := by
  have h1 : loadS (Dv.mk S [] L false).now = o := hi.load
  unfold Dv.saveNo
  rw [if_neg (by show ¬ S.length < 2; omega), if_neg (by simp), h1, if_neg (by rw [hf, hn.1]; simp)]
/-- Where nothing is cut off. -/
theorem save_whole (hl : 2 ≤ S.length) (hi : Inv S o) (hn : Next o b k) (hf : b.fits = true) (L : Nat) (hL : L = 0 ∨ 4 ≤ L) :
    (Dv.mk S [] L false).saveE b = 0 ∧ (Dv.mk S [] L false).save b = ⟨S.set k ⟨b.sec, false⟩, [], (if L = 0 then 0 else L - 3), false⟩ := by
  have h1 := sync_none (S := S) L (by omega)
  have hno := saveNo_ok hl hi hn hf L
  have e1 : ∀ M, (if M = 0 then 0 else M - 1) = M - 1 := fun M => by split <;> omega
  have h2 := write_to hl hn (L - 1) (by omega)
  have h3 := sync_one (S := S) (k := k) b.sec (L - 1 - 1) (by omega)
  rw [e1] at h1 h2 h3
  have p2 : (Dv.mk S [] L false).put2 b = ⟨S, [⟨k, b.sec⟩], L - 1 - 1, false⟩ := by unfold Dv.put2; rw [h1.1, h2.1]
  have p2E : (Dv.mk S [] L false).put2E b = 0 := by unfold Dv.put2E; rw [h1.1, h2.2]
  have p3 : (Dv.mk S [] L false).put3 b = ⟨S.set k ⟨b.sec, false⟩, [], L - 1 - 1 - 1, false⟩ := by unfold Dv.put3; rw [h1.1, h2.1, h3.1]
  have p3E : (Dv.mk S [] L false).put3E b = 0 := by unfold Dv.put3E; rw [h1.1, h2.1, h3.2]
  constructor
  · unfold Dv.saveE
    rw [hno, h1.2, p2E, p3E]
    simp
  · unfold Dv.save
    rw [hno, h1.2, p2E, p3]
    simp only [ne_eq, not_true_eq_false, if_false]
    congr 1
    split <;> omega
/-- Where it is cut off: the power is gone; what is there is as it was, but the last write may stand. -/
theorem save_cut (hl : 2 ≤ S.length) (hi : Inv S o) (hn : Next o b k) (hf : b.fits = true) (L : Nat) (h1 : 1 ≤ L) (h3 : L ≤ 3) :
    (Dv.mk S [] L false).saveE b = 8 ∧ ((Dv.mk S [] L false).save b = ⟨S, [], 0, true⟩ ∨ (Dv.mk S [] L false).save b = ⟨S, [⟨k, b.sec⟩], 0, true⟩) := by
  have hno := saveNo_ok hl hi hn hf L
  have e : L = 1 ∨ L = 2 ∨ L = 3 := by omega
  rcases e with rfl | rfl | rfl
  · have s1 := sync_cut (S := S) []
    constructor
    · unfold Dv.saveE
      rw [hno, s1.2]
      simp
    · left
      unfold Dv.save Dv.put1
      rw [hno, s1.2, s1.1]
      simp
  · have s1 := sync_none (S := S) 2 (by decide)
    have s2 := write_cut hl hn
    have p2 : (Dv.mk S [] 2 false).put2 b = ⟨S, [], 0, true⟩ := by unfold Dv.put2; rw [s1.1]; exact s2.1
    have p2E : (Dv.mk S [] 2 false).put2E b = 8 := by unfold Dv.put2E; rw [s1.1]; exact s2.2
    constructor
    · unfold Dv.saveE
      rw [hno, s1.2, p2E]
      simp
    · left
      unfold Dv.save
      rw [hno, s1.2, p2E, p2]
      simp
  · have s1 := sync_none (S := S) 3 (by decide)
    have s2 := write_to hl hn 2 (by decide)
    have s3 := sync_cut (S := S) [⟨k, b.sec⟩]
    have p2E : (Dv.mk S [] 3 false).put2E b = 0 := by unfold Dv.put2E; rw [s1.1]; exact s2.2
    have p3 : (Dv.mk S [] 3 false).put3 b = ⟨S, [⟨k, b.sec⟩], 0, true⟩ := by unfold Dv.put3; rw [s1.1]; exact (congrArg Dv.sync s2.1).trans s3.1
    have p3E : (Dv.mk S [] 3 false).put3E b = 8 := by unfold Dv.put3E; rw [s1.1]; exact (congrArg Dv.syncE s2.1).trans s3.2
    constructor
    · unfold Dv.saveE
      rw [hno, s1.2, p2E, p3E]
      simp
    · right
      unfold Dv.save
      rw [hno, s1.2, p2E, p3]
      simp
/-- What a Crash leaves of a write that is not sure. -/
theorem crash_one (m t : Nat) (d : List UInt8) (L : Nat) (D : Bool) : (Dv.mk S [⟨k, d⟩] L D).crash m t = ⟨S.set k secTorn, [], 0, false⟩ ∨ (Dv.mk S [⟨k, d⟩] L D).crash m t = ⟨S.set k ⟨d, false⟩, [], 0, false⟩ ∨ (Dv.mk S [⟨k, d⟩] L D).crash m t = ⟨S, [], 0, false⟩ := by
  have e : (Dv.mk S [⟨k, d⟩] L D).crash m t = ⟨stepC m t S 0 ⟨k, d⟩, [], 0, false⟩ := rfl
  rw [e]
  unfold stepC
  by_cases h1 : bitAt t 0 = true
  · rw [if_pos h1]; exact .inl rfl
  · rw [if_neg h1]
    by_cases h2 : bitAt m 0 = true
    · rw [if_pos h2]; exact .inr (.inl rfl)
    · rw [if_neg h2]; exact .inr (.inr rfl)
theorem crash_none (m t : Nat) (L : Nat) (D : Bool) : (Dv.mk S [] L D).crash m t = ⟨S, [], 0, false⟩ := rfl
end

/-- The end of it all: wherever a Save is cut off, and whatever lasts. -/
theorem cuts {S : List Sec} {o : Option Blk} {b : Blk} {k : Nat} (hl : 2 ≤ S.length) (hi : Inv S o) (hn : Next o b k) (hf : b.fits = true) (L : Nat) (m t : Nat) :
    ∃ S', (Dv.save ⟨S, [], L, false⟩ b).crash m t = ⟨S', [], 0, false⟩ ∧ S'.length = S.length ∧
      ((Dv.saveE ⟨S, [], L, false⟩ b = 0 ∧ Inv S' (some b)) ∨ (Dv.saveE ⟨S, [], L, false⟩ b = 8 ∧ (Inv S' (some b) ∨ Inv S' o))) := by
  by_cases hL : L = 0 ∨ 4 ≤ L
  · obtain ⟨h1, h2⟩ := save_whole hl hi hn hf L hL
    rw [h2, h1]
    exact ⟨S.set k ⟨b.sec, false⟩, rfl, by simp, .inl ⟨rfl, hi.write hl hn hf⟩⟩
  · obtain ⟨h1, h2⟩ := save_cut hl hi hn hf L (by omega) (by omega)
    rw [h1]
    rcases h2 with h2 | h2
    · rw [h2]
      exact ⟨S, rfl, rfl, .inr ⟨rfl, .inr hi⟩⟩
    · rw [h2]
      rcases crash_one (S := S) (k := k) m t b.sec 0 true with h3 | h3 | h3
      · exact ⟨_, h3, by simp, .inr ⟨rfl, .inr (hi.tear hl hn)⟩⟩
      · exact ⟨_, h3, by simp, .inr ⟨rfl, .inl (hi.write hl hn hf)⟩⟩
      · exact ⟨_, h3, rfl, .inr ⟨rfl, .inr hi⟩⟩
theorem inv_new (n : Nat) : Inv (newDv n).sure none := by
  have h : ∀ i, ((newDv n).sure).getD i secZero = secZero := fun i => by
    show (List.replicate n secZero).getD i secZero = secZero
    rw [List.getD_eq_getElem?_getD, List.getElem?_replicate]
    split <;> rfl
  exact ⟨by rw [h]; exact secBlk_zero 0, by rw [h]; exact secBlk_zero 1⟩

end Go.Proofs.YthjcpficpiddaaaDoor
