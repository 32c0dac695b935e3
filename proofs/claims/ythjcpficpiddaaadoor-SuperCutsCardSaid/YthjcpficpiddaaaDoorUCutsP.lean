/-
  SuperCuts: wherever a Save is cut off, and whatever lasts and is torn, the block is the one ahead, or the new one, whole; and the next one can be saved.
-/
import Derived.Test.YthjcpficpiddaaaDoorUAns
import Derived.Test.YthjcpficpiddaaaDoorUEnd
namespace Go.Proofs.YthjcpficpiddaaaDoor
open Go.RowKit

/-- The blocks of the statement: the k-th, and the one ahead of it. -/
def blkK (l : List Blk) (k : Nat) : Blk := { (l.getD k bzero) with gen := (k : Int) }
def prevO (l : List Blk) : Nat → Option Blk
  | 0 => none
  | k + 1 => some (blkK l k)
def prevB (l : List Blk) : Nat → Blk
  | 0 => bzero
  | k + 1 => blkK l k
theorem next_prev (l : List Blk) (k : Nat) : (blkK l k).gen = nextG (prevO l k) := by
  cases k with
  | zero => rfl
  | succ k => show ((k + 1 : Nat) : Int) = (k : Int) + 1; omega
theorem prev_cases (l : List Blk) (k : Nat) : (k = 0 ∧ prevO l k = none ∧ prevB l k = bzero) ∨ (0 < k ∧ prevO l k = some (prevB l k) ∧ (prevB l k).gen = (k : Int) - 1) := by
  cases k with
  | zero => exact .inl ⟨rfl, rfl, rfl⟩
  | succ k => exact .inr ⟨by omega, rfl, by show (k : Int) = ((k + 1 : Nat) : Int) - 1; omega⟩
def Blk.same (a b : Blk) : Bool := decide (a.nums = b.nums)
theorem Blk.same_self (a : Blk) : a.same a = true := by simp [Blk.same]
theorem Blk.same_gen {a b : Blk} (h : a.gen ≠ b.gen) : a.same b = false := by simp [Blk.same, Blk.nums, h]
theorem blk_neq (a b : Blk) (w : World) : (binOp .neq 30 (.agg #[.int .i64 a.gen, .int .i64 a.epoch, .int .i64 a.first, .int .i64 a.begun, .int .i64 a.count]) (.agg #[.int .i64 b.gen, .int .i64 b.epoch, .int .i64 b.first, .int .i64 b.begun, .int .i64 b.count])).run Tryd.prog w = .ok (.bool (!a.same b)) w := by
  have hf : Tryd.prog.underlying 30 = some (.struct (Tryd.prog.fieldsOf 30)) := by kernel_rfl
  have hs : Tryd.prog.stoodInHeld 30 = false := by kernel_rfl
  rw [run_neq_struct, run_equalIn_struct w _ _ _ _ hf hs]
  obtain ⟨a0, a1, a2, a3, a4⟩ := a
  obtain ⟨b0, b1, b2, b3, b4⟩ := b
  simp [Program.fieldsOf, Tryd.underlying30, Op.eqFields, Blk.same, Blk.nums, go_sem]
  by_cases h0 : a0 = b0 <;> by_cases h1 : a1 = b1 <;> by_cases h2 : a2 = b2 <;> by_cases h3 : a3 = b3 <;> by_cases h4 : a4 = b4 <;> simp [h0, h1, h2, h3, h4]
theorem blk_eql (a b : Blk) (w : World) : (binOp .eql 30 (.agg #[.int .i64 a.gen, .int .i64 a.epoch, .int .i64 a.first, .int .i64 a.begun, .int .i64 a.count]) (.agg #[.int .i64 b.gen, .int .i64 b.epoch, .int .i64 b.first, .int .i64 b.begun, .int .i64 b.count])).run Tryd.prog w = .ok (.bool (a.same b)) w := by
  have hf : Tryd.prog.underlying 30 = some (.struct (Tryd.prog.fieldsOf 30)) := by kernel_rfl
  have hs : Tryd.prog.stoodInHeld 30 = false := by kernel_rfl
  rw [run_eql_struct, run_equalIn_struct w _ _ _ _ hf hs]
  obtain ⟨a0, a1, a2, a3, a4⟩ := a
  obtain ⟨b0, b1, b2, b3, b4⟩ := b
  simp [Program.fieldsOf, Tryd.underlying30, Op.eqFields, Blk.same, Blk.nums, go_sem]
  by_cases h0 : a0 = b0 <;> by_cases h1 : a1 = b1 <;> by_cases h2 : a2 = b2 <;> by_cases h3 : a3 = b3 <;> by_cases h4 : a4 = b4 <;> simp [h0, h1, h2, h3, h4]
theorem save_uns (x : Dv) (b : Blk) : (x.save b).uns.length ≤ x.uns.length + 1 := by
  unfold Dv.save
  split
  · omega
  · split
    · have := sync_uns x; show x.sync.uns.length ≤ _; omega
    · split
      · exact put2_uns x b
      · exact Nat.le_trans (sync_uns (x.put2 b)) (put2_uns x b)
/-- A Save that is not cut off: the sectors hold the new block. -/
theorem save_step (l : List Blk) (k : Nat) {S : List Sec} (hS : S.length = 4) (hi : Inv S (prevO l k)) (hf : (blkK l k).fits = true) :
    ∃ S', (Dv.mk S [] 0 false).saveE (blkK l k) = 0 ∧ (Dv.mk S [] 0 false).save (blkK l k) = ⟨S', [], 0, false⟩ ∧ S'.length = 4 ∧ Inv S' (prevO l (k + 1)) := by
  have hn : Next (prevO l k) (blkK l k) ((blkK l k).gen % 2).toNat := Next.of _ _ (next_prev l k) (Int.natCast_nonneg k)
  have h := save_whole (S := S) (by omega) hi hn hf 0 (.inl rfl)
  exact ⟨_, h.1, h.2, by rw [List.length_set]; exact hS, hi.write (by omega) hn hf⟩
/-- The same behind a Crash, whatever the next block is. -/
theorem save_more {S : List Sec} (hS : 2 ≤ S.length) {o : Option Blk} (hi : Inv S o) {b : Blk} (hg : b.gen = nextG o) (h0 : 0 ≤ b.gen) (hf : b.fits = true) :
    ∃ S', (Dv.mk S [] 0 false).saveE b = 0 ∧ (Dv.mk S [] 0 false).save b = ⟨S', [], 0, false⟩ ∧ 2 ≤ S'.length ∧ Inv S' (some b) := by
  have hn : Next o b (b.gen % 2).toNat := Next.of _ _ hg h0
  have h := save_whole (S := S) hS hi hn hf 0 (.inl rfl)
  exact ⟨_, h.1, h.2, by rw [List.length_set]; exact hS, hi.write hS hn hf⟩
theorem fit_small {n : Int} (h0 : 0 ≤ n) (h1 : n < 100) : fitB n 7 = true := by
  simp only [fitB, decide_eq_true_eq]
  refine ⟨by omega, by omega, h0, ?_⟩
  have : (100 : Int) ≤ 2 ^ (8 * (7 : Int).toNat) := by decide
  omega
/-- A store into a block that is no device's. -/
theorem Holds.far {w0 w w' : World} {D g : Nat} {x : Dv} {t : TypeId} {L : List Value} (h : Holds w0 w D x) (hw : Whole w g t L) (ht : ¬ devT t) (hg : Grew (fun j => j = g) w w') (hb : w0.heap.size ≤ g) : Holds w0 w' D x := by
  obtain ⟨m, rfl, hd, h2⟩ := h
  refine ⟨m, rfl, hd.grew hg fun j hj e => ?_, h2.trans (hg.below (B := w0.heap.size) (fun j hj => by omega) h2.size)⟩
  subst e
  rcases hj with e | e | e | e
  · exact (Whole.ne hd.blk hw fun e2 => ht (by rw [← e2]; exact .inl rfl)) e.symm
  · exact own_not_whole hd.now hw (fun e2 => ht (by rw [← e2]; exact .inr (.inl rfl))) (by rw [e]; rfl)
  · exact own_not_whole hd.sure hw (fun e2 => ht (by rw [← e2]; exact .inr (.inl rfl))) (by rw [e]; rfl)
  · exact own_not_whole hd.uns hw (fun e2 => ht (by rw [← e2]; exact .inr (.inr rfl))) e

/-- What is known when a round begins. -/
def CutsRel (l : List Blk) (w0 : World) (D Lb : Nat) (i : Value) (wr : World) : Prop :=
  ∃ (k : Nat) (S : List Sec), k < l.length ∧ i = .int .i64 k ∧ Holds w0 wr D ⟨S, [], 0, false⟩ ∧ S.length = 4 ∧ Inv S (prevO l k) ∧ Whole wr Lb 30 (prevB l k).cells

section
variable (A : Option Addr) (c : Nat) (l : List Blk) (q m t : Nat) (w : World)
set_option maxHeartbeats 1000000 in
set_option maxRecDepth 4000 in
theorem cuts_out (hv : VarsAt w) (hl : l.length < 1 ∨ 20 < l.length) : Calls Tryd.prog 3 #[.slice A l.length c, .int .u8 (q : Int), .int .u64 (m : Int), .int .u64 (t : Int)] w (TrueB w) := by
  have HN := Lib.hid (h_new w w (Below.refl _ _) 4 (by decide) (by decide))
  have HV := Lib.hid hv
  obtain ⟨n, hn⟩ : ∃ n, l.length = n := ⟨_, rfl⟩
  rw [hn] at hl ⊢
  clear hv hn
  go_enter Tryd.func3, Tryd.ntmps3
  go_wp2_with fail
  refine HN.out.mono ?_
  rintro e w1 ⟨D, rfl, hh1⟩
  have HB1 := Lib.hid hh1.below
  clear hh1
  go_wp2_with fail
  refine (sanswers_any _ (HV.out.next HB1.out)).mono ?_
  rintro e w2 ⟨rfl, hb2⟩
  have HB2 := Lib.hid (HB1.out.trans (hb2.mono HB1.out.size))
  clear hb2
  by_cases h1 : n < 1
  · have d1 : decide ((n : Int) < 1) = true := by simp; omega
    clear hl h1
    go_wp2_with fail
    refine (sanswers_any _ (HV.out.next HB2.out)).mono ?_
    rintro e w3 ⟨rfl, hb3⟩
    have HB3 := Lib.hid (HB2.out.trans (hb3.mono HB2.out.size))
    clear hb3
    go_wp2
    go_ret
    exact ⟨rfl, HB3.out⟩
  · have d1 : decide ((n : Int) < 1) = false := by simp; omega
    have d2 : decide ((20 : Int) < (n : Int)) = true := by simp; omega
    clear hl h1
    go_wp2_with fail
    refine (sanswers_any _ (HV.out.next HB2.out)).mono ?_
    rintro e w3 ⟨rfl, hb3⟩
    have HB3 := Lib.hid (HB2.out.trans (hb3.mono HB2.out.size))
    clear hb3
    go_wp2
    go_ret
    exact ⟨rfl, HB3.out⟩
end

end Go.Proofs.YthjcpficpiddaaaDoor
