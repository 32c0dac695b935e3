/-
  FlashActs' words: calls as an argument has them; what each call keeps of a device's sizes.
-/
import Derived.Test.YtledoajhjkfaoaaVAlike
import Derived.Test.YtledoajhjkfaoaaVTwo
import Derived.Test.YtledoajhjkfaoaaVNil
namespace Go.Proofs.Ytledoajhjkfaoaa
open Go.RowKit

structure Ac where
  what : Int
  place : Int
  data : List UInt8
  mask : Nat
  torn : Nat
def acCells (p : Ac) (A : Option Addr) (c : Nat) : List Value := [.int .i64 p.what, .int .i64 p.place, .slice A p.data.length c, .int .u64 (p.mask : Int), .int .u64 (p.torn : Int)]
def ActOf (w : World) (H : Nat) (cs : List Value) (p : Ac) : Prop :=
  ∃ A c, cs = acCells p A c ∧ Row w H A (p.data.map bc) ∧ p.data.length ≤ maxLen ∧ p.place ≤ 9223372036854775807 ∧ p.mask < 18446744073709551616 ∧ p.torn < 18446744073709551616
def ActsIn (w : World) (H : Nat) (A : Option Addr) (ps : List Ac) : Prop :=
  ∀ i (h : i < ps.length), ∃ b off cs, A = some ⟨b, off, none⟩ ∧ b < H ∧ (∀ j v, cs[j]? = some v → w.cell? ⟨b, off + (i * 5 + j), none⟩ = some v) ∧ ActOf w H cs ps[i]
theorem act_size : (Try.prog.info? 33).map (·.size) = some 5 := by kernel_rfl
theorem act_zero : (Try.prog.info? 33).map (·.zero) = some (some (.agg ([.int .i64 0, .int .i64 0, .slice none 0 0, .int .u64 0, .int .u64 0] : List Value).toArray)) := by kernel_rfl
theorem ac_one (p : Ac) (A : Option Addr) (c : Nat) : ∀ v ∈ acCells p A c, v.oneCell' = true := by
  intro v hv
  simp only [acCells, List.mem_cons, List.not_mem_nil, or_false] at hv
  rcases hv with rfl | rfl | rfl | rfl | rfl <;> rfl

section
variable {x : Dv}
theorem len_spent : x.spent.sure.length = x.sure.length ∧ x.spent.uns.length = x.uns.length := by rw [spent_sure, spent_uns]; exact ⟨rfl, rfl⟩
theorem len_write (k : Int) (b : List UInt8) : (x.write k b).sure.length = x.sure.length ∧ (x.write k b).uns.length ≤ x.uns.length + 1 := by
  unfold Dv.write
  split
  · exact ⟨rfl, Nat.le_succ _⟩
  · split
    · exact ⟨len_spent.1, by rw [len_spent.2]; exact Nat.le_succ _⟩
    · exact ⟨len_spent.1, by simp⟩
theorem len_settled (m t : Nat) : (x.settled m t).sure.length = x.sure.length ∧ (x.settled m t).uns.length = 0 := ⟨length_crashN _, rfl⟩
theorem len_sync : x.sync.sure.length = x.sure.length ∧ x.sync.uns.length ≤ x.uns.length + 1 := by
  unfold Dv.sync
  split
  · exact ⟨rfl, Nat.le_succ _⟩
  · split
    · exact ⟨len_spent.1, by rw [len_spent.2]; exact Nat.le_succ _⟩
    · exact ⟨by rw [(len_settled _ _).1, len_spent.1], Nat.zero_le _⟩
theorem len_crash (m t : Nat) : (x.crash m t).sure.length = x.sure.length ∧ (x.crash m t).uns.length ≤ x.uns.length + 1 := ⟨length_crashN _, Nat.zero_le _⟩
theorem len_limited (k : Int) : (x.limited k).sure.length = x.sure.length ∧ (x.limited k).uns.length ≤ x.uns.length + 1 := by
  unfold Dv.limited
  split <;> exact ⟨rfl, Nat.le_succ _⟩
end
section
variable {w0 w w' : World} {D R : Nat} {x y : Dv}
theorem SrcR.ofRow {A : Option Addr} {b : List UInt8} (h : Row w0 w0.heap.size A (b.map bc)) (hb : Below w0.heap.size w0 w) (hR : w0.heap.size ≤ R) : SrcR w R A b := fun hne => by
  obtain ⟨g, off, e, h1, h2⟩ := h (by simpa using hne)
  exact ⟨g, off, e, Nat.lt_of_lt_of_le h1 hb.size, by omega, fun j u hu => (World.cell?_of_block (hb.block g h1)).trans (h2 j u hu)⟩
theorem RHolds.lr (h : RHolds w0 w R x) : w0.heap.size ≤ R := by obtain ⟨m, rfl, h1, _⟩ := h; exact h1.lr
theorem h_down (h : Holds w0 w D x) : Calls Try.prog 18 #[.pointer (some ⟨D, 0, none⟩)] w (Told w (.bool x.down)) := by
  obtain ⟨m, rfl, h1, _⟩ := h
  exact down_core w m.d m _ _ _ h1.blk
theorem h_len (h : Holds w0 w D x) : Calls Try.prog 19 #[.pointer (some ⟨D, 0, none⟩)] w (Told w (.int .i64 x.sure.length)) := by
  obtain ⟨m, rfl, h1, _⟩ := h
  exact len_core w m.d m _ _ _ h1.blk
theorem h_limit (h : Holds w0 w D x) (k : Int) (hk : k ≤ 9223372036854775807) : Calls Try.prog 14 #[.pointer (some ⟨D, 0, none⟩), .int .i64 k] w (fun e w' => e = .returned (.int .i64 (if k < 0 then 1 else 0)) ∧ Holds w0 w' D (x.limited k) ∧ Kept w w') := by
  obtain ⟨m, rfl, h1, h2⟩ := h
  refine (dev_limit w _ m x h1 k hk).mono fun e w' ⟨he, h3, h4, h5⟩ => ?_
  have hw : Went w0.heap.size w m (x.limited k) w' := ⟨m, rfl, h3, h4.mono fun _ hj => .inl (.inl hj), fun _ hj => .inl hj⟩
  exact ⟨he, Holds.went rfl h1 h2 hw, Kept.of_went h1 hw⟩
theorem RHolds.limited (h : RHolds w0 w R x) {k : Nat} (hk : k ≤ 9223372036854775807) : RHolds w0 (w.setCell ⟨R, 2, none⟩ (.int .i64 (k : Int))) R (x.limited k) ∧ KeptR w (w.setCell ⟨R, 2, none⟩ (.int .i64 (k : Int))) := by
  obtain ⟨m, rfl, h1, h2⟩ := h
  have e : x.limited k = { x with limit := k } := by unfold Dv.limited; rw [if_neg (by omega)]; rfl
  rw [e]
  have hg := grew_one w m.r 2 (.int .i64 (k : Int))
  have h3 := h1.cells (y := { x with limit := k }) rfl rfl hk hg (h1.blk.set_ 2 _)
  exact RHolds.went rfl h1 h2 rfl h3 (hg.mono fun _ hj => .inl (.inl hj))
/-- The cells of the document's device. -/
theorem RHolds.at_ (h : RHolds w0 w R x) : w.cell? ⟨R, 2, none⟩ = some (.int .i64 x.limit) ∧ w.frozen? ⟨R, 2, none⟩ = false ∧ w.cell? ⟨R, 3, none⟩ = some (.bool x.down) ∧ ∃ u vs, w.cell? ⟨R, 1, none⟩ = some u ∧ UnsAt w w0.heap.size u x.uns vs := by
  obtain ⟨m, rfl, h1, h2⟩ := h
  obtain ⟨vs, hv⟩ := h1.uns
  exact ⟨h1.blk.cell 2, h1.blk.frozen 2, h1.blk.cell 3, m.u, vs, h1.blk.cell 1, hv⟩
theorem act_notR : ¬ refT 33 := by unfold refT; decide
theorem act_not : ¬ devT 33 := by unfold devT; decide
end
/-- What is known between the calls. -/
structure Both (w wr : World) (D R n : Nat) (x : Dv) (k : Nat) : Prop where
  d : Holds w wr D x
  r : RHolds w wr R x
  len : x.sure.length = n
  uns : x.uns.length ≤ k
theorem Both.next {w wr V : World} {D R n k k' : Nat} {x : Dv} (h : Both w wr D R n x k) (hb : Below wr.heap.size wr V) (hk : k ≤ k') : Both w V D R n x k' := ⟨h.d.next hb, h.r.next hb, h.len, Nat.le_trans h.uns hk⟩
def ActsRel (w : World) (R n : Nat) (acts : List Ac) (d i : Value) (wr : World) : Prop :=
  ∃ (k D : Nat) (x : Dv), k ≤ acts.length ∧ k ≤ 80 ∧ i = .int .i64 k ∧ d = .pointer (some ⟨D, 0, none⟩) ∧ Both w wr D R n x k
def CutRel (w : World) (R n k G : Nat) (L : List Value) (d : Value) (wx : World) : Prop :=
  ∃ D x, d = .pointer (some ⟨D, 0, none⟩) ∧ Both w wx D R n x (k + 1) ∧ Whole wx G 33 L

end Go.Proofs.Ytledoajhjkfaoaa
