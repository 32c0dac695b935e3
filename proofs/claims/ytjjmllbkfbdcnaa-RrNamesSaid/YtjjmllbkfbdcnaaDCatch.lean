/-
  The deferred closure of rdata.Get.
-/
import Derived.Test.YtjjmllbkfbdcnaaDData
import Derived.Recover
import Derived.Defers
import Derived.Laws.Pointers
namespace Go.Proofs.Ytjjmllbkfbdcnaa
open Go.RowKit

theorem gave_zero : (Try.prog.info? 109).map (·.zero) = some (some (.agg #[.int .i64 0])) := by kernel_rfl
theorem assert_gave (v : Value) (w : World) : (Instr.typeAssert (.iface 109 v) 20 109 true).run Try.prog w = .ok (.tuple #[v, .bool true]) w := by
  simp [Instr.typeAssert, run_underlying Try.underlying109]
theorem assert_nil (w : World) : (Instr.typeAssert .nilIface 20 109 true).run Try.prog w = .ok (.tuple #[.agg #[.int .i64 0], .bool false]) w := by
  obtain ⟨i, hi, hz⟩ := Option.map_eq_some_iff.1 gave_zero
  simp [Instr.typeAssert, run_underlying Try.underlying109, zeroValue, typeInfo, hi, hz]

set_option maxRecDepth 20000 in
set_option maxHeartbeats 1000000 in
theorem catch_gave (p : Addr) (u0 k : Int) (older : List PanicEntry) (w : World) (hc : w.cell? p = some (.int .i64 u0)) (hz : w.frozen? p = false) :
    CallsD Try.prog 77 #[.pointer (some p)] (.panicking ({ v := .iface 109 (.agg #[.int .i64 k]), recovered := false } :: older)) w fun e u' w' =>
      e = .returned (.tuple #[]) ∧ u' = .panicking ({ v := .iface 109 (.agg #[.int .i64 k]), recovered := true } :: older) ∧ w' = (w.alloc (.cells #[.int .i64 k] 109)).setCell p (.int .i64 k) := by
  refine callsD_of_wpS Try.func77 rfl fun c₀ cs hu => ?_
  apply wpS_seq
  apply wpS_region
  simp [wpOpsS, go_sem, recoverD, hu, Try.ntmps77, Exit.thenS]
  rw [show #[Value.pointer (some p)] ++ ((Array.replicate 15 undef).setIfInBounds 3 (.iface 109 (.agg #[.int .i64 k]))).setIfInBounds 0 (.iface 109 (.agg #[.int .i64 k])) = #[.pointer (some p), .iface 109 (.agg #[.int .i64 k]), undef, undef, .iface 109 (.agg #[.int .i64 k]), undef, undef, undef, undef, undef, undef, undef, undef, undef, undef, undef] from rfl]
  refine wpS_of_wp ?_
  have ha := assert_gave (.agg #[.int .i64 k])
  have hlt := World.block_lt_of_cell? w p hc
  have hc2 : (w.alloc (.cells #[.int .i64 k] 109)).cell? p = some (.int .i64 u0) := (World.cell?_alloc_lt w _ _ hlt).trans hc
  have hz2 : (w.alloc (.cells #[.int .i64 k] 109)).frozen? p = false := by
    have e := Below.heap_alloc w (.cells #[.int .i64 k] 109) p.block hlt
    unfold World.frozen? at hz ⊢
    rw [e]
    exact hz
  go_wp2
  simp [bodyPostS, results, Try.results77, go_sem]

set_option maxRecDepth 20000 in
set_option maxHeartbeats 1000000 in
theorem catch_idle (p : Addr) (w : World) : CallsD Try.prog 77 #[.pointer (some p)] .returning w fun e u' w' => e = .returned (.tuple #[]) ∧ u' = .returning ∧ Below w.heap.size w w' := by
  refine callsD_of_wpS Try.func77 rfl fun c₀ cs hu => ?_
  apply wpS_seq
  apply wpS_region
  simp [wpOpsS, go_sem, recoverD, hu, Try.ntmps77, Exit.thenS]
  rw [show #[Value.pointer (some p)] ++ ((Array.replicate 15 undef).setIfInBounds 3 .nilIface).setIfInBounds 0 .nilIface = #[.pointer (some p), .nilIface, undef, undef, .nilIface, undef, undef, undef, undef, undef, undef, undef, undef, undef, undef, undef] from rfl]
  refine wpS_of_wp ?_
  have ha := assert_nil
  go_wp2
  have hb : Below w.heap.size w (w.alloc (.cells #[.int .i64 0] 109)) := (Below.refl _ _).alloc (Nat.le_refl _) _
  cases c₀
  simp_all [bodyPostS, results, Try.results77, go_sem]

/-- What Get answers: data, an error. -/
def getD (b : List UInt8) (at_ size kind : Int) : Dt × Nat :=
  if at_ < 0 ∨ size < 0 ∨ kindB kind = false then (⟨[], [], [], [], []⟩, 1) else if (b.length : Int) - at_ < size then (⟨[], [], [], [], []⟩, 3)
  else match readD b at_.toNat (at_ + size).toNat (shN kind) with
    | .ok d => (d, 0)
    | .error k => (⟨[], [], [], [], []⟩, k)
/-- The call answers data in slices of its own, and an error. -/
def GotD (w : World) (r : Dt × Nat) (e : Ending) (w' : World) : Prop :=
  ∃ y : DV, e = .returned (.tuple #[y.val r.1, .int .i64 r.2]) ∧ OwnD w' w.heap.size y r.1 ∧ Below w.heap.size w w'

theorem data_any (w : World) (g : Nat) (A : Option Addr) (m cap base : Nat) (b : List UInt8) (p en : Nat) (kind : Int)
    (h : RB w g (.slice A m cap) p en) (hbl : b.length = m) (hrow : Row w base A (b.map bc)) (hbg : base ≤ g) (hm : m ≤ cap) (hc : cap ≤ maxLen) (hen : en ≤ m) (hp : p ≤ en) :
    Calls Try.prog 78 #[.pointer (some ⟨g, 0, none⟩), (shN kind).val] w (DataOut w g (readD b p en (shN kind))) := by
  rcases shN_cases kind with rfl | rfl | rfl | rfl | rfl | rfl | rfl | rfl | rfl | hk
  case inr.inr.inr.inr.inr.inr.inr.inr.inr =>
    rw [shN_other hk]
    exact data_bytes w g A m cap base b p en _ rfl rfl rfl (by decide) (by decide) (by decide) (by decide) h hbl hrow hbg hm hc hen hp
  all_goals first
    | exact data_bytes w g A m cap base b p en _ rfl rfl rfl (by decide) (by decide) (by decide) (by decide) h hbl hrow hbg hm hc hen hp
    | exact data_host w g A m cap base b p en _ rfl rfl rfl (by decide) (by decide) (by decide) (by decide) h hbl hrow hbg hm hc hen hp
    | exact data_both w g A m cap base b p en _ rfl rfl rfl (by decide) (by decide) (by decide) (by decide) h hbl hrow hbg hm hc hen hp
    | exact data_texts w g A m cap base b p en _ rfl rfl rfl (by decide) (by decide) (by decide) (by decide) h hbl hrow hbg hm hc hen hp

end Go.Proofs.Ytjjmllbkfbdcnaa
