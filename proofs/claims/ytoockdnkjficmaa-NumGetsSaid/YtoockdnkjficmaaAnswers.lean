/-
  The contract of the statements' own 'answers'.
-/
import Derived.Test.YtoockdnkjficmaaPutRef
namespace Go.Proofs.Ytoockdnkjficmaa
open Go.RowKit

def TrueB (w : World) (e : Ending) (w' : World) : Prop := e = .returned (.bool true) ∧ Below w.heap.size w w'

theorem put_258 : putL [] 258 2 = [1, 2] := by decide +kernel

set_option maxHeartbeats 400000 in
theorem answers_any (w : World) : Calls Try.prog 8 #[] w (TrueB w) := by
  have hp := put_any none 0 0 0 [] 258 2 w rfl (Row.empty _ _ _) (by omega) (by omega)
  rw [put_258] at hp
  have HP := Lib.hid hp
  clear hp
  go_enter Try.func8, Try.ntmps8
  go_wp2_with fail
  refine HP.out.mono ?_
  rintro e w1 ⟨A, c, rfl, hown, hb⟩
  obtain ⟨_, _, hA, hc1, hc2⟩ := own_form hown
  have hr := Row.of_own hown
  obtain ⟨b, off, rfl, _, hc⟩ := hr (by simp)
  have h0 : w1.cell? ⟨b, off, none⟩ = some (.int .u8 1) := hc 0 _ rfl
  have h1 : w1.cell? ⟨b, off + 1, none⟩ = some (.int .u8 2) := hc 1 _ rfl
  have HB := Lib.hid hb
  have hc3 : 2 ≤ c := by injection hA with _ _ e; rw [e]; exact hc1
  clear hA hc hr hown hb hc1 hc2
  rw [show ([1, 2] : List UInt8).length = 2 from rfl]
  go_wp2
  go_ret
  exact ⟨rfl, HB.out⟩

end Go.Proofs.Ytoockdnkjficmaa
