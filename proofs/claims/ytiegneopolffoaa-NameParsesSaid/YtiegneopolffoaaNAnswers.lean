/-
  The contract of 'answers' of the statements on names.
-/
import Derived.Test.YtiegneopolffoaaText
namespace Go.Proofs.Ytiegneopolffoaa
open Go.RowKit

theorem text_ab : textA [[97], [98]] = [97, 46, 98, 46] := by decide +kernel

set_option maxHeartbeats 400000 in
theorem nanswers_any (w : World) : Calls Try.prog 10 #[] w (TrueB w) := by
  go_enter Try.func10, Try.ntmps10
  go_wp2_with fail
  refine (text_any _ 2 2 (w.heap.size + 1) [[97], [98]] _ rfl (Row.made w #[sv [97], sv [98]] 9) (by simp) (by decide)).mono ?_
  rintro e w1 ⟨rfl, hb⟩
  rw [text_ab]
  have HB := Lib.hid hb
  clear hb
  go_wp2
  go_ret
  exact ⟨rfl, ((Below.refl _ _).alloc (Nat.le_refl _) _).trans (HB.out.mono (by simp))⟩

end Go.Proofs.Ytiegneopolffoaa
