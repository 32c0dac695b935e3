/-
  The contract of 'answers' of the statements on records.
-/
import Derived.Test.YtjjmllbkfbdcnaaRGet
namespace Go.Proofs.Ytjjmllbkfbdcnaa
open Go.RowKit

set_option maxRecDepth 20000 in
theorem getRR_example : getRR [0, 0, 1, 0, 1, 0, 0, 0, 5, 0, 4, 1, 2, 3, 4] 0 = (⟨[], 1, 1, 5, ⟨[1, 2, 3, 4], [], [], [], []⟩⟩, 15, 0) := by
  have h : getW [0, 0, 1, 0, 1, 0, 0, 0, 5, 0, 4, 1, 2, 3, 4] 0 = ([], 1, 0) := by
    rw [show (0 : Int) = ((0 : Nat) : Int) from rfl, getW_at, getR_zero (by decide) (by decide)]
    rfl
  unfold getRR
  rw [h]
  rfl

set_option maxRecDepth 8000 in
set_option maxHeartbeats 2000000 in
theorem ranswers_any (w : World) : Calls Try.prog 22 #[] w (TrueB w) := by
  have HG := Lib.hid (fun W A c hr hc1 hc2 => rget_any A 15 c [0, 0, 1, 0, 1, 0, 0, 0, 5, 0, 4, 1, 2, 3, 4] 0 W rfl hr hc1 hc2 (by omega))
  rw [getRR_example] at HG
  go_enter Try.func22, Try.ntmps22
  go_wp2_with fail
  refine (HG.out _ (some ⟨w.heap.size, 0, none⟩) 15 ?_ (by decide) (by decide)).mono ?_
  · exact (Row.made w #[.int .u8 0, .int .u8 0, .int .u8 1, .int .u8 0, .int .u8 1, .int .u8 0, .int .u8 0, .int .u8 0, .int .u8 5, .int .u8 0, .int .u8 4, .int .u8 1, .int .u8 2, .int .u8 3, .int .u8 4] 5).mono (by simp)
  rintro e w1 ⟨⟨A, c, ⟨Ab, Ah, Am, An, At, cb, ch, cm, cn, ct⟩⟩, rfl, _, hb⟩
  have HB := Lib.hid hb
  clear hb
  go_wp2
  go_ret
  exact ⟨rfl, (((Below.refl _ _).alloc (Nat.le_refl _) _).trans (HB.out.mono (by simp))).alloc (Nat.le_trans (by simp) HB.out.size) _⟩

end Go.Proofs.Ytjjmllbkfbdcnaa
