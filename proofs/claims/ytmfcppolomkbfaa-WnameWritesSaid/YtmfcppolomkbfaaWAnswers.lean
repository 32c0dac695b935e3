/-
  The contract of 'answers' of the statements on names as they are written.
-/
import Derived.Test.YtmfcppolomkbfaaWGet
namespace Go.Proofs.Ytmfcppolomkbfaa
open Go.RowKit

theorem getW_example : getW [1, 97, 0] 0 = ([[97]], 3, 0) := by
  rw [show (0 : Int) = ((0 : Nat) : Int) from rfl, getW_at, getR_label (by decide) (by decide) (by decide) (by decide) (by decide)]
  rw [getR_zero (by decide) (by decide)]
  rfl

set_option maxHeartbeats 400000 in
theorem wanswers_any (w : World) : Calls Try.prog 10 #[] w (TrueB w) := by
  have HG := Lib.hid (fun W A c hr hc1 hc2 => wget_any A 3 c [1, 97, 0] 0 W rfl hr hc1 hc2 (by omega))
  rw [getW_example] at HG
  go_enter Try.func10, Try.ntmps10
  go_wp2_with fail
  refine (HG.out _ (some ⟨w.heap.size, 0, none⟩) 3 ?_ (by decide) (by decide)).mono ?_
  · exact (Row.made w #[.int .u8 1, .int .u8 97, .int .u8 0] 5).mono (by simp)
  rintro e w1 ⟨v, rfl, ho, hb⟩
  obtain ⟨A1, c1, rfl, _, _⟩ := own_form ho
  obtain ⟨b1, o1, rfl, _, hc⟩ := (Row.of_own ho).name_at (n := [[97]]) (k := 0) (by decide)
  have HB := Lib.hid hb
  simp only [Nat.add_zero] at hc
  clear ho hb
  go_wp2
  go_ret
  exact ⟨rfl, ((Below.refl _ _).alloc (Nat.le_refl _) _).trans (HB.out.mono (by simp))⟩

end Go.Proofs.Ytmfcppolomkbfaa
