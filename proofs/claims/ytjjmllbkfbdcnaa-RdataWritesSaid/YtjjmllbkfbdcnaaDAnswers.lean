/-
  The contract of 'answers' of the statements on data.
-/
import Derived.Test.YtjjmllbkfbdcnaaDGet
namespace Go.Proofs.Ytjjmllbkfbdcnaa
open Go.RowKit

theorem getD_example : getD [1, 2, 3, 4] 0 4 1 = (⟨[1, 2, 3, 4], [], [], [], []⟩, 0) := by rfl

set_option maxHeartbeats 1000000 in
theorem danswers_any (w : World) : Calls Try.prog 9 #[] w (TrueB w) := by
  have HG := Lib.hid (fun W A c hr hc1 hc2 => dget_any A 4 c [1, 2, 3, 4] 0 4 1 W rfl hr hc1 hc2 (by omega))
  rw [getD_example] at HG
  go_enter Try.func9, Try.ntmps9
  go_wp2_with fail
  refine (HG.out _ (some ⟨w.heap.size, 0, none⟩) 4 ?_ (by decide) (by decide)).mono ?_
  · exact (Row.made w #[.int .u8 1, .int .u8 2, .int .u8 3, .int .u8 4] 5).mono (by simp)
  rintro e w1 ⟨⟨Ab, Ah, Am, An, At, cb, ch, cm, cn, ct⟩, rfl, ho, hb⟩
  obtain ⟨b1, o1, hA, hlt, hc⟩ := (Row.of_own ho.b).at_ (k := 3) (by decide)
  simp only at hA
  subst hA
  have hc1 : w1.cell? ⟨b1, o1 + 3, none⟩ = some (.int .u8 4) := hc
  have HB := Lib.hid hb
  clear ho hb hc
  go_wp2
  go_ret
  exact ⟨rfl, (((Below.refl _ _).alloc (Nat.le_refl _) _).trans (HB.out.mono (by simp))).alloc (Nat.le_trans (by simp) HB.out.size) _⟩

end Go.Proofs.Ytjjmllbkfbdcnaa
