/-
  A device that a statement made itself: Down, Len and Limit.
-/
import Derived.Test.YthjcpficpiddaaaDoorVHold
namespace Go.Proofs.YthjcpficpiddaaaDoor
open Go.RowKit

section
variable {w0 w : World} {D : Nat} {x : Dv}
theorem h_down (h : Holds w0 w D x) : Calls Tryd.prog 21 #[.pointer (some ⟨D, 0, none⟩)] w (Told w (.bool x.down)) := by
  obtain ⟨m, rfl, h1, _⟩ := h
  exact down_core w m.d m _ _ _ h1.blk
theorem h_len (h : Holds w0 w D x) : Calls Tryd.prog 20 #[.pointer (some ⟨D, 0, none⟩)] w (Told w (.int .i64 x.sure.length)) := by
  obtain ⟨m, rfl, h1, _⟩ := h
  exact len_core w m.d m _ _ _ h1.blk
theorem h_limit (h : Holds w0 w D x) (k : Int) (hk : k ≤ 9223372036854775807) : Calls Tryd.prog 9 #[.pointer (some ⟨D, 0, none⟩), .int .i64 k] w (fun e w' => e = .returned (.int .i64 (if k < 0 then 1 else 0)) ∧ Holds w0 w' D (x.limited k) ∧ Kept w w') := by
  obtain ⟨m, rfl, h1, h2⟩ := h
  refine (dev_limit w _ m x h1 k hk).mono fun e w' ⟨he, h3, h4, h5⟩ => ?_
  have hw : Went w0.heap.size w m (x.limited k) w' := ⟨m, rfl, h3, h4.mono fun _ hj => .inl (.inl hj), fun _ hj => .inl hj⟩
  exact ⟨he, Holds.went rfl h1 h2 hw, Kept.of_went h1 hw⟩
end

end Go.Proofs.YthjcpficpiddaaaDoor
