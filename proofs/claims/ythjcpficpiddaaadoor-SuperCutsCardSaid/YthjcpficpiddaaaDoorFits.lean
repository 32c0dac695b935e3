/-
  The contracts of num.sized, num.Fits, and the document's Fits.
-/
import Derived.Test.YthjcpficpiddaaaDoorProg
import Derived.Test.YthjcpficpiddaaaDoorPlain
import Derived.WalkSpells
import Derived.WalkLawsBesides
namespace Go.Proofs.YthjcpficpiddaaaDoor
open Go.RowKit

set_option maxHeartbeats 400000 in
theorem sized_yes (s : Int) (w : World) (h1 : 1 ≤ s) (h2 : s ≤ 7) :
    Calls Tryd.prog 31 #[.int .i64 s] w fun e w' => e = .returned (.bool true) ∧ w = w' := by
  go_enter Tryd.func31, Tryd.ntmps31
  go_wp2
  go_ret
  exact ⟨rfl, rfl⟩

set_option maxHeartbeats 400000 in
theorem sized_no (s : Int) (w : World) (h : s < 1 ∨ 7 < s) :
    Calls Tryd.prog 31 #[.int .i64 s] w fun e w' => e = .returned (.bool false) ∧ w = w' := by
  rcases h with h | h
  · go_enter Tryd.func31, Tryd.ntmps31
    go_wp2
    go_ret
    exact ⟨rfl, rfl⟩
  · have h1 : ¬ s < 1 := by omega
    have hd : decide (s ≤ 7) = false := by simp; omega
    go_enter Tryd.func31, Tryd.ntmps31
    go_wp2
    go_ret
    exact ⟨rfl, rfl⟩

set_option maxHeartbeats 400000 in
theorem fits_any (n s : Int) (w : World) :
    Calls Tryd.prog 23 #[.int .i64 n, .int .i64 s] w fun e w' => e = .returned (.bool (fitB n s)) ∧ w = w' := by
  by_cases hs : 1 ≤ s ∧ s ≤ 7
  · obtain ⟨h1, h2⟩ := hs
    by_cases hn : 0 ≤ n
    · go_enter Tryd.func23, Tryd.ntmps23
      go_wp2_with (go_at_call 31; refine (sized_yes _ _ h1 h2).mono ?_; rintro e w' ⟨rfl, rfl⟩)
      go_ret
      exact ⟨by rw [← fitB_shr h1 h2 hn]; rfl, rfl⟩
    · have hd : decide (0 ≤ n) = false := by simp; omega
      go_enter Tryd.func23, Tryd.ntmps23
      go_wp2_with (go_at_call 31; refine (sized_yes _ _ h1 h2).mono ?_; rintro e w' ⟨rfl, rfl⟩)
      go_ret
      exact ⟨by rw [fitB_neg (by omega)]; rfl, rfl⟩
  · have hs' : s < 1 ∨ 7 < s := by omega
    go_enter Tryd.func23, Tryd.ntmps23
    go_wp2_with (go_at_call 31; refine (sized_no _ _ hs').mono ?_; rintro e w' ⟨rfl, rfl⟩)
    go_ret
    exact ⟨by rw [fitB_no_size hs]; rfl, rfl⟩

set_option maxHeartbeats 400000 in
theorem ref_fits_any (n s : Int) (w : World) (hn : n ≤ 9223372036854775807) :
    Calls Tryd.prog 7 #[.int .i64 n, .int .i64 s] w fun e w' => e = .returned (.bool (fitB n s)) ∧ w = w' := by
  by_cases hs : 1 ≤ s ∧ s ≤ 7
  · obtain ⟨h1, h2⟩ := hs
    by_cases h0 : 0 ≤ n
    · obtain ⟨m, rfl⟩ : ∃ m : Nat, s = m := ⟨s.toNat, by omega⟩
      have d1 : decide ((m : Int) < 1) = false := by simp; omega
      have d2 : decide (7 < (m : Int)) = false := by simp; omega
      have d3 : decide (n < 0) = false := by simp; omega
      go_enter Tryd.func7, Tryd.ntmps7
      go_wp2
      go_loop [0, 5] (fun v i => ∃ k : Nat, k ≤ m ∧ i = .int .i64 k ∧ v = .int .i64 (n / 2 ^ (8 * k))) (fun _ i => m - (intOf i).toNat)
      case atStart => exact ⟨0, by omega, rfl, by simp⟩
      case round =>
        obtain ⟨k, hk, rfl, rfl⟩ := hrel
        have g1 := div_nonneg' h0 k
        have g2 := div_le' h0 k
        by_cases hlt : k < m
        · go_wp2
          go_round
          case rel => exact ⟨k + 1, by omega, by go_num, by rw [← div_step]⟩
          case measure => simp [intOf]; omega
        · obtain rfl : k = m := by omega
          go_wp2
          go_ret
          exact ⟨by rw [← fitB_shr h1 h2 h0]; rfl, rfl⟩
    · have d1 : decide (s < 1) = false := by simp; omega
      have d2 : decide (7 < s) = false := by simp; omega
      have d3 : decide (n < 0) = true := by simp; omega
      go_enter Tryd.func7, Tryd.ntmps7
      go_wp2
      go_ret
      exact ⟨by rw [fitB_neg (by omega)]; rfl, rfl⟩
  · rcases (show s < 1 ∨ 7 < s by omega) with h | h
    · have d1 : decide (s < 1) = true := by simp; omega
      go_enter Tryd.func7, Tryd.ntmps7
      go_wp2
      go_ret
      exact ⟨by rw [fitB_no_size hs]; rfl, rfl⟩
    · have d1 : decide (s < 1) = false := by simp; omega
      have d2 : decide (7 < s) = true := by simp; omega
      go_enter Tryd.func7, Tryd.ntmps7
      go_wp2
      go_ret
      exact ⟨by rw [fitB_no_size hs]; rfl, rfl⟩

end Go.Proofs.YthjcpficpiddaaaDoor
