/-
  FlashActs, where there are too few sectors or too many.
-/
import Derived.Test.YtledoajhjkfaoaaVActs
namespace Go.Proofs.Ytledoajhjkfaoaa
open Go.RowKit

set_option maxRecDepth 8000 in
set_option maxHeartbeats 400000 in
theorem acts_bad (n : Int) (hn : n < 1 ∨ 4096 < n) (A : Option Addr) (c k : Nat) (w : World) : Calls Try.prog 3 #[.int .i64 n, .slice A k c] w (TrueB w) := by
  have HN := Lib.hid (dev_new_bad w n hn)
  have hd : (decide (1 ≤ n) = false) ∨ (decide (1 ≤ n) = true ∧ decide (n ≤ 4096) = false) := by
    by_cases h : 1 ≤ n
    · exact .inr ⟨by simp; exact h, by simp; omega⟩
    · exact .inl (by simp; omega)
  clear hn
  rcases hd with d1 | ⟨d1, d2⟩
  · go_enter Try.func3, Try.ntmps3
    go_wp2_with fail
    refine HN.out.mono ?_
    rintro e w' ⟨rfl, rfl⟩
    go_wp2_with fail
    refine (flash_answers w).mono ?_
    rintro e w2 ⟨rfl, hb2⟩
    go_wp2
    go_ret
    exact ⟨rfl, hb2⟩
  · go_enter Try.func3, Try.ntmps3
    go_wp2_with fail
    refine HN.out.mono ?_
    rintro e w' ⟨rfl, rfl⟩
    go_wp2_with fail
    refine (flash_answers w).mono ?_
    rintro e w2 ⟨rfl, hb2⟩
    go_wp2
    go_ret
    exact ⟨rfl, hb2⟩
set_option maxRecDepth 8000 in
set_option maxHeartbeats 400000 in
theorem acts_many (n : Nat) (h1 : 60 < n) (h2 : n ≤ 4096) (A : Option Addr) (c k : Nat) (w : World) : Calls Try.prog 3 #[.int .i64 n, .slice A k c] w (TrueB w) := by
  have HN := Lib.hid (h_new w w (Below.refl _ _) n (by omega) h2)
  have d1 : decide (1 ≤ (n : Int)) = true := by simp; omega
  have d2 : decide ((n : Int) ≤ 4096) = true := by simp; omega
  have d3 : decide (60 < (n : Int)) = true := by simp; omega
  go_enter Try.func3, Try.ntmps3
  go_wp2_with fail
  refine HN.out.mono ?_
  rintro e w1 ⟨D, rfl, hd⟩
  have HB := Lib.hid hd.below
  clear hd
  go_wp2_with fail
  refine (flash_answers w1).mono ?_
  rintro e w2 ⟨rfl, hb2⟩
  have HB2 := Lib.hid (HB.out.trans (hb2.mono HB.out.size))
  clear hb2
  go_wp2
  go_ret
  exact ⟨rfl, HB2.out⟩

end Go.Proofs.Ytledoajhjkfaoaa
