/-
  The contracts of ttl.Left, Fresh, Stale, Tell and Clamp.
-/
import Derived.Test.YtpedjnbgpnjmiaaTtMay
namespace Go.Proofs.Ytpedjnbgpnjmiaa
open Go.RowKit

theorem row_made_ints (w : World) (l : List Int) (cs : Array Value) (t : TypeId) (h : cs.toList = l.map iv) : Row (w.alloc (.cells cs t)) (w.heap.size + 1) (some ⟨w.heap.size, 0, none⟩) (l.map iv) := by
  rw [← h]
  exact Row.made w cs t

set_option maxHeartbeats 400000 in
theorem left_any (g t n : Int) (w : World) : Calls Try.prog 8 #[.int .i64 g, .int .i64 t, .int .i64 n] w (Gave w (.int .i64 (leftI g t n))) := by
  have hm := fun W (h : W = w.alloc (.cells #[.int .i64 g, .int .i64 t, .int .i64 n] 3)) => may_any (some ⟨w.heap.size, 0, none⟩) 3 3 (w.heap.size + 1) [g, t, n] W rfl (by subst h; exact row_made_ints w _ _ _ rfl) (by unfold maxLen; omega)
  have hb : Below w.heap.size w (w.alloc (.cells #[.int .i64 g, .int .i64 t, .int .i64 n] 3)) := (Below.refl w.heap.size w).alloc (Nat.le_refl _) _
  have HB := Lib.hid hb
  clear hb
  cases hs : timesB [g, t, n]
  · rw [hs] at hm
    have HM := Lib.hid hm
    have HV := Lib.hid (leftI_no hs)
    clear hm hs
    go_enter Try.func8, Try.ntmps8
    go_wp2_with (go_at_call 17; refine (HM.out _ rfl).mono ?_; rintro e w' ⟨rfl, rfl⟩)
    go_ret
    exact ⟨ret_int (by rw [HV.out]), HB.out⟩
  · rw [hs] at hm
    have HM := Lib.hid hm
    obtain ⟨h1, h2, h3⟩ := times3_yes hs
    have HS := Lib.hid hs
    clear hm hs
    by_cases hn : n < g
    · have hx : max n g = g := by omega
      by_cases hy : g + t - g ≤ 0
      · have hz : max (g + t - g) 0 = 0 := by omega
        have HV := Lib.hid (leftI_end (g := g) (t := t) (n := n) (by rw [if_pos hn]; exact hy))
        go_enter Try.func8, Try.ntmps8
        go_wp2_with (go_at_call 17; refine (HM.out _ rfl).mono ?_; rintro e w' ⟨rfl, rfl⟩)
        go_ret
        exact ⟨ret_int (by rw [HV.out]; omega), HB.out⟩
      · have hz : max (g + t - g) 0 = g + t - g := by omega
        have HV := Lib.hid (leftI_some (g := g) (t := t) (n := n) HS.out (by rw [if_pos hn]; exact hy))
        go_enter Try.func8, Try.ntmps8
        go_wp2_with (go_at_call 17; refine (HM.out _ rfl).mono ?_; rintro e w' ⟨rfl, rfl⟩)
        go_ret
        exact ⟨ret_int (by rw [HV.out, if_pos hn]), HB.out⟩
    · have hx : max n g = n := by omega
      by_cases hy : g + t - n ≤ 0
      · have hz : max (g + t - n) 0 = 0 := by omega
        have HV := Lib.hid (leftI_end (g := g) (t := t) (n := n) (by rw [if_neg hn]; exact hy))
        go_enter Try.func8, Try.ntmps8
        go_wp2_with (go_at_call 17; refine (HM.out _ rfl).mono ?_; rintro e w' ⟨rfl, rfl⟩)
        all_goals (go_ret; exact ⟨ret_int (by rw [HV.out]; try omega), HB.out⟩)
      · have hz : max (g + t - n) 0 = g + t - n := by omega
        have HV := Lib.hid (leftI_some (g := g) (t := t) (n := n) HS.out (by rw [if_neg hn]; exact hy))
        go_enter Try.func8, Try.ntmps8
        go_wp2_with (go_at_call 17; refine (HM.out _ rfl).mono ?_; rintro e w' ⟨rfl, rfl⟩)
        go_ret
        exact ⟨ret_int (by rw [HV.out, if_neg (Int.not_lt.2 hn)]), HB.out⟩

theorem gtr0 (x : Int) : decide (x > 0) = decide (0 < x) := rfl

set_option maxHeartbeats 400000 in
theorem fresh_any (g t n : Int) (w : World) : Calls Try.prog 10 #[.int .i64 g, .int .i64 t, .int .i64 n] w (Gave w (.bool (decide (0 < leftI g t n)))) := by
  have HM := Lib.hid (fun W => left_any g t n W)
  generalize leftI g t n = x at HM ⊢
  go_enter Try.func10, Try.ntmps10
  go_wp2_with (go_at_call 8; refine (HM.out _).mono ?_; rintro e w' ⟨rfl, hb⟩)
  go_ret
  exact ⟨rfl, hb⟩

end Go.Proofs.Ytpedjnbgpnjmiaa
