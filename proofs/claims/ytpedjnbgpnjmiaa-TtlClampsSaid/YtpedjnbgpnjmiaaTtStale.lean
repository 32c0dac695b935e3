/-
  The contracts of ttl.Stale, Tell and Clamp.
-/
import Derived.Test.YtpedjnbgpnjmiaaTtLeft
namespace Go.Proofs.Ytpedjnbgpnjmiaa
open Go.RowKit

theorem times4_three {g t k n : Int} (h : timesB [g, t, k, n] = true) : timesB [g, t, n] = true ∧ 0 ≤ k ∧ k ≤ 36028797018963968 := by
  rw [times4] at h
  simp only [Bool.and_eq_true] at h
  exact ⟨times3_true h.1 h.2.1 h.2.2.2, timeB_yes h.2.2.1⟩
theorem staleB_no {g t k n : Int} (h : timesB [g, t, k, n] = false) : staleB g t k n = false := by unfold staleB; rw [h]; rfl
theorem staleB_fresh {g t k n : Int} (h : 0 < leftI g t n) : staleB g t k n = false := by
  unfold staleB
  rw [show (leftI g t n == 0) = false from beq_eq_false_iff_ne.2 (by omega)]
  simp
theorem staleB_yes {g t k n : Int} (h : timesB [g, t, k, n] = true) (h' : ¬ 0 < leftI g t n) : staleB g t k n = decide (n < g + t + k) := by
  have h1 := leftI_bounds g t n
  unfold staleB
  rw [h, show leftI g t n = 0 by omega]
  rfl

set_option maxHeartbeats 400000 in
theorem stale_any (g t k n : Int) (w : World) : Calls Try.prog 11 #[.int .i64 g, .int .i64 t, .int .i64 k, .int .i64 n] w (Gave w (.bool (staleB g t k n))) := by
  have hm := fun W (h : W = w.alloc (.cells #[.int .i64 g, .int .i64 t, .int .i64 k, .int .i64 n] 3)) => may_any (some ⟨w.heap.size, 0, none⟩) 4 4 (w.heap.size + 1) [g, t, k, n] W rfl (by subst h; exact row_made_ints w _ _ _ rfl) (by unfold maxLen; omega)
  have hb : Below w.heap.size w (w.alloc (.cells #[.int .i64 g, .int .i64 t, .int .i64 k, .int .i64 n] 3)) := (Below.refl w.heap.size w).alloc (Nat.le_refl _) _
  have HB := Lib.hid hb
  clear hb
  cases hs : timesB [g, t, k, n]
  · rw [hs] at hm
    have HM := Lib.hid hm
    have HV := Lib.hid (staleB_no hs)
    clear hm hs
    go_enter Try.func11, Try.ntmps11
    go_wp2_with (go_at_call 17; refine (HM.out _ rfl).mono ?_; rintro e w' ⟨rfl, rfl⟩)
    go_ret
    exact ⟨ret_bool (by rw [HV.out]), HB.out⟩
  · rw [hs] at hm
    have HM := Lib.hid hm
    have hs3 := (times4_three hs).1
    obtain ⟨h1, h2, h3⟩ := times3_yes hs3
    obtain ⟨h4, h5⟩ := (times4_three hs).2
    have HC := Lib.hid (fun W => fresh_any g t n W)
    by_cases hf : 0 < leftI g t n
    · have HV := Lib.hid (staleB_fresh (k := k) hf)
      have hd : decide (0 < leftI g t n) = true := decide_eq_true hf
      rw [hd] at HC
      clear hm hs hs3 hf hd
      go_enter Try.func11, Try.ntmps11
      go_wp2_with (first
        | (go_at_call 17; refine (HM.out _ rfl).mono ?_; rintro e w' ⟨rfl, rfl⟩)
        | (go_at_call 10; refine (HC.out _).mono ?_; rintro e w2 ⟨rfl, hb2⟩))
      go_ret
      exact ⟨ret_bool (by rw [HV.out]), HB.out.trans (hb2.mono (by simp))⟩
    · have HV := Lib.hid (staleB_yes hs hf)
      have hd : decide (0 < leftI g t n) = false := decide_eq_false hf
      rw [hd] at HC
      clear hm hs hs3 hf hd
      go_enter Try.func11, Try.ntmps11
      go_wp2_with (first
        | (go_at_call 17; refine (HM.out _ rfl).mono ?_; rintro e w' ⟨rfl, rfl⟩)
        | (go_at_call 10; refine (HC.out _).mono ?_; rintro e w2 ⟨rfl, hb2⟩))
      go_ret
      exact ⟨ret_bool (by rw [HV.out]), HB.out.trans (hb2.mono (by simp))⟩

theorem tellI_no {g t n : Int} (h : timesB [g, t, n] = false) : tellI g t n = 0 := by unfold tellI; rw [if_neg (by rw [h]; simp)]
theorem tellI_left {g t n : Int} (h : 0 < leftI g t n) : tellI g t n = leftI g t n := by
  unfold tellI
  cases hs : timesB [g, t, n]
  · rw [leftI_no hs] at h; omega
  · rw [if_pos rfl, if_pos h]
theorem tellI_end {g t n : Int} (h : timesB [g, t, n] = true) (h' : ¬ 0 < leftI g t n) : tellI g t n = 30 := by unfold tellI; rw [if_pos h, if_neg h']

set_option maxHeartbeats 400000 in
theorem tell_any (g t n : Int) (w : World) : Calls Try.prog 13 #[.int .i64 g, .int .i64 t, .int .i64 n] w (Gave w (.int .i64 (tellI g t n))) := by
  have hm := fun W (h : W = w.alloc (.cells #[.int .i64 g, .int .i64 t, .int .i64 n] 3)) => may_any (some ⟨w.heap.size, 0, none⟩) 3 3 (w.heap.size + 1) [g, t, n] W rfl (by subst h; exact row_made_ints w _ _ _ rfl) (by unfold maxLen; omega)
  have hb : Below w.heap.size w (w.alloc (.cells #[.int .i64 g, .int .i64 t, .int .i64 n] 3)) := (Below.refl w.heap.size w).alloc (Nat.le_refl _) _
  have HB := Lib.hid hb
  clear hb
  cases hs : timesB [g, t, n]
  · rw [hs] at hm
    have HM := Lib.hid hm
    have HV := Lib.hid (tellI_no hs)
    clear hm hs
    go_enter Try.func13, Try.ntmps13
    go_wp2_with (go_at_call 17; refine (HM.out _ rfl).mono ?_; rintro e w' ⟨rfl, rfl⟩)
    go_ret
    exact ⟨ret_int (by rw [HV.out]), HB.out⟩
  · rw [hs] at hm
    have HM := Lib.hid hm
    have HC := Lib.hid (fun W => fresh_any g t n W)
    by_cases hf : 0 < leftI g t n
    · have HV := Lib.hid (tellI_left hf)
      have HL := Lib.hid (fun W => left_any g t n W)
      have hd : decide (0 < leftI g t n) = true := decide_eq_true hf
      rw [hd] at HC
      clear hm hs hf hd
      go_enter Try.func13, Try.ntmps13
      go_wp2_with (first
        | (go_at_call 17; refine (HM.out _ rfl).mono ?_; rintro e w' ⟨rfl, rfl⟩)
        | (go_at_call 8; refine (HL.out _).mono ?_; rintro e w3 ⟨rfl, hb3⟩)
        | (go_at_call 10; refine (HC.out _).mono ?_; rintro e w2 ⟨rfl, hb2⟩))
      go_ret
      have hz2 : w.heap.size + 1 ≤ w2.heap.size := by have := hb2.size; simpa using this
      exact ⟨ret_int (by rw [HV.out]), (HB.out.trans (hb2.mono (by simp))).trans (hb3.mono (by omega))⟩
    · have HV := Lib.hid (tellI_end hs hf)
      have hd : decide (0 < leftI g t n) = false := decide_eq_false hf
      rw [hd] at HC
      clear hm hs hf hd
      go_enter Try.func13, Try.ntmps13
      go_wp2_with (first
        | (go_at_call 17; refine (HM.out _ rfl).mono ?_; rintro e w' ⟨rfl, rfl⟩)
        | (go_at_call 10; refine (HC.out _).mono ?_; rintro e w2 ⟨rfl, hb2⟩))
      go_ret
      exact ⟨ret_int (by rw [HV.out]), HB.out.trans (hb2.mono (by simp))⟩

theorem clampI_neg {t : Int} {b : Bool} (h : t < 0) : clampI t b = 0 := by unfold clampI; rw [if_pos h]
theorem clampI_n {t : Int} (h : ¬ t < 0) (h' : ¬ 10800 < t) (b : Bool) : clampI t b = t := by
  unfold clampI; rw [if_neg h, if_neg (fun x => h' x.2), if_neg (by omega)]
theorem clampI_neg_big {t : Int} (h' : 10800 < t) : clampI t true = 10800 := by
  unfold clampI; rw [if_neg (by omega), if_pos ⟨rfl, h'⟩]
theorem clampI_mid {t : Int} (h : ¬ t < 0) (h' : ¬ 604800 < t) : clampI t false = t := by
  unfold clampI; rw [if_neg h, if_neg (by simp), if_neg h']
theorem clampI_big {t : Int} (h' : 604800 < t) : clampI t false = 604800 := by
  unfold clampI; rw [if_neg (by omega), if_neg (by simp), if_pos h']

set_option maxHeartbeats 400000 in
theorem clamp_any (t : Int) (b : Bool) (w : World) : Calls Try.prog 15 #[.int .i64 t, .bool b] w (Told w (.int .i64 (clampI t b))) := by
  by_cases h : t < 0
  · have HV := Lib.hid (clampI_neg (b := b) h)
    cases b <;> (go_enter Try.func15, Try.ntmps15; go_wp2; go_ret; exact ⟨ret_int (by rw [HV.out]; try omega), rfl⟩)
  · cases b
    · by_cases h2 : 604800 < t
      · have HV := Lib.hid (clampI_big h2)
        go_enter Try.func15, Try.ntmps15
        go_wp2
        go_ret
        exact ⟨ret_int (by rw [HV.out]; try omega), rfl⟩
      · have HV := Lib.hid (clampI_mid h h2)
        go_enter Try.func15, Try.ntmps15
        go_wp2
        go_ret
        exact ⟨ret_int (by rw [HV.out]; try omega), rfl⟩
    · by_cases h2 : 10800 < t
      · have HV := Lib.hid (clampI_neg_big h2)
        go_enter Try.func15, Try.ntmps15
        go_wp2
        go_ret
        exact ⟨ret_int (by rw [HV.out]; try omega), rfl⟩
      · have HV := Lib.hid (clampI_n h h2 true)
        go_enter Try.func15, Try.ntmps15
        go_wp2
        go_ret
        exact ⟨ret_int (by rw [HV.out]; try omega), rfl⟩

end Go.Proofs.Ytpedjnbgpnjmiaa
