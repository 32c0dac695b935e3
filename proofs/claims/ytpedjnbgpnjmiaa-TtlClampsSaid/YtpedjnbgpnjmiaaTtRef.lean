/-
  The contracts of the document's Left, Stale, Tell and Clamp; the laws' own 'answers'.
-/
import Derived.Test.YtpedjnbgpnjmiaaTtStale
namespace Go.Proofs.Ytpedjnbgpnjmiaa
open Go.RowKit

set_option maxHeartbeats 800000 in
theorem refleft_any (g t n : Int) (w : World) : Calls Try.prog 9 #[.int .i64 g, .int .i64 t, .int .i64 n] w (Told w (.int .i64 (leftI g t n))) := by
  have hg := fun W => time_any g W
  have ht := fun W => time_any t W
  have hn := fun W => time_any n W
  cases h1 : timeB g
  · rw [h1] at hg
    have HG := Lib.hid hg
    have HV := Lib.hid (leftI_no (g := g) (t := t) (n := n) (by rw [times3, h1]; rfl))
    clear hg ht hn h1
    go_enter Try.func9, Try.ntmps9
    go_wp2_with (go_at_call 18; (first | (with_reducible refine (HG.out _).mono ?_)); rintro e w' ⟨rfl, rfl⟩)
    go_ret
    exact ⟨ret_int (by rw [HV.out]), rfl⟩
  · rw [h1] at hg
    have HG := Lib.hid hg
    clear hg
    cases h2 : timeB t
    · rw [h2] at ht
      have HT := Lib.hid ht
      have HV := Lib.hid (leftI_no (g := g) (t := t) (n := n) (by rw [times3, h1, h2]; rfl))
      clear ht hn h1 h2
      go_enter Try.func9, Try.ntmps9
      go_wp2_with (go_at_call 18; (first | (with_reducible refine (HG.out _).mono ?_) | (with_reducible refine (HT.out _).mono ?_)); rintro e w' ⟨rfl, rfl⟩)
      go_ret
      exact ⟨ret_int (by rw [HV.out]), rfl⟩
    · rw [h2] at ht
      have HT := Lib.hid ht
      clear ht
      cases h3 : timeB n
      · rw [h3] at hn
        have HN := Lib.hid hn
        have HV := Lib.hid (leftI_no (g := g) (t := t) (n := n) (by rw [times3, h1, h2, h3]; rfl))
        clear hn h1 h2 h3
        go_enter Try.func9, Try.ntmps9
        go_wp2_with (go_at_call 18; (first | (with_reducible refine (HG.out _).mono ?_) | (with_reducible refine (HT.out _).mono ?_) | (with_reducible refine (HN.out _).mono ?_)); rintro e w' ⟨rfl, rfl⟩)
        go_ret
        exact ⟨ret_int (by rw [HV.out]), rfl⟩
      · rw [h3] at hn
        have HN := Lib.hid hn
        have hs := times3_true h1 h2 h3
        obtain ⟨⟨_, _⟩, ⟨_, _⟩, _, _⟩ := times3_yes hs
        have HS := Lib.hid hs
        clear hn h1 h2 h3 hs
        by_cases hl : n < g
        · by_cases he : g + t ≤ g
          · have HV := Lib.hid (leftI_end (g := g) (t := t) (n := n) (by rw [if_pos hl]; omega))
            go_enter Try.func9, Try.ntmps9
            go_wp2_with (go_at_call 18; (first | (with_reducible refine (HG.out _).mono ?_) | (with_reducible refine (HT.out _).mono ?_) | (with_reducible refine (HN.out _).mono ?_)); rintro e w' ⟨rfl, rfl⟩)
            go_ret
            exact ⟨ret_int (by rw [HV.out]), rfl⟩
          · have HV := Lib.hid (leftI_some (g := g) (t := t) (n := n) HS.out (by rw [if_pos hl]; omega))
            go_enter Try.func9, Try.ntmps9
            go_wp2_with (go_at_call 18; (first | (with_reducible refine (HG.out _).mono ?_) | (with_reducible refine (HT.out _).mono ?_) | (with_reducible refine (HN.out _).mono ?_)); rintro e w' ⟨rfl, rfl⟩)
            go_ret
            exact ⟨ret_int (by rw [HV.out, if_pos hl]), rfl⟩
        · by_cases he : g + t ≤ n
          · have HV := Lib.hid (leftI_end (g := g) (t := t) (n := n) (by rw [if_neg hl]; omega))
            go_enter Try.func9, Try.ntmps9
            go_wp2_with (go_at_call 18; (first | (with_reducible refine (HG.out _).mono ?_) | (with_reducible refine (HT.out _).mono ?_) | (with_reducible refine (HN.out _).mono ?_)); rintro e w' ⟨rfl, rfl⟩)
            go_ret
            exact ⟨ret_int (by rw [HV.out]), rfl⟩
          · have HV := Lib.hid (leftI_some (g := g) (t := t) (n := n) HS.out (by rw [if_neg hl]; omega))
            have HL := Lib.hid hl
            go_enter Try.func9, Try.ntmps9
            go_wp2_with (go_at_call 18; (first | (with_reducible refine (HG.out _).mono ?_) | (with_reducible refine (HT.out _).mono ?_) | (with_reducible refine (HN.out _).mono ?_)); rintro e w' ⟨rfl, rfl⟩)
            go_ret
            exact ⟨ret_int (by rw [HV.out, if_neg (Int.not_lt.2 hl)]), rfl⟩

theorem staleB_of {g t k n : Int} (h : timesB [g, t, k, n] = true) (h' : leftI g t n = 0) : staleB g t k n = decide (n < g + t + k) := staleB_yes h (by omega)

set_option maxHeartbeats 1600000 in
theorem refstale_any (g t k n : Int) (w : World) : Calls Try.prog 12 #[.int .i64 g, .int .i64 t, .int .i64 k, .int .i64 n] w (Told w (.bool (staleB g t k n))) := by
  have hg := fun W => time_any g W
  have ht := fun W => time_any t W
  have hk := fun W => time_any k W
  have hn := fun W => time_any n W
  cases hs : timesB [g, t, k, n]
  · have HV := Lib.hid (staleB_no hs)
    rw [times4] at hs
    have HL := Lib.hid (fun W => refleft_any g t n W)
    cases h1 : timeB g <;> cases h2 : timeB t <;> cases h3 : timeB n <;> cases h4 : timeB k <;> simp only [h1, h2, h3, h4] at hs hg ht hk hn <;> first
      | (cases hs; done)
      | (have HG := Lib.hid hg
         have HT := Lib.hid ht
         have HK := Lib.hid hk
         have HN := Lib.hid hn
         clear hg ht hk hn hs h1 h2 h3 h4
         go_enter Try.func12, Try.ntmps12
         go_wp2_with (go_at_call 18; (first | (with_reducible refine (HG.out _).mono ?_) | (with_reducible refine (HT.out _).mono ?_) | (with_reducible refine (HN.out _).mono ?_) | (with_reducible refine (HK.out _).mono ?_)); rintro e w' ⟨rfl, rfl⟩)
         go_ret
         exact ⟨ret_bool (by rw [HV.out]), rfl⟩)
  · obtain ⟨hs3, hk0, hk1⟩ := times4_three hs
    obtain ⟨⟨hg0, hg1⟩, ⟨ht0, ht1⟩, hn0, hn1⟩ := times3_yes hs3
    rw [timeB_true hg0 hg1] at hg
    rw [timeB_true ht0 ht1] at ht
    rw [timeB_true hn0 hn1] at hn
    rw [timeB_true hk0 hk1] at hk
    have HG := Lib.hid hg
    have HT := Lib.hid ht
    have HK := Lib.hid hk
    have HN := Lib.hid hn
    have hL := fun W => refleft_any g t n W
    have hb := leftI_bounds g t n
    by_cases h0 : leftI g t n = 0
    · have HV := Lib.hid (staleB_of hs h0)
      rw [h0] at hL
      have HL := Lib.hid hL
      clear hg ht hk hn hs hs3 hL h0 hb
      go_enter Try.func12, Try.ntmps12
      go_wp2_with (first
        | (go_at_call 9; refine (HL.out _).mono ?_; rintro e w' ⟨rfl, rfl⟩)
        | (go_at_call 18; (first | (with_reducible refine (HG.out _).mono ?_) | (with_reducible refine (HT.out _).mono ?_) | (with_reducible refine (HN.out _).mono ?_) | (with_reducible refine (HK.out _).mono ?_)); rintro e w' ⟨rfl, rfl⟩))
      go_ret
      exact ⟨ret_bool (by rw [HV.out]), rfl⟩
    · have HV := Lib.hid (staleB_fresh (k := k) (show 0 < leftI g t n by omega))
      generalize hx : leftI g t n = x at *
      have hx0 : (x == 0) = false := beq_eq_false_iff_ne.2 h0
      have HL := Lib.hid hL
      clear hg ht hk hn hs hs3 hL hb hx
      go_enter Try.func12, Try.ntmps12
      go_wp2_with (first
        | (go_at_call 9; refine (HL.out _).mono ?_; rintro e w' ⟨rfl, rfl⟩)
        | (go_at_call 18; (first | (with_reducible refine (HG.out _).mono ?_) | (with_reducible refine (HT.out _).mono ?_) | (with_reducible refine (HN.out _).mono ?_) | (with_reducible refine (HK.out _).mono ?_)); rintro e w' ⟨rfl, rfl⟩))
      go_ret
      exact ⟨ret_bool (by rw [HV.out]), rfl⟩

set_option maxHeartbeats 800000 in
theorem reftell_any (g t n : Int) (w : World) : Calls Try.prog 14 #[.int .i64 g, .int .i64 t, .int .i64 n] w (Told w (.int .i64 (tellI g t n))) := by
  have hg := fun W => time_any g W
  have ht := fun W => time_any t W
  have hn := fun W => time_any n W
  cases hs : timesB [g, t, n]
  · have HV := Lib.hid (tellI_no hs)
    rw [times3] at hs
    cases h1 : timeB g <;> cases h2 : timeB t <;> cases h3 : timeB n <;> simp only [h1, h2, h3] at hs hg ht hn <;> first
      | (cases hs; done)
      | (have HG := Lib.hid hg
         have HT := Lib.hid ht
         have HN := Lib.hid hn
         clear hg ht hn hs h1 h2 h3
         go_enter Try.func14, Try.ntmps14
         go_wp2_with (go_at_call 18; (first | (with_reducible refine (HG.out _).mono ?_) | (with_reducible refine (HT.out _).mono ?_) | (with_reducible refine (HN.out _).mono ?_)); rintro e w' ⟨rfl, rfl⟩)
         go_ret
         exact ⟨ret_int (by rw [HV.out]), rfl⟩)
  · obtain ⟨⟨hg0, hg1⟩, ⟨ht0, ht1⟩, hn0, hn1⟩ := times3_yes hs
    rw [timeB_true hg0 hg1] at hg
    rw [timeB_true ht0 ht1] at ht
    rw [timeB_true hn0 hn1] at hn
    have HG := Lib.hid hg
    have HT := Lib.hid ht
    have HN := Lib.hid hn
    have hL := fun W => refleft_any g t n W
    by_cases h0 : 0 < leftI g t n
    · have HV := Lib.hid (tellI_left h0)
      generalize leftI g t n = x at *
      have HL := Lib.hid hL
      clear hg ht hn hs hL
      go_enter Try.func14, Try.ntmps14
      go_wp2_with (first
        | (go_at_call 9; refine (HL.out _).mono ?_; rintro e w' ⟨rfl, rfl⟩)
        | (go_at_call 18; (first | (with_reducible refine (HG.out _).mono ?_) | (with_reducible refine (HT.out _).mono ?_) | (with_reducible refine (HN.out _).mono ?_)); rintro e w' ⟨rfl, rfl⟩))
      go_ret
      exact ⟨ret_int (by rw [HV.out]), rfl⟩
    · have HV := Lib.hid (tellI_end hs h0)
      generalize leftI g t n = x at *
      have HL := Lib.hid hL
      clear hg ht hn hs hL
      go_enter Try.func14, Try.ntmps14
      go_wp2_with (first
        | (go_at_call 9; refine (HL.out _).mono ?_; rintro e w' ⟨rfl, rfl⟩)
        | (go_at_call 18; (first | (with_reducible refine (HG.out _).mono ?_) | (with_reducible refine (HT.out _).mono ?_) | (with_reducible refine (HN.out _).mono ?_)); rintro e w' ⟨rfl, rfl⟩))
      go_ret
      exact ⟨ret_int (by rw [HV.out]), rfl⟩

set_option maxHeartbeats 400000 in
theorem refclamp_any (t : Int) (b : Bool) (w : World) : Calls Try.prog 16 #[.int .i64 t, .bool b] w (Told w (.int .i64 (clampI t b))) := by
  by_cases h : t < 0
  · have HV := Lib.hid (clampI_neg (b := b) h)
    go_enter Try.func16, Try.ntmps16
    go_wp2
    go_ret
    exact ⟨ret_int (by rw [HV.out]), rfl⟩
  · cases b
    · by_cases h2 : 604800 < t
      · have HV := Lib.hid (clampI_big h2)
        go_enter Try.func16, Try.ntmps16
        go_wp2
        go_ret
        exact ⟨ret_int (by rw [HV.out]), rfl⟩
      · have HV := Lib.hid (clampI_mid h h2)
        go_enter Try.func16, Try.ntmps16
        go_wp2
        go_ret
        exact ⟨ret_int (by rw [HV.out]), rfl⟩
    · by_cases h2 : 10800 < t
      · have HV := Lib.hid (clampI_neg_big h2)
        have hd : decide (10800 < t) = true := decide_eq_true h2
        go_enter Try.func16, Try.ntmps16
        go_wp2
        go_ret
        exact ⟨ret_int (by rw [HV.out]), rfl⟩
      · have HV := Lib.hid (clampI_n h h2 true)
        have hd : decide (10800 < t) = false := decide_eq_false h2
        go_enter Try.func16, Try.ntmps16
        go_wp2
        go_ret
        exact ⟨ret_int (by rw [HV.out]), rfl⟩

theorem left_12 : leftI 10 5 12 = 3 := by decide +kernel

set_option maxHeartbeats 400000 in
theorem answers_any (w : World) : Calls Try.prog 7 #[] w (TrueB w) := by
  have hp := left_any 10 5 12 w
  rw [left_12] at hp
  have HP := Lib.hid hp
  clear hp
  go_enter Try.func7, Try.ntmps7
  go_wp2_with (go_at_call 8; refine HP.out.mono ?_; rintro e w' ⟨rfl, hb⟩)
  go_ret
  exact ⟨rfl, hb⟩

end Go.Proofs.Ytpedjnbgpnjmiaa
