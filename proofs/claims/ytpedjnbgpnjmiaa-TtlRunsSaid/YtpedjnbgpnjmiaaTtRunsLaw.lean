/-
  TtlRuns: whatever the numbers are.
-/
import Derived.Test.YtpedjnbgpnjmiaaTtLaws
namespace Go.Proofs.Ytpedjnbgpnjmiaa
open Go.RowKit

theorem runs_times {g t s : Int} (hg : 0 ≤ g ∧ g ≤ 4294967295) (ht : 0 ≤ t ∧ t ≤ 65535) (hs : 0 ≤ s ∧ s ≤ 200000) : timesB [g, t, g + s] = true :=
  times3_true (timeB_true (by omega) (by omega)) (timeB_true (by omega) (by omega)) (timeB_true (by omega) (by omega))
theorem leftI_runs {g t s : Int} (hg : 0 ≤ g ∧ g ≤ 4294967295) (ht : 0 ≤ t ∧ t ≤ 65535) (hs : 0 ≤ s ∧ s ≤ 200000) (h : s < t) : leftI g t (g + s) = t - s := by
  rw [leftI_some (runs_times hg ht hs)]
  · split <;> omega
  · split <;> omega
theorem leftI_over {g t s : Int} (_ : 0 ≤ s) (h : t ≤ s) : leftI g t (g + s) = 0 := by
  apply leftI_end
  split <;> omega
theorem runs_four {g t k s : Int} (hg : 0 ≤ g ∧ g ≤ 4294967295) (ht : 0 ≤ t ∧ t ≤ 65535) (hk : 0 ≤ k ∧ k ≤ 65535) (hs : 0 ≤ s ∧ s ≤ 200000) : timesB [g, t, k, g + s] = true := by
  rw [times4, timeB_true (t := g) (by omega) (by omega), timeB_true (t := t) (by omega) (by omega), timeB_true (t := k) (by omega) (by omega), timeB_true (t := g + s) (by omega) (by omega)]
  rfl
theorem stale_runs {g t k s : Int} (hg : 0 ≤ g ∧ g ≤ 4294967295) (ht : 0 ≤ t ∧ t ≤ 65535) (hk : 0 ≤ k ∧ k ≤ 65535) (hs : 0 ≤ s ∧ s ≤ 200000) (h : t ≤ s) : staleB g t k (g + s) = decide (g + s < g + t + k) :=
  staleB_of (runs_four hg ht hk hs) (leftI_over hs.1 h)

/-- What is told at the end: nothing is left, nothing is stale. -/
theorem runs_end {g t k : Int} (hg : 0 ≤ g ∧ g ≤ 4294967295) (ht : 0 ≤ t ∧ t ≤ 65535) (hk : 0 ≤ k ∧ k ≤ 65535) : leftI g t (g + t + k) = 0 ∧ staleB g t k (g + t + k) = false ∧ tellI g t (g + t + k) = 30 := by
  have e : g + t + k = g + (t + k) := by omega
  have h0 : leftI g t (g + t + k) = 0 := by rw [e]; exact leftI_over (by omega) (by omega)
  refine ⟨h0, ?_, ?_⟩
  · rw [e, stale_runs hg ht hk (by omega) (by omega)]
    exact decide_eq_false (by omega)
  · refine tellI_end ?_ (by omega)
    rw [e]
    exact runs_times hg ht (by omega)

theorem eight_below {w w1 w2 w3 w4 w5 w6 w7 w8 : World} (h1 : Below w.heap.size w w1) (h2 : Below w1.heap.size w1 w2) (h3 : Below w2.heap.size w2 w3) (h4 : Below w3.heap.size w3 w4) (h5 : Below w4.heap.size w4 w5)
    (h6 : Below w5.heap.size w5 w6) (h7 : Below w6.heap.size w6 w7) (h8 : Below w7.heap.size w7 w8) : Below w.heap.size w w8 := by
  have z1 := h1.size
  have z2 := h2.size
  have z3 := h3.size
  have z4 := h4.size
  have z5 := h5.size
  have z6 := h6.size
  have z7 := h7.size
  exact h1.trans ((h2.mono z1).trans ((h3.mono (by omega)).trans ((h4.mono (by omega)).trans ((h5.mono (by omega)).trans ((h6.mono (by omega)).trans ((h7.mono (by omega)).trans (h8.mono (by omega))))))))

set_option maxHeartbeats 1600000 in
theorem runs_core (g t k s a b : Int) (st : Bool) (w : World) (hg : 0 ≤ g ∧ g ≤ 4294967295) (ht : 0 ≤ t ∧ t ≤ 65535) (hk : 0 ≤ k ∧ k ≤ 65535) (hs : 0 ≤ s ∧ s ≤ 65535)
    (ha : leftI g t (g + s) = a) (hb : leftI g t (g + s + 1) = b) (hst : staleB g t k (g + s) = st)
    (hcase : (s + 1 < t ∧ a = t - s ∧ b = t - s - 1 ∧ st = false) ∨ (s + 1 = t ∧ a = 1 ∧ b = 0 ∧ st = false) ∨ (t ≤ s ∧ a = 0 ∧ b = 0 ∧ st = decide (g + s < g + t + k))) :
    Calls Try.prog 5 #[.int .u32 g, .int .u16 t, .int .u16 k, .int .u16 s] w (TrueB w) := by
  obtain ⟨e1, e2, e3⟩ := runs_end (g := g) (t := t) (k := k) hg ht hk
  have h1 := fun W => left_any g t (g + s) W
  have h2 := fun W => left_any g t (g + s + 1) W
  have h3 := fun W => fresh_any g t (g + s) W
  have h4 := fun W => stale_any g t k (g + s) W
  have h5 := fun W => fresh_any g t (g + t + k) W
  have h6 := fun W => stale_any g t k (g + t + k) W
  have h7 := fun W => tell_any g t (g + t + k) W
  rw [e1] at h5
  rw [e2] at h6
  rw [e3] at h7
  rw [ha] at h1 h3
  rw [hb] at h2
  rw [hst] at h4
  have HA := Lib.hid (fun W => answers_any W)
  have H2 := Lib.hid h2
  have H5 := Lib.hid h5
  have H6 := Lib.hid h6
  have H7 := Lib.hid h7
  clear h2 h5 h6 h7 e1 e2 e3 ha hb hst
  obtain ⟨_, _⟩ := hg
  obtain ⟨_, _⟩ := ht
  obtain ⟨_, _⟩ := hk
  obtain ⟨_, _⟩ := hs
  rcases hcase with ⟨hc, rfl, rfl, rfl⟩ | ⟨hc, rfl, rfl, rfl⟩ | ⟨hc, rfl, rfl, hst⟩
  all_goals
    have H1 := Lib.hid h1
    have H3 := Lib.hid h3
    have H4 := Lib.hid h4
    clear h1 h3 h4
  · have d1 : decide (0 < t - s) = true := decide_eq_true (by omega)
    have d2 : decide (s < t) = true := decide_eq_true (by omega)
    have d3 : decide (t ≤ s) = false := decide_eq_false (by omega)
    have d4 : decide (t - s < t - s - 1) = false := decide_eq_false (by omega)
    have d5 : decide (1 < t - s - (t - s - 1)) = false := decide_eq_false (by omega)
    rw [d1] at H3
    rw [show decide ((0 : Int) < 0) = false from rfl] at H5
    go_enter Try.func5, Try.ntmps5
    go_wp2_with fail
    refine (H1.out _).mono ?_
    rintro e w1 ⟨rfl, hb1⟩
    go_wp2_with fail
    refine (H2.out _).mono ?_
    rintro e w2 ⟨rfl, hb2⟩
    go_wp2_with fail
    refine (H3.out _).mono ?_
    rintro e w3 ⟨rfl, hb3⟩
    go_wp2_with fail
    refine (H4.out _).mono ?_
    rintro e w4 ⟨rfl, hb4⟩
    go_wp2_with fail
    refine (HA.out _).mono ?_
    rintro e w5 ⟨rfl, hb5⟩
    go_wp2_with (first
      | (go_at_call 10; refine (H5.out _).mono ?_; rintro e w6 ⟨rfl, hb6⟩)
      | (go_at_call 11; refine (H6.out _).mono ?_; rintro e w7 ⟨rfl, hb7⟩)
      | (go_at_call 13; refine (H7.out _).mono ?_; rintro e w8 ⟨rfl, hb8⟩))
    go_ret
    exact ⟨rfl, eight_below hb1 hb2 hb3 hb4 hb5 hb6 hb7 hb8⟩
  · have d2 : decide (s < t) = true := decide_eq_true (by omega)
    have d3 : decide (t ≤ s) = false := decide_eq_false (by omega)
    rw [show decide ((0 : Int) < 1) = true from rfl] at H3
    rw [show decide ((0 : Int) < 0) = false from rfl] at H5
    go_enter Try.func5, Try.ntmps5
    go_wp2_with fail
    refine (H1.out _).mono ?_
    rintro e w1 ⟨rfl, hb1⟩
    go_wp2_with fail
    refine (H2.out _).mono ?_
    rintro e w2 ⟨rfl, hb2⟩
    go_wp2_with fail
    refine (H3.out _).mono ?_
    rintro e w3 ⟨rfl, hb3⟩
    go_wp2_with fail
    refine (H4.out _).mono ?_
    rintro e w4 ⟨rfl, hb4⟩
    go_wp2_with fail
    refine (HA.out _).mono ?_
    rintro e w5 ⟨rfl, hb5⟩
    go_wp2_with (first
      | (go_at_call 10; refine (H5.out _).mono ?_; rintro e w6 ⟨rfl, hb6⟩)
      | (go_at_call 11; refine (H6.out _).mono ?_; rintro e w7 ⟨rfl, hb7⟩)
      | (go_at_call 13; refine (H7.out _).mono ?_; rintro e w8 ⟨rfl, hb8⟩))
    go_ret
    exact ⟨rfl, eight_below hb1 hb2 hb3 hb4 hb5 hb6 hb7 hb8⟩
  · have d2 : decide (s < t) = false := decide_eq_false (by omega)
    have d3 : decide (t ≤ s) = true := decide_eq_true (by omega)
    rw [show decide ((0 : Int) < 0) = false from rfl] at H3 H5
    have hd := hst.symm
    clear hst
    cases st
    · go_enter Try.func5, Try.ntmps5
      go_wp2_with fail
      refine (H1.out _).mono ?_
      rintro e w1 ⟨rfl, hb1⟩
      go_wp2_with fail
      refine (H2.out _).mono ?_
      rintro e w2 ⟨rfl, hb2⟩
      go_wp2_with fail
      refine (H3.out _).mono ?_
      rintro e w3 ⟨rfl, hb3⟩
      go_wp2_with fail
      refine (H4.out _).mono ?_
      rintro e w4 ⟨rfl, hb4⟩
      go_wp2_with fail
      refine (HA.out _).mono ?_
      rintro e w5 ⟨rfl, hb5⟩
      go_wp2_with (first
        | (go_at_call 10; refine (H5.out _).mono ?_; rintro e w6 ⟨rfl, hb6⟩)
        | (go_at_call 11; refine (H6.out _).mono ?_; rintro e w7 ⟨rfl, hb7⟩)
        | (go_at_call 13; refine (H7.out _).mono ?_; rintro e w8 ⟨rfl, hb8⟩))
      go_ret
      exact ⟨rfl, eight_below hb1 hb2 hb3 hb4 hb5 hb6 hb7 hb8⟩
    · go_enter Try.func5, Try.ntmps5
      go_wp2_with fail
      refine (H1.out _).mono ?_
      rintro e w1 ⟨rfl, hb1⟩
      go_wp2_with fail
      refine (H2.out _).mono ?_
      rintro e w2 ⟨rfl, hb2⟩
      go_wp2_with fail
      refine (H3.out _).mono ?_
      rintro e w3 ⟨rfl, hb3⟩
      go_wp2_with fail
      refine (H4.out _).mono ?_
      rintro e w4 ⟨rfl, hb4⟩
      go_wp2_with fail
      refine (HA.out _).mono ?_
      rintro e w5 ⟨rfl, hb5⟩
      go_wp2_with (first
        | (go_at_call 10; refine (H5.out _).mono ?_; rintro e w6 ⟨rfl, hb6⟩)
        | (go_at_call 11; refine (H6.out _).mono ?_; rintro e w7 ⟨rfl, hb7⟩)
        | (go_at_call 13; refine (H7.out _).mono ?_; rintro e w8 ⟨rfl, hb8⟩))
      go_ret
      exact ⟨rfl, eight_below hb1 hb2 hb3 hb4 hb5 hb6 hb7 hb8⟩

theorem runs_any (g t k s : Int) (w : World) (hg : 0 ≤ g ∧ g ≤ 4294967295) (ht : 0 ≤ t ∧ t ≤ 65535) (hk : 0 ≤ k ∧ k ≤ 65535) (hs : 0 ≤ s ∧ s ≤ 65535) :
    Calls Try.prog 5 #[.int .u32 g, .int .u16 t, .int .u16 k, .int .u16 s] w (TrueB w) := by
  have e1 : g + s + 1 = g + (s + 1) := by omega
  refine runs_core g t k s _ _ _ w hg ht hk hs rfl rfl rfl ?_
  rw [e1]
  by_cases h : s < t
  · have h1 := leftI_runs hg ht (by omega) h
    have h2 : staleB g t k (g + s) = false := staleB_fresh (by omega)
    by_cases h' : s + 1 < t
    · exact .inl ⟨h', h1, by rw [leftI_runs hg ht (by omega) h']; omega, h2⟩
    · exact .inr (.inl ⟨by omega, by rw [h1]; omega, leftI_over (by omega) (by omega), h2⟩)
  · exact .inr (.inr ⟨by omega, leftI_over (by omega) (by omega), leftI_over (by omega) (by omega), stale_runs hg ht hk (by omega) (by omega)⟩)

end Go.Proofs.Ytpedjnbgpnjmiaa
