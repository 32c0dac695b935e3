/-
  TtlTells, TtlClamps, TtlEarly and TtlRuns: whatever the numbers are.
-/
import Derived.Test.YtpedjnbgpnjmiaaTtRef
namespace Go.Proofs.Ytpedjnbgpnjmiaa
open Go.RowKit

set_option maxHeartbeats 800000 in
theorem tells_any (g t n k : Int) (w : World) : Calls Try.prog 3 #[.int .i64 g, .int .i64 t, .int .i64 n, .int .i64 k] w (TrueB w) := by
  have HA := Lib.hid (fun W => answers_any W)
  have H1 := Lib.hid (fun W => left_any g t n W)
  have H2 := Lib.hid (fun W => refleft_any g t n W)
  have H3 := Lib.hid (fun W => fresh_any g t n W)
  have H4 := Lib.hid (fun W => stale_any g t k n W)
  have H5 := Lib.hid (fun W => refstale_any g t k n W)
  have H6 := Lib.hid (fun W => tell_any g t n W)
  have H7 := Lib.hid (fun W => reftell_any g t n W)
  generalize staleB g t k n = s at H4 H5
  generalize tellI g t n = y at H6 H7
  generalize leftI g t n = x at H1 H2 H3
  generalize hf : decide (0 < x) = f at H3
  go_enter Try.func3, Try.ntmps3
  go_wp2_with (first
    | (go_at_call 7; refine (HA.out _).mono ?_; rintro e w1 ⟨rfl, hb1⟩; have hz1 := hb1.size)
    | (go_at_call 8; refine (H1.out _).mono ?_; rintro e w2 ⟨rfl, hb2⟩; have hz2 := hb2.size)
    | (go_at_call 10; refine (H3.out _).mono ?_; rintro e w3 ⟨rfl, hb3⟩; have hz3 := hb3.size)
    | (go_at_call 11; refine (H4.out _).mono ?_; rintro e w4 ⟨rfl, hb4⟩; have hz4 := hb4.size)
    | (go_at_call 13; refine (H6.out _).mono ?_; rintro e w5 ⟨rfl, hb5⟩; have hz5 := hb5.size)
    | (go_at_call 9; refine (H2.out _).mono ?_; rintro e w' ⟨rfl, rfl⟩)
    | (go_at_call 12; refine (H5.out _).mono ?_; rintro e w' ⟨rfl, rfl⟩)
    | (go_at_call 14; refine (H7.out _).mono ?_; rintro e w' ⟨rfl, rfl⟩))
  go_ret
  exact ⟨rfl, hb1.trans ((hb2.mono hz1).trans ((hb3.mono (by omega)).trans ((hb4.mono (by omega)).trans (hb5.mono (by omega)))))⟩

theorem clampI_range (t : Int) (b : Bool) : 0 ≤ clampI t b ∧ clampI t b ≤ 604800 ∧ (b = true → clampI t b ≤ 10800) := by
  unfold clampI
  split
  · omega
  · cases b
    · split
      · simp_all
      · split <;> simp_all <;> omega
    · split
      · simp
      · split <;> simp_all <;> omega
theorem clampI_twice (t : Int) (b : Bool) : clampI (clampI t b) b = clampI t b := by
  obtain ⟨h1, h2, h3⟩ := clampI_range t b
  cases b
  · exact clampI_mid (by omega) (by omega)
  · have h4 := h3 rfl
    exact clampI_n (by omega) (by omega) true

set_option maxHeartbeats 800000 in
theorem clamps_any (t : Int) (b : Bool) (w : World) : Calls Try.prog 4 #[.int .i64 t, .bool b] w (TrueB w) := by
  have h1 := fun W => clamp_any t b W
  have h2 := fun W => refclamp_any t b W
  have h3 := fun W => clamp_any (clampI t b) b W
  rw [clampI_twice] at h3
  have h4 := (clampI_range t b).1
  have HA := Lib.hid (fun W => answers_any W)
  have H1 := Lib.hid h1
  have H2 := Lib.hid h2
  have H3 := Lib.hid h3
  clear h1 h2 h3
  generalize clampI t b = x at *
  go_enter Try.func4, Try.ntmps4
  go_wp2_with fail
  refine (H1.out _).mono ?_
  rintro e w0 ⟨rfl, rfl⟩
  go_wp2_with (first
    | (go_at_call 7; refine (HA.out _).mono ?_; rintro e w1 ⟨rfl, hb1⟩; have hz1 := hb1.size)
    | (go_at_call 15; refine (H3.out _).mono ?_; rintro e w' ⟨rfl, rfl⟩)
    | (go_at_call 16; refine (H2.out _).mono ?_; rintro e w' ⟨rfl, rfl⟩))
  go_ret
  exact ⟨rfl, hb1⟩

theorem leftI_early {g t n : Int} (hg : 0 ≤ g ∧ g ≤ 36028797018963968) (ht : 0 ≤ t ∧ t ≤ 36028797018963968) (hn : 0 ≤ n) (h : n ≤ g) : leftI g t n = t := by
  have hs := times3_true (timeB_true hg.1 hg.2) (timeB_true ht.1 ht.2) (timeB_true (t := n) hn (by omega))
  by_cases h0 : t = 0
  · rw [leftI_end]
    · omega
    · split <;> omega
  · rw [leftI_some hs]
    · split <;> omega
    · split <;> omega

set_option maxHeartbeats 800000 in
theorem early_any (g t b : Int) (w : World) (hg : 0 ≤ g) (hg' : g ≤ 4294967295) (ht : 0 ≤ t) (ht' : t ≤ 65535) (hb : 0 ≤ b) (hb' : b ≤ 4294967295) :
    Calls Try.prog 6 #[.int .u32 g, .int .u16 t, .int .u32 b] w (TrueB w) := by
  obtain ⟨r, hr⟩ : ∃ r, r = b.tmod (g + 1) := ⟨_, rfl⟩
  have hr0 : 0 ≤ r := by rw [hr]; exact Int.tmod_nonneg _ hb
  have hr1 : r < g + 1 := by rw [hr]; exact Int.tmod_lt_of_pos _ (by omega)
  have h1 := fun W => left_any g t (g - r) W
  have h3 := fun W => fresh_any g t (g - r) W
  rw [leftI_early ⟨hg, by omega⟩ ⟨ht, by omega⟩ (by omega) (by omega)] at h1 h3
  have HA := Lib.hid (fun W => answers_any W)
  have H1 := Lib.hid h1
  have H3 := Lib.hid h3
  have hmod : b.tmod (g + 1) = r := hr.symm
  clear h1 h3 hr
  go_enter Try.func6, Try.ntmps6
  go_wp2_with (first
    | (go_at_call 7; refine (HA.out _).mono ?_; rintro e w1 ⟨rfl, hb1⟩; have hz1 := hb1.size)
    | (go_at_call 8; refine (H1.out _).mono ?_; rintro e w2 ⟨rfl, hb2⟩; have hz2 := hb2.size)
    | (go_at_call 10; refine (H3.out _).mono ?_; rintro e w3 ⟨rfl, hb3⟩; have hz3 := hb3.size))
  go_ret
  exact ⟨rfl, hb1.trans ((hb2.mono hz1).trans (hb3.mono (by omega)))⟩

end Go.Proofs.Ytpedjnbgpnjmiaa
