/-
  Seconds as whole numbers: which may be, how many are left, what is stale, what is told. No program.
-/
import Derived.Test.YtpedjnbgpnjmiaaOwn
namespace Go.Proofs.Ytpedjnbgpnjmiaa
open Go.RowKit

def timeB (t : Int) : Bool := decide (0 ≤ t) && decide (t ≤ 36028797018963968)
theorem timeB_true {t : Int} (h : 0 ≤ t) (h' : t ≤ 36028797018963968) : timeB t = true := by simp [timeB, h, h']
theorem timeB_neg {t : Int} (h : t < 0) : timeB t = false := by simp [timeB]; omega
theorem timeB_big {t : Int} (h : 36028797018963968 < t) : timeB t = false := by simp [timeB]; omega
theorem timeB_yes {t : Int} (h : timeB t = true) : 0 ≤ t ∧ t ≤ 36028797018963968 := by simpa [timeB] using h

def timesB (l : List Int) : Bool := l.all timeB

/-- How many seconds are left. -/
def leftI (g t n : Int) : Int := if timesB [g, t, n] = true then (if g + t - (if n < g then g else n) ≤ 0 then 0 else g + t - (if n < g then g else n)) else 0
def staleB (g t k n : Int) : Bool := timesB [g, t, k, n] && (leftI g t n == 0) && decide (n < g + t + k)
def tellI (g t n : Int) : Int := if timesB [g, t, n] = true then (if 0 < leftI g t n then leftI g t n else 30) else 0
def clampI (t : Int) (b : Bool) : Int := if t < 0 then 0 else if b = true ∧ 10800 < t then 10800 else if 604800 < t then 604800 else t

theorem times3 (g t n : Int) : timesB [g, t, n] = (timeB g && (timeB t && timeB n)) := by simp [timesB]
theorem times4 (g t k n : Int) : timesB [g, t, k, n] = (timeB g && (timeB t && (timeB k && timeB n))) := by simp [timesB]
theorem times3_yes {g t n : Int} (h : timesB [g, t, n] = true) : (0 ≤ g ∧ g ≤ 36028797018963968) ∧ (0 ≤ t ∧ t ≤ 36028797018963968) ∧ 0 ≤ n ∧ n ≤ 36028797018963968 := by
  rw [times3] at h
  simp only [Bool.and_eq_true] at h
  exact ⟨timeB_yes h.1, timeB_yes h.2.1, timeB_yes h.2.2⟩
theorem times3_true {g t n : Int} (h1 : timeB g = true) (h2 : timeB t = true) (h3 : timeB n = true) : timesB [g, t, n] = true := by rw [times3, h1, h2, h3]; rfl

theorem leftI_no {g t n : Int} (h : timesB [g, t, n] = false) : leftI g t n = 0 := by unfold leftI; rw [if_neg (by rw [h]; simp)]
theorem leftI_end {g t n : Int} (h : g + t - (if n < g then g else n) ≤ 0) : leftI g t n = 0 := by unfold leftI; rw [if_pos h]; split <;> rfl
theorem leftI_some {g t n : Int} (h : timesB [g, t, n] = true) (h' : ¬ g + t - (if n < g then g else n) ≤ 0) : leftI g t n = g + t - (if n < g then g else n) := by unfold leftI; rw [if_pos h, if_neg h']
theorem leftI_bounds (g t n : Int) : 0 ≤ leftI g t n ∧ leftI g t n ≤ 36028797018963968 := by
  by_cases h : timesB [g, t, n] = true
  · have h1 := times3_yes h
    by_cases h2 : g + t - (if n < g then g else n) ≤ 0
    · rw [leftI_end h2]; omega
    · rw [leftI_some h h2]; split at h2 <;> (constructor <;> (split <;> omega))
  · rw [leftI_no (by simpa using h)]; omega

end Go.Proofs.Ytpedjnbgpnjmiaa
