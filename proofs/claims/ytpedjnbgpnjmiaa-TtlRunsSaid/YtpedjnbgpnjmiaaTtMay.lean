/-
  The contracts of ttl.may and of the document's Time.
-/
import Derived.Test.YtpedjnbgpnjmiaaProg
import Derived.Test.YtpedjnbgpnjmiaaTtPlain
import Derived.WalkSpells
import Derived.WalkLawsBesides
namespace Go.Proofs.Ytpedjnbgpnjmiaa
open Go.RowKit

def iv (n : Int) : Value := .int .i64 n

theorem allT_snoc {n : List Int} {k : Nat} (h : k < n.length) (ha : timesB (n.take k) = true) (hp : timeB n[k] = true) : timesB (n.take (k + 1)) = true := by
  unfold timesB at ha ⊢
  rw [List.take_succ_eq_append_getElem h, List.all_append, ha]
  simp [hp]
theorem allT_not {n : List Int} {k : Nat} (h : k < n.length) (hp : timeB n[k] = false) : timesB n = false := by
  unfold timesB
  rw [List.all_eq_false]
  exact ⟨n[k], List.getElem_mem h, by simp [hp]⟩
theorem Row.int_at {w : World} {H : Nat} {A : Option Addr} {l : List Int} (h : Row w H A (l.map iv)) {k : Nat} (hk : k < l.length) : ∃ b off, A = some ⟨b, off, none⟩ ∧ b < H ∧ w.cell? ⟨b, off + k, none⟩ = some (.int .i64 l[k]) := by
  obtain ⟨b, off, e, hb, hc⟩ := h.at_ (k := k) (by rw [List.length_map]; exact hk)
  exact ⟨b, off, e, hb, by rw [hc, List.getElem_map]; rfl⟩

def TimesRel (l : List Int) (i : Value) : Prop := ∃ k : Nat, k ≤ l.length ∧ i = .int .i64 k ∧ timesB (l.take k) = true

set_option maxHeartbeats 400000 in
theorem may_any (A : Option Addr) (m c H : Nat) (l : List Int) (w : World) (hl : l.length = m) (hA : Row w H A (l.map iv)) (hm : m ≤ maxLen) :
    Calls Try.prog 17 #[.slice A m c] w (Told w (.bool (timesB l))) := by
  subst hl
  unfold maxLen at hm
  have HA := Lib.hid hA
  clear hA
  go_enter Try.func17, Try.ntmps17
  go_wp2
  go_loop [7] (TimesRel l) (fun i => l.length - (intOf i).toNat)
  case atStart => exact ⟨0, Nat.zero_le _, rfl, by simp [timesB]⟩
  case round =>
    obtain ⟨k, hk, rfl, hall⟩ := hrel
    have HK := Lib.hid hall
    clear hall
    by_cases hlt : k < l.length
    · obtain ⟨b, off, rfl, _, hc⟩ := HA.out.int_at hlt
      generalize hx : l[k] = x at hc
      have HX := Lib.hid hx
      clear hx
      by_cases h1 : x < 0
      · have HF := Lib.hid (allT_not hlt (by rw [HX.out]; exact timeB_neg h1))
        go_wp2
        go_ret
        exact ⟨by rw [HF.out]; rfl, rfl⟩
      · by_cases h2 : 36028797018963968 < x
        · have hd2 : decide (36028797018963968 < x) = true := by simp; omega
          have HF := Lib.hid (allT_not hlt (by rw [HX.out]; exact timeB_big h2))
          go_wp2
          go_ret
          exact ⟨by rw [HF.out]; rfl, rfl⟩
        · have hd2 : decide (36028797018963968 < x) = false := by simp; omega
          have HF := Lib.hid (allT_snoc hlt HK.out (by rw [HX.out]; exact timeB_true (by omega) (by omega)))
          go_wp2
          exact ⟨⟨k + 1, by omega, by go_num, HF.out⟩, by simp [intOf]; omega⟩
    · obtain rfl : k = l.length := by omega
      go_wp2
      go_ret
      exact ⟨ret_bool (by have h := HK.out; rw [List.take_length] at h; exact h.symm), rfl⟩

set_option maxHeartbeats 400000 in
theorem time_any (t : Int) (w : World) : Calls Try.prog 18 #[.int .i64 t] w (Told w (.bool (timeB t))) := by
  by_cases h1 : t < 0
  · have hd : decide (0 ≤ t) = false := by simp; omega
    have HF := Lib.hid (timeB_neg h1)
    go_enter Try.func18, Try.ntmps18
    go_wp2
    go_ret
    exact ⟨by rw [HF.out]; rfl, rfl⟩
  · have hd : decide (0 ≤ t) = true := by simp; omega
    by_cases h2 : 36028797018963968 < t
    · have hd2 : decide (t ≤ 36028797018963968) = false := by simp; omega
      have HF := Lib.hid (timeB_big h2)
      go_enter Try.func18, Try.ntmps18
      go_wp2
      go_ret
      exact ⟨by rw [HF.out]; rfl, rfl⟩
    · have hd2 : decide (t ≤ 36028797018963968) = true := by simp; omega
      have HF := Lib.hid (timeB_true (t := t) (by omega) (by omega))
      go_enter Try.func18, Try.ntmps18
      go_wp2
      go_ret
      exact ⟨by rw [HF.out]; rfl, rfl⟩

end Go.Proofs.Ytpedjnbgpnjmiaa
