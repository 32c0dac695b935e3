/-
  The contracts of name.Sound and of the document's, and of a law's 'light'.
-/
import Derived.Test.YtjjmllbkfbdcnaaSize
namespace Go.Proofs.Ytjjmllbkfbdcnaa
open Go.RowKit

set_option maxHeartbeats 400000 in
theorem fits_label (l : List UInt8) (w : World) (hm : l.length ≤ maxLen) :
    Calls Try.prog 80 #[.string ⟨l.toArray⟩] w (Told w (.bool (fitL l))) := by
  unfold maxLen at hm
  by_cases h1 : 1 ≤ l.length
  · by_cases h2 : l.length ≤ 63
    · have HF := Lib.hid (show fitL l = true by simp [fitL, h1, h2])
      have d2 : decide ((l.length : Int) ≤ 63) = true := by simp; omega
      go_enter Try.func80, Try.ntmps80
      go_wp2
      go_ret
      exact ⟨by rw [HF.out]; rfl, rfl⟩
    · have HF := Lib.hid (show fitL l = false by simp [fitL]; omega)
      have d2 : decide ((l.length : Int) ≤ 63) = false := by simp; omega
      go_enter Try.func80, Try.ntmps80
      go_wp2
      go_ret
      exact ⟨by rw [HF.out]; rfl, rfl⟩
  · have HF := Lib.hid (show fitL l = false by simp [fitL]; omega)
    go_enter Try.func80, Try.ntmps80
    go_wp2
    go_ret
    exact ⟨by rw [HF.out]; rfl, rfl⟩

theorem all_snoc {n : List (List UInt8)} {k : Nat} (p : List UInt8 → Bool) (h : k < n.length) (ha : (n.take k).all p = true) (hp : p n[k] = true) : (n.take (k + 1)).all p = true := by
  rw [List.take_succ_eq_append_getElem h, List.all_append, ha]
  simp [hp]
theorem all_not {n : List (List UInt8)} {k : Nat} (p : List UInt8 → Bool) (h : k < n.length) (hp : p n[k] = false) : n.all p = false := by
  rw [List.all_eq_false]
  exact ⟨n[k], List.getElem_mem h, by simp [hp]⟩

def EveryRel (n : List (List UInt8)) (i : Value) : Prop := ∃ k : Nat, k ≤ n.length ∧ i = .int .i64 k ∧ (n.take k).all fitL = true

set_option maxHeartbeats 400000 in
theorem every_any (A : Option Addr) (m c H : Nat) (n : List (List UInt8)) (w : World) (hl : n.length = m) (hA : Row w H A (n.map sv)) (hs : szN n ≤ maxLen) :
    Calls Try.prog 79 #[.slice A m c, .func (.func 80) #[] #[]] w (Told w (.bool (n.all fitL))) := by
  subst hl
  unfold maxLen at hs
  have hlen := length_lt_szN n
  have HA := Lib.hid hA
  clear hA
  go_enter Try.func79, Try.ntmps79
  go_wp2
  go_loop [9] (EveryRel n) (fun i => n.length - (intOf i).toNat)
  case atStart => exact ⟨0, Nat.zero_le _, rfl, by simp⟩
  case round =>
    obtain ⟨k, hk, rfl, hall⟩ := hrel
    have HK := Lib.hid hall
    clear hall
    by_cases hlt : k < n.length
    · obtain ⟨b, off, rfl, _, hc⟩ := HA.out.name_at hlt
      have hle := len_le_szN hlt
      cases hf : fitL n[k]
      · have hct := fun W => fits_label n[k] W (by unfold maxLen; omega)
        rw [hf] at hct
        have HC := Lib.hid hct
        have HF := Lib.hid (all_not fitL hlt hf)
        clear hct hf
        go_wp2_with (go_at_call 80; refine (HC.out _).mono ?_; rintro e w' ⟨rfl, rfl⟩)
        go_ret
        exact ⟨by rw [HF.out]; rfl, rfl⟩
      · have hct := fun W => fits_label n[k] W (by unfold maxLen; omega)
        rw [hf] at hct
        have HC := Lib.hid hct
        have HF := Lib.hid (all_snoc fitL hlt HK.out hf)
        clear hct hf
        go_wp2_with (go_at_call 80; refine (HC.out _).mono ?_; rintro e w' ⟨rfl, rfl⟩)
        exact ⟨⟨k + 1, by omega, by go_num, HF.out⟩, by simp [intOf]; omega⟩
    · obtain rfl : k = n.length := by omega
      go_wp2
      go_ret
      exact ⟨ret_bool (by have h := HK.out; rw [List.take_length] at h; exact h.symm), rfl⟩

set_option maxHeartbeats 400000 in
theorem sound_any (A : Option Addr) (m c H : Nat) (n : List (List UInt8)) (w : World) (hl : n.length = m) (hA : Row w H A (n.map sv)) (hs : szN n ≤ maxLen) :
    Calls Try.prog 43 #[.slice A m c] w (Told w (.bool (soundN n))) := by
  have hev := fun W h => every_any A m c H n W hl h hs
  have hsz := fun W h => size_any A m c H n W hl h hs
  have HA := Lib.hid hA
  have HZ := Lib.hid hsz
  clear hA hl hsz
  cases hf : n.all fitL
  · rw [hf] at hev
    have HE := Lib.hid hev
    have HF := Lib.hid (show soundN n = false by simp [soundN, hf])
    clear hev hf
    go_enter Try.func43, Try.ntmps43
    go_wp2_with (first
      | (go_at_call 79; refine (HE.out _ HA.out).mono ?_; rintro e w' ⟨rfl, rfl⟩)
      | (go_at_call 81; refine (HZ.out _ HA.out).mono ?_; rintro e w' ⟨rfl, rfl⟩))
    go_ret
    exact ⟨by rw [HF.out]; rfl, rfl⟩
  · rw [hf] at hev
    have HE := Lib.hid hev
    have HF := Lib.hid (show soundN n = decide (szN n ≤ 255) by simp [soundN, hf])
    clear hev hf
    go_enter Try.func43, Try.ntmps43
    go_wp2_with (first
      | (go_at_call 79; refine (HE.out _ HA.out).mono ?_; rintro e w' ⟨rfl, rfl⟩)
      | (go_at_call 81; refine (HZ.out _ HA.out).mono ?_; rintro e w' ⟨rfl, rfl⟩))
    go_ret
    refine ⟨ret_bool ?_, rfl⟩
    rw [HF.out]
    simp
    omega

set_option maxHeartbeats 400000 in
theorem ref_sound_any (A : Option Addr) (m c H : Nat) (n : List (List UInt8)) (w : World) (hl : n.length = m) (hA : Row w H A (n.map sv)) (hs : szN n ≤ maxLen) :
    Calls Try.prog 12 #[.slice A m c] w (Told w (.bool (soundN n))) := by
  have hsz := fun W h => ref_size_any A m c H n W hl h hs
  subst hl
  unfold maxLen at hs
  have hlen := length_lt_szN n
  have HA := Lib.hid hA
  have HZ := Lib.hid hsz
  clear hA hsz
  by_cases h127 : n.length ≤ 127
  · have d1 : decide (127 < (n.length : Int)) = false := by simp; omega
    go_enter Try.func12, Try.ntmps12
    go_wp2
    go_loop [3] (EveryRel n) (fun i => n.length - (intOf i).toNat)
    case atStart => exact ⟨0, Nat.zero_le _, rfl, by simp⟩
    case round =>
      obtain ⟨k, hk, rfl, hall⟩ := hrel
      have HK := Lib.hid hall
      clear hall
      by_cases hlt : k < n.length
      · obtain ⟨b, off, rfl, _, hc⟩ := HA.out.name_at hlt
        have hle := len_le_szN hlt
        by_cases e1 : 1 ≤ (n[k]).length
        · have d2 : decide (((n[k]).length : Int) < 1) = false := by simp; omega
          by_cases e2 : (n[k]).length ≤ 63
          · have d3 : decide (63 < ((n[k]).length : Int)) = false := by simp; omega
            have HF := Lib.hid (all_snoc fitL hlt HK.out (by simp [fitL]; omega))
            go_wp2
            exact ⟨⟨k + 1, by omega, by go_num, HF.out⟩, by simp [intOf]; omega⟩
          · have d3 : decide (63 < ((n[k]).length : Int)) = true := by simp; omega
            have HF := Lib.hid (all_not fitL hlt (by simp [fitL]; omega))
            go_wp2
            go_ret
            exact ⟨ret_bool (by simp [soundN, HF.out]), rfl⟩
        · have d2 : decide (((n[k]).length : Int) < 1) = true := by simp; omega
          have HF := Lib.hid (all_not fitL hlt (by simp [fitL]; omega))
          go_wp2
          go_ret
          exact ⟨ret_bool (by simp [soundN, HF.out]), rfl⟩
      · obtain rfl : k = n.length := by omega
        go_wp2_with (go_at_call 42; refine (HZ.out _ HA.out).mono ?_; rintro e w' ⟨rfl, rfl⟩)
        go_ret
        refine ⟨ret_bool ?_, rfl⟩
        have h := HK.out
        rw [List.take_length] at h
        simp [soundN, h]
        omega
  · have HF := Lib.hid (soundN_long (n := n) (by omega))
    have d1 : decide (127 < (n.length : Int)) = true := by simp; omega
    go_enter Try.func12, Try.ntmps12
    go_wp2
    go_ret
    exact ⟨ret_bool HF.out.symm, rfl⟩

end Go.Proofs.Ytjjmllbkfbdcnaa
