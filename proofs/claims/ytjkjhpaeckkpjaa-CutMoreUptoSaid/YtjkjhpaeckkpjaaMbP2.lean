/-
  The contracts of num.sized, num.Fits, and the document's Fits.
-/
import Derived.Test.YtjkjhpaeckkpjaaProg
import Derived.Test.YtjkjhpaeckkpjaaMbP1
import Derived.WalkSpells
import Derived.WalkLawsBesides
namespace Go.Proofs.Ytjkjhpaeckkpjaa
open Go.RowKit

set_option maxHeartbeats 400000 in
theorem sized_yes (s : Int) (w : World) (h1 : 1 ≤ s) (h2 : s ≤ 7) :
    Calls Try.prog 85 #[.int .i64 s] w fun e w' => e = .returned (.bool true) ∧ w = w' := by
  go_enter Try.func85, Try.ntmps85
  go_wp2
  go_ret
  exact ⟨rfl, rfl⟩

set_option maxHeartbeats 400000 in
theorem sized_no (s : Int) (w : World) (h : s < 1 ∨ 7 < s) :
    Calls Try.prog 85 #[.int .i64 s] w fun e w' => e = .returned (.bool false) ∧ w = w' := by
  rcases h with h | h
  · go_enter Try.func85, Try.ntmps85
    go_wp2
    go_ret
    exact ⟨rfl, rfl⟩
  · have h1 : ¬ s < 1 := by omega
    have hd : decide (s ≤ 7) = false := by simp; omega
    go_enter Try.func85, Try.ntmps85
    go_wp2
    go_ret
    exact ⟨rfl, rfl⟩

set_option maxHeartbeats 400000 in
theorem fits_any (n s : Int) (w : World) :
    Calls Try.prog 60 #[.int .i64 n, .int .i64 s] w fun e w' => e = .returned (.bool (fitB n s)) ∧ w = w' := by
  by_cases hs : 1 ≤ s ∧ s ≤ 7
  · obtain ⟨h1, h2⟩ := hs
    by_cases hn : 0 ≤ n
    · go_enter Try.func60, Try.ntmps60
      go_wp2_with (go_at_call 85; refine (sized_yes _ _ h1 h2).mono ?_; rintro e w' ⟨rfl, rfl⟩)
      go_ret
      exact ⟨by rw [← fitB_shr h1 h2 hn]; rfl, rfl⟩
    · have hd : decide (0 ≤ n) = false := by simp; omega
      go_enter Try.func60, Try.ntmps60
      go_wp2_with (go_at_call 85; refine (sized_yes _ _ h1 h2).mono ?_; rintro e w' ⟨rfl, rfl⟩)
      go_ret
      exact ⟨by rw [fitB_neg (by omega)]; rfl, rfl⟩
  · have hs' : s < 1 ∨ 7 < s := by omega
    go_enter Try.func60, Try.ntmps60
    go_wp2_with (go_at_call 85; refine (sized_no _ _ hs').mono ?_; rintro e w' ⟨rfl, rfl⟩)
    go_ret
    exact ⟨by rw [fitB_no_size hs]; rfl, rfl⟩

set_option maxHeartbeats 400000 in
theorem ref_fits_any (n s : Int) (w : World) (hn : n ≤ 9223372036854775807) :
    Calls Try.prog 39 #[.int .i64 n, .int .i64 s] w fun e w' => e = .returned (.bool (fitB n s)) ∧ w = w' := by
  by_cases hs : 1 ≤ s ∧ s ≤ 7
  · obtain ⟨h1, h2⟩ := hs
    by_cases h0 : 0 ≤ n
    · obtain ⟨m, rfl⟩ : ∃ m : Nat, s = m := ⟨s.toNat, by omega⟩
      have d1 : decide ((m : Int) < 1) = false := by simp; omega
      have d2 : decide (7 < (m : Int)) = false := by simp; omega
      have d3 : decide (n < 0) = false := by simp; omega
      go_enter Try.func39, Try.ntmps39
      go_wp2
      go_loop [0, 5] (fun v i => ∃ k : Nat, k ≤ m ∧ i = .int .i64 k ∧ v = .int .i64 (n / 2 ^ (8 * k))) (fun _ i => m - (intOf i).toNat)
      case atStart => exact ⟨0, by omega, rfl, by simp⟩
      case round =>
        obtain ⟨k, hk, rfl, rfl⟩ := hrel
        have g1 := div_nonneg' h0 k
        have g2 := div_le' h0 k
        by_cases hlt : k < m
        · go_wp2
          go_round
          case rel => exact ⟨k + 1, by omega, by go_num, by rw [← div_step]⟩
          case measure => simp [intOf]; omega
        · obtain rfl : k = m := by omega
          go_wp2
          go_ret
          exact ⟨by rw [← fitB_shr h1 h2 h0]; rfl, rfl⟩
    · have d1 : decide (s < 1) = false := by simp; omega
      have d2 : decide (7 < s) = false := by simp; omega
      have d3 : decide (n < 0) = true := by simp; omega
      go_enter Try.func39, Try.ntmps39
      go_wp2
      go_ret
      exact ⟨by rw [fitB_neg (by omega)]; rfl, rfl⟩
  · rcases (show s < 1 ∨ 7 < s by omega) with h | h
    · have d1 : decide (s < 1) = true := by simp; omega
      go_enter Try.func39, Try.ntmps39
      go_wp2
      go_ret
      exact ⟨by rw [fitB_no_size hs]; rfl, rfl⟩
    · have d1 : decide (s < 1) = false := by simp; omega
      have d2 : decide (7 < s) = true := by simp; omega
      go_enter Try.func39, Try.ntmps39
      go_wp2
      go_ret
      exact ⟨by rw [fitB_no_size hs]; rfl, rfl⟩

end Go.Proofs.Ytjkjhpaeckkpjaa

namespace Go.Proofs.Ytjkjhpaeckkpjaa
open Go.RowKit

/-- What a type has. -/
structure Sh where
  ahead : Nat
  host : Bool
  mail : Bool
  short : Bool
  behind : Nat
  texts : Bool
  least : Nat
  most : Nat
abbrev Sh.val (s : Sh) : Value := .agg #[.int .i64 s.ahead, .bool s.host, .bool s.mail, .bool s.short, .int .i64 s.behind, .bool s.texts, .int .i64 s.least, .int .i64 s.most]
def shN (k : Int) : Sh :=
  if k = 1 then ⟨0, false, false, false, 0, false, 4, 4⟩
  else if k = 28 then ⟨0, false, false, false, 0, false, 16, 16⟩
  else if k = 2 ∨ k = 5 ∨ k = 12 then ⟨0, true, false, true, 0, false, 0, 0⟩
  else if k = 15 then ⟨1, true, false, true, 0, false, 0, 0⟩
  else if k = 6 then ⟨0, true, true, true, 5, false, 0, 0⟩
  else if k = 16 then ⟨0, false, false, false, 0, true, 0, 0⟩
  else if k = 33 then ⟨3, true, false, false, 0, false, 0, 0⟩
  else ⟨0, false, false, false, 0, false, 0, 65535⟩
/-- May a type be so? -/
def kindB (k : Int) : Bool := decide (1 ≤ k ∧ k ≤ 65535)

theorem shN_cases (k : Int) : k = 1 ∨ k = 28 ∨ k = 2 ∨ k = 5 ∨ k = 12 ∨ k = 15 ∨ k = 6 ∨ k = 16 ∨ k = 33 ∨ ((k == 1) = false ∧ (k == 28) = false ∧ (k == 2) = false ∧ (k == 5) = false ∧ (k == 12) = false ∧ (k == 15) = false ∧ (k == 6) = false ∧ (k == 16) = false ∧ (k == 33) = false) := by
  simp only [beq_eq_false_iff_ne]
  omega
theorem shN_other {k : Int} (h : (k == 1) = false ∧ (k == 28) = false ∧ (k == 2) = false ∧ (k == 5) = false ∧ (k == 12) = false ∧ (k == 15) = false ∧ (k == 6) = false ∧ (k == 16) = false ∧ (k == 33) = false) : shN k = ⟨0, false, false, false, 0, false, 0, 65535⟩ := by
  simp only [beq_eq_false_iff_ne] at h
  obtain ⟨h1, h2, h3, h4, h5, h6, h7, h8, h9⟩ := h
  unfold shN
  rw [if_neg h1, if_neg h2, if_neg (by omega), if_neg h6, if_neg h7, if_neg h8, if_neg h9]

set_option maxHeartbeats 400000 in
theorem shapeOf_any (k : Int) (w : World) : Calls Try.prog 79 #[.int .i64 k] w (Gave w (shN k).val) := by
  rcases shN_cases k with rfl | rfl | rfl | rfl | rfl | rfl | rfl | rfl | rfl | h
  case inr.inr.inr.inr.inr.inr.inr.inr.inr =>
    rw [shN_other h]
    obtain ⟨h1, h2, h3, h4, h5, h6, h7, h8, h9⟩ := h
    go_enter Try.func79, Try.ntmps79
    go_wp2
    exact ⟨rfl, (Sh.mk 0 false false false 0 false 0 65535).val, by simp [results, Try.results79, go_sem], rfl, (Below.refl _ _).alloc (Nat.le_refl _) _⟩
  all_goals
    go_enter Try.func79, Try.ntmps79
    go_wp2
    exact ⟨rfl, (shN _).val, by simp [results, Try.results79, go_sem, shN], rfl, (Below.refl _ _).alloc (Nat.le_refl _) _⟩

theorem kindB_fit {k : Int} (h : k ≠ 0) : fitB k 2 = kindB k := by
  unfold fitB kindB
  rw [show (2 : Int) ^ (8 * (2 : Int).toNat) = 65536 from rfl]
  congr 1
  apply propext
  omega
set_option maxHeartbeats 400000 in
theorem isKind_any (k : Int) (w : World) : Calls Try.prog 89 #[.int .i64 k] w (Told w (.bool (kindB k))) := by
  have HF := Lib.hid (fun W => fits_any k 2 W)
  by_cases h : k = 0
  · subst h
    go_enter Try.func89, Try.ntmps89
    go_wp2
    go_ret
    exact ⟨rfl, rfl⟩
  · have t1 : (k != 0) = true := by rw [bne_iff_ne]; exact h
    rw [kindB_fit h] at HF
    go_enter Try.func89, Try.ntmps89
    go_wp2_with fail
    refine (HF.out _).mono ?_
    rintro e w' ⟨rfl, rfl⟩
    go_wp2
    go_ret
    exact ⟨by simp, rfl⟩

end Go.Proofs.Ytjkjhpaeckkpjaa

namespace Go.Proofs.Ytjkjhpaeckkpjaa
open Go.RowKit

def SizeRel (n : List (List UInt8)) (s i : Value) : Prop := ∃ k : Nat, k ≤ n.length ∧ i = .int .i64 k ∧ s = .int .i64 (szN (n.take k))

set_option maxHeartbeats 400000 in
theorem size_any (A : Option Addr) (m c H : Nat) (n : List (List UInt8)) (w : World) (hl : n.length = m) (hA : Row w H A (n.map sv)) (hs : szN n ≤ maxLen) :
    Calls Try.prog 88 #[.slice A m c] w (Told w (.int .i64 (szN n))) := by
  subst hl
  unfold maxLen at hs
  have hlen := length_lt_szN n
  have HA := Lib.hid hA
  clear hA
  go_enter Try.func88, Try.ntmps88
  go_wp2
  go_loop [3, 8] (SizeRel n) (fun _ i => n.length - (intOf i).toNat)
  case atStart => exact ⟨0, Nat.zero_le _, rfl, by simp [szN]⟩
  case round =>
    obtain ⟨k, hk, rfl, rfl⟩ := hrel
    by_cases hlt : k < n.length
    · obtain ⟨b, off, rfl, _, hc⟩ := HA.out.name_at hlt
      have HS := Lib.hid (szN_take_succ hlt)
      have hle := szN_take_le n (k + 1)
      rw [HS.out] at hle
      go_wp2
      refine ⟨⟨k + 1, by omega, by go_num, ?_⟩, by simp [intOf]; omega⟩
      rw [HS.out]
      go_num
    · obtain rfl : k = n.length := by omega
      rw [List.take_length]
      go_wp2
      go_ret
      exact ⟨rfl, rfl⟩

set_option maxHeartbeats 400000 in
theorem ref_size_any (A : Option Addr) (m c H : Nat) (n : List (List UInt8)) (w : World) (hl : n.length = m) (hA : Row w H A (n.map sv)) (hs : szN n ≤ maxLen) :
    Calls Try.prog 20 #[.slice A m c] w (Told w (.int .i64 (szN n))) := by
  subst hl
  unfold maxLen at hs
  have hlen := length_lt_szN n
  have HA := Lib.hid hA
  clear hA
  go_enter Try.func20, Try.ntmps20
  go_wp2
  go_loop [3, 4] (SizeRel n) (fun _ i => n.length - (intOf i).toNat)
  case atStart => exact ⟨0, Nat.zero_le _, rfl, by simp [szN]⟩
  case round =>
    obtain ⟨k, hk, rfl, rfl⟩ := hrel
    by_cases hlt : k < n.length
    · obtain ⟨b, off, rfl, _, hc⟩ := HA.out.name_at hlt
      have HS := Lib.hid (szN_take_succ hlt)
      have hle := szN_take_le n (k + 1)
      rw [HS.out] at hle
      go_wp2
      refine ⟨⟨k + 1, by omega, by go_num, ?_⟩, by simp [intOf]; omega⟩
      rw [HS.out]
      go_num
    · obtain rfl : k = n.length := by omega
      rw [List.take_length]
      go_wp2
      go_ret
      exact ⟨rfl, rfl⟩

end Go.Proofs.Ytjkjhpaeckkpjaa

namespace Go.Proofs.Ytjkjhpaeckkpjaa
open Go.RowKit

set_option maxHeartbeats 400000 in
theorem fits_label (l : List UInt8) (w : World) (hm : l.length ≤ maxLen) :
    Calls Try.prog 87 #[.string ⟨l.toArray⟩] w (Told w (.bool (fitL l))) := by
  unfold maxLen at hm
  by_cases h1 : 1 ≤ l.length
  · by_cases h2 : l.length ≤ 63
    · have HF := Lib.hid (show fitL l = true by simp [fitL, h1, h2])
      have d2 : decide ((l.length : Int) ≤ 63) = true := by simp; omega
      go_enter Try.func87, Try.ntmps87
      go_wp2
      go_ret
      exact ⟨by rw [HF.out]; rfl, rfl⟩
    · have HF := Lib.hid (show fitL l = false by simp [fitL]; omega)
      have d2 : decide ((l.length : Int) ≤ 63) = false := by simp; omega
      go_enter Try.func87, Try.ntmps87
      go_wp2
      go_ret
      exact ⟨by rw [HF.out]; rfl, rfl⟩
  · have HF := Lib.hid (show fitL l = false by simp [fitL]; omega)
    go_enter Try.func87, Try.ntmps87
    go_wp2
    go_ret
    exact ⟨by rw [HF.out]; rfl, rfl⟩

theorem all_snoc {n : List (List UInt8)} {k : Nat} (p : List UInt8 → Bool) (h : k < n.length) (ha : (n.take k).all p = true) (hp : p n[k] = true) : (n.take (k + 1)).all p = true := by
  rw [List.take_succ_eq_append_getElem h, List.all_append, ha]
  simp [hp]
theorem all_not {n : List (List UInt8)} {k : Nat} (p : List UInt8 → Bool) (h : k < n.length) (hp : p n[k] = false) : n.all p = false := by
  rw [List.all_eq_false]
  exact ⟨n[k], List.getElem_mem h, by simp [hp]⟩

def EveryRel (n : List (List UInt8)) (i : Value) : Prop := ∃ k : Nat, k ≤ n.length ∧ i = .int .i64 k ∧ (n.take k).all fitL = true

set_option maxHeartbeats 400000 in
theorem every_any (A : Option Addr) (m c H : Nat) (n : List (List UInt8)) (w : World) (hl : n.length = m) (hA : Row w H A (n.map sv)) (hs : szN n ≤ maxLen) :
    Calls Try.prog 86 #[.slice A m c, .func (.func 87) #[] #[]] w (Told w (.bool (n.all fitL))) := by
  subst hl
  unfold maxLen at hs
  have hlen := length_lt_szN n
  have HA := Lib.hid hA
  clear hA
  go_enter Try.func86, Try.ntmps86
  go_wp2
  go_loop [9] (EveryRel n) (fun i => n.length - (intOf i).toNat)
  case atStart => exact ⟨0, Nat.zero_le _, rfl, by simp⟩
  case round =>
    obtain ⟨k, hk, rfl, hall⟩ := hrel
    have HK := Lib.hid hall
    clear hall
    by_cases hlt : k < n.length
    · obtain ⟨b, off, rfl, _, hc⟩ := HA.out.name_at hlt
      have hle := len_le_szN hlt
      cases hf : fitL n[k]
      · have hct := fun W => fits_label n[k] W (by unfold maxLen; omega)
        rw [hf] at hct
        have HC := Lib.hid hct
        have HF := Lib.hid (all_not fitL hlt hf)
        clear hct hf
        go_wp2_with (go_at_call 87; refine (HC.out _).mono ?_; rintro e w' ⟨rfl, rfl⟩)
        go_ret
        exact ⟨by rw [HF.out]; rfl, rfl⟩
      · have hct := fun W => fits_label n[k] W (by unfold maxLen; omega)
        rw [hf] at hct
        have HC := Lib.hid hct
        have HF := Lib.hid (all_snoc fitL hlt HK.out hf)
        clear hct hf
        go_wp2_with (go_at_call 87; refine (HC.out _).mono ?_; rintro e w' ⟨rfl, rfl⟩)
        exact ⟨⟨k + 1, by omega, by go_num, HF.out⟩, by simp [intOf]; omega⟩
    · obtain rfl : k = n.length := by omega
      go_wp2
      go_ret
      exact ⟨ret_bool (by have h := HK.out; rw [List.take_length] at h; exact h.symm), rfl⟩

set_option maxHeartbeats 400000 in
theorem sound_any (A : Option Addr) (m c H : Nat) (n : List (List UInt8)) (w : World) (hl : n.length = m) (hA : Row w H A (n.map sv)) (hs : szN n ≤ maxLen) :
    Calls Try.prog 62 #[.slice A m c] w (Told w (.bool (soundN n))) := by
  have hev := fun W h => every_any A m c H n W hl h hs
  have hsz := fun W h => size_any A m c H n W hl h hs
  have HA := Lib.hid hA
  have HZ := Lib.hid hsz
  clear hA hl hsz
  cases hf : n.all fitL
  · rw [hf] at hev
    have HE := Lib.hid hev
    have HF := Lib.hid (show soundN n = false by simp [soundN, hf])
    clear hev hf
    go_enter Try.func62, Try.ntmps62
    go_wp2_with (first
      | (go_at_call 86; refine (HE.out _ HA.out).mono ?_; rintro e w' ⟨rfl, rfl⟩)
      | (go_at_call 88; refine (HZ.out _ HA.out).mono ?_; rintro e w' ⟨rfl, rfl⟩))
    go_ret
    exact ⟨by rw [HF.out]; rfl, rfl⟩
  · rw [hf] at hev
    have HE := Lib.hid hev
    have HF := Lib.hid (show soundN n = decide (szN n ≤ 255) by simp [soundN, hf])
    clear hev hf
    go_enter Try.func62, Try.ntmps62
    go_wp2_with (first
      | (go_at_call 86; refine (HE.out _ HA.out).mono ?_; rintro e w' ⟨rfl, rfl⟩)
      | (go_at_call 88; refine (HZ.out _ HA.out).mono ?_; rintro e w' ⟨rfl, rfl⟩))
    go_ret
    refine ⟨ret_bool ?_, rfl⟩
    rw [HF.out]
    simp
    omega

set_option maxHeartbeats 400000 in
theorem ref_sound_any (A : Option Addr) (m c H : Nat) (n : List (List UInt8)) (w : World) (hl : n.length = m) (hA : Row w H A (n.map sv)) (hs : szN n ≤ maxLen) :
    Calls Try.prog 38 #[.slice A m c] w (Told w (.bool (soundN n))) := by
  have hsz := fun W h => ref_size_any A m c H n W hl h hs
  subst hl
  unfold maxLen at hs
  have hlen := length_lt_szN n
  have HA := Lib.hid hA
  have HZ := Lib.hid hsz
  clear hA hsz
  by_cases h127 : n.length ≤ 127
  · have d1 : decide (127 < (n.length : Int)) = false := by simp; omega
    go_enter Try.func38, Try.ntmps38
    go_wp2
    go_loop [3] (EveryRel n) (fun i => n.length - (intOf i).toNat)
    case atStart => exact ⟨0, Nat.zero_le _, rfl, by simp⟩
    case round =>
      obtain ⟨k, hk, rfl, hall⟩ := hrel
      have HK := Lib.hid hall
      clear hall
      by_cases hlt : k < n.length
      · obtain ⟨b, off, rfl, _, hc⟩ := HA.out.name_at hlt
        have hle := len_le_szN hlt
        by_cases e1 : 1 ≤ (n[k]).length
        · have d2 : decide (((n[k]).length : Int) < 1) = false := by simp; omega
          by_cases e2 : (n[k]).length ≤ 63
          · have d3 : decide (63 < ((n[k]).length : Int)) = false := by simp; omega
            have HF := Lib.hid (all_snoc fitL hlt HK.out (by simp [fitL]; omega))
            go_wp2
            exact ⟨⟨k + 1, by omega, by go_num, HF.out⟩, by simp [intOf]; omega⟩
          · have d3 : decide (63 < ((n[k]).length : Int)) = true := by simp; omega
            have HF := Lib.hid (all_not fitL hlt (by simp [fitL]; omega))
            go_wp2
            go_ret
            exact ⟨ret_bool (by simp [soundN, HF.out]), rfl⟩
        · have d2 : decide (((n[k]).length : Int) < 1) = true := by simp; omega
          have HF := Lib.hid (all_not fitL hlt (by simp [fitL]; omega))
          go_wp2
          go_ret
          exact ⟨ret_bool (by simp [soundN, HF.out]), rfl⟩
      · obtain rfl : k = n.length := by omega
        go_wp2_with (go_at_call 20; refine (HZ.out _ HA.out).mono ?_; rintro e w' ⟨rfl, rfl⟩)
        go_ret
        refine ⟨ret_bool ?_, rfl⟩
        have h := HK.out
        rw [List.take_length] at h
        simp [soundN, h]
        omega
  · have HF := Lib.hid (soundN_long (n := n) (by omega))
    have d1 : decide (127 < (n.length : Int)) = true := by simp; omega
    go_enter Try.func38, Try.ntmps38
    go_wp2
    go_ret
    exact ⟨ret_bool HF.out.symm, rfl⟩

end Go.Proofs.Ytjkjhpaeckkpjaa

namespace Go.Proofs.Ytjkjhpaeckkpjaa
open Go.RowKit

def sizeAt (ah j : Nat) : Int := if j < ah then 2 else 4
/-- Do the numbers fit, each into its bytes? -/
def numsOk (ah : Nat) (l : List Int) : Bool := (List.range l.length).all fun j => fitB (l.getD j 0) (sizeAt ah j)
def soundBs (s : Sh) (l : List UInt8) : Bool := decide (s.least ≤ l.length) && decide (l.length ≤ s.most)
def soundNm (n : List (List UInt8)) (had : Bool) : Bool := decide (n.length = 0) || (had && soundN n)
def soundNs (s : Sh) (l : List Int) : Bool := decide (l.length = s.ahead + s.behind) && numsOk s.ahead l
def soundTs (s : Sh) (l : List (List UInt8)) : Bool := if s.texts = true then l.all (fun t => decide (t.length ≤ 255)) && (decide (1 ≤ l.length) && decide (l.length ≤ 64)) else decide (l.length = 0)
/-- Is data just what the type has? -/
def soundD (k : Int) (d : Dt) : Bool := kindB k && (soundBs (shN k) d.bytes && (soundNm d.host (shN k).host && (soundNm d.mail (shN k).mail && (soundNs (shN k) d.nums && soundTs (shN k) d.texts))))

theorem all_range_snoc {p : Nat → Bool} {k : Nat} (h : (List.range k).all p = true) (hp : p k = true) : (List.range (k + 1)).all p = true := by
  rw [List.range_succ, List.all_append, h]
  simp [hp]
theorem all_range_not {p : Nat → Bool} {k n : Nat} (h : k < n) (hp : p k = false) : (List.range n).all p = false := by
  rw [List.all_eq_false]
  exact ⟨k, List.mem_range.2 h, by simp [hp]⟩

set_option maxHeartbeats 400000 in
theorem soundBytes_any (s : Sh) (A : Option Addr) (m c : Nat) (l : List UInt8) (w : World) (hl : l.length = m) :
    Calls Try.prog 90 #[s.val, .slice A m c] w (Gave w (.bool (soundBs s l))) := by
  obtain ⟨ah, s1, s2, s3, be, s5, le, mo⟩ := s
  have HB := Lib.hid ((Below.refl _ w).alloc (Nat.le_refl _) (.cells #[.int .i64 ah, .bool s1, .bool s2, .bool s3, .int .i64 be, .bool s5, .int .i64 le, .int .i64 mo] 119))
  subst hl
  by_cases h1 : le ≤ l.length
  · have d1 : decide ((le : Int) ≤ (l.length : Int)) = true := by simp; omega
    by_cases h2 : l.length ≤ mo
    · have d2 : decide ((l.length : Int) ≤ (mo : Int)) = true := by simp; omega
      have HF := Lib.hid (show soundBs ⟨ah, s1, s2, s3, be, s5, le, mo⟩ l = true by simp [soundBs]; omega)
      go_enter Try.func90, Try.ntmps90
      go_wp2
      go_ret
      exact ⟨by rw [HF.out]; rfl, HB.out⟩
    · have d2 : decide ((l.length : Int) ≤ (mo : Int)) = false := by simp; omega
      have HF := Lib.hid (show soundBs ⟨ah, s1, s2, s3, be, s5, le, mo⟩ l = false by simp [soundBs]; omega)
      go_enter Try.func90, Try.ntmps90
      go_wp2
      go_ret
      exact ⟨by rw [HF.out]; rfl, HB.out⟩
  · have d1 : decide ((le : Int) ≤ (l.length : Int)) = false := by simp; omega
    have HF := Lib.hid (show soundBs ⟨ah, s1, s2, s3, be, s5, le, mo⟩ l = false by simp [soundBs]; omega)
    go_enter Try.func90, Try.ntmps90
    go_wp2
    go_ret
    exact ⟨by rw [HF.out]; rfl, HB.out⟩

set_option maxHeartbeats 400000 in
theorem every_wide (A : Option Addr) (m c H : Nat) (n : List (List UInt8)) (w : World) (hl : n.length = m) (hA : Row w H A (n.map sv)) (hlen : n.length ≤ 140737488351232) (hs : ∀ k (h : k < n.length), (n[k]).length ≤ maxLen) :
    Calls Try.prog 86 #[.slice A m c, .func (.func 87) #[] #[]] w (Told w (.bool (n.all fitL))) := by
  subst hl
  have HA := Lib.hid hA
  have HSZ := Lib.hid hs
  clear hA hs
  go_enter Try.func86, Try.ntmps86
  go_wp2
  go_loop [9] (EveryRel n) (fun i => n.length - (intOf i).toNat)
  case atStart => exact ⟨0, Nat.zero_le _, rfl, by simp⟩
  case round =>
    obtain ⟨k, hk, rfl, hall⟩ := hrel
    have HK := Lib.hid hall
    clear hall
    by_cases hlt : k < n.length
    · obtain ⟨b, off, rfl, _, hc⟩ := HA.out.name_at hlt
      have hle := HSZ.out k hlt
      cases hf : fitL n[k]
      · have hct := fun W => fits_label n[k] W hle
        rw [hf] at hct
        have HC := Lib.hid hct
        have HF := Lib.hid (all_not fitL hlt hf)
        clear hct hf
        go_wp2_with (go_at_call 87; refine (HC.out _).mono ?_; rintro e w' ⟨rfl, rfl⟩)
        go_ret
        exact ⟨by rw [HF.out]; rfl, rfl⟩
      · have hct := fun W => fits_label n[k] W hle
        rw [hf] at hct
        have HC := Lib.hid hct
        have HF := Lib.hid (all_snoc fitL hlt HK.out hf)
        clear hct hf
        go_wp2_with (go_at_call 87; refine (HC.out _).mono ?_; rintro e w' ⟨rfl, rfl⟩)
        exact ⟨⟨k + 1, by omega, by go_num, HF.out⟩, by simp [intOf]; omega⟩
    · obtain rfl : k = n.length := by omega
      go_wp2
      go_ret
      exact ⟨ret_bool (by have h := HK.out; rw [List.take_length] at h; exact h.symm), rfl⟩

set_option maxHeartbeats 400000 in
theorem sound_wide (A : Option Addr) (m c H : Nat) (n : List (List UInt8)) (w : World) (hl : n.length = m) (hA : Row w H A (n.map sv)) (hlen : n.length ≤ 140737488351232) (hs : ∀ k (h : k < n.length), (n[k]).length ≤ maxLen) :
    Calls Try.prog 62 #[.slice A m c] w (Told w (.bool (soundN n))) := by
  have hev := fun W h => every_wide A m c H n W hl h hlen hs
  have HA := Lib.hid hA
  clear hA
  cases hf : n.all fitL
  · rw [hf] at hev
    have HE := Lib.hid hev
    have HF := Lib.hid (show soundN n = false by simp [soundN, hf])
    clear hev hf hs hlen
    go_enter Try.func62, Try.ntmps62
    go_wp2_with (go_at_call 86; refine (HE.out _ HA.out).mono ?_; rintro e w' ⟨rfl, rfl⟩)
    go_ret
    exact ⟨by rw [HF.out]; rfl, rfl⟩
  · have hsz : szN n ≤ n.length * (63 + 1) + 1 := szN_le 63 n fun l hl => (by have h := List.all_eq_true.1 hf l hl; simp [fitL] at h; omega)
    have HZ := Lib.hid (fun W h => size_any A m c H n W hl h (by unfold maxLen; omega))
    rw [hf] at hev
    have HE := Lib.hid hev
    have HF := Lib.hid (show soundN n = decide (szN n ≤ 255) by simp [soundN, hf])
    clear hev hf hs hl
    go_enter Try.func62, Try.ntmps62
    go_wp2_with (first
      | (go_at_call 86; refine (HE.out _ HA.out).mono ?_; rintro e w' ⟨rfl, rfl⟩)
      | (go_at_call 88; refine (HZ.out _ HA.out).mono ?_; rintro e w' ⟨rfl, rfl⟩))
    go_ret
    refine ⟨ret_bool ?_, rfl⟩
    rw [HF.out]
    simp
    omega

set_option maxHeartbeats 400000 in
/-- The document's Sound of any name, however large. -/
theorem ref_sound_wide (A : Option Addr) (c H : Nat) (n : List (List UInt8)) (w : World) (hA : Row w H A (n.map sv)) (_ : n.length ≤ maxLen) (hs : ∀ k (h : k < n.length), (n[k]).length ≤ maxLen) :
    Calls Try.prog 38 #[.slice A n.length c] w (Told w (.bool (soundN n))) := by
  have HA := Lib.hid hA
  have HS := Lib.hid hs
  clear hA hs
  by_cases h127 : n.length ≤ 127
  · have d1 : decide (127 < (n.length : Int)) = false := by simp; omega
    go_enter Try.func38, Try.ntmps38
    go_wp2
    go_loop [3] (EveryRel n) (fun i => n.length - (intOf i).toNat)
    case atStart => exact ⟨0, Nat.zero_le _, rfl, by simp⟩
    case round =>
      obtain ⟨k, hk, rfl, hall⟩ := hrel
      have HK := Lib.hid hall
      clear hall
      by_cases hlt : k < n.length
      · obtain ⟨b, off, rfl, _, hc⟩ := HA.out.name_at hlt
        have hle := HS.out k hlt
        unfold maxLen at hle
        by_cases e1 : 1 ≤ (n[k]).length
        · have d2 : decide (((n[k]).length : Int) < 1) = false := by simp; omega
          by_cases e2 : (n[k]).length ≤ 63
          · have d3 : decide (63 < ((n[k]).length : Int)) = false := by simp; omega
            have HF := Lib.hid (all_snoc fitL hlt HK.out (by simp [fitL]; omega))
            go_wp2
            exact ⟨⟨k + 1, by omega, by go_num, HF.out⟩, by simp [intOf]; omega⟩
          · have d3 : decide (63 < ((n[k]).length : Int)) = true := by simp; omega
            have HF := Lib.hid (all_not fitL hlt (by simp [fitL]; omega))
            go_wp2
            go_ret
            exact ⟨ret_bool (by simp [soundN, HF.out]), rfl⟩
        · have d2 : decide (((n[k]).length : Int) < 1) = true := by simp; omega
          have HF := Lib.hid (all_not fitL hlt (by simp [fitL]; omega))
          go_wp2
          go_ret
          exact ⟨ret_bool (by simp [soundN, HF.out]), rfl⟩
      · obtain rfl : k = n.length := by omega
        have hall := HK.out
        rw [List.take_length] at hall
        have hsz : szN n ≤ n.length * (63 + 1) + 1 := szN_le 63 n fun l hl => (by have h := List.all_eq_true.1 hall l hl; simp [fitL] at h; omega)
        have HZ := Lib.hid (ref_size_any A n.length c H n w rfl HA.out (by unfold maxLen; omega))
        have HALL := Lib.hid hall
        clear hall
        go_wp2_with fail
        refine HZ.out.mono ?_
        rintro e w' ⟨rfl, rfl⟩
        go_wp2
        go_ret
        refine ⟨ret_bool ?_, rfl⟩
        simp [soundN, HALL.out]
        omega
  · have HF := Lib.hid (soundN_long (n := n) (by omega))
    have d1 : decide (127 < (n.length : Int)) = true := by simp; omega
    go_enter Try.func38, Try.ntmps38
    go_wp2
    go_ret
    exact ⟨ret_bool HF.out.symm, rfl⟩

set_option maxHeartbeats 400000 in
theorem soundName_any (A : Option Addr) (m c H : Nat) (n : List (List UInt8)) (had : Bool) (w : World) (hl : n.length = m) (hA : Row w H A (n.map sv)) (hs : szN n ≤ maxLen) :
    Calls Try.prog 91 #[.slice A m c, .bool had] w (Told w (.bool (soundNm n had))) := by
  have HC := Lib.hid (sound_any A m c H n w hl hA hs)
  clear hA hs
  by_cases h0 : n.length = 0
  · have t1 : ((m : Int) == 0) = true := by rw [beq_iff_eq]; omega
    have HF := Lib.hid (show soundNm n had = true by simp [soundNm, h0])
    clear h0 hl
    go_enter Try.func91, Try.ntmps91
    go_wp2
    go_ret
    exact ⟨by rw [HF.out]; rfl, rfl⟩
  · have t1 : ((m : Int) == 0) = false := by rw [beq_eq_false_iff_ne]; omega
    cases had
    · have HF := Lib.hid (show soundNm n false = false by simp [soundNm, h0])
      clear h0 hl
      go_enter Try.func91, Try.ntmps91
      go_wp2
      go_ret
      exact ⟨by rw [HF.out]; rfl, rfl⟩
    · have HF := Lib.hid (show soundNm n true = soundN n by simp [soundNm, h0])
      clear h0 hl
      go_enter Try.func91, Try.ntmps91
      go_wp2_with fail
      refine HC.out.mono ?_
      rintro e w' ⟨rfl, rfl⟩
      go_wp2
      go_ret
      exact ⟨by rw [HF.out]; rfl, rfl⟩

set_option maxHeartbeats 400000 in
theorem soundName_wide (A : Option Addr) (m c H : Nat) (n : List (List UInt8)) (had : Bool) (w : World) (hl : n.length = m) (hA : Row w H A (n.map sv)) (hlen : n.length ≤ 140737488351232) (hs : ∀ k (h : k < n.length), (n[k]).length ≤ maxLen) :
    Calls Try.prog 91 #[.slice A m c, .bool had] w (Told w (.bool (soundNm n had))) := by
  have HC := Lib.hid (sound_wide A m c H n w hl hA hlen hs)
  clear hA hs hlen
  by_cases h0 : n.length = 0
  · have t1 : ((m : Int) == 0) = true := by rw [beq_iff_eq]; omega
    have HF := Lib.hid (show soundNm n had = true by simp [soundNm, h0])
    clear h0 hl
    go_enter Try.func91, Try.ntmps91
    go_wp2
    go_ret
    exact ⟨by rw [HF.out]; rfl, rfl⟩
  · have t1 : ((m : Int) == 0) = false := by rw [beq_eq_false_iff_ne]; omega
    cases had
    · have HF := Lib.hid (show soundNm n false = false by simp [soundNm, h0])
      clear h0 hl
      go_enter Try.func91, Try.ntmps91
      go_wp2
      go_ret
      exact ⟨by rw [HF.out]; rfl, rfl⟩
    · have HF := Lib.hid (show soundNm n true = soundN n by simp [soundNm, h0])
      clear h0 hl
      go_enter Try.func91, Try.ntmps91
      go_wp2_with fail
      refine HC.out.mono ?_
      rintro e w' ⟨rfl, rfl⟩
      go_wp2
      go_ret
      exact ⟨by rw [HF.out]; rfl, rfl⟩

def SNRel (w : World) (ah : Nat) (l : List Int) (i : Value) (wr : World) : Prop := ∃ k : Nat, k ≤ l.length ∧ i = .int .i64 k ∧ (List.range k).all (fun j => fitB (l.getD j 0) (sizeAt ah j)) = true ∧ wr = w

set_option maxRecDepth 4000 in
set_option maxHeartbeats 1000000 in
theorem soundNums_any (s : Sh) (A : Option Addr) (m c : Nat) (l : List Int) (w : World) (hl : l.length = m) (hA : Row w w.heap.size A (l.map zv)) (hm : m ≤ maxLen) (h1 : s.ahead ≤ 10) (h2 : s.behind ≤ 10) :
    Calls Try.prog 92 #[s.val, .slice A m c] w (Gave w (.bool (soundNs s l))) := by
  obtain ⟨ah, s1, s2, s3, be, s5, le, mo⟩ := s
  simp only at h1 h2
  unfold maxLen at hm
  have HB := Lib.hid ((Below.refl _ w).alloc (Nat.le_refl _) (.cells #[.int .i64 ah, .bool s1, .bool s2, .bool s3, .int .i64 be, .bool s5, .int .i64 le, .int .i64 mo] 119))
  have HF := Lib.hid (fun n s W => fits_any n s W)
  have HA := Lib.hid (hA.alloc (Nat.le_refl _) (.cells #[.int .i64 ah, .bool s1, .bool s2, .bool s3, .int .i64 be, .bool s5, .int .i64 le, .int .i64 mo] 119))
  have HL := Lib.hid hl
  clear hA
  by_cases hsum : m = ah + be
  · have t1 : ((m : Int) != (ah : Int) + (be : Int)) = false := by rw [bne_eq_false_iff_eq]; omega
    have HS := Lib.hid (show soundNs ⟨ah, s1, s2, s3, be, s5, le, mo⟩ l = numsOk ah l by simp [soundNs, hl, hsum])
    have c0 := (Whole.made w [.int .i64 ah, .bool s1, .bool s2, .bool s3, .int .i64 be, .bool s5, .int .i64 le, .int .i64 mo] 119).cell 0
    simp only [List.getElem?_cons_zero] at c0
    clear hl hsum
    go_enter Try.func92, Try.ntmps92
    go_wp2
    obtain ⟨W, hW⟩ : ∃ W, W = w.alloc (.cells #[.int .i64 ah, .bool s1, .bool s2, .bool s3, .int .i64 be, .bool s5, .int .i64 le, .int .i64 mo] 119) := ⟨_, rfl⟩
    rw [← hW] at HB HA c0 ⊢
    clear hW
    go_loopw [18] (SNRel W ah l) (fun i _ => m - (intOf i).toNat)
    case atStart => exact ⟨0, Nat.zero_le _, rfl, rfl, rfl⟩
    case round =>
      obtain ⟨k, hk, rfl, hok, rfl⟩ := hrel
      have HOK := Lib.hid hok
      clear hok
      by_cases hlt : k < m
      · have hkl : k < l.length := by rw [HL.out]; exact hlt
        obtain ⟨b, off, rfl, _, hc⟩ := HA.out.int_at hkl
        have HGD := Lib.hid (show l.getD k 0 = l[k] by simp [List.getD, List.getElem?_eq_getElem hkl])
        by_cases hah : k < ah
        · have d1 : decide ((ah : Int) ≤ (k : Int)) = false := by simp; omega
          have HZ := Lib.hid (show sizeAt ah k = 2 by simp [sizeAt, hah])
          go_wp2_with fail
          refine (HF.out l[k] 2 _).mono ?_
          cases hfit : fitB l[k] 2
          · have HN := Lib.hid (show numsOk ah l = false from all_range_not hkl (by rw [HGD.out, HZ.out]; exact hfit))
            rintro e w' ⟨rfl, rfl⟩
            go_wp2
            go_ret
            exact ⟨by rw [HS.out, HN.out]; rfl, HB.out⟩
          · have HY := Lib.hid (all_range_snoc HOK.out (by rw [HGD.out, HZ.out]; exact hfit))
            rintro e w' ⟨rfl, rfl⟩
            go_wp2
            exact ⟨⟨k + 1, hkl, by go_num, HY.out, rfl⟩, by simp [intOf]; omega⟩
        · have d1 : decide ((ah : Int) ≤ (k : Int)) = true := by simp; omega
          have HZ := Lib.hid (show sizeAt ah k = 4 by simp [sizeAt, hah])
          go_wp2_with fail
          refine (HF.out l[k] 4 _).mono ?_
          cases hfit : fitB l[k] 4
          · have HN := Lib.hid (show numsOk ah l = false from all_range_not hkl (by rw [HGD.out, HZ.out]; exact hfit))
            rintro e w' ⟨rfl, rfl⟩
            go_wp2
            go_ret
            exact ⟨by rw [HS.out, HN.out]; rfl, HB.out⟩
          · have HY := Lib.hid (all_range_snoc HOK.out (by rw [HGD.out, HZ.out]; exact hfit))
            rintro e w' ⟨rfl, rfl⟩
            go_wp2
            exact ⟨⟨k + 1, hkl, by go_num, HY.out, rfl⟩, by simp [intOf]; omega⟩
      · obtain rfl : k = m := by have := HL.out; omega
        have HN := Lib.hid (show numsOk ah l = true by unfold numsOk; rw [HL.out]; exact HOK.out)
        go_wp2
        go_ret
        exact ⟨by rw [HS.out, HN.out]; rfl, HB.out⟩
  · have t1 : ((m : Int) != (ah : Int) + (be : Int)) = true := by rw [bne_iff_ne]; omega
    have HS := Lib.hid (show soundNs ⟨ah, s1, s2, s3, be, s5, le, mo⟩ l = false by simp [soundNs]; intro h; exact absurd (hl.symm.trans h) hsum)
    clear hl
    go_enter Try.func92, Try.ntmps92
    go_wp2
    go_ret
    exact ⟨by rw [HS.out]; rfl, HB.out⟩

def STRel (l : List (List UInt8)) (i : Value) : Prop := ∃ k : Nat, k ≤ l.length ∧ i = .int .i64 k ∧ (l.take k).all (fun t => decide (t.length ≤ 255)) = true

set_option maxRecDepth 4000 in
set_option maxHeartbeats 1000000 in
theorem soundTexts_any (s : Sh) (A : Option Addr) (m c : Nat) (l : List (List UInt8)) (w : World) (hl : l.length = m) (hA : Row w w.heap.size A (l.map sv)) (hm : m ≤ maxLen) (hlen : ∀ k (h : k < l.length), (l[k]).length ≤ maxLen) :
    Calls Try.prog 93 #[s.val, .slice A m c] w (Gave w (.bool (soundTs s l))) := by
  obtain ⟨ah, s1, s2, s3, be, s5, le, mo⟩ := s
  unfold maxLen at hm hlen
  have HB := Lib.hid ((Below.refl _ w).alloc (Nat.le_refl _) (.cells #[.int .i64 ah, .bool s1, .bool s2, .bool s3, .int .i64 be, .bool s5, .int .i64 le, .int .i64 mo] 119))
  have HA := Lib.hid (hA.alloc (Nat.le_refl _) (.cells #[.int .i64 ah, .bool s1, .bool s2, .bool s3, .int .i64 be, .bool s5, .int .i64 le, .int .i64 mo] 119))
  have HL := Lib.hid hl
  have HLEN := Lib.hid hlen
  clear hA hlen
  cases s5
  · have HS := Lib.hid (show soundTs ⟨ah, s1, s2, s3, be, false, le, mo⟩ l = decide (m = 0) by simp [soundTs, hl])
    clear hl
    by_cases h0 : m = 0
    · have t1 : ((m : Int) == 0) = true := by rw [beq_iff_eq]; omega
      have HZ := Lib.hid (show decide (m = 0) = true by simp [h0])
      clear h0
      go_enter Try.func93, Try.ntmps93
      go_wp2
      go_ret
      exact ⟨by rw [HS.out, HZ.out]; rfl, HB.out⟩
    · have t1 : ((m : Int) == 0) = false := by rw [beq_eq_false_iff_ne]; omega
      have HZ := Lib.hid (show decide (m = 0) = false by simp [h0])
      clear h0
      go_enter Try.func93, Try.ntmps93
      go_wp2
      go_ret
      exact ⟨by rw [HS.out, HZ.out]; rfl, HB.out⟩
  · have HS := Lib.hid (show soundTs ⟨ah, s1, s2, s3, be, true, le, mo⟩ l = (l.all (fun t => decide (t.length ≤ 255)) && (decide (1 ≤ m) && decide (m ≤ 64))) by simp [soundTs, hl])
    clear hl
    go_enter Try.func93, Try.ntmps93
    go_wp2
    obtain ⟨W, hW⟩ : ∃ W, W = w.alloc (.cells #[.int .i64 ah, .bool s1, .bool s2, .bool s3, .int .i64 be, .bool true, .int .i64 le, .int .i64 mo] 119) := ⟨_, rfl⟩
    rw [← hW] at HB HA ⊢
    clear hW
    go_loop [15] (STRel l) (fun i => m - (intOf i).toNat)
    case atStart => exact ⟨0, Nat.zero_le _, rfl, rfl⟩
    case round =>
      obtain ⟨k, hk, rfl, hok⟩ := hrel
      have HOK := Lib.hid hok
      clear hok
      by_cases hlt : k < m
      · have hkl : k < l.length := by rw [HL.out]; exact hlt
        obtain ⟨b, off, rfl, _, hc⟩ := HA.out.name_at hkl
        have hlk := HLEN.out k hkl
        by_cases hbig : 255 < (l[k]).length
        · have d1 : decide ((255 : Int) < ((l[k]).length : Int)) = true := by simp; omega
          have HN := Lib.hid (all_not (fun t : List UInt8 => decide (t.length ≤ 255)) hkl (by simp; omega))
          go_wp2
          go_ret
          exact ⟨by rw [HS.out, HN.out]; rfl, HB.out⟩
        · have d1 : decide ((255 : Int) < ((l[k]).length : Int)) = false := by simp; omega
          have HY := Lib.hid (all_snoc (fun t : List UInt8 => decide (t.length ≤ 255)) hkl HOK.out (by simp; omega))
          go_wp2
          exact ⟨⟨k + 1, hkl, by go_num, HY.out⟩, by simp [intOf]; omega⟩
      · obtain rfl : k = m := by have := HL.out; omega
        have HN := Lib.hid (show l.all (fun t => decide (t.length ≤ 255)) = true by have h := HOK.out; rw [← HL.out, List.take_length] at h; exact h)
        by_cases h1 : 1 ≤ k
        · have d1 : decide ((1 : Int) ≤ (k : Int)) = true := by simp; omega
          by_cases h2 : k ≤ 64
          · have d2 : decide ((k : Int) ≤ 64) = true := by simp; omega
            have HZ := Lib.hid (show (decide (1 ≤ k) && decide (k ≤ 64)) = true by simp; omega)
            go_wp2
            go_ret
            exact ⟨by rw [HS.out, HN.out, HZ.out]; rfl, HB.out⟩
          · have d2 : decide ((k : Int) ≤ 64) = false := by simp; omega
            have HZ := Lib.hid (show (decide (1 ≤ k) && decide (k ≤ 64)) = false by simp; omega)
            go_wp2
            go_ret
            exact ⟨by rw [HS.out, HN.out, HZ.out]; rfl, HB.out⟩
        · have d1 : decide ((1 : Int) ≤ (k : Int)) = false := by simp; omega
          have HZ := Lib.hid (show (decide (1 ≤ k) && decide (k ≤ 64)) = false by simp; omega)
          go_wp2
          go_ret
          exact ⟨by rw [HS.out, HN.out, HZ.out]; rfl, HB.out⟩

theorem shN_small (k : Int) : (shN k).ahead ≤ 10 ∧ (shN k).behind ≤ 10 := by
  unfold shN
  split
  · decide
  · split
    · decide
    · split
      · decide
      · split
        · decide
        · split
          · decide
          · split
            · decide
            · split <;> decide

/-- What Sound holds: the data's box and the shape's. -/
structure SB (w : World) (x : DV) (d : Dt) (s : Sh) (g : Nat) (W : World) : Prop where
  bx : Whole W w.heap.size 46 [x.vb d, x.vh d, x.vm d, x.vn d, x.vt d]
  sh : Whole W g 119 [.int .i64 s.ahead, .bool s.host, .bool s.mail, .bool s.short, .int .i64 s.behind, .bool s.texts, .int .i64 s.least, .int .i64 s.most]
  dt : DataAt W w.heap.size x d
  below : Below w.heap.size w W
  size : w.heap.size ≤ W.heap.size
theorem SB.step {w : World} {x : DV} {d : Dt} {s : Sh} {g : Nat} {W W' : World} (h : SB w x d s g W) (hb : Below W.heap.size W W') : SB w x d s g W' :=
  ⟨h.bx.below hb h.bx.lt, h.sh.below hb h.sh.lt, h.dt.below (hb.mono h.size), h.below.trans (hb.mono h.size), Nat.le_trans h.size hb.size⟩

set_option maxRecDepth 20000 in
set_option maxHeartbeats 4000000 in
theorem dsound_core (k : Int) (x : DV) (d : Dt) (w : World) (hx : DataAt w w.heap.size x d)
    (h1 : ∀ (W : World) (b : Bool), Row W w.heap.size x.Ah (d.host.map sv) → Calls Try.prog 91 #[.slice x.Ah d.host.length x.ch, .bool b] W (Told W (.bool (soundNm d.host b))))
    (h2 : ∀ (W : World) (b : Bool), Row W w.heap.size x.Am (d.mail.map sv) → Calls Try.prog 91 #[.slice x.Am d.mail.length x.cm, .bool b] W (Told W (.bool (soundNm d.mail b)))) (h3 : d.texts.length ≤ maxLen) (h4 : ∀ k (h : k < d.texts.length), (d.texts[k]).length ≤ maxLen) :
    Calls Try.prog 63 #[.int .i64 k, x.val d] w (Gave w (.bool (soundD k d))) := by
  have k1 := (shN_small k).1
  have k2 := (shN_small k).2
  have kn : d.nums.length ≤ maxLen := Nat.le_trans hx.ln hx.kn
  have HSH := Lib.hid (fun W => shapeOf_any k W)
  have HK := Lib.hid (fun W => isKind_any k W)
  have HS := Lib.hid (show soundD k d = (kindB k && (soundBs (shN k) d.bytes && (soundNm d.host (shN k).host && (soundNm d.mail (shN k).mail && (soundNs (shN k) d.nums && soundTs (shN k) d.texts))))) from rfl)
  have HX := Lib.hid hx
  obtain ⟨s, hs⟩ : ∃ s, s = shN k := ⟨_, rfl⟩
  rw [← hs] at HSH HS k1 k2
  clear hs
  have HC1 := Lib.hid (fun W => soundBytes_any s x.Ab d.bytes.length x.cb d.bytes W rfl)
  have HC2 := Lib.hid (fun W g (h : SB w x d s g W) => h1 W s.host h.dt.h)
  have HC3 := Lib.hid (fun W g (h : SB w x d s g W) => h2 W s.mail h.dt.m)
  have HC4 := Lib.hid (fun W g (h : SB w x d s g W) => soundNums_any s x.An d.nums.length x.cn d.nums W rfl (h.dt.n.mono h.size) kn k1 k2)
  have HC5 := Lib.hid (fun W g (h : SB w x d s g W) => soundTexts_any s x.At d.texts.length x.ct d.texts W rfl (h.dt.t.mono h.size) h3 h4)
  clear hx h1 h2 h3 h4 k1 k2 kn
  obtain ⟨ah, s1, s2, s3, be, s5, le, mo⟩ := s
  go_enter Try.func63, Try.ntmps63
  go_wp2_with fail
  refine (HSH.out _).mono ?_
  rintro e w1 ⟨rfl, hb⟩
  have HB1 := Lib.hid hb
  clear hb
  go_wp2_with fail
  obtain ⟨W0, hW0⟩ : ∃ W0, W0 = w1.alloc (.cells #[.int .i64 ah, .bool s1, .bool s2, .bool s3, .int .i64 be, .bool s5, .int .i64 le, .int .i64 mo] 119) := ⟨_, rfl⟩
  rw [← hW0]
  have hx0 : SB w x d ⟨ah, s1, s2, s3, be, s5, le, mo⟩ w1.heap.size W0 := by
    have hz : w.heap.size + 1 ≤ w1.heap.size := by have := HB1.out.size; simpa using this
    rw [hW0]
    exact ⟨((Whole.made w [x.vb d, x.vh d, x.vm d, x.vn d, x.vt d] _).below HB1.out (by simp)).alloc _, Whole.made w1 [.int .i64 ah, .bool s1, .bool s2, .bool s3, .int .i64 be, .bool s5, .int .i64 le, .int .i64 mo] _,
      (((HX.out.alloc (Nat.le_refl _) _).below (HB1.out.mono (by simp))).alloc (by omega) _), (((Below.refl _ _).alloc (Nat.le_refl _) _).trans (HB1.out.mono (by simp))).alloc (by omega) _, by simp; omega⟩
  clear hW0 HB1 HX
  refine (HK.out _).mono ?_
  intro e W1 hO
  obtain ⟨he, hw⟩ := hO
  subst hw
  have hx1 := hx0
  clear hx0 
  cases hv : kindB k with
  | false =>
    rw [hv] at he HS
    subst he
    have HB := Lib.hid hx1.below
    clear hx1
    go_wp2
    go_ret
    exact ⟨by rw [HS.out]; rfl, HB.out⟩
  | true =>
  rw [hv] at he HS
  subst he
  have s0c : W0.cell? ⟨w1.heap.size, 0, none⟩ = some (.int .i64 ah) := hx1.sh.cell 0
  have s1c : W0.cell? ⟨w1.heap.size, 1, none⟩ = some (.bool s1) := hx1.sh.cell 1
  have s2c : W0.cell? ⟨w1.heap.size, 2, none⟩ = some (.bool s2) := hx1.sh.cell 2
  have s3c : W0.cell? ⟨w1.heap.size, 3, none⟩ = some (.bool s3) := hx1.sh.cell 3
  have s4c : W0.cell? ⟨w1.heap.size, 4, none⟩ = some (.int .i64 be) := hx1.sh.cell 4
  have s5c : W0.cell? ⟨w1.heap.size, 5, none⟩ = some (.bool s5) := hx1.sh.cell 5
  have s6c : W0.cell? ⟨w1.heap.size, 6, none⟩ = some (.int .i64 le) := hx1.sh.cell 6
  have s7c : W0.cell? ⟨w1.heap.size, 7, none⟩ = some (.int .i64 mo) := hx1.sh.cell 7
  have d0c : W0.cell? ⟨w.heap.size, 0, none⟩ = some (.slice x.Ab d.bytes.length x.cb) := hx1.bx.cell 0
  go_wp2_with fail
  refine (HC1.out _).mono ?_
  intro e W2 hO
  obtain ⟨he, hb⟩ := hO
  have hx2 := hx1.step hb
  clear hb hx1 s0c s1c s2c s3c s4c s5c s6c s7c d0c
  cases hv : soundBs ⟨ah, s1, s2, s3, be, s5, le, mo⟩ d.bytes with
  | false =>
    rw [hv] at he HS
    subst he
    have HB := Lib.hid hx2.below
    clear hx2
    go_wp2
    go_ret
    exact ⟨by rw [HS.out]; rfl, HB.out⟩
  | true =>
  rw [hv] at he HS
  subst he
  have s1c : W2.cell? ⟨w1.heap.size, 1, none⟩ = some (.bool s1) := hx2.sh.cell 1
  have d1c : W2.cell? ⟨w.heap.size, 1, none⟩ = some (.slice x.Ah d.host.length x.ch) := hx2.bx.cell 1
  go_wp2_with fail
  refine (HC2.out _ _ hx2).mono ?_
  intro e W3 hO
  obtain ⟨he, hw⟩ := hO
  subst hw
  have hx3 := hx2
  clear hx2 s1c d1c
  cases hv : soundNm d.host s1 with
  | false =>
    rw [hv] at he HS
    subst he
    have HB := Lib.hid hx3.below
    clear hx3
    go_wp2
    go_ret
    exact ⟨by rw [HS.out]; rfl, HB.out⟩
  | true =>
  rw [hv] at he HS
  subst he
  have s2c : W2.cell? ⟨w1.heap.size, 2, none⟩ = some (.bool s2) := hx3.sh.cell 2
  have d2c : W2.cell? ⟨w.heap.size, 2, none⟩ = some (.slice x.Am d.mail.length x.cm) := hx3.bx.cell 2
  go_wp2_with fail
  refine (HC3.out _ _ hx3).mono ?_
  intro e W4 hO
  obtain ⟨he, hw⟩ := hO
  subst hw
  have hx4 := hx3
  clear hx3 s2c d2c
  cases hv : soundNm d.mail s2 with
  | false =>
    rw [hv] at he HS
    subst he
    have HB := Lib.hid hx4.below
    clear hx4
    go_wp2
    go_ret
    exact ⟨by rw [HS.out]; rfl, HB.out⟩
  | true =>
  rw [hv] at he HS
  subst he
  have s0c : W2.cell? ⟨w1.heap.size, 0, none⟩ = some (.int .i64 ah) := hx4.sh.cell 0
  have s1c : W2.cell? ⟨w1.heap.size, 1, none⟩ = some (.bool s1) := hx4.sh.cell 1
  have s2c : W2.cell? ⟨w1.heap.size, 2, none⟩ = some (.bool s2) := hx4.sh.cell 2
  have s3c : W2.cell? ⟨w1.heap.size, 3, none⟩ = some (.bool s3) := hx4.sh.cell 3
  have s4c : W2.cell? ⟨w1.heap.size, 4, none⟩ = some (.int .i64 be) := hx4.sh.cell 4
  have s5c : W2.cell? ⟨w1.heap.size, 5, none⟩ = some (.bool s5) := hx4.sh.cell 5
  have s6c : W2.cell? ⟨w1.heap.size, 6, none⟩ = some (.int .i64 le) := hx4.sh.cell 6
  have s7c : W2.cell? ⟨w1.heap.size, 7, none⟩ = some (.int .i64 mo) := hx4.sh.cell 7
  have d3c : W2.cell? ⟨w.heap.size, 3, none⟩ = some (.slice x.An d.nums.length x.cn) := hx4.bx.cell 3
  go_wp2_with fail
  refine (HC4.out _ _ hx4).mono ?_
  intro e W5 hO
  obtain ⟨he, hb⟩ := hO
  have hx5 := hx4.step hb
  clear hb hx4 s0c s1c s2c s3c s4c s5c s6c s7c d3c
  cases hv : soundNs ⟨ah, s1, s2, s3, be, s5, le, mo⟩ d.nums with
  | false =>
    rw [hv] at he HS
    subst he
    have HB := Lib.hid hx5.below
    clear hx5
    go_wp2
    go_ret
    exact ⟨by rw [HS.out]; rfl, HB.out⟩
  | true =>
  rw [hv] at he HS
  subst he
  have s0c : W5.cell? ⟨w1.heap.size, 0, none⟩ = some (.int .i64 ah) := hx5.sh.cell 0
  have s1c : W5.cell? ⟨w1.heap.size, 1, none⟩ = some (.bool s1) := hx5.sh.cell 1
  have s2c : W5.cell? ⟨w1.heap.size, 2, none⟩ = some (.bool s2) := hx5.sh.cell 2
  have s3c : W5.cell? ⟨w1.heap.size, 3, none⟩ = some (.bool s3) := hx5.sh.cell 3
  have s4c : W5.cell? ⟨w1.heap.size, 4, none⟩ = some (.int .i64 be) := hx5.sh.cell 4
  have s5c : W5.cell? ⟨w1.heap.size, 5, none⟩ = some (.bool s5) := hx5.sh.cell 5
  have s6c : W5.cell? ⟨w1.heap.size, 6, none⟩ = some (.int .i64 le) := hx5.sh.cell 6
  have s7c : W5.cell? ⟨w1.heap.size, 7, none⟩ = some (.int .i64 mo) := hx5.sh.cell 7
  have d4c : W5.cell? ⟨w.heap.size, 4, none⟩ = some (.slice x.At d.texts.length x.ct) := hx5.bx.cell 4
  go_wp2_with fail
  refine (HC5.out _ _ hx5).mono ?_
  intro e W6 hO
  obtain ⟨he, hb⟩ := hO
  have hx6 := hx5.step hb
  clear hb hx5 s0c s1c s2c s3c s4c s5c s6c s7c d4c
  subst he
  have HB := Lib.hid hx6.below
  clear hx6
  go_wp2
  go_ret
  refine ⟨?_, HB.out⟩
  rw [HS.out]
  simp

theorem dsound_any (k : Int) (x : DV) (d : Dt) (w : World) (hx : DataAt w w.heap.size x d) (h1 : szN d.host ≤ maxLen) (h2 : szN d.mail ≤ maxLen) (h3 : d.texts.length ≤ maxLen) (h4 : ∀ k (h : k < d.texts.length), (d.texts[k]).length ≤ maxLen) :
    Calls Try.prog 63 #[.int .i64 k, x.val d] w (Gave w (.bool (soundD k d))) :=
  dsound_core k x d w hx (fun W b hr => soundName_any x.Ah d.host.length x.ch w.heap.size d.host b W rfl hr h1) (fun W b hr => soundName_any x.Am d.mail.length x.cm w.heap.size d.mail b W rfl hr h2) h3 h4
theorem dsound_wide (k : Int) (x : DV) (d : Dt) (w : World) (hx : DataAt w w.heap.size x d) (h1 : d.host.length ≤ 140737488351232) (h1' : ∀ k (h : k < d.host.length), (d.host[k]).length ≤ maxLen) (h2 : d.mail.length ≤ 140737488351232) (h2' : ∀ k (h : k < d.mail.length), (d.mail[k]).length ≤ maxLen) (h3 : d.texts.length ≤ maxLen) (h4 : ∀ k (h : k < d.texts.length), (d.texts[k]).length ≤ maxLen) :
    Calls Try.prog 63 #[.int .i64 k, x.val d] w (Gave w (.bool (soundD k d))) :=
  dsound_core k x d w hx (fun W b hr => soundName_wide x.Ah d.host.length x.ch w.heap.size d.host b W rfl hr h1 h1') (fun W b hr => soundName_wide x.Am d.mail.length x.cm w.heap.size d.mail b W rfl hr h2 h2') h3 h4

end Go.Proofs.Ytjkjhpaeckkpjaa

namespace Go.Proofs.Ytjkjhpaeckkpjaa
open Go.RowKit

def fitN (count : Nat) (size : Int) (l : List Int) : Bool := decide (l.length = count) && l.all fun n => fitB n size
theorem all_snocI {l : List Int} {k : Nat} (p : Int → Bool) (h : k < l.length) (ha : (l.take k).all p = true) (hp : p l[k] = true) : (l.take (k + 1)).all p = true := by
  rw [List.take_succ_eq_append_getElem h, List.all_append, ha]
  simp [hp]
theorem all_notI {l : List Int} {k : Nat} (p : Int → Bool) (h : k < l.length) (hp : p l[k] = false) : l.all p = false := by
  rw [List.all_eq_false]
  exact ⟨l[k], List.getElem_mem h, by simp [hp]⟩
def FitRel (l : List Int) (s : Int) (i : Value) : Prop := ∃ k : Nat, k ≤ l.length ∧ i = .int .i64 k ∧ (l.take k).all (fun n => fitB n s) = true

set_option maxRecDepth 4000 in
set_option maxHeartbeats 1000000 in
theorem fit_any (A : Option Addr) (m c H : Nat) (l : List Int) (count : Nat) (s : Int) (w : World) (hl : l.length = m) (hA : Row w H A (l.map zv)) (hm : m ≤ maxLen) (hn : ∀ n ∈ l, n ≤ 9223372036854775807) :
    Calls Try.prog 101 #[.slice A m c, .int .i64 count, .int .i64 s] w (Told w (.bool (fitN count s l))) := by
  unfold maxLen at hm
  have HF := Lib.hid (fun n W hn => ref_fits_any n s W hn)
  have HN := Lib.hid hn
  have HA := Lib.hid hA
  have HL := Lib.hid hl
  clear hn hA
  by_cases hc : m = count
  · have t1 : ((m : Int) != (count : Int)) = false := by rw [bne_eq_false_iff_eq]; omega
    have HS := Lib.hid (show fitN count s l = l.all (fun n => fitB n s) by simp [fitN, hl, hc])
    clear hl hc
    go_enter Try.func101, Try.ntmps101
    go_wp2
    go_loop [7] (FitRel l s) (fun i => m - (intOf i).toNat)
    case atStart => exact ⟨0, Nat.zero_le _, rfl, rfl⟩
    case round =>
      obtain ⟨k, hk, rfl, hok⟩ := hrel
      have HOK := Lib.hid hok
      clear hok
      by_cases hlt : k < m
      · have hkl : k < l.length := by rw [HL.out]; exact hlt
        obtain ⟨b, off, rfl, _, hcl⟩ := HA.out.int_at hkl
        go_wp2_with fail
        refine (HF.out l[k] _ (HN.out _ (List.getElem_mem hkl))).mono ?_
        cases hf : fitB l[k] s
        · have HX := Lib.hid (all_notI (fun n => fitB n s) hkl hf)
          rintro e w' ⟨rfl, rfl⟩
          go_wp2
          go_ret
          exact ⟨by rw [HS.out, HX.out]; rfl, rfl⟩
        · have HX := Lib.hid (all_snocI (fun n => fitB n s) hkl HOK.out hf)
          rintro e w' ⟨rfl, rfl⟩
          go_wp2
          exact ⟨⟨k + 1, hkl, by go_num, HX.out⟩, by simp [intOf]; omega⟩
      · obtain rfl : k = m := by have := HL.out; omega
        have HX := Lib.hid (show l.all (fun n => fitB n s) = true by have h := HOK.out; rw [← HL.out, List.take_length] at h; exact h)
        go_wp2
        go_ret
        exact ⟨by rw [HS.out, HX.out]; rfl, rfl⟩
  · have t1 : ((m : Int) != (count : Int)) = true := by rw [bne_iff_ne]; omega
    have HS := Lib.hid (show fitN count s l = false by simp [fitN, hl, hc])
    clear hl hc
    go_enter Try.func101, Try.ntmps101
    go_wp2
    go_ret
    exact ⟨by rw [HS.out]; rfl, rfl⟩

set_option maxRecDepth 4000 in
set_option maxHeartbeats 1000000 in
theorem empty_a (x : DV) (d : Dt) (w : World) : Calls Try.prog 100 #[x.val d, .bool true, .bool false, .bool false, .bool false, .bool false] w (Gave w (.bool ((decide (d.host.length = 0) && (decide (d.mail.length = 0) && (decide (d.nums.length = 0) && decide (d.texts.length = 0))))))) := by
  have HB := Lib.hid ((Below.refl _ w).alloc (Nat.le_refl _) (.cells #[x.vb d, x.vh d, x.vm d, x.vn d, x.vt d] 46))
  by_cases z0 : d.host.length = 0
  case neg =>
    have t0 : ((d.host.length : Int) == 0) = false := by rw [beq_eq_false_iff_ne]; omega
    have HS := Lib.hid (show ((decide (d.host.length = 0) && (decide (d.mail.length = 0) && (decide (d.nums.length = 0) && decide (d.texts.length = 0))))) = false by simp [z0])
    clear z0
    go_enter Try.func100, Try.ntmps100
    go_wp2
    go_ret
    exact ⟨by rw [HS.out]; rfl, HB.out⟩
  have t0 : ((d.host.length : Int) == 0) = true := by rw [beq_iff_eq]; omega
  by_cases z1 : d.mail.length = 0
  case neg =>
    have t1 : ((d.mail.length : Int) == 0) = false := by rw [beq_eq_false_iff_ne]; omega
    have HS := Lib.hid (show ((decide (d.host.length = 0) && (decide (d.mail.length = 0) && (decide (d.nums.length = 0) && decide (d.texts.length = 0))))) = false by simp [z0, z1])
    clear z0 z1
    go_enter Try.func100, Try.ntmps100
    go_wp2
    go_ret
    exact ⟨by rw [HS.out]; rfl, HB.out⟩
  have t1 : ((d.mail.length : Int) == 0) = true := by rw [beq_iff_eq]; omega
  by_cases z2 : d.nums.length = 0
  case neg =>
    have t2 : ((d.nums.length : Int) == 0) = false := by rw [beq_eq_false_iff_ne]; omega
    have HS := Lib.hid (show ((decide (d.host.length = 0) && (decide (d.mail.length = 0) && (decide (d.nums.length = 0) && decide (d.texts.length = 0))))) = false by simp [z0, z1, z2])
    clear z0 z1 z2
    go_enter Try.func100, Try.ntmps100
    go_wp2
    go_ret
    exact ⟨by rw [HS.out]; rfl, HB.out⟩
  have t2 : ((d.nums.length : Int) == 0) = true := by rw [beq_iff_eq]; omega
  by_cases z3 : d.texts.length = 0
  case neg =>
    have t3 : ((d.texts.length : Int) == 0) = false := by rw [beq_eq_false_iff_ne]; omega
    have HS := Lib.hid (show ((decide (d.host.length = 0) && (decide (d.mail.length = 0) && (decide (d.nums.length = 0) && decide (d.texts.length = 0))))) = false by simp [z0, z1, z2, z3])
    clear z0 z1 z2 z3
    go_enter Try.func100, Try.ntmps100
    go_wp2
    go_ret
    exact ⟨by rw [HS.out]; rfl, HB.out⟩
  have t3 : ((d.texts.length : Int) == 0) = true := by rw [beq_iff_eq]; omega
  have HS := Lib.hid (show ((decide (d.host.length = 0) && (decide (d.mail.length = 0) && (decide (d.nums.length = 0) && decide (d.texts.length = 0))))) = true by simp [z0, z1, z2, z3])
  clear z0 z1 z2 z3
  go_enter Try.func100, Try.ntmps100
  go_wp2
  go_ret
  exact ⟨by rw [HS.out]; rfl, HB.out⟩

set_option maxRecDepth 4000 in
set_option maxHeartbeats 1000000 in
theorem empty_n (x : DV) (d : Dt) (w : World) : Calls Try.prog 100 #[x.val d, .bool false, .bool true, .bool false, .bool false, .bool false] w (Gave w (.bool ((decide (d.bytes.length = 0) && (decide (d.mail.length = 0) && (decide (d.nums.length = 0) && decide (d.texts.length = 0))))))) := by
  have HB := Lib.hid ((Below.refl _ w).alloc (Nat.le_refl _) (.cells #[x.vb d, x.vh d, x.vm d, x.vn d, x.vt d] 46))
  by_cases z0 : d.bytes.length = 0
  case neg =>
    have t0 : ((d.bytes.length : Int) == 0) = false := by rw [beq_eq_false_iff_ne]; omega
    have HS := Lib.hid (show ((decide (d.bytes.length = 0) && (decide (d.mail.length = 0) && (decide (d.nums.length = 0) && decide (d.texts.length = 0))))) = false by simp [z0])
    clear z0
    go_enter Try.func100, Try.ntmps100
    go_wp2
    go_ret
    exact ⟨by rw [HS.out]; rfl, HB.out⟩
  have t0 : ((d.bytes.length : Int) == 0) = true := by rw [beq_iff_eq]; omega
  by_cases z1 : d.mail.length = 0
  case neg =>
    have t1 : ((d.mail.length : Int) == 0) = false := by rw [beq_eq_false_iff_ne]; omega
    have HS := Lib.hid (show ((decide (d.bytes.length = 0) && (decide (d.mail.length = 0) && (decide (d.nums.length = 0) && decide (d.texts.length = 0))))) = false by simp [z0, z1])
    clear z0 z1
    go_enter Try.func100, Try.ntmps100
    go_wp2
    go_ret
    exact ⟨by rw [HS.out]; rfl, HB.out⟩
  have t1 : ((d.mail.length : Int) == 0) = true := by rw [beq_iff_eq]; omega
  by_cases z2 : d.nums.length = 0
  case neg =>
    have t2 : ((d.nums.length : Int) == 0) = false := by rw [beq_eq_false_iff_ne]; omega
    have HS := Lib.hid (show ((decide (d.bytes.length = 0) && (decide (d.mail.length = 0) && (decide (d.nums.length = 0) && decide (d.texts.length = 0))))) = false by simp [z0, z1, z2])
    clear z0 z1 z2
    go_enter Try.func100, Try.ntmps100
    go_wp2
    go_ret
    exact ⟨by rw [HS.out]; rfl, HB.out⟩
  have t2 : ((d.nums.length : Int) == 0) = true := by rw [beq_iff_eq]; omega
  by_cases z3 : d.texts.length = 0
  case neg =>
    have t3 : ((d.texts.length : Int) == 0) = false := by rw [beq_eq_false_iff_ne]; omega
    have HS := Lib.hid (show ((decide (d.bytes.length = 0) && (decide (d.mail.length = 0) && (decide (d.nums.length = 0) && decide (d.texts.length = 0))))) = false by simp [z0, z1, z2, z3])
    clear z0 z1 z2 z3
    go_enter Try.func100, Try.ntmps100
    go_wp2
    go_ret
    exact ⟨by rw [HS.out]; rfl, HB.out⟩
  have t3 : ((d.texts.length : Int) == 0) = true := by rw [beq_iff_eq]; omega
  have HS := Lib.hid (show ((decide (d.bytes.length = 0) && (decide (d.mail.length = 0) && (decide (d.nums.length = 0) && decide (d.texts.length = 0))))) = true by simp [z0, z1, z2, z3])
  clear z0 z1 z2 z3
  go_enter Try.func100, Try.ntmps100
  go_wp2
  go_ret
  exact ⟨by rw [HS.out]; rfl, HB.out⟩

set_option maxRecDepth 4000 in
set_option maxHeartbeats 1000000 in
theorem empty_x (x : DV) (d : Dt) (w : World) : Calls Try.prog 100 #[x.val d, .bool false, .bool true, .bool false, .bool true, .bool false] w (Gave w (.bool ((decide (d.bytes.length = 0) && (decide (d.mail.length = 0) && decide (d.texts.length = 0)))))) := by
  have HB := Lib.hid ((Below.refl _ w).alloc (Nat.le_refl _) (.cells #[x.vb d, x.vh d, x.vm d, x.vn d, x.vt d] 46))
  by_cases z0 : d.bytes.length = 0
  case neg =>
    have t0 : ((d.bytes.length : Int) == 0) = false := by rw [beq_eq_false_iff_ne]; omega
    have HS := Lib.hid (show ((decide (d.bytes.length = 0) && (decide (d.mail.length = 0) && decide (d.texts.length = 0)))) = false by simp [z0])
    clear z0
    go_enter Try.func100, Try.ntmps100
    go_wp2
    go_ret
    exact ⟨by rw [HS.out]; rfl, HB.out⟩
  have t0 : ((d.bytes.length : Int) == 0) = true := by rw [beq_iff_eq]; omega
  by_cases z1 : d.mail.length = 0
  case neg =>
    have t1 : ((d.mail.length : Int) == 0) = false := by rw [beq_eq_false_iff_ne]; omega
    have HS := Lib.hid (show ((decide (d.bytes.length = 0) && (decide (d.mail.length = 0) && decide (d.texts.length = 0)))) = false by simp [z0, z1])
    clear z0 z1
    go_enter Try.func100, Try.ntmps100
    go_wp2
    go_ret
    exact ⟨by rw [HS.out]; rfl, HB.out⟩
  have t1 : ((d.mail.length : Int) == 0) = true := by rw [beq_iff_eq]; omega
  by_cases z2 : d.texts.length = 0
  case neg =>
    have t2 : ((d.texts.length : Int) == 0) = false := by rw [beq_eq_false_iff_ne]; omega
    have HS := Lib.hid (show ((decide (d.bytes.length = 0) && (decide (d.mail.length = 0) && decide (d.texts.length = 0)))) = false by simp [z0, z1, z2])
    clear z0 z1 z2
    go_enter Try.func100, Try.ntmps100
    go_wp2
    go_ret
    exact ⟨by rw [HS.out]; rfl, HB.out⟩
  have t2 : ((d.texts.length : Int) == 0) = true := by rw [beq_iff_eq]; omega
  have HS := Lib.hid (show ((decide (d.bytes.length = 0) && (decide (d.mail.length = 0) && decide (d.texts.length = 0)))) = true by simp [z0, z1, z2])
  clear z0 z1 z2
  go_enter Try.func100, Try.ntmps100
  go_wp2
  go_ret
  exact ⟨by rw [HS.out]; rfl, HB.out⟩

set_option maxRecDepth 4000 in
set_option maxHeartbeats 1000000 in
theorem empty_s (x : DV) (d : Dt) (w : World) : Calls Try.prog 100 #[x.val d, .bool false, .bool true, .bool true, .bool true, .bool false] w (Gave w (.bool ((decide (d.bytes.length = 0) && decide (d.texts.length = 0))))) := by
  have HB := Lib.hid ((Below.refl _ w).alloc (Nat.le_refl _) (.cells #[x.vb d, x.vh d, x.vm d, x.vn d, x.vt d] 46))
  by_cases z0 : d.bytes.length = 0
  case neg =>
    have t0 : ((d.bytes.length : Int) == 0) = false := by rw [beq_eq_false_iff_ne]; omega
    have HS := Lib.hid (show ((decide (d.bytes.length = 0) && decide (d.texts.length = 0))) = false by simp [z0])
    clear z0
    go_enter Try.func100, Try.ntmps100
    go_wp2
    go_ret
    exact ⟨by rw [HS.out]; rfl, HB.out⟩
  have t0 : ((d.bytes.length : Int) == 0) = true := by rw [beq_iff_eq]; omega
  by_cases z1 : d.texts.length = 0
  case neg =>
    have t1 : ((d.texts.length : Int) == 0) = false := by rw [beq_eq_false_iff_ne]; omega
    have HS := Lib.hid (show ((decide (d.bytes.length = 0) && decide (d.texts.length = 0))) = false by simp [z0, z1])
    clear z0 z1
    go_enter Try.func100, Try.ntmps100
    go_wp2
    go_ret
    exact ⟨by rw [HS.out]; rfl, HB.out⟩
  have t1 : ((d.texts.length : Int) == 0) = true := by rw [beq_iff_eq]; omega
  have HS := Lib.hid (show ((decide (d.bytes.length = 0) && decide (d.texts.length = 0))) = true by simp [z0, z1])
  clear z0 z1
  go_enter Try.func100, Try.ntmps100
  go_wp2
  go_ret
  exact ⟨by rw [HS.out]; rfl, HB.out⟩

set_option maxRecDepth 4000 in
set_option maxHeartbeats 1000000 in
theorem empty_t (x : DV) (d : Dt) (w : World) : Calls Try.prog 100 #[x.val d, .bool false, .bool false, .bool false, .bool false, .bool true] w (Gave w (.bool ((decide (d.bytes.length = 0) && (decide (d.host.length = 0) && (decide (d.mail.length = 0) && decide (d.nums.length = 0))))))) := by
  have HB := Lib.hid ((Below.refl _ w).alloc (Nat.le_refl _) (.cells #[x.vb d, x.vh d, x.vm d, x.vn d, x.vt d] 46))
  by_cases z0 : d.bytes.length = 0
  case neg =>
    have t0 : ((d.bytes.length : Int) == 0) = false := by rw [beq_eq_false_iff_ne]; omega
    have HS := Lib.hid (show ((decide (d.bytes.length = 0) && (decide (d.host.length = 0) && (decide (d.mail.length = 0) && decide (d.nums.length = 0))))) = false by simp [z0])
    clear z0
    go_enter Try.func100, Try.ntmps100
    go_wp2
    go_ret
    exact ⟨by rw [HS.out]; rfl, HB.out⟩
  have t0 : ((d.bytes.length : Int) == 0) = true := by rw [beq_iff_eq]; omega
  by_cases z1 : d.host.length = 0
  case neg =>
    have t1 : ((d.host.length : Int) == 0) = false := by rw [beq_eq_false_iff_ne]; omega
    have HS := Lib.hid (show ((decide (d.bytes.length = 0) && (decide (d.host.length = 0) && (decide (d.mail.length = 0) && decide (d.nums.length = 0))))) = false by simp [z0, z1])
    clear z0 z1
    go_enter Try.func100, Try.ntmps100
    go_wp2
    go_ret
    exact ⟨by rw [HS.out]; rfl, HB.out⟩
  have t1 : ((d.host.length : Int) == 0) = true := by rw [beq_iff_eq]; omega
  by_cases z2 : d.mail.length = 0
  case neg =>
    have t2 : ((d.mail.length : Int) == 0) = false := by rw [beq_eq_false_iff_ne]; omega
    have HS := Lib.hid (show ((decide (d.bytes.length = 0) && (decide (d.host.length = 0) && (decide (d.mail.length = 0) && decide (d.nums.length = 0))))) = false by simp [z0, z1, z2])
    clear z0 z1 z2
    go_enter Try.func100, Try.ntmps100
    go_wp2
    go_ret
    exact ⟨by rw [HS.out]; rfl, HB.out⟩
  have t2 : ((d.mail.length : Int) == 0) = true := by rw [beq_iff_eq]; omega
  by_cases z3 : d.nums.length = 0
  case neg =>
    have t3 : ((d.nums.length : Int) == 0) = false := by rw [beq_eq_false_iff_ne]; omega
    have HS := Lib.hid (show ((decide (d.bytes.length = 0) && (decide (d.host.length = 0) && (decide (d.mail.length = 0) && decide (d.nums.length = 0))))) = false by simp [z0, z1, z2, z3])
    clear z0 z1 z2 z3
    go_enter Try.func100, Try.ntmps100
    go_wp2
    go_ret
    exact ⟨by rw [HS.out]; rfl, HB.out⟩
  have t3 : ((d.nums.length : Int) == 0) = true := by rw [beq_iff_eq]; omega
  have HS := Lib.hid (show ((decide (d.bytes.length = 0) && (decide (d.host.length = 0) && (decide (d.mail.length = 0) && decide (d.nums.length = 0))))) = true by simp [z0, z1, z2, z3])
  clear z0 z1 z2 z3
  go_enter Try.func100, Try.ntmps100
  go_wp2
  go_ret
  exact ⟨by rw [HS.out]; rfl, HB.out⟩

theorem numsOk_two {ah : Nat} {l : List Int} (h : l.length ≤ ah) : numsOk ah l = l.all fun n => fitB n 2 := by
  unfold numsOk
  rw [Bool.eq_iff_iff, List.all_eq_true, List.all_eq_true]
  constructor
  · intro hr n hn
    obtain ⟨i, hi, rfl⟩ := List.getElem_of_mem hn
    have := hr i (List.mem_range.2 hi)
    rw [sizeAt, if_pos (by omega)] at this
    simpa [List.getD, hi] using this
  · intro hr i hi
    have hi2 := List.mem_range.1 hi
    rw [sizeAt, if_pos (by omega)]
    simpa [List.getD, hi2] using hr l[i] (List.getElem_mem hi2)
theorem numsOk_four (l : List Int) : numsOk 0 l = l.all fun n => fitB n 4 := by
  unfold numsOk
  rw [Bool.eq_iff_iff, List.all_eq_true, List.all_eq_true]
  constructor
  · intro hr n hn
    obtain ⟨i, hi, rfl⟩ := List.getElem_of_mem hn
    have := hr i (List.mem_range.2 hi)
    rw [sizeAt, if_neg (by omega)] at this
    simpa [List.getD, hi] using this
  · intro hr i hi
    have hi2 := List.mem_range.1 hi
    rw [sizeAt, if_neg (by omega)]
    simpa [List.getD, hi2] using hr l[i] (List.getElem_mem hi2)
theorem soundNm_true (n : List (List UInt8)) : soundNm n true = soundN n := by
  unfold soundNm
  by_cases h : n.length = 0
  · have : n = [] := List.eq_nil_of_length_eq_zero h
    subst this
    decide
  · simp [h]
theorem soundNm_false (n : List (List UInt8)) : soundNm n false = decide (n.length = 0) := by simp [soundNm]
theorem soundNs_two {a : Nat} {l : List Int} {s : Sh} (h1 : s.ahead = a) (h2 : s.behind = 0) : soundNs s l = fitN a 2 l := by
  unfold soundNs fitN
  rw [h1, h2]
  by_cases h : l.length = a
  · rw [numsOk_two (by omega)]; simp
  · simp [h]
theorem soundNs_four {b : Nat} {l : List Int} {s : Sh} (h1 : s.ahead = 0) (h2 : s.behind = b) : soundNs s l = fitN b 4 l := by
  unfold soundNs fitN
  rw [h1, h2, numsOk_four]
  simp
theorem fitN_zero (s : Int) (l : List Int) : fitN 0 s l = decide (l.length = 0) := by
  unfold fitN
  by_cases h : l.length = 0
  · have : l = [] := List.eq_nil_of_length_eq_zero h
    subst this
    rfl
  · simp [h]

theorem soundD_1 (d : Dt) : soundD 1 d = (decide (d.bytes.length = 4) && (decide (d.host.length = 0) && (decide (d.mail.length = 0) && (decide (d.nums.length = 0) && decide (d.texts.length = 0))))) := by
  have hk : kindB 1 = true := by decide
  have hs : shN 1 = ⟨0, false, false, false, 0, false, 4, 4⟩ := by simp [shN]
  unfold soundD
  rw [hk, hs, soundNs_two (s := ⟨0, false, false, false, 0, false, 4, 4⟩) (a := 0) rfl rfl]
  simp only [soundBs, soundTs, soundNm_false, fitN_zero, Bool.true_and]
  rw [Bool.eq_iff_iff]
  simp only [Bool.and_eq_true, decide_eq_true_eq, if_false, Bool.false_eq_true]
  constructor
  · rintro ⟨⟨a1, a2⟩, a3, a4, a5, a6⟩
    skip
    exact ⟨by omega, a3, a4, a5, a6⟩
  · rintro ⟨b1, b2, b3, b4, b5⟩
    exact ⟨⟨by omega, by omega⟩, b2, b3, b4, b5⟩

theorem soundD_28 (d : Dt) : soundD 28 d = (decide (d.bytes.length = 16) && (decide (d.host.length = 0) && (decide (d.mail.length = 0) && (decide (d.nums.length = 0) && decide (d.texts.length = 0))))) := by
  have hk : kindB 28 = true := by decide
  have hs : shN 28 = ⟨0, false, false, false, 0, false, 16, 16⟩ := by simp [shN]
  unfold soundD
  rw [hk, hs, soundNs_two (s := ⟨0, false, false, false, 0, false, 16, 16⟩) (a := 0) rfl rfl]
  simp only [soundBs, soundTs, soundNm_false, fitN_zero, Bool.true_and]
  rw [Bool.eq_iff_iff]
  simp only [Bool.and_eq_true, decide_eq_true_eq, if_false, Bool.false_eq_true]
  constructor
  · rintro ⟨⟨a1, a2⟩, a3, a4, a5, a6⟩
    skip
    exact ⟨by omega, a3, a4, a5, a6⟩
  · rintro ⟨b1, b2, b3, b4, b5⟩
    exact ⟨⟨by omega, by omega⟩, b2, b3, b4, b5⟩

theorem soundD_2 (d : Dt) : soundD 2 d = (soundN d.host && (decide (d.bytes.length = 0) && (decide (d.mail.length = 0) && (decide (d.nums.length = 0) && decide (d.texts.length = 0))))) := by
  have hk : kindB 2 = true := by decide
  have hs : shN 2 = ⟨0, true, false, true, 0, false, 0, 0⟩ := by simp [shN]
  unfold soundD
  rw [hk, hs, soundNs_two (s := ⟨0, true, false, true, 0, false, 0, 0⟩) (a := 0) rfl rfl]
  simp only [soundBs, soundTs, soundNm_true, soundNm_false, fitN_zero, Bool.true_and]
  rw [Bool.eq_iff_iff]
  simp only [Bool.and_eq_true, decide_eq_true_eq, if_false, Bool.false_eq_true]
  constructor
  · rintro ⟨⟨a1, a2⟩, a3, a4, a5, a6⟩
    skip
    exact ⟨a3, by omega, a4, a5, a6⟩
  · rintro ⟨b1, b2, b3, b4, b5⟩
    exact ⟨⟨by omega, by omega⟩, b1, b3, b4, b5⟩

theorem soundD_5 (d : Dt) : soundD 5 d = (soundN d.host && (decide (d.bytes.length = 0) && (decide (d.mail.length = 0) && (decide (d.nums.length = 0) && decide (d.texts.length = 0))))) := by
  have hk : kindB 5 = true := by decide
  have hs : shN 5 = ⟨0, true, false, true, 0, false, 0, 0⟩ := by simp [shN]
  unfold soundD
  rw [hk, hs, soundNs_two (s := ⟨0, true, false, true, 0, false, 0, 0⟩) (a := 0) rfl rfl]
  simp only [soundBs, soundTs, soundNm_true, soundNm_false, fitN_zero, Bool.true_and]
  rw [Bool.eq_iff_iff]
  simp only [Bool.and_eq_true, decide_eq_true_eq, if_false, Bool.false_eq_true]
  constructor
  · rintro ⟨⟨a1, a2⟩, a3, a4, a5, a6⟩
    skip
    exact ⟨a3, by omega, a4, a5, a6⟩
  · rintro ⟨b1, b2, b3, b4, b5⟩
    exact ⟨⟨by omega, by omega⟩, b1, b3, b4, b5⟩

theorem soundD_12 (d : Dt) : soundD 12 d = (soundN d.host && (decide (d.bytes.length = 0) && (decide (d.mail.length = 0) && (decide (d.nums.length = 0) && decide (d.texts.length = 0))))) := by
  have hk : kindB 12 = true := by decide
  have hs : shN 12 = ⟨0, true, false, true, 0, false, 0, 0⟩ := by simp [shN]
  unfold soundD
  rw [hk, hs, soundNs_two (s := ⟨0, true, false, true, 0, false, 0, 0⟩) (a := 0) rfl rfl]
  simp only [soundBs, soundTs, soundNm_true, soundNm_false, fitN_zero, Bool.true_and]
  rw [Bool.eq_iff_iff]
  simp only [Bool.and_eq_true, decide_eq_true_eq, if_false, Bool.false_eq_true]
  constructor
  · rintro ⟨⟨a1, a2⟩, a3, a4, a5, a6⟩
    skip
    exact ⟨a3, by omega, a4, a5, a6⟩
  · rintro ⟨b1, b2, b3, b4, b5⟩
    exact ⟨⟨by omega, by omega⟩, b1, b3, b4, b5⟩

theorem soundD_15 (d : Dt) : soundD 15 d = (soundN d.host && (fitN 1 2 d.nums && (decide (d.bytes.length = 0) && (decide (d.mail.length = 0) && decide (d.texts.length = 0))))) := by
  have hk : kindB 15 = true := by decide
  have hs : shN 15 = ⟨1, true, false, true, 0, false, 0, 0⟩ := by simp [shN]
  unfold soundD
  rw [hk, hs, soundNs_two (s := ⟨1, true, false, true, 0, false, 0, 0⟩) (a := 1) rfl rfl]
  simp only [soundBs, soundTs, soundNm_true, soundNm_false, Bool.true_and]
  rw [Bool.eq_iff_iff]
  simp only [Bool.and_eq_true, decide_eq_true_eq, if_false, Bool.false_eq_true]
  constructor
  · rintro ⟨⟨a1, a2⟩, a3, a4, a5, a6⟩
    skip
    exact ⟨a3, a5, by omega, a4, a6⟩
  · rintro ⟨b1, b2, b3, b4, b5⟩
    exact ⟨⟨by omega, by omega⟩, b1, b4, b2, b5⟩

theorem soundD_33 (d : Dt) : soundD 33 d = (soundN d.host && (fitN 3 2 d.nums && (decide (d.bytes.length = 0) && (decide (d.mail.length = 0) && decide (d.texts.length = 0))))) := by
  have hk : kindB 33 = true := by decide
  have hs : shN 33 = ⟨3, true, false, false, 0, false, 0, 0⟩ := by simp [shN]
  unfold soundD
  rw [hk, hs, soundNs_two (s := ⟨3, true, false, false, 0, false, 0, 0⟩) (a := 3) rfl rfl]
  simp only [soundBs, soundTs, soundNm_true, soundNm_false, Bool.true_and]
  rw [Bool.eq_iff_iff]
  simp only [Bool.and_eq_true, decide_eq_true_eq, if_false, Bool.false_eq_true]
  constructor
  · rintro ⟨⟨a1, a2⟩, a3, a4, a5, a6⟩
    skip
    exact ⟨a3, a5, by omega, a4, a6⟩
  · rintro ⟨b1, b2, b3, b4, b5⟩
    exact ⟨⟨by omega, by omega⟩, b1, b4, b2, b5⟩

theorem soundD_6 (d : Dt) : soundD 6 d = (soundN d.host && (soundN d.mail && (fitN 5 4 d.nums && (decide (d.bytes.length = 0) && decide (d.texts.length = 0))))) := by
  have hk : kindB 6 = true := by decide
  have hs : shN 6 = ⟨0, true, true, true, 5, false, 0, 0⟩ := by simp [shN]
  unfold soundD
  rw [hk, hs, soundNs_four (s := ⟨0, true, true, true, 5, false, 0, 0⟩) (b := 5) rfl rfl]
  simp only [soundBs, soundTs, soundNm_true, Bool.true_and]
  rw [Bool.eq_iff_iff]
  simp only [Bool.and_eq_true, decide_eq_true_eq, if_false, Bool.false_eq_true]
  constructor
  · rintro ⟨⟨a1, a2⟩, a3, a4, a5, a6⟩
    skip
    exact ⟨a3, a4, a5, by omega, a6⟩
  · rintro ⟨b1, b2, b3, b4, b5⟩
    exact ⟨⟨by omega, by omega⟩, b1, b2, b3, b5⟩

theorem soundD_16 (d : Dt) : soundD 16 d = (decide (1 ≤ d.texts.length) && (decide (d.texts.length ≤ 64) && ((decide (d.bytes.length = 0) && (decide (d.host.length = 0) && (decide (d.mail.length = 0) && decide (d.nums.length = 0)))) && d.texts.all (fun t => decide (t.length ≤ 255))))) := by
  have hk : kindB 16 = true := by decide
  have hs : shN 16 = ⟨0, false, false, false, 0, true, 0, 0⟩ := by simp [shN]
  unfold soundD
  rw [hk, hs, soundNs_two (s := ⟨0, false, false, false, 0, true, 0, 0⟩) (a := 0) rfl rfl]
  simp only [soundBs, soundTs, soundNm_false, fitN_zero, Bool.true_and]
  rw [Bool.eq_iff_iff]
  simp only [Bool.and_eq_true, decide_eq_true_eq, if_true]
  constructor
  · rintro ⟨⟨a1, a2⟩, a3, a4, a5, a6⟩
    obtain ⟨a6, a7, a8⟩ := a6
    exact ⟨a7, a8, ⟨by omega, a3, a4, a5⟩, a6⟩
  · rintro ⟨b1, b2, ⟨b3, b4, b5, b6⟩, b7⟩
    exact ⟨⟨by omega, by omega⟩, b4, b5, b6, b7, b1, b2⟩

theorem soundD_other {k : Int} (d : Dt) (hk : kindB k = true) (h : (k == 1) = false ∧ (k == 28) = false ∧ (k == 2) = false ∧ (k == 5) = false ∧ (k == 12) = false ∧ (k == 15) = false ∧ (k == 6) = false ∧ (k == 16) = false ∧ (k == 33) = false) :
    soundD k d = (decide (d.bytes.length ≤ 65535) && (decide (d.host.length = 0) && (decide (d.mail.length = 0) && (decide (d.nums.length = 0) && decide (d.texts.length = 0))))) := by
  unfold soundD
  rw [hk, shN_other h, soundNs_two (s := ⟨0, false, false, false, 0, false, 0, 65535⟩) (a := 0) rfl rfl]
  simp only [soundBs, soundTs, soundNm_false, fitN_zero, Bool.true_and]
  rw [Bool.eq_iff_iff]
  simp only [Bool.and_eq_true, decide_eq_true_eq, if_false, Bool.false_eq_true]
  constructor
  · rintro ⟨⟨a1, a2⟩, a3, a4, a5, a6⟩
    exact ⟨a2, a3, a4, a5, a6⟩
  · rintro ⟨b1, b2, b3, b4, b5⟩
    exact ⟨⟨by omega, b1⟩, b2, b3, b4, b5⟩

end Go.Proofs.Ytjkjhpaeckkpjaa

namespace Go.Proofs.Ytjkjhpaeckkpjaa
open Go.RowKit

/-- What the document's Data asks of its argument. -/
structure RefIn (d : Dt) : Prop where
  h : d.host.length ≤ maxLen ∧ ∀ k (h : k < d.host.length), (d.host[k]).length ≤ maxLen
  m : d.mail.length ≤ maxLen ∧ ∀ k (h : k < d.mail.length), (d.mail[k]).length ≤ maxLen
  t : d.texts.length ≤ maxLen
  tl : ∀ k (h : k < d.texts.length), (d.texts[k]).length ≤ maxLen
  n : ∀ n ∈ d.nums, n ≤ 9223372036854775807

theorem rdata_kind (k : Int) (x : DV) (d : Dt) (w : World) (hk : kindB k = false) :
    Calls Try.prog 94 #[.int .i64 k, x.val d] w (Gave w (.bool (soundD k d))) := by
  have HB := Lib.hid ((Below.refl _ w).alloc (Nat.le_refl _) (.cells #[x.vb d, x.vh d, x.vm d, x.vn d, x.vt d] 46))
  have HS := Lib.hid (show soundD k d = false by unfold soundD; rw [hk]; rfl)
  have h : k < 1 ∨ 65535 < k := by
    unfold kindB at hk
    simp only [decide_eq_false_iff_not] at hk
    omega
  clear hk
  by_cases h1 : k < 1
  · have d1 : decide (k < 1) = true := by simp; omega
    clear h h1
    go_enter Try.func94, Try.ntmps94
    go_wp2
    go_ret
    exact ⟨by rw [HS.out]; rfl, HB.out⟩
  · have d1 : decide (k < 1) = false := by simp; omega
    have d2 : decide (65535 < k) = true := by simp; omega
    clear h h1
    go_enter Try.func94, Try.ntmps94
    go_wp2
    go_ret
    exact ⟨by rw [HS.out]; rfl, HB.out⟩

set_option maxRecDepth 4000 in
set_option maxHeartbeats 1000000 in
theorem rdata_1 (x : DV) (d : Dt) (w : World) (hx : DataAt w w.heap.size x d) (hi : RefIn d) :
    Calls Try.prog 94 #[.int .i64 1, x.val d] w (Gave w (.bool (soundD 1 d))) := by
  have kn : d.nums.length ≤ maxLen := Nat.le_trans hx.ln hx.kn
  have kb : d.bytes.length ≤ maxLen := Nat.le_trans hx.lb hx.kb
  obtain ⟨W, hW⟩ : ∃ W, W = w.alloc (.cells #[.slice x.Ab d.bytes.length x.cb, .slice x.Ah d.host.length x.ch, .slice x.Am d.mail.length x.cm, .slice x.An d.nums.length x.cn, .slice x.At d.texts.length x.ct] 46) := ⟨_, rfl⟩
  have hD : DataAt W w.heap.size x d := by rw [hW]; exact hx.alloc (Nat.le_refl _) _
  have hB : Below w.heap.size w W := by rw [hW]; exact (Below.refl _ _).alloc (Nat.le_refl _) _
  have hsz : w.heap.size ≤ W.heap.size := by rw [hW]; simp
  have hwh : Whole W w.heap.size 46 [x.vb d, x.vh d, x.vm d, x.vn d, x.vt d] := by rw [hW]; exact Whole.made w [x.vb d, x.vh d, x.vm d, x.vn d, x.vt d] _
  have c0 : W.cell? ⟨w.heap.size, 0, none⟩ = some (.slice x.Ab d.bytes.length x.cb) := hwh.cell 0
  have c1 : W.cell? ⟨w.heap.size, 1, none⟩ = some (.slice x.Ah d.host.length x.ch) := hwh.cell 1
  have c2 : W.cell? ⟨w.heap.size, 2, none⟩ = some (.slice x.Am d.mail.length x.cm) := hwh.cell 2
  have c3 : W.cell? ⟨w.heap.size, 3, none⟩ = some (.slice x.An d.nums.length x.cn) := hwh.cell 3
  have c4 : W.cell? ⟨w.heap.size, 4, none⟩ = some (.slice x.At d.texts.length x.ct) := hwh.cell 4
  have HB := Lib.hid hB
  have HW := Lib.hid hW
  have HH := Lib.hid (fun (_ : Unit) => ref_sound_wide x.Ah x.ch w.heap.size d.host W hD.h hi.h.1 hi.h.2)
  have HM := Lib.hid (fun (_ : Unit) => ref_sound_wide x.Am x.cm w.heap.size d.mail W hD.m hi.m.1 hi.m.2)
  have HF := Lib.hid (fun (_ : Unit) (a : Nat) (s : Int) => fit_any x.An d.nums.length x.cn w.heap.size d.nums a s W rfl hD.n kn hi.n)
  have HSZ := Lib.hid hsz
  unfold maxLen at kb kn
  have HS := Lib.hid (soundD_1 d)
  clear hD hB hwh hsz hx hi hW
  cases hv : decide (d.bytes.length = 4) with
  | false =>
    have t0 : ((d.bytes.length : Int) == 4) = false := by rw [beq_eq_false_iff_ne]; have := of_decide_eq_false hv; omega
    rw [hv] at HS
    clear hv
    go_enter Try.func94, Try.ntmps94
    rw [HW.out] at c0 c1 c2 c3 c4
    go_wp2
    go_ret
    exact ⟨by rw [HS.out]; rfl, by have h := HB.out; rw [HW.out] at h; exact h⟩
  | true =>
  have t0 : ((d.bytes.length : Int) == 4) = true := by rw [beq_iff_eq]; have := of_decide_eq_true hv; omega
  rw [hv] at HS
  clear hv
  go_enter Try.func94, Try.ntmps94
  rw [HW.out] at c0 c1 c2 c3 c4
  go_wp2_with fail
  rw [← HW.out]
  refine (empty_a x d W).mono ?_
  rintro e w' ⟨rfl, hb⟩
  have HE := Lib.hid (HB.out.trans (hb.mono HSZ.out))
  clear hb
  go_wp2
  go_ret
  refine ⟨?_, HE.out⟩
  rw [HS.out]
  simp

set_option maxRecDepth 4000 in
set_option maxHeartbeats 1000000 in
theorem rdata_28 (x : DV) (d : Dt) (w : World) (hx : DataAt w w.heap.size x d) (hi : RefIn d) :
    Calls Try.prog 94 #[.int .i64 28, x.val d] w (Gave w (.bool (soundD 28 d))) := by
  have kn : d.nums.length ≤ maxLen := Nat.le_trans hx.ln hx.kn
  have kb : d.bytes.length ≤ maxLen := Nat.le_trans hx.lb hx.kb
  obtain ⟨W, hW⟩ : ∃ W, W = w.alloc (.cells #[.slice x.Ab d.bytes.length x.cb, .slice x.Ah d.host.length x.ch, .slice x.Am d.mail.length x.cm, .slice x.An d.nums.length x.cn, .slice x.At d.texts.length x.ct] 46) := ⟨_, rfl⟩
  have hD : DataAt W w.heap.size x d := by rw [hW]; exact hx.alloc (Nat.le_refl _) _
  have hB : Below w.heap.size w W := by rw [hW]; exact (Below.refl _ _).alloc (Nat.le_refl _) _
  have hsz : w.heap.size ≤ W.heap.size := by rw [hW]; simp
  have hwh : Whole W w.heap.size 46 [x.vb d, x.vh d, x.vm d, x.vn d, x.vt d] := by rw [hW]; exact Whole.made w [x.vb d, x.vh d, x.vm d, x.vn d, x.vt d] _
  have c0 : W.cell? ⟨w.heap.size, 0, none⟩ = some (.slice x.Ab d.bytes.length x.cb) := hwh.cell 0
  have c1 : W.cell? ⟨w.heap.size, 1, none⟩ = some (.slice x.Ah d.host.length x.ch) := hwh.cell 1
  have c2 : W.cell? ⟨w.heap.size, 2, none⟩ = some (.slice x.Am d.mail.length x.cm) := hwh.cell 2
  have c3 : W.cell? ⟨w.heap.size, 3, none⟩ = some (.slice x.An d.nums.length x.cn) := hwh.cell 3
  have c4 : W.cell? ⟨w.heap.size, 4, none⟩ = some (.slice x.At d.texts.length x.ct) := hwh.cell 4
  have HB := Lib.hid hB
  have HW := Lib.hid hW
  have HH := Lib.hid (fun (_ : Unit) => ref_sound_wide x.Ah x.ch w.heap.size d.host W hD.h hi.h.1 hi.h.2)
  have HM := Lib.hid (fun (_ : Unit) => ref_sound_wide x.Am x.cm w.heap.size d.mail W hD.m hi.m.1 hi.m.2)
  have HF := Lib.hid (fun (_ : Unit) (a : Nat) (s : Int) => fit_any x.An d.nums.length x.cn w.heap.size d.nums a s W rfl hD.n kn hi.n)
  have HSZ := Lib.hid hsz
  unfold maxLen at kb kn
  have HS := Lib.hid (soundD_28 d)
  clear hD hB hwh hsz hx hi hW
  cases hv : decide (d.bytes.length = 16) with
  | false =>
    have t0 : ((d.bytes.length : Int) == 16) = false := by rw [beq_eq_false_iff_ne]; have := of_decide_eq_false hv; omega
    rw [hv] at HS
    clear hv
    go_enter Try.func94, Try.ntmps94
    rw [HW.out] at c0 c1 c2 c3 c4
    go_wp2
    go_ret
    exact ⟨by rw [HS.out]; rfl, by have h := HB.out; rw [HW.out] at h; exact h⟩
  | true =>
  have t0 : ((d.bytes.length : Int) == 16) = true := by rw [beq_iff_eq]; have := of_decide_eq_true hv; omega
  rw [hv] at HS
  clear hv
  go_enter Try.func94, Try.ntmps94
  rw [HW.out] at c0 c1 c2 c3 c4
  go_wp2_with fail
  rw [← HW.out]
  refine (empty_a x d W).mono ?_
  rintro e w' ⟨rfl, hb⟩
  have HE := Lib.hid (HB.out.trans (hb.mono HSZ.out))
  clear hb
  go_wp2
  go_ret
  refine ⟨?_, HE.out⟩
  rw [HS.out]
  simp

set_option maxRecDepth 4000 in
set_option maxHeartbeats 1000000 in
theorem rdata_2 (x : DV) (d : Dt) (w : World) (hx : DataAt w w.heap.size x d) (hi : RefIn d) :
    Calls Try.prog 94 #[.int .i64 2, x.val d] w (Gave w (.bool (soundD 2 d))) := by
  have kn : d.nums.length ≤ maxLen := Nat.le_trans hx.ln hx.kn
  have kb : d.bytes.length ≤ maxLen := Nat.le_trans hx.lb hx.kb
  obtain ⟨W, hW⟩ : ∃ W, W = w.alloc (.cells #[.slice x.Ab d.bytes.length x.cb, .slice x.Ah d.host.length x.ch, .slice x.Am d.mail.length x.cm, .slice x.An d.nums.length x.cn, .slice x.At d.texts.length x.ct] 46) := ⟨_, rfl⟩
  have hD : DataAt W w.heap.size x d := by rw [hW]; exact hx.alloc (Nat.le_refl _) _
  have hB : Below w.heap.size w W := by rw [hW]; exact (Below.refl _ _).alloc (Nat.le_refl _) _
  have hsz : w.heap.size ≤ W.heap.size := by rw [hW]; simp
  have hwh : Whole W w.heap.size 46 [x.vb d, x.vh d, x.vm d, x.vn d, x.vt d] := by rw [hW]; exact Whole.made w [x.vb d, x.vh d, x.vm d, x.vn d, x.vt d] _
  have c0 : W.cell? ⟨w.heap.size, 0, none⟩ = some (.slice x.Ab d.bytes.length x.cb) := hwh.cell 0
  have c1 : W.cell? ⟨w.heap.size, 1, none⟩ = some (.slice x.Ah d.host.length x.ch) := hwh.cell 1
  have c2 : W.cell? ⟨w.heap.size, 2, none⟩ = some (.slice x.Am d.mail.length x.cm) := hwh.cell 2
  have c3 : W.cell? ⟨w.heap.size, 3, none⟩ = some (.slice x.An d.nums.length x.cn) := hwh.cell 3
  have c4 : W.cell? ⟨w.heap.size, 4, none⟩ = some (.slice x.At d.texts.length x.ct) := hwh.cell 4
  have HB := Lib.hid hB
  have HW := Lib.hid hW
  have HH := Lib.hid (fun (_ : Unit) => ref_sound_wide x.Ah x.ch w.heap.size d.host W hD.h hi.h.1 hi.h.2)
  have HM := Lib.hid (fun (_ : Unit) => ref_sound_wide x.Am x.cm w.heap.size d.mail W hD.m hi.m.1 hi.m.2)
  have HF := Lib.hid (fun (_ : Unit) (a : Nat) (s : Int) => fit_any x.An d.nums.length x.cn w.heap.size d.nums a s W rfl hD.n kn hi.n)
  have HSZ := Lib.hid hsz
  unfold maxLen at kb kn
  have HS := Lib.hid (soundD_2 d)
  clear hD hB hwh hsz hx hi hW
  go_enter Try.func94, Try.ntmps94
  rw [HW.out] at c0 c1 c2 c3 c4
  go_wp2_with fail
  rw [← HW.out]
  rw [← HW.out] at c0 c1 c2 c3 c4
  refine (HH.out ()).mono ?_
  intro e w' hO
  obtain ⟨he, hw⟩ := hO
  subst hw
  cases hv : soundN d.host with
  | false =>
    rw [hv] at he HS
    subst he
    go_wp2
    go_ret
    exact ⟨by rw [HS.out]; rfl, HB.out⟩
  | true =>
  rw [hv] at he HS
  subst he
  go_wp2_with fail
  refine (empty_n x d W).mono ?_
  rintro e w' ⟨rfl, hb⟩
  have HE := Lib.hid (HB.out.trans (hb.mono HSZ.out))
  clear hb
  go_wp2
  go_ret
  refine ⟨?_, HE.out⟩
  rw [HS.out]
  simp

set_option maxRecDepth 4000 in
set_option maxHeartbeats 1000000 in
theorem rdata_5 (x : DV) (d : Dt) (w : World) (hx : DataAt w w.heap.size x d) (hi : RefIn d) :
    Calls Try.prog 94 #[.int .i64 5, x.val d] w (Gave w (.bool (soundD 5 d))) := by
  have kn : d.nums.length ≤ maxLen := Nat.le_trans hx.ln hx.kn
  have kb : d.bytes.length ≤ maxLen := Nat.le_trans hx.lb hx.kb
  obtain ⟨W, hW⟩ : ∃ W, W = w.alloc (.cells #[.slice x.Ab d.bytes.length x.cb, .slice x.Ah d.host.length x.ch, .slice x.Am d.mail.length x.cm, .slice x.An d.nums.length x.cn, .slice x.At d.texts.length x.ct] 46) := ⟨_, rfl⟩
  have hD : DataAt W w.heap.size x d := by rw [hW]; exact hx.alloc (Nat.le_refl _) _
  have hB : Below w.heap.size w W := by rw [hW]; exact (Below.refl _ _).alloc (Nat.le_refl _) _
  have hsz : w.heap.size ≤ W.heap.size := by rw [hW]; simp
  have hwh : Whole W w.heap.size 46 [x.vb d, x.vh d, x.vm d, x.vn d, x.vt d] := by rw [hW]; exact Whole.made w [x.vb d, x.vh d, x.vm d, x.vn d, x.vt d] _
  have c0 : W.cell? ⟨w.heap.size, 0, none⟩ = some (.slice x.Ab d.bytes.length x.cb) := hwh.cell 0
  have c1 : W.cell? ⟨w.heap.size, 1, none⟩ = some (.slice x.Ah d.host.length x.ch) := hwh.cell 1
  have c2 : W.cell? ⟨w.heap.size, 2, none⟩ = some (.slice x.Am d.mail.length x.cm) := hwh.cell 2
  have c3 : W.cell? ⟨w.heap.size, 3, none⟩ = some (.slice x.An d.nums.length x.cn) := hwh.cell 3
  have c4 : W.cell? ⟨w.heap.size, 4, none⟩ = some (.slice x.At d.texts.length x.ct) := hwh.cell 4
  have HB := Lib.hid hB
  have HW := Lib.hid hW
  have HH := Lib.hid (fun (_ : Unit) => ref_sound_wide x.Ah x.ch w.heap.size d.host W hD.h hi.h.1 hi.h.2)
  have HM := Lib.hid (fun (_ : Unit) => ref_sound_wide x.Am x.cm w.heap.size d.mail W hD.m hi.m.1 hi.m.2)
  have HF := Lib.hid (fun (_ : Unit) (a : Nat) (s : Int) => fit_any x.An d.nums.length x.cn w.heap.size d.nums a s W rfl hD.n kn hi.n)
  have HSZ := Lib.hid hsz
  unfold maxLen at kb kn
  have HS := Lib.hid (soundD_5 d)
  clear hD hB hwh hsz hx hi hW
  go_enter Try.func94, Try.ntmps94
  rw [HW.out] at c0 c1 c2 c3 c4
  go_wp2_with fail
  rw [← HW.out]
  rw [← HW.out] at c0 c1 c2 c3 c4
  refine (HH.out ()).mono ?_
  intro e w' hO
  obtain ⟨he, hw⟩ := hO
  subst hw
  cases hv : soundN d.host with
  | false =>
    rw [hv] at he HS
    subst he
    go_wp2
    go_ret
    exact ⟨by rw [HS.out]; rfl, HB.out⟩
  | true =>
  rw [hv] at he HS
  subst he
  go_wp2_with fail
  refine (empty_n x d W).mono ?_
  rintro e w' ⟨rfl, hb⟩
  have HE := Lib.hid (HB.out.trans (hb.mono HSZ.out))
  clear hb
  go_wp2
  go_ret
  refine ⟨?_, HE.out⟩
  rw [HS.out]
  simp

set_option maxRecDepth 4000 in
set_option maxHeartbeats 1000000 in
theorem rdata_12 (x : DV) (d : Dt) (w : World) (hx : DataAt w w.heap.size x d) (hi : RefIn d) :
    Calls Try.prog 94 #[.int .i64 12, x.val d] w (Gave w (.bool (soundD 12 d))) := by
  have kn : d.nums.length ≤ maxLen := Nat.le_trans hx.ln hx.kn
  have kb : d.bytes.length ≤ maxLen := Nat.le_trans hx.lb hx.kb
  obtain ⟨W, hW⟩ : ∃ W, W = w.alloc (.cells #[.slice x.Ab d.bytes.length x.cb, .slice x.Ah d.host.length x.ch, .slice x.Am d.mail.length x.cm, .slice x.An d.nums.length x.cn, .slice x.At d.texts.length x.ct] 46) := ⟨_, rfl⟩
  have hD : DataAt W w.heap.size x d := by rw [hW]; exact hx.alloc (Nat.le_refl _) _
  have hB : Below w.heap.size w W := by rw [hW]; exact (Below.refl _ _).alloc (Nat.le_refl _) _
  have hsz : w.heap.size ≤ W.heap.size := by rw [hW]; simp
  have hwh : Whole W w.heap.size 46 [x.vb d, x.vh d, x.vm d, x.vn d, x.vt d] := by rw [hW]; exact Whole.made w [x.vb d, x.vh d, x.vm d, x.vn d, x.vt d] _
  have c0 : W.cell? ⟨w.heap.size, 0, none⟩ = some (.slice x.Ab d.bytes.length x.cb) := hwh.cell 0
  have c1 : W.cell? ⟨w.heap.size, 1, none⟩ = some (.slice x.Ah d.host.length x.ch) := hwh.cell 1
  have c2 : W.cell? ⟨w.heap.size, 2, none⟩ = some (.slice x.Am d.mail.length x.cm) := hwh.cell 2
  have c3 : W.cell? ⟨w.heap.size, 3, none⟩ = some (.slice x.An d.nums.length x.cn) := hwh.cell 3
  have c4 : W.cell? ⟨w.heap.size, 4, none⟩ = some (.slice x.At d.texts.length x.ct) := hwh.cell 4
  have HB := Lib.hid hB
  have HW := Lib.hid hW
  have HH := Lib.hid (fun (_ : Unit) => ref_sound_wide x.Ah x.ch w.heap.size d.host W hD.h hi.h.1 hi.h.2)
  have HM := Lib.hid (fun (_ : Unit) => ref_sound_wide x.Am x.cm w.heap.size d.mail W hD.m hi.m.1 hi.m.2)
  have HF := Lib.hid (fun (_ : Unit) (a : Nat) (s : Int) => fit_any x.An d.nums.length x.cn w.heap.size d.nums a s W rfl hD.n kn hi.n)
  have HSZ := Lib.hid hsz
  unfold maxLen at kb kn
  have HS := Lib.hid (soundD_12 d)
  clear hD hB hwh hsz hx hi hW
  go_enter Try.func94, Try.ntmps94
  rw [HW.out] at c0 c1 c2 c3 c4
  go_wp2_with fail
  rw [← HW.out]
  rw [← HW.out] at c0 c1 c2 c3 c4
  refine (HH.out ()).mono ?_
  intro e w' hO
  obtain ⟨he, hw⟩ := hO
  subst hw
  cases hv : soundN d.host with
  | false =>
    rw [hv] at he HS
    subst he
    go_wp2
    go_ret
    exact ⟨by rw [HS.out]; rfl, HB.out⟩
  | true =>
  rw [hv] at he HS
  subst he
  go_wp2_with fail
  refine (empty_n x d W).mono ?_
  rintro e w' ⟨rfl, hb⟩
  have HE := Lib.hid (HB.out.trans (hb.mono HSZ.out))
  clear hb
  go_wp2
  go_ret
  refine ⟨?_, HE.out⟩
  rw [HS.out]
  simp

set_option maxRecDepth 4000 in
set_option maxHeartbeats 1000000 in
theorem rdata_15 (x : DV) (d : Dt) (w : World) (hx : DataAt w w.heap.size x d) (hi : RefIn d) :
    Calls Try.prog 94 #[.int .i64 15, x.val d] w (Gave w (.bool (soundD 15 d))) := by
  have kn : d.nums.length ≤ maxLen := Nat.le_trans hx.ln hx.kn
  have kb : d.bytes.length ≤ maxLen := Nat.le_trans hx.lb hx.kb
  obtain ⟨W, hW⟩ : ∃ W, W = w.alloc (.cells #[.slice x.Ab d.bytes.length x.cb, .slice x.Ah d.host.length x.ch, .slice x.Am d.mail.length x.cm, .slice x.An d.nums.length x.cn, .slice x.At d.texts.length x.ct] 46) := ⟨_, rfl⟩
  have hD : DataAt W w.heap.size x d := by rw [hW]; exact hx.alloc (Nat.le_refl _) _
  have hB : Below w.heap.size w W := by rw [hW]; exact (Below.refl _ _).alloc (Nat.le_refl _) _
  have hsz : w.heap.size ≤ W.heap.size := by rw [hW]; simp
  have hwh : Whole W w.heap.size 46 [x.vb d, x.vh d, x.vm d, x.vn d, x.vt d] := by rw [hW]; exact Whole.made w [x.vb d, x.vh d, x.vm d, x.vn d, x.vt d] _
  have c0 : W.cell? ⟨w.heap.size, 0, none⟩ = some (.slice x.Ab d.bytes.length x.cb) := hwh.cell 0
  have c1 : W.cell? ⟨w.heap.size, 1, none⟩ = some (.slice x.Ah d.host.length x.ch) := hwh.cell 1
  have c2 : W.cell? ⟨w.heap.size, 2, none⟩ = some (.slice x.Am d.mail.length x.cm) := hwh.cell 2
  have c3 : W.cell? ⟨w.heap.size, 3, none⟩ = some (.slice x.An d.nums.length x.cn) := hwh.cell 3
  have c4 : W.cell? ⟨w.heap.size, 4, none⟩ = some (.slice x.At d.texts.length x.ct) := hwh.cell 4
  have HB := Lib.hid hB
  have HW := Lib.hid hW
  have HH := Lib.hid (fun (_ : Unit) => ref_sound_wide x.Ah x.ch w.heap.size d.host W hD.h hi.h.1 hi.h.2)
  have HM := Lib.hid (fun (_ : Unit) => ref_sound_wide x.Am x.cm w.heap.size d.mail W hD.m hi.m.1 hi.m.2)
  have HF := Lib.hid (fun (_ : Unit) (a : Nat) (s : Int) => fit_any x.An d.nums.length x.cn w.heap.size d.nums a s W rfl hD.n kn hi.n)
  have HSZ := Lib.hid hsz
  unfold maxLen at kb kn
  have HS := Lib.hid (soundD_15 d)
  clear hD hB hwh hsz hx hi hW
  go_enter Try.func94, Try.ntmps94
  rw [HW.out] at c0 c1 c2 c3 c4
  go_wp2_with fail
  rw [← HW.out]
  rw [← HW.out] at c0 c1 c2 c3 c4
  refine (HH.out ()).mono ?_
  intro e w' hO
  obtain ⟨he, hw⟩ := hO
  subst hw
  cases hv : soundN d.host with
  | false =>
    rw [hv] at he HS
    subst he
    go_wp2
    go_ret
    exact ⟨by rw [HS.out]; rfl, HB.out⟩
  | true =>
  rw [hv] at he HS
  subst he
  go_wp2_with fail
  refine (HF.out () 1 2).mono ?_
  intro e w' hO
  obtain ⟨he, hw⟩ := hO
  subst hw
  cases hv : fitN 1 2 d.nums with
  | false =>
    rw [hv] at he HS
    subst he
    go_wp2
    go_ret
    exact ⟨by rw [HS.out]; rfl, HB.out⟩
  | true =>
  rw [hv] at he HS
  subst he
  go_wp2_with fail
  refine (empty_x x d W).mono ?_
  rintro e w' ⟨rfl, hb⟩
  have HE := Lib.hid (HB.out.trans (hb.mono HSZ.out))
  clear hb
  go_wp2
  go_ret
  refine ⟨?_, HE.out⟩
  rw [HS.out]
  simp

set_option maxRecDepth 4000 in
set_option maxHeartbeats 1000000 in
theorem rdata_33 (x : DV) (d : Dt) (w : World) (hx : DataAt w w.heap.size x d) (hi : RefIn d) :
    Calls Try.prog 94 #[.int .i64 33, x.val d] w (Gave w (.bool (soundD 33 d))) := by
  have kn : d.nums.length ≤ maxLen := Nat.le_trans hx.ln hx.kn
  have kb : d.bytes.length ≤ maxLen := Nat.le_trans hx.lb hx.kb
  obtain ⟨W, hW⟩ : ∃ W, W = w.alloc (.cells #[.slice x.Ab d.bytes.length x.cb, .slice x.Ah d.host.length x.ch, .slice x.Am d.mail.length x.cm, .slice x.An d.nums.length x.cn, .slice x.At d.texts.length x.ct] 46) := ⟨_, rfl⟩
  have hD : DataAt W w.heap.size x d := by rw [hW]; exact hx.alloc (Nat.le_refl _) _
  have hB : Below w.heap.size w W := by rw [hW]; exact (Below.refl _ _).alloc (Nat.le_refl _) _
  have hsz : w.heap.size ≤ W.heap.size := by rw [hW]; simp
  have hwh : Whole W w.heap.size 46 [x.vb d, x.vh d, x.vm d, x.vn d, x.vt d] := by rw [hW]; exact Whole.made w [x.vb d, x.vh d, x.vm d, x.vn d, x.vt d] _
  have c0 : W.cell? ⟨w.heap.size, 0, none⟩ = some (.slice x.Ab d.bytes.length x.cb) := hwh.cell 0
  have c1 : W.cell? ⟨w.heap.size, 1, none⟩ = some (.slice x.Ah d.host.length x.ch) := hwh.cell 1
  have c2 : W.cell? ⟨w.heap.size, 2, none⟩ = some (.slice x.Am d.mail.length x.cm) := hwh.cell 2
  have c3 : W.cell? ⟨w.heap.size, 3, none⟩ = some (.slice x.An d.nums.length x.cn) := hwh.cell 3
  have c4 : W.cell? ⟨w.heap.size, 4, none⟩ = some (.slice x.At d.texts.length x.ct) := hwh.cell 4
  have HB := Lib.hid hB
  have HW := Lib.hid hW
  have HH := Lib.hid (fun (_ : Unit) => ref_sound_wide x.Ah x.ch w.heap.size d.host W hD.h hi.h.1 hi.h.2)
  have HM := Lib.hid (fun (_ : Unit) => ref_sound_wide x.Am x.cm w.heap.size d.mail W hD.m hi.m.1 hi.m.2)
  have HF := Lib.hid (fun (_ : Unit) (a : Nat) (s : Int) => fit_any x.An d.nums.length x.cn w.heap.size d.nums a s W rfl hD.n kn hi.n)
  have HSZ := Lib.hid hsz
  unfold maxLen at kb kn
  have HS := Lib.hid (soundD_33 d)
  clear hD hB hwh hsz hx hi hW
  go_enter Try.func94, Try.ntmps94
  rw [HW.out] at c0 c1 c2 c3 c4
  go_wp2_with fail
  rw [← HW.out]
  rw [← HW.out] at c0 c1 c2 c3 c4
  refine (HH.out ()).mono ?_
  intro e w' hO
  obtain ⟨he, hw⟩ := hO
  subst hw
  cases hv : soundN d.host with
  | false =>
    rw [hv] at he HS
    subst he
    go_wp2
    go_ret
    exact ⟨by rw [HS.out]; rfl, HB.out⟩
  | true =>
  rw [hv] at he HS
  subst he
  go_wp2_with fail
  refine (HF.out () 3 2).mono ?_
  intro e w' hO
  obtain ⟨he, hw⟩ := hO
  subst hw
  cases hv : fitN 3 2 d.nums with
  | false =>
    rw [hv] at he HS
    subst he
    go_wp2
    go_ret
    exact ⟨by rw [HS.out]; rfl, HB.out⟩
  | true =>
  rw [hv] at he HS
  subst he
  go_wp2_with fail
  refine (empty_x x d W).mono ?_
  rintro e w' ⟨rfl, hb⟩
  have HE := Lib.hid (HB.out.trans (hb.mono HSZ.out))
  clear hb
  go_wp2
  go_ret
  refine ⟨?_, HE.out⟩
  rw [HS.out]
  simp

set_option maxRecDepth 4000 in
set_option maxHeartbeats 1000000 in
theorem rdata_6 (x : DV) (d : Dt) (w : World) (hx : DataAt w w.heap.size x d) (hi : RefIn d) :
    Calls Try.prog 94 #[.int .i64 6, x.val d] w (Gave w (.bool (soundD 6 d))) := by
  have kn : d.nums.length ≤ maxLen := Nat.le_trans hx.ln hx.kn
  have kb : d.bytes.length ≤ maxLen := Nat.le_trans hx.lb hx.kb
  obtain ⟨W, hW⟩ : ∃ W, W = w.alloc (.cells #[.slice x.Ab d.bytes.length x.cb, .slice x.Ah d.host.length x.ch, .slice x.Am d.mail.length x.cm, .slice x.An d.nums.length x.cn, .slice x.At d.texts.length x.ct] 46) := ⟨_, rfl⟩
  have hD : DataAt W w.heap.size x d := by rw [hW]; exact hx.alloc (Nat.le_refl _) _
  have hB : Below w.heap.size w W := by rw [hW]; exact (Below.refl _ _).alloc (Nat.le_refl _) _
  have hsz : w.heap.size ≤ W.heap.size := by rw [hW]; simp
  have hwh : Whole W w.heap.size 46 [x.vb d, x.vh d, x.vm d, x.vn d, x.vt d] := by rw [hW]; exact Whole.made w [x.vb d, x.vh d, x.vm d, x.vn d, x.vt d] _
  have c0 : W.cell? ⟨w.heap.size, 0, none⟩ = some (.slice x.Ab d.bytes.length x.cb) := hwh.cell 0
  have c1 : W.cell? ⟨w.heap.size, 1, none⟩ = some (.slice x.Ah d.host.length x.ch) := hwh.cell 1
  have c2 : W.cell? ⟨w.heap.size, 2, none⟩ = some (.slice x.Am d.mail.length x.cm) := hwh.cell 2
  have c3 : W.cell? ⟨w.heap.size, 3, none⟩ = some (.slice x.An d.nums.length x.cn) := hwh.cell 3
  have c4 : W.cell? ⟨w.heap.size, 4, none⟩ = some (.slice x.At d.texts.length x.ct) := hwh.cell 4
  have HB := Lib.hid hB
  have HW := Lib.hid hW
  have HH := Lib.hid (fun (_ : Unit) => ref_sound_wide x.Ah x.ch w.heap.size d.host W hD.h hi.h.1 hi.h.2)
  have HM := Lib.hid (fun (_ : Unit) => ref_sound_wide x.Am x.cm w.heap.size d.mail W hD.m hi.m.1 hi.m.2)
  have HF := Lib.hid (fun (_ : Unit) (a : Nat) (s : Int) => fit_any x.An d.nums.length x.cn w.heap.size d.nums a s W rfl hD.n kn hi.n)
  have HSZ := Lib.hid hsz
  unfold maxLen at kb kn
  have HS := Lib.hid (soundD_6 d)
  clear hD hB hwh hsz hx hi hW
  go_enter Try.func94, Try.ntmps94
  rw [HW.out] at c0 c1 c2 c3 c4
  go_wp2_with fail
  rw [← HW.out]
  rw [← HW.out] at c0 c1 c2 c3 c4
  refine (HH.out ()).mono ?_
  intro e w' hO
  obtain ⟨he, hw⟩ := hO
  subst hw
  cases hv : soundN d.host with
  | false =>
    rw [hv] at he HS
    subst he
    go_wp2
    go_ret
    exact ⟨by rw [HS.out]; rfl, HB.out⟩
  | true =>
  rw [hv] at he HS
  subst he
  go_wp2_with fail
  refine (HM.out ()).mono ?_
  intro e w' hO
  obtain ⟨he, hw⟩ := hO
  subst hw
  cases hv : soundN d.mail with
  | false =>
    rw [hv] at he HS
    subst he
    go_wp2
    go_ret
    exact ⟨by rw [HS.out]; rfl, HB.out⟩
  | true =>
  rw [hv] at he HS
  subst he
  go_wp2_with fail
  refine (HF.out () 5 4).mono ?_
  intro e w' hO
  obtain ⟨he, hw⟩ := hO
  subst hw
  cases hv : fitN 5 4 d.nums with
  | false =>
    rw [hv] at he HS
    subst he
    go_wp2
    go_ret
    exact ⟨by rw [HS.out]; rfl, HB.out⟩
  | true =>
  rw [hv] at he HS
  subst he
  go_wp2_with fail
  refine (empty_s x d W).mono ?_
  rintro e w' ⟨rfl, hb⟩
  have HE := Lib.hid (HB.out.trans (hb.mono HSZ.out))
  clear hb
  go_wp2
  go_ret
  refine ⟨?_, HE.out⟩
  rw [HS.out]
  simp

set_option maxRecDepth 4000 in
set_option maxHeartbeats 1000000 in
theorem rdata_other (k : Int) (x : DV) (d : Dt) (w : World) (hx : DataAt w w.heap.size x d) (hi : RefIn d) (hk : kindB k = true) (hoth : (k == 1) = false ∧ (k == 28) = false ∧ (k == 2) = false ∧ (k == 5) = false ∧ (k == 12) = false ∧ (k == 15) = false ∧ (k == 6) = false ∧ (k == 16) = false ∧ (k == 33) = false) :
    Calls Try.prog 94 #[.int .i64 k, x.val d] w (Gave w (.bool (soundD k d))) := by
  have kn : d.nums.length ≤ maxLen := Nat.le_trans hx.ln hx.kn
  have kb : d.bytes.length ≤ maxLen := Nat.le_trans hx.lb hx.kb
  obtain ⟨W, hW⟩ : ∃ W, W = w.alloc (.cells #[.slice x.Ab d.bytes.length x.cb, .slice x.Ah d.host.length x.ch, .slice x.Am d.mail.length x.cm, .slice x.An d.nums.length x.cn, .slice x.At d.texts.length x.ct] 46) := ⟨_, rfl⟩
  have hD : DataAt W w.heap.size x d := by rw [hW]; exact hx.alloc (Nat.le_refl _) _
  have hB : Below w.heap.size w W := by rw [hW]; exact (Below.refl _ _).alloc (Nat.le_refl _) _
  have hsz : w.heap.size ≤ W.heap.size := by rw [hW]; simp
  have hwh : Whole W w.heap.size 46 [x.vb d, x.vh d, x.vm d, x.vn d, x.vt d] := by rw [hW]; exact Whole.made w [x.vb d, x.vh d, x.vm d, x.vn d, x.vt d] _
  have c0 : W.cell? ⟨w.heap.size, 0, none⟩ = some (.slice x.Ab d.bytes.length x.cb) := hwh.cell 0
  have c1 : W.cell? ⟨w.heap.size, 1, none⟩ = some (.slice x.Ah d.host.length x.ch) := hwh.cell 1
  have c2 : W.cell? ⟨w.heap.size, 2, none⟩ = some (.slice x.Am d.mail.length x.cm) := hwh.cell 2
  have c3 : W.cell? ⟨w.heap.size, 3, none⟩ = some (.slice x.An d.nums.length x.cn) := hwh.cell 3
  have c4 : W.cell? ⟨w.heap.size, 4, none⟩ = some (.slice x.At d.texts.length x.ct) := hwh.cell 4
  have HB := Lib.hid hB
  have HW := Lib.hid hW
  have HH := Lib.hid (fun (_ : Unit) => ref_sound_wide x.Ah x.ch w.heap.size d.host W hD.h hi.h.1 hi.h.2)
  have HM := Lib.hid (fun (_ : Unit) => ref_sound_wide x.Am x.cm w.heap.size d.mail W hD.m hi.m.1 hi.m.2)
  have HF := Lib.hid (fun (_ : Unit) (a : Nat) (s : Int) => fit_any x.An d.nums.length x.cn w.heap.size d.nums a s W rfl hD.n kn hi.n)
  have HSZ := Lib.hid hsz
  unfold maxLen at kb kn
  have HS := Lib.hid (soundD_other d hk hoth)
  obtain ⟨o1, o2, o3, o4, o5, o6, o7, o8, o9⟩ := hoth
  have hkk : 1 ≤ k ∧ k ≤ 65535 := by simpa [kindB] using hk
  have d1 : decide (k < 1) = false := by simp; omega
  have d2 : decide (65535 < k) = false := by simp; omega
  clear hk hkk
  clear hD hB hwh hsz hx hi hW
  cases hv : decide (d.bytes.length ≤ 65535) with
  | false =>
    have t0 : decide ((d.bytes.length : Int) ≤ 65535) = false := by have := of_decide_eq_false hv; simp; omega
    rw [hv] at HS
    clear hv
    go_enter Try.func94, Try.ntmps94
    rw [HW.out] at c0 c1 c2 c3 c4
    go_wp2
    go_ret
    exact ⟨by rw [HS.out]; rfl, by have h := HB.out; rw [HW.out] at h; exact h⟩
  | true =>
  have t0 : decide ((d.bytes.length : Int) ≤ 65535) = true := by have := of_decide_eq_true hv; simp; omega
  rw [hv] at HS
  clear hv
  go_enter Try.func94, Try.ntmps94
  rw [HW.out] at c0 c1 c2 c3 c4
  go_wp2_with fail
  rw [← HW.out]
  refine (empty_a x d W).mono ?_
  rintro e w' ⟨rfl, hb⟩
  have HE := Lib.hid (HB.out.trans (hb.mono HSZ.out))
  clear hb
  go_wp2
  go_ret
  refine ⟨?_, HE.out⟩
  rw [HS.out]
  simp

end Go.Proofs.Ytjkjhpaeckkpjaa

namespace Go.Proofs.Ytjkjhpaeckkpjaa
open Go.RowKit

/-- The place behind the name: the first one that was met. -/
def nextR (x p : Nat) : Nat := if x = 0 then p else x
/-- The place to which the pointer leads whose two bytes are c and d. -/
def toR (c d : UInt8) : Nat := (c.toNat - 192) * 256 + d.toNat

/-- What is read at the place p, where what is read now began at q, the name's end was met at x (0: it was not), and n is read so far: the name, the place behind it, the error. -/
def getR (b : List UInt8) (p q x : Nat) (n : List (List UInt8)) : List (List UInt8) × Nat × Nat :=
  if h0 : p < b.length then
    if b[p].toNat = 0 then (n, nextR x (p + 1), 0)
    else if 192 ≤ b[p].toNat then
      if h1 : p + 1 < b.length then
        if toR b[p] b[p + 1] < q then getR b (toR b[p] b[p + 1]) (toR b[p] b[p + 1]) (nextR x (p + 2)) n
        else ([], 0, 6)
      else ([], 0, 3)
    else if 64 ≤ b[p].toNat then ([], 0, 5)
    else if p + 1 + b[p].toNat ≤ b.length then
      if szN (n ++ [cutL b (p + 1) b[p].toNat]) ≤ 255 then getR b (p + 1 + b[p].toNat) q x (n ++ [cutL b (p + 1) b[p].toNat])
      else ([], 0, 5)
    else ([], 0, 3)
  else ([], 0, 3)
termination_by (q, 256 - szN n)
decreasing_by
  · exact Prod.Lex.left _ _ (by assumption)
  · refine Prod.Lex.right _ ?_
    rename_i h
    rw [szN_snoc] at h ⊢
    omega

section
variable {b : List UInt8} {p q x : Nat} {n : List (List UInt8)}

set_option maxRecDepth 10000
theorem getR_end (h : b.length ≤ p) : getR b p q x n = ([], 0, 3) := by
  rw [getR, dif_neg (by omega)]
theorem getR_zero (h : p < b.length) (h0 : b[p].toNat = 0) : getR b p q x n = (n, nextR x (p + 1), 0) := by
  rw [getR, dif_pos h, if_pos h0]
theorem getR_half (h : p < b.length) (h0 : 192 ≤ b[p].toNat) (h1 : b.length ≤ p + 1) : getR b p q x n = ([], 0, 3) := by
  rw [getR, dif_pos h, if_neg (by omega), if_pos h0, dif_neg (by omega)]
theorem getR_ptr (h : p < b.length) (h1 : p + 1 < b.length) (h0 : 192 ≤ b[p].toNat) (h2 : toR b[p] b[p + 1] < q) :
    getR b p q x n = getR b (toR b[p] b[p + 1]) (toR b[p] b[p + 1]) (nextR x (p + 2)) n := by
  rw [getR, dif_pos h, if_neg (by omega), if_pos h0, dif_pos h1, if_pos h2]
theorem getR_loop (h : p < b.length) (h1 : p + 1 < b.length) (h0 : 192 ≤ b[p].toNat) (h2 : q ≤ toR b[p] b[p + 1]) : getR b p q x n = ([], 0, 6) := by
  rw [getR, dif_pos h, if_neg (by omega), if_pos h0, dif_pos h1, if_neg (by omega)]
theorem getR_bad (h : p < b.length) (h0 : 64 ≤ b[p].toNat) (h1 : b[p].toNat < 192) : getR b p q x n = ([], 0, 5) := by
  rw [getR, dif_pos h, if_neg (by omega), if_neg (by omega), if_pos h0]
theorem getR_short (h : p < b.length) (h0 : b[p].toNat ≠ 0) (h1 : b[p].toNat < 64) (h2 : b.length < p + 1 + b[p].toNat) : getR b p q x n = ([], 0, 3) := by
  rw [getR, dif_pos h, if_neg h0, if_neg (by omega), if_neg (by omega), if_neg (by omega)]
theorem getR_long (h : p < b.length) (h0 : b[p].toNat ≠ 0) (h1 : b[p].toNat < 64) (h2 : p + 1 + b[p].toNat ≤ b.length) (h3 : 255 < szN n + 1 + b[p].toNat) : getR b p q x n = ([], 0, 5) := by
  rw [getR, dif_pos h, if_neg h0, if_neg (by omega), if_neg (by omega), if_pos h2, if_neg]
  rw [szN_snoc, length_cutL (by omega)]
  omega
theorem getR_label (h : p < b.length) (h0 : b[p].toNat ≠ 0) (h1 : b[p].toNat < 64) (h2 : p + 1 + b[p].toNat ≤ b.length) (h3 : szN n + 1 + b[p].toNat ≤ 255) :
    getR b p q x n = getR b (p + 1 + b[p].toNat) q x (n ++ [cutL b (p + 1) b[p].toNat]) := by
  rw [getR, dif_pos h, if_neg h0, if_neg (by omega), if_neg (by omega), if_pos h2, if_pos]
  rw [szN_snoc, length_cutL (by omega)]
  omega
end

/-- What the call answers at any place. -/
def getW (b : List UInt8) (a : Int) : List (List UInt8) × Nat × Nat := if a < 0 then ([], 0, 1) else getR b a.toNat a.toNat 0 []
theorem getW_neg {b : List UInt8} {a : Int} (h : a < 0) : getW b a = ([], 0, 1) := by rw [getW, if_pos h]
theorem getW_at (b : List UInt8) (a : Nat) : getW b a = getR b a a 0 [] := by rw [getW, if_neg (by omega), Int.toNat_natCast]

end Go.Proofs.Ytjkjhpaeckkpjaa
