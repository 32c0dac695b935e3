/-
  The contracts of the document's Data and of what it calls.
-/
import Derived.Test.YtjjmllbkfbdcnaaDSound
namespace Go.Proofs.Ytjjmllbkfbdcnaa
open Go.RowKit

def fitN (count : Nat) (size : Int) (l : List Int) : Bool := decide (l.length = count) && l.all fun n => fitB n size
theorem all_snocI {l : List Int} {k : Nat} (p : Int → Bool) (h : k < l.length) (ha : (l.take k).all p = true) (hp : p l[k] = true) : (l.take (k + 1)).all p = true := by
  rw [List.take_succ_eq_append_getElem h, List.all_append, ha]
  simp [hp]
theorem all_notI {l : List Int} {k : Nat} (p : Int → Bool) (h : k < l.length) (hp : p l[k] = false) : l.all p = false := by
  rw [List.all_eq_false]
  exact ⟨l[k], List.getElem_mem h, by simp [hp]⟩
def FitRel (l : List Int) (s : Int) (i : Value) : Prop := ∃ k : Nat, k ≤ l.length ∧ i = .int .i64 k ∧ (l.take k).all (fun n => fitB n s) = true

set_option maxRecDepth 4000 in
set_option maxHeartbeats 1000000 in
theorem fit_any (A : Option Addr) (m c H : Nat) (l : List Int) (count : Nat) (s : Int) (w : World) (hl : l.length = m) (hA : Row w H A (l.map zv)) (hm : m ≤ maxLen) (hn : ∀ n ∈ l, n ≤ 9223372036854775807) :
    Calls Try.prog 55 #[.slice A m c, .int .i64 count, .int .i64 s] w (Told w (.bool (fitN count s l))) := by
  unfold maxLen at hm
  have HF := Lib.hid (fun n W hn => ref_fits_any n s W hn)
  have HN := Lib.hid hn
  have HA := Lib.hid hA
  have HL := Lib.hid hl
  clear hn hA
  by_cases hc : m = count
  · have t1 : ((m : Int) != (count : Int)) = false := by rw [bne_eq_false_iff_eq]; omega
    have HS := Lib.hid (show fitN count s l = l.all (fun n => fitB n s) by simp [fitN, hl, hc])
    clear hl hc
    go_enter Try.func55, Try.ntmps55
    go_wp2
    go_loop [7] (FitRel l s) (fun i => m - (intOf i).toNat)
    case atStart => exact ⟨0, Nat.zero_le _, rfl, rfl⟩
    case round =>
      obtain ⟨k, hk, rfl, hok⟩ := hrel
      have HOK := Lib.hid hok
      clear hok
      by_cases hlt : k < m
      · have hkl : k < l.length := by rw [HL.out]; exact hlt
        obtain ⟨b, off, rfl, _, hcl⟩ := HA.out.int_at hkl
        go_wp2_with fail
        refine (HF.out l[k] _ (HN.out _ (List.getElem_mem hkl))).mono ?_
        cases hf : fitB l[k] s
        · have HX := Lib.hid (all_notI (fun n => fitB n s) hkl hf)
          rintro e w' ⟨rfl, rfl⟩
          go_wp2
          go_ret
          exact ⟨by rw [HS.out, HX.out]; rfl, rfl⟩
        · have HX := Lib.hid (all_snocI (fun n => fitB n s) hkl HOK.out hf)
          rintro e w' ⟨rfl, rfl⟩
          go_wp2
          exact ⟨⟨k + 1, hkl, by go_num, HX.out⟩, by simp [intOf]; omega⟩
      · obtain rfl : k = m := by have := HL.out; omega
        have HX := Lib.hid (show l.all (fun n => fitB n s) = true by have h := HOK.out; rw [← HL.out, List.take_length] at h; exact h)
        go_wp2
        go_ret
        exact ⟨by rw [HS.out, HX.out]; rfl, rfl⟩
  · have t1 : ((m : Int) != (count : Int)) = true := by rw [bne_iff_ne]; omega
    have HS := Lib.hid (show fitN count s l = false by simp [fitN, hl, hc])
    clear hl hc
    go_enter Try.func55, Try.ntmps55
    go_wp2
    go_ret
    exact ⟨by rw [HS.out]; rfl, rfl⟩

set_option maxRecDepth 4000 in
set_option maxHeartbeats 1000000 in
theorem empty_a (x : DV) (d : Dt) (w : World) : Calls Try.prog 54 #[x.val d, .bool true, .bool false, .bool false, .bool false, .bool false] w (Gave w (.bool ((decide (d.host.length = 0) && (decide (d.mail.length = 0) && (decide (d.nums.length = 0) && decide (d.texts.length = 0))))))) := by
  have HB := Lib.hid ((Below.refl _ w).alloc (Nat.le_refl _) (.cells #[x.vb d, x.vh d, x.vm d, x.vn d, x.vt d] 26))
  by_cases z0 : d.host.length = 0
  case neg =>
    have t0 : ((d.host.length : Int) == 0) = false := by rw [beq_eq_false_iff_ne]; omega
    have HS := Lib.hid (show ((decide (d.host.length = 0) && (decide (d.mail.length = 0) && (decide (d.nums.length = 0) && decide (d.texts.length = 0))))) = false by simp [z0])
    clear z0
    go_enter Try.func54, Try.ntmps54
    go_wp2
    go_ret
    exact ⟨by rw [HS.out]; rfl, HB.out⟩
  have t0 : ((d.host.length : Int) == 0) = true := by rw [beq_iff_eq]; omega
  by_cases z1 : d.mail.length = 0
  case neg =>
    have t1 : ((d.mail.length : Int) == 0) = false := by rw [beq_eq_false_iff_ne]; omega
    have HS := Lib.hid (show ((decide (d.host.length = 0) && (decide (d.mail.length = 0) && (decide (d.nums.length = 0) && decide (d.texts.length = 0))))) = false by simp [z0, z1])
    clear z0 z1
    go_enter Try.func54, Try.ntmps54
    go_wp2
    go_ret
    exact ⟨by rw [HS.out]; rfl, HB.out⟩
  have t1 : ((d.mail.length : Int) == 0) = true := by rw [beq_iff_eq]; omega
  by_cases z2 : d.nums.length = 0
  case neg =>
    have t2 : ((d.nums.length : Int) == 0) = false := by rw [beq_eq_false_iff_ne]; omega
    have HS := Lib.hid (show ((decide (d.host.length = 0) && (decide (d.mail.length = 0) && (decide (d.nums.length = 0) && decide (d.texts.length = 0))))) = false by simp [z0, z1, z2])
    clear z0 z1 z2
    go_enter Try.func54, Try.ntmps54
    go_wp2
    go_ret
    exact ⟨by rw [HS.out]; rfl, HB.out⟩
  have t2 : ((d.nums.length : Int) == 0) = true := by rw [beq_iff_eq]; omega
  by_cases z3 : d.texts.length = 0
  case neg =>
    have t3 : ((d.texts.length : Int) == 0) = false := by rw [beq_eq_false_iff_ne]; omega
    have HS := Lib.hid (show ((decide (d.host.length = 0) && (decide (d.mail.length = 0) && (decide (d.nums.length = 0) && decide (d.texts.length = 0))))) = false by simp [z0, z1, z2, z3])
    clear z0 z1 z2 z3
    go_enter Try.func54, Try.ntmps54
    go_wp2
    go_ret
    exact ⟨by rw [HS.out]; rfl, HB.out⟩
  have t3 : ((d.texts.length : Int) == 0) = true := by rw [beq_iff_eq]; omega
  have HS := Lib.hid (show ((decide (d.host.length = 0) && (decide (d.mail.length = 0) && (decide (d.nums.length = 0) && decide (d.texts.length = 0))))) = true by simp [z0, z1, z2, z3])
  clear z0 z1 z2 z3
  go_enter Try.func54, Try.ntmps54
  go_wp2
  go_ret
  exact ⟨by rw [HS.out]; rfl, HB.out⟩

set_option maxRecDepth 4000 in
set_option maxHeartbeats 1000000 in
theorem empty_n (x : DV) (d : Dt) (w : World) : Calls Try.prog 54 #[x.val d, .bool false, .bool true, .bool false, .bool false, .bool false] w (Gave w (.bool ((decide (d.bytes.length = 0) && (decide (d.mail.length = 0) && (decide (d.nums.length = 0) && decide (d.texts.length = 0))))))) := by
  have HB := Lib.hid ((Below.refl _ w).alloc (Nat.le_refl _) (.cells #[x.vb d, x.vh d, x.vm d, x.vn d, x.vt d] 26))
  by_cases z0 : d.bytes.length = 0
  case neg =>
    have t0 : ((d.bytes.length : Int) == 0) = false := by rw [beq_eq_false_iff_ne]; omega
    have HS := Lib.hid (show ((decide (d.bytes.length = 0) && (decide (d.mail.length = 0) && (decide (d.nums.length = 0) && decide (d.texts.length = 0))))) = false by simp [z0])
    clear z0
    go_enter Try.func54, Try.ntmps54
    go_wp2
    go_ret
    exact ⟨by rw [HS.out]; rfl, HB.out⟩
  have t0 : ((d.bytes.length : Int) == 0) = true := by rw [beq_iff_eq]; omega
  by_cases z1 : d.mail.length = 0
  case neg =>
    have t1 : ((d.mail.length : Int) == 0) = false := by rw [beq_eq_false_iff_ne]; omega
    have HS := Lib.hid (show ((decide (d.bytes.length = 0) && (decide (d.mail.length = 0) && (decide (d.nums.length = 0) && decide (d.texts.length = 0))))) = false by simp [z0, z1])
    clear z0 z1
    go_enter Try.func54, Try.ntmps54
    go_wp2
    go_ret
    exact ⟨by rw [HS.out]; rfl, HB.out⟩
  have t1 : ((d.mail.length : Int) == 0) = true := by rw [beq_iff_eq]; omega
  by_cases z2 : d.nums.length = 0
  case neg =>
    have t2 : ((d.nums.length : Int) == 0) = false := by rw [beq_eq_false_iff_ne]; omega
    have HS := Lib.hid (show ((decide (d.bytes.length = 0) && (decide (d.mail.length = 0) && (decide (d.nums.length = 0) && decide (d.texts.length = 0))))) = false by simp [z0, z1, z2])
    clear z0 z1 z2
    go_enter Try.func54, Try.ntmps54
    go_wp2
    go_ret
    exact ⟨by rw [HS.out]; rfl, HB.out⟩
  have t2 : ((d.nums.length : Int) == 0) = true := by rw [beq_iff_eq]; omega
  by_cases z3 : d.texts.length = 0
  case neg =>
    have t3 : ((d.texts.length : Int) == 0) = false := by rw [beq_eq_false_iff_ne]; omega
    have HS := Lib.hid (show ((decide (d.bytes.length = 0) && (decide (d.mail.length = 0) && (decide (d.nums.length = 0) && decide (d.texts.length = 0))))) = false by simp [z0, z1, z2, z3])
    clear z0 z1 z2 z3
    go_enter Try.func54, Try.ntmps54
    go_wp2
    go_ret
    exact ⟨by rw [HS.out]; rfl, HB.out⟩
  have t3 : ((d.texts.length : Int) == 0) = true := by rw [beq_iff_eq]; omega
  have HS := Lib.hid (show ((decide (d.bytes.length = 0) && (decide (d.mail.length = 0) && (decide (d.nums.length = 0) && decide (d.texts.length = 0))))) = true by simp [z0, z1, z2, z3])
  clear z0 z1 z2 z3
  go_enter Try.func54, Try.ntmps54
  go_wp2
  go_ret
  exact ⟨by rw [HS.out]; rfl, HB.out⟩

set_option maxRecDepth 4000 in
set_option maxHeartbeats 1000000 in
theorem empty_x (x : DV) (d : Dt) (w : World) : Calls Try.prog 54 #[x.val d, .bool false, .bool true, .bool false, .bool true, .bool false] w (Gave w (.bool ((decide (d.bytes.length = 0) && (decide (d.mail.length = 0) && decide (d.texts.length = 0)))))) := by
  have HB := Lib.hid ((Below.refl _ w).alloc (Nat.le_refl _) (.cells #[x.vb d, x.vh d, x.vm d, x.vn d, x.vt d] 26))
  by_cases z0 : d.bytes.length = 0
  case neg =>
    have t0 : ((d.bytes.length : Int) == 0) = false := by rw [beq_eq_false_iff_ne]; omega
    have HS := Lib.hid (show ((decide (d.bytes.length = 0) && (decide (d.mail.length = 0) && decide (d.texts.length = 0)))) = false by simp [z0])
    clear z0
    go_enter Try.func54, Try.ntmps54
    go_wp2
    go_ret
    exact ⟨by rw [HS.out]; rfl, HB.out⟩
  have t0 : ((d.bytes.length : Int) == 0) = true := by rw [beq_iff_eq]; omega
  by_cases z1 : d.mail.length = 0
  case neg =>
    have t1 : ((d.mail.length : Int) == 0) = false := by rw [beq_eq_false_iff_ne]; omega
    have HS := Lib.hid (show ((decide (d.bytes.length = 0) && (decide (d.mail.length = 0) && decide (d.texts.length = 0)))) = false by simp [z0, z1])
    clear z0 z1
    go_enter Try.func54, Try.ntmps54
    go_wp2
    go_ret
    exact ⟨by rw [HS.out]; rfl, HB.out⟩
  have t1 : ((d.mail.length : Int) == 0) = true := by rw [beq_iff_eq]; omega
  by_cases z2 : d.texts.length = 0
  case neg =>
    have t2 : ((d.texts.length : Int) == 0) = false := by rw [beq_eq_false_iff_ne]; omega
    have HS := Lib.hid (show ((decide (d.bytes.length = 0) && (decide (d.mail.length = 0) && decide (d.texts.length = 0)))) = false by simp [z0, z1, z2])
    clear z0 z1 z2
    go_enter Try.func54, Try.ntmps54
    go_wp2
    go_ret
    exact ⟨by rw [HS.out]; rfl, HB.out⟩
  have t2 : ((d.texts.length : Int) == 0) = true := by rw [beq_iff_eq]; omega
  have HS := Lib.hid (show ((decide (d.bytes.length = 0) && (decide (d.mail.length = 0) && decide (d.texts.length = 0)))) = true by simp [z0, z1, z2])
  clear z0 z1 z2
  go_enter Try.func54, Try.ntmps54
  go_wp2
  go_ret
  exact ⟨by rw [HS.out]; rfl, HB.out⟩

set_option maxRecDepth 4000 in
set_option maxHeartbeats 1000000 in
theorem empty_s (x : DV) (d : Dt) (w : World) : Calls Try.prog 54 #[x.val d, .bool false, .bool true, .bool true, .bool true, .bool false] w (Gave w (.bool ((decide (d.bytes.length = 0) && decide (d.texts.length = 0))))) := by
  have HB := Lib.hid ((Below.refl _ w).alloc (Nat.le_refl _) (.cells #[x.vb d, x.vh d, x.vm d, x.vn d, x.vt d] 26))
  by_cases z0 : d.bytes.length = 0
  case neg =>
    have t0 : ((d.bytes.length : Int) == 0) = false := by rw [beq_eq_false_iff_ne]; omega
    have HS := Lib.hid (show ((decide (d.bytes.length = 0) && decide (d.texts.length = 0))) = false by simp [z0])
    clear z0
    go_enter Try.func54, Try.ntmps54
    go_wp2
    go_ret
    exact ⟨by rw [HS.out]; rfl, HB.out⟩
  have t0 : ((d.bytes.length : Int) == 0) = true := by rw [beq_iff_eq]; omega
  by_cases z1 : d.texts.length = 0
  case neg =>
    have t1 : ((d.texts.length : Int) == 0) = false := by rw [beq_eq_false_iff_ne]; omega
    have HS := Lib.hid (show ((decide (d.bytes.length = 0) && decide (d.texts.length = 0))) = false by simp [z0, z1])
    clear z0 z1
    go_enter Try.func54, Try.ntmps54
    go_wp2
    go_ret
    exact ⟨by rw [HS.out]; rfl, HB.out⟩
  have t1 : ((d.texts.length : Int) == 0) = true := by rw [beq_iff_eq]; omega
  have HS := Lib.hid (show ((decide (d.bytes.length = 0) && decide (d.texts.length = 0))) = true by simp [z0, z1])
  clear z0 z1
  go_enter Try.func54, Try.ntmps54
  go_wp2
  go_ret
  exact ⟨by rw [HS.out]; rfl, HB.out⟩

set_option maxRecDepth 4000 in
set_option maxHeartbeats 1000000 in
theorem empty_t (x : DV) (d : Dt) (w : World) : Calls Try.prog 54 #[x.val d, .bool false, .bool false, .bool false, .bool false, .bool true] w (Gave w (.bool ((decide (d.bytes.length = 0) && (decide (d.host.length = 0) && (decide (d.mail.length = 0) && decide (d.nums.length = 0))))))) := by
  have HB := Lib.hid ((Below.refl _ w).alloc (Nat.le_refl _) (.cells #[x.vb d, x.vh d, x.vm d, x.vn d, x.vt d] 26))
  by_cases z0 : d.bytes.length = 0
  case neg =>
    have t0 : ((d.bytes.length : Int) == 0) = false := by rw [beq_eq_false_iff_ne]; omega
    have HS := Lib.hid (show ((decide (d.bytes.length = 0) && (decide (d.host.length = 0) && (decide (d.mail.length = 0) && decide (d.nums.length = 0))))) = false by simp [z0])
    clear z0
    go_enter Try.func54, Try.ntmps54
    go_wp2
    go_ret
    exact ⟨by rw [HS.out]; rfl, HB.out⟩
  have t0 : ((d.bytes.length : Int) == 0) = true := by rw [beq_iff_eq]; omega
  by_cases z1 : d.host.length = 0
  case neg =>
    have t1 : ((d.host.length : Int) == 0) = false := by rw [beq_eq_false_iff_ne]; omega
    have HS := Lib.hid (show ((decide (d.bytes.length = 0) && (decide (d.host.length = 0) && (decide (d.mail.length = 0) && decide (d.nums.length = 0))))) = false by simp [z0, z1])
    clear z0 z1
    go_enter Try.func54, Try.ntmps54
    go_wp2
    go_ret
    exact ⟨by rw [HS.out]; rfl, HB.out⟩
  have t1 : ((d.host.length : Int) == 0) = true := by rw [beq_iff_eq]; omega
  by_cases z2 : d.mail.length = 0
  case neg =>
    have t2 : ((d.mail.length : Int) == 0) = false := by rw [beq_eq_false_iff_ne]; omega
    have HS := Lib.hid (show ((decide (d.bytes.length = 0) && (decide (d.host.length = 0) && (decide (d.mail.length = 0) && decide (d.nums.length = 0))))) = false by simp [z0, z1, z2])
    clear z0 z1 z2
    go_enter Try.func54, Try.ntmps54
    go_wp2
    go_ret
    exact ⟨by rw [HS.out]; rfl, HB.out⟩
  have t2 : ((d.mail.length : Int) == 0) = true := by rw [beq_iff_eq]; omega
  by_cases z3 : d.nums.length = 0
  case neg =>
    have t3 : ((d.nums.length : Int) == 0) = false := by rw [beq_eq_false_iff_ne]; omega
    have HS := Lib.hid (show ((decide (d.bytes.length = 0) && (decide (d.host.length = 0) && (decide (d.mail.length = 0) && decide (d.nums.length = 0))))) = false by simp [z0, z1, z2, z3])
    clear z0 z1 z2 z3
    go_enter Try.func54, Try.ntmps54
    go_wp2
    go_ret
    exact ⟨by rw [HS.out]; rfl, HB.out⟩
  have t3 : ((d.nums.length : Int) == 0) = true := by rw [beq_iff_eq]; omega
  have HS := Lib.hid (show ((decide (d.bytes.length = 0) && (decide (d.host.length = 0) && (decide (d.mail.length = 0) && decide (d.nums.length = 0))))) = true by simp [z0, z1, z2, z3])
  clear z0 z1 z2 z3
  go_enter Try.func54, Try.ntmps54
  go_wp2
  go_ret
  exact ⟨by rw [HS.out]; rfl, HB.out⟩

theorem numsOk_two {ah : Nat} {l : List Int} (h : l.length ≤ ah) : numsOk ah l = l.all fun n => fitB n 2 := by
  unfold numsOk
  rw [Bool.eq_iff_iff, List.all_eq_true, List.all_eq_true]
  constructor
  · intro hr n hn
    obtain ⟨i, hi, rfl⟩ := List.getElem_of_mem hn
    have := hr i (List.mem_range.2 hi)
    rw [sizeAt, if_pos (by omega)] at this
    simpa [List.getD, hi] using this
  · intro hr i hi
    have hi2 := List.mem_range.1 hi
    rw [sizeAt, if_pos (by omega)]
    simpa [List.getD, hi2] using hr l[i] (List.getElem_mem hi2)
theorem numsOk_four (l : List Int) : numsOk 0 l = l.all fun n => fitB n 4 := by
  unfold numsOk
  rw [Bool.eq_iff_iff, List.all_eq_true, List.all_eq_true]
  constructor
  · intro hr n hn
    obtain ⟨i, hi, rfl⟩ := List.getElem_of_mem hn
    have := hr i (List.mem_range.2 hi)
    rw [sizeAt, if_neg (by omega)] at this
    simpa [List.getD, hi] using this
  · intro hr i hi
    have hi2 := List.mem_range.1 hi
    rw [sizeAt, if_neg (by omega)]
    simpa [List.getD, hi2] using hr l[i] (List.getElem_mem hi2)
theorem soundNm_true (n : List (List UInt8)) : soundNm n true = soundN n := by
  unfold soundNm
  by_cases h : n.length = 0
  · have : n = [] := List.eq_nil_of_length_eq_zero h
    subst this
    decide
  · simp [h]
theorem soundNm_false (n : List (List UInt8)) : soundNm n false = decide (n.length = 0) := by simp [soundNm]
theorem soundNs_two {a : Nat} {l : List Int} {s : Sh} (h1 : s.ahead = a) (h2 : s.behind = 0) : soundNs s l = fitN a 2 l := by
  unfold soundNs fitN
  rw [h1, h2]
  by_cases h : l.length = a
  · rw [numsOk_two (by omega)]; simp
  · simp [h]
theorem soundNs_four {b : Nat} {l : List Int} {s : Sh} (h1 : s.ahead = 0) (h2 : s.behind = b) : soundNs s l = fitN b 4 l := by
  unfold soundNs fitN
  rw [h1, h2, numsOk_four]
  simp
theorem fitN_zero (s : Int) (l : List Int) : fitN 0 s l = decide (l.length = 0) := by
  unfold fitN
  by_cases h : l.length = 0
  · have : l = [] := List.eq_nil_of_length_eq_zero h
    subst this
    rfl
  · simp [h]

theorem soundD_1 (d : Dt) : soundD 1 d = (decide (d.bytes.length = 4) && (decide (d.host.length = 0) && (decide (d.mail.length = 0) && (decide (d.nums.length = 0) && decide (d.texts.length = 0))))) := by
  have hk : kindB 1 = true := by decide
  have hs : shN 1 = ⟨0, false, false, false, 0, false, 4, 4⟩ := by simp [shN]
  unfold soundD
  rw [hk, hs, soundNs_two (s := ⟨0, false, false, false, 0, false, 4, 4⟩) (a := 0) rfl rfl]
  simp only [soundBs, soundTs, soundNm_false, fitN_zero, Bool.true_and]
  rw [Bool.eq_iff_iff]
  simp only [Bool.and_eq_true, decide_eq_true_eq, if_false, Bool.false_eq_true]
  constructor
  · rintro ⟨⟨a1, a2⟩, a3, a4, a5, a6⟩
    skip
    exact ⟨by omega, a3, a4, a5, a6⟩
  · rintro ⟨b1, b2, b3, b4, b5⟩
    exact ⟨⟨by omega, by omega⟩, b2, b3, b4, b5⟩

theorem soundD_28 (d : Dt) : soundD 28 d = (decide (d.bytes.length = 16) && (decide (d.host.length = 0) && (decide (d.mail.length = 0) && (decide (d.nums.length = 0) && decide (d.texts.length = 0))))) := by
  have hk : kindB 28 = true := by decide
  have hs : shN 28 = ⟨0, false, false, false, 0, false, 16, 16⟩ := by simp [shN]
  unfold soundD
  rw [hk, hs, soundNs_two (s := ⟨0, false, false, false, 0, false, 16, 16⟩) (a := 0) rfl rfl]
  simp only [soundBs, soundTs, soundNm_false, fitN_zero, Bool.true_and]
  rw [Bool.eq_iff_iff]
  simp only [Bool.and_eq_true, decide_eq_true_eq, if_false, Bool.false_eq_true]
  constructor
  · rintro ⟨⟨a1, a2⟩, a3, a4, a5, a6⟩
    skip
    exact ⟨by omega, a3, a4, a5, a6⟩
  · rintro ⟨b1, b2, b3, b4, b5⟩
    exact ⟨⟨by omega, by omega⟩, b2, b3, b4, b5⟩

theorem soundD_2 (d : Dt) : soundD 2 d = (soundN d.host && (decide (d.bytes.length = 0) && (decide (d.mail.length = 0) && (decide (d.nums.length = 0) && decide (d.texts.length = 0))))) := by
  have hk : kindB 2 = true := by decide
  have hs : shN 2 = ⟨0, true, false, true, 0, false, 0, 0⟩ := by simp [shN]
  unfold soundD
  rw [hk, hs, soundNs_two (s := ⟨0, true, false, true, 0, false, 0, 0⟩) (a := 0) rfl rfl]
  simp only [soundBs, soundTs, soundNm_true, soundNm_false, fitN_zero, Bool.true_and]
  rw [Bool.eq_iff_iff]
  simp only [Bool.and_eq_true, decide_eq_true_eq, if_false, Bool.false_eq_true]
  constructor
  · rintro ⟨⟨a1, a2⟩, a3, a4, a5, a6⟩
    skip
    exact ⟨a3, by omega, a4, a5, a6⟩
  · rintro ⟨b1, b2, b3, b4, b5⟩
    exact ⟨⟨by omega, by omega⟩, b1, b3, b4, b5⟩

theorem soundD_5 (d : Dt) : soundD 5 d = (soundN d.host && (decide (d.bytes.length = 0) && (decide (d.mail.length = 0) && (decide (d.nums.length = 0) && decide (d.texts.length = 0))))) := by
  have hk : kindB 5 = true := by decide
  have hs : shN 5 = ⟨0, true, false, true, 0, false, 0, 0⟩ := by simp [shN]
  unfold soundD
  rw [hk, hs, soundNs_two (s := ⟨0, true, false, true, 0, false, 0, 0⟩) (a := 0) rfl rfl]
  simp only [soundBs, soundTs, soundNm_true, soundNm_false, fitN_zero, Bool.true_and]
  rw [Bool.eq_iff_iff]
  simp only [Bool.and_eq_true, decide_eq_true_eq, if_false, Bool.false_eq_true]
  constructor
  · rintro ⟨⟨a1, a2⟩, a3, a4, a5, a6⟩
    skip
    exact ⟨a3, by omega, a4, a5, a6⟩
  · rintro ⟨b1, b2, b3, b4, b5⟩
    exact ⟨⟨by omega, by omega⟩, b1, b3, b4, b5⟩

theorem soundD_12 (d : Dt) : soundD 12 d = (soundN d.host && (decide (d.bytes.length = 0) && (decide (d.mail.length = 0) && (decide (d.nums.length = 0) && decide (d.texts.length = 0))))) := by
  have hk : kindB 12 = true := by decide
  have hs : shN 12 = ⟨0, true, false, true, 0, false, 0, 0⟩ := by simp [shN]
  unfold soundD
  rw [hk, hs, soundNs_two (s := ⟨0, true, false, true, 0, false, 0, 0⟩) (a := 0) rfl rfl]
  simp only [soundBs, soundTs, soundNm_true, soundNm_false, fitN_zero, Bool.true_and]
  rw [Bool.eq_iff_iff]
  simp only [Bool.and_eq_true, decide_eq_true_eq, if_false, Bool.false_eq_true]
  constructor
  · rintro ⟨⟨a1, a2⟩, a3, a4, a5, a6⟩
    skip
    exact ⟨a3, by omega, a4, a5, a6⟩
  · rintro ⟨b1, b2, b3, b4, b5⟩
    exact ⟨⟨by omega, by omega⟩, b1, b3, b4, b5⟩

theorem soundD_15 (d : Dt) : soundD 15 d = (soundN d.host && (fitN 1 2 d.nums && (decide (d.bytes.length = 0) && (decide (d.mail.length = 0) && decide (d.texts.length = 0))))) := by
  have hk : kindB 15 = true := by decide
  have hs : shN 15 = ⟨1, true, false, true, 0, false, 0, 0⟩ := by simp [shN]
  unfold soundD
  rw [hk, hs, soundNs_two (s := ⟨1, true, false, true, 0, false, 0, 0⟩) (a := 1) rfl rfl]
  simp only [soundBs, soundTs, soundNm_true, soundNm_false, Bool.true_and]
  rw [Bool.eq_iff_iff]
  simp only [Bool.and_eq_true, decide_eq_true_eq, if_false, Bool.false_eq_true]
  constructor
  · rintro ⟨⟨a1, a2⟩, a3, a4, a5, a6⟩
    skip
    exact ⟨a3, a5, by omega, a4, a6⟩
  · rintro ⟨b1, b2, b3, b4, b5⟩
    exact ⟨⟨by omega, by omega⟩, b1, b4, b2, b5⟩

theorem soundD_33 (d : Dt) : soundD 33 d = (soundN d.host && (fitN 3 2 d.nums && (decide (d.bytes.length = 0) && (decide (d.mail.length = 0) && decide (d.texts.length = 0))))) := by
  have hk : kindB 33 = true := by decide
  have hs : shN 33 = ⟨3, true, false, false, 0, false, 0, 0⟩ := by simp [shN]
  unfold soundD
  rw [hk, hs, soundNs_two (s := ⟨3, true, false, false, 0, false, 0, 0⟩) (a := 3) rfl rfl]
  simp only [soundBs, soundTs, soundNm_true, soundNm_false, Bool.true_and]
  rw [Bool.eq_iff_iff]
  simp only [Bool.and_eq_true, decide_eq_true_eq, if_false, Bool.false_eq_true]
  constructor
  · rintro ⟨⟨a1, a2⟩, a3, a4, a5, a6⟩
    skip
    exact ⟨a3, a5, by omega, a4, a6⟩
  · rintro ⟨b1, b2, b3, b4, b5⟩
    exact ⟨⟨by omega, by omega⟩, b1, b4, b2, b5⟩

theorem soundD_6 (d : Dt) : soundD 6 d = (soundN d.host && (soundN d.mail && (fitN 5 4 d.nums && (decide (d.bytes.length = 0) && decide (d.texts.length = 0))))) := by
  have hk : kindB 6 = true := by decide
  have hs : shN 6 = ⟨0, true, true, true, 5, false, 0, 0⟩ := by simp [shN]
  unfold soundD
  rw [hk, hs, soundNs_four (s := ⟨0, true, true, true, 5, false, 0, 0⟩) (b := 5) rfl rfl]
  simp only [soundBs, soundTs, soundNm_true, Bool.true_and]
  rw [Bool.eq_iff_iff]
  simp only [Bool.and_eq_true, decide_eq_true_eq, if_false, Bool.false_eq_true]
  constructor
  · rintro ⟨⟨a1, a2⟩, a3, a4, a5, a6⟩
    skip
    exact ⟨a3, a4, a5, by omega, a6⟩
  · rintro ⟨b1, b2, b3, b4, b5⟩
    exact ⟨⟨by omega, by omega⟩, b1, b2, b3, b5⟩

theorem soundD_16 (d : Dt) : soundD 16 d = (decide (1 ≤ d.texts.length) && (decide (d.texts.length ≤ 64) && ((decide (d.bytes.length = 0) && (decide (d.host.length = 0) && (decide (d.mail.length = 0) && decide (d.nums.length = 0)))) && d.texts.all (fun t => decide (t.length ≤ 255))))) := by
  have hk : kindB 16 = true := by decide
  have hs : shN 16 = ⟨0, false, false, false, 0, true, 0, 0⟩ := by simp [shN]
  unfold soundD
  rw [hk, hs, soundNs_two (s := ⟨0, false, false, false, 0, true, 0, 0⟩) (a := 0) rfl rfl]
  simp only [soundBs, soundTs, soundNm_false, fitN_zero, Bool.true_and]
  rw [Bool.eq_iff_iff]
  simp only [Bool.and_eq_true, decide_eq_true_eq, if_true]
  constructor
  · rintro ⟨⟨a1, a2⟩, a3, a4, a5, a6⟩
    obtain ⟨a6, a7, a8⟩ := a6
    exact ⟨a7, a8, ⟨by omega, a3, a4, a5⟩, a6⟩
  · rintro ⟨b1, b2, ⟨b3, b4, b5, b6⟩, b7⟩
    exact ⟨⟨by omega, by omega⟩, b4, b5, b6, b7, b1, b2⟩

theorem soundD_other {k : Int} (d : Dt) (hk : kindB k = true) (h : (k == 1) = false ∧ (k == 28) = false ∧ (k == 2) = false ∧ (k == 5) = false ∧ (k == 12) = false ∧ (k == 15) = false ∧ (k == 6) = false ∧ (k == 16) = false ∧ (k == 33) = false) :
    soundD k d = (decide (d.bytes.length ≤ 65535) && (decide (d.host.length = 0) && (decide (d.mail.length = 0) && (decide (d.nums.length = 0) && decide (d.texts.length = 0))))) := by
  unfold soundD
  rw [hk, shN_other h, soundNs_two (s := ⟨0, false, false, false, 0, false, 0, 65535⟩) (a := 0) rfl rfl]
  simp only [soundBs, soundTs, soundNm_false, fitN_zero, Bool.true_and]
  rw [Bool.eq_iff_iff]
  simp only [Bool.and_eq_true, decide_eq_true_eq, if_false, Bool.false_eq_true]
  constructor
  · rintro ⟨⟨a1, a2⟩, a3, a4, a5, a6⟩
    exact ⟨a2, a3, a4, a5, a6⟩
  · rintro ⟨b1, b2, b3, b4, b5⟩
    exact ⟨⟨by omega, b1⟩, b2, b3, b4, b5⟩

end Go.Proofs.Ytjjmllbkfbdcnaa
