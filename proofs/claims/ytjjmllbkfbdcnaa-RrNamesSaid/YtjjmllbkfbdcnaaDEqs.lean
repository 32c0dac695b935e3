/-
  Data held against data: bytes, numbers, strings, names.
-/
import Derived.Test.YtjjmllbkfbdcnaaDInt
import Derived.Test.YtjjmllbkfbdcnaaSame
import Derived.Test.YtjjmllbkfbdcnaaRefEq
namespace Go.Proofs.Ytjjmllbkfbdcnaa
open Go.RowKit

theorem take_eq_snocI {xs ys : List Int} {k : Nat} (h : xs.take k = ys.take k) (hx : k < xs.length) (hy : k < ys.length) (e : xs[k] = ys[k]) : xs.take (k + 1) = ys.take (k + 1) := by
  rw [List.take_succ_eq_append_getElem hx, List.take_succ_eq_append_getElem hy, h, e]
def IntsRel (w : World) (xs ys : List Int) (i : Value) (wr : World) : Prop := ∃ k : Nat, k ≤ xs.length ∧ i = .int .i64 k ∧ xs.take k = ys.take k ∧ ∃ j, wr = w.drewN j

set_option maxHeartbeats 400000 in
theorem ints_ne (A B : Option Addr) (n m c d : Nat) (w : World) (h : n ≠ m) :
    Calls Try.prog 97 #[.slice A n c, .slice B m d] w (Drewn w (.bool false)) := by
  have h1 : ((n : Int) != (m : Int)) = true := by rw [bne_iff_ne]; omega
  go_enter Try.func97, Try.ntmps97
  go_wp2
  go_ret
  exact ⟨rfl, 0, rfl⟩

set_option maxHeartbeats 400000 in
theorem ints_len (A B : Option Addr) (n c d H : Nat) (xs ys : List Int) (w : World) (hx : xs.length = n) (hy : ys.length = n) (hA : Row w H A (xs.map zv)) (hB : Row w H B (ys.map zv)) (hm : n ≤ maxLen) :
    Calls Try.prog 97 #[.slice A n c, .slice B n d] w (Drewn w (.bool (decide (xs = ys)))) := by
  unfold maxLen at hm
  have h1 : ((n : Int) != (n : Int)) = false := by simp
  have HX := Lib.hid hx
  have HY := Lib.hid hy
  have HA := Lib.hid hA
  have HB := Lib.hid hB
  clear hx hy hA hB
  go_enter Try.func97, Try.ntmps97
  go_wp2
  go_loopw [5] (IntsRel w xs ys) (fun i _ => n - (intOf i).toNat)
  case atStart => exact ⟨0, by omega, rfl, by simp, 0, rfl⟩
  case round =>
    obtain ⟨k, hk, rfl, hkt, j, rfl⟩ := hrel
    have HKT := Lib.hid hkt
    clear hkt
    by_cases hlt : k < n
    · have hkx : k < xs.length := by rw [HX.out]; exact hlt
      have hky : k < ys.length := by rw [HY.out]; exact hlt
      obtain ⟨b, off, rfl, _, hca⟩ := HA.out.int_at hkx
      obtain ⟨b', off', rfl, _, hcb⟩ := HB.out.int_at hky
      by_cases he : xs[k] = ys[k]
      · have HE := Lib.hid he
        have hne : (xs[k] != ys[k]) = false := by rw [he]; simp
        clear he
        go_wp2
        go_quiet (fail)
        go_wp2
        refine ⟨⟨k + 1, by rw [HX.out]; omega, by go_num, take_eq_snocI HKT.out hkx hky HE.out, _, rfl⟩, by simp [intOf]; omega⟩
      · have HE := Lib.hid he
        have hne : (xs[k] != ys[k]) = true := by rw [bne_iff_ne]; exact he
        have hf : decide (xs = ys) = false := by
          rw [decide_eq_false_iff_not]; rintro rfl; exact he rfl
        have HF := Lib.hid hf
        clear he hf
        go_wp2
        go_quiet (fail)
        go_wp2
        go_ret
        exact ⟨by rw [HF.out]; rfl, j + nq, by rw [World.drewN_drewN]⟩
    · obtain rfl : k = n := by have := HX.out; omega
      have ht : decide (xs = ys) = true := by
        rw [decide_eq_true_eq]
        have := HKT.out
        rwa [List.take_of_length_le (by rw [HX.out]; omega), List.take_of_length_le (by rw [HY.out]; omega)] at this
      have HF := Lib.hid ht
      clear ht
      go_wp2
      go_ret
      exact ⟨by rw [HF.out]; rfl, _, rfl⟩

theorem ints_any (A B : Option Addr) (n m c d H : Nat) (xs ys : List Int) (w : World) (hx : xs.length = n) (hy : ys.length = m) (hA : Row w H A (xs.map zv)) (hB : Row w H B (ys.map zv)) (hm : n ≤ maxLen) :
    Calls Try.prog 97 #[.slice A n c, .slice B m d] w (Drewn w (.bool (decide (xs = ys)))) := by
  by_cases h : n = m
  · subst h
    exact ints_len A B n c d H xs ys w hx hy hA hB hm
  · have hf : decide (xs = ys) = false := by
      rw [decide_eq_false_iff_not]; rintro rfl; omega
    rw [hf]
    exact ints_ne A B n m c d w h

set_option maxHeartbeats 400000 in
theorem eqints_ne (A B : Option Addr) (n m c d : Nat) (w : World) (h : n ≠ m) :
    Calls Try.prog 92 #[.slice A n c, .slice B m d] w (Drewn w (.bool false)) := by
  have h1 : ((n : Int) != (m : Int)) = true := by rw [bne_iff_ne]; omega
  go_enter Try.func92, Try.ntmps92
  go_wp2
  go_ret
  exact ⟨rfl, 0, rfl⟩

set_option maxHeartbeats 400000 in
theorem eqints_len (A B : Option Addr) (n c d H : Nat) (xs ys : List Int) (w : World) (hx : xs.length = n) (hy : ys.length = n) (hA : Row w H A (xs.map zv)) (hB : Row w H B (ys.map zv)) (hm : n ≤ maxLen) :
    Calls Try.prog 92 #[.slice A n c, .slice B n d] w (Drewn w (.bool (decide (xs = ys)))) := by
  unfold maxLen at hm
  have h1 : ((n : Int) != (n : Int)) = false := by simp
  have HX := Lib.hid hx
  have HY := Lib.hid hy
  have HA := Lib.hid hA
  have HB := Lib.hid hB
  clear hx hy hA hB
  go_enter Try.func92, Try.ntmps92
  go_wp2
  go_loopw [13] (IntsRel w xs ys) (fun i _ => n - (intOf i).toNat)
  case atStart => exact ⟨0, by omega, rfl, by simp, 0, rfl⟩
  case round =>
    obtain ⟨k, hk, rfl, hkt, j, rfl⟩ := hrel
    have HKT := Lib.hid hkt
    clear hkt
    by_cases hlt : k < n
    · have hkx : k < xs.length := by rw [HX.out]; exact hlt
      have hky : k < ys.length := by rw [HY.out]; exact hlt
      obtain ⟨b, off, rfl, _, hca⟩ := HA.out.int_at hkx
      obtain ⟨b', off', rfl, _, hcb⟩ := HB.out.int_at hky
      by_cases he : xs[k] = ys[k]
      · have HE := Lib.hid he
        have hne : (xs[k] != ys[k]) = false := by rw [he]; simp
        clear he
        go_wp2
        go_quiet (fail)
        go_wp2
        refine ⟨⟨k + 1, by rw [HX.out]; omega, by go_num, take_eq_snocI HKT.out hkx hky HE.out, _, rfl⟩, by simp [intOf]; omega⟩
      · have HE := Lib.hid he
        have hne : (xs[k] != ys[k]) = true := by rw [bne_iff_ne]; exact he
        have hf : decide (xs = ys) = false := by
          rw [decide_eq_false_iff_not]; rintro rfl; exact he rfl
        have HF := Lib.hid hf
        clear he hf
        go_wp2
        go_quiet (fail)
        go_wp2
        go_ret
        exact ⟨by rw [HF.out]; rfl, j + nq, by rw [World.drewN_drewN]⟩
    · obtain rfl : k = n := by have := HX.out; omega
      have ht : decide (xs = ys) = true := by
        rw [decide_eq_true_eq]
        have := HKT.out
        rwa [List.take_of_length_le (by rw [HX.out]; omega), List.take_of_length_le (by rw [HY.out]; omega)] at this
      have HF := Lib.hid ht
      clear ht
      go_wp2
      go_ret
      exact ⟨by rw [HF.out]; rfl, _, rfl⟩

theorem eqints_any (A B : Option Addr) (n m c d H : Nat) (xs ys : List Int) (w : World) (hx : xs.length = n) (hy : ys.length = m) (hA : Row w H A (xs.map zv)) (hB : Row w H B (ys.map zv)) (hm : n ≤ maxLen) :
    Calls Try.prog 92 #[.slice A n c, .slice B m d] w (Drewn w (.bool (decide (xs = ys)))) := by
  by_cases h : n = m
  · subst h
    exact eqints_len A B n c d H xs ys w hx hy hA hB hm
  · have hf : decide (xs = ys) = false := by
      rw [decide_eq_false_iff_not]; rintro rfl; omega
    rw [hf]
    exact eqints_ne A B n m c d w h

set_option maxHeartbeats 400000 in
theorem eqstrs_ne (A B : Option Addr) (n m c d : Nat) (w : World) (h : n ≠ m) :
    Calls Try.prog 93 #[.slice A n c, .slice B m d] w (Drewn w (.bool false)) := by
  have h1 : ((n : Int) != (m : Int)) = true := by rw [bne_iff_ne]; omega
  go_enter Try.func93, Try.ntmps93
  go_wp2
  go_ret
  exact ⟨rfl, 0, rfl⟩

set_option maxHeartbeats 400000 in
theorem eqstrs_len (A B : Option Addr) (n c d H : Nat) (xs ys : List (List UInt8)) (w : World) (hx : xs.length = n) (hy : ys.length = n) (hA : Row w H A (xs.map sv)) (hB : Row w H B (ys.map sv)) (hm : n ≤ maxLen) :
    Calls Try.prog 93 #[.slice A n c, .slice B n d] w (Drewn w (.bool (decide (xs = ys)))) := by
  unfold maxLen at hm
  have h1 : ((n : Int) != (n : Int)) = false := by simp
  have HX := Lib.hid hx
  have HY := Lib.hid hy
  have HA := Lib.hid hA
  have HB := Lib.hid hB
  clear hx hy hA hB
  go_enter Try.func93, Try.ntmps93
  go_wp2
  go_loopw [13] (ExactRel w xs ys) (fun i _ => n - (intOf i).toNat)
  case atStart => exact ⟨0, by omega, rfl, by simp, 0, rfl⟩
  case round =>
    obtain ⟨k, hk, rfl, hkt, j, rfl⟩ := hrel
    have HKT := Lib.hid hkt
    clear hkt
    by_cases hlt : k < n
    · have hkx : k < xs.length := by rw [HX.out]; exact hlt
      have hky : k < ys.length := by rw [HY.out]; exact hlt
      obtain ⟨b, off, rfl, _, hca⟩ := HA.out.name_at hkx
      obtain ⟨b', off', rfl, _, hcb⟩ := HB.out.name_at hky
      by_cases he : xs[k] = ys[k]
      · have HE := Lib.hid he
        have hne : ((xs[k]) == (ys[k])) = true := by rw [he]; simp
        clear he
        go_wp2
        go_quiet (fail)
        go_wp2
        refine ⟨⟨k + 1, by rw [HX.out]; omega, by go_num, take_eq_snocS HKT.out hkx hky HE.out, _, rfl⟩, by simp [intOf]; omega⟩
      · have HE := Lib.hid he
        have hne : ((xs[k]) == (ys[k])) = false := by rw [beq_eq_false_iff_ne]; exact he
        have hf : decide (xs = ys) = false := by
          rw [decide_eq_false_iff_not]; rintro rfl; exact he rfl
        have HF := Lib.hid hf
        clear he hf
        go_wp2
        go_quiet (fail)
        go_wp2
        go_ret
        exact ⟨by rw [HF.out]; rfl, j + nq, by rw [World.drewN_drewN]⟩
    · obtain rfl : k = n := by have := HX.out; omega
      have ht : decide (xs = ys) = true := by
        rw [decide_eq_true_eq]
        have := HKT.out
        rwa [List.take_of_length_le (by rw [HX.out]; omega), List.take_of_length_le (by rw [HY.out]; omega)] at this
      have HF := Lib.hid ht
      clear ht
      go_wp2
      go_ret
      exact ⟨by rw [HF.out]; rfl, _, rfl⟩

theorem eqstrs_any (A B : Option Addr) (n m c d H : Nat) (xs ys : List (List UInt8)) (w : World) (hx : xs.length = n) (hy : ys.length = m) (hA : Row w H A (xs.map sv)) (hB : Row w H B (ys.map sv)) (hm : n ≤ maxLen) :
    Calls Try.prog 93 #[.slice A n c, .slice B m d] w (Drewn w (.bool (decide (xs = ys)))) := by
  by_cases h : n = m
  · subst h
    exact eqstrs_len A B n c d H xs ys w hx hy hA hB hm
  · have hf : decide (xs = ys) = false := by
      rw [decide_eq_false_iff_not]; rintro rfl; omega
    rw [hf]
    exact eqstrs_ne A B n m c d w h

set_option maxHeartbeats 400000 in
theorem eqbytes_any (A B : Option Addr) (n m c d H : Nat) (xs ys : List UInt8) (w : World) (hx : xs.length = n) (hy : ys.length = m) (hA : Row w H A (xs.map bc)) (hB : Row w H B (ys.map bc)) :
    Calls Try.prog 91 #[.slice A n c, .slice B m d] w (Told w (.bool (decide (xs = ys)))) := by
  have h1 := convert_row_run (P := Try.prog) w 22 9 5 Try.underlying22 Try.underlying5 Try.underlying9 A n c H xs hx hA
  have h2 := convert_row_run (P := Try.prog) w 22 9 5 Try.underlying22 Try.underlying5 Try.underlying9 B m d H ys hy hB
  by_cases he : xs = ys
  · have hne : (xs == ys) = true := by rw [beq_iff_eq]; exact he
    have HF := Lib.hid (show decide (xs = ys) = true by rw [decide_eq_true_eq]; exact he)
    clear he hA hB hx hy
    go_enter Try.func91, Try.ntmps91
    go_wp2
    go_ret
    exact ⟨by rw [HF.out]; rfl, rfl⟩
  · have hne : (xs == ys) = false := by rw [beq_eq_false_iff_ne]; exact he
    have HF := Lib.hid (show decide (xs = ys) = false by rw [decide_eq_false_iff_not]; exact he)
    clear he hA hB hx hy
    go_enter Try.func91, Try.ntmps91
    go_wp2
    go_ret
    exact ⟨by rw [HF.out]; rfl, rfl⟩

theorem rtexts_any (A B : Option Addr) (n m c d H : Nat) (xs ys : List (List UInt8)) (w : World) (hx : xs.length = n) (hy : ys.length = m) (hA : Row w H A (xs.map sv)) (hB : Row w H B (ys.map sv)) (hm : n ≤ maxLen) :
    Calls Try.prog 98 #[.slice A n c, .slice B m d] w (Drewn w (.bool (decide (xs = ys)))) := by
  have HC := Lib.hid (exact_any A B n m c d H xs ys w hx hy hA hB hm)
  clear hA hB hx hy
  go_enter Try.func98, Try.ntmps98
  go_wp2_with fail
  refine HC.out.mono ?_
  rintro e w' ⟨rfl, k, rfl⟩
  go_wp2
  go_ret
  exact ⟨rfl, k, rfl⟩

end Go.Proofs.Ytjjmllbkfbdcnaa
