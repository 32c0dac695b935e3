/-
  The contract of the document's Same: whether two slices of bytes read alike.
-/
import Derived.Test.YtbojdhhgholgjaaDoorProg
import Derived.Test.YtbojdhhgholgjaaDoorPlain
import Derived.Test.YtbojdhhgholgjaaDoorOwn
namespace Go.Proofs.YtbojdhhgholgjaaDoor
open Go.RowKit

theorem take_eq_snoc {xs ys : List UInt8} {k : Nat} (h : xs.take k = ys.take k) (hx : k < xs.length) (hy : k < ys.length) (e : xs[k] = ys[k]) : xs.take (k + 1) = ys.take (k + 1) := by
  rw [List.take_succ_eq_append_getElem hx, List.take_succ_eq_append_getElem hy, h, e]
theorem u8_eq_of {a b : UInt8} (h : (a.toNat : Int) = b.toNat) : a = b := by
  apply UInt8.toNat.inj; omega

def SameRel (w : World) (xs ys : List UInt8) (i : Value) (wr : World) : Prop := ∃ k : Nat, k ≤ xs.length ∧ i = .int .i64 k ∧ xs.take k = ys.take k ∧ ∃ j, wr = w.drewN j

set_option maxHeartbeats 400000 in
theorem same_ne (A B : Option Addr) (n m c d : Nat) (w : World) (h : n ≠ m) :
    Calls Tryd.prog 10 #[.slice A n c, .slice B m d] w (Drewn w (.bool false)) := by
  have h1 : ((n : Int) != (m : Int)) = true := by rw [bne_iff_ne]; omega
  go_enter Tryd.func10, Tryd.ntmps10
  go_wp2
  go_ret
  exact ⟨rfl, 0, rfl⟩

set_option maxHeartbeats 400000 in
theorem same_len (A B : Option Addr) (n c d H : Nat) (xs ys : List UInt8) (w : World) (hx : xs.length = n) (hy : ys.length = n) (hA : Row w H A (xs.map bc)) (hB : Row w H B (ys.map bc)) (hm : n ≤ maxLen) :
    Calls Tryd.prog 10 #[.slice A n c, .slice B n d] w (Drewn w (.bool (decide (xs = ys)))) := by
  unfold maxLen at hm
  have h1 : ((n : Int) != (n : Int)) = false := by simp
  have HX := Lib.hid hx
  have HY := Lib.hid hy
  have HA := Lib.hid hA
  have HB := Lib.hid hB
  clear hx hy hA hB
  go_enter Tryd.func10, Tryd.ntmps10
  go_wp2
  go_loopw [5] (SameRel w xs ys) (fun i _ => n - (intOf i).toNat)
  case atStart => exact ⟨0, by omega, rfl, by simp, 0, rfl⟩
  case round =>
    obtain ⟨k, hk, rfl, hkt, j, rfl⟩ := hrel
    have HKT := Lib.hid hkt
    clear hkt
    by_cases hlt : k < n
    · obtain ⟨b, off, rfl, _, hca⟩ := HA.out.at_ (k := k) (by rw [List.length_map, HX.out]; exact hlt)
      obtain ⟨b', off', rfl, _, hcb⟩ := HB.out.at_ (k := k) (by rw [List.length_map, HY.out]; exact hlt)
      have hca' : w.cell? ⟨b, off + k, none⟩ = some (.int .u8 (xs[k]'(by rw [HX.out]; exact hlt)).toNat) := by rw [hca]; simp [bc]
      have hcb' : w.cell? ⟨b', off' + k, none⟩ = some (.int .u8 (ys[k]'(by rw [HY.out]; exact hlt)).toNat) := by rw [hcb]; simp [bc]
      clear hca hcb
      by_cases he : xs[k]'(by rw [HX.out]; exact hlt) = ys[k]'(by rw [HY.out]; exact hlt)
      · have HE := Lib.hid he
        have hne : (((xs[k]'(by rw [HX.out]; exact hlt)).toNat : Int) != ((ys[k]'(by rw [HY.out]; exact hlt)).toNat : Int)) = false := by rw [he]; simp
        clear he
        go_wp2
        go_quiet (fail)
        go_wp2
        refine ⟨⟨k + 1, by rw [HX.out]; omega, by go_num, take_eq_snoc HKT.out _ _ HE.out, _, rfl⟩, by simp [intOf]; omega⟩
      · have HE := Lib.hid he
        have hne : (((xs[k]'(by rw [HX.out]; exact hlt)).toNat : Int) != ((ys[k]'(by rw [HY.out]; exact hlt)).toNat : Int)) = true := by
          rw [bne_iff_ne]; intro e; exact he (u8_eq_of e)
        have hf : decide (xs = ys) = false := by
          rw [decide_eq_false_iff_not]; rintro rfl; exact he rfl
        have HF := Lib.hid hf
        clear he hf
        go_wp2
        go_quiet (fail)
        go_wp2
        go_ret
        exact ⟨by rw [HF.out]; rfl, j + nq, by rw [World.drewN_drewN]⟩
    · obtain rfl : k = n := by have := HX.out; omega
      have ht : decide (xs = ys) = true := by
        rw [decide_eq_true_eq]
        have := HKT.out
        rwa [List.take_of_length_le (by rw [HX.out]; omega), List.take_of_length_le (by rw [HY.out]; omega)] at this
      have HF := Lib.hid ht
      clear ht
      go_wp2
      go_ret
      exact ⟨by rw [HF.out]; rfl, _, rfl⟩

theorem same_any (A B : Option Addr) (n m c d H : Nat) (xs ys : List UInt8) (w : World) (hx : xs.length = n) (hy : ys.length = m) (hA : Row w H A (xs.map bc)) (hB : Row w H B (ys.map bc)) (hm : n ≤ maxLen) :
    Calls Tryd.prog 10 #[.slice A n c, .slice B m d] w (Drewn w (.bool (decide (xs = ys)))) := by
  by_cases h : n = m
  · subst h
    exact same_len A B n c d H xs ys w hx hy hA hB hm
  · have hf : decide (xs = ys) = false := by
      rw [decide_eq_false_iff_not]; rintro rfl; omega
    rw [hf]
    exact same_ne A B n m c d w h

theorem same_yes (A B : Option Addr) (n m c d H : Nat) (xs : List UInt8) (w : World) (hx : xs.length = n) (hy : xs.length = m) (hA : Row w H A (xs.map bc)) (hB : Row w H B (xs.map bc)) (hm : n ≤ maxLen) :
    Calls Tryd.prog 10 #[.slice A n c, .slice B m d] w (Drewn w (.bool true)) := by
  have h := same_any A B n m c d H xs xs w hx hy hA hB hm
  rwa [show decide (xs = xs) = true from by simp] at h

end Go.Proofs.YtbojdhhgholgjaaDoor
