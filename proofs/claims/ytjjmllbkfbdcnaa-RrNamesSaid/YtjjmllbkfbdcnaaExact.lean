/-
  The contracts of a law's 'own' and of the document's Exact.
-/
import Derived.Test.YtjjmllbkfbdcnaaOwn
import Derived.Test.YtjjmllbkfbdcnaaNames
namespace Go.Proofs.Ytjjmllbkfbdcnaa
open Go.RowKit

theorem str_info : (Try.prog.info? 9).map (fun i => (i.zero, i.size, i.bytes)) = some (some (.string ⟨#[]⟩), 1, 16) := by kernel_rfl

/-- The call answers a slice of strings of its own, which reads as n; nothing that was there has turned. -/
def OwnedS (w : World) (n : List (List UInt8)) (e : Ending) (w' : World) : Prop :=
  ∃ A c, e = .returned (.slice A n.length c) ∧ w'.ownsRow w.heap.size 9 1 (.slice A n.length c) n.length (n.map sv) ∧ Below w.heap.size w w'

theorem take_eq_snocS {xs ys : List (List UInt8)} {k : Nat} (h : xs.take k = ys.take k) (hx : k < xs.length) (hy : k < ys.length) (e : xs[k] = ys[k]) : xs.take (k + 1) = ys.take (k + 1) := by
  rw [List.take_succ_eq_append_getElem hx, List.take_succ_eq_append_getElem hy, h, e]

def ExactRel (w : World) (xs ys : List (List UInt8)) (i : Value) (wr : World) : Prop := ∃ k : Nat, k ≤ xs.length ∧ i = .int .i64 k ∧ xs.take k = ys.take k ∧ ∃ j, wr = w.drewN j

set_option maxHeartbeats 400000 in
theorem exact_ne (A B : Option Addr) (n m c d : Nat) (w : World) (h : n ≠ m) :
    Calls Try.prog 40 #[.slice A n c, .slice B m d] w (Drewn w (.bool false)) := by
  have h1 : ((n : Int) != (m : Int)) = true := by rw [bne_iff_ne]; omega
  go_enter Try.func40, Try.ntmps40
  go_wp2
  go_ret
  exact ⟨rfl, 0, rfl⟩

set_option maxHeartbeats 400000 in
theorem exact_len (A B : Option Addr) (n c d H : Nat) (xs ys : List (List UInt8)) (w : World) (hx : xs.length = n) (hy : ys.length = n) (hA : Row w H A (xs.map sv)) (hB : Row w H B (ys.map sv)) (hm : n ≤ maxLen) :
    Calls Try.prog 40 #[.slice A n c, .slice B n d] w (Drewn w (.bool (decide (xs = ys)))) := by
  unfold maxLen at hm
  have h1 : ((n : Int) != (n : Int)) = false := by simp
  have HX := Lib.hid hx
  have HY := Lib.hid hy
  have HA := Lib.hid hA
  have HB := Lib.hid hB
  clear hx hy hA hB
  go_enter Try.func40, Try.ntmps40
  go_wp2
  go_loopw [5] (ExactRel w xs ys) (fun i _ => n - (intOf i).toNat)
  case atStart => exact ⟨0, by omega, rfl, by simp, 0, rfl⟩
  case round =>
    obtain ⟨k, hk, rfl, hkt, j, rfl⟩ := hrel
    have HKT := Lib.hid hkt
    clear hkt
    by_cases hlt : k < n
    · have hkx : k < xs.length := by rw [HX.out]; exact hlt
      have hky : k < ys.length := by rw [HY.out]; exact hlt
      obtain ⟨b, off, rfl, _, hca⟩ := HA.out.name_at hkx
      obtain ⟨b', off', rfl, _, hcb⟩ := HB.out.name_at hky
      by_cases he : xs[k] = ys[k]
      · have HE := Lib.hid he
        have hne : ((xs[k]) == (ys[k])) = true := by rw [he]; simp
        clear he
        go_wp2
        go_quiet (fail)
        go_wp2
        refine ⟨⟨k + 1, by rw [HX.out]; omega, by go_num, take_eq_snocS HKT.out hkx hky HE.out, _, rfl⟩, by simp [intOf]; omega⟩
      · have HE := Lib.hid he
        have hne : ((xs[k]) == (ys[k])) = false := by
          rw [beq_eq_false_iff_ne]; exact he
        have hf : decide (xs = ys) = false := by
          rw [decide_eq_false_iff_not]; rintro rfl; exact he rfl
        have HF := Lib.hid hf
        clear he hf
        go_wp2
        go_quiet (fail)
        go_wp2
        go_ret
        exact ⟨by rw [HF.out]; rfl, j + nq, by rw [World.drewN_drewN]⟩
    · obtain rfl : k = n := by have := HX.out; omega
      have ht : decide (xs = ys) = true := by
        rw [decide_eq_true_eq]
        have := HKT.out
        rwa [List.take_of_length_le (by rw [HX.out]; omega), List.take_of_length_le (by rw [HY.out]; omega)] at this
      have HF := Lib.hid ht
      clear ht
      go_wp2
      go_ret
      exact ⟨by rw [HF.out]; rfl, _, rfl⟩

theorem exact_any (A B : Option Addr) (n m c d H : Nat) (xs ys : List (List UInt8)) (w : World) (hx : xs.length = n) (hy : ys.length = m) (hA : Row w H A (xs.map sv)) (hB : Row w H B (ys.map sv)) (hm : n ≤ maxLen) :
    Calls Try.prog 40 #[.slice A n c, .slice B m d] w (Drewn w (.bool (decide (xs = ys)))) := by
  by_cases h : n = m
  · subst h
    exact exact_len A B n c d H xs ys w hx hy hA hB hm
  · have hf : decide (xs = ys) = false := by
      rw [decide_eq_false_iff_not]; rintro rfl; omega
    rw [hf]
    exact exact_ne A B n m c d w h

end Go.Proofs.Ytjjmllbkfbdcnaa
