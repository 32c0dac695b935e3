/-
  NumOrder: of two numbers the greater one has the greater bytes.
-/
import Derived.Test.YtoockdnkjficmaaAnswers
namespace Go.Proofs.Ytoockdnkjficmaa
open Go.RowKit

theorem order_tests {a b s : Nat} (ha : a < 2 ^ (8 * s)) (hb : b < 2 ^ (8 * s)) :
    Op.bytesLess (digs a s) (digs b s) = decide (a < b) ∧ (digs a s == digs b s) = ((a : Int) == (b : Int)) := by
  refine ⟨digs_less ha hb, ?_⟩
  by_cases h : a = b
  · subst h; simp
  · have h1 : ¬ digs a s = digs b s := fun e => h ((digs_eq ha hb).1 e)
    have h2 : ((a : Int) == b) = false := by rw [beq_eq_false_iff_ne]; omega
    rw [h2, beq_eq_false_iff_ne.2 h1]

set_option maxHeartbeats 400000 in
theorem order_nat (a b k : Nat) (w : World) (ha : a < 4294967296) (hb : b < 4294967296) (hk : k < 256) :
    Calls Try.prog 6 #[.int .u32 a, .int .u32 b, .int .u8 k] w (TrueB w) := by
  obtain ⟨s, hs⟩ : ∃ s : Nat, s = k % 4 + 4 := ⟨_, rfl⟩
  have hs4 : 4 ≤ s := by omega
  have hs7 : s ≤ 7 := by omega
  have hp : 4294967296 ≤ 2 ^ (8 * s) := Nat.pow_le_pow_right (n := 2) (by omega) (show 32 ≤ 8 * s by omega)
  have ha' : a < 2 ^ (8 * s) := Nat.lt_of_lt_of_le ha hp
  have hb' : b < 2 ^ (8 * s) := Nat.lt_of_lt_of_le hb hp
  have fa : fitB a s = true := fitB_true (by omega) (by omega) (by omega) (by rw [Int.toNat_natCast]; exact_mod_cast ha')
  have fb : fitB b s = true := fitB_true (by omega) (by omega) (by omega) (by rw [Int.toNat_natCast]; exact_mod_cast hb')
  have HT1 := Lib.hid (order_tests ha' hb').1
  have HT2 := Lib.hid (order_tests ha' hb').2
  have HS := Lib.hid hs
  have HFA := Lib.hid fa
  have HFB := Lib.hid fb
  have hkk : (k : Int) % 4 = ((k % 4 : Nat) : Int) := by omega
  have HKK := Lib.hid hkk
  clear hs ha' hb' hp fa fb hkk
  go_enter Try.func6, Try.ntmps6
  go_wp2_with fail
  rw [show ((k : Int) % 4 + 4) = (s : Int) from by have := HS.out; omega]
  refine (put_yes none 0 0 0 [] a s w rfl (Row.empty _ _ _) (by omega) (by omega) HFA.out).mono ?_
  rw [List.nil_append]
  rintro e w1 ⟨A1, c1, rfl, hown1, hB1⟩
  have hw1 := hB1.size
  have HO1 := Lib.hid hown1
  have HB1 := Lib.hid hB1
  clear hown1 hB1
  rw [length_digs]
  go_wp2_with fail
  refine (put_yes none 0 0 0 [] b s w1 rfl (Row.empty _ _ _) (by omega) (by omega) HFB.out).mono ?_
  rw [List.nil_append]
  rintro e w2 ⟨A2, c2, rfl, hown2, hB2⟩
  have hw2 := hB2.size
  have HO2 := Lib.hid hown2
  have HB2 := Lib.hid hB2
  clear hown2 hB2
  rw [length_digs]
  go_wp2_with fail
  refine (answers_any _).mono ?_
  rintro e w3 ⟨rfl, hb3⟩
  have HB3 := Lib.hid hb3
  have hcx := convert_row_run (P := Try.prog) w3 22 9 5 Try.underlying22 Try.underlying5 Try.underlying9 A1 s c1 w1.heap.size (digs a s) (length_digs a s)
    (by have h := Row.of_own HO1.out; exact (h.below HB2.out).below (hb3.mono hw2))
  have hcy := convert_row_run (P := Try.prog) w3 22 9 5 Try.underlying22 Try.underlying5 Try.underlying9 A2 s c2 w2.heap.size (digs b s) (length_digs b s)
    (by have h := Row.of_own HO2.out; exact h.below hb3)
  clear hb3
  have ht1 := HT1.out
  have ht2 := HT2.out
  go_wp2
  go_ret
  exact ⟨rfl, (HB1.out.trans (HB2.out.mono hw1)).trans (HB3.out.mono (by omega))⟩

theorem u32_bd {n : Int} (h : (Lit.int .u32 n).wf = true) : 0 ≤ n ∧ n < 4294967296 := by
  have h1 : IntKind.u32.min = 0 := rfl
  have h2 : IntKind.u32.max = 4294967295 := rfl
  simp only [Lit.wf, Bool.and_eq_true, decide_eq_true_eq] at h
  omega
theorem u8_bd {n : Int} (h : (Lit.int .u8 n).wf = true) : 0 ≤ n ∧ n < 256 := by
  have h1 : IntKind.u8.min = 0 := rfl
  have h2 : IntKind.u8.max = 255 := rfl
  simp only [Lit.wf, Bool.and_eq_true, decide_eq_true_eq] at h
  omega

theorem order_any (a b k : Int) (w : World) (ha : (Lit.int .u32 a).wf = true) (hb : (Lit.int .u32 b).wf = true) (hk : (Lit.int .u8 k).wf = true) :
    Calls Try.prog 6 #[.int .u32 a, .int .u32 b, .int .u8 k] w (TrueB w) := by
  have ha := u32_bd ha
  have hb := u32_bd hb
  have hk := u8_bd hk
  obtain ⟨a', rfl⟩ : ∃ n : Nat, a = n := ⟨a.toNat, by omega⟩
  obtain ⟨b', rfl⟩ : ∃ n : Nat, b = n := ⟨b.toNat, by omega⟩
  obtain ⟨k', rfl⟩ : ∃ n : Nat, k = n := ⟨k.toNat, by omega⟩
  exact order_nat a' b' k' w (by omega) (by omega) (by omega)

end Go.Proofs.Ytoockdnkjficmaa
