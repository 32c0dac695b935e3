/-
  WnameLoops: a pointer that leads to itself, or ahead, ends with ErrLoop.
-/
import Derived.Test.YtmfcppolomkbfaaWAnswers
namespace Go.Proofs.Ytmfcppolomkbfaa
open Go.RowKit

set_option maxHeartbeats 400000 in
theorem loops_off (A : Option Addr) (m c : Nat) (a t : Int) (w : World) (hm : m < 4 ∨ 16000 < m) (hm2 : m ≤ maxLen) :
    Calls Try.prog 6 #[.slice A m c, .int .u16 a, .int .u16 t] w (TrueB w) := by
  unfold maxLen at hm2
  rcases hm with hm | hm
  · have d1 : decide ((m : Int) < 4) = true := by simp; omega
    go_enter Try.func6, Try.ntmps6
    go_wp2_with fail
    refine (wanswers_any _).mono ?_
    rintro e w1 ⟨rfl, hb⟩
    have HB := Lib.hid hb
    clear hb
    go_wp2_with fail
    refine (wanswers_any _).mono ?_
    rintro e w2 ⟨rfl, hb2⟩
    have HB2 := Lib.hid hb2
    clear hb2
    go_wp2
    go_ret
    exact ⟨rfl, HB.out.trans (HB2.out.mono HB.out.size)⟩
  · have d1 : decide ((m : Int) < 4) = false := by simp; omega
    have d2 : decide (16000 < (m : Int)) = true := by simp; omega
    go_enter Try.func6, Try.ntmps6
    go_wp2_with fail
    refine (wanswers_any _).mono ?_
    rintro e w1 ⟨rfl, hb⟩
    have HB := Lib.hid hb
    clear hb
    go_wp2_with fail
    refine (wanswers_any _).mono ?_
    rintro e w2 ⟨rfl, hb2⟩
    have HB2 := Lib.hid hb2
    clear hb2
    go_wp2
    go_ret
    exact ⟨rfl, HB.out.trans (HB2.out.mono HB.out.size)⟩

theorem loops_read {b : List UInt8} {k : Nat} {y z : UInt8} (hk : k + 1 < b.length) (hy : 192 ≤ y.toNat) (hto : k ≤ toR y z) : getR ((b.set k y).set (k + 1) z) k k 0 [] = ([], 0, 6) := by
  have h0 : k < ((b.set k y).set (k + 1) z).length := by simp; omega
  have h1 : k + 1 < ((b.set k y).set (k + 1) z).length := by simp; omega
  have e0 : ((b.set k y).set (k + 1) z)[k] = y := by simp
  have e1 : ((b.set k y).set (k + 1) z)[k + 1] = z := by simp
  exact getR_loop h0 h1 (by rw [e0]; exact hy) (by rw [e0, e1]; exact hto)

theorem mod_nat {a m : Nat} (hm : 0 < m) : ((a : Int)).tmod (m : Int) = ((a % m : Nat) : Int) := by
  rw [Int.tmod_eq_emod_of_nonneg (by omega)]
  omega

set_option maxHeartbeats 2000000 in
theorem loops_on (A : Option Addr) (m c : Nat) (b : List UInt8) (a t : Nat) (w : World) (hbl : b.length = m) (hrow : Row w w.heap.size A (b.map bc)) (hm : 4 ≤ m) (hm2 : m ≤ 16000) (ha : a ≤ 65535) (ht : t ≤ 65535) :
    Calls Try.prog 6 #[.slice A m c, .int .u16 a, .int .u16 t] w (TrueB w) := by
  obtain ⟨i0, hi0, hz0, hz1, hz2⟩ := info_parts u8_info
  have d1 : decide ((m : Int) < 4) = false := by simp; omega
  have d2 : decide (16000 < (m : Int)) = false := by simp; omega
  have HW := Lib.hid hrow
  have HL := Lib.hid hbl
  clear hrow hbl
  obtain ⟨k, hk⟩ : ∃ k, k = a % (m - 1) := ⟨_, rfl⟩
  have hkm : k < m - 1 := by rw [hk]; exact Nat.mod_lt _ (by omega)
  have e1 : ((a : Int)).tmod ((m : Int) - 1) = (k : Int) := by
    rw [hk, show (m : Int) - 1 = ((m - 1 : Nat) : Int) by omega]; exact mod_nat (by omega)
  have e2 : ((a : Int)) % ((m : Int) - 1) = (k : Int) := by
    rw [← e1, Int.tmod_eq_emod_of_nonneg (by omega)]
  obtain ⟨r, hr⟩ : ∃ r, r = t % (m - k) := ⟨_, rfl⟩
  have hrm : r < m - k := by rw [hr]; exact Nat.mod_lt _ (by omega)
  have e3 : ((t : Int)).tmod ((m : Int) - (k : Int)) = (r : Int) := by
    rw [hr, show (m : Int) - (k : Int) = ((m - k : Nat) : Int) by omega]; exact mod_nat (by omega)
  have e4 : ((t : Int)) % ((m : Int) - (k : Int)) = (r : Int) := by
    rw [← e3, Int.tmod_eq_emod_of_nonneg (by omega)]
  clear hk hr
  obtain ⟨y, hy⟩ : ∃ y : UInt8, y = UInt8.ofNat (192 + (k + r) / 256) := ⟨_, rfl⟩
  obtain ⟨z, hz⟩ : ∃ z : UInt8, z = UInt8.ofNat ((k + r) % 256) := ⟨_, rfl⟩
  have hy' : y.toNat = 192 + (k + r) / 256 := by rw [hy, UInt8.toNat_ofNat']; omega
  have hz' : z.toNat = (k + r) % 256 := by rw [hz, UInt8.toNat_ofNat']; omega
  have e5 : IntKind.u8.wrap (192 + ((k : Int) + (r : Int)) / 256) = (y.toNat : Int) := by rw [IntKind.wrap_u8]; omega
  have e6 : IntKind.u8.wrap (((k : Int) + (r : Int)) % 256) = (z.toNat : Int) := by rw [IntKind.wrap_u8]; omega
  have hto : k ≤ toR y z := by unfold toR; omega
  have hy2 : 192 ≤ y.toNat := by omega
  have HY := Lib.hid hy'
  have HZ := Lib.hid hz'
  clear hy hz hy' hz'
  have n1 : ((m : Int) - 1 == 0) = false := by rw [beq_eq_false_iff_ne]; omega
  have n2 : ((m : Int) - (k : Int) == 0) = false := by rw [beq_eq_false_iff_ne]; omega
  go_enter Try.func6, Try.ntmps6
  go_wp2_with fail
  refine (wanswers_any _).mono ?_
  rintro e w1 ⟨rfl, hb⟩
  have HB := Lib.hid hb
  have HA := Lib.hid ((HW.out.below hb).alloc hb.size (.cells #[] 5))
  have hz := hb.size
  clear hb
  go_wp2_with (
    at_builtin
    refine wpList_append_row rfl (.tmp 26) (.tmp 27) _ rfl w1.heap.size 5 i0 _ 1 1 Try.underlying26 hi0 hz0 hz1 hz2 rfl (by omega) (.slice (some ⟨w1.heap.size, 0, none⟩) 0 0) 0 [] rfl
      (own_lit _ _ _) A m c w.heap.size (b.map bc) rfl (by rw [List.length_map, HL.out, Nat.mul_one]) HA.out (bc_one b) (by unfold maxLen; omega) (by omega) (by simp) ?_
    intro v2 w2 hown2 hg2
    simp only [Nat.zero_add, List.nil_append] at hown2
    obtain ⟨A2, c2, rfl, hc1, hc2⟩ := own_form hown2
    obtain ⟨g2, rfl⟩ := own_some hown2 (by omega)
    have HO2 := Lib.hid hown2
    have HB2 := Lib.hid (own_below (HB.out.trans ((Below.refl _ w1).alloc hz _)) hz (by simp; omega) (own_lit w1 5 1) hg2)
    have ck := own_cell hown2 (k := k) (by rw [List.length_map, HL.out]; omega)
    have ck1 := own_cell hown2 (k := k + 1) (by rw [List.length_map, HL.out]; omega)
    have fk := own_frozen hown2 k
    have fk1 := own_frozen hown2 (k + 1)
    clear hown2 hg2)
  have ho3 := own_store (own_store HO2.out (k := k) (by omega) (bc y)) (k := k + 1) (by omega) (bc z)
  rw [← List.map_set, ← List.map_set] at ho3
  have HG := Lib.hid (fun W hr => wget_at (some ⟨g2, 0, none⟩) m c2 ((b.set k y).set (k + 1) z) k W (by simp [HL.out]) hr hc2 hc1 (by omega))
  rw [loops_read (by rw [HL.out]; omega) hy2 hto] at HG
  have hg0 := (HO2.out.lt g2 rfl).1
  refine (HG.out _ (Row.of_own ho3)).mono ?_
  rintro e w3 ⟨v, rfl, ho4, hb4⟩
  obtain ⟨A4, c4, rfl, _, _⟩ := own_form ho4
  have HB4 := Lib.hid (hb4.mono (B' := w.heap.size) (by simpa using HB2.out.size))
  clear ho3 ho4 hb4
  go_wp2
  go_ret
  exact ⟨rfl, ((HB2.out.setCell (Nat.le_trans hz hg0) _).setCell (Nat.le_trans hz hg0) _).trans HB4.out⟩

theorem loops_any (A : Option Addr) (m c : Nat) (b : List UInt8) (a t : Int) (w : World) (hbl : b.length = m) (hrow : Row w w.heap.size A (b.map bc)) (hm : m ≤ maxLen) (ha : (Lit.int .u16 a).wf = true) (ht : (Lit.int .u16 t).wf = true) :
    Calls Try.prog 6 #[.slice A m c, .int .u16 a, .int .u16 t] w (TrueB w) := by
  have h1 : IntKind.u16.min = 0 := rfl
  have h2 : IntKind.u16.max = 65535 := rfl
  simp only [Lit.wf, Bool.and_eq_true, decide_eq_true_eq] at ha ht
  by_cases h : 4 ≤ m ∧ m ≤ 16000
  · obtain ⟨a, rfl⟩ : ∃ n : Nat, a = n := ⟨a.toNat, by omega⟩
    obtain ⟨t, rfl⟩ : ∃ n : Nat, t = n := ⟨t.toNat, by omega⟩
    exact loops_on A m c b a t w hbl hrow h.1 h.2 (by omega) (by omega)
  · exact loops_off A m c a t w (by omega) hm

end Go.Proofs.Ytmfcppolomkbfaa
