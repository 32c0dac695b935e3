/-
  The contract of the document's Cmp.
-/
import Derived.Test.YtiegneopolffoaaCmp
namespace Go.Proofs.Ytiegneopolffoaa
open Go.RowKit

def RCmpRel (w : World) (a b : List (List UInt8)) (i : Value) (wr : World) : Prop :=
  ∃ k : Nat, k ≤ a.length ∧ k ≤ b.length ∧ i = .int .i64 ((k : Int) + 1) ∧ (keyN a).take k = (keyN b).take k ∧ Below w.heap.size w wr

theorem cmpInt_lt {x y : Nat} (h : x < y) : Lib.compareInt x y = -1 := by unfold Lib.compareInt; rw [if_pos (by omega)]
theorem cmpInt_gt {x y : Nat} (h : y < x) : Lib.compareInt x y = 1 := by unfold Lib.compareInt; rw [if_neg (by omega), if_pos (by omega)]
theorem cmpInt_eq {x y : Nat} (h : x = y) : Lib.compareInt x y = 0 := by unfold Lib.compareInt; rw [if_neg (by omega), if_neg (by omega)]

set_option maxHeartbeats 2000000 in
theorem ref_cmp_any (A B : Option Addr) (m1 m2 c1 c2 H : Nat) (a b : List (List UInt8)) (w : World) (hl1 : a.length = m1) (hl2 : b.length = m2) (hA : Row w H A (a.map sv)) (hB : Row w H B (b.map sv)) (hH : H ≤ w.heap.size)
    (hs1 : szN a ≤ maxLen) (hs2 : szN b ≤ maxLen) :
    Calls Try.prog 23 #[.slice A m1 c1, .slice B m2 c2] w (Gave w (.int .i64 (cmpN a b))) := by
  subst hl1
  subst hl2
  unfold maxLen at hs1 hs2
  have hn1 := length_lt_szN a
  have hn2 := length_lt_szN b
  have HA := Lib.hid (hA.mono hH)
  have HB := Lib.hid (hB.mono hH)
  clear hA hB
  go_enter Try.func23, Try.ntmps23
  go_wp2
  go_loopw [5] (RCmpRel w a b) (fun i _ => a.length + 1 - (intOf i).toNat)
  case atStart => exact ⟨0, Nat.zero_le _, Nat.zero_le _, rfl, rfl, Below.refl _ _⟩
  case round =>
    obtain ⟨k, hka, hkb, rfl, hkt, hbw⟩ := hrel
    have hz := hbw.size
    have HKT := Lib.hid hkt
    have HBW := Lib.hid hbw
    have HA1 := Lib.hid (HA.out.below hbw)
    have HB1 := Lib.hid (HB.out.below hbw)
    clear hkt hbw
    by_cases h1 : a.length ≤ k
    · have d1 : decide ((a.length : Int) < (k : Int) + 1) = true := by simp; omega
      by_cases h2 : b.length ≤ k
      · have d2 : decide ((b.length : Int) < (k : Int) + 1) = true := by simp; omega
        have HE := Lib.hid ((key_end HKT.out (by omega)).trans (cmpInt_eq (by omega)))
        go_wp2
        go_ret
        exact ⟨ret_int HE.out.symm, HBW.out⟩
      · have d2 : decide ((b.length : Int) < (k : Int) + 1) = false := by simp; omega
        have HE := Lib.hid ((key_end HKT.out (by omega)).trans (cmpInt_lt (by omega)))
        go_wp2
        go_ret
        exact ⟨ret_int HE.out.symm, HBW.out⟩
    · have d1 : decide ((a.length : Int) < (k : Int) + 1) = false := by simp; omega
      by_cases h2 : b.length ≤ k
      · have d2 : decide ((b.length : Int) < (k : Int) + 1) = true := by simp; omega
        have HE := Lib.hid ((key_end HKT.out (by omega)).trans (cmpInt_gt (by omega)))
        go_wp2
        go_ret
        exact ⟨ret_int HE.out.symm, HBW.out⟩
      · have d2 : decide ((b.length : Int) < (k : Int) + 1) = false := by simp; omega
        have ha1 : a.length - (k + 1) < a.length := by omega
        have hb1 : b.length - (k + 1) < b.length := by omega
        obtain ⟨ba, oa, rfl, _, hca⟩ := HA1.out.name_at ha1
        obtain ⟨bb, ob, rfl, hbb, hcb⟩ := HB1.out.name_at hb1
        have hla := len_le_szN ha1
        have hlb := len_le_szN hb1
        have HCA := Lib.hid (fun w' => ref_small_any (a[a.length - (k + 1)]) w' (by unfold maxLen; omega))
        have HCB := Lib.hid (fun w' => ref_small_any (b[b.length - (k + 1)]) w' (by unfold maxLen; omega))
        have HS := Lib.hid (key_snoc' HKT.out (show k < a.length by omega) (show k < b.length by omega))
        have HP := Lib.hid (key_part' HKT.out (show k < a.length by omega) (show k < b.length by omega))
        generalize lowL (a[a.length - (k + 1)]) = x at HCA HS HP
        generalize lowL (b[b.length - (k + 1)]) = y at HCB HS HP
        rcases cmpB_tot.rng x y with hr | hr | hr
        · have hl : Op.bytesLess x y = true := by rw [bytesLess_cmp, hr]; rfl
          have HF := Lib.hid ((HP.out (by rw [hr]; omega)).trans hr)
          clear hr HS HP
          go_wp2_with fail
          refine (HCA.out _).mono ?_
          rintro e w1 ⟨rfl, hb1⟩
          have hcb' := below_cells hb1 bb (ob + (b.length - (k + 1))) (by omega)
          replace HBW := Lib.hid (HBW.out.trans (hb1.mono hz))
          replace hz := Nat.le_trans hz hb1.size
          clear hb1
          go_wp2_with fail
          refine (HCB.out _).mono ?_
          rintro e w2 ⟨rfl, hb2⟩
          replace HBW := Lib.hid (HBW.out.trans (hb2.mono hz))
          clear hb2
          go_wp2
          go_ret
          exact ⟨ret_int HF.out.symm, HBW.out⟩
        · have hl : Op.bytesLess x y = false := by rw [bytesLess_cmp, hr]; rfl
          have he : (x == y) = true := by rw [cmpB_tot.eq_ x y hr]; simp
          have HF := Lib.hid (HS.out hr)
          clear hr HS HP
          go_wp2_with fail
          refine (HCA.out _).mono ?_
          rintro e w1 ⟨rfl, hb1⟩
          have hcb' := below_cells hb1 bb (ob + (b.length - (k + 1))) (by omega)
          replace HBW := Lib.hid (HBW.out.trans (hb1.mono hz))
          replace hz := Nat.le_trans hz hb1.size
          clear hb1
          go_wp2_with fail
          refine (HCB.out _).mono ?_
          rintro e w2 ⟨rfl, hb2⟩
          replace HBW := Lib.hid (HBW.out.trans (hb2.mono hz))
          clear hb2
          go_wp2
          exact ⟨⟨k + 1, by omega, by omega, by go_num, HF.out, HBW.out⟩, by simp [intOf]; omega⟩
        · have hl : Op.bytesLess x y = false := by rw [bytesLess_cmp, hr]; rfl
          have he : (x == y) = false := by
            rw [beq_eq_false_iff_ne]
            rintro rfl
            rw [cmpB_tot.same] at hr
            omega
          have HF := Lib.hid ((HP.out (by rw [hr]; omega)).trans hr)
          clear hr HS HP
          go_wp2_with fail
          refine (HCA.out _).mono ?_
          rintro e w1 ⟨rfl, hb1⟩
          have hcb' := below_cells hb1 bb (ob + (b.length - (k + 1))) (by omega)
          replace HBW := Lib.hid (HBW.out.trans (hb1.mono hz))
          replace hz := Nat.le_trans hz hb1.size
          clear hb1
          go_wp2_with fail
          refine (HCB.out _).mono ?_
          rintro e w2 ⟨rfl, hb2⟩
          replace HBW := Lib.hid (HBW.out.trans (hb2.mono hz))
          clear hb2
          go_wp2
          go_ret
          exact ⟨ret_int HF.out.symm, HBW.out⟩

end Go.Proofs.Ytiegneopolffoaa
