/-
  The contracts of the document's Equal, Under and Cmp.
-/
import Derived.Test.YtjjmllbkfbdcnaaEq
import Derived.Deep.RegionHeld3
namespace Go.Proofs.Ytjjmllbkfbdcnaa
open Go.RowKit

set_option maxHeartbeats 400000 in
theorem ref_equal_ne (A B : Option Addr) (c1 c2 : Nat) (a b : List (List UInt8)) (w : World) (hl : a.length ≠ b.length) :
    Calls Try.prog 70 #[.slice A a.length c1, .slice B b.length c2] w (Gave w (.bool (eqN a b))) := by
  have h1 : ((a.length : Int) != (b.length : Int)) = true := by rw [bne_iff_ne]; omega
  rw [eqN_len hl]
  clear hl
  go_enter Try.func70, Try.ntmps70
  go_wp2
  go_ret
  exact ⟨rfl, Below.refl _ _⟩

theorem below_draws {B : Nat} {w0 w1 w2 : World} (h1 : Below B w0 w1) (hz : B ≤ w1.heap.size) {k : Nat} (h2 : Below (w1.drewN k).heap.size (w1.drewN k) w2) : Below B w0 w2 :=
  (below_drewN' h1 k).trans (h2.mono hz)

set_option maxHeartbeats 1000000 in
theorem ref_equal_len (A B : Option Addr) (c1 c2 : Nat) (a b : List (List UInt8)) (w : World) (hA : Row w w.heap.size A (a.map sv)) (hB : Row w w.heap.size B (b.map sv))
    (hs1 : WideN a) (hs2 : WideN b) (hl : a.length = b.length) :
    Calls Try.prog 70 #[.slice A a.length c1, .slice B b.length c2] w (Gave w (.bool (eqN a b))) := by
  have hn1 := hs1.1
  have hn2 := hs2.1
  have HS1 := Lib.hid hs1.2
  have HS2 := Lib.hid hs2.2
  unfold maxLen at hn1 hn2
  clear hs1 hs2
  have HA := Lib.hid hA
  have HB := Lib.hid hB
  have h1 : ((a.length : Int) != (b.length : Int)) = false := by rw [hl]; simp
  have HL := Lib.hid hl
  clear hA hB hl
  go_enter Try.func70, Try.ntmps70
  go_wp2
  go_loopw [5] (EqRel w a b) (fun i _ => a.length - (intOf i).toNat)
  case atStart => exact ⟨0, Nat.zero_le _, rfl, rfl, Below.refl _ _⟩
  case round =>
    obtain ⟨k, hk, rfl, hkt, hbw⟩ := hrel
    have hz := hbw.size
    have HKT := Lib.hid hkt
    have HBW := Lib.hid hbw
    have HA1 := Lib.hid (HA.out.below hbw)
    have HB1 := Lib.hid (HB.out.below hbw)
    clear hkt hbw
    by_cases hlt : k < a.length
    · have hkb : k < b.length := by have := HL.out; omega
      obtain ⟨ba, oa, rfl, hla1, hca⟩ := HA1.out.name_at hlt
      obtain ⟨bb, ob, rfl, hlb1, hcb⟩ := HB1.out.name_at hkb
      have hza := HS1.out k hlt
      have hzb := HS2.out k hkb
      have hba : ba < wr.heap.size := by omega
      have hbb : bb < wr.heap.size := by omega
      have hk0 : (0 : Int) ≤ (k : Int) := Int.natCast_nonneg _
      have hk1 : (k : Int) < (a.length : Int) := by omega
      have hk2 : (k : Int) < (b.length : Int) := by omega
      replace HBW := Lib.hid HBW.out.drew
      by_cases he : lowL a[k] = lowL b[k]
      · have hne : (lowL a[k] == lowL b[k]) = true := by rw [he]; simp
        have HK := Lib.hid (low_snoc HKT.out hlt hkb he)
        clear he
        go_wp2
        go_region_held3 (fun w' => w'.cell? ⟨ba, oa + k, none⟩ = some (.string ⟨(a[k]).toArray⟩) ∧ w'.cell? ⟨bb, ob + k, none⟩ = some (.string ⟨(b[k]).toArray⟩))
          (first | go_keep)
          ((go_at_call 96; refine (ref_small_any _ _ (by assumption)).mono ?_; rintro e w1 ⟨rfl, hb1⟩; have hca1 := below_cells hb1 ba (oa + k) hba; have hcb1 := below_cells hb1 bb (ob + k) hbb; replace hba := Nat.lt_of_lt_of_le hba hb1.size; replace hbb := Nat.lt_of_lt_of_le hbb hb1.size; replace HBW := Lib.hid (HBW.out.trans (hb1.mono hz)); replace hz := Nat.le_trans hz hb1.size; clear hb1))
        go_wp2
        exact ⟨⟨k + 1, by omega, by go_num, HK.out, HBW.out⟩, by simp [intOf]; omega⟩
      · have hne : (lowL a[k] == lowL b[k]) = false := by rw [beq_eq_false_iff_ne]; exact he
        have HK := Lib.hid (low_part hlt hkb he)
        clear he
        go_wp2
        go_region_held3 (fun w' => w'.cell? ⟨ba, oa + k, none⟩ = some (.string ⟨(a[k]).toArray⟩) ∧ w'.cell? ⟨bb, ob + k, none⟩ = some (.string ⟨(b[k]).toArray⟩))
          (first | go_keep)
          ((go_at_call 96; refine (ref_small_any _ _ (by assumption)).mono ?_; rintro e w1 ⟨rfl, hb1⟩; have hca1 := below_cells hb1 ba (oa + k) hba; have hcb1 := below_cells hb1 bb (ob + k) hbb; replace hba := Nat.lt_of_lt_of_le hba hb1.size; replace hbb := Nat.lt_of_lt_of_le hbb hb1.size; replace HBW := Lib.hid (HBW.out.trans (hb1.mono hz)); replace hz := Nat.le_trans hz hb1.size; clear hb1))
        go_wp2
        go_ret
        exact ⟨ret_bool HK.out.symm, HBW.out⟩
    · obtain rfl : k = a.length := by omega
      have HK := Lib.hid (low_end HKT.out HL.out)
      go_wp2
      go_ret
      exact ⟨ret_bool HK.out.symm, HBW.out⟩

theorem ref_equal_wide (A B : Option Addr) (m1 m2 c1 c2 H : Nat) (a b : List (List UInt8)) (w : World) (hl1 : a.length = m1) (hl2 : b.length = m2) (hA : Row w H A (a.map sv)) (hB : Row w H B (b.map sv)) (hH : H ≤ w.heap.size)
    (hs1 : WideN a) (hs2 : WideN b) :
    Calls Try.prog 70 #[.slice A m1 c1, .slice B m2 c2] w (Gave w (.bool (eqN a b))) := by
  subst hl1
  subst hl2
  by_cases hl : a.length = b.length
  · exact ref_equal_len A B c1 c2 a b w (hA.mono hH) (hB.mono hH) hs1 hs2 hl
  · exact ref_equal_ne A B c1 c2 a b w hl

theorem ref_equal_any (A B : Option Addr) (m1 m2 c1 c2 H : Nat) (a b : List (List UInt8)) (w : World) (hl1 : a.length = m1) (hl2 : b.length = m2) (hA : Row w H A (a.map sv)) (hB : Row w H B (b.map sv)) (hH : H ≤ w.heap.size)
    (hs1 : szN a ≤ maxLen) (hs2 : szN b ≤ maxLen) :
    Calls Try.prog 70 #[.slice A m1 c1, .slice B m2 c2] w (Gave w (.bool (eqN a b))) :=
  ref_equal_wide A B m1 m2 c1 c2 H a b w hl1 hl2 hA hB hH (wide_sz hs1) (wide_sz hs2)

end Go.Proofs.Ytjjmllbkfbdcnaa
