/-
  The contracts of name.Equal and name.Under.
-/
import Derived.Test.YtjjmllbkfbdcnaaRrwritesP1
import Derived.Deep.RegionHeld3
import Derived.Test.YtjjmllbkfbdcnaaProg
import Derived.WalkSpells
import Derived.WalkLawsBesides
import Derived.Lib.AppendStr
import Derived.Maps.OwnOps
import Derived.Carry
namespace Go.Proofs.Ytjjmllbkfbdcnaa
open Go.RowKit

set_option maxHeartbeats 400000 in
theorem sameLabel_yes (a b : List UInt8) (w : World) (ha : a.length ≤ maxLen) (hb : b.length ≤ maxLen) (he : lowL a = lowL b) :
    Calls Try.prog 88 #[.string ⟨a.toArray⟩, .string ⟨b.toArray⟩] w (Gave w (.bool true)) := by
  have hc := byLabel_any a b w ha hb
  rw [show cmpB (lowL a) (lowL b) = 0 by rw [he]; exact cmpB_tot.same _] at hc
  have HC := Lib.hid hc
  clear hc he
  go_enter Try.func88, Try.ntmps88
  go_wp2_with fail
  refine HC.out.mono ?_
  rintro e w1 ⟨rfl, hb1⟩
  have HB1 := Lib.hid hb1
  clear hb1
  go_wp2
  go_ret
  exact ⟨rfl, HB1.out⟩

set_option maxHeartbeats 400000 in
theorem sameLabel_no (a b : List UInt8) (w : World) (ha : a.length ≤ maxLen) (hb : b.length ≤ maxLen) (he : lowL a ≠ lowL b) :
    Calls Try.prog 88 #[.string ⟨a.toArray⟩, .string ⟨b.toArray⟩] w (Gave w (.bool false)) := by
  have hc := byLabel_any a b w ha hb
  have hr : (cmpB (lowL a) (lowL b) == 0) = false := by rw [beq_eq_false_iff_ne]; exact fun h => he (cmpB_tot.eq_ _ _ h)
  generalize cmpB (lowL a) (lowL b) = r at hc hr
  have HC := Lib.hid hc
  clear hc he
  go_enter Try.func88, Try.ntmps88
  go_wp2_with fail
  refine HC.out.mono ?_
  rintro e w1 ⟨rfl, hb1⟩
  have HB1 := Lib.hid hb1
  clear hb1
  go_wp2
  go_ret
  exact ⟨rfl, HB1.out⟩

def EqRel (w : World) (a b : List (List UInt8)) (i : Value) (wr : World) : Prop :=
  ∃ k : Nat, k ≤ a.length ∧ i = .int .i64 k ∧ (lowN a).take k = (lowN b).take k ∧ Below w.heap.size w wr

theorem low_snoc {a b : List (List UInt8)} {k : Nat} (h : (lowN a).take k = (lowN b).take k) (ha : k < a.length) (hb : k < b.length) (e : lowL a[k] = lowL b[k]) : (lowN a).take (k + 1) = (lowN b).take (k + 1) := by
  rw [List.take_succ_eq_append_getElem (by rw [length_lowN]; exact ha), List.take_succ_eq_append_getElem (by rw [length_lowN]; exact hb), h]
  congr 2
  simpa [lowN] using e
theorem low_part {a b : List (List UInt8)} {k : Nat} (ha : k < a.length) (hb : k < b.length) (e : lowL a[k] ≠ lowL b[k]) : eqN a b = false := by
  unfold eqN
  rw [decide_eq_false_iff_not]
  intro h
  apply e
  have h2 : (lowN a)[k]? = (lowN b)[k]? := by rw [h]
  simpa [lowN, ha, hb] using h2
theorem low_end {a b : List (List UInt8)} (h : (lowN a).take a.length = (lowN b).take a.length) (hl : a.length = b.length) : eqN a b = true := by
  unfold eqN
  rw [decide_eq_true_eq]
  rwa [List.take_of_length_le (by rw [length_lowN]; omega), List.take_of_length_le (by rw [length_lowN]; omega)] at h
theorem eqN_len {a b : List (List UInt8)} (h : a.length ≠ b.length) : eqN a b = false := by
  unfold eqN
  rw [decide_eq_false_iff_not]
  intro e
  apply h
  have := congrArg List.length e
  rwa [length_lowN, length_lowN] at this

/-- No number or length in the name is too large for any memory. -/
def WideN (n : List (List UInt8)) : Prop := n.length ≤ maxLen ∧ ∀ k (h : k < n.length), (n[k]).length ≤ maxLen
theorem wide_sz {n : List (List UInt8)} (h : szN n ≤ maxLen) : WideN n :=
  ⟨by have := length_lt_szN n; omega, fun k hk => by have := len_le_szN hk; omega⟩

set_option maxHeartbeats 400000 in
theorem equalFunc_ne (A B : Option Addr) (c1 c2 : Nat) (a b : List (List UInt8)) (w : World) (hl : a.length ≠ b.length) :
    Calls Try.prog 87 #[.slice A a.length c1, .slice B b.length c2, .func (.func 88) #[] #[]] w (Gave w (.bool (eqN a b))) := by
  have h1 : ((a.length : Int) != (b.length : Int)) = true := by rw [bne_iff_ne]; omega
  rw [eqN_len hl]
  clear hl
  go_enter Try.func87, Try.ntmps87
  go_wp2
  go_ret
  exact ⟨rfl, Below.refl _ _⟩

set_option maxHeartbeats 1000000 in
theorem equalFunc_len (A B : Option Addr) (c1 c2 : Nat) (a b : List (List UInt8)) (w : World) (hA : Row w w.heap.size A (a.map sv)) (hB : Row w w.heap.size B (b.map sv))
    (hs1 : WideN a) (hs2 : WideN b) (hl : a.length = b.length) :
    Calls Try.prog 87 #[.slice A a.length c1, .slice B b.length c2, .func (.func 88) #[] #[]] w (Gave w (.bool (eqN a b))) := by
  have hn1 := hs1.1
  have hn2 := hs2.1
  have HS1 := Lib.hid hs1.2
  have HS2 := Lib.hid hs2.2
  unfold maxLen at hn1 hn2
  clear hs1 hs2
  have HA := Lib.hid hA
  have HB := Lib.hid hB
  have h1 : ((a.length : Int) != (b.length : Int)) = false := by rw [hl]; simp
  have HL := Lib.hid hl
  clear hA hB hl
  go_enter Try.func87, Try.ntmps87
  go_wp2
  go_loopw [17] (EqRel w a b) (fun i _ => a.length - (intOf i).toNat)
  case atStart => exact ⟨0, Nat.zero_le _, rfl, rfl, Below.refl _ _⟩
  case round =>
    obtain ⟨k, hk, rfl, hkt, hbw⟩ := hrel
    have hz := hbw.size
    have HKT := Lib.hid hkt
    have HBW := Lib.hid hbw
    have HA1 := Lib.hid (HA.out.below hbw)
    have HB1 := Lib.hid (HB.out.below hbw)
    clear hkt hbw
    by_cases hlt : k < a.length
    · have hkb : k < b.length := by have := HL.out; omega
      obtain ⟨ba, oa, rfl, _, hca⟩ := HA1.out.name_at hlt
      obtain ⟨bb, ob, rfl, _, hcb⟩ := HB1.out.name_at hkb
      have hla := HS1.out k hlt
      have hlb := HS2.out k hkb
      by_cases he : lowL a[k] = lowL b[k]
      · have HC := Lib.hid (fun w' => sameLabel_yes a[k] b[k] w' hla hlb he)
        have HK := Lib.hid (low_snoc HKT.out hlt hkb he)
        clear he
        go_wp2_with fail
        refine (HC.out _).mono ?_
        rintro e w1 ⟨rfl, hb1⟩
        have HB2 := Lib.hid hb1
        clear hb1
        go_wp2
        exact ⟨⟨k + 1, by omega, by go_num, HK.out, HBW.out.trans (HB2.out.mono hz)⟩, by simp [intOf]; omega⟩
      · have HC := Lib.hid (fun w' => sameLabel_no a[k] b[k] w' hla hlb he)
        have HK := Lib.hid (low_part hlt hkb he)
        clear he
        go_wp2_with fail
        refine (HC.out _).mono ?_
        rintro e w1 ⟨rfl, hb1⟩
        have HB2 := Lib.hid hb1
        clear hb1
        go_wp2
        go_ret
        exact ⟨ret_bool HK.out.symm, HBW.out.trans (HB2.out.mono hz)⟩
    · obtain rfl : k = a.length := by omega
      have HK := Lib.hid (low_end HKT.out HL.out)
      go_wp2
      go_ret
      exact ⟨ret_bool HK.out.symm, HBW.out⟩

set_option maxHeartbeats 400000 in
theorem equal_wide (A B : Option Addr) (m1 m2 c1 c2 H : Nat) (a b : List (List UInt8)) (w : World) (hl1 : a.length = m1) (hl2 : b.length = m2) (hA : Row w H A (a.map sv)) (hB : Row w H B (b.map sv)) (hH : H ≤ w.heap.size)
    (hs1 : WideN a) (hs2 : WideN b) :
    Calls Try.prog 66 #[.slice A m1 c1, .slice B m2 c2] w (Gave w (.bool (eqN a b))) := by
  subst hl1
  subst hl2
  have hf : Calls Try.prog 87 #[.slice A a.length c1, .slice B b.length c2, .func (.func 88) #[] #[]] w (Gave w (.bool (eqN a b))) := by
    by_cases hl : a.length = b.length
    · exact equalFunc_len A B c1 c2 a b w (hA.mono hH) (hB.mono hH) hs1 hs2 hl
    · exact equalFunc_ne A B c1 c2 a b w hl
  have HC := Lib.hid hf
  clear hA hB hf
  go_enter Try.func66, Try.ntmps66
  go_wp2_with fail
  refine HC.out.mono ?_
  rintro e w1 ⟨rfl, hb1⟩
  have HB1 := Lib.hid hb1
  clear hb1
  go_wp2
  go_ret
  exact ⟨rfl, HB1.out⟩

theorem equal_any (A B : Option Addr) (m1 m2 c1 c2 H : Nat) (a b : List (List UInt8)) (w : World) (hl1 : a.length = m1) (hl2 : b.length = m2) (hA : Row w H A (a.map sv)) (hB : Row w H B (b.map sv)) (hH : H ≤ w.heap.size)
    (hs1 : szN a ≤ maxLen) (hs2 : szN b ≤ maxLen) :
    Calls Try.prog 66 #[.slice A m1 c1, .slice B m2 c2] w (Gave w (.bool (eqN a b))) :=
  equal_wide A B m1 m2 c1 c2 H a b w hl1 hl2 hA hB hH (wide_sz hs1) (wide_sz hs2)

end Go.Proofs.Ytjjmllbkfbdcnaa

namespace Go.Proofs.Ytjjmllbkfbdcnaa
open Go.RowKit

set_option maxHeartbeats 400000 in
theorem ref_equal_ne (A B : Option Addr) (c1 c2 : Nat) (a b : List (List UInt8)) (w : World) (hl : a.length ≠ b.length) :
    Calls Try.prog 70 #[.slice A a.length c1, .slice B b.length c2] w (Gave w (.bool (eqN a b))) := by
  have h1 : ((a.length : Int) != (b.length : Int)) = true := by rw [bne_iff_ne]; omega
  rw [eqN_len hl]
  clear hl
  go_enter Try.func70, Try.ntmps70
  go_wp2
  go_ret
  exact ⟨rfl, Below.refl _ _⟩

theorem below_draws {B : Nat} {w0 w1 w2 : World} (h1 : Below B w0 w1) (hz : B ≤ w1.heap.size) {k : Nat} (h2 : Below (w1.drewN k).heap.size (w1.drewN k) w2) : Below B w0 w2 :=
  (below_drewN' h1 k).trans (h2.mono hz)

set_option maxHeartbeats 1000000 in
theorem ref_equal_len (A B : Option Addr) (c1 c2 : Nat) (a b : List (List UInt8)) (w : World) (hA : Row w w.heap.size A (a.map sv)) (hB : Row w w.heap.size B (b.map sv))
    (hs1 : WideN a) (hs2 : WideN b) (hl : a.length = b.length) :
    Calls Try.prog 70 #[.slice A a.length c1, .slice B b.length c2] w (Gave w (.bool (eqN a b))) := by
  have hn1 := hs1.1
  have hn2 := hs2.1
  have HS1 := Lib.hid hs1.2
  have HS2 := Lib.hid hs2.2
  unfold maxLen at hn1 hn2
  clear hs1 hs2
  have HA := Lib.hid hA
  have HB := Lib.hid hB
  have h1 : ((a.length : Int) != (b.length : Int)) = false := by rw [hl]; simp
  have HL := Lib.hid hl
  clear hA hB hl
  go_enter Try.func70, Try.ntmps70
  go_wp2
  go_loopw [5] (EqRel w a b) (fun i _ => a.length - (intOf i).toNat)
  case atStart => exact ⟨0, Nat.zero_le _, rfl, rfl, Below.refl _ _⟩
  case round =>
    obtain ⟨k, hk, rfl, hkt, hbw⟩ := hrel
    have hz := hbw.size
    have HKT := Lib.hid hkt
    have HBW := Lib.hid hbw
    have HA1 := Lib.hid (HA.out.below hbw)
    have HB1 := Lib.hid (HB.out.below hbw)
    clear hkt hbw
    by_cases hlt : k < a.length
    · have hkb : k < b.length := by have := HL.out; omega
      obtain ⟨ba, oa, rfl, hla1, hca⟩ := HA1.out.name_at hlt
      obtain ⟨bb, ob, rfl, hlb1, hcb⟩ := HB1.out.name_at hkb
      have hza := HS1.out k hlt
      have hzb := HS2.out k hkb
      have hba : ba < wr.heap.size := by omega
      have hbb : bb < wr.heap.size := by omega
      have hk0 : (0 : Int) ≤ (k : Int) := Int.natCast_nonneg _
      have hk1 : (k : Int) < (a.length : Int) := by omega
      have hk2 : (k : Int) < (b.length : Int) := by omega
      replace HBW := Lib.hid HBW.out.drew
      by_cases he : lowL a[k] = lowL b[k]
      · have hne : (lowL a[k] == lowL b[k]) = true := by rw [he]; simp
        have HK := Lib.hid (low_snoc HKT.out hlt hkb he)
        clear he
        go_wp2
        go_region_held3 (fun w' => w'.cell? ⟨ba, oa + k, none⟩ = some (.string ⟨(a[k]).toArray⟩) ∧ w'.cell? ⟨bb, ob + k, none⟩ = some (.string ⟨(b[k]).toArray⟩))
          (first | go_keep)
          ((go_at_call 96; refine (ref_small_any _ _ (by assumption)).mono ?_; rintro e w1 ⟨rfl, hb1⟩; have hca1 := below_cells hb1 ba (oa + k) hba; have hcb1 := below_cells hb1 bb (ob + k) hbb; replace hba := Nat.lt_of_lt_of_le hba hb1.size; replace hbb := Nat.lt_of_lt_of_le hbb hb1.size; replace HBW := Lib.hid (HBW.out.trans (hb1.mono hz)); replace hz := Nat.le_trans hz hb1.size; clear hb1))
        go_wp2
        exact ⟨⟨k + 1, by omega, by go_num, HK.out, HBW.out⟩, by simp [intOf]; omega⟩
      · have hne : (lowL a[k] == lowL b[k]) = false := by rw [beq_eq_false_iff_ne]; exact he
        have HK := Lib.hid (low_part hlt hkb he)
        clear he
        go_wp2
        go_region_held3 (fun w' => w'.cell? ⟨ba, oa + k, none⟩ = some (.string ⟨(a[k]).toArray⟩) ∧ w'.cell? ⟨bb, ob + k, none⟩ = some (.string ⟨(b[k]).toArray⟩))
          (first | go_keep)
          ((go_at_call 96; refine (ref_small_any _ _ (by assumption)).mono ?_; rintro e w1 ⟨rfl, hb1⟩; have hca1 := below_cells hb1 ba (oa + k) hba; have hcb1 := below_cells hb1 bb (ob + k) hbb; replace hba := Nat.lt_of_lt_of_le hba hb1.size; replace hbb := Nat.lt_of_lt_of_le hbb hb1.size; replace HBW := Lib.hid (HBW.out.trans (hb1.mono hz)); replace hz := Nat.le_trans hz hb1.size; clear hb1))
        go_wp2
        go_ret
        exact ⟨ret_bool HK.out.symm, HBW.out⟩
    · obtain rfl : k = a.length := by omega
      have HK := Lib.hid (low_end HKT.out HL.out)
      go_wp2
      go_ret
      exact ⟨ret_bool HK.out.symm, HBW.out⟩

theorem ref_equal_wide (A B : Option Addr) (m1 m2 c1 c2 H : Nat) (a b : List (List UInt8)) (w : World) (hl1 : a.length = m1) (hl2 : b.length = m2) (hA : Row w H A (a.map sv)) (hB : Row w H B (b.map sv)) (hH : H ≤ w.heap.size)
    (hs1 : WideN a) (hs2 : WideN b) :
    Calls Try.prog 70 #[.slice A m1 c1, .slice B m2 c2] w (Gave w (.bool (eqN a b))) := by
  subst hl1
  subst hl2
  by_cases hl : a.length = b.length
  · exact ref_equal_len A B c1 c2 a b w (hA.mono hH) (hB.mono hH) hs1 hs2 hl
  · exact ref_equal_ne A B c1 c2 a b w hl

theorem ref_equal_any (A B : Option Addr) (m1 m2 c1 c2 H : Nat) (a b : List (List UInt8)) (w : World) (hl1 : a.length = m1) (hl2 : b.length = m2) (hA : Row w H A (a.map sv)) (hB : Row w H B (b.map sv)) (hH : H ≤ w.heap.size)
    (hs1 : szN a ≤ maxLen) (hs2 : szN b ≤ maxLen) :
    Calls Try.prog 70 #[.slice A m1 c1, .slice B m2 c2] w (Gave w (.bool (eqN a b))) :=
  ref_equal_wide A B m1 m2 c1 c2 H a b w hl1 hl2 hA hB hH (wide_sz hs1) (wide_sz hs2)

end Go.Proofs.Ytjjmllbkfbdcnaa

namespace Go.Proofs.Ytjjmllbkfbdcnaa
open Go.RowKit

theorem take_eq_snocI {xs ys : List Int} {k : Nat} (h : xs.take k = ys.take k) (hx : k < xs.length) (hy : k < ys.length) (e : xs[k] = ys[k]) : xs.take (k + 1) = ys.take (k + 1) := by
  rw [List.take_succ_eq_append_getElem hx, List.take_succ_eq_append_getElem hy, h, e]
def IntsRel (w : World) (xs ys : List Int) (i : Value) (wr : World) : Prop := ∃ k : Nat, k ≤ xs.length ∧ i = .int .i64 k ∧ xs.take k = ys.take k ∧ ∃ j, wr = w.drewN j

set_option maxHeartbeats 400000 in
theorem ints_ne (A B : Option Addr) (n m c d : Nat) (w : World) (h : n ≠ m) :
    Calls Try.prog 97 #[.slice A n c, .slice B m d] w (Drewn w (.bool false)) := by
  have h1 : ((n : Int) != (m : Int)) = true := by rw [bne_iff_ne]; omega
  go_enter Try.func97, Try.ntmps97
  go_wp2
  go_ret
  exact ⟨rfl, 0, rfl⟩

set_option maxHeartbeats 400000 in
theorem ints_len (A B : Option Addr) (n c d H : Nat) (xs ys : List Int) (w : World) (hx : xs.length = n) (hy : ys.length = n) (hA : Row w H A (xs.map zv)) (hB : Row w H B (ys.map zv)) (hm : n ≤ maxLen) :
    Calls Try.prog 97 #[.slice A n c, .slice B n d] w (Drewn w (.bool (decide (xs = ys)))) := by
  unfold maxLen at hm
  have h1 : ((n : Int) != (n : Int)) = false := by simp
  have HX := Lib.hid hx
  have HY := Lib.hid hy
  have HA := Lib.hid hA
  have HB := Lib.hid hB
  clear hx hy hA hB
  go_enter Try.func97, Try.ntmps97
  go_wp2
  go_loopw [5] (IntsRel w xs ys) (fun i _ => n - (intOf i).toNat)
  case atStart => exact ⟨0, by omega, rfl, by simp, 0, rfl⟩
  case round =>
    obtain ⟨k, hk, rfl, hkt, j, rfl⟩ := hrel
    have HKT := Lib.hid hkt
    clear hkt
    by_cases hlt : k < n
    · have hkx : k < xs.length := by rw [HX.out]; exact hlt
      have hky : k < ys.length := by rw [HY.out]; exact hlt
      obtain ⟨b, off, rfl, _, hca⟩ := HA.out.int_at hkx
      obtain ⟨b', off', rfl, _, hcb⟩ := HB.out.int_at hky
      by_cases he : xs[k] = ys[k]
      · have HE := Lib.hid he
        have hne : (xs[k] != ys[k]) = false := by rw [he]; simp
        clear he
        go_wp2
        go_quiet (fail)
        go_wp2
        refine ⟨⟨k + 1, by rw [HX.out]; omega, by go_num, take_eq_snocI HKT.out hkx hky HE.out, _, rfl⟩, by simp [intOf]; omega⟩
      · have HE := Lib.hid he
        have hne : (xs[k] != ys[k]) = true := by rw [bne_iff_ne]; exact he
        have hf : decide (xs = ys) = false := by
          rw [decide_eq_false_iff_not]; rintro rfl; exact he rfl
        have HF := Lib.hid hf
        clear he hf
        go_wp2
        go_quiet (fail)
        go_wp2
        go_ret
        exact ⟨by rw [HF.out]; rfl, j + nq, by rw [World.drewN_drewN]⟩
    · obtain rfl : k = n := by have := HX.out; omega
      have ht : decide (xs = ys) = true := by
        rw [decide_eq_true_eq]
        have := HKT.out
        rwa [List.take_of_length_le (by rw [HX.out]; omega), List.take_of_length_le (by rw [HY.out]; omega)] at this
      have HF := Lib.hid ht
      clear ht
      go_wp2
      go_ret
      exact ⟨by rw [HF.out]; rfl, _, rfl⟩

theorem ints_any (A B : Option Addr) (n m c d H : Nat) (xs ys : List Int) (w : World) (hx : xs.length = n) (hy : ys.length = m) (hA : Row w H A (xs.map zv)) (hB : Row w H B (ys.map zv)) (hm : n ≤ maxLen) :
    Calls Try.prog 97 #[.slice A n c, .slice B m d] w (Drewn w (.bool (decide (xs = ys)))) := by
  by_cases h : n = m
  · subst h
    exact ints_len A B n c d H xs ys w hx hy hA hB hm
  · have hf : decide (xs = ys) = false := by
      rw [decide_eq_false_iff_not]; rintro rfl; omega
    rw [hf]
    exact ints_ne A B n m c d w h

set_option maxHeartbeats 400000 in
theorem eqints_ne (A B : Option Addr) (n m c d : Nat) (w : World) (h : n ≠ m) :
    Calls Try.prog 92 #[.slice A n c, .slice B m d] w (Drewn w (.bool false)) := by
  have h1 : ((n : Int) != (m : Int)) = true := by rw [bne_iff_ne]; omega
  go_enter Try.func92, Try.ntmps92
  go_wp2
  go_ret
  exact ⟨rfl, 0, rfl⟩

set_option maxHeartbeats 400000 in
theorem eqints_len (A B : Option Addr) (n c d H : Nat) (xs ys : List Int) (w : World) (hx : xs.length = n) (hy : ys.length = n) (hA : Row w H A (xs.map zv)) (hB : Row w H B (ys.map zv)) (hm : n ≤ maxLen) :
    Calls Try.prog 92 #[.slice A n c, .slice B n d] w (Drewn w (.bool (decide (xs = ys)))) := by
  unfold maxLen at hm
  have h1 : ((n : Int) != (n : Int)) = false := by simp
  have HX := Lib.hid hx
  have HY := Lib.hid hy
  have HA := Lib.hid hA
  have HB := Lib.hid hB
  clear hx hy hA hB
  go_enter Try.func92, Try.ntmps92
  go_wp2
  go_loopw [13] (IntsRel w xs ys) (fun i _ => n - (intOf i).toNat)
  case atStart => exact ⟨0, by omega, rfl, by simp, 0, rfl⟩
  case round =>
    obtain ⟨k, hk, rfl, hkt, j, rfl⟩ := hrel
    have HKT := Lib.hid hkt
    clear hkt
    by_cases hlt : k < n
    · have hkx : k < xs.length := by rw [HX.out]; exact hlt
      have hky : k < ys.length := by rw [HY.out]; exact hlt
      obtain ⟨b, off, rfl, _, hca⟩ := HA.out.int_at hkx
      obtain ⟨b', off', rfl, _, hcb⟩ := HB.out.int_at hky
      by_cases he : xs[k] = ys[k]
      · have HE := Lib.hid he
        have hne : (xs[k] != ys[k]) = false := by rw [he]; simp
        clear he
        go_wp2
        go_quiet (fail)
        go_wp2
        refine ⟨⟨k + 1, by rw [HX.out]; omega, by go_num, take_eq_snocI HKT.out hkx hky HE.out, _, rfl⟩, by simp [intOf]; omega⟩
      · have HE := Lib.hid he
        have hne : (xs[k] != ys[k]) = true := by rw [bne_iff_ne]; exact he
        have hf : decide (xs = ys) = false := by
          rw [decide_eq_false_iff_not]; rintro rfl; exact he rfl
        have HF := Lib.hid hf
        clear he hf
        go_wp2
        go_quiet (fail)
        go_wp2
        go_ret
        exact ⟨by rw [HF.out]; rfl, j + nq, by rw [World.drewN_drewN]⟩
    · obtain rfl : k = n := by have := HX.out; omega
      have ht : decide (xs = ys) = true := by
        rw [decide_eq_true_eq]
        have := HKT.out
        rwa [List.take_of_length_le (by rw [HX.out]; omega), List.take_of_length_le (by rw [HY.out]; omega)] at this
      have HF := Lib.hid ht
      clear ht
      go_wp2
      go_ret
      exact ⟨by rw [HF.out]; rfl, _, rfl⟩

theorem eqints_any (A B : Option Addr) (n m c d H : Nat) (xs ys : List Int) (w : World) (hx : xs.length = n) (hy : ys.length = m) (hA : Row w H A (xs.map zv)) (hB : Row w H B (ys.map zv)) (hm : n ≤ maxLen) :
    Calls Try.prog 92 #[.slice A n c, .slice B m d] w (Drewn w (.bool (decide (xs = ys)))) := by
  by_cases h : n = m
  · subst h
    exact eqints_len A B n c d H xs ys w hx hy hA hB hm
  · have hf : decide (xs = ys) = false := by
      rw [decide_eq_false_iff_not]; rintro rfl; omega
    rw [hf]
    exact eqints_ne A B n m c d w h

set_option maxHeartbeats 400000 in
theorem eqstrs_ne (A B : Option Addr) (n m c d : Nat) (w : World) (h : n ≠ m) :
    Calls Try.prog 93 #[.slice A n c, .slice B m d] w (Drewn w (.bool false)) := by
  have h1 : ((n : Int) != (m : Int)) = true := by rw [bne_iff_ne]; omega
  go_enter Try.func93, Try.ntmps93
  go_wp2
  go_ret
  exact ⟨rfl, 0, rfl⟩

set_option maxHeartbeats 400000 in
theorem eqstrs_len (A B : Option Addr) (n c d H : Nat) (xs ys : List (List UInt8)) (w : World) (hx : xs.length = n) (hy : ys.length = n) (hA : Row w H A (xs.map sv)) (hB : Row w H B (ys.map sv)) (hm : n ≤ maxLen) :
    Calls Try.prog 93 #[.slice A n c, .slice B n d] w (Drewn w (.bool (decide (xs = ys)))) := by
  unfold maxLen at hm
  have h1 : ((n : Int) != (n : Int)) = false := by simp
  have HX := Lib.hid hx
  have HY := Lib.hid hy
  have HA := Lib.hid hA
  have HB := Lib.hid hB
  clear hx hy hA hB
  go_enter Try.func93, Try.ntmps93
  go_wp2
  go_loopw [13] (ExactRel w xs ys) (fun i _ => n - (intOf i).toNat)
  case atStart => exact ⟨0, by omega, rfl, by simp, 0, rfl⟩
  case round =>
    obtain ⟨k, hk, rfl, hkt, j, rfl⟩ := hrel
    have HKT := Lib.hid hkt
    clear hkt
    by_cases hlt : k < n
    · have hkx : k < xs.length := by rw [HX.out]; exact hlt
      have hky : k < ys.length := by rw [HY.out]; exact hlt
      obtain ⟨b, off, rfl, _, hca⟩ := HA.out.name_at hkx
      obtain ⟨b', off', rfl, _, hcb⟩ := HB.out.name_at hky
      by_cases he : xs[k] = ys[k]
      · have HE := Lib.hid he
        have hne : ((xs[k]) == (ys[k])) = true := by rw [he]; simp
        clear he
        go_wp2
        go_quiet (fail)
        go_wp2
        refine ⟨⟨k + 1, by rw [HX.out]; omega, by go_num, take_eq_snocS HKT.out hkx hky HE.out, _, rfl⟩, by simp [intOf]; omega⟩
      · have HE := Lib.hid he
        have hne : ((xs[k]) == (ys[k])) = false := by rw [beq_eq_false_iff_ne]; exact he
        have hf : decide (xs = ys) = false := by
          rw [decide_eq_false_iff_not]; rintro rfl; exact he rfl
        have HF := Lib.hid hf
        clear he hf
        go_wp2
        go_quiet (fail)
        go_wp2
        go_ret
        exact ⟨by rw [HF.out]; rfl, j + nq, by rw [World.drewN_drewN]⟩
    · obtain rfl : k = n := by have := HX.out; omega
      have ht : decide (xs = ys) = true := by
        rw [decide_eq_true_eq]
        have := HKT.out
        rwa [List.take_of_length_le (by rw [HX.out]; omega), List.take_of_length_le (by rw [HY.out]; omega)] at this
      have HF := Lib.hid ht
      clear ht
      go_wp2
      go_ret
      exact ⟨by rw [HF.out]; rfl, _, rfl⟩

theorem eqstrs_any (A B : Option Addr) (n m c d H : Nat) (xs ys : List (List UInt8)) (w : World) (hx : xs.length = n) (hy : ys.length = m) (hA : Row w H A (xs.map sv)) (hB : Row w H B (ys.map sv)) (hm : n ≤ maxLen) :
    Calls Try.prog 93 #[.slice A n c, .slice B m d] w (Drewn w (.bool (decide (xs = ys)))) := by
  by_cases h : n = m
  · subst h
    exact eqstrs_len A B n c d H xs ys w hx hy hA hB hm
  · have hf : decide (xs = ys) = false := by
      rw [decide_eq_false_iff_not]; rintro rfl; omega
    rw [hf]
    exact eqstrs_ne A B n m c d w h

set_option maxHeartbeats 400000 in
theorem eqbytes_any (A B : Option Addr) (n m c d H : Nat) (xs ys : List UInt8) (w : World) (hx : xs.length = n) (hy : ys.length = m) (hA : Row w H A (xs.map bc)) (hB : Row w H B (ys.map bc)) :
    Calls Try.prog 91 #[.slice A n c, .slice B m d] w (Told w (.bool (decide (xs = ys)))) := by
  have h1 := convert_row_run (P := Try.prog) w 22 9 5 Try.underlying22 Try.underlying5 Try.underlying9 A n c H xs hx hA
  have h2 := convert_row_run (P := Try.prog) w 22 9 5 Try.underlying22 Try.underlying5 Try.underlying9 B m d H ys hy hB
  by_cases he : xs = ys
  · have hne : (xs == ys) = true := by rw [beq_iff_eq]; exact he
    have HF := Lib.hid (show decide (xs = ys) = true by rw [decide_eq_true_eq]; exact he)
    clear he hA hB hx hy
    go_enter Try.func91, Try.ntmps91
    go_wp2
    go_ret
    exact ⟨by rw [HF.out]; rfl, rfl⟩
  · have hne : (xs == ys) = false := by rw [beq_eq_false_iff_ne]; exact he
    have HF := Lib.hid (show decide (xs = ys) = false by rw [decide_eq_false_iff_not]; exact he)
    clear he hA hB hx hy
    go_enter Try.func91, Try.ntmps91
    go_wp2
    go_ret
    exact ⟨by rw [HF.out]; rfl, rfl⟩

theorem rtexts_any (A B : Option Addr) (n m c d H : Nat) (xs ys : List (List UInt8)) (w : World) (hx : xs.length = n) (hy : ys.length = m) (hA : Row w H A (xs.map sv)) (hB : Row w H B (ys.map sv)) (hm : n ≤ maxLen) :
    Calls Try.prog 98 #[.slice A n c, .slice B m d] w (Drewn w (.bool (decide (xs = ys)))) := by
  have HC := Lib.hid (exact_any A B n m c d H xs ys w hx hy hA hB hm)
  clear hA hB hx hy
  go_enter Try.func98, Try.ntmps98
  go_wp2_with fail
  refine HC.out.mono ?_
  rintro e w' ⟨rfl, k, rfl⟩
  go_wp2
  go_ret
  exact ⟨rfl, k, rfl⟩

end Go.Proofs.Ytjjmllbkfbdcnaa

namespace Go.Proofs.Ytjjmllbkfbdcnaa
open Go.RowKit

/-- Does data say the same? -/
def sameD (a b : Dt) : Bool := decide (a.bytes = b.bytes) && (decide (a.nums = b.nums) && (decide (a.texts = b.texts) && (eqN a.host b.host && eqN a.mail b.mail)))
/-- Names are not too large to be held one against the other. -/
structure Sized (d : Dt) : Prop where
  h : szN d.host ≤ maxLen
  m : szN d.mail ≤ maxLen
  t : d.texts.length ≤ maxLen
/-- No length in it is too large for any memory. -/
structure Wide (d : Dt) : Prop where
  h : WideN d.host
  m : WideN d.mail
  t : d.texts.length ≤ maxLen
theorem Sized.wide {d : Dt} (h : Sized d) : Wide d := ⟨wide_sz h.h, wide_sz h.m, h.t⟩
theorem gave_told {w : World} {v : Value} {e : Ending} {w' : World} (h : Told w v e w') : Gave w v e w' := ⟨h.1, h.2 ▸ Below.refl _ _⟩
theorem gave_drewn {w : World} {v : Value} {e : Ending} {w' : World} (h : Drewn w v e w') : Gave w v e w' := by
  obtain ⟨h1, k, rfl⟩ := h
  exact ⟨h1, below_drewN' (Below.refl _ _) k⟩
/-- Two boxes of data. -/
structure Boxes (w : World) (x y : DV) (a b : Dt) (W : World) : Prop where
  ba : Whole W w.heap.size 26 [x.vb a, x.vh a, x.vm a, x.vn a, x.vt a]
  bb : Whole W (w.heap.size + 1) 26 [y.vb b, y.vh b, y.vm b, y.vn b, y.vt b]
  da : DataAt W w.heap.size x a
  db : DataAt W w.heap.size y b
  below : Below w.heap.size w W
  size : w.heap.size + 2 ≤ W.heap.size
theorem Boxes.step {w : World} {x y : DV} {a b : Dt} {W W' : World} (h : Boxes w x y a b W) (hb : Below W.heap.size W W') : Boxes w x y a b W' :=
  ⟨h.ba.below hb h.ba.lt, h.bb.below hb h.bb.lt, h.da.below (hb.mono (by have := h.size; omega)), h.db.below (hb.mono (by have := h.size; omega)), h.below.trans (hb.mono (by have := h.size; omega)), Nat.le_trans h.size hb.size⟩
theorem Boxes.stepB {w : World} {x y : DV} {a b : Dt} {W W' : World} (h : Boxes w x y a b W) (hb : Below (w.heap.size + 2) W W') : Boxes w x y a b W' :=
  ⟨h.ba.below hb (by omega), h.bb.below hb (by omega), h.da.below (hb.mono (by omega)), h.db.below (hb.mono (by omega)), h.below.trans (hb.mono (by omega)), Nat.le_trans h.size hb.size⟩
theorem Boxes.atA {w : World} {x y : DV} {a b : Dt} {W : World} (h : Boxes w x y a b W) : DataAt W W.heap.size x a := h.da.mono (by have := h.size; omega)
theorem Boxes.atB {w : World} {x y : DV} {a b : Dt} {W : World} (h : Boxes w x y a b W) : DataAt W W.heap.size y b := h.db.mono (by have := h.size; omega)
theorem Boxes.made {w : World} {x y : DV} {a b : Dt} (ha : DataAt w w.heap.size x a) (hb : DataAt w w.heap.size y b) :
    Boxes w x y a b ((w.alloc (.cells #[x.vb a, x.vh a, x.vm a, x.vn a, x.vt a] 26)).alloc (.cells #[y.vb b, y.vh b, y.vm b, y.vn b, y.vt b] 26)) := by
  have hz : (w.alloc (.cells #[x.vb a, x.vh a, x.vm a, x.vn a, x.vt a] 26)).heap.size = w.heap.size + 1 := by simp
  refine ⟨(Whole.made w [x.vb a, x.vh a, x.vm a, x.vn a, x.vt a] _).alloc _, ?_, (ha.alloc (Nat.le_refl _) _).alloc (by simp) _, (hb.alloc (Nat.le_refl _) _).alloc (by simp) _, ((Below.refl _ _).alloc (Nat.le_refl _) _).alloc (by simp) _, by simp⟩
  have := Whole.made (w.alloc (.cells #[x.vb a, x.vh a, x.vm a, x.vn a, x.vt a] 26)) [y.vb b, y.vh b, y.vm b, y.vn b, y.vt b] 26
  rw [hz] at this
  exact this

set_option maxRecDepth 4000 in
set_option maxHeartbeats 2000000 in
theorem dsame_wide (x y : DV) (a b : Dt) (w : World) (hx : DataAt w w.heap.size x a) (hy : DataAt w w.heap.size y b) (la : Wide a) (lb : Wide b) :
    Calls Try.prog 68 #[x.val a, y.val b] w (Gave w (.bool (sameD a b))) := by
  have k1 : a.bytes.length ≤ maxLen := Nat.le_trans hx.lb hx.kb
  have k2 : a.nums.length ≤ maxLen := Nat.le_trans hx.ln hx.kn
  have HC1 := Lib.hid (fun W (h : Boxes w x y a b W) => eqbytes_any x.Ab y.Ab a.bytes.length b.bytes.length x.cb y.cb w.heap.size a.bytes b.bytes W rfl rfl h.da.b h.db.b )
  have HC2 := Lib.hid (fun W (h : Boxes w x y a b W) => eqints_any x.An y.An a.nums.length b.nums.length x.cn y.cn w.heap.size a.nums b.nums W rfl rfl h.da.n h.db.n k2)
  have HC3 := Lib.hid (fun W (h : Boxes w x y a b W) => eqstrs_any x.At y.At a.texts.length b.texts.length x.ct y.ct w.heap.size a.texts b.texts W rfl rfl h.da.t h.db.t la.t)
  have HC4 := Lib.hid (fun W (h : Boxes w x y a b W) => equal_wide x.Ah y.Ah a.host.length b.host.length x.ch y.ch w.heap.size a.host b.host W rfl rfl h.da.h h.db.h (Nat.le_trans (Nat.le_add_right _ 2) h.size) la.h lb.h)
  have HC5 := Lib.hid (fun W (h : Boxes w x y a b W) => equal_wide x.Am y.Am a.mail.length b.mail.length x.cm y.cm w.heap.size a.mail b.mail W rfl rfl h.da.m h.db.m (Nat.le_trans (Nat.le_add_right _ 2) h.size) la.m lb.m)
  have HX := Lib.hid (Boxes.made hx hy)
  have HS := Lib.hid (show sameD a b = (decide (a.bytes = b.bytes) && (decide (a.nums = b.nums) && (decide (a.texts = b.texts) && (eqN a.host b.host && eqN a.mail b.mail)))) from rfl)
  clear k1 k2 hx hy la lb
  go_enter Try.func68, Try.ntmps68
  go_wp2_with fail
  obtain ⟨W0, hW0⟩ : ∃ W0, W0 = (w.alloc (.cells #[.slice x.Ab a.bytes.length x.cb, .slice x.Ah a.host.length x.ch, .slice x.Am a.mail.length x.cm, .slice x.An a.nums.length x.cn, .slice x.At a.texts.length x.ct] 26)).alloc (.cells #[.slice y.Ab b.bytes.length y.cb, .slice y.Ah b.host.length y.ch, .slice y.Am b.mail.length y.cm, .slice y.An b.nums.length y.cn, .slice y.At b.texts.length y.ct] 26) := ⟨_, rfl⟩
  rw [← hW0]
  have hx0 : Boxes w x y a b W0 := by rw [hW0]; exact HX.out
  clear HX hW0
  refine (HC1.out W0 hx0).mono ?_
  intro e W1 hO
  obtain ⟨he, hb⟩ := gave_told hO
  have hx1 := hx0.step hb
  clear hO hb hx0
  cases hv : decide (a.bytes = b.bytes) with
  | false =>
    rw [hv] at he HS
    subst he
    have HB := Lib.hid hx1.below
    clear hx1
    go_wp2
    go_ret
    exact ⟨by rw [HS.out]; rfl, HB.out⟩
  | true =>
  rw [hv] at he HS
  subst he
  have p3 : W1.cell? ⟨w.heap.size, 3, none⟩ = some (.slice x.An a.nums.length x.cn) := hx1.ba.cell 3
  have q3 : W1.cell? ⟨w.heap.size + 1, 3, none⟩ = some (.slice y.An b.nums.length y.cn) := hx1.bb.cell 3
  go_wp2_with fail
  refine (HC2.out W1 hx1).mono ?_
  intro e W2 hO
  obtain ⟨he, hb⟩ := gave_drewn hO
  have hx2 := hx1.step hb
  clear hO hb hx1 p3 q3
  cases hv : decide (a.nums = b.nums) with
  | false =>
    rw [hv] at he HS
    subst he
    have HB := Lib.hid hx2.below
    clear hx2
    go_wp2
    go_ret
    exact ⟨by rw [HS.out]; rfl, HB.out⟩
  | true =>
  rw [hv] at he HS
  subst he
  have p4 : W2.cell? ⟨w.heap.size, 4, none⟩ = some (.slice x.At a.texts.length x.ct) := hx2.ba.cell 4
  have q4 : W2.cell? ⟨w.heap.size + 1, 4, none⟩ = some (.slice y.At b.texts.length y.ct) := hx2.bb.cell 4
  go_wp2_with fail
  refine (HC3.out W2 hx2).mono ?_
  intro e W3 hO
  obtain ⟨he, hb⟩ := gave_drewn hO
  have hx3 := hx2.step hb
  clear hO hb hx2 p4 q4
  cases hv : decide (a.texts = b.texts) with
  | false =>
    rw [hv] at he HS
    subst he
    have HB := Lib.hid hx3.below
    clear hx3
    go_wp2
    go_ret
    exact ⟨by rw [HS.out]; rfl, HB.out⟩
  | true =>
  rw [hv] at he HS
  subst he
  have p1 : W3.cell? ⟨w.heap.size, 1, none⟩ = some (.slice x.Ah a.host.length x.ch) := hx3.ba.cell 1
  have q1 : W3.cell? ⟨w.heap.size + 1, 1, none⟩ = some (.slice y.Ah b.host.length y.ch) := hx3.bb.cell 1
  go_wp2_with fail
  refine (HC4.out W3 hx3).mono ?_
  intro e W4 hO
  obtain ⟨he, hb⟩ := hO
  have hx4 := hx3.step hb
  clear hb hx3 p1 q1
  cases hv : eqN a.host b.host with
  | false =>
    rw [hv] at he HS
    subst he
    have HB := Lib.hid hx4.below
    clear hx4
    go_wp2
    go_ret
    exact ⟨by rw [HS.out]; rfl, HB.out⟩
  | true =>
  rw [hv] at he HS
  subst he
  have p2 : W4.cell? ⟨w.heap.size, 2, none⟩ = some (.slice x.Am a.mail.length x.cm) := hx4.ba.cell 2
  have q2 : W4.cell? ⟨w.heap.size + 1, 2, none⟩ = some (.slice y.Am b.mail.length y.cm) := hx4.bb.cell 2
  go_wp2_with fail
  refine (HC5.out W4 hx4).mono ?_
  intro e W5 hO
  obtain ⟨he, hb⟩ := hO
  have hx5 := hx4.step hb
  clear hb hx4 p2 q2
  subst he
  have HB := Lib.hid hx5.below
  clear hx5
  go_wp2
  go_ret
  refine ⟨?_, HB.out⟩
  rw [HS.out]
  simp

set_option maxRecDepth 4000 in
set_option maxHeartbeats 2000000 in
theorem ref_dsame_wide (x y : DV) (a b : Dt) (w : World) (hx : DataAt w w.heap.size x a) (hy : DataAt w w.heap.size y b) (la : Wide a) (lb : Wide b) :
    Calls Try.prog 72 #[x.val a, y.val b] w (Gave w (.bool (sameD a b))) := by
  have k1 : a.bytes.length ≤ maxLen := Nat.le_trans hx.lb hx.kb
  have k2 : a.nums.length ≤ maxLen := Nat.le_trans hx.ln hx.kn
  have HC1 := Lib.hid (fun W (h : Boxes w x y a b W) => same_any x.Ab y.Ab a.bytes.length b.bytes.length x.cb y.cb w.heap.size a.bytes b.bytes W rfl rfl h.da.b h.db.b k1)
  have HC2 := Lib.hid (fun W (h : Boxes w x y a b W) => ints_any x.An y.An a.nums.length b.nums.length x.cn y.cn w.heap.size a.nums b.nums W rfl rfl h.da.n h.db.n k2)
  have HC3 := Lib.hid (fun W (h : Boxes w x y a b W) => rtexts_any x.At y.At a.texts.length b.texts.length x.ct y.ct w.heap.size a.texts b.texts W rfl rfl h.da.t h.db.t la.t)
  have HC4 := Lib.hid (fun W (h : Boxes w x y a b W) => ref_equal_wide x.Ah y.Ah a.host.length b.host.length x.ch y.ch w.heap.size a.host b.host W rfl rfl h.da.h h.db.h (Nat.le_trans (Nat.le_add_right _ 2) h.size) la.h lb.h)
  have HC5 := Lib.hid (fun W (h : Boxes w x y a b W) => ref_equal_wide x.Am y.Am a.mail.length b.mail.length x.cm y.cm w.heap.size a.mail b.mail W rfl rfl h.da.m h.db.m (Nat.le_trans (Nat.le_add_right _ 2) h.size) la.m lb.m)
  have HX := Lib.hid (Boxes.made hx hy)
  have HS := Lib.hid (show sameD a b = (decide (a.bytes = b.bytes) && (decide (a.nums = b.nums) && (decide (a.texts = b.texts) && (eqN a.host b.host && eqN a.mail b.mail)))) from rfl)
  clear k1 k2 hx hy la lb
  go_enter Try.func72, Try.ntmps72
  go_wp2_with fail
  obtain ⟨W0, hW0⟩ : ∃ W0, W0 = (w.alloc (.cells #[.slice x.Ab a.bytes.length x.cb, .slice x.Ah a.host.length x.ch, .slice x.Am a.mail.length x.cm, .slice x.An a.nums.length x.cn, .slice x.At a.texts.length x.ct] 26)).alloc (.cells #[.slice y.Ab b.bytes.length y.cb, .slice y.Ah b.host.length y.ch, .slice y.Am b.mail.length y.cm, .slice y.An b.nums.length y.cn, .slice y.At b.texts.length y.ct] 26) := ⟨_, rfl⟩
  rw [← hW0]
  have hx0 : Boxes w x y a b W0 := by rw [hW0]; exact HX.out
  clear HX hW0
  refine (HC1.out W0 hx0).mono ?_
  intro e W1 hO
  obtain ⟨he, hb⟩ := gave_drewn hO
  have hx1 := hx0.step hb
  clear hO hb hx0
  cases hv : decide (a.bytes = b.bytes) with
  | false =>
    rw [hv] at he HS
    subst he
    have HB := Lib.hid hx1.below
    clear hx1
    go_wp2
    go_ret
    exact ⟨by rw [HS.out]; rfl, HB.out⟩
  | true =>
  rw [hv] at he HS
  subst he
  have p3 : W1.cell? ⟨w.heap.size, 3, none⟩ = some (.slice x.An a.nums.length x.cn) := hx1.ba.cell 3
  have q3 : W1.cell? ⟨w.heap.size + 1, 3, none⟩ = some (.slice y.An b.nums.length y.cn) := hx1.bb.cell 3
  go_wp2_with fail
  refine (HC2.out W1 hx1).mono ?_
  intro e W2 hO
  obtain ⟨he, hb⟩ := gave_drewn hO
  have hx2 := hx1.step hb
  clear hO hb hx1 p3 q3
  cases hv : decide (a.nums = b.nums) with
  | false =>
    rw [hv] at he HS
    subst he
    have HB := Lib.hid hx2.below
    clear hx2
    go_wp2
    go_ret
    exact ⟨by rw [HS.out]; rfl, HB.out⟩
  | true =>
  rw [hv] at he HS
  subst he
  have p4 : W2.cell? ⟨w.heap.size, 4, none⟩ = some (.slice x.At a.texts.length x.ct) := hx2.ba.cell 4
  have q4 : W2.cell? ⟨w.heap.size + 1, 4, none⟩ = some (.slice y.At b.texts.length y.ct) := hx2.bb.cell 4
  go_wp2_with fail
  refine (HC3.out W2 hx2).mono ?_
  intro e W3 hO
  obtain ⟨he, hb⟩ := gave_drewn hO
  have hx3 := hx2.step hb
  clear hO hb hx2 p4 q4
  cases hv : decide (a.texts = b.texts) with
  | false =>
    rw [hv] at he HS
    subst he
    have HB := Lib.hid hx3.below
    clear hx3
    go_wp2
    go_ret
    exact ⟨by rw [HS.out]; rfl, HB.out⟩
  | true =>
  rw [hv] at he HS
  subst he
  have p1 : W3.cell? ⟨w.heap.size, 1, none⟩ = some (.slice x.Ah a.host.length x.ch) := hx3.ba.cell 1
  have q1 : W3.cell? ⟨w.heap.size + 1, 1, none⟩ = some (.slice y.Ah b.host.length y.ch) := hx3.bb.cell 1
  go_wp2_with fail
  refine (HC4.out W3 hx3).mono ?_
  intro e W4 hO
  obtain ⟨he, hb⟩ := hO
  have hx4 := hx3.step hb
  clear hb hx3 p1 q1
  cases hv : eqN a.host b.host with
  | false =>
    rw [hv] at he HS
    subst he
    have HB := Lib.hid hx4.below
    clear hx4
    go_wp2
    go_ret
    exact ⟨by rw [HS.out]; rfl, HB.out⟩
  | true =>
  rw [hv] at he HS
  subst he
  have p2 : W4.cell? ⟨w.heap.size, 2, none⟩ = some (.slice x.Am a.mail.length x.cm) := hx4.ba.cell 2
  have q2 : W4.cell? ⟨w.heap.size + 1, 2, none⟩ = some (.slice y.Am b.mail.length y.cm) := hx4.bb.cell 2
  go_wp2_with fail
  refine (HC5.out W4 hx4).mono ?_
  intro e W5 hO
  obtain ⟨he, hb⟩ := hO
  have hx5 := hx4.step hb
  clear hb hx4 p2 q2
  subst he
  have HB := Lib.hid hx5.below
  clear hx5
  go_wp2
  go_ret
  refine ⟨?_, HB.out⟩
  rw [HS.out]
  simp

theorem dsame_any (x y : DV) (a b : Dt) (w : World) (hx : DataAt w w.heap.size x a) (hy : DataAt w w.heap.size y b) (la : Sized a) (lb : Sized b) :
    Calls Try.prog 68 #[x.val a, y.val b] w (Gave w (.bool (sameD a b))) := dsame_wide x y a b w hx hy la.wide lb.wide
theorem ref_dsame_any (x y : DV) (a b : Dt) (w : World) (hx : DataAt w w.heap.size x a) (hy : DataAt w w.heap.size y b) (la : Sized a) (lb : Sized b) :
    Calls Try.prog 72 #[x.val a, y.val b] w (Gave w (.bool (sameD a b))) := ref_dsame_wide x y a b w hx hy la.wide lb.wide

end Go.Proofs.Ytjjmllbkfbdcnaa

namespace Go.Proofs.Ytjjmllbkfbdcnaa
open Go.RowKit

/-- A record. -/
structure Rt where
  name : List (List UInt8)
  kind : Int
  cls : Int
  ttl : Int
  data : Dt
/-- Where its slices lie, and what room they have. -/
structure RV where
  A : Option Addr
  c : Nat
  d : DV
abbrev RV.vn (x : RV) (r : Rt) : Value := .slice x.A r.name.length x.c
/-- Its cells. -/
def cellsR (p : RV × Rt) : List Value := [.slice p.1.A p.2.name.length p.1.c, .int .i64 p.2.kind, .int .i64 p.2.cls, .int .i64 p.2.ttl, .slice p.1.d.Ab p.2.data.bytes.length p.1.d.cb, .slice p.1.d.Ah p.2.data.host.length p.1.d.ch, .slice p.1.d.Am p.2.data.mail.length p.1.d.cm, .slice p.1.d.An p.2.data.nums.length p.1.d.cn, .slice p.1.d.At p.2.data.texts.length p.1.d.ct]
def cellsD (p : DV × Dt) : List Value := [.slice p.1.Ab p.2.bytes.length p.1.cb, .slice p.1.Ah p.2.host.length p.1.ch, .slice p.1.Am p.2.mail.length p.1.cm, .slice p.1.An p.2.nums.length p.1.cn, .slice p.1.At p.2.texts.length p.1.ct]
/-- The value. -/
abbrev RV.val (x : RV) (r : Rt) : Value := .agg #[.slice x.A r.name.length x.c, .int .i64 r.kind, .int .i64 r.cls, .int .i64 r.ttl, .slice x.d.Ab r.data.bytes.length x.d.cb, .slice x.d.Ah r.data.host.length x.d.ch, .slice x.d.Am r.data.mail.length x.d.cm, .slice x.d.An r.data.nums.length x.d.cn, .slice x.d.At r.data.texts.length x.d.ct]

theorem rr_cells : Try.prog.cellsOf 51 = 9 := by kernel_rfl

/-- In the world w the slices x read as r, below H. -/
structure RAt (w : World) (H : Nat) (x : RV) (r : Rt) : Prop where
  n : Row w H x.A (r.name.map sv)
  l : r.name.length ≤ x.c
  d : DataAt w H x.d r.data
section
variable {w w' : World} {H H' : Nat} {x : RV} {r : Rt}
theorem RAt.below (h : RAt w H x r) (hb : Below H w w') : RAt w' H x r := ⟨h.n.below hb, h.l, h.d.below hb⟩
theorem RAt.mono (h : RAt w H x r) (hb : H ≤ H') : RAt w H' x r := ⟨h.n.mono hb, h.l, h.d.mono hb⟩
end

/-- From A on the world holds records; each of their slices reads. -/
def RsAt (w : World) (H : Nat) (A : Option Addr) (ps : List (RV × Rt)) : Prop := Row w H A (ps.flatMap cellsR) ∧ ∀ p ∈ ps, RAt w H p.1 p.2
/-- The same of data. -/
def DsAt (w : World) (H : Nat) (A : Option Addr) (ps : List (DV × Dt)) : Prop := Row w H A (ps.flatMap cellsD) ∧ ∀ p ∈ ps, DataAt w H p.1 p.2
section
variable {w w' : World} {H H' : Nat} {A : Option Addr}
theorem RsAt.below {ps : List (RV × Rt)} (h : RsAt w H A ps) (hb : Below H w w') : RsAt w' H A ps := ⟨h.1.below hb, fun p hp => (h.2 p hp).below hb⟩
theorem RsAt.mono {ps : List (RV × Rt)} (h : RsAt w H A ps) (hb : H ≤ H') : RsAt w H' A ps := ⟨h.1.mono hb, fun p hp => (h.2 p hp).mono hb⟩
theorem DsAt.below {ps : List (DV × Dt)} (h : DsAt w H A ps) (hb : Below H w w') : DsAt w' H A ps := ⟨h.1.below hb, fun p hp => (h.2 p hp).below hb⟩
theorem DsAt.mono {ps : List (DV × Dt)} (h : DsAt w H A ps) (hb : H ≤ H') : DsAt w H' A ps := ⟨h.1.mono hb, fun p hp => (h.2 p hp).mono hb⟩
theorem DsAt.nil (w : World) (H : Nat) (A : Option Addr) : DsAt w H A [] := ⟨Row.empty _ _ _, fun _ h => absurd h (List.not_mem_nil)⟩
end

theorem flat_get {α : Type} {f : α → List Value} {k : Nat} (hf : ∀ p, (f p).length = k) : ∀ (ps : List α) (i j : Nat) (hi : i < ps.length), j < k → (ps.flatMap f)[i * k + j]? = (f ps[i])[j]?
  | [], i, j, hi, _ => absurd hi (Nat.not_lt_zero _)
  | p :: ps, 0, j, _, hj => by
    rw [List.flatMap_cons, Nat.zero_mul, Nat.zero_add, List.getElem?_append_left (by rw [hf]; exact hj)]
    rfl
  | p :: ps, i + 1, j, hi, hj => by
    rw [List.flatMap_cons, List.getElem?_append_right (by rw [hf, Nat.succ_mul]; omega), hf]
    have h := flat_get hf ps i j (by simpa using hi) hj
    rw [show (i + 1) * k + j - k = i * k + j by rw [Nat.succ_mul]; omega]
    simpa using h
theorem length_flat {α : Type} {f : α → List Value} {k : Nat} (hf : ∀ p, (f p).length = k) : ∀ ps : List α, (ps.flatMap f).length = ps.length * k
  | [] => by simp
  | p :: ps => by rw [List.flatMap_cons, List.length_append, hf, length_flat hf ps, List.length_cons, Nat.succ_mul, Nat.add_comm]
theorem Row.part {α : Type} {f : α → List Value} {k : Nat} (hf : ∀ p, (f p).length = k) (hk : 0 < k) {w : World} {H : Nat} {A : Option Addr} {ps : List α} (h : Row w H A (ps.flatMap f)) {i : Nat} (hi : i < ps.length) :
    ∃ b off, A = some ⟨b, off, none⟩ ∧ b < H ∧ ∀ j v, (f ps[i])[j]? = some v → w.cell? ⟨b, off + i * k + j, none⟩ = some v := by
  obtain ⟨b, off, e, hb, hc⟩ := h.some_ (by
    rw [length_flat hf]
    exact Nat.mul_pos (by omega) hk)
  refine ⟨b, off, e, hb, fun j v hv => ?_⟩
  have hj : j < k := by
    have := (List.getElem?_eq_some_iff.1 hv).1
    rwa [hf] at this
  have h1 := hc (i * k + j) v (by rw [flat_get hf ps i j hi hj]; exact hv)
  rwa [← Nat.add_assoc] at h1
theorem cellsR_len (p : RV × Rt) : (cellsR p).length = 9 := rfl
theorem cellsD_len (p : DV × Dt) : (cellsD p).length = 5 := rfl
theorem cellsR_one (ps : List (RV × Rt)) : ∀ u ∈ ps.flatMap cellsR, u.oneCell' = true := by
  intro u hu
  obtain ⟨p, _, hp⟩ := List.mem_flatMap.1 hu
  simp only [cellsR, List.mem_cons, List.not_mem_nil, or_false] at hp
  rcases hp with rfl | rfl | rfl | rfl | rfl | rfl | rfl | rfl | rfl <;> rfl
theorem cellsD_one (ps : List (DV × Dt)) : ∀ u ∈ ps.flatMap cellsD, u.oneCell' = true := by
  intro u hu
  obtain ⟨p, _, hp⟩ := List.mem_flatMap.1 hu
  simp only [cellsD, List.mem_cons, List.not_mem_nil, or_false] at hp
  rcases hp with rfl | rfl | rfl | rfl | rfl <;> rfl

/-- The data number i of a list. -/
theorem DsAt.at_ {w : World} {H : Nat} {A : Option Addr} {ps : List (DV × Dt)} (h : DsAt w H A ps) {i : Nat} (hi : i < ps.length) :
    ∃ b off, A = some ⟨b, off, none⟩ ∧ b < H ∧ DataAt w H (ps[i]).1 (ps[i]).2 ∧ w.cell? ⟨b, off + i * 5, none⟩ = some ((ps[i]).1.vb (ps[i]).2) ∧ w.cell? ⟨b, off + i * 5 + 1, none⟩ = some ((ps[i]).1.vh (ps[i]).2) ∧
      w.cell? ⟨b, off + i * 5 + 2, none⟩ = some ((ps[i]).1.vm (ps[i]).2) ∧ w.cell? ⟨b, off + i * 5 + 3, none⟩ = some ((ps[i]).1.vn (ps[i]).2) ∧ w.cell? ⟨b, off + i * 5 + 4, none⟩ = some ((ps[i]).1.vt (ps[i]).2) := by
  obtain ⟨b, off, e, hb, hc⟩ := h.1.part cellsD_len (by omega) hi
  exact ⟨b, off, e, hb, h.2 _ (List.getElem_mem hi), hc 0 _ rfl, hc 1 _ rfl, hc 2 _ rfl, hc 3 _ rfl, hc 4 _ rfl⟩
/-- The record number i of a list. -/
theorem RsAt.at_ {w : World} {H : Nat} {A : Option Addr} {ps : List (RV × Rt)} (h : RsAt w H A ps) {i : Nat} (hi : i < ps.length) :
    ∃ b off, A = some ⟨b, off, none⟩ ∧ b < H ∧ RAt w H (ps[i]).1 (ps[i]).2 ∧ w.cell? ⟨b, off + i * 9, none⟩ = some ((ps[i]).1.vn (ps[i]).2) ∧ w.cell? ⟨b, off + i * 9 + 1, none⟩ = some (.int .i64 (ps[i]).2.kind) ∧
      w.cell? ⟨b, off + i * 9 + 2, none⟩ = some (.int .i64 (ps[i]).2.cls) ∧ w.cell? ⟨b, off + i * 9 + 3, none⟩ = some (.int .i64 (ps[i]).2.ttl) ∧
      w.cell? ⟨b, off + i * 9 + 4, none⟩ = some ((ps[i]).1.d.vb (ps[i]).2.data) ∧ w.cell? ⟨b, off + i * 9 + 5, none⟩ = some ((ps[i]).1.d.vh (ps[i]).2.data) ∧
      w.cell? ⟨b, off + i * 9 + 6, none⟩ = some ((ps[i]).1.d.vm (ps[i]).2.data) ∧ w.cell? ⟨b, off + i * 9 + 7, none⟩ = some ((ps[i]).1.d.vn (ps[i]).2.data) ∧ w.cell? ⟨b, off + i * 9 + 8, none⟩ = some ((ps[i]).1.d.vt (ps[i]).2.data) := by
  obtain ⟨b, off, e, hb, hc⟩ := h.1.part cellsR_len (by omega) hi
  exact ⟨b, off, e, hb, h.2 _ (List.getElem_mem hi), hc 0 _ rfl, hc 1 _ rfl, hc 2 _ rfl, hc 3 _ rfl, hc 4 _ rfl, hc 5 _ rfl, hc 6 _ rfl, hc 7 _ rfl, hc 8 _ rfl⟩

/-- The records as lists. -/
def recs (ps : List (RV × Rt)) : List Rt := ps.map (·.2)
def dats (ps : List (DV × Dt)) : List Dt := ps.map (·.2)
theorem length_recs (ps : List (RV × Rt)) : (recs ps).length = ps.length := by simp [recs]
theorem length_dats (ps : List (DV × Dt)) : (dats ps).length = ps.length := by simp [dats]
theorem recs_append (ps qs : List (RV × Rt)) : recs (ps ++ qs) = recs ps ++ recs qs := by simp [recs]
theorem dats_append (ps qs : List (DV × Dt)) : dats (ps ++ qs) = dats ps ++ dats qs := by simp [dats]
theorem take_recs (ps : List (RV × Rt)) (k : Nat) : (recs ps).take k = recs (ps.take k) := by simp [recs]

/-- Numbers that a variable holds, lengths that memory holds. -/
structure RIn (r : Rt) : Prop where
  n : WideN r.name
  k : (Lit.int .i64 r.kind).wf = true
  c : (Lit.int .i64 r.cls).wf = true
  t : (Lit.int .i64 r.ttl).wf = true
  d : Wide r.data
  lt : ∀ k (h : k < r.data.texts.length), (r.data.texts[k]).length ≤ maxLen
  nm : ∀ n ∈ r.data.nums, (Lit.int .i64 n).wf = true

end Go.Proofs.Ytjjmllbkfbdcnaa

namespace Go.Proofs.Ytjjmllbkfbdcnaa
open Go.ChangeShapes Go.WideShapes Go.ChangeAt Go.RowKit

set_option maxRecDepth 20000 in
theorem read_data {H : Type} {enc : TypeId × Value → H} {W : World} {fuel : Nat} {cs : List Value} {z : DataW H × List MemPlace}
    (h : DataW.trod enc Try.prog W 0 (fun _ => true) true fuel 26 cs = some z) (hlt : ∀ y ∈ z.2, y.block < W.heap.size) :
    ∃ (x : DV) (dd : Dt), cs = cellsD (x, dd) ∧ DataAt W W.heap.size x dd ∧ DIn dd := by
  obtain ⟨xs, k, _, hx, hcl, hxl, hfs⟩ := DataW.trod_struct Try.underlying26 h
  have hp : z.2 = xs.flatMap (·.2) := by simpa using congrArg Prod.snd hx
  have hin : ∀ z ∈ xs, ∀ y ∈ z.2, y.block < W.heap.size := fun z hz y hyz => hlt y (by rw [hp]; exact List.mem_flatMap.2 ⟨z, hz, hyz⟩)
  have hxl5 : xs.length = 5 := hxl
  have hc5 : cs.length = 5 := by rw [data_cells] at hcl; exact hcl
  clear hx hp h hcl
  match cs, hc5, xs, hxl5, hfs, hin with
  | [c0, c1, c2, c3, c4], _, [y0, y1, y2, y3, y4], _, hfs, hin =>
    have g0 := hfs 0 _ rfl
    have g1 := hfs 1 _ rfl
    have g2 := hfs 2 _ rfl
    have g3 := hfs 3 _ rfl
    have g4 := hfs 4 _ rfl
    simp only [List.getElem?_cons_zero, List.getElem?_cons_succ] at g0 g1 g2 g3 g4
    obtain ⟨Ab, cb, l0, e0, r0, a0, b0⟩ := read_bytes_c g0 (hin y0 (by simp))
    obtain ⟨Ah, ch, l1, e1, r1, a1, b1, d1⟩ := read_name str_cells g1 (hin y1 (by simp))
    obtain ⟨Am, cm, l2, e2, r2, a2, b2, d2⟩ := read_name str_cells g2 (hin y2 (by simp))
    obtain ⟨An, cn, l3, e3, r3, a3, b3, d3⟩ := read_ints g3 (hin y3 (by simp))
    obtain ⟨At, ct, l4, e4, r4, a4, b4, d4⟩ := read_name str_cells g4 (hin y4 (by simp))
    subst e0 e1 e2 e3 e4
    exact ⟨⟨Ab, Ah, Am, An, At, cb, ch, cm, cn, ct⟩, ⟨l0, l1, l2, l3, l4⟩, rfl, ⟨r0, r1, r2, r3, r4, a0, d1, d2, a3, d4, b0, b3⟩, ⟨a1, a2, a4, b1, b2, b4, d3⟩⟩
theorem DIn.wide {d : Dt} (h : DIn d) : Wide d := ⟨⟨h.h, h.lh⟩, ⟨h.m, h.lm⟩, h.t⟩

set_option maxRecDepth 20000 in
theorem read_rr {H : Type} {enc : TypeId × Value → H} {W : World} {fuel : Nat} {cs : List Value} {z : DataW H × List MemPlace}
    (h : DataW.trod enc Try.prog W 0 (fun _ => true) true fuel 51 cs = some z) (hlt : ∀ y ∈ z.2, y.block < W.heap.size) :
    ∃ (x : RV) (r : Rt), cs = cellsR (x, r) ∧ RAt W W.heap.size x r ∧ RIn r := by
  obtain ⟨xs, k, _, hx, hcl, hxl, hfs⟩ := DataW.trod_struct Try.underlying51 h
  have hp : z.2 = xs.flatMap (·.2) := by simpa using congrArg Prod.snd hx
  have hin : ∀ z ∈ xs, ∀ y ∈ z.2, y.block < W.heap.size := fun z hz y hyz => hlt y (by rw [hp]; exact List.mem_flatMap.2 ⟨z, hz, hyz⟩)
  have hxl5 : xs.length = 5 := hxl
  have hc9 : cs.length = 9 := by rw [rr_cells] at hcl; exact hcl
  clear hx hp h hcl
  match cs, hc9, xs, hxl5, hfs, hin with
  | [c0, c1, c2, c3, c4, c5, c6, c7, c8], _, [y0, y1, y2, y3, y4], _, hfs, hin =>
    have g0 := hfs 0 _ rfl
    have g1 := hfs 1 _ rfl
    have g2 := hfs 2 _ rfl
    have g3 := hfs 3 _ rfl
    have g4 := hfs 4 _ rfl
    simp only [List.getElem?_cons_zero, List.getElem?_cons_succ] at g0 g1 g2 g3 g4
    obtain ⟨An, cn, n, e0, hRn, hn1, hn2, hn3⟩ := read_name str_cells g0 (hin y0 (by simp))
    obtain ⟨z1, e1, _, w1⟩ := DataW.trod_int Try.underlying3 g1
    obtain ⟨z2, e2, _, w2⟩ := DataW.trod_int Try.underlying3 g2
    obtain ⟨z3, e3, _, w3⟩ := DataW.trod_int Try.underlying3 g3
    obtain ⟨x, dd, e4, hd, hi⟩ := read_data g4 (hin y4 (by simp))
    cases e1; cases e2; cases e3
    subst e0
    unfold cellsD at e4
    injection e4 with f0 e4
    injection e4 with f1 e4
    injection e4 with f2 e4
    injection e4 with f3 e4
    injection e4 with f4 _
    subst f0 f1 f2 f3 f4
    exact ⟨⟨An, cn, x⟩, ⟨n, z1, z2, z3, dd⟩, rfl, ⟨hRn, hn3, hd⟩, ⟨⟨hn1, hn2⟩, w1, w2, w3, hi.wide, hi.lt, hi.n⟩⟩

theorem addr_add_add (a : Addr) (m n : Nat) : (a.add m).add n = a.add (m + n) := by
  unfold Addr.add
  by_cases h1 : m = 0 <;> by_cases h2 : n = 0 <;> simp [h1, h2] <;> omega
set_option maxRecDepth 20000 in
/-- A slice of things that take k cells each, as it is read. -/
theorem open_parts {α : Type} (f : α → List Value) (k : Nat) (hf : ∀ p, (f p).length = k) (hk : 0 < k) (Q : World → Nat → α → Prop) {H : Type} {enc : TypeId × Value → H} {W : World} {base : Nat} {t e : TypeId} {v : Value} {d : DataW H} {p : List MemPlace}
    (ht : Try.prog.underlying t = some (.slice e)) (hce : Try.prog.cellsOf e = k) (hs : ∀ p : α, ∃ u, (f p)[0]? = some u)
    (hr : ∀ (fuel : Nat) (cs : List Value) (z : DataW H × List MemPlace), DataW.trod enc Try.prog W 0 (fun _ => true) true fuel e cs = some z → (∀ y ∈ z.2, y.block < W.heap.size) → ∃ p, cs = f p ∧ Q W W.heap.size p)
    (hval : Value.okWide Try.prog W .any base t v) (h : DataW.Trod enc Try.prog W 0 (fun _ => true) true t v d p) (hlt : ∀ x ∈ p, x.block < W.heap.size) :
    ∃ (A : Option Addr) (c : Nat) (ps : List α), v = .slice A ps.length c ∧ Row W W.heap.size A (ps.flatMap f) ∧ (∀ p ∈ ps, Q W W.heap.size p) ∧ ps.length ≤ c ∧ c ≤ maxLen := by
  obtain ⟨a0, len, cap, rfl⟩ := okWide_slice ht hval
  obtain ⟨fuel, hf1⟩ := h
  rcases Deep.open_slice ht hf1 with ⟨hcs, hx⟩ | ⟨a, len', cap', m, n, D, Pl, hcs, _, hl, hm, hmm, hx, hy⟩
  · simp [Value.cells] at hcs
    obtain ⟨rfl, rfl, rfl⟩ := hcs
    exact ⟨none, 0, [], rfl, Row.empty _ _ _, fun p h => absurd h (List.not_mem_nil), Nat.zero_le _, Nat.zero_le _⟩
  · simp [Value.cells] at hcs
    obtain ⟨rfl, rfl, rfl⟩ := hcs
    simp only [if_true] at hmm
    subst hmm
    simp only [Prod.mk.injEq] at hx
    obtain ⟨rfl, rfl⟩ := hx
    rw [hce] at hy hlt
    rcases Nat.eq_zero_or_pos len with rfl | hpos
    · exact ⟨some a, m, [], rfl, Row.empty _ _ _, fun p h => absurd h (List.not_mem_nil), Nat.zero_le _, hm⟩
    have each : ∀ i, i < len → ∃ y : α, (∀ j v, (f y)[j]? = some v → W.cell? (a.add (i * k + j)) = some v) ∧ Q W W.heap.size y := by
      intro i hi
      obtain ⟨cs, hc, hr1⟩ := hy i (by omega)
      obtain ⟨y, rfl, hq⟩ := hr _ _ _ hr1 fun y hyz => hlt y (List.mem_append_right _ (List.mem_flatMap.2 ⟨i, List.mem_range.2 (by omega), hyz⟩))
      obtain ⟨_, _, hat⟩ := World.cells?_some hc
      refine ⟨y, fun j v hj => ?_, hq⟩
      have hjk : j < k := by
        have := (List.getElem?_eq_some_iff.1 hj).1
        rwa [hf] at this
      have := hat j hjk
      rw [hj, addr_add_add] at this
      exact this
    obtain ⟨y0, hy0, _⟩ := each 0 hpos
    obtain ⟨u0, hu0⟩ := hs y0
    obtain ⟨b, off, spot⟩ := a
    have hspot : spot = none := by
      have h := World.cell?_spot (hy0 0 _ hu0)
      simpa [Addr.add] using h
    subst hspot
    haveI : Inhabited α := ⟨y0⟩
    obtain ⟨Y, hY⟩ := Deep.choose_lt each
    have hnl : ((List.range len).map Y).length = len := by simp
    refine ⟨some ⟨b, off, none⟩, m, (List.range len).map Y, by rw [hnl], fun _ => ⟨b, off, rfl, hlt (.cell b off) (List.mem_append_left _ (MemPlace.mem_row.2 ⟨0, Nat.mul_pos (by omega) hk, by simp⟩)), fun j u hu => ?_⟩, fun p hp => ?_, by rw [hnl]; exact hl, hm⟩
    · have hj := (List.getElem?_eq_some_iff.1 hu).1
      rw [length_flat hf, hnl] at hj
      have hq : j / k < len := (Nat.div_lt_iff_lt_mul hk).2 hj
      have hr := Nat.mod_lt j hk
      have e : j = j / k * k + j % k := by rw [Nat.mul_comm]; exact (Nat.div_add_mod j k).symm
      have h1 := (hY (j / k) hq).1 (j % k) u
      rw [e, flat_get hf _ _ _ (by rw [hnl]; exact hq) hr] at hu
      rw [← e, addr_add] at h1
      exact h1 (by simpa using hu)
    · obtain ⟨i, hi, rfl⟩ := List.mem_map.1 hp
      exact (hY i (List.mem_range.1 hi)).2

set_option maxRecDepth 20000 in
theorem open_rrs {H : Type} {enc : TypeId × Value → H} {W : World} {base : Nat} {t : TypeId} {v : Value} {d : DataW H} {p : List MemPlace} (ht : Try.prog.underlying t = some (.slice 51))
    (hval : Value.okWide Try.prog W .any base t v) (h : DataW.Trod enc Try.prog W 0 (fun _ => true) true t v d p) (hlt : ∀ x ∈ p, x.block < W.heap.size) :
    ∃ (A : Option Addr) (c : Nat) (ps : List (RV × Rt)), v = .slice A ps.length c ∧ RsAt W W.heap.size A ps ∧ (∀ p ∈ ps, RIn p.2) ∧ ps.length ≤ c ∧ c ≤ maxLen := by
  obtain ⟨A, c, ps, hv, hR, hQ, h1, h2⟩ := open_parts cellsR 9 cellsR_len (by omega) (fun W H p => RAt W H p.1 p.2 ∧ RIn p.2) ht rr_cells (fun p => ⟨_, rfl⟩)
    (fun fuel cs z hz hlz => by
      obtain ⟨x, r, e, h1, h2⟩ := read_rr hz hlz
      exact ⟨(x, r), e, h1, h2⟩) hval h hlt
  exact ⟨A, c, ps, hv, ⟨hR, fun p hp => (hQ p hp).1⟩, fun p hp => (hQ p hp).2, h1, h2⟩
set_option maxRecDepth 20000 in
theorem open_dats {H : Type} {enc : TypeId × Value → H} {W : World} {base : Nat} {t : TypeId} {v : Value} {d : DataW H} {p : List MemPlace} (ht : Try.prog.underlying t = some (.slice 26))
    (hval : Value.okWide Try.prog W .any base t v) (h : DataW.Trod enc Try.prog W 0 (fun _ => true) true t v d p) (hlt : ∀ x ∈ p, x.block < W.heap.size) :
    ∃ (A : Option Addr) (c : Nat) (ps : List (DV × Dt)), v = .slice A ps.length c ∧ DsAt W W.heap.size A ps ∧ (∀ p ∈ ps, DIn p.2) ∧ ps.length ≤ c ∧ c ≤ maxLen := by
  obtain ⟨A, c, ps, hv, hR, hQ, h1, h2⟩ := open_parts cellsD 5 cellsD_len (by omega) (fun W H p => DataAt W H p.1 p.2 ∧ DIn p.2) ht data_cells (fun p => ⟨_, rfl⟩)
    (fun fuel cs z hz hlz => by
      obtain ⟨x, r, e, h1, h2⟩ := read_data hz hlz
      exact ⟨(x, r), e, h1, h2⟩) hval h hlt
  exact ⟨A, c, ps, hv, ⟨hR, fun p hp => (hQ p hp).1⟩, fun p hp => (hQ p hp).2, h1, h2⟩

end Go.Proofs.Ytjjmllbkfbdcnaa

namespace Go.Proofs.Ytjjmllbkfbdcnaa
open Go.RowKit

/-- The place behind the name: the first one that was met. -/
def nextR (x p : Nat) : Nat := if x = 0 then p else x
/-- The place to which the pointer leads whose two bytes are c and d. -/
def toR (c d : UInt8) : Nat := (c.toNat - 192) * 256 + d.toNat

/-- What is read at the place p, where what is read now began at q, the name's end was met at x (0: it was not), and n is read so far: the name, the place behind it, the error. -/
def getR (b : List UInt8) (p q x : Nat) (n : List (List UInt8)) : List (List UInt8) × Nat × Nat :=
  if h0 : p < b.length then
    if b[p].toNat = 0 then (n, nextR x (p + 1), 0)
    else if 192 ≤ b[p].toNat then
      if h1 : p + 1 < b.length then
        if toR b[p] b[p + 1] < q then getR b (toR b[p] b[p + 1]) (toR b[p] b[p + 1]) (nextR x (p + 2)) n
        else ([], 0, 6)
      else ([], 0, 3)
    else if 64 ≤ b[p].toNat then ([], 0, 5)
    else if p + 1 + b[p].toNat ≤ b.length then
      if szN (n ++ [cutL b (p + 1) b[p].toNat]) ≤ 255 then getR b (p + 1 + b[p].toNat) q x (n ++ [cutL b (p + 1) b[p].toNat])
      else ([], 0, 5)
    else ([], 0, 3)
  else ([], 0, 3)
termination_by (q, 256 - szN n)
decreasing_by
  · exact Prod.Lex.left _ _ (by assumption)
  · refine Prod.Lex.right _ ?_
    rename_i h
    rw [szN_snoc] at h ⊢
    omega

section
variable {b : List UInt8} {p q x : Nat} {n : List (List UInt8)}

set_option maxRecDepth 10000
theorem getR_end (h : b.length ≤ p) : getR b p q x n = ([], 0, 3) := by
  rw [getR, dif_neg (by omega)]
theorem getR_zero (h : p < b.length) (h0 : b[p].toNat = 0) : getR b p q x n = (n, nextR x (p + 1), 0) := by
  rw [getR, dif_pos h, if_pos h0]
theorem getR_half (h : p < b.length) (h0 : 192 ≤ b[p].toNat) (h1 : b.length ≤ p + 1) : getR b p q x n = ([], 0, 3) := by
  rw [getR, dif_pos h, if_neg (by omega), if_pos h0, dif_neg (by omega)]
theorem getR_ptr (h : p < b.length) (h1 : p + 1 < b.length) (h0 : 192 ≤ b[p].toNat) (h2 : toR b[p] b[p + 1] < q) :
    getR b p q x n = getR b (toR b[p] b[p + 1]) (toR b[p] b[p + 1]) (nextR x (p + 2)) n := by
  rw [getR, dif_pos h, if_neg (by omega), if_pos h0, dif_pos h1, if_pos h2]
theorem getR_loop (h : p < b.length) (h1 : p + 1 < b.length) (h0 : 192 ≤ b[p].toNat) (h2 : q ≤ toR b[p] b[p + 1]) : getR b p q x n = ([], 0, 6) := by
  rw [getR, dif_pos h, if_neg (by omega), if_pos h0, dif_pos h1, if_neg (by omega)]
theorem getR_bad (h : p < b.length) (h0 : 64 ≤ b[p].toNat) (h1 : b[p].toNat < 192) : getR b p q x n = ([], 0, 5) := by
  rw [getR, dif_pos h, if_neg (by omega), if_neg (by omega), if_pos h0]
theorem getR_short (h : p < b.length) (h0 : b[p].toNat ≠ 0) (h1 : b[p].toNat < 64) (h2 : b.length < p + 1 + b[p].toNat) : getR b p q x n = ([], 0, 3) := by
  rw [getR, dif_pos h, if_neg h0, if_neg (by omega), if_neg (by omega), if_neg (by omega)]
theorem getR_long (h : p < b.length) (h0 : b[p].toNat ≠ 0) (h1 : b[p].toNat < 64) (h2 : p + 1 + b[p].toNat ≤ b.length) (h3 : 255 < szN n + 1 + b[p].toNat) : getR b p q x n = ([], 0, 5) := by
  rw [getR, dif_pos h, if_neg h0, if_neg (by omega), if_neg (by omega), if_pos h2, if_neg]
  rw [szN_snoc, length_cutL (by omega)]
  omega
theorem getR_label (h : p < b.length) (h0 : b[p].toNat ≠ 0) (h1 : b[p].toNat < 64) (h2 : p + 1 + b[p].toNat ≤ b.length) (h3 : szN n + 1 + b[p].toNat ≤ 255) :
    getR b p q x n = getR b (p + 1 + b[p].toNat) q x (n ++ [cutL b (p + 1) b[p].toNat]) := by
  rw [getR, dif_pos h, if_neg h0, if_neg (by omega), if_neg (by omega), if_pos h2, if_pos]
  rw [szN_snoc, length_cutL (by omega)]
  omega
end

/-- What the call answers at any place. -/
def getW (b : List UInt8) (a : Int) : List (List UInt8) × Nat × Nat := if a < 0 then ([], 0, 1) else getR b a.toNat a.toNat 0 []
theorem getW_neg {b : List UInt8} {a : Int} (h : a < 0) : getW b a = ([], 0, 1) := by rw [getW, if_pos h]
theorem getW_at (b : List UInt8) (a : Nat) : getW b a = getR b a a 0 [] := by rw [getW, if_neg (by omega), Int.toNat_natCast]

end Go.Proofs.Ytjjmllbkfbdcnaa

namespace Go.Proofs.Ytjjmllbkfbdcnaa
open Go.RowKit

/-- The labels of a name as they are written without a pointer. -/
def encN : List (List UInt8) → List UInt8
  | [] => []
  | l :: n => UInt8.ofNat l.length :: (l ++ encN n)
theorem length_encN (n : List (List UInt8)) : (encN n).length + 1 = szN n := by
  induction n with
  | nil => rfl
  | cons l n ih => simp only [encN, szN, List.length_cons, List.length_append]; omega
theorem encN_snoc (n : List (List UInt8)) (l : List UInt8) : encN (n ++ [l]) = encN n ++ (UInt8.ofNat l.length :: l) := by
  induction n with
  | nil => simp [encN]
  | cons x n ih => simp [encN, ih]
theorem fitL_iff {l : List UInt8} : fitL l = true ↔ 1 ≤ l.length ∧ l.length ≤ 63 := by simp [fitL]
theorem encN_inj : ∀ {n m : List (List UInt8)}, n.all fitL = true → m.all fitL = true → encN n = encN m → n = m
  | [], [], _, _, _ => rfl
  | [], _ :: _, _, _, h => by simp [encN] at h
  | _ :: _, [], _, _, h => by simp [encN] at h
  | l :: n, k :: m, hn, hm, h => by
    simp only [List.all_cons, Bool.and_eq_true, fitL_iff] at hn hm
    simp only [encN, List.cons.injEq] at h
    have hl : l.length = k.length := by
      have h1 := congrArg UInt8.toNat h.1
      rw [UInt8.toNat_ofNat', UInt8.toNat_ofNat'] at h1
      omega
    obtain ⟨h1, h2⟩ := List.append_inj h.2 hl
    rw [h1, encN_inj hn.2 hm.2 h2]

/-- Rests: each one's labels and its place. -/
abbrev Rs := List (List (List UInt8) × Nat)
def findR (R : Rs) (n : List (List UInt8)) : Option Nat := (R.find? fun r => decide (r.1 = n)).map (·.2)
theorem findR_nil (n : List (List UInt8)) : findR [] n = none := rfl
theorem findR_snoc (R : Rs) (m n : List (List UInt8)) (k : Nat) : findR (R ++ [(m, k)]) n = (findR R n).or (if m = n then some k else none) := by
  unfold findR
  rw [List.find?_append]
  cases h : R.find? fun r => decide (r.1 = n) with
  | some r => simp
  | none =>
    by_cases e : m = n
    · simp [e]
    · simp [e]
theorem findR_mem {R : Rs} {n : List (List UInt8)} {k : Nat} (h : findR R n = some k) : (n, k) ∈ R := by
  unfold findR at h
  rw [Option.map_eq_some_iff] at h
  obtain ⟨⟨m, k'⟩, h1, h2⟩ := h
  have h3 := List.mem_of_find?_eq_some h1
  have h4 := List.find?_some h1
  simp at h4 h2
  subst h4; subst h2
  exact h3

/-- What is written of a name, and which rests there are then. -/
def nameW (short : Bool) : List (List UInt8) → List UInt8 → Rs → List UInt8 × Rs
  | [], B, R => (B ++ [0], R)
  | l :: n, B, R =>
    match short, findR R (l :: n) with
    | true, some k => (B ++ digs (49152 + k) 2, R)
    | _, _ => nameW short n (B ++ UInt8.ofNat l.length :: l) (if B.length < 16384 then R ++ [(l :: n, B.length)] else R)
theorem nameW_nil (short : Bool) (B : List UInt8) (R : Rs) : nameW short [] B R = (B ++ [0], R) := rfl
theorem nameW_hit {l : List UInt8} {n : List (List UInt8)} {B : List UInt8} {R : Rs} {k : Nat} (h : findR R (l :: n) = some k) : nameW true (l :: n) B R = (B ++ digs (49152 + k) 2, R) := by
  rw [nameW.eq_def]
  simp only [h]
theorem nameW_long (l : List UInt8) (n : List (List UInt8)) (B : List UInt8) (R : Rs) :
    nameW false (l :: n) B R = nameW false n (B ++ UInt8.ofNat l.length :: l) (if B.length < 16384 then R ++ [(l :: n, B.length)] else R) := by
  rw [nameW.eq_def]
theorem nameW_miss {short : Bool} {l : List UInt8} {n : List (List UInt8)} {B : List UInt8} {R : Rs} (h : findR R (l :: n) = none) :
    nameW short (l :: n) B R = nameW short n (B ++ UInt8.ofNat l.length :: l) (if B.length < 16384 then R ++ [(l :: n, B.length)] else R) := by
  rw [nameW.eq_def]
  simp only [h]

/-- At p, where what is read now began at q, the name n is read; e is the place behind it. -/
inductive AtN (B : List UInt8) : Nat → Nat → List (List UInt8) → Nat → Prop
  | fin {p q : Nat} (h : B[p]? = some 0) : AtN B p q [] (p + 1)
  | ptr {p q e : Nat} {n : List (List UInt8)} {y z : UInt8} (h1 : B[p]? = some y) (h2 : B[p + 1]? = some z) (h3 : 192 ≤ y.toNat) (h4 : toR y z < q) (h : AtN B (toR y z) (toR y z) n e) : AtN B p q n (p + 2)
  | lab {p q e : Nat} {n : List (List UInt8)} {l : List UInt8} (h1 : 1 ≤ l.length) (h2 : l.length ≤ 63) (h3 : B[p]? = some (UInt8.ofNat l.length)) (h4 : p + 1 + l.length ≤ B.length) (h5 : cutL B (p + 1) l.length = l) (h : AtN B (p + 1 + l.length) q n e) : AtN B p q (l :: n) e

theorem AtN.mono {B : List UInt8} {p q e : Nat} {n : List (List UInt8)} (h : AtN B p q n e) : ∀ {q' : Nat}, q ≤ q' → AtN B p q' n e := by
  induction h with
  | fin h => intro q' _; exact .fin h
  | ptr h1 h2 h3 h4 h _ => intro q' hq; exact .ptr h1 h2 h3 (by omega) h
  | lab h1 h2 h3 h4 h5 _ ih => intro q' hq; exact .lab h1 h2 h3 h4 h5 (ih hq)
theorem getElem?_more {B C : List UInt8} {p : Nat} {y : UInt8} (h : B[p]? = some y) : (B ++ C)[p]? = some y := by
  have hl := (List.getElem?_eq_some_iff.1 h).1
  rw [List.getElem?_append_left hl, h]
theorem cutL_more {B C : List UInt8} {a k : Nat} (h : a + k ≤ B.length) : cutL (B ++ C) a k = cutL B a k := by
  unfold cutL
  rw [List.drop_append_of_le_length (by omega), List.take_append_of_le_length (by simp; omega)]
theorem AtN.more {B : List UInt8} {p q e : Nat} {n : List (List UInt8)} (C : List UInt8) (h : AtN B p q n e) : AtN (B ++ C) p q n e := by
  induction h with
  | fin h => exact .fin (getElem?_more h)
  | ptr h1 h2 h3 h4 _ ih => exact .ptr (getElem?_more h1) (getElem?_more h2) h3 h4 ih
  | lab h1 h2 h3 h4 h5 _ ih => exact .lab h1 h2 (getElem?_more h3) (by simp; omega) (by rw [cutL_more h4]; exact h5) ih

theorem nextR_nextR (x : Nat) {y e : Nat} (h : y ≠ 0) : nextR (nextR x y) e = nextR x y := by
  unfold nextR
  by_cases hx : x = 0
  · simp [hx, h]
  · simp [hx]
theorem szN_append (m n : List (List UInt8)) : szN (m ++ n) + 1 = szN m + szN n := by
  induction m with
  | nil => simp [szN]; omega
  | cons l m ih => simp only [List.cons_append, szN]; omega
theorem AtN.read {B : List UInt8} {p q e : Nat} {n : List (List UInt8)} (h : AtN B p q n e) : ∀ {x : Nat} {m : List (List UInt8)}, szN m + szN n ≤ 256 → getR B p q x m = (m ++ n, nextR x e, 0) := by
  induction h with
  | @fin p q h =>
    intro x m _
    obtain ⟨hl, hv⟩ := List.getElem?_eq_some_iff.1 h
    rw [getR_zero hl (by rw [hv]; rfl), List.append_nil]
  | @ptr p q e n y z h1 h2 h3 h4 _ ih =>
    intro x m hs
    obtain ⟨hl, hv⟩ := List.getElem?_eq_some_iff.1 h1
    obtain ⟨hl2, hv2⟩ := List.getElem?_eq_some_iff.1 h2
    rw [getR_ptr hl hl2 (by rw [hv]; exact h3) (by rw [hv, hv2]; exact h4), hv, hv2, ih hs, nextR_nextR x (by omega)]
  | @lab p q e n l h1 h2 h3 h4 h5 _ ih =>
    intro x m hs
    obtain ⟨hl, hv⟩ := List.getElem?_eq_some_iff.1 h3
    have hn : (B[p]).toNat = l.length := by rw [hv, UInt8.toNat_ofNat']; omega
    have hp := szN_pos n
    simp only [szN] at hs
    rw [getR_label hl (by omega) (by omega) (by omega) (by omega), hn, h5, ih (by rw [szN_snoc]; omega), List.append_assoc, List.singleton_append]

theorem toR_digs {k : Nat} (hk : k < 16384) : ∃ y z, digs (49152 + k) 2 = [y, z] ∧ 192 ≤ y.toNat ∧ toR y z = k := by
  refine ⟨UInt8.ofNat ((49152 + k) / 256), UInt8.ofNat (49152 + k), by simp [digs, List.range_succ], ?_, ?_⟩
  · rw [UInt8.toNat_ofNat']; omega
  · unfold toR; rw [UInt8.toNat_ofNat', UInt8.toNat_ofNat']; omega

theorem nameW_reads (short : Bool) : ∀ (n : List (List UInt8)) (B : List UInt8) (R : Rs) (p0 : Nat), n.all fitL = true → p0 ≤ B.length →
    (∀ r ∈ R, r.2 < 16384 ∧ (r.1.length ≤ n.length → r.2 < p0 ∧ ∃ e, AtN B r.2 r.2 r.1 e)) →
    (∃ S, (nameW short n B R).1 = B ++ S) ∧ AtN (nameW short n B R).1 B.length p0 n (nameW short n B R).1.length ∧
      ∀ r ∈ (nameW short n B R).2, r ∈ R ∨ (r.2 < 16384 ∧ r.2 < (nameW short n B R).1.length ∧ ∃ e, AtN (nameW short n B R).1 r.2 r.2 r.1 e)
  | [], B, R, p0, _, _, _ => by
    rw [nameW_nil]
    refine ⟨⟨[0], rfl⟩, ?_, fun r hr => .inl hr⟩
    have h := AtN.fin (B := B ++ [0]) (p := B.length) (q := p0) (by simp)
    simpa using h
  | l :: n, B, R, p0, hf, hp, hR => by
    simp only [List.all_cons, Bool.and_eq_true, fitL_iff] at hf
    have step : (∃ S, (nameW short n (B ++ UInt8.ofNat l.length :: l) (if B.length < 16384 then R ++ [(l :: n, B.length)] else R)).1 = B ++ S) ∧
        AtN (nameW short n (B ++ UInt8.ofNat l.length :: l) (if B.length < 16384 then R ++ [(l :: n, B.length)] else R)).1 B.length p0 (l :: n) (nameW short n (B ++ UInt8.ofNat l.length :: l) (if B.length < 16384 then R ++ [(l :: n, B.length)] else R)).1.length ∧
        ∀ r ∈ (nameW short n (B ++ UInt8.ofNat l.length :: l) (if B.length < 16384 then R ++ [(l :: n, B.length)] else R)).2, r ∈ R ∨ (r.2 < 16384 ∧ r.2 < (nameW short n (B ++ UInt8.ofNat l.length :: l) (if B.length < 16384 then R ++ [(l :: n, B.length)] else R)).1.length ∧
          ∃ e, AtN (nameW short n (B ++ UInt8.ofNat l.length :: l) (if B.length < 16384 then R ++ [(l :: n, B.length)] else R)).1 r.2 r.2 r.1 e) := by
      obtain ⟨R1, hR1⟩ : ∃ R1, R1 = if B.length < 16384 then R ++ [(l :: n, B.length)] else R := ⟨_, rfl⟩
      rw [← hR1]
      have hmem : ∀ r ∈ R1, r ∈ R ∨ (r = (l :: n, B.length) ∧ B.length < 16384) := by
        intro r hr
        rw [hR1] at hr
        split at hr
        · rename_i hb
          rcases List.mem_append.1 hr with h | h
          · exact .inl h
          · exact .inr ⟨List.mem_singleton.1 h, hb⟩
        · exact .inl hr
      obtain ⟨⟨S, hS⟩, hA, hM⟩ := nameW_reads short n (B ++ UInt8.ofNat l.length :: l) R1 p0 hf.2 (by simp; omega) (fun r hr => by
        rcases hmem r hr with h | ⟨h, hb⟩
        · refine ⟨(hR r h).1, fun hl => ?_⟩
          obtain ⟨h1, e, h2⟩ := (hR r h).2 (by simp; omega)
          exact ⟨h1, e, h2.more _⟩
        · refine ⟨by rw [h]; exact hb, fun hl => ?_⟩
          rw [h] at hl
          simp at hl
          omega)
      have hlab : AtN (nameW short n (B ++ UInt8.ofNat l.length :: l) R1).1 B.length p0 (l :: n) (nameW short n (B ++ UInt8.ofNat l.length :: l) R1).1.length := by
        refine .lab hf.1.1 hf.1.2 ?_ ?_ ?_ ?_
        · rw [hS]; simp
        · rw [hS]; simp; omega
        · rw [hS]; simp [cutL]
        · have e1 : B.length + 1 + l.length = (B ++ UInt8.ofNat l.length :: l).length := by simp; omega
          rw [e1]
          exact hA
      refine ⟨⟨UInt8.ofNat l.length :: l ++ S, by rw [hS]; simp⟩, hlab, fun r hr => ?_⟩
      rcases hM r hr with h | h
      · rcases hmem r h with h | ⟨h, hb⟩
        · exact .inl h
        · refine .inr ?_
          rw [h]
          exact ⟨hb, by rw [hS]; simp, _, hlab.mono hp⟩
      · exact .inr h
    cases hfi : findR R (l :: n) with
    | none => rw [nameW_miss hfi]; exact step
    | some k =>
      cases short with
      | false => rw [nameW_long]; exact step
      | true =>
        rw [nameW_hit hfi]
        obtain ⟨h16, h2⟩ := hR _ (findR_mem hfi)
        obtain ⟨hk, e, hA⟩ := h2 (Nat.le_refl _)
        obtain ⟨y, z, hd, hy, ht⟩ := toR_digs h16
        simp only at hd ht hk hA
        refine ⟨⟨_, rfl⟩, ?_, fun r hr => .inl hr⟩
        rw [hd]
        have h := AtN.ptr (B := B ++ [y, z]) (p := B.length) (q := p0) (n := l :: n) (e := e) (y := y) (z := z) (by simp) (by simp) hy (by rw [ht]; exact hk) (by rw [ht]; exact hA.more _)
        simpa using h

/-- What is kept of rests: each is read where it stands. -/
def GoodR (B : List UInt8) (R : Rs) : Prop := ∀ r ∈ R, r.2 < 16384 ∧ r.2 < B.length ∧ ∃ e, AtN B r.2 r.2 r.1 e
theorem GoodR.nil (B : List UInt8) : GoodR B [] := fun _ hr => absurd hr (List.not_mem_nil)
theorem GoodR.more {B : List UInt8} {R : Rs} (h : GoodR B R) (C : List UInt8) : GoodR (B ++ C) R := fun r hr => by
  obtain ⟨h1, h2, e, h3⟩ := h r hr
  exact ⟨h1, by simp; omega, e, h3.more C⟩
theorem nameW_good {short : Bool} {n : List (List UInt8)} {B : List UInt8} {R : Rs} (hf : n.all fitL = true) (h : GoodR B R) :
    (∃ S, (nameW short n B R).1 = B ++ S) ∧ AtN (nameW short n B R).1 B.length B.length n (nameW short n B R).1.length ∧ GoodR (nameW short n B R).1 (nameW short n B R).2 := by
  obtain ⟨⟨S, hS⟩, h2, h3⟩ := nameW_reads short n B R B.length hf (Nat.le_refl _) fun r hr => by
    obtain ⟨a, b, e, c⟩ := h r hr
    exact ⟨a, fun _ => ⟨b, e, c⟩⟩
  refine ⟨⟨S, hS⟩, h2, fun r hr => ?_⟩
  rcases h3 r hr with h4 | h4
  · have h5 := h.more S
    rw [← hS] at h5
    exact h5 r h4
  · exact h4

theorem length_nameW_long : ∀ (n : List (List UInt8)) (B : List UInt8) (R : Rs), (nameW false n B R).1.length = B.length + szN n
  | [], B, R => by simp [nameW_nil, szN]
  | l :: n, B, R => by
    rw [nameW_long, length_nameW_long n]
    simp [szN]
    omega
theorem length_nameW_le (short : Bool) : ∀ (n : List (List UInt8)) (B : List UInt8) (R : Rs), n.all fitL = true → (nameW short n B R).1.length ≤ B.length + szN n
  | [], B, R, _ => by simp [nameW_nil, szN]
  | l :: n, B, R, hf => by
    simp only [List.all_cons, Bool.and_eq_true, fitL_iff] at hf
    have ih := length_nameW_le short n (B ++ UInt8.ofNat l.length :: l) (if B.length < 16384 then R ++ [(l :: n, B.length)] else R) hf.2
    simp only [List.length_append, List.length_cons] at ih
    have hp := szN_pos n
    cases hfi : findR R (l :: n) with
    | none => rw [nameW_miss hfi]; simp only [szN]; omega
    | some k =>
      cases short with
      | false => rw [nameW_long]; simp only [szN]; omega
      | true => rw [nameW_hit hfi]; simp only [szN, List.length_append, length_digs]; omega

theorem length_nameW_rests (short : Bool) : ∀ (n : List (List UInt8)) (B : List UInt8) (R : Rs), (nameW short n B R).2.length ≤ R.length + n.length
  | [], B, R => by simp [nameW_nil]
  | l :: n, B, R => by
    have ih := length_nameW_rests short n (B ++ UInt8.ofNat l.length :: l) (if B.length < 16384 then R ++ [(l :: n, B.length)] else R)
    have hi : (if B.length < 16384 then R ++ [(l :: n, B.length)] else R).length ≤ R.length + 1 := by split <;> simp
    cases hfi : findR R (l :: n) with
    | none => rw [nameW_miss hfi]; simp only [List.length_cons]; omega
    | some k =>
      cases short with
      | false => rw [nameW_long]; simp only [List.length_cons]; omega
      | true => rw [nameW_hit hfi]; simp only [List.length_cons]; omega

end Go.Proofs.Ytjjmllbkfbdcnaa

namespace Go.Proofs.Ytjjmllbkfbdcnaa
open Go.RowKit

set_option maxHeartbeats 400000 in
theorem sized_yes (s : Int) (w : World) (h1 : 1 ≤ s) (h2 : s ≤ 7) :
    Calls Try.prog 84 #[.int .i64 s] w fun e w' => e = .returned (.bool true) ∧ w = w' := by
  go_enter Try.func84, Try.ntmps84
  go_wp2
  go_ret
  exact ⟨rfl, rfl⟩

set_option maxHeartbeats 400000 in
theorem sized_no (s : Int) (w : World) (h : s < 1 ∨ 7 < s) :
    Calls Try.prog 84 #[.int .i64 s] w fun e w' => e = .returned (.bool false) ∧ w = w' := by
  rcases h with h | h
  · go_enter Try.func84, Try.ntmps84
    go_wp2
    go_ret
    exact ⟨rfl, rfl⟩
  · have h1 : ¬ s < 1 := by omega
    have hd : decide (s ≤ 7) = false := by simp; omega
    go_enter Try.func84, Try.ntmps84
    go_wp2
    go_ret
    exact ⟨rfl, rfl⟩

set_option maxHeartbeats 400000 in
theorem fits_any (n s : Int) (w : World) :
    Calls Try.prog 63 #[.int .i64 n, .int .i64 s] w fun e w' => e = .returned (.bool (fitB n s)) ∧ w = w' := by
  by_cases hs : 1 ≤ s ∧ s ≤ 7
  · obtain ⟨h1, h2⟩ := hs
    by_cases hn : 0 ≤ n
    · go_enter Try.func63, Try.ntmps63
      go_wp2_with (go_at_call 84; refine (sized_yes _ _ h1 h2).mono ?_; rintro e w' ⟨rfl, rfl⟩)
      go_ret
      exact ⟨by rw [← fitB_shr h1 h2 hn]; rfl, rfl⟩
    · have hd : decide (0 ≤ n) = false := by simp; omega
      go_enter Try.func63, Try.ntmps63
      go_wp2_with (go_at_call 84; refine (sized_yes _ _ h1 h2).mono ?_; rintro e w' ⟨rfl, rfl⟩)
      go_ret
      exact ⟨by rw [fitB_neg (by omega)]; rfl, rfl⟩
  · have hs' : s < 1 ∨ 7 < s := by omega
    go_enter Try.func63, Try.ntmps63
    go_wp2_with (go_at_call 84; refine (sized_no _ _ hs').mono ?_; rintro e w' ⟨rfl, rfl⟩)
    go_ret
    exact ⟨by rw [fitB_no_size hs]; rfl, rfl⟩

set_option maxHeartbeats 400000 in
theorem ref_fits_any (n s : Int) (w : World) (hn : n ≤ 9223372036854775807) :
    Calls Try.prog 62 #[.int .i64 n, .int .i64 s] w fun e w' => e = .returned (.bool (fitB n s)) ∧ w = w' := by
  by_cases hs : 1 ≤ s ∧ s ≤ 7
  · obtain ⟨h1, h2⟩ := hs
    by_cases h0 : 0 ≤ n
    · obtain ⟨m, rfl⟩ : ∃ m : Nat, s = m := ⟨s.toNat, by omega⟩
      have d1 : decide ((m : Int) < 1) = false := by simp; omega
      have d2 : decide (7 < (m : Int)) = false := by simp; omega
      have d3 : decide (n < 0) = false := by simp; omega
      go_enter Try.func62, Try.ntmps62
      go_wp2
      go_loop [0, 5] (fun v i => ∃ k : Nat, k ≤ m ∧ i = .int .i64 k ∧ v = .int .i64 (n / 2 ^ (8 * k))) (fun _ i => m - (intOf i).toNat)
      case atStart => exact ⟨0, by omega, rfl, by simp⟩
      case round =>
        obtain ⟨k, hk, rfl, rfl⟩ := hrel
        have g1 := div_nonneg' h0 k
        have g2 := div_le' h0 k
        by_cases hlt : k < m
        · go_wp2
          go_round
          case rel => exact ⟨k + 1, by omega, by go_num, by rw [← div_step]⟩
          case measure => simp [intOf]; omega
        · obtain rfl : k = m := by omega
          go_wp2
          go_ret
          exact ⟨by rw [← fitB_shr h1 h2 h0]; rfl, rfl⟩
    · have d1 : decide (s < 1) = false := by simp; omega
      have d2 : decide (7 < s) = false := by simp; omega
      have d3 : decide (n < 0) = true := by simp; omega
      go_enter Try.func62, Try.ntmps62
      go_wp2
      go_ret
      exact ⟨by rw [fitB_neg (by omega)]; rfl, rfl⟩
  · rcases (show s < 1 ∨ 7 < s by omega) with h | h
    · have d1 : decide (s < 1) = true := by simp; omega
      go_enter Try.func62, Try.ntmps62
      go_wp2
      go_ret
      exact ⟨by rw [fitB_no_size hs]; rfl, rfl⟩
    · have d1 : decide (s < 1) = false := by simp; omega
      have d2 : decide (7 < s) = true := by simp; omega
      go_enter Try.func62, Try.ntmps62
      go_wp2
      go_ret
      exact ⟨by rw [fitB_no_size hs]; rfl, rfl⟩

end Go.Proofs.Ytjjmllbkfbdcnaa

namespace Go.Proofs.Ytjjmllbkfbdcnaa
open Go.RowKit

set_option maxHeartbeats 400000 in
theorem put_no (A : Option Addr) (k c H : Nat) (l : List UInt8) (n s : Int) (w : World) (hl : l.length = k) (hA : Row w H A (l.map bc)) (hb : k ≤ 140737488355328) (hf : fitB n s = false) :
    Calls Try.prog 82 #[.slice A k c, .int .i64 n, .int .i64 s] w (Owned w l) := by
  have hf2 := fun W => fits_any n s W
  rw [hf] at hf2
  obtain ⟨i0, hi0, hz0, hz1, hz2⟩ := info_parts u8_info
  have HF := Lib.hid hf2
  have HL := Lib.hid hl
  have HA := Lib.hid hA
  clear hf hf2 hl hA
  go_enter Try.func82, Try.ntmps82
  go_wp2_with (first
    | (go_at_call 63; refine (HF.out _).mono ?_; rintro e w' ⟨rfl, rfl⟩)
    | (at_builtin
       refine wpList_append_row rfl (.const (.slice none 0 0)) (.tmp 13) _ rfl w.heap.size 5 i0 _ 1 1 Try.underlying22 hi0 hz0 hz1 hz2 rfl (by omega) (.slice none 0 0) 0 [] rfl
         (World.ownsRow_nil _ _ _ _) A k c H (l.map bc) rfl (by rw [List.length_map, HL.out]; omega) HA.out (bc_one l) (by unfold maxLen; omega) (by omega) (Nat.le_refl _) ?_
       intro v1 w1 hown1 hg1))
  go_ret
  obtain ⟨A', c', rfl, _, _⟩ := own_form hown1
  have hL := HL.out
  subst hL
  rw [Nat.zero_add] at *
  exact ⟨A', c', rfl, by simpa using hown1, own_below (Below.refl _ _) (Nat.le_refl _) (Nat.le_refl _) (World.ownsRow_nil _ w.heap.size 5 1) hg1⟩

def PutRel (B : Nat) (w : World) (l : List UInt8) (n s : Nat) (v i : Value) (wr : World) : Prop :=
  ∃ k : Nat, k ≤ s ∧ i = .int .i64 ((s : Int) - 1 - k) ∧ wr.ownsRow B 5 1 v (l.length + k) ((l ++ (digs n s).take k).map bc) ∧ Below B w wr ∧ B ≤ wr.heap.size

set_option maxRecDepth 4000 in
set_option maxHeartbeats 400000 in
theorem put_yes (A : Option Addr) (m c H : Nat) (l : List UInt8) (n s : Nat) (w : World) (hl : l.length = m) (hA : Row w H A (l.map bc)) (hH : H ≤ w.heap.size) (hb : m ≤ 140737488355000) (hf : fitB n s = true) :
    Calls Try.prog 82 #[.slice A m c, .int .i64 n, .int .i64 s] w (Owned w (l ++ digs n s)) := by
  obtain ⟨h1, h2, h3, h4⟩ : (1 : Int) ≤ s ∧ (s : Int) ≤ 7 ∧ (0 : Int) ≤ n ∧ (n : Int) < 2 ^ (8 * (s : Int).toNat) := by simpa [fitB] using hf
  have hf2 := fun W => fits_any n s W
  rw [hf] at hf2
  obtain ⟨i0, hi0, hz0, hz1, hz2⟩ := info_parts u8_info
  have HF := Lib.hid hf2
  have HL := Lib.hid hl
  have HA := Lib.hid hA
  have H4 := Lib.hid h4
  have HH := Lib.hid hH
  clear hf hf2 hl hA h4 hH
  go_enter Try.func82, Try.ntmps82
  go_wp2_with (first
    | (go_at_call 63; refine (HF.out _).mono ?_; rintro e w' ⟨rfl, rfl⟩)
    | (refine wpList_make_zeros rfl (.tmp 16) (.tmp 20) _ rfl 5 i0 _ 1 Try.underlying22 hi0 hz0 hz1 hz2 rfl .i64 .i64 _ _ m (m + s) rfl rfl rfl (by omega) (by omega) (by omega) (by unfold maxLen; omega) ?_)
    | (with_reducible refine wpList_copy_splice rfl _ _ _ _ rfl 5 Try.underlying22 u8_size _ _ _ _ _ _ rfl rfl w.heap.size 0 (zerosL (.int .u8 0) (m + s)) 5 (heap_alloc_new w _) (l.map bc) ?c3 ?c4 ?c5 (bc_one l) w.heap.size w ?c7 (Nat.le_refl _) ?_
       case c3 => rw [List.length_map, HL.out]; exact (Nat.min_self m).symm
       case c4 => exact fun h0 => ⟨rfl, (HA.out.alloc HH.out _).pos h0⟩
       case c5 => rw [List.length_map, HL.out, length_zerosL]; omega
       case c7 => exact (Below.refl _ _).alloc (Nat.le_refl _) _
       intro w2 HG2 hB2))
  have hown : w2.ownsRow w.heap.size 5 1 (.slice (some ⟨w.heap.size, 0, none⟩) m (m + s)) (l.length + 0) ((l ++ (digs n s).take 0).map bc) := by
    rw [Nat.add_zero, HL.out]
    refine own_of_block HG2.out (Nat.le_refl _) ?_ (by omega) (by unfold maxLen; omega) ?_
    · rw [length_splice _ _ _ (by rw [List.length_map, HL.out, length_zerosL]; omega), length_zerosL]
    · simp [splice, HL.out]
  have HO := Lib.hid hown
  have hz := hB2.size
  clear hown HG2
  go_loopw [7, 8] (PutRel w.heap.size w l n s) (fun _ i _ => (intOf i + 1).toNat)
  case atStart => exact ⟨0, by omega, by simp, HO.out, hB2, hz⟩
  case round =>
    obtain ⟨k, hk, rfl, hown, hbw, hbz⟩ := hrel
    obtain ⟨A1, c1, rfl, hc1, hc2⟩ := own_form hown
    have HO1 := Lib.hid hown
    have HB1 := Lib.hid hbw
    clear hown hbw
    by_cases hlt : k < s
    · have hd : decide ((k : Int) ≤ (s : Int) - 1) = true := by simp; omega
      have hr := Row.made wr #[.int .u8 ((n : Int) / 2 ^ (8 * (s - 1 - k)) % 256)] 5
      have HR := Lib.hid hr
      clear hr
      go_wp2_with (
        at_builtin
        refine wpList_append_row rfl (.tmp 31) (.tmp 37) _ rfl w.heap.size 5 i0 _ 1 1 Try.underlying22 hi0 hz0 hz1 hz2 rfl (by omega) (.slice A1 (l.length + k) c1) (l.length + k) _ rfl (HO1.out.alloc _)
          (some ⟨wr.heap.size, 0, none⟩) 1 1 (wr.heap.size + 1) [.int .u8 ((n : Int) / 2 ^ (8 * (s - 1 - k)) % 256)] rfl rfl HR.out (by simp [Value.oneCell']) (by unfold maxLen; have := HL.out; omega) (by have := HL.out; omega) (by simp; omega) ?_
        intro v1 w1 hown1 hg1)
      refine ⟨⟨k + 1, by omega, by go_num, ?_, ?_, ?_⟩, ?_⟩
      · rw [← digs_cells l n s k hlt]; exact hown1
      · exact own_below (HB1.out.alloc hbz _) (Nat.le_refl _) (by simp; omega) (HO1.out.alloc _) hg1
      · have := hg1.size; simp at this; omega
      · simp [intOf]; omega
    · obtain rfl : k = s := by omega
      have hd : decide ((0 : Int) ≤ (k : Int) - 1 - k) = false := by simp; omega
      go_wp2
      go_ret
      have hL : l.length + k = (l ++ digs n k).length := by simp [length_digs]
      have hT : (digs n k).take k = digs n k := List.take_of_length_le (by rw [length_digs]; omega)
      have ho := HO1.out
      rw [hT, hL] at ho
      exact ⟨A1, c1, by rw [← hL]; rfl, ho, HB1.out⟩

theorem put_any (A : Option Addr) (m c H : Nat) (l : List UInt8) (n s : Int) (w : World) (hl : l.length = m) (hA : Row w H A (l.map bc)) (hH : H ≤ w.heap.size) (hb : m ≤ 140737488355000) :
    Calls Try.prog 82 #[.slice A m c, .int .i64 n, .int .i64 s] w (Owned w (putL l n s)) := by
  cases hf : fitB n s with
  | false => rw [putL_no hf]; exact put_no A m c H l n s w hl hA (by omega) hf
  | true =>
    have h := hf
    simp only [fitB, decide_eq_true_eq] at h
    obtain ⟨n', rfl⟩ : ∃ k : Nat, n = k := ⟨n.toNat, by omega⟩
    obtain ⟨s', rfl⟩ : ∃ k : Nat, s = k := ⟨s.toNat, by omega⟩
    rw [putL_yes hf]
    exact put_yes A m c H l n' s' w hl hA hH hb hf

end Go.Proofs.Ytjjmllbkfbdcnaa

namespace Go.Proofs.Ytjjmllbkfbdcnaa
open Go.RowKit

/-- The key under which a rest is kept. -/
def keyR (n : List (List UInt8)) : Lit := .string (encN n)
/-- A map's entries say what the rests R are. -/
def SaysR (D : DataW Unit) (R : Rs) : Prop :=
  Maps.IsMap D ∧ ∀ n, n.all fitL = true → Maps.has D (keyR n) = (findR R n).isSome ∧ D.atKey (keyR n) (.lit (.int .i64 0)) = .lit (.int .i64 ((findR R n).getD 0 : Nat))
def MapOf (w : World) (base : Nat) (v : Value) (R : Rs) : Prop :=
  (v = .map none ∧ R = []) ∨ ∃ b D, v = .map (some b) ∧ base ≤ b ∧ w.ownsMap (H := Unit) Try.prog 9 (plainElem Try.prog 3) b R.length D ∧ SaysR D R

/-- A Writer: its block is g; vB reads as B, and vM says the rests R. -/
structure Wr (w : World) (base g : Nat) (vB vM : Value) (B : List UInt8) (R : Rs) : Prop where
  blk : Whole w g 75 [vB, vM]
  low : base ≤ g
  row : w.ownsRow base 5 1 vB B.length (B.map bc)
  map : MapOf w base vM R
/-- Which blocks are a Writer's own. -/
def ownF (g : Nat) (vB vM : Value) (j : Nat) : Prop := j = g ∨ vB.ownBlock = some j ∨ vM = .map (some j)

section
variable {w w' : World} {base g : Nat} {vB vM : Value} {B : List UInt8} {R : Rs}
theorem Wr.c0 (h : Wr w base g vB vM B R) : w.cell? ⟨g, 0, none⟩ = some vB := h.blk.cell 0
theorem Wr.c1 (h : Wr w base g vB vM B R) : w.cell? ⟨g, 1, none⟩ = some vM := h.blk.cell 1
theorem Wr.f0 (h : Wr w base g vB vM B R) : w.frozen? ⟨g, 0, none⟩ = false := h.blk.frozen 0
theorem Wr.f1 (h : Wr w base g vB vM B R) : w.frozen? ⟨g, 1, none⟩ = false := h.blk.frozen 1
theorem Wr.size (h : Wr w base g vB vM B R) : base ≤ w.heap.size := Nat.le_of_lt (Nat.lt_of_le_of_lt h.low h.blk.lt)
theorem MapOf.lt (h : MapOf w base vM R) {j : Nat} (hj : vM = .map (some j)) : base ≤ j ∧ j < w.heap.size := by
  rcases h with ⟨rfl, _⟩ | ⟨b, D, rfl, hb, ho, _⟩
  · cases hj
  · injection hj with hj
    injection hj with hj
    subst hj
    exact ⟨hb, ho.lt⟩
theorem Wr.own (h : Wr w base g vB vM B R) {j : Nat} (hj : ownF g vB vM j) : base ≤ j ∧ j < w.heap.size := by
  rcases hj with rfl | hj | hj
  · exact ⟨h.low, h.blk.lt⟩
  · exact h.row.lt j hj
  · exact h.map.lt hj
theorem ownsMap_keep {P : Program} {k : TypeId} {E : Value → Option (DataW Unit × List MemPlace)} {b n : Nat} {D : DataW Unit} (h : w.ownsMap P k E b n D) (hk : w'.heap[b]? = w.heap[b]?) : w'.ownsMap P k E b n D := by
  obtain ⟨es, clock, hb, r⟩ := h
  exact ⟨es, clock, hk.trans hb, r⟩
theorem MapOf.keep (h : MapOf w base vM R) (hk : ∀ j, vM = .map (some j) → w'.heap[j]? = w.heap[j]?) : MapOf w' base vM R := by
  rcases h with h | ⟨b, D, rfl, hb, ho, hs⟩
  · exact .inl h
  · exact .inr ⟨b, D, rfl, hb, ownsMap_keep ho (hk b rfl), hs⟩
theorem Wr.keep (h : Wr w base g vB vM B R) (hk : ∀ j, ownF g vB vM j → w'.heap[j]? = w.heap[j]?) : Wr w' base g vB vM B R :=
  ⟨h.blk.keep (hk g (.inl rfl)), h.low, own_keep h.row fun j hj => hk j (.inr (.inl hj)), h.map.keep fun j hj => hk j (.inr (.inr hj))⟩
theorem Wr.grew {F : Nat → Prop} (h : Wr w base g vB vM B R) (hg : Grew F w w') (hf : ∀ j, ownF g vB vM j → ¬ F j) : Wr w' base g vB vM B R :=
  h.keep fun j hj => hg.block j (h.own hj).2 (hf j hj)
theorem Wr.below (h : Wr w base g vB vM B R) (hb : Below w.heap.size w w') : Wr w' base g vB vM B R :=
  h.keep fun j hj => hb.block j (h.own hj).2
theorem Wr.alloc (h : Wr w base g vB vM B R) (o : Obj) : Wr (w.alloc o) base g vB vM B R := h.below ((Below.refl _ _).alloc (Nat.le_refl _) o)
theorem Wr.drewN (h : Wr w base g vB vM B R) (n : Nat) : Wr (w.drewN n) base g vB vM B R := h.keep fun _ _ => rfl
theorem Wr.mono (h : Wr w base g vB vM B R) {base' : Nat} (hb : base' ≤ base) : Wr w base' g vB vM B R :=
  ⟨h.blk, Nat.le_trans hb h.low, own_mono h.row hb, h.map.elim .inl fun ⟨b, D, e, h1, h2⟩ => .inr ⟨b, D, e, Nat.le_trans hb h1, h2⟩⟩
/-- The three blocks are three. -/
theorem Wr.apart (h : Wr w base g vB vM B R) : vB.ownBlock ≠ some g ∧ vM ≠ .map (some g) ∧ ∀ j, vB.ownBlock = some j → vM ≠ .map (some j) := by
  refine ⟨own_not_whole h.row h.blk (by decide), fun hm => ?_, fun j hj hm => ?_⟩
  · rcases h.map with ⟨e, _⟩ | ⟨b, D, e, _, ho, _⟩
    · rw [e] at hm; cases hm
    · rw [e] at hm
      injection hm with hm
      injection hm with hm
      subst hm
      obtain ⟨es, clock, hb, _⟩ := ho
      have := h.blk
      unfold Whole at this
      rw [hb] at this
      cases this
  · rcases h.map with ⟨e, _⟩ | ⟨b, D, e, _, ho, _⟩
    · rw [e] at hm; cases hm
    · rw [e] at hm
      injection hm with hm
      injection hm with hm
      subst hm
      obtain ⟨es, clock, hb, _⟩ := ho
      rcases h.row.2 with ⟨e2, _⟩ | ⟨g', cap, cur, e2, _, hh, _⟩
      · rw [e2] at hj; cases hj
      · rw [e2] at hj
        simp [Value.ownBlock] at hj
        subst hj
        rw [hb] at hh
        cases hh
end

/-- The Writer has B and R now; nothing but its own has turned. -/
def Penned (base : Nat) (w : World) (g : Nat) (vB vM : Value) (B : List UInt8) (R : Rs) (w' : World) : Prop :=
  ∃ vB' vM', Wr w' base g vB' vM' B R ∧ Grew (ownF g vB vM) w w' ∧ ∀ j, ownF g vB' vM' j → ownF g vB vM j ∨ w.heap.size ≤ j
theorem Penned.refl {base : Nat} {w : World} {g : Nat} {vB vM : Value} {B : List UInt8} {R : Rs} (h : Wr w base g vB vM B R) : Penned base w g vB vM B R w := ⟨vB, vM, h, Grew.refl _ _, fun _ h => .inl h⟩
/-- One call behind another. -/
theorem Penned.then {base : Nat} {w w1 w2 : World} {g : Nat} {vB vM vB1 vM1 : Value} {B : List UInt8} {R : Rs} (hg : Grew (ownF g vB vM) w w1) (hf : ∀ j, ownF g vB1 vM1 j → ownF g vB vM j ∨ w.heap.size ≤ j)
    (h : Penned base w1 g vB1 vM1 B R w2) : Penned base w g vB vM B R w2 := by
  obtain ⟨vB2, vM2, h1, h2, h3⟩ := h
  refine ⟨vB2, vM2, h1, hg.trans h2 hf, fun j hj => ?_⟩
  rcases h3 j hj with h4 | h4
  · exact hf j h4
  · exact .inr (Nat.le_trans hg.size h4)

set_option maxHeartbeats 400000 in
theorem new_any (w : World) : Calls Try.prog 11 #[] w (fun e w' => e = .returned (.pointer (some ⟨w.heap.size, 0, none⟩)) ∧ Wr w' w.heap.size w.heap.size (.slice none 0 0) (.map none) [] [] ∧ Below w.heap.size w w') := by
  go_enter Try.func11, Try.ntmps11
  go_wp2
  go_ret
  exact ⟨rfl, ⟨heap_alloc_new w _, Nat.le_refl _, World.ownsRow_nil _ _ _ _, .inl ⟨rfl, rfl⟩⟩, (Below.refl _ _).alloc (Nat.le_refl _) _⟩

set_option maxHeartbeats 400000 in
theorem len_any (base : Nat) (w : World) (g : Nat) (vB vM : Value) (B : List UInt8) (R : Rs) (h : Wr w base g vB vM B R) :
    Calls Try.prog 29 #[.pointer (some ⟨g, 0, none⟩)] w (Told w (.int .i64 B.length)) := by
  obtain ⟨A1, c1, rfl, _, _⟩ := own_form h.row
  have h0 := h.c0
  clear h
  go_enter Try.func29, Try.ntmps29
  go_wp2
  go_ret
  exact ⟨rfl, rfl⟩

set_option maxHeartbeats 400000 in
theorem len_nil (w : World) : Calls Try.prog 29 #[.pointer none] w (Told w (.int .i64 0)) := by
  go_enter Try.func29, Try.ntmps29
  go_wp2
  go_ret
  exact ⟨rfl, rfl⟩

set_option maxHeartbeats 400000 in
theorem bytes_any (base : Nat) (w : World) (g : Nat) (vB vM : Value) (B : List UInt8) (R : Rs) (h : Wr w base g vB vM B R) (hm : B.length ≤ 140737488355000) :
    Calls Try.prog 21 #[.pointer (some ⟨g, 0, none⟩)] w (Owned w B) := by
  obtain ⟨i0, hi0, hz0, hz1, hz2⟩ := info_parts u8_info
  obtain ⟨A1, c1, rfl, _, _⟩ := own_form h.row
  have h0 := h.c0
  have HR := Lib.hid (Row.of_own h.row)
  clear h
  go_enter Try.func21, Try.ntmps21
  go_wp2_with (
    at_builtin
    refine wpList_append_row rfl (.const (.slice none 0 0)) (.tmp 8) _ rfl w.heap.size 5 i0 _ 1 1 Try.underlying22 hi0 hz0 hz1 hz2 rfl (by omega) (.slice none 0 0) 0 [] rfl
      (World.ownsRow_nil _ _ _ _) A1 B.length c1 w.heap.size (B.map bc) rfl (by rw [List.length_map]; omega) HR.out (bc_one B) (by unfold maxLen; omega) (by omega) (Nat.le_refl _) ?_
    intro v1 w1 hown1 hg1)
  go_ret
  obtain ⟨A', c', rfl, _, _⟩ := own_form hown1
  rw [Nat.zero_add] at *
  exact ⟨A', c', rfl, by simpa using hown1, own_below (Below.refl _ _) (Nat.le_refl _) (Nat.le_refl _) (World.ownsRow_nil _ w.heap.size 5 1) hg1⟩

set_option maxHeartbeats 400000 in
theorem bytes_nil (w : World) : Calls Try.prog 21 #[.pointer none] w (Told w (.slice none 0 0)) := by
  go_enter Try.func21, Try.ntmps21
  go_wp2
  go_ret
  exact ⟨rfl, rfl⟩

set_option maxHeartbeats 400000 in
theorem raw_nil (v : Value) (w : World) : Calls Try.prog 47 #[.pointer none, v] w (Told w (.tuple #[])) := by
  go_enter Try.func47, Try.ntmps47
  go_wp2
  go_end0
  exact ⟨rfl, rfl⟩

set_option maxHeartbeats 1000000 in
theorem raw_any (base : Nat) (w : World) (g : Nat) (vB vM : Value) (B : List UInt8) (R : Rs) (A : Option Addr) (m c H : Nat) (l : List UInt8) (h : Wr w base g vB vM B R) (hl : l.length = m) (hr : Row w H A (l.map bc)) (hm : B.length + m ≤ 140737488355000) :
    Calls Try.prog 47 #[.pointer (some ⟨g, 0, none⟩), .slice A m c] w (fun e w' => e = .returned (.tuple #[]) ∧ Penned base w g vB vM (B ++ l) R w') := by
  obtain ⟨i0, hi0, hz0, hz1, hz2⟩ := info_parts u8_info
  have h0 := h.c0
  have hbs := h.size
  have HR := Lib.hid hr
  have HL := Lib.hid hl
  have HW := Lib.hid h
  clear h hl hr
  go_enter Try.func47, Try.ntmps47
  go_wp2_with (
    at_builtin
    refine wpList_append_at rfl (.tmp 10) (.tmp 11) _ rfl base 5 i0 _ 1 1 Try.underlying22 hi0 hz0 hz1 hz2 rfl (by omega) vB B.length (B.map bc) rfl HW.out.row
      A m c H (l.map bc) rfl (by rw [List.length_map, HL.out]; omega) HR.out (bc_one l) (by unfold maxLen; omega) (by omega) hbs ?_
    intro v1 w1 hown1 hg1 hat
    obtain ⟨A1, c1, rfl, _, _⟩ := own_form hown1
    have hk1 := HW.out.blk.keep (hg1.block g HW.out.blk.lt (Ne.symm HW.out.apart.1))
    have c0' : w1.cell? ⟨g, 0, none⟩ = some vB := hk1.cell 0
    have f0' : w1.frozen? ⟨g, 0, none⟩ = false := hk1.frozen 0
    have HK1 := Lib.hid hk1
    have HO1 := Lib.hid hown1
    have HG1 := Lib.hid hg1
    have HA1 := Lib.hid hat
    clear hk1 hown1 hg1 hat)
  go_end0
  obtain ⟨v1, hv1⟩ : ∃ v1, v1 = Value.slice A1 (B.length + m) c1 := ⟨_, rfl⟩
  rw [← hv1] at HO1 HA1 ⊢
  have hne : v1.ownBlock ≠ some g := own_not_whole HO1.out HK1.out (by decide)
  have hl2 : B.length + m = (B ++ l).length := by rw [List.length_append, HL.out]
  have hm1 : MapOf w1 base vM R := HW.out.map.keep fun j hj => HG1.out.block j (HW.out.map.lt hj).2 (fun e => HW.out.apart.2.2 j e.symm hj)
  refine ⟨rfl, v1, vM, ⟨HK1.out.set_ 0 v1, HW.out.low, ?_, ?_⟩, ?_, ?_⟩
  · have ho := own_set_far HO1.out (a := ⟨g, 0, none⟩) hne v1
    rw [← List.map_append, hl2] at ho
    exact ho
  · refine hm1.keep fun j hj => Below.heap_setCell _ _ _ _ (fun e => ?_)
    exact HW.out.apart.2.1 (by rw [hj, e])
  · refine (Grew.of_grown HG1.out fun j hj => .inl (.inr (.inl hj))).setCell (.inl (.inl rfl)) _
  · intro j hj
    rcases hj with h | h | h
    · exact .inl (.inl h)
    · rcases HA1.out with e | e
      · exact .inl (.inr (.inl (by rw [← e]; exact h)))
      · rw [e] at h
        injection h with h
        exact .inr (by omega)
    · exact .inl (.inr (.inr h))

set_option maxHeartbeats 1000000 in
theorem num_any (base : Nat) (w : World) (g : Nat) (vB vM : Value) (B : List UInt8) (R : Rs) (n s : Int) (h : Wr w base g vB vM B R) (hm : B.length ≤ 140737488354000) :
    Calls Try.prog 45 #[.pointer (some ⟨g, 0, none⟩), .int .i64 n, .int .i64 s] w (fun e w' => e = .returned (.tuple #[]) ∧ Penned base w g vB vM (B ++ putL [] n s) R w') := by
  have HP := Lib.hid (put_any none 0 0 0 [] n s w rfl (Row.empty _ _ _) (by omega) (by omega))
  have hpl : (putL [] n s).length ≤ 7 := by
    unfold putL
    split
    · rename_i hf
      simp only [fitB, decide_eq_true_eq] at hf
      simp [length_digs]
      omega
    · simp
  generalize putL [] n s = l at *
  have HW := Lib.hid h
  clear h
  go_enter Try.func45, Try.ntmps45
  go_wp2_with fail
  refine HP.out.mono ?_
  rintro e w1 ⟨A1, c1, rfl, ho, hb⟩
  have HR := Lib.hid (Row.of_own ho)
  have HB := Lib.hid hb
  clear ho hb
  go_wp2_with fail
  refine (raw_any base w1 g vB vM B R A1 l.length c1 w1.heap.size l (HW.out.below HB.out) rfl HR.out (by omega)).mono ?_
  rintro e w2 ⟨rfl, hp⟩
  have HPN := Lib.hid (Penned.then (Grew.all HB.out) (fun j h => .inl h) hp)
  clear hp
  go_wp2
  go_end0
  exact ⟨rfl, HPN.out⟩

end Go.Proofs.Ytjjmllbkfbdcnaa

namespace Go.Proofs.Ytjjmllbkfbdcnaa
open Go.RowKit

theorem keyR_ne {n r : List (List UInt8)} (hn : n.all fitL = true) (hr : r.all fitL = true) (h : n ≠ r) : keyR n ≠ keyR r := fun e => by
  unfold keyR at e
  injection e with e
  exact h (encN_inj hn hr e)
theorem SaysR.empty : SaysR (.map []) [] := ⟨Maps.isMap_empty, fun _ _ => ⟨rfl, rfl⟩⟩
theorem SaysR.same {D : DataW Unit} {R : Rs} {r : List (List UInt8)} {a : Nat} (k : Nat) (h : SaysR D R) (ha : findR R r = some a) : SaysR D (R ++ [(r, k)]) := by
  refine ⟨h.1, fun n hn => ?_⟩
  have e : findR (R ++ [(r, k)]) n = findR R n := by
    rw [findR_snoc]
    by_cases hrn : r = n
    · subst hrn; rw [ha]; rfl
    · rw [if_neg hrn]; cases findR R n <;> rfl
  rw [e]
  exact h.2 n hn
theorem SaysR.put {D : DataW Unit} {R : Rs} {r : List (List UInt8)} (k : Nat) (h : SaysR D R) (hr : r.all fitL = true) (hf : findR R r = none) : SaysR (D.put (keyR r) (.lit (.int .i64 (k : Int)))) (R ++ [(r, k)]) := by
  refine ⟨h.1.put _ _, fun n hn => ?_⟩
  rw [findR_snoc]
  by_cases hrn : r = n
  · subst hrn
    rw [hf, if_pos rfl, Maps.has_put_same h.1 (by simp [keyR, WideAt.IsKeyLit]), Maps.atKey_put_same h.1 (by simp [keyR, WideAt.IsKeyLit])]
    exact ⟨rfl, rfl⟩
  · have hk := keyR_ne hn hr (Ne.symm hrn)
    rw [if_neg hrn, Maps.has_put_other hk, Maps.atKey_put_other hk, Option.or_none]
    exact h.2 n hn

/-- The rests behind a note. -/
def noteR (B : List UInt8) (R : Rs) (r : List (List UInt8)) : Rs := if B.length < 16384 then R ++ [(r, B.length)] else R

theorem str_keyed : Maps.Keyed Try.prog 9 := Maps.string_keyed Try.underlying9
theorem int_zero (w : World) : (zeroValue 3).run Try.prog w = .ok (.int .i64 0) w := by kernel_rfl
theorem key_enc {r : List (List UInt8)} (h : (encN r).length ≤ maxLen) : keyOf Try.prog 9 (.string ⟨(encN r).toArray⟩) = some (keyR r) :=
  WideMaps.keyOf_string_mk Try.underlying9 (by simpa [ByteArray.size] using h)
theorem wf_nat {k : Nat} (h : k ≤ 9223372036854775807) : (Lit.int .i64 (k : Int)).wf = true := by
  have h1 : IntKind.i64.min = -9223372036854775808 := rfl
  have h2 : IntKind.i64.max = 9223372036854775807 := rfl
  simp only [Lit.wf, Bool.and_eq_true, decide_eq_true_eq]
  omega

theorem Wr.noted {w w1 : World} {base g b : Nat} {vB : Value} {B : List UInt8} {R0 R : Rs} {D : DataW Unit} (h : Wr w base g vB (.map (some b)) B R0) (hg : w.grownBy w1 (some b))
    (ho : w1.ownsMap Try.prog 9 (plainElem Try.prog 3) b R.length D) (hs : SaysR D R) : Wr w1 base g vB (.map (some b)) B R := by
  obtain ⟨_, h2, h3⟩ := h.apart
  refine ⟨h.blk.keep (hg.block g h.blk.lt (fun e => h2 (by rw [← e]))), h.low, own_keep h.row fun j hj => hg.block j (h.row.lt j hj).2 (fun e => h3 j hj (by rw [← e])), .inr ⟨b, D, rfl, (h.map.lt rfl).1, ho, hs⟩⟩
theorem Wr.made {w : World} {base g : Nat} {vB : Value} {B : List UInt8} (h : Wr w base g vB (.map none) B []) : Wr ((w.alloc (.map #[] 0)).setCell ⟨g, 1, none⟩ (.map (some w.heap.size))) base g vB (.map (some w.heap.size)) B [] := by
  have ha := h.alloc (.map #[] 0)
  refine ⟨ha.blk.set_ 1 _, h.low, own_set_far ha.row ha.apart.1 _, .inr ⟨_, .map [], rfl, h.size, ?_, SaysR.empty⟩⟩
  exact ownsMap_keep (World.ownsMap_made w Try.prog 9 (plainElem Try.prog 3)) (Below.heap_setCell _ ⟨g, 1, none⟩ _ _ (by have := h.blk.lt; simp; omega))

set_option maxHeartbeats 1000000 in
theorem note_nil_far (base : Nat) (w : World) (g : Nat) (vB : Value) (B : List UInt8) (r : List (List UInt8)) (h : Wr w base g vB (.map none) B []) (he : (encN r).length ≤ maxLen) (hB : 16384 ≤ B.length) :
    Calls Try.prog 46 #[.pointer (some ⟨g, 0, none⟩), .string ⟨(encN r).toArray⟩] w (Told w (.tuple #[])) := by
  have HL := Lib.hid (len_any base w g vB (.map none) B [] h)
  have h1 := h.c1
  have hrun := Maps.look_nil (w := w) true str_keyed Try.underlying73 (int_zero w) (key_enc he)
  have d1 : decide (16384 ≤ (B.length : Int)) = true := by simp; omega
  clear h
  go_enter Try.func46, Try.ntmps46
  go_wp2_with fail
  refine HL.out.mono ?_
  rintro e w' ⟨rfl, rfl⟩
  go_wp2
  go_end0
  exact ⟨rfl, rfl⟩

set_option maxHeartbeats 1000000 in
theorem note_nil_near (base : Nat) (w : World) (g : Nat) (vB : Value) (B : List UInt8) (r : List (List UInt8)) (h : Wr w base g vB (.map none) B []) (hr : r.all fitL = true) (he : (encN r).length ≤ maxLen) (hB : B.length < 16384) :
    Calls Try.prog 46 #[.pointer (some ⟨g, 0, none⟩), .string ⟨(encN r).toArray⟩] w (fun e w' => e = .returned (.tuple #[]) ∧ Penned base w g vB (.map none) B [(r, B.length)] w') := by
  have HL := Lib.hid (len_any base w g vB (.map none) B [] h)
  have h1 := h.c1
  have f1 := h.f1
  have hrun := Maps.look_nil (w := w) true str_keyed Try.underlying73 (int_zero w) (key_enc he)
  have hmm := @run_makeMap Try.prog
  have heq := fun W => run_eql_map_nil (P := Try.prog) W 73 9 3 none Try.underlying73
  have hkey := key_enc he
  have d1 : decide (16384 ≤ (B.length : Int)) = false := by simp; omega
  have hown := (World.ownsMap_made (H := Unit) w Try.prog 9 (plainElem Try.prog 3))
  have h2 := (h.alloc (.map #[] 0)).c1
  have f2 := (h.alloc (.map #[] 0)).f1
  have HW := Lib.hid h
  have HO := Lib.hid hown
  have HK := Lib.hid hkey
  clear h hkey hown
  go_enter Try.func46, Try.ntmps46
  go_wp2_with fail
  refine HL.out.mono ?_
  rintro e w' ⟨rfl, rfl⟩
  go_wp2_with (
    at_mapUpdate
    refine wpList_mapUpdate_own _ rfl _ _ _ 73 rfl 9 3 str_keyed Try.underlying73 _ w.heap.size 0 (.map []) rfl (ownsMap_keep HO.out (Below.heap_setCell _ ⟨g, 1, none⟩ _ _ (by have := HW.out.blk.lt; simp; omega))) (by unfold maxLen; omega) _ _ _ rfl rfl HK.out _ [] (plainElem_int Try.underlying3 (wf_nat (k := B.length) (by omega))) ?_
    intro w1 hown1 hgrow1)
  go_end0
  refine ⟨rfl, vB, .map (some w.heap.size), HW.out.made.noted hgrow1 hown1 (SaysR.empty.put B.length hr rfl), ?_, ?_⟩
  · exact (((Grew.refl _ w).alloc _).setCell (.inl (.inl rfl)) _).grown hgrow1 fun j hj => .inr (by injection hj with hj; omega)
  · intro j hj
    rcases hj with h | h | h
    · exact .inl (.inl h)
    · exact .inl (.inr (.inl h))
    · injection h with h
      injection h with h
      exact .inr (by omega)

/-- The Writer is as it was, or the map's block alone has turned. -/
theorem noted_penned {w w1 : World} {base g b : Nat} {vB : Value} {B : List UInt8} {R0 R : Rs} {D : DataW Unit} (h : Wr w base g vB (.map (some b)) B R0) (hg : w.grownBy w1 (some b))
    (ho : w1.ownsMap Try.prog 9 (plainElem Try.prog 3) b R.length D) (hs : SaysR D R) : Penned base w g vB (.map (some b)) B R w1 :=
  ⟨vB, .map (some b), h.noted hg ho hs, Grew.of_grown hg fun j hj => .inl (.inr (.inr (by rw [hj]))), fun j hj => .inl hj⟩

set_option maxHeartbeats 1000000 in
theorem note_known (base : Nat) (w : World) (g b : Nat) (vB : Value) (B : List UInt8) (R : Rs) (D : DataW Unit) (r : List (List UInt8)) (_ : Nat) (h : Wr w base g vB (.map (some b)) B R) (ho : w.ownsMap Try.prog 9 (plainElem Try.prog 3) b R.length D)
    (he : (encN r).length ≤ maxLen) (hh : Maps.has D (keyR r) = true) :
    Calls Try.prog 46 #[.pointer (some ⟨g, 0, none⟩), .string ⟨(encN r).toArray⟩] w (Told w (.tuple #[])) := by
  have HL := Lib.hid (len_any base w g vB (.map (some b)) B R h)
  have h1 := h.c1
  have HK := Lib.hid (key_enc he)
  have HO := Lib.hid ho
  have HH := Lib.hid hh
  clear h ho hh
  go_enter Try.func46, Try.ntmps46
  go_wp2_with fail
  refine HL.out.mono ?_
  rintro e w' ⟨rfl, rfl⟩
  go_wp2_with (
    at_lookup
    refine wpList_lookup_own_ok_int _ rfl _ _ 73 rfl 9 3 .i64 str_keyed Try.underlying73 Try.underlying3 (int_zero _) b _ D rfl HO.out _ _ rfl HK.out ?_
    intro c hat hwc
    rw [HH.out]
    clear hat hwc)
  go_end0
  exact ⟨rfl, rfl⟩

set_option maxHeartbeats 1000000 in
theorem note_far (base : Nat) (w : World) (g b : Nat) (vB : Value) (B : List UInt8) (R : Rs) (D : DataW Unit) (r : List (List UInt8)) (h : Wr w base g vB (.map (some b)) B R) (ho : w.ownsMap Try.prog 9 (plainElem Try.prog 3) b R.length D)
    (he : (encN r).length ≤ maxLen) (hh : Maps.has D (keyR r) = false) (hB : 16384 ≤ B.length) :
    Calls Try.prog 46 #[.pointer (some ⟨g, 0, none⟩), .string ⟨(encN r).toArray⟩] w (Told w (.tuple #[])) := by
  have HL := Lib.hid (len_any base w g vB (.map (some b)) B R h)
  have h1 := h.c1
  have HK := Lib.hid (key_enc he)
  have HO := Lib.hid ho
  have HH := Lib.hid hh
  have d1 : decide (16384 ≤ (B.length : Int)) = true := by simp; omega
  clear h ho hh
  go_enter Try.func46, Try.ntmps46
  go_wp2_with fail
  refine HL.out.mono ?_
  rintro e w' ⟨rfl, rfl⟩
  go_wp2_with (
    at_lookup
    refine wpList_lookup_own_ok_int _ rfl _ _ 73 rfl 9 3 .i64 str_keyed Try.underlying73 Try.underlying3 (int_zero _) b _ D rfl HO.out _ _ rfl HK.out ?_
    intro c hat hwc
    rw [HH.out]
    clear hat hwc)
  go_end0
  exact ⟨rfl, rfl⟩

set_option maxHeartbeats 1000000 in
theorem note_near (base : Nat) (w : World) (g b : Nat) (vB : Value) (B : List UInt8) (R : Rs) (D : DataW Unit) (r : List (List UInt8)) (h : Wr w base g vB (.map (some b)) B R) (ho : w.ownsMap Try.prog 9 (plainElem Try.prog 3) b R.length D) (hs : SaysR D R)
    (hr : r.all fitL = true) (he : (encN r).length ≤ maxLen) (hf : findR R r = none) (hB : B.length < 16384) (hR : R.length < 1000000) :
    Calls Try.prog 46 #[.pointer (some ⟨g, 0, none⟩), .string ⟨(encN r).toArray⟩] w (fun e w' => e = .returned (.tuple #[]) ∧ Penned base w g vB (.map (some b)) B (R ++ [(r, B.length)]) w') := by
  have HL := Lib.hid (len_any base w g vB (.map (some b)) B R h)
  have h1 := h.c1
  have HK := Lib.hid (key_enc he)
  have HO := Lib.hid ho
  have HH := Lib.hid (show Maps.has D (keyR r) = false by rw [(hs.2 r hr).1, hf]; rfl)
  have HS := Lib.hid (hs.put B.length hr hf)
  have HW := Lib.hid h
  have heq := fun W => run_eql_map_nil (P := Try.prog) W 73 9 3 (some b) Try.underlying73
  have d1 : decide (16384 ≤ (B.length : Int)) = false := by simp; omega
  clear h ho hs hf
  go_enter Try.func46, Try.ntmps46
  go_wp2_with fail
  refine HL.out.mono ?_
  rintro e w' ⟨rfl, rfl⟩
  go_wp2_with (first
    | (at_lookup
       refine wpList_lookup_own_ok_int _ rfl _ _ 73 rfl 9 3 .i64 str_keyed Try.underlying73 Try.underlying3 (int_zero _) b _ D rfl HO.out _ _ rfl HK.out ?_
       intro c hat hwc
       rw [HH.out]
       clear hat hwc)
    | (at_mapUpdate
       refine wpList_mapUpdate_own _ rfl _ _ _ 73 rfl 9 3 str_keyed Try.underlying73 _ b R.length D rfl HO.out (by unfold maxLen; omega) _ _ _ rfl rfl HK.out _ [] (plainElem_int Try.underlying3 (wf_nat (k := B.length) (by omega))) ?_
       intro w1 hown1 hgrow1))
  go_end0
  exact ⟨rfl, noted_penned HW.out hgrow1 (by simpa using hown1) HS.out⟩

theorem note_any (base : Nat) (w : World) (g : Nat) (vB vM : Value) (B : List UInt8) (R : Rs) (r : List (List UInt8)) (h : Wr w base g vB vM B R) (hr : r.all fitL = true) (he : (encN r).length ≤ maxLen) (hR : R.length < 1000000) :
    Calls Try.prog 46 #[.pointer (some ⟨g, 0, none⟩), .string ⟨(encN r).toArray⟩] w (fun e w' => e = .returned (.tuple #[]) ∧ Penned base w g vB vM B (noteR B R r) w') := by
  unfold noteR
  rcases h.map with ⟨rfl, rfl⟩ | ⟨b, D, rfl, hb, ho, hs⟩
  · by_cases hB : B.length < 16384
    · rw [if_pos hB]
      exact note_nil_near base w g vB B r h hr he hB
    · rw [if_neg hB]
      refine (note_nil_far base w g vB B r h he (by omega)).mono ?_
      rintro e w' ⟨rfl, rfl⟩
      exact ⟨rfl, Penned.refl h⟩
  · cases hf : findR R r with
    | some a =>
      have hh : Maps.has D (keyR r) = true := by rw [(hs.2 r hr).1, hf]; rfl
      refine (note_known base w g b vB B R D r a h ho he hh).mono ?_
      rintro e w' ⟨rfl, rfl⟩
      refine ⟨rfl, ?_⟩
      split
      · exact Penned.refl ⟨h.blk, h.low, h.row, .inr ⟨b, D, rfl, hb, ho.mono (by simp), hs.same B.length hf⟩⟩
      · exact Penned.refl h
    | none =>
      by_cases hB : B.length < 16384
      · rw [if_pos hB]
        exact note_near base w g b vB B R D r h ho hs hr he hf hB hR
      · rw [if_neg hB]
        refine (note_far base w g b vB B R D r h ho he (by rw [(hs.2 r hr).1, hf]; rfl) (by omega)).mono ?_
        rintro e w' ⟨rfl, rfl⟩
        exact ⟨rfl, Penned.refl h⟩

end Go.Proofs.Ytjjmllbkfbdcnaa

namespace Go.Proofs.Ytjjmllbkfbdcnaa
open Go.RowKit

theorem strCells_list (l : List UInt8) : Lib.strCells ⟨l.toArray⟩ = l.map bc := by
  simp only [Lib.strCells]
  rfl

def WholeRel (w : World) (n : List (List UInt8)) (v i : Value) (wr : World) : Prop :=
  ∃ k : Nat, k ≤ n.length ∧ i = .int .i64 k ∧ wr.ownsRow w.heap.size 5 1 v (encN (n.take k)).length ((encN (n.take k)).map bc) ∧ Below w.heap.size w wr ∧ w.heap.size ≤ wr.heap.size

theorem encN_take_succ {n : List (List UInt8)} {k : Nat} (h : k < n.length) : encN (n.take (k + 1)) = encN (n.take k) ++ (UInt8.ofNat (n[k]).length :: n[k]) := by
  rw [List.take_succ_eq_append_getElem h, encN_snoc]
theorem length_encN_take (n : List (List UInt8)) (k : Nat) : (encN (n.take k)).length < szN n := by
  have h1 := length_encN (n.take k)
  have h2 := szN_take_le n k
  omega

set_option maxHeartbeats 2000000 in
theorem whole_any (A : Option Addr) (m c H : Nat) (n : List (List UInt8)) (w : World) (hl : n.length = m) (hA : Row w H A (n.map sv)) (hH : H ≤ w.heap.size) (hf : n.all fitL = true) (hs : szN n ≤ 255) :
    Calls Try.prog 44 #[.slice A m c] w (Gave w (.string ⟨(encN n).toArray⟩)) := by
  subst hl
  obtain ⟨i0, hi0, hz0, hz1, hz2⟩ := info_parts u8_info
  have hnl := length_lt_szN n
  have HA := Lib.hid hA
  have HF := Lib.hid hf
  clear hA hf
  go_enter Try.func44, Try.ntmps44
  go_wp2
  go_loopw [3, 8] (WholeRel w n) (fun _ i _ => n.length - (intOf i).toNat)
  case atStart => exact ⟨0, Nat.zero_le _, rfl, World.ownsRow_nil _ _ _ _, Below.refl _ _, Nat.le_refl _⟩
  case round =>
    obtain ⟨k, hk, rfl, hown, hbw, hz⟩ := hrel
    obtain ⟨A1, c1, rfl, _, _⟩ := own_form hown
    have htl := length_encN_take n k
    by_cases hlt : k < n.length
    · obtain ⟨b, off, rfl, hb, hc⟩ := (HA.out.mono hH |>.below hbw).name_at hlt
      obtain ⟨l, hl⟩ : ∃ l, n[k] = l := ⟨_, rfl⟩
      have hfl : 1 ≤ l.length ∧ l.length ≤ 63 := by
        have h := List.all_eq_true.1 HF.out _ (List.getElem_mem hlt)
        rw [hl] at h
        exact fitL_iff.1 h
      have hen := encN_take_succ hlt
      rw [hl] at hc hen
      obtain ⟨e, he⟩ : ∃ e, e = encN (n.take k) := ⟨_, rfl⟩
      rw [← he] at hown hen htl ⊢
      obtain ⟨hf1, hf2⟩ := hfl
      have hwr : IntKind.u8.wrap (l.length : Int) = (l.length : Int) := by rw [IntKind.wrap_u8]; omega
      have HE := Lib.hid hen
      have HO := Lib.hid hown
      have HB := Lib.hid hbw
      have HR1 := Lib.hid (Row.made wr #[.int .u8 (l.length : Int)] 5)
      have HBC := Lib.hid (show bc (UInt8.ofNat l.length) = .int .u8 (l.length : Int) by unfold bc; rw [UInt8.toNat_ofNat', Nat.mod_eq_of_lt (by omega)])
      clear hown hbw hen he hl
      go_wp2_with (first
        | (at_builtin
           refine wpList_append_row rfl (.tmp 12) (.tmp 16) _ rfl w.heap.size 5 i0 _ 1 1 Try.underlying22 hi0 hz0 hz1 hz2 rfl (by omega) (.slice A1 e.length c1) e.length _ rfl (HO.out.alloc _)
             (some ⟨wr.heap.size, 0, none⟩) 1 1 (wr.heap.size + 1) [.int .u8 (l.length : Int)] rfl rfl HR1.out (by simp [Value.oneCell']) (by unfold maxLen; omega) (by omega) (by simp; omega) ?_
           intro v2 w2 hown2 hg2
           obtain ⟨A2, c2, rfl, _, _⟩ := own_form hown2
           have HO2 := Lib.hid hown2
           have hz2' : w.heap.size ≤ w2.heap.size := by have := hg2.size; simp at this; omega
           have HB2 := Lib.hid (own_below (HB.out.alloc hz (.cells #[.int .u8 (l.length : Int)] 5)) (Nat.le_refl _) (by simp; omega) (HO.out.alloc _) hg2)
           clear hown2 hg2)
        | (at_builtin
           refine Lib.wpList_append_own_string _ rfl (.tmp 18) (.tmp 19) _ _ rfl w.heap.size 5 i0 Try.underlying22 Try.underlying9 hi0 hz0 hz1 hz2 (.slice A2 (e.length + 1) c2) (e.length + 1) _ rfl HO2.out ⟨l.toArray⟩ rfl
             (by simp [ByteArray.size]; unfold maxLen; omega) (by simp [ByteArray.size]; omega) hz2' ?_
           intro v3 w3 hown3 hg3 _
           rw [strCells_list] at hown3
           have HO3 := Lib.hid hown3
           have HB3 := Lib.hid (own_below HB2.out (Nat.le_refl _) hz2' HO2.out hg3)
           have hz3 : w.heap.size ≤ w3.heap.size := Nat.le_trans hz2' hg3.size
           clear hown3 hg3))
      refine ⟨⟨k + 1, by omega, by go_num, ?_, HB3.out, hz3⟩, by simp [intOf]; omega⟩
      rw [HE.out]
      have h := HO3.out
      rw [← HBC.out] at h
      simpa [ByteArray.size, Nat.add_assoc, Nat.add_comm 1] using h
    · obtain rfl : k = n.length := by omega
      rw [List.take_length] at *
      have hcv := convert_row_run (P := Try.prog) wr 22 9 5 Try.underlying22 Try.underlying5 Try.underlying9 A1 (encN n).length c1 wr.heap.size (encN n) rfl (Row.of_own hown)
      have HB := Lib.hid hbw
      clear hown hbw
      go_wp2
      go_ret
      exact ⟨rfl, HB.out⟩

end Go.Proofs.Ytjjmllbkfbdcnaa

namespace Go.Proofs.Ytjjmllbkfbdcnaa
open Go.RowKit

def SizeRel (n : List (List UInt8)) (s i : Value) : Prop := ∃ k : Nat, k ≤ n.length ∧ i = .int .i64 k ∧ s = .int .i64 (szN (n.take k))

set_option maxHeartbeats 400000 in
theorem size_any (A : Option Addr) (m c H : Nat) (n : List (List UInt8)) (w : World) (hl : n.length = m) (hA : Row w H A (n.map sv)) (hs : szN n ≤ maxLen) :
    Calls Try.prog 81 #[.slice A m c] w (Told w (.int .i64 (szN n))) := by
  subst hl
  unfold maxLen at hs
  have hlen := length_lt_szN n
  have HA := Lib.hid hA
  clear hA
  go_enter Try.func81, Try.ntmps81
  go_wp2
  go_loop [3, 8] (SizeRel n) (fun _ i => n.length - (intOf i).toNat)
  case atStart => exact ⟨0, Nat.zero_le _, rfl, by simp [szN]⟩
  case round =>
    obtain ⟨k, hk, rfl, rfl⟩ := hrel
    by_cases hlt : k < n.length
    · obtain ⟨b, off, rfl, _, hc⟩ := HA.out.name_at hlt
      have HS := Lib.hid (szN_take_succ hlt)
      have hle := szN_take_le n (k + 1)
      rw [HS.out] at hle
      go_wp2
      refine ⟨⟨k + 1, by omega, by go_num, ?_⟩, by simp [intOf]; omega⟩
      rw [HS.out]
      go_num
    · obtain rfl : k = n.length := by omega
      rw [List.take_length]
      go_wp2
      go_ret
      exact ⟨rfl, rfl⟩

set_option maxHeartbeats 400000 in
theorem ref_size_any (A : Option Addr) (m c H : Nat) (n : List (List UInt8)) (w : World) (hl : n.length = m) (hA : Row w H A (n.map sv)) (hs : szN n ≤ maxLen) :
    Calls Try.prog 42 #[.slice A m c] w (Told w (.int .i64 (szN n))) := by
  subst hl
  unfold maxLen at hs
  have hlen := length_lt_szN n
  have HA := Lib.hid hA
  clear hA
  go_enter Try.func42, Try.ntmps42
  go_wp2
  go_loop [3, 4] (SizeRel n) (fun _ i => n.length - (intOf i).toNat)
  case atStart => exact ⟨0, Nat.zero_le _, rfl, by simp [szN]⟩
  case round =>
    obtain ⟨k, hk, rfl, rfl⟩ := hrel
    by_cases hlt : k < n.length
    · obtain ⟨b, off, rfl, _, hc⟩ := HA.out.name_at hlt
      have HS := Lib.hid (szN_take_succ hlt)
      have hle := szN_take_le n (k + 1)
      rw [HS.out] at hle
      go_wp2
      refine ⟨⟨k + 1, by omega, by go_num, ?_⟩, by simp [intOf]; omega⟩
      rw [HS.out]
      go_num
    · obtain rfl : k = n.length := by omega
      rw [List.take_length]
      go_wp2
      go_ret
      exact ⟨rfl, rfl⟩

end Go.Proofs.Ytjjmllbkfbdcnaa
