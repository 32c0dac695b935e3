/-
  The contracts of name.Equal and name.Under.
-/
import Derived.Test.YtjjmllbkfbdcnaaLabel
namespace Go.Proofs.Ytjjmllbkfbdcnaa
open Go.RowKit

set_option maxHeartbeats 400000 in
theorem sameLabel_yes (a b : List UInt8) (w : World) (ha : a.length ≤ maxLen) (hb : b.length ≤ maxLen) (he : lowL a = lowL b) :
    Calls Try.prog 88 #[.string ⟨a.toArray⟩, .string ⟨b.toArray⟩] w (Gave w (.bool true)) := by
  have hc := byLabel_any a b w ha hb
  rw [show cmpB (lowL a) (lowL b) = 0 by rw [he]; exact cmpB_tot.same _] at hc
  have HC := Lib.hid hc
  clear hc he
  go_enter Try.func88, Try.ntmps88
  go_wp2_with fail
  refine HC.out.mono ?_
  rintro e w1 ⟨rfl, hb1⟩
  have HB1 := Lib.hid hb1
  clear hb1
  go_wp2
  go_ret
  exact ⟨rfl, HB1.out⟩

set_option maxHeartbeats 400000 in
theorem sameLabel_no (a b : List UInt8) (w : World) (ha : a.length ≤ maxLen) (hb : b.length ≤ maxLen) (he : lowL a ≠ lowL b) :
    Calls Try.prog 88 #[.string ⟨a.toArray⟩, .string ⟨b.toArray⟩] w (Gave w (.bool false)) := by
  have hc := byLabel_any a b w ha hb
  have hr : (cmpB (lowL a) (lowL b) == 0) = false := by rw [beq_eq_false_iff_ne]; exact fun h => he (cmpB_tot.eq_ _ _ h)
  generalize cmpB (lowL a) (lowL b) = r at hc hr
  have HC := Lib.hid hc
  clear hc he
  go_enter Try.func88, Try.ntmps88
  go_wp2_with fail
  refine HC.out.mono ?_
  rintro e w1 ⟨rfl, hb1⟩
  have HB1 := Lib.hid hb1
  clear hb1
  go_wp2
  go_ret
  exact ⟨rfl, HB1.out⟩

def EqRel (w : World) (a b : List (List UInt8)) (i : Value) (wr : World) : Prop :=
  ∃ k : Nat, k ≤ a.length ∧ i = .int .i64 k ∧ (lowN a).take k = (lowN b).take k ∧ Below w.heap.size w wr

theorem low_snoc {a b : List (List UInt8)} {k : Nat} (h : (lowN a).take k = (lowN b).take k) (ha : k < a.length) (hb : k < b.length) (e : lowL a[k] = lowL b[k]) : (lowN a).take (k + 1) = (lowN b).take (k + 1) := by
  rw [List.take_succ_eq_append_getElem (by rw [length_lowN]; exact ha), List.take_succ_eq_append_getElem (by rw [length_lowN]; exact hb), h]
  congr 2
  simpa [lowN] using e
theorem low_part {a b : List (List UInt8)} {k : Nat} (ha : k < a.length) (hb : k < b.length) (e : lowL a[k] ≠ lowL b[k]) : eqN a b = false := by
  unfold eqN
  rw [decide_eq_false_iff_not]
  intro h
  apply e
  have h2 : (lowN a)[k]? = (lowN b)[k]? := by rw [h]
  simpa [lowN, ha, hb] using h2
theorem low_end {a b : List (List UInt8)} (h : (lowN a).take a.length = (lowN b).take a.length) (hl : a.length = b.length) : eqN a b = true := by
  unfold eqN
  rw [decide_eq_true_eq]
  rwa [List.take_of_length_le (by rw [length_lowN]; omega), List.take_of_length_le (by rw [length_lowN]; omega)] at h
theorem eqN_len {a b : List (List UInt8)} (h : a.length ≠ b.length) : eqN a b = false := by
  unfold eqN
  rw [decide_eq_false_iff_not]
  intro e
  apply h
  have := congrArg List.length e
  rwa [length_lowN, length_lowN] at this

/-- No number or length in the name is too large for any memory. -/
def WideN (n : List (List UInt8)) : Prop := n.length ≤ maxLen ∧ ∀ k (h : k < n.length), (n[k]).length ≤ maxLen
theorem wide_sz {n : List (List UInt8)} (h : szN n ≤ maxLen) : WideN n :=
  ⟨by have := length_lt_szN n; omega, fun k hk => by have := len_le_szN hk; omega⟩

set_option maxHeartbeats 400000 in
theorem equalFunc_ne (A B : Option Addr) (c1 c2 : Nat) (a b : List (List UInt8)) (w : World) (hl : a.length ≠ b.length) :
    Calls Try.prog 87 #[.slice A a.length c1, .slice B b.length c2, .func (.func 88) #[] #[]] w (Gave w (.bool (eqN a b))) := by
  have h1 : ((a.length : Int) != (b.length : Int)) = true := by rw [bne_iff_ne]; omega
  rw [eqN_len hl]
  clear hl
  go_enter Try.func87, Try.ntmps87
  go_wp2
  go_ret
  exact ⟨rfl, Below.refl _ _⟩

set_option maxHeartbeats 1000000 in
theorem equalFunc_len (A B : Option Addr) (c1 c2 : Nat) (a b : List (List UInt8)) (w : World) (hA : Row w w.heap.size A (a.map sv)) (hB : Row w w.heap.size B (b.map sv))
    (hs1 : WideN a) (hs2 : WideN b) (hl : a.length = b.length) :
    Calls Try.prog 87 #[.slice A a.length c1, .slice B b.length c2, .func (.func 88) #[] #[]] w (Gave w (.bool (eqN a b))) := by
  have hn1 := hs1.1
  have hn2 := hs2.1
  have HS1 := Lib.hid hs1.2
  have HS2 := Lib.hid hs2.2
  unfold maxLen at hn1 hn2
  clear hs1 hs2
  have HA := Lib.hid hA
  have HB := Lib.hid hB
  have h1 : ((a.length : Int) != (b.length : Int)) = false := by rw [hl]; simp
  have HL := Lib.hid hl
  clear hA hB hl
  go_enter Try.func87, Try.ntmps87
  go_wp2
  go_loopw [17] (EqRel w a b) (fun i _ => a.length - (intOf i).toNat)
  case atStart => exact ⟨0, Nat.zero_le _, rfl, rfl, Below.refl _ _⟩
  case round =>
    obtain ⟨k, hk, rfl, hkt, hbw⟩ := hrel
    have hz := hbw.size
    have HKT := Lib.hid hkt
    have HBW := Lib.hid hbw
    have HA1 := Lib.hid (HA.out.below hbw)
    have HB1 := Lib.hid (HB.out.below hbw)
    clear hkt hbw
    by_cases hlt : k < a.length
    · have hkb : k < b.length := by have := HL.out; omega
      obtain ⟨ba, oa, rfl, _, hca⟩ := HA1.out.name_at hlt
      obtain ⟨bb, ob, rfl, _, hcb⟩ := HB1.out.name_at hkb
      have hla := HS1.out k hlt
      have hlb := HS2.out k hkb
      by_cases he : lowL a[k] = lowL b[k]
      · have HC := Lib.hid (fun w' => sameLabel_yes a[k] b[k] w' hla hlb he)
        have HK := Lib.hid (low_snoc HKT.out hlt hkb he)
        clear he
        go_wp2_with fail
        refine (HC.out _).mono ?_
        rintro e w1 ⟨rfl, hb1⟩
        have HB2 := Lib.hid hb1
        clear hb1
        go_wp2
        exact ⟨⟨k + 1, by omega, by go_num, HK.out, HBW.out.trans (HB2.out.mono hz)⟩, by simp [intOf]; omega⟩
      · have HC := Lib.hid (fun w' => sameLabel_no a[k] b[k] w' hla hlb he)
        have HK := Lib.hid (low_part hlt hkb he)
        clear he
        go_wp2_with fail
        refine (HC.out _).mono ?_
        rintro e w1 ⟨rfl, hb1⟩
        have HB2 := Lib.hid hb1
        clear hb1
        go_wp2
        go_ret
        exact ⟨ret_bool HK.out.symm, HBW.out.trans (HB2.out.mono hz)⟩
    · obtain rfl : k = a.length := by omega
      have HK := Lib.hid (low_end HKT.out HL.out)
      go_wp2
      go_ret
      exact ⟨ret_bool HK.out.symm, HBW.out⟩

set_option maxHeartbeats 400000 in
theorem equal_wide (A B : Option Addr) (m1 m2 c1 c2 H : Nat) (a b : List (List UInt8)) (w : World) (hl1 : a.length = m1) (hl2 : b.length = m2) (hA : Row w H A (a.map sv)) (hB : Row w H B (b.map sv)) (hH : H ≤ w.heap.size)
    (hs1 : WideN a) (hs2 : WideN b) :
    Calls Try.prog 66 #[.slice A m1 c1, .slice B m2 c2] w (Gave w (.bool (eqN a b))) := by
  subst hl1
  subst hl2
  have hf : Calls Try.prog 87 #[.slice A a.length c1, .slice B b.length c2, .func (.func 88) #[] #[]] w (Gave w (.bool (eqN a b))) := by
    by_cases hl : a.length = b.length
    · exact equalFunc_len A B c1 c2 a b w (hA.mono hH) (hB.mono hH) hs1 hs2 hl
    · exact equalFunc_ne A B c1 c2 a b w hl
  have HC := Lib.hid hf
  clear hA hB hf
  go_enter Try.func66, Try.ntmps66
  go_wp2_with fail
  refine HC.out.mono ?_
  rintro e w1 ⟨rfl, hb1⟩
  have HB1 := Lib.hid hb1
  clear hb1
  go_wp2
  go_ret
  exact ⟨rfl, HB1.out⟩

theorem equal_any (A B : Option Addr) (m1 m2 c1 c2 H : Nat) (a b : List (List UInt8)) (w : World) (hl1 : a.length = m1) (hl2 : b.length = m2) (hA : Row w H A (a.map sv)) (hB : Row w H B (b.map sv)) (hH : H ≤ w.heap.size)
    (hs1 : szN a ≤ maxLen) (hs2 : szN b ≤ maxLen) :
    Calls Try.prog 66 #[.slice A m1 c1, .slice B m2 c2] w (Gave w (.bool (eqN a b))) :=
  equal_wide A B m1 m2 c1 c2 H a b w hl1 hl2 hA hB hH (wide_sz hs1) (wide_sz hs2)

end Go.Proofs.Ytjjmllbkfbdcnaa
