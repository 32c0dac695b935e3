/-
  The contracts of name.Equal and name.Under.
-/
import Derived.Test.YtiegneopolffoaaCmp
namespace Go.Proofs.Ytiegneopolffoaa
open Go.RowKit

set_option maxHeartbeats 400000 in
theorem sameLabel_yes (a b : List UInt8) (w : World) (ha : a.length ≤ maxLen) (hb : b.length ≤ maxLen) (he : lowL a = lowL b) :
    Calls Try.prog 42 #[.string ⟨a.toArray⟩, .string ⟨b.toArray⟩] w (Gave w (.bool true)) := by
  have hc := byLabel_any a b w ha hb
  rw [show cmpB (lowL a) (lowL b) = 0 by rw [he]; exact cmpB_tot.same _] at hc
  have HC := Lib.hid hc
  clear hc he
  go_enter Try.func42, Try.ntmps42
  go_wp2_with fail
  refine HC.out.mono ?_
  rintro e w1 ⟨rfl, hb1⟩
  have HB1 := Lib.hid hb1
  clear hb1
  go_wp2
  go_ret
  exact ⟨rfl, HB1.out⟩

set_option maxHeartbeats 400000 in
theorem sameLabel_no (a b : List UInt8) (w : World) (ha : a.length ≤ maxLen) (hb : b.length ≤ maxLen) (he : lowL a ≠ lowL b) :
    Calls Try.prog 42 #[.string ⟨a.toArray⟩, .string ⟨b.toArray⟩] w (Gave w (.bool false)) := by
  have hc := byLabel_any a b w ha hb
  have hr : (cmpB (lowL a) (lowL b) == 0) = false := by rw [beq_eq_false_iff_ne]; exact fun h => he (cmpB_tot.eq_ _ _ h)
  generalize cmpB (lowL a) (lowL b) = r at hc hr
  have HC := Lib.hid hc
  clear hc he
  go_enter Try.func42, Try.ntmps42
  go_wp2_with fail
  refine HC.out.mono ?_
  rintro e w1 ⟨rfl, hb1⟩
  have HB1 := Lib.hid hb1
  clear hb1
  go_wp2
  go_ret
  exact ⟨rfl, HB1.out⟩

def EqRel (w : World) (a b : List (List UInt8)) (i : Value) (wr : World) : Prop :=
  ∃ k : Nat, k ≤ a.length ∧ i = .int .i64 k ∧ (lowN a).take k = (lowN b).take k ∧ Below w.heap.size w wr

theorem low_snoc {a b : List (List UInt8)} {k : Nat} (h : (lowN a).take k = (lowN b).take k) (ha : k < a.length) (hb : k < b.length) (e : lowL a[k] = lowL b[k]) : (lowN a).take (k + 1) = (lowN b).take (k + 1) := by
  rw [List.take_succ_eq_append_getElem (by rw [length_lowN]; exact ha), List.take_succ_eq_append_getElem (by rw [length_lowN]; exact hb), h]
  congr 2
  simpa [lowN] using e
theorem low_part {a b : List (List UInt8)} {k : Nat} (ha : k < a.length) (hb : k < b.length) (e : lowL a[k] ≠ lowL b[k]) : eqN a b = false := by
  unfold eqN
  rw [decide_eq_false_iff_not]
  intro h
  apply e
  have h2 : (lowN a)[k]? = (lowN b)[k]? := by rw [h]
  simpa [lowN, ha, hb] using h2
theorem low_end {a b : List (List UInt8)} (h : (lowN a).take a.length = (lowN b).take a.length) (hl : a.length = b.length) : eqN a b = true := by
  unfold eqN
  rw [decide_eq_true_eq]
  rwa [List.take_of_length_le (by rw [length_lowN]; omega), List.take_of_length_le (by rw [length_lowN]; omega)] at h
theorem eqN_len {a b : List (List UInt8)} (h : a.length ≠ b.length) : eqN a b = false := by
  unfold eqN
  rw [decide_eq_false_iff_not]
  intro e
  apply h
  have := congrArg List.length e
  rwa [length_lowN, length_lowN] at this

set_option maxHeartbeats 400000 in
theorem equalFunc_ne (A B : Option Addr) (c1 c2 : Nat) (a b : List (List UInt8)) (w : World) (hl : a.length ≠ b.length) :
    Calls Try.prog 41 #[.slice A a.length c1, .slice B b.length c2, .func (.func 42) #[] #[]] w (Gave w (.bool (eqN a b))) := by
  have h1 : ((a.length : Int) != (b.length : Int)) = true := by rw [bne_iff_ne]; omega
  rw [eqN_len hl]
  clear hl
  go_enter Try.func41, Try.ntmps41
  go_wp2
  go_ret
  exact ⟨rfl, Below.refl _ _⟩

set_option maxHeartbeats 1000000 in
theorem equalFunc_len (A B : Option Addr) (c1 c2 : Nat) (a b : List (List UInt8)) (w : World) (hA : Row w w.heap.size A (a.map sv)) (hB : Row w w.heap.size B (b.map sv))
    (hs1 : szN a ≤ maxLen) (hs2 : szN b ≤ maxLen) (hl : a.length = b.length) :
    Calls Try.prog 41 #[.slice A a.length c1, .slice B b.length c2, .func (.func 42) #[] #[]] w (Gave w (.bool (eqN a b))) := by
  unfold maxLen at hs1 hs2
  have hn1 := length_lt_szN a
  have hn2 := length_lt_szN b
  have HA := Lib.hid hA
  have HB := Lib.hid hB
  have h1 : ((a.length : Int) != (b.length : Int)) = false := by rw [hl]; simp
  have HL := Lib.hid hl
  clear hA hB hl
  go_enter Try.func41, Try.ntmps41
  go_wp2
  go_loopw [17] (EqRel w a b) (fun i _ => a.length - (intOf i).toNat)
  case atStart => exact ⟨0, Nat.zero_le _, rfl, rfl, Below.refl _ _⟩
  case round =>
    obtain ⟨k, hk, rfl, hkt, hbw⟩ := hrel
    have hz := hbw.size
    have HKT := Lib.hid hkt
    have HBW := Lib.hid hbw
    have HA1 := Lib.hid (HA.out.below hbw)
    have HB1 := Lib.hid (HB.out.below hbw)
    clear hkt hbw
    by_cases hlt : k < a.length
    · have hkb : k < b.length := by have := HL.out; omega
      obtain ⟨ba, oa, rfl, _, hca⟩ := HA1.out.name_at hlt
      obtain ⟨bb, ob, rfl, _, hcb⟩ := HB1.out.name_at hkb
      have hla := len_le_szN hlt
      have hlb := len_le_szN hkb
      by_cases he : lowL a[k] = lowL b[k]
      · have HC := Lib.hid (fun w' => sameLabel_yes a[k] b[k] w' (by unfold maxLen; omega) (by unfold maxLen; omega) he)
        have HK := Lib.hid (low_snoc HKT.out hlt hkb he)
        clear he
        go_wp2_with fail
        refine (HC.out _).mono ?_
        rintro e w1 ⟨rfl, hb1⟩
        have HB2 := Lib.hid hb1
        clear hb1
        go_wp2
        exact ⟨⟨k + 1, by omega, by go_num, HK.out, HBW.out.trans (HB2.out.mono hz)⟩, by simp [intOf]; omega⟩
      · have HC := Lib.hid (fun w' => sameLabel_no a[k] b[k] w' (by unfold maxLen; omega) (by unfold maxLen; omega) he)
        have HK := Lib.hid (low_part hlt hkb he)
        clear he
        go_wp2_with fail
        refine (HC.out _).mono ?_
        rintro e w1 ⟨rfl, hb1⟩
        have HB2 := Lib.hid hb1
        clear hb1
        go_wp2
        go_ret
        exact ⟨ret_bool HK.out.symm, HBW.out.trans (HB2.out.mono hz)⟩
    · obtain rfl : k = a.length := by omega
      have HK := Lib.hid (low_end HKT.out HL.out)
      go_wp2
      go_ret
      exact ⟨ret_bool HK.out.symm, HBW.out⟩

set_option maxHeartbeats 400000 in
theorem equal_any (A B : Option Addr) (m1 m2 c1 c2 H : Nat) (a b : List (List UInt8)) (w : World) (hl1 : a.length = m1) (hl2 : b.length = m2) (hA : Row w H A (a.map sv)) (hB : Row w H B (b.map sv)) (hH : H ≤ w.heap.size)
    (hs1 : szN a ≤ maxLen) (hs2 : szN b ≤ maxLen) :
    Calls Try.prog 24 #[.slice A m1 c1, .slice B m2 c2] w (Gave w (.bool (eqN a b))) := by
  subst hl1
  subst hl2
  have hf : Calls Try.prog 41 #[.slice A a.length c1, .slice B b.length c2, .func (.func 42) #[] #[]] w (Gave w (.bool (eqN a b))) := by
    by_cases hl : a.length = b.length
    · exact equalFunc_len A B c1 c2 a b w (hA.mono hH) (hB.mono hH) hs1 hs2 hl
    · exact equalFunc_ne A B c1 c2 a b w hl
  have HC := Lib.hid hf
  clear hA hB hf
  go_enter Try.func24, Try.ntmps24
  go_wp2_with fail
  refine HC.out.mono ?_
  rintro e w1 ⟨rfl, hb1⟩
  have HB1 := Lib.hid hb1
  clear hb1
  go_wp2
  go_ret
  exact ⟨rfl, HB1.out⟩

theorem szN_drop_le (n : List (List UInt8)) (k : Nat) : szN (n.drop k) ≤ szN n := by
  induction n generalizing k with
  | nil => simp
  | cons x n ih =>
    cases k with
    | zero => simp
    | succ k => simp only [List.drop_succ_cons, szN]; have := ih k; omega

set_option maxHeartbeats 400000 in
theorem under_short (A B : Option Addr) (c1 c2 : Nat) (n z : List (List UInt8)) (w : World) (hl : n.length < z.length) :
    Calls Try.prog 26 #[.slice A n.length c1, .slice B z.length c2] w (Gave w (.bool (underN n z))) := by
  have HF := Lib.hid (show underN n z = false by unfold underN; rw [decide_eq_false (by omega)]; rfl)
  have d1 : decide (z.length ≤ n.length) = false := by simp; omega
  go_enter Try.func26, Try.ntmps26
  go_wp2
  go_ret
  exact ⟨ret_bool HF.out.symm, Below.refl _ _⟩

set_option maxHeartbeats 400000 in
theorem under_long (A B : Option Addr) (c1 c2 : Nat) (n z : List (List UInt8)) (w : World) (hA : Row w w.heap.size A (n.map sv)) (hB : Row w w.heap.size B (z.map sv)) (hs1 : szN n ≤ maxLen) (hs2 : szN z ≤ maxLen) (hl : z.length ≤ n.length) (hc : n.length ≤ c1) (hz : 0 < z.length) :
    Calls Try.prog 26 #[.slice A n.length c1, .slice B z.length c2] w (Gave w (.bool (underN n z))) := by
  have HF := Lib.hid (show underN n z = eqN (n.drop (n.length - z.length)) z by unfold underN; rw [decide_eq_true hl]; rfl)
  have hn1 := length_lt_szN n
  have hn2 := length_lt_szN z
  have d1 : decide (z.length ≤ n.length) = true := by simp; omega
  obtain ⟨b, off, rfl, _, _⟩ := hA.some_ (by rw [List.length_map]; omega)
  have hd := hA.drop (k := n.length - z.length) rfl
  rw [← List.map_drop] at hd
  have HD := Lib.hid hd
  have HB := Lib.hid hB
  have hsd : szN (n.drop (n.length - z.length)) ≤ maxLen := Nat.le_trans (szN_drop_le _ _) hs1
  unfold maxLen at hs1
  clear hA hB hd
  go_enter Try.func26, Try.ntmps26
  go_wp2_with fail
  refine (equal_any _ _ _ _ _ _ _ _ _ _ (by rw [List.length_drop]) rfl HD.out HB.out (Nat.le_refl _) hsd hs2).mono ?_
  rintro e w1 ⟨rfl, hb1⟩
  have HB1 := Lib.hid hb1
  clear hb1
  go_wp2
  go_ret
  exact ⟨ret_bool HF.out.symm, HB1.out⟩

set_option maxHeartbeats 400000 in
theorem under_root (A B : Option Addr) (c1 c2 : Nat) (n : List (List UInt8)) (w : World) (hA : Row w w.heap.size A (n.map sv)) (hs1 : szN n ≤ maxLen) (hc : n.length ≤ c1) :
    Calls Try.prog 26 #[.slice A n.length c1, .slice B 0 c2] w (Gave w (.bool (underN n []))) := by
  have HF := Lib.hid (show underN n [] = eqN [] [] by simp [underN, eqN, lowN])
  have hn1 := length_lt_szN n
  have HC := Lib.hid (fun A' B' m1 c1' c2' w' (h : 0 = m1) => equal_any A' B' m1 0 c1' c2' 0 [] [] w' h rfl (Row.empty _ _ _) (Row.empty _ _ _) (Nat.zero_le _) (by simp [szN, maxLen]) (by simp [szN, maxLen]))
  generalize eqN [] [] = r at HC HF
  unfold maxLen at hs1
  by_cases hn : n = []
  · subst hn
    clear hA
    go_enter Try.func26, Try.ntmps26
    go_wp2_with fail
    all_goals
      refine (HC.out _ _ _ _ _ _ (by simp)).mono ?_
      rintro e w1 ⟨rfl, hb1⟩
      have HB1 := Lib.hid hb1
      clear hb1
      go_wp2
      go_ret
      exact ⟨ret_bool HF.out.symm, HB1.out⟩
  · have hnl : 0 < n.length := by
      rcases n with _ | ⟨x, n⟩
      · exact absurd rfl hn
      · simp
    obtain ⟨b, off, rfl, _, _⟩ := hA.some_ (by rw [List.length_map]; exact hnl)
    clear hA hn
    by_cases hcc : c1 = n.length
    · subst hcc
      go_enter Try.func26, Try.ntmps26
      go_wp2_with fail
      refine (HC.out _ _ _ _ _ _ (by omega)).mono ?_
      rintro e w1 ⟨rfl, hb1⟩
      have HB1 := Lib.hid hb1
      clear hb1
      go_wp2
      go_ret
      exact ⟨ret_bool HF.out.symm, HB1.out⟩
    · have hlt : n.length < c1 := by omega
      clear hcc
      go_enter Try.func26, Try.ntmps26
      go_wp2_with fail
      refine (HC.out _ _ _ _ _ _ (by omega)).mono ?_
      rintro e w1 ⟨rfl, hb1⟩
      have HB1 := Lib.hid hb1
      clear hb1
      go_wp2
      go_ret
      exact ⟨ret_bool HF.out.symm, HB1.out⟩

theorem under_any (A B : Option Addr) (m1 m2 c1 c2 H : Nat) (n z : List (List UInt8)) (w : World) (hl1 : n.length = m1) (hl2 : z.length = m2) (hA : Row w H A (n.map sv)) (hB : Row w H B (z.map sv)) (hH : H ≤ w.heap.size)
    (hs1 : szN n ≤ maxLen) (hs2 : szN z ≤ maxLen) (hc : m1 ≤ c1) :
    Calls Try.prog 26 #[.slice A m1 c1, .slice B m2 c2] w (Gave w (.bool (underN n z))) := by
  subst hl1
  subst hl2
  by_cases hl : z.length ≤ n.length
  · by_cases hz : z = []
    · subst hz
      exact under_root A B c1 c2 n w (hA.mono hH) hs1 hc
    · exact under_long A B c1 c2 n z w (hA.mono hH) (hB.mono hH) hs1 hs2 hl hc (by
        rcases z with _ | ⟨x, z⟩
        · exact absurd rfl hz
        · simp)
  · exact under_short A B c1 c2 n z w (by omega)

end Go.Proofs.Ytiegneopolffoaa
