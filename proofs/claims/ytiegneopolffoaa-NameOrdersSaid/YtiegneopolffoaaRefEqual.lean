/-
  The contracts of the document's Equal, Under and Cmp.
-/
import Derived.Test.YtiegneopolffoaaEqual
import Derived.Deep.RegionHeld3
namespace Go.Proofs.Ytiegneopolffoaa
open Go.RowKit

set_option maxHeartbeats 400000 in
theorem ref_equal_ne (A B : Option Addr) (c1 c2 : Nat) (a b : List (List UInt8)) (w : World) (hl : a.length ≠ b.length) :
    Calls Try.prog 25 #[.slice A a.length c1, .slice B b.length c2] w (Gave w (.bool (eqN a b))) := by
  have h1 : ((a.length : Int) != (b.length : Int)) = true := by rw [bne_iff_ne]; omega
  rw [eqN_len hl]
  clear hl
  go_enter Try.func25, Try.ntmps25
  go_wp2
  go_ret
  exact ⟨rfl, Below.refl _ _⟩

theorem below_draws {B : Nat} {w0 w1 w2 : World} (h1 : Below B w0 w1) (hz : B ≤ w1.heap.size) {k : Nat} (h2 : Below (w1.drewN k).heap.size (w1.drewN k) w2) : Below B w0 w2 :=
  (below_drewN' h1 k).trans (h2.mono hz)

set_option maxHeartbeats 1000000 in
theorem ref_equal_len (A B : Option Addr) (c1 c2 : Nat) (a b : List (List UInt8)) (w : World) (hA : Row w w.heap.size A (a.map sv)) (hB : Row w w.heap.size B (b.map sv))
    (hs1 : szN a ≤ maxLen) (hs2 : szN b ≤ maxLen) (hl : a.length = b.length) :
    Calls Try.prog 25 #[.slice A a.length c1, .slice B b.length c2] w (Gave w (.bool (eqN a b))) := by
  unfold maxLen at hs1 hs2
  have hn1 := length_lt_szN a
  have hn2 := length_lt_szN b
  have HA := Lib.hid hA
  have HB := Lib.hid hB
  have h1 : ((a.length : Int) != (b.length : Int)) = false := by rw [hl]; simp
  have HL := Lib.hid hl
  clear hA hB hl
  go_enter Try.func25, Try.ntmps25
  go_wp2
  go_loopw [5] (EqRel w a b) (fun i _ => a.length - (intOf i).toNat)
  case atStart => exact ⟨0, Nat.zero_le _, rfl, rfl, Below.refl _ _⟩
  case round =>
    obtain ⟨k, hk, rfl, hkt, hbw⟩ := hrel
    have hz := hbw.size
    have HKT := Lib.hid hkt
    have HBW := Lib.hid hbw
    have HA1 := Lib.hid (HA.out.below hbw)
    have HB1 := Lib.hid (HB.out.below hbw)
    clear hkt hbw
    by_cases hlt : k < a.length
    · have hkb : k < b.length := by have := HL.out; omega
      obtain ⟨ba, oa, rfl, hla1, hca⟩ := HA1.out.name_at hlt
      obtain ⟨bb, ob, rfl, hlb1, hcb⟩ := HB1.out.name_at hkb
      have hla := len_le_szN hlt
      have hlb := len_le_szN hkb
      have hza : (a[k]).length ≤ maxLen := by unfold maxLen; omega
      have hzb : (b[k]).length ≤ maxLen := by unfold maxLen; omega
      have hba : ba < wr.heap.size := by omega
      have hbb : bb < wr.heap.size := by omega
      have hk0 : (0 : Int) ≤ (k : Int) := Int.natCast_nonneg _
      have hk1 : (k : Int) < (a.length : Int) := by omega
      have hk2 : (k : Int) < (b.length : Int) := by omega
      replace HBW := Lib.hid HBW.out.drew
      by_cases he : lowL a[k] = lowL b[k]
      · have hne : (lowL a[k] == lowL b[k]) = true := by rw [he]; simp
        have HK := Lib.hid (low_snoc HKT.out hlt hkb he)
        clear he
        go_wp2
        go_region_held3 (fun w' => w'.cell? ⟨ba, oa + k, none⟩ = some (.string ⟨(a[k]).toArray⟩) ∧ w'.cell? ⟨bb, ob + k, none⟩ = some (.string ⟨(b[k]).toArray⟩))
          (first | go_keep)
          ((go_at_call 40; refine (ref_small_any _ _ (by assumption)).mono ?_; rintro e w1 ⟨rfl, hb1⟩; have hca1 := below_cells hb1 ba (oa + k) hba; have hcb1 := below_cells hb1 bb (ob + k) hbb; replace hba := Nat.lt_of_lt_of_le hba hb1.size; replace hbb := Nat.lt_of_lt_of_le hbb hb1.size; replace HBW := Lib.hid (HBW.out.trans (hb1.mono hz)); replace hz := Nat.le_trans hz hb1.size; clear hb1))
        go_wp2
        exact ⟨⟨k + 1, by omega, by go_num, HK.out, HBW.out⟩, by simp [intOf]; omega⟩
      · have hne : (lowL a[k] == lowL b[k]) = false := by rw [beq_eq_false_iff_ne]; exact he
        have HK := Lib.hid (low_part hlt hkb he)
        clear he
        go_wp2
        go_region_held3 (fun w' => w'.cell? ⟨ba, oa + k, none⟩ = some (.string ⟨(a[k]).toArray⟩) ∧ w'.cell? ⟨bb, ob + k, none⟩ = some (.string ⟨(b[k]).toArray⟩))
          (first | go_keep)
          ((go_at_call 40; refine (ref_small_any _ _ (by assumption)).mono ?_; rintro e w1 ⟨rfl, hb1⟩; have hca1 := below_cells hb1 ba (oa + k) hba; have hcb1 := below_cells hb1 bb (ob + k) hbb; replace hba := Nat.lt_of_lt_of_le hba hb1.size; replace hbb := Nat.lt_of_lt_of_le hbb hb1.size; replace HBW := Lib.hid (HBW.out.trans (hb1.mono hz)); replace hz := Nat.le_trans hz hb1.size; clear hb1))
        go_wp2
        go_ret
        exact ⟨ret_bool HK.out.symm, HBW.out⟩
    · obtain rfl : k = a.length := by omega
      have HK := Lib.hid (low_end HKT.out HL.out)
      go_wp2
      go_ret
      exact ⟨ret_bool HK.out.symm, HBW.out⟩

theorem ref_equal_any (A B : Option Addr) (m1 m2 c1 c2 H : Nat) (a b : List (List UInt8)) (w : World) (hl1 : a.length = m1) (hl2 : b.length = m2) (hA : Row w H A (a.map sv)) (hB : Row w H B (b.map sv)) (hH : H ≤ w.heap.size)
    (hs1 : szN a ≤ maxLen) (hs2 : szN b ≤ maxLen) :
    Calls Try.prog 25 #[.slice A m1 c1, .slice B m2 c2] w (Gave w (.bool (eqN a b))) := by
  subst hl1
  subst hl2
  by_cases hl : a.length = b.length
  · exact ref_equal_len A B c1 c2 a b w (hA.mono hH) (hB.mono hH) hs1 hs2 hl
  · exact ref_equal_ne A B c1 c2 a b w hl

set_option maxHeartbeats 400000 in
theorem ref_under_short (A B : Option Addr) (c1 c2 : Nat) (n z : List (List UInt8)) (w : World) (hs1 : szN n ≤ maxLen) (hs2 : szN z ≤ maxLen) (hl : n.length < z.length) :
    Calls Try.prog 27 #[.slice A n.length c1, .slice B z.length c2] w (Gave w (.bool (underN n z))) := by
  have HF := Lib.hid (show underN n z = false by unfold underN; rw [decide_eq_false (by omega)]; rfl)
  have hn1 := length_lt_szN n
  have hn2 := length_lt_szN z
  unfold maxLen at hs1 hs2
  go_enter Try.func27, Try.ntmps27
  go_wp2
  go_ret
  exact ⟨ret_bool HF.out.symm, Below.refl _ _⟩

set_option maxHeartbeats 400000 in
theorem ref_under_long (A B : Option Addr) (c1 c2 : Nat) (n z : List (List UInt8)) (w : World) (hA : Row w w.heap.size A (n.map sv)) (hB : Row w w.heap.size B (z.map sv)) (hs1 : szN n ≤ maxLen) (hs2 : szN z ≤ maxLen) (hl : z.length ≤ n.length) (hc : n.length ≤ c1) (hz : 0 < z.length) :
    Calls Try.prog 27 #[.slice A n.length c1, .slice B z.length c2] w (Gave w (.bool (underN n z))) := by
  have HF := Lib.hid (show underN n z = eqN (n.drop (n.length - z.length)) z by unfold underN; rw [decide_eq_true hl]; rfl)
  have hn1 := length_lt_szN n
  have hn2 := length_lt_szN z
  have d1 : decide (z.length ≤ n.length) = true := by simp; omega
  obtain ⟨b, off, rfl, _, _⟩ := hA.some_ (by rw [List.length_map]; omega)
  have hd := hA.drop (k := n.length - z.length) rfl
  rw [← List.map_drop] at hd
  have HD := Lib.hid hd
  have HB := Lib.hid hB
  have hsd : szN (n.drop (n.length - z.length)) ≤ maxLen := Nat.le_trans (szN_drop_le _ _) hs1
  unfold maxLen at hs1
  clear hA hB hd
  go_enter Try.func27, Try.ntmps27
  go_wp2_with fail
  refine (ref_equal_any _ _ _ _ _ _ _ _ _ _ (by rw [List.length_drop]) rfl HD.out HB.out (Nat.le_refl _) hsd hs2).mono ?_
  rintro e w1 ⟨rfl, hb1⟩
  have HB1 := Lib.hid hb1
  clear hb1
  go_wp2
  go_ret
  exact ⟨ret_bool HF.out.symm, HB1.out⟩

set_option maxHeartbeats 400000 in
theorem ref_under_root (A B : Option Addr) (c1 c2 : Nat) (n : List (List UInt8)) (w : World) (hA : Row w w.heap.size A (n.map sv)) (hs1 : szN n ≤ maxLen) (hc : n.length ≤ c1) :
    Calls Try.prog 27 #[.slice A n.length c1, .slice B 0 c2] w (Gave w (.bool (underN n []))) := by
  have HF := Lib.hid (show underN n [] = eqN [] [] by simp [underN, eqN, lowN])
  have hn1 := length_lt_szN n
  have HC := Lib.hid (fun A' B' m1 c1' c2' w' (h : 0 = m1) => ref_equal_any A' B' m1 0 c1' c2' 0 [] [] w' h rfl (Row.empty _ _ _) (Row.empty _ _ _) (Nat.zero_le _) (by simp [szN, maxLen]) (by simp [szN, maxLen]))
  generalize eqN [] [] = r at HC HF
  unfold maxLen at hs1
  by_cases hn : n = []
  · subst hn
    clear hA
    go_enter Try.func27, Try.ntmps27
    go_wp2_with fail
    all_goals
      refine (HC.out _ _ _ _ _ _ (by simp)).mono ?_
      rintro e w1 ⟨rfl, hb1⟩
      have HB1 := Lib.hid hb1
      clear hb1
      go_wp2
      go_ret
      exact ⟨ret_bool HF.out.symm, HB1.out⟩
  · have hnl : 0 < n.length := by
      rcases n with _ | ⟨x, n⟩
      · exact absurd rfl hn
      · simp
    obtain ⟨b, off, rfl, _, _⟩ := hA.some_ (by rw [List.length_map]; exact hnl)
    clear hA hn
    by_cases hcc : c1 = n.length
    · subst hcc
      go_enter Try.func27, Try.ntmps27
      go_wp2_with fail
      refine (HC.out _ _ _ _ _ _ (by omega)).mono ?_
      rintro e w1 ⟨rfl, hb1⟩
      have HB1 := Lib.hid hb1
      clear hb1
      go_wp2
      go_ret
      exact ⟨ret_bool HF.out.symm, HB1.out⟩
    · have hlt : n.length < c1 := by omega
      clear hcc
      go_enter Try.func27, Try.ntmps27
      go_wp2_with fail
      refine (HC.out _ _ _ _ _ _ (by omega)).mono ?_
      rintro e w1 ⟨rfl, hb1⟩
      have HB1 := Lib.hid hb1
      clear hb1
      go_wp2
      go_ret
      exact ⟨ret_bool HF.out.symm, HB1.out⟩

theorem ref_under_any (A B : Option Addr) (m1 m2 c1 c2 H : Nat) (n z : List (List UInt8)) (w : World) (hl1 : n.length = m1) (hl2 : z.length = m2) (hA : Row w H A (n.map sv)) (hB : Row w H B (z.map sv)) (hH : H ≤ w.heap.size)
    (hs1 : szN n ≤ maxLen) (hs2 : szN z ≤ maxLen) (hc : m1 ≤ c1) :
    Calls Try.prog 27 #[.slice A m1 c1, .slice B m2 c2] w (Gave w (.bool (underN n z))) := by
  subst hl1
  subst hl2
  by_cases hl : z.length ≤ n.length
  · by_cases hz : z = []
    · subst hz
      exact ref_under_root A B c1 c2 n w (hA.mono hH) hs1 hc
    · exact ref_under_long A B c1 c2 n z w (hA.mono hH) (hB.mono hH) hs1 hs2 hl hc (by
        rcases z with _ | ⟨x, z⟩
        · exact absurd rfl hz
        · simp)
  · exact ref_under_short A B c1 c2 n z w hs1 hs2 (by omega)

end Go.Proofs.Ytiegneopolffoaa
