/-
  The contracts of name.Cmp and of what it calls.
-/
import Derived.Test.YtiegneopolffoaaSmall
import Derived.Test.YtiegneopolffoaaNOrd
import Derived.Laws.Externs
import Derived.StillTailTactics
import Derived.IntWalk
namespace Go.Proofs.Ytiegneopolffoaa
open Go.RowKit

set_option maxHeartbeats 1000000 in
theorem compareString_any (a b : List UInt8) (w : World) :
    Calls Try.prog 53 #[.string ⟨a.toArray⟩, .string ⟨b.toArray⟩] w (Told w (.int .i64 (cmpB a b))) := by
  have hr := Lib.run_compareString (P := Try.prog) ⟨a.toArray⟩ ⟨b.toArray⟩
  simp only [compareBytes_lex] at hr
  go_enter Try.func53, Try.ntmps53
  go_wp2
  rw [run_callFunc_extern Try.func54 (by kernel_rfl) (by kernel_rfl) (by kernel_rfl) (e := Extern.BytealgCompare.compare) (by kernel_rfl), hr]
  simp only [Result.andThen]
  rw [Oper.upon_value]
  go_wp2
  go_ret
  exact ⟨rfl, rfl⟩

set_option maxHeartbeats 400000 in
theorem compare_any (a b : List UInt8) (w : World) :
    Calls Try.prog 48 #[.string ⟨a.toArray⟩, .string ⟨b.toArray⟩] w (Told w (.int .i64 (cmpB a b))) := by
  go_enter Try.func48, Try.ntmps48
  go_wp2_with fail
  refine (compareString_any _ _ _).mono ?_
  rintro e w' ⟨rfl, rfl⟩
  go_wp2
  go_ret
  exact ⟨rfl, rfl⟩

set_option maxHeartbeats 400000 in
theorem isNaN_any (x : Int) (w : World) : Calls Try.prog 52 #[.int .i64 x] w (Told w (.bool false)) := by
  have h : (x != x) = false := by simp
  go_enter Try.func52, Try.ntmps52
  go_wp2
  go_ret
  exact ⟨rfl, rfl⟩

set_option maxHeartbeats 400000 in
theorem compareInt_any (x y : Int) (w : World) : Calls Try.prog 47 #[.int .i64 x, .int .i64 y] w (Told w (.int .i64 (Lib.compareInt x y))) := by
  by_cases h1 : x < y
  · have d1 : decide (x < y) = true := by simp; omega
    have HF := Lib.hid (show Lib.compareInt x y = -1 by unfold Lib.compareInt; rw [if_pos h1])
    clear h1
    go_enter Try.func47, Try.ntmps47
    go_wp2_with (go_at_call 52; refine (isNaN_any _ _).mono ?_; rintro e w' ⟨rfl, rfl⟩)
    go_ret
    exact ⟨ret_int HF.out.symm, rfl⟩
  · by_cases h2 : y < x
    · have d1 : decide (x < y) = false := by simp; omega
      have d2 : decide (y < x) = true := by simp; omega
      have HF := Lib.hid (show Lib.compareInt x y = 1 by unfold Lib.compareInt; rw [if_neg h1, if_pos h2])
      clear h1 h2
      go_enter Try.func47, Try.ntmps47
      go_wp2_with (go_at_call 52; refine (isNaN_any _ _).mono ?_; rintro e w' ⟨rfl, rfl⟩)
      go_ret
      exact ⟨ret_int HF.out.symm, rfl⟩
    · have d1 : decide (x < y) = false := by simp; omega
      have d2 : decide (y < x) = false := by simp; omega
      have HF := Lib.hid (show Lib.compareInt x y = 0 by unfold Lib.compareInt; rw [if_neg h1, if_neg h2])
      clear h1 h2
      go_enter Try.func47, Try.ntmps47
      go_wp2_with (go_at_call 52; refine (isNaN_any _ _).mono ?_; rintro e w' ⟨rfl, rfl⟩)
      go_ret
      exact ⟨ret_int HF.out.symm, rfl⟩

set_option maxHeartbeats 400000 in
theorem byLabel_any (a b : List UInt8) (w : World) (ha : a.length ≤ maxLen) (hb : b.length ≤ maxLen) :
    Calls Try.prog 39 #[.string ⟨a.toArray⟩, .string ⟨b.toArray⟩] w (Gave w (.int .i64 (cmpB (lowL a) (lowL b)))) := by
  go_enter Try.func39, Try.ntmps39
  go_wp2_with fail
  refine (small_any a w ha).mono ?_
  rintro e w1 ⟨rfl, hb1⟩
  have hz := hb1.size
  have HB1 := Lib.hid hb1
  clear hb1
  go_wp2_with fail
  refine (small_any b w1 hb).mono ?_
  rintro e w2 ⟨rfl, hb2⟩
  have HB2 := Lib.hid hb2
  clear hb2
  go_wp2_with fail
  refine (compare_any _ _ _).mono ?_
  rintro e w' ⟨rfl, rfl⟩
  go_wp2
  go_ret
  exact ⟨rfl, HB1.out.trans (HB2.out.mono hz)⟩

def LastRel (w : World) (M : Nat) (a b : List (List UInt8)) (i : Value) (wr : World) : Prop :=
  ∃ k : Nat, k ≤ M ∧ i = .int .i64 k ∧ (keyN a).take k = (keyN b).take k ∧ Below w.heap.size w wr

theorem key_snoc {a b : List (List UInt8)} {k : Nat} (h : (keyN a).take k = (keyN b).take k) (ha : k < a.length) (hb : k < b.length) (e : cmpB (lowL (a[a.length - 1 - k]'(by omega))) (lowL (b[b.length - 1 - k]'(by omega))) = 0) :
    (keyN a).take (k + 1) = (keyN b).take (k + 1) := by
  rw [List.take_succ_eq_append_getElem (by rw [length_keyN]; exact ha), List.take_succ_eq_append_getElem (by rw [length_keyN]; exact hb), h, keyN_at ha, keyN_at hb, cmpB_tot.eq_ _ _ e]
theorem key_part {a b : List (List UInt8)} {k : Nat} (h : (keyN a).take k = (keyN b).take k) (ha : k < a.length) (hb : k < b.length) (e : cmpB (lowL (a[a.length - 1 - k]'(by omega))) (lowL (b[b.length - 1 - k]'(by omega))) ≠ 0) :
    cmpN a b = cmpB (lowL (a[a.length - 1 - k]'(by omega))) (lowL (b[b.length - 1 - k]'(by omega))) := by
  unfold cmpN
  rw [lexC_at cmpB_tot h (by rw [length_keyN]; exact ha) (by rw [length_keyN]; exact hb) (by rw [keyN_at ha, keyN_at hb]; exact e), keyN_at ha, keyN_at hb]
theorem key_end {a b : List (List UInt8)} {k : Nat} (h : (keyN a).take k = (keyN b).take k) (hk : k = min a.length b.length) : cmpN a b = Lib.compareInt a.length b.length := by
  unfold cmpN
  rw [lexC_end cmpB_tot h (by rw [length_keyN, length_keyN]; exact hk), length_keyN, length_keyN]

set_option maxHeartbeats 1000000 in
theorem fromLast_le (A B : Option Addr) (c1 c2 : Nat) (a b : List (List UInt8)) (w : World) (hA : Row w w.heap.size A (a.map sv)) (hB : Row w w.heap.size B (b.map sv))
    (hs1 : szN a ≤ maxLen) (hs2 : szN b ≤ maxLen) (hle : a.length ≤ b.length) :
    Calls Try.prog 38 #[.slice A a.length c1, .slice B b.length c2, .func (.func 39) #[] #[]] w (Gave w (.int .i64 (cmpN a b))) := by
  unfold maxLen at hs1 hs2
  have hn1 := length_lt_szN a
  have hn2 := length_lt_szN b
  have HA := Lib.hid hA
  have HB := Lib.hid hB
  clear hA hB
  go_enter Try.func38, Try.ntmps38
  go_wp2
  go_loopw [14] (LastRel w a.length a b) (fun i _ => a.length - (intOf i).toNat)
  case atStart => exact ⟨0, Nat.zero_le _, rfl, rfl, Below.refl _ _⟩
  case round =>
    obtain ⟨k, hk, rfl, hkt, hbw⟩ := hrel
    have hz := hbw.size
    have HKT := Lib.hid hkt
    have HBW := Lib.hid hbw
    have HA1 := Lib.hid (HA.out.below hbw)
    have HB1 := Lib.hid (HB.out.below hbw)
    clear hkt hbw
    by_cases hlt : k < a.length
    · have hka : k < a.length := by omega
      have hkb : k < b.length := by omega
      have ha1 : a.length - 1 - k < a.length := by omega
      have hb1 : b.length - 1 - k < b.length := by omega
      obtain ⟨ba, oa, rfl, _, hca⟩ := HA1.out.name_at ha1
      obtain ⟨bb, ob, rfl, _, hcb⟩ := HB1.out.name_at hb1
      have hla := len_le_szN ha1
      have hlb := len_le_szN hb1
      go_wp2
      have wa1 : IntKind.i64.wrap ((a.length : Int) - 1) = (a.length : Int) - 1 := IntWalk.i64_in _ (by omega)
      have wa2 : IntKind.i64.wrap ((a.length : Int) - 1 - k) = (a.length : Int) - 1 - k := IntWalk.i64_in _ (by omega)
      have wa3 : (0 : Int) ≤ (a.length : Int) - 1 - k := by omega
      have wa4 : (a.length : Int) - 1 - k < a.length := by omega
      have wa5 : ((a.length : Int) - 1 - k).toNat = a.length - 1 - k := by omega
      have wa6 : (k : Int) ≤ (a.length : Int) - 1 := by omega
      have wb6 : (k : Int) ≤ (b.length : Int) - 1 := by omega
      have wb1 : IntKind.i64.wrap ((b.length : Int) - 1) = (b.length : Int) - 1 := IntWalk.i64_in _ (by omega)
      have wb2 : IntKind.i64.wrap ((b.length : Int) - 1 - k) = (b.length : Int) - 1 - k := IntWalk.i64_in _ (by omega)
      have wb3 : (0 : Int) ≤ (b.length : Int) - 1 - k := by omega
      have wb4 : (b.length : Int) - 1 - k < b.length := by omega
      have wb5 : ((b.length : Int) - 1 - k).toNat = b.length - 1 - k := by omega
      go_still_tail 17, (by kernel_rfl)
      clear wa1 wa2 wa3 wa4 wa5 wa6 wb1 wb2 wb3 wb4 wb5 wb6
      change wpList _ _ _ _ _ wr.drew
      have hd : Below w.heap.size w wr.drew := HBW.out.drew
      have HBD := Lib.hid hd
      clear hd
      have hcall := byLabel_any (a[a.length - 1 - k]) (b[b.length - 1 - k]) wr.drew (by unfold maxLen; omega) (by unfold maxLen; omega)
      obtain ⟨r, hr⟩ : ∃ r, r = cmpB (lowL (a[a.length - 1 - k])) (lowL (b[b.length - 1 - k])) := ⟨_, rfl⟩
      rw [← hr] at hcall
      have HC := Lib.hid hcall
      clear hcall
      by_cases he : r = 0
      · have HK := Lib.hid (key_snoc HKT.out hka hkb (by rw [← hr]; exact he))
        clear hr
        subst he
        go_wp2_with fail
        refine HC.out.mono ?_
        rintro e w1 ⟨rfl, hb1⟩
        have HB2 := Lib.hid hb1
        clear hb1
        go_wp2
        exact ⟨⟨k + 1, by omega, by go_num, HK.out, HBD.out.trans (HB2.out.mono hz)⟩, by simp [intOf]; omega⟩
      · have HK := Lib.hid (key_part HKT.out hka hkb (by rw [← hr]; exact he))
        have HR := Lib.hid hr
        clear hr
        have hne : (r != 0) = true := by rw [bne_iff_ne]; exact he
        clear he
        go_wp2_with fail
        refine HC.out.mono ?_
        rintro e w1 ⟨rfl, hb1⟩
        have HB2 := Lib.hid hb1
        clear hb1
        go_wp2
        go_ret
        exact ⟨ret_int (by rw [HK.out, HR.out]), HBD.out.trans (HB2.out.mono hz)⟩
    · obtain rfl : k = a.length := by omega
      have HE := Lib.hid (key_end HKT.out (by omega))
      go_wp2_with fail
      refine (compareInt_any _ _ _).mono ?_
      rintro e w' ⟨rfl, rfl⟩
      go_wp2
      go_ret
      exact ⟨ret_int HE.out.symm, HBW.out⟩

set_option maxHeartbeats 1000000 in
theorem fromLast_gt (A B : Option Addr) (c1 c2 : Nat) (a b : List (List UInt8)) (w : World) (hA : Row w w.heap.size A (a.map sv)) (hB : Row w w.heap.size B (b.map sv))
    (hs1 : szN a ≤ maxLen) (hs2 : szN b ≤ maxLen) (hle : b.length < a.length) :
    Calls Try.prog 38 #[.slice A a.length c1, .slice B b.length c2, .func (.func 39) #[] #[]] w (Gave w (.int .i64 (cmpN a b))) := by
  unfold maxLen at hs1 hs2
  have hn1 := length_lt_szN a
  have hn2 := length_lt_szN b
  have HA := Lib.hid hA
  have HB := Lib.hid hB
  clear hA hB
  go_enter Try.func38, Try.ntmps38
  go_wp2
  go_loopw [14] (LastRel w b.length a b) (fun i _ => b.length - (intOf i).toNat)
  case atStart => exact ⟨0, Nat.zero_le _, rfl, rfl, Below.refl _ _⟩
  case round =>
    obtain ⟨k, hk, rfl, hkt, hbw⟩ := hrel
    have hz := hbw.size
    have HKT := Lib.hid hkt
    have HBW := Lib.hid hbw
    have HA1 := Lib.hid (HA.out.below hbw)
    have HB1 := Lib.hid (HB.out.below hbw)
    clear hkt hbw
    by_cases hlt : k < b.length
    · have hka : k < a.length := by omega
      have hkb : k < b.length := by omega
      have ha1 : a.length - 1 - k < a.length := by omega
      have hb1 : b.length - 1 - k < b.length := by omega
      obtain ⟨ba, oa, rfl, _, hca⟩ := HA1.out.name_at ha1
      obtain ⟨bb, ob, rfl, _, hcb⟩ := HB1.out.name_at hb1
      have hla := len_le_szN ha1
      have hlb := len_le_szN hb1
      go_wp2
      have wa1 : IntKind.i64.wrap ((a.length : Int) - 1) = (a.length : Int) - 1 := IntWalk.i64_in _ (by omega)
      have wa2 : IntKind.i64.wrap ((a.length : Int) - 1 - k) = (a.length : Int) - 1 - k := IntWalk.i64_in _ (by omega)
      have wa3 : (0 : Int) ≤ (a.length : Int) - 1 - k := by omega
      have wa4 : (a.length : Int) - 1 - k < a.length := by omega
      have wa5 : ((a.length : Int) - 1 - k).toNat = a.length - 1 - k := by omega
      have wa6 : (k : Int) ≤ (a.length : Int) - 1 := by omega
      have wb6 : (k : Int) ≤ (b.length : Int) - 1 := by omega
      have wb1 : IntKind.i64.wrap ((b.length : Int) - 1) = (b.length : Int) - 1 := IntWalk.i64_in _ (by omega)
      have wb2 : IntKind.i64.wrap ((b.length : Int) - 1 - k) = (b.length : Int) - 1 - k := IntWalk.i64_in _ (by omega)
      have wb3 : (0 : Int) ≤ (b.length : Int) - 1 - k := by omega
      have wb4 : (b.length : Int) - 1 - k < b.length := by omega
      have wb5 : ((b.length : Int) - 1 - k).toNat = b.length - 1 - k := by omega
      go_still_tail 17, (by kernel_rfl)
      clear wa1 wa2 wa3 wa4 wa5 wa6 wb1 wb2 wb3 wb4 wb5 wb6
      change wpList _ _ _ _ _ wr.drew
      have hd : Below w.heap.size w wr.drew := HBW.out.drew
      have HBD := Lib.hid hd
      clear hd
      have hcall := byLabel_any (a[a.length - 1 - k]) (b[b.length - 1 - k]) wr.drew (by unfold maxLen; omega) (by unfold maxLen; omega)
      obtain ⟨r, hr⟩ : ∃ r, r = cmpB (lowL (a[a.length - 1 - k])) (lowL (b[b.length - 1 - k])) := ⟨_, rfl⟩
      rw [← hr] at hcall
      have HC := Lib.hid hcall
      clear hcall
      by_cases he : r = 0
      · have HK := Lib.hid (key_snoc HKT.out hka hkb (by rw [← hr]; exact he))
        clear hr
        subst he
        go_wp2_with fail
        refine HC.out.mono ?_
        rintro e w1 ⟨rfl, hb1⟩
        have HB2 := Lib.hid hb1
        clear hb1
        go_wp2
        exact ⟨⟨k + 1, by omega, by go_num, HK.out, HBD.out.trans (HB2.out.mono hz)⟩, by simp [intOf]; omega⟩
      · have HK := Lib.hid (key_part HKT.out hka hkb (by rw [← hr]; exact he))
        have HR := Lib.hid hr
        clear hr
        have hne : (r != 0) = true := by rw [bne_iff_ne]; exact he
        clear he
        go_wp2_with fail
        refine HC.out.mono ?_
        rintro e w1 ⟨rfl, hb1⟩
        have HB2 := Lib.hid hb1
        clear hb1
        go_wp2
        go_ret
        exact ⟨ret_int (by rw [HK.out, HR.out]), HBD.out.trans (HB2.out.mono hz)⟩
    · obtain rfl : k = b.length := by omega
      have HE := Lib.hid (key_end HKT.out (by omega))
      go_wp2_with fail
      refine (compareInt_any _ _ _).mono ?_
      rintro e w' ⟨rfl, rfl⟩
      go_wp2
      go_ret
      exact ⟨ret_int HE.out.symm, HBW.out⟩

theorem fromLast_any (A B : Option Addr) (m1 m2 c1 c2 H : Nat) (a b : List (List UInt8)) (w : World) (hl1 : a.length = m1) (hl2 : b.length = m2) (hA : Row w H A (a.map sv)) (hB : Row w H B (b.map sv)) (hH : H ≤ w.heap.size)
    (hs1 : szN a ≤ maxLen) (hs2 : szN b ≤ maxLen) :
    Calls Try.prog 38 #[.slice A m1 c1, .slice B m2 c2, .func (.func 39) #[] #[]] w (Gave w (.int .i64 (cmpN a b))) := by
  subst hl1
  subst hl2
  by_cases hle : a.length ≤ b.length
  · exact fromLast_le A B c1 c2 a b w (hA.mono hH) (hB.mono hH) hs1 hs2 hle
  · exact fromLast_gt A B c1 c2 a b w (hA.mono hH) (hB.mono hH) hs1 hs2 (by omega)

set_option maxHeartbeats 400000 in
theorem cmp_any (A B : Option Addr) (m1 m2 c1 c2 H : Nat) (a b : List (List UInt8)) (w : World) (hl1 : a.length = m1) (hl2 : b.length = m2) (hA : Row w H A (a.map sv)) (hB : Row w H B (b.map sv)) (hH : H ≤ w.heap.size)
    (hs1 : szN a ≤ maxLen) (hs2 : szN b ≤ maxLen) :
    Calls Try.prog 22 #[.slice A m1 c1, .slice B m2 c2] w (Gave w (.int .i64 (cmpN a b))) := by
  have HC := Lib.hid (fromLast_any A B m1 m2 c1 c2 H a b w hl1 hl2 hA hB hH hs1 hs2)
  clear hA hB hl1 hl2
  go_enter Try.func22, Try.ntmps22
  go_wp2_with fail
  refine HC.out.mono ?_
  rintro e w1 ⟨rfl, hb1⟩
  have HB1 := Lib.hid hb1
  clear hb1
  go_wp2
  go_ret
  exact ⟨rfl, HB1.out⟩

end Go.Proofs.Ytiegneopolffoaa
