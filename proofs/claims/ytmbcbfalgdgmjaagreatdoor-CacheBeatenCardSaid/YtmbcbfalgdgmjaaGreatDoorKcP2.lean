/-
  The contract of name.byLabel and of what it calls.
-/
import Derived.Test.YtmbcbfalgdgmjaaGreatDoorKcP1
import Derived.Laws.Externs
import Derived.StillTailTactics
import Derived.IntWalk
import Derived.Test.YtmbcbfalgdgmjaaGreatDoorProg
import Derived.WalkSpells
import Derived.WalkLawsBesides
namespace Go.Proofs.YtmbcbfalgdgmjaaGreatDoor
open Go.RowKit

set_option maxRecDepth 8000 in
set_option maxHeartbeats 1000000 in
theorem compareString_any (a b : List UInt8) (w : World) :
    Calls Tryz.prog 142 #[.string ⟨a.toArray⟩, .string ⟨b.toArray⟩] w (Told w (.int .i64 (cmpB a b))) := by
  have hr := Lib.run_compareString (P := Tryz.prog) ⟨a.toArray⟩ ⟨b.toArray⟩
  simp only [compareBytes_lex] at hr
  go_enter Tryz.func142, Tryz.ntmps142
  go_wp2
  rw [run_callFunc_extern Tryz.func148 (by kernel_rfl) (by kernel_rfl) (by kernel_rfl) (e := Extern.BytealgCompare.compare) (by kernel_rfl), hr]
  simp only [Result.andThen]
  rw [Oper.upon_value]
  go_wp2
  go_ret
  exact ⟨rfl, rfl⟩

set_option maxHeartbeats 400000 in
theorem compare_any (a b : List UInt8) (w : World) :
    Calls Tryz.prog 134 #[.string ⟨a.toArray⟩, .string ⟨b.toArray⟩] w (Told w (.int .i64 (cmpB a b))) := by
  go_enter Tryz.func134, Tryz.ntmps134
  go_wp2_with fail
  refine (compareString_any _ _ _).mono ?_
  rintro e w' ⟨rfl, rfl⟩
  go_wp2
  go_ret
  exact ⟨rfl, rfl⟩

set_option maxHeartbeats 400000 in
theorem byLabel_any (a b : List UInt8) (w : World) (ha : a.length ≤ maxLen) (hb : b.length ≤ maxLen) :
    Calls Tryz.prog 118 #[.string ⟨a.toArray⟩, .string ⟨b.toArray⟩] w (Gave w (.int .i64 (cmpB (lowL a) (lowL b)))) := by
  go_enter Tryz.func118, Tryz.ntmps118
  go_wp2_with fail
  refine (small_any a w ha).mono ?_
  rintro e w1 ⟨rfl, hb1⟩
  have hz := hb1.size
  have HB1 := Lib.hid hb1
  clear hb1
  go_wp2_with fail
  refine (small_any b w1 hb).mono ?_
  rintro e w2 ⟨rfl, hb2⟩
  have HB2 := Lib.hid hb2
  clear hb2
  go_wp2_with fail
  refine (compare_any _ _ _).mono ?_
  rintro e w' ⟨rfl, rfl⟩
  go_wp2
  go_ret
  exact ⟨rfl, HB1.out.trans (HB2.out.mono hz)⟩

end Go.Proofs.YtmbcbfalgdgmjaaGreatDoor

namespace Go.Proofs.YtmbcbfalgdgmjaaGreatDoor
open Go.RowKit

set_option maxHeartbeats 400000 in
theorem sameLabel_yes (a b : List UInt8) (w : World) (ha : a.length ≤ maxLen) (hb : b.length ≤ maxLen) (he : lowL a = lowL b) :
    Calls Tryz.prog 93 #[.string ⟨a.toArray⟩, .string ⟨b.toArray⟩] w (Gave w (.bool true)) := by
  have hc := byLabel_any a b w ha hb
  rw [show cmpB (lowL a) (lowL b) = 0 by rw [he]; exact cmpB_tot.same _] at hc
  have HC := Lib.hid hc
  clear hc he
  go_enter Tryz.func93, Tryz.ntmps93
  go_wp2_with fail
  refine HC.out.mono ?_
  rintro e w1 ⟨rfl, hb1⟩
  have HB1 := Lib.hid hb1
  clear hb1
  go_wp2
  go_ret
  exact ⟨rfl, HB1.out⟩

set_option maxHeartbeats 400000 in
theorem sameLabel_no (a b : List UInt8) (w : World) (ha : a.length ≤ maxLen) (hb : b.length ≤ maxLen) (he : lowL a ≠ lowL b) :
    Calls Tryz.prog 93 #[.string ⟨a.toArray⟩, .string ⟨b.toArray⟩] w (Gave w (.bool false)) := by
  have hc := byLabel_any a b w ha hb
  have hr : (cmpB (lowL a) (lowL b) == 0) = false := by rw [beq_eq_false_iff_ne]; exact fun h => he (cmpB_tot.eq_ _ _ h)
  generalize cmpB (lowL a) (lowL b) = r at hc hr
  have HC := Lib.hid hc
  clear hc he
  go_enter Tryz.func93, Tryz.ntmps93
  go_wp2_with fail
  refine HC.out.mono ?_
  rintro e w1 ⟨rfl, hb1⟩
  have HB1 := Lib.hid hb1
  clear hb1
  go_wp2
  go_ret
  exact ⟨rfl, HB1.out⟩

set_option maxHeartbeats 400000 in
theorem equalFunc_ne (A B : Option Addr) (c1 c2 : Nat) (a b : List (List UInt8)) (w : World) (hl : a.length ≠ b.length) :
    Calls Tryz.prog 92 #[.slice A a.length c1, .slice B b.length c2, .func (.func 93) #[] #[]] w (Gave w (.bool (eqN a b))) := by
  have h1 : ((a.length : Int) != (b.length : Int)) = true := by rw [bne_iff_ne]; omega
  rw [eqN_len hl]
  clear hl
  go_enter Tryz.func92, Tryz.ntmps92
  go_wp2
  go_ret
  exact ⟨rfl, Below.refl _ _⟩

set_option maxHeartbeats 1000000 in
theorem equalFunc_len (A B : Option Addr) (c1 c2 : Nat) (a b : List (List UInt8)) (w : World) (hA : Row w w.heap.size A (a.map sv)) (hB : Row w w.heap.size B (b.map sv))
    (hs1 : WideN a) (hs2 : WideN b) (hl : a.length = b.length) :
    Calls Tryz.prog 92 #[.slice A a.length c1, .slice B b.length c2, .func (.func 93) #[] #[]] w (Gave w (.bool (eqN a b))) := by
  have hn1 := hs1.1
  have hn2 := hs2.1
  have HS1 := Lib.hid hs1.2
  have HS2 := Lib.hid hs2.2
  unfold maxLen at hn1 hn2
  clear hs1 hs2
  have HA := Lib.hid hA
  have HB := Lib.hid hB
  have h1 : ((a.length : Int) != (b.length : Int)) = false := by rw [hl]; simp
  have HL := Lib.hid hl
  clear hA hB hl
  go_enter Tryz.func92, Tryz.ntmps92
  go_wp2
  go_loopw [17] (EqRel w a b) (fun i _ => a.length - (intOf i).toNat)
  case atStart => exact ⟨0, Nat.zero_le _, rfl, rfl, Below.refl _ _⟩
  case round =>
    obtain ⟨k, hk, rfl, hkt, hbw⟩ := hrel
    have hz := hbw.size
    have HKT := Lib.hid hkt
    have HBW := Lib.hid hbw
    have HA1 := Lib.hid (HA.out.below hbw)
    have HB1 := Lib.hid (HB.out.below hbw)
    clear hkt hbw
    by_cases hlt : k < a.length
    · have hkb : k < b.length := by have := HL.out; omega
      obtain ⟨ba, oa, rfl, _, hca⟩ := HA1.out.name_at hlt
      obtain ⟨bb, ob, rfl, _, hcb⟩ := HB1.out.name_at hkb
      have hla := HS1.out k hlt
      have hlb := HS2.out k hkb
      by_cases he : lowL a[k] = lowL b[k]
      · have HC := Lib.hid (fun w' => sameLabel_yes a[k] b[k] w' hla hlb he)
        have HK := Lib.hid (low_snoc HKT.out hlt hkb he)
        clear he
        go_wp2_with fail
        refine (HC.out _).mono ?_
        rintro e w1 ⟨rfl, hb1⟩
        have HB2 := Lib.hid hb1
        clear hb1
        go_wp2
        exact ⟨⟨k + 1, by omega, by go_num, HK.out, HBW.out.trans (HB2.out.mono hz)⟩, by simp [intOf]; omega⟩
      · have HC := Lib.hid (fun w' => sameLabel_no a[k] b[k] w' hla hlb he)
        have HK := Lib.hid (low_part hlt hkb he)
        clear he
        go_wp2_with fail
        refine (HC.out _).mono ?_
        rintro e w1 ⟨rfl, hb1⟩
        have HB2 := Lib.hid hb1
        clear hb1
        go_wp2
        go_ret
        exact ⟨ret_bool HK.out.symm, HBW.out.trans (HB2.out.mono hz)⟩
    · obtain rfl : k = a.length := by omega
      have HK := Lib.hid (low_end HKT.out HL.out)
      go_wp2
      go_ret
      exact ⟨ret_bool HK.out.symm, HBW.out⟩

set_option maxHeartbeats 400000 in
theorem equal_wide (A B : Option Addr) (m1 m2 c1 c2 H : Nat) (a b : List (List UInt8)) (w : World) (hl1 : a.length = m1) (hl2 : b.length = m2) (hA : Row w H A (a.map sv)) (hB : Row w H B (b.map sv)) (hH : H ≤ w.heap.size)
    (hs1 : WideN a) (hs2 : WideN b) :
    Calls Tryz.prog 68 #[.slice A m1 c1, .slice B m2 c2] w (Gave w (.bool (eqN a b))) := by
  subst hl1
  subst hl2
  have hf : Calls Tryz.prog 92 #[.slice A a.length c1, .slice B b.length c2, .func (.func 93) #[] #[]] w (Gave w (.bool (eqN a b))) := by
    by_cases hl : a.length = b.length
    · exact equalFunc_len A B c1 c2 a b w (hA.mono hH) (hB.mono hH) hs1 hs2 hl
    · exact equalFunc_ne A B c1 c2 a b w hl
  have HC := Lib.hid hf
  clear hA hB hf
  go_enter Tryz.func68, Tryz.ntmps68
  go_wp2_with fail
  refine HC.out.mono ?_
  rintro e w1 ⟨rfl, hb1⟩
  have HB1 := Lib.hid hb1
  clear hb1
  go_wp2
  go_ret
  exact ⟨rfl, HB1.out⟩

theorem equal_any (A B : Option Addr) (m1 m2 c1 c2 H : Nat) (a b : List (List UInt8)) (w : World) (hl1 : a.length = m1) (hl2 : b.length = m2) (hA : Row w H A (a.map sv)) (hB : Row w H B (b.map sv)) (hH : H ≤ w.heap.size)
    (hs1 : szN a ≤ maxLen) (hs2 : szN b ≤ maxLen) :
    Calls Tryz.prog 68 #[.slice A m1 c1, .slice B m2 c2] w (Gave w (.bool (eqN a b))) :=
  equal_wide A B m1 m2 c1 c2 H a b w hl1 hl2 hA hB hH (wide_sz hs1) (wide_sz hs2)

end Go.Proofs.YtmbcbfalgdgmjaaGreatDoor

namespace Go.Proofs.YtmbcbfalgdgmjaaGreatDoor
open Go.RowKit

set_option maxHeartbeats 400000 in
theorem eqints_ne (A B : Option Addr) (n m c d : Nat) (w : World) (h : n ≠ m) :
    Calls Tryz.prog 106 #[.slice A n c, .slice B m d] w (Drewn w (.bool false)) := by
  have h1 : ((n : Int) != (m : Int)) = true := by rw [bne_iff_ne]; omega
  go_enter Tryz.func106, Tryz.ntmps106
  go_wp2
  go_ret
  exact ⟨rfl, 0, rfl⟩

set_option maxHeartbeats 400000 in
theorem eqints_len (A B : Option Addr) (n c d H : Nat) (xs ys : List Int) (w : World) (hx : xs.length = n) (hy : ys.length = n) (hA : Row w H A (xs.map zv)) (hB : Row w H B (ys.map zv)) (hm : n ≤ maxLen) :
    Calls Tryz.prog 106 #[.slice A n c, .slice B n d] w (Drewn w (.bool (decide (xs = ys)))) := by
  unfold maxLen at hm
  have h1 : ((n : Int) != (n : Int)) = false := by simp
  have HX := Lib.hid hx
  have HY := Lib.hid hy
  have HA := Lib.hid hA
  have HB := Lib.hid hB
  clear hx hy hA hB
  go_enter Tryz.func106, Tryz.ntmps106
  go_wp2
  go_loopw [13] (IntsRel w xs ys) (fun i _ => n - (intOf i).toNat)
  case atStart => exact ⟨0, by omega, rfl, by simp, 0, rfl⟩
  case round =>
    obtain ⟨k, hk, rfl, hkt, j, rfl⟩ := hrel
    have HKT := Lib.hid hkt
    clear hkt
    by_cases hlt : k < n
    · have hkx : k < xs.length := by rw [HX.out]; exact hlt
      have hky : k < ys.length := by rw [HY.out]; exact hlt
      obtain ⟨b, off, rfl, _, hca⟩ := HA.out.int_at hkx
      obtain ⟨b', off', rfl, _, hcb⟩ := HB.out.int_at hky
      by_cases he : xs[k] = ys[k]
      · have HE := Lib.hid he
        have hne : (xs[k] != ys[k]) = false := by rw [he]; simp
        clear he
        go_wp2
        go_quiet (fail)
        go_wp2
        refine ⟨⟨k + 1, by rw [HX.out]; omega, by go_num, take_eq_snocI HKT.out hkx hky HE.out, _, rfl⟩, by simp [intOf]; omega⟩
      · have HE := Lib.hid he
        have hne : (xs[k] != ys[k]) = true := by rw [bne_iff_ne]; exact he
        have hf : decide (xs = ys) = false := by
          rw [decide_eq_false_iff_not]; rintro rfl; exact he rfl
        have HF := Lib.hid hf
        clear he hf
        go_wp2
        go_quiet (fail)
        go_wp2
        go_ret
        exact ⟨by rw [HF.out]; rfl, j + nq, by rw [World.drewN_drewN]⟩
    · obtain rfl : k = n := by have := HX.out; omega
      have ht : decide (xs = ys) = true := by
        rw [decide_eq_true_eq]
        have := HKT.out
        rwa [List.take_of_length_le (by rw [HX.out]; omega), List.take_of_length_le (by rw [HY.out]; omega)] at this
      have HF := Lib.hid ht
      clear ht
      go_wp2
      go_ret
      exact ⟨by rw [HF.out]; rfl, _, rfl⟩

theorem eqints_any (A B : Option Addr) (n m c d H : Nat) (xs ys : List Int) (w : World) (hx : xs.length = n) (hy : ys.length = m) (hA : Row w H A (xs.map zv)) (hB : Row w H B (ys.map zv)) (hm : n ≤ maxLen) :
    Calls Tryz.prog 106 #[.slice A n c, .slice B m d] w (Drewn w (.bool (decide (xs = ys)))) := by
  by_cases h : n = m
  · subst h
    exact eqints_len A B n c d H xs ys w hx hy hA hB hm
  · have hf : decide (xs = ys) = false := by
      rw [decide_eq_false_iff_not]; rintro rfl; omega
    rw [hf]
    exact eqints_ne A B n m c d w h

set_option maxHeartbeats 400000 in
theorem eqstrs_ne (A B : Option Addr) (n m c d : Nat) (w : World) (h : n ≠ m) :
    Calls Tryz.prog 107 #[.slice A n c, .slice B m d] w (Drewn w (.bool false)) := by
  have h1 : ((n : Int) != (m : Int)) = true := by rw [bne_iff_ne]; omega
  go_enter Tryz.func107, Tryz.ntmps107
  go_wp2
  go_ret
  exact ⟨rfl, 0, rfl⟩

set_option maxHeartbeats 400000 in
theorem eqstrs_len (A B : Option Addr) (n c d H : Nat) (xs ys : List (List UInt8)) (w : World) (hx : xs.length = n) (hy : ys.length = n) (hA : Row w H A (xs.map sv)) (hB : Row w H B (ys.map sv)) (hm : n ≤ maxLen) :
    Calls Tryz.prog 107 #[.slice A n c, .slice B n d] w (Drewn w (.bool (decide (xs = ys)))) := by
  unfold maxLen at hm
  have h1 : ((n : Int) != (n : Int)) = false := by simp
  have HX := Lib.hid hx
  have HY := Lib.hid hy
  have HA := Lib.hid hA
  have HB := Lib.hid hB
  clear hx hy hA hB
  go_enter Tryz.func107, Tryz.ntmps107
  go_wp2
  go_loopw [13] (ExactRel w xs ys) (fun i _ => n - (intOf i).toNat)
  case atStart => exact ⟨0, by omega, rfl, by simp, 0, rfl⟩
  case round =>
    obtain ⟨k, hk, rfl, hkt, j, rfl⟩ := hrel
    have HKT := Lib.hid hkt
    clear hkt
    by_cases hlt : k < n
    · have hkx : k < xs.length := by rw [HX.out]; exact hlt
      have hky : k < ys.length := by rw [HY.out]; exact hlt
      obtain ⟨b, off, rfl, _, hca⟩ := HA.out.name_at hkx
      obtain ⟨b', off', rfl, _, hcb⟩ := HB.out.name_at hky
      by_cases he : xs[k] = ys[k]
      · have HE := Lib.hid he
        have hne : ((xs[k]) == (ys[k])) = true := by rw [he]; simp
        clear he
        go_wp2
        go_quiet (fail)
        go_wp2
        refine ⟨⟨k + 1, by rw [HX.out]; omega, by go_num, take_eq_snocS HKT.out hkx hky HE.out, _, rfl⟩, by simp [intOf]; omega⟩
      · have HE := Lib.hid he
        have hne : ((xs[k]) == (ys[k])) = false := by rw [beq_eq_false_iff_ne]; exact he
        have hf : decide (xs = ys) = false := by
          rw [decide_eq_false_iff_not]; rintro rfl; exact he rfl
        have HF := Lib.hid hf
        clear he hf
        go_wp2
        go_quiet (fail)
        go_wp2
        go_ret
        exact ⟨by rw [HF.out]; rfl, j + nq, by rw [World.drewN_drewN]⟩
    · obtain rfl : k = n := by have := HX.out; omega
      have ht : decide (xs = ys) = true := by
        rw [decide_eq_true_eq]
        have := HKT.out
        rwa [List.take_of_length_le (by rw [HX.out]; omega), List.take_of_length_le (by rw [HY.out]; omega)] at this
      have HF := Lib.hid ht
      clear ht
      go_wp2
      go_ret
      exact ⟨by rw [HF.out]; rfl, _, rfl⟩

theorem eqstrs_any (A B : Option Addr) (n m c d H : Nat) (xs ys : List (List UInt8)) (w : World) (hx : xs.length = n) (hy : ys.length = m) (hA : Row w H A (xs.map sv)) (hB : Row w H B (ys.map sv)) (hm : n ≤ maxLen) :
    Calls Tryz.prog 107 #[.slice A n c, .slice B m d] w (Drewn w (.bool (decide (xs = ys)))) := by
  by_cases h : n = m
  · subst h
    exact eqstrs_len A B n c d H xs ys w hx hy hA hB hm
  · have hf : decide (xs = ys) = false := by
      rw [decide_eq_false_iff_not]; rintro rfl; omega
    rw [hf]
    exact eqstrs_ne A B n m c d w h

end Go.Proofs.YtmbcbfalgdgmjaaGreatDoor

namespace Go.Proofs.YtmbcbfalgdgmjaaGreatDoor
open Go.RowKit

set_option maxRecDepth 4000 in
set_option maxHeartbeats 2000000 in
theorem dsame_wide (x y : DV) (a b : Dt) (w : World) (hx : DataAt w w.heap.size x a) (hy : DataAt w w.heap.size y b) (la : Wide a) (lb : Wide b) :
    Calls Tryz.prog 84 #[x.val a, y.val b] w (Gave w (.bool (sameD a b))) := by
  have k1 : a.bytes.length ≤ maxLen := Nat.le_trans hx.lb hx.kb
  have k2 : a.nums.length ≤ maxLen := Nat.le_trans hx.ln hx.kn
  have HC1 := Lib.hid (fun W (h : Boxes w x y a b W) => eqbytes_any x.Ab y.Ab a.bytes.length b.bytes.length x.cb y.cb w.heap.size a.bytes b.bytes W rfl rfl h.da.b h.db.b )
  have HC2 := Lib.hid (fun W (h : Boxes w x y a b W) => eqints_any x.An y.An a.nums.length b.nums.length x.cn y.cn w.heap.size a.nums b.nums W rfl rfl h.da.n h.db.n k2)
  have HC3 := Lib.hid (fun W (h : Boxes w x y a b W) => eqstrs_any x.At y.At a.texts.length b.texts.length x.ct y.ct w.heap.size a.texts b.texts W rfl rfl h.da.t h.db.t la.t)
  have HC4 := Lib.hid (fun W (h : Boxes w x y a b W) => equal_wide x.Ah y.Ah a.host.length b.host.length x.ch y.ch w.heap.size a.host b.host W rfl rfl h.da.h h.db.h (Nat.le_trans (Nat.le_add_right _ 2) h.size) la.h lb.h)
  have HC5 := Lib.hid (fun W (h : Boxes w x y a b W) => equal_wide x.Am y.Am a.mail.length b.mail.length x.cm y.cm w.heap.size a.mail b.mail W rfl rfl h.da.m h.db.m (Nat.le_trans (Nat.le_add_right _ 2) h.size) la.m lb.m)
  have HX := Lib.hid (Boxes.made hx hy)
  have HS := Lib.hid (show sameD a b = (decide (a.bytes = b.bytes) && (decide (a.nums = b.nums) && (decide (a.texts = b.texts) && (eqN a.host b.host && eqN a.mail b.mail)))) from rfl)
  clear k1 k2 hx hy la lb
  go_enter Tryz.func84, Tryz.ntmps84
  go_wp2_with fail
  obtain ⟨W0, hW0⟩ : ∃ W0, W0 = (w.alloc (.cells #[.slice x.Ab a.bytes.length x.cb, .slice x.Ah a.host.length x.ch, .slice x.Am a.mail.length x.cm, .slice x.An a.nums.length x.cn, .slice x.At a.texts.length x.ct] 34)).alloc (.cells #[.slice y.Ab b.bytes.length y.cb, .slice y.Ah b.host.length y.ch, .slice y.Am b.mail.length y.cm, .slice y.An b.nums.length y.cn, .slice y.At b.texts.length y.ct] 34) := ⟨_, rfl⟩
  rw [← hW0]
  have hx0 : Boxes w x y a b W0 := by rw [hW0]; exact HX.out
  clear HX hW0
  refine (HC1.out W0 hx0).mono ?_
  intro e W1 hO
  obtain ⟨he, hb⟩ := gave_told hO
  have hx1 := hx0.step hb
  clear hO hb hx0
  cases hv : decide (a.bytes = b.bytes) with
  | false =>
    rw [hv] at he HS
    subst he
    have HB := Lib.hid hx1.below
    clear hx1
    go_wp2
    go_ret
    exact ⟨by rw [HS.out]; rfl, HB.out⟩
  | true =>
  rw [hv] at he HS
  subst he
  have p3 : W1.cell? ⟨w.heap.size, 3, none⟩ = some (.slice x.An a.nums.length x.cn) := hx1.ba.cell 3
  have q3 : W1.cell? ⟨w.heap.size + 1, 3, none⟩ = some (.slice y.An b.nums.length y.cn) := hx1.bb.cell 3
  go_wp2_with fail
  refine (HC2.out W1 hx1).mono ?_
  intro e W2 hO
  obtain ⟨he, hb⟩ := gave_drewn hO
  have hx2 := hx1.step hb
  clear hO hb hx1 p3 q3
  cases hv : decide (a.nums = b.nums) with
  | false =>
    rw [hv] at he HS
    subst he
    have HB := Lib.hid hx2.below
    clear hx2
    go_wp2
    go_ret
    exact ⟨by rw [HS.out]; rfl, HB.out⟩
  | true =>
  rw [hv] at he HS
  subst he
  have p4 : W2.cell? ⟨w.heap.size, 4, none⟩ = some (.slice x.At a.texts.length x.ct) := hx2.ba.cell 4
  have q4 : W2.cell? ⟨w.heap.size + 1, 4, none⟩ = some (.slice y.At b.texts.length y.ct) := hx2.bb.cell 4
  go_wp2_with fail
  refine (HC3.out W2 hx2).mono ?_
  intro e W3 hO
  obtain ⟨he, hb⟩ := gave_drewn hO
  have hx3 := hx2.step hb
  clear hO hb hx2 p4 q4
  cases hv : decide (a.texts = b.texts) with
  | false =>
    rw [hv] at he HS
    subst he
    have HB := Lib.hid hx3.below
    clear hx3
    go_wp2
    go_ret
    exact ⟨by rw [HS.out]; rfl, HB.out⟩
  | true =>
  rw [hv] at he HS
  subst he
  have p1 : W3.cell? ⟨w.heap.size, 1, none⟩ = some (.slice x.Ah a.host.length x.ch) := hx3.ba.cell 1
  have q1 : W3.cell? ⟨w.heap.size + 1, 1, none⟩ = some (.slice y.Ah b.host.length y.ch) := hx3.bb.cell 1
  go_wp2_with fail
  refine (HC4.out W3 hx3).mono ?_
  intro e W4 hO
  obtain ⟨he, hb⟩ := hO
  have hx4 := hx3.step hb
  clear hb hx3 p1 q1
  cases hv : eqN a.host b.host with
  | false =>
    rw [hv] at he HS
    subst he
    have HB := Lib.hid hx4.below
    clear hx4
    go_wp2
    go_ret
    exact ⟨by rw [HS.out]; rfl, HB.out⟩
  | true =>
  rw [hv] at he HS
  subst he
  have p2 : W4.cell? ⟨w.heap.size, 2, none⟩ = some (.slice x.Am a.mail.length x.cm) := hx4.ba.cell 2
  have q2 : W4.cell? ⟨w.heap.size + 1, 2, none⟩ = some (.slice y.Am b.mail.length y.cm) := hx4.bb.cell 2
  go_wp2_with fail
  refine (HC5.out W4 hx4).mono ?_
  intro e W5 hO
  obtain ⟨he, hb⟩ := hO
  have hx5 := hx4.step hb
  clear hb hx4 p2 q2
  subst he
  have HB := Lib.hid hx5.below
  clear hx5
  go_wp2
  go_ret
  refine ⟨?_, HB.out⟩
  rw [HS.out]
  simp

theorem dsame_any (x y : DV) (a b : Dt) (w : World) (hx : DataAt w w.heap.size x a) (hy : DataAt w w.heap.size y b) (la : Sized a) (lb : Sized b) :
    Calls Tryz.prog 84 #[x.val a, y.val b] w (Gave w (.bool (sameD a b))) := dsame_wide x y a b w hx hy la.wide lb.wide

end Go.Proofs.YtmbcbfalgdgmjaaGreatDoor

namespace Go.Proofs.YtmbcbfalgdgmjaaGreatDoor
open Go.RowKit

/-- Is data in a list? -/
def hasD (l : List Dt) (d : Dt) : Bool := l.any (fun e => sameD d e)
/-- Is each of a in b? -/
def withinD (a b : List Dt) : Bool := a.all fun x => hasD b x
def sameS (a b : List Dt) : Bool := withinD a b && withinD b a

/-- What 'has' lays for its closure. -/
structure HasBox (w : World) (g f : Nat) (x : DV) (a : Dt) : Prop where
  bg : Whole w g 34 [x.vb a, x.vh a, x.vm a, x.vn a, x.vt a]
  bf : Whole w f 66 [.func (.func 84) #[] #[]]
  d : DataAt w w.heap.size x a
theorem HasBox.below {w w' : World} {g f : Nat} {x : DV} {a : Dt} (h : HasBox w g f x a) (hb : Below w.heap.size w w') : HasBox w' g f x a :=
  ⟨h.bg.below hb h.bg.lt, h.bf.below hb h.bf.lt, (h.d.below hb).mono hb.size⟩

































/-- What IndexFunc knows ahead of a round. -/
def IndexRel (w : World) (ps : List (DV × Dt)) (P : Dt → Bool) (i : Value) (wr : World) : Prop :=
  ∃ k : Nat, k ≤ ps.length ∧ i = .int .i64 k ∧ (dats (ps.take k)).any P = false ∧ Below w.heap.size w wr
def IndexOut (w : World) (b : Bool) (e : Ending) (w' : World) : Prop := ∃ i : Int, e = .returned (.int .i64 i) ∧ decide (0 ≤ i) = b ∧ Below w.heap.size w w'
theorem any_snoc {ps : List (DV × Dt)} {k : Nat} (P : Dt → Bool) (hk : k < ps.length) (h : (dats (ps.take k)).any P = false) :
    (P (ps[k]).2 = true → (dats ps).any P = true) ∧ (P (ps[k]).2 = false → (dats (ps.take (k + 1))).any P = false) := by
  constructor
  · intro hp
    rw [List.any_eq_true]
    exact ⟨(ps[k]).2, List.mem_map.2 ⟨ps[k], List.getElem_mem hk, rfl⟩, hp⟩
  · intro hp
    rw [List.take_succ_eq_append_getElem hk, dats_append, List.any_append, h]
    simpa [dats] using hp






























































































/-- What 'within' lays for its closure. -/
structure WithinBox (w : World) (g f : Nat) (B : Option Addr) (cb : Nat) (bs : List (DV × Dt)) : Prop where
  bg : Whole w g 30 [.slice B bs.length cb]
  bf : Whole w f 66 [.func (.func 84) #[] #[]]
  d : DsAt w w.heap.size B bs
theorem WithinBox.below {w w' : World} {g f : Nat} {B : Option Addr} {cb : Nat} {bs : List (DV × Dt)} (h : WithinBox w g f B cb bs) (hb : Below w.heap.size w w') : WithinBox w' g f B cb bs :=
  ⟨h.bg.below hb h.bg.lt, h.bf.below hb h.bf.lt, (h.d.below hb).mono hb.size⟩

























































































































































end Go.Proofs.YtmbcbfalgdgmjaaGreatDoor

namespace Go.Proofs.YtmbcbfalgdgmjaaGreatDoor
open Go.RowKit

set_option maxHeartbeats 400000 in
theorem sized_yes (s : Int) (w : World) (h1 : 1 ≤ s) (h2 : s ≤ 7) :
    Calls Tryz.prog 147 #[.int .i64 s] w fun e w' => e = .returned (.bool true) ∧ w = w' := by
  go_enter Tryz.func147, Tryz.ntmps147
  go_wp2
  go_ret
  exact ⟨rfl, rfl⟩

set_option maxHeartbeats 400000 in
theorem sized_no (s : Int) (w : World) (h : s < 1 ∨ 7 < s) :
    Calls Tryz.prog 147 #[.int .i64 s] w fun e w' => e = .returned (.bool false) ∧ w = w' := by
  rcases h with h | h
  · go_enter Tryz.func147, Tryz.ntmps147
    go_wp2
    go_ret
    exact ⟨rfl, rfl⟩
  · have h1 : ¬ s < 1 := by omega
    have hd : decide (s ≤ 7) = false := by simp; omega
    go_enter Tryz.func147, Tryz.ntmps147
    go_wp2
    go_ret
    exact ⟨rfl, rfl⟩

set_option maxHeartbeats 400000 in
theorem fits_any (n s : Int) (w : World) :
    Calls Tryz.prog 140 #[.int .i64 n, .int .i64 s] w fun e w' => e = .returned (.bool (fitB n s)) ∧ w = w' := by
  by_cases hs : 1 ≤ s ∧ s ≤ 7
  · obtain ⟨h1, h2⟩ := hs
    by_cases hn : 0 ≤ n
    · go_enter Tryz.func140, Tryz.ntmps140
      go_wp2_with (go_at_call 147; refine (sized_yes _ _ h1 h2).mono ?_; rintro e w' ⟨rfl, rfl⟩)
      go_ret
      exact ⟨by rw [← fitB_shr h1 h2 hn]; rfl, rfl⟩
    · have hd : decide (0 ≤ n) = false := by simp; omega
      go_enter Tryz.func140, Tryz.ntmps140
      go_wp2_with (go_at_call 147; refine (sized_yes _ _ h1 h2).mono ?_; rintro e w' ⟨rfl, rfl⟩)
      go_ret
      exact ⟨by rw [fitB_neg (by omega)]; rfl, rfl⟩
  · have hs' : s < 1 ∨ 7 < s := by omega
    go_enter Tryz.func140, Tryz.ntmps140
    go_wp2_with (go_at_call 147; refine (sized_no _ _ hs').mono ?_; rintro e w' ⟨rfl, rfl⟩)
    go_ret
    exact ⟨by rw [fitB_no_size hs]; rfl, rfl⟩

set_option maxHeartbeats 400000 in
theorem ref_fits_any (n s : Int) (w : World) (hn : n ≤ 9223372036854775807) :
    Calls Tryz.prog 94 #[.int .i64 n, .int .i64 s] w fun e w' => e = .returned (.bool (fitB n s)) ∧ w = w' := by
  by_cases hs : 1 ≤ s ∧ s ≤ 7
  · obtain ⟨h1, h2⟩ := hs
    by_cases h0 : 0 ≤ n
    · obtain ⟨m, rfl⟩ : ∃ m : Nat, s = m := ⟨s.toNat, by omega⟩
      have d1 : decide ((m : Int) < 1) = false := by simp; omega
      have d2 : decide (7 < (m : Int)) = false := by simp; omega
      have d3 : decide (n < 0) = false := by simp; omega
      go_enter Tryz.func94, Tryz.ntmps94
      go_wp2
      go_loop [0, 5] (fun v i => ∃ k : Nat, k ≤ m ∧ i = .int .i64 k ∧ v = .int .i64 (n / 2 ^ (8 * k))) (fun _ i => m - (intOf i).toNat)
      case atStart => exact ⟨0, by omega, rfl, by simp⟩
      case round =>
        obtain ⟨k, hk, rfl, rfl⟩ := hrel
        have g1 := div_nonneg' h0 k
        have g2 := div_le' h0 k
        by_cases hlt : k < m
        · go_wp2
          go_round
          case rel => exact ⟨k + 1, by omega, by go_num, by rw [← div_step]⟩
          case measure => simp [intOf]; omega
        · obtain rfl : k = m := by omega
          go_wp2
          go_ret
          exact ⟨by rw [← fitB_shr h1 h2 h0]; rfl, rfl⟩
    · have d1 : decide (s < 1) = false := by simp; omega
      have d2 : decide (7 < s) = false := by simp; omega
      have d3 : decide (n < 0) = true := by simp; omega
      go_enter Tryz.func94, Tryz.ntmps94
      go_wp2
      go_ret
      exact ⟨by rw [fitB_neg (by omega)]; rfl, rfl⟩
  · rcases (show s < 1 ∨ 7 < s by omega) with h | h
    · have d1 : decide (s < 1) = true := by simp; omega
      go_enter Tryz.func94, Tryz.ntmps94
      go_wp2
      go_ret
      exact ⟨by rw [fitB_no_size hs]; rfl, rfl⟩
    · have d1 : decide (s < 1) = false := by simp; omega
      have d2 : decide (7 < s) = true := by simp; omega
      go_enter Tryz.func94, Tryz.ntmps94
      go_wp2
      go_ret
      exact ⟨by rw [fitB_no_size hs]; rfl, rfl⟩

end Go.Proofs.YtmbcbfalgdgmjaaGreatDoor

namespace Go.Proofs.YtmbcbfalgdgmjaaGreatDoor
open Go.RowKit

/-- What a type has. -/
structure Sh where
  ahead : Nat
  host : Bool
  mail : Bool
  short : Bool
  behind : Nat
  texts : Bool
  least : Nat
  most : Nat
abbrev Sh.val (s : Sh) : Value := .agg #[.int .i64 s.ahead, .bool s.host, .bool s.mail, .bool s.short, .int .i64 s.behind, .bool s.texts, .int .i64 s.least, .int .i64 s.most]
def shN (k : Int) : Sh :=
  if k = 1 then ⟨0, false, false, false, 0, false, 4, 4⟩
  else if k = 28 then ⟨0, false, false, false, 0, false, 16, 16⟩
  else if k = 2 ∨ k = 5 ∨ k = 12 then ⟨0, true, false, true, 0, false, 0, 0⟩
  else if k = 15 then ⟨1, true, false, true, 0, false, 0, 0⟩
  else if k = 6 then ⟨0, true, true, true, 5, false, 0, 0⟩
  else if k = 16 then ⟨0, false, false, false, 0, true, 0, 0⟩
  else if k = 33 then ⟨3, true, false, false, 0, false, 0, 0⟩
  else ⟨0, false, false, false, 0, false, 0, 65535⟩
/-- May a type be so? -/
def kindB (k : Int) : Bool := decide (1 ≤ k ∧ k ≤ 65535)

theorem shN_cases (k : Int) : k = 1 ∨ k = 28 ∨ k = 2 ∨ k = 5 ∨ k = 12 ∨ k = 15 ∨ k = 6 ∨ k = 16 ∨ k = 33 ∨ ((k == 1) = false ∧ (k == 28) = false ∧ (k == 2) = false ∧ (k == 5) = false ∧ (k == 12) = false ∧ (k == 15) = false ∧ (k == 6) = false ∧ (k == 16) = false ∧ (k == 33) = false) := by
  simp only [beq_eq_false_iff_ne]
  omega
theorem shN_other {k : Int} (h : (k == 1) = false ∧ (k == 28) = false ∧ (k == 2) = false ∧ (k == 5) = false ∧ (k == 12) = false ∧ (k == 15) = false ∧ (k == 6) = false ∧ (k == 16) = false ∧ (k == 33) = false) : shN k = ⟨0, false, false, false, 0, false, 0, 65535⟩ := by
  simp only [beq_eq_false_iff_ne] at h
  obtain ⟨h1, h2, h3, h4, h5, h6, h7, h8, h9⟩ := h
  unfold shN
  rw [if_neg h1, if_neg h2, if_neg (by omega), if_neg h6, if_neg h7, if_neg h8, if_neg h9]

set_option maxHeartbeats 400000 in
theorem shapeOf_any (k : Int) (w : World) : Calls Tryz.prog 122 #[.int .i64 k] w (Gave w (shN k).val) := by
  rcases shN_cases k with rfl | rfl | rfl | rfl | rfl | rfl | rfl | rfl | rfl | h
  case inr.inr.inr.inr.inr.inr.inr.inr.inr =>
    rw [shN_other h]
    obtain ⟨h1, h2, h3, h4, h5, h6, h7, h8, h9⟩ := h
    go_enter Tryz.func122, Tryz.ntmps122
    go_wp2
    exact ⟨rfl, (Sh.mk 0 false false false 0 false 0 65535).val, by simp [results, Tryz.results122, go_sem], rfl, (Below.refl _ _).alloc (Nat.le_refl _) _⟩
  all_goals
    go_enter Tryz.func122, Tryz.ntmps122
    go_wp2
    exact ⟨rfl, (shN _).val, by simp [results, Tryz.results122, go_sem, shN], rfl, (Below.refl _ _).alloc (Nat.le_refl _) _⟩

theorem kindB_fit {k : Int} (h : k ≠ 0) : fitB k 2 = kindB k := by
  unfold fitB kindB
  rw [show (2 : Int) ^ (8 * (2 : Int).toNat) = 65536 from rfl]
  congr 1
  apply propext
  omega
set_option maxHeartbeats 400000 in
theorem isKind_any (k : Int) (w : World) : Calls Tryz.prog 123 #[.int .i64 k] w (Told w (.bool (kindB k))) := by
  have HF := Lib.hid (fun W => fits_any k 2 W)
  by_cases h : k = 0
  · subst h
    go_enter Tryz.func123, Tryz.ntmps123
    go_wp2
    go_ret
    exact ⟨rfl, rfl⟩
  · have t1 : (k != 0) = true := by rw [bne_iff_ne]; exact h
    rw [kindB_fit h] at HF
    go_enter Tryz.func123, Tryz.ntmps123
    go_wp2_with fail
    refine (HF.out _).mono ?_
    rintro e w' ⟨rfl, rfl⟩
    go_wp2
    go_ret
    exact ⟨by simp, rfl⟩

end Go.Proofs.YtmbcbfalgdgmjaaGreatDoor

namespace Go.Proofs.YtmbcbfalgdgmjaaGreatDoor
open Go.RowKit

def SizeRel (n : List (List UInt8)) (s i : Value) : Prop := ∃ k : Nat, k ≤ n.length ∧ i = .int .i64 k ∧ s = .int .i64 (szN (n.take k))

set_option maxHeartbeats 400000 in
theorem size_any (A : Option Addr) (m c H : Nat) (n : List (List UInt8)) (w : World) (hl : n.length = m) (hA : Row w H A (n.map sv)) (hs : szN n ≤ maxLen) :
    Calls Tryz.prog 75 #[.slice A m c] w (Told w (.int .i64 (szN n))) := by
  subst hl
  unfold maxLen at hs
  have hlen := length_lt_szN n
  have HA := Lib.hid hA
  clear hA
  go_enter Tryz.func75, Tryz.ntmps75
  go_wp2
  go_loop [3, 8] (SizeRel n) (fun _ i => n.length - (intOf i).toNat)
  case atStart => exact ⟨0, Nat.zero_le _, rfl, by simp [szN]⟩
  case round =>
    obtain ⟨k, hk, rfl, rfl⟩ := hrel
    by_cases hlt : k < n.length
    · obtain ⟨b, off, rfl, _, hc⟩ := HA.out.name_at hlt
      have HS := Lib.hid (szN_take_succ hlt)
      have hle := szN_take_le n (k + 1)
      rw [HS.out] at hle
      go_wp2
      refine ⟨⟨k + 1, by omega, by go_num, ?_⟩, by simp [intOf]; omega⟩
      rw [HS.out]
      go_num
    · obtain rfl : k = n.length := by omega
      rw [List.take_length]
      go_wp2
      go_ret
      exact ⟨rfl, rfl⟩

set_option maxHeartbeats 400000 in
theorem ref_size_any (A : Option Addr) (m c H : Nat) (n : List (List UInt8)) (w : World) (hl : n.length = m) (hA : Row w H A (n.map sv)) (hs : szN n ≤ maxLen) :
    Calls Tryz.prog 49 #[.slice A m c] w (Told w (.int .i64 (szN n))) := by
  subst hl
  unfold maxLen at hs
  have hlen := length_lt_szN n
  have HA := Lib.hid hA
  clear hA
  go_enter Tryz.func49, Tryz.ntmps49
  go_wp2
  go_loop [3, 4] (SizeRel n) (fun _ i => n.length - (intOf i).toNat)
  case atStart => exact ⟨0, Nat.zero_le _, rfl, by simp [szN]⟩
  case round =>
    obtain ⟨k, hk, rfl, rfl⟩ := hrel
    by_cases hlt : k < n.length
    · obtain ⟨b, off, rfl, _, hc⟩ := HA.out.name_at hlt
      have HS := Lib.hid (szN_take_succ hlt)
      have hle := szN_take_le n (k + 1)
      rw [HS.out] at hle
      go_wp2
      refine ⟨⟨k + 1, by omega, by go_num, ?_⟩, by simp [intOf]; omega⟩
      rw [HS.out]
      go_num
    · obtain rfl : k = n.length := by omega
      rw [List.take_length]
      go_wp2
      go_ret
      exact ⟨rfl, rfl⟩

end Go.Proofs.YtmbcbfalgdgmjaaGreatDoor

namespace Go.Proofs.YtmbcbfalgdgmjaaGreatDoor
open Go.RowKit

set_option maxHeartbeats 400000 in
theorem fits_label (l : List UInt8) (w : World) (hm : l.length ≤ maxLen) :
    Calls Tryz.prog 74 #[.string ⟨l.toArray⟩] w (Told w (.bool (fitL l))) := by
  unfold maxLen at hm
  by_cases h1 : 1 ≤ l.length
  · by_cases h2 : l.length ≤ 63
    · have HF := Lib.hid (show fitL l = true by simp [fitL, h1, h2])
      have d2 : decide ((l.length : Int) ≤ 63) = true := by simp; omega
      go_enter Tryz.func74, Tryz.ntmps74
      go_wp2
      go_ret
      exact ⟨by rw [HF.out]; rfl, rfl⟩
    · have HF := Lib.hid (show fitL l = false by simp [fitL]; omega)
      have d2 : decide ((l.length : Int) ≤ 63) = false := by simp; omega
      go_enter Tryz.func74, Tryz.ntmps74
      go_wp2
      go_ret
      exact ⟨by rw [HF.out]; rfl, rfl⟩
  · have HF := Lib.hid (show fitL l = false by simp [fitL]; omega)
    go_enter Tryz.func74, Tryz.ntmps74
    go_wp2
    go_ret
    exact ⟨by rw [HF.out]; rfl, rfl⟩

theorem all_snoc {n : List (List UInt8)} {k : Nat} (p : List UInt8 → Bool) (h : k < n.length) (ha : (n.take k).all p = true) (hp : p n[k] = true) : (n.take (k + 1)).all p = true := by
  rw [List.take_succ_eq_append_getElem h, List.all_append, ha]
  simp [hp]
theorem all_not {n : List (List UInt8)} {k : Nat} (p : List UInt8 → Bool) (h : k < n.length) (hp : p n[k] = false) : n.all p = false := by
  rw [List.all_eq_false]
  exact ⟨n[k], List.getElem_mem h, by simp [hp]⟩

def EveryRel (n : List (List UInt8)) (i : Value) : Prop := ∃ k : Nat, k ≤ n.length ∧ i = .int .i64 k ∧ (n.take k).all fitL = true

set_option maxHeartbeats 400000 in
theorem every_any (A : Option Addr) (m c H : Nat) (n : List (List UInt8)) (w : World) (hl : n.length = m) (hA : Row w H A (n.map sv)) (hs : szN n ≤ maxLen) :
    Calls Tryz.prog 73 #[.slice A m c, .func (.func 74) #[] #[]] w (Told w (.bool (n.all fitL))) := by
  subst hl
  unfold maxLen at hs
  have hlen := length_lt_szN n
  have HA := Lib.hid hA
  clear hA
  go_enter Tryz.func73, Tryz.ntmps73
  go_wp2
  go_loop [9] (EveryRel n) (fun i => n.length - (intOf i).toNat)
  case atStart => exact ⟨0, Nat.zero_le _, rfl, by simp⟩
  case round =>
    obtain ⟨k, hk, rfl, hall⟩ := hrel
    have HK := Lib.hid hall
    clear hall
    by_cases hlt : k < n.length
    · obtain ⟨b, off, rfl, _, hc⟩ := HA.out.name_at hlt
      have hle := len_le_szN hlt
      cases hf : fitL n[k]
      · have hct := fun W => fits_label n[k] W (by unfold maxLen; omega)
        rw [hf] at hct
        have HC := Lib.hid hct
        have HF := Lib.hid (all_not fitL hlt hf)
        clear hct hf
        go_wp2_with (go_at_call 74; refine (HC.out _).mono ?_; rintro e w' ⟨rfl, rfl⟩)
        go_ret
        exact ⟨by rw [HF.out]; rfl, rfl⟩
      · have hct := fun W => fits_label n[k] W (by unfold maxLen; omega)
        rw [hf] at hct
        have HC := Lib.hid hct
        have HF := Lib.hid (all_snoc fitL hlt HK.out hf)
        clear hct hf
        go_wp2_with (go_at_call 74; refine (HC.out _).mono ?_; rintro e w' ⟨rfl, rfl⟩)
        exact ⟨⟨k + 1, by omega, by go_num, HF.out⟩, by simp [intOf]; omega⟩
    · obtain rfl : k = n.length := by omega
      go_wp2
      go_ret
      exact ⟨ret_bool (by have h := HK.out; rw [List.take_length] at h; exact h.symm), rfl⟩

set_option maxHeartbeats 400000 in
theorem sound_any (A : Option Addr) (m c H : Nat) (n : List (List UInt8)) (w : World) (hl : n.length = m) (hA : Row w H A (n.map sv)) (hs : szN n ≤ maxLen) :
    Calls Tryz.prog 50 #[.slice A m c] w (Told w (.bool (soundN n))) := by
  have hev := fun W h => every_any A m c H n W hl h hs
  have hsz := fun W h => size_any A m c H n W hl h hs
  have HA := Lib.hid hA
  have HZ := Lib.hid hsz
  clear hA hl hsz
  cases hf : n.all fitL
  · rw [hf] at hev
    have HE := Lib.hid hev
    have HF := Lib.hid (show soundN n = false by simp [soundN, hf])
    clear hev hf
    go_enter Tryz.func50, Tryz.ntmps50
    go_wp2_with (first
      | (go_at_call 73; refine (HE.out _ HA.out).mono ?_; rintro e w' ⟨rfl, rfl⟩)
      | (go_at_call 75; refine (HZ.out _ HA.out).mono ?_; rintro e w' ⟨rfl, rfl⟩))
    go_ret
    exact ⟨by rw [HF.out]; rfl, rfl⟩
  · rw [hf] at hev
    have HE := Lib.hid hev
    have HF := Lib.hid (show soundN n = decide (szN n ≤ 255) by simp [soundN, hf])
    clear hev hf
    go_enter Tryz.func50, Tryz.ntmps50
    go_wp2_with (first
      | (go_at_call 73; refine (HE.out _ HA.out).mono ?_; rintro e w' ⟨rfl, rfl⟩)
      | (go_at_call 75; refine (HZ.out _ HA.out).mono ?_; rintro e w' ⟨rfl, rfl⟩))
    go_ret
    refine ⟨ret_bool ?_, rfl⟩
    rw [HF.out]
    simp
    omega

set_option maxHeartbeats 400000 in
theorem ref_sound_any (A : Option Addr) (m c H : Nat) (n : List (List UInt8)) (w : World) (hl : n.length = m) (hA : Row w H A (n.map sv)) (hs : szN n ≤ maxLen) :
    Calls Tryz.prog 24 #[.slice A m c] w (Told w (.bool (soundN n))) := by
  have hsz := fun W h => ref_size_any A m c H n W hl h hs
  subst hl
  unfold maxLen at hs
  have hlen := length_lt_szN n
  have HA := Lib.hid hA
  have HZ := Lib.hid hsz
  clear hA hsz
  by_cases h127 : n.length ≤ 127
  · have d1 : decide (127 < (n.length : Int)) = false := by simp; omega
    go_enter Tryz.func24, Tryz.ntmps24
    go_wp2
    go_loop [3] (EveryRel n) (fun i => n.length - (intOf i).toNat)
    case atStart => exact ⟨0, Nat.zero_le _, rfl, by simp⟩
    case round =>
      obtain ⟨k, hk, rfl, hall⟩ := hrel
      have HK := Lib.hid hall
      clear hall
      by_cases hlt : k < n.length
      · obtain ⟨b, off, rfl, _, hc⟩ := HA.out.name_at hlt
        have hle := len_le_szN hlt
        by_cases e1 : 1 ≤ (n[k]).length
        · have d2 : decide (((n[k]).length : Int) < 1) = false := by simp; omega
          by_cases e2 : (n[k]).length ≤ 63
          · have d3 : decide (63 < ((n[k]).length : Int)) = false := by simp; omega
            have HF := Lib.hid (all_snoc fitL hlt HK.out (by simp [fitL]; omega))
            go_wp2
            exact ⟨⟨k + 1, by omega, by go_num, HF.out⟩, by simp [intOf]; omega⟩
          · have d3 : decide (63 < ((n[k]).length : Int)) = true := by simp; omega
            have HF := Lib.hid (all_not fitL hlt (by simp [fitL]; omega))
            go_wp2
            go_ret
            exact ⟨ret_bool (by simp [soundN, HF.out]), rfl⟩
        · have d2 : decide (((n[k]).length : Int) < 1) = true := by simp; omega
          have HF := Lib.hid (all_not fitL hlt (by simp [fitL]; omega))
          go_wp2
          go_ret
          exact ⟨ret_bool (by simp [soundN, HF.out]), rfl⟩
      · obtain rfl : k = n.length := by omega
        go_wp2_with (go_at_call 49; refine (HZ.out _ HA.out).mono ?_; rintro e w' ⟨rfl, rfl⟩)
        go_ret
        refine ⟨ret_bool ?_, rfl⟩
        have h := HK.out
        rw [List.take_length] at h
        simp [soundN, h]
        omega
  · have HF := Lib.hid (soundN_long (n := n) (by omega))
    have d1 : decide (127 < (n.length : Int)) = true := by simp; omega
    go_enter Tryz.func24, Tryz.ntmps24
    go_wp2
    go_ret
    exact ⟨ret_bool HF.out.symm, rfl⟩

end Go.Proofs.YtmbcbfalgdgmjaaGreatDoor

namespace Go.Proofs.YtmbcbfalgdgmjaaGreatDoor
open Go.RowKit

def sizeAt (ah j : Nat) : Int := if j < ah then 2 else 4
/-- Do the numbers fit, each into its bytes? -/
def numsOk (ah : Nat) (l : List Int) : Bool := (List.range l.length).all fun j => fitB (l.getD j 0) (sizeAt ah j)
def soundBs (s : Sh) (l : List UInt8) : Bool := decide (s.least ≤ l.length) && decide (l.length ≤ s.most)
def soundNm (n : List (List UInt8)) (had : Bool) : Bool := decide (n.length = 0) || (had && soundN n)
def soundNs (s : Sh) (l : List Int) : Bool := decide (l.length = s.ahead + s.behind) && numsOk s.ahead l
def soundTs (s : Sh) (l : List (List UInt8)) : Bool := if s.texts = true then l.all (fun t => decide (t.length ≤ 255)) && (decide (1 ≤ l.length) && decide (l.length ≤ 64)) else decide (l.length = 0)
/-- Is data just what the type has? -/
def soundD (k : Int) (d : Dt) : Bool := kindB k && (soundBs (shN k) d.bytes && (soundNm d.host (shN k).host && (soundNm d.mail (shN k).mail && (soundNs (shN k) d.nums && soundTs (shN k) d.texts))))

theorem all_range_snoc {p : Nat → Bool} {k : Nat} (h : (List.range k).all p = true) (hp : p k = true) : (List.range (k + 1)).all p = true := by
  rw [List.range_succ, List.all_append, h]
  simp [hp]
theorem all_range_not {p : Nat → Bool} {k n : Nat} (h : k < n) (hp : p k = false) : (List.range n).all p = false := by
  rw [List.all_eq_false]
  exact ⟨k, List.mem_range.2 h, by simp [hp]⟩

set_option maxHeartbeats 400000 in
theorem soundBytes_any (s : Sh) (A : Option Addr) (m c : Nat) (l : List UInt8) (w : World) (hl : l.length = m) :
    Calls Tryz.prog 124 #[s.val, .slice A m c] w (Gave w (.bool (soundBs s l))) := by
  obtain ⟨ah, s1, s2, s3, be, s5, le, mo⟩ := s
  have HB := Lib.hid ((Below.refl _ w).alloc (Nat.le_refl _) (.cells #[.int .i64 ah, .bool s1, .bool s2, .bool s3, .int .i64 be, .bool s5, .int .i64 le, .int .i64 mo] 139))
  subst hl
  by_cases h1 : le ≤ l.length
  · have d1 : decide ((le : Int) ≤ (l.length : Int)) = true := by simp; omega
    by_cases h2 : l.length ≤ mo
    · have d2 : decide ((l.length : Int) ≤ (mo : Int)) = true := by simp; omega
      have HF := Lib.hid (show soundBs ⟨ah, s1, s2, s3, be, s5, le, mo⟩ l = true by simp [soundBs]; omega)
      go_enter Tryz.func124, Tryz.ntmps124
      go_wp2
      go_ret
      exact ⟨by rw [HF.out]; rfl, HB.out⟩
    · have d2 : decide ((l.length : Int) ≤ (mo : Int)) = false := by simp; omega
      have HF := Lib.hid (show soundBs ⟨ah, s1, s2, s3, be, s5, le, mo⟩ l = false by simp [soundBs]; omega)
      go_enter Tryz.func124, Tryz.ntmps124
      go_wp2
      go_ret
      exact ⟨by rw [HF.out]; rfl, HB.out⟩
  · have d1 : decide ((le : Int) ≤ (l.length : Int)) = false := by simp; omega
    have HF := Lib.hid (show soundBs ⟨ah, s1, s2, s3, be, s5, le, mo⟩ l = false by simp [soundBs]; omega)
    go_enter Tryz.func124, Tryz.ntmps124
    go_wp2
    go_ret
    exact ⟨by rw [HF.out]; rfl, HB.out⟩

set_option maxHeartbeats 400000 in
theorem every_wide (A : Option Addr) (m c H : Nat) (n : List (List UInt8)) (w : World) (hl : n.length = m) (hA : Row w H A (n.map sv)) (hlen : n.length ≤ 140737488351232) (hs : ∀ k (h : k < n.length), (n[k]).length ≤ maxLen) :
    Calls Tryz.prog 73 #[.slice A m c, .func (.func 74) #[] #[]] w (Told w (.bool (n.all fitL))) := by
  subst hl
  have HA := Lib.hid hA
  have HSZ := Lib.hid hs
  clear hA hs
  go_enter Tryz.func73, Tryz.ntmps73
  go_wp2
  go_loop [9] (EveryRel n) (fun i => n.length - (intOf i).toNat)
  case atStart => exact ⟨0, Nat.zero_le _, rfl, by simp⟩
  case round =>
    obtain ⟨k, hk, rfl, hall⟩ := hrel
    have HK := Lib.hid hall
    clear hall
    by_cases hlt : k < n.length
    · obtain ⟨b, off, rfl, _, hc⟩ := HA.out.name_at hlt
      have hle := HSZ.out k hlt
      cases hf : fitL n[k]
      · have hct := fun W => fits_label n[k] W hle
        rw [hf] at hct
        have HC := Lib.hid hct
        have HF := Lib.hid (all_not fitL hlt hf)
        clear hct hf
        go_wp2_with (go_at_call 74; refine (HC.out _).mono ?_; rintro e w' ⟨rfl, rfl⟩)
        go_ret
        exact ⟨by rw [HF.out]; rfl, rfl⟩
      · have hct := fun W => fits_label n[k] W hle
        rw [hf] at hct
        have HC := Lib.hid hct
        have HF := Lib.hid (all_snoc fitL hlt HK.out hf)
        clear hct hf
        go_wp2_with (go_at_call 74; refine (HC.out _).mono ?_; rintro e w' ⟨rfl, rfl⟩)
        exact ⟨⟨k + 1, by omega, by go_num, HF.out⟩, by simp [intOf]; omega⟩
    · obtain rfl : k = n.length := by omega
      go_wp2
      go_ret
      exact ⟨ret_bool (by have h := HK.out; rw [List.take_length] at h; exact h.symm), rfl⟩

set_option maxHeartbeats 400000 in
theorem sound_wide (A : Option Addr) (m c H : Nat) (n : List (List UInt8)) (w : World) (hl : n.length = m) (hA : Row w H A (n.map sv)) (hlen : n.length ≤ 140737488351232) (hs : ∀ k (h : k < n.length), (n[k]).length ≤ maxLen) :
    Calls Tryz.prog 50 #[.slice A m c] w (Told w (.bool (soundN n))) := by
  have hev := fun W h => every_wide A m c H n W hl h hlen hs
  have HA := Lib.hid hA
  clear hA
  cases hf : n.all fitL
  · rw [hf] at hev
    have HE := Lib.hid hev
    have HF := Lib.hid (show soundN n = false by simp [soundN, hf])
    clear hev hf hs hlen
    go_enter Tryz.func50, Tryz.ntmps50
    go_wp2_with (go_at_call 73; refine (HE.out _ HA.out).mono ?_; rintro e w' ⟨rfl, rfl⟩)
    go_ret
    exact ⟨by rw [HF.out]; rfl, rfl⟩
  · have hsz : szN n ≤ n.length * (63 + 1) + 1 := szN_le 63 n fun l hl => (by have h := List.all_eq_true.1 hf l hl; simp [fitL] at h; omega)
    have HZ := Lib.hid (fun W h => size_any A m c H n W hl h (by unfold maxLen; omega))
    rw [hf] at hev
    have HE := Lib.hid hev
    have HF := Lib.hid (show soundN n = decide (szN n ≤ 255) by simp [soundN, hf])
    clear hev hf hs hl
    go_enter Tryz.func50, Tryz.ntmps50
    go_wp2_with (first
      | (go_at_call 73; refine (HE.out _ HA.out).mono ?_; rintro e w' ⟨rfl, rfl⟩)
      | (go_at_call 75; refine (HZ.out _ HA.out).mono ?_; rintro e w' ⟨rfl, rfl⟩))
    go_ret
    refine ⟨ret_bool ?_, rfl⟩
    rw [HF.out]
    simp
    omega

set_option maxHeartbeats 400000 in
/-- The document's Sound of any name, however large. -/
theorem ref_sound_wide (A : Option Addr) (c H : Nat) (n : List (List UInt8)) (w : World) (hA : Row w H A (n.map sv)) (_ : n.length ≤ maxLen) (hs : ∀ k (h : k < n.length), (n[k]).length ≤ maxLen) :
    Calls Tryz.prog 24 #[.slice A n.length c] w (Told w (.bool (soundN n))) := by
  have HA := Lib.hid hA
  have HS := Lib.hid hs
  clear hA hs
  by_cases h127 : n.length ≤ 127
  · have d1 : decide (127 < (n.length : Int)) = false := by simp; omega
    go_enter Tryz.func24, Tryz.ntmps24
    go_wp2
    go_loop [3] (EveryRel n) (fun i => n.length - (intOf i).toNat)
    case atStart => exact ⟨0, Nat.zero_le _, rfl, by simp⟩
    case round =>
      obtain ⟨k, hk, rfl, hall⟩ := hrel
      have HK := Lib.hid hall
      clear hall
      by_cases hlt : k < n.length
      · obtain ⟨b, off, rfl, _, hc⟩ := HA.out.name_at hlt
        have hle := HS.out k hlt
        unfold maxLen at hle
        by_cases e1 : 1 ≤ (n[k]).length
        · have d2 : decide (((n[k]).length : Int) < 1) = false := by simp; omega
          by_cases e2 : (n[k]).length ≤ 63
          · have d3 : decide (63 < ((n[k]).length : Int)) = false := by simp; omega
            have HF := Lib.hid (all_snoc fitL hlt HK.out (by simp [fitL]; omega))
            go_wp2
            exact ⟨⟨k + 1, by omega, by go_num, HF.out⟩, by simp [intOf]; omega⟩
          · have d3 : decide (63 < ((n[k]).length : Int)) = true := by simp; omega
            have HF := Lib.hid (all_not fitL hlt (by simp [fitL]; omega))
            go_wp2
            go_ret
            exact ⟨ret_bool (by simp [soundN, HF.out]), rfl⟩
        · have d2 : decide (((n[k]).length : Int) < 1) = true := by simp; omega
          have HF := Lib.hid (all_not fitL hlt (by simp [fitL]; omega))
          go_wp2
          go_ret
          exact ⟨ret_bool (by simp [soundN, HF.out]), rfl⟩
      · obtain rfl : k = n.length := by omega
        have hall := HK.out
        rw [List.take_length] at hall
        have hsz : szN n ≤ n.length * (63 + 1) + 1 := szN_le 63 n fun l hl => (by have h := List.all_eq_true.1 hall l hl; simp [fitL] at h; omega)
        have HZ := Lib.hid (ref_size_any A n.length c H n w rfl HA.out (by unfold maxLen; omega))
        have HALL := Lib.hid hall
        clear hall
        go_wp2_with fail
        refine HZ.out.mono ?_
        rintro e w' ⟨rfl, rfl⟩
        go_wp2
        go_ret
        refine ⟨ret_bool ?_, rfl⟩
        simp [soundN, HALL.out]
        omega
  · have HF := Lib.hid (soundN_long (n := n) (by omega))
    have d1 : decide (127 < (n.length : Int)) = true := by simp; omega
    go_enter Tryz.func24, Tryz.ntmps24
    go_wp2
    go_ret
    exact ⟨ret_bool HF.out.symm, rfl⟩

set_option maxHeartbeats 400000 in
theorem soundName_any (A : Option Addr) (m c H : Nat) (n : List (List UInt8)) (had : Bool) (w : World) (hl : n.length = m) (hA : Row w H A (n.map sv)) (hs : szN n ≤ maxLen) :
    Calls Tryz.prog 125 #[.slice A m c, .bool had] w (Told w (.bool (soundNm n had))) := by
  have HC := Lib.hid (sound_any A m c H n w hl hA hs)
  clear hA hs
  by_cases h0 : n.length = 0
  · have t1 : ((m : Int) == 0) = true := by rw [beq_iff_eq]; omega
    have HF := Lib.hid (show soundNm n had = true by simp [soundNm, h0])
    clear h0 hl
    go_enter Tryz.func125, Tryz.ntmps125
    go_wp2
    go_ret
    exact ⟨by rw [HF.out]; rfl, rfl⟩
  · have t1 : ((m : Int) == 0) = false := by rw [beq_eq_false_iff_ne]; omega
    cases had
    · have HF := Lib.hid (show soundNm n false = false by simp [soundNm, h0])
      clear h0 hl
      go_enter Tryz.func125, Tryz.ntmps125
      go_wp2
      go_ret
      exact ⟨by rw [HF.out]; rfl, rfl⟩
    · have HF := Lib.hid (show soundNm n true = soundN n by simp [soundNm, h0])
      clear h0 hl
      go_enter Tryz.func125, Tryz.ntmps125
      go_wp2_with fail
      refine HC.out.mono ?_
      rintro e w' ⟨rfl, rfl⟩
      go_wp2
      go_ret
      exact ⟨by rw [HF.out]; rfl, rfl⟩

set_option maxHeartbeats 400000 in
theorem soundName_wide (A : Option Addr) (m c H : Nat) (n : List (List UInt8)) (had : Bool) (w : World) (hl : n.length = m) (hA : Row w H A (n.map sv)) (hlen : n.length ≤ 140737488351232) (hs : ∀ k (h : k < n.length), (n[k]).length ≤ maxLen) :
    Calls Tryz.prog 125 #[.slice A m c, .bool had] w (Told w (.bool (soundNm n had))) := by
  have HC := Lib.hid (sound_wide A m c H n w hl hA hlen hs)
  clear hA hs hlen
  by_cases h0 : n.length = 0
  · have t1 : ((m : Int) == 0) = true := by rw [beq_iff_eq]; omega
    have HF := Lib.hid (show soundNm n had = true by simp [soundNm, h0])
    clear h0 hl
    go_enter Tryz.func125, Tryz.ntmps125
    go_wp2
    go_ret
    exact ⟨by rw [HF.out]; rfl, rfl⟩
  · have t1 : ((m : Int) == 0) = false := by rw [beq_eq_false_iff_ne]; omega
    cases had
    · have HF := Lib.hid (show soundNm n false = false by simp [soundNm, h0])
      clear h0 hl
      go_enter Tryz.func125, Tryz.ntmps125
      go_wp2
      go_ret
      exact ⟨by rw [HF.out]; rfl, rfl⟩
    · have HF := Lib.hid (show soundNm n true = soundN n by simp [soundNm, h0])
      clear h0 hl
      go_enter Tryz.func125, Tryz.ntmps125
      go_wp2_with fail
      refine HC.out.mono ?_
      rintro e w' ⟨rfl, rfl⟩
      go_wp2
      go_ret
      exact ⟨by rw [HF.out]; rfl, rfl⟩

def SNRel (w : World) (ah : Nat) (l : List Int) (i : Value) (wr : World) : Prop := ∃ k : Nat, k ≤ l.length ∧ i = .int .i64 k ∧ (List.range k).all (fun j => fitB (l.getD j 0) (sizeAt ah j)) = true ∧ wr = w

set_option maxRecDepth 4000 in
set_option maxHeartbeats 1000000 in
theorem soundNums_any (s : Sh) (A : Option Addr) (m c : Nat) (l : List Int) (w : World) (hl : l.length = m) (hA : Row w w.heap.size A (l.map zv)) (hm : m ≤ maxLen) (h1 : s.ahead ≤ 10) (h2 : s.behind ≤ 10) :
    Calls Tryz.prog 126 #[s.val, .slice A m c] w (Gave w (.bool (soundNs s l))) := by
  obtain ⟨ah, s1, s2, s3, be, s5, le, mo⟩ := s
  simp only at h1 h2
  unfold maxLen at hm
  have HB := Lib.hid ((Below.refl _ w).alloc (Nat.le_refl _) (.cells #[.int .i64 ah, .bool s1, .bool s2, .bool s3, .int .i64 be, .bool s5, .int .i64 le, .int .i64 mo] 139))
  have HF := Lib.hid (fun n s W => fits_any n s W)
  have HA := Lib.hid (hA.alloc (Nat.le_refl _) (.cells #[.int .i64 ah, .bool s1, .bool s2, .bool s3, .int .i64 be, .bool s5, .int .i64 le, .int .i64 mo] 139))
  have HL := Lib.hid hl
  clear hA
  by_cases hsum : m = ah + be
  · have t1 : ((m : Int) != (ah : Int) + (be : Int)) = false := by rw [bne_eq_false_iff_eq]; omega
    have HS := Lib.hid (show soundNs ⟨ah, s1, s2, s3, be, s5, le, mo⟩ l = numsOk ah l by simp [soundNs, hl, hsum])
    have c0 := (Whole.made w [.int .i64 ah, .bool s1, .bool s2, .bool s3, .int .i64 be, .bool s5, .int .i64 le, .int .i64 mo] 139).cell 0
    simp only [List.getElem?_cons_zero] at c0
    clear hl hsum
    go_enter Tryz.func126, Tryz.ntmps126
    go_wp2
    obtain ⟨W, hW⟩ : ∃ W, W = w.alloc (.cells #[.int .i64 ah, .bool s1, .bool s2, .bool s3, .int .i64 be, .bool s5, .int .i64 le, .int .i64 mo] 139) := ⟨_, rfl⟩
    rw [← hW] at HB HA c0 ⊢
    clear hW
    go_loopw [18] (SNRel W ah l) (fun i _ => m - (intOf i).toNat)
    case atStart => exact ⟨0, Nat.zero_le _, rfl, rfl, rfl⟩
    case round =>
      obtain ⟨k, hk, rfl, hok, rfl⟩ := hrel
      have HOK := Lib.hid hok
      clear hok
      by_cases hlt : k < m
      · have hkl : k < l.length := by rw [HL.out]; exact hlt
        obtain ⟨b, off, rfl, _, hc⟩ := HA.out.int_at hkl
        have HGD := Lib.hid (show l.getD k 0 = l[k] by simp [List.getD, List.getElem?_eq_getElem hkl])
        by_cases hah : k < ah
        · have d1 : decide ((ah : Int) ≤ (k : Int)) = false := by simp; omega
          have HZ := Lib.hid (show sizeAt ah k = 2 by simp [sizeAt, hah])
          go_wp2_with fail
          refine (HF.out l[k] 2 _).mono ?_
          cases hfit : fitB l[k] 2
          · have HN := Lib.hid (show numsOk ah l = false from all_range_not hkl (by rw [HGD.out, HZ.out]; exact hfit))
            rintro e w' ⟨rfl, rfl⟩
            go_wp2
            go_ret
            exact ⟨by rw [HS.out, HN.out]; rfl, HB.out⟩
          · have HY := Lib.hid (all_range_snoc HOK.out (by rw [HGD.out, HZ.out]; exact hfit))
            rintro e w' ⟨rfl, rfl⟩
            go_wp2
            exact ⟨⟨k + 1, hkl, by go_num, HY.out, rfl⟩, by simp [intOf]; omega⟩
        · have d1 : decide ((ah : Int) ≤ (k : Int)) = true := by simp; omega
          have HZ := Lib.hid (show sizeAt ah k = 4 by simp [sizeAt, hah])
          go_wp2_with fail
          refine (HF.out l[k] 4 _).mono ?_
          cases hfit : fitB l[k] 4
          · have HN := Lib.hid (show numsOk ah l = false from all_range_not hkl (by rw [HGD.out, HZ.out]; exact hfit))
            rintro e w' ⟨rfl, rfl⟩
            go_wp2
            go_ret
            exact ⟨by rw [HS.out, HN.out]; rfl, HB.out⟩
          · have HY := Lib.hid (all_range_snoc HOK.out (by rw [HGD.out, HZ.out]; exact hfit))
            rintro e w' ⟨rfl, rfl⟩
            go_wp2
            exact ⟨⟨k + 1, hkl, by go_num, HY.out, rfl⟩, by simp [intOf]; omega⟩
      · obtain rfl : k = m := by have := HL.out; omega
        have HN := Lib.hid (show numsOk ah l = true by unfold numsOk; rw [HL.out]; exact HOK.out)
        go_wp2
        go_ret
        exact ⟨by rw [HS.out, HN.out]; rfl, HB.out⟩
  · have t1 : ((m : Int) != (ah : Int) + (be : Int)) = true := by rw [bne_iff_ne]; omega
    have HS := Lib.hid (show soundNs ⟨ah, s1, s2, s3, be, s5, le, mo⟩ l = false by simp [soundNs]; intro h; exact absurd (hl.symm.trans h) hsum)
    clear hl
    go_enter Tryz.func126, Tryz.ntmps126
    go_wp2
    go_ret
    exact ⟨by rw [HS.out]; rfl, HB.out⟩

def STRel (l : List (List UInt8)) (i : Value) : Prop := ∃ k : Nat, k ≤ l.length ∧ i = .int .i64 k ∧ (l.take k).all (fun t => decide (t.length ≤ 255)) = true

set_option maxRecDepth 4000 in
set_option maxHeartbeats 1000000 in
theorem soundTexts_any (s : Sh) (A : Option Addr) (m c : Nat) (l : List (List UInt8)) (w : World) (hl : l.length = m) (hA : Row w w.heap.size A (l.map sv)) (hm : m ≤ maxLen) (hlen : ∀ k (h : k < l.length), (l[k]).length ≤ maxLen) :
    Calls Tryz.prog 127 #[s.val, .slice A m c] w (Gave w (.bool (soundTs s l))) := by
  obtain ⟨ah, s1, s2, s3, be, s5, le, mo⟩ := s
  unfold maxLen at hm hlen
  have HB := Lib.hid ((Below.refl _ w).alloc (Nat.le_refl _) (.cells #[.int .i64 ah, .bool s1, .bool s2, .bool s3, .int .i64 be, .bool s5, .int .i64 le, .int .i64 mo] 139))
  have HA := Lib.hid (hA.alloc (Nat.le_refl _) (.cells #[.int .i64 ah, .bool s1, .bool s2, .bool s3, .int .i64 be, .bool s5, .int .i64 le, .int .i64 mo] 139))
  have HL := Lib.hid hl
  have HLEN := Lib.hid hlen
  clear hA hlen
  cases s5
  · have HS := Lib.hid (show soundTs ⟨ah, s1, s2, s3, be, false, le, mo⟩ l = decide (m = 0) by simp [soundTs, hl])
    clear hl
    by_cases h0 : m = 0
    · have t1 : ((m : Int) == 0) = true := by rw [beq_iff_eq]; omega
      have HZ := Lib.hid (show decide (m = 0) = true by simp [h0])
      clear h0
      go_enter Tryz.func127, Tryz.ntmps127
      go_wp2
      go_ret
      exact ⟨by rw [HS.out, HZ.out]; rfl, HB.out⟩
    · have t1 : ((m : Int) == 0) = false := by rw [beq_eq_false_iff_ne]; omega
      have HZ := Lib.hid (show decide (m = 0) = false by simp [h0])
      clear h0
      go_enter Tryz.func127, Tryz.ntmps127
      go_wp2
      go_ret
      exact ⟨by rw [HS.out, HZ.out]; rfl, HB.out⟩
  · have HS := Lib.hid (show soundTs ⟨ah, s1, s2, s3, be, true, le, mo⟩ l = (l.all (fun t => decide (t.length ≤ 255)) && (decide (1 ≤ m) && decide (m ≤ 64))) by simp [soundTs, hl])
    clear hl
    go_enter Tryz.func127, Tryz.ntmps127
    go_wp2
    obtain ⟨W, hW⟩ : ∃ W, W = w.alloc (.cells #[.int .i64 ah, .bool s1, .bool s2, .bool s3, .int .i64 be, .bool true, .int .i64 le, .int .i64 mo] 139) := ⟨_, rfl⟩
    rw [← hW] at HB HA ⊢
    clear hW
    go_loop [15] (STRel l) (fun i => m - (intOf i).toNat)
    case atStart => exact ⟨0, Nat.zero_le _, rfl, rfl⟩
    case round =>
      obtain ⟨k, hk, rfl, hok⟩ := hrel
      have HOK := Lib.hid hok
      clear hok
      by_cases hlt : k < m
      · have hkl : k < l.length := by rw [HL.out]; exact hlt
        obtain ⟨b, off, rfl, _, hc⟩ := HA.out.name_at hkl
        have hlk := HLEN.out k hkl
        by_cases hbig : 255 < (l[k]).length
        · have d1 : decide ((255 : Int) < ((l[k]).length : Int)) = true := by simp; omega
          have HN := Lib.hid (all_not (fun t : List UInt8 => decide (t.length ≤ 255)) hkl (by simp; omega))
          go_wp2
          go_ret
          exact ⟨by rw [HS.out, HN.out]; rfl, HB.out⟩
        · have d1 : decide ((255 : Int) < ((l[k]).length : Int)) = false := by simp; omega
          have HY := Lib.hid (all_snoc (fun t : List UInt8 => decide (t.length ≤ 255)) hkl HOK.out (by simp; omega))
          go_wp2
          exact ⟨⟨k + 1, hkl, by go_num, HY.out⟩, by simp [intOf]; omega⟩
      · obtain rfl : k = m := by have := HL.out; omega
        have HN := Lib.hid (show l.all (fun t => decide (t.length ≤ 255)) = true by have h := HOK.out; rw [← HL.out, List.take_length] at h; exact h)
        by_cases h1 : 1 ≤ k
        · have d1 : decide ((1 : Int) ≤ (k : Int)) = true := by simp; omega
          by_cases h2 : k ≤ 64
          · have d2 : decide ((k : Int) ≤ 64) = true := by simp; omega
            have HZ := Lib.hid (show (decide (1 ≤ k) && decide (k ≤ 64)) = true by simp; omega)
            go_wp2
            go_ret
            exact ⟨by rw [HS.out, HN.out, HZ.out]; rfl, HB.out⟩
          · have d2 : decide ((k : Int) ≤ 64) = false := by simp; omega
            have HZ := Lib.hid (show (decide (1 ≤ k) && decide (k ≤ 64)) = false by simp; omega)
            go_wp2
            go_ret
            exact ⟨by rw [HS.out, HN.out, HZ.out]; rfl, HB.out⟩
        · have d1 : decide ((1 : Int) ≤ (k : Int)) = false := by simp; omega
          have HZ := Lib.hid (show (decide (1 ≤ k) && decide (k ≤ 64)) = false by simp; omega)
          go_wp2
          go_ret
          exact ⟨by rw [HS.out, HN.out, HZ.out]; rfl, HB.out⟩

theorem shN_small (k : Int) : (shN k).ahead ≤ 10 ∧ (shN k).behind ≤ 10 := by
  unfold shN
  split
  · decide
  · split
    · decide
    · split
      · decide
      · split
        · decide
        · split
          · decide
          · split
            · decide
            · split <;> decide

/-- What Sound holds: the data's box and the shape's. -/
structure SB (w : World) (x : DV) (d : Dt) (s : Sh) (g : Nat) (W : World) : Prop where
  bx : Whole W w.heap.size 34 [x.vb d, x.vh d, x.vm d, x.vn d, x.vt d]
  sh : Whole W g 139 [.int .i64 s.ahead, .bool s.host, .bool s.mail, .bool s.short, .int .i64 s.behind, .bool s.texts, .int .i64 s.least, .int .i64 s.most]
  dt : DataAt W w.heap.size x d
  below : Below w.heap.size w W
  size : w.heap.size ≤ W.heap.size
theorem SB.step {w : World} {x : DV} {d : Dt} {s : Sh} {g : Nat} {W W' : World} (h : SB w x d s g W) (hb : Below W.heap.size W W') : SB w x d s g W' :=
  ⟨h.bx.below hb h.bx.lt, h.sh.below hb h.sh.lt, h.dt.below (hb.mono h.size), h.below.trans (hb.mono h.size), Nat.le_trans h.size hb.size⟩

set_option maxRecDepth 20000 in
set_option maxHeartbeats 4000000 in
theorem dsound_core (k : Int) (x : DV) (d : Dt) (w : World) (hx : DataAt w w.heap.size x d)
    (h1 : ∀ (W : World) (b : Bool), Row W w.heap.size x.Ah (d.host.map sv) → Calls Tryz.prog 125 #[.slice x.Ah d.host.length x.ch, .bool b] W (Told W (.bool (soundNm d.host b))))
    (h2 : ∀ (W : World) (b : Bool), Row W w.heap.size x.Am (d.mail.map sv) → Calls Tryz.prog 125 #[.slice x.Am d.mail.length x.cm, .bool b] W (Told W (.bool (soundNm d.mail b)))) (h3 : d.texts.length ≤ maxLen) (h4 : ∀ k (h : k < d.texts.length), (d.texts[k]).length ≤ maxLen) :
    Calls Tryz.prog 103 #[.int .i64 k, x.val d] w (Gave w (.bool (soundD k d))) := by
  have k1 := (shN_small k).1
  have k2 := (shN_small k).2
  have kn : d.nums.length ≤ maxLen := Nat.le_trans hx.ln hx.kn
  have HSH := Lib.hid (fun W => shapeOf_any k W)
  have HK := Lib.hid (fun W => isKind_any k W)
  have HS := Lib.hid (show soundD k d = (kindB k && (soundBs (shN k) d.bytes && (soundNm d.host (shN k).host && (soundNm d.mail (shN k).mail && (soundNs (shN k) d.nums && soundTs (shN k) d.texts))))) from rfl)
  have HX := Lib.hid hx
  obtain ⟨s, hs⟩ : ∃ s, s = shN k := ⟨_, rfl⟩
  rw [← hs] at HSH HS k1 k2
  clear hs
  have HC1 := Lib.hid (fun W => soundBytes_any s x.Ab d.bytes.length x.cb d.bytes W rfl)
  have HC2 := Lib.hid (fun W g (h : SB w x d s g W) => h1 W s.host h.dt.h)
  have HC3 := Lib.hid (fun W g (h : SB w x d s g W) => h2 W s.mail h.dt.m)
  have HC4 := Lib.hid (fun W g (h : SB w x d s g W) => soundNums_any s x.An d.nums.length x.cn d.nums W rfl (h.dt.n.mono h.size) kn k1 k2)
  have HC5 := Lib.hid (fun W g (h : SB w x d s g W) => soundTexts_any s x.At d.texts.length x.ct d.texts W rfl (h.dt.t.mono h.size) h3 h4)
  clear hx h1 h2 h3 h4 k1 k2 kn
  obtain ⟨ah, s1, s2, s3, be, s5, le, mo⟩ := s
  go_enter Tryz.func103, Tryz.ntmps103
  go_wp2_with fail
  refine (HSH.out _).mono ?_
  rintro e w1 ⟨rfl, hb⟩
  have HB1 := Lib.hid hb
  clear hb
  go_wp2_with fail
  obtain ⟨W0, hW0⟩ : ∃ W0, W0 = w1.alloc (.cells #[.int .i64 ah, .bool s1, .bool s2, .bool s3, .int .i64 be, .bool s5, .int .i64 le, .int .i64 mo] 139) := ⟨_, rfl⟩
  rw [← hW0]
  have hx0 : SB w x d ⟨ah, s1, s2, s3, be, s5, le, mo⟩ w1.heap.size W0 := by
    have hz : w.heap.size + 1 ≤ w1.heap.size := by have := HB1.out.size; simpa using this
    rw [hW0]
    exact ⟨((Whole.made w [x.vb d, x.vh d, x.vm d, x.vn d, x.vt d] _).below HB1.out (by simp)).alloc _, Whole.made w1 [.int .i64 ah, .bool s1, .bool s2, .bool s3, .int .i64 be, .bool s5, .int .i64 le, .int .i64 mo] _,
      (((HX.out.alloc (Nat.le_refl _) _).below (HB1.out.mono (by simp))).alloc (by omega) _), (((Below.refl _ _).alloc (Nat.le_refl _) _).trans (HB1.out.mono (by simp))).alloc (by omega) _, by simp; omega⟩
  clear hW0 HB1 HX
  refine (HK.out _).mono ?_
  intro e W1 hO
  obtain ⟨he, hw⟩ := hO
  subst hw
  have hx1 := hx0
  clear hx0 
  cases hv : kindB k with
  | false =>
    rw [hv] at he HS
    subst he
    have HB := Lib.hid hx1.below
    clear hx1
    go_wp2
    go_ret
    exact ⟨by rw [HS.out]; rfl, HB.out⟩
  | true =>
  rw [hv] at he HS
  subst he
  have s0c : W0.cell? ⟨w1.heap.size, 0, none⟩ = some (.int .i64 ah) := hx1.sh.cell 0
  have s1c : W0.cell? ⟨w1.heap.size, 1, none⟩ = some (.bool s1) := hx1.sh.cell 1
  have s2c : W0.cell? ⟨w1.heap.size, 2, none⟩ = some (.bool s2) := hx1.sh.cell 2
  have s3c : W0.cell? ⟨w1.heap.size, 3, none⟩ = some (.bool s3) := hx1.sh.cell 3
  have s4c : W0.cell? ⟨w1.heap.size, 4, none⟩ = some (.int .i64 be) := hx1.sh.cell 4
  have s5c : W0.cell? ⟨w1.heap.size, 5, none⟩ = some (.bool s5) := hx1.sh.cell 5
  have s6c : W0.cell? ⟨w1.heap.size, 6, none⟩ = some (.int .i64 le) := hx1.sh.cell 6
  have s7c : W0.cell? ⟨w1.heap.size, 7, none⟩ = some (.int .i64 mo) := hx1.sh.cell 7
  have d0c : W0.cell? ⟨w.heap.size, 0, none⟩ = some (.slice x.Ab d.bytes.length x.cb) := hx1.bx.cell 0
  go_wp2_with fail
  refine (HC1.out _).mono ?_
  intro e W2 hO
  obtain ⟨he, hb⟩ := hO
  have hx2 := hx1.step hb
  clear hb hx1 s0c s1c s2c s3c s4c s5c s6c s7c d0c
  cases hv : soundBs ⟨ah, s1, s2, s3, be, s5, le, mo⟩ d.bytes with
  | false =>
    rw [hv] at he HS
    subst he
    have HB := Lib.hid hx2.below
    clear hx2
    go_wp2
    go_ret
    exact ⟨by rw [HS.out]; rfl, HB.out⟩
  | true =>
  rw [hv] at he HS
  subst he
  have s1c : W2.cell? ⟨w1.heap.size, 1, none⟩ = some (.bool s1) := hx2.sh.cell 1
  have d1c : W2.cell? ⟨w.heap.size, 1, none⟩ = some (.slice x.Ah d.host.length x.ch) := hx2.bx.cell 1
  go_wp2_with fail
  refine (HC2.out _ _ hx2).mono ?_
  intro e W3 hO
  obtain ⟨he, hw⟩ := hO
  subst hw
  have hx3 := hx2
  clear hx2 s1c d1c
  cases hv : soundNm d.host s1 with
  | false =>
    rw [hv] at he HS
    subst he
    have HB := Lib.hid hx3.below
    clear hx3
    go_wp2
    go_ret
    exact ⟨by rw [HS.out]; rfl, HB.out⟩
  | true =>
  rw [hv] at he HS
  subst he
  have s2c : W2.cell? ⟨w1.heap.size, 2, none⟩ = some (.bool s2) := hx3.sh.cell 2
  have d2c : W2.cell? ⟨w.heap.size, 2, none⟩ = some (.slice x.Am d.mail.length x.cm) := hx3.bx.cell 2
  go_wp2_with fail
  refine (HC3.out _ _ hx3).mono ?_
  intro e W4 hO
  obtain ⟨he, hw⟩ := hO
  subst hw
  have hx4 := hx3
  clear hx3 s2c d2c
  cases hv : soundNm d.mail s2 with
  | false =>
    rw [hv] at he HS
    subst he
    have HB := Lib.hid hx4.below
    clear hx4
    go_wp2
    go_ret
    exact ⟨by rw [HS.out]; rfl, HB.out⟩
  | true =>
  rw [hv] at he HS
  subst he
  have s0c : W2.cell? ⟨w1.heap.size, 0, none⟩ = some (.int .i64 ah) := hx4.sh.cell 0
  have s1c : W2.cell? ⟨w1.heap.size, 1, none⟩ = some (.bool s1) := hx4.sh.cell 1
  have s2c : W2.cell? ⟨w1.heap.size, 2, none⟩ = some (.bool s2) := hx4.sh.cell 2
  have s3c : W2.cell? ⟨w1.heap.size, 3, none⟩ = some (.bool s3) := hx4.sh.cell 3
  have s4c : W2.cell? ⟨w1.heap.size, 4, none⟩ = some (.int .i64 be) := hx4.sh.cell 4
  have s5c : W2.cell? ⟨w1.heap.size, 5, none⟩ = some (.bool s5) := hx4.sh.cell 5
  have s6c : W2.cell? ⟨w1.heap.size, 6, none⟩ = some (.int .i64 le) := hx4.sh.cell 6
  have s7c : W2.cell? ⟨w1.heap.size, 7, none⟩ = some (.int .i64 mo) := hx4.sh.cell 7
  have d3c : W2.cell? ⟨w.heap.size, 3, none⟩ = some (.slice x.An d.nums.length x.cn) := hx4.bx.cell 3
  go_wp2_with fail
  refine (HC4.out _ _ hx4).mono ?_
  intro e W5 hO
  obtain ⟨he, hb⟩ := hO
  have hx5 := hx4.step hb
  clear hb hx4 s0c s1c s2c s3c s4c s5c s6c s7c d3c
  cases hv : soundNs ⟨ah, s1, s2, s3, be, s5, le, mo⟩ d.nums with
  | false =>
    rw [hv] at he HS
    subst he
    have HB := Lib.hid hx5.below
    clear hx5
    go_wp2
    go_ret
    exact ⟨by rw [HS.out]; rfl, HB.out⟩
  | true =>
  rw [hv] at he HS
  subst he
  have s0c : W5.cell? ⟨w1.heap.size, 0, none⟩ = some (.int .i64 ah) := hx5.sh.cell 0
  have s1c : W5.cell? ⟨w1.heap.size, 1, none⟩ = some (.bool s1) := hx5.sh.cell 1
  have s2c : W5.cell? ⟨w1.heap.size, 2, none⟩ = some (.bool s2) := hx5.sh.cell 2
  have s3c : W5.cell? ⟨w1.heap.size, 3, none⟩ = some (.bool s3) := hx5.sh.cell 3
  have s4c : W5.cell? ⟨w1.heap.size, 4, none⟩ = some (.int .i64 be) := hx5.sh.cell 4
  have s5c : W5.cell? ⟨w1.heap.size, 5, none⟩ = some (.bool s5) := hx5.sh.cell 5
  have s6c : W5.cell? ⟨w1.heap.size, 6, none⟩ = some (.int .i64 le) := hx5.sh.cell 6
  have s7c : W5.cell? ⟨w1.heap.size, 7, none⟩ = some (.int .i64 mo) := hx5.sh.cell 7
  have d4c : W5.cell? ⟨w.heap.size, 4, none⟩ = some (.slice x.At d.texts.length x.ct) := hx5.bx.cell 4
  go_wp2_with fail
  refine (HC5.out _ _ hx5).mono ?_
  intro e W6 hO
  obtain ⟨he, hb⟩ := hO
  have hx6 := hx5.step hb
  clear hb hx5 s0c s1c s2c s3c s4c s5c s6c s7c d4c
  subst he
  have HB := Lib.hid hx6.below
  clear hx6
  go_wp2
  go_ret
  refine ⟨?_, HB.out⟩
  rw [HS.out]
  simp

theorem dsound_any (k : Int) (x : DV) (d : Dt) (w : World) (hx : DataAt w w.heap.size x d) (h1 : szN d.host ≤ maxLen) (h2 : szN d.mail ≤ maxLen) (h3 : d.texts.length ≤ maxLen) (h4 : ∀ k (h : k < d.texts.length), (d.texts[k]).length ≤ maxLen) :
    Calls Tryz.prog 103 #[.int .i64 k, x.val d] w (Gave w (.bool (soundD k d))) :=
  dsound_core k x d w hx (fun W b hr => soundName_any x.Ah d.host.length x.ch w.heap.size d.host b W rfl hr h1) (fun W b hr => soundName_any x.Am d.mail.length x.cm w.heap.size d.mail b W rfl hr h2) h3 h4
theorem dsound_wide (k : Int) (x : DV) (d : Dt) (w : World) (hx : DataAt w w.heap.size x d) (h1 : d.host.length ≤ 140737488351232) (h1' : ∀ k (h : k < d.host.length), (d.host[k]).length ≤ maxLen) (h2 : d.mail.length ≤ 140737488351232) (h2' : ∀ k (h : k < d.mail.length), (d.mail[k]).length ≤ maxLen) (h3 : d.texts.length ≤ maxLen) (h4 : ∀ k (h : k < d.texts.length), (d.texts[k]).length ≤ maxLen) :
    Calls Tryz.prog 103 #[.int .i64 k, x.val d] w (Gave w (.bool (soundD k d))) :=
  dsound_core k x d w hx (fun W b hr => soundName_wide x.Ah d.host.length x.ch w.heap.size d.host b W rfl hr h1 h1') (fun W b hr => soundName_wide x.Am d.mail.length x.cm w.heap.size d.mail b W rfl hr h2 h2') h3 h4

end Go.Proofs.YtmbcbfalgdgmjaaGreatDoor

namespace Go.Proofs.YtmbcbfalgdgmjaaGreatDoor
open Go.RowKit

def timeB (t : Int) : Bool := decide (0 ≤ t) && decide (t ≤ 36028797018963968)
theorem timeB_true {t : Int} (h : 0 ≤ t) (h' : t ≤ 36028797018963968) : timeB t = true := by simp [timeB, h, h']
theorem timeB_neg {t : Int} (h : t < 0) : timeB t = false := by simp [timeB]; omega
theorem timeB_big {t : Int} (h : 36028797018963968 < t) : timeB t = false := by simp [timeB]; omega
theorem timeB_yes {t : Int} (h : timeB t = true) : 0 ≤ t ∧ t ≤ 36028797018963968 := by simpa [timeB] using h

def timesB (l : List Int) : Bool := l.all timeB

/-- How many seconds are left. -/
def leftI (g t n : Int) : Int := if timesB [g, t, n] = true then (if g + t - (if n < g then g else n) ≤ 0 then 0 else g + t - (if n < g then g else n)) else 0
def staleB (g t k n : Int) : Bool := timesB [g, t, k, n] && (leftI g t n == 0) && decide (n < g + t + k)
def tellI (g t n : Int) : Int := if timesB [g, t, n] = true then (if 0 < leftI g t n then leftI g t n else 30) else 0
def clampI (t : Int) (b : Bool) : Int := if t < 0 then 0 else if b = true ∧ 10800 < t then 10800 else if 604800 < t then 604800 else t

theorem times3 (g t n : Int) : timesB [g, t, n] = (timeB g && (timeB t && timeB n)) := by simp [timesB]
theorem times4 (g t k n : Int) : timesB [g, t, k, n] = (timeB g && (timeB t && (timeB k && timeB n))) := by simp [timesB]
theorem times3_yes {g t n : Int} (h : timesB [g, t, n] = true) : (0 ≤ g ∧ g ≤ 36028797018963968) ∧ (0 ≤ t ∧ t ≤ 36028797018963968) ∧ 0 ≤ n ∧ n ≤ 36028797018963968 := by
  rw [times3] at h
  simp only [Bool.and_eq_true] at h
  exact ⟨timeB_yes h.1, timeB_yes h.2.1, timeB_yes h.2.2⟩
theorem times3_true {g t n : Int} (h1 : timeB g = true) (h2 : timeB t = true) (h3 : timeB n = true) : timesB [g, t, n] = true := by rw [times3, h1, h2, h3]; rfl

theorem leftI_no {g t n : Int} (h : timesB [g, t, n] = false) : leftI g t n = 0 := by unfold leftI; rw [if_neg (by rw [h]; simp)]
theorem leftI_end {g t n : Int} (h : g + t - (if n < g then g else n) ≤ 0) : leftI g t n = 0 := by unfold leftI; rw [if_pos h]; split <;> rfl
theorem leftI_some {g t n : Int} (h : timesB [g, t, n] = true) (h' : ¬ g + t - (if n < g then g else n) ≤ 0) : leftI g t n = g + t - (if n < g then g else n) := by unfold leftI; rw [if_pos h, if_neg h']
theorem leftI_bounds (g t n : Int) : 0 ≤ leftI g t n ∧ leftI g t n ≤ 36028797018963968 := by
  by_cases h : timesB [g, t, n] = true
  · have h1 := times3_yes h
    by_cases h2 : g + t - (if n < g then g else n) ≤ 0
    · rw [leftI_end h2]; omega
    · rw [leftI_some h h2]; split at h2 <;> (constructor <;> (split <;> omega))
  · rw [leftI_no (by simpa using h)]; omega

end Go.Proofs.YtmbcbfalgdgmjaaGreatDoor

namespace Go.Proofs.YtmbcbfalgdgmjaaGreatDoor
open Go.RowKit

/-- A fact's numbers. -/
structure Fh where
  typ : Int
  knd : Int
  rank : Int
  got : Int
  ttl : Int
/-- A fact. -/
structure Fc where
  name : List (List UInt8)
  h : Fh
  set : List Dt
  zone : List (List UInt8)
  soa : Dt

def typedB (k : Int) : Bool := decide (1 ≤ k) && (decide (k ≤ 65534) && (decide (k ≠ 41) && decide (k ≠ 255)))
def emptyD (d : Dt) : Bool := decide (d.bytes.length = 0) && (decide (d.host.length = 0) && (decide (d.mail.length = 0) && (decide (d.nums.length = 0) && decide (d.texts.length = 0))))
/-- Is all data of l sound for k, and none there ahead of it, or in s? -/
def setFrom (k : Int) : List Dt → List Dt → Bool
  | _, [] => true
  | s, d :: l => soundD k d && (!hasD s d && setFrom k (s ++ [d]) l)
def setOk (k : Int) (l : List Dt) : Bool := setFrom k [] l
theorem setFrom_snoc (k : Int) (d : Dt) : ∀ (l s : List Dt), setFrom k s (l ++ [d]) = (setFrom k s l && (soundD k d && !hasD (s ++ l) d))
  | [], s => by simp [setFrom]
  | e :: l, s => by
    rw [List.cons_append, setFrom, setFrom, setFrom_snoc k d l (s ++ [e]), List.append_assoc, List.singleton_append]
    simp [Bool.and_assoc]
theorem setOk_snoc (k : Int) (l : List Dt) (d : Dt) : setOk k (l ++ [d]) = (setOk k l && (soundD k d && !hasD l d)) := by
  unfold setOk
  rw [setFrom_snoc, List.nil_append]
theorem setFrom_append (k : Int) : ∀ (l r s : List Dt), setFrom k s (l ++ r) = (setFrom k s l && setFrom k (s ++ l) r)
  | [], r, s => by simp [setFrom]
  | e :: l, r, s => by
    rw [List.cons_append, setFrom, setFrom, setFrom_append k l r (s ++ [e]), List.append_assoc, List.singleton_append]
    simp [Bool.and_assoc]
theorem setFrom_each {k : Int} {d : Dt} : ∀ {l s : List Dt}, setFrom k s l = true → d ∈ l → soundD k d = true
  | [], _, _, h => absurd h (List.not_mem_nil)
  | e :: l, s, h, hd => by
    rw [setFrom] at h
    simp only [Bool.and_eq_true] at h
    rcases List.mem_cons.1 hd with rfl | hd
    · exact h.1
    · exact setFrom_each h.2.2 hd
theorem setOk_each {k : Int} {d : Dt} {l : List Dt} (h : setOk k l = true) (hd : d ∈ l) : soundD k d = true := setFrom_each h hd

def headB (n : List (List UInt8)) (h : Fh) : Bool := soundN n && (decide (1 ≤ h.rank) && (decide (h.rank ≤ 4) && (timeB h.got && (decide (0 ≤ h.ttl) && decide (h.ttl ≤ 604800)))))
def hasB (f : Fc) : Bool := typedB f.h.typ && (decide (1 ≤ f.set.length) && (decide (f.set.length ≤ 64) && (decide (f.zone.length = 0) && (emptyD f.soa && setOk f.h.typ f.set))))
def noB (f : Fc) : Bool := (decide (f.h.knd = 2) == typedB f.h.typ) && ((decide (f.h.knd = 2) || decide (f.h.typ = 0)) && (decide (f.set.length = 0) && (decide (f.h.ttl ≤ 10800) && (soundN f.zone && (underN f.name f.zone && soundD 6 f.soa)))))
/-- Is a fact sound? -/
def soundF (f : Fc) : Bool := headB f.name f.h && (if f.h.knd = 1 then hasB f else if f.h.knd = 2 ∨ f.h.knd = 3 then noB f else false)
theorem soundF_head {f : Fc} (h : headB f.name f.h = false) : soundF f = false := by unfold soundF; rw [h]; rfl
theorem soundF_has {f : Fc} (h : headB f.name f.h = true) (hk : f.h.knd = 1) : soundF f = hasB f := by unfold soundF; rw [h, if_pos hk]; rfl
theorem soundF_no {f : Fc} (h : headB f.name f.h = true) (hk : f.h.knd = 2 ∨ f.h.knd = 3) : soundF f = noB f := by
  unfold soundF
  rw [h, if_neg (by omega), if_pos hk]
  rfl
theorem soundF_other {f : Fc} (h1 : f.h.knd ≠ 1) (h2 : f.h.knd ≠ 2) (h3 : f.h.knd ≠ 3) : soundF f = false := by
  unfold soundF
  rw [if_neg h1, if_neg (by omega)]
  simp

/-- Of one name and type? -/
def sameK (a b : Fc) : Bool := decide (a.h.typ = b.h.typ) && eqN a.name b.name
def sameFh (a b : Fh) : Bool := decide (a.knd = b.knd) && (decide (a.rank = b.rank) && (decide (a.got = b.got) && decide (a.ttl = b.ttl)))
/-- Do facts say the same? -/
def sameF (a b : Fc) : Bool := soundF a && (soundF b && (sameK a b && (sameFh a.h b.h && (sameS a.set b.set && (eqN a.zone b.zone && sameD a.soa b.soa)))))

theorem soundF_name {f : Fc} (h : soundF f = true) : soundN f.name = true := by
  unfold soundF headB at h
  simp only [Bool.and_eq_true] at h
  exact h.1.1

end Go.Proofs.YtmbcbfalgdgmjaaGreatDoor

namespace Go.Proofs.YtmbcbfalgdgmjaaGreatDoor
open Go.RowKit

structure Ca where
  most : Nat
  window : Int
  list : List Fc

/-- Is a fact of this name and type? -/
def keyB (n : List (List UInt8)) (k : Int) (f : Fc) : Bool := decide (f.h.typ = k) && eqN f.name n
def Ca.find (c : Ca) (n : List (List UInt8)) (k : Int) : Option Fc := c.list.find? (keyB n k)
def beatsF (old new : Fc) (now : Int) : Bool := soundF old && (soundF new && (timeB now && (sameK old new && (decide (old.h.rank ≤ new.h.rank) || decide (leftI old.h.got old.h.ttl now = 0)))))
/-- All but those of a key. -/
def Ca.rest (c : Ca) (f : Fc) : List Fc := c.list.filter fun g => !keyB f.name f.h.typ g
def Ca.lay (c : Ca) (f : Fc) : Ca := if soundF f = true then { c with list := if c.most < (c.rest f ++ [f]).length then (c.rest f ++ [f]).tail else c.rest f ++ [f] } else c
def Ca.putB (c : Ca) (f : Fc) (now : Int) : Bool := soundF f && (timeB now && (match c.find f.name f.h.typ with | none => true | some g => beatsF g f now))
def Ca.put (c : Ca) (f : Fc) (now : Int) : Ca := if c.putB f now = true then c.lay f else c
/-- Which fact is told at a time, by its own test. -/
def Ca.pick (c : Ca) (n : List (List UInt8)) (k : Int) (p : Fc → Bool) : Option Fc :=
  if typedB k = true then (match (c.find n k).filter p with | some f => some f | none => (c.find n 0).filter p) else none
def freshF (now : Int) (f : Fc) : Bool := decide (0 < leftI f.h.got f.h.ttl now)
def staleF (window now : Int) (f : Fc) : Bool := staleB f.h.got f.h.ttl window now
/-- A fact is used. -/
def Ca.use (c : Ca) : Option Fc → Ca
  | none => c
  | some f => { c with list := c.rest f ++ [f] }
def Ca.getF (c : Ca) (n : List (List UInt8)) (k now : Int) : Option Fc := c.pick n k (freshF now)
def Ca.oldF (c : Ca) (n : List (List UInt8)) (k now : Int) : Option Fc := if (c.getF n k now).isSome = true then none else c.pick n k (staleF c.window now)
def Ca.flush (c : Ca) (z : List (List UInt8)) : Ca := { c with list := c.list.filter fun f => !underN f.name z }

structure Ca.ok (c : Ca) : Prop where
  m1 : 1 ≤ c.most
  m2 : c.most ≤ 4096
  w : timeB c.window = true
  s : ∀ f ∈ c.list, soundF f = true
  k : c.list.Pairwise fun f g => keyB f.name f.h.typ g = false
  l : c.list.length ≤ c.most

theorem eqN_refl (n : List (List UInt8)) : eqN n n = true := by simp [eqN]
theorem keyB_self (f : Fc) : keyB f.name f.h.typ f = true := by simp [keyB, eqN_refl]
theorem keyB_turn {f g : Fc} : keyB f.name f.h.typ g = keyB g.name g.h.typ f := by
  unfold keyB eqN
  have h : ∀ {α : Type} [DecidableEq α] (x y : α), decide (x = y) = decide (y = x) := fun x y => decide_eq_decide.2 ⟨Eq.symm, Eq.symm⟩
  rw [h g.h.typ, h (lowN g.name)]
theorem rest_none (c : Ca) (f : Fc) : (c.rest f).find? (keyB f.name f.h.typ) = none := by
  rw [List.find?_eq_none]
  intro g hg
  have h := (List.mem_filter.1 hg).2
  simpa using h
theorem rest_mem {c : Ca} {f g : Fc} (h : g ∈ c.rest f) : g ∈ c.list ∧ keyB f.name f.h.typ g = false := by
  obtain ⟨h1, h2⟩ := List.mem_filter.1 h
  exact ⟨h1, by simpa using h2⟩
/-- What was laid is found. -/
theorem find_lay {c : Ca} {f : Fc} (h : soundF f = true) (hm : 1 ≤ c.most) : (c.lay f).find f.name f.h.typ = some f := by
  have h1 : (c.rest f ++ [f]).find? (keyB f.name f.h.typ) = some f := by
    rw [List.find?_append, rest_none]
    simp [keyB_self]
  unfold Ca.lay Ca.find
  rw [if_pos h]
  dsimp only
  split
  · rename_i hl
    cases hr : c.rest f with
    | nil => rw [hr] at hl; simp at hl; omega
    | cons g l =>
      have h2 := rest_none c f
      rw [hr] at h2
      rw [List.find?_cons] at h2
      split at h2
      · cases h2
      · show (l ++ [f]).find? (keyB f.name f.h.typ) = some f
        rw [List.find?_append, h2]
        simp [keyB_self]
  · exact h1
theorem pairwise_snoc {c : Ca} {f : Fc} (h : c.ok) : (c.rest f ++ [f]).Pairwise fun f g => keyB f.name f.h.typ g = false := by
  rw [List.pairwise_append]
  refine ⟨h.k.sublist (List.filter_sublist), List.pairwise_singleton _ _, fun g hg x hx => ?_⟩
  rw [List.mem_singleton.1 hx, ← keyB_turn]
  exact (rest_mem hg).2
theorem lay_ok {c : Ca} {f : Fc} (h : c.ok) : (c.lay f).ok := by
  unfold Ca.lay
  split
  · rename_i hs
    have hp := pairwise_snoc (f := f) h
    have hm : ∀ g ∈ c.rest f ++ [f], soundF g = true := fun g hg => by
      rcases List.mem_append.1 hg with hg | hg
      · exact h.s g (rest_mem hg).1
      · rw [List.mem_singleton.1 hg]; exact hs
    have hl : (c.rest f).length ≤ c.most := Nat.le_trans (List.length_filter_le _ _) h.l
    refine ⟨h.m1, h.m2, h.w, fun g hg => ?_, ?_, ?_⟩
    · dsimp only at hg
      split at hg
      · exact hm g (List.mem_of_mem_tail hg)
      · exact hm g hg
    · dsimp only
      split
      · exact hp.sublist (List.tail_sublist _)
      · exact hp
    · dsimp only
      split
      · rw [List.length_tail, List.length_append]
        simp only [List.length_singleton]
        omega
      · omega
  · exact h
theorem put_ok {c : Ca} {f : Fc} {now : Int} (h : c.ok) : (c.put f now).ok := by
  unfold Ca.put
  split
  · exact lay_ok h
  · exact h
theorem find_mem {c : Ca} {n : List (List UInt8)} {k : Int} {f : Fc} (h : c.find n k = some f) : f ∈ c.list ∧ f.h.typ = k ∧ eqN f.name n = true := by
  have h1 := List.find?_some h
  unfold keyB at h1
  simp only [Bool.and_eq_true, decide_eq_true_eq] at h1
  exact ⟨List.mem_of_find?_eq_some h, h1.1, h1.2⟩
theorem hasD_mem {l : List Dt} {d : Dt} (h : d ∈ l) : hasD l d = true := by
  unfold hasD
  rw [List.any_eq_true]
  exact ⟨d, h, by simp [sameD, eqN]⟩
theorem sameS_refl (l : List Dt) : sameS l l = true := by
  unfold sameS withinD
  simp only [Bool.and_eq_true, List.all_eq_true]
  exact ⟨fun d hd => hasD_mem hd, fun d hd => hasD_mem hd⟩
/-- A sound fact says the same as itself. -/
theorem sameF_refl {f : Fc} (h : soundF f = true) : sameF f f = true := by
  unfold sameF sameK sameFh
  rw [h, sameS_refl]
  simp [sameD, eqN]

/-- What CacheBeaten asks of one round: what was told ahead of a Put, and behind it. -/
theorem put_round {c : Ca} {f : Fc} {now : Int} (h : c.ok) :
    ((c.put f now).find f.name f.h.typ = some f ∧ soundF f = true ∧ ∀ g, c.find f.name f.h.typ = some g → g.h.rank ≤ f.h.rank ∨ leftI g.h.got g.h.ttl now = 0) ∨
      (c.put f now).find f.name f.h.typ = c.find f.name f.h.typ := by
  unfold Ca.put
  cases hp : c.putB f now with
  | false => exact .inr rfl
  | true =>
    left
    unfold Ca.putB at hp
    simp only [Bool.and_eq_true] at hp
    obtain ⟨h1, h2, h3⟩ := hp
    refine ⟨by rw [if_pos rfl]; exact find_lay h1 h.m1, h1, fun g hg => ?_⟩
    rw [hg] at h3
    dsimp only at h3
    unfold beatsF at h3
    simp only [Bool.and_eq_true, Bool.or_eq_true, decide_eq_true_eq] at h3
    exact h3.2.2.2.2

end Go.Proofs.YtmbcbfalgdgmjaaGreatDoor

namespace Go.Proofs.YtmbcbfalgdgmjaaGreatDoor
open Go.RowKit

/-- The digits of a byte's three. -/
def dgH (c : UInt8) : UInt8 := UInt8.ofNat (48 + c.toNat / 100)
def dgT (c : UInt8) : UInt8 := UInt8.ofNat (48 + c.toNat / 10 % 10)
def dgO (c : UInt8) : UInt8 := UInt8.ofNat (48 + c.toNat % 10)
theorem dgH_nat (c : UInt8) : (dgH c).toNat = 48 + c.toNat / 100 := by
  have := c.toNat_lt
  unfold dgH; rw [UInt8.toNat_ofNat']; omega
theorem dgT_nat (c : UInt8) : (dgT c).toNat = 48 + c.toNat / 10 % 10 := by
  have := c.toNat_lt
  unfold dgT; rw [UInt8.toNat_ofNat']; omega
theorem dgO_nat (c : UInt8) : (dgO c).toNat = 48 + c.toNat % 10 := by
  have := c.toNat_lt
  unfold dgO; rw [UInt8.toNat_ofNat']; omega
theorem dgH_int (c : UInt8) : 48 + (c.toNat : Int) / 100 = ((dgH c).toNat : Int) := by rw [dgH_nat]; omega
theorem dgT_int (c : UInt8) : 48 + (c.toNat : Int) / 10 % 10 = ((dgT c).toNat : Int) := by rw [dgT_nat]; omega
theorem dgO_int (c : UInt8) : 48 + (c.toNat : Int) % 10 = ((dgO c).toNat : Int) := by rw [dgO_nat]; omega

/-- Does a byte stand as it is? -/
def plainC (c : UInt8) : Bool := decide (33 ≤ c.toNat ∧ c.toNat ≤ 126)
theorem plainC_yes {c : UInt8} (h : 33 ≤ c.toNat ∧ c.toNat ≤ 126) : plainC c = true := by simp [plainC, h]
theorem plainC_no {c : UInt8} (h : ¬ (33 ≤ c.toNat ∧ c.toNat ≤ 126)) : plainC c = false := by simp only [plainC, decide_eq_false_iff_not]; exact h
/-- A byte of a label as text. -/
def textC (c : UInt8) : List UInt8 :=
  if c.toNat = 46 ∨ c.toNat = 92 then [92, c] else if 33 ≤ c.toNat ∧ c.toNat ≤ 126 then [c] else [92, dgH c, dgT c, dgO c]
def textL (l : List UInt8) : List UInt8 := l.flatMap textC
def textN (n : List (List UInt8)) : List UInt8 := n.flatMap fun l => textL l ++ [46]
/-- A name's text. -/
def textA (n : List (List UInt8)) : List UInt8 := if n = [] then [46] else textN n
theorem textC_esc {c : UInt8} (h : c.toNat = 46 ∨ c.toNat = 92) : textC c = [92, c] := by unfold textC; rw [if_pos h]
theorem textC_as {c : UInt8} (h0 : ¬ (c.toNat = 46 ∨ c.toNat = 92)) (h : 33 ≤ c.toNat ∧ c.toNat ≤ 126) : textC c = [c] := by unfold textC; rw [if_neg h0, if_pos h]
theorem textC_num {c : UInt8} (h : ¬ (33 ≤ c.toNat ∧ c.toNat ≤ 126)) : textC c = [92, dgH c, dgT c, dgO c] := by
  unfold textC; rw [if_neg (by omega), if_neg h]
theorem length_textC (c : UInt8) : (textC c).length ≤ 4 := by
  unfold textC
  split
  · simp
  · split <;> simp
theorem length_textL (l : List UInt8) : (textL l).length ≤ 4 * l.length := by
  induction l with
  | nil => simp [textL]
  | cons c l ih =>
    have := length_textC c
    simp only [textL, List.flatMap_cons, List.length_append, List.length_cons] at ih ⊢
    omega
theorem length_textN (n : List (List UInt8)) : (textN n).length ≤ 4 * szN n := by
  induction n with
  | nil => simp [textN]
  | cons l n ih =>
    have := length_textL l
    simp only [textN, List.flatMap_cons, List.length_append, List.length_cons, szN, List.length_nil] at ih ⊢
    omega
theorem textL_snoc {l : List UInt8} {k : Nat} (h : k < l.length) : textL (l.take (k + 1)) = textL (l.take k) ++ textC l[k] := by
  unfold textL
  rw [List.take_succ_eq_append_getElem h, List.flatMap_append, List.flatMap_cons, List.flatMap_nil, List.append_nil]
theorem textN_snoc {n : List (List UInt8)} {k : Nat} (h : k < n.length) : textN (n.take (k + 1)) = textN (n.take k) ++ textL n[k] ++ [46] := by
  unfold textN
  rw [List.take_succ_eq_append_getElem h, List.flatMap_append, List.flatMap_cons, List.flatMap_nil, List.append_nil, List.append_assoc]
theorem textL_take_le (l : List UInt8) (k : Nat) : (textL (l.take k)).length ≤ 4 * l.length := by
  have := length_textL (l.take k)
  have h : (l.take k).length ≤ l.length := List.length_take_le' k l
  omega
theorem textN_take_le (n : List (List UInt8)) (k : Nat) : (textN (n.take k)).length ≤ 4 * szN n := by
  have := length_textN (n.take k)
  have h := szN_take_le n k
  omega
theorem textN_ne {n : List (List UInt8)} (h : n ≠ []) : textN n ≠ [] := by
  cases n with
  | nil => exact absurd rfl h
  | cons l n => simp [textN]

end Go.Proofs.YtmbcbfalgdgmjaaGreatDoor

namespace Go.Proofs.YtmbcbfalgdgmjaaGreatDoor
open Go.RowKit

def digB (c : UInt8) : Bool := decide (48 ≤ c.toNat ∧ c.toNat ≤ 57)
theorem digB_yes {c : UInt8} (h : 48 ≤ c.toNat ∧ c.toNat ≤ 57) : digB c = true := by simp [digB, h]
theorem digB_no {c : UInt8} (h : ¬ (48 ≤ c.toNat ∧ c.toNat ≤ 57)) : digB c = false := by simp only [digB, decide_eq_false_iff_not]; exact h
/-- The number of three digits. -/
def numC (a b c : UInt8) : Nat := (a.toNat - 48) * 100 + (b.toNat - 48) * 10 + (c.toNat - 48)
/-- What three digits tell. -/
def readN : List UInt8 → Option UInt8
  | d :: e :: f :: _ => if digB d = true ∧ digB e = true ∧ digB f = true ∧ numC d e f ≤ 255 then some (UInt8.ofNat (numC d e f)) else none
  | _ => none
/-- The byte that a text begins with, and how many bytes tell it. -/
def readC : List UInt8 → Option (UInt8 × Nat)
  | [] => none
  | c :: t =>
    if c.toNat = 92 then
      match t with
      | [] => none
      | d :: t' => if digB d = true then (readN (d :: t')).map fun b => (b, 4) else some (d, 2)
    else if plainC c = true then some (c, 1) else none
theorem readN_len {t : List UInt8} {b : UInt8} (h : readN t = some b) : 3 ≤ t.length := by
  match t, h with
  | [], h => simp [readN] at h
  | [_], h => simp [readN] at h
  | [_, _], h => simp [readN] at h
  | _ :: _ :: _ :: _, _ => simp
theorem readC_pos {s : List UInt8} {b : UInt8} {k : Nat} (h : readC s = some (b, k)) : 1 ≤ k ∧ k ≤ s.length := by
  match s, h with
  | [], h => simp [readC] at h
  | c :: t, h =>
    rw [readC.eq_def] at h
    simp only at h
    split at h
    · match t, h with
      | [], h => simp at h
      | d :: t', h =>
        simp only at h
        split at h
        · rw [Option.map_eq_some_iff] at h
          obtain ⟨b', h1, h2⟩ := h
          have := readN_len h1
          simp only [Prod.mk.injEq] at h2
          simp at this ⊢
          omega
        · simp only [Option.some.injEq, Prod.mk.injEq] at h
          simp
          omega
    · split at h
      · simp only [Option.some.injEq, Prod.mk.injEq] at h
        simp
        omega
      · simp at h

/-- The label that a text begins with, behind acc, and what is behind its point. -/
def cutFrom (acc cur : List UInt8) : Option (List UInt8 × List UInt8) :=
  match cur with
  | [] => some (acc, [])
  | c :: t =>
    if c.toNat = 46 then some (acc, t) else
    match _h : readC (c :: t) with
    | none => none
    | some (b, k) => cutFrom (acc ++ [b]) ((c :: t).drop k)
termination_by cur.length
decreasing_by
  have := readC_pos ‹_›
  rw [List.length_drop]
  simp at this ⊢
  omega
theorem cutFrom_nil (acc : List UInt8) : cutFrom acc [] = some (acc, []) := by rw [cutFrom]
theorem cutFrom_dot {c : UInt8} (acc t : List UInt8) (h : c.toNat = 46) : cutFrom acc (c :: t) = some (acc, t) := by rw [cutFrom, if_pos h]
theorem cutFrom_none {c : UInt8} (acc t : List UInt8) (h : ¬ c.toNat = 46) (hr : readC (c :: t) = none) : cutFrom acc (c :: t) = none := by
  rw [cutFrom, if_neg h]
  split
  · rfl
  · rename_i h2; rw [hr] at h2; cases h2
theorem cutFrom_some {c : UInt8} (acc t : List UInt8) {b : UInt8} {k : Nat} (h : ¬ c.toNat = 46) (hr : readC (c :: t) = some (b, k)) : cutFrom acc (c :: t) = cutFrom (acc ++ [b]) ((c :: t).drop k) := by
  rw [cutFrom, if_neg h]
  split
  · rename_i h2; rw [hr] at h2; cases h2
  · rename_i b' k' h2
    rw [hr] at h2
    injection h2 with h2
    injection h2 with h3 h4
    subst h3; subst h4
    rfl
theorem cutFrom_rest : ∀ (n : Nat) (acc cur l rest : List UInt8), cur.length = n → cutFrom acc cur = some (l, rest) → cur ≠ [] → rest.length < cur.length := by
  intro n
  induction n using Nat.strongRecOn with
  | _ n ih =>
    intro acc cur l rest hn h hne
    match cur, hne with
    | c :: t, _ =>
      by_cases hd : c.toNat = 46
      · rw [cutFrom_dot acc t hd] at h
        injection h with h
        injection h with _ h
        subst h
        simp
      · cases hr : readC (c :: t) with
        | none => rw [cutFrom_none acc t hd hr] at h; cases h
        | some x =>
          obtain ⟨b, k⟩ := x
          rw [cutFrom_some acc t hd hr] at h
          have hk := readC_pos hr
          by_cases he : (c :: t).drop k = []
          · rw [he, cutFrom_nil] at h
            injection h with h
            injection h with _ h
            subst h
            simp
          · have h1 : ((c :: t).drop k).length < n := by rw [List.length_drop]; omega
            have h2 := ih _ h1 _ _ l rest rfl h he
            rw [List.length_drop] at h2
            omega

theorem cutFrom_len : ∀ (n : Nat) (acc cur l rest : List UInt8), cur.length = n → cutFrom acc cur = some (l, rest) → l.length + rest.length ≤ acc.length + cur.length := by
  intro n
  induction n using Nat.strongRecOn with
  | _ n ih =>
    intro acc cur l rest hn h
    match cur with
    | [] =>
      rw [cutFrom_nil] at h
      injection h with h
      injection h with h1 h2
      subst h1; subst h2
      simp
    | c :: t =>
      by_cases hd : c.toNat = 46
      · rw [cutFrom_dot acc t hd] at h
        injection h with h
        injection h with h1 h2
        subst h1; subst h2
        simp
      · cases hr : readC (c :: t) with
        | none => rw [cutFrom_none acc t hd hr] at h; cases h
        | some x =>
          obtain ⟨b, k⟩ := x
          rw [cutFrom_some acc t hd hr] at h
          have hk := readC_pos hr
          have h2 := ih _ (by rw [List.length_drop]; omega) _ _ l rest rfl h
          rw [List.length_drop, List.length_append] at h2
          simp only [List.length_cons, List.length_nil] at h2 hk ⊢
          omega

/-- The labels that a text tells, behind out and the beginning of a label. -/
def tot (out : List (List UInt8)) (lab cur : List UInt8) : Option (List (List UInt8)) :=
  match cur with
  | [] => some (out ++ [lab])
  | c :: t =>
    if c.toNat = 46 then (if t = [] then some (out ++ [lab]) else tot (out ++ [lab]) [] t) else
    match _h : readC (c :: t) with
    | none => none
    | some (b, k) => tot out (lab ++ [b]) ((c :: t).drop k)
termination_by cur.length
decreasing_by
  · simp
  · have := readC_pos ‹_›
    rw [List.length_drop]
    simp at this ⊢
    omega
theorem tot_nil (out : List (List UInt8)) (lab : List UInt8) : tot out lab [] = some (out ++ [lab]) := by rw [tot]
theorem tot_dot {c : UInt8} (out : List (List UInt8)) (lab t : List UInt8) (h : c.toNat = 46) (ht : t ≠ []) : tot out lab (c :: t) = tot (out ++ [lab]) [] t := by rw [tot, if_pos h, if_neg ht]
theorem tot_end {c : UInt8} (out : List (List UInt8)) (lab : List UInt8) (h : c.toNat = 46) : tot out lab [c] = some (out ++ [lab]) := by rw [tot, if_pos h, if_pos rfl]
theorem tot_none {c : UInt8} (out : List (List UInt8)) (lab t : List UInt8) (h : ¬ c.toNat = 46) (hr : readC (c :: t) = none) : tot out lab (c :: t) = none := by
  rw [tot, if_neg h]
  split
  · rfl
  · rename_i h2; rw [hr] at h2; cases h2
theorem tot_some {c : UInt8} (out : List (List UInt8)) (lab t : List UInt8) {b : UInt8} {k : Nat} (h : ¬ c.toNat = 46) (hr : readC (c :: t) = some (b, k)) : tot out lab (c :: t) = tot out (lab ++ [b]) ((c :: t).drop k) := by
  rw [tot, if_neg h]
  split
  · rename_i h2; rw [hr] at h2; cases h2
  · rename_i b' k' h2
    rw [hr] at h2
    injection h2 with h2
    injection h2 with h3 h4
    subst h3; subst h4
    rfl
theorem tot_cut : ∀ (n : Nat) (out : List (List UInt8)) (lab cur : List UInt8), cur.length = n →
    tot out lab cur = match cutFrom lab cur with | none => none | some (l, rest) => if rest = [] then some (out ++ [l]) else tot (out ++ [l]) [] rest := by
  intro n
  induction n using Nat.strongRecOn with
  | _ n ih =>
    intro out lab cur hn
    match cur with
    | [] => rw [cutFrom_nil, tot_nil]; rfl
    | c :: t =>
      by_cases hd : c.toNat = 46
      · rw [cutFrom_dot lab t hd]
        by_cases ht : t = []
        · subst ht; rw [tot_end out lab hd]; rfl
        · rw [tot_dot out lab t hd ht]; simp [ht]
      · cases hr : readC (c :: t) with
        | none => rw [cutFrom_none lab t hd hr, tot_none out lab t hd hr]
        | some x =>
          obtain ⟨b, k⟩ := x
          rw [cutFrom_some lab t hd hr, tot_some out lab t hd hr]
          have hk := readC_pos hr
          exact ih _ (by rw [List.length_drop]; omega) out (lab ++ [b]) _ rfl

theorem szN_appendP (a b : List (List UInt8)) : szN (a ++ b) + 1 = szN a + szN b := by
  induction a with
  | nil => simp [szN]; omega
  | cons x a ih => simp only [List.cons_append, szN]; omega
theorem soundN_prefix {a b : List (List UInt8)} (h : soundN (a ++ b) = true) : soundN a = true := by
  simp only [soundN, Bool.and_eq_true, decide_eq_true_eq, List.all_append] at h ⊢
  have := szN_appendP a b
  have := szN_pos b
  exact ⟨h.1.1, by omega⟩
theorem tot_prefix : ∀ (n : Nat) (out : List (List UInt8)) (lab cur : List UInt8) (m : List (List UInt8)), cur.length = n → tot out lab cur = some m → ∃ y, m = out ++ y := by
  intro n
  induction n using Nat.strongRecOn with
  | _ n ih =>
    intro out lab cur m hn h
    match cur with
    | [] =>
      rw [tot_nil] at h
      injection h with h
      exact ⟨_, h.symm⟩
    | c :: t =>
      by_cases hd : c.toNat = 46
      · by_cases ht : t = []
        · subst ht
          rw [tot_end out lab hd] at h
          injection h with h
          exact ⟨_, h.symm⟩
        · rw [tot_dot out lab t hd ht] at h
          obtain ⟨y, hy⟩ := ih t.length (by simp at hn; omega) _ _ t m rfl h
          exact ⟨[lab] ++ y, by rw [hy, List.append_assoc]⟩
      · cases hr : readC (c :: t) with
        | none => rw [tot_none out lab t hd hr] at h; cases h
        | some x =>
          obtain ⟨b, k⟩ := x
          rw [tot_some out lab t hd hr] at h
          have hk := readC_pos hr
          exact ih _ (by rw [List.length_drop]; omega) _ _ _ m rfl h

/-- A name, if it is sound. -/
def chk (x : Option (List (List UInt8))) : Option (List (List UInt8)) := match x with
  | some n => if soundN n = true then some n else none
  | none => none
/-- The name that a text tells. -/
def parseN (s : List UInt8) : Option (List (List UInt8)) :=
  if s = [46] then some [] else chk (tot [] [] s)

/-- What is left to tell of a text, behind the labels out. -/
def pcont (out : List (List UInt8)) (cur : List UInt8) : Option (List (List UInt8)) :=
  if cur = [] then (if out = [] then none else chk (some out)) else chk (tot out [] cur)
theorem pcont_start {s : List UInt8} (h : ¬ s = [46]) : parseN s = pcont [] s := by
  unfold parseN pcont
  rw [if_neg h]
  by_cases hs : s = []
  · subst hs
    rw [if_pos rfl, if_pos rfl, tot_nil]
    rfl
  · rw [if_neg hs]
theorem pcont_none {out : List (List UInt8)} {cur : List UInt8} (h : cur ≠ []) (hc : cutFrom [] cur = none) : pcont out cur = none := by
  unfold pcont
  rw [if_neg h, tot_cut _ out [] cur rfl, hc]
  rfl
theorem pcont_step {out : List (List UInt8)} {cur l rest : List UInt8} (h : cur ≠ []) (hc : cutFrom [] cur = some (l, rest)) : pcont out cur = pcont (out ++ [l]) rest := by
  unfold pcont
  rw [if_neg h, tot_cut _ out [] cur rfl, hc]
  by_cases hr : rest = []
  · simp [hr]
  · simp [hr]
theorem pcont_bad {out : List (List UInt8)} {cur : List UInt8} (h : soundN out = false) : pcont out cur = none := by
  unfold pcont
  split
  · split
    · rfl
    · simp [chk, h]
  · cases ht : tot out [] cur with
    | none => rfl
    | some m =>
      obtain ⟨y, hy⟩ := tot_prefix _ out [] cur m rfl ht
      cases hs : soundN m
      · simp [chk, hs]
      · rw [hy] at hs
        rw [soundN_prefix hs] at h
        cases h
theorem pcont_end {out : List (List UInt8)} (h : out ≠ []) (hs : soundN out = true) : pcont out [] = some out := by
  unfold pcont
  rw [if_pos rfl, if_neg h]
  simp [chk, hs]

end Go.Proofs.YtmbcbfalgdgmjaaGreatDoor

namespace Go.Proofs.YtmbcbfalgdgmjaaGreatDoor
open Go.RowKit

theorem tot_textC (out : List (List UInt8)) (lab t : List UInt8) (c : UInt8) : tot out lab (textC c ++ t) = tot out (lab ++ [c]) t := by
  have hc := c.toNat_lt
  by_cases h1 : c.toNat = 46 ∨ c.toNat = 92
  · rw [textC_esc h1]
    have hd : digB c = false := digB_no (by omega)
    have hr : readC (92 :: c :: t) = some (c, 2) := by simp [readC, hd]
    exact tot_some out lab (c :: t) (by decide) hr
  · by_cases h2 : 33 ≤ c.toNat ∧ c.toNat ≤ 126
    · rw [textC_as h1 h2]
      have hr : readC (c :: t) = some (c, 1) := by
        rw [readC.eq_def]
        simp only
        rw [if_neg (by omega), if_pos (plainC_yes h2)]
      exact tot_some out lab t (by omega) hr
    · rw [textC_num h2]
      have e1 := dgH_nat c
      have e2 := dgT_nat c
      have e3 := dgO_nat c
      have d1 : digB (dgH c) = true := digB_yes (by omega)
      have d2 : digB (dgT c) = true := digB_yes (by omega)
      have d3 : digB (dgO c) = true := digB_yes (by omega)
      have hv : numC (dgH c) (dgT c) (dgO c) = c.toNat := by unfold numC; omega
      have hr : readC (92 :: dgH c :: dgT c :: dgO c :: t) = some (c, 4) := by
        rw [readC.eq_def]
        simp only
        rw [if_pos (by decide), if_pos d1]
        have hn : readN (dgH c :: dgT c :: dgO c :: t) = some c := by
          rw [readN, if_pos ⟨d1, d2, d3, by rw [hv]; omega⟩, hv]
          congr 1
          apply UInt8.toNat.inj
          rw [UInt8.toNat_ofNat']
          omega
        rw [hn]
        rfl
      exact tot_some out lab (dgH c :: dgT c :: dgO c :: t) (by decide) hr
theorem tot_textL (out : List (List UInt8)) (t : List UInt8) : ∀ (l lab : List UInt8), tot out lab (textL l ++ t) = tot out (lab ++ l) t
  | [], lab => by simp [textL]
  | c :: l, lab => by
    have h : textL (c :: l) ++ t = textC c ++ (textL l ++ t) := by simp [textL]
    rw [h, tot_textC, tot_textL out t l (lab ++ [c])]
    simp
theorem textN_cons (l : List UInt8) (n : List (List UInt8)) : textN (l :: n) = textL l ++ 46 :: textN n := by simp [textN]
theorem tot_textN : ∀ (n out : List (List UInt8)), n ≠ [] → tot out [] (textN n) = some (out ++ n)
  | [], _, h => absurd rfl h
  | [l], out, _ => by
    rw [textN_cons, show textN [] = [] from rfl, tot_textL, List.nil_append]
    exact tot_end out l (by decide)
  | l :: m :: n, out, _ => by
    have h := tot_textN (m :: n) (out ++ [l]) (by simp)
    rw [textN_cons, tot_textL, List.nil_append, tot_dot out l _ (by decide) (textN_ne (by simp)), h]
    simp
theorem textN_two {n : List (List UInt8)} (hn : n ≠ []) (h : ∀ l ∈ n, l ≠ []) : 2 ≤ (textN n).length := by
  match n, hn with
  | l :: n, _ =>
    have hl := h l (List.mem_cons_self ..)
    match l, hl with
    | c :: l, _ =>
      have : 1 ≤ (textC c).length := by
        unfold textC
        split
        · simp
        · split <;> simp
      rw [textN_cons]
      simp only [textL, List.flatMap_cons, List.length_append, List.length_cons]
      omega
theorem tot_dropped : ∀ (n out : List (List UInt8)), n ≠ [] → (∀ l ∈ n, l ≠ []) → tot out [] (textN n).dropLast = some (out ++ n)
  | [], _, h, _ => absurd rfl h
  | [l], out, _, _ => by
    rw [textN_cons, show textN [] = [] from rfl, List.dropLast_concat]
    have h := tot_textL out [] l []
    rw [List.append_nil, List.nil_append] at h
    rw [h, tot_nil]
  | l :: m :: n, out, _, hl => by
    have hl2 : ∀ x ∈ m :: n, x ≠ [] := fun x hx => hl x (List.mem_cons_of_mem _ hx)
    have h := tot_dropped (m :: n) (out ++ [l]) (by simp) hl2
    have h2 := textN_two (n := m :: n) (by simp) hl2
    have hne : textN (m :: n) ≠ [] := textN_ne (by simp)
    have hd : (textN (m :: n)).dropLast ≠ [] := by
      intro e
      have := congrArg List.length e
      rw [List.length_dropLast] at this
      simp only [List.length_nil] at this
      omega
    have e : (textN (l :: m :: n)).dropLast = textL l ++ 46 :: (textN (m :: n)).dropLast := by
      rw [textN_cons, List.dropLast_append_of_ne_nil (by simp)]
      congr 1
      rw [List.dropLast_cons_of_ne_nil hne]
    rw [e, tot_textL, List.nil_append, tot_dot out l _ (by decide) hd, h]
    simp
theorem sound_ne {n : List (List UInt8)} (h : soundN n = true) : ∀ l ∈ n, l ≠ [] := by
  intro l hl e
  simp only [soundN, Bool.and_eq_true, List.all_eq_true] at h
  have := h.1 l hl
  subst e
  simp [fitL] at this
theorem not_dot {n : List (List UInt8)} {s : List UInt8} (h : soundN n = true) (ht : tot [] [] s = some n) : ¬ s = [46] := by
  rintro rfl
  rw [tot_end [] [] (by decide)] at ht
  injection ht with ht
  rw [← ht] at h
  exact absurd h (by decide)
/-- A sound name's text is read as it. -/
theorem parse_text {n : List (List UInt8)} (h : soundN n = true) : parseN (textA n) = some n := by
  by_cases hn : n = []
  · subst hn; rfl
  · have ht := tot_textN n [] hn
    rw [List.nil_append] at ht
    unfold textA parseN
    rw [if_neg hn, if_neg (not_dot h ht), ht]
    simp [chk, h]
/-- .. and without the last point. -/
theorem parse_dropped {n : List (List UInt8)} (h : soundN n = true) (hn : n ≠ []) : parseN (textA n).dropLast = some n := by
  have ht := tot_dropped n [] hn (sound_ne h)
  rw [List.nil_append] at ht
  unfold textA parseN
  rw [if_neg hn, if_neg (not_dot h ht), ht]
  simp [chk, h]

end Go.Proofs.YtmbcbfalgdgmjaaGreatDoor

namespace Go.Proofs.YtmbcbfalgdgmjaaGreatDoor
open Go.RowKit

/-- The place behind the name: the first one that was met. -/
def nextR (x p : Nat) : Nat := if x = 0 then p else x
/-- The place to which the pointer leads whose two bytes are c and d. -/
def toR (c d : UInt8) : Nat := (c.toNat - 192) * 256 + d.toNat

/-- What is read at the place p, where what is read now began at q, the name's end was met at x (0: it was not), and n is read so far: the name, the place behind it, the error. -/
def getR (b : List UInt8) (p q x : Nat) (n : List (List UInt8)) : List (List UInt8) × Nat × Nat :=
  if h0 : p < b.length then
    if b[p].toNat = 0 then (n, nextR x (p + 1), 0)
    else if 192 ≤ b[p].toNat then
      if h1 : p + 1 < b.length then
        if toR b[p] b[p + 1] < q then getR b (toR b[p] b[p + 1]) (toR b[p] b[p + 1]) (nextR x (p + 2)) n
        else ([], 0, 6)
      else ([], 0, 3)
    else if 64 ≤ b[p].toNat then ([], 0, 5)
    else if p + 1 + b[p].toNat ≤ b.length then
      if szN (n ++ [cutL b (p + 1) b[p].toNat]) ≤ 255 then getR b (p + 1 + b[p].toNat) q x (n ++ [cutL b (p + 1) b[p].toNat])
      else ([], 0, 5)
    else ([], 0, 3)
  else ([], 0, 3)
termination_by (q, 256 - szN n)
decreasing_by
  · exact Prod.Lex.left _ _ (by assumption)
  · refine Prod.Lex.right _ ?_
    rename_i h
    rw [szN_snoc] at h ⊢
    omega

section
variable {b : List UInt8} {p q x : Nat} {n : List (List UInt8)}

set_option maxRecDepth 10000
theorem getR_end (h : b.length ≤ p) : getR b p q x n = ([], 0, 3) := by
  rw [getR, dif_neg (by omega)]
theorem getR_zero (h : p < b.length) (h0 : b[p].toNat = 0) : getR b p q x n = (n, nextR x (p + 1), 0) := by
  rw [getR, dif_pos h, if_pos h0]
theorem getR_half (h : p < b.length) (h0 : 192 ≤ b[p].toNat) (h1 : b.length ≤ p + 1) : getR b p q x n = ([], 0, 3) := by
  rw [getR, dif_pos h, if_neg (by omega), if_pos h0, dif_neg (by omega)]
theorem getR_ptr (h : p < b.length) (h1 : p + 1 < b.length) (h0 : 192 ≤ b[p].toNat) (h2 : toR b[p] b[p + 1] < q) :
    getR b p q x n = getR b (toR b[p] b[p + 1]) (toR b[p] b[p + 1]) (nextR x (p + 2)) n := by
  rw [getR, dif_pos h, if_neg (by omega), if_pos h0, dif_pos h1, if_pos h2]
theorem getR_loop (h : p < b.length) (h1 : p + 1 < b.length) (h0 : 192 ≤ b[p].toNat) (h2 : q ≤ toR b[p] b[p + 1]) : getR b p q x n = ([], 0, 6) := by
  rw [getR, dif_pos h, if_neg (by omega), if_pos h0, dif_pos h1, if_neg (by omega)]
theorem getR_bad (h : p < b.length) (h0 : 64 ≤ b[p].toNat) (h1 : b[p].toNat < 192) : getR b p q x n = ([], 0, 5) := by
  rw [getR, dif_pos h, if_neg (by omega), if_neg (by omega), if_pos h0]
theorem getR_short (h : p < b.length) (h0 : b[p].toNat ≠ 0) (h1 : b[p].toNat < 64) (h2 : b.length < p + 1 + b[p].toNat) : getR b p q x n = ([], 0, 3) := by
  rw [getR, dif_pos h, if_neg h0, if_neg (by omega), if_neg (by omega), if_neg (by omega)]
theorem getR_long (h : p < b.length) (h0 : b[p].toNat ≠ 0) (h1 : b[p].toNat < 64) (h2 : p + 1 + b[p].toNat ≤ b.length) (h3 : 255 < szN n + 1 + b[p].toNat) : getR b p q x n = ([], 0, 5) := by
  rw [getR, dif_pos h, if_neg h0, if_neg (by omega), if_neg (by omega), if_pos h2, if_neg]
  rw [szN_snoc, length_cutL (by omega)]
  omega
theorem getR_label (h : p < b.length) (h0 : b[p].toNat ≠ 0) (h1 : b[p].toNat < 64) (h2 : p + 1 + b[p].toNat ≤ b.length) (h3 : szN n + 1 + b[p].toNat ≤ 255) :
    getR b p q x n = getR b (p + 1 + b[p].toNat) q x (n ++ [cutL b (p + 1) b[p].toNat]) := by
  rw [getR, dif_pos h, if_neg h0, if_neg (by omega), if_neg (by omega), if_pos h2, if_pos]
  rw [szN_snoc, length_cutL (by omega)]
  omega
end

/-- What the call answers at any place. -/
def getW (b : List UInt8) (a : Int) : List (List UInt8) × Nat × Nat := if a < 0 then ([], 0, 1) else getR b a.toNat a.toNat 0 []
theorem getW_neg {b : List UInt8} {a : Int} (h : a < 0) : getW b a = ([], 0, 1) := by rw [getW, if_pos h]
theorem getW_at (b : List UInt8) (a : Nat) : getW b a = getR b a a 0 [] := by rw [getW, if_neg (by omega), Int.toNat_natCast]

end Go.Proofs.YtmbcbfalgdgmjaaGreatDoor
