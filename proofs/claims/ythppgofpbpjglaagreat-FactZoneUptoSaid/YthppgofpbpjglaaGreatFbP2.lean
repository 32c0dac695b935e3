/-
  The contracts of name.Equal and name.Under.
-/
import Derived.Test.YthppgofpbpjglaaGreatFbP1
import Derived.Test.YthppgofpbpjglaaGreatProg
import Derived.WalkSpells
import Derived.WalkLawsBesides
namespace Go.Proofs.YthppgofpbpjglaaGreat
open Go.RowKit

set_option maxHeartbeats 400000 in
theorem sameLabel_yes (a b : List UInt8) (w : World) (ha : a.length ≤ maxLen) (hb : b.length ≤ maxLen) (he : lowL a = lowL b) :
    Calls Tryz.prog 73 #[.string ⟨a.toArray⟩, .string ⟨b.toArray⟩] w (Gave w (.bool true)) := by
  have hc := byLabel_any a b w ha hb
  rw [show cmpB (lowL a) (lowL b) = 0 by rw [he]; exact cmpB_tot.same _] at hc
  have HC := Lib.hid hc
  clear hc he
  go_enter Tryz.func73, Tryz.ntmps73
  go_wp2_with fail
  refine HC.out.mono ?_
  rintro e w1 ⟨rfl, hb1⟩
  have HB1 := Lib.hid hb1
  clear hb1
  go_wp2
  go_ret
  exact ⟨rfl, HB1.out⟩

set_option maxHeartbeats 400000 in
theorem sameLabel_no (a b : List UInt8) (w : World) (ha : a.length ≤ maxLen) (hb : b.length ≤ maxLen) (he : lowL a ≠ lowL b) :
    Calls Tryz.prog 73 #[.string ⟨a.toArray⟩, .string ⟨b.toArray⟩] w (Gave w (.bool false)) := by
  have hc := byLabel_any a b w ha hb
  have hr : (cmpB (lowL a) (lowL b) == 0) = false := by rw [beq_eq_false_iff_ne]; exact fun h => he (cmpB_tot.eq_ _ _ h)
  generalize cmpB (lowL a) (lowL b) = r at hc hr
  have HC := Lib.hid hc
  clear hc he
  go_enter Tryz.func73, Tryz.ntmps73
  go_wp2_with fail
  refine HC.out.mono ?_
  rintro e w1 ⟨rfl, hb1⟩
  have HB1 := Lib.hid hb1
  clear hb1
  go_wp2
  go_ret
  exact ⟨rfl, HB1.out⟩

set_option maxHeartbeats 400000 in
theorem equalFunc_ne (A B : Option Addr) (c1 c2 : Nat) (a b : List (List UInt8)) (w : World) (hl : a.length ≠ b.length) :
    Calls Tryz.prog 72 #[.slice A a.length c1, .slice B b.length c2, .func (.func 73) #[] #[]] w (Gave w (.bool (eqN a b))) := by
  have h1 : ((a.length : Int) != (b.length : Int)) = true := by rw [bne_iff_ne]; omega
  rw [eqN_len hl]
  clear hl
  go_enter Tryz.func72, Tryz.ntmps72
  go_wp2
  go_ret
  exact ⟨rfl, Below.refl _ _⟩

set_option maxHeartbeats 1000000 in
theorem equalFunc_len (A B : Option Addr) (c1 c2 : Nat) (a b : List (List UInt8)) (w : World) (hA : Row w w.heap.size A (a.map sv)) (hB : Row w w.heap.size B (b.map sv))
    (hs1 : WideN a) (hs2 : WideN b) (hl : a.length = b.length) :
    Calls Tryz.prog 72 #[.slice A a.length c1, .slice B b.length c2, .func (.func 73) #[] #[]] w (Gave w (.bool (eqN a b))) := by
  have hn1 := hs1.1
  have hn2 := hs2.1
  have HS1 := Lib.hid hs1.2
  have HS2 := Lib.hid hs2.2
  unfold maxLen at hn1 hn2
  clear hs1 hs2
  have HA := Lib.hid hA
  have HB := Lib.hid hB
  have h1 : ((a.length : Int) != (b.length : Int)) = false := by rw [hl]; simp
  have HL := Lib.hid hl
  clear hA hB hl
  go_enter Tryz.func72, Tryz.ntmps72
  go_wp2
  go_loopw [17] (EqRel w a b) (fun i _ => a.length - (intOf i).toNat)
  case atStart => exact ⟨0, Nat.zero_le _, rfl, rfl, Below.refl _ _⟩
  case round =>
    obtain ⟨k, hk, rfl, hkt, hbw⟩ := hrel
    have hz := hbw.size
    have HKT := Lib.hid hkt
    have HBW := Lib.hid hbw
    have HA1 := Lib.hid (HA.out.below hbw)
    have HB1 := Lib.hid (HB.out.below hbw)
    clear hkt hbw
    by_cases hlt : k < a.length
    · have hkb : k < b.length := by have := HL.out; omega
      obtain ⟨ba, oa, rfl, _, hca⟩ := HA1.out.name_at hlt
      obtain ⟨bb, ob, rfl, _, hcb⟩ := HB1.out.name_at hkb
      have hla := HS1.out k hlt
      have hlb := HS2.out k hkb
      by_cases he : lowL a[k] = lowL b[k]
      · have HC := Lib.hid (fun w' => sameLabel_yes a[k] b[k] w' hla hlb he)
        have HK := Lib.hid (low_snoc HKT.out hlt hkb he)
        clear he
        go_wp2_with fail
        refine (HC.out _).mono ?_
        rintro e w1 ⟨rfl, hb1⟩
        have HB2 := Lib.hid hb1
        clear hb1
        go_wp2
        exact ⟨⟨k + 1, by omega, by go_num, HK.out, HBW.out.trans (HB2.out.mono hz)⟩, by simp [intOf]; omega⟩
      · have HC := Lib.hid (fun w' => sameLabel_no a[k] b[k] w' hla hlb he)
        have HK := Lib.hid (low_part hlt hkb he)
        clear he
        go_wp2_with fail
        refine (HC.out _).mono ?_
        rintro e w1 ⟨rfl, hb1⟩
        have HB2 := Lib.hid hb1
        clear hb1
        go_wp2
        go_ret
        exact ⟨ret_bool HK.out.symm, HBW.out.trans (HB2.out.mono hz)⟩
    · obtain rfl : k = a.length := by omega
      have HK := Lib.hid (low_end HKT.out HL.out)
      go_wp2
      go_ret
      exact ⟨ret_bool HK.out.symm, HBW.out⟩

set_option maxHeartbeats 400000 in
theorem equal_wide (A B : Option Addr) (m1 m2 c1 c2 H : Nat) (a b : List (List UInt8)) (w : World) (hl1 : a.length = m1) (hl2 : b.length = m2) (hA : Row w H A (a.map sv)) (hB : Row w H B (b.map sv)) (hH : H ≤ w.heap.size)
    (hs1 : WideN a) (hs2 : WideN b) :
    Calls Tryz.prog 37 #[.slice A m1 c1, .slice B m2 c2] w (Gave w (.bool (eqN a b))) := by
  subst hl1
  subst hl2
  have hf : Calls Tryz.prog 72 #[.slice A a.length c1, .slice B b.length c2, .func (.func 73) #[] #[]] w (Gave w (.bool (eqN a b))) := by
    by_cases hl : a.length = b.length
    · exact equalFunc_len A B c1 c2 a b w (hA.mono hH) (hB.mono hH) hs1 hs2 hl
    · exact equalFunc_ne A B c1 c2 a b w hl
  have HC := Lib.hid hf
  clear hA hB hf
  go_enter Tryz.func37, Tryz.ntmps37
  go_wp2_with fail
  refine HC.out.mono ?_
  rintro e w1 ⟨rfl, hb1⟩
  have HB1 := Lib.hid hb1
  clear hb1
  go_wp2
  go_ret
  exact ⟨rfl, HB1.out⟩

theorem equal_any (A B : Option Addr) (m1 m2 c1 c2 H : Nat) (a b : List (List UInt8)) (w : World) (hl1 : a.length = m1) (hl2 : b.length = m2) (hA : Row w H A (a.map sv)) (hB : Row w H B (b.map sv)) (hH : H ≤ w.heap.size)
    (hs1 : szN a ≤ maxLen) (hs2 : szN b ≤ maxLen) :
    Calls Tryz.prog 37 #[.slice A m1 c1, .slice B m2 c2] w (Gave w (.bool (eqN a b))) :=
  equal_wide A B m1 m2 c1 c2 H a b w hl1 hl2 hA hB hH (wide_sz hs1) (wide_sz hs2)

end Go.Proofs.YthppgofpbpjglaaGreat

namespace Go.Proofs.YthppgofpbpjglaaGreat
open Go.RowKit

set_option maxHeartbeats 400000 in
theorem eqints_ne (A B : Option Addr) (n m c d : Nat) (w : World) (h : n ≠ m) :
    Calls Tryz.prog 66 #[.slice A n c, .slice B m d] w (Drewn w (.bool false)) := by
  have h1 : ((n : Int) != (m : Int)) = true := by rw [bne_iff_ne]; omega
  go_enter Tryz.func66, Tryz.ntmps66
  go_wp2
  go_ret
  exact ⟨rfl, 0, rfl⟩

set_option maxHeartbeats 400000 in
theorem eqints_len (A B : Option Addr) (n c d H : Nat) (xs ys : List Int) (w : World) (hx : xs.length = n) (hy : ys.length = n) (hA : Row w H A (xs.map zv)) (hB : Row w H B (ys.map zv)) (hm : n ≤ maxLen) :
    Calls Tryz.prog 66 #[.slice A n c, .slice B n d] w (Drewn w (.bool (decide (xs = ys)))) := by
  unfold maxLen at hm
  have h1 : ((n : Int) != (n : Int)) = false := by simp
  have HX := Lib.hid hx
  have HY := Lib.hid hy
  have HA := Lib.hid hA
  have HB := Lib.hid hB
  clear hx hy hA hB
  go_enter Tryz.func66, Tryz.ntmps66
  go_wp2
  go_loopw [13] (IntsRel w xs ys) (fun i _ => n - (intOf i).toNat)
  case atStart => exact ⟨0, by omega, rfl, by simp, 0, rfl⟩
  case round =>
    obtain ⟨k, hk, rfl, hkt, j, rfl⟩ := hrel
    have HKT := Lib.hid hkt
    clear hkt
    by_cases hlt : k < n
    · have hkx : k < xs.length := by rw [HX.out]; exact hlt
      have hky : k < ys.length := by rw [HY.out]; exact hlt
      obtain ⟨b, off, rfl, _, hca⟩ := HA.out.int_at hkx
      obtain ⟨b', off', rfl, _, hcb⟩ := HB.out.int_at hky
      by_cases he : xs[k] = ys[k]
      · have HE := Lib.hid he
        have hne : (xs[k] != ys[k]) = false := by rw [he]; simp
        clear he
        go_wp2
        go_quiet (fail)
        go_wp2
        refine ⟨⟨k + 1, by rw [HX.out]; omega, by go_num, take_eq_snocI HKT.out hkx hky HE.out, _, rfl⟩, by simp [intOf]; omega⟩
      · have HE := Lib.hid he
        have hne : (xs[k] != ys[k]) = true := by rw [bne_iff_ne]; exact he
        have hf : decide (xs = ys) = false := by
          rw [decide_eq_false_iff_not]; rintro rfl; exact he rfl
        have HF := Lib.hid hf
        clear he hf
        go_wp2
        go_quiet (fail)
        go_wp2
        go_ret
        exact ⟨by rw [HF.out]; rfl, j + nq, by rw [World.drewN_drewN]⟩
    · obtain rfl : k = n := by have := HX.out; omega
      have ht : decide (xs = ys) = true := by
        rw [decide_eq_true_eq]
        have := HKT.out
        rwa [List.take_of_length_le (by rw [HX.out]; omega), List.take_of_length_le (by rw [HY.out]; omega)] at this
      have HF := Lib.hid ht
      clear ht
      go_wp2
      go_ret
      exact ⟨by rw [HF.out]; rfl, _, rfl⟩

theorem eqints_any (A B : Option Addr) (n m c d H : Nat) (xs ys : List Int) (w : World) (hx : xs.length = n) (hy : ys.length = m) (hA : Row w H A (xs.map zv)) (hB : Row w H B (ys.map zv)) (hm : n ≤ maxLen) :
    Calls Tryz.prog 66 #[.slice A n c, .slice B m d] w (Drewn w (.bool (decide (xs = ys)))) := by
  by_cases h : n = m
  · subst h
    exact eqints_len A B n c d H xs ys w hx hy hA hB hm
  · have hf : decide (xs = ys) = false := by
      rw [decide_eq_false_iff_not]; rintro rfl; omega
    rw [hf]
    exact eqints_ne A B n m c d w h

set_option maxHeartbeats 400000 in
theorem eqstrs_ne (A B : Option Addr) (n m c d : Nat) (w : World) (h : n ≠ m) :
    Calls Tryz.prog 67 #[.slice A n c, .slice B m d] w (Drewn w (.bool false)) := by
  have h1 : ((n : Int) != (m : Int)) = true := by rw [bne_iff_ne]; omega
  go_enter Tryz.func67, Tryz.ntmps67
  go_wp2
  go_ret
  exact ⟨rfl, 0, rfl⟩

set_option maxHeartbeats 400000 in
theorem eqstrs_len (A B : Option Addr) (n c d H : Nat) (xs ys : List (List UInt8)) (w : World) (hx : xs.length = n) (hy : ys.length = n) (hA : Row w H A (xs.map sv)) (hB : Row w H B (ys.map sv)) (hm : n ≤ maxLen) :
    Calls Tryz.prog 67 #[.slice A n c, .slice B n d] w (Drewn w (.bool (decide (xs = ys)))) := by
  unfold maxLen at hm
  have h1 : ((n : Int) != (n : Int)) = false := by simp
  have HX := Lib.hid hx
  have HY := Lib.hid hy
  have HA := Lib.hid hA
  have HB := Lib.hid hB
  clear hx hy hA hB
  go_enter Tryz.func67, Tryz.ntmps67
  go_wp2
  go_loopw [13] (ExactRel w xs ys) (fun i _ => n - (intOf i).toNat)
  case atStart => exact ⟨0, by omega, rfl, by simp, 0, rfl⟩
  case round =>
    obtain ⟨k, hk, rfl, hkt, j, rfl⟩ := hrel
    have HKT := Lib.hid hkt
    clear hkt
    by_cases hlt : k < n
    · have hkx : k < xs.length := by rw [HX.out]; exact hlt
      have hky : k < ys.length := by rw [HY.out]; exact hlt
      obtain ⟨b, off, rfl, _, hca⟩ := HA.out.name_at hkx
      obtain ⟨b', off', rfl, _, hcb⟩ := HB.out.name_at hky
      by_cases he : xs[k] = ys[k]
      · have HE := Lib.hid he
        have hne : ((xs[k]) == (ys[k])) = true := by rw [he]; simp
        clear he
        go_wp2
        go_quiet (fail)
        go_wp2
        refine ⟨⟨k + 1, by rw [HX.out]; omega, by go_num, take_eq_snocS HKT.out hkx hky HE.out, _, rfl⟩, by simp [intOf]; omega⟩
      · have HE := Lib.hid he
        have hne : ((xs[k]) == (ys[k])) = false := by rw [beq_eq_false_iff_ne]; exact he
        have hf : decide (xs = ys) = false := by
          rw [decide_eq_false_iff_not]; rintro rfl; exact he rfl
        have HF := Lib.hid hf
        clear he hf
        go_wp2
        go_quiet (fail)
        go_wp2
        go_ret
        exact ⟨by rw [HF.out]; rfl, j + nq, by rw [World.drewN_drewN]⟩
    · obtain rfl : k = n := by have := HX.out; omega
      have ht : decide (xs = ys) = true := by
        rw [decide_eq_true_eq]
        have := HKT.out
        rwa [List.take_of_length_le (by rw [HX.out]; omega), List.take_of_length_le (by rw [HY.out]; omega)] at this
      have HF := Lib.hid ht
      clear ht
      go_wp2
      go_ret
      exact ⟨by rw [HF.out]; rfl, _, rfl⟩

theorem eqstrs_any (A B : Option Addr) (n m c d H : Nat) (xs ys : List (List UInt8)) (w : World) (hx : xs.length = n) (hy : ys.length = m) (hA : Row w H A (xs.map sv)) (hB : Row w H B (ys.map sv)) (hm : n ≤ maxLen) :
    Calls Tryz.prog 67 #[.slice A n c, .slice B m d] w (Drewn w (.bool (decide (xs = ys)))) := by
  by_cases h : n = m
  · subst h
    exact eqstrs_len A B n c d H xs ys w hx hy hA hB hm
  · have hf : decide (xs = ys) = false := by
      rw [decide_eq_false_iff_not]; rintro rfl; omega
    rw [hf]
    exact eqstrs_ne A B n m c d w h

end Go.Proofs.YthppgofpbpjglaaGreat

namespace Go.Proofs.YthppgofpbpjglaaGreat
open Go.RowKit

set_option maxRecDepth 4000 in
set_option maxHeartbeats 2000000 in
theorem dsame_wide (x y : DV) (a b : Dt) (w : World) (hx : DataAt w w.heap.size x a) (hy : DataAt w w.heap.size y b) (la : Wide a) (lb : Wide b) :
    Calls Tryz.prog 31 #[x.val a, y.val b] w (Gave w (.bool (sameD a b))) := by
  have k1 : a.bytes.length ≤ maxLen := Nat.le_trans hx.lb hx.kb
  have k2 : a.nums.length ≤ maxLen := Nat.le_trans hx.ln hx.kn
  have HC1 := Lib.hid (fun W (h : Boxes w x y a b W) => eqbytes_any x.Ab y.Ab a.bytes.length b.bytes.length x.cb y.cb w.heap.size a.bytes b.bytes W rfl rfl h.da.b h.db.b )
  have HC2 := Lib.hid (fun W (h : Boxes w x y a b W) => eqints_any x.An y.An a.nums.length b.nums.length x.cn y.cn w.heap.size a.nums b.nums W rfl rfl h.da.n h.db.n k2)
  have HC3 := Lib.hid (fun W (h : Boxes w x y a b W) => eqstrs_any x.At y.At a.texts.length b.texts.length x.ct y.ct w.heap.size a.texts b.texts W rfl rfl h.da.t h.db.t la.t)
  have HC4 := Lib.hid (fun W (h : Boxes w x y a b W) => equal_wide x.Ah y.Ah a.host.length b.host.length x.ch y.ch w.heap.size a.host b.host W rfl rfl h.da.h h.db.h (Nat.le_trans (Nat.le_add_right _ 2) h.size) la.h lb.h)
  have HC5 := Lib.hid (fun W (h : Boxes w x y a b W) => equal_wide x.Am y.Am a.mail.length b.mail.length x.cm y.cm w.heap.size a.mail b.mail W rfl rfl h.da.m h.db.m (Nat.le_trans (Nat.le_add_right _ 2) h.size) la.m lb.m)
  have HX := Lib.hid (Boxes.made hx hy)
  have HS := Lib.hid (show sameD a b = (decide (a.bytes = b.bytes) && (decide (a.nums = b.nums) && (decide (a.texts = b.texts) && (eqN a.host b.host && eqN a.mail b.mail)))) from rfl)
  clear k1 k2 hx hy la lb
  go_enter Tryz.func31, Tryz.ntmps31
  go_wp2_with fail
  obtain ⟨W0, hW0⟩ : ∃ W0, W0 = (w.alloc (.cells #[.slice x.Ab a.bytes.length x.cb, .slice x.Ah a.host.length x.ch, .slice x.Am a.mail.length x.cm, .slice x.An a.nums.length x.cn, .slice x.At a.texts.length x.ct] 38)).alloc (.cells #[.slice y.Ab b.bytes.length y.cb, .slice y.Ah b.host.length y.ch, .slice y.Am b.mail.length y.cm, .slice y.An b.nums.length y.cn, .slice y.At b.texts.length y.ct] 38) := ⟨_, rfl⟩
  rw [← hW0]
  have hx0 : Boxes w x y a b W0 := by rw [hW0]; exact HX.out
  clear HX hW0
  refine (HC1.out W0 hx0).mono ?_
  intro e W1 hO
  obtain ⟨he, hb⟩ := gave_told hO
  have hx1 := hx0.step hb
  clear hO hb hx0
  cases hv : decide (a.bytes = b.bytes) with
  | false =>
    rw [hv] at he HS
    subst he
    have HB := Lib.hid hx1.below
    clear hx1
    go_wp2
    go_ret
    exact ⟨by rw [HS.out]; rfl, HB.out⟩
  | true =>
  rw [hv] at he HS
  subst he
  have p3 : W1.cell? ⟨w.heap.size, 3, none⟩ = some (.slice x.An a.nums.length x.cn) := hx1.ba.cell 3
  have q3 : W1.cell? ⟨w.heap.size + 1, 3, none⟩ = some (.slice y.An b.nums.length y.cn) := hx1.bb.cell 3
  go_wp2_with fail
  refine (HC2.out W1 hx1).mono ?_
  intro e W2 hO
  obtain ⟨he, hb⟩ := gave_drewn hO
  have hx2 := hx1.step hb
  clear hO hb hx1 p3 q3
  cases hv : decide (a.nums = b.nums) with
  | false =>
    rw [hv] at he HS
    subst he
    have HB := Lib.hid hx2.below
    clear hx2
    go_wp2
    go_ret
    exact ⟨by rw [HS.out]; rfl, HB.out⟩
  | true =>
  rw [hv] at he HS
  subst he
  have p4 : W2.cell? ⟨w.heap.size, 4, none⟩ = some (.slice x.At a.texts.length x.ct) := hx2.ba.cell 4
  have q4 : W2.cell? ⟨w.heap.size + 1, 4, none⟩ = some (.slice y.At b.texts.length y.ct) := hx2.bb.cell 4
  go_wp2_with fail
  refine (HC3.out W2 hx2).mono ?_
  intro e W3 hO
  obtain ⟨he, hb⟩ := gave_drewn hO
  have hx3 := hx2.step hb
  clear hO hb hx2 p4 q4
  cases hv : decide (a.texts = b.texts) with
  | false =>
    rw [hv] at he HS
    subst he
    have HB := Lib.hid hx3.below
    clear hx3
    go_wp2
    go_ret
    exact ⟨by rw [HS.out]; rfl, HB.out⟩
  | true =>
  rw [hv] at he HS
  subst he
  have p1 : W3.cell? ⟨w.heap.size, 1, none⟩ = some (.slice x.Ah a.host.length x.ch) := hx3.ba.cell 1
  have q1 : W3.cell? ⟨w.heap.size + 1, 1, none⟩ = some (.slice y.Ah b.host.length y.ch) := hx3.bb.cell 1
  go_wp2_with fail
  refine (HC4.out W3 hx3).mono ?_
  intro e W4 hO
  obtain ⟨he, hb⟩ := hO
  have hx4 := hx3.step hb
  clear hb hx3 p1 q1
  cases hv : eqN a.host b.host with
  | false =>
    rw [hv] at he HS
    subst he
    have HB := Lib.hid hx4.below
    clear hx4
    go_wp2
    go_ret
    exact ⟨by rw [HS.out]; rfl, HB.out⟩
  | true =>
  rw [hv] at he HS
  subst he
  have p2 : W4.cell? ⟨w.heap.size, 2, none⟩ = some (.slice x.Am a.mail.length x.cm) := hx4.ba.cell 2
  have q2 : W4.cell? ⟨w.heap.size + 1, 2, none⟩ = some (.slice y.Am b.mail.length y.cm) := hx4.bb.cell 2
  go_wp2_with fail
  refine (HC5.out W4 hx4).mono ?_
  intro e W5 hO
  obtain ⟨he, hb⟩ := hO
  have hx5 := hx4.step hb
  clear hb hx4 p2 q2
  subst he
  have HB := Lib.hid hx5.below
  clear hx5
  go_wp2
  go_ret
  refine ⟨?_, HB.out⟩
  rw [HS.out]
  simp

theorem dsame_any (x y : DV) (a b : Dt) (w : World) (hx : DataAt w w.heap.size x a) (hy : DataAt w w.heap.size y b) (la : Sized a) (lb : Sized b) :
    Calls Tryz.prog 31 #[x.val a, y.val b] w (Gave w (.bool (sameD a b))) := dsame_wide x y a b w hx hy la.wide lb.wide

end Go.Proofs.YthppgofpbpjglaaGreat

namespace Go.Proofs.YthppgofpbpjglaaGreat
open Go.RowKit

/-- Is data in a list? -/
def hasD (l : List Dt) (d : Dt) : Bool := l.any (fun e => sameD d e)
/-- Is each of a in b? -/
def withinD (a b : List Dt) : Bool := a.all fun x => hasD b x
def sameS (a b : List Dt) : Bool := withinD a b && withinD b a

/-- What 'has' lays for its closure. -/
structure HasBox (w : World) (g f : Nat) (x : DV) (a : Dt) : Prop where
  bg : Whole w g 38 [x.vb a, x.vh a, x.vm a, x.vn a, x.vt a]
  bf : Whole w f 59 [.func (.func 31) #[] #[]]
  d : DataAt w w.heap.size x a
theorem HasBox.below {w w' : World} {g f : Nat} {x : DV} {a : Dt} (h : HasBox w g f x a) (hb : Below w.heap.size w w') : HasBox w' g f x a :=
  ⟨h.bg.below hb h.bg.lt, h.bf.below hb h.bf.lt, (h.d.below hb).mono hb.size⟩

set_option maxHeartbeats 1000000 in
theorem has1_any (w : World) (g f : Nat) (x y : DV) (a b : Dt) (h : HasBox w g f x a) (hy : DataAt w w.heap.size y b) (la : Wide a) (lb : Wide b) :
    Calls Tryz.prog 94 #[y.val b, .pointer (some ⟨f, 0, none⟩), .pointer (some ⟨g, 0, none⟩)] w (Gave w (.bool (sameD a b))) := by
  obtain ⟨W, hW⟩ : ∃ W, W = w.alloc (.cells #[.slice y.Ab b.bytes.length y.cb, .slice y.Ah b.host.length y.ch, .slice y.Am b.mail.length y.cm, .slice y.An b.nums.length y.cn, .slice y.At b.texts.length y.ct] 38) := ⟨_, rfl⟩
  have hB : Below w.heap.size w W := by rw [hW]; exact (Below.refl _ _).alloc (Nat.le_refl _) _
  have hx := h.below hB
  have hwh : Whole W w.heap.size 38 [y.vb b, y.vh b, y.vm b, y.vn b, y.vt b] := by rw [hW]; exact Whole.made w [y.vb b, y.vh b, y.vm b, y.vn b, y.vt b] _
  have c0 : W.cell? ⟨w.heap.size, 0, none⟩ = some (.slice y.Ab b.bytes.length y.cb) := hwh.cell 0
  have c1 : W.cell? ⟨w.heap.size, 1, none⟩ = some (.slice y.Ah b.host.length y.ch) := hwh.cell 1
  have c2 : W.cell? ⟨w.heap.size, 2, none⟩ = some (.slice y.Am b.mail.length y.cm) := hwh.cell 2
  have c3 : W.cell? ⟨w.heap.size, 3, none⟩ = some (.slice y.An b.nums.length y.cn) := hwh.cell 3
  have c4 : W.cell? ⟨w.heap.size, 4, none⟩ = some (.slice y.At b.texts.length y.ct) := hwh.cell 4
  have d0 : W.cell? ⟨g, 0, none⟩ = some (.slice x.Ab a.bytes.length x.cb) := hx.bg.cell 0
  have d1 : W.cell? ⟨g, 1, none⟩ = some (.slice x.Ah a.host.length x.ch) := hx.bg.cell 1
  have d2 : W.cell? ⟨g, 2, none⟩ = some (.slice x.Am a.mail.length x.cm) := hx.bg.cell 2
  have d3 : W.cell? ⟨g, 3, none⟩ = some (.slice x.An a.nums.length x.cn) := hx.bg.cell 3
  have d4 : W.cell? ⟨g, 4, none⟩ = some (.slice x.At a.texts.length x.ct) := hx.bg.cell 4
  have f0 : W.cell? ⟨f, 0, none⟩ = some (.func (.func 31) #[] #[]) := hx.bf.cell 0
  have HC := Lib.hid (dsame_wide x y a b W hx.d ((hy.below hB).mono hB.size) la lb)
  have HB := Lib.hid hB
  clear hB hx hwh hy la lb h
  subst hW
  go_enter Tryz.func94, Tryz.ntmps94
  go_wp2_with fail
  refine HC.out.mono ?_
  rintro e w1 ⟨rfl, hb1⟩
  have HB1 := Lib.hid hb1
  clear hb1
  go_wp2
  go_ret
  exact ⟨rfl, HB.out.trans (HB1.out.mono HB.out.size)⟩

/-- What IndexFunc knows ahead of a round. -/
def IndexRel (w : World) (ps : List (DV × Dt)) (P : Dt → Bool) (i : Value) (wr : World) : Prop :=
  ∃ k : Nat, k ≤ ps.length ∧ i = .int .i64 k ∧ (dats (ps.take k)).any P = false ∧ Below w.heap.size w wr
def IndexOut (w : World) (b : Bool) (e : Ending) (w' : World) : Prop := ∃ i : Int, e = .returned (.int .i64 i) ∧ decide (0 ≤ i) = b ∧ Below w.heap.size w w'
theorem any_snoc {ps : List (DV × Dt)} {k : Nat} (P : Dt → Bool) (hk : k < ps.length) (h : (dats (ps.take k)).any P = false) :
    (P (ps[k]).2 = true → (dats ps).any P = true) ∧ (P (ps[k]).2 = false → (dats (ps.take (k + 1))).any P = false) := by
  constructor
  · intro hp
    rw [List.any_eq_true]
    exact ⟨(ps[k]).2, List.mem_map.2 ⟨ps[k], List.getElem_mem hk, rfl⟩, hp⟩
  · intro hp
    rw [List.take_succ_eq_append_getElem hk, dats_append, List.any_append, h]
    simpa [dats] using hp

set_option maxHeartbeats 2000000 in
theorem index_has (w : World) (g f : Nat) (x : DV) (a : Dt) (A : Option Addr) (c : Nat) (ps : List (DV × Dt)) (h : HasBox w g f x a) (hp : DsAt w w.heap.size A ps) (la : Wide a) (hc : ∀ p ∈ ps, Wide p.2) (hl : ps.length ≤ maxLen) :
    Calls Tryz.prog 90 #[.slice A ps.length c, .func (.func 94) #[] #[.pointer (some ⟨f, 0, none⟩), .pointer (some ⟨g, 0, none⟩)]] w (IndexOut w ((dats ps).any (fun e => sameD a e))) := by
  unfold maxLen at hl
  have HX := Lib.hid h
  have HP := Lib.hid hp
  have HC := Lib.hid hc
  clear h hp hc
  go_enter Tryz.func90, Tryz.ntmps90
  go_wp2
  go_loopw [8] (IndexRel w ps (fun e => sameD a e)) (fun i _ => ps.length - (intOf i).toNat)
  case atStart => exact ⟨0, Nat.zero_le _, rfl, rfl, Below.refl _ _⟩
  case round =>
    obtain ⟨k, hk, rfl, hn, hb⟩ := hrel
    have HN := Lib.hid hn
    have HB := Lib.hid hb
    have hz := hb.size
    clear hn hb
    by_cases hlt : k < ps.length
    · obtain ⟨b, off, rfl, hbH, hd, q0, q1, q2, q3, q4⟩ := (HP.out.below HB.out).at_ hlt
      have HCL := Lib.hid (has1_any wr g f x (ps[k]).1 a (ps[k]).2 (HX.out.below HB.out) (hd.mono HB.out.size) la (HC.out _ (List.getElem_mem hlt)))
      have HI := Lib.hid (any_snoc (fun e => sameD a e) hlt HN.out)
      clear hd
      revert q0 q1 q2 q3 q4 HCL HI
      generalize ps[k] = p
      obtain ⟨y, d⟩ := p
      intro q0 q1 q2 q3 q4 HCL HI
      dsimp only at *
      go_wp2_with fail
      refine HCL.out.mono ?_
      rintro e w1 ⟨rfl, hb1⟩
      have HB1 := Lib.hid (HB.out.trans (hb1.mono hz))
      clear hb1
      cases hv : sameD a d with
      | true =>
        have HT := Lib.hid (HI.out.1 hv)
        clear HI
        go_wp2
        go_ret
        exact ⟨_, rfl, by rw [HT.out]; simp, HB1.out⟩
      | false =>
        have HT := Lib.hid (HI.out.2 hv)
        clear HI
        go_wp2
        exact ⟨⟨k + 1, by omega, by go_num, HT.out, HB1.out⟩, by simp [intOf]; omega⟩
    · obtain rfl : k = ps.length := by omega
      have HF := Lib.hid (show (dats ps).any (fun e => sameD a e) = false by have h := HN.out; rwa [List.take_length] at h)
      go_wp2
      go_ret
      exact ⟨_, rfl, by rw [HF.out]; rfl, HB.out⟩

set_option maxHeartbeats 1000000 in
theorem contains_has (w : World) (g f : Nat) (x : DV) (a : Dt) (A : Option Addr) (c : Nat) (ps : List (DV × Dt)) (h : HasBox w g f x a) (hp : DsAt w w.heap.size A ps) (la : Wide a) (hc : ∀ p ∈ ps, Wide p.2) (hl : ps.length ≤ maxLen) :
    Calls Tryz.prog 64 #[.slice A ps.length c, .func (.func 94) #[] #[.pointer (some ⟨f, 0, none⟩), .pointer (some ⟨g, 0, none⟩)]] w (Gave w (.bool ((dats ps).any (fun e => sameD a e)))) := by
  have HC := Lib.hid (index_has w g f x a A c ps h hp la hc hl)
  clear h hp hc
  go_enter Tryz.func64, Tryz.ntmps64
  go_wp2_with fail
  refine HC.out.mono ?_
  rintro e w1 ⟨i, rfl, hi, hb1⟩
  have HB1 := Lib.hid hb1
  have HI := Lib.hid hi
  clear hb1 hi
  go_wp2
  go_ret
  exact ⟨ret_bool HI.out, HB1.out⟩

set_option maxHeartbeats 1000000 in
theorem has_any (w : World) (x : DV) (a : Dt) (A : Option Addr) (c : Nat) (ps : List (DV × Dt)) (hx : DataAt w w.heap.size x a) (hp : DsAt w w.heap.size A ps) (la : Wide a) (hc : ∀ p ∈ ps, Wide p.2) (hl : ps.length ≤ maxLen) :
    Calls Tryz.prog 75 #[.slice A ps.length c, x.val a, .func (.func 31) #[] #[]] w (Gave w (.bool (hasD (dats ps) a))) := by
  obtain ⟨W, hW⟩ : ∃ W, W = (w.alloc (.cells #[.slice x.Ab a.bytes.length x.cb, .slice x.Ah a.host.length x.ch, .slice x.Am a.mail.length x.cm, .slice x.An a.nums.length x.cn, .slice x.At a.texts.length x.ct] 38)).alloc (.cells #[.func (.func 31) #[] #[]] 59) := ⟨_, rfl⟩
  have hB : Below w.heap.size w W := by rw [hW]; exact ((Below.refl _ _).alloc (Nat.le_refl _) _).alloc (by simp) _
  have hb : HasBox W w.heap.size (w.heap.size + 1) x a := by
    have hg := (Whole.made w [x.vb a, x.vh a, x.vm a, x.vn a, x.vt a] 38).alloc (.cells #[.func (.func 31) #[] #[]] 59)
    have hf := Whole.made (w.alloc (.cells #[x.vb a, x.vh a, x.vm a, x.vn a, x.vt a] 38)) [.func (.func 31) #[] #[]] 59
    rw [show (w.alloc (.cells #[x.vb a, x.vh a, x.vm a, x.vn a, x.vt a] 38)).heap.size = w.heap.size + 1 by simp] at hf
    refine ⟨?_, ?_, (hx.below hB).mono hB.size⟩
    · rw [hW]; exact hg
    · rw [hW]; exact hf
  have HC := Lib.hid (contains_has W w.heap.size (w.heap.size + 1) x a A c ps hb ((hp.below hB).mono hB.size) la hc hl)
  have HB := Lib.hid hB
  clear hB hb hx hp hc
  subst hW
  go_enter Tryz.func75, Tryz.ntmps75
  go_wp2_with fail
  refine HC.out.mono ?_
  rintro e w1 ⟨rfl, hb1⟩
  have HB1 := Lib.hid hb1
  clear hb1
  go_wp2
  go_ret
  exact ⟨rfl, HB.out.trans (HB1.out.mono HB.out.size)⟩

/-- What 'within' lays for its closure. -/
structure WithinBox (w : World) (g f : Nat) (B : Option Addr) (cb : Nat) (bs : List (DV × Dt)) : Prop where
  bg : Whole w g 34 [.slice B bs.length cb]
  bf : Whole w f 59 [.func (.func 31) #[] #[]]
  d : DsAt w w.heap.size B bs
theorem WithinBox.below {w w' : World} {g f : Nat} {B : Option Addr} {cb : Nat} {bs : List (DV × Dt)} (h : WithinBox w g f B cb bs) (hb : Below w.heap.size w w') : WithinBox w' g f B cb bs :=
  ⟨h.bg.below hb h.bg.lt, h.bf.below hb h.bf.lt, (h.d.below hb).mono hb.size⟩

























































































































































end Go.Proofs.YthppgofpbpjglaaGreat

namespace Go.Proofs.YthppgofpbpjglaaGreat
open Go.RowKit

set_option maxHeartbeats 400000 in
theorem sized_yes (s : Int) (w : World) (h1 : 1 ≤ s) (h2 : s ≤ 7) :
    Calls Tryz.prog 99 #[.int .i64 s] w fun e w' => e = .returned (.bool true) ∧ w = w' := by
  go_enter Tryz.func99, Tryz.ntmps99
  go_wp2
  go_ret
  exact ⟨rfl, rfl⟩

set_option maxHeartbeats 400000 in
theorem sized_no (s : Int) (w : World) (h : s < 1 ∨ 7 < s) :
    Calls Tryz.prog 99 #[.int .i64 s] w fun e w' => e = .returned (.bool false) ∧ w = w' := by
  rcases h with h | h
  · go_enter Tryz.func99, Tryz.ntmps99
    go_wp2
    go_ret
    exact ⟨rfl, rfl⟩
  · have h1 : ¬ s < 1 := by omega
    have hd : decide (s ≤ 7) = false := by simp; omega
    go_enter Tryz.func99, Tryz.ntmps99
    go_wp2
    go_ret
    exact ⟨rfl, rfl⟩

set_option maxHeartbeats 400000 in
theorem fits_any (n s : Int) (w : World) :
    Calls Tryz.prog 91 #[.int .i64 n, .int .i64 s] w fun e w' => e = .returned (.bool (fitB n s)) ∧ w = w' := by
  by_cases hs : 1 ≤ s ∧ s ≤ 7
  · obtain ⟨h1, h2⟩ := hs
    by_cases hn : 0 ≤ n
    · go_enter Tryz.func91, Tryz.ntmps91
      go_wp2_with (go_at_call 99; refine (sized_yes _ _ h1 h2).mono ?_; rintro e w' ⟨rfl, rfl⟩)
      go_ret
      exact ⟨by rw [← fitB_shr h1 h2 hn]; rfl, rfl⟩
    · have hd : decide (0 ≤ n) = false := by simp; omega
      go_enter Tryz.func91, Tryz.ntmps91
      go_wp2_with (go_at_call 99; refine (sized_yes _ _ h1 h2).mono ?_; rintro e w' ⟨rfl, rfl⟩)
      go_ret
      exact ⟨by rw [fitB_neg (by omega)]; rfl, rfl⟩
  · have hs' : s < 1 ∨ 7 < s := by omega
    go_enter Tryz.func91, Tryz.ntmps91
    go_wp2_with (go_at_call 99; refine (sized_no _ _ hs').mono ?_; rintro e w' ⟨rfl, rfl⟩)
    go_ret
    exact ⟨by rw [fitB_no_size hs]; rfl, rfl⟩

set_option maxHeartbeats 400000 in
theorem ref_fits_any (n s : Int) (w : World) (hn : n ≤ 9223372036854775807) :
    Calls Tryz.prog 82 #[.int .i64 n, .int .i64 s] w fun e w' => e = .returned (.bool (fitB n s)) ∧ w = w' := by
  by_cases hs : 1 ≤ s ∧ s ≤ 7
  · obtain ⟨h1, h2⟩ := hs
    by_cases h0 : 0 ≤ n
    · obtain ⟨m, rfl⟩ : ∃ m : Nat, s = m := ⟨s.toNat, by omega⟩
      have d1 : decide ((m : Int) < 1) = false := by simp; omega
      have d2 : decide (7 < (m : Int)) = false := by simp; omega
      have d3 : decide (n < 0) = false := by simp; omega
      go_enter Tryz.func82, Tryz.ntmps82
      go_wp2
      go_loop [0, 5] (fun v i => ∃ k : Nat, k ≤ m ∧ i = .int .i64 k ∧ v = .int .i64 (n / 2 ^ (8 * k))) (fun _ i => m - (intOf i).toNat)
      case atStart => exact ⟨0, by omega, rfl, by simp⟩
      case round =>
        obtain ⟨k, hk, rfl, rfl⟩ := hrel
        have g1 := div_nonneg' h0 k
        have g2 := div_le' h0 k
        by_cases hlt : k < m
        · go_wp2
          go_round
          case rel => exact ⟨k + 1, by omega, by go_num, by rw [← div_step]⟩
          case measure => simp [intOf]; omega
        · obtain rfl : k = m := by omega
          go_wp2
          go_ret
          exact ⟨by rw [← fitB_shr h1 h2 h0]; rfl, rfl⟩
    · have d1 : decide (s < 1) = false := by simp; omega
      have d2 : decide (7 < s) = false := by simp; omega
      have d3 : decide (n < 0) = true := by simp; omega
      go_enter Tryz.func82, Tryz.ntmps82
      go_wp2
      go_ret
      exact ⟨by rw [fitB_neg (by omega)]; rfl, rfl⟩
  · rcases (show s < 1 ∨ 7 < s by omega) with h | h
    · have d1 : decide (s < 1) = true := by simp; omega
      go_enter Tryz.func82, Tryz.ntmps82
      go_wp2
      go_ret
      exact ⟨by rw [fitB_no_size hs]; rfl, rfl⟩
    · have d1 : decide (s < 1) = false := by simp; omega
      have d2 : decide (7 < s) = true := by simp; omega
      go_enter Tryz.func82, Tryz.ntmps82
      go_wp2
      go_ret
      exact ⟨by rw [fitB_no_size hs]; rfl, rfl⟩

end Go.Proofs.YthppgofpbpjglaaGreat

namespace Go.Proofs.YthppgofpbpjglaaGreat
open Go.RowKit

/-- What a type has. -/
structure Sh where
  ahead : Nat
  host : Bool
  mail : Bool
  short : Bool
  behind : Nat
  texts : Bool
  least : Nat
  most : Nat
abbrev Sh.val (s : Sh) : Value := .agg #[.int .i64 s.ahead, .bool s.host, .bool s.mail, .bool s.short, .int .i64 s.behind, .bool s.texts, .int .i64 s.least, .int .i64 s.most]
def shN (k : Int) : Sh :=
  if k = 1 then ⟨0, false, false, false, 0, false, 4, 4⟩
  else if k = 28 then ⟨0, false, false, false, 0, false, 16, 16⟩
  else if k = 2 ∨ k = 5 ∨ k = 12 then ⟨0, true, false, true, 0, false, 0, 0⟩
  else if k = 15 then ⟨1, true, false, true, 0, false, 0, 0⟩
  else if k = 6 then ⟨0, true, true, true, 5, false, 0, 0⟩
  else if k = 16 then ⟨0, false, false, false, 0, true, 0, 0⟩
  else if k = 33 then ⟨3, true, false, false, 0, false, 0, 0⟩
  else ⟨0, false, false, false, 0, false, 0, 65535⟩
/-- May a type be so? -/
def kindB (k : Int) : Bool := decide (1 ≤ k ∧ k ≤ 65535)

theorem shN_cases (k : Int) : k = 1 ∨ k = 28 ∨ k = 2 ∨ k = 5 ∨ k = 12 ∨ k = 15 ∨ k = 6 ∨ k = 16 ∨ k = 33 ∨ ((k == 1) = false ∧ (k == 28) = false ∧ (k == 2) = false ∧ (k == 5) = false ∧ (k == 12) = false ∧ (k == 15) = false ∧ (k == 6) = false ∧ (k == 16) = false ∧ (k == 33) = false) := by
  simp only [beq_eq_false_iff_ne]
  omega
theorem shN_other {k : Int} (h : (k == 1) = false ∧ (k == 28) = false ∧ (k == 2) = false ∧ (k == 5) = false ∧ (k == 12) = false ∧ (k == 15) = false ∧ (k == 6) = false ∧ (k == 16) = false ∧ (k == 33) = false) : shN k = ⟨0, false, false, false, 0, false, 0, 65535⟩ := by
  simp only [beq_eq_false_iff_ne] at h
  obtain ⟨h1, h2, h3, h4, h5, h6, h7, h8, h9⟩ := h
  unfold shN
  rw [if_neg h1, if_neg h2, if_neg (by omega), if_neg h6, if_neg h7, if_neg h8, if_neg h9]

set_option maxHeartbeats 400000 in
theorem shapeOf_any (k : Int) (w : World) : Calls Tryz.prog 84 #[.int .i64 k] w (Gave w (shN k).val) := by
  rcases shN_cases k with rfl | rfl | rfl | rfl | rfl | rfl | rfl | rfl | rfl | h
  case inr.inr.inr.inr.inr.inr.inr.inr.inr =>
    rw [shN_other h]
    obtain ⟨h1, h2, h3, h4, h5, h6, h7, h8, h9⟩ := h
    go_enter Tryz.func84, Tryz.ntmps84
    go_wp2
    exact ⟨rfl, (Sh.mk 0 false false false 0 false 0 65535).val, by simp [results, Tryz.results84, go_sem], rfl, (Below.refl _ _).alloc (Nat.le_refl _) _⟩
  all_goals
    go_enter Tryz.func84, Tryz.ntmps84
    go_wp2
    exact ⟨rfl, (shN _).val, by simp [results, Tryz.results84, go_sem, shN], rfl, (Below.refl _ _).alloc (Nat.le_refl _) _⟩

theorem kindB_fit {k : Int} (h : k ≠ 0) : fitB k 2 = kindB k := by
  unfold fitB kindB
  rw [show (2 : Int) ^ (8 * (2 : Int).toNat) = 65536 from rfl]
  congr 1
  apply propext
  omega
set_option maxHeartbeats 400000 in
theorem isKind_any (k : Int) (w : World) : Calls Tryz.prog 85 #[.int .i64 k] w (Told w (.bool (kindB k))) := by
  have HF := Lib.hid (fun W => fits_any k 2 W)
  by_cases h : k = 0
  · subst h
    go_enter Tryz.func85, Tryz.ntmps85
    go_wp2
    go_ret
    exact ⟨rfl, rfl⟩
  · have t1 : (k != 0) = true := by rw [bne_iff_ne]; exact h
    rw [kindB_fit h] at HF
    go_enter Tryz.func85, Tryz.ntmps85
    go_wp2_with fail
    refine (HF.out _).mono ?_
    rintro e w' ⟨rfl, rfl⟩
    go_wp2
    go_ret
    exact ⟨by simp, rfl⟩

end Go.Proofs.YthppgofpbpjglaaGreat

namespace Go.Proofs.YthppgofpbpjglaaGreat
open Go.RowKit

def SizeRel (n : List (List UInt8)) (s i : Value) : Prop := ∃ k : Nat, k ≤ n.length ∧ i = .int .i64 k ∧ s = .int .i64 (szN (n.take k))

set_option maxHeartbeats 400000 in
theorem size_any (A : Option Addr) (m c H : Nat) (n : List (List UInt8)) (w : World) (hl : n.length = m) (hA : Row w H A (n.map sv)) (hs : szN n ≤ maxLen) :
    Calls Tryz.prog 35 #[.slice A m c] w (Told w (.int .i64 (szN n))) := by
  subst hl
  unfold maxLen at hs
  have hlen := length_lt_szN n
  have HA := Lib.hid hA
  clear hA
  go_enter Tryz.func35, Tryz.ntmps35
  go_wp2
  go_loop [3, 8] (SizeRel n) (fun _ i => n.length - (intOf i).toNat)
  case atStart => exact ⟨0, Nat.zero_le _, rfl, by simp [szN]⟩
  case round =>
    obtain ⟨k, hk, rfl, rfl⟩ := hrel
    by_cases hlt : k < n.length
    · obtain ⟨b, off, rfl, _, hc⟩ := HA.out.name_at hlt
      have HS := Lib.hid (szN_take_succ hlt)
      have hle := szN_take_le n (k + 1)
      rw [HS.out] at hle
      go_wp2
      refine ⟨⟨k + 1, by omega, by go_num, ?_⟩, by simp [intOf]; omega⟩
      rw [HS.out]
      go_num
    · obtain rfl : k = n.length := by omega
      rw [List.take_length]
      go_wp2
      go_ret
      exact ⟨rfl, rfl⟩

set_option maxHeartbeats 400000 in
theorem ref_size_any (A : Option Addr) (m c H : Nat) (n : List (List UInt8)) (w : World) (hl : n.length = m) (hA : Row w H A (n.map sv)) (hs : szN n ≤ maxLen) :
    Calls Tryz.prog 55 #[.slice A m c] w (Told w (.int .i64 (szN n))) := by
  subst hl
  unfold maxLen at hs
  have hlen := length_lt_szN n
  have HA := Lib.hid hA
  clear hA
  go_enter Tryz.func55, Tryz.ntmps55
  go_wp2
  go_loop [3, 4] (SizeRel n) (fun _ i => n.length - (intOf i).toNat)
  case atStart => exact ⟨0, Nat.zero_le _, rfl, by simp [szN]⟩
  case round =>
    obtain ⟨k, hk, rfl, rfl⟩ := hrel
    by_cases hlt : k < n.length
    · obtain ⟨b, off, rfl, _, hc⟩ := HA.out.name_at hlt
      have HS := Lib.hid (szN_take_succ hlt)
      have hle := szN_take_le n (k + 1)
      rw [HS.out] at hle
      go_wp2
      refine ⟨⟨k + 1, by omega, by go_num, ?_⟩, by simp [intOf]; omega⟩
      rw [HS.out]
      go_num
    · obtain rfl : k = n.length := by omega
      rw [List.take_length]
      go_wp2
      go_ret
      exact ⟨rfl, rfl⟩

end Go.Proofs.YthppgofpbpjglaaGreat

namespace Go.Proofs.YthppgofpbpjglaaGreat
open Go.RowKit

set_option maxHeartbeats 400000 in
theorem fits_label (l : List UInt8) (w : World) (hm : l.length ≤ maxLen) :
    Calls Tryz.prog 34 #[.string ⟨l.toArray⟩] w (Told w (.bool (fitL l))) := by
  unfold maxLen at hm
  by_cases h1 : 1 ≤ l.length
  · by_cases h2 : l.length ≤ 63
    · have HF := Lib.hid (show fitL l = true by simp [fitL, h1, h2])
      have d2 : decide ((l.length : Int) ≤ 63) = true := by simp; omega
      go_enter Tryz.func34, Tryz.ntmps34
      go_wp2
      go_ret
      exact ⟨by rw [HF.out]; rfl, rfl⟩
    · have HF := Lib.hid (show fitL l = false by simp [fitL]; omega)
      have d2 : decide ((l.length : Int) ≤ 63) = false := by simp; omega
      go_enter Tryz.func34, Tryz.ntmps34
      go_wp2
      go_ret
      exact ⟨by rw [HF.out]; rfl, rfl⟩
  · have HF := Lib.hid (show fitL l = false by simp [fitL]; omega)
    go_enter Tryz.func34, Tryz.ntmps34
    go_wp2
    go_ret
    exact ⟨by rw [HF.out]; rfl, rfl⟩

theorem all_snoc {n : List (List UInt8)} {k : Nat} (p : List UInt8 → Bool) (h : k < n.length) (ha : (n.take k).all p = true) (hp : p n[k] = true) : (n.take (k + 1)).all p = true := by
  rw [List.take_succ_eq_append_getElem h, List.all_append, ha]
  simp [hp]
theorem all_not {n : List (List UInt8)} {k : Nat} (p : List UInt8 → Bool) (h : k < n.length) (hp : p n[k] = false) : n.all p = false := by
  rw [List.all_eq_false]
  exact ⟨n[k], List.getElem_mem h, by simp [hp]⟩

def EveryRel (n : List (List UInt8)) (i : Value) : Prop := ∃ k : Nat, k ≤ n.length ∧ i = .int .i64 k ∧ (n.take k).all fitL = true

set_option maxHeartbeats 400000 in
theorem every_any (A : Option Addr) (m c H : Nat) (n : List (List UInt8)) (w : World) (hl : n.length = m) (hA : Row w H A (n.map sv)) (hs : szN n ≤ maxLen) :
    Calls Tryz.prog 33 #[.slice A m c, .func (.func 34) #[] #[]] w (Told w (.bool (n.all fitL))) := by
  subst hl
  unfold maxLen at hs
  have hlen := length_lt_szN n
  have HA := Lib.hid hA
  clear hA
  go_enter Tryz.func33, Tryz.ntmps33
  go_wp2
  go_loop [9] (EveryRel n) (fun i => n.length - (intOf i).toNat)
  case atStart => exact ⟨0, Nat.zero_le _, rfl, by simp⟩
  case round =>
    obtain ⟨k, hk, rfl, hall⟩ := hrel
    have HK := Lib.hid hall
    clear hall
    by_cases hlt : k < n.length
    · obtain ⟨b, off, rfl, _, hc⟩ := HA.out.name_at hlt
      have hle := len_le_szN hlt
      cases hf : fitL n[k]
      · have hct := fun W => fits_label n[k] W (by unfold maxLen; omega)
        rw [hf] at hct
        have HC := Lib.hid hct
        have HF := Lib.hid (all_not fitL hlt hf)
        clear hct hf
        go_wp2_with (go_at_call 34; refine (HC.out _).mono ?_; rintro e w' ⟨rfl, rfl⟩)
        go_ret
        exact ⟨by rw [HF.out]; rfl, rfl⟩
      · have hct := fun W => fits_label n[k] W (by unfold maxLen; omega)
        rw [hf] at hct
        have HC := Lib.hid hct
        have HF := Lib.hid (all_snoc fitL hlt HK.out hf)
        clear hct hf
        go_wp2_with (go_at_call 34; refine (HC.out _).mono ?_; rintro e w' ⟨rfl, rfl⟩)
        exact ⟨⟨k + 1, by omega, by go_num, HF.out⟩, by simp [intOf]; omega⟩
    · obtain rfl : k = n.length := by omega
      go_wp2
      go_ret
      exact ⟨ret_bool (by have h := HK.out; rw [List.take_length] at h; exact h.symm), rfl⟩

set_option maxHeartbeats 400000 in
theorem sound_any (A : Option Addr) (m c H : Nat) (n : List (List UInt8)) (w : World) (hl : n.length = m) (hA : Row w H A (n.map sv)) (hs : szN n ≤ maxLen) :
    Calls Tryz.prog 12 #[.slice A m c] w (Told w (.bool (soundN n))) := by
  have hev := fun W h => every_any A m c H n W hl h hs
  have hsz := fun W h => size_any A m c H n W hl h hs
  have HA := Lib.hid hA
  have HZ := Lib.hid hsz
  clear hA hl hsz
  cases hf : n.all fitL
  · rw [hf] at hev
    have HE := Lib.hid hev
    have HF := Lib.hid (show soundN n = false by simp [soundN, hf])
    clear hev hf
    go_enter Tryz.func12, Tryz.ntmps12
    go_wp2_with (first
      | (go_at_call 33; refine (HE.out _ HA.out).mono ?_; rintro e w' ⟨rfl, rfl⟩)
      | (go_at_call 35; refine (HZ.out _ HA.out).mono ?_; rintro e w' ⟨rfl, rfl⟩))
    go_ret
    exact ⟨by rw [HF.out]; rfl, rfl⟩
  · rw [hf] at hev
    have HE := Lib.hid hev
    have HF := Lib.hid (show soundN n = decide (szN n ≤ 255) by simp [soundN, hf])
    clear hev hf
    go_enter Tryz.func12, Tryz.ntmps12
    go_wp2_with (first
      | (go_at_call 33; refine (HE.out _ HA.out).mono ?_; rintro e w' ⟨rfl, rfl⟩)
      | (go_at_call 35; refine (HZ.out _ HA.out).mono ?_; rintro e w' ⟨rfl, rfl⟩))
    go_ret
    refine ⟨ret_bool ?_, rfl⟩
    rw [HF.out]
    simp
    omega

set_option maxHeartbeats 400000 in
theorem ref_sound_any (A : Option Addr) (m c H : Nat) (n : List (List UInt8)) (w : World) (hl : n.length = m) (hA : Row w H A (n.map sv)) (hs : szN n ≤ maxLen) :
    Calls Tryz.prog 21 #[.slice A m c] w (Told w (.bool (soundN n))) := by
  have hsz := fun W h => ref_size_any A m c H n W hl h hs
  subst hl
  unfold maxLen at hs
  have hlen := length_lt_szN n
  have HA := Lib.hid hA
  have HZ := Lib.hid hsz
  clear hA hsz
  by_cases h127 : n.length ≤ 127
  · have d1 : decide (127 < (n.length : Int)) = false := by simp; omega
    go_enter Tryz.func21, Tryz.ntmps21
    go_wp2
    go_loop [3] (EveryRel n) (fun i => n.length - (intOf i).toNat)
    case atStart => exact ⟨0, Nat.zero_le _, rfl, by simp⟩
    case round =>
      obtain ⟨k, hk, rfl, hall⟩ := hrel
      have HK := Lib.hid hall
      clear hall
      by_cases hlt : k < n.length
      · obtain ⟨b, off, rfl, _, hc⟩ := HA.out.name_at hlt
        have hle := len_le_szN hlt
        by_cases e1 : 1 ≤ (n[k]).length
        · have d2 : decide (((n[k]).length : Int) < 1) = false := by simp; omega
          by_cases e2 : (n[k]).length ≤ 63
          · have d3 : decide (63 < ((n[k]).length : Int)) = false := by simp; omega
            have HF := Lib.hid (all_snoc fitL hlt HK.out (by simp [fitL]; omega))
            go_wp2
            exact ⟨⟨k + 1, by omega, by go_num, HF.out⟩, by simp [intOf]; omega⟩
          · have d3 : decide (63 < ((n[k]).length : Int)) = true := by simp; omega
            have HF := Lib.hid (all_not fitL hlt (by simp [fitL]; omega))
            go_wp2
            go_ret
            exact ⟨ret_bool (by simp [soundN, HF.out]), rfl⟩
        · have d2 : decide (((n[k]).length : Int) < 1) = true := by simp; omega
          have HF := Lib.hid (all_not fitL hlt (by simp [fitL]; omega))
          go_wp2
          go_ret
          exact ⟨ret_bool (by simp [soundN, HF.out]), rfl⟩
      · obtain rfl : k = n.length := by omega
        go_wp2_with (go_at_call 55; refine (HZ.out _ HA.out).mono ?_; rintro e w' ⟨rfl, rfl⟩)
        go_ret
        refine ⟨ret_bool ?_, rfl⟩
        have h := HK.out
        rw [List.take_length] at h
        simp [soundN, h]
        omega
  · have HF := Lib.hid (soundN_long (n := n) (by omega))
    have d1 : decide (127 < (n.length : Int)) = true := by simp; omega
    go_enter Tryz.func21, Tryz.ntmps21
    go_wp2
    go_ret
    exact ⟨ret_bool HF.out.symm, rfl⟩

end Go.Proofs.YthppgofpbpjglaaGreat

namespace Go.Proofs.YthppgofpbpjglaaGreat
open Go.RowKit

def sizeAt (ah j : Nat) : Int := if j < ah then 2 else 4
/-- Do the numbers fit, each into its bytes? -/
def numsOk (ah : Nat) (l : List Int) : Bool := (List.range l.length).all fun j => fitB (l.getD j 0) (sizeAt ah j)
def soundBs (s : Sh) (l : List UInt8) : Bool := decide (s.least ≤ l.length) && decide (l.length ≤ s.most)
def soundNm (n : List (List UInt8)) (had : Bool) : Bool := decide (n.length = 0) || (had && soundN n)
def soundNs (s : Sh) (l : List Int) : Bool := decide (l.length = s.ahead + s.behind) && numsOk s.ahead l
def soundTs (s : Sh) (l : List (List UInt8)) : Bool := if s.texts = true then l.all (fun t => decide (t.length ≤ 255)) && (decide (1 ≤ l.length) && decide (l.length ≤ 64)) else decide (l.length = 0)
/-- Is data just what the type has? -/
def soundD (k : Int) (d : Dt) : Bool := kindB k && (soundBs (shN k) d.bytes && (soundNm d.host (shN k).host && (soundNm d.mail (shN k).mail && (soundNs (shN k) d.nums && soundTs (shN k) d.texts))))

theorem all_range_snoc {p : Nat → Bool} {k : Nat} (h : (List.range k).all p = true) (hp : p k = true) : (List.range (k + 1)).all p = true := by
  rw [List.range_succ, List.all_append, h]
  simp [hp]
theorem all_range_not {p : Nat → Bool} {k n : Nat} (h : k < n) (hp : p k = false) : (List.range n).all p = false := by
  rw [List.all_eq_false]
  exact ⟨k, List.mem_range.2 h, by simp [hp]⟩

set_option maxHeartbeats 400000 in
theorem soundBytes_any (s : Sh) (A : Option Addr) (m c : Nat) (l : List UInt8) (w : World) (hl : l.length = m) :
    Calls Tryz.prog 86 #[s.val, .slice A m c] w (Gave w (.bool (soundBs s l))) := by
  obtain ⟨ah, s1, s2, s3, be, s5, le, mo⟩ := s
  have HB := Lib.hid ((Below.refl _ w).alloc (Nat.le_refl _) (.cells #[.int .i64 ah, .bool s1, .bool s2, .bool s3, .int .i64 be, .bool s5, .int .i64 le, .int .i64 mo] 100))
  subst hl
  by_cases h1 : le ≤ l.length
  · have d1 : decide ((le : Int) ≤ (l.length : Int)) = true := by simp; omega
    by_cases h2 : l.length ≤ mo
    · have d2 : decide ((l.length : Int) ≤ (mo : Int)) = true := by simp; omega
      have HF := Lib.hid (show soundBs ⟨ah, s1, s2, s3, be, s5, le, mo⟩ l = true by simp [soundBs]; omega)
      go_enter Tryz.func86, Tryz.ntmps86
      go_wp2
      go_ret
      exact ⟨by rw [HF.out]; rfl, HB.out⟩
    · have d2 : decide ((l.length : Int) ≤ (mo : Int)) = false := by simp; omega
      have HF := Lib.hid (show soundBs ⟨ah, s1, s2, s3, be, s5, le, mo⟩ l = false by simp [soundBs]; omega)
      go_enter Tryz.func86, Tryz.ntmps86
      go_wp2
      go_ret
      exact ⟨by rw [HF.out]; rfl, HB.out⟩
  · have d1 : decide ((le : Int) ≤ (l.length : Int)) = false := by simp; omega
    have HF := Lib.hid (show soundBs ⟨ah, s1, s2, s3, be, s5, le, mo⟩ l = false by simp [soundBs]; omega)
    go_enter Tryz.func86, Tryz.ntmps86
    go_wp2
    go_ret
    exact ⟨by rw [HF.out]; rfl, HB.out⟩

set_option maxHeartbeats 400000 in
theorem every_wide (A : Option Addr) (m c H : Nat) (n : List (List UInt8)) (w : World) (hl : n.length = m) (hA : Row w H A (n.map sv)) (hlen : n.length ≤ 140737488351232) (hs : ∀ k (h : k < n.length), (n[k]).length ≤ maxLen) :
    Calls Tryz.prog 33 #[.slice A m c, .func (.func 34) #[] #[]] w (Told w (.bool (n.all fitL))) := by
  subst hl
  have HA := Lib.hid hA
  have HSZ := Lib.hid hs
  clear hA hs
  go_enter Tryz.func33, Tryz.ntmps33
  go_wp2
  go_loop [9] (EveryRel n) (fun i => n.length - (intOf i).toNat)
  case atStart => exact ⟨0, Nat.zero_le _, rfl, by simp⟩
  case round =>
    obtain ⟨k, hk, rfl, hall⟩ := hrel
    have HK := Lib.hid hall
    clear hall
    by_cases hlt : k < n.length
    · obtain ⟨b, off, rfl, _, hc⟩ := HA.out.name_at hlt
      have hle := HSZ.out k hlt
      cases hf : fitL n[k]
      · have hct := fun W => fits_label n[k] W hle
        rw [hf] at hct
        have HC := Lib.hid hct
        have HF := Lib.hid (all_not fitL hlt hf)
        clear hct hf
        go_wp2_with (go_at_call 34; refine (HC.out _).mono ?_; rintro e w' ⟨rfl, rfl⟩)
        go_ret
        exact ⟨by rw [HF.out]; rfl, rfl⟩
      · have hct := fun W => fits_label n[k] W hle
        rw [hf] at hct
        have HC := Lib.hid hct
        have HF := Lib.hid (all_snoc fitL hlt HK.out hf)
        clear hct hf
        go_wp2_with (go_at_call 34; refine (HC.out _).mono ?_; rintro e w' ⟨rfl, rfl⟩)
        exact ⟨⟨k + 1, by omega, by go_num, HF.out⟩, by simp [intOf]; omega⟩
    · obtain rfl : k = n.length := by omega
      go_wp2
      go_ret
      exact ⟨ret_bool (by have h := HK.out; rw [List.take_length] at h; exact h.symm), rfl⟩

set_option maxHeartbeats 400000 in
theorem sound_wide (A : Option Addr) (m c H : Nat) (n : List (List UInt8)) (w : World) (hl : n.length = m) (hA : Row w H A (n.map sv)) (hlen : n.length ≤ 140737488351232) (hs : ∀ k (h : k < n.length), (n[k]).length ≤ maxLen) :
    Calls Tryz.prog 12 #[.slice A m c] w (Told w (.bool (soundN n))) := by
  have hev := fun W h => every_wide A m c H n W hl h hlen hs
  have HA := Lib.hid hA
  clear hA
  cases hf : n.all fitL
  · rw [hf] at hev
    have HE := Lib.hid hev
    have HF := Lib.hid (show soundN n = false by simp [soundN, hf])
    clear hev hf hs hlen
    go_enter Tryz.func12, Tryz.ntmps12
    go_wp2_with (go_at_call 33; refine (HE.out _ HA.out).mono ?_; rintro e w' ⟨rfl, rfl⟩)
    go_ret
    exact ⟨by rw [HF.out]; rfl, rfl⟩
  · have hsz : szN n ≤ n.length * (63 + 1) + 1 := szN_le 63 n fun l hl => (by have h := List.all_eq_true.1 hf l hl; simp [fitL] at h; omega)
    have HZ := Lib.hid (fun W h => size_any A m c H n W hl h (by unfold maxLen; omega))
    rw [hf] at hev
    have HE := Lib.hid hev
    have HF := Lib.hid (show soundN n = decide (szN n ≤ 255) by simp [soundN, hf])
    clear hev hf hs hl
    go_enter Tryz.func12, Tryz.ntmps12
    go_wp2_with (first
      | (go_at_call 33; refine (HE.out _ HA.out).mono ?_; rintro e w' ⟨rfl, rfl⟩)
      | (go_at_call 35; refine (HZ.out _ HA.out).mono ?_; rintro e w' ⟨rfl, rfl⟩))
    go_ret
    refine ⟨ret_bool ?_, rfl⟩
    rw [HF.out]
    simp
    omega

set_option maxHeartbeats 400000 in
/-- The document's Sound of any name, however large. -/
theorem ref_sound_wide (A : Option Addr) (c H : Nat) (n : List (List UInt8)) (w : World) (hA : Row w H A (n.map sv)) (_ : n.length ≤ maxLen) (hs : ∀ k (h : k < n.length), (n[k]).length ≤ maxLen) :
    Calls Tryz.prog 21 #[.slice A n.length c] w (Told w (.bool (soundN n))) := by
  have HA := Lib.hid hA
  have HS := Lib.hid hs
  clear hA hs
  by_cases h127 : n.length ≤ 127
  · have d1 : decide (127 < (n.length : Int)) = false := by simp; omega
    go_enter Tryz.func21, Tryz.ntmps21
    go_wp2
    go_loop [3] (EveryRel n) (fun i => n.length - (intOf i).toNat)
    case atStart => exact ⟨0, Nat.zero_le _, rfl, by simp⟩
    case round =>
      obtain ⟨k, hk, rfl, hall⟩ := hrel
      have HK := Lib.hid hall
      clear hall
      by_cases hlt : k < n.length
      · obtain ⟨b, off, rfl, _, hc⟩ := HA.out.name_at hlt
        have hle := HS.out k hlt
        unfold maxLen at hle
        by_cases e1 : 1 ≤ (n[k]).length
        · have d2 : decide (((n[k]).length : Int) < 1) = false := by simp; omega
          by_cases e2 : (n[k]).length ≤ 63
          · have d3 : decide (63 < ((n[k]).length : Int)) = false := by simp; omega
            have HF := Lib.hid (all_snoc fitL hlt HK.out (by simp [fitL]; omega))
            go_wp2
            exact ⟨⟨k + 1, by omega, by go_num, HF.out⟩, by simp [intOf]; omega⟩
          · have d3 : decide (63 < ((n[k]).length : Int)) = true := by simp; omega
            have HF := Lib.hid (all_not fitL hlt (by simp [fitL]; omega))
            go_wp2
            go_ret
            exact ⟨ret_bool (by simp [soundN, HF.out]), rfl⟩
        · have d2 : decide (((n[k]).length : Int) < 1) = true := by simp; omega
          have HF := Lib.hid (all_not fitL hlt (by simp [fitL]; omega))
          go_wp2
          go_ret
          exact ⟨ret_bool (by simp [soundN, HF.out]), rfl⟩
      · obtain rfl : k = n.length := by omega
        have hall := HK.out
        rw [List.take_length] at hall
        have hsz : szN n ≤ n.length * (63 + 1) + 1 := szN_le 63 n fun l hl => (by have h := List.all_eq_true.1 hall l hl; simp [fitL] at h; omega)
        have HZ := Lib.hid (ref_size_any A n.length c H n w rfl HA.out (by unfold maxLen; omega))
        have HALL := Lib.hid hall
        clear hall
        go_wp2_with fail
        refine HZ.out.mono ?_
        rintro e w' ⟨rfl, rfl⟩
        go_wp2
        go_ret
        refine ⟨ret_bool ?_, rfl⟩
        simp [soundN, HALL.out]
        omega
  · have HF := Lib.hid (soundN_long (n := n) (by omega))
    have d1 : decide (127 < (n.length : Int)) = true := by simp; omega
    go_enter Tryz.func21, Tryz.ntmps21
    go_wp2
    go_ret
    exact ⟨ret_bool HF.out.symm, rfl⟩

set_option maxHeartbeats 400000 in
theorem soundName_any (A : Option Addr) (m c H : Nat) (n : List (List UInt8)) (had : Bool) (w : World) (hl : n.length = m) (hA : Row w H A (n.map sv)) (hs : szN n ≤ maxLen) :
    Calls Tryz.prog 87 #[.slice A m c, .bool had] w (Told w (.bool (soundNm n had))) := by
  have HC := Lib.hid (sound_any A m c H n w hl hA hs)
  clear hA hs
  by_cases h0 : n.length = 0
  · have t1 : ((m : Int) == 0) = true := by rw [beq_iff_eq]; omega
    have HF := Lib.hid (show soundNm n had = true by simp [soundNm, h0])
    clear h0 hl
    go_enter Tryz.func87, Tryz.ntmps87
    go_wp2
    go_ret
    exact ⟨by rw [HF.out]; rfl, rfl⟩
  · have t1 : ((m : Int) == 0) = false := by rw [beq_eq_false_iff_ne]; omega
    cases had
    · have HF := Lib.hid (show soundNm n false = false by simp [soundNm, h0])
      clear h0 hl
      go_enter Tryz.func87, Tryz.ntmps87
      go_wp2
      go_ret
      exact ⟨by rw [HF.out]; rfl, rfl⟩
    · have HF := Lib.hid (show soundNm n true = soundN n by simp [soundNm, h0])
      clear h0 hl
      go_enter Tryz.func87, Tryz.ntmps87
      go_wp2_with fail
      refine HC.out.mono ?_
      rintro e w' ⟨rfl, rfl⟩
      go_wp2
      go_ret
      exact ⟨by rw [HF.out]; rfl, rfl⟩

set_option maxHeartbeats 400000 in
theorem soundName_wide (A : Option Addr) (m c H : Nat) (n : List (List UInt8)) (had : Bool) (w : World) (hl : n.length = m) (hA : Row w H A (n.map sv)) (hlen : n.length ≤ 140737488351232) (hs : ∀ k (h : k < n.length), (n[k]).length ≤ maxLen) :
    Calls Tryz.prog 87 #[.slice A m c, .bool had] w (Told w (.bool (soundNm n had))) := by
  have HC := Lib.hid (sound_wide A m c H n w hl hA hlen hs)
  clear hA hs hlen
  by_cases h0 : n.length = 0
  · have t1 : ((m : Int) == 0) = true := by rw [beq_iff_eq]; omega
    have HF := Lib.hid (show soundNm n had = true by simp [soundNm, h0])
    clear h0 hl
    go_enter Tryz.func87, Tryz.ntmps87
    go_wp2
    go_ret
    exact ⟨by rw [HF.out]; rfl, rfl⟩
  · have t1 : ((m : Int) == 0) = false := by rw [beq_eq_false_iff_ne]; omega
    cases had
    · have HF := Lib.hid (show soundNm n false = false by simp [soundNm, h0])
      clear h0 hl
      go_enter Tryz.func87, Tryz.ntmps87
      go_wp2
      go_ret
      exact ⟨by rw [HF.out]; rfl, rfl⟩
    · have HF := Lib.hid (show soundNm n true = soundN n by simp [soundNm, h0])
      clear h0 hl
      go_enter Tryz.func87, Tryz.ntmps87
      go_wp2_with fail
      refine HC.out.mono ?_
      rintro e w' ⟨rfl, rfl⟩
      go_wp2
      go_ret
      exact ⟨by rw [HF.out]; rfl, rfl⟩

def SNRel (w : World) (ah : Nat) (l : List Int) (i : Value) (wr : World) : Prop := ∃ k : Nat, k ≤ l.length ∧ i = .int .i64 k ∧ (List.range k).all (fun j => fitB (l.getD j 0) (sizeAt ah j)) = true ∧ wr = w

set_option maxRecDepth 4000 in
set_option maxHeartbeats 1000000 in
theorem soundNums_any (s : Sh) (A : Option Addr) (m c : Nat) (l : List Int) (w : World) (hl : l.length = m) (hA : Row w w.heap.size A (l.map zv)) (hm : m ≤ maxLen) (h1 : s.ahead ≤ 10) (h2 : s.behind ≤ 10) :
    Calls Tryz.prog 88 #[s.val, .slice A m c] w (Gave w (.bool (soundNs s l))) := by
  obtain ⟨ah, s1, s2, s3, be, s5, le, mo⟩ := s
  simp only at h1 h2
  unfold maxLen at hm
  have HB := Lib.hid ((Below.refl _ w).alloc (Nat.le_refl _) (.cells #[.int .i64 ah, .bool s1, .bool s2, .bool s3, .int .i64 be, .bool s5, .int .i64 le, .int .i64 mo] 100))
  have HF := Lib.hid (fun n s W => fits_any n s W)
  have HA := Lib.hid (hA.alloc (Nat.le_refl _) (.cells #[.int .i64 ah, .bool s1, .bool s2, .bool s3, .int .i64 be, .bool s5, .int .i64 le, .int .i64 mo] 100))
  have HL := Lib.hid hl
  clear hA
  by_cases hsum : m = ah + be
  · have t1 : ((m : Int) != (ah : Int) + (be : Int)) = false := by rw [bne_eq_false_iff_eq]; omega
    have HS := Lib.hid (show soundNs ⟨ah, s1, s2, s3, be, s5, le, mo⟩ l = numsOk ah l by simp [soundNs, hl, hsum])
    have c0 := (Whole.made w [.int .i64 ah, .bool s1, .bool s2, .bool s3, .int .i64 be, .bool s5, .int .i64 le, .int .i64 mo] 100).cell 0
    simp only [List.getElem?_cons_zero] at c0
    clear hl hsum
    go_enter Tryz.func88, Tryz.ntmps88
    go_wp2
    obtain ⟨W, hW⟩ : ∃ W, W = w.alloc (.cells #[.int .i64 ah, .bool s1, .bool s2, .bool s3, .int .i64 be, .bool s5, .int .i64 le, .int .i64 mo] 100) := ⟨_, rfl⟩
    rw [← hW] at HB HA c0 ⊢
    clear hW
    go_loopw [18] (SNRel W ah l) (fun i _ => m - (intOf i).toNat)
    case atStart => exact ⟨0, Nat.zero_le _, rfl, rfl, rfl⟩
    case round =>
      obtain ⟨k, hk, rfl, hok, rfl⟩ := hrel
      have HOK := Lib.hid hok
      clear hok
      by_cases hlt : k < m
      · have hkl : k < l.length := by rw [HL.out]; exact hlt
        obtain ⟨b, off, rfl, _, hc⟩ := HA.out.int_at hkl
        have HGD := Lib.hid (show l.getD k 0 = l[k] by simp [List.getD, List.getElem?_eq_getElem hkl])
        by_cases hah : k < ah
        · have d1 : decide ((ah : Int) ≤ (k : Int)) = false := by simp; omega
          have HZ := Lib.hid (show sizeAt ah k = 2 by simp [sizeAt, hah])
          go_wp2_with fail
          refine (HF.out l[k] 2 _).mono ?_
          cases hfit : fitB l[k] 2
          · have HN := Lib.hid (show numsOk ah l = false from all_range_not hkl (by rw [HGD.out, HZ.out]; exact hfit))
            rintro e w' ⟨rfl, rfl⟩
            go_wp2
            go_ret
            exact ⟨by rw [HS.out, HN.out]; rfl, HB.out⟩
          · have HY := Lib.hid (all_range_snoc HOK.out (by rw [HGD.out, HZ.out]; exact hfit))
            rintro e w' ⟨rfl, rfl⟩
            go_wp2
            exact ⟨⟨k + 1, hkl, by go_num, HY.out, rfl⟩, by simp [intOf]; omega⟩
        · have d1 : decide ((ah : Int) ≤ (k : Int)) = true := by simp; omega
          have HZ := Lib.hid (show sizeAt ah k = 4 by simp [sizeAt, hah])
          go_wp2_with fail
          refine (HF.out l[k] 4 _).mono ?_
          cases hfit : fitB l[k] 4
          · have HN := Lib.hid (show numsOk ah l = false from all_range_not hkl (by rw [HGD.out, HZ.out]; exact hfit))
            rintro e w' ⟨rfl, rfl⟩
            go_wp2
            go_ret
            exact ⟨by rw [HS.out, HN.out]; rfl, HB.out⟩
          · have HY := Lib.hid (all_range_snoc HOK.out (by rw [HGD.out, HZ.out]; exact hfit))
            rintro e w' ⟨rfl, rfl⟩
            go_wp2
            exact ⟨⟨k + 1, hkl, by go_num, HY.out, rfl⟩, by simp [intOf]; omega⟩
      · obtain rfl : k = m := by have := HL.out; omega
        have HN := Lib.hid (show numsOk ah l = true by unfold numsOk; rw [HL.out]; exact HOK.out)
        go_wp2
        go_ret
        exact ⟨by rw [HS.out, HN.out]; rfl, HB.out⟩
  · have t1 : ((m : Int) != (ah : Int) + (be : Int)) = true := by rw [bne_iff_ne]; omega
    have HS := Lib.hid (show soundNs ⟨ah, s1, s2, s3, be, s5, le, mo⟩ l = false by simp [soundNs]; intro h; exact absurd (hl.symm.trans h) hsum)
    clear hl
    go_enter Tryz.func88, Tryz.ntmps88
    go_wp2
    go_ret
    exact ⟨by rw [HS.out]; rfl, HB.out⟩

def STRel (l : List (List UInt8)) (i : Value) : Prop := ∃ k : Nat, k ≤ l.length ∧ i = .int .i64 k ∧ (l.take k).all (fun t => decide (t.length ≤ 255)) = true

set_option maxRecDepth 4000 in
set_option maxHeartbeats 1000000 in
theorem soundTexts_any (s : Sh) (A : Option Addr) (m c : Nat) (l : List (List UInt8)) (w : World) (hl : l.length = m) (hA : Row w w.heap.size A (l.map sv)) (hm : m ≤ maxLen) (hlen : ∀ k (h : k < l.length), (l[k]).length ≤ maxLen) :
    Calls Tryz.prog 89 #[s.val, .slice A m c] w (Gave w (.bool (soundTs s l))) := by
  obtain ⟨ah, s1, s2, s3, be, s5, le, mo⟩ := s
  unfold maxLen at hm hlen
  have HB := Lib.hid ((Below.refl _ w).alloc (Nat.le_refl _) (.cells #[.int .i64 ah, .bool s1, .bool s2, .bool s3, .int .i64 be, .bool s5, .int .i64 le, .int .i64 mo] 100))
  have HA := Lib.hid (hA.alloc (Nat.le_refl _) (.cells #[.int .i64 ah, .bool s1, .bool s2, .bool s3, .int .i64 be, .bool s5, .int .i64 le, .int .i64 mo] 100))
  have HL := Lib.hid hl
  have HLEN := Lib.hid hlen
  clear hA hlen
  cases s5
  · have HS := Lib.hid (show soundTs ⟨ah, s1, s2, s3, be, false, le, mo⟩ l = decide (m = 0) by simp [soundTs, hl])
    clear hl
    by_cases h0 : m = 0
    · have t1 : ((m : Int) == 0) = true := by rw [beq_iff_eq]; omega
      have HZ := Lib.hid (show decide (m = 0) = true by simp [h0])
      clear h0
      go_enter Tryz.func89, Tryz.ntmps89
      go_wp2
      go_ret
      exact ⟨by rw [HS.out, HZ.out]; rfl, HB.out⟩
    · have t1 : ((m : Int) == 0) = false := by rw [beq_eq_false_iff_ne]; omega
      have HZ := Lib.hid (show decide (m = 0) = false by simp [h0])
      clear h0
      go_enter Tryz.func89, Tryz.ntmps89
      go_wp2
      go_ret
      exact ⟨by rw [HS.out, HZ.out]; rfl, HB.out⟩
  · have HS := Lib.hid (show soundTs ⟨ah, s1, s2, s3, be, true, le, mo⟩ l = (l.all (fun t => decide (t.length ≤ 255)) && (decide (1 ≤ m) && decide (m ≤ 64))) by simp [soundTs, hl])
    clear hl
    go_enter Tryz.func89, Tryz.ntmps89
    go_wp2
    obtain ⟨W, hW⟩ : ∃ W, W = w.alloc (.cells #[.int .i64 ah, .bool s1, .bool s2, .bool s3, .int .i64 be, .bool true, .int .i64 le, .int .i64 mo] 100) := ⟨_, rfl⟩
    rw [← hW] at HB HA ⊢
    clear hW
    go_loop [15] (STRel l) (fun i => m - (intOf i).toNat)
    case atStart => exact ⟨0, Nat.zero_le _, rfl, rfl⟩
    case round =>
      obtain ⟨k, hk, rfl, hok⟩ := hrel
      have HOK := Lib.hid hok
      clear hok
      by_cases hlt : k < m
      · have hkl : k < l.length := by rw [HL.out]; exact hlt
        obtain ⟨b, off, rfl, _, hc⟩ := HA.out.name_at hkl
        have hlk := HLEN.out k hkl
        by_cases hbig : 255 < (l[k]).length
        · have d1 : decide ((255 : Int) < ((l[k]).length : Int)) = true := by simp; omega
          have HN := Lib.hid (all_not (fun t : List UInt8 => decide (t.length ≤ 255)) hkl (by simp; omega))
          go_wp2
          go_ret
          exact ⟨by rw [HS.out, HN.out]; rfl, HB.out⟩
        · have d1 : decide ((255 : Int) < ((l[k]).length : Int)) = false := by simp; omega
          have HY := Lib.hid (all_snoc (fun t : List UInt8 => decide (t.length ≤ 255)) hkl HOK.out (by simp; omega))
          go_wp2
          exact ⟨⟨k + 1, hkl, by go_num, HY.out⟩, by simp [intOf]; omega⟩
      · obtain rfl : k = m := by have := HL.out; omega
        have HN := Lib.hid (show l.all (fun t => decide (t.length ≤ 255)) = true by have h := HOK.out; rw [← HL.out, List.take_length] at h; exact h)
        by_cases h1 : 1 ≤ k
        · have d1 : decide ((1 : Int) ≤ (k : Int)) = true := by simp; omega
          by_cases h2 : k ≤ 64
          · have d2 : decide ((k : Int) ≤ 64) = true := by simp; omega
            have HZ := Lib.hid (show (decide (1 ≤ k) && decide (k ≤ 64)) = true by simp; omega)
            go_wp2
            go_ret
            exact ⟨by rw [HS.out, HN.out, HZ.out]; rfl, HB.out⟩
          · have d2 : decide ((k : Int) ≤ 64) = false := by simp; omega
            have HZ := Lib.hid (show (decide (1 ≤ k) && decide (k ≤ 64)) = false by simp; omega)
            go_wp2
            go_ret
            exact ⟨by rw [HS.out, HN.out, HZ.out]; rfl, HB.out⟩
        · have d1 : decide ((1 : Int) ≤ (k : Int)) = false := by simp; omega
          have HZ := Lib.hid (show (decide (1 ≤ k) && decide (k ≤ 64)) = false by simp; omega)
          go_wp2
          go_ret
          exact ⟨by rw [HS.out, HN.out, HZ.out]; rfl, HB.out⟩

theorem shN_small (k : Int) : (shN k).ahead ≤ 10 ∧ (shN k).behind ≤ 10 := by
  unfold shN
  split
  · decide
  · split
    · decide
    · split
      · decide
      · split
        · decide
        · split
          · decide
          · split
            · decide
            · split <;> decide

/-- What Sound holds: the data's box and the shape's. -/
structure SB (w : World) (x : DV) (d : Dt) (s : Sh) (g : Nat) (W : World) : Prop where
  bx : Whole W w.heap.size 38 [x.vb d, x.vh d, x.vm d, x.vn d, x.vt d]
  sh : Whole W g 100 [.int .i64 s.ahead, .bool s.host, .bool s.mail, .bool s.short, .int .i64 s.behind, .bool s.texts, .int .i64 s.least, .int .i64 s.most]
  dt : DataAt W w.heap.size x d
  below : Below w.heap.size w W
  size : w.heap.size ≤ W.heap.size
theorem SB.step {w : World} {x : DV} {d : Dt} {s : Sh} {g : Nat} {W W' : World} (h : SB w x d s g W) (hb : Below W.heap.size W W') : SB w x d s g W' :=
  ⟨h.bx.below hb h.bx.lt, h.sh.below hb h.sh.lt, h.dt.below (hb.mono h.size), h.below.trans (hb.mono h.size), Nat.le_trans h.size hb.size⟩

set_option maxRecDepth 20000 in
set_option maxHeartbeats 4000000 in
theorem dsound_core (k : Int) (x : DV) (d : Dt) (w : World) (hx : DataAt w w.heap.size x d)
    (h1 : ∀ (W : World) (b : Bool), Row W w.heap.size x.Ah (d.host.map sv) → Calls Tryz.prog 87 #[.slice x.Ah d.host.length x.ch, .bool b] W (Told W (.bool (soundNm d.host b))))
    (h2 : ∀ (W : World) (b : Bool), Row W w.heap.size x.Am (d.mail.map sv) → Calls Tryz.prog 87 #[.slice x.Am d.mail.length x.cm, .bool b] W (Told W (.bool (soundNm d.mail b)))) (h3 : d.texts.length ≤ maxLen) (h4 : ∀ k (h : k < d.texts.length), (d.texts[k]).length ≤ maxLen) :
    Calls Tryz.prog 63 #[.int .i64 k, x.val d] w (Gave w (.bool (soundD k d))) := by
  have k1 := (shN_small k).1
  have k2 := (shN_small k).2
  have kn : d.nums.length ≤ maxLen := Nat.le_trans hx.ln hx.kn
  have HSH := Lib.hid (fun W => shapeOf_any k W)
  have HK := Lib.hid (fun W => isKind_any k W)
  have HS := Lib.hid (show soundD k d = (kindB k && (soundBs (shN k) d.bytes && (soundNm d.host (shN k).host && (soundNm d.mail (shN k).mail && (soundNs (shN k) d.nums && soundTs (shN k) d.texts))))) from rfl)
  have HX := Lib.hid hx
  obtain ⟨s, hs⟩ : ∃ s, s = shN k := ⟨_, rfl⟩
  rw [← hs] at HSH HS k1 k2
  clear hs
  have HC1 := Lib.hid (fun W => soundBytes_any s x.Ab d.bytes.length x.cb d.bytes W rfl)
  have HC2 := Lib.hid (fun W g (h : SB w x d s g W) => h1 W s.host h.dt.h)
  have HC3 := Lib.hid (fun W g (h : SB w x d s g W) => h2 W s.mail h.dt.m)
  have HC4 := Lib.hid (fun W g (h : SB w x d s g W) => soundNums_any s x.An d.nums.length x.cn d.nums W rfl (h.dt.n.mono h.size) kn k1 k2)
  have HC5 := Lib.hid (fun W g (h : SB w x d s g W) => soundTexts_any s x.At d.texts.length x.ct d.texts W rfl (h.dt.t.mono h.size) h3 h4)
  clear hx h1 h2 h3 h4 k1 k2 kn
  obtain ⟨ah, s1, s2, s3, be, s5, le, mo⟩ := s
  go_enter Tryz.func63, Tryz.ntmps63
  go_wp2_with fail
  refine (HSH.out _).mono ?_
  rintro e w1 ⟨rfl, hb⟩
  have HB1 := Lib.hid hb
  clear hb
  go_wp2_with fail
  obtain ⟨W0, hW0⟩ : ∃ W0, W0 = w1.alloc (.cells #[.int .i64 ah, .bool s1, .bool s2, .bool s3, .int .i64 be, .bool s5, .int .i64 le, .int .i64 mo] 100) := ⟨_, rfl⟩
  rw [← hW0]
  have hx0 : SB w x d ⟨ah, s1, s2, s3, be, s5, le, mo⟩ w1.heap.size W0 := by
    have hz : w.heap.size + 1 ≤ w1.heap.size := by have := HB1.out.size; simpa using this
    rw [hW0]
    exact ⟨((Whole.made w [x.vb d, x.vh d, x.vm d, x.vn d, x.vt d] _).below HB1.out (by simp)).alloc _, Whole.made w1 [.int .i64 ah, .bool s1, .bool s2, .bool s3, .int .i64 be, .bool s5, .int .i64 le, .int .i64 mo] _,
      (((HX.out.alloc (Nat.le_refl _) _).below (HB1.out.mono (by simp))).alloc (by omega) _), (((Below.refl _ _).alloc (Nat.le_refl _) _).trans (HB1.out.mono (by simp))).alloc (by omega) _, by simp; omega⟩
  clear hW0 HB1 HX
  refine (HK.out _).mono ?_
  intro e W1 hO
  obtain ⟨he, hw⟩ := hO
  subst hw
  have hx1 := hx0
  clear hx0 
  cases hv : kindB k with
  | false =>
    rw [hv] at he HS
    subst he
    have HB := Lib.hid hx1.below
    clear hx1
    go_wp2
    go_ret
    exact ⟨by rw [HS.out]; rfl, HB.out⟩
  | true =>
  rw [hv] at he HS
  subst he
  have s0c : W0.cell? ⟨w1.heap.size, 0, none⟩ = some (.int .i64 ah) := hx1.sh.cell 0
  have s1c : W0.cell? ⟨w1.heap.size, 1, none⟩ = some (.bool s1) := hx1.sh.cell 1
  have s2c : W0.cell? ⟨w1.heap.size, 2, none⟩ = some (.bool s2) := hx1.sh.cell 2
  have s3c : W0.cell? ⟨w1.heap.size, 3, none⟩ = some (.bool s3) := hx1.sh.cell 3
  have s4c : W0.cell? ⟨w1.heap.size, 4, none⟩ = some (.int .i64 be) := hx1.sh.cell 4
  have s5c : W0.cell? ⟨w1.heap.size, 5, none⟩ = some (.bool s5) := hx1.sh.cell 5
  have s6c : W0.cell? ⟨w1.heap.size, 6, none⟩ = some (.int .i64 le) := hx1.sh.cell 6
  have s7c : W0.cell? ⟨w1.heap.size, 7, none⟩ = some (.int .i64 mo) := hx1.sh.cell 7
  have d0c : W0.cell? ⟨w.heap.size, 0, none⟩ = some (.slice x.Ab d.bytes.length x.cb) := hx1.bx.cell 0
  go_wp2_with fail
  refine (HC1.out _).mono ?_
  intro e W2 hO
  obtain ⟨he, hb⟩ := hO
  have hx2 := hx1.step hb
  clear hb hx1 s0c s1c s2c s3c s4c s5c s6c s7c d0c
  cases hv : soundBs ⟨ah, s1, s2, s3, be, s5, le, mo⟩ d.bytes with
  | false =>
    rw [hv] at he HS
    subst he
    have HB := Lib.hid hx2.below
    clear hx2
    go_wp2
    go_ret
    exact ⟨by rw [HS.out]; rfl, HB.out⟩
  | true =>
  rw [hv] at he HS
  subst he
  have s1c : W2.cell? ⟨w1.heap.size, 1, none⟩ = some (.bool s1) := hx2.sh.cell 1
  have d1c : W2.cell? ⟨w.heap.size, 1, none⟩ = some (.slice x.Ah d.host.length x.ch) := hx2.bx.cell 1
  go_wp2_with fail
  refine (HC2.out _ _ hx2).mono ?_
  intro e W3 hO
  obtain ⟨he, hw⟩ := hO
  subst hw
  have hx3 := hx2
  clear hx2 s1c d1c
  cases hv : soundNm d.host s1 with
  | false =>
    rw [hv] at he HS
    subst he
    have HB := Lib.hid hx3.below
    clear hx3
    go_wp2
    go_ret
    exact ⟨by rw [HS.out]; rfl, HB.out⟩
  | true =>
  rw [hv] at he HS
  subst he
  have s2c : W2.cell? ⟨w1.heap.size, 2, none⟩ = some (.bool s2) := hx3.sh.cell 2
  have d2c : W2.cell? ⟨w.heap.size, 2, none⟩ = some (.slice x.Am d.mail.length x.cm) := hx3.bx.cell 2
  go_wp2_with fail
  refine (HC3.out _ _ hx3).mono ?_
  intro e W4 hO
  obtain ⟨he, hw⟩ := hO
  subst hw
  have hx4 := hx3
  clear hx3 s2c d2c
  cases hv : soundNm d.mail s2 with
  | false =>
    rw [hv] at he HS
    subst he
    have HB := Lib.hid hx4.below
    clear hx4
    go_wp2
    go_ret
    exact ⟨by rw [HS.out]; rfl, HB.out⟩
  | true =>
  rw [hv] at he HS
  subst he
  have s0c : W2.cell? ⟨w1.heap.size, 0, none⟩ = some (.int .i64 ah) := hx4.sh.cell 0
  have s1c : W2.cell? ⟨w1.heap.size, 1, none⟩ = some (.bool s1) := hx4.sh.cell 1
  have s2c : W2.cell? ⟨w1.heap.size, 2, none⟩ = some (.bool s2) := hx4.sh.cell 2
  have s3c : W2.cell? ⟨w1.heap.size, 3, none⟩ = some (.bool s3) := hx4.sh.cell 3
  have s4c : W2.cell? ⟨w1.heap.size, 4, none⟩ = some (.int .i64 be) := hx4.sh.cell 4
  have s5c : W2.cell? ⟨w1.heap.size, 5, none⟩ = some (.bool s5) := hx4.sh.cell 5
  have s6c : W2.cell? ⟨w1.heap.size, 6, none⟩ = some (.int .i64 le) := hx4.sh.cell 6
  have s7c : W2.cell? ⟨w1.heap.size, 7, none⟩ = some (.int .i64 mo) := hx4.sh.cell 7
  have d3c : W2.cell? ⟨w.heap.size, 3, none⟩ = some (.slice x.An d.nums.length x.cn) := hx4.bx.cell 3
  go_wp2_with fail
  refine (HC4.out _ _ hx4).mono ?_
  intro e W5 hO
  obtain ⟨he, hb⟩ := hO
  have hx5 := hx4.step hb
  clear hb hx4 s0c s1c s2c s3c s4c s5c s6c s7c d3c
  cases hv : soundNs ⟨ah, s1, s2, s3, be, s5, le, mo⟩ d.nums with
  | false =>
    rw [hv] at he HS
    subst he
    have HB := Lib.hid hx5.below
    clear hx5
    go_wp2
    go_ret
    exact ⟨by rw [HS.out]; rfl, HB.out⟩
  | true =>
  rw [hv] at he HS
  subst he
  have s0c : W5.cell? ⟨w1.heap.size, 0, none⟩ = some (.int .i64 ah) := hx5.sh.cell 0
  have s1c : W5.cell? ⟨w1.heap.size, 1, none⟩ = some (.bool s1) := hx5.sh.cell 1
  have s2c : W5.cell? ⟨w1.heap.size, 2, none⟩ = some (.bool s2) := hx5.sh.cell 2
  have s3c : W5.cell? ⟨w1.heap.size, 3, none⟩ = some (.bool s3) := hx5.sh.cell 3
  have s4c : W5.cell? ⟨w1.heap.size, 4, none⟩ = some (.int .i64 be) := hx5.sh.cell 4
  have s5c : W5.cell? ⟨w1.heap.size, 5, none⟩ = some (.bool s5) := hx5.sh.cell 5
  have s6c : W5.cell? ⟨w1.heap.size, 6, none⟩ = some (.int .i64 le) := hx5.sh.cell 6
  have s7c : W5.cell? ⟨w1.heap.size, 7, none⟩ = some (.int .i64 mo) := hx5.sh.cell 7
  have d4c : W5.cell? ⟨w.heap.size, 4, none⟩ = some (.slice x.At d.texts.length x.ct) := hx5.bx.cell 4
  go_wp2_with fail
  refine (HC5.out _ _ hx5).mono ?_
  intro e W6 hO
  obtain ⟨he, hb⟩ := hO
  have hx6 := hx5.step hb
  clear hb hx5 s0c s1c s2c s3c s4c s5c s6c s7c d4c
  subst he
  have HB := Lib.hid hx6.below
  clear hx6
  go_wp2
  go_ret
  refine ⟨?_, HB.out⟩
  rw [HS.out]
  simp

theorem dsound_any (k : Int) (x : DV) (d : Dt) (w : World) (hx : DataAt w w.heap.size x d) (h1 : szN d.host ≤ maxLen) (h2 : szN d.mail ≤ maxLen) (h3 : d.texts.length ≤ maxLen) (h4 : ∀ k (h : k < d.texts.length), (d.texts[k]).length ≤ maxLen) :
    Calls Tryz.prog 63 #[.int .i64 k, x.val d] w (Gave w (.bool (soundD k d))) :=
  dsound_core k x d w hx (fun W b hr => soundName_any x.Ah d.host.length x.ch w.heap.size d.host b W rfl hr h1) (fun W b hr => soundName_any x.Am d.mail.length x.cm w.heap.size d.mail b W rfl hr h2) h3 h4
theorem dsound_wide (k : Int) (x : DV) (d : Dt) (w : World) (hx : DataAt w w.heap.size x d) (h1 : d.host.length ≤ 140737488351232) (h1' : ∀ k (h : k < d.host.length), (d.host[k]).length ≤ maxLen) (h2 : d.mail.length ≤ 140737488351232) (h2' : ∀ k (h : k < d.mail.length), (d.mail[k]).length ≤ maxLen) (h3 : d.texts.length ≤ maxLen) (h4 : ∀ k (h : k < d.texts.length), (d.texts[k]).length ≤ maxLen) :
    Calls Tryz.prog 63 #[.int .i64 k, x.val d] w (Gave w (.bool (soundD k d))) :=
  dsound_core k x d w hx (fun W b hr => soundName_wide x.Ah d.host.length x.ch w.heap.size d.host b W rfl hr h1 h1') (fun W b hr => soundName_wide x.Am d.mail.length x.cm w.heap.size d.mail b W rfl hr h2 h2') h3 h4

end Go.Proofs.YthppgofpbpjglaaGreat

namespace Go.Proofs.YthppgofpbpjglaaGreat
open Go.RowKit

def timeB (t : Int) : Bool := decide (0 ≤ t) && decide (t ≤ 36028797018963968)
theorem timeB_true {t : Int} (h : 0 ≤ t) (h' : t ≤ 36028797018963968) : timeB t = true := by simp [timeB, h, h']
theorem timeB_neg {t : Int} (h : t < 0) : timeB t = false := by simp [timeB]; omega
theorem timeB_big {t : Int} (h : 36028797018963968 < t) : timeB t = false := by simp [timeB]; omega
theorem timeB_yes {t : Int} (h : timeB t = true) : 0 ≤ t ∧ t ≤ 36028797018963968 := by simpa [timeB] using h

def timesB (l : List Int) : Bool := l.all timeB

/-- How many seconds are left. -/
def leftI (g t n : Int) : Int := if timesB [g, t, n] = true then (if g + t - (if n < g then g else n) ≤ 0 then 0 else g + t - (if n < g then g else n)) else 0
def staleB (g t k n : Int) : Bool := timesB [g, t, k, n] && (leftI g t n == 0) && decide (n < g + t + k)
def tellI (g t n : Int) : Int := if timesB [g, t, n] = true then (if 0 < leftI g t n then leftI g t n else 30) else 0
def clampI (t : Int) (b : Bool) : Int := if t < 0 then 0 else if b = true ∧ 10800 < t then 10800 else if 604800 < t then 604800 else t

theorem times3 (g t n : Int) : timesB [g, t, n] = (timeB g && (timeB t && timeB n)) := by simp [timesB]
theorem times4 (g t k n : Int) : timesB [g, t, k, n] = (timeB g && (timeB t && (timeB k && timeB n))) := by simp [timesB]
theorem times3_yes {g t n : Int} (h : timesB [g, t, n] = true) : (0 ≤ g ∧ g ≤ 36028797018963968) ∧ (0 ≤ t ∧ t ≤ 36028797018963968) ∧ 0 ≤ n ∧ n ≤ 36028797018963968 := by
  rw [times3] at h
  simp only [Bool.and_eq_true] at h
  exact ⟨timeB_yes h.1, timeB_yes h.2.1, timeB_yes h.2.2⟩
theorem times3_true {g t n : Int} (h1 : timeB g = true) (h2 : timeB t = true) (h3 : timeB n = true) : timesB [g, t, n] = true := by rw [times3, h1, h2, h3]; rfl

theorem leftI_no {g t n : Int} (h : timesB [g, t, n] = false) : leftI g t n = 0 := by unfold leftI; rw [if_neg (by rw [h]; simp)]
theorem leftI_end {g t n : Int} (h : g + t - (if n < g then g else n) ≤ 0) : leftI g t n = 0 := by unfold leftI; rw [if_pos h]; split <;> rfl
theorem leftI_some {g t n : Int} (h : timesB [g, t, n] = true) (h' : ¬ g + t - (if n < g then g else n) ≤ 0) : leftI g t n = g + t - (if n < g then g else n) := by unfold leftI; rw [if_pos h, if_neg h']
theorem leftI_bounds (g t n : Int) : 0 ≤ leftI g t n ∧ leftI g t n ≤ 36028797018963968 := by
  by_cases h : timesB [g, t, n] = true
  · have h1 := times3_yes h
    by_cases h2 : g + t - (if n < g then g else n) ≤ 0
    · rw [leftI_end h2]; omega
    · rw [leftI_some h h2]; split at h2 <;> (constructor <;> (split <;> omega))
  · rw [leftI_no (by simpa using h)]; omega

end Go.Proofs.YthppgofpbpjglaaGreat

namespace Go.Proofs.YthppgofpbpjglaaGreat
open Go.RowKit

/-- A fact's numbers. -/
structure Fh where
  typ : Int
  knd : Int
  rank : Int
  got : Int
  ttl : Int
/-- A fact. -/
structure Fc where
  name : List (List UInt8)
  h : Fh
  set : List Dt
  zone : List (List UInt8)
  soa : Dt

def typedB (k : Int) : Bool := decide (1 ≤ k) && (decide (k ≤ 65534) && (decide (k ≠ 41) && decide (k ≠ 255)))
def emptyD (d : Dt) : Bool := decide (d.bytes.length = 0) && (decide (d.host.length = 0) && (decide (d.mail.length = 0) && (decide (d.nums.length = 0) && decide (d.texts.length = 0))))
/-- Is all data of l sound for k, and none there ahead of it, or in s? -/
def setFrom (k : Int) : List Dt → List Dt → Bool
  | _, [] => true
  | s, d :: l => soundD k d && (!hasD s d && setFrom k (s ++ [d]) l)
def setOk (k : Int) (l : List Dt) : Bool := setFrom k [] l
theorem setFrom_snoc (k : Int) (d : Dt) : ∀ (l s : List Dt), setFrom k s (l ++ [d]) = (setFrom k s l && (soundD k d && !hasD (s ++ l) d))
  | [], s => by simp [setFrom]
  | e :: l, s => by
    rw [List.cons_append, setFrom, setFrom, setFrom_snoc k d l (s ++ [e]), List.append_assoc, List.singleton_append]
    simp [Bool.and_assoc]
theorem setOk_snoc (k : Int) (l : List Dt) (d : Dt) : setOk k (l ++ [d]) = (setOk k l && (soundD k d && !hasD l d)) := by
  unfold setOk
  rw [setFrom_snoc, List.nil_append]
theorem setFrom_append (k : Int) : ∀ (l r s : List Dt), setFrom k s (l ++ r) = (setFrom k s l && setFrom k (s ++ l) r)
  | [], r, s => by simp [setFrom]
  | e :: l, r, s => by
    rw [List.cons_append, setFrom, setFrom, setFrom_append k l r (s ++ [e]), List.append_assoc, List.singleton_append]
    simp [Bool.and_assoc]
theorem setFrom_each {k : Int} {d : Dt} : ∀ {l s : List Dt}, setFrom k s l = true → d ∈ l → soundD k d = true
  | [], _, _, h => absurd h (List.not_mem_nil)
  | e :: l, s, h, hd => by
    rw [setFrom] at h
    simp only [Bool.and_eq_true] at h
    rcases List.mem_cons.1 hd with rfl | hd
    · exact h.1
    · exact setFrom_each h.2.2 hd
theorem setOk_each {k : Int} {d : Dt} {l : List Dt} (h : setOk k l = true) (hd : d ∈ l) : soundD k d = true := setFrom_each h hd

def headB (n : List (List UInt8)) (h : Fh) : Bool := soundN n && (decide (1 ≤ h.rank) && (decide (h.rank ≤ 4) && (timeB h.got && (decide (0 ≤ h.ttl) && decide (h.ttl ≤ 604800)))))
def hasB (f : Fc) : Bool := typedB f.h.typ && (decide (1 ≤ f.set.length) && (decide (f.set.length ≤ 64) && (decide (f.zone.length = 0) && (emptyD f.soa && setOk f.h.typ f.set))))
def noB (f : Fc) : Bool := (decide (f.h.knd = 2) == typedB f.h.typ) && ((decide (f.h.knd = 2) || decide (f.h.typ = 0)) && (decide (f.set.length = 0) && (decide (f.h.ttl ≤ 10800) && (soundN f.zone && (underN f.name f.zone && soundD 6 f.soa)))))
/-- Is a fact sound? -/
def soundF (f : Fc) : Bool := headB f.name f.h && (if f.h.knd = 1 then hasB f else if f.h.knd = 2 ∨ f.h.knd = 3 then noB f else false)
theorem soundF_head {f : Fc} (h : headB f.name f.h = false) : soundF f = false := by unfold soundF; rw [h]; rfl
theorem soundF_has {f : Fc} (h : headB f.name f.h = true) (hk : f.h.knd = 1) : soundF f = hasB f := by unfold soundF; rw [h, if_pos hk]; rfl
theorem soundF_no {f : Fc} (h : headB f.name f.h = true) (hk : f.h.knd = 2 ∨ f.h.knd = 3) : soundF f = noB f := by
  unfold soundF
  rw [h, if_neg (by omega), if_pos hk]
  rfl
theorem soundF_other {f : Fc} (h1 : f.h.knd ≠ 1) (h2 : f.h.knd ≠ 2) (h3 : f.h.knd ≠ 3) : soundF f = false := by
  unfold soundF
  rw [if_neg h1, if_neg (by omega)]
  simp

/-- Of one name and type? -/
def sameK (a b : Fc) : Bool := decide (a.h.typ = b.h.typ) && eqN a.name b.name
def sameFh (a b : Fh) : Bool := decide (a.knd = b.knd) && (decide (a.rank = b.rank) && (decide (a.got = b.got) && decide (a.ttl = b.ttl)))
/-- Do facts say the same? -/
def sameF (a b : Fc) : Bool := soundF a && (soundF b && (sameK a b && (sameFh a.h b.h && (sameS a.set b.set && (eqN a.zone b.zone && sameD a.soa b.soa)))))

theorem soundF_name {f : Fc} (h : soundF f = true) : soundN f.name = true := by
  unfold soundF headB at h
  simp only [Bool.and_eq_true] at h
  exact h.1.1

end Go.Proofs.YthppgofpbpjglaaGreat

namespace Go.Proofs.YthppgofpbpjglaaGreat
open Go.RowKit

def fitN (count : Nat) (size : Int) (l : List Int) : Bool := decide (l.length = count) && l.all fun n => fitB n size
theorem all_snocI {l : List Int} {k : Nat} (p : Int → Bool) (h : k < l.length) (ha : (l.take k).all p = true) (hp : p l[k] = true) : (l.take (k + 1)).all p = true := by
  rw [List.take_succ_eq_append_getElem h, List.all_append, ha]
  simp [hp]
theorem all_notI {l : List Int} {k : Nat} (p : Int → Bool) (h : k < l.length) (hp : p l[k] = false) : l.all p = false := by
  rw [List.all_eq_false]
  exact ⟨l[k], List.getElem_mem h, by simp [hp]⟩
def FitRel (l : List Int) (s : Int) (i : Value) : Prop := ∃ k : Nat, k ≤ l.length ∧ i = .int .i64 k ∧ (l.take k).all (fun n => fitB n s) = true

set_option maxRecDepth 4000 in
set_option maxHeartbeats 1000000 in
theorem fit_any (A : Option Addr) (m c H : Nat) (l : List Int) (count : Nat) (s : Int) (w : World) (hl : l.length = m) (hA : Row w H A (l.map zv)) (hm : m ≤ maxLen) (hn : ∀ n ∈ l, n ≤ 9223372036854775807) :
    Calls Tryz.prog 57 #[.slice A m c, .int .i64 count, .int .i64 s] w (Told w (.bool (fitN count s l))) := by
  unfold maxLen at hm
  have HF := Lib.hid (fun n W hn => ref_fits_any n s W hn)
  have HN := Lib.hid hn
  have HA := Lib.hid hA
  have HL := Lib.hid hl
  clear hn hA
  by_cases hc : m = count
  · have t1 : ((m : Int) != (count : Int)) = false := by rw [bne_eq_false_iff_eq]; omega
    have HS := Lib.hid (show fitN count s l = l.all (fun n => fitB n s) by simp [fitN, hl, hc])
    clear hl hc
    go_enter Tryz.func57, Tryz.ntmps57
    go_wp2
    go_loop [7] (FitRel l s) (fun i => m - (intOf i).toNat)
    case atStart => exact ⟨0, Nat.zero_le _, rfl, rfl⟩
    case round =>
      obtain ⟨k, hk, rfl, hok⟩ := hrel
      have HOK := Lib.hid hok
      clear hok
      by_cases hlt : k < m
      · have hkl : k < l.length := by rw [HL.out]; exact hlt
        obtain ⟨b, off, rfl, _, hcl⟩ := HA.out.int_at hkl
        go_wp2_with fail
        refine (HF.out l[k] _ (HN.out _ (List.getElem_mem hkl))).mono ?_
        cases hf : fitB l[k] s
        · have HX := Lib.hid (all_notI (fun n => fitB n s) hkl hf)
          rintro e w' ⟨rfl, rfl⟩
          go_wp2
          go_ret
          exact ⟨by rw [HS.out, HX.out]; rfl, rfl⟩
        · have HX := Lib.hid (all_snocI (fun n => fitB n s) hkl HOK.out hf)
          rintro e w' ⟨rfl, rfl⟩
          go_wp2
          exact ⟨⟨k + 1, hkl, by go_num, HX.out⟩, by simp [intOf]; omega⟩
      · obtain rfl : k = m := by have := HL.out; omega
        have HX := Lib.hid (show l.all (fun n => fitB n s) = true by have h := HOK.out; rw [← HL.out, List.take_length] at h; exact h)
        go_wp2
        go_ret
        exact ⟨by rw [HS.out, HX.out]; rfl, rfl⟩
  · have t1 : ((m : Int) != (count : Int)) = true := by rw [bne_iff_ne]; omega
    have HS := Lib.hid (show fitN count s l = false by simp [fitN, hl, hc])
    clear hl hc
    go_enter Tryz.func57, Tryz.ntmps57
    go_wp2
    go_ret
    exact ⟨by rw [HS.out]; rfl, rfl⟩

set_option maxRecDepth 4000 in
set_option maxHeartbeats 1000000 in
theorem empty_a (x : DV) (d : Dt) (w : World) : Calls Tryz.prog 56 #[x.val d, .bool true, .bool false, .bool false, .bool false, .bool false] w (Gave w (.bool ((decide (d.host.length = 0) && (decide (d.mail.length = 0) && (decide (d.nums.length = 0) && decide (d.texts.length = 0))))))) := by
  have HB := Lib.hid ((Below.refl _ w).alloc (Nat.le_refl _) (.cells #[x.vb d, x.vh d, x.vm d, x.vn d, x.vt d] 38))
  by_cases z0 : d.host.length = 0
  case neg =>
    have t0 : ((d.host.length : Int) == 0) = false := by rw [beq_eq_false_iff_ne]; omega
    have HS := Lib.hid (show ((decide (d.host.length = 0) && (decide (d.mail.length = 0) && (decide (d.nums.length = 0) && decide (d.texts.length = 0))))) = false by simp [z0])
    clear z0
    go_enter Tryz.func56, Tryz.ntmps56
    go_wp2
    go_ret
    exact ⟨by rw [HS.out]; rfl, HB.out⟩
  have t0 : ((d.host.length : Int) == 0) = true := by rw [beq_iff_eq]; omega
  by_cases z1 : d.mail.length = 0
  case neg =>
    have t1 : ((d.mail.length : Int) == 0) = false := by rw [beq_eq_false_iff_ne]; omega
    have HS := Lib.hid (show ((decide (d.host.length = 0) && (decide (d.mail.length = 0) && (decide (d.nums.length = 0) && decide (d.texts.length = 0))))) = false by simp [z0, z1])
    clear z0 z1
    go_enter Tryz.func56, Tryz.ntmps56
    go_wp2
    go_ret
    exact ⟨by rw [HS.out]; rfl, HB.out⟩
  have t1 : ((d.mail.length : Int) == 0) = true := by rw [beq_iff_eq]; omega
  by_cases z2 : d.nums.length = 0
  case neg =>
    have t2 : ((d.nums.length : Int) == 0) = false := by rw [beq_eq_false_iff_ne]; omega
    have HS := Lib.hid (show ((decide (d.host.length = 0) && (decide (d.mail.length = 0) && (decide (d.nums.length = 0) && decide (d.texts.length = 0))))) = false by simp [z0, z1, z2])
    clear z0 z1 z2
    go_enter Tryz.func56, Tryz.ntmps56
    go_wp2
    go_ret
    exact ⟨by rw [HS.out]; rfl, HB.out⟩
  have t2 : ((d.nums.length : Int) == 0) = true := by rw [beq_iff_eq]; omega
  by_cases z3 : d.texts.length = 0
  case neg =>
    have t3 : ((d.texts.length : Int) == 0) = false := by rw [beq_eq_false_iff_ne]; omega
    have HS := Lib.hid (show ((decide (d.host.length = 0) && (decide (d.mail.length = 0) && (decide (d.nums.length = 0) && decide (d.texts.length = 0))))) = false by simp [z0, z1, z2, z3])
    clear z0 z1 z2 z3
    go_enter Tryz.func56, Tryz.ntmps56
    go_wp2
    go_ret
    exact ⟨by rw [HS.out]; rfl, HB.out⟩
  have t3 : ((d.texts.length : Int) == 0) = true := by rw [beq_iff_eq]; omega
  have HS := Lib.hid (show ((decide (d.host.length = 0) && (decide (d.mail.length = 0) && (decide (d.nums.length = 0) && decide (d.texts.length = 0))))) = true by simp [z0, z1, z2, z3])
  clear z0 z1 z2 z3
  go_enter Tryz.func56, Tryz.ntmps56
  go_wp2
  go_ret
  exact ⟨by rw [HS.out]; rfl, HB.out⟩

set_option maxRecDepth 4000 in
set_option maxHeartbeats 1000000 in
theorem empty_n (x : DV) (d : Dt) (w : World) : Calls Tryz.prog 56 #[x.val d, .bool false, .bool true, .bool false, .bool false, .bool false] w (Gave w (.bool ((decide (d.bytes.length = 0) && (decide (d.mail.length = 0) && (decide (d.nums.length = 0) && decide (d.texts.length = 0))))))) := by
  have HB := Lib.hid ((Below.refl _ w).alloc (Nat.le_refl _) (.cells #[x.vb d, x.vh d, x.vm d, x.vn d, x.vt d] 38))
  by_cases z0 : d.bytes.length = 0
  case neg =>
    have t0 : ((d.bytes.length : Int) == 0) = false := by rw [beq_eq_false_iff_ne]; omega
    have HS := Lib.hid (show ((decide (d.bytes.length = 0) && (decide (d.mail.length = 0) && (decide (d.nums.length = 0) && decide (d.texts.length = 0))))) = false by simp [z0])
    clear z0
    go_enter Tryz.func56, Tryz.ntmps56
    go_wp2
    go_ret
    exact ⟨by rw [HS.out]; rfl, HB.out⟩
  have t0 : ((d.bytes.length : Int) == 0) = true := by rw [beq_iff_eq]; omega
  by_cases z1 : d.mail.length = 0
  case neg =>
    have t1 : ((d.mail.length : Int) == 0) = false := by rw [beq_eq_false_iff_ne]; omega
    have HS := Lib.hid (show ((decide (d.bytes.length = 0) && (decide (d.mail.length = 0) && (decide (d.nums.length = 0) && decide (d.texts.length = 0))))) = false by simp [z0, z1])
    clear z0 z1
    go_enter Tryz.func56, Tryz.ntmps56
    go_wp2
    go_ret
    exact ⟨by rw [HS.out]; rfl, HB.out⟩
  have t1 : ((d.mail.length : Int) == 0) = true := by rw [beq_iff_eq]; omega
  by_cases z2 : d.nums.length = 0
  case neg =>
    have t2 : ((d.nums.length : Int) == 0) = false := by rw [beq_eq_false_iff_ne]; omega
    have HS := Lib.hid (show ((decide (d.bytes.length = 0) && (decide (d.mail.length = 0) && (decide (d.nums.length = 0) && decide (d.texts.length = 0))))) = false by simp [z0, z1, z2])
    clear z0 z1 z2
    go_enter Tryz.func56, Tryz.ntmps56
    go_wp2
    go_ret
    exact ⟨by rw [HS.out]; rfl, HB.out⟩
  have t2 : ((d.nums.length : Int) == 0) = true := by rw [beq_iff_eq]; omega
  by_cases z3 : d.texts.length = 0
  case neg =>
    have t3 : ((d.texts.length : Int) == 0) = false := by rw [beq_eq_false_iff_ne]; omega
    have HS := Lib.hid (show ((decide (d.bytes.length = 0) && (decide (d.mail.length = 0) && (decide (d.nums.length = 0) && decide (d.texts.length = 0))))) = false by simp [z0, z1, z2, z3])
    clear z0 z1 z2 z3
    go_enter Tryz.func56, Tryz.ntmps56
    go_wp2
    go_ret
    exact ⟨by rw [HS.out]; rfl, HB.out⟩
  have t3 : ((d.texts.length : Int) == 0) = true := by rw [beq_iff_eq]; omega
  have HS := Lib.hid (show ((decide (d.bytes.length = 0) && (decide (d.mail.length = 0) && (decide (d.nums.length = 0) && decide (d.texts.length = 0))))) = true by simp [z0, z1, z2, z3])
  clear z0 z1 z2 z3
  go_enter Tryz.func56, Tryz.ntmps56
  go_wp2
  go_ret
  exact ⟨by rw [HS.out]; rfl, HB.out⟩

set_option maxRecDepth 4000 in
set_option maxHeartbeats 1000000 in
theorem empty_x (x : DV) (d : Dt) (w : World) : Calls Tryz.prog 56 #[x.val d, .bool false, .bool true, .bool false, .bool true, .bool false] w (Gave w (.bool ((decide (d.bytes.length = 0) && (decide (d.mail.length = 0) && decide (d.texts.length = 0)))))) := by
  have HB := Lib.hid ((Below.refl _ w).alloc (Nat.le_refl _) (.cells #[x.vb d, x.vh d, x.vm d, x.vn d, x.vt d] 38))
  by_cases z0 : d.bytes.length = 0
  case neg =>
    have t0 : ((d.bytes.length : Int) == 0) = false := by rw [beq_eq_false_iff_ne]; omega
    have HS := Lib.hid (show ((decide (d.bytes.length = 0) && (decide (d.mail.length = 0) && decide (d.texts.length = 0)))) = false by simp [z0])
    clear z0
    go_enter Tryz.func56, Tryz.ntmps56
    go_wp2
    go_ret
    exact ⟨by rw [HS.out]; rfl, HB.out⟩
  have t0 : ((d.bytes.length : Int) == 0) = true := by rw [beq_iff_eq]; omega
  by_cases z1 : d.mail.length = 0
  case neg =>
    have t1 : ((d.mail.length : Int) == 0) = false := by rw [beq_eq_false_iff_ne]; omega
    have HS := Lib.hid (show ((decide (d.bytes.length = 0) && (decide (d.mail.length = 0) && decide (d.texts.length = 0)))) = false by simp [z0, z1])
    clear z0 z1
    go_enter Tryz.func56, Tryz.ntmps56
    go_wp2
    go_ret
    exact ⟨by rw [HS.out]; rfl, HB.out⟩
  have t1 : ((d.mail.length : Int) == 0) = true := by rw [beq_iff_eq]; omega
  by_cases z2 : d.texts.length = 0
  case neg =>
    have t2 : ((d.texts.length : Int) == 0) = false := by rw [beq_eq_false_iff_ne]; omega
    have HS := Lib.hid (show ((decide (d.bytes.length = 0) && (decide (d.mail.length = 0) && decide (d.texts.length = 0)))) = false by simp [z0, z1, z2])
    clear z0 z1 z2
    go_enter Tryz.func56, Tryz.ntmps56
    go_wp2
    go_ret
    exact ⟨by rw [HS.out]; rfl, HB.out⟩
  have t2 : ((d.texts.length : Int) == 0) = true := by rw [beq_iff_eq]; omega
  have HS := Lib.hid (show ((decide (d.bytes.length = 0) && (decide (d.mail.length = 0) && decide (d.texts.length = 0)))) = true by simp [z0, z1, z2])
  clear z0 z1 z2
  go_enter Tryz.func56, Tryz.ntmps56
  go_wp2
  go_ret
  exact ⟨by rw [HS.out]; rfl, HB.out⟩

set_option maxRecDepth 4000 in
set_option maxHeartbeats 1000000 in
theorem empty_s (x : DV) (d : Dt) (w : World) : Calls Tryz.prog 56 #[x.val d, .bool false, .bool true, .bool true, .bool true, .bool false] w (Gave w (.bool ((decide (d.bytes.length = 0) && decide (d.texts.length = 0))))) := by
  have HB := Lib.hid ((Below.refl _ w).alloc (Nat.le_refl _) (.cells #[x.vb d, x.vh d, x.vm d, x.vn d, x.vt d] 38))
  by_cases z0 : d.bytes.length = 0
  case neg =>
    have t0 : ((d.bytes.length : Int) == 0) = false := by rw [beq_eq_false_iff_ne]; omega
    have HS := Lib.hid (show ((decide (d.bytes.length = 0) && decide (d.texts.length = 0))) = false by simp [z0])
    clear z0
    go_enter Tryz.func56, Tryz.ntmps56
    go_wp2
    go_ret
    exact ⟨by rw [HS.out]; rfl, HB.out⟩
  have t0 : ((d.bytes.length : Int) == 0) = true := by rw [beq_iff_eq]; omega
  by_cases z1 : d.texts.length = 0
  case neg =>
    have t1 : ((d.texts.length : Int) == 0) = false := by rw [beq_eq_false_iff_ne]; omega
    have HS := Lib.hid (show ((decide (d.bytes.length = 0) && decide (d.texts.length = 0))) = false by simp [z0, z1])
    clear z0 z1
    go_enter Tryz.func56, Tryz.ntmps56
    go_wp2
    go_ret
    exact ⟨by rw [HS.out]; rfl, HB.out⟩
  have t1 : ((d.texts.length : Int) == 0) = true := by rw [beq_iff_eq]; omega
  have HS := Lib.hid (show ((decide (d.bytes.length = 0) && decide (d.texts.length = 0))) = true by simp [z0, z1])
  clear z0 z1
  go_enter Tryz.func56, Tryz.ntmps56
  go_wp2
  go_ret
  exact ⟨by rw [HS.out]; rfl, HB.out⟩

set_option maxRecDepth 4000 in
set_option maxHeartbeats 1000000 in
theorem empty_t (x : DV) (d : Dt) (w : World) : Calls Tryz.prog 56 #[x.val d, .bool false, .bool false, .bool false, .bool false, .bool true] w (Gave w (.bool ((decide (d.bytes.length = 0) && (decide (d.host.length = 0) && (decide (d.mail.length = 0) && decide (d.nums.length = 0))))))) := by
  have HB := Lib.hid ((Below.refl _ w).alloc (Nat.le_refl _) (.cells #[x.vb d, x.vh d, x.vm d, x.vn d, x.vt d] 38))
  by_cases z0 : d.bytes.length = 0
  case neg =>
    have t0 : ((d.bytes.length : Int) == 0) = false := by rw [beq_eq_false_iff_ne]; omega
    have HS := Lib.hid (show ((decide (d.bytes.length = 0) && (decide (d.host.length = 0) && (decide (d.mail.length = 0) && decide (d.nums.length = 0))))) = false by simp [z0])
    clear z0
    go_enter Tryz.func56, Tryz.ntmps56
    go_wp2
    go_ret
    exact ⟨by rw [HS.out]; rfl, HB.out⟩
  have t0 : ((d.bytes.length : Int) == 0) = true := by rw [beq_iff_eq]; omega
  by_cases z1 : d.host.length = 0
  case neg =>
    have t1 : ((d.host.length : Int) == 0) = false := by rw [beq_eq_false_iff_ne]; omega
    have HS := Lib.hid (show ((decide (d.bytes.length = 0) && (decide (d.host.length = 0) && (decide (d.mail.length = 0) && decide (d.nums.length = 0))))) = false by simp [z0, z1])
    clear z0 z1
    go_enter Tryz.func56, Tryz.ntmps56
    go_wp2
    go_ret
    exact ⟨by rw [HS.out]; rfl, HB.out⟩
  have t1 : ((d.host.length : Int) == 0) = true := by rw [beq_iff_eq]; omega
  by_cases z2 : d.mail.length = 0
  case neg =>
    have t2 : ((d.mail.length : Int) == 0) = false := by rw [beq_eq_false_iff_ne]; omega
    have HS := Lib.hid (show ((decide (d.bytes.length = 0) && (decide (d.host.length = 0) && (decide (d.mail.length = 0) && decide (d.nums.length = 0))))) = false by simp [z0, z1, z2])
    clear z0 z1 z2
    go_enter Tryz.func56, Tryz.ntmps56
    go_wp2
    go_ret
    exact ⟨by rw [HS.out]; rfl, HB.out⟩
  have t2 : ((d.mail.length : Int) == 0) = true := by rw [beq_iff_eq]; omega
  by_cases z3 : d.nums.length = 0
  case neg =>
    have t3 : ((d.nums.length : Int) == 0) = false := by rw [beq_eq_false_iff_ne]; omega
    have HS := Lib.hid (show ((decide (d.bytes.length = 0) && (decide (d.host.length = 0) && (decide (d.mail.length = 0) && decide (d.nums.length = 0))))) = false by simp [z0, z1, z2, z3])
    clear z0 z1 z2 z3
    go_enter Tryz.func56, Tryz.ntmps56
    go_wp2
    go_ret
    exact ⟨by rw [HS.out]; rfl, HB.out⟩
  have t3 : ((d.nums.length : Int) == 0) = true := by rw [beq_iff_eq]; omega
  have HS := Lib.hid (show ((decide (d.bytes.length = 0) && (decide (d.host.length = 0) && (decide (d.mail.length = 0) && decide (d.nums.length = 0))))) = true by simp [z0, z1, z2, z3])
  clear z0 z1 z2 z3
  go_enter Tryz.func56, Tryz.ntmps56
  go_wp2
  go_ret
  exact ⟨by rw [HS.out]; rfl, HB.out⟩

theorem numsOk_two {ah : Nat} {l : List Int} (h : l.length ≤ ah) : numsOk ah l = l.all fun n => fitB n 2 := by
  unfold numsOk
  rw [Bool.eq_iff_iff, List.all_eq_true, List.all_eq_true]
  constructor
  · intro hr n hn
    obtain ⟨i, hi, rfl⟩ := List.getElem_of_mem hn
    have := hr i (List.mem_range.2 hi)
    rw [sizeAt, if_pos (by omega)] at this
    simpa [List.getD, hi] using this
  · intro hr i hi
    have hi2 := List.mem_range.1 hi
    rw [sizeAt, if_pos (by omega)]
    simpa [List.getD, hi2] using hr l[i] (List.getElem_mem hi2)
theorem numsOk_four (l : List Int) : numsOk 0 l = l.all fun n => fitB n 4 := by
  unfold numsOk
  rw [Bool.eq_iff_iff, List.all_eq_true, List.all_eq_true]
  constructor
  · intro hr n hn
    obtain ⟨i, hi, rfl⟩ := List.getElem_of_mem hn
    have := hr i (List.mem_range.2 hi)
    rw [sizeAt, if_neg (by omega)] at this
    simpa [List.getD, hi] using this
  · intro hr i hi
    have hi2 := List.mem_range.1 hi
    rw [sizeAt, if_neg (by omega)]
    simpa [List.getD, hi2] using hr l[i] (List.getElem_mem hi2)
theorem soundNm_true (n : List (List UInt8)) : soundNm n true = soundN n := by
  unfold soundNm
  by_cases h : n.length = 0
  · have : n = [] := List.eq_nil_of_length_eq_zero h
    subst this
    decide
  · simp [h]
theorem soundNm_false (n : List (List UInt8)) : soundNm n false = decide (n.length = 0) := by simp [soundNm]
theorem soundNs_two {a : Nat} {l : List Int} {s : Sh} (h1 : s.ahead = a) (h2 : s.behind = 0) : soundNs s l = fitN a 2 l := by
  unfold soundNs fitN
  rw [h1, h2]
  by_cases h : l.length = a
  · rw [numsOk_two (by omega)]; simp
  · simp [h]
theorem soundNs_four {b : Nat} {l : List Int} {s : Sh} (h1 : s.ahead = 0) (h2 : s.behind = b) : soundNs s l = fitN b 4 l := by
  unfold soundNs fitN
  rw [h1, h2, numsOk_four]
  simp
theorem fitN_zero (s : Int) (l : List Int) : fitN 0 s l = decide (l.length = 0) := by
  unfold fitN
  by_cases h : l.length = 0
  · have : l = [] := List.eq_nil_of_length_eq_zero h
    subst this
    rfl
  · simp [h]

theorem soundD_1 (d : Dt) : soundD 1 d = (decide (d.bytes.length = 4) && (decide (d.host.length = 0) && (decide (d.mail.length = 0) && (decide (d.nums.length = 0) && decide (d.texts.length = 0))))) := by
  have hk : kindB 1 = true := by decide
  have hs : shN 1 = ⟨0, false, false, false, 0, false, 4, 4⟩ := by simp [shN]
  unfold soundD
  rw [hk, hs, soundNs_two (s := ⟨0, false, false, false, 0, false, 4, 4⟩) (a := 0) rfl rfl]
  simp only [soundBs, soundTs, soundNm_false, fitN_zero, Bool.true_and]
  rw [Bool.eq_iff_iff]
  simp only [Bool.and_eq_true, decide_eq_true_eq, if_false, Bool.false_eq_true]
  constructor
  · rintro ⟨⟨a1, a2⟩, a3, a4, a5, a6⟩
    skip
    exact ⟨by omega, a3, a4, a5, a6⟩
  · rintro ⟨b1, b2, b3, b4, b5⟩
    exact ⟨⟨by omega, by omega⟩, b2, b3, b4, b5⟩

theorem soundD_28 (d : Dt) : soundD 28 d = (decide (d.bytes.length = 16) && (decide (d.host.length = 0) && (decide (d.mail.length = 0) && (decide (d.nums.length = 0) && decide (d.texts.length = 0))))) := by
  have hk : kindB 28 = true := by decide
  have hs : shN 28 = ⟨0, false, false, false, 0, false, 16, 16⟩ := by simp [shN]
  unfold soundD
  rw [hk, hs, soundNs_two (s := ⟨0, false, false, false, 0, false, 16, 16⟩) (a := 0) rfl rfl]
  simp only [soundBs, soundTs, soundNm_false, fitN_zero, Bool.true_and]
  rw [Bool.eq_iff_iff]
  simp only [Bool.and_eq_true, decide_eq_true_eq, if_false, Bool.false_eq_true]
  constructor
  · rintro ⟨⟨a1, a2⟩, a3, a4, a5, a6⟩
    skip
    exact ⟨by omega, a3, a4, a5, a6⟩
  · rintro ⟨b1, b2, b3, b4, b5⟩
    exact ⟨⟨by omega, by omega⟩, b2, b3, b4, b5⟩

theorem soundD_2 (d : Dt) : soundD 2 d = (soundN d.host && (decide (d.bytes.length = 0) && (decide (d.mail.length = 0) && (decide (d.nums.length = 0) && decide (d.texts.length = 0))))) := by
  have hk : kindB 2 = true := by decide
  have hs : shN 2 = ⟨0, true, false, true, 0, false, 0, 0⟩ := by simp [shN]
  unfold soundD
  rw [hk, hs, soundNs_two (s := ⟨0, true, false, true, 0, false, 0, 0⟩) (a := 0) rfl rfl]
  simp only [soundBs, soundTs, soundNm_true, soundNm_false, fitN_zero, Bool.true_and]
  rw [Bool.eq_iff_iff]
  simp only [Bool.and_eq_true, decide_eq_true_eq, if_false, Bool.false_eq_true]
  constructor
  · rintro ⟨⟨a1, a2⟩, a3, a4, a5, a6⟩
    skip
    exact ⟨a3, by omega, a4, a5, a6⟩
  · rintro ⟨b1, b2, b3, b4, b5⟩
    exact ⟨⟨by omega, by omega⟩, b1, b3, b4, b5⟩

theorem soundD_5 (d : Dt) : soundD 5 d = (soundN d.host && (decide (d.bytes.length = 0) && (decide (d.mail.length = 0) && (decide (d.nums.length = 0) && decide (d.texts.length = 0))))) := by
  have hk : kindB 5 = true := by decide
  have hs : shN 5 = ⟨0, true, false, true, 0, false, 0, 0⟩ := by simp [shN]
  unfold soundD
  rw [hk, hs, soundNs_two (s := ⟨0, true, false, true, 0, false, 0, 0⟩) (a := 0) rfl rfl]
  simp only [soundBs, soundTs, soundNm_true, soundNm_false, fitN_zero, Bool.true_and]
  rw [Bool.eq_iff_iff]
  simp only [Bool.and_eq_true, decide_eq_true_eq, if_false, Bool.false_eq_true]
  constructor
  · rintro ⟨⟨a1, a2⟩, a3, a4, a5, a6⟩
    skip
    exact ⟨a3, by omega, a4, a5, a6⟩
  · rintro ⟨b1, b2, b3, b4, b5⟩
    exact ⟨⟨by omega, by omega⟩, b1, b3, b4, b5⟩

theorem soundD_12 (d : Dt) : soundD 12 d = (soundN d.host && (decide (d.bytes.length = 0) && (decide (d.mail.length = 0) && (decide (d.nums.length = 0) && decide (d.texts.length = 0))))) := by
  have hk : kindB 12 = true := by decide
  have hs : shN 12 = ⟨0, true, false, true, 0, false, 0, 0⟩ := by simp [shN]
  unfold soundD
  rw [hk, hs, soundNs_two (s := ⟨0, true, false, true, 0, false, 0, 0⟩) (a := 0) rfl rfl]
  simp only [soundBs, soundTs, soundNm_true, soundNm_false, fitN_zero, Bool.true_and]
  rw [Bool.eq_iff_iff]
  simp only [Bool.and_eq_true, decide_eq_true_eq, if_false, Bool.false_eq_true]
  constructor
  · rintro ⟨⟨a1, a2⟩, a3, a4, a5, a6⟩
    skip
    exact ⟨a3, by omega, a4, a5, a6⟩
  · rintro ⟨b1, b2, b3, b4, b5⟩
    exact ⟨⟨by omega, by omega⟩, b1, b3, b4, b5⟩

theorem soundD_15 (d : Dt) : soundD 15 d = (soundN d.host && (fitN 1 2 d.nums && (decide (d.bytes.length = 0) && (decide (d.mail.length = 0) && decide (d.texts.length = 0))))) := by
  have hk : kindB 15 = true := by decide
  have hs : shN 15 = ⟨1, true, false, true, 0, false, 0, 0⟩ := by simp [shN]
  unfold soundD
  rw [hk, hs, soundNs_two (s := ⟨1, true, false, true, 0, false, 0, 0⟩) (a := 1) rfl rfl]
  simp only [soundBs, soundTs, soundNm_true, soundNm_false, Bool.true_and]
  rw [Bool.eq_iff_iff]
  simp only [Bool.and_eq_true, decide_eq_true_eq, if_false, Bool.false_eq_true]
  constructor
  · rintro ⟨⟨a1, a2⟩, a3, a4, a5, a6⟩
    skip
    exact ⟨a3, a5, by omega, a4, a6⟩
  · rintro ⟨b1, b2, b3, b4, b5⟩
    exact ⟨⟨by omega, by omega⟩, b1, b4, b2, b5⟩

theorem soundD_33 (d : Dt) : soundD 33 d = (soundN d.host && (fitN 3 2 d.nums && (decide (d.bytes.length = 0) && (decide (d.mail.length = 0) && decide (d.texts.length = 0))))) := by
  have hk : kindB 33 = true := by decide
  have hs : shN 33 = ⟨3, true, false, false, 0, false, 0, 0⟩ := by simp [shN]
  unfold soundD
  rw [hk, hs, soundNs_two (s := ⟨3, true, false, false, 0, false, 0, 0⟩) (a := 3) rfl rfl]
  simp only [soundBs, soundTs, soundNm_true, soundNm_false, Bool.true_and]
  rw [Bool.eq_iff_iff]
  simp only [Bool.and_eq_true, decide_eq_true_eq, if_false, Bool.false_eq_true]
  constructor
  · rintro ⟨⟨a1, a2⟩, a3, a4, a5, a6⟩
    skip
    exact ⟨a3, a5, by omega, a4, a6⟩
  · rintro ⟨b1, b2, b3, b4, b5⟩
    exact ⟨⟨by omega, by omega⟩, b1, b4, b2, b5⟩

theorem soundD_6 (d : Dt) : soundD 6 d = (soundN d.host && (soundN d.mail && (fitN 5 4 d.nums && (decide (d.bytes.length = 0) && decide (d.texts.length = 0))))) := by
  have hk : kindB 6 = true := by decide
  have hs : shN 6 = ⟨0, true, true, true, 5, false, 0, 0⟩ := by simp [shN]
  unfold soundD
  rw [hk, hs, soundNs_four (s := ⟨0, true, true, true, 5, false, 0, 0⟩) (b := 5) rfl rfl]
  simp only [soundBs, soundTs, soundNm_true, Bool.true_and]
  rw [Bool.eq_iff_iff]
  simp only [Bool.and_eq_true, decide_eq_true_eq, if_false, Bool.false_eq_true]
  constructor
  · rintro ⟨⟨a1, a2⟩, a3, a4, a5, a6⟩
    skip
    exact ⟨a3, a4, a5, by omega, a6⟩
  · rintro ⟨b1, b2, b3, b4, b5⟩
    exact ⟨⟨by omega, by omega⟩, b1, b2, b3, b5⟩

theorem soundD_16 (d : Dt) : soundD 16 d = (decide (1 ≤ d.texts.length) && (decide (d.texts.length ≤ 64) && ((decide (d.bytes.length = 0) && (decide (d.host.length = 0) && (decide (d.mail.length = 0) && decide (d.nums.length = 0)))) && d.texts.all (fun t => decide (t.length ≤ 255))))) := by
  have hk : kindB 16 = true := by decide
  have hs : shN 16 = ⟨0, false, false, false, 0, true, 0, 0⟩ := by simp [shN]
  unfold soundD
  rw [hk, hs, soundNs_two (s := ⟨0, false, false, false, 0, true, 0, 0⟩) (a := 0) rfl rfl]
  simp only [soundBs, soundTs, soundNm_false, fitN_zero, Bool.true_and]
  rw [Bool.eq_iff_iff]
  simp only [Bool.and_eq_true, decide_eq_true_eq, if_true]
  constructor
  · rintro ⟨⟨a1, a2⟩, a3, a4, a5, a6⟩
    obtain ⟨a6, a7, a8⟩ := a6
    exact ⟨a7, a8, ⟨by omega, a3, a4, a5⟩, a6⟩
  · rintro ⟨b1, b2, ⟨b3, b4, b5, b6⟩, b7⟩
    exact ⟨⟨by omega, by omega⟩, b4, b5, b6, b7, b1, b2⟩

theorem soundD_other {k : Int} (d : Dt) (hk : kindB k = true) (h : (k == 1) = false ∧ (k == 28) = false ∧ (k == 2) = false ∧ (k == 5) = false ∧ (k == 12) = false ∧ (k == 15) = false ∧ (k == 6) = false ∧ (k == 16) = false ∧ (k == 33) = false) :
    soundD k d = (decide (d.bytes.length ≤ 65535) && (decide (d.host.length = 0) && (decide (d.mail.length = 0) && (decide (d.nums.length = 0) && decide (d.texts.length = 0))))) := by
  unfold soundD
  rw [hk, shN_other h, soundNs_two (s := ⟨0, false, false, false, 0, false, 0, 65535⟩) (a := 0) rfl rfl]
  simp only [soundBs, soundTs, soundNm_false, fitN_zero, Bool.true_and]
  rw [Bool.eq_iff_iff]
  simp only [Bool.and_eq_true, decide_eq_true_eq, if_false, Bool.false_eq_true]
  constructor
  · rintro ⟨⟨a1, a2⟩, a3, a4, a5, a6⟩
    exact ⟨a2, a3, a4, a5, a6⟩
  · rintro ⟨b1, b2, b3, b4, b5⟩
    exact ⟨⟨by omega, b1⟩, b2, b3, b4, b5⟩

end Go.Proofs.YthppgofpbpjglaaGreat
