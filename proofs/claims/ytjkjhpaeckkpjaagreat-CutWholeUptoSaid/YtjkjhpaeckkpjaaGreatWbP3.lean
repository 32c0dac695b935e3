/-
  The contracts of the document's Data and Exact.
-/
import Derived.Test.YtjkjhpaeckkpjaaGreatWbP2
import Derived.Test.YtjkjhpaeckkpjaaGreatWbP1
import Derived.Test.YtjkjhpaeckkpjaaGreatProg
import Derived.Lib.AppendStr
import Derived.Maps.OwnOps
import Derived.Carry
namespace Go.Proofs.YtjkjhpaeckkpjaaGreat
open Go.RowKit

/-- What the document's Data asks of its argument. -/
structure RefIn (d : Dt) : Prop where
  h : d.host.length ≤ maxLen ∧ ∀ k (h : k < d.host.length), (d.host[k]).length ≤ maxLen
  m : d.mail.length ≤ maxLen ∧ ∀ k (h : k < d.mail.length), (d.mail[k]).length ≤ maxLen
  t : d.texts.length ≤ maxLen
  tl : ∀ k (h : k < d.texts.length), (d.texts[k]).length ≤ maxLen
  n : ∀ n ∈ d.nums, n ≤ 9223372036854775807

theorem rdata_kind (k : Int) (x : DV) (d : Dt) (w : World) (hk : kindB k = false) :
    Calls Tryz.prog 41 #[.int .i64 k, x.val d] w (Gave w (.bool (soundD k d))) := by
  have HB := Lib.hid ((Below.refl _ w).alloc (Nat.le_refl _) (.cells #[x.vb d, x.vh d, x.vm d, x.vn d, x.vt d] 40))
  have HS := Lib.hid (show soundD k d = false by unfold soundD; rw [hk]; rfl)
  have h : k < 1 ∨ 65535 < k := by
    unfold kindB at hk
    simp only [decide_eq_false_iff_not] at hk
    omega
  clear hk
  by_cases h1 : k < 1
  · have d1 : decide (k < 1) = true := by simp; omega
    clear h h1
    go_enter Tryz.func41, Tryz.ntmps41
    go_wp2
    go_ret
    exact ⟨by rw [HS.out]; rfl, HB.out⟩
  · have d1 : decide (k < 1) = false := by simp; omega
    have d2 : decide (65535 < k) = true := by simp; omega
    clear h h1
    go_enter Tryz.func41, Tryz.ntmps41
    go_wp2
    go_ret
    exact ⟨by rw [HS.out]; rfl, HB.out⟩

set_option maxRecDepth 4000 in
set_option maxHeartbeats 1000000 in
theorem rdata_1 (x : DV) (d : Dt) (w : World) (hx : DataAt w w.heap.size x d) (hi : RefIn d) :
    Calls Tryz.prog 41 #[.int .i64 1, x.val d] w (Gave w (.bool (soundD 1 d))) := by
  have kn : d.nums.length ≤ maxLen := Nat.le_trans hx.ln hx.kn
  have kb : d.bytes.length ≤ maxLen := Nat.le_trans hx.lb hx.kb
  obtain ⟨W, hW⟩ : ∃ W, W = w.alloc (.cells #[.slice x.Ab d.bytes.length x.cb, .slice x.Ah d.host.length x.ch, .slice x.Am d.mail.length x.cm, .slice x.An d.nums.length x.cn, .slice x.At d.texts.length x.ct] 40) := ⟨_, rfl⟩
  have hD : DataAt W w.heap.size x d := by rw [hW]; exact hx.alloc (Nat.le_refl _) _
  have hB : Below w.heap.size w W := by rw [hW]; exact (Below.refl _ _).alloc (Nat.le_refl _) _
  have hsz : w.heap.size ≤ W.heap.size := by rw [hW]; simp
  have hwh : Whole W w.heap.size 40 [x.vb d, x.vh d, x.vm d, x.vn d, x.vt d] := by rw [hW]; exact Whole.made w [x.vb d, x.vh d, x.vm d, x.vn d, x.vt d] _
  have c0 : W.cell? ⟨w.heap.size, 0, none⟩ = some (.slice x.Ab d.bytes.length x.cb) := hwh.cell 0
  have c1 : W.cell? ⟨w.heap.size, 1, none⟩ = some (.slice x.Ah d.host.length x.ch) := hwh.cell 1
  have c2 : W.cell? ⟨w.heap.size, 2, none⟩ = some (.slice x.Am d.mail.length x.cm) := hwh.cell 2
  have c3 : W.cell? ⟨w.heap.size, 3, none⟩ = some (.slice x.An d.nums.length x.cn) := hwh.cell 3
  have c4 : W.cell? ⟨w.heap.size, 4, none⟩ = some (.slice x.At d.texts.length x.ct) := hwh.cell 4
  have HB := Lib.hid hB
  have HW := Lib.hid hW
  have HH := Lib.hid (fun (_ : Unit) => ref_sound_wide x.Ah x.ch w.heap.size d.host W hD.h hi.h.1 hi.h.2)
  have HM := Lib.hid (fun (_ : Unit) => ref_sound_wide x.Am x.cm w.heap.size d.mail W hD.m hi.m.1 hi.m.2)
  have HF := Lib.hid (fun (_ : Unit) (a : Nat) (s : Int) => fit_any x.An d.nums.length x.cn w.heap.size d.nums a s W rfl hD.n kn hi.n)
  have HSZ := Lib.hid hsz
  unfold maxLen at kb kn
  have HS := Lib.hid (soundD_1 d)
  clear hD hB hwh hsz hx hi hW
  cases hv : decide (d.bytes.length = 4) with
  | false =>
    have t0 : ((d.bytes.length : Int) == 4) = false := by rw [beq_eq_false_iff_ne]; have := of_decide_eq_false hv; omega
    rw [hv] at HS
    clear hv
    go_enter Tryz.func41, Tryz.ntmps41
    rw [HW.out] at c0 c1 c2 c3 c4
    go_wp2
    go_ret
    exact ⟨by rw [HS.out]; rfl, by have h := HB.out; rw [HW.out] at h; exact h⟩
  | true =>
  have t0 : ((d.bytes.length : Int) == 4) = true := by rw [beq_iff_eq]; have := of_decide_eq_true hv; omega
  rw [hv] at HS
  clear hv
  go_enter Tryz.func41, Tryz.ntmps41
  rw [HW.out] at c0 c1 c2 c3 c4
  go_wp2_with fail
  rw [← HW.out]
  refine (empty_a x d W).mono ?_
  rintro e w' ⟨rfl, hb⟩
  have HE := Lib.hid (HB.out.trans (hb.mono HSZ.out))
  clear hb
  go_wp2
  go_ret
  refine ⟨?_, HE.out⟩
  rw [HS.out]
  simp

set_option maxRecDepth 4000 in
set_option maxHeartbeats 1000000 in
theorem rdata_28 (x : DV) (d : Dt) (w : World) (hx : DataAt w w.heap.size x d) (hi : RefIn d) :
    Calls Tryz.prog 41 #[.int .i64 28, x.val d] w (Gave w (.bool (soundD 28 d))) := by
  have kn : d.nums.length ≤ maxLen := Nat.le_trans hx.ln hx.kn
  have kb : d.bytes.length ≤ maxLen := Nat.le_trans hx.lb hx.kb
  obtain ⟨W, hW⟩ : ∃ W, W = w.alloc (.cells #[.slice x.Ab d.bytes.length x.cb, .slice x.Ah d.host.length x.ch, .slice x.Am d.mail.length x.cm, .slice x.An d.nums.length x.cn, .slice x.At d.texts.length x.ct] 40) := ⟨_, rfl⟩
  have hD : DataAt W w.heap.size x d := by rw [hW]; exact hx.alloc (Nat.le_refl _) _
  have hB : Below w.heap.size w W := by rw [hW]; exact (Below.refl _ _).alloc (Nat.le_refl _) _
  have hsz : w.heap.size ≤ W.heap.size := by rw [hW]; simp
  have hwh : Whole W w.heap.size 40 [x.vb d, x.vh d, x.vm d, x.vn d, x.vt d] := by rw [hW]; exact Whole.made w [x.vb d, x.vh d, x.vm d, x.vn d, x.vt d] _
  have c0 : W.cell? ⟨w.heap.size, 0, none⟩ = some (.slice x.Ab d.bytes.length x.cb) := hwh.cell 0
  have c1 : W.cell? ⟨w.heap.size, 1, none⟩ = some (.slice x.Ah d.host.length x.ch) := hwh.cell 1
  have c2 : W.cell? ⟨w.heap.size, 2, none⟩ = some (.slice x.Am d.mail.length x.cm) := hwh.cell 2
  have c3 : W.cell? ⟨w.heap.size, 3, none⟩ = some (.slice x.An d.nums.length x.cn) := hwh.cell 3
  have c4 : W.cell? ⟨w.heap.size, 4, none⟩ = some (.slice x.At d.texts.length x.ct) := hwh.cell 4
  have HB := Lib.hid hB
  have HW := Lib.hid hW
  have HH := Lib.hid (fun (_ : Unit) => ref_sound_wide x.Ah x.ch w.heap.size d.host W hD.h hi.h.1 hi.h.2)
  have HM := Lib.hid (fun (_ : Unit) => ref_sound_wide x.Am x.cm w.heap.size d.mail W hD.m hi.m.1 hi.m.2)
  have HF := Lib.hid (fun (_ : Unit) (a : Nat) (s : Int) => fit_any x.An d.nums.length x.cn w.heap.size d.nums a s W rfl hD.n kn hi.n)
  have HSZ := Lib.hid hsz
  unfold maxLen at kb kn
  have HS := Lib.hid (soundD_28 d)
  clear hD hB hwh hsz hx hi hW
  cases hv : decide (d.bytes.length = 16) with
  | false =>
    have t0 : ((d.bytes.length : Int) == 16) = false := by rw [beq_eq_false_iff_ne]; have := of_decide_eq_false hv; omega
    rw [hv] at HS
    clear hv
    go_enter Tryz.func41, Tryz.ntmps41
    rw [HW.out] at c0 c1 c2 c3 c4
    go_wp2
    go_ret
    exact ⟨by rw [HS.out]; rfl, by have h := HB.out; rw [HW.out] at h; exact h⟩
  | true =>
  have t0 : ((d.bytes.length : Int) == 16) = true := by rw [beq_iff_eq]; have := of_decide_eq_true hv; omega
  rw [hv] at HS
  clear hv
  go_enter Tryz.func41, Tryz.ntmps41
  rw [HW.out] at c0 c1 c2 c3 c4
  go_wp2_with fail
  rw [← HW.out]
  refine (empty_a x d W).mono ?_
  rintro e w' ⟨rfl, hb⟩
  have HE := Lib.hid (HB.out.trans (hb.mono HSZ.out))
  clear hb
  go_wp2
  go_ret
  refine ⟨?_, HE.out⟩
  rw [HS.out]
  simp

set_option maxRecDepth 4000 in
set_option maxHeartbeats 1000000 in
theorem rdata_2 (x : DV) (d : Dt) (w : World) (hx : DataAt w w.heap.size x d) (hi : RefIn d) :
    Calls Tryz.prog 41 #[.int .i64 2, x.val d] w (Gave w (.bool (soundD 2 d))) := by
  have kn : d.nums.length ≤ maxLen := Nat.le_trans hx.ln hx.kn
  have kb : d.bytes.length ≤ maxLen := Nat.le_trans hx.lb hx.kb
  obtain ⟨W, hW⟩ : ∃ W, W = w.alloc (.cells #[.slice x.Ab d.bytes.length x.cb, .slice x.Ah d.host.length x.ch, .slice x.Am d.mail.length x.cm, .slice x.An d.nums.length x.cn, .slice x.At d.texts.length x.ct] 40) := ⟨_, rfl⟩
  have hD : DataAt W w.heap.size x d := by rw [hW]; exact hx.alloc (Nat.le_refl _) _
  have hB : Below w.heap.size w W := by rw [hW]; exact (Below.refl _ _).alloc (Nat.le_refl _) _
  have hsz : w.heap.size ≤ W.heap.size := by rw [hW]; simp
  have hwh : Whole W w.heap.size 40 [x.vb d, x.vh d, x.vm d, x.vn d, x.vt d] := by rw [hW]; exact Whole.made w [x.vb d, x.vh d, x.vm d, x.vn d, x.vt d] _
  have c0 : W.cell? ⟨w.heap.size, 0, none⟩ = some (.slice x.Ab d.bytes.length x.cb) := hwh.cell 0
  have c1 : W.cell? ⟨w.heap.size, 1, none⟩ = some (.slice x.Ah d.host.length x.ch) := hwh.cell 1
  have c2 : W.cell? ⟨w.heap.size, 2, none⟩ = some (.slice x.Am d.mail.length x.cm) := hwh.cell 2
  have c3 : W.cell? ⟨w.heap.size, 3, none⟩ = some (.slice x.An d.nums.length x.cn) := hwh.cell 3
  have c4 : W.cell? ⟨w.heap.size, 4, none⟩ = some (.slice x.At d.texts.length x.ct) := hwh.cell 4
  have HB := Lib.hid hB
  have HW := Lib.hid hW
  have HH := Lib.hid (fun (_ : Unit) => ref_sound_wide x.Ah x.ch w.heap.size d.host W hD.h hi.h.1 hi.h.2)
  have HM := Lib.hid (fun (_ : Unit) => ref_sound_wide x.Am x.cm w.heap.size d.mail W hD.m hi.m.1 hi.m.2)
  have HF := Lib.hid (fun (_ : Unit) (a : Nat) (s : Int) => fit_any x.An d.nums.length x.cn w.heap.size d.nums a s W rfl hD.n kn hi.n)
  have HSZ := Lib.hid hsz
  unfold maxLen at kb kn
  have HS := Lib.hid (soundD_2 d)
  clear hD hB hwh hsz hx hi hW
  go_enter Tryz.func41, Tryz.ntmps41
  rw [HW.out] at c0 c1 c2 c3 c4
  go_wp2_with fail
  rw [← HW.out]
  rw [← HW.out] at c0 c1 c2 c3 c4
  refine (HH.out ()).mono ?_
  intro e w' hO
  obtain ⟨he, hw⟩ := hO
  subst hw
  cases hv : soundN d.host with
  | false =>
    rw [hv] at he HS
    subst he
    go_wp2
    go_ret
    exact ⟨by rw [HS.out]; rfl, HB.out⟩
  | true =>
  rw [hv] at he HS
  subst he
  go_wp2_with fail
  refine (empty_n x d W).mono ?_
  rintro e w' ⟨rfl, hb⟩
  have HE := Lib.hid (HB.out.trans (hb.mono HSZ.out))
  clear hb
  go_wp2
  go_ret
  refine ⟨?_, HE.out⟩
  rw [HS.out]
  simp

set_option maxRecDepth 4000 in
set_option maxHeartbeats 1000000 in
theorem rdata_5 (x : DV) (d : Dt) (w : World) (hx : DataAt w w.heap.size x d) (hi : RefIn d) :
    Calls Tryz.prog 41 #[.int .i64 5, x.val d] w (Gave w (.bool (soundD 5 d))) := by
  have kn : d.nums.length ≤ maxLen := Nat.le_trans hx.ln hx.kn
  have kb : d.bytes.length ≤ maxLen := Nat.le_trans hx.lb hx.kb
  obtain ⟨W, hW⟩ : ∃ W, W = w.alloc (.cells #[.slice x.Ab d.bytes.length x.cb, .slice x.Ah d.host.length x.ch, .slice x.Am d.mail.length x.cm, .slice x.An d.nums.length x.cn, .slice x.At d.texts.length x.ct] 40) := ⟨_, rfl⟩
  have hD : DataAt W w.heap.size x d := by rw [hW]; exact hx.alloc (Nat.le_refl _) _
  have hB : Below w.heap.size w W := by rw [hW]; exact (Below.refl _ _).alloc (Nat.le_refl _) _
  have hsz : w.heap.size ≤ W.heap.size := by rw [hW]; simp
  have hwh : Whole W w.heap.size 40 [x.vb d, x.vh d, x.vm d, x.vn d, x.vt d] := by rw [hW]; exact Whole.made w [x.vb d, x.vh d, x.vm d, x.vn d, x.vt d] _
  have c0 : W.cell? ⟨w.heap.size, 0, none⟩ = some (.slice x.Ab d.bytes.length x.cb) := hwh.cell 0
  have c1 : W.cell? ⟨w.heap.size, 1, none⟩ = some (.slice x.Ah d.host.length x.ch) := hwh.cell 1
  have c2 : W.cell? ⟨w.heap.size, 2, none⟩ = some (.slice x.Am d.mail.length x.cm) := hwh.cell 2
  have c3 : W.cell? ⟨w.heap.size, 3, none⟩ = some (.slice x.An d.nums.length x.cn) := hwh.cell 3
  have c4 : W.cell? ⟨w.heap.size, 4, none⟩ = some (.slice x.At d.texts.length x.ct) := hwh.cell 4
  have HB := Lib.hid hB
  have HW := Lib.hid hW
  have HH := Lib.hid (fun (_ : Unit) => ref_sound_wide x.Ah x.ch w.heap.size d.host W hD.h hi.h.1 hi.h.2)
  have HM := Lib.hid (fun (_ : Unit) => ref_sound_wide x.Am x.cm w.heap.size d.mail W hD.m hi.m.1 hi.m.2)
  have HF := Lib.hid (fun (_ : Unit) (a : Nat) (s : Int) => fit_any x.An d.nums.length x.cn w.heap.size d.nums a s W rfl hD.n kn hi.n)
  have HSZ := Lib.hid hsz
  unfold maxLen at kb kn
  have HS := Lib.hid (soundD_5 d)
  clear hD hB hwh hsz hx hi hW
  go_enter Tryz.func41, Tryz.ntmps41
  rw [HW.out] at c0 c1 c2 c3 c4
  go_wp2_with fail
  rw [← HW.out]
  rw [← HW.out] at c0 c1 c2 c3 c4
  refine (HH.out ()).mono ?_
  intro e w' hO
  obtain ⟨he, hw⟩ := hO
  subst hw
  cases hv : soundN d.host with
  | false =>
    rw [hv] at he HS
    subst he
    go_wp2
    go_ret
    exact ⟨by rw [HS.out]; rfl, HB.out⟩
  | true =>
  rw [hv] at he HS
  subst he
  go_wp2_with fail
  refine (empty_n x d W).mono ?_
  rintro e w' ⟨rfl, hb⟩
  have HE := Lib.hid (HB.out.trans (hb.mono HSZ.out))
  clear hb
  go_wp2
  go_ret
  refine ⟨?_, HE.out⟩
  rw [HS.out]
  simp

set_option maxRecDepth 4000 in
set_option maxHeartbeats 1000000 in
theorem rdata_12 (x : DV) (d : Dt) (w : World) (hx : DataAt w w.heap.size x d) (hi : RefIn d) :
    Calls Tryz.prog 41 #[.int .i64 12, x.val d] w (Gave w (.bool (soundD 12 d))) := by
  have kn : d.nums.length ≤ maxLen := Nat.le_trans hx.ln hx.kn
  have kb : d.bytes.length ≤ maxLen := Nat.le_trans hx.lb hx.kb
  obtain ⟨W, hW⟩ : ∃ W, W = w.alloc (.cells #[.slice x.Ab d.bytes.length x.cb, .slice x.Ah d.host.length x.ch, .slice x.Am d.mail.length x.cm, .slice x.An d.nums.length x.cn, .slice x.At d.texts.length x.ct] 40) := ⟨_, rfl⟩
  have hD : DataAt W w.heap.size x d := by rw [hW]; exact hx.alloc (Nat.le_refl _) _
  have hB : Below w.heap.size w W := by rw [hW]; exact (Below.refl _ _).alloc (Nat.le_refl _) _
  have hsz : w.heap.size ≤ W.heap.size := by rw [hW]; simp
  have hwh : Whole W w.heap.size 40 [x.vb d, x.vh d, x.vm d, x.vn d, x.vt d] := by rw [hW]; exact Whole.made w [x.vb d, x.vh d, x.vm d, x.vn d, x.vt d] _
  have c0 : W.cell? ⟨w.heap.size, 0, none⟩ = some (.slice x.Ab d.bytes.length x.cb) := hwh.cell 0
  have c1 : W.cell? ⟨w.heap.size, 1, none⟩ = some (.slice x.Ah d.host.length x.ch) := hwh.cell 1
  have c2 : W.cell? ⟨w.heap.size, 2, none⟩ = some (.slice x.Am d.mail.length x.cm) := hwh.cell 2
  have c3 : W.cell? ⟨w.heap.size, 3, none⟩ = some (.slice x.An d.nums.length x.cn) := hwh.cell 3
  have c4 : W.cell? ⟨w.heap.size, 4, none⟩ = some (.slice x.At d.texts.length x.ct) := hwh.cell 4
  have HB := Lib.hid hB
  have HW := Lib.hid hW
  have HH := Lib.hid (fun (_ : Unit) => ref_sound_wide x.Ah x.ch w.heap.size d.host W hD.h hi.h.1 hi.h.2)
  have HM := Lib.hid (fun (_ : Unit) => ref_sound_wide x.Am x.cm w.heap.size d.mail W hD.m hi.m.1 hi.m.2)
  have HF := Lib.hid (fun (_ : Unit) (a : Nat) (s : Int) => fit_any x.An d.nums.length x.cn w.heap.size d.nums a s W rfl hD.n kn hi.n)
  have HSZ := Lib.hid hsz
  unfold maxLen at kb kn
  have HS := Lib.hid (soundD_12 d)
  clear hD hB hwh hsz hx hi hW
  go_enter Tryz.func41, Tryz.ntmps41
  rw [HW.out] at c0 c1 c2 c3 c4
  go_wp2_with fail
  rw [← HW.out]
  rw [← HW.out] at c0 c1 c2 c3 c4
  refine (HH.out ()).mono ?_
  intro e w' hO
  obtain ⟨he, hw⟩ := hO
  subst hw
  cases hv : soundN d.host with
  | false =>
    rw [hv] at he HS
    subst he
    go_wp2
    go_ret
    exact ⟨by rw [HS.out]; rfl, HB.out⟩
  | true =>
  rw [hv] at he HS
  subst he
  go_wp2_with fail
  refine (empty_n x d W).mono ?_
  rintro e w' ⟨rfl, hb⟩
  have HE := Lib.hid (HB.out.trans (hb.mono HSZ.out))
  clear hb
  go_wp2
  go_ret
  refine ⟨?_, HE.out⟩
  rw [HS.out]
  simp

set_option maxRecDepth 4000 in
set_option maxHeartbeats 1000000 in
theorem rdata_15 (x : DV) (d : Dt) (w : World) (hx : DataAt w w.heap.size x d) (hi : RefIn d) :
    Calls Tryz.prog 41 #[.int .i64 15, x.val d] w (Gave w (.bool (soundD 15 d))) := by
  have kn : d.nums.length ≤ maxLen := Nat.le_trans hx.ln hx.kn
  have kb : d.bytes.length ≤ maxLen := Nat.le_trans hx.lb hx.kb
  obtain ⟨W, hW⟩ : ∃ W, W = w.alloc (.cells #[.slice x.Ab d.bytes.length x.cb, .slice x.Ah d.host.length x.ch, .slice x.Am d.mail.length x.cm, .slice x.An d.nums.length x.cn, .slice x.At d.texts.length x.ct] 40) := ⟨_, rfl⟩
  have hD : DataAt W w.heap.size x d := by rw [hW]; exact hx.alloc (Nat.le_refl _) _
  have hB : Below w.heap.size w W := by rw [hW]; exact (Below.refl _ _).alloc (Nat.le_refl _) _
  have hsz : w.heap.size ≤ W.heap.size := by rw [hW]; simp
  have hwh : Whole W w.heap.size 40 [x.vb d, x.vh d, x.vm d, x.vn d, x.vt d] := by rw [hW]; exact Whole.made w [x.vb d, x.vh d, x.vm d, x.vn d, x.vt d] _
  have c0 : W.cell? ⟨w.heap.size, 0, none⟩ = some (.slice x.Ab d.bytes.length x.cb) := hwh.cell 0
  have c1 : W.cell? ⟨w.heap.size, 1, none⟩ = some (.slice x.Ah d.host.length x.ch) := hwh.cell 1
  have c2 : W.cell? ⟨w.heap.size, 2, none⟩ = some (.slice x.Am d.mail.length x.cm) := hwh.cell 2
  have c3 : W.cell? ⟨w.heap.size, 3, none⟩ = some (.slice x.An d.nums.length x.cn) := hwh.cell 3
  have c4 : W.cell? ⟨w.heap.size, 4, none⟩ = some (.slice x.At d.texts.length x.ct) := hwh.cell 4
  have HB := Lib.hid hB
  have HW := Lib.hid hW
  have HH := Lib.hid (fun (_ : Unit) => ref_sound_wide x.Ah x.ch w.heap.size d.host W hD.h hi.h.1 hi.h.2)
  have HM := Lib.hid (fun (_ : Unit) => ref_sound_wide x.Am x.cm w.heap.size d.mail W hD.m hi.m.1 hi.m.2)
  have HF := Lib.hid (fun (_ : Unit) (a : Nat) (s : Int) => fit_any x.An d.nums.length x.cn w.heap.size d.nums a s W rfl hD.n kn hi.n)
  have HSZ := Lib.hid hsz
  unfold maxLen at kb kn
  have HS := Lib.hid (soundD_15 d)
  clear hD hB hwh hsz hx hi hW
  go_enter Tryz.func41, Tryz.ntmps41
  rw [HW.out] at c0 c1 c2 c3 c4
  go_wp2_with fail
  rw [← HW.out]
  rw [← HW.out] at c0 c1 c2 c3 c4
  refine (HH.out ()).mono ?_
  intro e w' hO
  obtain ⟨he, hw⟩ := hO
  subst hw
  cases hv : soundN d.host with
  | false =>
    rw [hv] at he HS
    subst he
    go_wp2
    go_ret
    exact ⟨by rw [HS.out]; rfl, HB.out⟩
  | true =>
  rw [hv] at he HS
  subst he
  go_wp2_with fail
  refine (HF.out () 1 2).mono ?_
  intro e w' hO
  obtain ⟨he, hw⟩ := hO
  subst hw
  cases hv : fitN 1 2 d.nums with
  | false =>
    rw [hv] at he HS
    subst he
    go_wp2
    go_ret
    exact ⟨by rw [HS.out]; rfl, HB.out⟩
  | true =>
  rw [hv] at he HS
  subst he
  go_wp2_with fail
  refine (empty_x x d W).mono ?_
  rintro e w' ⟨rfl, hb⟩
  have HE := Lib.hid (HB.out.trans (hb.mono HSZ.out))
  clear hb
  go_wp2
  go_ret
  refine ⟨?_, HE.out⟩
  rw [HS.out]
  simp

set_option maxRecDepth 4000 in
set_option maxHeartbeats 1000000 in
theorem rdata_33 (x : DV) (d : Dt) (w : World) (hx : DataAt w w.heap.size x d) (hi : RefIn d) :
    Calls Tryz.prog 41 #[.int .i64 33, x.val d] w (Gave w (.bool (soundD 33 d))) := by
  have kn : d.nums.length ≤ maxLen := Nat.le_trans hx.ln hx.kn
  have kb : d.bytes.length ≤ maxLen := Nat.le_trans hx.lb hx.kb
  obtain ⟨W, hW⟩ : ∃ W, W = w.alloc (.cells #[.slice x.Ab d.bytes.length x.cb, .slice x.Ah d.host.length x.ch, .slice x.Am d.mail.length x.cm, .slice x.An d.nums.length x.cn, .slice x.At d.texts.length x.ct] 40) := ⟨_, rfl⟩
  have hD : DataAt W w.heap.size x d := by rw [hW]; exact hx.alloc (Nat.le_refl _) _
  have hB : Below w.heap.size w W := by rw [hW]; exact (Below.refl _ _).alloc (Nat.le_refl _) _
  have hsz : w.heap.size ≤ W.heap.size := by rw [hW]; simp
  have hwh : Whole W w.heap.size 40 [x.vb d, x.vh d, x.vm d, x.vn d, x.vt d] := by rw [hW]; exact Whole.made w [x.vb d, x.vh d, x.vm d, x.vn d, x.vt d] _
  have c0 : W.cell? ⟨w.heap.size, 0, none⟩ = some (.slice x.Ab d.bytes.length x.cb) := hwh.cell 0
  have c1 : W.cell? ⟨w.heap.size, 1, none⟩ = some (.slice x.Ah d.host.length x.ch) := hwh.cell 1
  have c2 : W.cell? ⟨w.heap.size, 2, none⟩ = some (.slice x.Am d.mail.length x.cm) := hwh.cell 2
  have c3 : W.cell? ⟨w.heap.size, 3, none⟩ = some (.slice x.An d.nums.length x.cn) := hwh.cell 3
  have c4 : W.cell? ⟨w.heap.size, 4, none⟩ = some (.slice x.At d.texts.length x.ct) := hwh.cell 4
  have HB := Lib.hid hB
  have HW := Lib.hid hW
  have HH := Lib.hid (fun (_ : Unit) => ref_sound_wide x.Ah x.ch w.heap.size d.host W hD.h hi.h.1 hi.h.2)
  have HM := Lib.hid (fun (_ : Unit) => ref_sound_wide x.Am x.cm w.heap.size d.mail W hD.m hi.m.1 hi.m.2)
  have HF := Lib.hid (fun (_ : Unit) (a : Nat) (s : Int) => fit_any x.An d.nums.length x.cn w.heap.size d.nums a s W rfl hD.n kn hi.n)
  have HSZ := Lib.hid hsz
  unfold maxLen at kb kn
  have HS := Lib.hid (soundD_33 d)
  clear hD hB hwh hsz hx hi hW
  go_enter Tryz.func41, Tryz.ntmps41
  rw [HW.out] at c0 c1 c2 c3 c4
  go_wp2_with fail
  rw [← HW.out]
  rw [← HW.out] at c0 c1 c2 c3 c4
  refine (HH.out ()).mono ?_
  intro e w' hO
  obtain ⟨he, hw⟩ := hO
  subst hw
  cases hv : soundN d.host with
  | false =>
    rw [hv] at he HS
    subst he
    go_wp2
    go_ret
    exact ⟨by rw [HS.out]; rfl, HB.out⟩
  | true =>
  rw [hv] at he HS
  subst he
  go_wp2_with fail
  refine (HF.out () 3 2).mono ?_
  intro e w' hO
  obtain ⟨he, hw⟩ := hO
  subst hw
  cases hv : fitN 3 2 d.nums with
  | false =>
    rw [hv] at he HS
    subst he
    go_wp2
    go_ret
    exact ⟨by rw [HS.out]; rfl, HB.out⟩
  | true =>
  rw [hv] at he HS
  subst he
  go_wp2_with fail
  refine (empty_x x d W).mono ?_
  rintro e w' ⟨rfl, hb⟩
  have HE := Lib.hid (HB.out.trans (hb.mono HSZ.out))
  clear hb
  go_wp2
  go_ret
  refine ⟨?_, HE.out⟩
  rw [HS.out]
  simp

set_option maxRecDepth 4000 in
set_option maxHeartbeats 1000000 in
theorem rdata_6 (x : DV) (d : Dt) (w : World) (hx : DataAt w w.heap.size x d) (hi : RefIn d) :
    Calls Tryz.prog 41 #[.int .i64 6, x.val d] w (Gave w (.bool (soundD 6 d))) := by
  have kn : d.nums.length ≤ maxLen := Nat.le_trans hx.ln hx.kn
  have kb : d.bytes.length ≤ maxLen := Nat.le_trans hx.lb hx.kb
  obtain ⟨W, hW⟩ : ∃ W, W = w.alloc (.cells #[.slice x.Ab d.bytes.length x.cb, .slice x.Ah d.host.length x.ch, .slice x.Am d.mail.length x.cm, .slice x.An d.nums.length x.cn, .slice x.At d.texts.length x.ct] 40) := ⟨_, rfl⟩
  have hD : DataAt W w.heap.size x d := by rw [hW]; exact hx.alloc (Nat.le_refl _) _
  have hB : Below w.heap.size w W := by rw [hW]; exact (Below.refl _ _).alloc (Nat.le_refl _) _
  have hsz : w.heap.size ≤ W.heap.size := by rw [hW]; simp
  have hwh : Whole W w.heap.size 40 [x.vb d, x.vh d, x.vm d, x.vn d, x.vt d] := by rw [hW]; exact Whole.made w [x.vb d, x.vh d, x.vm d, x.vn d, x.vt d] _
  have c0 : W.cell? ⟨w.heap.size, 0, none⟩ = some (.slice x.Ab d.bytes.length x.cb) := hwh.cell 0
  have c1 : W.cell? ⟨w.heap.size, 1, none⟩ = some (.slice x.Ah d.host.length x.ch) := hwh.cell 1
  have c2 : W.cell? ⟨w.heap.size, 2, none⟩ = some (.slice x.Am d.mail.length x.cm) := hwh.cell 2
  have c3 : W.cell? ⟨w.heap.size, 3, none⟩ = some (.slice x.An d.nums.length x.cn) := hwh.cell 3
  have c4 : W.cell? ⟨w.heap.size, 4, none⟩ = some (.slice x.At d.texts.length x.ct) := hwh.cell 4
  have HB := Lib.hid hB
  have HW := Lib.hid hW
  have HH := Lib.hid (fun (_ : Unit) => ref_sound_wide x.Ah x.ch w.heap.size d.host W hD.h hi.h.1 hi.h.2)
  have HM := Lib.hid (fun (_ : Unit) => ref_sound_wide x.Am x.cm w.heap.size d.mail W hD.m hi.m.1 hi.m.2)
  have HF := Lib.hid (fun (_ : Unit) (a : Nat) (s : Int) => fit_any x.An d.nums.length x.cn w.heap.size d.nums a s W rfl hD.n kn hi.n)
  have HSZ := Lib.hid hsz
  unfold maxLen at kb kn
  have HS := Lib.hid (soundD_6 d)
  clear hD hB hwh hsz hx hi hW
  go_enter Tryz.func41, Tryz.ntmps41
  rw [HW.out] at c0 c1 c2 c3 c4
  go_wp2_with fail
  rw [← HW.out]
  rw [← HW.out] at c0 c1 c2 c3 c4
  refine (HH.out ()).mono ?_
  intro e w' hO
  obtain ⟨he, hw⟩ := hO
  subst hw
  cases hv : soundN d.host with
  | false =>
    rw [hv] at he HS
    subst he
    go_wp2
    go_ret
    exact ⟨by rw [HS.out]; rfl, HB.out⟩
  | true =>
  rw [hv] at he HS
  subst he
  go_wp2_with fail
  refine (HM.out ()).mono ?_
  intro e w' hO
  obtain ⟨he, hw⟩ := hO
  subst hw
  cases hv : soundN d.mail with
  | false =>
    rw [hv] at he HS
    subst he
    go_wp2
    go_ret
    exact ⟨by rw [HS.out]; rfl, HB.out⟩
  | true =>
  rw [hv] at he HS
  subst he
  go_wp2_with fail
  refine (HF.out () 5 4).mono ?_
  intro e w' hO
  obtain ⟨he, hw⟩ := hO
  subst hw
  cases hv : fitN 5 4 d.nums with
  | false =>
    rw [hv] at he HS
    subst he
    go_wp2
    go_ret
    exact ⟨by rw [HS.out]; rfl, HB.out⟩
  | true =>
  rw [hv] at he HS
  subst he
  go_wp2_with fail
  refine (empty_s x d W).mono ?_
  rintro e w' ⟨rfl, hb⟩
  have HE := Lib.hid (HB.out.trans (hb.mono HSZ.out))
  clear hb
  go_wp2
  go_ret
  refine ⟨?_, HE.out⟩
  rw [HS.out]
  simp

set_option maxRecDepth 4000 in
set_option maxHeartbeats 1000000 in
theorem rdata_other (k : Int) (x : DV) (d : Dt) (w : World) (hx : DataAt w w.heap.size x d) (hi : RefIn d) (hk : kindB k = true) (hoth : (k == 1) = false ∧ (k == 28) = false ∧ (k == 2) = false ∧ (k == 5) = false ∧ (k == 12) = false ∧ (k == 15) = false ∧ (k == 6) = false ∧ (k == 16) = false ∧ (k == 33) = false) :
    Calls Tryz.prog 41 #[.int .i64 k, x.val d] w (Gave w (.bool (soundD k d))) := by
  have kn : d.nums.length ≤ maxLen := Nat.le_trans hx.ln hx.kn
  have kb : d.bytes.length ≤ maxLen := Nat.le_trans hx.lb hx.kb
  obtain ⟨W, hW⟩ : ∃ W, W = w.alloc (.cells #[.slice x.Ab d.bytes.length x.cb, .slice x.Ah d.host.length x.ch, .slice x.Am d.mail.length x.cm, .slice x.An d.nums.length x.cn, .slice x.At d.texts.length x.ct] 40) := ⟨_, rfl⟩
  have hD : DataAt W w.heap.size x d := by rw [hW]; exact hx.alloc (Nat.le_refl _) _
  have hB : Below w.heap.size w W := by rw [hW]; exact (Below.refl _ _).alloc (Nat.le_refl _) _
  have hsz : w.heap.size ≤ W.heap.size := by rw [hW]; simp
  have hwh : Whole W w.heap.size 40 [x.vb d, x.vh d, x.vm d, x.vn d, x.vt d] := by rw [hW]; exact Whole.made w [x.vb d, x.vh d, x.vm d, x.vn d, x.vt d] _
  have c0 : W.cell? ⟨w.heap.size, 0, none⟩ = some (.slice x.Ab d.bytes.length x.cb) := hwh.cell 0
  have c1 : W.cell? ⟨w.heap.size, 1, none⟩ = some (.slice x.Ah d.host.length x.ch) := hwh.cell 1
  have c2 : W.cell? ⟨w.heap.size, 2, none⟩ = some (.slice x.Am d.mail.length x.cm) := hwh.cell 2
  have c3 : W.cell? ⟨w.heap.size, 3, none⟩ = some (.slice x.An d.nums.length x.cn) := hwh.cell 3
  have c4 : W.cell? ⟨w.heap.size, 4, none⟩ = some (.slice x.At d.texts.length x.ct) := hwh.cell 4
  have HB := Lib.hid hB
  have HW := Lib.hid hW
  have HH := Lib.hid (fun (_ : Unit) => ref_sound_wide x.Ah x.ch w.heap.size d.host W hD.h hi.h.1 hi.h.2)
  have HM := Lib.hid (fun (_ : Unit) => ref_sound_wide x.Am x.cm w.heap.size d.mail W hD.m hi.m.1 hi.m.2)
  have HF := Lib.hid (fun (_ : Unit) (a : Nat) (s : Int) => fit_any x.An d.nums.length x.cn w.heap.size d.nums a s W rfl hD.n kn hi.n)
  have HSZ := Lib.hid hsz
  unfold maxLen at kb kn
  have HS := Lib.hid (soundD_other d hk hoth)
  obtain ⟨o1, o2, o3, o4, o5, o6, o7, o8, o9⟩ := hoth
  have hkk : 1 ≤ k ∧ k ≤ 65535 := by simpa [kindB] using hk
  have d1 : decide (k < 1) = false := by simp; omega
  have d2 : decide (65535 < k) = false := by simp; omega
  clear hk hkk
  clear hD hB hwh hsz hx hi hW
  cases hv : decide (d.bytes.length ≤ 65535) with
  | false =>
    have t0 : decide ((d.bytes.length : Int) ≤ 65535) = false := by have := of_decide_eq_false hv; simp; omega
    rw [hv] at HS
    clear hv
    go_enter Tryz.func41, Tryz.ntmps41
    rw [HW.out] at c0 c1 c2 c3 c4
    go_wp2
    go_ret
    exact ⟨by rw [HS.out]; rfl, by have h := HB.out; rw [HW.out] at h; exact h⟩
  | true =>
  have t0 : decide ((d.bytes.length : Int) ≤ 65535) = true := by have := of_decide_eq_true hv; simp; omega
  rw [hv] at HS
  clear hv
  go_enter Tryz.func41, Tryz.ntmps41
  rw [HW.out] at c0 c1 c2 c3 c4
  go_wp2_with fail
  rw [← HW.out]
  refine (empty_a x d W).mono ?_
  rintro e w' ⟨rfl, hb⟩
  have HE := Lib.hid (HB.out.trans (hb.mono HSZ.out))
  clear hb
  go_wp2
  go_ret
  refine ⟨?_, HE.out⟩
  rw [HS.out]
  simp

end Go.Proofs.YtjkjhpaeckkpjaaGreat

namespace Go.Proofs.YtjkjhpaeckkpjaaGreat
open Go.RowKit

/-- The place behind the name: the first one that was met. -/
def nextR (x p : Nat) : Nat := if x = 0 then p else x
/-- The place to which the pointer leads whose two bytes are c and d. -/
def toR (c d : UInt8) : Nat := (c.toNat - 192) * 256 + d.toNat

/-- What is read at the place p, where what is read now began at q, the name's end was met at x (0: it was not), and n is read so far: the name, the place behind it, the error. -/
def getR (b : List UInt8) (p q x : Nat) (n : List (List UInt8)) : List (List UInt8) × Nat × Nat :=
  if h0 : p < b.length then
    if b[p].toNat = 0 then (n, nextR x (p + 1), 0)
    else if 192 ≤ b[p].toNat then
      if h1 : p + 1 < b.length then
        if toR b[p] b[p + 1] < q then getR b (toR b[p] b[p + 1]) (toR b[p] b[p + 1]) (nextR x (p + 2)) n
        else ([], 0, 6)
      else ([], 0, 3)
    else if 64 ≤ b[p].toNat then ([], 0, 5)
    else if p + 1 + b[p].toNat ≤ b.length then
      if szN (n ++ [cutL b (p + 1) b[p].toNat]) ≤ 255 then getR b (p + 1 + b[p].toNat) q x (n ++ [cutL b (p + 1) b[p].toNat])
      else ([], 0, 5)
    else ([], 0, 3)
  else ([], 0, 3)
termination_by (q, 256 - szN n)
decreasing_by
  · exact Prod.Lex.left _ _ (by assumption)
  · refine Prod.Lex.right _ ?_
    rename_i h
    rw [szN_snoc] at h ⊢
    omega

section
variable {b : List UInt8} {p q x : Nat} {n : List (List UInt8)}

set_option maxRecDepth 10000
theorem getR_end (h : b.length ≤ p) : getR b p q x n = ([], 0, 3) := by
  rw [getR, dif_neg (by omega)]
theorem getR_zero (h : p < b.length) (h0 : b[p].toNat = 0) : getR b p q x n = (n, nextR x (p + 1), 0) := by
  rw [getR, dif_pos h, if_pos h0]
theorem getR_half (h : p < b.length) (h0 : 192 ≤ b[p].toNat) (h1 : b.length ≤ p + 1) : getR b p q x n = ([], 0, 3) := by
  rw [getR, dif_pos h, if_neg (by omega), if_pos h0, dif_neg (by omega)]
theorem getR_ptr (h : p < b.length) (h1 : p + 1 < b.length) (h0 : 192 ≤ b[p].toNat) (h2 : toR b[p] b[p + 1] < q) :
    getR b p q x n = getR b (toR b[p] b[p + 1]) (toR b[p] b[p + 1]) (nextR x (p + 2)) n := by
  rw [getR, dif_pos h, if_neg (by omega), if_pos h0, dif_pos h1, if_pos h2]
theorem getR_loop (h : p < b.length) (h1 : p + 1 < b.length) (h0 : 192 ≤ b[p].toNat) (h2 : q ≤ toR b[p] b[p + 1]) : getR b p q x n = ([], 0, 6) := by
  rw [getR, dif_pos h, if_neg (by omega), if_pos h0, dif_pos h1, if_neg (by omega)]
theorem getR_bad (h : p < b.length) (h0 : 64 ≤ b[p].toNat) (h1 : b[p].toNat < 192) : getR b p q x n = ([], 0, 5) := by
  rw [getR, dif_pos h, if_neg (by omega), if_neg (by omega), if_pos h0]
theorem getR_short (h : p < b.length) (h0 : b[p].toNat ≠ 0) (h1 : b[p].toNat < 64) (h2 : b.length < p + 1 + b[p].toNat) : getR b p q x n = ([], 0, 3) := by
  rw [getR, dif_pos h, if_neg h0, if_neg (by omega), if_neg (by omega), if_neg (by omega)]
theorem getR_long (h : p < b.length) (h0 : b[p].toNat ≠ 0) (h1 : b[p].toNat < 64) (h2 : p + 1 + b[p].toNat ≤ b.length) (h3 : 255 < szN n + 1 + b[p].toNat) : getR b p q x n = ([], 0, 5) := by
  rw [getR, dif_pos h, if_neg h0, if_neg (by omega), if_neg (by omega), if_pos h2, if_neg]
  rw [szN_snoc, length_cutL (by omega)]
  omega
theorem getR_label (h : p < b.length) (h0 : b[p].toNat ≠ 0) (h1 : b[p].toNat < 64) (h2 : p + 1 + b[p].toNat ≤ b.length) (h3 : szN n + 1 + b[p].toNat ≤ 255) :
    getR b p q x n = getR b (p + 1 + b[p].toNat) q x (n ++ [cutL b (p + 1) b[p].toNat]) := by
  rw [getR, dif_pos h, if_neg h0, if_neg (by omega), if_neg (by omega), if_pos h2, if_pos]
  rw [szN_snoc, length_cutL (by omega)]
  omega
end

/-- What the call answers at any place. -/
def getW (b : List UInt8) (a : Int) : List (List UInt8) × Nat × Nat := if a < 0 then ([], 0, 1) else getR b a.toNat a.toNat 0 []
theorem getW_neg {b : List UInt8} {a : Int} (h : a < 0) : getW b a = ([], 0, 1) := by rw [getW, if_pos h]
theorem getW_at (b : List UInt8) (a : Nat) : getW b a = getR b a a 0 [] := by rw [getW, if_neg (by omega), Int.toNat_natCast]

end Go.Proofs.YtjkjhpaeckkpjaaGreat

namespace Go.Proofs.YtjkjhpaeckkpjaaGreat
open Go.RowKit

/-- The labels of a name as they are written without a pointer. -/
def encN : List (List UInt8) → List UInt8
  | [] => []
  | l :: n => UInt8.ofNat l.length :: (l ++ encN n)
theorem length_encN (n : List (List UInt8)) : (encN n).length + 1 = szN n := by
  induction n with
  | nil => rfl
  | cons l n ih => simp only [encN, szN, List.length_cons, List.length_append]; omega
theorem encN_snoc (n : List (List UInt8)) (l : List UInt8) : encN (n ++ [l]) = encN n ++ (UInt8.ofNat l.length :: l) := by
  induction n with
  | nil => simp [encN]
  | cons x n ih => simp [encN, ih]
theorem fitL_iff {l : List UInt8} : fitL l = true ↔ 1 ≤ l.length ∧ l.length ≤ 63 := by simp [fitL]
theorem encN_inj : ∀ {n m : List (List UInt8)}, n.all fitL = true → m.all fitL = true → encN n = encN m → n = m
  | [], [], _, _, _ => rfl
  | [], _ :: _, _, _, h => by simp [encN] at h
  | _ :: _, [], _, _, h => by simp [encN] at h
  | l :: n, k :: m, hn, hm, h => by
    simp only [List.all_cons, Bool.and_eq_true, fitL_iff] at hn hm
    simp only [encN, List.cons.injEq] at h
    have hl : l.length = k.length := by
      have h1 := congrArg UInt8.toNat h.1
      rw [UInt8.toNat_ofNat', UInt8.toNat_ofNat'] at h1
      omega
    obtain ⟨h1, h2⟩ := List.append_inj h.2 hl
    rw [h1, encN_inj hn.2 hm.2 h2]

/-- Rests: each one's labels and its place. -/
abbrev Rs := List (List (List UInt8) × Nat)
def findR (R : Rs) (n : List (List UInt8)) : Option Nat := (R.find? fun r => decide (r.1 = n)).map (·.2)
theorem findR_nil (n : List (List UInt8)) : findR [] n = none := rfl
theorem findR_snoc (R : Rs) (m n : List (List UInt8)) (k : Nat) : findR (R ++ [(m, k)]) n = (findR R n).or (if m = n then some k else none) := by
  unfold findR
  rw [List.find?_append]
  cases h : R.find? fun r => decide (r.1 = n) with
  | some r => simp
  | none =>
    by_cases e : m = n
    · simp [e]
    · simp [e]
theorem findR_mem {R : Rs} {n : List (List UInt8)} {k : Nat} (h : findR R n = some k) : (n, k) ∈ R := by
  unfold findR at h
  rw [Option.map_eq_some_iff] at h
  obtain ⟨⟨m, k'⟩, h1, h2⟩ := h
  have h3 := List.mem_of_find?_eq_some h1
  have h4 := List.find?_some h1
  simp at h4 h2
  subst h4; subst h2
  exact h3

/-- What is written of a name, and which rests there are then. -/
def nameW (short : Bool) : List (List UInt8) → List UInt8 → Rs → List UInt8 × Rs
  | [], B, R => (B ++ [0], R)
  | l :: n, B, R =>
    match short, findR R (l :: n) with
    | true, some k => (B ++ digs (49152 + k) 2, R)
    | _, _ => nameW short n (B ++ UInt8.ofNat l.length :: l) (if B.length < 16384 then R ++ [(l :: n, B.length)] else R)
theorem nameW_nil (short : Bool) (B : List UInt8) (R : Rs) : nameW short [] B R = (B ++ [0], R) := rfl
theorem nameW_hit {l : List UInt8} {n : List (List UInt8)} {B : List UInt8} {R : Rs} {k : Nat} (h : findR R (l :: n) = some k) : nameW true (l :: n) B R = (B ++ digs (49152 + k) 2, R) := by
  rw [nameW.eq_def]
  simp only [h]
theorem nameW_long (l : List UInt8) (n : List (List UInt8)) (B : List UInt8) (R : Rs) :
    nameW false (l :: n) B R = nameW false n (B ++ UInt8.ofNat l.length :: l) (if B.length < 16384 then R ++ [(l :: n, B.length)] else R) := by
  rw [nameW.eq_def]
theorem nameW_miss {short : Bool} {l : List UInt8} {n : List (List UInt8)} {B : List UInt8} {R : Rs} (h : findR R (l :: n) = none) :
    nameW short (l :: n) B R = nameW short n (B ++ UInt8.ofNat l.length :: l) (if B.length < 16384 then R ++ [(l :: n, B.length)] else R) := by
  rw [nameW.eq_def]
  simp only [h]

/-- At p, where what is read now began at q, the name n is read; e is the place behind it. -/
inductive AtN (B : List UInt8) : Nat → Nat → List (List UInt8) → Nat → Prop
  | fin {p q : Nat} (h : B[p]? = some 0) : AtN B p q [] (p + 1)
  | ptr {p q e : Nat} {n : List (List UInt8)} {y z : UInt8} (h1 : B[p]? = some y) (h2 : B[p + 1]? = some z) (h3 : 192 ≤ y.toNat) (h4 : toR y z < q) (h : AtN B (toR y z) (toR y z) n e) : AtN B p q n (p + 2)
  | lab {p q e : Nat} {n : List (List UInt8)} {l : List UInt8} (h1 : 1 ≤ l.length) (h2 : l.length ≤ 63) (h3 : B[p]? = some (UInt8.ofNat l.length)) (h4 : p + 1 + l.length ≤ B.length) (h5 : cutL B (p + 1) l.length = l) (h : AtN B (p + 1 + l.length) q n e) : AtN B p q (l :: n) e

theorem AtN.mono {B : List UInt8} {p q e : Nat} {n : List (List UInt8)} (h : AtN B p q n e) : ∀ {q' : Nat}, q ≤ q' → AtN B p q' n e := by
  induction h with
  | fin h => intro q' _; exact .fin h
  | ptr h1 h2 h3 h4 h _ => intro q' hq; exact .ptr h1 h2 h3 (by omega) h
  | lab h1 h2 h3 h4 h5 _ ih => intro q' hq; exact .lab h1 h2 h3 h4 h5 (ih hq)
theorem getElem?_more {B C : List UInt8} {p : Nat} {y : UInt8} (h : B[p]? = some y) : (B ++ C)[p]? = some y := by
  have hl := (List.getElem?_eq_some_iff.1 h).1
  rw [List.getElem?_append_left hl, h]
theorem cutL_more {B C : List UInt8} {a k : Nat} (h : a + k ≤ B.length) : cutL (B ++ C) a k = cutL B a k := by
  unfold cutL
  rw [List.drop_append_of_le_length (by omega), List.take_append_of_le_length (by simp; omega)]
theorem AtN.more {B : List UInt8} {p q e : Nat} {n : List (List UInt8)} (C : List UInt8) (h : AtN B p q n e) : AtN (B ++ C) p q n e := by
  induction h with
  | fin h => exact .fin (getElem?_more h)
  | ptr h1 h2 h3 h4 _ ih => exact .ptr (getElem?_more h1) (getElem?_more h2) h3 h4 ih
  | lab h1 h2 h3 h4 h5 _ ih => exact .lab h1 h2 (getElem?_more h3) (by simp; omega) (by rw [cutL_more h4]; exact h5) ih

theorem nextR_nextR (x : Nat) {y e : Nat} (h : y ≠ 0) : nextR (nextR x y) e = nextR x y := by
  unfold nextR
  by_cases hx : x = 0
  · simp [hx, h]
  · simp [hx]
theorem szN_append (m n : List (List UInt8)) : szN (m ++ n) + 1 = szN m + szN n := by
  induction m with
  | nil => simp [szN]; omega
  | cons l m ih => simp only [List.cons_append, szN]; omega
theorem AtN.read {B : List UInt8} {p q e : Nat} {n : List (List UInt8)} (h : AtN B p q n e) : ∀ {x : Nat} {m : List (List UInt8)}, szN m + szN n ≤ 256 → getR B p q x m = (m ++ n, nextR x e, 0) := by
  induction h with
  | @fin p q h =>
    intro x m _
    obtain ⟨hl, hv⟩ := List.getElem?_eq_some_iff.1 h
    rw [getR_zero hl (by rw [hv]; rfl), List.append_nil]
  | @ptr p q e n y z h1 h2 h3 h4 _ ih =>
    intro x m hs
    obtain ⟨hl, hv⟩ := List.getElem?_eq_some_iff.1 h1
    obtain ⟨hl2, hv2⟩ := List.getElem?_eq_some_iff.1 h2
    rw [getR_ptr hl hl2 (by rw [hv]; exact h3) (by rw [hv, hv2]; exact h4), hv, hv2, ih hs, nextR_nextR x (by omega)]
  | @lab p q e n l h1 h2 h3 h4 h5 _ ih =>
    intro x m hs
    obtain ⟨hl, hv⟩ := List.getElem?_eq_some_iff.1 h3
    have hn : (B[p]).toNat = l.length := by rw [hv, UInt8.toNat_ofNat']; omega
    have hp := szN_pos n
    simp only [szN] at hs
    rw [getR_label hl (by omega) (by omega) (by omega) (by omega), hn, h5, ih (by rw [szN_snoc]; omega), List.append_assoc, List.singleton_append]

theorem toR_digs {k : Nat} (hk : k < 16384) : ∃ y z, digs (49152 + k) 2 = [y, z] ∧ 192 ≤ y.toNat ∧ toR y z = k := by
  refine ⟨UInt8.ofNat ((49152 + k) / 256), UInt8.ofNat (49152 + k), by simp [digs, List.range_succ], ?_, ?_⟩
  · rw [UInt8.toNat_ofNat']; omega
  · unfold toR; rw [UInt8.toNat_ofNat', UInt8.toNat_ofNat']; omega

theorem nameW_reads (short : Bool) : ∀ (n : List (List UInt8)) (B : List UInt8) (R : Rs) (p0 : Nat), n.all fitL = true → p0 ≤ B.length →
    (∀ r ∈ R, r.2 < 16384 ∧ (r.1.length ≤ n.length → r.2 < p0 ∧ ∃ e, AtN B r.2 r.2 r.1 e)) →
    (∃ S, (nameW short n B R).1 = B ++ S) ∧ AtN (nameW short n B R).1 B.length p0 n (nameW short n B R).1.length ∧
      ∀ r ∈ (nameW short n B R).2, r ∈ R ∨ (r.2 < 16384 ∧ r.2 < (nameW short n B R).1.length ∧ ∃ e, AtN (nameW short n B R).1 r.2 r.2 r.1 e)
  | [], B, R, p0, _, _, _ => by
    rw [nameW_nil]
    refine ⟨⟨[0], rfl⟩, ?_, fun r hr => .inl hr⟩
    have h := AtN.fin (B := B ++ [0]) (p := B.length) (q := p0) (by simp)
    simpa using h
  | l :: n, B, R, p0, hf, hp, hR => by
    simp only [List.all_cons, Bool.and_eq_true, fitL_iff] at hf
    have step : (∃ S, (nameW short n (B ++ UInt8.ofNat l.length :: l) (if B.length < 16384 then R ++ [(l :: n, B.length)] else R)).1 = B ++ S) ∧
        AtN (nameW short n (B ++ UInt8.ofNat l.length :: l) (if B.length < 16384 then R ++ [(l :: n, B.length)] else R)).1 B.length p0 (l :: n) (nameW short n (B ++ UInt8.ofNat l.length :: l) (if B.length < 16384 then R ++ [(l :: n, B.length)] else R)).1.length ∧
        ∀ r ∈ (nameW short n (B ++ UInt8.ofNat l.length :: l) (if B.length < 16384 then R ++ [(l :: n, B.length)] else R)).2, r ∈ R ∨ (r.2 < 16384 ∧ r.2 < (nameW short n (B ++ UInt8.ofNat l.length :: l) (if B.length < 16384 then R ++ [(l :: n, B.length)] else R)).1.length ∧
          ∃ e, AtN (nameW short n (B ++ UInt8.ofNat l.length :: l) (if B.length < 16384 then R ++ [(l :: n, B.length)] else R)).1 r.2 r.2 r.1 e) := by
      obtain ⟨R1, hR1⟩ : ∃ R1, R1 = if B.length < 16384 then R ++ [(l :: n, B.length)] else R := ⟨_, rfl⟩
      rw [← hR1]
      have hmem : ∀ r ∈ R1, r ∈ R ∨ (r = (l :: n, B.length) ∧ B.length < 16384) := by
        intro r hr
        rw [hR1] at hr
        split at hr
        · rename_i hb
          rcases List.mem_append.1 hr with h | h
          · exact .inl h
          · exact .inr ⟨List.mem_singleton.1 h, hb⟩
        · exact .inl hr
      obtain ⟨⟨S, hS⟩, hA, hM⟩ := nameW_reads short n (B ++ UInt8.ofNat l.length :: l) R1 p0 hf.2 (by simp; omega) (fun r hr => by
        rcases hmem r hr with h | ⟨h, hb⟩
        · refine ⟨(hR r h).1, fun hl => ?_⟩
          obtain ⟨h1, e, h2⟩ := (hR r h).2 (by simp; omega)
          exact ⟨h1, e, h2.more _⟩
        · refine ⟨by rw [h]; exact hb, fun hl => ?_⟩
          rw [h] at hl
          simp at hl
          omega)
      have hlab : AtN (nameW short n (B ++ UInt8.ofNat l.length :: l) R1).1 B.length p0 (l :: n) (nameW short n (B ++ UInt8.ofNat l.length :: l) R1).1.length := by
        refine .lab hf.1.1 hf.1.2 ?_ ?_ ?_ ?_
        · rw [hS]; simp
        · rw [hS]; simp; omega
        · rw [hS]; simp [cutL]
        · have e1 : B.length + 1 + l.length = (B ++ UInt8.ofNat l.length :: l).length := by simp; omega
          rw [e1]
          exact hA
      refine ⟨⟨UInt8.ofNat l.length :: l ++ S, by rw [hS]; simp⟩, hlab, fun r hr => ?_⟩
      rcases hM r hr with h | h
      · rcases hmem r h with h | ⟨h, hb⟩
        · exact .inl h
        · refine .inr ?_
          rw [h]
          exact ⟨hb, by rw [hS]; simp, _, hlab.mono hp⟩
      · exact .inr h
    cases hfi : findR R (l :: n) with
    | none => rw [nameW_miss hfi]; exact step
    | some k =>
      cases short with
      | false => rw [nameW_long]; exact step
      | true =>
        rw [nameW_hit hfi]
        obtain ⟨h16, h2⟩ := hR _ (findR_mem hfi)
        obtain ⟨hk, e, hA⟩ := h2 (Nat.le_refl _)
        obtain ⟨y, z, hd, hy, ht⟩ := toR_digs h16
        simp only at hd ht hk hA
        refine ⟨⟨_, rfl⟩, ?_, fun r hr => .inl hr⟩
        rw [hd]
        have h := AtN.ptr (B := B ++ [y, z]) (p := B.length) (q := p0) (n := l :: n) (e := e) (y := y) (z := z) (by simp) (by simp) hy (by rw [ht]; exact hk) (by rw [ht]; exact hA.more _)
        simpa using h

/-- What is kept of rests: each is read where it stands. -/
def GoodR (B : List UInt8) (R : Rs) : Prop := ∀ r ∈ R, r.2 < 16384 ∧ r.2 < B.length ∧ ∃ e, AtN B r.2 r.2 r.1 e
theorem GoodR.nil (B : List UInt8) : GoodR B [] := fun _ hr => absurd hr (List.not_mem_nil)
theorem GoodR.more {B : List UInt8} {R : Rs} (h : GoodR B R) (C : List UInt8) : GoodR (B ++ C) R := fun r hr => by
  obtain ⟨h1, h2, e, h3⟩ := h r hr
  exact ⟨h1, by simp; omega, e, h3.more C⟩
theorem nameW_good {short : Bool} {n : List (List UInt8)} {B : List UInt8} {R : Rs} (hf : n.all fitL = true) (h : GoodR B R) :
    (∃ S, (nameW short n B R).1 = B ++ S) ∧ AtN (nameW short n B R).1 B.length B.length n (nameW short n B R).1.length ∧ GoodR (nameW short n B R).1 (nameW short n B R).2 := by
  obtain ⟨⟨S, hS⟩, h2, h3⟩ := nameW_reads short n B R B.length hf (Nat.le_refl _) fun r hr => by
    obtain ⟨a, b, e, c⟩ := h r hr
    exact ⟨a, fun _ => ⟨b, e, c⟩⟩
  refine ⟨⟨S, hS⟩, h2, fun r hr => ?_⟩
  rcases h3 r hr with h4 | h4
  · have h5 := h.more S
    rw [← hS] at h5
    exact h5 r h4
  · exact h4

theorem length_nameW_long : ∀ (n : List (List UInt8)) (B : List UInt8) (R : Rs), (nameW false n B R).1.length = B.length + szN n
  | [], B, R => by simp [nameW_nil, szN]
  | l :: n, B, R => by
    rw [nameW_long, length_nameW_long n]
    simp [szN]
    omega
theorem length_nameW_le (short : Bool) : ∀ (n : List (List UInt8)) (B : List UInt8) (R : Rs), n.all fitL = true → (nameW short n B R).1.length ≤ B.length + szN n
  | [], B, R, _ => by simp [nameW_nil, szN]
  | l :: n, B, R, hf => by
    simp only [List.all_cons, Bool.and_eq_true, fitL_iff] at hf
    have ih := length_nameW_le short n (B ++ UInt8.ofNat l.length :: l) (if B.length < 16384 then R ++ [(l :: n, B.length)] else R) hf.2
    simp only [List.length_append, List.length_cons] at ih
    have hp := szN_pos n
    cases hfi : findR R (l :: n) with
    | none => rw [nameW_miss hfi]; simp only [szN]; omega
    | some k =>
      cases short with
      | false => rw [nameW_long]; simp only [szN]; omega
      | true => rw [nameW_hit hfi]; simp only [szN, List.length_append, length_digs]; omega

theorem length_nameW_rests (short : Bool) : ∀ (n : List (List UInt8)) (B : List UInt8) (R : Rs), (nameW short n B R).2.length ≤ R.length + n.length
  | [], B, R => by simp [nameW_nil]
  | l :: n, B, R => by
    have ih := length_nameW_rests short n (B ++ UInt8.ofNat l.length :: l) (if B.length < 16384 then R ++ [(l :: n, B.length)] else R)
    have hi : (if B.length < 16384 then R ++ [(l :: n, B.length)] else R).length ≤ R.length + 1 := by split <;> simp
    cases hfi : findR R (l :: n) with
    | none => rw [nameW_miss hfi]; simp only [List.length_cons]; omega
    | some k =>
      cases short with
      | false => rw [nameW_long]; simp only [List.length_cons]; omega
      | true => rw [nameW_hit hfi]; simp only [List.length_cons]; omega

end Go.Proofs.YtjkjhpaeckkpjaaGreat

namespace Go.Proofs.YtjkjhpaeckkpjaaGreat
open Go.RowKit

set_option maxHeartbeats 400000 in
theorem put_no (A : Option Addr) (k c H : Nat) (l : List UInt8) (n s : Int) (w : World) (hl : l.length = k) (hA : Row w H A (l.map bc)) (hb : k ≤ 140737488355328) (hf : fitB n s = false) :
    Calls Tryz.prog 85 #[.slice A k c, .int .i64 n, .int .i64 s] w (Owned w l) := by
  have hf2 := fun W => fits_any n s W
  rw [hf] at hf2
  obtain ⟨i0, hi0, hz0, hz1, hz2⟩ := info_parts u8_info
  have HF := Lib.hid hf2
  have HL := Lib.hid hl
  have HA := Lib.hid hA
  clear hf hf2 hl hA
  go_enter Tryz.func85, Tryz.ntmps85
  go_wp2_with (first
    | (go_at_call 42; refine (HF.out _).mono ?_; rintro e w' ⟨rfl, rfl⟩)
    | (at_builtin
       refine wpList_append_row rfl (.const (.slice none 0 0)) (.tmp 13) _ rfl w.heap.size 5 i0 _ 1 1 Tryz.underlying29 hi0 hz0 hz1 hz2 rfl (by omega) (.slice none 0 0) 0 [] rfl
         (World.ownsRow_nil _ _ _ _) A k c H (l.map bc) rfl (by rw [List.length_map, HL.out]; omega) HA.out (bc_one l) (by unfold maxLen; omega) (by omega) (Nat.le_refl _) ?_
       intro v1 w1 hown1 hg1))
  go_ret
  obtain ⟨A', c', rfl, _, _⟩ := own_form hown1
  have hL := HL.out
  subst hL
  rw [Nat.zero_add] at *
  exact ⟨A', c', rfl, by simpa using hown1, own_below (Below.refl _ _) (Nat.le_refl _) (Nat.le_refl _) (World.ownsRow_nil _ w.heap.size 5 1) hg1⟩

def PutRel (B : Nat) (w : World) (l : List UInt8) (n s : Nat) (v i : Value) (wr : World) : Prop :=
  ∃ k : Nat, k ≤ s ∧ i = .int .i64 ((s : Int) - 1 - k) ∧ wr.ownsRow B 5 1 v (l.length + k) ((l ++ (digs n s).take k).map bc) ∧ Below B w wr ∧ B ≤ wr.heap.size

set_option maxRecDepth 4000 in
set_option maxHeartbeats 400000 in
theorem put_yes (A : Option Addr) (m c H : Nat) (l : List UInt8) (n s : Nat) (w : World) (hl : l.length = m) (hA : Row w H A (l.map bc)) (hH : H ≤ w.heap.size) (hb : m ≤ 140737488355000) (hf : fitB n s = true) :
    Calls Tryz.prog 85 #[.slice A m c, .int .i64 n, .int .i64 s] w (Owned w (l ++ digs n s)) := by
  obtain ⟨h1, h2, h3, h4⟩ : (1 : Int) ≤ s ∧ (s : Int) ≤ 7 ∧ (0 : Int) ≤ n ∧ (n : Int) < 2 ^ (8 * (s : Int).toNat) := by simpa [fitB] using hf
  have hf2 := fun W => fits_any n s W
  rw [hf] at hf2
  obtain ⟨i0, hi0, hz0, hz1, hz2⟩ := info_parts u8_info
  have HF := Lib.hid hf2
  have HL := Lib.hid hl
  have HA := Lib.hid hA
  have H4 := Lib.hid h4
  have HH := Lib.hid hH
  clear hf hf2 hl hA h4 hH
  go_enter Tryz.func85, Tryz.ntmps85
  go_wp2_with (first
    | (go_at_call 42; refine (HF.out _).mono ?_; rintro e w' ⟨rfl, rfl⟩)
    | (refine wpList_make_zeros rfl (.tmp 16) (.tmp 20) _ rfl 5 i0 _ 1 Tryz.underlying29 hi0 hz0 hz1 hz2 rfl .i64 .i64 _ _ m (m + s) rfl rfl rfl (by omega) (by omega) (by omega) (by unfold maxLen; omega) ?_)
    | (with_reducible refine wpList_copy_splice rfl _ _ _ _ rfl 5 Tryz.underlying29 u8_size _ _ _ _ _ _ rfl rfl w.heap.size 0 (zerosL (.int .u8 0) (m + s)) 5 (heap_alloc_new w _) (l.map bc) ?c3 ?c4 ?c5 (bc_one l) w.heap.size w ?c7 (Nat.le_refl _) ?_
       case c3 => rw [List.length_map, HL.out]; exact (Nat.min_self m).symm
       case c4 => exact fun h0 => ⟨rfl, (HA.out.alloc HH.out _).pos h0⟩
       case c5 => rw [List.length_map, HL.out, length_zerosL]; omega
       case c7 => exact (Below.refl _ _).alloc (Nat.le_refl _) _
       intro w2 HG2 hB2))
  have hown : w2.ownsRow w.heap.size 5 1 (.slice (some ⟨w.heap.size, 0, none⟩) m (m + s)) (l.length + 0) ((l ++ (digs n s).take 0).map bc) := by
    rw [Nat.add_zero, HL.out]
    refine own_of_block HG2.out (Nat.le_refl _) ?_ (by omega) (by unfold maxLen; omega) ?_
    · rw [length_splice _ _ _ (by rw [List.length_map, HL.out, length_zerosL]; omega), length_zerosL]
    · simp [splice, HL.out]
  have HO := Lib.hid hown
  have hz := hB2.size
  clear hown HG2
  go_loopw [7, 8] (PutRel w.heap.size w l n s) (fun _ i _ => (intOf i + 1).toNat)
  case atStart => exact ⟨0, by omega, by simp, HO.out, hB2, hz⟩
  case round =>
    obtain ⟨k, hk, rfl, hown, hbw, hbz⟩ := hrel
    obtain ⟨A1, c1, rfl, hc1, hc2⟩ := own_form hown
    have HO1 := Lib.hid hown
    have HB1 := Lib.hid hbw
    clear hown hbw
    by_cases hlt : k < s
    · have hd : decide ((k : Int) ≤ (s : Int) - 1) = true := by simp; omega
      have hr := Row.made wr #[.int .u8 ((n : Int) / 2 ^ (8 * (s - 1 - k)) % 256)] 5
      have HR := Lib.hid hr
      clear hr
      go_wp2_with (
        at_builtin
        refine wpList_append_row rfl (.tmp 31) (.tmp 37) _ rfl w.heap.size 5 i0 _ 1 1 Tryz.underlying29 hi0 hz0 hz1 hz2 rfl (by omega) (.slice A1 (l.length + k) c1) (l.length + k) _ rfl (HO1.out.alloc _)
          (some ⟨wr.heap.size, 0, none⟩) 1 1 (wr.heap.size + 1) [.int .u8 ((n : Int) / 2 ^ (8 * (s - 1 - k)) % 256)] rfl rfl HR.out (by simp [Value.oneCell']) (by unfold maxLen; have := HL.out; omega) (by have := HL.out; omega) (by simp; omega) ?_
        intro v1 w1 hown1 hg1)
      refine ⟨⟨k + 1, by omega, by go_num, ?_, ?_, ?_⟩, ?_⟩
      · rw [← digs_cells l n s k hlt]; exact hown1
      · exact own_below (HB1.out.alloc hbz _) (Nat.le_refl _) (by simp; omega) (HO1.out.alloc _) hg1
      · have := hg1.size; simp at this; omega
      · simp [intOf]; omega
    · obtain rfl : k = s := by omega
      have hd : decide ((0 : Int) ≤ (k : Int) - 1 - k) = false := by simp; omega
      go_wp2
      go_ret
      have hL : l.length + k = (l ++ digs n k).length := by simp [length_digs]
      have hT : (digs n k).take k = digs n k := List.take_of_length_le (by rw [length_digs]; omega)
      have ho := HO1.out
      rw [hT, hL] at ho
      exact ⟨A1, c1, by rw [← hL]; rfl, ho, HB1.out⟩

theorem put_any (A : Option Addr) (m c H : Nat) (l : List UInt8) (n s : Int) (w : World) (hl : l.length = m) (hA : Row w H A (l.map bc)) (hH : H ≤ w.heap.size) (hb : m ≤ 140737488355000) :
    Calls Tryz.prog 85 #[.slice A m c, .int .i64 n, .int .i64 s] w (Owned w (putL l n s)) := by
  cases hf : fitB n s with
  | false => rw [putL_no hf]; exact put_no A m c H l n s w hl hA (by omega) hf
  | true =>
    have h := hf
    simp only [fitB, decide_eq_true_eq] at h
    obtain ⟨n', rfl⟩ : ∃ k : Nat, n = k := ⟨n.toNat, by omega⟩
    obtain ⟨s', rfl⟩ : ∃ k : Nat, s = k := ⟨s.toNat, by omega⟩
    rw [putL_yes hf]
    exact put_yes A m c H l n' s' w hl hA hH hb hf

end Go.Proofs.YtjkjhpaeckkpjaaGreat

namespace Go.Proofs.YtjkjhpaeckkpjaaGreat
open Go.RowKit

/-- The key under which a rest is kept. -/
def keyR (n : List (List UInt8)) : Lit := .string (encN n)
/-- A map's entries say what the rests R are. -/
def SaysR (D : DataW Unit) (R : Rs) : Prop :=
  Maps.IsMap D ∧ ∀ n, n.all fitL = true → Maps.has D (keyR n) = (findR R n).isSome ∧ D.atKey (keyR n) (.lit (.int .i64 0)) = .lit (.int .i64 ((findR R n).getD 0 : Nat))
def MapOf (w : World) (base : Nat) (v : Value) (R : Rs) : Prop :=
  (v = .map none ∧ R = []) ∨ ∃ b D, v = .map (some b) ∧ base ≤ b ∧ w.ownsMap (H := Unit) Tryz.prog 9 (plainElem Tryz.prog 3) b R.length D ∧ SaysR D R

/-- A Writer: its block is g; vB reads as B, and vM says the rests R. -/
structure Wr (w : World) (base g : Nat) (vB vM : Value) (B : List UInt8) (R : Rs) : Prop where
  blk : Whole w g 107 [vB, vM]
  low : base ≤ g
  row : w.ownsRow base 5 1 vB B.length (B.map bc)
  map : MapOf w base vM R
/-- Which blocks are a Writer's own. -/
def ownF (g : Nat) (vB vM : Value) (j : Nat) : Prop := j = g ∨ vB.ownBlock = some j ∨ vM = .map (some j)

section
variable {w w' : World} {base g : Nat} {vB vM : Value} {B : List UInt8} {R : Rs}
theorem Wr.c0 (h : Wr w base g vB vM B R) : w.cell? ⟨g, 0, none⟩ = some vB := h.blk.cell 0
theorem Wr.c1 (h : Wr w base g vB vM B R) : w.cell? ⟨g, 1, none⟩ = some vM := h.blk.cell 1
theorem Wr.f0 (h : Wr w base g vB vM B R) : w.frozen? ⟨g, 0, none⟩ = false := h.blk.frozen 0
theorem Wr.f1 (h : Wr w base g vB vM B R) : w.frozen? ⟨g, 1, none⟩ = false := h.blk.frozen 1
theorem Wr.size (h : Wr w base g vB vM B R) : base ≤ w.heap.size := Nat.le_of_lt (Nat.lt_of_le_of_lt h.low h.blk.lt)
theorem MapOf.lt (h : MapOf w base vM R) {j : Nat} (hj : vM = .map (some j)) : base ≤ j ∧ j < w.heap.size := by
  rcases h with ⟨rfl, _⟩ | ⟨b, D, rfl, hb, ho, _⟩
  · cases hj
  · injection hj with hj
    injection hj with hj
    subst hj
    exact ⟨hb, ho.lt⟩
theorem Wr.own (h : Wr w base g vB vM B R) {j : Nat} (hj : ownF g vB vM j) : base ≤ j ∧ j < w.heap.size := by
  rcases hj with rfl | hj | hj
  · exact ⟨h.low, h.blk.lt⟩
  · exact h.row.lt j hj
  · exact h.map.lt hj
theorem ownsMap_keep {P : Program} {k : TypeId} {E : Value → Option (DataW Unit × List MemPlace)} {b n : Nat} {D : DataW Unit} (h : w.ownsMap P k E b n D) (hk : w'.heap[b]? = w.heap[b]?) : w'.ownsMap P k E b n D := by
  obtain ⟨es, clock, hb, r⟩ := h
  exact ⟨es, clock, hk.trans hb, r⟩
theorem MapOf.keep (h : MapOf w base vM R) (hk : ∀ j, vM = .map (some j) → w'.heap[j]? = w.heap[j]?) : MapOf w' base vM R := by
  rcases h with h | ⟨b, D, rfl, hb, ho, hs⟩
  · exact .inl h
  · exact .inr ⟨b, D, rfl, hb, ownsMap_keep ho (hk b rfl), hs⟩
theorem Wr.keep (h : Wr w base g vB vM B R) (hk : ∀ j, ownF g vB vM j → w'.heap[j]? = w.heap[j]?) : Wr w' base g vB vM B R :=
  ⟨h.blk.keep (hk g (.inl rfl)), h.low, own_keep h.row fun j hj => hk j (.inr (.inl hj)), h.map.keep fun j hj => hk j (.inr (.inr hj))⟩
theorem Wr.grew {F : Nat → Prop} (h : Wr w base g vB vM B R) (hg : Grew F w w') (hf : ∀ j, ownF g vB vM j → ¬ F j) : Wr w' base g vB vM B R :=
  h.keep fun j hj => hg.block j (h.own hj).2 (hf j hj)
theorem Wr.below (h : Wr w base g vB vM B R) (hb : Below w.heap.size w w') : Wr w' base g vB vM B R :=
  h.keep fun j hj => hb.block j (h.own hj).2
theorem Wr.alloc (h : Wr w base g vB vM B R) (o : Obj) : Wr (w.alloc o) base g vB vM B R := h.below ((Below.refl _ _).alloc (Nat.le_refl _) o)
theorem Wr.drewN (h : Wr w base g vB vM B R) (n : Nat) : Wr (w.drewN n) base g vB vM B R := h.keep fun _ _ => rfl
theorem Wr.mono (h : Wr w base g vB vM B R) {base' : Nat} (hb : base' ≤ base) : Wr w base' g vB vM B R :=
  ⟨h.blk, Nat.le_trans hb h.low, own_mono h.row hb, h.map.elim .inl fun ⟨b, D, e, h1, h2⟩ => .inr ⟨b, D, e, Nat.le_trans hb h1, h2⟩⟩
/-- The three blocks are three. -/
theorem Wr.apart (h : Wr w base g vB vM B R) : vB.ownBlock ≠ some g ∧ vM ≠ .map (some g) ∧ ∀ j, vB.ownBlock = some j → vM ≠ .map (some j) := by
  refine ⟨own_not_whole h.row h.blk (by decide), fun hm => ?_, fun j hj hm => ?_⟩
  · rcases h.map with ⟨e, _⟩ | ⟨b, D, e, _, ho, _⟩
    · rw [e] at hm; cases hm
    · rw [e] at hm
      injection hm with hm
      injection hm with hm
      subst hm
      obtain ⟨es, clock, hb, _⟩ := ho
      have := h.blk
      unfold Whole at this
      rw [hb] at this
      cases this
  · rcases h.map with ⟨e, _⟩ | ⟨b, D, e, _, ho, _⟩
    · rw [e] at hm; cases hm
    · rw [e] at hm
      injection hm with hm
      injection hm with hm
      subst hm
      obtain ⟨es, clock, hb, _⟩ := ho
      rcases h.row.2 with ⟨e2, _⟩ | ⟨g', cap, cur, e2, _, hh, _⟩
      · rw [e2] at hj; cases hj
      · rw [e2] at hj
        simp [Value.ownBlock] at hj
        subst hj
        rw [hb] at hh
        cases hh
end

/-- The Writer has B and R now; nothing but its own has turned. -/
def Penned (base : Nat) (w : World) (g : Nat) (vB vM : Value) (B : List UInt8) (R : Rs) (w' : World) : Prop :=
  ∃ vB' vM', Wr w' base g vB' vM' B R ∧ Grew (ownF g vB vM) w w' ∧ ∀ j, ownF g vB' vM' j → ownF g vB vM j ∨ w.heap.size ≤ j
theorem Penned.refl {base : Nat} {w : World} {g : Nat} {vB vM : Value} {B : List UInt8} {R : Rs} (h : Wr w base g vB vM B R) : Penned base w g vB vM B R w := ⟨vB, vM, h, Grew.refl _ _, fun _ h => .inl h⟩
/-- One call behind another. -/
theorem Penned.then {base : Nat} {w w1 w2 : World} {g : Nat} {vB vM vB1 vM1 : Value} {B : List UInt8} {R : Rs} (hg : Grew (ownF g vB vM) w w1) (hf : ∀ j, ownF g vB1 vM1 j → ownF g vB vM j ∨ w.heap.size ≤ j)
    (h : Penned base w1 g vB1 vM1 B R w2) : Penned base w g vB vM B R w2 := by
  obtain ⟨vB2, vM2, h1, h2, h3⟩ := h
  refine ⟨vB2, vM2, h1, hg.trans h2 hf, fun j hj => ?_⟩
  rcases h3 j hj with h4 | h4
  · exact hf j h4
  · exact .inr (Nat.le_trans hg.size h4)

set_option maxHeartbeats 400000 in
theorem new_any (w : World) : Calls Tryz.prog 47 #[] w (fun e w' => e = .returned (.pointer (some ⟨w.heap.size, 0, none⟩)) ∧ Wr w' w.heap.size w.heap.size (.slice none 0 0) (.map none) [] [] ∧ Below w.heap.size w w') := by
  go_enter Tryz.func47, Tryz.ntmps47
  go_wp2
  go_ret
  exact ⟨rfl, ⟨heap_alloc_new w _, Nat.le_refl _, World.ownsRow_nil _ _ _ _, .inl ⟨rfl, rfl⟩⟩, (Below.refl _ _).alloc (Nat.le_refl _) _⟩

set_option maxHeartbeats 400000 in
theorem len_any (base : Nat) (w : World) (g : Nat) (vB vM : Value) (B : List UInt8) (R : Rs) (h : Wr w base g vB vM B R) :
    Calls Tryz.prog 51 #[.pointer (some ⟨g, 0, none⟩)] w (Told w (.int .i64 B.length)) := by
  obtain ⟨A1, c1, rfl, _, _⟩ := own_form h.row
  have h0 := h.c0
  clear h
  go_enter Tryz.func51, Tryz.ntmps51
  go_wp2
  go_ret
  exact ⟨rfl, rfl⟩

set_option maxHeartbeats 400000 in
theorem len_nil (w : World) : Calls Tryz.prog 51 #[.pointer none] w (Told w (.int .i64 0)) := by
  go_enter Tryz.func51, Tryz.ntmps51
  go_wp2
  go_ret
  exact ⟨rfl, rfl⟩

set_option maxHeartbeats 400000 in
theorem bytes_any (base : Nat) (w : World) (g : Nat) (vB vM : Value) (B : List UInt8) (R : Rs) (h : Wr w base g vB vM B R) (hm : B.length ≤ 140737488355000) :
    Calls Tryz.prog 52 #[.pointer (some ⟨g, 0, none⟩)] w (Owned w B) := by
  obtain ⟨i0, hi0, hz0, hz1, hz2⟩ := info_parts u8_info
  obtain ⟨A1, c1, rfl, _, _⟩ := own_form h.row
  have h0 := h.c0
  have HR := Lib.hid (Row.of_own h.row)
  clear h
  go_enter Tryz.func52, Tryz.ntmps52
  go_wp2_with (
    at_builtin
    refine wpList_append_row rfl (.const (.slice none 0 0)) (.tmp 8) _ rfl w.heap.size 5 i0 _ 1 1 Tryz.underlying29 hi0 hz0 hz1 hz2 rfl (by omega) (.slice none 0 0) 0 [] rfl
      (World.ownsRow_nil _ _ _ _) A1 B.length c1 w.heap.size (B.map bc) rfl (by rw [List.length_map]; omega) HR.out (bc_one B) (by unfold maxLen; omega) (by omega) (Nat.le_refl _) ?_
    intro v1 w1 hown1 hg1)
  go_ret
  obtain ⟨A', c', rfl, _, _⟩ := own_form hown1
  rw [Nat.zero_add] at *
  exact ⟨A', c', rfl, by simpa using hown1, own_below (Below.refl _ _) (Nat.le_refl _) (Nat.le_refl _) (World.ownsRow_nil _ w.heap.size 5 1) hg1⟩

set_option maxHeartbeats 400000 in
theorem bytes_nil (w : World) : Calls Tryz.prog 52 #[.pointer none] w (Told w (.slice none 0 0)) := by
  go_enter Tryz.func52, Tryz.ntmps52
  go_wp2
  go_ret
  exact ⟨rfl, rfl⟩

set_option maxHeartbeats 400000 in
theorem raw_nil (v : Value) (w : World) : Calls Tryz.prog 84 #[.pointer none, v] w (Told w (.tuple #[])) := by
  go_enter Tryz.func84, Tryz.ntmps84
  go_wp2
  go_end0
  exact ⟨rfl, rfl⟩

set_option maxHeartbeats 1000000 in
theorem raw_any (base : Nat) (w : World) (g : Nat) (vB vM : Value) (B : List UInt8) (R : Rs) (A : Option Addr) (m c H : Nat) (l : List UInt8) (h : Wr w base g vB vM B R) (hl : l.length = m) (hr : Row w H A (l.map bc)) (hm : B.length + m ≤ 140737488355000) :
    Calls Tryz.prog 84 #[.pointer (some ⟨g, 0, none⟩), .slice A m c] w (fun e w' => e = .returned (.tuple #[]) ∧ Penned base w g vB vM (B ++ l) R w') := by
  obtain ⟨i0, hi0, hz0, hz1, hz2⟩ := info_parts u8_info
  have h0 := h.c0
  have hbs := h.size
  have HR := Lib.hid hr
  have HL := Lib.hid hl
  have HW := Lib.hid h
  clear h hl hr
  go_enter Tryz.func84, Tryz.ntmps84
  go_wp2_with (
    at_builtin
    refine wpList_append_at rfl (.tmp 10) (.tmp 11) _ rfl base 5 i0 _ 1 1 Tryz.underlying29 hi0 hz0 hz1 hz2 rfl (by omega) vB B.length (B.map bc) rfl HW.out.row
      A m c H (l.map bc) rfl (by rw [List.length_map, HL.out]; omega) HR.out (bc_one l) (by unfold maxLen; omega) (by omega) hbs ?_
    intro v1 w1 hown1 hg1 hat
    obtain ⟨A1, c1, rfl, _, _⟩ := own_form hown1
    have hk1 := HW.out.blk.keep (hg1.block g HW.out.blk.lt (Ne.symm HW.out.apart.1))
    have c0' : w1.cell? ⟨g, 0, none⟩ = some vB := hk1.cell 0
    have f0' : w1.frozen? ⟨g, 0, none⟩ = false := hk1.frozen 0
    have HK1 := Lib.hid hk1
    have HO1 := Lib.hid hown1
    have HG1 := Lib.hid hg1
    have HA1 := Lib.hid hat
    clear hk1 hown1 hg1 hat)
  go_end0
  obtain ⟨v1, hv1⟩ : ∃ v1, v1 = Value.slice A1 (B.length + m) c1 := ⟨_, rfl⟩
  rw [← hv1] at HO1 HA1 ⊢
  have hne : v1.ownBlock ≠ some g := own_not_whole HO1.out HK1.out (by decide)
  have hl2 : B.length + m = (B ++ l).length := by rw [List.length_append, HL.out]
  have hm1 : MapOf w1 base vM R := HW.out.map.keep fun j hj => HG1.out.block j (HW.out.map.lt hj).2 (fun e => HW.out.apart.2.2 j e.symm hj)
  refine ⟨rfl, v1, vM, ⟨HK1.out.set_ 0 v1, HW.out.low, ?_, ?_⟩, ?_, ?_⟩
  · have ho := own_set_far HO1.out (a := ⟨g, 0, none⟩) hne v1
    rw [← List.map_append, hl2] at ho
    exact ho
  · refine hm1.keep fun j hj => Below.heap_setCell _ _ _ _ (fun e => ?_)
    exact HW.out.apart.2.1 (by rw [hj, e])
  · refine (Grew.of_grown HG1.out fun j hj => .inl (.inr (.inl hj))).setCell (.inl (.inl rfl)) _
  · intro j hj
    rcases hj with h | h | h
    · exact .inl (.inl h)
    · rcases HA1.out with e | e
      · exact .inl (.inr (.inl (by rw [← e]; exact h)))
      · rw [e] at h
        injection h with h
        exact .inr (by omega)
    · exact .inl (.inr (.inr h))

set_option maxHeartbeats 1000000 in
theorem num_any (base : Nat) (w : World) (g : Nat) (vB vM : Value) (B : List UInt8) (R : Rs) (n s : Int) (h : Wr w base g vB vM B R) (hm : B.length ≤ 140737488354000) :
    Calls Tryz.prog 71 #[.pointer (some ⟨g, 0, none⟩), .int .i64 n, .int .i64 s] w (fun e w' => e = .returned (.tuple #[]) ∧ Penned base w g vB vM (B ++ putL [] n s) R w') := by
  have HP := Lib.hid (put_any none 0 0 0 [] n s w rfl (Row.empty _ _ _) (by omega) (by omega))
  have hpl : (putL [] n s).length ≤ 7 := by
    unfold putL
    split
    · rename_i hf
      simp only [fitB, decide_eq_true_eq] at hf
      simp [length_digs]
      omega
    · simp
  generalize putL [] n s = l at *
  have HW := Lib.hid h
  clear h
  go_enter Tryz.func71, Tryz.ntmps71
  go_wp2_with fail
  refine HP.out.mono ?_
  rintro e w1 ⟨A1, c1, rfl, ho, hb⟩
  have HR := Lib.hid (Row.of_own ho)
  have HB := Lib.hid hb
  clear ho hb
  go_wp2_with fail
  refine (raw_any base w1 g vB vM B R A1 l.length c1 w1.heap.size l (HW.out.below HB.out) rfl HR.out (by omega)).mono ?_
  rintro e w2 ⟨rfl, hp⟩
  have HPN := Lib.hid (Penned.then (Grew.all HB.out) (fun j h => .inl h) hp)
  clear hp
  go_wp2
  go_end0
  exact ⟨rfl, HPN.out⟩

end Go.Proofs.YtjkjhpaeckkpjaaGreat

namespace Go.Proofs.YtjkjhpaeckkpjaaGreat
open Go.RowKit

theorem keyR_ne {n r : List (List UInt8)} (hn : n.all fitL = true) (hr : r.all fitL = true) (h : n ≠ r) : keyR n ≠ keyR r := fun e => by
  unfold keyR at e
  injection e with e
  exact h (encN_inj hn hr e)
theorem SaysR.empty : SaysR (.map []) [] := ⟨Maps.isMap_empty, fun _ _ => ⟨rfl, rfl⟩⟩
theorem SaysR.same {D : DataW Unit} {R : Rs} {r : List (List UInt8)} {a : Nat} (k : Nat) (h : SaysR D R) (ha : findR R r = some a) : SaysR D (R ++ [(r, k)]) := by
  refine ⟨h.1, fun n hn => ?_⟩
  have e : findR (R ++ [(r, k)]) n = findR R n := by
    rw [findR_snoc]
    by_cases hrn : r = n
    · subst hrn; rw [ha]; rfl
    · rw [if_neg hrn]; cases findR R n <;> rfl
  rw [e]
  exact h.2 n hn
theorem SaysR.put {D : DataW Unit} {R : Rs} {r : List (List UInt8)} (k : Nat) (h : SaysR D R) (hr : r.all fitL = true) (hf : findR R r = none) : SaysR (D.put (keyR r) (.lit (.int .i64 (k : Int)))) (R ++ [(r, k)]) := by
  refine ⟨h.1.put _ _, fun n hn => ?_⟩
  rw [findR_snoc]
  by_cases hrn : r = n
  · subst hrn
    rw [hf, if_pos rfl, Maps.has_put_same h.1 (by simp [keyR, WideAt.IsKeyLit]), Maps.atKey_put_same h.1 (by simp [keyR, WideAt.IsKeyLit])]
    exact ⟨rfl, rfl⟩
  · have hk := keyR_ne hn hr (Ne.symm hrn)
    rw [if_neg hrn, Maps.has_put_other hk, Maps.atKey_put_other hk, Option.or_none]
    exact h.2 n hn

/-- The rests behind a note. -/
def noteR (B : List UInt8) (R : Rs) (r : List (List UInt8)) : Rs := if B.length < 16384 then R ++ [(r, B.length)] else R

theorem str_keyed : Maps.Keyed Tryz.prog 9 := Maps.string_keyed Tryz.underlying9
theorem int_zero (w : World) : (zeroValue 3).run Tryz.prog w = .ok (.int .i64 0) w := by kernel_rfl
theorem key_enc {r : List (List UInt8)} (h : (encN r).length ≤ maxLen) : keyOf Tryz.prog 9 (.string ⟨(encN r).toArray⟩) = some (keyR r) :=
  WideMaps.keyOf_string_mk Tryz.underlying9 (by simpa [ByteArray.size] using h)
theorem wf_nat {k : Nat} (h : k ≤ 9223372036854775807) : (Lit.int .i64 (k : Int)).wf = true := by
  have h1 : IntKind.i64.min = -9223372036854775808 := rfl
  have h2 : IntKind.i64.max = 9223372036854775807 := rfl
  simp only [Lit.wf, Bool.and_eq_true, decide_eq_true_eq]
  omega

theorem Wr.noted {w w1 : World} {base g b : Nat} {vB : Value} {B : List UInt8} {R0 R : Rs} {D : DataW Unit} (h : Wr w base g vB (.map (some b)) B R0) (hg : w.grownBy w1 (some b))
    (ho : w1.ownsMap Tryz.prog 9 (plainElem Tryz.prog 3) b R.length D) (hs : SaysR D R) : Wr w1 base g vB (.map (some b)) B R := by
  obtain ⟨_, h2, h3⟩ := h.apart
  refine ⟨h.blk.keep (hg.block g h.blk.lt (fun e => h2 (by rw [← e]))), h.low, own_keep h.row fun j hj => hg.block j (h.row.lt j hj).2 (fun e => h3 j hj (by rw [← e])), .inr ⟨b, D, rfl, (h.map.lt rfl).1, ho, hs⟩⟩
theorem Wr.made {w : World} {base g : Nat} {vB : Value} {B : List UInt8} (h : Wr w base g vB (.map none) B []) : Wr ((w.alloc (.map #[] 0)).setCell ⟨g, 1, none⟩ (.map (some w.heap.size))) base g vB (.map (some w.heap.size)) B [] := by
  have ha := h.alloc (.map #[] 0)
  refine ⟨ha.blk.set_ 1 _, h.low, own_set_far ha.row ha.apart.1 _, .inr ⟨_, .map [], rfl, h.size, ?_, SaysR.empty⟩⟩
  exact ownsMap_keep (World.ownsMap_made w Tryz.prog 9 (plainElem Tryz.prog 3)) (Below.heap_setCell _ ⟨g, 1, none⟩ _ _ (by have := h.blk.lt; simp; omega))

set_option maxHeartbeats 1000000 in
theorem note_nil_far (base : Nat) (w : World) (g : Nat) (vB : Value) (B : List UInt8) (r : List (List UInt8)) (h : Wr w base g vB (.map none) B []) (he : (encN r).length ≤ maxLen) (hB : 16384 ≤ B.length) :
    Calls Tryz.prog 87 #[.pointer (some ⟨g, 0, none⟩), .string ⟨(encN r).toArray⟩] w (Told w (.tuple #[])) := by
  have HL := Lib.hid (len_any base w g vB (.map none) B [] h)
  have h1 := h.c1
  have hrun := Maps.look_nil (w := w) true str_keyed Tryz.underlying105 (int_zero w) (key_enc he)
  have d1 : decide (16384 ≤ (B.length : Int)) = true := by simp; omega
  clear h
  go_enter Tryz.func87, Tryz.ntmps87
  go_wp2_with fail
  refine HL.out.mono ?_
  rintro e w' ⟨rfl, rfl⟩
  go_wp2
  go_end0
  exact ⟨rfl, rfl⟩

set_option maxHeartbeats 1000000 in
theorem note_nil_near (base : Nat) (w : World) (g : Nat) (vB : Value) (B : List UInt8) (r : List (List UInt8)) (h : Wr w base g vB (.map none) B []) (hr : r.all fitL = true) (he : (encN r).length ≤ maxLen) (hB : B.length < 16384) :
    Calls Tryz.prog 87 #[.pointer (some ⟨g, 0, none⟩), .string ⟨(encN r).toArray⟩] w (fun e w' => e = .returned (.tuple #[]) ∧ Penned base w g vB (.map none) B [(r, B.length)] w') := by
  have HL := Lib.hid (len_any base w g vB (.map none) B [] h)
  have h1 := h.c1
  have f1 := h.f1
  have hrun := Maps.look_nil (w := w) true str_keyed Tryz.underlying105 (int_zero w) (key_enc he)
  have hmm := @run_makeMap Tryz.prog
  have heq := fun W => run_eql_map_nil (P := Tryz.prog) W 105 9 3 none Tryz.underlying105
  have hkey := key_enc he
  have d1 : decide (16384 ≤ (B.length : Int)) = false := by simp; omega
  have hown := (World.ownsMap_made (H := Unit) w Tryz.prog 9 (plainElem Tryz.prog 3))
  have h2 := (h.alloc (.map #[] 0)).c1
  have f2 := (h.alloc (.map #[] 0)).f1
  have HW := Lib.hid h
  have HO := Lib.hid hown
  have HK := Lib.hid hkey
  clear h hkey hown
  go_enter Tryz.func87, Tryz.ntmps87
  go_wp2_with fail
  refine HL.out.mono ?_
  rintro e w' ⟨rfl, rfl⟩
  go_wp2_with (
    at_mapUpdate
    refine wpList_mapUpdate_own _ rfl _ _ _ 105 rfl 9 3 str_keyed Tryz.underlying105 _ w.heap.size 0 (.map []) rfl (ownsMap_keep HO.out (Below.heap_setCell _ ⟨g, 1, none⟩ _ _ (by have := HW.out.blk.lt; simp; omega))) (by unfold maxLen; omega) _ _ _ rfl rfl HK.out _ [] (plainElem_int Tryz.underlying3 (wf_nat (k := B.length) (by omega))) ?_
    intro w1 hown1 hgrow1)
  go_end0
  refine ⟨rfl, vB, .map (some w.heap.size), HW.out.made.noted hgrow1 hown1 (SaysR.empty.put B.length hr rfl), ?_, ?_⟩
  · exact (((Grew.refl _ w).alloc _).setCell (.inl (.inl rfl)) _).grown hgrow1 fun j hj => .inr (by injection hj with hj; omega)
  · intro j hj
    rcases hj with h | h | h
    · exact .inl (.inl h)
    · exact .inl (.inr (.inl h))
    · injection h with h
      injection h with h
      exact .inr (by omega)

/-- The Writer is as it was, or the map's block alone has turned. -/
theorem noted_penned {w w1 : World} {base g b : Nat} {vB : Value} {B : List UInt8} {R0 R : Rs} {D : DataW Unit} (h : Wr w base g vB (.map (some b)) B R0) (hg : w.grownBy w1 (some b))
    (ho : w1.ownsMap Tryz.prog 9 (plainElem Tryz.prog 3) b R.length D) (hs : SaysR D R) : Penned base w g vB (.map (some b)) B R w1 :=
  ⟨vB, .map (some b), h.noted hg ho hs, Grew.of_grown hg fun j hj => .inl (.inr (.inr (by rw [hj]))), fun j hj => .inl hj⟩

set_option maxHeartbeats 1000000 in
theorem note_known (base : Nat) (w : World) (g b : Nat) (vB : Value) (B : List UInt8) (R : Rs) (D : DataW Unit) (r : List (List UInt8)) (_ : Nat) (h : Wr w base g vB (.map (some b)) B R) (ho : w.ownsMap Tryz.prog 9 (plainElem Tryz.prog 3) b R.length D)
    (he : (encN r).length ≤ maxLen) (hh : Maps.has D (keyR r) = true) :
    Calls Tryz.prog 87 #[.pointer (some ⟨g, 0, none⟩), .string ⟨(encN r).toArray⟩] w (Told w (.tuple #[])) := by
  have HL := Lib.hid (len_any base w g vB (.map (some b)) B R h)
  have h1 := h.c1
  have HK := Lib.hid (key_enc he)
  have HO := Lib.hid ho
  have HH := Lib.hid hh
  clear h ho hh
  go_enter Tryz.func87, Tryz.ntmps87
  go_wp2_with fail
  refine HL.out.mono ?_
  rintro e w' ⟨rfl, rfl⟩
  go_wp2_with (
    at_lookup
    refine wpList_lookup_own_ok_int _ rfl _ _ 105 rfl 9 3 .i64 str_keyed Tryz.underlying105 Tryz.underlying3 (int_zero _) b _ D rfl HO.out _ _ rfl HK.out ?_
    intro c hat hwc
    rw [HH.out]
    clear hat hwc)
  go_end0
  exact ⟨rfl, rfl⟩

set_option maxHeartbeats 1000000 in
theorem note_far (base : Nat) (w : World) (g b : Nat) (vB : Value) (B : List UInt8) (R : Rs) (D : DataW Unit) (r : List (List UInt8)) (h : Wr w base g vB (.map (some b)) B R) (ho : w.ownsMap Tryz.prog 9 (plainElem Tryz.prog 3) b R.length D)
    (he : (encN r).length ≤ maxLen) (hh : Maps.has D (keyR r) = false) (hB : 16384 ≤ B.length) :
    Calls Tryz.prog 87 #[.pointer (some ⟨g, 0, none⟩), .string ⟨(encN r).toArray⟩] w (Told w (.tuple #[])) := by
  have HL := Lib.hid (len_any base w g vB (.map (some b)) B R h)
  have h1 := h.c1
  have HK := Lib.hid (key_enc he)
  have HO := Lib.hid ho
  have HH := Lib.hid hh
  have d1 : decide (16384 ≤ (B.length : Int)) = true := by simp; omega
  clear h ho hh
  go_enter Tryz.func87, Tryz.ntmps87
  go_wp2_with fail
  refine HL.out.mono ?_
  rintro e w' ⟨rfl, rfl⟩
  go_wp2_with (
    at_lookup
    refine wpList_lookup_own_ok_int _ rfl _ _ 105 rfl 9 3 .i64 str_keyed Tryz.underlying105 Tryz.underlying3 (int_zero _) b _ D rfl HO.out _ _ rfl HK.out ?_
    intro c hat hwc
    rw [HH.out]
    clear hat hwc)
  go_end0
  exact ⟨rfl, rfl⟩

set_option maxHeartbeats 1000000 in
theorem note_near (base : Nat) (w : World) (g b : Nat) (vB : Value) (B : List UInt8) (R : Rs) (D : DataW Unit) (r : List (List UInt8)) (h : Wr w base g vB (.map (some b)) B R) (ho : w.ownsMap Tryz.prog 9 (plainElem Tryz.prog 3) b R.length D) (hs : SaysR D R)
    (hr : r.all fitL = true) (he : (encN r).length ≤ maxLen) (hf : findR R r = none) (hB : B.length < 16384) (hR : R.length < 1000000) :
    Calls Tryz.prog 87 #[.pointer (some ⟨g, 0, none⟩), .string ⟨(encN r).toArray⟩] w (fun e w' => e = .returned (.tuple #[]) ∧ Penned base w g vB (.map (some b)) B (R ++ [(r, B.length)]) w') := by
  have HL := Lib.hid (len_any base w g vB (.map (some b)) B R h)
  have h1 := h.c1
  have HK := Lib.hid (key_enc he)
  have HO := Lib.hid ho
  have HH := Lib.hid (show Maps.has D (keyR r) = false by rw [(hs.2 r hr).1, hf]; rfl)
  have HS := Lib.hid (hs.put B.length hr hf)
  have HW := Lib.hid h
  have heq := fun W => run_eql_map_nil (P := Tryz.prog) W 105 9 3 (some b) Tryz.underlying105
  have d1 : decide (16384 ≤ (B.length : Int)) = false := by simp; omega
  clear h ho hs hf
  go_enter Tryz.func87, Tryz.ntmps87
  go_wp2_with fail
  refine HL.out.mono ?_
  rintro e w' ⟨rfl, rfl⟩
  go_wp2_with (first
    | (at_lookup
       refine wpList_lookup_own_ok_int _ rfl _ _ 105 rfl 9 3 .i64 str_keyed Tryz.underlying105 Tryz.underlying3 (int_zero _) b _ D rfl HO.out _ _ rfl HK.out ?_
       intro c hat hwc
       rw [HH.out]
       clear hat hwc)
    | (at_mapUpdate
       refine wpList_mapUpdate_own _ rfl _ _ _ 105 rfl 9 3 str_keyed Tryz.underlying105 _ b R.length D rfl HO.out (by unfold maxLen; omega) _ _ _ rfl rfl HK.out _ [] (plainElem_int Tryz.underlying3 (wf_nat (k := B.length) (by omega))) ?_
       intro w1 hown1 hgrow1))
  go_end0
  exact ⟨rfl, noted_penned HW.out hgrow1 (by simpa using hown1) HS.out⟩

theorem note_any (base : Nat) (w : World) (g : Nat) (vB vM : Value) (B : List UInt8) (R : Rs) (r : List (List UInt8)) (h : Wr w base g vB vM B R) (hr : r.all fitL = true) (he : (encN r).length ≤ maxLen) (hR : R.length < 1000000) :
    Calls Tryz.prog 87 #[.pointer (some ⟨g, 0, none⟩), .string ⟨(encN r).toArray⟩] w (fun e w' => e = .returned (.tuple #[]) ∧ Penned base w g vB vM B (noteR B R r) w') := by
  unfold noteR
  rcases h.map with ⟨rfl, rfl⟩ | ⟨b, D, rfl, hb, ho, hs⟩
  · by_cases hB : B.length < 16384
    · rw [if_pos hB]
      exact note_nil_near base w g vB B r h hr he hB
    · rw [if_neg hB]
      refine (note_nil_far base w g vB B r h he (by omega)).mono ?_
      rintro e w' ⟨rfl, rfl⟩
      exact ⟨rfl, Penned.refl h⟩
  · cases hf : findR R r with
    | some a =>
      have hh : Maps.has D (keyR r) = true := by rw [(hs.2 r hr).1, hf]; rfl
      refine (note_known base w g b vB B R D r a h ho he hh).mono ?_
      rintro e w' ⟨rfl, rfl⟩
      refine ⟨rfl, ?_⟩
      split
      · exact Penned.refl ⟨h.blk, h.low, h.row, .inr ⟨b, D, rfl, hb, ho.mono (by simp), hs.same B.length hf⟩⟩
      · exact Penned.refl h
    | none =>
      by_cases hB : B.length < 16384
      · rw [if_pos hB]
        exact note_near base w g b vB B R D r h ho hs hr he hf hB hR
      · rw [if_neg hB]
        refine (note_far base w g b vB B R D r h ho he (by rw [(hs.2 r hr).1, hf]; rfl) (by omega)).mono ?_
        rintro e w' ⟨rfl, rfl⟩
        exact ⟨rfl, Penned.refl h⟩

end Go.Proofs.YtjkjhpaeckkpjaaGreat

namespace Go.Proofs.YtjkjhpaeckkpjaaGreat
open Go.RowKit

theorem strCells_list (l : List UInt8) : Lib.strCells ⟨l.toArray⟩ = l.map bc := by
  simp only [Lib.strCells]
  rfl

def WholeRel (w : World) (n : List (List UInt8)) (v i : Value) (wr : World) : Prop :=
  ∃ k : Nat, k ≤ n.length ∧ i = .int .i64 k ∧ wr.ownsRow w.heap.size 5 1 v (encN (n.take k)).length ((encN (n.take k)).map bc) ∧ Below w.heap.size w wr ∧ w.heap.size ≤ wr.heap.size

theorem encN_take_succ {n : List (List UInt8)} {k : Nat} (h : k < n.length) : encN (n.take (k + 1)) = encN (n.take k) ++ (UInt8.ofNat (n[k]).length :: n[k]) := by
  rw [List.take_succ_eq_append_getElem h, encN_snoc]
theorem length_encN_take (n : List (List UInt8)) (k : Nat) : (encN (n.take k)).length < szN n := by
  have h1 := length_encN (n.take k)
  have h2 := szN_take_le n k
  omega

set_option maxHeartbeats 2000000 in
theorem whole_any (A : Option Addr) (m c H : Nat) (n : List (List UInt8)) (w : World) (hl : n.length = m) (hA : Row w H A (n.map sv)) (hH : H ≤ w.heap.size) (hf : n.all fitL = true) (hs : szN n ≤ 255) :
    Calls Tryz.prog 86 #[.slice A m c] w (Gave w (.string ⟨(encN n).toArray⟩)) := by
  subst hl
  obtain ⟨i0, hi0, hz0, hz1, hz2⟩ := info_parts u8_info
  have hnl := length_lt_szN n
  have HA := Lib.hid hA
  have HF := Lib.hid hf
  clear hA hf
  go_enter Tryz.func86, Tryz.ntmps86
  go_wp2
  go_loopw [3, 8] (WholeRel w n) (fun _ i _ => n.length - (intOf i).toNat)
  case atStart => exact ⟨0, Nat.zero_le _, rfl, World.ownsRow_nil _ _ _ _, Below.refl _ _, Nat.le_refl _⟩
  case round =>
    obtain ⟨k, hk, rfl, hown, hbw, hz⟩ := hrel
    obtain ⟨A1, c1, rfl, _, _⟩ := own_form hown
    have htl := length_encN_take n k
    by_cases hlt : k < n.length
    · obtain ⟨b, off, rfl, hb, hc⟩ := (HA.out.mono hH |>.below hbw).name_at hlt
      obtain ⟨l, hl⟩ : ∃ l, n[k] = l := ⟨_, rfl⟩
      have hfl : 1 ≤ l.length ∧ l.length ≤ 63 := by
        have h := List.all_eq_true.1 HF.out _ (List.getElem_mem hlt)
        rw [hl] at h
        exact fitL_iff.1 h
      have hen := encN_take_succ hlt
      rw [hl] at hc hen
      obtain ⟨e, he⟩ : ∃ e, e = encN (n.take k) := ⟨_, rfl⟩
      rw [← he] at hown hen htl ⊢
      obtain ⟨hf1, hf2⟩ := hfl
      have hwr : IntKind.u8.wrap (l.length : Int) = (l.length : Int) := by rw [IntKind.wrap_u8]; omega
      have HE := Lib.hid hen
      have HO := Lib.hid hown
      have HB := Lib.hid hbw
      have HR1 := Lib.hid (Row.made wr #[.int .u8 (l.length : Int)] 5)
      have HBC := Lib.hid (show bc (UInt8.ofNat l.length) = .int .u8 (l.length : Int) by unfold bc; rw [UInt8.toNat_ofNat', Nat.mod_eq_of_lt (by omega)])
      clear hown hbw hen he hl
      go_wp2_with (first
        | (at_builtin
           refine wpList_append_row rfl (.tmp 12) (.tmp 16) _ rfl w.heap.size 5 i0 _ 1 1 Tryz.underlying29 hi0 hz0 hz1 hz2 rfl (by omega) (.slice A1 e.length c1) e.length _ rfl (HO.out.alloc _)
             (some ⟨wr.heap.size, 0, none⟩) 1 1 (wr.heap.size + 1) [.int .u8 (l.length : Int)] rfl rfl HR1.out (by simp [Value.oneCell']) (by unfold maxLen; omega) (by omega) (by simp; omega) ?_
           intro v2 w2 hown2 hg2
           obtain ⟨A2, c2, rfl, _, _⟩ := own_form hown2
           have HO2 := Lib.hid hown2
           have hz2' : w.heap.size ≤ w2.heap.size := by have := hg2.size; simp at this; omega
           have HB2 := Lib.hid (own_below (HB.out.alloc hz (.cells #[.int .u8 (l.length : Int)] 5)) (Nat.le_refl _) (by simp; omega) (HO.out.alloc _) hg2)
           clear hown2 hg2)
        | (at_builtin
           refine Lib.wpList_append_own_string _ rfl (.tmp 18) (.tmp 19) _ _ rfl w.heap.size 5 i0 Tryz.underlying29 Tryz.underlying9 hi0 hz0 hz1 hz2 (.slice A2 (e.length + 1) c2) (e.length + 1) _ rfl HO2.out ⟨l.toArray⟩ rfl
             (by simp [ByteArray.size]; unfold maxLen; omega) (by simp [ByteArray.size]; omega) hz2' ?_
           intro v3 w3 hown3 hg3 _
           rw [strCells_list] at hown3
           have HO3 := Lib.hid hown3
           have HB3 := Lib.hid (own_below HB2.out (Nat.le_refl _) hz2' HO2.out hg3)
           have hz3 : w.heap.size ≤ w3.heap.size := Nat.le_trans hz2' hg3.size
           clear hown3 hg3))
      refine ⟨⟨k + 1, by omega, by go_num, ?_, HB3.out, hz3⟩, by simp [intOf]; omega⟩
      rw [HE.out]
      have h := HO3.out
      rw [← HBC.out] at h
      simpa [ByteArray.size, Nat.add_assoc, Nat.add_comm 1] using h
    · obtain rfl : k = n.length := by omega
      rw [List.take_length] at *
      have hcv := convert_row_run (P := Tryz.prog) wr 29 9 5 Tryz.underlying29 Tryz.underlying5 Tryz.underlying9 A1 (encN n).length c1 wr.heap.size (encN n) rfl (Row.of_own hown)
      have HB := Lib.hid hbw
      clear hown hbw
      go_wp2
      go_ret
      exact ⟨rfl, HB.out⟩

end Go.Proofs.YtjkjhpaeckkpjaaGreat

namespace Go.Proofs.YtjkjhpaeckkpjaaGreat
open Go.RowKit

/-- 'at, ok := rests[r]'. -/
theorem wpList_rests {w : World} {ops : Array Oper} {rest : List Oper} {o : Oper} {a : Act} {Q : Exit → Act → World → Prop} (hg : o.guard = none) (m x : Operand) (hop : o.op = Op.lookup 105 m x true)
    {base : Nat} {v : Value} {R : Rs} {r : List (List UInt8)} {s : List UInt8} {f : Option Nat} (h : MapOf w base v R) (hr : r.all fitL = true) (he : (encN r).length ≤ maxLen) (hsr : encN r = s) (hf : findR R r = f) (hm : a.eval m = v) (hx : a.eval x = .string ⟨s.toArray⟩)
    (hK : wpList Tryz.prog ops Q rest (a.put o.dst (.tuple #[.int .i64 (f.getD 0 : Nat), .bool f.isSome])) w) : wpList Tryz.prog ops Q (o :: rest) a w := by
  subst hsr
  subst hf
  rcases h with ⟨rfl, rfl⟩ | ⟨b, D, rfl, hb, ho, hs⟩
  · refine wpList_plain hg fun K' hK' => ?_
    have hrun := Maps.look_nil (w := w) true str_keyed Tryz.underlying105 (int_zero w) (key_enc he)
    unfold Oper.wp
    simp [execOp, hop, hm, hx, hrun, Result.andThen]
    exact hK' _ _ hK
  · refine wpList_lookup_own_ok_int w hg m x _ hop 9 3 .i64 str_keyed Tryz.underlying105 Tryz.underlying3 (int_zero _) b _ D hm ho _ _ hx (key_enc he) fun c hat hwc => ?_
    obtain ⟨h1, h2⟩ := hs.2 r hr
    rw [h2] at hat
    injection hat with hat
    injection hat with _ hat
    rw [← hat, h1]
    exact hK

def strLenV : Value → Nat
  | .string s => s.size
  | _ => 0

def NameRel (base : Nat) (w : World) (g : Nat) (vB vM : Value) (short : Bool) (n : List (List UInt8)) (B : List UInt8) (R : Rs) (v : Value) (wr : World) : Prop :=
  ∃ m B' R' vB' vM', v = .string ⟨(encN m).toArray⟩ ∧ m.all fitL = true ∧ szN m ≤ 255 ∧ Wr wr base g vB' vM' B' R' ∧ Grew (ownF g vB vM) w wr ∧ (∀ j, ownF g vB' vM' j → ownF g vB vM j ∨ w.heap.size ≤ j) ∧
    nameW short n B R = nameW short m B' R' ∧ B'.length + szN m ≤ B.length + szN n ∧ R'.length + m.length ≤ R.length + n.length ∧ ∀ r ∈ R', r.2 < 16384

theorem extract_take (l : List UInt8) (k : Nat) : (ByteArray.mk l.toArray).extract 0 k = ⟨(l.take k).toArray⟩ := by
  apply ByteArray.ext
  apply Array.toList_inj.1
  simp [ByteArray.data_extract]
theorem extract_tail (l : List UInt8) (k m : Nat) (hm : l.length ≤ m) : (ByteArray.mk l.toArray).extract k m = ⟨(l.drop k).toArray⟩ := by
  apply ByteArray.ext
  apply Array.toList_inj.1
  simp [ByteArray.data_extract]
  exact List.take_of_length_le (by simp; omega)

theorem putL_zero : putL [] 0 1 = [0] := by decide +kernel
theorem putL_ptr {k : Nat} (hk : k < 16384) : putL [] (49152 + (k : Int)) 2 = digs (49152 + k) 2 := by
  have hf : fitB ((49152 + k : Nat) : Int) ((2 : Nat) : Int) = true := fitB_true (by omega) (by omega) (by omega) (by simp; omega)
  have h := putL_yes (l := []) hf
  simpa using h
theorem noteR_good {B : List UInt8} {R : Rs} {r : List (List UInt8)} (h : ∀ x ∈ R, x.2 < 16384) : (∀ x ∈ noteR B R r, x.2 < 16384) ∧ (noteR B R r).length ≤ R.length + 1 := by
  unfold noteR
  split
  · rename_i hb
    refine ⟨fun x hx => ?_, by simp⟩
    rcases List.mem_append.1 hx with hx | hx
    · exact h x hx
    · rw [List.mem_singleton.1 hx]; exact hb
  · exact ⟨h, by omega⟩

set_option maxHeartbeats 4000000 in
theorem name_sound (base : Nat) (w : World) (g : Nat) (vB vM : Value) (B : List UInt8) (R : Rs) (A : Option Addr) (m c H : Nat) (n : List (List UInt8)) (short : Bool) (h : Wr w base g vB vM B R) (hl : n.length = m) (hA : Row w H A (n.map sv)) (hH : H ≤ w.heap.size)
    (hs : soundN n = true) (hB : B.length ≤ 1000000000) (hR : R.length ≤ 900000) (hR16 : ∀ r ∈ R, r.2 < 16384) :
    Calls Tryz.prog 73 #[.pointer (some ⟨g, 0, none⟩), .slice A m c, .bool short] w (fun e w' => e = .returned (.int .i64 0) ∧ Penned base w g vB vM (nameW short n B R).1 (nameW short n B R).2 w') := by
  subst hl
  have hs2 := hs
  simp only [soundN, Bool.and_eq_true, decide_eq_true_eq] at hs2
  obtain ⟨hfl, hsz⟩ := hs2
  have hnl := szN_ge n hfl
  have HSO := Lib.hid (fun W hr => sound_any A n.length c H n W rfl hr (by unfold maxLen; omega))
  rw [hs] at HSO
  have HWH := Lib.hid (whole_any A n.length c H n w rfl hA hH hfl hsz)
  have HA := Lib.hid hA
  have HW := Lib.hid h
  have HF := Lib.hid hfl
  have HR16 := Lib.hid hR16
  have hbs := h.size
  clear h hA hs hfl hR16
  go_enter Tryz.func73, Tryz.ntmps73
  go_wp2_with fail
  refine (HSO.out _ HA.out).mono ?_
  rintro e w' ⟨rfl, rfl⟩
  go_wp2_with fail
  refine HWH.out.mono ?_
  rintro e w0 ⟨rfl, hb0⟩
  have HB0 := Lib.hid hb0
  clear hb0
  go_wp2
  go_loopw [7] (NameRel base w g vB vM short n B R) (fun v _ => strLenV v)
  case atStart => exact ⟨n, B, R, vB, vM, rfl, HF.out, hsz, HW.out.below HB0.out, Grew.all HB0.out, fun j hj => .inl hj, rfl, Nat.le_refl _, Nat.le_refl _, HR16.out⟩
  case round =>
    obtain ⟨m, B1, R1, vB1, vM1, rfl, hfm, hszm, hw1, hg1, ho1, hnw, hb1, hr1, hr16⟩ := hrel
    have HW1 := Lib.hid hw1
    have HG1 := Lib.hid hg1
    have HO1 := Lib.hid ho1
    have HNW := Lib.hid hnw
    have HR1 := Lib.hid hr16
    have c1 := hw1.c1
    have hem := length_encN m
    clear hw1 hg1 ho1 hnw hr16
    rcases m with _ | ⟨l, m⟩
    · have HN := Lib.hid (num_any base wr g vB1 vM1 B1 R1 0 1 HW1.out (by omega))
      rw [putL_zero] at HN
      simp only [encN] at *
      go_wp2_with fail
      refine HN.out.mono ?_
      rintro e w2 ⟨rfl, hp⟩
      have HP := Lib.hid (Penned.then HG1.out HO1.out hp)
      clear hp
      go_wp2
      go_ret
      refine ⟨rfl, ?_⟩
      rw [HNW.out, nameW_nil]
      exact HP.out
    · have hall : (l :: m).all fitL = true := hfm
      simp only [List.all_cons, Bool.and_eq_true, fitL_iff] at hfm
      obtain ⟨⟨hl1, hl2⟩, hfm2⟩ := hfm
      have hlen : (encN (l :: m)).length ≤ maxLen := by unfold maxLen; omega
      have hpm := szN_pos m
      simp only [szN] at hszm hb1 hem
      simp only [List.length_cons] at hr1
      have HNT := Lib.hid (note_any base wr g vB1 vM1 B1 R1 (l :: m) HW1.out hall hlen (by omega))
      obtain ⟨x, hx⟩ : ∃ x, x = UInt8.ofNat l.length := ⟨_, rfl⟩
      obtain ⟨e, he⟩ : ∃ e, e = encN m := ⟨_, rfl⟩
      have hen : encN (l :: m) = x :: (l ++ e) := by rw [hx, he]; rfl
      have hxi : (x.toNat : Int) = (l.length : Int) := by rw [hx, UInt8.toNat_ofNat']; omega
      have hee : e.length + 1 = szN m := by rw [he]; exact length_encN m
      have HEN := Lib.hid hen
      have HEM := Lib.hid he
      have HX := Lib.hid hx
      have HALL := Lib.hid hall
      rw [hen] at HNT ⊢
      rw [hen] at hem
      have hex1 : (ByteArray.mk (x :: (l ++ e)).toArray).extract 0 (l.length + 1) = ⟨(x :: l).toArray⟩ := by rw [extract_take]; simp
      have hex2 : (ByteArray.mk (x :: (l ++ e)).toArray).extract (l.length + 1) (l.length + e.length + 1) = ⟨e.toArray⟩ := by rw [extract_tail _ _ _ (by simp)]; simp
      have i0 : (ByteArray.mk (x :: (l ++ e)).toArray)[0]'(by simp [ByteArray.size]) = x := rfl
      have hq : ((1 : Int) + (l.length : Int)).toNat = l.length + 1 := by omega
      clear hen he hx hall
      cases hfi : findR R1 (l :: m) with
      | some k =>
        have hk16 := HR1.out _ (findR_mem hfi)
        have HFI := Lib.hid hfi
        clear hfi
        cases short with
        | true =>
          have HN := Lib.hid (num_any base wr g vB1 vM1 B1 R1 (49152 + (k : Int)) 2 HW1.out (by omega))
          rw [putL_ptr hk16] at HN
          clear hex1 hex2 hq
          go_wp2_with (
            at_lookup
            refine wpList_rests rfl (.tmp 24) (.tmp 25) rfl HW1.out.map HALL.out hlen HEN.out HFI.out rfl rfl ?_
            simp only [Option.getD_some, Option.isSome_some])
          refine HN.out.mono ?_
          rintro e w2 ⟨rfl, hp⟩
          have HP := Lib.hid (Penned.then HG1.out HO1.out hp)
          clear hp
          go_wp2
          go_ret
          refine ⟨rfl, ?_⟩
          rw [HNW.out, nameW_hit HFI.out]
          exact HP.out
        | false =>
          go_wp2_with (
            at_lookup
            refine wpList_rests rfl (.tmp 24) (.tmp 25) rfl HW1.out.map HALL.out hlen HEN.out HFI.out rfl rfl ?_
            simp only [Option.getD_some, Option.isSome_some])
          refine HNT.out.mono ?_
          rintro e' w2 ⟨rfl, vB2, vM2, hw2, hg2, ho2⟩
          have HW2 := Lib.hid hw2
          have HG2 := Lib.hid (HG1.out.trans hg2 HO1.out)
          have HO2 := Lib.hid (fun j hj => (ho2 j hj).elim (HO1.out j) (fun h => Or.inr (Nat.le_trans HG1.out.size h)))
          clear hw2 hg2 ho2
          go_wp2_with (
            refine wpList_bytes rfl (.tmp 47) _ _ 5 rfl Tryz.underlying9 Tryz.underlying29 Tryz.underlying5 (x :: l) rfl ?_
            intro C w3 hC hmk hb3 hs3)
          have hrow := hmk.row.take (x :: l).length
          rw [List.take_left' (by simp)] at hrow
          have HRW := Lib.hid (raw_any base w3 g vB2 vM2 B1 (noteR B1 R1 (l :: m)) _ (x :: l).length C w3.heap.size (x :: l) (HW2.out.below hb3) rfl hrow (by simp; omega))
          have HG3 := Lib.hid (HG2.out.then_below hb3)
          clear hrow hmk hC hs3
          have hs3 := hb3.size
          clear hb3
          refine HRW.out.mono ?_
          rintro e' w4 ⟨rfl, vB4, vM4, hw4, hg4, ho4⟩
          have HW4 := Lib.hid hw4
          have HG4 := Lib.hid (HG3.out.trans hg4 HO2.out)
          have HO4 := Lib.hid (fun j hj => (ho4 j hj).elim (HO2.out j) (fun h => Or.inr (Nat.le_trans HG3.out.size h)))
          clear hw4 hg4 ho4
          go_wp2
          refine ⟨⟨m, B1 ++ (x :: l), noteR B1 R1 (l :: m), vB4, vM4, by rw [HEM.out], hfm2, by omega, HW4.out, HG4.out, HO4.out, ?_, ?_, ?_, (noteR_good HR1.out).1⟩, ?_⟩
          · rw [HNW.out, HX.out]
            exact nameW_long _ _ _ _
          · simp only [List.length_append, List.length_cons]; omega
          · have := (noteR_good (B := B1) (r := l :: m) HR1.out).2; omega
          · simp [strLenV, ByteArray.size]; omega
      | none =>
        have HFI := Lib.hid hfi
        clear hfi
        go_wp2_with (
          at_lookup
          refine wpList_rests rfl (.tmp 24) (.tmp 25) rfl HW1.out.map HALL.out hlen HEN.out HFI.out rfl rfl ?_
          simp only [Option.getD_none, Option.isSome_none])
        refine HNT.out.mono ?_
        rintro e' w2 ⟨rfl, vB2, vM2, hw2, hg2, ho2⟩
        have HW2 := Lib.hid hw2
        have HG2 := Lib.hid (HG1.out.trans hg2 HO1.out)
        have HO2 := Lib.hid (fun j hj => (ho2 j hj).elim (HO1.out j) (fun h => Or.inr (Nat.le_trans HG1.out.size h)))
        clear hw2 hg2 ho2
        go_wp2_with (
          refine wpList_bytes rfl (.tmp 47) _ _ 5 rfl Tryz.underlying9 Tryz.underlying29 Tryz.underlying5 (x :: l) rfl ?_
          intro C w3 hC hmk hb3 hs3)
        have hrow := hmk.row.take (x :: l).length
        rw [List.take_left' (by simp)] at hrow
        have HRW := Lib.hid (raw_any base w3 g vB2 vM2 B1 (noteR B1 R1 (l :: m)) _ (x :: l).length C w3.heap.size (x :: l) (HW2.out.below hb3) rfl hrow (by simp; omega))
        have HG3 := Lib.hid (HG2.out.then_below hb3)
        clear hrow hmk hC hs3
        have hs3 := hb3.size
        clear hb3
        refine HRW.out.mono ?_
        rintro e' w4 ⟨rfl, vB4, vM4, hw4, hg4, ho4⟩
        have HW4 := Lib.hid hw4
        have HG4 := Lib.hid (HG3.out.trans hg4 HO2.out)
        have HO4 := Lib.hid (fun j hj => (ho4 j hj).elim (HO2.out j) (fun h => Or.inr (Nat.le_trans HG3.out.size h)))
        clear hw4 hg4 ho4
        go_wp2
        refine ⟨⟨m, B1 ++ (x :: l), noteR B1 R1 (l :: m), vB4, vM4, by rw [HEM.out], hfm2, by omega, HW4.out, HG4.out, HO4.out, ?_, ?_, ?_, (noteR_good HR1.out).1⟩, ?_⟩
        · rw [HNW.out, HX.out]
          exact nameW_miss HFI.out
        · simp only [List.length_append, List.length_cons]; omega
        · have := (noteR_good (B := B1) (r := l :: m) HR1.out).2; omega
        · simp [strLenV, ByteArray.size]; omega

set_option maxHeartbeats 400000 in
theorem name_bad (w : World) (g : Nat) (A : Option Addr) (m c H : Nat) (n : List (List UInt8)) (short : Bool) (hl : n.length = m) (hA : Row w H A (n.map sv)) (hm : szN n ≤ maxLen) (hs : soundN n = false) :
    Calls Tryz.prog 73 #[.pointer (some ⟨g, 0, none⟩), .slice A m c, .bool short] w (Told w (.int .i64 5)) := by
  have HSO := Lib.hid (sound_any A m c H n w hl hA hm)
  rw [hs] at HSO
  clear hl hA hs
  go_enter Tryz.func73, Tryz.ntmps73
  go_wp2_with fail
  refine HSO.out.mono ?_
  rintro e w' ⟨rfl, rfl⟩
  go_wp2
  go_ret
  exact ⟨rfl, rfl⟩

set_option maxHeartbeats 400000 in
theorem name_nil (v s : Value) (w : World) : Calls Tryz.prog 73 #[.pointer none, v, s] w (Told w (.int .i64 1)) := by
  go_enter Tryz.func73, Tryz.ntmps73
  go_wp2
  go_ret
  exact ⟨rfl, rfl⟩

end Go.Proofs.YtjkjhpaeckkpjaaGreat

namespace Go.Proofs.YtjkjhpaeckkpjaaGreat
open Go.RowKit

def numsW (s : Int) : List Int → List UInt8
  | [] => []
  | n :: l => putL [] n s ++ numsW s l
theorem numsW_snoc (s : Int) (n : Int) : ∀ l, numsW s (l ++ [n]) = numsW s l ++ putL [] n s
  | [] => by simp [numsW]
  | m :: l => by simp [numsW, numsW_snoc s n l]
theorem length_putL (n s : Int) : (putL [] n s).length ≤ 7 := by
  unfold putL
  split
  · rename_i h
    simp only [fitB, decide_eq_true_eq] at h
    simp [length_digs]
    omega
  · simp
theorem length_numsW (s : Int) : ∀ l : List Int, (numsW s l).length ≤ 7 * l.length
  | [] => by simp [numsW]
  | n :: l => by
    have h1 := length_numsW s l
    have h2 := length_putL n s
    simp only [numsW, List.length_append, List.length_cons]
    omega
def textsW : List (List UInt8) → List UInt8
  | [] => []
  | t :: l => putL [] (t.length : Int) 1 ++ (t ++ textsW l)
theorem textsW_snoc (t : List UInt8) : ∀ l, textsW (l ++ [t]) = textsW l ++ (putL [] (t.length : Int) 1 ++ t)
  | [] => by simp [textsW]
  | m :: l => by simp [textsW, textsW_snoc t l]
theorem length_textsW (M : Nat) : ∀ l : List (List UInt8), (∀ t ∈ l, t.length ≤ M) → (textsW l).length ≤ (M + 7) * l.length
  | [], _ => by simp [textsW]
  | t :: l, h => by
    have h1 := length_textsW M l fun x hx => h x (List.mem_cons_of_mem _ hx)
    have h2 := length_putL (t.length : Int) 1
    have h3 := h t (List.mem_cons_self ..)
    simp only [textsW, List.length_append, List.length_cons, Nat.mul_add]
    omega

/-- A row that stays while blocks in F turn. -/
def Stay (F : Nat → Prop) (w : World) (A : Option Addr) (xs : List Value) : Prop := ∀ w', Grew F w w' → Row w' w'.heap.size A xs
theorem Stay.row {F : Nat → Prop} {w : World} {A : Option Addr} {xs : List Value} (h : Stay F w A xs) : Row w w.heap.size A xs := h w (Grew.refl _ _)

theorem Penned.more {base : Nat} {w w1 w2 : World} {g : Nat} {vB vM : Value} {B : List UInt8} {R : Rs} (h : Penned base w g vB vM B R w1) (hb : Below w1.heap.size w1 w2) : Penned base w g vB vM B R w2 := by
  obtain ⟨vB1, vM1, h1, hg, hf⟩ := h
  exact ⟨vB1, vM1, h1.below hb, hg.then_below hb, hf⟩
theorem Penned.next {base : Nat} {w w1 w2 : World} {g : Nat} {vB vM vB1 vM1 : Value} {B B2 : List UInt8} {R R2 : Rs} (_ : Wr w1 base g vB1 vM1 B R) (hg : Grew (ownF g vB vM) w w1) (hf : ∀ j, ownF g vB1 vM1 j → ownF g vB vM j ∨ w.heap.size ≤ j)
    (h2 : Penned base w1 g vB1 vM1 B2 R2 w2) : Penned base w g vB vM B2 R2 w2 := Penned.then hg hf h2

def PNRel (base : Nat) (w : World) (g : Nat) (vB vM : Value) (B : List UInt8) (R : Rs) (s : Int) (l : List Int) (i : Value) (wr : World) : Prop :=
  ∃ k : Nat, k ≤ l.length ∧ i = .int .i64 k ∧ Penned base w g vB vM (B ++ numsW s (l.take k)) R wr

set_option maxRecDepth 4000 in
set_option maxHeartbeats 1000000 in
theorem putNums_any (base : Nat) (w : World) (g : Nat) (vB vM : Value) (B : List UInt8) (R : Rs) (A : Option Addr) (m c : Nat) (l : List Int) (s : Int) (h : Wr w base g vB vM B R) (hl : l.length = m) (hA : Stay (ownF g vB vM) w A (l.map zv)) (hm : m ≤ 1000) (hB : B.length ≤ 1000000000) :
    Calls Tryz.prog 88 #[.pointer (some ⟨g, 0, none⟩), .slice A m c, .int .i64 s] w (fun e w' => e = .returned (.tuple #[]) ∧ Penned base w g vB vM (B ++ numsW s l) R w') := by
  have HNUM := Lib.hid (fun W vB1 vM1 B1 n (h : Wr W base g vB1 vM1 B1 R) hb => num_any base W g vB1 vM1 B1 R n s h hb)
  have HA := Lib.hid hA
  have HL := Lib.hid hl
  have HW := Lib.hid h
  clear h hA hl
  go_enter Tryz.func88, Tryz.ntmps88
  go_wp2
  go_loopw [10] (PNRel base w g vB vM B R s l) (fun i _ => m - (intOf i).toNat)
  case atStart => exact ⟨0, Nat.zero_le _, rfl, by simpa [numsW] using Penned.refl HW.out⟩
  case round =>
    obtain ⟨k, hk, rfl, hp⟩ := hrel
    by_cases hlt : k < m
    · have hkl : k < l.length := by rw [HL.out]; exact hlt
      obtain ⟨vB1, vM1, h1, hg, hf⟩ := hp
      obtain ⟨b, off, rfl, _, hc⟩ := (HA.out wr hg).int_at hkl
      have hlen : (B ++ numsW s (l.take k)).length ≤ 140737488354000 := by
        have := length_numsW s (l.take k)
        rw [List.length_append]
        rw [List.length_take] at this
        omega
      have H1 := Lib.hid h1
      have HG := Lib.hid hg
      have HF := Lib.hid hf
      have HLEN := Lib.hid hlen
      clear h1 hg hf hlen
      go_wp2_with fail
      refine (HNUM.out wr vB1 vM1 _ l[k] H1.out HLEN.out).mono ?_
      rintro e w1 ⟨rfl, hp⟩
      have HP := Lib.hid (Penned.next H1.out HG.out HF.out hp)
      clear hp
      go_wp2
      refine ⟨⟨k + 1, hkl, by go_num, ?_⟩, by simp [intOf]; omega⟩
      rw [List.take_succ_eq_append_getElem hkl, numsW_snoc, ← List.append_assoc]
      exact HP.out
    · obtain rfl : k = m := by have := HL.out; omega
      have HP := Lib.hid hp
      clear hp
      go_wp2
      go_end0
      exact ⟨rfl, by have h := HP.out; rw [← HL.out, List.take_length] at h; exact h⟩

def PTRel (base : Nat) (w : World) (g : Nat) (vB vM : Value) (B : List UInt8) (R : Rs) (l : List (List UInt8)) (i : Value) (wr : World) : Prop :=
  ∃ k : Nat, k ≤ l.length ∧ i = .int .i64 k ∧ Penned base w g vB vM (B ++ textsW (l.take k)) R wr

set_option maxRecDepth 4000 in
set_option maxHeartbeats 1000000 in
theorem putTexts_any (base : Nat) (w : World) (g : Nat) (vB vM : Value) (B : List UInt8) (R : Rs) (A : Option Addr) (m c : Nat) (l : List (List UInt8)) (h : Wr w base g vB vM B R) (hl : l.length = m) (hA : Stay (ownF g vB vM) w A (l.map sv)) (hm : m ≤ 1000) (hB : B.length ≤ 1000000000) (ht : ∀ t ∈ l, t.length ≤ 1000) :
    Calls Tryz.prog 89 #[.pointer (some ⟨g, 0, none⟩), .slice A m c] w (fun e w' => e = .returned (.tuple #[]) ∧ Penned base w g vB vM (B ++ textsW l) R w') := by
  have HNUM := Lib.hid (fun W vB1 vM1 B1 n (h : Wr W base g vB1 vM1 B1 R) hb => num_any base W g vB1 vM1 B1 R n 1 h hb)
  have HRAW := Lib.hid (fun W vB1 vM1 B1 A1 m1 c1 H1 l1 (h : Wr W base g vB1 vM1 B1 R) hl1 hr1 hb => raw_any base W g vB1 vM1 B1 R A1 m1 c1 H1 l1 h hl1 hr1 hb)
  have HA := Lib.hid hA
  have HL := Lib.hid hl
  have HW := Lib.hid h
  have HT := Lib.hid ht
  clear h hA hl ht
  go_enter Tryz.func89, Tryz.ntmps89
  go_wp2
  go_loopw [8] (PTRel base w g vB vM B R l) (fun i _ => m - (intOf i).toNat)
  case atStart => exact ⟨0, Nat.zero_le _, rfl, by simpa [textsW] using Penned.refl HW.out⟩
  case round =>
    obtain ⟨k, hk, rfl, hp⟩ := hrel
    by_cases hlt : k < m
    · have hkl : k < l.length := by rw [HL.out]; exact hlt
      obtain ⟨vB1, vM1, h1, hg, hf⟩ := hp
      obtain ⟨b, off, rfl, _, hc⟩ := (HA.out wr hg).name_at hkl
      have hlk := HT.out l[k] (List.getElem_mem hkl)
      have hlen : (B ++ textsW (l.take k)).length + 3000 ≤ 140737488354000 := by
        have := length_textsW 1000 (l.take k) fun t ht => HT.out t (List.mem_of_mem_take ht)
        rw [List.length_append]
        rw [List.length_take] at this
        have h3 : (1000 + 7) * min k l.length ≤ (1000 + 7) * 1000 := Nat.mul_le_mul_left _ (by omega)
        omega
      have H1 := Lib.hid h1
      have HG := Lib.hid hg
      have HF := Lib.hid hf
      have HLEN := Lib.hid hlen
      have HTS := Lib.hid (show textsW (l.take (k + 1)) = textsW (l.take k) ++ (putL [] (l[k].length : Int) 1 ++ l[k]) by rw [List.take_succ_eq_append_getElem hkl, textsW_snoc])
      obtain ⟨t, htt⟩ : ∃ t, t = l[k] := ⟨_, rfl⟩
      rw [← htt] at hc hlk HTS
      clear h1 hg hf hlen htt
      go_wp2_with fail
      refine (HNUM.out wr vB1 vM1 _ (t.length : Int) H1.out (by have := HLEN.out; omega)).mono ?_
      rintro e w1 ⟨rfl, hp⟩
      have HP := Lib.hid (Penned.next H1.out HG.out HF.out hp)
      clear hp
      go_wp2_with (refine wpList_bytes rfl (.tmp 17) 9 29 5 rfl Tryz.underlying9 Tryz.underlying29 Tryz.underlying5 t rfl ?_; intro C4 w2 hC4 hM4 hB4 hs4)
      obtain ⟨vB2, vM2, h2, hg2, hf2⟩ := HP.out.more hB4
      have hr := hM4.row.take t.length
      rw [List.take_left' (by rw [List.length_map])] at hr
      have HR := Lib.hid hr
      have H2 := Lib.hid h2
      have HG2 := Lib.hid hg2
      have HF2 := Lib.hid hf2
      clear hr h2 hg2 hf2 hM4 hB4 hs4
      have hp7 := length_putL (t.length : Int) 1
      refine (HRAW.out w2 vB2 vM2 _ _ t.length C4 _ t H2.out rfl HR.out (by have := HLEN.out; rw [List.length_append]; omega)).mono ?_
      rintro e w3 ⟨rfl, hp⟩
      have HP3 := Lib.hid (Penned.next H2.out HG2.out HF2.out hp)
      clear hp
      go_wp2
      refine ⟨⟨k + 1, hkl, by go_num, ?_⟩, by simp [intOf]; omega⟩
      rw [HTS.out, ← List.append_assoc, ← List.append_assoc]
      exact HP3.out
    · obtain rfl : k = m := by have := HL.out; omega
      have HP := Lib.hid hp
      clear hp
      go_wp2
      go_end0
      exact ⟨rfl, by have h := HP.out; rw [← HL.out, List.take_length] at h; exact h⟩

end Go.Proofs.YtjkjhpaeckkpjaaGreat
