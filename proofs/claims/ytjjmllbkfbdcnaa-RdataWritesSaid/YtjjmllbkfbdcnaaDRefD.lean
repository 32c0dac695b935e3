/-
  The contracts of the document's Data and Exact.
-/
import Derived.Test.YtjjmllbkfbdcnaaDRef
namespace Go.Proofs.Ytjjmllbkfbdcnaa
open Go.RowKit

/-- What the document's Data asks of its argument. -/
structure RefIn (d : Dt) : Prop where
  h : szN d.host ≤ maxLen
  m : szN d.mail ≤ maxLen
  t : d.texts.length ≤ maxLen
  tl : ∀ k (h : k < d.texts.length), (d.texts[k]).length ≤ maxLen
  n : ∀ n ∈ d.nums, n ≤ 9223372036854775807

theorem rdata_kind (k : Int) (x : DV) (d : Dt) (w : World) (hk : kindB k = false) :
    Calls Try.prog 17 #[.int .i64 k, x.val d] w (Gave w (.bool (soundD k d))) := by
  have HB := Lib.hid ((Below.refl _ w).alloc (Nat.le_refl _) (.cells #[x.vb d, x.vh d, x.vm d, x.vn d, x.vt d] 26))
  have HS := Lib.hid (show soundD k d = false by unfold soundD; rw [hk]; rfl)
  have h : k < 1 ∨ 65535 < k := by
    unfold kindB at hk
    simp only [decide_eq_false_iff_not] at hk
    omega
  clear hk
  by_cases h1 : k < 1
  · have d1 : decide (k < 1) = true := by simp; omega
    clear h h1
    go_enter Try.func17, Try.ntmps17
    go_wp2
    go_ret
    exact ⟨by rw [HS.out]; rfl, HB.out⟩
  · have d1 : decide (k < 1) = false := by simp; omega
    have d2 : decide (65535 < k) = true := by simp; omega
    clear h h1
    go_enter Try.func17, Try.ntmps17
    go_wp2
    go_ret
    exact ⟨by rw [HS.out]; rfl, HB.out⟩

set_option maxRecDepth 4000 in
set_option maxHeartbeats 1000000 in
theorem rdata_1 (x : DV) (d : Dt) (w : World) (hx : DataAt w w.heap.size x d) (hi : RefIn d) :
    Calls Try.prog 17 #[.int .i64 1, x.val d] w (Gave w (.bool (soundD 1 d))) := by
  have kn : d.nums.length ≤ maxLen := Nat.le_trans hx.ln hx.kn
  have kb : d.bytes.length ≤ maxLen := Nat.le_trans hx.lb hx.kb
  obtain ⟨W, hW⟩ : ∃ W, W = w.alloc (.cells #[.slice x.Ab d.bytes.length x.cb, .slice x.Ah d.host.length x.ch, .slice x.Am d.mail.length x.cm, .slice x.An d.nums.length x.cn, .slice x.At d.texts.length x.ct] 26) := ⟨_, rfl⟩
  have hD : DataAt W w.heap.size x d := by rw [hW]; exact hx.alloc (Nat.le_refl _) _
  have hB : Below w.heap.size w W := by rw [hW]; exact (Below.refl _ _).alloc (Nat.le_refl _) _
  have hsz : w.heap.size ≤ W.heap.size := by rw [hW]; simp
  have hwh : Whole W w.heap.size 26 [x.vb d, x.vh d, x.vm d, x.vn d, x.vt d] := by rw [hW]; exact Whole.made w [x.vb d, x.vh d, x.vm d, x.vn d, x.vt d] _
  have c0 : W.cell? ⟨w.heap.size, 0, none⟩ = some (.slice x.Ab d.bytes.length x.cb) := hwh.cell 0
  have c1 : W.cell? ⟨w.heap.size, 1, none⟩ = some (.slice x.Ah d.host.length x.ch) := hwh.cell 1
  have c2 : W.cell? ⟨w.heap.size, 2, none⟩ = some (.slice x.Am d.mail.length x.cm) := hwh.cell 2
  have c3 : W.cell? ⟨w.heap.size, 3, none⟩ = some (.slice x.An d.nums.length x.cn) := hwh.cell 3
  have c4 : W.cell? ⟨w.heap.size, 4, none⟩ = some (.slice x.At d.texts.length x.ct) := hwh.cell 4
  have HB := Lib.hid hB
  have HW := Lib.hid hW
  have HH := Lib.hid (fun (_ : Unit) => ref_sound_any x.Ah d.host.length x.ch w.heap.size d.host W rfl hD.h hi.h)
  have HM := Lib.hid (fun (_ : Unit) => ref_sound_any x.Am d.mail.length x.cm w.heap.size d.mail W rfl hD.m hi.m)
  have HF := Lib.hid (fun (_ : Unit) (a : Nat) (s : Int) => fit_any x.An d.nums.length x.cn w.heap.size d.nums a s W rfl hD.n kn hi.n)
  have HSZ := Lib.hid hsz
  unfold maxLen at kb kn
  have HS := Lib.hid (soundD_1 d)
  clear hD hB hwh hsz hx hi hW
  cases hv : decide (d.bytes.length = 4) with
  | false =>
    have t0 : ((d.bytes.length : Int) == 4) = false := by rw [beq_eq_false_iff_ne]; have := of_decide_eq_false hv; omega
    rw [hv] at HS
    clear hv
    go_enter Try.func17, Try.ntmps17
    rw [HW.out] at c0 c1 c2 c3 c4
    go_wp2
    go_ret
    exact ⟨by rw [HS.out]; rfl, by have h := HB.out; rw [HW.out] at h; exact h⟩
  | true =>
  have t0 : ((d.bytes.length : Int) == 4) = true := by rw [beq_iff_eq]; have := of_decide_eq_true hv; omega
  rw [hv] at HS
  clear hv
  go_enter Try.func17, Try.ntmps17
  rw [HW.out] at c0 c1 c2 c3 c4
  go_wp2_with fail
  rw [← HW.out]
  refine (empty_a x d W).mono ?_
  rintro e w' ⟨rfl, hb⟩
  have HE := Lib.hid (HB.out.trans (hb.mono HSZ.out))
  clear hb
  go_wp2
  go_ret
  refine ⟨?_, HE.out⟩
  rw [HS.out]
  simp

set_option maxRecDepth 4000 in
set_option maxHeartbeats 1000000 in
theorem rdata_28 (x : DV) (d : Dt) (w : World) (hx : DataAt w w.heap.size x d) (hi : RefIn d) :
    Calls Try.prog 17 #[.int .i64 28, x.val d] w (Gave w (.bool (soundD 28 d))) := by
  have kn : d.nums.length ≤ maxLen := Nat.le_trans hx.ln hx.kn
  have kb : d.bytes.length ≤ maxLen := Nat.le_trans hx.lb hx.kb
  obtain ⟨W, hW⟩ : ∃ W, W = w.alloc (.cells #[.slice x.Ab d.bytes.length x.cb, .slice x.Ah d.host.length x.ch, .slice x.Am d.mail.length x.cm, .slice x.An d.nums.length x.cn, .slice x.At d.texts.length x.ct] 26) := ⟨_, rfl⟩
  have hD : DataAt W w.heap.size x d := by rw [hW]; exact hx.alloc (Nat.le_refl _) _
  have hB : Below w.heap.size w W := by rw [hW]; exact (Below.refl _ _).alloc (Nat.le_refl _) _
  have hsz : w.heap.size ≤ W.heap.size := by rw [hW]; simp
  have hwh : Whole W w.heap.size 26 [x.vb d, x.vh d, x.vm d, x.vn d, x.vt d] := by rw [hW]; exact Whole.made w [x.vb d, x.vh d, x.vm d, x.vn d, x.vt d] _
  have c0 : W.cell? ⟨w.heap.size, 0, none⟩ = some (.slice x.Ab d.bytes.length x.cb) := hwh.cell 0
  have c1 : W.cell? ⟨w.heap.size, 1, none⟩ = some (.slice x.Ah d.host.length x.ch) := hwh.cell 1
  have c2 : W.cell? ⟨w.heap.size, 2, none⟩ = some (.slice x.Am d.mail.length x.cm) := hwh.cell 2
  have c3 : W.cell? ⟨w.heap.size, 3, none⟩ = some (.slice x.An d.nums.length x.cn) := hwh.cell 3
  have c4 : W.cell? ⟨w.heap.size, 4, none⟩ = some (.slice x.At d.texts.length x.ct) := hwh.cell 4
  have HB := Lib.hid hB
  have HW := Lib.hid hW
  have HH := Lib.hid (fun (_ : Unit) => ref_sound_any x.Ah d.host.length x.ch w.heap.size d.host W rfl hD.h hi.h)
  have HM := Lib.hid (fun (_ : Unit) => ref_sound_any x.Am d.mail.length x.cm w.heap.size d.mail W rfl hD.m hi.m)
  have HF := Lib.hid (fun (_ : Unit) (a : Nat) (s : Int) => fit_any x.An d.nums.length x.cn w.heap.size d.nums a s W rfl hD.n kn hi.n)
  have HSZ := Lib.hid hsz
  unfold maxLen at kb kn
  have HS := Lib.hid (soundD_28 d)
  clear hD hB hwh hsz hx hi hW
  cases hv : decide (d.bytes.length = 16) with
  | false =>
    have t0 : ((d.bytes.length : Int) == 16) = false := by rw [beq_eq_false_iff_ne]; have := of_decide_eq_false hv; omega
    rw [hv] at HS
    clear hv
    go_enter Try.func17, Try.ntmps17
    rw [HW.out] at c0 c1 c2 c3 c4
    go_wp2
    go_ret
    exact ⟨by rw [HS.out]; rfl, by have h := HB.out; rw [HW.out] at h; exact h⟩
  | true =>
  have t0 : ((d.bytes.length : Int) == 16) = true := by rw [beq_iff_eq]; have := of_decide_eq_true hv; omega
  rw [hv] at HS
  clear hv
  go_enter Try.func17, Try.ntmps17
  rw [HW.out] at c0 c1 c2 c3 c4
  go_wp2_with fail
  rw [← HW.out]
  refine (empty_a x d W).mono ?_
  rintro e w' ⟨rfl, hb⟩
  have HE := Lib.hid (HB.out.trans (hb.mono HSZ.out))
  clear hb
  go_wp2
  go_ret
  refine ⟨?_, HE.out⟩
  rw [HS.out]
  simp

set_option maxRecDepth 4000 in
set_option maxHeartbeats 1000000 in
theorem rdata_2 (x : DV) (d : Dt) (w : World) (hx : DataAt w w.heap.size x d) (hi : RefIn d) :
    Calls Try.prog 17 #[.int .i64 2, x.val d] w (Gave w (.bool (soundD 2 d))) := by
  have kn : d.nums.length ≤ maxLen := Nat.le_trans hx.ln hx.kn
  have kb : d.bytes.length ≤ maxLen := Nat.le_trans hx.lb hx.kb
  obtain ⟨W, hW⟩ : ∃ W, W = w.alloc (.cells #[.slice x.Ab d.bytes.length x.cb, .slice x.Ah d.host.length x.ch, .slice x.Am d.mail.length x.cm, .slice x.An d.nums.length x.cn, .slice x.At d.texts.length x.ct] 26) := ⟨_, rfl⟩
  have hD : DataAt W w.heap.size x d := by rw [hW]; exact hx.alloc (Nat.le_refl _) _
  have hB : Below w.heap.size w W := by rw [hW]; exact (Below.refl _ _).alloc (Nat.le_refl _) _
  have hsz : w.heap.size ≤ W.heap.size := by rw [hW]; simp
  have hwh : Whole W w.heap.size 26 [x.vb d, x.vh d, x.vm d, x.vn d, x.vt d] := by rw [hW]; exact Whole.made w [x.vb d, x.vh d, x.vm d, x.vn d, x.vt d] _
  have c0 : W.cell? ⟨w.heap.size, 0, none⟩ = some (.slice x.Ab d.bytes.length x.cb) := hwh.cell 0
  have c1 : W.cell? ⟨w.heap.size, 1, none⟩ = some (.slice x.Ah d.host.length x.ch) := hwh.cell 1
  have c2 : W.cell? ⟨w.heap.size, 2, none⟩ = some (.slice x.Am d.mail.length x.cm) := hwh.cell 2
  have c3 : W.cell? ⟨w.heap.size, 3, none⟩ = some (.slice x.An d.nums.length x.cn) := hwh.cell 3
  have c4 : W.cell? ⟨w.heap.size, 4, none⟩ = some (.slice x.At d.texts.length x.ct) := hwh.cell 4
  have HB := Lib.hid hB
  have HW := Lib.hid hW
  have HH := Lib.hid (fun (_ : Unit) => ref_sound_any x.Ah d.host.length x.ch w.heap.size d.host W rfl hD.h hi.h)
  have HM := Lib.hid (fun (_ : Unit) => ref_sound_any x.Am d.mail.length x.cm w.heap.size d.mail W rfl hD.m hi.m)
  have HF := Lib.hid (fun (_ : Unit) (a : Nat) (s : Int) => fit_any x.An d.nums.length x.cn w.heap.size d.nums a s W rfl hD.n kn hi.n)
  have HSZ := Lib.hid hsz
  unfold maxLen at kb kn
  have HS := Lib.hid (soundD_2 d)
  clear hD hB hwh hsz hx hi hW
  go_enter Try.func17, Try.ntmps17
  rw [HW.out] at c0 c1 c2 c3 c4
  go_wp2_with fail
  rw [← HW.out]
  rw [← HW.out] at c0 c1 c2 c3 c4
  refine (HH.out ()).mono ?_
  intro e w' hO
  obtain ⟨he, hw⟩ := hO
  subst hw
  cases hv : soundN d.host with
  | false =>
    rw [hv] at he HS
    subst he
    go_wp2
    go_ret
    exact ⟨by rw [HS.out]; rfl, HB.out⟩
  | true =>
  rw [hv] at he HS
  subst he
  go_wp2_with fail
  refine (empty_n x d W).mono ?_
  rintro e w' ⟨rfl, hb⟩
  have HE := Lib.hid (HB.out.trans (hb.mono HSZ.out))
  clear hb
  go_wp2
  go_ret
  refine ⟨?_, HE.out⟩
  rw [HS.out]
  simp

set_option maxRecDepth 4000 in
set_option maxHeartbeats 1000000 in
theorem rdata_5 (x : DV) (d : Dt) (w : World) (hx : DataAt w w.heap.size x d) (hi : RefIn d) :
    Calls Try.prog 17 #[.int .i64 5, x.val d] w (Gave w (.bool (soundD 5 d))) := by
  have kn : d.nums.length ≤ maxLen := Nat.le_trans hx.ln hx.kn
  have kb : d.bytes.length ≤ maxLen := Nat.le_trans hx.lb hx.kb
  obtain ⟨W, hW⟩ : ∃ W, W = w.alloc (.cells #[.slice x.Ab d.bytes.length x.cb, .slice x.Ah d.host.length x.ch, .slice x.Am d.mail.length x.cm, .slice x.An d.nums.length x.cn, .slice x.At d.texts.length x.ct] 26) := ⟨_, rfl⟩
  have hD : DataAt W w.heap.size x d := by rw [hW]; exact hx.alloc (Nat.le_refl _) _
  have hB : Below w.heap.size w W := by rw [hW]; exact (Below.refl _ _).alloc (Nat.le_refl _) _
  have hsz : w.heap.size ≤ W.heap.size := by rw [hW]; simp
  have hwh : Whole W w.heap.size 26 [x.vb d, x.vh d, x.vm d, x.vn d, x.vt d] := by rw [hW]; exact Whole.made w [x.vb d, x.vh d, x.vm d, x.vn d, x.vt d] _
  have c0 : W.cell? ⟨w.heap.size, 0, none⟩ = some (.slice x.Ab d.bytes.length x.cb) := hwh.cell 0
  have c1 : W.cell? ⟨w.heap.size, 1, none⟩ = some (.slice x.Ah d.host.length x.ch) := hwh.cell 1
  have c2 : W.cell? ⟨w.heap.size, 2, none⟩ = some (.slice x.Am d.mail.length x.cm) := hwh.cell 2
  have c3 : W.cell? ⟨w.heap.size, 3, none⟩ = some (.slice x.An d.nums.length x.cn) := hwh.cell 3
  have c4 : W.cell? ⟨w.heap.size, 4, none⟩ = some (.slice x.At d.texts.length x.ct) := hwh.cell 4
  have HB := Lib.hid hB
  have HW := Lib.hid hW
  have HH := Lib.hid (fun (_ : Unit) => ref_sound_any x.Ah d.host.length x.ch w.heap.size d.host W rfl hD.h hi.h)
  have HM := Lib.hid (fun (_ : Unit) => ref_sound_any x.Am d.mail.length x.cm w.heap.size d.mail W rfl hD.m hi.m)
  have HF := Lib.hid (fun (_ : Unit) (a : Nat) (s : Int) => fit_any x.An d.nums.length x.cn w.heap.size d.nums a s W rfl hD.n kn hi.n)
  have HSZ := Lib.hid hsz
  unfold maxLen at kb kn
  have HS := Lib.hid (soundD_5 d)
  clear hD hB hwh hsz hx hi hW
  go_enter Try.func17, Try.ntmps17
  rw [HW.out] at c0 c1 c2 c3 c4
  go_wp2_with fail
  rw [← HW.out]
  rw [← HW.out] at c0 c1 c2 c3 c4
  refine (HH.out ()).mono ?_
  intro e w' hO
  obtain ⟨he, hw⟩ := hO
  subst hw
  cases hv : soundN d.host with
  | false =>
    rw [hv] at he HS
    subst he
    go_wp2
    go_ret
    exact ⟨by rw [HS.out]; rfl, HB.out⟩
  | true =>
  rw [hv] at he HS
  subst he
  go_wp2_with fail
  refine (empty_n x d W).mono ?_
  rintro e w' ⟨rfl, hb⟩
  have HE := Lib.hid (HB.out.trans (hb.mono HSZ.out))
  clear hb
  go_wp2
  go_ret
  refine ⟨?_, HE.out⟩
  rw [HS.out]
  simp

set_option maxRecDepth 4000 in
set_option maxHeartbeats 1000000 in
theorem rdata_12 (x : DV) (d : Dt) (w : World) (hx : DataAt w w.heap.size x d) (hi : RefIn d) :
    Calls Try.prog 17 #[.int .i64 12, x.val d] w (Gave w (.bool (soundD 12 d))) := by
  have kn : d.nums.length ≤ maxLen := Nat.le_trans hx.ln hx.kn
  have kb : d.bytes.length ≤ maxLen := Nat.le_trans hx.lb hx.kb
  obtain ⟨W, hW⟩ : ∃ W, W = w.alloc (.cells #[.slice x.Ab d.bytes.length x.cb, .slice x.Ah d.host.length x.ch, .slice x.Am d.mail.length x.cm, .slice x.An d.nums.length x.cn, .slice x.At d.texts.length x.ct] 26) := ⟨_, rfl⟩
  have hD : DataAt W w.heap.size x d := by rw [hW]; exact hx.alloc (Nat.le_refl _) _
  have hB : Below w.heap.size w W := by rw [hW]; exact (Below.refl _ _).alloc (Nat.le_refl _) _
  have hsz : w.heap.size ≤ W.heap.size := by rw [hW]; simp
  have hwh : Whole W w.heap.size 26 [x.vb d, x.vh d, x.vm d, x.vn d, x.vt d] := by rw [hW]; exact Whole.made w [x.vb d, x.vh d, x.vm d, x.vn d, x.vt d] _
  have c0 : W.cell? ⟨w.heap.size, 0, none⟩ = some (.slice x.Ab d.bytes.length x.cb) := hwh.cell 0
  have c1 : W.cell? ⟨w.heap.size, 1, none⟩ = some (.slice x.Ah d.host.length x.ch) := hwh.cell 1
  have c2 : W.cell? ⟨w.heap.size, 2, none⟩ = some (.slice x.Am d.mail.length x.cm) := hwh.cell 2
  have c3 : W.cell? ⟨w.heap.size, 3, none⟩ = some (.slice x.An d.nums.length x.cn) := hwh.cell 3
  have c4 : W.cell? ⟨w.heap.size, 4, none⟩ = some (.slice x.At d.texts.length x.ct) := hwh.cell 4
  have HB := Lib.hid hB
  have HW := Lib.hid hW
  have HH := Lib.hid (fun (_ : Unit) => ref_sound_any x.Ah d.host.length x.ch w.heap.size d.host W rfl hD.h hi.h)
  have HM := Lib.hid (fun (_ : Unit) => ref_sound_any x.Am d.mail.length x.cm w.heap.size d.mail W rfl hD.m hi.m)
  have HF := Lib.hid (fun (_ : Unit) (a : Nat) (s : Int) => fit_any x.An d.nums.length x.cn w.heap.size d.nums a s W rfl hD.n kn hi.n)
  have HSZ := Lib.hid hsz
  unfold maxLen at kb kn
  have HS := Lib.hid (soundD_12 d)
  clear hD hB hwh hsz hx hi hW
  go_enter Try.func17, Try.ntmps17
  rw [HW.out] at c0 c1 c2 c3 c4
  go_wp2_with fail
  rw [← HW.out]
  rw [← HW.out] at c0 c1 c2 c3 c4
  refine (HH.out ()).mono ?_
  intro e w' hO
  obtain ⟨he, hw⟩ := hO
  subst hw
  cases hv : soundN d.host with
  | false =>
    rw [hv] at he HS
    subst he
    go_wp2
    go_ret
    exact ⟨by rw [HS.out]; rfl, HB.out⟩
  | true =>
  rw [hv] at he HS
  subst he
  go_wp2_with fail
  refine (empty_n x d W).mono ?_
  rintro e w' ⟨rfl, hb⟩
  have HE := Lib.hid (HB.out.trans (hb.mono HSZ.out))
  clear hb
  go_wp2
  go_ret
  refine ⟨?_, HE.out⟩
  rw [HS.out]
  simp

set_option maxRecDepth 4000 in
set_option maxHeartbeats 1000000 in
theorem rdata_15 (x : DV) (d : Dt) (w : World) (hx : DataAt w w.heap.size x d) (hi : RefIn d) :
    Calls Try.prog 17 #[.int .i64 15, x.val d] w (Gave w (.bool (soundD 15 d))) := by
  have kn : d.nums.length ≤ maxLen := Nat.le_trans hx.ln hx.kn
  have kb : d.bytes.length ≤ maxLen := Nat.le_trans hx.lb hx.kb
  obtain ⟨W, hW⟩ : ∃ W, W = w.alloc (.cells #[.slice x.Ab d.bytes.length x.cb, .slice x.Ah d.host.length x.ch, .slice x.Am d.mail.length x.cm, .slice x.An d.nums.length x.cn, .slice x.At d.texts.length x.ct] 26) := ⟨_, rfl⟩
  have hD : DataAt W w.heap.size x d := by rw [hW]; exact hx.alloc (Nat.le_refl _) _
  have hB : Below w.heap.size w W := by rw [hW]; exact (Below.refl _ _).alloc (Nat.le_refl _) _
  have hsz : w.heap.size ≤ W.heap.size := by rw [hW]; simp
  have hwh : Whole W w.heap.size 26 [x.vb d, x.vh d, x.vm d, x.vn d, x.vt d] := by rw [hW]; exact Whole.made w [x.vb d, x.vh d, x.vm d, x.vn d, x.vt d] _
  have c0 : W.cell? ⟨w.heap.size, 0, none⟩ = some (.slice x.Ab d.bytes.length x.cb) := hwh.cell 0
  have c1 : W.cell? ⟨w.heap.size, 1, none⟩ = some (.slice x.Ah d.host.length x.ch) := hwh.cell 1
  have c2 : W.cell? ⟨w.heap.size, 2, none⟩ = some (.slice x.Am d.mail.length x.cm) := hwh.cell 2
  have c3 : W.cell? ⟨w.heap.size, 3, none⟩ = some (.slice x.An d.nums.length x.cn) := hwh.cell 3
  have c4 : W.cell? ⟨w.heap.size, 4, none⟩ = some (.slice x.At d.texts.length x.ct) := hwh.cell 4
  have HB := Lib.hid hB
  have HW := Lib.hid hW
  have HH := Lib.hid (fun (_ : Unit) => ref_sound_any x.Ah d.host.length x.ch w.heap.size d.host W rfl hD.h hi.h)
  have HM := Lib.hid (fun (_ : Unit) => ref_sound_any x.Am d.mail.length x.cm w.heap.size d.mail W rfl hD.m hi.m)
  have HF := Lib.hid (fun (_ : Unit) (a : Nat) (s : Int) => fit_any x.An d.nums.length x.cn w.heap.size d.nums a s W rfl hD.n kn hi.n)
  have HSZ := Lib.hid hsz
  unfold maxLen at kb kn
  have HS := Lib.hid (soundD_15 d)
  clear hD hB hwh hsz hx hi hW
  go_enter Try.func17, Try.ntmps17
  rw [HW.out] at c0 c1 c2 c3 c4
  go_wp2_with fail
  rw [← HW.out]
  rw [← HW.out] at c0 c1 c2 c3 c4
  refine (HH.out ()).mono ?_
  intro e w' hO
  obtain ⟨he, hw⟩ := hO
  subst hw
  cases hv : soundN d.host with
  | false =>
    rw [hv] at he HS
    subst he
    go_wp2
    go_ret
    exact ⟨by rw [HS.out]; rfl, HB.out⟩
  | true =>
  rw [hv] at he HS
  subst he
  go_wp2_with fail
  refine (HF.out () 1 2).mono ?_
  intro e w' hO
  obtain ⟨he, hw⟩ := hO
  subst hw
  cases hv : fitN 1 2 d.nums with
  | false =>
    rw [hv] at he HS
    subst he
    go_wp2
    go_ret
    exact ⟨by rw [HS.out]; rfl, HB.out⟩
  | true =>
  rw [hv] at he HS
  subst he
  go_wp2_with fail
  refine (empty_x x d W).mono ?_
  rintro e w' ⟨rfl, hb⟩
  have HE := Lib.hid (HB.out.trans (hb.mono HSZ.out))
  clear hb
  go_wp2
  go_ret
  refine ⟨?_, HE.out⟩
  rw [HS.out]
  simp

set_option maxRecDepth 4000 in
set_option maxHeartbeats 1000000 in
theorem rdata_33 (x : DV) (d : Dt) (w : World) (hx : DataAt w w.heap.size x d) (hi : RefIn d) :
    Calls Try.prog 17 #[.int .i64 33, x.val d] w (Gave w (.bool (soundD 33 d))) := by
  have kn : d.nums.length ≤ maxLen := Nat.le_trans hx.ln hx.kn
  have kb : d.bytes.length ≤ maxLen := Nat.le_trans hx.lb hx.kb
  obtain ⟨W, hW⟩ : ∃ W, W = w.alloc (.cells #[.slice x.Ab d.bytes.length x.cb, .slice x.Ah d.host.length x.ch, .slice x.Am d.mail.length x.cm, .slice x.An d.nums.length x.cn, .slice x.At d.texts.length x.ct] 26) := ⟨_, rfl⟩
  have hD : DataAt W w.heap.size x d := by rw [hW]; exact hx.alloc (Nat.le_refl _) _
  have hB : Below w.heap.size w W := by rw [hW]; exact (Below.refl _ _).alloc (Nat.le_refl _) _
  have hsz : w.heap.size ≤ W.heap.size := by rw [hW]; simp
  have hwh : Whole W w.heap.size 26 [x.vb d, x.vh d, x.vm d, x.vn d, x.vt d] := by rw [hW]; exact Whole.made w [x.vb d, x.vh d, x.vm d, x.vn d, x.vt d] _
  have c0 : W.cell? ⟨w.heap.size, 0, none⟩ = some (.slice x.Ab d.bytes.length x.cb) := hwh.cell 0
  have c1 : W.cell? ⟨w.heap.size, 1, none⟩ = some (.slice x.Ah d.host.length x.ch) := hwh.cell 1
  have c2 : W.cell? ⟨w.heap.size, 2, none⟩ = some (.slice x.Am d.mail.length x.cm) := hwh.cell 2
  have c3 : W.cell? ⟨w.heap.size, 3, none⟩ = some (.slice x.An d.nums.length x.cn) := hwh.cell 3
  have c4 : W.cell? ⟨w.heap.size, 4, none⟩ = some (.slice x.At d.texts.length x.ct) := hwh.cell 4
  have HB := Lib.hid hB
  have HW := Lib.hid hW
  have HH := Lib.hid (fun (_ : Unit) => ref_sound_any x.Ah d.host.length x.ch w.heap.size d.host W rfl hD.h hi.h)
  have HM := Lib.hid (fun (_ : Unit) => ref_sound_any x.Am d.mail.length x.cm w.heap.size d.mail W rfl hD.m hi.m)
  have HF := Lib.hid (fun (_ : Unit) (a : Nat) (s : Int) => fit_any x.An d.nums.length x.cn w.heap.size d.nums a s W rfl hD.n kn hi.n)
  have HSZ := Lib.hid hsz
  unfold maxLen at kb kn
  have HS := Lib.hid (soundD_33 d)
  clear hD hB hwh hsz hx hi hW
  go_enter Try.func17, Try.ntmps17
  rw [HW.out] at c0 c1 c2 c3 c4
  go_wp2_with fail
  rw [← HW.out]
  rw [← HW.out] at c0 c1 c2 c3 c4
  refine (HH.out ()).mono ?_
  intro e w' hO
  obtain ⟨he, hw⟩ := hO
  subst hw
  cases hv : soundN d.host with
  | false =>
    rw [hv] at he HS
    subst he
    go_wp2
    go_ret
    exact ⟨by rw [HS.out]; rfl, HB.out⟩
  | true =>
  rw [hv] at he HS
  subst he
  go_wp2_with fail
  refine (HF.out () 3 2).mono ?_
  intro e w' hO
  obtain ⟨he, hw⟩ := hO
  subst hw
  cases hv : fitN 3 2 d.nums with
  | false =>
    rw [hv] at he HS
    subst he
    go_wp2
    go_ret
    exact ⟨by rw [HS.out]; rfl, HB.out⟩
  | true =>
  rw [hv] at he HS
  subst he
  go_wp2_with fail
  refine (empty_x x d W).mono ?_
  rintro e w' ⟨rfl, hb⟩
  have HE := Lib.hid (HB.out.trans (hb.mono HSZ.out))
  clear hb
  go_wp2
  go_ret
  refine ⟨?_, HE.out⟩
  rw [HS.out]
  simp

set_option maxRecDepth 4000 in
set_option maxHeartbeats 1000000 in
theorem rdata_6 (x : DV) (d : Dt) (w : World) (hx : DataAt w w.heap.size x d) (hi : RefIn d) :
    Calls Try.prog 17 #[.int .i64 6, x.val d] w (Gave w (.bool (soundD 6 d))) := by
  have kn : d.nums.length ≤ maxLen := Nat.le_trans hx.ln hx.kn
  have kb : d.bytes.length ≤ maxLen := Nat.le_trans hx.lb hx.kb
  obtain ⟨W, hW⟩ : ∃ W, W = w.alloc (.cells #[.slice x.Ab d.bytes.length x.cb, .slice x.Ah d.host.length x.ch, .slice x.Am d.mail.length x.cm, .slice x.An d.nums.length x.cn, .slice x.At d.texts.length x.ct] 26) := ⟨_, rfl⟩
  have hD : DataAt W w.heap.size x d := by rw [hW]; exact hx.alloc (Nat.le_refl _) _
  have hB : Below w.heap.size w W := by rw [hW]; exact (Below.refl _ _).alloc (Nat.le_refl _) _
  have hsz : w.heap.size ≤ W.heap.size := by rw [hW]; simp
  have hwh : Whole W w.heap.size 26 [x.vb d, x.vh d, x.vm d, x.vn d, x.vt d] := by rw [hW]; exact Whole.made w [x.vb d, x.vh d, x.vm d, x.vn d, x.vt d] _
  have c0 : W.cell? ⟨w.heap.size, 0, none⟩ = some (.slice x.Ab d.bytes.length x.cb) := hwh.cell 0
  have c1 : W.cell? ⟨w.heap.size, 1, none⟩ = some (.slice x.Ah d.host.length x.ch) := hwh.cell 1
  have c2 : W.cell? ⟨w.heap.size, 2, none⟩ = some (.slice x.Am d.mail.length x.cm) := hwh.cell 2
  have c3 : W.cell? ⟨w.heap.size, 3, none⟩ = some (.slice x.An d.nums.length x.cn) := hwh.cell 3
  have c4 : W.cell? ⟨w.heap.size, 4, none⟩ = some (.slice x.At d.texts.length x.ct) := hwh.cell 4
  have HB := Lib.hid hB
  have HW := Lib.hid hW
  have HH := Lib.hid (fun (_ : Unit) => ref_sound_any x.Ah d.host.length x.ch w.heap.size d.host W rfl hD.h hi.h)
  have HM := Lib.hid (fun (_ : Unit) => ref_sound_any x.Am d.mail.length x.cm w.heap.size d.mail W rfl hD.m hi.m)
  have HF := Lib.hid (fun (_ : Unit) (a : Nat) (s : Int) => fit_any x.An d.nums.length x.cn w.heap.size d.nums a s W rfl hD.n kn hi.n)
  have HSZ := Lib.hid hsz
  unfold maxLen at kb kn
  have HS := Lib.hid (soundD_6 d)
  clear hD hB hwh hsz hx hi hW
  go_enter Try.func17, Try.ntmps17
  rw [HW.out] at c0 c1 c2 c3 c4
  go_wp2_with fail
  rw [← HW.out]
  rw [← HW.out] at c0 c1 c2 c3 c4
  refine (HH.out ()).mono ?_
  intro e w' hO
  obtain ⟨he, hw⟩ := hO
  subst hw
  cases hv : soundN d.host with
  | false =>
    rw [hv] at he HS
    subst he
    go_wp2
    go_ret
    exact ⟨by rw [HS.out]; rfl, HB.out⟩
  | true =>
  rw [hv] at he HS
  subst he
  go_wp2_with fail
  refine (HM.out ()).mono ?_
  intro e w' hO
  obtain ⟨he, hw⟩ := hO
  subst hw
  cases hv : soundN d.mail with
  | false =>
    rw [hv] at he HS
    subst he
    go_wp2
    go_ret
    exact ⟨by rw [HS.out]; rfl, HB.out⟩
  | true =>
  rw [hv] at he HS
  subst he
  go_wp2_with fail
  refine (HF.out () 5 4).mono ?_
  intro e w' hO
  obtain ⟨he, hw⟩ := hO
  subst hw
  cases hv : fitN 5 4 d.nums with
  | false =>
    rw [hv] at he HS
    subst he
    go_wp2
    go_ret
    exact ⟨by rw [HS.out]; rfl, HB.out⟩
  | true =>
  rw [hv] at he HS
  subst he
  go_wp2_with fail
  refine (empty_s x d W).mono ?_
  rintro e w' ⟨rfl, hb⟩
  have HE := Lib.hid (HB.out.trans (hb.mono HSZ.out))
  clear hb
  go_wp2
  go_ret
  refine ⟨?_, HE.out⟩
  rw [HS.out]
  simp

set_option maxRecDepth 4000 in
set_option maxHeartbeats 1000000 in
theorem rdata_other (k : Int) (x : DV) (d : Dt) (w : World) (hx : DataAt w w.heap.size x d) (hi : RefIn d) (hk : kindB k = true) (hoth : (k == 1) = false ∧ (k == 28) = false ∧ (k == 2) = false ∧ (k == 5) = false ∧ (k == 12) = false ∧ (k == 15) = false ∧ (k == 6) = false ∧ (k == 16) = false ∧ (k == 33) = false) :
    Calls Try.prog 17 #[.int .i64 k, x.val d] w (Gave w (.bool (soundD k d))) := by
  have kn : d.nums.length ≤ maxLen := Nat.le_trans hx.ln hx.kn
  have kb : d.bytes.length ≤ maxLen := Nat.le_trans hx.lb hx.kb
  obtain ⟨W, hW⟩ : ∃ W, W = w.alloc (.cells #[.slice x.Ab d.bytes.length x.cb, .slice x.Ah d.host.length x.ch, .slice x.Am d.mail.length x.cm, .slice x.An d.nums.length x.cn, .slice x.At d.texts.length x.ct] 26) := ⟨_, rfl⟩
  have hD : DataAt W w.heap.size x d := by rw [hW]; exact hx.alloc (Nat.le_refl _) _
  have hB : Below w.heap.size w W := by rw [hW]; exact (Below.refl _ _).alloc (Nat.le_refl _) _
  have hsz : w.heap.size ≤ W.heap.size := by rw [hW]; simp
  have hwh : Whole W w.heap.size 26 [x.vb d, x.vh d, x.vm d, x.vn d, x.vt d] := by rw [hW]; exact Whole.made w [x.vb d, x.vh d, x.vm d, x.vn d, x.vt d] _
  have c0 : W.cell? ⟨w.heap.size, 0, none⟩ = some (.slice x.Ab d.bytes.length x.cb) := hwh.cell 0
  have c1 : W.cell? ⟨w.heap.size, 1, none⟩ = some (.slice x.Ah d.host.length x.ch) := hwh.cell 1
  have c2 : W.cell? ⟨w.heap.size, 2, none⟩ = some (.slice x.Am d.mail.length x.cm) := hwh.cell 2
  have c3 : W.cell? ⟨w.heap.size, 3, none⟩ = some (.slice x.An d.nums.length x.cn) := hwh.cell 3
  have c4 : W.cell? ⟨w.heap.size, 4, none⟩ = some (.slice x.At d.texts.length x.ct) := hwh.cell 4
  have HB := Lib.hid hB
  have HW := Lib.hid hW
  have HH := Lib.hid (fun (_ : Unit) => ref_sound_any x.Ah d.host.length x.ch w.heap.size d.host W rfl hD.h hi.h)
  have HM := Lib.hid (fun (_ : Unit) => ref_sound_any x.Am d.mail.length x.cm w.heap.size d.mail W rfl hD.m hi.m)
  have HF := Lib.hid (fun (_ : Unit) (a : Nat) (s : Int) => fit_any x.An d.nums.length x.cn w.heap.size d.nums a s W rfl hD.n kn hi.n)
  have HSZ := Lib.hid hsz
  unfold maxLen at kb kn
  have HS := Lib.hid (soundD_other d hk hoth)
  obtain ⟨o1, o2, o3, o4, o5, o6, o7, o8, o9⟩ := hoth
  have hkk : 1 ≤ k ∧ k ≤ 65535 := by simpa [kindB] using hk
  have d1 : decide (k < 1) = false := by simp; omega
  have d2 : decide (65535 < k) = false := by simp; omega
  clear hk hkk
  clear hD hB hwh hsz hx hi hW
  cases hv : decide (d.bytes.length ≤ 65535) with
  | false =>
    have t0 : decide ((d.bytes.length : Int) ≤ 65535) = false := by have := of_decide_eq_false hv; simp; omega
    rw [hv] at HS
    clear hv
    go_enter Try.func17, Try.ntmps17
    rw [HW.out] at c0 c1 c2 c3 c4
    go_wp2
    go_ret
    exact ⟨by rw [HS.out]; rfl, by have h := HB.out; rw [HW.out] at h; exact h⟩
  | true =>
  have t0 : decide ((d.bytes.length : Int) ≤ 65535) = true := by have := of_decide_eq_true hv; simp; omega
  rw [hv] at HS
  clear hv
  go_enter Try.func17, Try.ntmps17
  rw [HW.out] at c0 c1 c2 c3 c4
  go_wp2_with fail
  rw [← HW.out]
  refine (empty_a x d W).mono ?_
  rintro e w' ⟨rfl, hb⟩
  have HE := Lib.hid (HB.out.trans (hb.mono HSZ.out))
  clear hb
  go_wp2
  go_ret
  refine ⟨?_, HE.out⟩
  rw [HS.out]
  simp

end Go.Proofs.Ytjjmllbkfbdcnaa
