/-
  The contracts of the document's Data and Exact.
-/
import Derived.Test.YthppgofpbpjglaaGreatFbP2
import Derived.Test.YthppgofpbpjglaaGreatFbP1
import Derived.Test.YthppgofpbpjglaaGreatProg
import Derived.Lib.AppendStr
import Derived.Maps.OwnOps
import Derived.Carry
import Derived.StillTail
namespace Go.Proofs.YthppgofpbpjglaaGreat
open Go.RowKit

/-- What the document's Data asks of its argument. -/
structure RefIn (d : Dt) : Prop where
  h : d.host.length ≤ maxLen ∧ ∀ k (h : k < d.host.length), (d.host[k]).length ≤ maxLen
  m : d.mail.length ≤ maxLen ∧ ∀ k (h : k < d.mail.length), (d.mail[k]).length ≤ maxLen
  t : d.texts.length ≤ maxLen
  tl : ∀ k (h : k < d.texts.length), (d.texts[k]).length ≤ maxLen
  n : ∀ n ∈ d.nums, n ≤ 9223372036854775807

theorem rdata_kind (k : Int) (x : DV) (d : Dt) (w : World) (hk : kindB k = false) :
    Calls Tryz.prog 24 #[.int .i64 k, x.val d] w (Gave w (.bool (soundD k d))) := by
  have HB := Lib.hid ((Below.refl _ w).alloc (Nat.le_refl _) (.cells #[x.vb d, x.vh d, x.vm d, x.vn d, x.vt d] 38))
  have HS := Lib.hid (show soundD k d = false by unfold soundD; rw [hk]; rfl)
  have h : k < 1 ∨ 65535 < k := by
    unfold kindB at hk
    simp only [decide_eq_false_iff_not] at hk
    omega
  clear hk
  by_cases h1 : k < 1
  · have d1 : decide (k < 1) = true := by simp; omega
    clear h h1
    go_enter Tryz.func24, Tryz.ntmps24
    go_wp2
    go_ret
    exact ⟨by rw [HS.out]; rfl, HB.out⟩
  · have d1 : decide (k < 1) = false := by simp; omega
    have d2 : decide (65535 < k) = true := by simp; omega
    clear h h1
    go_enter Tryz.func24, Tryz.ntmps24
    go_wp2
    go_ret
    exact ⟨by rw [HS.out]; rfl, HB.out⟩

set_option maxRecDepth 4000 in
set_option maxHeartbeats 1000000 in
theorem rdata_1 (x : DV) (d : Dt) (w : World) (hx : DataAt w w.heap.size x d) (hi : RefIn d) :
    Calls Tryz.prog 24 #[.int .i64 1, x.val d] w (Gave w (.bool (soundD 1 d))) := by
  have kn : d.nums.length ≤ maxLen := Nat.le_trans hx.ln hx.kn
  have kb : d.bytes.length ≤ maxLen := Nat.le_trans hx.lb hx.kb
  obtain ⟨W, hW⟩ : ∃ W, W = w.alloc (.cells #[.slice x.Ab d.bytes.length x.cb, .slice x.Ah d.host.length x.ch, .slice x.Am d.mail.length x.cm, .slice x.An d.nums.length x.cn, .slice x.At d.texts.length x.ct] 38) := ⟨_, rfl⟩
  have hD : DataAt W w.heap.size x d := by rw [hW]; exact hx.alloc (Nat.le_refl _) _
  have hB : Below w.heap.size w W := by rw [hW]; exact (Below.refl _ _).alloc (Nat.le_refl _) _
  have hsz : w.heap.size ≤ W.heap.size := by rw [hW]; simp
  have hwh : Whole W w.heap.size 38 [x.vb d, x.vh d, x.vm d, x.vn d, x.vt d] := by rw [hW]; exact Whole.made w [x.vb d, x.vh d, x.vm d, x.vn d, x.vt d] _
  have c0 : W.cell? ⟨w.heap.size, 0, none⟩ = some (.slice x.Ab d.bytes.length x.cb) := hwh.cell 0
  have c1 : W.cell? ⟨w.heap.size, 1, none⟩ = some (.slice x.Ah d.host.length x.ch) := hwh.cell 1
  have c2 : W.cell? ⟨w.heap.size, 2, none⟩ = some (.slice x.Am d.mail.length x.cm) := hwh.cell 2
  have c3 : W.cell? ⟨w.heap.size, 3, none⟩ = some (.slice x.An d.nums.length x.cn) := hwh.cell 3
  have c4 : W.cell? ⟨w.heap.size, 4, none⟩ = some (.slice x.At d.texts.length x.ct) := hwh.cell 4
  have HB := Lib.hid hB
  have HW := Lib.hid hW
  have HH := Lib.hid (fun (_ : Unit) => ref_sound_wide x.Ah x.ch w.heap.size d.host W hD.h hi.h.1 hi.h.2)
  have HM := Lib.hid (fun (_ : Unit) => ref_sound_wide x.Am x.cm w.heap.size d.mail W hD.m hi.m.1 hi.m.2)
  have HF := Lib.hid (fun (_ : Unit) (a : Nat) (s : Int) => fit_any x.An d.nums.length x.cn w.heap.size d.nums a s W rfl hD.n kn hi.n)
  have HSZ := Lib.hid hsz
  unfold maxLen at kb kn
  have HS := Lib.hid (soundD_1 d)
  clear hD hB hwh hsz hx hi hW
  cases hv : decide (d.bytes.length = 4) with
  | false =>
    have t0 : ((d.bytes.length : Int) == 4) = false := by rw [beq_eq_false_iff_ne]; have := of_decide_eq_false hv; omega
    rw [hv] at HS
    clear hv
    go_enter Tryz.func24, Tryz.ntmps24
    rw [HW.out] at c0 c1 c2 c3 c4
    go_wp2
    go_ret
    exact ⟨by rw [HS.out]; rfl, by have h := HB.out; rw [HW.out] at h; exact h⟩
  | true =>
  have t0 : ((d.bytes.length : Int) == 4) = true := by rw [beq_iff_eq]; have := of_decide_eq_true hv; omega
  rw [hv] at HS
  clear hv
  go_enter Tryz.func24, Tryz.ntmps24
  rw [HW.out] at c0 c1 c2 c3 c4
  go_wp2_with fail
  rw [← HW.out]
  refine (empty_a x d W).mono ?_
  rintro e w' ⟨rfl, hb⟩
  have HE := Lib.hid (HB.out.trans (hb.mono HSZ.out))
  clear hb
  go_wp2
  go_ret
  refine ⟨?_, HE.out⟩
  rw [HS.out]
  simp

set_option maxRecDepth 4000 in
set_option maxHeartbeats 1000000 in
theorem rdata_28 (x : DV) (d : Dt) (w : World) (hx : DataAt w w.heap.size x d) (hi : RefIn d) :
    Calls Tryz.prog 24 #[.int .i64 28, x.val d] w (Gave w (.bool (soundD 28 d))) := by
  have kn : d.nums.length ≤ maxLen := Nat.le_trans hx.ln hx.kn
  have kb : d.bytes.length ≤ maxLen := Nat.le_trans hx.lb hx.kb
  obtain ⟨W, hW⟩ : ∃ W, W = w.alloc (.cells #[.slice x.Ab d.bytes.length x.cb, .slice x.Ah d.host.length x.ch, .slice x.Am d.mail.length x.cm, .slice x.An d.nums.length x.cn, .slice x.At d.texts.length x.ct] 38) := ⟨_, rfl⟩
  have hD : DataAt W w.heap.size x d := by rw [hW]; exact hx.alloc (Nat.le_refl _) _
  have hB : Below w.heap.size w W := by rw [hW]; exact (Below.refl _ _).alloc (Nat.le_refl _) _
  have hsz : w.heap.size ≤ W.heap.size := by rw [hW]; simp
  have hwh : Whole W w.heap.size 38 [x.vb d, x.vh d, x.vm d, x.vn d, x.vt d] := by rw [hW]; exact Whole.made w [x.vb d, x.vh d, x.vm d, x.vn d, x.vt d] _
  have c0 : W.cell? ⟨w.heap.size, 0, none⟩ = some (.slice x.Ab d.bytes.length x.cb) := hwh.cell 0
  have c1 : W.cell? ⟨w.heap.size, 1, none⟩ = some (.slice x.Ah d.host.length x.ch) := hwh.cell 1
  have c2 : W.cell? ⟨w.heap.size, 2, none⟩ = some (.slice x.Am d.mail.length x.cm) := hwh.cell 2
  have c3 : W.cell? ⟨w.heap.size, 3, none⟩ = some (.slice x.An d.nums.length x.cn) := hwh.cell 3
  have c4 : W.cell? ⟨w.heap.size, 4, none⟩ = some (.slice x.At d.texts.length x.ct) := hwh.cell 4
  have HB := Lib.hid hB
  have HW := Lib.hid hW
  have HH := Lib.hid (fun (_ : Unit) => ref_sound_wide x.Ah x.ch w.heap.size d.host W hD.h hi.h.1 hi.h.2)
  have HM := Lib.hid (fun (_ : Unit) => ref_sound_wide x.Am x.cm w.heap.size d.mail W hD.m hi.m.1 hi.m.2)
  have HF := Lib.hid (fun (_ : Unit) (a : Nat) (s : Int) => fit_any x.An d.nums.length x.cn w.heap.size d.nums a s W rfl hD.n kn hi.n)
  have HSZ := Lib.hid hsz
  unfold maxLen at kb kn
  have HS := Lib.hid (soundD_28 d)
  clear hD hB hwh hsz hx hi hW
  cases hv : decide (d.bytes.length = 16) with
  | false =>
    have t0 : ((d.bytes.length : Int) == 16) = false := by rw [beq_eq_false_iff_ne]; have := of_decide_eq_false hv; omega
    rw [hv] at HS
    clear hv
    go_enter Tryz.func24, Tryz.ntmps24
    rw [HW.out] at c0 c1 c2 c3 c4
    go_wp2
    go_ret
    exact ⟨by rw [HS.out]; rfl, by have h := HB.out; rw [HW.out] at h; exact h⟩
  | true =>
  have t0 : ((d.bytes.length : Int) == 16) = true := by rw [beq_iff_eq]; have := of_decide_eq_true hv; omega
  rw [hv] at HS
  clear hv
  go_enter Tryz.func24, Tryz.ntmps24
  rw [HW.out] at c0 c1 c2 c3 c4
  go_wp2_with fail
  rw [← HW.out]
  refine (empty_a x d W).mono ?_
  rintro e w' ⟨rfl, hb⟩
  have HE := Lib.hid (HB.out.trans (hb.mono HSZ.out))
  clear hb
  go_wp2
  go_ret
  refine ⟨?_, HE.out⟩
  rw [HS.out]
  simp

set_option maxRecDepth 4000 in
set_option maxHeartbeats 1000000 in
theorem rdata_2 (x : DV) (d : Dt) (w : World) (hx : DataAt w w.heap.size x d) (hi : RefIn d) :
    Calls Tryz.prog 24 #[.int .i64 2, x.val d] w (Gave w (.bool (soundD 2 d))) := by
  have kn : d.nums.length ≤ maxLen := Nat.le_trans hx.ln hx.kn
  have kb : d.bytes.length ≤ maxLen := Nat.le_trans hx.lb hx.kb
  obtain ⟨W, hW⟩ : ∃ W, W = w.alloc (.cells #[.slice x.Ab d.bytes.length x.cb, .slice x.Ah d.host.length x.ch, .slice x.Am d.mail.length x.cm, .slice x.An d.nums.length x.cn, .slice x.At d.texts.length x.ct] 38) := ⟨_, rfl⟩
  have hD : DataAt W w.heap.size x d := by rw [hW]; exact hx.alloc (Nat.le_refl _) _
  have hB : Below w.heap.size w W := by rw [hW]; exact (Below.refl _ _).alloc (Nat.le_refl _) _
  have hsz : w.heap.size ≤ W.heap.size := by rw [hW]; simp
  have hwh : Whole W w.heap.size 38 [x.vb d, x.vh d, x.vm d, x.vn d, x.vt d] := by rw [hW]; exact Whole.made w [x.vb d, x.vh d, x.vm d, x.vn d, x.vt d] _
  have c0 : W.cell? ⟨w.heap.size, 0, none⟩ = some (.slice x.Ab d.bytes.length x.cb) := hwh.cell 0
  have c1 : W.cell? ⟨w.heap.size, 1, none⟩ = some (.slice x.Ah d.host.length x.ch) := hwh.cell 1
  have c2 : W.cell? ⟨w.heap.size, 2, none⟩ = some (.slice x.Am d.mail.length x.cm) := hwh.cell 2
  have c3 : W.cell? ⟨w.heap.size, 3, none⟩ = some (.slice x.An d.nums.length x.cn) := hwh.cell 3
  have c4 : W.cell? ⟨w.heap.size, 4, none⟩ = some (.slice x.At d.texts.length x.ct) := hwh.cell 4
  have HB := Lib.hid hB
  have HW := Lib.hid hW
  have HH := Lib.hid (fun (_ : Unit) => ref_sound_wide x.Ah x.ch w.heap.size d.host W hD.h hi.h.1 hi.h.2)
  have HM := Lib.hid (fun (_ : Unit) => ref_sound_wide x.Am x.cm w.heap.size d.mail W hD.m hi.m.1 hi.m.2)
  have HF := Lib.hid (fun (_ : Unit) (a : Nat) (s : Int) => fit_any x.An d.nums.length x.cn w.heap.size d.nums a s W rfl hD.n kn hi.n)
  have HSZ := Lib.hid hsz
  unfold maxLen at kb kn
  have HS := Lib.hid (soundD_2 d)
  clear hD hB hwh hsz hx hi hW
  go_enter Tryz.func24, Tryz.ntmps24
  rw [HW.out] at c0 c1 c2 c3 c4
  go_wp2_with fail
  rw [← HW.out]
  rw [← HW.out] at c0 c1 c2 c3 c4
  refine (HH.out ()).mono ?_
  intro e w' hO
  obtain ⟨he, hw⟩ := hO
  subst hw
  cases hv : soundN d.host with
  | false =>
    rw [hv] at he HS
    subst he
    go_wp2
    go_ret
    exact ⟨by rw [HS.out]; rfl, HB.out⟩
  | true =>
  rw [hv] at he HS
  subst he
  go_wp2_with fail
  refine (empty_n x d W).mono ?_
  rintro e w' ⟨rfl, hb⟩
  have HE := Lib.hid (HB.out.trans (hb.mono HSZ.out))
  clear hb
  go_wp2
  go_ret
  refine ⟨?_, HE.out⟩
  rw [HS.out]
  simp

set_option maxRecDepth 4000 in
set_option maxHeartbeats 1000000 in
theorem rdata_5 (x : DV) (d : Dt) (w : World) (hx : DataAt w w.heap.size x d) (hi : RefIn d) :
    Calls Tryz.prog 24 #[.int .i64 5, x.val d] w (Gave w (.bool (soundD 5 d))) := by
  have kn : d.nums.length ≤ maxLen := Nat.le_trans hx.ln hx.kn
  have kb : d.bytes.length ≤ maxLen := Nat.le_trans hx.lb hx.kb
  obtain ⟨W, hW⟩ : ∃ W, W = w.alloc (.cells #[.slice x.Ab d.bytes.length x.cb, .slice x.Ah d.host.length x.ch, .slice x.Am d.mail.length x.cm, .slice x.An d.nums.length x.cn, .slice x.At d.texts.length x.ct] 38) := ⟨_, rfl⟩
  have hD : DataAt W w.heap.size x d := by rw [hW]; exact hx.alloc (Nat.le_refl _) _
  have hB : Below w.heap.size w W := by rw [hW]; exact (Below.refl _ _).alloc (Nat.le_refl _) _
  have hsz : w.heap.size ≤ W.heap.size := by rw [hW]; simp
  have hwh : Whole W w.heap.size 38 [x.vb d, x.vh d, x.vm d, x.vn d, x.vt d] := by rw [hW]; exact Whole.made w [x.vb d, x.vh d, x.vm d, x.vn d, x.vt d] _
  have c0 : W.cell? ⟨w.heap.size, 0, none⟩ = some (.slice x.Ab d.bytes.length x.cb) := hwh.cell 0
  have c1 : W.cell? ⟨w.heap.size, 1, none⟩ = some (.slice x.Ah d.host.length x.ch) := hwh.cell 1
  have c2 : W.cell? ⟨w.heap.size, 2, none⟩ = some (.slice x.Am d.mail.length x.cm) := hwh.cell 2
  have c3 : W.cell? ⟨w.heap.size, 3, none⟩ = some (.slice x.An d.nums.length x.cn) := hwh.cell 3
  have c4 : W.cell? ⟨w.heap.size, 4, none⟩ = some (.slice x.At d.texts.length x.ct) := hwh.cell 4
  have HB := Lib.hid hB
  have HW := Lib.hid hW
  have HH := Lib.hid (fun (_ : Unit) => ref_sound_wide x.Ah x.ch w.heap.size d.host W hD.h hi.h.1 hi.h.2)
  have HM := Lib.hid (fun (_ : Unit) => ref_sound_wide x.Am x.cm w.heap.size d.mail W hD.m hi.m.1 hi.m.2)
  have HF := Lib.hid (fun (_ : Unit) (a : Nat) (s : Int) => fit_any x.An d.nums.length x.cn w.heap.size d.nums a s W rfl hD.n kn hi.n)
  have HSZ := Lib.hid hsz
  unfold maxLen at kb kn
  have HS := Lib.hid (soundD_5 d)
  clear hD hB hwh hsz hx hi hW
  go_enter Tryz.func24, Tryz.ntmps24
  rw [HW.out] at c0 c1 c2 c3 c4
  go_wp2_with fail
  rw [← HW.out]
  rw [← HW.out] at c0 c1 c2 c3 c4
  refine (HH.out ()).mono ?_
  intro e w' hO
  obtain ⟨he, hw⟩ := hO
  subst hw
  cases hv : soundN d.host with
  | false =>
    rw [hv] at he HS
    subst he
    go_wp2
    go_ret
    exact ⟨by rw [HS.out]; rfl, HB.out⟩
  | true =>
  rw [hv] at he HS
  subst he
  go_wp2_with fail
  refine (empty_n x d W).mono ?_
  rintro e w' ⟨rfl, hb⟩
  have HE := Lib.hid (HB.out.trans (hb.mono HSZ.out))
  clear hb
  go_wp2
  go_ret
  refine ⟨?_, HE.out⟩
  rw [HS.out]
  simp

set_option maxRecDepth 4000 in
set_option maxHeartbeats 1000000 in
theorem rdata_12 (x : DV) (d : Dt) (w : World) (hx : DataAt w w.heap.size x d) (hi : RefIn d) :
    Calls Tryz.prog 24 #[.int .i64 12, x.val d] w (Gave w (.bool (soundD 12 d))) := by
  have kn : d.nums.length ≤ maxLen := Nat.le_trans hx.ln hx.kn
  have kb : d.bytes.length ≤ maxLen := Nat.le_trans hx.lb hx.kb
  obtain ⟨W, hW⟩ : ∃ W, W = w.alloc (.cells #[.slice x.Ab d.bytes.length x.cb, .slice x.Ah d.host.length x.ch, .slice x.Am d.mail.length x.cm, .slice x.An d.nums.length x.cn, .slice x.At d.texts.length x.ct] 38) := ⟨_, rfl⟩
  have hD : DataAt W w.heap.size x d := by rw [hW]; exact hx.alloc (Nat.le_refl _) _
  have hB : Below w.heap.size w W := by rw [hW]; exact (Below.refl _ _).alloc (Nat.le_refl _) _
  have hsz : w.heap.size ≤ W.heap.size := by rw [hW]; simp
  have hwh : Whole W w.heap.size 38 [x.vb d, x.vh d, x.vm d, x.vn d, x.vt d] := by rw [hW]; exact Whole.made w [x.vb d, x.vh d, x.vm d, x.vn d, x.vt d] _
  have c0 : W.cell? ⟨w.heap.size, 0, none⟩ = some (.slice x.Ab d.bytes.length x.cb) := hwh.cell 0
  have c1 : W.cell? ⟨w.heap.size, 1, none⟩ = some (.slice x.Ah d.host.length x.ch) := hwh.cell 1
  have c2 : W.cell? ⟨w.heap.size, 2, none⟩ = some (.slice x.Am d.mail.length x.cm) := hwh.cell 2
  have c3 : W.cell? ⟨w.heap.size, 3, none⟩ = some (.slice x.An d.nums.length x.cn) := hwh.cell 3
  have c4 : W.cell? ⟨w.heap.size, 4, none⟩ = some (.slice x.At d.texts.length x.ct) := hwh.cell 4
  have HB := Lib.hid hB
  have HW := Lib.hid hW
  have HH := Lib.hid (fun (_ : Unit) => ref_sound_wide x.Ah x.ch w.heap.size d.host W hD.h hi.h.1 hi.h.2)
  have HM := Lib.hid (fun (_ : Unit) => ref_sound_wide x.Am x.cm w.heap.size d.mail W hD.m hi.m.1 hi.m.2)
  have HF := Lib.hid (fun (_ : Unit) (a : Nat) (s : Int) => fit_any x.An d.nums.length x.cn w.heap.size d.nums a s W rfl hD.n kn hi.n)
  have HSZ := Lib.hid hsz
  unfold maxLen at kb kn
  have HS := Lib.hid (soundD_12 d)
  clear hD hB hwh hsz hx hi hW
  go_enter Tryz.func24, Tryz.ntmps24
  rw [HW.out] at c0 c1 c2 c3 c4
  go_wp2_with fail
  rw [← HW.out]
  rw [← HW.out] at c0 c1 c2 c3 c4
  refine (HH.out ()).mono ?_
  intro e w' hO
  obtain ⟨he, hw⟩ := hO
  subst hw
  cases hv : soundN d.host with
  | false =>
    rw [hv] at he HS
    subst he
    go_wp2
    go_ret
    exact ⟨by rw [HS.out]; rfl, HB.out⟩
  | true =>
  rw [hv] at he HS
  subst he
  go_wp2_with fail
  refine (empty_n x d W).mono ?_
  rintro e w' ⟨rfl, hb⟩
  have HE := Lib.hid (HB.out.trans (hb.mono HSZ.out))
  clear hb
  go_wp2
  go_ret
  refine ⟨?_, HE.out⟩
  rw [HS.out]
  simp

set_option maxRecDepth 4000 in
set_option maxHeartbeats 1000000 in
theorem rdata_15 (x : DV) (d : Dt) (w : World) (hx : DataAt w w.heap.size x d) (hi : RefIn d) :
    Calls Tryz.prog 24 #[.int .i64 15, x.val d] w (Gave w (.bool (soundD 15 d))) := by
  have kn : d.nums.length ≤ maxLen := Nat.le_trans hx.ln hx.kn
  have kb : d.bytes.length ≤ maxLen := Nat.le_trans hx.lb hx.kb
  obtain ⟨W, hW⟩ : ∃ W, W = w.alloc (.cells #[.slice x.Ab d.bytes.length x.cb, .slice x.Ah d.host.length x.ch, .slice x.Am d.mail.length x.cm, .slice x.An d.nums.length x.cn, .slice x.At d.texts.length x.ct] 38) := ⟨_, rfl⟩
  have hD : DataAt W w.heap.size x d := by rw [hW]; exact hx.alloc (Nat.le_refl _) _
  have hB : Below w.heap.size w W := by rw [hW]; exact (Below.refl _ _).alloc (Nat.le_refl _) _
  have hsz : w.heap.size ≤ W.heap.size := by rw [hW]; simp
  have hwh : Whole W w.heap.size 38 [x.vb d, x.vh d, x.vm d, x.vn d, x.vt d] := by rw [hW]; exact Whole.made w [x.vb d, x.vh d, x.vm d, x.vn d, x.vt d] _
  have c0 : W.cell? ⟨w.heap.size, 0, none⟩ = some (.slice x.Ab d.bytes.length x.cb) := hwh.cell 0
  have c1 : W.cell? ⟨w.heap.size, 1, none⟩ = some (.slice x.Ah d.host.length x.ch) := hwh.cell 1
  have c2 : W.cell? ⟨w.heap.size, 2, none⟩ = some (.slice x.Am d.mail.length x.cm) := hwh.cell 2
  have c3 : W.cell? ⟨w.heap.size, 3, none⟩ = some (.slice x.An d.nums.length x.cn) := hwh.cell 3
  have c4 : W.cell? ⟨w.heap.size, 4, none⟩ = some (.slice x.At d.texts.length x.ct) := hwh.cell 4
  have HB := Lib.hid hB
  have HW := Lib.hid hW
  have HH := Lib.hid (fun (_ : Unit) => ref_sound_wide x.Ah x.ch w.heap.size d.host W hD.h hi.h.1 hi.h.2)
  have HM := Lib.hid (fun (_ : Unit) => ref_sound_wide x.Am x.cm w.heap.size d.mail W hD.m hi.m.1 hi.m.2)
  have HF := Lib.hid (fun (_ : Unit) (a : Nat) (s : Int) => fit_any x.An d.nums.length x.cn w.heap.size d.nums a s W rfl hD.n kn hi.n)
  have HSZ := Lib.hid hsz
  unfold maxLen at kb kn
  have HS := Lib.hid (soundD_15 d)
  clear hD hB hwh hsz hx hi hW
  go_enter Tryz.func24, Tryz.ntmps24
  rw [HW.out] at c0 c1 c2 c3 c4
  go_wp2_with fail
  rw [← HW.out]
  rw [← HW.out] at c0 c1 c2 c3 c4
  refine (HH.out ()).mono ?_
  intro e w' hO
  obtain ⟨he, hw⟩ := hO
  subst hw
  cases hv : soundN d.host with
  | false =>
    rw [hv] at he HS
    subst he
    go_wp2
    go_ret
    exact ⟨by rw [HS.out]; rfl, HB.out⟩
  | true =>
  rw [hv] at he HS
  subst he
  go_wp2_with fail
  refine (HF.out () 1 2).mono ?_
  intro e w' hO
  obtain ⟨he, hw⟩ := hO
  subst hw
  cases hv : fitN 1 2 d.nums with
  | false =>
    rw [hv] at he HS
    subst he
    go_wp2
    go_ret
    exact ⟨by rw [HS.out]; rfl, HB.out⟩
  | true =>
  rw [hv] at he HS
  subst he
  go_wp2_with fail
  refine (empty_x x d W).mono ?_
  rintro e w' ⟨rfl, hb⟩
  have HE := Lib.hid (HB.out.trans (hb.mono HSZ.out))
  clear hb
  go_wp2
  go_ret
  refine ⟨?_, HE.out⟩
  rw [HS.out]
  simp

set_option maxRecDepth 4000 in
set_option maxHeartbeats 1000000 in
theorem rdata_33 (x : DV) (d : Dt) (w : World) (hx : DataAt w w.heap.size x d) (hi : RefIn d) :
    Calls Tryz.prog 24 #[.int .i64 33, x.val d] w (Gave w (.bool (soundD 33 d))) := by
  have kn : d.nums.length ≤ maxLen := Nat.le_trans hx.ln hx.kn
  have kb : d.bytes.length ≤ maxLen := Nat.le_trans hx.lb hx.kb
  obtain ⟨W, hW⟩ : ∃ W, W = w.alloc (.cells #[.slice x.Ab d.bytes.length x.cb, .slice x.Ah d.host.length x.ch, .slice x.Am d.mail.length x.cm, .slice x.An d.nums.length x.cn, .slice x.At d.texts.length x.ct] 38) := ⟨_, rfl⟩
  have hD : DataAt W w.heap.size x d := by rw [hW]; exact hx.alloc (Nat.le_refl _) _
  have hB : Below w.heap.size w W := by rw [hW]; exact (Below.refl _ _).alloc (Nat.le_refl _) _
  have hsz : w.heap.size ≤ W.heap.size := by rw [hW]; simp
  have hwh : Whole W w.heap.size 38 [x.vb d, x.vh d, x.vm d, x.vn d, x.vt d] := by rw [hW]; exact Whole.made w [x.vb d, x.vh d, x.vm d, x.vn d, x.vt d] _
  have c0 : W.cell? ⟨w.heap.size, 0, none⟩ = some (.slice x.Ab d.bytes.length x.cb) := hwh.cell 0
  have c1 : W.cell? ⟨w.heap.size, 1, none⟩ = some (.slice x.Ah d.host.length x.ch) := hwh.cell 1
  have c2 : W.cell? ⟨w.heap.size, 2, none⟩ = some (.slice x.Am d.mail.length x.cm) := hwh.cell 2
  have c3 : W.cell? ⟨w.heap.size, 3, none⟩ = some (.slice x.An d.nums.length x.cn) := hwh.cell 3
  have c4 : W.cell? ⟨w.heap.size, 4, none⟩ = some (.slice x.At d.texts.length x.ct) := hwh.cell 4
  have HB := Lib.hid hB
  have HW := Lib.hid hW
  have HH := Lib.hid (fun (_ : Unit) => ref_sound_wide x.Ah x.ch w.heap.size d.host W hD.h hi.h.1 hi.h.2)
  have HM := Lib.hid (fun (_ : Unit) => ref_sound_wide x.Am x.cm w.heap.size d.mail W hD.m hi.m.1 hi.m.2)
  have HF := Lib.hid (fun (_ : Unit) (a : Nat) (s : Int) => fit_any x.An d.nums.length x.cn w.heap.size d.nums a s W rfl hD.n kn hi.n)
  have HSZ := Lib.hid hsz
  unfold maxLen at kb kn
  have HS := Lib.hid (soundD_33 d)
  clear hD hB hwh hsz hx hi hW
  go_enter Tryz.func24, Tryz.ntmps24
  rw [HW.out] at c0 c1 c2 c3 c4
  go_wp2_with fail
  rw [← HW.out]
  rw [← HW.out] at c0 c1 c2 c3 c4
  refine (HH.out ()).mono ?_
  intro e w' hO
  obtain ⟨he, hw⟩ := hO
  subst hw
  cases hv : soundN d.host with
  | false =>
    rw [hv] at he HS
    subst he
    go_wp2
    go_ret
    exact ⟨by rw [HS.out]; rfl, HB.out⟩
  | true =>
  rw [hv] at he HS
  subst he
  go_wp2_with fail
  refine (HF.out () 3 2).mono ?_
  intro e w' hO
  obtain ⟨he, hw⟩ := hO
  subst hw
  cases hv : fitN 3 2 d.nums with
  | false =>
    rw [hv] at he HS
    subst he
    go_wp2
    go_ret
    exact ⟨by rw [HS.out]; rfl, HB.out⟩
  | true =>
  rw [hv] at he HS
  subst he
  go_wp2_with fail
  refine (empty_x x d W).mono ?_
  rintro e w' ⟨rfl, hb⟩
  have HE := Lib.hid (HB.out.trans (hb.mono HSZ.out))
  clear hb
  go_wp2
  go_ret
  refine ⟨?_, HE.out⟩
  rw [HS.out]
  simp

set_option maxRecDepth 4000 in
set_option maxHeartbeats 1000000 in
theorem rdata_6 (x : DV) (d : Dt) (w : World) (hx : DataAt w w.heap.size x d) (hi : RefIn d) :
    Calls Tryz.prog 24 #[.int .i64 6, x.val d] w (Gave w (.bool (soundD 6 d))) := by
  have kn : d.nums.length ≤ maxLen := Nat.le_trans hx.ln hx.kn
  have kb : d.bytes.length ≤ maxLen := Nat.le_trans hx.lb hx.kb
  obtain ⟨W, hW⟩ : ∃ W, W = w.alloc (.cells #[.slice x.Ab d.bytes.length x.cb, .slice x.Ah d.host.length x.ch, .slice x.Am d.mail.length x.cm, .slice x.An d.nums.length x.cn, .slice x.At d.texts.length x.ct] 38) := ⟨_, rfl⟩
  have hD : DataAt W w.heap.size x d := by rw [hW]; exact hx.alloc (Nat.le_refl _) _
  have hB : Below w.heap.size w W := by rw [hW]; exact (Below.refl _ _).alloc (Nat.le_refl _) _
  have hsz : w.heap.size ≤ W.heap.size := by rw [hW]; simp
  have hwh : Whole W w.heap.size 38 [x.vb d, x.vh d, x.vm d, x.vn d, x.vt d] := by rw [hW]; exact Whole.made w [x.vb d, x.vh d, x.vm d, x.vn d, x.vt d] _
  have c0 : W.cell? ⟨w.heap.size, 0, none⟩ = some (.slice x.Ab d.bytes.length x.cb) := hwh.cell 0
  have c1 : W.cell? ⟨w.heap.size, 1, none⟩ = some (.slice x.Ah d.host.length x.ch) := hwh.cell 1
  have c2 : W.cell? ⟨w.heap.size, 2, none⟩ = some (.slice x.Am d.mail.length x.cm) := hwh.cell 2
  have c3 : W.cell? ⟨w.heap.size, 3, none⟩ = some (.slice x.An d.nums.length x.cn) := hwh.cell 3
  have c4 : W.cell? ⟨w.heap.size, 4, none⟩ = some (.slice x.At d.texts.length x.ct) := hwh.cell 4
  have HB := Lib.hid hB
  have HW := Lib.hid hW
  have HH := Lib.hid (fun (_ : Unit) => ref_sound_wide x.Ah x.ch w.heap.size d.host W hD.h hi.h.1 hi.h.2)
  have HM := Lib.hid (fun (_ : Unit) => ref_sound_wide x.Am x.cm w.heap.size d.mail W hD.m hi.m.1 hi.m.2)
  have HF := Lib.hid (fun (_ : Unit) (a : Nat) (s : Int) => fit_any x.An d.nums.length x.cn w.heap.size d.nums a s W rfl hD.n kn hi.n)
  have HSZ := Lib.hid hsz
  unfold maxLen at kb kn
  have HS := Lib.hid (soundD_6 d)
  clear hD hB hwh hsz hx hi hW
  go_enter Tryz.func24, Tryz.ntmps24
  rw [HW.out] at c0 c1 c2 c3 c4
  go_wp2_with fail
  rw [← HW.out]
  rw [← HW.out] at c0 c1 c2 c3 c4
  refine (HH.out ()).mono ?_
  intro e w' hO
  obtain ⟨he, hw⟩ := hO
  subst hw
  cases hv : soundN d.host with
  | false =>
    rw [hv] at he HS
    subst he
    go_wp2
    go_ret
    exact ⟨by rw [HS.out]; rfl, HB.out⟩
  | true =>
  rw [hv] at he HS
  subst he
  go_wp2_with fail
  refine (HM.out ()).mono ?_
  intro e w' hO
  obtain ⟨he, hw⟩ := hO
  subst hw
  cases hv : soundN d.mail with
  | false =>
    rw [hv] at he HS
    subst he
    go_wp2
    go_ret
    exact ⟨by rw [HS.out]; rfl, HB.out⟩
  | true =>
  rw [hv] at he HS
  subst he
  go_wp2_with fail
  refine (HF.out () 5 4).mono ?_
  intro e w' hO
  obtain ⟨he, hw⟩ := hO
  subst hw
  cases hv : fitN 5 4 d.nums with
  | false =>
    rw [hv] at he HS
    subst he
    go_wp2
    go_ret
    exact ⟨by rw [HS.out]; rfl, HB.out⟩
  | true =>
  rw [hv] at he HS
  subst he
  go_wp2_with fail
  refine (empty_s x d W).mono ?_
  rintro e w' ⟨rfl, hb⟩
  have HE := Lib.hid (HB.out.trans (hb.mono HSZ.out))
  clear hb
  go_wp2
  go_ret
  refine ⟨?_, HE.out⟩
  rw [HS.out]
  simp

set_option maxRecDepth 4000 in
set_option maxHeartbeats 1000000 in
theorem rdata_other (k : Int) (x : DV) (d : Dt) (w : World) (hx : DataAt w w.heap.size x d) (hi : RefIn d) (hk : kindB k = true) (hoth : (k == 1) = false ∧ (k == 28) = false ∧ (k == 2) = false ∧ (k == 5) = false ∧ (k == 12) = false ∧ (k == 15) = false ∧ (k == 6) = false ∧ (k == 16) = false ∧ (k == 33) = false) :
    Calls Tryz.prog 24 #[.int .i64 k, x.val d] w (Gave w (.bool (soundD k d))) := by
  have kn : d.nums.length ≤ maxLen := Nat.le_trans hx.ln hx.kn
  have kb : d.bytes.length ≤ maxLen := Nat.le_trans hx.lb hx.kb
  obtain ⟨W, hW⟩ : ∃ W, W = w.alloc (.cells #[.slice x.Ab d.bytes.length x.cb, .slice x.Ah d.host.length x.ch, .slice x.Am d.mail.length x.cm, .slice x.An d.nums.length x.cn, .slice x.At d.texts.length x.ct] 38) := ⟨_, rfl⟩
  have hD : DataAt W w.heap.size x d := by rw [hW]; exact hx.alloc (Nat.le_refl _) _
  have hB : Below w.heap.size w W := by rw [hW]; exact (Below.refl _ _).alloc (Nat.le_refl _) _
  have hsz : w.heap.size ≤ W.heap.size := by rw [hW]; simp
  have hwh : Whole W w.heap.size 38 [x.vb d, x.vh d, x.vm d, x.vn d, x.vt d] := by rw [hW]; exact Whole.made w [x.vb d, x.vh d, x.vm d, x.vn d, x.vt d] _
  have c0 : W.cell? ⟨w.heap.size, 0, none⟩ = some (.slice x.Ab d.bytes.length x.cb) := hwh.cell 0
  have c1 : W.cell? ⟨w.heap.size, 1, none⟩ = some (.slice x.Ah d.host.length x.ch) := hwh.cell 1
  have c2 : W.cell? ⟨w.heap.size, 2, none⟩ = some (.slice x.Am d.mail.length x.cm) := hwh.cell 2
  have c3 : W.cell? ⟨w.heap.size, 3, none⟩ = some (.slice x.An d.nums.length x.cn) := hwh.cell 3
  have c4 : W.cell? ⟨w.heap.size, 4, none⟩ = some (.slice x.At d.texts.length x.ct) := hwh.cell 4
  have HB := Lib.hid hB
  have HW := Lib.hid hW
  have HH := Lib.hid (fun (_ : Unit) => ref_sound_wide x.Ah x.ch w.heap.size d.host W hD.h hi.h.1 hi.h.2)
  have HM := Lib.hid (fun (_ : Unit) => ref_sound_wide x.Am x.cm w.heap.size d.mail W hD.m hi.m.1 hi.m.2)
  have HF := Lib.hid (fun (_ : Unit) (a : Nat) (s : Int) => fit_any x.An d.nums.length x.cn w.heap.size d.nums a s W rfl hD.n kn hi.n)
  have HSZ := Lib.hid hsz
  unfold maxLen at kb kn
  have HS := Lib.hid (soundD_other d hk hoth)
  obtain ⟨o1, o2, o3, o4, o5, o6, o7, o8, o9⟩ := hoth
  have hkk : 1 ≤ k ∧ k ≤ 65535 := by simpa [kindB] using hk
  have d1 : decide (k < 1) = false := by simp; omega
  have d2 : decide (65535 < k) = false := by simp; omega
  clear hk hkk
  clear hD hB hwh hsz hx hi hW
  cases hv : decide (d.bytes.length ≤ 65535) with
  | false =>
    have t0 : decide ((d.bytes.length : Int) ≤ 65535) = false := by have := of_decide_eq_false hv; simp; omega
    rw [hv] at HS
    clear hv
    go_enter Tryz.func24, Tryz.ntmps24
    rw [HW.out] at c0 c1 c2 c3 c4
    go_wp2
    go_ret
    exact ⟨by rw [HS.out]; rfl, by have h := HB.out; rw [HW.out] at h; exact h⟩
  | true =>
  have t0 : decide ((d.bytes.length : Int) ≤ 65535) = true := by have := of_decide_eq_true hv; simp; omega
  rw [hv] at HS
  clear hv
  go_enter Tryz.func24, Tryz.ntmps24
  rw [HW.out] at c0 c1 c2 c3 c4
  go_wp2_with fail
  rw [← HW.out]
  refine (empty_a x d W).mono ?_
  rintro e w' ⟨rfl, hb⟩
  have HE := Lib.hid (HB.out.trans (hb.mono HSZ.out))
  clear hb
  go_wp2
  go_ret
  refine ⟨?_, HE.out⟩
  rw [HS.out]
  simp

end Go.Proofs.YthppgofpbpjglaaGreat

namespace Go.Proofs.YthppgofpbpjglaaGreat
open Go.RowKit

/-- The place behind the name: the first one that was met. -/
def nextR (x p : Nat) : Nat := if x = 0 then p else x
/-- The place to which the pointer leads whose two bytes are c and d. -/
def toR (c d : UInt8) : Nat := (c.toNat - 192) * 256 + d.toNat

/-- What is read at the place p, where what is read now began at q, the name's end was met at x (0: it was not), and n is read so far: the name, the place behind it, the error. -/
def getR (b : List UInt8) (p q x : Nat) (n : List (List UInt8)) : List (List UInt8) × Nat × Nat :=
  if h0 : p < b.length then
    if b[p].toNat = 0 then (n, nextR x (p + 1), 0)
    else if 192 ≤ b[p].toNat then
      if h1 : p + 1 < b.length then
        if toR b[p] b[p + 1] < q then getR b (toR b[p] b[p + 1]) (toR b[p] b[p + 1]) (nextR x (p + 2)) n
        else ([], 0, 6)
      else ([], 0, 3)
    else if 64 ≤ b[p].toNat then ([], 0, 5)
    else if p + 1 + b[p].toNat ≤ b.length then
      if szN (n ++ [cutL b (p + 1) b[p].toNat]) ≤ 255 then getR b (p + 1 + b[p].toNat) q x (n ++ [cutL b (p + 1) b[p].toNat])
      else ([], 0, 5)
    else ([], 0, 3)
  else ([], 0, 3)
termination_by (q, 256 - szN n)
decreasing_by
  · exact Prod.Lex.left _ _ (by assumption)
  · refine Prod.Lex.right _ ?_
    rename_i h
    rw [szN_snoc] at h ⊢
    omega

section
variable {b : List UInt8} {p q x : Nat} {n : List (List UInt8)}

set_option maxRecDepth 10000
theorem getR_end (h : b.length ≤ p) : getR b p q x n = ([], 0, 3) := by
  rw [getR, dif_neg (by omega)]
theorem getR_zero (h : p < b.length) (h0 : b[p].toNat = 0) : getR b p q x n = (n, nextR x (p + 1), 0) := by
  rw [getR, dif_pos h, if_pos h0]
theorem getR_half (h : p < b.length) (h0 : 192 ≤ b[p].toNat) (h1 : b.length ≤ p + 1) : getR b p q x n = ([], 0, 3) := by
  rw [getR, dif_pos h, if_neg (by omega), if_pos h0, dif_neg (by omega)]
theorem getR_ptr (h : p < b.length) (h1 : p + 1 < b.length) (h0 : 192 ≤ b[p].toNat) (h2 : toR b[p] b[p + 1] < q) :
    getR b p q x n = getR b (toR b[p] b[p + 1]) (toR b[p] b[p + 1]) (nextR x (p + 2)) n := by
  rw [getR, dif_pos h, if_neg (by omega), if_pos h0, dif_pos h1, if_pos h2]
theorem getR_loop (h : p < b.length) (h1 : p + 1 < b.length) (h0 : 192 ≤ b[p].toNat) (h2 : q ≤ toR b[p] b[p + 1]) : getR b p q x n = ([], 0, 6) := by
  rw [getR, dif_pos h, if_neg (by omega), if_pos h0, dif_pos h1, if_neg (by omega)]
theorem getR_bad (h : p < b.length) (h0 : 64 ≤ b[p].toNat) (h1 : b[p].toNat < 192) : getR b p q x n = ([], 0, 5) := by
  rw [getR, dif_pos h, if_neg (by omega), if_neg (by omega), if_pos h0]
theorem getR_short (h : p < b.length) (h0 : b[p].toNat ≠ 0) (h1 : b[p].toNat < 64) (h2 : b.length < p + 1 + b[p].toNat) : getR b p q x n = ([], 0, 3) := by
  rw [getR, dif_pos h, if_neg h0, if_neg (by omega), if_neg (by omega), if_neg (by omega)]
theorem getR_long (h : p < b.length) (h0 : b[p].toNat ≠ 0) (h1 : b[p].toNat < 64) (h2 : p + 1 + b[p].toNat ≤ b.length) (h3 : 255 < szN n + 1 + b[p].toNat) : getR b p q x n = ([], 0, 5) := by
  rw [getR, dif_pos h, if_neg h0, if_neg (by omega), if_neg (by omega), if_pos h2, if_neg]
  rw [szN_snoc, length_cutL (by omega)]
  omega
theorem getR_label (h : p < b.length) (h0 : b[p].toNat ≠ 0) (h1 : b[p].toNat < 64) (h2 : p + 1 + b[p].toNat ≤ b.length) (h3 : szN n + 1 + b[p].toNat ≤ 255) :
    getR b p q x n = getR b (p + 1 + b[p].toNat) q x (n ++ [cutL b (p + 1) b[p].toNat]) := by
  rw [getR, dif_pos h, if_neg h0, if_neg (by omega), if_neg (by omega), if_pos h2, if_pos]
  rw [szN_snoc, length_cutL (by omega)]
  omega
end

/-- What the call answers at any place. -/
def getW (b : List UInt8) (a : Int) : List (List UInt8) × Nat × Nat := if a < 0 then ([], 0, 1) else getR b a.toNat a.toNat 0 []
theorem getW_neg {b : List UInt8} {a : Int} (h : a < 0) : getW b a = ([], 0, 1) := by rw [getW, if_pos h]
theorem getW_at (b : List UInt8) (a : Nat) : getW b a = getR b a a 0 [] := by rw [getW, if_neg (by omega), Int.toNat_natCast]

end Go.Proofs.YthppgofpbpjglaaGreat

namespace Go.Proofs.YthppgofpbpjglaaGreat
open Go.RowKit

/-- The labels of a name as they are written without a pointer. -/
def encN : List (List UInt8) → List UInt8
  | [] => []
  | l :: n => UInt8.ofNat l.length :: (l ++ encN n)
theorem length_encN (n : List (List UInt8)) : (encN n).length + 1 = szN n := by
  induction n with
  | nil => rfl
  | cons l n ih => simp only [encN, szN, List.length_cons, List.length_append]; omega
theorem encN_snoc (n : List (List UInt8)) (l : List UInt8) : encN (n ++ [l]) = encN n ++ (UInt8.ofNat l.length :: l) := by
  induction n with
  | nil => simp [encN]
  | cons x n ih => simp [encN, ih]
theorem fitL_iff {l : List UInt8} : fitL l = true ↔ 1 ≤ l.length ∧ l.length ≤ 63 := by simp [fitL]
theorem encN_inj : ∀ {n m : List (List UInt8)}, n.all fitL = true → m.all fitL = true → encN n = encN m → n = m
  | [], [], _, _, _ => rfl
  | [], _ :: _, _, _, h => by simp [encN] at h
  | _ :: _, [], _, _, h => by simp [encN] at h
  | l :: n, k :: m, hn, hm, h => by
    simp only [List.all_cons, Bool.and_eq_true, fitL_iff] at hn hm
    simp only [encN, List.cons.injEq] at h
    have hl : l.length = k.length := by
      have h1 := congrArg UInt8.toNat h.1
      rw [UInt8.toNat_ofNat', UInt8.toNat_ofNat'] at h1
      omega
    obtain ⟨h1, h2⟩ := List.append_inj h.2 hl
    rw [h1, encN_inj hn.2 hm.2 h2]

/-- Rests: each one's labels and its place. -/
abbrev Rs := List (List (List UInt8) × Nat)
def findR (R : Rs) (n : List (List UInt8)) : Option Nat := (R.find? fun r => decide (r.1 = n)).map (·.2)
theorem findR_nil (n : List (List UInt8)) : findR [] n = none := rfl
theorem findR_snoc (R : Rs) (m n : List (List UInt8)) (k : Nat) : findR (R ++ [(m, k)]) n = (findR R n).or (if m = n then some k else none) := by
  unfold findR
  rw [List.find?_append]
  cases h : R.find? fun r => decide (r.1 = n) with
  | some r => simp
  | none =>
    by_cases e : m = n
    · simp [e]
    · simp [e]
theorem findR_mem {R : Rs} {n : List (List UInt8)} {k : Nat} (h : findR R n = some k) : (n, k) ∈ R := by
  unfold findR at h
  rw [Option.map_eq_some_iff] at h
  obtain ⟨⟨m, k'⟩, h1, h2⟩ := h
  have h3 := List.mem_of_find?_eq_some h1
  have h4 := List.find?_some h1
  simp at h4 h2
  subst h4; subst h2
  exact h3

/-- What is written of a name, and which rests there are then. -/
def nameW (short : Bool) : List (List UInt8) → List UInt8 → Rs → List UInt8 × Rs
  | [], B, R => (B ++ [0], R)
  | l :: n, B, R =>
    match short, findR R (l :: n) with
    | true, some k => (B ++ digs (49152 + k) 2, R)
    | _, _ => nameW short n (B ++ UInt8.ofNat l.length :: l) (if B.length < 16384 then R ++ [(l :: n, B.length)] else R)
theorem nameW_nil (short : Bool) (B : List UInt8) (R : Rs) : nameW short [] B R = (B ++ [0], R) := rfl
theorem nameW_hit {l : List UInt8} {n : List (List UInt8)} {B : List UInt8} {R : Rs} {k : Nat} (h : findR R (l :: n) = some k) : nameW true (l :: n) B R = (B ++ digs (49152 + k) 2, R) := by
  rw [nameW.eq_def]
  simp only [h]
theorem nameW_long (l : List UInt8) (n : List (List UInt8)) (B : List UInt8) (R : Rs) :
    nameW false (l :: n) B R = nameW false n (B ++ UInt8.ofNat l.length :: l) (if B.length < 16384 then R ++ [(l :: n, B.length)] else R) := by
  rw [nameW.eq_def]
theorem nameW_miss {short : Bool} {l : List UInt8} {n : List (List UInt8)} {B : List UInt8} {R : Rs} (h : findR R (l :: n) = none) :
    nameW short (l :: n) B R = nameW short n (B ++ UInt8.ofNat l.length :: l) (if B.length < 16384 then R ++ [(l :: n, B.length)] else R) := by
  rw [nameW.eq_def]
  simp only [h]

/-- At p, where what is read now began at q, the name n is read; e is the place behind it. -/
inductive AtN (B : List UInt8) : Nat → Nat → List (List UInt8) → Nat → Prop
  | fin {p q : Nat} (h : B[p]? = some 0) : AtN B p q [] (p + 1)
  | ptr {p q e : Nat} {n : List (List UInt8)} {y z : UInt8} (h1 : B[p]? = some y) (h2 : B[p + 1]? = some z) (h3 : 192 ≤ y.toNat) (h4 : toR y z < q) (h : AtN B (toR y z) (toR y z) n e) : AtN B p q n (p + 2)
  | lab {p q e : Nat} {n : List (List UInt8)} {l : List UInt8} (h1 : 1 ≤ l.length) (h2 : l.length ≤ 63) (h3 : B[p]? = some (UInt8.ofNat l.length)) (h4 : p + 1 + l.length ≤ B.length) (h5 : cutL B (p + 1) l.length = l) (h : AtN B (p + 1 + l.length) q n e) : AtN B p q (l :: n) e

theorem AtN.mono {B : List UInt8} {p q e : Nat} {n : List (List UInt8)} (h : AtN B p q n e) : ∀ {q' : Nat}, q ≤ q' → AtN B p q' n e := by
  induction h with
  | fin h => intro q' _; exact .fin h
  | ptr h1 h2 h3 h4 h _ => intro q' hq; exact .ptr h1 h2 h3 (by omega) h
  | lab h1 h2 h3 h4 h5 _ ih => intro q' hq; exact .lab h1 h2 h3 h4 h5 (ih hq)
theorem getElem?_more {B C : List UInt8} {p : Nat} {y : UInt8} (h : B[p]? = some y) : (B ++ C)[p]? = some y := by
  have hl := (List.getElem?_eq_some_iff.1 h).1
  rw [List.getElem?_append_left hl, h]
theorem cutL_more {B C : List UInt8} {a k : Nat} (h : a + k ≤ B.length) : cutL (B ++ C) a k = cutL B a k := by
  unfold cutL
  rw [List.drop_append_of_le_length (by omega), List.take_append_of_le_length (by simp; omega)]
theorem AtN.more {B : List UInt8} {p q e : Nat} {n : List (List UInt8)} (C : List UInt8) (h : AtN B p q n e) : AtN (B ++ C) p q n e := by
  induction h with
  | fin h => exact .fin (getElem?_more h)
  | ptr h1 h2 h3 h4 _ ih => exact .ptr (getElem?_more h1) (getElem?_more h2) h3 h4 ih
  | lab h1 h2 h3 h4 h5 _ ih => exact .lab h1 h2 (getElem?_more h3) (by simp; omega) (by rw [cutL_more h4]; exact h5) ih

theorem nextR_nextR (x : Nat) {y e : Nat} (h : y ≠ 0) : nextR (nextR x y) e = nextR x y := by
  unfold nextR
  by_cases hx : x = 0
  · simp [hx, h]
  · simp [hx]
theorem szN_append (m n : List (List UInt8)) : szN (m ++ n) + 1 = szN m + szN n := by
  induction m with
  | nil => simp [szN]; omega
  | cons l m ih => simp only [List.cons_append, szN]; omega
theorem AtN.read {B : List UInt8} {p q e : Nat} {n : List (List UInt8)} (h : AtN B p q n e) : ∀ {x : Nat} {m : List (List UInt8)}, szN m + szN n ≤ 256 → getR B p q x m = (m ++ n, nextR x e, 0) := by
  induction h with
  | @fin p q h =>
    intro x m _
    obtain ⟨hl, hv⟩ := List.getElem?_eq_some_iff.1 h
    rw [getR_zero hl (by rw [hv]; rfl), List.append_nil]
  | @ptr p q e n y z h1 h2 h3 h4 _ ih =>
    intro x m hs
    obtain ⟨hl, hv⟩ := List.getElem?_eq_some_iff.1 h1
    obtain ⟨hl2, hv2⟩ := List.getElem?_eq_some_iff.1 h2
    rw [getR_ptr hl hl2 (by rw [hv]; exact h3) (by rw [hv, hv2]; exact h4), hv, hv2, ih hs, nextR_nextR x (by omega)]
  | @lab p q e n l h1 h2 h3 h4 h5 _ ih =>
    intro x m hs
    obtain ⟨hl, hv⟩ := List.getElem?_eq_some_iff.1 h3
    have hn : (B[p]).toNat = l.length := by rw [hv, UInt8.toNat_ofNat']; omega
    have hp := szN_pos n
    simp only [szN] at hs
    rw [getR_label hl (by omega) (by omega) (by omega) (by omega), hn, h5, ih (by rw [szN_snoc]; omega), List.append_assoc, List.singleton_append]

theorem toR_digs {k : Nat} (hk : k < 16384) : ∃ y z, digs (49152 + k) 2 = [y, z] ∧ 192 ≤ y.toNat ∧ toR y z = k := by
  refine ⟨UInt8.ofNat ((49152 + k) / 256), UInt8.ofNat (49152 + k), by simp [digs, List.range_succ], ?_, ?_⟩
  · rw [UInt8.toNat_ofNat']; omega
  · unfold toR; rw [UInt8.toNat_ofNat', UInt8.toNat_ofNat']; omega

theorem nameW_reads (short : Bool) : ∀ (n : List (List UInt8)) (B : List UInt8) (R : Rs) (p0 : Nat), n.all fitL = true → p0 ≤ B.length →
    (∀ r ∈ R, r.2 < 16384 ∧ (r.1.length ≤ n.length → r.2 < p0 ∧ ∃ e, AtN B r.2 r.2 r.1 e)) →
    (∃ S, (nameW short n B R).1 = B ++ S) ∧ AtN (nameW short n B R).1 B.length p0 n (nameW short n B R).1.length ∧
      ∀ r ∈ (nameW short n B R).2, r ∈ R ∨ (r.2 < 16384 ∧ r.2 < (nameW short n B R).1.length ∧ ∃ e, AtN (nameW short n B R).1 r.2 r.2 r.1 e)
  | [], B, R, p0, _, _, _ => by
    rw [nameW_nil]
    refine ⟨⟨[0], rfl⟩, ?_, fun r hr => .inl hr⟩
    have h := AtN.fin (B := B ++ [0]) (p := B.length) (q := p0) (by simp)
    simpa using h
  | l :: n, B, R, p0, hf, hp, hR => by
    simp only [List.all_cons, Bool.and_eq_true, fitL_iff] at hf
    have step : (∃ S, (nameW short n (B ++ UInt8.ofNat l.length :: l) (if B.length < 16384 then R ++ [(l :: n, B.length)] else R)).1 = B ++ S) ∧
        AtN (nameW short n (B ++ UInt8.ofNat l.length :: l) (if B.length < 16384 then R ++ [(l :: n, B.length)] else R)).1 B.length p0 (l :: n) (nameW short n (B ++ UInt8.ofNat l.length :: l) (if B.length < 16384 then R ++ [(l :: n, B.length)] else R)).1.length ∧
        ∀ r ∈ (nameW short n (B ++ UInt8.ofNat l.length :: l) (if B.length < 16384 then R ++ [(l :: n, B.length)] else R)).2, r ∈ R ∨ (r.2 < 16384 ∧ r.2 < (nameW short n (B ++ UInt8.ofNat l.length :: l) (if B.length < 16384 then R ++ [(l :: n, B.length)] else R)).1.length ∧
          ∃ e, AtN (nameW short n (B ++ UInt8.ofNat l.length :: l) (if B.length < 16384 then R ++ [(l :: n, B.length)] else R)).1 r.2 r.2 r.1 e) := by
      obtain ⟨R1, hR1⟩ : ∃ R1, R1 = if B.length < 16384 then R ++ [(l :: n, B.length)] else R := ⟨_, rfl⟩
      rw [← hR1]
      have hmem : ∀ r ∈ R1, r ∈ R ∨ (r = (l :: n, B.length) ∧ B.length < 16384) := by
        intro r hr
        rw [hR1] at hr
        split at hr
        · rename_i hb
          rcases List.mem_append.1 hr with h | h
          · exact .inl h
          · exact .inr ⟨List.mem_singleton.1 h, hb⟩
        · exact .inl hr
      obtain ⟨⟨S, hS⟩, hA, hM⟩ := nameW_reads short n (B ++ UInt8.ofNat l.length :: l) R1 p0 hf.2 (by simp; omega) (fun r hr => by
        rcases hmem r hr with h | ⟨h, hb⟩
        · refine ⟨(hR r h).1, fun hl => ?_⟩
          obtain ⟨h1, e, h2⟩ := (hR r h).2 (by simp; omega)
          exact ⟨h1, e, h2.more _⟩
        · refine ⟨by rw [h]; exact hb, fun hl => ?_⟩
          rw [h] at hl
          simp at hl
          omega)
      have hlab : AtN (nameW short n (B ++ UInt8.ofNat l.length :: l) R1).1 B.length p0 (l :: n) (nameW short n (B ++ UInt8.ofNat l.length :: l) R1).1.length := by
        refine .lab hf.1.1 hf.1.2 ?_ ?_ ?_ ?_
        · rw [hS]; simp
        · rw [hS]; simp; omega
        · rw [hS]; simp [cutL]
        · have e1 : B.length + 1 + l.length = (B ++ UInt8.ofNat l.length :: l).length := by simp; omega
          rw [e1]
          exact hA
      refine ⟨⟨UInt8.ofNat l.length :: l ++ S, by rw [hS]; simp⟩, hlab, fun r hr => ?_⟩
      rcases hM r hr with h | h
      · rcases hmem r h with h | ⟨h, hb⟩
        · exact .inl h
        · refine .inr ?_
          rw [h]
          exact ⟨hb, by rw [hS]; simp, _, hlab.mono hp⟩
      · exact .inr h
    cases hfi : findR R (l :: n) with
    | none => rw [nameW_miss hfi]; exact step
    | some k =>
      cases short with
      | false => rw [nameW_long]; exact step
      | true =>
        rw [nameW_hit hfi]
        obtain ⟨h16, h2⟩ := hR _ (findR_mem hfi)
        obtain ⟨hk, e, hA⟩ := h2 (Nat.le_refl _)
        obtain ⟨y, z, hd, hy, ht⟩ := toR_digs h16
        simp only at hd ht hk hA
        refine ⟨⟨_, rfl⟩, ?_, fun r hr => .inl hr⟩
        rw [hd]
        have h := AtN.ptr (B := B ++ [y, z]) (p := B.length) (q := p0) (n := l :: n) (e := e) (y := y) (z := z) (by simp) (by simp) hy (by rw [ht]; exact hk) (by rw [ht]; exact hA.more _)
        simpa using h

/-- What is kept of rests: each is read where it stands. -/
def GoodR (B : List UInt8) (R : Rs) : Prop := ∀ r ∈ R, r.2 < 16384 ∧ r.2 < B.length ∧ ∃ e, AtN B r.2 r.2 r.1 e
theorem GoodR.nil (B : List UInt8) : GoodR B [] := fun _ hr => absurd hr (List.not_mem_nil)
theorem GoodR.more {B : List UInt8} {R : Rs} (h : GoodR B R) (C : List UInt8) : GoodR (B ++ C) R := fun r hr => by
  obtain ⟨h1, h2, e, h3⟩ := h r hr
  exact ⟨h1, by simp; omega, e, h3.more C⟩
theorem nameW_good {short : Bool} {n : List (List UInt8)} {B : List UInt8} {R : Rs} (hf : n.all fitL = true) (h : GoodR B R) :
    (∃ S, (nameW short n B R).1 = B ++ S) ∧ AtN (nameW short n B R).1 B.length B.length n (nameW short n B R).1.length ∧ GoodR (nameW short n B R).1 (nameW short n B R).2 := by
  obtain ⟨⟨S, hS⟩, h2, h3⟩ := nameW_reads short n B R B.length hf (Nat.le_refl _) fun r hr => by
    obtain ⟨a, b, e, c⟩ := h r hr
    exact ⟨a, fun _ => ⟨b, e, c⟩⟩
  refine ⟨⟨S, hS⟩, h2, fun r hr => ?_⟩
  rcases h3 r hr with h4 | h4
  · have h5 := h.more S
    rw [← hS] at h5
    exact h5 r h4
  · exact h4

theorem length_nameW_long : ∀ (n : List (List UInt8)) (B : List UInt8) (R : Rs), (nameW false n B R).1.length = B.length + szN n
  | [], B, R => by simp [nameW_nil, szN]
  | l :: n, B, R => by
    rw [nameW_long, length_nameW_long n]
    simp [szN]
    omega
theorem length_nameW_le (short : Bool) : ∀ (n : List (List UInt8)) (B : List UInt8) (R : Rs), n.all fitL = true → (nameW short n B R).1.length ≤ B.length + szN n
  | [], B, R, _ => by simp [nameW_nil, szN]
  | l :: n, B, R, hf => by
    simp only [List.all_cons, Bool.and_eq_true, fitL_iff] at hf
    have ih := length_nameW_le short n (B ++ UInt8.ofNat l.length :: l) (if B.length < 16384 then R ++ [(l :: n, B.length)] else R) hf.2
    simp only [List.length_append, List.length_cons] at ih
    have hp := szN_pos n
    cases hfi : findR R (l :: n) with
    | none => rw [nameW_miss hfi]; simp only [szN]; omega
    | some k =>
      cases short with
      | false => rw [nameW_long]; simp only [szN]; omega
      | true => rw [nameW_hit hfi]; simp only [szN, List.length_append, length_digs]; omega

theorem length_nameW_rests (short : Bool) : ∀ (n : List (List UInt8)) (B : List UInt8) (R : Rs), (nameW short n B R).2.length ≤ R.length + n.length
  | [], B, R => by simp [nameW_nil]
  | l :: n, B, R => by
    have ih := length_nameW_rests short n (B ++ UInt8.ofNat l.length :: l) (if B.length < 16384 then R ++ [(l :: n, B.length)] else R)
    have hi : (if B.length < 16384 then R ++ [(l :: n, B.length)] else R).length ≤ R.length + 1 := by split <;> simp
    cases hfi : findR R (l :: n) with
    | none => rw [nameW_miss hfi]; simp only [List.length_cons]; omega
    | some k =>
      cases short with
      | false => rw [nameW_long]; simp only [List.length_cons]; omega
      | true => rw [nameW_hit hfi]; simp only [List.length_cons]; omega

end Go.Proofs.YthppgofpbpjglaaGreat

namespace Go.Proofs.YthppgofpbpjglaaGreat
open Go.RowKit

























def PutRel (B : Nat) (w : World) (l : List UInt8) (n s : Nat) (v i : Value) (wr : World) : Prop :=
  ∃ k : Nat, k ≤ s ∧ i = .int .i64 ((s : Int) - 1 - k) ∧ wr.ownsRow B 5 1 v (l.length + k) ((l ++ (digs n s).take k).map bc) ∧ Below B w wr ∧ B ≤ wr.heap.size














































































end Go.Proofs.YthppgofpbpjglaaGreat

namespace Go.Proofs.YthppgofpbpjglaaGreat
open Go.RowKit

/-- The key under which a rest is kept. -/
def keyR (n : List (List UInt8)) : Lit := .string (encN n)
/-- A map's entries say what the rests R are. -/
def SaysR (D : DataW Unit) (R : Rs) : Prop :=
  Maps.IsMap D ∧ ∀ n, n.all fitL = true → Maps.has D (keyR n) = (findR R n).isSome ∧ D.atKey (keyR n) (.lit (.int .i64 0)) = .lit (.int .i64 ((findR R n).getD 0 : Nat))
def MapOf (w : World) (base : Nat) (v : Value) (R : Rs) : Prop :=
  (v = .map none ∧ R = []) ∨ ∃ b D, v = .map (some b) ∧ base ≤ b ∧ w.ownsMap (H := Unit) Tryz.prog 9 (plainElem Tryz.prog 3) b R.length D ∧ SaysR D R







/-- Which blocks are a Writer's own. -/
def ownF (g : Nat) (vB vM : Value) (j : Nat) : Prop := j = g ∨ vB.ownBlock = some j ∨ vM = .map (some j)

section
variable {w w' : World} {base g : Nat} {vB vM : Value} {B : List UInt8} {R : Rs}





theorem MapOf.lt (h : MapOf w base vM R) {j : Nat} (hj : vM = .map (some j)) : base ≤ j ∧ j < w.heap.size := by
  rcases h with ⟨rfl, _⟩ | ⟨b, D, rfl, hb, ho, _⟩
  · cases hj
  · injection hj with hj
    injection hj with hj
    subst hj
    exact ⟨hb, ho.lt⟩





theorem ownsMap_keep {P : Program} {k : TypeId} {E : Value → Option (DataW Unit × List MemPlace)} {b n : Nat} {D : DataW Unit} (h : w.ownsMap P k E b n D) (hk : w'.heap[b]? = w.heap[b]?) : w'.ownsMap P k E b n D := by
  obtain ⟨es, clock, hb, r⟩ := h
  exact ⟨es, clock, hk.trans hb, r⟩
theorem MapOf.keep (h : MapOf w base vM R) (hk : ∀ j, vM = .map (some j) → w'.heap[j]? = w.heap[j]?) : MapOf w' base vM R := by
  rcases h with h | ⟨b, D, rfl, hb, ho, hs⟩
  · exact .inl h
  · exact .inr ⟨b, D, rfl, hb, ownsMap_keep ho (hk b rfl), hs⟩






































end























































































































































end Go.Proofs.YthppgofpbpjglaaGreat

namespace Go.Proofs.YthppgofpbpjglaaGreat
open Go.RowKit

theorem keyR_ne {n r : List (List UInt8)} (hn : n.all fitL = true) (hr : r.all fitL = true) (h : n ≠ r) : keyR n ≠ keyR r := fun e => by
  unfold keyR at e
  injection e with e
  exact h (encN_inj hn hr e)
theorem SaysR.empty : SaysR (.map []) [] := ⟨Maps.isMap_empty, fun _ _ => ⟨rfl, rfl⟩⟩
theorem SaysR.same {D : DataW Unit} {R : Rs} {r : List (List UInt8)} {a : Nat} (k : Nat) (h : SaysR D R) (ha : findR R r = some a) : SaysR D (R ++ [(r, k)]) := by
  refine ⟨h.1, fun n hn => ?_⟩
  have e : findR (R ++ [(r, k)]) n = findR R n := by
    rw [findR_snoc]
    by_cases hrn : r = n
    · subst hrn; rw [ha]; rfl
    · rw [if_neg hrn]; cases findR R n <;> rfl
  rw [e]
  exact h.2 n hn
theorem SaysR.put {D : DataW Unit} {R : Rs} {r : List (List UInt8)} (k : Nat) (h : SaysR D R) (hr : r.all fitL = true) (hf : findR R r = none) : SaysR (D.put (keyR r) (.lit (.int .i64 (k : Int)))) (R ++ [(r, k)]) := by
  refine ⟨h.1.put _ _, fun n hn => ?_⟩
  rw [findR_snoc]
  by_cases hrn : r = n
  · subst hrn
    rw [hf, if_pos rfl, Maps.has_put_same h.1 (by simp [keyR, WideAt.IsKeyLit]), Maps.atKey_put_same h.1 (by simp [keyR, WideAt.IsKeyLit])]
    exact ⟨rfl, rfl⟩
  · have hk := keyR_ne hn hr (Ne.symm hrn)
    rw [if_neg hrn, Maps.has_put_other hk, Maps.atKey_put_other hk, Option.or_none]
    exact h.2 n hn

/-- The rests behind a note. -/
def noteR (B : List UInt8) (R : Rs) (r : List (List UInt8)) : Rs := if B.length < 16384 then R ++ [(r, B.length)] else R

theorem str_keyed : Maps.Keyed Tryz.prog 9 := Maps.string_keyed Tryz.underlying9
theorem int_zero (w : World) : (zeroValue 3).run Tryz.prog w = .ok (.int .i64 0) w := by kernel_rfl
theorem key_enc {r : List (List UInt8)} (h : (encN r).length ≤ maxLen) : keyOf Tryz.prog 9 (.string ⟨(encN r).toArray⟩) = some (keyR r) :=
  WideMaps.keyOf_string_mk Tryz.underlying9 (by simpa [ByteArray.size] using h)
theorem wf_nat {k : Nat} (h : k ≤ 9223372036854775807) : (Lit.int .i64 (k : Int)).wf = true := by
  have h1 : IntKind.i64.min = -9223372036854775808 := rfl
  have h2 : IntKind.i64.max = 9223372036854775807 := rfl
  simp only [Lit.wf, Bool.and_eq_true, decide_eq_true_eq]
  omega














































































































































































end Go.Proofs.YthppgofpbpjglaaGreat

namespace Go.Proofs.YthppgofpbpjglaaGreat
open Go.RowKit

theorem strCells_list (l : List UInt8) : Lib.strCells ⟨l.toArray⟩ = l.map bc := by
  simp only [Lib.strCells]
  rfl

def WholeRel (w : World) (n : List (List UInt8)) (v i : Value) (wr : World) : Prop :=
  ∃ k : Nat, k ≤ n.length ∧ i = .int .i64 k ∧ wr.ownsRow w.heap.size 5 1 v (encN (n.take k)).length ((encN (n.take k)).map bc) ∧ Below w.heap.size w wr ∧ w.heap.size ≤ wr.heap.size

theorem encN_take_succ {n : List (List UInt8)} {k : Nat} (h : k < n.length) : encN (n.take (k + 1)) = encN (n.take k) ++ (UInt8.ofNat (n[k]).length :: n[k]) := by
  rw [List.take_succ_eq_append_getElem h, encN_snoc]
theorem length_encN_take (n : List (List UInt8)) (k : Nat) : (encN (n.take k)).length < szN n := by
  have h1 := length_encN (n.take k)
  have h2 := szN_take_le n k
  omega






































































end Go.Proofs.YthppgofpbpjglaaGreat

namespace Go.Proofs.YthppgofpbpjglaaGreat
open Go.RowKit





















def strLenV : Value → Nat
  | .string s => s.size
  | _ => 0





theorem extract_take (l : List UInt8) (k : Nat) : (ByteArray.mk l.toArray).extract 0 k = ⟨(l.take k).toArray⟩ := by
  apply ByteArray.ext
  apply Array.toList_inj.1
  simp [ByteArray.data_extract]
theorem extract_tail (l : List UInt8) (k m : Nat) (hm : l.length ≤ m) : (ByteArray.mk l.toArray).extract k m = ⟨(l.drop k).toArray⟩ := by
  apply ByteArray.ext
  apply Array.toList_inj.1
  simp [ByteArray.data_extract]
  exact List.take_of_length_le (by simp; omega)

theorem putL_zero : putL [] 0 1 = [0] := by decide +kernel
theorem putL_ptr {k : Nat} (hk : k < 16384) : putL [] (49152 + (k : Int)) 2 = digs (49152 + k) 2 := by
  have hf : fitB ((49152 + k : Nat) : Int) ((2 : Nat) : Int) = true := fitB_true (by omega) (by omega) (by omega) (by simp; omega)
  have h := putL_yes (l := []) hf
  simpa using h
theorem noteR_good {B : List UInt8} {R : Rs} {r : List (List UInt8)} (h : ∀ x ∈ R, x.2 < 16384) : (∀ x ∈ noteR B R r, x.2 < 16384) ∧ (noteR B R r).length ≤ R.length + 1 := by
  unfold noteR
  split
  · rename_i hb
    refine ⟨fun x hx => ?_, by simp⟩
    rcases List.mem_append.1 hx with hx | hx
    · exact h x hx
    · rw [List.mem_singleton.1 hx]; exact hb
  · exact ⟨h, by omega⟩


































































































































































































end Go.Proofs.YthppgofpbpjglaaGreat

namespace Go.Proofs.YthppgofpbpjglaaGreat
open Go.RowKit

def numsW (s : Int) : List Int → List UInt8
  | [] => []
  | n :: l => putL [] n s ++ numsW s l
theorem numsW_snoc (s : Int) (n : Int) : ∀ l, numsW s (l ++ [n]) = numsW s l ++ putL [] n s
  | [] => by simp [numsW]
  | m :: l => by simp [numsW, numsW_snoc s n l]
theorem length_putL (n s : Int) : (putL [] n s).length ≤ 7 := by
  unfold putL
  split
  · rename_i h
    simp only [fitB, decide_eq_true_eq] at h
    simp [length_digs]
    omega
  · simp
theorem length_numsW (s : Int) : ∀ l : List Int, (numsW s l).length ≤ 7 * l.length
  | [] => by simp [numsW]
  | n :: l => by
    have h1 := length_numsW s l
    have h2 := length_putL n s
    simp only [numsW, List.length_append, List.length_cons]
    omega
def textsW : List (List UInt8) → List UInt8
  | [] => []
  | t :: l => putL [] (t.length : Int) 1 ++ (t ++ textsW l)
theorem textsW_snoc (t : List UInt8) : ∀ l, textsW (l ++ [t]) = textsW l ++ (putL [] (t.length : Int) 1 ++ t)
  | [] => by simp [textsW]
  | m :: l => by simp [textsW, textsW_snoc t l]
theorem length_textsW (M : Nat) : ∀ l : List (List UInt8), (∀ t ∈ l, t.length ≤ M) → (textsW l).length ≤ (M + 7) * l.length
  | [], _ => by simp [textsW]
  | t :: l, h => by
    have h1 := length_textsW M l fun x hx => h x (List.mem_cons_of_mem _ hx)
    have h2 := length_putL (t.length : Int) 1
    have h3 := h t (List.mem_cons_self ..)
    simp only [textsW, List.length_append, List.length_cons, Nat.mul_add]
    omega

/-- A row that stays while blocks in F turn. -/
def Stay (F : Nat → Prop) (w : World) (A : Option Addr) (xs : List Value) : Prop := ∀ w', Grew F w w' → Row w' w'.heap.size A xs
theorem Stay.row {F : Nat → Prop} {w : World} {A : Option Addr} {xs : List Value} (h : Stay F w A xs) : Row w w.heap.size A xs := h w (Grew.refl _ _)




























































































































end Go.Proofs.YthppgofpbpjglaaGreat

namespace Go.Proofs.YthppgofpbpjglaaGreat
open Go.RowKit

/-- What is written of data, behind B with the rests R. -/
def putH (s : Sh) (d : Dt) (B : List UInt8) (R : Rs) : List UInt8 × Rs := if s.host = true then nameW s.short d.host (B ++ numsW 2 (d.nums.take s.ahead)) R else (B ++ numsW 2 (d.nums.take s.ahead), R)
def putM (s : Sh) (d : Dt) (x : List UInt8 × Rs) : List UInt8 × Rs := if s.mail = true then nameW s.short d.mail x.1 x.2 else x
def putD (s : Sh) (d : Dt) (B : List UInt8) (R : Rs) : List UInt8 × Rs :=
  ((((putM s d (putH s d B R)).1 ++ numsW 4 (d.nums.drop s.ahead)) ++ textsW d.texts) ++ d.bytes, (putM s d (putH s d B R)).2)

/-- The block j holds a slice of the data. -/
def DV.owns (y : DV) (d : Dt) (j : Nat) : Prop := (y.vb d).ownBlock = some j ∨ (y.vh d).ownBlock = some j ∨ (y.vm d).ownBlock = some j ∨ (y.vn d).ownBlock = some j ∨ (y.vt d).ownBlock = some j
theorem OwnD.base {w : World} {B : Nat} {y : DV} {d : Dt} (h : OwnD w B y d) {j : Nat} (hj : y.owns d j) : B ≤ j ∧ j < w.heap.size := by
  rcases hj with e | e | e | e | e
  · exact h.b.lt j e
  · exact h.h.lt j e
  · exact h.m.lt j e
  · exact h.n.lt j e
  · exact h.t.lt j e
/-- What soundness says of the parts. -/
structure SoundP (s : Sh) (d : Dt) : Prop where
  h : s.host = true → soundN d.host = true
  m : s.mail = true → soundN d.mail = true
  h0 : s.host = false → d.host = []
  m0 : s.mail = false → d.mail = []
  n : d.nums.length = s.ahead + s.behind
  ok : numsOk s.ahead d.nums = true
  t : d.texts.length ≤ 64
  tl : ∀ t ∈ d.texts, t.length ≤ 255
  t0 : s.texts = false → d.texts = []
  t1 : s.texts = true → 1 ≤ d.texts.length
  b : d.bytes.length ≤ s.most
  bl : s.least ≤ d.bytes.length
theorem soundNm_yes {n : List (List UInt8)} {had : Bool} (h : soundNm n had = true) : (had = true → soundN n = true) ∧ (had = false → n = []) := by
  unfold soundNm at h
  constructor
  · rintro rfl
    by_cases h0 : n.length = 0
    · have : n = [] := List.eq_nil_of_length_eq_zero h0
      subst this
      decide
    · simpa [h0] using h
  · rintro rfl
    have h0 : n.length = 0 := by simpa using h
    exact List.eq_nil_of_length_eq_zero h0
theorem soundP {k : Int} {d : Dt} (h : soundD k d = true) : SoundP (shN k) d := by
  unfold soundD at h
  simp only [Bool.and_eq_true] at h
  obtain ⟨hk, hb, hh, hm, hn, ht⟩ := h
  have hh2 := soundNm_yes hh
  have hm2 := soundNm_yes hm
  unfold soundBs at hb
  unfold soundNs at hn
  unfold soundTs at ht
  simp only [Bool.and_eq_true, decide_eq_true_eq] at hb hn
  have ht2 : d.texts.length ≤ 64 ∧ (∀ t ∈ d.texts, t.length ≤ 255) ∧ ((shN k).texts = false → d.texts = []) ∧ ((shN k).texts = true → 1 ≤ d.texts.length) := by
    cases hf : (shN k).texts
    · rw [hf] at ht
      have h0 : d.texts.length = 0 := by simpa using ht
      have h1 : d.texts = [] := List.eq_nil_of_length_eq_zero h0
      refine ⟨by omega, fun t ht => (by rw [h1] at ht; cases ht), fun _ => h1, fun h => (by cases h)⟩
    · rw [hf] at ht
      simp only [if_true, Bool.and_eq_true, List.all_eq_true, decide_eq_true_eq] at ht
      exact ⟨ht.2.2, ht.1, fun h => (by cases h), fun _ => ht.2.1⟩
  exact ⟨hh2.1, hm2.1, hh2.2, hm2.2, hn.1, hn.2, ht2.1, ht2.2.1, ht2.2.2.1, ht2.2.2.2, hb.2, hb.1⟩
theorem soundN_parts {n : List (List UInt8)} (h : soundN n = true) : n.all fitL = true ∧ szN n ≤ 255 := by
  simpa [soundN] using h

theorem row_drop {w : World} {H k : Nat} {A : Option Addr} {xs : List Value} (h : Row w H A xs) : Row w H (A.map fun x => x.add k) (xs.drop k) := by
  intro hne
  obtain ⟨b, off, rfl, _, _⟩ := h (fun e => by rw [e] at hne; simp at hne)
  simp only [Option.map_some, addr_add]
  exact (h.drop rfl (k := k)) hne










































































































































































































































































































































































































































































































































































end Go.Proofs.YthppgofpbpjglaaGreat

namespace Go.Proofs.YthppgofpbpjglaaGreat
open Go.RowKit

set_option maxRecDepth 4000 in
set_option maxHeartbeats 1000000 in
theorem rdata_16 (x : DV) (d : Dt) (w : World) (hx : DataAt w w.heap.size x d) (hi : RefIn d) :
    Calls Tryz.prog 24 #[.int .i64 16, x.val d] w (Gave w (.bool (soundD 16 d))) := by
  have kn : d.nums.length ≤ maxLen := Nat.le_trans hx.ln hx.kn
  have kb : d.bytes.length ≤ maxLen := Nat.le_trans hx.lb hx.kb
  obtain ⟨W, hW⟩ : ∃ W, W = w.alloc (.cells #[.slice x.Ab d.bytes.length x.cb, .slice x.Ah d.host.length x.ch, .slice x.Am d.mail.length x.cm, .slice x.An d.nums.length x.cn, .slice x.At d.texts.length x.ct] 38) := ⟨_, rfl⟩
  have hD : DataAt W w.heap.size x d := by rw [hW]; exact hx.alloc (Nat.le_refl _) _
  have hB : Below w.heap.size w W := by rw [hW]; exact (Below.refl _ _).alloc (Nat.le_refl _) _
  have hsz : w.heap.size ≤ W.heap.size := by rw [hW]; simp
  have hwh : Whole W w.heap.size 38 [x.vb d, x.vh d, x.vm d, x.vn d, x.vt d] := by rw [hW]; exact Whole.made w [x.vb d, x.vh d, x.vm d, x.vn d, x.vt d] _
  have c0 : W.cell? ⟨w.heap.size, 0, none⟩ = some (.slice x.Ab d.bytes.length x.cb) := hwh.cell 0
  have c1 : W.cell? ⟨w.heap.size, 1, none⟩ = some (.slice x.Ah d.host.length x.ch) := hwh.cell 1
  have c2 : W.cell? ⟨w.heap.size, 2, none⟩ = some (.slice x.Am d.mail.length x.cm) := hwh.cell 2
  have c3 : W.cell? ⟨w.heap.size, 3, none⟩ = some (.slice x.An d.nums.length x.cn) := hwh.cell 3
  have c4 : W.cell? ⟨w.heap.size, 4, none⟩ = some (.slice x.At d.texts.length x.ct) := hwh.cell 4
  have HB := Lib.hid hB
  have HW := Lib.hid hW
  have HDT := Lib.hid hD.t
  have HTL := Lib.hid hi.tl
  have hkt := hi.t
  unfold maxLen at hkt
  have HH := Lib.hid (fun (_ : Unit) => ref_sound_wide x.Ah x.ch w.heap.size d.host W hD.h hi.h.1 hi.h.2)
  have HM := Lib.hid (fun (_ : Unit) => ref_sound_wide x.Am x.cm w.heap.size d.mail W hD.m hi.m.1 hi.m.2)
  have HF := Lib.hid (fun (_ : Unit) (a : Nat) (s : Int) => fit_any x.An d.nums.length x.cn w.heap.size d.nums a s W rfl hD.n kn hi.n)
  have HSZ := Lib.hid hsz
  unfold maxLen at kb kn
  have HS := Lib.hid (soundD_16 d)
  clear hD hB hwh hsz hx hi hW
  have enter : True := trivial
  by_cases l1 : 1 ≤ d.texts.length
  case neg =>
    have t1 : decide ((d.texts.length : Int) < 1) = true := by simp; omega
    rw [decide_eq_false l1] at HS
    clear l1
    go_enter Tryz.func24, Tryz.ntmps24
    rw [HW.out] at c0 c1 c2 c3 c4
    go_wp2
    go_ret
    exact ⟨by rw [HS.out]; rfl, by have h := HB.out; rw [HW.out] at h; exact h⟩
  have t1 : decide ((d.texts.length : Int) < 1) = false := by simp; omega
  rw [decide_eq_true l1] at HS
  by_cases l2 : d.texts.length ≤ 64
  case neg =>
    have t2 : decide ((64 : Int) < (d.texts.length : Int)) = true := by simp; omega
    rw [decide_eq_false l2] at HS
    clear l1 l2
    go_enter Tryz.func24, Tryz.ntmps24
    rw [HW.out] at c0 c1 c2 c3 c4
    go_wp2
    go_ret
    exact ⟨by rw [HS.out]; rfl, by have h := HB.out; rw [HW.out] at h; exact h⟩
  have t2 : decide ((64 : Int) < (d.texts.length : Int)) = false := by simp; omega
  rw [decide_eq_true l2] at HS
  go_enter Tryz.func24, Tryz.ntmps24
  rw [HW.out] at c0 c1 c2 c3 c4
  go_wp2_with fail
  rw [← HW.out]
  rw [← HW.out] at c0 c1 c2 c3 c4
  refine (empty_t x d W).mono ?_
  intro e w1 hO
  obtain ⟨he, hb⟩ := hO
  have HE := Lib.hid (HB.out.trans (hb.mono HSZ.out))
  have HT1 := Lib.hid ((HDT.out.below (hb.mono HSZ.out)))
  have c41 : w1.cell? ⟨w.heap.size, 4, none⟩ = some (.slice x.At d.texts.length x.ct) := (hb.cell (p := ⟨w.heap.size, 4, none⟩) (World.block_lt_of_cell? W _ c4)).trans c4
  clear hb c0 c1 c2 c3 c4
  cases hv : (decide (d.bytes.length = 0) && (decide (d.host.length = 0) && (decide (d.mail.length = 0) && decide (d.nums.length = 0)))) with
  | false =>
    rw [hv] at he HS
    subst he
    go_wp2
    go_ret
    exact ⟨by rw [HS.out]; rfl, HE.out⟩
  | true =>
  rw [hv] at he HS
  subst he
  go_wp2
  go_loop [5] (STRel d.texts) (fun i => d.texts.length - (intOf i).toNat)
  case atStart => exact ⟨0, Nat.zero_le _, rfl, rfl⟩
  case round =>
    obtain ⟨k, hk, rfl, hok⟩ := hrel
    have HOK := Lib.hid hok
    clear hok
    by_cases hlt : k < d.texts.length
    · obtain ⟨b, off, hA, _, hc⟩ := HT1.out.name_at hlt
      have hlk := HTL.out k hlt
      unfold maxLen at hlk
      rw [hA] at c41
      by_cases hbig : 255 < (d.texts[k]).length
      · have d1 : decide ((255 : Int) < ((d.texts[k]).length : Int)) = true := by simp; omega
        have HN := Lib.hid (all_not (n := d.texts) (fun t : List UInt8 => decide (t.length ≤ 255)) hlt (by simp; omega))
        go_wp2
        go_ret
        exact ⟨by rw [HS.out, HN.out]; rfl, HE.out⟩
      · have d1 : decide ((255 : Int) < ((d.texts[k]).length : Int)) = false := by simp; omega
        have HY := Lib.hid (all_snoc (n := d.texts) (fun t : List UInt8 => decide (t.length ≤ 255)) hlt HOK.out (by simp; omega))
        go_wp2
        exact ⟨⟨k + 1, hlt, by go_num, HY.out⟩, by simp [intOf]; omega⟩
    · obtain rfl : k = d.texts.length := by omega
      have HN := Lib.hid (show d.texts.all (fun t => decide (t.length ≤ 255)) = true by have h := HOK.out; rw [List.take_length] at h; exact h)
      go_wp2
      go_ret
      exact ⟨by rw [HS.out, HN.out]; rfl, HE.out⟩

theorem refData_any (k : Int) (x : DV) (d : Dt) (w : World) (hx : DataAt w w.heap.size x d) (hi : RefIn d) :
    Calls Tryz.prog 24 #[.int .i64 k, x.val d] w (Gave w (.bool (soundD k d))) := by
  cases hk : kindB k with
  | false => exact rdata_kind k x d w hk
  | true =>
    rcases shN_cases k with rfl | rfl | rfl | rfl | rfl | rfl | rfl | rfl | rfl | ho
    · exact rdata_1 x d w hx hi
    · exact rdata_28 x d w hx hi
    · exact rdata_2 x d w hx hi
    · exact rdata_5 x d w hx hi
    · exact rdata_12 x d w hx hi
    · exact rdata_15 x d w hx hi
    · exact rdata_6 x d w hx hi
    · exact rdata_16 x d w hx hi
    · exact rdata_33 x d w hx hi
    · exact rdata_other k x d w hx hi hk ho

theorem sound_sz {k : Int} {d : Dt} (h : soundD k d = true) : szN d.host ≤ maxLen ∧ szN d.mail ≤ maxLen := by
  have sp := soundP h
  have key : ∀ (n : List (List UInt8)) (b : Bool), (b = true → soundN n = true) → (b = false → n = []) → szN n ≤ maxLen := by
    intro n b h1 h2
    cases b
    · rw [h2 rfl]; decide
    · have := (soundN_parts (h1 rfl)).2
      unfold maxLen
      omega
  exact ⟨key _ _ sp.h sp.h0, key _ _ sp.m sp.m0⟩
















end Go.Proofs.YthppgofpbpjglaaGreat

namespace Go.Proofs.YthppgofpbpjglaaGreat
open Go.RowKit

/-- Every edge leads back. -/
def backB (ops : Array Oper) : Bool := (List.range ops.size).all fun i => ((ops[i]?).map fun o => o.after.all fun e => decide (e.on < i)).getD true
/-- Operation j yields into slot d0 + j, for each j below n; no guards. -/
def slotsB (ops : Array Oper) (d0 n : Nat) : Bool := (List.range n).all fun i => ((ops[i]?).map fun o => decide (o.dst = some (d0 + i)) && o.guard.isNone).getD false

structure Facts (ops : Array Oper) (d0 n : Nat) (a0 : Act) (S : World → Prop) (F : Nat → Value → World → Prop) (D : Nat → Nat → Value → Value → Prop) (l : Array Bool) (a : Act) (w : World) : Prop where
  inv : HeadInv .any ops n l
  defers : a.defers = a0.defers
  size : a.tmps.size = a0.tmps.size
  low : ∀ s, s < d0 → a.tmps[s]? = a0.tmps[s]?
  S : S w
  facts : ∀ j, j < n → l.getD j false = true → ∃ v, a.tmps[d0 + j]? = some v ∧ F j v w
  dist : ∀ j k, j < n → k < n → j ≠ k → l.getD j false = true → l.getD k false = true → ∀ u v, a.tmps[d0 + j]? = some u → a.tmps[d0 + k]? = some v → D j k u v

/-- How many of the first n have not come up. -/
def left (n : Nat) (l : Array Bool) : Nat := (List.range n).countP fun i => !l.getD i false

theorem left_succ (n : Nat) (l : Array Bool) : left (n + 1) l = left n l + if l.getD n false = true then 0 else 1 := by
  unfold left
  rw [List.range_succ, List.countP_append, List.countP_singleton]
  cases l.getD n false <;> rfl
theorem left_far {i : Nat} {l : Array Bool} : ∀ {n : Nat}, n ≤ i → left n (l.setIfInBounds i true) = left n l
  | 0, _ => rfl
  | n + 1, h => by rw [left_succ, left_succ, left_far (by omega), getD_set_ne false (by omega)]
theorem left_set {i : Nat} {l : Array Bool} (hl : i < l.size) (h : l.getD i false = false) : ∀ {n : Nat}, i < n → left n (l.setIfInBounds i true) + 1 = left n l
  | 0, hi => by omega
  | n + 1, hi => by
    rw [left_succ, left_succ]
    by_cases hin : i = n
    · subst hin
      have : (l.setIfInBounds i true).getD i false = true := by simp [hl]
      rw [left_far (Nat.le_refl _), h, this]
      simp
    · have := left_set hl h (n := n) (by omega)
      rw [getD_set_ne false hin]
      omega

theorem left_zero {n : Nat} {l : Array Bool} (h : left n l = 0) : ∀ j, j < n → l.getD j false = true := by
  intro j hj
  unfold left at h
  have h1 := List.countP_eq_zero.1 h j (List.mem_range.2 hj)
  simpa using h1

theorem ready_some {ops : Array Oper} {n : Nat} {l : Array Bool} (hb : backB ops = true) (hsz : l.size = ops.size) (hn : n ≤ ops.size) : ∀ (d i : Nat), i ≤ d → i < n → l.getD i false = false → Region.ready .any ops l ≠ [] := by
  intro d
  induction d with
  | zero =>
    intro i hi hin hl
    obtain rfl : i = 0 := by omega
    have hlt : 0 < ops.size := by omega
    have h0 := List.all_eq_true.1 hb 0 (List.mem_range.2 hlt)
    rw [Array.getElem?_eq_getElem hlt] at h0
    simp only [Option.map_some, Option.getD_some] at h0
    have : 0 ∈ Region.ready .any ops l := mem_ready.2 ⟨getD_in (by omega) hl, ops[0], Array.getElem?_eq_getElem hlt, fun e he _ => by
      have := Array.all_eq_true'.1 h0 e he
      simp at this⟩
    exact fun h => by rw [h] at this; cases this
  | succ d ih =>
    intro i hi hin hl
    have hlt : i < ops.size := by omega
    have h0 := List.all_eq_true.1 hb i (List.mem_range.2 hlt)
    rw [Array.getElem?_eq_getElem hlt] at h0
    simp only [Option.map_some, Option.getD_some] at h0
    by_cases hall : ∀ e ∈ ops[i].after, Region.binds .any e = true → l.getD e.on false = true
    · have : i ∈ Region.ready .any ops l := mem_ready.2 ⟨getD_in (by omega) hl, ops[i], Array.getElem?_eq_getElem hlt, hall⟩
      exact fun h => by rw [h] at this; cases this
    · have : ∃ e, e ∈ ops[i].after ∧ l.getD e.on false = false := by
        apply Classical.byContradiction
        intro hno
        apply hall
        intro e he _
        cases hx : l.getD e.on false with
        | true => rfl
        | false => exact absurd ⟨e, he, hx⟩ hno
      obtain ⟨e, he, hx⟩ := this
      have := Array.all_eq_true'.1 h0 e he
      simp at this
      exact ih e.on (by omega) (by omega) hx

theorem wpAny_facts {P : Program} {ops : Array Oper} {Q : Exit → Act → World → Prop} {d0 n : Nat} {a0 : Act} {S : World → Prop} {F : Nat → Value → World → Prop} {D : Nat → Nat → Value → Value → Prop}
    (hsz : ops.size = n + 1) (hs : Region.sinkB .any ops n = true) (hc : Region.chainB .any ops n = true) (hb : backB ops = true) (hd : slotsB ops d0 n = true) (ha : d0 + n ≤ a0.tmps.size)
    (hq : Region.seqB .any ops 1 n ((Array.replicate n true).push false) = true)
    (hstep : ∀ i o, i < n → ops[i]? = some o → ∀ l a w, Facts ops d0 n a0 S F D l a w → (∀ e ∈ o.after, Region.binds .any e = true → l.getD e.on false = true) →
      ∀ K : Act → World → Prop, (∀ v w', F i v w' → S w' → (∀ j u, j < n → F j u w → F j u w') → (∀ j u, j < n → F j u w → D i j v u ∧ D j i u v) → K (a.put o.dst v) w') → o.wp P a w K Q)
    (htail : ∀ l a w o, ops[n]? = some o → Facts ops d0 n a0 S F D l a w → (∀ j, j < n → l.getD j false = true) → wpList P ops Q [o] a w) :
    ∀ (f : Nat) (l : Array Bool) (a : Act) (w : World), left n l ≤ f → Facts ops d0 n a0 S F D l a w → wpAny P .any ops Q (left n l + 1) l a w := by
  intro f
  induction f with
  | zero =>
    intro l a w hf h
    have hz : left n l = 0 := by omega
    have hall := left_zero hz
    have hl : l = (Array.replicate n true).push false := by
      apply Array.ext (by simp [h.inv.size, hsz])
      intro i h1 h2
      simp at h2
      rcases Nat.lt_or_ge i n with hi | hi
      · have := hall i hi
        simp [h1] at this
        simp [this, hi, Array.getElem_push]
      · obtain rfl : i = n := by omega
        have := h.inv.tail i (Nat.le_refl _) (by omega)
        simp [h1] at this
        simp [this, Array.getElem_push]
    have hlt : n < ops.size := by omega
    rw [hz, Nat.zero_add, hl]
    rw [hl] at h
    have := wpAny_of_seq (P := P) (md := .any) (ops := ops) (Q' := Q) [ops[n]] n ((Array.replicate n true).push false) a w (fun j => by
      rcases j with _ | j
      · simp [Array.getElem?_eq_getElem hlt]
      · simp
        omega) hq (htail _ a w _ (Array.getElem?_eq_getElem hlt) h fun j hj => hl ▸ hall j hj)
    exact this
  | succ f ih =>
    intro l a w hf h
    by_cases hz : left n l = 0
    · exact ih l a w (by omega) h
    have hne : Region.ready .any ops l ≠ [] := by
      have : ∃ i, i < n ∧ l.getD i false = false := by
        apply Classical.byContradiction
        intro hno
        apply hz
        unfold left
        rw [List.countP_eq_zero]
        intro i hi
        cases hx : l.getD i false with
        | true => simp
        | false => exact absurd ⟨i, List.mem_range.1 hi, hx⟩ hno
      obtain ⟨i, hi, hx⟩ := this
      exact ready_some hb h.inv.size (by omega) i i (Nat.le_refl _) hi hx
    refine ⟨fun h0 => absurd h0 hne, fun i hi => ?_⟩
    obtain ⟨hun, o, ho, hall⟩ := mem_ready.1 hi
    have hin : i < n := by
      rcases Nat.lt_or_ge i n with h1 | h1
      · exact h1
      · have : ∃ i, i < n ∧ l.getD i false = false := by
          apply Classical.byContradiction
          intro hno
          apply hz
          unfold left
          rw [List.countP_eq_zero]
          intro i hi
          cases hx : l.getD i false with
          | true => simp
          | false => exact absurd ⟨i, List.mem_range.1 hi, hx⟩ hno
        obtain ⟨j, hj, hx⟩ := this
        exact absurd hi (tail_waits hs hc (by omega) h.inv _ j rfl hj (getD_in (by rw [h.inv.size]; omega) hx) i h1)
    have hsl := List.all_eq_true.1 hd i (List.mem_range.2 hin)
    rw [ho] at hsl
    simp only [Option.map_some, Option.getD_some, Bool.and_eq_true, decide_eq_true_eq] at hsl
    have hg : o.guard = none := by simpa using hsl.2
    have hls : i < l.size := by rw [h.inv.size]; omega
    have hlt := left_set (l := l) (by rw [h.inv.size]; omega) (getD_both hun) hin
    unfold wpOp
    rw [ho]
    simp only
    rw [if_pos (by unfold Region.wanted; rw [hg])]
    refine .inl (hstep i o hin ho l a w h hall _ fun v w' hF hS hk hD => ?_)
    have hih := ih (l.setIfInBounds i true) (a.put o.dst v) w' (by omega) ?_
    · rwa [hlt] at hih
    · refine ⟨h.inv.set hi hin, by rw [hsl.1]; exact h.defers, by simp [Act.put, hsl.1, h.size], fun s hs => ?_, hS, fun j hj hl => ?_, fun j k hj hk' hjk hlj hlk u v' hu hv => ?_⟩
      · rw [hsl.1]
        simp only [Act.put]
        rw [Array.getElem?_setIfInBounds_ne (by omega)]
        exact h.low s hs
      · rw [hsl.1]
        simp only [Act.put]
        by_cases hij : i = j
        · subst hij
          exact ⟨v, by rw [Array.getElem?_setIfInBounds_self_of_lt (by have := h.size; omega)], hF⟩
        · rw [getD_set_ne false hij] at hl
          obtain ⟨u, hu, hFu⟩ := h.facts j hj hl
          exact ⟨u, by rw [Array.getElem?_setIfInBounds_ne (by omega)]; exact hu, hk j u hj hFu⟩
      · rw [hsl.1] at hu hv
        simp only [Act.put] at hu hv
        by_cases hij : i = j
        · subst hij
          rw [Array.getElem?_setIfInBounds_self_of_lt (by have := h.size; omega)] at hu
          rw [Array.getElem?_setIfInBounds_ne (by omega)] at hv
          injection hu with hu
          subst hu
          rw [getD_set_ne false hjk] at hlk
          obtain ⟨v2, hv2, hFv⟩ := h.facts k hk' hlk
          rw [hv] at hv2
          injection hv2 with hv2
          subst hv2
          exact (hD k v' hk' hFv).1
        · rw [Array.getElem?_setIfInBounds_ne (by omega)] at hu
          rw [getD_set_ne false hij] at hlj
          by_cases hik : i = k
          · subst hik
            rw [Array.getElem?_setIfInBounds_self_of_lt (by have := h.size; omega)] at hv
            injection hv with hv
            subst hv
            obtain ⟨u2, hu2, hFu⟩ := h.facts j hj hlj
            rw [hu] at hu2
            injection hu2 with hu2
            subst hu2
            exact (hD j u hj hFu).2
          · rw [Array.getElem?_setIfInBounds_ne (by omega)] at hv
            rw [getD_set_ne false hik] at hlk
            exact h.dist j k hj hk' hjk hlj hlk u v' hu hv

theorem left_none (n m : Nat) : left n (Array.replicate m false) = n := by
  have h : ∀ n, left n (Array.replicate m false) = n := fun n => by
    induction n with
    | zero => rfl
    | succ n ih => rw [left_succ, ih, getD_replicate_false]; rfl
  exact h n

/-- The region, from its beginning. -/
theorem wp_region_facts {P : Program} {ops : Array Oper} {Q : Exit → Act → World → Prop} {id : Nat} (d0 n : Nat) {a0 : Act} {w : World} (S : World → Prop) (F : Nat → Value → World → Prop) (D : Nat → Nat → Value → Value → Prop)
    (hm : P.follows .mixedOrders = true) (hsz : ops.size = n + 1) (hs : Region.sinkB .any ops n = true) (hc : Region.chainB .any ops n = true) (hb : backB ops = true) (hd : slotsB ops d0 n = true) (ha : d0 + n ≤ a0.tmps.size)
    (hq : Region.seqB .any ops 1 n ((Array.replicate n true).push false) = true) (hS : S w.drew)
    (hstep : ∀ i o, i < n → ops[i]? = some o → ∀ l a w, Facts ops d0 n a0 S F D l a w → (∀ e ∈ o.after, Region.binds .any e = true → l.getD e.on false = true) →
      ∀ K : Act → World → Prop, (∀ v w', F i v w' → S w' → (∀ j u, j < n → F j u w → F j u w') → (∀ j u, j < n → F j u w → D i j v u ∧ D j i u v) → K (a.put o.dst v) w') → o.wp P a w K Q)
    (htail : ∀ l a w o, ops[n]? = some o → Facts ops d0 n a0 S F D l a w → (∀ j, j < n → l.getD j false = true) → wpList P ops Q [o] a w) : (Code.region id ops true).wp P Q a0 w := by
  refine wp_region_any hm ?_
  have h := wpAny_facts hsz hs hc hb hd ha hq hstep htail n (Array.replicate ops.size false) a0 w.drew (by rw [left_none]; exact Nat.le_refl _)
    ⟨⟨by simp, fun j oj _ hl => (by rw [getD_replicate_false] at hl; cases hl), fun t _ ht => getD_in (by simpa using ht) (getD_replicate_false _ _)⟩, rfl, rfl, fun _ _ => rfl, hS,
      fun j _ hl => (by rw [getD_replicate_false] at hl; cases hl), fun j k _ _ _ hl => (by rw [getD_replicate_false] at hl; cases hl)⟩
  rw [left_none] at h
  rw [hsz] at h ⊢
  exact h

end Go.Proofs.YthppgofpbpjglaaGreat

namespace Go.Proofs.YthppgofpbpjglaaGreat
open Go.RowKit

theorem step_build {a : Act} {w : World} {K : Act → World → Prop} {Q : Exit → Act → World → Prop} (o : Oper) (T e : TypeId) (i : TypeInfo) (ho : o.op = .buildSlice T 0 #[]) (hT : Tryz.prog.underlying T = some (.slice e)) (hi : Tryz.prog.info? e = some i)
    (h : K (a.put o.dst (.slice (some ⟨w.heap.size, 0, none⟩) 0 0)) (w.alloc (.cells #[] e))) : o.wp Tryz.prog a w K Q := by
  unfold Oper.wp
  simp [execOp, ho, go_sem, run_underlying hT, sizeOf, typeInfo, hi]
  exact h

theorem step_field {a : Act} {w : World} {K : Act → World → Prop} {Q : Exit → Act → World → Prop} (o : Oper) (j H : Nat) (hj : j < 5) (ho : o.op = .fieldAddr 38 (.tmp 1) j) (h1 : a.tmps[1]? = some (.pointer (some ⟨H, 0, none⟩)))
    (h : K (a.put o.dst (.pointer (some ⟨H, j, none⟩))) w) : o.wp Tryz.prog a w K Q := by
  unfold Oper.wp
  obtain rfl | rfl | rfl | rfl | rfl : j = 0 ∨ j = 1 ∨ j = 2 ∨ j = 3 ∨ j = 4 := by omega
  all_goals
    simp [execOp, ho, h1, go_sem]
    exact h

theorem step_load {a : Act} {w : World} {K : Act → World → Prop} {Q : Exit → Act → World → Prop} (o : Oper) (T e : TypeId) (k : Nat) (p : Addr) (v : Value) (ho : o.op = .load T (.tmp k)) (hT : Tryz.prog.underlying T = some (.slice e)) (h1 : a.tmps[k]? = some (.pointer (some p)))
    (hc : w.cell? p = some v) (h : K (a.put o.dst v) w) : o.wp Tryz.prog a w K Q := by
  unfold Oper.wp
  simp [execOp, ho, h1, go_sem, isAgg, run_underlying hT, hc]
  exact h

theorem step_append {a : Act} {w : World} {K : Act → World → Prop} {Q : Exit → Act → World → Prop} (o : Oper) (k1 k2 : Nat) (B : Nat) (t e : TypeId) (i : TypeInfo) (z : Value) (bytes : Nat) (ho : o.op = .call { callee := .builtin .append, args := #[.tmp k1, .tmp k2], argTypes := #[t, t] })
    (ht : Tryz.prog.underlying t = some (.slice e)) (hi : Tryz.prog.info? e = some i) (hz : i.zero = some z) (hsize : i.size = 1) (hby : i.bytes = bytes) (hzs : z.cells.size = 1) (v : Value)
    (h1 : a.tmps[k1]? = some v) (hv : ∃ g, v = .slice (some ⟨g, 0, none⟩) 0 0 ∧ B ≤ g ∧ w.heap[g]? = some (.cells #[] e (0, 0)))
    (A : Option Addr) (m c H : Nat) (news : List Value) (h2 : a.tmps[k2]? = some (.slice A m c)) (hl : news.length = m) (hr : Row w H A news) (hn1 : ∀ u ∈ news, u.oneCell' = true) (h63 : m ≤ maxLen) (hbytes : m * bytes ≤ 140737488355328) (hB : B ≤ w.heap.size)
    (h : ∀ v' w', w'.ownsRow B e 1 v' m news → Below w.heap.size w w' → (0 < m → v'.ownBlock = some w.heap.size) → K (a.put o.dst v') w') : o.wp Tryz.prog a w K Q := by
  obtain ⟨g, rfl, hg, hh⟩ := hv
  obtain ⟨v', w', hrun, h3, h4, h5⟩ := append_zero_run (P := Tryz.prog) w B t o.type e i z bytes ht hi hz hsize hby hzs g hg hh A m c H news hl hr hn1 h63 hbytes hB
  unfold Oper.wp
  simp [execOp, ho, resolve, invoke, builtin, Act.eval, h1, h2, hrun, Result.andThen]
  exact h v' w' h3 h4 h5

theorem step_store {a : Act} {w : World} {K : Act → World → Prop} {Q : Exit → Act → World → Prop} (o : Oper) (g : Nat) (y : DV) (d : Dt) (u0 u1 u2 u3 u4 : Value) (ho : o.op = .store 38 (.tmp 2) (.tmp 23)) (h2 : a.tmps[2]? = some (.pointer (some ⟨g, 0, none⟩)))
    (hu : a.tmps[23]? = some (y.val d)) (hw : Whole w g 38 [u0, u1, u2, u3, u4])
    (h : K (a.put o.dst undef) (((((w.setCell ⟨g, 0, none⟩ (y.vb d)).setCell ⟨g, 1, none⟩ (y.vh d)).setCell ⟨g, 2, none⟩ (y.vm d)).setCell ⟨g, 3, none⟩ (y.vn d)).setCell ⟨g, 4, none⟩ (y.vt d))) : o.wp Tryz.prog a w K Q := by
  have q0 : w.cell? ⟨g, 0, none⟩ = some u0 := hw.cell 0
  have q1 : w.cell? ⟨g, 1, none⟩ = some u1 := hw.cell 1
  have q2 : w.cell? ⟨g, 2, none⟩ = some u2 := hw.cell 2
  have q3 : w.cell? ⟨g, 3, none⟩ = some u3 := hw.cell 3
  have q4 : w.cell? ⟨g, 4, none⟩ = some u4 := hw.cell 4
  have z0 : w.frozen? ⟨g, 0, none⟩ = false := hw.frozen 0
  have z1 : w.frozen? ⟨g, 1, none⟩ = false := hw.frozen 1
  have z2 : w.frozen? ⟨g, 2, none⟩ = false := hw.frozen 2
  have z3 : w.frozen? ⟨g, 3, none⟩ = false := hw.frozen 3
  have z4 : w.frozen? ⟨g, 4, none⟩ = false := hw.frozen 4
  unfold Oper.wp
  simp [execOp, ho, go_sem, h2, hu, q0, q1, q2, q3, q4, z0, z1, z2, z3, z4]
  exact h

/-- What each operation of the region yields. -/
def factF (H B : Nat) (x : DV) (d : Dt) : Nat → Value → World → Prop
  | 0 => fun v w => ∃ g, v = .slice (some ⟨g, 0, none⟩) 0 0 ∧ B ≤ g ∧ w.heap[g]? = some (.cells #[] 5 (0, 0))
  | 1 => fun v _ => v = .pointer (some ⟨H, 0, none⟩)
  | 2 => fun v _ => v = .slice x.Ab d.bytes.length x.cb
  | 3 => fun v w => w.ownsRow B 5 1 v d.bytes.length (d.bytes.map bc)
  | 4 => fun v w => ∃ g, v = .slice (some ⟨g, 0, none⟩) 0 0 ∧ B ≤ g ∧ w.heap[g]? = some (.cells #[] 9 (0, 0))
  | 5 => fun v _ => v = .pointer (some ⟨H, 1, none⟩)
  | 6 => fun v _ => v = .slice x.Ah d.host.length x.ch
  | 7 => fun v w => w.ownsRow B 9 1 v d.host.length (d.host.map sv)
  | 8 => fun v w => ∃ g, v = .slice (some ⟨g, 0, none⟩) 0 0 ∧ B ≤ g ∧ w.heap[g]? = some (.cells #[] 9 (0, 0))
  | 9 => fun v _ => v = .pointer (some ⟨H, 2, none⟩)
  | 10 => fun v _ => v = .slice x.Am d.mail.length x.cm
  | 11 => fun v w => w.ownsRow B 9 1 v d.mail.length (d.mail.map sv)
  | 12 => fun v w => ∃ g, v = .slice (some ⟨g, 0, none⟩) 0 0 ∧ B ≤ g ∧ w.heap[g]? = some (.cells #[] 3 (0, 0))
  | 13 => fun v _ => v = .pointer (some ⟨H, 3, none⟩)
  | 14 => fun v _ => v = .slice x.An d.nums.length x.cn
  | 15 => fun v w => w.ownsRow B 3 1 v d.nums.length (d.nums.map zv)
  | 16 => fun v w => ∃ g, v = .slice (some ⟨g, 0, none⟩) 0 0 ∧ B ≤ g ∧ w.heap[g]? = some (.cells #[] 9 (0, 0))
  | 17 => fun v _ => v = .pointer (some ⟨H, 4, none⟩)
  | 18 => fun v _ => v = .slice x.At d.texts.length x.ct
  | 19 => fun v w => w.ownsRow B 9 1 v d.texts.length (d.texts.map sv)
  | 20 => fun v w => ∃ y : DV, v = y.val d ∧ OwnD w B y d ∧ Apart (y.vh d) (y.vm d) ∧ Apart (y.vh d) (y.vt d)
  | _ => fun _ _ => True
theorem heap_some_lt {w : World} {g : Nat} {o : Obj} (h : w.heap[g]? = some o) : g < w.heap.size := by
  rcases Nat.lt_or_ge g w.heap.size with h1 | h1
  · exact h1
  · rw [Array.getElem?_eq_none h1] at h; cases h
theorem factF_mono {H B : Nat} {x : DV} {d : Dt} {w w' : World} (hw : ∀ g, g < w.heap.size → w'.heap[g]? = w.heap[g]?) : ∀ j u, j < 21 → factF H B x d j u w → factF H B x d j u w'
  | 0, _, _, ⟨g, e, hg, hh⟩ => ⟨g, e, hg, (hw g (heap_some_lt hh)).trans hh⟩
  | 1, _, _, h => h
  | 2, _, _, h => h
  | 3, _, _, h => own_keep h fun g e => hw g (World.ownsRow.lt h g e).2
  | 4, _, _, ⟨g, e, hg, hh⟩ => ⟨g, e, hg, (hw g (heap_some_lt hh)).trans hh⟩
  | 5, _, _, h => h
  | 6, _, _, h => h
  | 7, _, _, h => own_keep h fun g e => hw g (World.ownsRow.lt h g e).2
  | 8, _, _, ⟨g, e, hg, hh⟩ => ⟨g, e, hg, (hw g (heap_some_lt hh)).trans hh⟩
  | 9, _, _, h => h
  | 10, _, _, h => h
  | 11, _, _, h => own_keep h fun g e => hw g (World.ownsRow.lt h g e).2
  | 12, _, _, ⟨g, e, hg, hh⟩ => ⟨g, e, hg, (hw g (heap_some_lt hh)).trans hh⟩
  | 13, _, _, h => h
  | 14, _, _, h => h
  | 15, _, _, h => own_keep h fun g e => hw g (World.ownsRow.lt h g e).2
  | 16, _, _, ⟨g, e, hg, hh⟩ => ⟨g, e, hg, (hw g (heap_some_lt hh)).trans hh⟩
  | 17, _, _, h => h
  | 18, _, _, h => h
  | 19, _, _, h => own_keep h fun g e => hw g (World.ownsRow.lt h g e).2
  | 20, _, _, ⟨y, e, h, h1, h2⟩ => ⟨y, e, h.keep hw, h1, h2⟩
  | n + 21, _, h, _ => absurd h (by omega)
def isApp (i : Nat) : Bool := decide (i % 4 = 3)
def ownAp (i j : Nat) (u v : Value) : Prop := isApp i = true → isApp j = true → Apart u v
theorem factF_lt {H B : Nat} {x : DV} {d : Dt} {w : World} : ∀ j u, j < 21 → isApp j = true → factF H B x d j u w → ∀ g, u.ownBlock = some g → g < w.heap.size
  | 0, _, _, h, _, _, _ => by cases h
  | 1, _, _, h, _, _, _ => by cases h
  | 2, _, _, h, _, _, _ => by cases h
  | 3, _, _, _, h, g, e => (World.ownsRow.lt h g e).2
  | 4, _, _, h, _, _, _ => by cases h
  | 5, _, _, h, _, _, _ => by cases h
  | 6, _, _, h, _, _, _ => by cases h
  | 7, _, _, _, h, g, e => (World.ownsRow.lt h g e).2
  | 8, _, _, h, _, _, _ => by cases h
  | 9, _, _, h, _, _, _ => by cases h
  | 10, _, _, h, _, _, _ => by cases h
  | 11, _, _, _, h, g, e => (World.ownsRow.lt h g e).2
  | 12, _, _, h, _, _, _ => by cases h
  | 13, _, _, h, _, _, _ => by cases h
  | 14, _, _, h, _, _, _ => by cases h
  | 15, _, _, _, h, g, e => (World.ownsRow.lt h g e).2
  | 16, _, _, h, _, _, _ => by cases h
  | 17, _, _, h, _, _, _ => by cases h
  | 18, _, _, h, _, _, _ => by cases h
  | 19, _, _, _, h, g, e => (World.ownsRow.lt h g e).2
  | 20, _, _, h, _, _, _ => by cases h
  | n + 21, _, h, _, _, _, _ => absurd h (by omega)

theorem Apart.symm {u v : Value} (h : Apart u v) : Apart v u := by
  intro g k n m c c' e1 e2 h1 h2 e
  exact h k g m n c' c e2 e1 h2 h1 e.symm
theorem apart_new {H B : Nat} {x : DV} {d : Dt} {w w' : World} {i m : Nat} {v : Value} {t : TypeId} {xs : List Value} (ho : w'.ownsRow B t 1 v m xs) (hn : 0 < m → v.ownBlock = some w.heap.size) :
    ∀ j u, j < 21 → factF H B x d j u w → ownAp i j v u ∧ ownAp j i u v := by
  intro j u hj hF
  have h : isApp j = true → Apart v u := fun hj2 g k n m2 c c' e1 e2 h1 h2 e => by
    have hk := factF_lt j u hj hj2 hF k (by rw [e2]; rfl)
    obtain ⟨A, c2, e3, _, _⟩ := own_form ho
    rw [e1] at e3
    injection e3 with _ e4 _
    have hb := hn (by omega)
    rw [e1] at hb
    simp only [Value.ownBlock, Option.some.injEq] at hb
    omega
  exact ⟨fun _ hj2 => h hj2, fun hj2 _ => (h hj2).symm⟩
theorem apart_not {i j : Nat} {v u : Value} (h : isApp i = false) : ownAp i j v u ∧ ownAp j i u v := ⟨fun h1 => (by rw [h] at h1; cases h1), fun _ h1 => (by rw [h] at h1; cases h1)⟩

structure OwnS (W : World) (B : Nat) (w : World) : Prop where
  below : Below B W w
  size : B ≤ w.heap.size
theorem OwnS.more {W w w' : World} {B : Nat} (h : OwnS W B w) (hb : Below w.heap.size w w') : OwnS W B w' := ⟨h.below.trans (hb.mono h.size), Nat.le_trans h.size hb.size⟩

/-- What the call leaves: data that shares nothing. -/
def Owns (w : World) (d : Dt) (e : Ending) (w' : World) : Prop :=
  ∃ y : DV, e = .returned (y.val d) ∧ OwnD w' w.heap.size y d ∧ Apart (y.vh d) (y.vm d) ∧ Apart (y.vh d) (y.vt d) ∧ Below w.heap.size w w'

/-- Few parts, whatever their lengths. -/
structure FewD (d : Dt) : Prop where
  nh : d.host.length ≤ 300
  nm : d.mail.length ≤ 300
  nt : d.texts.length ≤ 200
  nn : d.nums.length ≤ 200
  nb : d.bytes.length ≤ 200000
theorem LightD.few {d : Dt} (h : LightD d) : FewD d := ⟨h.nh, h.nm, h.nt, h.nn, Nat.le_trans h.nb (by omega)⟩

set_option maxRecDepth 20000 in
set_option maxHeartbeats 1000000 in
theorem ownData_few (x : DV) (d : Dt) (w : World) (h : DataAt w w.heap.size x d) (hl : FewD d) :
    Calls Tryz.prog 54 #[x.val d] w (Owns w d) := by
  obtain ⟨iu, hiu, hzu, hsu, hbu⟩ := info_parts u8_info
  obtain ⟨is, his, hzs, hss, hbs⟩ := info_parts str_info
  obtain ⟨ii, hii, hzi, hsi, hbi⟩ := info_parts zint_info
  obtain ⟨hnh, hnm, hnt, hnn, hnb⟩ := hl
  go_enter Tryz.func54, Tryz.ntmps54
  go_wp2
  rename_i hret
  obtain ⟨W, hW⟩ : ∃ W, W = (w.alloc (.cells #[x.vb d, x.vh d, x.vm d, x.vn d, x.vt d] 38)).alloc (.cells #[.slice none 0 0, .slice none 0 0, .slice none 0 0, .slice none 0 0, .slice none 0 0] 38) := ⟨_, rfl⟩
  rw [← hW]
  have hw0 : Whole W w.heap.size 38 [x.vb d, x.vh d, x.vm d, x.vn d, x.vt d] := by
    rw [hW]
    exact (Whole.made w [x.vb d, x.vh d, x.vm d, x.vn d, x.vt d] _).alloc _
  have hw1 : Whole W (w.heap.size + 1) 38 [.slice none 0 0, .slice none 0 0, .slice none 0 0, .slice none 0 0, .slice none 0 0] := by
    rw [hW]
    have := Whole.made (w.alloc (.cells #[x.vb d, x.vh d, x.vm d, x.vn d, x.vt d] 38)) [.slice none 0 0, .slice none 0 0, .slice none 0 0, .slice none 0 0, .slice none 0 0] 38
    simpa using this
  have hbW : Below w.heap.size w W := by
    rw [hW]
    exact ((Below.refl _ _).alloc (Nat.le_refl _) _).alloc (by simp) _
  have hsW : W.heap.size = w.heap.size + 2 := by rw [hW]; simp
  have hdW : DataAt W w.heap.size x d := h.below hbW
  clear hW
  refine wp_region_facts 3 21 (OwnS W (w.heap.size + 2)) (factF w.heap.size (w.heap.size + 2) x d) ownAp (by kernel_rfl) rfl (by kernel_rfl) (by kernel_rfl) (by kernel_rfl) (by kernel_rfl) (by simp) (by kernel_rfl)
    ⟨(Below.refl _ W).drew, by simp [hsW]⟩ ?step ?tail
  case step =>
    intro i o hi ho l a v hF hdep K hK
    have hS := hF.S
    have h1 : a.tmps[1]? = some (.pointer (some ⟨w.heap.size, 0, none⟩)) := hF.low 1 (by omega)
    have hcell : ∀ k, v.cell? ⟨w.heap.size, k, none⟩ = [x.vb d, x.vh d, x.vm d, x.vn d, x.vt d][k]? := (hw0.below hS.below (by omega)).cell
    have hdv : DataAt v w.heap.size x d := hdW.below (hS.below.mono (by omega))
    have hal : ∀ o, Below v.heap.size v (v.alloc o) := fun o => (Below.refl _ v).alloc (Nat.le_refl _) o
    match i, hi, ho, hK with
    | 0, _, ho, hK =>
      obtain rfl := Option.some.inj ho
      exact step_build _ 35 5 iu rfl Tryz.underlying35 hiu (hK _ _ ⟨v.heap.size, rfl, hS.size, heap_alloc_new v _⟩ (hS.more (hal _)) (factF_mono fun g hg => (hal _).block g hg) fun _ _ _ _ => apart_not rfl)
    | 1, _, ho, hK =>
      obtain rfl := Option.some.inj ho
      exact step_field _ 0 w.heap.size (by omega) rfl h1 (hK _ _ rfl hS (fun _ _ _ h => h) fun _ _ _ _ => apart_not rfl)
    | 2, _, ho, hK =>
      obtain rfl := Option.some.inj ho
      obtain ⟨u, hu, hFu⟩ := hF.facts 1 (by omega) (hdep ⟨1, .data⟩ (by simp) rfl)
      obtain rfl : u = .pointer (some ⟨w.heap.size, 0, none⟩) := hFu
      exact step_load _ 35 5 4 ⟨w.heap.size, 0, none⟩ _ rfl Tryz.underlying35 hu (hcell 0) (hK _ _ rfl hS (fun _ _ _ h => h) fun _ _ _ _ => apart_not rfl)
    | 3, _, ho, hK =>
      obtain rfl := Option.some.inj ho
      obtain ⟨u, hu, hFu⟩ := hF.facts 0 (by omega) (hdep ⟨0, .data⟩ (by simp) rfl)
      obtain ⟨y, hy, hFy⟩ := hF.facts 2 (by omega) (hdep ⟨2, .data⟩ (by simp) rfl)
      obtain rfl : y = .slice x.Ab d.bytes.length x.cb := hFy
      exact step_append _ 3 5 (w.heap.size + 2) 35 5 iu _ 1 rfl Tryz.underlying35 hiu hzu hsu hbu rfl u hu hFu x.Ab d.bytes.length x.cb w.heap.size (d.bytes.map bc) hy (by simp) hdv.b (bc_one _)
        (by unfold maxLen; omega) (by omega) hS.size fun v' w' h1 h2 h3 => hK _ _ h1 (hS.more h2) (factF_mono fun g hg => h2.block g hg) (apart_new h1 h3)
    | 4, _, ho, hK =>
      obtain rfl := Option.some.inj ho
      exact step_build _ 22 9 is rfl Tryz.underlying22 his (hK _ _ ⟨v.heap.size, rfl, hS.size, heap_alloc_new v _⟩ (hS.more (hal _)) (factF_mono fun g hg => (hal _).block g hg) fun _ _ _ _ => apart_not rfl)
    | 5, _, ho, hK =>
      obtain rfl := Option.some.inj ho
      exact step_field _ 1 w.heap.size (by omega) rfl h1 (hK _ _ rfl hS (fun _ _ _ h => h) fun _ _ _ _ => apart_not rfl)
    | 6, _, ho, hK =>
      obtain rfl := Option.some.inj ho
      obtain ⟨u, hu, hFu⟩ := hF.facts 5 (by omega) (hdep ⟨5, .data⟩ (by simp) rfl)
      obtain rfl : u = .pointer (some ⟨w.heap.size, 1, none⟩) := hFu
      exact step_load _ 22 9 8 ⟨w.heap.size, 1, none⟩ _ rfl Tryz.underlying22 hu (hcell 1) (hK _ _ rfl hS (fun _ _ _ h => h) fun _ _ _ _ => apart_not rfl)
    | 7, _, ho, hK =>
      obtain rfl := Option.some.inj ho
      obtain ⟨u, hu, hFu⟩ := hF.facts 4 (by omega) (hdep ⟨4, .data⟩ (by simp) rfl)
      obtain ⟨y, hy, hFy⟩ := hF.facts 6 (by omega) (hdep ⟨6, .data⟩ (by simp) rfl)
      obtain rfl : y = .slice x.Ah d.host.length x.ch := hFy
      exact step_append _ 7 9 (w.heap.size + 2) 22 9 is _ 16 rfl Tryz.underlying22 his hzs hss hbs rfl u hu hFu x.Ah d.host.length x.ch w.heap.size (d.host.map sv) hy (by simp) hdv.h (sv_one _)
        (by unfold maxLen; omega) (by omega) hS.size fun v' w' h1 h2 h3 => hK _ _ h1 (hS.more h2) (factF_mono fun g hg => h2.block g hg) (apart_new h1 h3)
    | 8, _, ho, hK =>
      obtain rfl := Option.some.inj ho
      exact step_build _ 22 9 is rfl Tryz.underlying22 his (hK _ _ ⟨v.heap.size, rfl, hS.size, heap_alloc_new v _⟩ (hS.more (hal _)) (factF_mono fun g hg => (hal _).block g hg) fun _ _ _ _ => apart_not rfl)
    | 9, _, ho, hK =>
      obtain rfl := Option.some.inj ho
      exact step_field _ 2 w.heap.size (by omega) rfl h1 (hK _ _ rfl hS (fun _ _ _ h => h) fun _ _ _ _ => apart_not rfl)
    | 10, _, ho, hK =>
      obtain rfl := Option.some.inj ho
      obtain ⟨u, hu, hFu⟩ := hF.facts 9 (by omega) (hdep ⟨9, .data⟩ (by simp) rfl)
      obtain rfl : u = .pointer (some ⟨w.heap.size, 2, none⟩) := hFu
      exact step_load _ 22 9 12 ⟨w.heap.size, 2, none⟩ _ rfl Tryz.underlying22 hu (hcell 2) (hK _ _ rfl hS (fun _ _ _ h => h) fun _ _ _ _ => apart_not rfl)
    | 11, _, ho, hK =>
      obtain rfl := Option.some.inj ho
      obtain ⟨u, hu, hFu⟩ := hF.facts 8 (by omega) (hdep ⟨8, .data⟩ (by simp) rfl)
      obtain ⟨y, hy, hFy⟩ := hF.facts 10 (by omega) (hdep ⟨10, .data⟩ (by simp) rfl)
      obtain rfl : y = .slice x.Am d.mail.length x.cm := hFy
      exact step_append _ 11 13 (w.heap.size + 2) 22 9 is _ 16 rfl Tryz.underlying22 his hzs hss hbs rfl u hu hFu x.Am d.mail.length x.cm w.heap.size (d.mail.map sv) hy (by simp) hdv.m (sv_one _)
        (by unfold maxLen; omega) (by omega) hS.size fun v' w' h1 h2 h3 => hK _ _ h1 (hS.more h2) (factF_mono fun g hg => h2.block g hg) (apart_new h1 h3)
    | 12, _, ho, hK =>
      obtain rfl := Option.some.inj ho
      exact step_build _ 36 3 ii rfl Tryz.underlying36 hii (hK _ _ ⟨v.heap.size, rfl, hS.size, heap_alloc_new v _⟩ (hS.more (hal _)) (factF_mono fun g hg => (hal _).block g hg) fun _ _ _ _ => apart_not rfl)
    | 13, _, ho, hK =>
      obtain rfl := Option.some.inj ho
      exact step_field _ 3 w.heap.size (by omega) rfl h1 (hK _ _ rfl hS (fun _ _ _ h => h) fun _ _ _ _ => apart_not rfl)
    | 14, _, ho, hK =>
      obtain rfl := Option.some.inj ho
      obtain ⟨u, hu, hFu⟩ := hF.facts 13 (by omega) (hdep ⟨13, .data⟩ (by simp) rfl)
      obtain rfl : u = .pointer (some ⟨w.heap.size, 3, none⟩) := hFu
      exact step_load _ 36 3 16 ⟨w.heap.size, 3, none⟩ _ rfl Tryz.underlying36 hu (hcell 3) (hK _ _ rfl hS (fun _ _ _ h => h) fun _ _ _ _ => apart_not rfl)
    | 15, _, ho, hK =>
      obtain rfl := Option.some.inj ho
      obtain ⟨u, hu, hFu⟩ := hF.facts 12 (by omega) (hdep ⟨12, .data⟩ (by simp) rfl)
      obtain ⟨y, hy, hFy⟩ := hF.facts 14 (by omega) (hdep ⟨14, .data⟩ (by simp) rfl)
      obtain rfl : y = .slice x.An d.nums.length x.cn := hFy
      exact step_append _ 15 17 (w.heap.size + 2) 36 3 ii _ 8 rfl Tryz.underlying36 hii hzi hsi hbi rfl u hu hFu x.An d.nums.length x.cn w.heap.size (d.nums.map zv) hy (by simp) hdv.n (zv_one _)
        (by unfold maxLen; omega) (by omega) hS.size fun v' w' h1 h2 h3 => hK _ _ h1 (hS.more h2) (factF_mono fun g hg => h2.block g hg) (apart_new h1 h3)
    | 16, _, ho, hK =>
      obtain rfl := Option.some.inj ho
      exact step_build _ 22 9 is rfl Tryz.underlying22 his (hK _ _ ⟨v.heap.size, rfl, hS.size, heap_alloc_new v _⟩ (hS.more (hal _)) (factF_mono fun g hg => (hal _).block g hg) fun _ _ _ _ => apart_not rfl)
    | 17, _, ho, hK =>
      obtain rfl := Option.some.inj ho
      exact step_field _ 4 w.heap.size (by omega) rfl h1 (hK _ _ rfl hS (fun _ _ _ h => h) fun _ _ _ _ => apart_not rfl)
    | 18, _, ho, hK =>
      obtain rfl := Option.some.inj ho
      obtain ⟨u, hu, hFu⟩ := hF.facts 17 (by omega) (hdep ⟨17, .data⟩ (by simp) rfl)
      obtain rfl : u = .pointer (some ⟨w.heap.size, 4, none⟩) := hFu
      exact step_load _ 22 9 20 ⟨w.heap.size, 4, none⟩ _ rfl Tryz.underlying22 hu (hcell 4) (hK _ _ rfl hS (fun _ _ _ h => h) fun _ _ _ _ => apart_not rfl)
    | 19, _, ho, hK =>
      obtain rfl := Option.some.inj ho
      obtain ⟨u, hu, hFu⟩ := hF.facts 16 (by omega) (hdep ⟨16, .data⟩ (by simp) rfl)
      obtain ⟨y, hy, hFy⟩ := hF.facts 18 (by omega) (hdep ⟨18, .data⟩ (by simp) rfl)
      obtain rfl : y = .slice x.At d.texts.length x.ct := hFy
      exact step_append _ 19 21 (w.heap.size + 2) 22 9 is _ 16 rfl Tryz.underlying22 his hzs hss hbs rfl u hu hFu x.At d.texts.length x.ct w.heap.size (d.texts.map sv) hy (by simp) hdv.t (sv_one _)
        (by unfold maxLen; omega) (by omega) hS.size fun v' w' h1 h2 h3 => hK _ _ h1 (hS.more h2) (factF_mono fun g hg => h2.block g hg) (apart_new h1 h3)
    | 20, _, ho, hK =>
      obtain rfl := Option.some.inj ho
      have hl (j : Nat) (h : (⟨j, .data⟩ : Edge) ∈ #[(⟨3, .data⟩ : Edge), ⟨7, .data⟩, ⟨11, .data⟩, ⟨15, .data⟩, ⟨19, .data⟩]) := hdep ⟨j, .data⟩ h rfl
      obtain ⟨v0, g0, f0⟩ := hF.facts 3 (by omega) (hl 3 (by simp))
      obtain ⟨v1, g1, f1⟩ := hF.facts 7 (by omega) (hl 7 (by simp))
      obtain ⟨v2, g2, f2⟩ := hF.facts 11 (by omega) (hl 11 (by simp))
      obtain ⟨v3, g3, f3⟩ := hF.facts 15 (by omega) (hl 15 (by simp))
      obtain ⟨v4, g4, f4⟩ := hF.facts 19 (by omega) (hl 19 (by simp))
      have a1 := hF.dist 7 11 (by omega) (by omega) (by omega) (hl 7 (by simp)) (hl 11 (by simp)) v1 v2 g1 g2 rfl rfl
      have a2 := hF.dist 7 19 (by omega) (by omega) (by omega) (hl 7 (by simp)) (hl 19 (by simp)) v1 v4 g1 g4 rfl rfl
      obtain ⟨A0, c0, rfl, _, _⟩ := own_form f0
      obtain ⟨A1, c1, rfl, _, _⟩ := own_form f1
      obtain ⟨A2, c2, rfl, _, _⟩ := own_form f2
      obtain ⟨A3, c3, rfl, _, _⟩ := own_form f3
      obtain ⟨A4, c4, rfl, _, _⟩ := own_form f4
      have hk := hK (DV.val ⟨A0, A1, A2, A3, A4, c0, c1, c2, c3, c4⟩ d) v ⟨⟨A0, A1, A2, A3, A4, c0, c1, c2, c3, c4⟩, rfl, ⟨f0, f1, f2, f3, f4⟩, a1, a2⟩ hS (fun _ _ _ h => h) fun _ _ _ _ => apart_not rfl
      unfold Oper.wp
      simp [execOp, go_sem, g0, g1, g2, g3, g4]
      exact hk
    | n + 21, hi, _, _ => exact absurd hi (by omega)
  case tail =>
    intro l a v o ho hF hl
    obtain rfl := Option.some.inj ho
    have hS := hF.S
    have h2 : a.tmps[2]? = some (.pointer (some ⟨w.heap.size + 1, 0, none⟩)) := hF.low 2 (by omega)
    obtain ⟨u, hu, y, rfl, hO, a1, a2⟩ := hF.facts 20 (by omega) (hl 20 (by omega))
    have hw := hw1.below hS.below (by omega)
    refine wpList_plain rfl fun K2 hK2 => step_store _ (w.heap.size + 1) y d _ _ _ _ _ rfl h2 hu hw ?_
    refine hK2 _ _ ?_
    obtain ⟨V, hV⟩ : ∃ V, V = ((((v.setCell ⟨w.heap.size + 1, 0, none⟩ (y.vb d)).setCell ⟨w.heap.size + 1, 1, none⟩ (y.vh d)).setCell ⟨w.heap.size + 1, 2, none⟩ (y.vm d)).setCell ⟨w.heap.size + 1, 3, none⟩ (y.vn d)).setCell ⟨w.heap.size + 1, 4, none⟩ (y.vt d) := ⟨_, rfl⟩
    rw [← hV]
    have hw5 : Whole V (w.heap.size + 1) 38 [y.vb d, y.vh d, y.vm d, y.vn d, y.vt d] := by
      rw [hV]
      exact ((((hw.set_ 0 _).set_ 1 _).set_ 2 _).set_ 3 _).set_ 4 _
    have hb5 : Below (w.heap.size + 1) v V := by
      rw [hV]
      have hs (W : World) (i : Nat) (u : Value) : Below (w.heap.size + 1) W (W.setCell ⟨w.heap.size + 1, i, none⟩ u) := (Below.refl _ W).setCell (p := ⟨w.heap.size + 1, i, none⟩) (Nat.le_refl _) u
      exact ((((hs _ 0 _).trans (hs _ 1 _)).trans (hs _ 2 _)).trans (hs _ 3 _)).trans (hs _ 4 _)
    have hf5 : ∀ g, g ≠ w.heap.size + 1 → V.heap[g]? = v.heap[g]? := fun g hg => by
      rw [hV]
      have hs (W : World) (i : Nat) (u : Value) : (W.setCell ⟨w.heap.size + 1, i, none⟩ u).heap[g]? = W.heap[g]? := Below.heap_setCell W ⟨w.heap.size + 1, i, none⟩ u g hg
      rw [hs, hs, hs, hs, hs]
    have hO5 : OwnD V (w.heap.size + 2) y d :=
      ⟨own_keep hO.b fun g e => hf5 g (by have := (hO.b.lt g e).1; omega), own_keep hO.h fun g e => hf5 g (by have := (hO.h.lt g e).1; omega), own_keep hO.m fun g e => hf5 g (by have := (hO.m.lt g e).1; omega), own_keep hO.n fun g e => hf5 g (by have := (hO.n.lt g e).1; omega), own_keep hO.t fun g e => hf5 g (by have := (hO.t.lt g e).1; omega)⟩
    have hO6 : OwnD V w.heap.size y d := ⟨own_mono hO5.b (by omega), own_mono hO5.h (by omega), own_mono hO5.m (by omega), own_mono hO5.n (by omega), own_mono hO5.t (by omega)⟩
    have hB : Below w.heap.size w V := (hbW.trans (hS.below.mono (by omega))).trans (hb5.mono (by omega))
    have q0 : V.cell? ⟨w.heap.size + 1, 0, none⟩ = some (y.vb d) := hw5.cell 0
    have q1 : V.cell? ⟨w.heap.size + 1, 1, none⟩ = some (y.vh d) := hw5.cell 1
    have q2 : V.cell? ⟨w.heap.size + 1, 2, none⟩ = some (y.vm d) := hw5.cell 2
    have q3 : V.cell? ⟨w.heap.size + 1, 3, none⟩ = some (y.vn d) := hw5.cell 3
    have q4 : V.cell? ⟨w.heap.size + 1, 4, none⟩ = some (y.vt d) := hw5.cell 4
    clear hV hw5 hb5 hf5 hO5 hw hw0 hw1 hO
    refine hret _ _ (wp_ret ?_)
    refine ⟨hF.defers, y.val d, ?_, y, rfl, hO6, a1, a2, hB⟩
    clear hF hl
    simp [results, Tryz.results54, go_sem, Act.put, h2, q0, q1, q2, q3, q4]

theorem ownData_any (x : DV) (d : Dt) (w : World) (h : DataAt w w.heap.size x d) (hl : LightD d) :
    Calls Tryz.prog 54 #[x.val d] w (Owns w d) := ownData_few x d w h hl.few

end Go.Proofs.YthppgofpbpjglaaGreat
