/-
  The contracts of rdata.Same, of the document's Same and Exact.
-/
import Derived.Test.YtjjmllbkfbdcnaaDEqs
namespace Go.Proofs.Ytjjmllbkfbdcnaa
open Go.RowKit

/-- Does data say the same? -/
def sameD (a b : Dt) : Bool := decide (a.bytes = b.bytes) && (decide (a.nums = b.nums) && (decide (a.texts = b.texts) && (eqN a.host b.host && eqN a.mail b.mail)))
/-- Names are not too large to be held one against the other. -/
structure Sized (d : Dt) : Prop where
  h : szN d.host ≤ maxLen
  m : szN d.mail ≤ maxLen
  t : d.texts.length ≤ maxLen
/-- No length in it is too large for any memory. -/
structure Wide (d : Dt) : Prop where
  h : WideN d.host
  m : WideN d.mail
  t : d.texts.length ≤ maxLen
theorem Sized.wide {d : Dt} (h : Sized d) : Wide d := ⟨wide_sz h.h, wide_sz h.m, h.t⟩
theorem gave_told {w : World} {v : Value} {e : Ending} {w' : World} (h : Told w v e w') : Gave w v e w' := ⟨h.1, h.2 ▸ Below.refl _ _⟩
theorem gave_drewn {w : World} {v : Value} {e : Ending} {w' : World} (h : Drewn w v e w') : Gave w v e w' := by
  obtain ⟨h1, k, rfl⟩ := h
  exact ⟨h1, below_drewN' (Below.refl _ _) k⟩
/-- Two boxes of data. -/
structure Boxes (w : World) (x y : DV) (a b : Dt) (W : World) : Prop where
  ba : Whole W w.heap.size 26 [x.vb a, x.vh a, x.vm a, x.vn a, x.vt a]
  bb : Whole W (w.heap.size + 1) 26 [y.vb b, y.vh b, y.vm b, y.vn b, y.vt b]
  da : DataAt W w.heap.size x a
  db : DataAt W w.heap.size y b
  below : Below w.heap.size w W
  size : w.heap.size + 2 ≤ W.heap.size
theorem Boxes.step {w : World} {x y : DV} {a b : Dt} {W W' : World} (h : Boxes w x y a b W) (hb : Below W.heap.size W W') : Boxes w x y a b W' :=
  ⟨h.ba.below hb h.ba.lt, h.bb.below hb h.bb.lt, h.da.below (hb.mono (by have := h.size; omega)), h.db.below (hb.mono (by have := h.size; omega)), h.below.trans (hb.mono (by have := h.size; omega)), Nat.le_trans h.size hb.size⟩
theorem Boxes.stepB {w : World} {x y : DV} {a b : Dt} {W W' : World} (h : Boxes w x y a b W) (hb : Below (w.heap.size + 2) W W') : Boxes w x y a b W' :=
  ⟨h.ba.below hb (by omega), h.bb.below hb (by omega), h.da.below (hb.mono (by omega)), h.db.below (hb.mono (by omega)), h.below.trans (hb.mono (by omega)), Nat.le_trans h.size hb.size⟩
theorem Boxes.atA {w : World} {x y : DV} {a b : Dt} {W : World} (h : Boxes w x y a b W) : DataAt W W.heap.size x a := h.da.mono (by have := h.size; omega)
theorem Boxes.atB {w : World} {x y : DV} {a b : Dt} {W : World} (h : Boxes w x y a b W) : DataAt W W.heap.size y b := h.db.mono (by have := h.size; omega)
theorem Boxes.made {w : World} {x y : DV} {a b : Dt} (ha : DataAt w w.heap.size x a) (hb : DataAt w w.heap.size y b) :
    Boxes w x y a b ((w.alloc (.cells #[x.vb a, x.vh a, x.vm a, x.vn a, x.vt a] 26)).alloc (.cells #[y.vb b, y.vh b, y.vm b, y.vn b, y.vt b] 26)) := by
  have hz : (w.alloc (.cells #[x.vb a, x.vh a, x.vm a, x.vn a, x.vt a] 26)).heap.size = w.heap.size + 1 := by simp
  refine ⟨(Whole.made w [x.vb a, x.vh a, x.vm a, x.vn a, x.vt a] _).alloc _, ?_, (ha.alloc (Nat.le_refl _) _).alloc (by simp) _, (hb.alloc (Nat.le_refl _) _).alloc (by simp) _, ((Below.refl _ _).alloc (Nat.le_refl _) _).alloc (by simp) _, by simp⟩
  have := Whole.made (w.alloc (.cells #[x.vb a, x.vh a, x.vm a, x.vn a, x.vt a] 26)) [y.vb b, y.vh b, y.vm b, y.vn b, y.vt b] 26
  rw [hz] at this
  exact this

set_option maxRecDepth 4000 in
set_option maxHeartbeats 2000000 in
theorem dsame_wide (x y : DV) (a b : Dt) (w : World) (hx : DataAt w w.heap.size x a) (hy : DataAt w w.heap.size y b) (la : Wide a) (lb : Wide b) :
    Calls Try.prog 68 #[x.val a, y.val b] w (Gave w (.bool (sameD a b))) := by
  have k1 : a.bytes.length ≤ maxLen := Nat.le_trans hx.lb hx.kb
  have k2 : a.nums.length ≤ maxLen := Nat.le_trans hx.ln hx.kn
  have HC1 := Lib.hid (fun W (h : Boxes w x y a b W) => eqbytes_any x.Ab y.Ab a.bytes.length b.bytes.length x.cb y.cb w.heap.size a.bytes b.bytes W rfl rfl h.da.b h.db.b )
  have HC2 := Lib.hid (fun W (h : Boxes w x y a b W) => eqints_any x.An y.An a.nums.length b.nums.length x.cn y.cn w.heap.size a.nums b.nums W rfl rfl h.da.n h.db.n k2)
  have HC3 := Lib.hid (fun W (h : Boxes w x y a b W) => eqstrs_any x.At y.At a.texts.length b.texts.length x.ct y.ct w.heap.size a.texts b.texts W rfl rfl h.da.t h.db.t la.t)
  have HC4 := Lib.hid (fun W (h : Boxes w x y a b W) => equal_wide x.Ah y.Ah a.host.length b.host.length x.ch y.ch w.heap.size a.host b.host W rfl rfl h.da.h h.db.h (Nat.le_trans (Nat.le_add_right _ 2) h.size) la.h lb.h)
  have HC5 := Lib.hid (fun W (h : Boxes w x y a b W) => equal_wide x.Am y.Am a.mail.length b.mail.length x.cm y.cm w.heap.size a.mail b.mail W rfl rfl h.da.m h.db.m (Nat.le_trans (Nat.le_add_right _ 2) h.size) la.m lb.m)
  have HX := Lib.hid (Boxes.made hx hy)
  have HS := Lib.hid (show sameD a b = (decide (a.bytes = b.bytes) && (decide (a.nums = b.nums) && (decide (a.texts = b.texts) && (eqN a.host b.host && eqN a.mail b.mail)))) from rfl)
  clear k1 k2 hx hy la lb
  go_enter Try.func68, Try.ntmps68
  go_wp2_with fail
  obtain ⟨W0, hW0⟩ : ∃ W0, W0 = (w.alloc (.cells #[.slice x.Ab a.bytes.length x.cb, .slice x.Ah a.host.length x.ch, .slice x.Am a.mail.length x.cm, .slice x.An a.nums.length x.cn, .slice x.At a.texts.length x.ct] 26)).alloc (.cells #[.slice y.Ab b.bytes.length y.cb, .slice y.Ah b.host.length y.ch, .slice y.Am b.mail.length y.cm, .slice y.An b.nums.length y.cn, .slice y.At b.texts.length y.ct] 26) := ⟨_, rfl⟩
  rw [← hW0]
  have hx0 : Boxes w x y a b W0 := by rw [hW0]; exact HX.out
  clear HX hW0
  refine (HC1.out W0 hx0).mono ?_
  intro e W1 hO
  obtain ⟨he, hb⟩ := gave_told hO
  have hx1 := hx0.step hb
  clear hO hb hx0
  cases hv : decide (a.bytes = b.bytes) with
  | false =>
    rw [hv] at he HS
    subst he
    have HB := Lib.hid hx1.below
    clear hx1
    go_wp2
    go_ret
    exact ⟨by rw [HS.out]; rfl, HB.out⟩
  | true =>
  rw [hv] at he HS
  subst he
  have p3 : W1.cell? ⟨w.heap.size, 3, none⟩ = some (.slice x.An a.nums.length x.cn) := hx1.ba.cell 3
  have q3 : W1.cell? ⟨w.heap.size + 1, 3, none⟩ = some (.slice y.An b.nums.length y.cn) := hx1.bb.cell 3
  go_wp2_with fail
  refine (HC2.out W1 hx1).mono ?_
  intro e W2 hO
  obtain ⟨he, hb⟩ := gave_drewn hO
  have hx2 := hx1.step hb
  clear hO hb hx1 p3 q3
  cases hv : decide (a.nums = b.nums) with
  | false =>
    rw [hv] at he HS
    subst he
    have HB := Lib.hid hx2.below
    clear hx2
    go_wp2
    go_ret
    exact ⟨by rw [HS.out]; rfl, HB.out⟩
  | true =>
  rw [hv] at he HS
  subst he
  have p4 : W2.cell? ⟨w.heap.size, 4, none⟩ = some (.slice x.At a.texts.length x.ct) := hx2.ba.cell 4
  have q4 : W2.cell? ⟨w.heap.size + 1, 4, none⟩ = some (.slice y.At b.texts.length y.ct) := hx2.bb.cell 4
  go_wp2_with fail
  refine (HC3.out W2 hx2).mono ?_
  intro e W3 hO
  obtain ⟨he, hb⟩ := gave_drewn hO
  have hx3 := hx2.step hb
  clear hO hb hx2 p4 q4
  cases hv : decide (a.texts = b.texts) with
  | false =>
    rw [hv] at he HS
    subst he
    have HB := Lib.hid hx3.below
    clear hx3
    go_wp2
    go_ret
    exact ⟨by rw [HS.out]; rfl, HB.out⟩
  | true =>
  rw [hv] at he HS
  subst he
  have p1 : W3.cell? ⟨w.heap.size, 1, none⟩ = some (.slice x.Ah a.host.length x.ch) := hx3.ba.cell 1
  have q1 : W3.cell? ⟨w.heap.size + 1, 1, none⟩ = some (.slice y.Ah b.host.length y.ch) := hx3.bb.cell 1
  go_wp2_with fail
  refine (HC4.out W3 hx3).mono ?_
  intro e W4 hO
  obtain ⟨he, hb⟩ := hO
  have hx4 := hx3.step hb
  clear hb hx3 p1 q1
  cases hv : eqN a.host b.host with
  | false =>
    rw [hv] at he HS
    subst he
    have HB := Lib.hid hx4.below
    clear hx4
    go_wp2
    go_ret
    exact ⟨by rw [HS.out]; rfl, HB.out⟩
  | true =>
  rw [hv] at he HS
  subst he
  have p2 : W4.cell? ⟨w.heap.size, 2, none⟩ = some (.slice x.Am a.mail.length x.cm) := hx4.ba.cell 2
  have q2 : W4.cell? ⟨w.heap.size + 1, 2, none⟩ = some (.slice y.Am b.mail.length y.cm) := hx4.bb.cell 2
  go_wp2_with fail
  refine (HC5.out W4 hx4).mono ?_
  intro e W5 hO
  obtain ⟨he, hb⟩ := hO
  have hx5 := hx4.step hb
  clear hb hx4 p2 q2
  subst he
  have HB := Lib.hid hx5.below
  clear hx5
  go_wp2
  go_ret
  refine ⟨?_, HB.out⟩
  rw [HS.out]
  simp

set_option maxRecDepth 4000 in
set_option maxHeartbeats 2000000 in
theorem ref_dsame_wide (x y : DV) (a b : Dt) (w : World) (hx : DataAt w w.heap.size x a) (hy : DataAt w w.heap.size y b) (la : Wide a) (lb : Wide b) :
    Calls Try.prog 72 #[x.val a, y.val b] w (Gave w (.bool (sameD a b))) := by
  have k1 : a.bytes.length ≤ maxLen := Nat.le_trans hx.lb hx.kb
  have k2 : a.nums.length ≤ maxLen := Nat.le_trans hx.ln hx.kn
  have HC1 := Lib.hid (fun W (h : Boxes w x y a b W) => same_any x.Ab y.Ab a.bytes.length b.bytes.length x.cb y.cb w.heap.size a.bytes b.bytes W rfl rfl h.da.b h.db.b k1)
  have HC2 := Lib.hid (fun W (h : Boxes w x y a b W) => ints_any x.An y.An a.nums.length b.nums.length x.cn y.cn w.heap.size a.nums b.nums W rfl rfl h.da.n h.db.n k2)
  have HC3 := Lib.hid (fun W (h : Boxes w x y a b W) => rtexts_any x.At y.At a.texts.length b.texts.length x.ct y.ct w.heap.size a.texts b.texts W rfl rfl h.da.t h.db.t la.t)
  have HC4 := Lib.hid (fun W (h : Boxes w x y a b W) => ref_equal_wide x.Ah y.Ah a.host.length b.host.length x.ch y.ch w.heap.size a.host b.host W rfl rfl h.da.h h.db.h (Nat.le_trans (Nat.le_add_right _ 2) h.size) la.h lb.h)
  have HC5 := Lib.hid (fun W (h : Boxes w x y a b W) => ref_equal_wide x.Am y.Am a.mail.length b.mail.length x.cm y.cm w.heap.size a.mail b.mail W rfl rfl h.da.m h.db.m (Nat.le_trans (Nat.le_add_right _ 2) h.size) la.m lb.m)
  have HX := Lib.hid (Boxes.made hx hy)
  have HS := Lib.hid (show sameD a b = (decide (a.bytes = b.bytes) && (decide (a.nums = b.nums) && (decide (a.texts = b.texts) && (eqN a.host b.host && eqN a.mail b.mail)))) from rfl)
  clear k1 k2 hx hy la lb
  go_enter Try.func72, Try.ntmps72
  go_wp2_with fail
  obtain ⟨W0, hW0⟩ : ∃ W0, W0 = (w.alloc (.cells #[.slice x.Ab a.bytes.length x.cb, .slice x.Ah a.host.length x.ch, .slice x.Am a.mail.length x.cm, .slice x.An a.nums.length x.cn, .slice x.At a.texts.length x.ct] 26)).alloc (.cells #[.slice y.Ab b.bytes.length y.cb, .slice y.Ah b.host.length y.ch, .slice y.Am b.mail.length y.cm, .slice y.An b.nums.length y.cn, .slice y.At b.texts.length y.ct] 26) := ⟨_, rfl⟩
  rw [← hW0]
  have hx0 : Boxes w x y a b W0 := by rw [hW0]; exact HX.out
  clear HX hW0
  refine (HC1.out W0 hx0).mono ?_
  intro e W1 hO
  obtain ⟨he, hb⟩ := gave_drewn hO
  have hx1 := hx0.step hb
  clear hO hb hx0
  cases hv : decide (a.bytes = b.bytes) with
  | false =>
    rw [hv] at he HS
    subst he
    have HB := Lib.hid hx1.below
    clear hx1
    go_wp2
    go_ret
    exact ⟨by rw [HS.out]; rfl, HB.out⟩
  | true =>
  rw [hv] at he HS
  subst he
  have p3 : W1.cell? ⟨w.heap.size, 3, none⟩ = some (.slice x.An a.nums.length x.cn) := hx1.ba.cell 3
  have q3 : W1.cell? ⟨w.heap.size + 1, 3, none⟩ = some (.slice y.An b.nums.length y.cn) := hx1.bb.cell 3
  go_wp2_with fail
  refine (HC2.out W1 hx1).mono ?_
  intro e W2 hO
  obtain ⟨he, hb⟩ := gave_drewn hO
  have hx2 := hx1.step hb
  clear hO hb hx1 p3 q3
  cases hv : decide (a.nums = b.nums) with
  | false =>
    rw [hv] at he HS
    subst he
    have HB := Lib.hid hx2.below
    clear hx2
    go_wp2
    go_ret
    exact ⟨by rw [HS.out]; rfl, HB.out⟩
  | true =>
  rw [hv] at he HS
  subst he
  have p4 : W2.cell? ⟨w.heap.size, 4, none⟩ = some (.slice x.At a.texts.length x.ct) := hx2.ba.cell 4
  have q4 : W2.cell? ⟨w.heap.size + 1, 4, none⟩ = some (.slice y.At b.texts.length y.ct) := hx2.bb.cell 4
  go_wp2_with fail
  refine (HC3.out W2 hx2).mono ?_
  intro e W3 hO
  obtain ⟨he, hb⟩ := gave_drewn hO
  have hx3 := hx2.step hb
  clear hO hb hx2 p4 q4
  cases hv : decide (a.texts = b.texts) with
  | false =>
    rw [hv] at he HS
    subst he
    have HB := Lib.hid hx3.below
    clear hx3
    go_wp2
    go_ret
    exact ⟨by rw [HS.out]; rfl, HB.out⟩
  | true =>
  rw [hv] at he HS
  subst he
  have p1 : W3.cell? ⟨w.heap.size, 1, none⟩ = some (.slice x.Ah a.host.length x.ch) := hx3.ba.cell 1
  have q1 : W3.cell? ⟨w.heap.size + 1, 1, none⟩ = some (.slice y.Ah b.host.length y.ch) := hx3.bb.cell 1
  go_wp2_with fail
  refine (HC4.out W3 hx3).mono ?_
  intro e W4 hO
  obtain ⟨he, hb⟩ := hO
  have hx4 := hx3.step hb
  clear hb hx3 p1 q1
  cases hv : eqN a.host b.host with
  | false =>
    rw [hv] at he HS
    subst he
    have HB := Lib.hid hx4.below
    clear hx4
    go_wp2
    go_ret
    exact ⟨by rw [HS.out]; rfl, HB.out⟩
  | true =>
  rw [hv] at he HS
  subst he
  have p2 : W4.cell? ⟨w.heap.size, 2, none⟩ = some (.slice x.Am a.mail.length x.cm) := hx4.ba.cell 2
  have q2 : W4.cell? ⟨w.heap.size + 1, 2, none⟩ = some (.slice y.Am b.mail.length y.cm) := hx4.bb.cell 2
  go_wp2_with fail
  refine (HC5.out W4 hx4).mono ?_
  intro e W5 hO
  obtain ⟨he, hb⟩ := hO
  have hx5 := hx4.step hb
  clear hb hx4 p2 q2
  subst he
  have HB := Lib.hid hx5.below
  clear hx5
  go_wp2
  go_ret
  refine ⟨?_, HB.out⟩
  rw [HS.out]
  simp

theorem dsame_any (x y : DV) (a b : Dt) (w : World) (hx : DataAt w w.heap.size x a) (hy : DataAt w w.heap.size y b) (la : Sized a) (lb : Sized b) :
    Calls Try.prog 68 #[x.val a, y.val b] w (Gave w (.bool (sameD a b))) := dsame_wide x y a b w hx hy la.wide lb.wide
theorem ref_dsame_any (x y : DV) (a b : Dt) (w : World) (hx : DataAt w w.heap.size x a) (hy : DataAt w w.heap.size y b) (la : Sized a) (lb : Sized b) :
    Calls Try.prog 72 #[x.val a, y.val b] w (Gave w (.bool (sameD a b))) := ref_dsame_wide x y a b w hx hy la.wide lb.wide

end Go.Proofs.Ytjjmllbkfbdcnaa
