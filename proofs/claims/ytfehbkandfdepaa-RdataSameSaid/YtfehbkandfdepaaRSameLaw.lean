/-
  RdataSame: which data says the same; cases of names do not matter.
-/
import Derived.Test.YtfehbkandfdepaaDSame
import Derived.Test.YtfehbkandfdepaaDBase
import Derived.Test.YtfehbkandfdepaaDAnswers
import Derived.Test.YtfehbkandfdepaaDLight
import Derived.Test.YtfehbkandfdepaaOwnD
import Derived.Test.YtfehbkandfdepaaEndD
import Derived.Test.YtfehbkandfdepaaSmall
namespace Go.Proofs.Ytfehbkandfdepaa
open Go.RowKit

theorem LightD.sized {d : Dt} (h : LightD d) : Sized d := by
  have h1 := szN_le 300 d.host h.h
  have h2 := szN_le 300 d.mail h.m
  have h3 := h.nh
  have h4 := h.nm
  have h5 := h.nt
  have h6 : d.host.length * (300 + 1) ≤ 300 * (300 + 1) := Nat.mul_le_mul_right _ h3
  have h7 : d.mail.length * (300 + 1) ≤ 300 * (300 + 1) := Nat.mul_le_mul_right _ h4
  refine ⟨?_, ?_, ?_⟩ <;> unfold maxLen <;> omega

theorem light_at {x : DV} {d : Dt} {w : World} (h : DataAt w w.heap.size x d) (i : DIn d) : Calls Try.prog 8 #[x.val d] w (Gave w (.bool (lightD d))) :=
  light_any x d w h i.h i.m i.t i.lh i.lm i.lt

set_option maxRecDepth 20000 in
set_option maxHeartbeats 1000000 in
theorem rsame_dark1 (x y : DV) (a b : Dt) (w : World) (hx : DataAt w w.heap.size x a) (hy : DataAt w w.heap.size y b) (ia : DIn a) (hl : lightD a = false) :
    Calls Try.prog 5 #[x.val a, y.val b] w (TrueB w) := by
  have HX := Lib.hid (Boxes.made hx hy)
  have HL := Lib.hid (fun W (h : DataAt W W.heap.size x a) => light_at h ia)
  rw [hl] at HL
  clear hx hy hl ia
  go_enter Try.func5, Try.ntmps5
  go_wp2_with fail
  refine (danswers_any _).mono ?_
  rintro e w1 ⟨rfl, hb⟩
  have hx1 := HX.out.step hb
  have p0 : w1.cell? ⟨w.heap.size, 0, none⟩ = some (.slice x.Ab a.bytes.length x.cb) := hx1.ba.cell 0
  have p1 : w1.cell? ⟨w.heap.size, 1, none⟩ = some (.slice x.Ah a.host.length x.ch) := hx1.ba.cell 1
  have p2 : w1.cell? ⟨w.heap.size, 2, none⟩ = some (.slice x.Am a.mail.length x.cm) := hx1.ba.cell 2
  have p3 : w1.cell? ⟨w.heap.size, 3, none⟩ = some (.slice x.An a.nums.length x.cn) := hx1.ba.cell 3
  have p4 : w1.cell? ⟨w.heap.size, 4, none⟩ = some (.slice x.At a.texts.length x.ct) := hx1.ba.cell 4
  have HX1 := Lib.hid hx1
  clear hb hx1
  go_wp2_with fail
  refine (HL.out _ HX1.out.atA).mono ?_
  rintro e w2 ⟨rfl, hb⟩
  have HX2 := Lib.hid (HX1.out.step hb)
  clear hb p0 p1 p2 p3 p4
  go_wp2_with fail
  refine (danswers_any _).mono ?_
  rintro e w3 ⟨rfl, hb⟩
  have HX3 := Lib.hid (HX2.out.step hb)
  clear hb
  go_wp2
  go_ret
  exact ⟨rfl, HX3.out.below⟩

set_option maxRecDepth 20000 in
set_option maxHeartbeats 1000000 in
theorem rsame_dark2 (x y : DV) (a b : Dt) (w : World) (hx : DataAt w w.heap.size x a) (hy : DataAt w w.heap.size y b) (ia : DIn a) (ib : DIn b) (hl : lightD a = true) (hl2 : lightD b = false) :
    Calls Try.prog 5 #[x.val a, y.val b] w (TrueB w) := by
  have HX := Lib.hid (Boxes.made hx hy)
  have HL := Lib.hid (fun W (h : DataAt W W.heap.size x a) => light_at h ia)
  have HL2 := Lib.hid (fun W (h : DataAt W W.heap.size y b) => light_at h ib)
  rw [hl] at HL
  rw [hl2] at HL2
  clear hx hy hl ia hl2 ib
  go_enter Try.func5, Try.ntmps5
  go_wp2_with fail
  refine (danswers_any _).mono ?_
  rintro e w1 ⟨rfl, hb⟩
  have hx1 := HX.out.step hb
  have p0 : w1.cell? ⟨w.heap.size, 0, none⟩ = some (.slice x.Ab a.bytes.length x.cb) := hx1.ba.cell 0
  have p1 : w1.cell? ⟨w.heap.size, 1, none⟩ = some (.slice x.Ah a.host.length x.ch) := hx1.ba.cell 1
  have p2 : w1.cell? ⟨w.heap.size, 2, none⟩ = some (.slice x.Am a.mail.length x.cm) := hx1.ba.cell 2
  have p3 : w1.cell? ⟨w.heap.size, 3, none⟩ = some (.slice x.An a.nums.length x.cn) := hx1.ba.cell 3
  have p4 : w1.cell? ⟨w.heap.size, 4, none⟩ = some (.slice x.At a.texts.length x.ct) := hx1.ba.cell 4
  have HX1 := Lib.hid hx1
  clear hb hx1
  go_wp2_with fail
  refine (HL.out _ HX1.out.atA).mono ?_
  rintro e w2 ⟨rfl, hb⟩
  have hx2 := HX1.out.step hb
  have q0 : w2.cell? ⟨w.heap.size + 1, 0, none⟩ = some (.slice y.Ab b.bytes.length y.cb) := hx2.bb.cell 0
  have q1 : w2.cell? ⟨w.heap.size + 1, 1, none⟩ = some (.slice y.Ah b.host.length y.ch) := hx2.bb.cell 1
  have q2 : w2.cell? ⟨w.heap.size + 1, 2, none⟩ = some (.slice y.Am b.mail.length y.cm) := hx2.bb.cell 2
  have q3 : w2.cell? ⟨w.heap.size + 1, 3, none⟩ = some (.slice y.An b.nums.length y.cn) := hx2.bb.cell 3
  have q4 : w2.cell? ⟨w.heap.size + 1, 4, none⟩ = some (.slice y.At b.texts.length y.ct) := hx2.bb.cell 4
  have HX2 := Lib.hid hx2
  clear hb p0 p1 p2 p3 p4 hx2
  go_wp2_with fail
  refine (HL2.out _ HX2.out.atB).mono ?_
  rintro e w3 ⟨rfl, hb⟩
  have HX3 := Lib.hid (HX2.out.step hb)
  clear hb q0 q1 q2 q3 q4
  go_wp2_with fail
  refine (danswers_any _).mono ?_
  rintro e w4 ⟨rfl, hb⟩
  have HX4 := Lib.hid (HX3.out.step hb)
  clear hb
  go_wp2
  go_ret
  exact ⟨rfl, HX4.out.below⟩

theorem far_marked {w : World} {base g : Nat} {n : Nat} {v : Value} {t : TypeId} {xs L : List Value} (h : w.ownsRow base t 1 v n xs) (hm : w.heap.size ≤ g) : v.ownBlock ≠ some g := fun e => by
  have := (h.lt g e).2
  omega

/-- An empty row stays, whatever is stored. -/
theorem own_set_nil {w : World} {base g k : Nat} {e : TypeId} {v u : Value} {xs : List Value} {n : Nat} (h : w.ownsRow base e 1 v n xs) (hn : n = 0) : (w.setCell ⟨g, k, none⟩ u).ownsRow base e 1 v n xs := by
  subst hn
  obtain ⟨h1, h2⟩ := h
  refine ⟨h1, ?_⟩
  rcases h2 with h2 | ⟨g', cap, cur, rfl, hg, hh, h3, h4, h5, h6⟩
  · exact .inl h2
  · by_cases hgg : g' = g
    · subst hgg
      refine .inr ⟨g', cap, cur.setIfInBounds k u, rfl, hg, ?_, h3, h4, by simpa using h5, ?_⟩
      · simp [World.setCell, Array.getElem?_modify, hh]
      · rw [Nat.zero_mul, List.take_zero] at h6 ⊢
        exact h6
    · exact .inr ⟨g', cap, cur, rfl, hg, (Below.heap_setCell w ⟨g, k, none⟩ u g' hgg).trans hh, h3, h4, h5, h6⟩

/-- What is held while the letters of the copy are turned: m is its first name now. -/
structure RS (w : World) (x y z : DV) (a b : Dt) (B hc : Nat) (m : List (List UInt8)) (W : World) : Prop where
  bx : Boxes w x y a b W
  c : Whole W hc 26 [z.vb a, z.vh a, z.vm a, z.vn a, z.vt a]
  oh : W.ownsRow B 9 1 (z.vh a) a.host.length (m.map sv)
  ob : W.ownsRow B 5 1 (z.vb a) a.bytes.length (a.bytes.map bc)
  om : W.ownsRow B 9 1 (z.vm a) a.mail.length (a.mail.map sv)
  on : W.ownsRow B 3 1 (z.vn a) a.nums.length (a.nums.map iv)
  ot : W.ownsRow B 9 1 (z.vt a) a.texts.length (a.texts.map sv)
  low : lowN m = lowN a.host
  hB : w.heap.size + 2 ≤ B
section
variable {w W W' : World} {x y z : DV} {a b : Dt} {B hc : Nat} {m : List (List UInt8)}
theorem RS.step (h : RS w x y z a b B hc m W) (hb : Below W.heap.size W W') : RS w x y z a b B hc m W' :=
  ⟨h.bx.step hb, h.c.below hb h.c.lt, own_keep h.oh fun g e => hb.block g (h.oh.lt g e).2, own_keep h.ob fun g e => hb.block g (h.ob.lt g e).2, own_keep h.om fun g e => hb.block g (h.om.lt g e).2, own_keep h.on fun g e => hb.block g (h.on.lt g e).2,
    own_keep h.ot fun g e => hb.block g (h.ot.lt g e).2, h.low, h.hB⟩
theorem RS.len (h : RS w x y z a b B hc m W) : m.length = a.host.length := len_of_low h.low
theorem apart_far {u v : Value} {g k n : Nat} {c : Nat} {t : TypeId} {xs : List Value} {ba nn : Nat} (h : Apart u v) (hu : u = .slice (some ⟨g, 0, none⟩) n c) (hk : k < n) (hv : W.ownsRow ba t 1 v nn xs) (hn : 0 < nn) : v.ownBlock ≠ some g := by
  intro e
  obtain ⟨A, c2, rfl, _, _⟩ := own_form hv
  obtain ⟨g2, rfl⟩ := own_some hv hn
  have : g2 = g := by simpa [Value.ownBlock] using e
  exact h g g2 n nn c c2 hu rfl (by omega) hn this.symm
theorem RS.set (h : RS w x y z a b B hc m W) (a1 : Apart (z.vh a) (z.vm a)) (a2 : Apart (z.vh a) (z.vt a)) {g k : Nat} (hg : z.Ah = some ⟨g, 0, none⟩) (hk : k < a.host.length) (l : List UInt8) (hl : lowL l = lowL (m[k]'(by rw [h.len]; exact hk))) :
    RS w x y z a b B hc (m.set k l) (W.setCell ⟨g, k, none⟩ (.string ⟨l.toArray⟩)) := by
  have hvh : z.vh a = .slice (some ⟨g, 0, none⟩) a.host.length z.ch := by rw [DV.vh, hg]
  have hgB : B ≤ g := (h.oh.lt g (by rw [hvh]; rfl)).1
  have hown := h.oh
  rw [hvh] at hown
  refine ⟨h.bx.stepB ((Below.refl _ W).setCell (p := ⟨g, k, none⟩) (by have := h.hB; show w.heap.size + 2 ≤ g; omega) _), h.c.keep (Below.heap_setCell W ⟨g, k, none⟩ _ hc ?_), ?_, ?_, ?_, ?_, ?_, ?_, h.hB⟩
  · intro e
    exact own_not_whole h.oh h.c (by decide) (by rw [hvh, e]; rfl)
  · rw [hvh, List.map_set]
    exact (own_store hown hk _)
  · exact own_set_far h.ob (fun e => by rcases rows_apart h.ob h.oh (by decide) with h1 | h1; rw [h1] at e; cases e; exact h1 (by rw [e, hvh]; rfl)) _
  · rcases Nat.eq_zero_or_pos a.mail.length with h0 | h0
    · exact own_set_nil h.om h0
    · exact own_set_far h.om (apart_far a1 hvh hk h.om h0) _
  · exact own_set_far h.on (fun e => by rcases rows_apart h.on h.oh (by decide) with h1 | h1; rw [h1] at e; cases e; exact h1 (by rw [e, hvh]; rfl)) _
  · rcases Nat.eq_zero_or_pos a.texts.length with h0 | h0
    · exact own_set_nil h.ot h0
    · exact own_set_far h.ot (apart_far a2 hvh hk h.ot h0) _
  · rw [lowN_set _ hl]
    exact h.low
end

theorem RS.atC {w W : World} {x y z : DV} {a b : Dt} {B hc : Nat} {m : List (List UInt8)} (h : RS w x y z a b B hc m W) : DataAt W W.heap.size z ⟨a.bytes, m, a.mail, a.nums, a.texts⟩ :=
  ⟨Row.of_own h.ob, Row.of_own h.oh, Row.of_own h.om, Row.of_own h.on, Row.of_own h.ot, own_cap h.ob, by show m.length ≤ z.ch; rw [h.len]; exact own_cap h.oh, own_cap h.om, own_cap h.on, own_cap h.ot, own_capM h.ob, own_capM h.on⟩
/-- The cells that the loads read. -/
def HeldS (w : World) (x y z : DV) (a b : Dt) (hc : Nat) (W : World) : Prop :=
  (W.cell? ⟨w.heap.size, 0, none⟩ = some (.slice x.Ab a.bytes.length x.cb) ∧ W.cell? ⟨w.heap.size, 1, none⟩ = some (.slice x.Ah a.host.length x.ch) ∧ W.cell? ⟨w.heap.size, 2, none⟩ = some (.slice x.Am a.mail.length x.cm) ∧
    W.cell? ⟨w.heap.size, 3, none⟩ = some (.slice x.An a.nums.length x.cn) ∧ W.cell? ⟨w.heap.size, 4, none⟩ = some (.slice x.At a.texts.length x.ct)) ∧
  (W.cell? ⟨w.heap.size + 1, 0, none⟩ = some (.slice y.Ab b.bytes.length y.cb) ∧ W.cell? ⟨w.heap.size + 1, 1, none⟩ = some (.slice y.Ah b.host.length y.ch) ∧ W.cell? ⟨w.heap.size + 1, 2, none⟩ = some (.slice y.Am b.mail.length y.cm) ∧
    W.cell? ⟨w.heap.size + 1, 3, none⟩ = some (.slice y.An b.nums.length y.cn) ∧ W.cell? ⟨w.heap.size + 1, 4, none⟩ = some (.slice y.At b.texts.length y.ct)) ∧
  (W.cell? ⟨hc, 0, none⟩ = some (.slice z.Ab a.bytes.length z.cb) ∧ W.cell? ⟨hc, 1, none⟩ = some (.slice z.Ah a.host.length z.ch) ∧ W.cell? ⟨hc, 2, none⟩ = some (.slice z.Am a.mail.length z.cm) ∧
    W.cell? ⟨hc, 3, none⟩ = some (.slice z.An a.nums.length z.cn) ∧ W.cell? ⟨hc, 4, none⟩ = some (.slice z.At a.texts.length z.ct))
theorem RS.held {w W : World} {x y z : DV} {a b : Dt} {B hc : Nat} {m : List (List UInt8)} (h : RS w x y z a b B hc m W) : HeldS w x y z a b hc W :=
  ⟨⟨h.bx.ba.cell 0, h.bx.ba.cell 1, h.bx.ba.cell 2, h.bx.ba.cell 3, h.bx.ba.cell 4⟩, ⟨h.bx.bb.cell 0, h.bx.bb.cell 1, h.bx.bb.cell 2, h.bx.bb.cell 3, h.bx.bb.cell 4⟩, ⟨h.c.cell 0, h.c.cell 1, h.c.cell 2, h.c.cell 3, h.c.cell 4⟩⟩
def RSRel (w : World) (x y z : DV) (a b : Dt) (B hc : Nat) (i : Value) (wr : World) : Prop :=
  ∃ (n : Nat) (m : List (List UInt8)), n ≤ a.host.length ∧ i = .int .i64 n ∧ RS w x y z a b B hc m wr
def RSRel2 (wo : World) (l0 : List UInt8) (Z : List Value) (j : Value) (wr : World) : Prop :=
  ∃ (k : Nat) (l : List UInt8), k ≤ l0.length ∧ j = .int .i64 k ∧ l.length = l0.length ∧ lowL l = lowL l0 ∧ Marked wr wo.heap.size 5 (l.map bc ++ Z) ∧ Below wo.heap.size wo wr
theorem sameD_comm (a b : Dt) : sameD b a = sameD a b := by
  unfold sameD eqN
  simp only [eq_comm]

set_option maxRecDepth 20000 in
set_option maxHeartbeats 8000000 in
theorem rsame_light (x y : DV) (a b : Dt) (w : World) (hx : DataAt w w.heap.size x a) (hy : DataAt w w.heap.size y b) (ia : DIn a) (ib : DIn b) (hl : lightD a = true) (hl2 : lightD b = true) :
    Calls Try.prog 5 #[x.val a, y.val b] w (TrueB w) := by
  have la := (lightD_iff a).1 hl
  have lb := (lightD_iff b).1 hl2
  have HX := Lib.hid (Boxes.made hx hy)
  have HL := Lib.hid (fun W (h : DataAt W W.heap.size x a) => light_at h ia)
  have HL2 := Lib.hid (fun W (h : DataAt W W.heap.size y b) => light_at h ib)
  rw [hl] at HL
  rw [hl2] at HL2
  have HOA := Lib.hid (fun W (h : DataAt W W.heap.size x a) => ownData_any x a W h la)
  have HOB := Lib.hid (fun W (h : DataAt W W.heap.size y b) => ownData_any y b W h lb)
  have LA := Lib.hid la
  have LB := Lib.hid lb
  have hnh := la.nh
  clear hx hy hl ia hl2 ib la lb
  go_enter Try.func5, Try.ntmps5
  go_wp2_with fail
  refine (danswers_any _).mono ?_
  rintro e w1 ⟨rfl, hb⟩
  have hx1 := HX.out.step hb
  have p0 : w1.cell? ⟨w.heap.size, 0, none⟩ = some (.slice x.Ab a.bytes.length x.cb) := hx1.ba.cell 0
  have p1 : w1.cell? ⟨w.heap.size, 1, none⟩ = some (.slice x.Ah a.host.length x.ch) := hx1.ba.cell 1
  have p2 : w1.cell? ⟨w.heap.size, 2, none⟩ = some (.slice x.Am a.mail.length x.cm) := hx1.ba.cell 2
  have p3 : w1.cell? ⟨w.heap.size, 3, none⟩ = some (.slice x.An a.nums.length x.cn) := hx1.ba.cell 3
  have p4 : w1.cell? ⟨w.heap.size, 4, none⟩ = some (.slice x.At a.texts.length x.ct) := hx1.ba.cell 4
  have HX1 := Lib.hid hx1
  clear hb hx1
  go_wp2_with fail
  refine (HL.out _ HX1.out.atA).mono ?_
  rintro e w2 ⟨rfl, hb⟩
  have hx2 := HX1.out.step hb
  have q0 : w2.cell? ⟨w.heap.size + 1, 0, none⟩ = some (.slice y.Ab b.bytes.length y.cb) := hx2.bb.cell 0
  have q1 : w2.cell? ⟨w.heap.size + 1, 1, none⟩ = some (.slice y.Ah b.host.length y.ch) := hx2.bb.cell 1
  have q2 : w2.cell? ⟨w.heap.size + 1, 2, none⟩ = some (.slice y.Am b.mail.length y.cm) := hx2.bb.cell 2
  have q3 : w2.cell? ⟨w.heap.size + 1, 3, none⟩ = some (.slice y.An b.nums.length y.cn) := hx2.bb.cell 3
  have q4 : w2.cell? ⟨w.heap.size + 1, 4, none⟩ = some (.slice y.At b.texts.length y.ct) := hx2.bb.cell 4
  have HX2 := Lib.hid hx2
  clear hb p0 p1 p2 p3 p4 hx2
  go_wp2_with fail
  refine (HL2.out _ HX2.out.atB).mono ?_
  rintro e w3 ⟨rfl, hb⟩
  have hx3 := HX2.out.step hb
  have p0 : w3.cell? ⟨w.heap.size, 0, none⟩ = some (.slice x.Ab a.bytes.length x.cb) := hx3.ba.cell 0
  have p1 : w3.cell? ⟨w.heap.size, 1, none⟩ = some (.slice x.Ah a.host.length x.ch) := hx3.ba.cell 1
  have p2 : w3.cell? ⟨w.heap.size, 2, none⟩ = some (.slice x.Am a.mail.length x.cm) := hx3.ba.cell 2
  have p3 : w3.cell? ⟨w.heap.size, 3, none⟩ = some (.slice x.An a.nums.length x.cn) := hx3.ba.cell 3
  have p4 : w3.cell? ⟨w.heap.size, 4, none⟩ = some (.slice x.At a.texts.length x.ct) := hx3.ba.cell 4
  have HX3 := Lib.hid hx3
  clear hb q0 q1 q2 q3 q4 hx3
  go_wp2_with fail
  refine (HOA.out _ HX3.out.atA).mono ?_
  rintro e w4 ⟨z, rfl, ho, a1, a2, hb⟩
  have HX4 := Lib.hid (HX3.out.step hb)
  have HO := Lib.hid ho
  have A1 := Lib.hid a1
  have A2 := Lib.hid a2
  have hs3 := hb.size
  clear hb p0 p1 p2 p3 p4 ho a1 a2
  go_wp2
  obtain ⟨W5, hW5⟩ : ∃ W5, W5 = w4.alloc (.cells #[.slice z.Ab a.bytes.length z.cb, .slice z.Ah a.host.length z.ch, .slice z.Am a.mail.length z.cm, .slice z.An a.nums.length z.cn, .slice z.At a.texts.length z.ct] 26) := ⟨_, rfl⟩
  rw [← hW5]
  have hr0 : RS w x y z a b w3.heap.size w4.heap.size a.host W5 := by
    rw [hW5]
    exact ⟨HX4.out.step ((Below.refl _ _).alloc (Nat.le_refl _) _), Whole.made w4 [z.vb a, z.vh a, z.vm a, z.vn a, z.vt a] _, HO.out.h.alloc _, HO.out.b.alloc _, HO.out.m.alloc _, HO.out.n.alloc _, HO.out.t.alloc _, rfl, HX3.out.size⟩
  have HR0 := Lib.hid hr0
  clear hr0 hW5 HO HX1 HX2 HX4 HX
  go_loopw [6] (RSRel w x y z a b w3.heap.size w4.heap.size) (fun i _ => a.host.length - (intOf i).toNat)
  case atStart => exact ⟨0, a.host, Nat.zero_le _, rfl, HR0.out⟩
  case round =>
    obtain ⟨n, m, hn, rfl, hrs⟩ := hrel
    have c1 : wr.cell? ⟨w4.heap.size, 1, none⟩ = some (.slice z.Ah a.host.length z.ch) := hrs.c.cell 1
    have hml := hrs.len
    have HRS := Lib.hid hrs
    have HML := Lib.hid hml
    clear hrs hml
    by_cases hlt : n < a.host.length
    · have hnm : n < m.length := by rw [HML.out]; exact hlt
      obtain ⟨g, hg⟩ := own_some HRS.out.oh (by omega)
      have HGG := Lib.hid hg
      have hoh := HRS.out.oh
      rw [DV.vh, hg] at hoh
      rw [hg] at c1
      have hcc : wr.cell? ⟨g, n, none⟩ = some (.string ⟨(m[n]).toArray⟩) := by
        rw [own_cell hoh (k := n) (by rw [List.length_map]; exact hnm)]
        simp [sv]
      have hll : (m[n]).length ≤ 200000 := by
        have h1 := len_le_szN hnm
        have h2 := szN_of_low HRS.out.low
        have h3 := szN_le 300 a.host LA.out.h
        have h4 : a.host.length * (300 + 1) ≤ 300 * (300 + 1) := Nat.mul_le_mul_right _ hnh
        omega
      have HSET := Lib.hid (fun W (h : RS w x y z a b w3.heap.size w4.heap.size m W) (l : List UInt8) (hl : lowL l = lowL m[n]) => h.set A1.out A2.out hg hlt l hl)
      obtain ⟨l0, hl0⟩ : ∃ l0, l0 = m[n] := ⟨_, rfl⟩
      rw [← hl0] at hcc hll HSET
      clear hl0 hoh hg
      go_wp2_with (refine wpList_bytes rfl (.tmp 35) 9 22 5 rfl Try.underlying9 Try.underlying22 Try.underlying5 l0 rfl ?_; intro C4 wb hC4 hM4 hB4 hs4)
      obtain ⟨Z, hZ⟩ : ∃ Z, Z = zerosL (.int .u8 0) (C4 - l0.length) := ⟨_, rfl⟩
      rw [← hZ] at hM4
      have HM4 := Lib.hid hM4
      have HB4 := Lib.hid hB4
      clear hM4 hB4 hs4 hZ c1
      obtain ⟨wo, rfl⟩ : ∃ wo : World, wo = wr := ⟨_, rfl⟩
      go_loopw [8] (RSRel2 wo l0 Z) (fun j _ => l0.length - (intOf j).toNat)
      case atStart => exact ⟨0, l0, Nat.zero_le _, rfl, rfl, rfl, HM4.out, HB4.out⟩
      case round =>
        obtain ⟨k, l, hk, rfl, hll2, hlow, hmk, hbw⟩ := hrel
        have HLL := Lib.hid hll2
        have HLO := Lib.hid hlow
        have HMK := Lib.hid hmk
        have HBI := Lib.hid hbw
        clear hll2 hlow hmk hbw
        by_cases hlt2 : k < l0.length
        · have hkl : k < l.length := by rw [HLL.out]; exact hlt2
          have hc : wr.cell? ⟨wo.heap.size, k, none⟩ = some (.int .u8 (l[k]).toNat) := by
            rw [HMK.out.cell k, List.getElem?_append_left (by rw [List.length_map]; exact hkl), List.getElem?_map, List.getElem?_eq_getElem hkl]
            rfl
          have hf : wr.frozen? ⟨wo.heap.size, k, none⟩ = false := HMK.out.frozen (by rw [List.length_append, List.length_map]; omega)
          have hlt8 := (l[k]).toNat_lt
          by_cases h1 : 97 ≤ (l[k]).toNat
          · by_cases h2 : (l[k]).toNat ≤ 122
            · have e2 : decide (((l[k]).toNat : Int) ≤ 122) = true := by simp; omega
              have HS := Lib.hid (lowL_set hkl HLO.out h1 h2)
              have e4 : (l[k] - 32).toNat = (l[k]).toNat - 32 := by
                rw [UInt8.toNat_sub_of_le]
                · rfl
                · rw [UInt8.le_iff_toNat_le]; show 32 ≤ _; omega
              have E4 := Lib.hid e4
              clear e4
              go_wp2
              refine ⟨⟨k + 1, l.set k (l[k] - 32), by omega, by go_num, by rw [List.length_set]; exact HLL.out, HS.out, ?_, ?_⟩, by simp [intOf]; omega⟩
              · have h := HMK.out.set_ k (.int .u8 (((l[k]).toNat : Int) - 32))
                rw [List.set_append_left _ _ (by rw [List.length_map]; exact hkl)] at h
                rw [List.map_set, show bc (l[k] - 32) = .int .u8 (((l[k]).toNat : Int) - 32) by unfold bc; rw [E4.out]; congr 1; omega]
                exact h
              · exact HBI.out.setCell (Nat.le_refl _) _
            · have e2 : decide (((l[k]).toNat : Int) ≤ 122) = false := by simp; omega
              go_wp2
              exact ⟨⟨k + 1, l, by omega, by go_num, HLL.out, HLO.out, HMK.out, HBI.out⟩, by simp [intOf]; omega⟩
          · go_wp2
            exact ⟨⟨k + 1, l, by omega, by go_num, HLL.out, HLO.out, HMK.out, HBI.out⟩, by simp [intOf]; omega⟩
        · obtain rfl : k = l0.length := by omega
          have hr : Row wr wr.heap.size (some ⟨wo.heap.size, 0, none⟩) (l.map bc) := by
            have h := HMK.out.row.take l.length
            rwa [List.take_left' (by rw [List.length_map])] at h
          have hcv := convert_row_run (P := Try.prog) wr 22 9 5 Try.underlying22 Try.underlying5 Try.underlying9 _ l0.length C4 _ l HLL.out hr
          have hrs2 := HRS.out.step HBI.out
          have c1 : wr.cell? ⟨w4.heap.size, 1, none⟩ = some (.slice z.Ah a.host.length z.ch) := hrs2.c.cell 1
          have hoh := hrs2.oh
          rw [DV.vh, HGG.out] at hoh
          rw [HGG.out] at c1
          have hci : wr.cell? ⟨g, n, none⟩ = some (.string ⟨(m[n]).toArray⟩) := by
            rw [own_cell hoh (k := n) (by rw [List.length_map]; exact hnm)]
            simp [sv]
          have hfi : wr.frozen? ⟨g, n, none⟩ = false := own_frozen hoh n
          have HRS2 := Lib.hid hrs2
          clear hr hrs2 hoh
          go_wp2
          exact ⟨⟨n + 1, m.set n l, by omega, by go_num, HSET.out _ HRS2.out l HLO.out⟩, by simp [intOf]; omega⟩
    · have hr0 : (sameD a b == sameD a b) = true := by simp
      have HS1 := Lib.hid (fun W y1 y2 B1 B2 (h1 : OwnD W B1 y1 a) (h2 : OwnD W B2 y2 b) => dsame_any y1 y2 a b W h1.at_ h2.at_ LA.out.sized LB.out.sized)
      have HS5 := Lib.hid (fun W (h : RS w x y z a b w3.heap.size w4.heap.size m W) => ref_dsame_any x y a b W h.bx.atA h.bx.atB LA.out.sized LB.out.sized)
      have HS4 := Lib.hid (fun W (h : RS w x y z a b w3.heap.size w4.heap.size m W) => dsame_any x y a b W h.bx.atA h.bx.atB LA.out.sized LB.out.sized)
      have HS3 := Lib.hid (fun W (h : RS w x y z a b w3.heap.size w4.heap.size m W) => dsame_any y x b a W h.bx.atB h.bx.atA LB.out.sized LA.out.sized)
      have HS2 := Lib.hid (fun W (h : RS w x y z a b w3.heap.size w4.heap.size m W) => dsame_any x z a ⟨a.bytes, m, a.mail, a.nums, a.texts⟩ W h.bx.atA h.atC LA.out.sized ⟨by show szN m ≤ maxLen; rw [szN_of_low HRS.out.low]; exact LA.out.sized.h, LA.out.sized.m, LA.out.sized.t⟩)
      rw [show sameD a ⟨a.bytes, m, a.mail, a.nums, a.texts⟩ = true by unfold sameD; rw [eqN_of_low HRS.out.low]; simp [eqN]] at HS2
      rw [show DV.val z ⟨a.bytes, m, a.mail, a.nums, a.texts⟩ = DV.val z a by simp only [DV.val, HML.out]] at HS2
      rw [sameD_comm a b] at HS3
      generalize sameD a b = r at hr0 HS1 HS3 HS4 HS5
      have HH := Lib.hid (HRS.out.step (Below.refl _ wr).drew)
      clear HRS HML
      go_wp2
      clear c1
      go_region_held3 (fun W => (W.cell? ⟨w.heap.size, 0, none⟩ = some (.slice x.Ab a.bytes.length x.cb) ∧ W.cell? ⟨w.heap.size, 1, none⟩ = some (.slice x.Ah a.host.length x.ch) ∧ W.cell? ⟨w.heap.size, 2, none⟩ = some (.slice x.Am a.mail.length x.cm) ∧ W.cell? ⟨w.heap.size, 3, none⟩ = some (.slice x.An a.nums.length x.cn) ∧ W.cell? ⟨w.heap.size, 4, none⟩ = some (.slice x.At a.texts.length x.ct)) ∧ (W.cell? ⟨w.heap.size + 1, 0, none⟩ = some (.slice y.Ab b.bytes.length y.cb) ∧ W.cell? ⟨w.heap.size + 1, 1, none⟩ = some (.slice y.Ah b.host.length y.ch) ∧ W.cell? ⟨w.heap.size + 1, 2, none⟩ = some (.slice y.Am b.mail.length y.cm) ∧ W.cell? ⟨w.heap.size + 1, 3, none⟩ = some (.slice y.An b.nums.length y.cn) ∧ W.cell? ⟨w.heap.size + 1, 4, none⟩ = some (.slice y.At b.texts.length y.ct)) ∧ (W.cell? ⟨w4.heap.size, 0, none⟩ = some (.slice z.Ab a.bytes.length z.cb) ∧ W.cell? ⟨w4.heap.size, 1, none⟩ = some (.slice z.Ah a.host.length z.ch) ∧ W.cell? ⟨w4.heap.size, 2, none⟩ = some (.slice z.Am a.mail.length z.cm) ∧ W.cell? ⟨w4.heap.size, 3, none⟩ = some (.slice z.An a.nums.length z.cn) ∧ W.cell? ⟨w4.heap.size, 4, none⟩ = some (.slice z.At a.texts.length z.ct)))
        (exact HH.out.held)
        ((first
          | (go_at_call 14
             first
               | (with_reducible refine (HOA.out _ HH.out.bx.atA).mono ?_
                  rintro e wn ⟨y1, rfl, ho, _, _, hb⟩
                  have HY1 := Lib.hid ho
                  have HH := Lib.hid (HH.out.step hb)
                  clear ho hb)
               | (with_reducible refine (HOB.out _ HH.out.bx.atB).mono ?_
                  rintro e wn ⟨y2, rfl, ho, _, _, hb⟩
                  have HY2 := Lib.hid ho
                  have HY1 := Lib.hid (HY1.out.keep fun g hg => hb.block g hg)
                  have HH := Lib.hid (HH.out.step hb)
                  clear ho hb))
          | (go_at_call 24
             first
               | (with_reducible refine (HS1.out _ _ _ _ _ HY1.out HY2.out).mono ?_
                  rintro e wn ⟨rfl, hb⟩
                  have HH := Lib.hid (HH.out.step hb)
                  clear hb)
               | (with_reducible refine (HS2.out _ HH.out).mono ?_
                  rintro e wn ⟨rfl, hb⟩
                  have HH := Lib.hid (HH.out.step hb)
                  clear hb)
               | (with_reducible refine (HS3.out _ HH.out).mono ?_
                  rintro e wn ⟨rfl, hb⟩
                  have HH := Lib.hid (HH.out.step hb)
                  clear hb)
               | (with_reducible refine (HS4.out _ HH.out).mono ?_
                  rintro e wn ⟨rfl, hb⟩
                  have HH := Lib.hid (HH.out.step hb)
                  clear hb))
          | (go_at_call 25
             with_reducible refine (HS5.out _ HH.out).mono ?_
             rintro e wn ⟨rfl, hb⟩
             have HH := Lib.hid (HH.out.step hb)
             clear hb)))
      go_wp2
      go_ret
      exact ⟨rfl, HH.out.bx.below⟩

theorem rsame_any (x y : DV) (a b : Dt) (w : World) (hx : DataAt w w.heap.size x a) (hy : DataAt w w.heap.size y b) (ia : DIn a) (ib : DIn b) :
    Calls Try.prog 5 #[x.val a, y.val b] w (TrueB w) := by
  cases hl : lightD a with
  | false => exact rsame_dark1 x y a b w hx hy ia hl
  | true =>
    cases hl2 : lightD b with
    | false => exact rsame_dark2 x y a b w hx hy ia ib hl hl2
    | true => exact rsame_light x y a b w hx hy ia ib hl hl2

end Go.Proofs.Ytfehbkandfdepaa
