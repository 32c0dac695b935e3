/-
  The document's Writer as the contracts see it; the contracts of its Raw, Num and find.
-/
import Derived.Test.YtjjmllbkfbdcnaaTwo
import Derived.Test.YtjjmllbkfbdcnaaPutRef
namespace Go.Proofs.Ytjjmllbkfbdcnaa
open Go.RowKit

theorem own_own_apart {w : World} {b1 b2 : Nat} {e1 e2 : TypeId} {s1 s2 n1 n2 : Nat} {v1 v2 : Value} {x1 x2 : List Value} (h1 : w.ownsRow b1 e1 s1 v1 n1 x1) (h2 : w.ownsRow b2 e2 s2 v2 n2 x2) (he : e1 ≠ e2) {j : Nat} (hj : v1.ownBlock = some j) : v2.ownBlock ≠ some j := by
  intro hk
  rcases h1.2 with ⟨rfl, _⟩ | ⟨g1, _, c1, rfl, _, hh1, _⟩
  · cases hj
  · rcases h2.2 with ⟨rfl, _⟩ | ⟨g2, _, c2, rfl, _, hh2, _⟩
    · cases hk
    · simp [Value.ownBlock] at hj hk
      subst hj; subst hk
      rw [hh1] at hh2
      simp at hh2
      exact he hh2.2

/-- Rests as cells: two each. -/
def restL : Rs → List Value → List Value
  | r :: R, v :: vs => iv r.2 :: v :: restL R vs
  | _, _ => []
theorem restL_snoc : ∀ (R : Rs) (vs : List Value) (r : List (List UInt8) × Nat) (v : Value), vs.length = R.length → restL (R ++ [r]) (vs ++ [v]) = restL R vs ++ [iv r.2, v]
  | [], [], _, _, _ => rfl
  | _ :: R, _ :: vs, r, v, h => by simp only [List.cons_append, restL]; rw [restL_snoc R vs r v (by simpa using h)]
theorem length_restL : ∀ (R : Rs) (vs : List Value), vs.length = R.length → (restL R vs).length = R.length * 2
  | [], [], _ => rfl
  | _ :: R, _ :: vs, h => by simp only [restL, List.length_cons]; rw [length_restL R vs (by simpa using h)]; omega
theorem restL_at : ∀ (R : Rs) (vs : List Value) (i : Nat) (h : i < R.length), vs.length = R.length → (restL R vs)[i * 2]? = some (iv R[i].2) ∧ (restL R vs)[i * 2 + 1]? = vs[i]?
  | _ :: _, _ :: _, 0, _, _ => ⟨rfl, rfl⟩
  | _ :: R, _ :: vs, i + 1, h, hl => by
    have := restL_at R vs i (by simpa using h) (by simpa using hl)
    rw [Nat.add_mul, Nat.one_mul]
    simpa [restL] using this

/-- The row vR says the rests R; all its blocks hold Fp. -/
def RestsOf (w : World) (base : Nat) (Fp : Nat → Prop) (vR : Value) (R : Rs) : Prop :=
  ∃ vs : List Value, vs.length = R.length ∧ w.ownsRow base 83 2 vR R.length (restL R vs) ∧ (∀ j, vR.ownBlock = some j → Fp j) ∧
    ∀ i (h : i < R.length), ∃ A c, vs[i]? = some (.slice A (R[i].1).length c) ∧ w.ownsRow base 9 1 (.slice A (R[i].1).length c) (R[i].1).length ((R[i].1).map sv) ∧ ∀ j, (Value.slice A (R[i].1).length c).ownBlock = some j → Fp j

/-- The document's Writer: its block is g; all its blocks hold Fp. -/
structure RWr (w : World) (base : Nat) (Fp : Nat → Prop) (g : Nat) (vB vR : Value) (B : List UInt8) (R : Rs) : Prop where
  blk : Whole w g 35 [vB, vR]
  fg : Fp g
  row : w.ownsRow base 5 1 vB B.length (B.map bc)
  frow : ∀ j, vB.ownBlock = some j → Fp j
  rests : RestsOf w base Fp vR R
  low : ∀ j, Fp j → base ≤ j ∧ j < w.heap.size

section
variable {w w' : World} {base g : Nat} {Fp Gp : Nat → Prop} {vB vR : Value} {B : List UInt8} {R : Rs}
theorem RWr.c0 (h : RWr w base Fp g vB vR B R) : w.cell? ⟨g, 0, none⟩ = some vB := h.blk.cell 0
theorem RWr.c1 (h : RWr w base Fp g vB vR B R) : w.cell? ⟨g, 1, none⟩ = some vR := h.blk.cell 1
theorem RWr.f0 (h : RWr w base Fp g vB vR B R) : w.frozen? ⟨g, 0, none⟩ = false := h.blk.frozen 0
theorem RWr.f1 (h : RWr w base Fp g vB vR B R) : w.frozen? ⟨g, 1, none⟩ = false := h.blk.frozen 1
theorem RWr.size (h : RWr w base Fp g vB vR B R) : base ≤ w.heap.size := by have := h.low g h.fg; omega
theorem RestsOf.keep (h : RestsOf w base Fp vR R) (hk : ∀ j, Fp j → w'.heap[j]? = w.heap[j]?) : RestsOf w' base Fp vR R := by
  obtain ⟨vs, h1, h2, h3, h4⟩ := h
  refine ⟨vs, h1, own_keep h2 fun j hj => hk j (h3 j hj), h3, fun i hi => ?_⟩
  obtain ⟨A, c, h5, h6, h7⟩ := h4 i hi
  exact ⟨A, c, h5, own_keep h6 fun j hj => hk j (h7 j hj), h7⟩
theorem RestsOf.wider (h : RestsOf w base Fp vR R) (hf : ∀ j, Fp j → Gp j) : RestsOf w base Gp vR R := by
  obtain ⟨vs, h1, h2, h3, h4⟩ := h
  refine ⟨vs, h1, h2, fun j hj => hf j (h3 j hj), fun i hi => ?_⟩
  obtain ⟨A, c, h5, h6, h7⟩ := h4 i hi
  exact ⟨A, c, h5, h6, fun j hj => hf j (h7 j hj)⟩
theorem RWr.keep (h : RWr w base Fp g vB vR B R) (hs : w.heap.size ≤ w'.heap.size) (hk : ∀ j, Fp j → w'.heap[j]? = w.heap[j]?) : RWr w' base Fp g vB vR B R :=
  ⟨h.blk.keep (hk g h.fg), h.fg, own_keep h.row fun j hj => hk j (h.frow j hj), h.frow, h.rests.keep hk, fun j hj => ⟨(h.low j hj).1, Nat.lt_of_lt_of_le (h.low j hj).2 hs⟩⟩
theorem RWr.below (h : RWr w base Fp g vB vR B R) (hb : Below w.heap.size w w') : RWr w' base Fp g vB vR B R := h.keep hb.size fun j hj => hb.block j (h.low j hj).2
theorem RWr.grew (h : RWr w base Fp g vB vR B R) {F : Nat → Prop} (hg : Grew F w w') (hf : ∀ j, Fp j → ¬ F j) : RWr w' base Fp g vB vR B R := h.keep hg.size fun j hj => hg.block j (h.low j hj).2 (hf j hj)
end

/-- The document's Writer has B and R now; nothing but its own has turned. -/
def RPenned (base : Nat) (w : World) (Fp : Nat → Prop) (g : Nat) (B : List UInt8) (R : Rs) (w' : World) : Prop :=
  ∃ Gp vB vR, RWr w' base Gp g vB vR B R ∧ Grew Fp w w' ∧ ∀ j, Gp j → Fp j ∨ w.heap.size ≤ j
theorem RPenned.then {base : Nat} {w w1 w2 : World} {Fp Gp : Nat → Prop} {g : Nat} {B : List UInt8} {R : Rs} (hg : Grew Fp w w1) (hf : ∀ j, Gp j → Fp j ∨ w.heap.size ≤ j) (h : RPenned base w1 Gp g B R w2) : RPenned base w Fp g B R w2 := by
  obtain ⟨Gq, vB, vR, h1, h2, h3⟩ := h
  refine ⟨Gq, vB, vR, h1, hg.trans h2 hf, fun j hj => ?_⟩
  rcases h3 j hj with h4 | h4
  · exact hf j h4
  · exact .inr (Nat.le_trans hg.size h4)

/-- A new row of bytes has been put into the first cell. -/
theorem RWr.newB {w w' : World} {base g : Nat} {Fp : Nat → Prop} {vB vR v : Value} {B l : List UInt8} {R : Rs} (h : RWr w base Fp g vB vR B R) (hb : Below w.heap.size w w') (ho : w'.ownsRow w.heap.size 5 1 v l.length (l.map bc)) :
    RPenned base w Fp g l R (w'.setCell ⟨g, 0, none⟩ v) := by
  have hw := h.below hb
  have hne : v.ownBlock ≠ some g := own_not_whole ho hw.blk (by decide)
  have hk : ∀ j, j ≠ g → (w'.setCell ⟨g, 0, none⟩ v).heap[j]? = w'.heap[j]? := fun j hj => Below.heap_setCell w' ⟨g, 0, none⟩ v j hj
  have hgp : ∀ j, Fp j → Fp j ∨ (w.heap.size ≤ j ∧ j < w'.heap.size) := fun j hj => .inl hj
  refine ⟨fun j => Fp j ∨ (w.heap.size ≤ j ∧ j < w'.heap.size), v, vR, ⟨hw.blk.set_ 0 v, .inl h.fg, ?_, fun j hj => .inr (ho.lt j hj), ?_, ?_⟩, ?_, ?_⟩
  · exact own_mono (own_set_far ho hne v) h.size
  · obtain ⟨vs, h1, h2, h3, h4⟩ := hw.rests
    refine RestsOf.wider (Fp := Fp) ⟨vs, h1, own_set_far h2 (own_not_whole h2 hw.blk (by decide)) v, h3, fun i hi => ?_⟩ hgp
    obtain ⟨A, c, h5, h6, h7⟩ := h4 i hi
    exact ⟨A, c, h5, own_set_far h6 (own_not_whole h6 hw.blk (by decide)) v, h7⟩
  · intro j hj
    have hs : (w'.setCell ⟨g, 0, none⟩ v).heap.size = w'.heap.size := by simp
    rw [hs]
    rcases hj with hj | hj
    · have := h.low j hj; have := hb.size; omega
    · have := h.size; omega
  · exact (Grew.all hb).setCell (.inl h.fg) _
  · intro j hj
    rcases hj with hj | hj
    · exact .inl hj
    · exact .inr hj.1

set_option maxHeartbeats 1000000 in
theorem rraw_any (base : Nat) (w : World) (Fp : Nat → Prop) (g : Nat) (vB vR : Value) (B : List UInt8) (R : Rs) (A : Option Addr) (m c : Nat) (l : List UInt8) (h : RWr w base Fp g vB vR B R) (hl : l.length = m) (hr : Row w w.heap.size A (l.map bc)) (hm : B.length + m ≤ 140737488355000) :
    Calls Try.prog 50 #[.pointer (some ⟨g, 0, none⟩), .slice A m c] w (fun e w' => e = .returned (.tuple #[]) ∧ RPenned base w Fp g (B ++ l) R w') := by
  obtain ⟨i0, hi0, hz0, hz1, hz2⟩ := info_parts u8_info
  obtain ⟨A0, c0, rfl, _, _⟩ := own_form h.row
  have h0 := h.c0
  have hgl := h.blk.lt
  have HR := Lib.hid hr
  have HL := Lib.hid hl
  have HW := Lib.hid h
  have HR0 := Lib.hid ((Row.of_own h.row).alloc (Nat.le_refl _) (.cells #[] 5))
  clear h hl hr
  go_enter Try.func50, Try.ntmps50
  go_wp2_with (first
    | (at_builtin
       refine wpList_append_row rfl (.tmp 5) (.tmp 9) _ rfl w.heap.size 5 i0 _ 1 1 Try.underlying22 hi0 hz0 hz1 hz2 rfl (by omega) (.slice (some ⟨w.heap.size, 0, none⟩) 0 0) 0 [] rfl
         (own_lit _ _ _) A0 B.length c0 w.heap.size (B.map bc) rfl (by rw [List.length_map, Nat.mul_one]) HR0.out (bc_one B) (by unfold maxLen; omega) (by omega) (by simp) ?_
       intro v1 w1 hown1 hg1
       simp only [Nat.zero_add, List.nil_append] at hown1
       obtain ⟨A1, c1, rfl, _, _⟩ := own_form hown1
       have HO1 := Lib.hid hown1
       have HB1 := Lib.hid (own_below ((Below.refl w.heap.size w).alloc (Nat.le_refl _) _) (Nat.le_refl _) (by simp) (own_lit w 5 1) hg1)
       have hz1' : w.heap.size ≤ w1.heap.size := HB1.out.size
       clear hown1 hg1)
    | (at_builtin
       refine wpList_append_row rfl (.tmp 10) (.tmp 11) _ rfl w.heap.size 5 i0 _ 1 1 Try.underlying22 hi0 hz0 hz1 hz2 rfl (by omega) (.slice A1 B.length c1) B.length _ rfl HO1.out
         A m c w.heap.size (l.map bc) rfl (by rw [List.length_map, HL.out, Nat.mul_one]) (HR.out.below HB1.out) (bc_one l) (by unfold maxLen; omega) (by omega) hz1' ?_
       intro v2 w2 hown2 hg2
       obtain ⟨A2, c2, rfl, _, _⟩ := own_form hown2
       have HO2 := Lib.hid hown2
       have hb2 := own_below HB1.out (Nat.le_refl _) hz1' HO1.out hg2
       have hk2 := (HW.out.below hb2)
       have c0' := hk2.c0
       have f0' := hk2.f0
       have HB2 := Lib.hid hb2
       clear hown2 hg2 hb2 hk2))
  go_end0
  have ho := HO2.out
  have hl2 : B.length + m = (B ++ l).length := by rw [List.length_append, HL.out]
  rw [← List.map_append] at ho
  rw [hl2] at ho ⊢
  exact ⟨rfl, HW.out.newB HB2.out ho⟩

set_option maxHeartbeats 1000000 in
theorem rnum_any (base : Nat) (w : World) (Fp : Nat → Prop) (g : Nat) (vB vR : Value) (B : List UInt8) (R : Rs) (n s : Int) (h : RWr w base Fp g vB vR B R) (hm : B.length ≤ 140737488354000) (hn : n ≤ 9223372036854775807) :
    Calls Try.prog 49 #[.pointer (some ⟨g, 0, none⟩), .int .i64 n, .int .i64 s] w (fun e w' => e = .returned (.tuple #[]) ∧ RPenned base w Fp g (putL B n s) R w') := by
  obtain ⟨A0, c0, rfl, _, _⟩ := own_form h.row
  have HP := Lib.hid (ref_put_any A0 B.length c0 w.heap.size B n s w rfl (Row.of_own h.row) (Nat.le_refl _) (by omega) hn)
  have h0 := h.c0
  have HW := Lib.hid h
  clear h
  generalize putL B n s = l at *
  go_enter Try.func49, Try.ntmps49
  go_wp2_with fail
  refine HP.out.mono ?_
  rintro e w1 ⟨A1, c1, rfl, ho, hb⟩
  have hk1 := HW.out.below hb
  have c0' := hk1.c0
  have f0' := hk1.f0
  have HO := Lib.hid ho
  have HB := Lib.hid hb
  clear ho hb hk1
  go_wp2
  go_end0
  exact ⟨rfl, HW.out.newB HB.out HO.out⟩

end Go.Proofs.Ytjjmllbkfbdcnaa
