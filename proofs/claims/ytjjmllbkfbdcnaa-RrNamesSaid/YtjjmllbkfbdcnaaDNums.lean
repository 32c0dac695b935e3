/-
  The reader of rdata: several numbers; a name.
-/
import Derived.Test.YtjjmllbkfbdcnaaDRead
import Derived.Test.YtjjmllbkfbdcnaaData
import Derived.Test.YtjjmllbkfbdcnaaWGet
import Derived.Deep.RegionHeld3
namespace Go.Proofs.Ytjjmllbkfbdcnaa
open Go.RowKit

/-- What a reader's call leaves: it stands at a place and answers a value, or gives up. -/
def Outc {α : Type} (w : World) (g : Nat) (vb : Value) (en : Nat) (r : Except Nat (α × Nat)) (V : α → Value → World → Prop) (e : Ending) (w' : World) : Prop :=
  GrewG g w w' ∧ match r with
  | .ok x => ∃ v, e = .returned v ∧ RB w' g vb x.2 en ∧ V x.1 v w'
  | .error k => e = gaveE k
theorem Outc.ok {α : Type} {w : World} {g : Nat} {vb : Value} {en p' : Nat} {r : Except Nat (α × Nat)} {x : α} {V : α → Value → World → Prop} {v : Value} {w' : World} (hr : r = .ok (x, p')) (hg : GrewG g w w') (h : RB w' g vb p' en) (hv : V x v w') :
    Outc w g vb en r V (.returned v) w' := by
  subst hr
  exact ⟨hg, v, rfl, h, hv⟩
theorem Outc.err {α : Type} {w : World} {g : Nat} {vb : Value} {en k : Nat} {r : Except Nat (α × Nat)} {V : α → Value → World → Prop} {w' : World} (hr : r = .error k) (hg : GrewG g w w') : Outc w g vb en r V (gaveE k) w' := by
  subst hr
  exact ⟨hg, rfl⟩
theorem Outc.cases {α : Type} {w : World} {g : Nat} {vb : Value} {en : Nat} {r : Except Nat (α × Nat)} {V : α → Value → World → Prop} {e : Ending} {w' : World} (h : Outc w g vb en r V e w') :
    GrewG g w w' ∧ ((∃ x p' v, r = .ok (x, p') ∧ e = .returned v ∧ RB w' g vb p' en ∧ V x v w') ∨ ∃ k, r = .error k ∧ e = gaveE k) := by
  obtain ⟨hg, h⟩ := h
  refine ⟨hg, ?_⟩
  rcases r with k | ⟨x, p'⟩
  · exact .inr ⟨k, rfl, h⟩
  · obtain ⟨v, h1, h2, h3⟩ := h
    exact .inl ⟨x, p', v, rfl, h1, h2, h3⟩

/-- k numbers of s bytes from p on. -/
def numsL (b : List UInt8) (p s : Nat) : Nat → List Int
  | 0 => []
  | k + 1 => numsL b p s k ++ [(numN (cutL b (p + k * s) s) : Int)]
theorem length_numsL (b : List UInt8) (p s : Nat) : ∀ k, (numsL b p s k).length = k
  | 0 => rfl
  | k + 1 => by simp [numsL, length_numsL b p s k]

/-- What is read of k numbers. -/
def numsR (b : List UInt8) (p en s k : Nat) : Except Nat (List Int × Nat) := if p + k * s ≤ en then .ok (numsL b p s k, p + k * s) else .error 3
/-- A slice of the call's own, which reads as the numbers. -/
def OwnI (B : Nat) (l : List Int) (v : Value) (w : World) : Prop := w.ownsRow B 3 1 v l.length (l.map zv)
/-- A slice of the call's own, which reads as the strings. -/
def OwnT (B : Nat) (l : List (List UInt8)) (v : Value) (w : World) : Prop := w.ownsRow B 9 1 v l.length (l.map sv)
/-- A slice of the call's own, which reads as the bytes. -/
def OwnB (B : Nat) (l : List UInt8) (v : Value) (w : World) : Prop := w.ownsRow B 5 1 v l.length (l.map bc)

def NumsRel (w : World) (g : Nat) (vb : Value) (b : List UInt8) (p s en k : Nat) (v i : Value) (wr : World) : Prop :=
  ∃ j : Nat, j ≤ k ∧ i = .int .i64 j ∧ p + j * s ≤ en ∧ RB wr g vb (p + j * s) en ∧ wr.ownsRow w.heap.size 3 1 v j ((numsL b p s j).map zv) ∧ GrewG g w wr

set_option maxRecDepth 4000 in
set_option maxHeartbeats 1000000 in
theorem nums_any (w : World) (g : Nat) (A : Option Addr) (m cap base : Nat) (b : List UInt8) (p en s k : Nat) (h : RB w g (.slice A m cap) p en) (hbl : b.length = m) (hrow : Row w base A (b.map bc)) (hbg : base ≤ g) (hm : m ≤ cap) (hc : cap ≤ maxLen) (hen : en ≤ m)
    (hp : p ≤ en) (h1 : 1 ≤ s) (h2 : s ≤ 7) (hk : k ≤ 10) :
    Calls Try.prog 102 #[.pointer (some ⟨g, 0, none⟩), .int .i64 k, .int .i64 s] w
      (Outc w g (.slice A m cap) en (numsR b p en s k) (OwnI w.heap.size)) := by
  obtain ⟨i0, hi0, hz0, hz1, hz2⟩ := info_parts zint_info
  have hgl := h.lt
  have HOK := Lib.hid (fun W q hr hw hq => dnum_ok W g A m cap base b q en s hr hbl hw hm hc hen h1 h2 hq)
  have HNO := Lib.hid (fun W q hr hw hq => dnum_short W g A m cap base b q en s hr hbl hw hm hc hen h1 h2 hq)
  have HW := Lib.hid hrow
  have HR := Lib.hid h
  clear h hrow hbl
  go_enter Try.func102, Try.ntmps102
  go_wp2
  go_loopw [7, 9] (NumsRel w g (.slice A m cap) b p s en k) (fun _ i _ => k - (intOf i).toNat)
  case atStart =>
    exact ⟨0, Nat.zero_le _, rfl, by omega, by rw [Nat.zero_mul, Nat.add_zero]; exact HR.out, World.ownsRow_nil _ _ _ _, Grew.refl _ _⟩
  case round =>
    obtain ⟨j, hj, rfl, hpj, hr, ho, hg⟩ := hrel
    obtain ⟨Av, cv, rfl, _, hcv⟩ := own_form ho
    have HRJ := Lib.hid hr
    have HO := Lib.hid ho
    have HG := Lib.hid hg
    have HWJ := Lib.hid (HW.out.below (hg.below (fun q e => by subst e; exact hbg) (by omega)))
    have hsz : w.heap.size ≤ wr.heap.size := hg.size
    clear hr ho hg
    by_cases hjk : j < k
    · by_cases hfit : p + j * s + s ≤ en
      · have e1 : (j + 1) * s = j * s + s := Nat.succ_mul j s
        go_wp2_with fail
        refine (HOK.out wr _ HRJ.out HWJ.out hfit).mono ?_
        rintro e w1 ⟨rfl, hr1, hg1⟩
        have HR1 := Lib.hid hr1
        have HO1 := Lib.hid (own_grew HO.out hg1 fun q hq e => by subst e; have := (HO.out.lt q hq).1; omega)
        have HG1 := Lib.hid (HG.out.trans hg1 fun q hq => .inl hq)
        have hsz1 : w.heap.size ≤ w1.heap.size := HG1.out.size
        have hrm := Row.made w1 #[.int .i64 (numN (cutL b (p + j * s) s) : Nat)] 3
        have HRM := Lib.hid hrm
        clear hr1 hg1 hrm
        go_wp2_with (
          at_builtin
          refine wpList_append_at rfl (.tmp 11) (.tmp 15) _ rfl w.heap.size 3 i0 _ 1 8 Try.underlying24 hi0 hz0 hz1 hz2 rfl (by omega) (.slice Av j cv) j _ rfl (HO1.out.alloc _)
            (some ⟨w1.heap.size, 0, none⟩) 1 1 (w1.heap.size + 1) [.int .i64 (numN (cutL b (p + j * s) s) : Nat)] rfl rfl HRM.out (by simp [Value.oneCell']) (by unfold maxLen; omega) (by omega) (by simp; omega) ?_
          intro v2 w2 hown2 hg2 hat2)
        refine ⟨⟨j + 1, by omega, by go_num, by omega, ?_, ?_, ?_⟩, ?_⟩
        · rw [e1, ← Nat.add_assoc]
          have h3 : RB (w1.alloc (.cells #[.int .i64 (numN (cutL b (p + j * s) s) : Nat)] 3)) g (.slice A m cap) (p + j * s + s) en := HR1.out.alloc _
          refine h3.grown hg2 ?_
          intro e
          have := (HO1.out.lt g e.symm).1
          omega
        · rw [numsL, List.map_append]
          exact hown2
        · exact (HG1.out.alloc _).grown hg2 fun q e => .inr (HO1.out.lt q e).1
        · simp [intOf]; omega
      · have hno : ¬ p + k * s ≤ en := by
          have : (j + 1) * s ≤ k * s := Nat.mul_le_mul_right s hjk
          have e1 : (j + 1) * s = j * s + s := Nat.succ_mul j s
          omega
        go_wp2_with fail
        refine (HNO.out wr _ HRJ.out HWJ.out (by omega)).mono ?_
        rintro e w1 ⟨rfl, hg1⟩
        exact ⟨rfl, Outc.err (by rw [numsR, if_neg hno]) (HG.out.trans hg1 fun q hq => .inl hq)⟩
    · obtain rfl : j = k := by omega
      go_wp2
      go_ret
      exact Outc.ok (by rw [numsR, if_pos hpj]) HG.out HRJ.out (by unfold OwnI; rw [length_numsL]; exact HO.out)

/-- What is read of a name, up to an end. -/
def nameF (r : List (List UInt8) × Nat × Nat) (en : Nat) : Except Nat (List (List UInt8) × Nat) := if r.2.2 ≠ 0 then .error r.2.2 else if en < r.2.1 then .error 3 else .ok (r.1, r.2.1)
def nameR (b : List UInt8) (p en : Nat) : Except Nat (List (List UInt8) × Nat) := nameF (getR b p p 0 []) en

set_option maxHeartbeats 1000000 in
theorem rname_read (w : World) (g : Nat) (A : Option Addr) (m cap base : Nat) (b : List UInt8) (p en : Nat) (h : RB w g (.slice A m cap) p en) (hbl : b.length = m) (hrow : Row w base A (b.map bc)) (hbg : base ≤ w.heap.size) (hm : m ≤ cap) (hc : cap ≤ maxLen) (hen : en ≤ m)
    (hp : p ≤ en) :
    Calls Try.prog 103 #[.pointer (some ⟨g, 0, none⟩)] w (Outc w g (.slice A m cap) en (nameR b p en) (OwnT w.heap.size)) := by
  have HG := Lib.hid (fun W hr => wget_at A m cap b p W hbl hr hc hm (by unfold maxLen at hc; omega))
  unfold nameR
  generalize getR b p p 0 [] = r at HG
  obtain ⟨n, x, k⟩ := r
  have c0 := h.c0
  have c1 := h.c1
  have hgl := h.lt
  have HW := Lib.hid (hrow.mono hbg)
  have HR := Lib.hid h
  clear h hrow hbl
  go_enter Try.func103, Try.ntmps103
  go_wp2
  go_region_held3 (fun w' => w'.cell? ⟨g, 0, none⟩ = some (.slice A m cap) ∧ w'.cell? ⟨g, 1, none⟩ = some (.int .i64 p))
    (first | exact ⟨c0, c1⟩ | exact ⟨C0.out, C1.out⟩)
    ((go_at_call 64
      refine (HG.out w.drew HW.out).mono ?_
      rintro e w1 ⟨v, rfl, ho, hb⟩
      obtain ⟨Av, cv, rfl, _, _⟩ := own_form ho
      have C0 := Lib.hid ((hb.cell (p := ⟨g, 0, none⟩) hgl).trans c0)
      have C1 := Lib.hid ((hb.cell (p := ⟨g, 1, none⟩) hgl).trans c1)
      have HB := Lib.hid (show Below w.heap.size w w1 from ((Below.refl _ w).drew).trans hb)
      have HO := Lib.hid ho
      clear ho hb))
  have hr1 : RB w1 g (.slice A m cap) p en := HR.out.below HB.out hgl
  have c2 := hr1.c2
  have f1 : w1.frozen? ⟨g, 1, none⟩ = false := Whole.frozen hr1 1
  have HR1 := Lib.hid hr1
  have HGW := Lib.hid (show GrewG g w w1 from Grew.all HB.out)
  clear hr1 C0 C1 c0 c1
  by_cases hk : k = 0
  · subst hk
    by_cases hx : en < x
    · have d1 : decide ((en : Int) < (x : Int)) = true := by simp; omega
      go_wp2_with fail
      refine (giveUp_any _ _).mono ?_
      rintro e w' ⟨rfl, rfl⟩
      exact ⟨rfl, Outc.err (by simp [nameF, hx]) HGW.out⟩
    · have d1 : decide ((en : Int) < (x : Int)) = false := by simp; omega
      go_wp2
      go_ret
      exact Outc.ok (by simp [nameF, hx]) (Grew.setCell (F := fun j => j = g) HGW.out (a := ⟨g, 1, none⟩) (.inl rfl) _) (HR1.out.set1 x) (own_set_far HO.out (fun e => by have := (HO.out.lt g e).1; simp at this; omega) _)
  · have t1 : ((k : Int) != 0) = true := by rw [bne_iff_ne]; omega
    go_wp2_with fail
    refine (giveUp_any _ _).mono ?_
    rintro e w' ⟨rfl, rfl⟩
    exact ⟨rfl, Outc.err (by simp [nameF, hk]) HGW.out⟩

end Go.Proofs.Ytjjmllbkfbdcnaa
