/-
  The document's Writer as the contracts see it; the contracts of its Raw, Num and find.
-/
import Derived.Test.YtjkjhpaeckkpjaaMbP8
import Derived.Test.YtjkjhpaeckkpjaaMgP1
import Derived.Test.YtjkjhpaeckkpjaaMbP3
import Derived.Test.YtjkjhpaeckkpjaaMbP1
import Derived.Deep.CutRange
import Derived.Deep.RegionHeld3
import Derived.Deep.RegionLaw
import Derived.Outline
namespace Go.Proofs.Ytjkjhpaeckkpjaa
open Go.RowKit

theorem own_own_apart {w : World} {b1 b2 : Nat} {e1 e2 : TypeId} {s1 s2 n1 n2 : Nat} {v1 v2 : Value} {x1 x2 : List Value} (h1 : w.ownsRow b1 e1 s1 v1 n1 x1) (h2 : w.ownsRow b2 e2 s2 v2 n2 x2) (he : e1 ≠ e2) {j : Nat} (hj : v1.ownBlock = some j) : v2.ownBlock ≠ some j := by
  intro hk
  rcases h1.2 with ⟨rfl, _⟩ | ⟨g1, _, c1, rfl, _, hh1, _⟩
  · cases hj
  · rcases h2.2 with ⟨rfl, _⟩ | ⟨g2, _, c2, rfl, _, hh2, _⟩
    · cases hk
    · simp [Value.ownBlock] at hj hk
      subst hj; subst hk
      rw [hh1] at hh2
      simp at hh2
      exact he hh2.2

/-- Rests as cells: two each. -/
def restL : Rs → List Value → List Value
  | r :: R, v :: vs => iv r.2 :: v :: restL R vs
  | _, _ => []
theorem restL_snoc : ∀ (R : Rs) (vs : List Value) (r : List (List UInt8) × Nat) (v : Value), vs.length = R.length → restL (R ++ [r]) (vs ++ [v]) = restL R vs ++ [iv r.2, v]
  | [], [], _, _, _ => rfl
  | _ :: R, _ :: vs, r, v, h => by simp only [List.cons_append, restL]; rw [restL_snoc R vs r v (by simpa using h)]
theorem length_restL : ∀ (R : Rs) (vs : List Value), vs.length = R.length → (restL R vs).length = R.length * 2
  | [], [], _ => rfl
  | _ :: R, _ :: vs, h => by simp only [restL, List.length_cons]; rw [length_restL R vs (by simpa using h)]; omega
theorem restL_at : ∀ (R : Rs) (vs : List Value) (i : Nat) (h : i < R.length), vs.length = R.length → (restL R vs)[i * 2]? = some (iv R[i].2) ∧ (restL R vs)[i * 2 + 1]? = vs[i]?
  | _ :: _, _ :: _, 0, _, _ => ⟨rfl, rfl⟩
  | _ :: R, _ :: vs, i + 1, h, hl => by
    have := restL_at R vs i (by simpa using h) (by simpa using hl)
    rw [Nat.add_mul, Nat.one_mul]
    simpa [restL] using this

/-- The row vR says the rests R; all its blocks hold Fp. -/
def RestsOf (w : World) (base : Nat) (Fp : Nat → Prop) (vR : Value) (R : Rs) : Prop :=
  ∃ vs : List Value, vs.length = R.length ∧ w.ownsRow base 124 2 vR R.length (restL R vs) ∧ (∀ j, vR.ownBlock = some j → Fp j) ∧
    ∀ i (h : i < R.length), ∃ A c, vs[i]? = some (.slice A (R[i].1).length c) ∧ w.ownsRow base 9 1 (.slice A (R[i].1).length c) (R[i].1).length ((R[i].1).map sv) ∧ ∀ j, (Value.slice A (R[i].1).length c).ownBlock = some j → Fp j

/-- The document's Writer: its block is g; all its blocks hold Fp. -/
structure RWr (w : World) (base : Nat) (Fp : Nat → Prop) (g : Nat) (vB vR : Value) (B : List UInt8) (R : Rs) : Prop where
  blk : Whole w g 94 [vB, vR]
  fg : Fp g
  row : w.ownsRow base 5 1 vB B.length (B.map bc)
  frow : ∀ j, vB.ownBlock = some j → Fp j
  rests : RestsOf w base Fp vR R
  low : ∀ j, Fp j → base ≤ j ∧ j < w.heap.size

section
variable {w w' : World} {base g : Nat} {Fp Gp : Nat → Prop} {vB vR : Value} {B : List UInt8} {R : Rs}
theorem RWr.c0 (h : RWr w base Fp g vB vR B R) : w.cell? ⟨g, 0, none⟩ = some vB := h.blk.cell 0
theorem RWr.c1 (h : RWr w base Fp g vB vR B R) : w.cell? ⟨g, 1, none⟩ = some vR := h.blk.cell 1
theorem RWr.f0 (h : RWr w base Fp g vB vR B R) : w.frozen? ⟨g, 0, none⟩ = false := h.blk.frozen 0
theorem RWr.f1 (h : RWr w base Fp g vB vR B R) : w.frozen? ⟨g, 1, none⟩ = false := h.blk.frozen 1
theorem RWr.size (h : RWr w base Fp g vB vR B R) : base ≤ w.heap.size := by have := h.low g h.fg; omega
theorem RestsOf.keep (h : RestsOf w base Fp vR R) (hk : ∀ j, Fp j → w'.heap[j]? = w.heap[j]?) : RestsOf w' base Fp vR R := by
  obtain ⟨vs, h1, h2, h3, h4⟩ := h
  refine ⟨vs, h1, own_keep h2 fun j hj => hk j (h3 j hj), h3, fun i hi => ?_⟩
  obtain ⟨A, c, h5, h6, h7⟩ := h4 i hi
  exact ⟨A, c, h5, own_keep h6 fun j hj => hk j (h7 j hj), h7⟩
theorem RestsOf.wider (h : RestsOf w base Fp vR R) (hf : ∀ j, Fp j → Gp j) : RestsOf w base Gp vR R := by
  obtain ⟨vs, h1, h2, h3, h4⟩ := h
  refine ⟨vs, h1, h2, fun j hj => hf j (h3 j hj), fun i hi => ?_⟩
  obtain ⟨A, c, h5, h6, h7⟩ := h4 i hi
  exact ⟨A, c, h5, h6, fun j hj => hf j (h7 j hj)⟩
theorem RWr.keep (h : RWr w base Fp g vB vR B R) (hs : w.heap.size ≤ w'.heap.size) (hk : ∀ j, Fp j → w'.heap[j]? = w.heap[j]?) : RWr w' base Fp g vB vR B R :=
  ⟨h.blk.keep (hk g h.fg), h.fg, own_keep h.row fun j hj => hk j (h.frow j hj), h.frow, h.rests.keep hk, fun j hj => ⟨(h.low j hj).1, Nat.lt_of_lt_of_le (h.low j hj).2 hs⟩⟩
theorem RWr.below (h : RWr w base Fp g vB vR B R) (hb : Below w.heap.size w w') : RWr w' base Fp g vB vR B R := h.keep hb.size fun j hj => hb.block j (h.low j hj).2
theorem RWr.grew (h : RWr w base Fp g vB vR B R) {F : Nat → Prop} (hg : Grew F w w') (hf : ∀ j, Fp j → ¬ F j) : RWr w' base Fp g vB vR B R := h.keep hg.size fun j hj => hg.block j (h.low j hj).2 (hf j hj)
end

/-- The document's Writer has B and R now; nothing but its own has turned. -/
def RPenned (base : Nat) (w : World) (Fp : Nat → Prop) (g : Nat) (B : List UInt8) (R : Rs) (w' : World) : Prop :=
  ∃ Gp vB vR, RWr w' base Gp g vB vR B R ∧ Grew Fp w w' ∧ ∀ j, Gp j → Fp j ∨ w.heap.size ≤ j
theorem RPenned.then {base : Nat} {w w1 w2 : World} {Fp Gp : Nat → Prop} {g : Nat} {B : List UInt8} {R : Rs} (hg : Grew Fp w w1) (hf : ∀ j, Gp j → Fp j ∨ w.heap.size ≤ j) (h : RPenned base w1 Gp g B R w2) : RPenned base w Fp g B R w2 := by
  obtain ⟨Gq, vB, vR, h1, h2, h3⟩ := h
  refine ⟨Gq, vB, vR, h1, hg.trans h2 hf, fun j hj => ?_⟩
  rcases h3 j hj with h4 | h4
  · exact hf j h4
  · exact .inr (Nat.le_trans hg.size h4)

/-- A new row of bytes has been put into the first cell. -/
theorem RWr.newB {w w' : World} {base g : Nat} {Fp : Nat → Prop} {vB vR v : Value} {B l : List UInt8} {R : Rs} (h : RWr w base Fp g vB vR B R) (hb : Below w.heap.size w w') (ho : w'.ownsRow w.heap.size 5 1 v l.length (l.map bc)) :
    RPenned base w Fp g l R (w'.setCell ⟨g, 0, none⟩ v) := by
  have hw := h.below hb
  have hne : v.ownBlock ≠ some g := own_not_whole ho hw.blk (by decide)
  have hk : ∀ j, j ≠ g → (w'.setCell ⟨g, 0, none⟩ v).heap[j]? = w'.heap[j]? := fun j hj => Below.heap_setCell w' ⟨g, 0, none⟩ v j hj
  have hgp : ∀ j, Fp j → Fp j ∨ (w.heap.size ≤ j ∧ j < w'.heap.size) := fun j hj => .inl hj
  refine ⟨fun j => Fp j ∨ (w.heap.size ≤ j ∧ j < w'.heap.size), v, vR, ⟨hw.blk.set_ 0 v, .inl h.fg, ?_, fun j hj => .inr (ho.lt j hj), ?_, ?_⟩, ?_, ?_⟩
  · exact own_mono (own_set_far ho hne v) h.size
  · obtain ⟨vs, h1, h2, h3, h4⟩ := hw.rests
    refine RestsOf.wider (Fp := Fp) ⟨vs, h1, own_set_far h2 (own_not_whole h2 hw.blk (by decide)) v, h3, fun i hi => ?_⟩ hgp
    obtain ⟨A, c, h5, h6, h7⟩ := h4 i hi
    exact ⟨A, c, h5, own_set_far h6 (own_not_whole h6 hw.blk (by decide)) v, h7⟩
  · intro j hj
    have hs : (w'.setCell ⟨g, 0, none⟩ v).heap.size = w'.heap.size := by simp
    rw [hs]
    rcases hj with hj | hj
    · have := h.low j hj; have := hb.size; omega
    · have := h.size; omega
  · exact (Grew.all hb).setCell (.inl h.fg) _
  · intro j hj
    rcases hj with hj | hj
    · exact .inl hj
    · exact .inr hj.1

set_option maxHeartbeats 1000000 in
theorem rraw_any (base : Nat) (w : World) (Fp : Nat → Prop) (g : Nat) (vB vR : Value) (B : List UInt8) (R : Rs) (A : Option Addr) (m c : Nat) (l : List UInt8) (h : RWr w base Fp g vB vR B R) (hl : l.length = m) (hr : Row w w.heap.size A (l.map bc)) (hm : B.length + m ≤ 140737488355000) :
    Calls Try.prog 59 #[.pointer (some ⟨g, 0, none⟩), .slice A m c] w (fun e w' => e = .returned (.tuple #[]) ∧ RPenned base w Fp g (B ++ l) R w') := by
  obtain ⟨i0, hi0, hz0, hz1, hz2⟩ := info_parts u8_info
  obtain ⟨A0, c0, rfl, _, _⟩ := own_form h.row
  have h0 := h.c0
  have hgl := h.blk.lt
  have HR := Lib.hid hr
  have HL := Lib.hid hl
  have HW := Lib.hid h
  have HR0 := Lib.hid ((Row.of_own h.row).alloc (Nat.le_refl _) (.cells #[] 5))
  clear h hl hr
  go_enter Try.func59, Try.ntmps59
  go_wp2_with (first
    | (at_builtin
       refine wpList_append_row rfl (.tmp 5) (.tmp 9) _ rfl w.heap.size 5 i0 _ 1 1 Try.underlying28 hi0 hz0 hz1 hz2 rfl (by omega) (.slice (some ⟨w.heap.size, 0, none⟩) 0 0) 0 [] rfl
         (own_lit _ _ _) A0 B.length c0 w.heap.size (B.map bc) rfl (by rw [List.length_map, Nat.mul_one]) HR0.out (bc_one B) (by unfold maxLen; omega) (by omega) (by simp) ?_
       intro v1 w1 hown1 hg1
       simp only [Nat.zero_add, List.nil_append] at hown1
       obtain ⟨A1, c1, rfl, _, _⟩ := own_form hown1
       have HO1 := Lib.hid hown1
       have HB1 := Lib.hid (own_below ((Below.refl w.heap.size w).alloc (Nat.le_refl _) _) (Nat.le_refl _) (by simp) (own_lit w 5 1) hg1)
       have hz1' : w.heap.size ≤ w1.heap.size := HB1.out.size
       clear hown1 hg1)
    | (at_builtin
       refine wpList_append_row rfl (.tmp 10) (.tmp 11) _ rfl w.heap.size 5 i0 _ 1 1 Try.underlying28 hi0 hz0 hz1 hz2 rfl (by omega) (.slice A1 B.length c1) B.length _ rfl HO1.out
         A m c w.heap.size (l.map bc) rfl (by rw [List.length_map, HL.out, Nat.mul_one]) (HR.out.below HB1.out) (bc_one l) (by unfold maxLen; omega) (by omega) hz1' ?_
       intro v2 w2 hown2 hg2
       obtain ⟨A2, c2, rfl, _, _⟩ := own_form hown2
       have HO2 := Lib.hid hown2
       have hb2 := own_below HB1.out (Nat.le_refl _) hz1' HO1.out hg2
       have hk2 := (HW.out.below hb2)
       have c0' := hk2.c0
       have f0' := hk2.f0
       have HB2 := Lib.hid hb2
       clear hown2 hg2 hb2 hk2))
  go_end0
  have ho := HO2.out
  have hl2 : B.length + m = (B ++ l).length := by rw [List.length_append, HL.out]
  rw [← List.map_append] at ho
  rw [hl2] at ho ⊢
  exact ⟨rfl, HW.out.newB HB2.out ho⟩

set_option maxHeartbeats 1000000 in
theorem rnum_any (base : Nat) (w : World) (Fp : Nat → Prop) (g : Nat) (vB vR : Value) (B : List UInt8) (R : Rs) (n s : Int) (h : RWr w base Fp g vB vR B R) (hm : B.length ≤ 140737488354000) (hn : n ≤ 9223372036854775807) :
    Calls Try.prog 55 #[.pointer (some ⟨g, 0, none⟩), .int .i64 n, .int .i64 s] w (fun e w' => e = .returned (.tuple #[]) ∧ RPenned base w Fp g (putL B n s) R w') := by
  obtain ⟨A0, c0, rfl, _, _⟩ := own_form h.row
  have HP := Lib.hid (ref_put_any A0 B.length c0 w.heap.size B n s w rfl (Row.of_own h.row) (Nat.le_refl _) (by omega) hn)
  have h0 := h.c0
  have HW := Lib.hid h
  clear h
  generalize putL B n s = l at *
  go_enter Try.func55, Try.ntmps55
  go_wp2_with fail
  refine HP.out.mono ?_
  rintro e w1 ⟨A1, c1, rfl, ho, hb⟩
  have hk1 := HW.out.below hb
  have c0' := hk1.c0
  have f0' := hk1.f0
  have HO := Lib.hid ho
  have HB := Lib.hid hb
  clear ho hb hk1
  go_wp2
  go_end0
  exact ⟨rfl, HW.out.newB HB.out HO.out⟩

end Go.Proofs.Ytjkjhpaeckkpjaa

namespace Go.Proofs.Ytjkjhpaeckkpjaa
open Go.RowKit

theorem nameW_prefix (short : Bool) : ∀ (n : List (List UInt8)) (B : List UInt8) (R : Rs), ∃ T, (nameW short n B R).2 = R ++ T
  | [], B, R => ⟨[], by simp [nameW_nil]⟩
  | l :: n, B, R => by
    have step : ∃ T, (nameW short n (B ++ UInt8.ofNat l.length :: l) (if B.length < 16384 then R ++ [(l :: n, B.length)] else R)).2 = R ++ T := by
      obtain ⟨T, hT⟩ := nameW_prefix short n (B ++ UInt8.ofNat l.length :: l) (if B.length < 16384 then R ++ [(l :: n, B.length)] else R)
      rw [hT]
      split
      · exact ⟨(l :: n, B.length) :: T, by simp⟩
      · exact ⟨T, rfl⟩
    cases hfi : findR R (l :: n) with
    | none => rw [nameW_miss hfi]; exact step
    | some k =>
      cases short with
      | false => rw [nameW_long]; exact step
      | true => rw [nameW_hit hfi]; exact ⟨[], by simp⟩
theorem findR_append {R : Rs} {n : List (List UInt8)} {k : Nat} (T : Rs) (h : findR R n = some k) : findR (R ++ T) n = some k := by
  unfold findR at h ⊢
  rw [List.find?_append]
  cases hf : R.find? fun r => decide (r.1 = n) with
  | none => rw [hf] at h; cases h
  | some r => rw [hf] at h; exact h
theorem findR_other {R : Rs} {n : List (List UInt8)} (h : ∀ r ∈ R, n.length < r.1.length) : findR R n = none := by
  unfold findR
  rw [Option.map_eq_none_iff, List.find?_eq_none]
  intro r hr
  have := h r hr
  simp
  intro e
  rw [e] at this
  omega
/-- A name of which no rest was written is written whole. -/
theorem nameW_fresh (short : Bool) : ∀ (n : List (List UInt8)) (B : List UInt8) (R : Rs), (∀ r ∈ R, n.length < r.1.length) → (nameW short n B R).1.length = B.length + szN n ∧ (16384 ≤ B.length → (nameW short n B R).2 = R) ∧ (B.length < 16384 → n ≠ [] → findR (nameW short n B R).2 n = some B.length)
  | [], B, R, _ => by simp [nameW_nil, szN]
  | l :: n, B, R, h => by
    have hfi := findR_other h
    rw [nameW_miss hfi]
    obtain ⟨h1, h2, _⟩ := nameW_fresh short n (B ++ UInt8.ofNat l.length :: l) (if B.length < 16384 then R ++ [(l :: n, B.length)] else R) (fun r hr => by
      split at hr
      · rcases List.mem_append.1 hr with hr | hr
        · have := h r hr; simp at this; omega
        · rw [List.mem_singleton.1 hr]; simp
      · have := h r hr; simp at this; omega)
    refine ⟨?_, fun hb => ?_, fun hb _ => ?_⟩
    · rw [h1]; simp [szN]; omega
    · rw [h2 (by simp; omega), if_neg (by omega)]
    · rw [if_pos hb]
      obtain ⟨T, hT⟩ := nameW_prefix short n (B ++ UInt8.ofNat l.length :: l) (R ++ [(l :: n, B.length)])
      rw [hT]
      refine findR_append T ?_
      rw [findR_snoc, hfi, if_pos rfl]
      rfl
theorem length_nameW_hit {n : List (List UInt8)} {B : List UInt8} {R : Rs} {k : Nat} (hn : n ≠ []) (h : findR R n = some k) : (nameW true n B R).1.length = B.length + 2 := by
  cases n with
  | nil => exact absurd rfl hn
  | cons l n => rw [nameW_hit h]; simp [length_digs]

end Go.Proofs.Ytjkjhpaeckkpjaa

namespace Go.Proofs.Ytjkjhpaeckkpjaa
open Go.RowKit

def findV (R : Rs) (n : List (List UInt8)) : Int := match findR R n with
  | some k => (k : Int)
  | none => -1
theorem findV_some {R : Rs} {n : List (List UInt8)} {k : Nat} (h : findR R n = some k) : findV R n = k := by simp only [findV, h]
theorem findV_none {R : Rs} {n : List (List UInt8)} (h : findR R n = none) : findV R n = -1 := by simp only [findV, h]
def FindRel (w : World) (R : Rs) (n : List (List UInt8)) (i : Value) (wr : World) : Prop := ∃ k q : Nat, k ≤ R.length ∧ i = .int .i64 k ∧ findR (R.take k) n = none ∧ wr = w.drewN q
theorem findR_here {R : Rs} {n : List (List UInt8)} {k : Nat} (hk : k < R.length) (h : findR (R.take k) n = none) (e : R[k].1 = n) : findR R n = some R[k].2 := by
  have h1 : findR (R.take (k + 1)) n = some R[k].2 := by
    rw [List.take_succ_eq_append_getElem hk, show R[k] = (R[k].1, R[k].2) from rfl, findR_snoc, h, if_pos e]
    rfl
  have h2 := findR_append (R.drop (k + 1)) h1
  rwa [List.take_append_drop] at h2
theorem findR_not {R : Rs} {n : List (List UInt8)} {k : Nat} (hk : k < R.length) (h : findR (R.take k) n = none) (e : R[k].1 ≠ n) : findR (R.take (k + 1)) n = none := by
  rw [List.take_succ_eq_append_getElem hk, show R[k] = (R[k].1, R[k].2) from rfl, findR_snoc, h, if_neg e]
  rfl

set_option maxHeartbeats 1000000 in
theorem rfind_any (base : Nat) (w : World) (Fp : Nat → Prop) (g : Nat) (vB vR : Value) (B : List UInt8) (R : Rs) (A : Option Addr) (m c : Nat) (n : List (List UInt8)) (h : RWr w base Fp g vB vR B R) (hl : n.length = m) (hA : Row w w.heap.size A (n.map sv))
    (_ : n.length ≤ 1000) (hR : R.length ≤ 1000000) (hR1 : ∀ r ∈ R, r.1.length ≤ 1000) :
    Calls Try.prog 83 #[.pointer (some ⟨g, 0, none⟩), .slice A m c] w (Drewn w (.int .i64 (findV R n))) := by
  subst hl
  obtain ⟨vs, hvl, hrow, hfr, hat⟩ := h.rests
  obtain ⟨AR, cR, rfl, hc1, hc2⟩ := own_form hrow
  have h1 := h.c1
  have HAT := Lib.hid hat
  have HRW := Lib.hid hrow
  have HA := Lib.hid hA
  have HR1 := Lib.hid hR1
  have HVL := Lib.hid hvl
  clear h hat hrow hA hR1 hvl hfr
  go_enter Try.func83, Try.ntmps83
  go_wp2
  go_loopw [5] (FindRel w R n) (fun i _ => R.length - (intOf i).toNat)
  case atStart => exact ⟨0, 0, Nat.zero_le _, rfl, by rw [List.take_zero]; rfl, rfl⟩
  case round =>
    obtain ⟨k, q, hk, rfl, hno, rfl⟩ := hrel
    have HNO := Lib.hid hno
    clear hno
    by_cases hlt : k < R.length
    · obtain ⟨gR, rfl⟩ := own_some HRW.out (by omega)
      obtain ⟨Ak, ck, hv, hok, _⟩ := HAT.out k hlt
      obtain ⟨hr1, hr2⟩ := restL_at R vs k hlt HVL.out
      rw [hv] at hr2
      have hc0 := HRW.out.cells (g := gR) rfl (k * 2) _ hr1
      have hc1' := HRW.out.cells (g := gR) rfl (k * 2 + 1) _ hr2
      rw [addr_add, Nat.zero_add] at hc0 hc1'
      have hc0' : w.cell? ⟨gR, k * 2, none⟩ = some (.int .i64 (R[k].2 : Int)) := hc0
      have hlen := HR1.out _ (List.getElem_mem hlt)
      obtain ⟨x, hx⟩ : ∃ x, x = R[k].1 := ⟨_, rfl⟩
      obtain ⟨y, hy⟩ : ∃ y, y = R[k].2 := ⟨_, rfl⟩
      rw [← hx] at hc1' hok hlen
      rw [← hy] at hc0'
      have HX := Lib.hid hx
      have HY := Lib.hid hy
      have HE := Lib.hid (fun W hA' hB' => exact_any Ak A x.length n.length ck c w.heap.size x n W rfl rfl hA' hB' (by unfold maxLen; omega))
      have HOK := Lib.hid (Row.of_own hok)
      clear hv hok hr1 hr2 hc0 hx hy
      by_cases he : x = n
      · rw [show decide (x = n) = true by simp [he]] at HE
        have HF := Lib.hid (findR_here hlt HNO.out (by rw [← HX.out]; exact he))
        clear he
        go_wp2_with fail
        refine (HE.out _ (HOK.out.drewN q) (HA.out.drewN q)).mono ?_
        rintro e w1 ⟨rfl, q1, rfl⟩
        go_wp2
        go_ret
        exact ⟨ret_int (by rw [findV_some HF.out, ← HY.out]), q + q1, rfl⟩
      · rw [show decide (x = n) = false by simp [he]] at HE
        have HF := Lib.hid (findR_not hlt HNO.out (by rw [← HX.out]; exact he))
        clear he
        go_wp2_with fail
        refine (HE.out _ (HOK.out.drewN q) (HA.out.drewN q)).mono ?_
        rintro e w1 ⟨rfl, q1, rfl⟩
        go_wp2
        exact ⟨⟨k + 1, q + q1, by omega, by go_num, HF.out, rfl⟩, by simp [intOf]; omega⟩
    · obtain rfl : k = R.length := by omega
      have HF := Lib.hid (show findR R n = none by have h := HNO.out; rwa [List.take_length] at h)
      go_wp2
      go_ret
      exact ⟨ret_int (findV_none HF.out).symm, q, rfl⟩

theorem rest_info : (Try.prog.info? 124).map (fun i => (i.zero, i.size, i.bytes)) = some (some (.agg #[.int .i64 0, .slice none 0 0]), 2, 32) := by kernel_rfl

theorem putL_ptr' (B : List UInt8) {k : Nat} (hk : k < 16384) : putL B (49152 + (k : Int)) 2 = B ++ digs (49152 + k) 2 := by
  have hf : fitB ((49152 + k : Nat) : Int) ((2 : Nat) : Int) = true := fitB_true (by omega) (by omega) (by omega) (by simp; omega)
  have h := putL_yes (l := B) hf
  simpa using h
theorem putL_len (B : List UInt8) {k : Nat} (hk : k < 256) : putL B (k : Int) 1 = B ++ [UInt8.ofNat k] := by
  have hf : fitB (k : Int) ((1 : Nat) : Int) = true := fitB_true (by omega) (by omega) (by omega) (by simp; omega)
  have h := putL_yes (l := B) hf
  simp only [digs, List.range_succ, List.range_zero] at h
  simpa using h

/-- append onto a row of the call's own, as one step of a region that draws; it says where the new row lies. -/
theorem step_append_at {P : Program} {w : World} {ops : Array Oper} {o : Oper} {a : Act} {K : Act → World → Prop} {Q : Exit → Act → World → Prop} {E : Prop} (hgd : o.guard = none) (s x : Operand) (t : TypeId)
    (ho : o.op = .call { callee := .builtin .append, args := #[s, x], argTypes := #[t, t] })
    (base : Nat) (e : TypeId) (i : TypeInfo) (z : Value) (size bytes : Nat) (ht : P.underlying t = some (.slice e)) (hi : P.info? e = some i) (hz : i.zero = some z)
    (hsize : i.size = size) (hby : i.bytes = bytes) (hzs : z.cells.size = size) (hsz : 0 < size)
    (v : Value) (n : Nat) (xs : List Value) (hs : a.eval s = v) (hown : w.ownsRow base e size v n xs)
    (A : Option Addr) (m c H : Nat) (news : List Value) (hx : a.eval x = .slice A m c) (hl : news.length = m * size) (hr : Row w H A news) (h1 : ∀ u ∈ news, u.oneCell' = true)
    (h63 : n + m ≤ maxLen) (hbytes : (n + m) * bytes ≤ 140737488355328) (hbase : base ≤ w.heap.size)
    (h : ∀ v' w', w'.ownsRow base e size v' (n + m) (xs ++ news) → w.grownBy w' v.ownBlock → (v'.ownBlock = v.ownBlock ∨ v'.ownBlock = some w.heap.size) → K (a.put o.dst v') w') : if Region.wanted o (yielded ops a.tmps) = true then Oper.wp P o a w K Q else E := by
  have hw : Region.wanted o (yielded ops a.tmps) = true := by simp [Region.wanted, hgd]
  rw [if_pos hw]
  have key : ∃ v' w', (Builtin.append_ #[t, t] o.type #[v, .slice A m c]).run P w = .ok v' w' ∧ w'.ownsRow base e size v' (n + m) (xs ++ news) ∧ w.grownBy w' v.ownBlock ∧ (v'.ownBlock = v.ownBlock ∨ v'.ownBlock = some w.heap.size) := by
    rcases A with _ | ad
    · have hn : news = [] := by
        rcases news with _ | ⟨u, us⟩
        · rfl
        · obtain ⟨_, _, h, _⟩ := hr (by simp)
          cases h
      have hm : m = 0 := by
        subst hn
        rcases Nat.eq_zero_or_pos m with h0 | h0
        · exact h0
        · have := Nat.mul_pos h0 hsz
          simp at hl; omega
      subst hn; subst hm
      exact ⟨v, w, append_nil_run (P := P) w base t o.type e i size ht hi v n xs hown c, by simpa using hown, World.grownBy.refl w _, .inl rfl⟩
    · have hc : ∀ j u, news[j]? = some u → w.cell? (ad.add j) = some u := by
        intro j u hu
        obtain ⟨b, off, e, _, hc⟩ := hr (fun e => by rw [e] at hu; simp at hu)
        injection e with e
        subst e
        rw [addr_add]
        exact hc j u hu
      obtain ⟨v', w', h2, h3, h4, _, h6⟩ := run_append_own_at (P := P) w base t o.type e i z size bytes ht hi hz hsize hby hzs hsz v n xs hown ad m c news hl hc h1 h63 hbytes hbase
      exact ⟨v', w', h2, h3, h4, h6⟩
  obtain ⟨v', w', hrun, h2, h3, h4⟩ := key
  unfold Oper.wp
  simp [execOp, ho, resolve, invoke, builtin, hs, hx, hrun, Result.andThen]
  exact h v' w' h2 h3 h4

/-- A rest has been noted. -/
theorem RWr.newR {w w1 w2 : World} {base g k : Nat} {Fp : Nat → Prop} {vB vR v2 : Value} {B : List UInt8} {R : Rs} {A : Option Addr} {c : Nat} {n : List (List UInt8)} {vs : List Value} (h : RWr w base Fp g vB vR B R) (hb : Below w.heap.size w w1)
    (hvl : vs.length = R.length) (hrow : w.ownsRow base 124 2 vR R.length (restL R vs)) (hfr : ∀ j, vR.ownBlock = some j → Fp j)
    (hat : ∀ i (h : i < R.length), ∃ A c, vs[i]? = some (.slice A (R[i].1).length c) ∧ w.ownsRow base 9 1 (.slice A (R[i].1).length c) (R[i].1).length ((R[i].1).map sv) ∧ ∀ j, (Value.slice A (R[i].1).length c).ownBlock = some j → Fp j)
    (ho : w1.ownsRow w.heap.size 9 1 (.slice A n.length c) n.length (n.map sv)) (ho2 : w2.ownsRow base 124 2 v2 (R.length + 1) (restL R vs ++ [iv k, .slice A n.length c]))
    (hg : w1.grownBy w2 vR.ownBlock) (hv2 : v2.ownBlock = vR.ownBlock ∨ v2.ownBlock = some w1.heap.size) :
    RPenned base w Fp g B (R ++ [(n, k)]) (w2.setCell ⟨g, 1, none⟩ v2) := by
  have hw1 := h.below hb
  have hrow1 := own_keep hrow fun j hj => hb.block j (hrow.lt j hj).2
  have hgne : vR.ownBlock ≠ some g := own_not_whole hrow h.blk (by decide)
  have hblk2 : Whole w2 g 94 [vB, vR] := hw1.blk.keep (hg.block g hw1.blk.lt (Ne.symm hgne))
  have hk : ∀ j, j < w1.heap.size → vR.ownBlock ≠ some j → j ≠ g → (w2.setCell ⟨g, 1, none⟩ v2).heap[j]? = w1.heap[j]? := fun j hj h1 h2 => (Below.heap_setCell w2 ⟨g, 1, none⟩ v2 j h2).trans (hg.block j hj (Ne.symm h1))
  have hs2 : (w2.setCell ⟨g, 1, none⟩ v2).heap.size = w2.heap.size := by simp
  have hsz1 := hb.size
  have hsz2 := hg.size
  have hbs := h.size
  refine ⟨fun j => Fp j ∨ (w.heap.size ≤ j ∧ j < w2.heap.size), vB, v2, ⟨hblk2.set_ 1 v2, .inl h.fg, ?_, fun j hj => .inl (h.frow j hj), ?_, ?_⟩, ?_, ?_⟩
  · refine own_keep hw1.row fun j hj => hk j (hw1.row.lt j hj).2 (own_own_apart hw1.row hrow1 (by decide) hj) (fun e => own_not_whole hw1.row hw1.blk (by decide) (by rw [hj, e]))
  · refine ⟨vs ++ [.slice A n.length c], by simp [hvl], ?_, fun j hj => ?_, fun i hi => ?_⟩
    · rw [restL_snoc R vs (n, k) _ hvl, List.length_append]
      exact own_set_far ho2 (own_not_whole ho2 hblk2 (by decide)) v2
    · rcases hv2 with e | e
      · exact .inl (hfr j (by rw [← e]; exact hj))
      · rw [e] at hj
        injection hj with hj
        have := (ho2.lt w1.heap.size e).2
        exact .inr ⟨by omega, by omega⟩
    · simp only [List.length_append, List.length_cons, List.length_nil] at hi
      by_cases hlt : i < R.length
      · obtain ⟨A', c', h5, h6, h7⟩ := hat i hlt
        have h6' := own_keep h6 fun j hj => hb.block j (h6.lt j hj).2
        simp only [List.getElem_append_left hlt]
        refine ⟨A', c', by rw [List.getElem?_append_left (by omega)]; exact h5, own_keep h6' fun j hj => hk j (h6'.lt j hj).2 (own_own_apart h6' hrow1 (by decide) hj) (fun e => own_not_whole h6' hw1.blk (by decide) (by rw [hj, e])), fun j hj => .inl (h7 j hj)⟩
      · obtain rfl : i = R.length := by omega
        have hge : (R ++ [(n, k)])[R.length] = (n, k) := by simp
        simp only [hge]
        refine ⟨A, c, by rw [← hvl]; simp, own_mono (own_keep ho fun j hj => hk j (ho.lt j hj).2 (own_own_apart ho hrow1 (by decide) hj) (fun e => own_not_whole ho hw1.blk (by decide) (by rw [hj, e]))) hbs, fun j hj => .inr ⟨(ho.lt j hj).1, ?_⟩⟩
        have := (ho.lt j hj).2
        omega
  · intro j hj
    rw [hs2]
    rcases hj with hj | hj
    · have := h.low j hj; omega
    · omega
  · refine ((Grew.all hb).grown hg fun j hj => .inl (hfr j hj)).setCell (.inl h.fg) _
  · intro j hj
    rcases hj with hj | hj
    · exact .inl hj
    · exact .inr hj.1
theorem Row.cell_at {w : World} {H b off : Nat} {n : List (List UInt8)} (h : Row w H (some ⟨b, off, none⟩) (n.map sv)) {k : Nat} (hk : k < n.length) : w.cell? ⟨b, off + k, none⟩ = some (.string ⟨(n[k]).toArray⟩) := by
  obtain ⟨b', off', e, _, hc⟩ := h.name_at hk
  injection e with e
  injection e with e1 e2
  subst e1; subst e2
  exact hc

/-- Is a pointer written? -/
def hitB (R : Rs) (n : List (List UInt8)) (short : Bool) : Bool := (findR R n).isSome && short
def HitRel (R : Rs) (n : List (List UInt8)) (short : Bool) (wf : World) (s : Value) (wx : World) : Prop := s = .bool (hitB R n short) ∧ wf = wx
theorem hitB_true {R : Rs} {n : List (List UInt8)} {short : Bool} (h : hitB R n short = true) : ∃ a, findR R n = some a ∧ short = true := by
  simp only [hitB, Bool.and_eq_true] at h
  obtain ⟨a, ha⟩ := Option.isSome_iff_exists.1 h.1
  exact ⟨a, ha, h.2⟩
theorem nameW_nohit {short : Bool} {l : List UInt8} {n : List (List UInt8)} {B : List UInt8} {R : Rs} (h : hitB R (l :: n) short = false) :
    nameW short (l :: n) B R = nameW short n (B ++ UInt8.ofNat l.length :: l) (if B.length < 16384 then R ++ [(l :: n, B.length)] else R) := by
  cases hf : findR R (l :: n) with
  | none => exact nameW_miss hf
  | some a =>
    have hs : short = false := by simpa [hitB, hf] using h
    subst hs
    exact nameW_long l n B R
theorem noteR_long {B : List UInt8} {R : Rs} {r : List (List UInt8)} (h : ∀ x ∈ R, x.2 < 16384 ∧ x.1.length ≤ 1000) (hr : r.length ≤ 1000) : (∀ x ∈ noteR B R r, x.2 < 16384 ∧ x.1.length ≤ 1000) ∧ (noteR B R r).length ≤ R.length + 1 := by
  unfold noteR
  split
  · rename_i hb
    refine ⟨fun x hx => ?_, by simp⟩
    rcases List.mem_append.1 hx with hx | hx
    · exact h x hx
    · rw [List.mem_singleton.1 hx]; exact ⟨hb, hr⟩
  · exact ⟨h, by omega⟩

/-- Behind the note of a rest. -/
def NotedRel (base : Nat) (w : World) (Fp : Nat → Prop) (g : Nat) (B : List UInt8) (R : Rs) (wx : World) : Prop := RPenned base w Fp g B R wx

def RNameRel (base : Nat) (w : World) (Fp : Nat → Prop) (g : Nat) (short : Bool) (n : List (List UInt8)) (B : List UInt8) (R : Rs) (i : Value) (wr : World) : Prop :=
  ∃ (k : Nat) (B' : List UInt8) (R' : Rs), k ≤ n.length ∧ i = .int .i64 (k : Nat) ∧ RPenned base w Fp g B' R' wr ∧ nameW short n B R = nameW short (n.drop k) B' R' ∧ B'.length + szN (n.drop k) ≤ B.length + szN n ∧ R'.length ≤ R.length + k ∧ ∀ r ∈ R', r.2 < 16384 ∧ r.1.length ≤ 1000

set_option maxRecDepth 100000 in
set_option maxHeartbeats 8000000 in
theorem rname_any (base : Nat) (w : World) (Fp : Nat → Prop) (g : Nat) (vB vR : Value) (B : List UInt8) (R : Rs) (A : Option Addr) (c H : Nat) (n : List (List UInt8)) (short : Bool) (h : RWr w base Fp g vB vR B R) (hA : Row w H A (n.map sv)) (hH : H ≤ base) (hc : n.length ≤ c)
    (hs : soundN n = true) (hB : B.length ≤ 1000000000) (hR : R.length ≤ 900000) (hR16 : ∀ r ∈ R, r.2 < 16384 ∧ r.1.length ≤ 1000) :
    Calls Try.prog 57 #[.pointer (some ⟨g, 0, none⟩), .slice A n.length c, .bool short] w (fun e w' => e = .returned (.tuple #[]) ∧ RPenned base w Fp g (nameW short n B R).1 (nameW short n B R).2 w') := by
  obtain ⟨s0, hs0, hx0, hx1, hx2⟩ := info_parts str_info
  obtain ⟨r0, hr0, hu0, hu1, hu2⟩ := info_parts rest_info
  have hs2 := hs
  simp only [soundN, Bool.and_eq_true, decide_eq_true_eq] at hs2
  obtain ⟨hfl, hsz⟩ := hs2
  have hnl := szN_ge n hfl
  have hbs := h.size
  have hlow := h.low
  have HA := Lib.hid hA
  have HF := Lib.hid hfl
  have HLOW := Lib.hid hlow
  have HW0 := Lib.hid (show RPenned base w Fp g B R w from ⟨Fp, vB, vR, h, Grew.refl _ _, fun j hj => .inl hj⟩)
  have HR16 := Lib.hid hR16
  clear h hA hs hfl hlow hR16
  go_enter Try.func57, Try.ntmps57
  go_wp2
  go_loopw [6] (RNameRel base w Fp g short n B R) (fun i _ => n.length - (intOf i).toNat)
  case atStart => exact ⟨0, B, R, Nat.zero_le _, rfl, HW0.out, rfl, Nat.le_refl _, Nat.le_refl _, HR16.out⟩
  case round =>
    obtain ⟨k, B1, R1, hk, rfl, ⟨Gp, vB1, vR1, hw1, hg1, ho1⟩, hnw, hb1, hr1, hr16⟩ := hrel
    obtain ⟨AB, cB, rfl, _, _⟩ := own_form hw1.row
    have HW1 := Lib.hid hw1
    have HG1 := Lib.hid hg1
    have HO1 := Lib.hid ho1
    have HNW := Lib.hid hnw
    have HR1 := Lib.hid hr16
    have hrowA := HA.out.grew hg1 (Nat.le_trans hH hbs) (fun j hj => Nat.le_trans hH (HLOW.out j hj).1)
    have HAr := Lib.hid hrowA
    have hHr : H ≤ wr.heap.size := Nat.le_trans hH hw1.size
    clear hw1 hg1 ho1 hnw hr16
    by_cases hlt : k < n.length
    · obtain ⟨bA, oA, rfl, hbA, hcA⟩ := hrowA.name_at hlt
      obtain ⟨l, hl⟩ : ∃ l, l = n[k] := ⟨_, rfl⟩
      have hdk : n.drop k = l :: n.drop (k + 1) := by rw [hl, List.drop_eq_getElem_cons hlt]
      have hfk : 1 ≤ l.length ∧ l.length ≤ 63 := by
        have h := List.all_eq_true.1 HF.out _ (List.getElem_mem hlt)
        rw [← hl] at h
        exact fitL_iff.1 h
      obtain ⟨hl1, hl2⟩ := hfk
      have hdl : szN (n.drop k) = l.length + 1 + szN (n.drop (k + 1)) := by rw [hdk]; rfl
      have hdn : (n.drop k).length ≤ 1000 := by rw [List.length_drop]; omega
      have hrowD : Row wr wr.heap.size (some ⟨bA, oA + k, none⟩) ((n.drop k).map sv) := by
        have h := (hrowA.drop rfl (k := k)).mono hHr
        rwa [← List.map_drop] at h
      have HFD := Lib.hid (rfind_any base wr Gp g (.slice AB B1.length cB) vR1 B1 R1 (some ⟨bA, oA + k, none⟩) (n.length - k) (c - k) (n.drop k) HW1.out (by simp) hrowD hdn (by omega) (fun r hr => (HR1.out r hr).2))
      have hck : (c = k) = False := by simp; omega
      have hk0 : (0 : Int) ≤ k := by omega
      have hk1 : (k : Int) ≤ (n.length : Int) := by omega
      have HL := Lib.hid hl
      have HDK := Lib.hid hdk
      clear hrowA hrowD hl hdk hcA
      go_wp2_with fail
      refine HFD.out.mono ?_
      rintro e w1 ⟨rfl, q, rfl⟩
      obtain ⟨wf, hwf⟩ : ∃ wf, wf = wr.drewN q := ⟨_, rfl⟩
      rw [← hwf]
      have hWf : RWr wf base Gp g (.slice AB B1.length cB) vR1 B1 R1 := by rw [hwf]; exact HW1.out.keep (Nat.le_refl _) fun _ _ => rfl
      have HGf := Lib.hid (show Grew Fp w wf by rw [hwf]; exact HG1.out.drewN q)
      have HAf := Lib.hid (show Row wf H (some ⟨bA, oA, none⟩) (n.map sv) by rw [hwf]; exact HAr.out.drewN q)
      have hHf : H ≤ wf.heap.size := by rw [hwf]; exact hHr
      have c0f := hWf.c0
      have HWf := Lib.hid hWf
      have HADf := Lib.hid (show Row (wf.drew.alloc (.cells #[] 9)) H (some ⟨bA, oA + k, none⟩) ((n.drop k).map sv) by
        have h := HAf.out.drop rfl (k := k)
        rw [← List.map_drop] at h
        exact h.drew.alloc (by simpa using hHf) _)
      clear hwf hWf
      go_upto_region 4 with fail
      go_cut [23] from 8 to 67 (fun s23 wx => HitRel R1 (n.drop k) short wf s23 wx)
      case first =>
        cases hfi : findR R1 (n.drop k) with
        | some a =>
          have dfv : decide (0 ≤ findV R1 (n.drop k)) = true := by rw [findV_some hfi]; simp
          have HFI := Lib.hid hfi
          clear hfi
          go_wp2_with fail
          go_meet
          exact ⟨by simp [hitB, HFI.out], rfl⟩
        | none =>
          have dfv : decide (0 ≤ findV R1 (n.drop k)) = false := by rw [findV_none hfi]; rfl
          have HFI := Lib.hid hfi
          clear hfi
          go_wp2_with fail
          go_meet
          exact ⟨by simp [hitB, HFI.out], rfl⟩
      case rest =>
        obtain ⟨rfl, rfl⟩ := hcut
        cases hh : hitB R1 (n.drop k) short with
        | true =>
          obtain ⟨a, hfi, rfl⟩ := hitB_true hh
          have ha16 := (HR1.out _ (findR_mem hfi)).1
          simp only at ha16
          rw [findV_some hfi]
          have HFI := Lib.hid hfi
          have HN := Lib.hid (rnum_any base wf Gp g (.slice AB B1.length cB) vR1 B1 R1 (49152 + (a : Int)) 2 HWf.out (by omega) (by omega))
          rw [putL_ptr' B1 ha16] at HN
          clear hh hfi
          go_wp2_with fail
          refine HN.out.mono ?_
          rintro e w2 ⟨rfl, hp⟩
          have HP := Lib.hid (RPenned.then HGf.out HO1.out hp)
          clear hp
          go_wp2
          refine bodyPost_ret (v := .tuple #[]) (by simp [results, Try.results57, go_sem]) rfl ?_
          refine ⟨rfl, ?_⟩
          rw [HNW.out, HDK.out]
          have h := HFI.out
          rw [HDK.out] at h
          rw [nameW_hit h]
          exact HP.out
        | false =>
          have HHF := Lib.hid (nameW_nohit (l := l) (n := n.drop (k + 1)) (B := B1) (by rw [← HDK.out]; exact hh))
          clear hh
          go_upto_if 33 with fail
          go_cut [] from 8 to 67 (fun wx => NotedRel base w Fp g B1 (noteR B1 R1 (n.drop k)) wx)
          case first =>
            by_cases hB16 : B1.length < 16384
            · have dB : decide ((B1.length : Int) < 16384) = true := by simp; omega
              obtain ⟨vs, hvl, hrow, hfr, hat⟩ := HWf.out.rests
              obtain ⟨AR, cR, rfl, _, _⟩ := own_form hrow
              have c1f := HWf.out.c1
              have f1f := HWf.out.f1
              have hgl := HWf.out.blk.lt
              have hbw := HWf.out.size
              have hgne : (Value.slice AR R1.length cR).ownBlock ≠ some g := own_not_whole hrow HWf.out.blk (by decide)
              have HROW := Lib.hid hrow
              have HVL := Lib.hid hvl
              have HFR := Lib.hid hfr
              have HAT := Lib.hid hat
              have HGN := Lib.hid hgne
              have hRl : R1.length ≤ 1000000 := by omega
              have hdl2 : n.length - k ≤ 1000 := by omega
              clear hvl hrow hfr hat hgne
              go_wp2
              go_region_law (first
                | (refine step_append_any rfl (.tmp 44) (.tmp 47) _ rfl wf.heap.size 9 s0 _ 1 16 Try.underlying40 hs0 hx0 hx1 hx2 rfl (by omega) (.slice (some ⟨wf.heap.size, 0, none⟩) 0 0) 0 [] rfl
                     (own_lit wf.drew _ _) (some ⟨bA, oA + k, none⟩) (n.length - k) (c - k) H ((n.drop k).map sv) rfl (by simp) HADf.out (sv_one _) (by unfold maxLen; omega) (by omega) (by simp) ?_
                   intro v1 w1 hown1 hg1
                   simp only [Nat.zero_add, List.nil_append] at hown1
                   obtain ⟨A1, c1, rfl, _, _⟩ := own_form hown1
                   have hb1 : Below wf.heap.size wf w1 := own_below (((Below.refl wf.heap.size wf).drew).alloc (Nat.le_refl _) _) (Nat.le_refl _) (by simp) (own_lit wf.drew 9 1) hg1
                   have hk1' := HWf.out.below hb1
                   have c0' := hk1'.c0
                   have c1' := hk1'.c1
                   have hg1l := hk1'.blk.lt
                   have HO48 := Lib.hid hown1
                   have HB1 := Lib.hid hb1
                   have HR1' := Lib.hid (own_keep HROW.out fun j hj => hb1.block j (HROW.out.lt j hj).2)
                   have hz1' : base ≤ w1.heap.size := Nat.le_trans hbw hb1.size
                   clear hown1 hg1 hb1 hk1')
                | (refine step_append_at rfl (.tmp 38) (.tmp 50) _ rfl base 124 r0 _ 2 32 Try.underlying92 hr0 hu0 hu1 hu2 rfl (by omega) (.slice AR R1.length cR) R1.length _ rfl (HR1'.out.alloc _)
                     (some ⟨w1.heap.size, 0, none⟩) 1 1 (w1.heap.size + 1) [.int .i64 (B1.length : Int), .slice A1 (n.length - k) c1] rfl rfl (Row.made w1 #[.int .i64 (B1.length : Int), .slice A1 (n.length - k) c1] _) (by simp [Value.oneCell']) (by unfold maxLen; omega) (by omega) (by simp; omega) ?_
                   intro v2 w2 hown2 hg2 hat2
                   obtain ⟨A2, c2, rfl, _, _⟩ := own_form hown2
                   have hk2 : w2.heap[g]? = w1.heap[g]? := (hg2.block g (by simp; omega) (Ne.symm HGN.out)).trans (Below.heap_alloc w1 _ g hg1l)
                   have hk2' := (HWf.out.below HB1.out).blk.keep hk2
                   have c1'' : w2.cell? ⟨g, 1, none⟩ = some (.slice AR R1.length cR) := hk2'.cell 1
                   have f1'' : w2.frozen? ⟨g, 1, none⟩ = false := hk2'.frozen 1
                   have HO51 := Lib.hid hown2
                   have HG51 := Lib.hid hg2
                   have HA51 := Lib.hid hat2
                   have c0'' : w2.cell? ⟨g, 0, none⟩ = some (.slice AB B1.length cB) := hk2'.cell 0
                   clear hown2 hg2 hat2 hk2 hk2'))
              all_goals
                go_wp2_with fail
                go_meet
                show RPenned base w Fp g B1 (noteR B1 R1 (n.drop k)) _
                rw [noteR, if_pos hB16]
                have h48 := HO48.out.alloc (.cells #[.int .i64 (B1.length : Int), .slice A1 (n.length - k) c1] 124)
                have h51 := HO51.out
                have hb2 := HB1.out.alloc HB1.out.size (.cells #[.int .i64 (B1.length : Int), .slice A1 (n.length - k) c1] 124)
                have HG52 := HG51.out
                have HA52 := HA51.out
                rw [show n.length - k = (n.drop k).length by simp] at h48 h51 hb2 HG52 HA52
                exact RPenned.then HGf.out HO1.out (HWf.out.newR hb2 HVL.out HROW.out HFR.out HAT.out h48 h51 HG52 HA52)
            · have dB : decide ((B1.length : Int) < 16384) = false := by simp; omega
              go_wp2_with fail
              go_meet
              show RPenned base w Fp g B1 (noteR B1 R1 (n.drop k)) wf
              rw [noteR, if_neg hB16]
              exact ⟨Gp, _, _, HWf.out, HGf.out, HO1.out⟩
          case rest =>
            obtain ⟨Gq, vB2, vR2, hw2, hg2, ho2⟩ := hcut
            have hlowH : ∀ j, Fp j → H ≤ j := fun j hj => Nat.le_trans hH (HLOW.out j hj).1
            have hHw : H ≤ w.heap.size := Nat.le_trans hH hbs
            have c2 : wc.cell? ⟨bA, oA + k, none⟩ = some (.string ⟨l.toArray⟩) := by rw [Row.cell_at (HA.out.grew hg2 hHw hlowH) hlt, HL.out]
            have hnote := noteR_long (B := B1) (r := n.drop k) HR1.out hdn
            obtain ⟨R2, hR2⟩ : ∃ R2, R2 = noteR B1 R1 (n.drop k) := ⟨_, rfl⟩
            rw [← hR2] at hw2 hnote
            obtain ⟨hno1, hno2⟩ := hnote
            have HNO := Lib.hid hno1
            have HN := Lib.hid (rnum_any base wc Gq g vB2 vR2 B1 R2 (l.length : Int) 1 hw2 (by omega) (by omega))
            rw [putL_len B1 (by omega)] at HN
            have HG2 := Lib.hid hg2
            have HO2 := Lib.hid ho2
            have HRR := Lib.hid hR2
            clear hw2 hg2 ho2 hno1 hR2
            go_wp2_with fail
            refine HN.out.mono ?_
            rintro e w3 ⟨rfl, Gs, vB3, vR3, hw3, hg3, ho3⟩
            have HG3 := Lib.hid (HG2.out.trans hg3 HO2.out)
            have HO3 := Lib.hid (fun j hj => (ho3 j hj).elim (HO2.out j) (fun h => Or.inr (Nat.le_trans HG2.out.size h)))
            have HW3 := Lib.hid hw3
            have c3 : w3.cell? ⟨bA, oA + k, none⟩ = some (.string ⟨l.toArray⟩) := by rw [Row.cell_at (HA.out.grew HG3.out hHw hlowH) hlt, HL.out]
            clear hw3 hg3 ho3
            go_wp2_with (
              refine wpList_bytes rfl (.tmp 65) _ _ 5 rfl Try.underlying9 Try.underlying28 Try.underlying5 l rfl ?_
              intro C w4 hC hmk hb4 hs4)
            have hrow4 := hmk.row.take l.length
            rw [List.take_left' (by simp)] at hrow4
            have HRW := Lib.hid (rraw_any base w4 Gs g vB3 vR3 (B1 ++ [UInt8.ofNat l.length]) R2 _ l.length C l (HW3.out.below hb4) rfl hrow4 (by simp; omega))
            have HG4 := Lib.hid (HG3.out.then_below hb4)
            clear hrow4 hmk hC hs4 hb4
            refine HRW.out.mono ?_
            rintro e w5 ⟨rfl, Gt, vB5, vR5, hw5, hg5, ho5⟩
            have HW5 := Lib.hid hw5
            have HG5 := Lib.hid (HG4.out.trans hg5 HO3.out)
            have HO5 := Lib.hid (fun j hj => (ho5 j hj).elim (HO3.out j) (fun h => Or.inr (Nat.le_trans HG4.out.size h)))
            clear hw5 hg5 ho5
            go_wp2
            refine ⟨⟨k + 1, (B1 ++ [UInt8.ofNat l.length]) ++ l, R2, by omega, by go_num, ⟨Gt, vB5, vR5, HW5.out, HG5.out, HO5.out⟩, ?_, ?_, by omega, HNO.out⟩, by simp [intOf]; omega⟩
            · rw [HNW.out, HDK.out, HHF.out, HRR.out, noteR, HDK.out, List.append_assoc, List.singleton_append]
            · simp only [List.length_append, List.length_cons, List.length_nil]; omega
    · obtain rfl : k = n.length := by omega
      have HN := Lib.hid (rnum_any base wr Gp g (.slice AB B1.length cB) vR1 B1 R1 0 1 HW1.out (by omega) (by omega))
      rw [show putL B1 0 1 = B1 ++ [0] from putL_len B1 (k := 0) (by omega)] at HN
      clear hrowA
      go_wp2_with fail
      refine HN.out.mono ?_
      rintro e w2 ⟨rfl, hp⟩
      have HP := Lib.hid (RPenned.then HG1.out HO1.out hp)
      clear hp
      go_wp2
      go_end0
      refine ⟨rfl, ?_⟩
      rw [HNW.out, List.drop_length, nameW_nil]
      exact HP.out

end Go.Proofs.Ytjkjhpaeckkpjaa

namespace Go.Proofs.Ytjkjhpaeckkpjaa
open Go.RowKit

structure Pair (w : World) (base g1 : Nat) (vB1 vM1 : Value) (B1 : List UInt8) (R1 : Rs) (Fp : Nat → Prop) (g2 : Nat) (vB2 vR2 : Value) (B2 : List UInt8) (R2 : Rs) : Prop where
  w1 : Wr w base g1 vB1 vM1 B1 R1
  w2 : RWr w base Fp g2 vB2 vR2 B2 R2
  d : ∀ j, ownF g1 vB1 vM1 j → ¬ Fp j

section
variable {w w' : World} {base g1 : Nat} {vB1 vM1 : Value} {B1 : List UInt8} {R1 : Rs} {Fp : Nat → Prop} {g2 : Nat} {vB2 vR2 : Value} {B2 : List UInt8} {R2 : Rs}
theorem Pair.below (h : Pair w base g1 vB1 vM1 B1 R1 Fp g2 vB2 vR2 B2 R2) (hb : Below w.heap.size w w') : Pair w' base g1 vB1 vM1 B1 R1 Fp g2 vB2 vR2 B2 R2 :=
  ⟨h.w1.below hb, h.w2.below hb, h.d⟩
/-- The program's Writer has gone on. -/
theorem Pair.pen1 (h : Pair w base g1 vB1 vM1 B1 R1 Fp g2 vB2 vR2 B2 R2) {B : List UInt8} {R : Rs} (hp : Penned base w g1 vB1 vM1 B R w') :
    ∃ vB vM, Pair w' base g1 vB vM B R Fp g2 vB2 vR2 B2 R2 ∧ Below base w w' := by
  have hbel := hp.below h.w1
  obtain ⟨vB, vM, h1, hg, hf⟩ := hp
  refine ⟨vB, vM, ⟨h1, h.w2.grew hg fun j hj h1 => h.d j h1 hj, fun j hj h2 => ?_⟩, hbel⟩
  rcases hf j hj with h3 | h3
  · exact h.d j h3 h2
  · have := (h.w2.low j h2).2; omega
/-- The document's Writer has gone on. -/
theorem Pair.pen2 (h : Pair w base g1 vB1 vM1 B1 R1 Fp g2 vB2 vR2 B2 R2) {B : List UInt8} {R : Rs} (hp : RPenned base w Fp g2 B R w') :
    ∃ Gp vB vR, Pair w' base g1 vB1 vM1 B1 R1 Gp g2 vB vR B R ∧ Below base w w' := by
  obtain ⟨Gp, vB, vR, h1, hg, hf⟩ := hp
  refine ⟨Gp, vB, vR, ⟨h.w1.grew hg h.d, h1, fun j hj h2 => ?_⟩, hg.below (fun j hj => (h.w2.low j hj).1) h.w2.size⟩
  rcases hf j h2 with h3 | h3
  · exact h.d j hj h3
  · have := (h.w1.own hj).2; omega
/-- Both are new. -/
theorem Pair.new {b0 : Nat} (h : Wr w b0 g1 (.slice none 0 0) (.map none) [] []) :
    Pair (w.alloc (.cells #[.slice none 0 0, .slice none 0 0] 94)) b0 g1 (.slice none 0 0) (.map none) [] [] (fun j => j = w.heap.size) w.heap.size (.slice none 0 0) (.slice none 0 0) [] [] := by
  refine ⟨h.alloc _, ⟨heap_alloc_new w _, rfl, World.ownsRow_nil _ _ _ _, fun j hj => by simp [Value.ownBlock] at hj, ⟨[], rfl, World.ownsRow_nil _ _ _ _, fun j hj => by simp [Value.ownBlock] at hj, fun i hi => absurd hi (Nat.not_lt_zero _)⟩, fun j hj => ?_⟩, fun j hj e => ?_⟩
  · subst hj
    exact ⟨h.size, by simp⟩
  · subst e
    have := (h.own hj).2
    omega
end

theorem nameW_kept (short : Bool) : ∀ (n : List (List UInt8)) (B : List UInt8) (R : Rs), (∀ x ∈ R, x.2 < 16384 ∧ x.1.length ≤ 1000) → n.length ≤ 1000 → ∀ x ∈ (nameW short n B R).2, x.2 < 16384 ∧ x.1.length ≤ 1000
  | [], B, R, h, _ => by rw [nameW_nil]; exact h
  | l :: n, B, R, h, hn => by
    cases hf : hitB R (l :: n) short with
    | true =>
      obtain ⟨hs, a, ha⟩ : short = true ∧ ∃ a, findR R (l :: n) = some a := by
        unfold hitB at hf
        cases h1 : findR R (l :: n) with
        | none => simp [h1] at hf
        | some a => exact ⟨by simpa [h1] using hf, a, rfl⟩
      subst hs
      rw [nameW_hit ha]
      exact h
    | false =>
      rw [nameW_nohit hf]
      refine nameW_kept short n _ _ ?_ (by simp only [List.length_cons] at hn; omega)
      have := (noteR_long (B := B) (r := l :: n) h hn).1
      rw [noteR] at this
      exact this

theorem putL_app (B : List UInt8) (n s : Int) : putL B n s = B ++ putL [] n s := by
  unfold putL
  split <;> simp
theorem putL_le7 (n s : Int) : (putL [] n s).length ≤ 7 := by
  unfold putL
  split
  · rename_i hf
    simp only [fitB, decide_eq_true_eq] at hf
    simp [length_digs]
    omega
  · simp

end Go.Proofs.Ytjkjhpaeckkpjaa
