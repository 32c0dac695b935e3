/-
  SectorBack: what was sealed is told by it, whole.
-/
import Derived.Test.YtbojdhhgholgjaaDoorJSealsLaw
import Derived.Test.YtbojdhhgholgjaaDoorJOpen
namespace Go.Proofs.YtbojdhhgholgjaaDoor
open Go.RowKit

theorem sealE_cases (x : SH) (l : List UInt8) : (sealE x l.length = 0 ∧ headB x = true ∧ l.length ≤ 496) ∨ (sealE x l.length ≠ 0 ∧ sealB x l = []) := by
  cases hb : headB x with
  | false => exact .inr ⟨by rw [sealE_head hb]; decide, sealB_head hb⟩
  | true =>
    by_cases hn : l.length ≤ 496
    · exact .inl ⟨sealE_ok hb hn, rfl, hn⟩
    · exact .inr ⟨by rw [sealE_large hb (by omega)]; decide, sealB_large (by omega)⟩
def BackRel (g c : Nat) (w : World) (i : Value) (wr : World) : Prop :=
  ∃ k : Nat, k ≤ 512 ∧ i = .int .i64 k ∧ Grew (fun j => j = g) w wr ∧ ∃ xs : List Value, wr.ownsRow 0 5 1 (.slice (some ⟨g, 0, none⟩) 512 c) 512 xs

set_option maxHeartbeats 400000 in
theorem back_long (x : SH) (A : Option Addr) (m c : Nat) (w : World) (hs : SizesAt w) (hm : m ≤ maxLen) (h : 5000 < m) :
    Calls Tryd.prog 5 #[x.val, .slice A m c] w (TrueB w) := by
  unfold maxLen at hm
  have hd : decide ((5000 : Int) < (m : Int)) = true := by simp; omega
  have HS := Lib.hid (hs.alloc (.cells x.cells.toArray 23))
  clear hs
  unfold SH.val
  go_enter Tryd.func5, Tryd.ntmps5
  go_wp2_with fail
  refine (answers_any _ HS.out).mono ?_
  rintro e w1 ⟨rfl, hb1⟩
  have HB1 := Lib.hid (((Below.refl w.heap.size w).alloc (Nat.le_refl _) (.cells x.cells.toArray 23)).trans (hb1.mono (by simp)))
  have HS1 := Lib.hid (HS.out.next hb1)
  clear hb1
  go_wp2_with fail
  refine (answers_any _ HS1.out).mono ?_
  rintro e w2 ⟨rfl, hb2⟩
  have HB2 := Lib.hid (HB1.out.trans (hb2.mono HB1.out.size))
  clear hb2
  go_wp2
  go_ret
  exact ⟨rfl, HB2.out⟩

set_option maxHeartbeats 1000000 in
set_option maxRecDepth 4000 in
theorem back_short (x : SH) (A : Option Addr) (m c : Nat) (l : List UInt8) (w : World) (hs : SizesAt w) (hx : x.Wide) (hl : l.length = m) (hA : Row w w.heap.size A (l.map bc)) (h : m ≤ 5000) :
    Calls Tryd.prog 5 #[x.val, .slice A m c] w (TrueB w) := by
  have hd : decide ((5000 : Int) < (m : Int)) = false := by simp; omega
  have HS := Lib.hid (hs.alloc (.cells x.cells.toArray 23))
  have HW := Lib.hid (Whole.made w x.cells 23)
  have HL := Lib.hid hl
  have HA := Lib.hid hA
  have HX := Lib.hid hx
  obtain ⟨i0, hi0, hz0, hz1, hz2⟩ := info_parts u8_info
  clear hs hl hA hx
  unfold SH.val
  go_enter Tryd.func5, Tryd.ntmps5
  go_wp2_with fail
  refine (answers_any _ HS.out).mono ?_
  rintro e W1 ⟨rfl, hb1⟩
  have hB1 := ((Below.refl w.heap.size w).alloc (Nat.le_refl _) (.cells x.cells.toArray 23)).trans (hb1.mono (by simp))
  have hW1 := HW.out.below hb1 HW.out.lt
  have HS1 := Lib.hid (HS.out.next hb1)
  have HA1 := Lib.hid (HA.out.below hB1)
  have HB1 := Lib.hid hB1
  have HW1 := Lib.hid hW1
  have hzW := hB1.size
  have hltW := hW1.lt
  have c0 : W1.cell? ⟨w.heap.size, 0, none⟩ = some (.int .i64 x.kind) := hW1.cell 0
  have c1 : W1.cell? ⟨w.heap.size, 1, none⟩ = some (.int .i64 x.epoch) := hW1.cell 1
  have c2 : W1.cell? ⟨w.heap.size, 2, none⟩ = some (.int .i64 x.seq) := hW1.cell 2
  have c3 : W1.cell? ⟨w.heap.size, 3, none⟩ = some (.int .i64 x.part) := hW1.cell 3
  have c4 : W1.cell? ⟨w.heap.size, 4, none⟩ = some (.int .i64 x.parts) := hW1.cell 4
  clear hb1 hB1 hW1
  go_wp2
  go_region_held3 (fun X => X.cell? ⟨w.heap.size, 0, none⟩ = some (.int .i64 x.kind) ∧ X.cell? ⟨w.heap.size, 1, none⟩ = some (.int .i64 x.epoch) ∧ X.cell? ⟨w.heap.size, 2, none⟩ = some (.int .i64 x.seq) ∧ X.cell? ⟨w.heap.size, 3, none⟩ = some (.int .i64 x.part) ∧ X.cell? ⟨w.heap.size, 4, none⟩ = some (.int .i64 x.parts))
    (go_keep)
    ((first
      | (refine step_append_any (o := ⟨some 23, _, _, _, _, _⟩) rfl (.tmp 21) (.tmp 22) _ rfl W1.heap.size 5 i0 _ 1 1 Tryd.underlying24 hi0 hz0 hz1 hz2 rfl (by omega) (.slice (some ⟨W1.heap.size, 0, none⟩) 0 0) 0 [] ?hx0 ?hx1 A m c w.heap.size (l.map bc) ?hx2 (by rw [List.length_map, HL.out, Nat.mul_one]) ?hx3 (bc_one _) (by unfold maxLen; omega) (by omega) ?hx4 ?_
         case hx0 => rfl
         case hx1 => exact (own_lit W1 5 1).drew
         case hx2 => rfl
         case hx3 => exact (HA1.out.alloc hzW _).drew
         case hx4 => simp
         intro v2 w2 hown2 hg2
         simp only [Nat.zero_add, List.nil_append] at hown2
         obtain ⟨A2, c2', rfl, hc1, hc2⟩ := own_form hown2
         have HO2 := Lib.hid hown2
         have hb2 := own_below ((Below.refl W1.heap.size W1).alloc (Nat.le_refl _) _).drew (Nat.le_refl _) (by simp) (own_lit W1 5 1).drew hg2
         have HB2 := Lib.hid hb2
         have h2 := HW1.out.below hb2 HW1.out.lt
         have HW2 := Lib.hid h2
         have k0 : w2.cell? ⟨w.heap.size, 0, none⟩ = some (.int .i64 x.kind) := h2.cell 0
         have k1 : w2.cell? ⟨w.heap.size, 1, none⟩ = some (.int .i64 x.epoch) := h2.cell 1
         have k2 : w2.cell? ⟨w.heap.size, 2, none⟩ = some (.int .i64 x.seq) := h2.cell 2
         have k3 : w2.cell? ⟨w.heap.size, 3, none⟩ = some (.int .i64 x.part) := h2.cell 3
         have k4 : w2.cell? ⟨w.heap.size, 4, none⟩ = some (.int .i64 x.parts) := h2.cell 4
         have hz2 := hb2.size
         clear hown2 hg2 hb2 h2)
      | (go_at_call 8
         refine (seal_any A2 c2' m x l w2 HL.out (Row.of_own HO2.out) (HS1.out.next HB2.out) hc1 (by unfold maxLen; omega)).mono ?_
         rintro e w3 ⟨v3, rfl, hown3, hb3⟩
         have HO3 := Lib.hid hown3
         have hb3' := HB2.out.trans (hb3.mono hz2)
         have HB3 := Lib.hid (HB1.out.trans (hb3'.mono hzW))
         have h3 := HW1.out.below hb3' HW1.out.lt
         have q0 : w3.cell? ⟨w.heap.size, 0, none⟩ = some (.int .i64 x.kind) := h3.cell 0
         have q1 : w3.cell? ⟨w.heap.size, 1, none⟩ = some (.int .i64 x.epoch) := h3.cell 1
         have q2 : w3.cell? ⟨w.heap.size, 2, none⟩ = some (.int .i64 x.seq) := h3.cell 2
         have q3 : w3.cell? ⟨w.heap.size, 3, none⟩ = some (.int .i64 x.part) := h3.cell 3
         have q4 : w3.cell? ⟨w.heap.size, 4, none⟩ = some (.int .i64 x.parts) := h3.cell 4
         have HA3 := Lib.hid (HA1.out.below (hb3'.mono hzW))
         have hz3 := hb3'.size
         have HW3 := Lib.hid h3
         have HS3 := Lib.hid (HS1.out.next hb3')
         clear hown3 hb3 hb3' h3)))
  rcases sealE_cases x l with ⟨he, hb, hn⟩ | ⟨he, hbn⟩
  · have HO := Lib.hid (open_seal hb hn)
    have hlen := length_sealB hb hn
    obtain ⟨A3, c3', rfl, hc3, hc4⟩ := own_form HO3.out
    rw [hlen] at HO3 hc3 ⊢
    rw [he]
    clear he hb hn hc4
    have hz3' := Nat.le_trans hzW hz3
    obtain ⟨sb, hsb⟩ : ∃ sb, sealB x l = sb := ⟨_, rfl⟩
    rw [hsb] at HO HO3 hlen
    have HLEN := Lib.hid hlen
    clear hsb hlen
    obtain ⟨g, rfl⟩ := own_some HO3.out (by decide)
    go_wp2_with fail
    refine (open_any (some ⟨g, 0, none⟩) 512 c3' sb w3 HLEN.out (Row.of_own HO3.out) hc3 HS3.out).mono ?_
    rintro e w4 ⟨v4, rfl, hown4, hb4⟩
    rw [HO.out.2.2] at hown4
    rw [HO.out.1, HO.out.2.1]
    obtain ⟨A4, c4', rfl, hc5, hc6⟩ := own_form hown4
    have HO4 := Lib.hid hown4
    have HB4 := Lib.hid (HB3.out.trans (hb4.mono hz3'))
    have HO34 := Lib.hid (own_keep HO3.out (fun j hg => hb4.block j (HO3.out.lt j hg).2))
    have hgl := (HO3.out.lt g rfl).2
    have hW4 := HW3.out.below hb4 HW3.out.lt
    have c4b := hb4.size
    have hltw : w.heap.size < w4.heap.size := Nat.lt_of_lt_of_le HW3.out.lt c4b
    have HW4 := Lib.hid hW4
    clear hown4 hb4 hW4 hc5 hc6
    unfold SH.val
    go_wp2
    have hW5 := Whole.made w4 x.cells 23
    have HW5 := Lib.hid hW5
    have HO5 := Lib.hid (HO34.out.alloc (.cells x.cells.toArray 23))
    clear hW5
    go_loopw [10] (BackRel g c3' (w4.alloc (.cells x.cells.toArray 23))) (fun i _ => 512 - (intOf i).toNat)
    case atStart => exact ⟨0, by omega, rfl, Grew.refl _ _, _, own_mono HO5.out (Nat.zero_le _)⟩
    case round =>
      obtain ⟨k, hk, rfl, hgr, xs, hown⟩ := hrel
      have HG := Lib.hid hgr
      have HOr := Lib.hid hown
      clear hgr
      by_cases hlt : k < 512
      · have hxl : xs.length = 512 := by have := hown.1; simpa using this
        have hcel : wr.cell? ⟨g, k, none⟩ = some (xs[k]'(by omega)) := (hown.cellAt k (by omega)).trans (List.getElem?_eq_getElem _)
        have hfr := hown.frozenAt k
        clear hown
        go_wp2
        exact ⟨⟨k + 1, by omega, by go_num, HG.out.setCell (a := ⟨g, k, none⟩) (.inl rfl) _, _, (HOr.out.stored k _).1⟩, by simp [intOf]; omega⟩
      · obtain rfl : k = 512 := by omega
        clear hown
        have hgw := (HO3.out.lt g rfl).1
        have hne1 : w.heap.size ≠ g := by omega
        have hne2 : w4.heap.size ≠ g := by omega
        have hh1 := (HW4.out.alloc (.cells x.cells.toArray 23)).grew HG.out hne1
        have hh2 := HW5.out.grew HG.out hne2
        have a0 : wr.cell? ⟨w.heap.size, 0, none⟩ = some (.int .i64 x.kind) := hh1.cell 0
        have b0 : wr.cell? ⟨w4.heap.size, 0, none⟩ = some (.int .i64 x.kind) := hh2.cell 0
        have e0 : (x.kind == x.kind) = true := by simp
        have a1 : wr.cell? ⟨w.heap.size, 1, none⟩ = some (.int .i64 x.epoch) := hh1.cell 1
        have b1 : wr.cell? ⟨w4.heap.size, 1, none⟩ = some (.int .i64 x.epoch) := hh2.cell 1
        have e1 : (x.epoch == x.epoch) = true := by simp
        have a2 : wr.cell? ⟨w.heap.size, 2, none⟩ = some (.int .i64 x.seq) := hh1.cell 2
        have b2 : wr.cell? ⟨w4.heap.size, 2, none⟩ = some (.int .i64 x.seq) := hh2.cell 2
        have e2 : (x.seq == x.seq) = true := by simp
        have a3 : wr.cell? ⟨w.heap.size, 3, none⟩ = some (.int .i64 x.part) := hh1.cell 3
        have b3 : wr.cell? ⟨w4.heap.size, 3, none⟩ = some (.int .i64 x.part) := hh2.cell 3
        have e3 : (x.part == x.part) = true := by simp
        have a4 : wr.cell? ⟨w.heap.size, 4, none⟩ = some (.int .i64 x.parts) := hh1.cell 4
        have b4 : wr.cell? ⟨w4.heap.size, 4, none⟩ = some (.int .i64 x.parts) := hh2.cell 4
        have e4 : (x.parts == x.parts) = true := by simp
        have HBr := Lib.hid ((HB4.out.alloc (Nat.le_of_lt hltw) (.cells x.cells.toArray 23)).trans (HG.out.below (B := w.heap.size) (fun j hj => by omega) (by simp; omega)))
        have HAr := Lib.hid (HA.out.below HBr.out)
        have HRr := Lib.hid (Row.of_own (own_grew (HO4.out.alloc (.cells x.cells.toArray 23)) HG.out (fun j hj e => by have := (HO4.out.lt j hj).1; omega)))
        have hzr := HBr.out.size
        clear hh1 hh2 hgw hne1 hne2
        go_wp2_with fail
        refine (same_yes A4 A l.length m c4' c wr.heap.size l wr rfl HL.out HRr.out (HAr.out.mono hzr) (by unfold maxLen; have := HL.out; omega)).mono ?_
        rintro e w6 ⟨rfl, k6, rfl⟩
        go_wp2
        go_ret
        exact ⟨rfl, below_drewN' HBr.out _⟩
  · have hl0 : (sealB x l).length = 0 := by rw [hbn]; rfl
    obtain ⟨A3, c3', rfl, hc3, hc4⟩ := own_form HO3.out
    rw [hl0]
    have hne : (sealE x l.length != 0) = true := by rw [bne_iff_ne]; exact he
    obtain ⟨se, hse⟩ : ∃ se, sealE x l.length = se := ⟨_, rfl⟩
    rw [hse] at hne ⊢
    clear he hse hl0 hbn hc3 hc4
    go_wp2
    go_ret
    exact ⟨rfl, HB3.out⟩

theorem back_any (x : SH) (A : Option Addr) (m c : Nat) (l : List UInt8) (w : World) (hs : SizesAt w)
    (hx : (Lit.int .i64 x.kind).wf = true ∧ (Lit.int .i64 x.epoch).wf = true ∧ (Lit.int .i64 x.seq).wf = true ∧ (Lit.int .i64 x.part).wf = true ∧ (Lit.int .i64 x.parts).wf = true) (hl : l.length = m) (hA : Row w w.heap.size A (l.map bc)) (_ : m ≤ c) (hm : m ≤ maxLen) :
    Calls Tryd.prog 5 #[x.val, .slice A m c] w (TrueB w) := by
  by_cases h5 : m ≤ 5000
  · exact back_short x A m c l w hs (head_wide hx) hl hA h5
  · exact back_long x A m c w hs hm (by omega)

end Go.Proofs.YtbojdhhgholgjaaDoor
