/-
  The contract of the document's Open: what was made by Seal.
-/
import Derived.Test.YtbojdhhgholgjaaDoorJRefOpen
import Derived.Test.YtbojdhhgholgjaaDoorStepA
import Derived.IntWalk
namespace Go.Proofs.YtbojdhhgholgjaaDoor
open Go.RowKit

/-- Is all from place a on nought, k bytes of it? -/
def zeroTo (l : List UInt8) (a k : Nat) : Bool := ((l.drop a).take k).all (· == 0)
theorem zeroTo_succ {l : List UInt8} {a p : Nat} (ha : a ≤ p) (hp : p < l.length) : zeroTo l a (p + 1 - a) = (zeroTo l a (p - a) && (l[p] == 0)) := by
  unfold zeroTo
  have e : p + 1 - a = (p - a) + 1 := by omega
  have hlen : p - a < (l.drop a).length := by simp; omega
  have e2 : (l.drop a)[p - a] = l[p] := by simp [show a + (p - a) = p by omega]
  rw [e, List.take_succ_eq_append_getElem hlen, List.all_append, e2]
  simp
theorem zeroTo_rest {l : List UInt8} {n : Nat} (hl : l.length = 512) : zeroTo l (16 + n) (512 - (16 + n)) = restB l n := by
  unfold zeroTo restB
  rw [List.take_of_length_le (by simp; omega)]
theorem rest_no {l : List UInt8} {n p : Nat} (hp : 16 + n ≤ p) (hlt : p < l.length) (hx : l[p] ≠ 0) : restB l n = false := by
  unfold restB
  rw [List.all_eq_false]
  refine ⟨l[p], ?_, by simpa using hx⟩
  rw [List.mem_iff_getElem]
  exact ⟨p - (16 + n), by simp; omega, by simp [show 16 + n + (p - (16 + n)) = p by omega]⟩
theorem made_rest {l : List UInt8} {hd : SH} {cn : Nat} (h1 : readH l = hd) (h2 : readC l = cn) (d1 : decide ((496 : Int) < (cn : Int)) = false) (z0 : (hd.kind == 0) = false) (z1 : (hd.parts == 0) = false) (z2 : decide (hd.parts ≤ hd.part) = false) :
    madeB l = restB l cn := by
  have e1 : decide (cn ≤ 496) = true := by simp at d1; simp; omega
  have e2 : decide (hd.part < hd.parts) = true := by simp at z2; simp; omega
  unfold madeB
  rw [h1, h2, e1, z0, z1, e2]
  rfl
def ROpenRel (l : List UInt8) (cn : Nat) (i : Value) : Prop := ∃ p : Nat, 16 + cn ≤ p ∧ p ≤ 512 ∧ i = .int .i64 p ∧ zeroTo l (16 + cn) (p - (16 + cn)) = true

set_option maxHeartbeats 2000000 in
set_option maxRecDepth 4000 in
theorem refopen_good (A : Option Addr) (c : Nat) (l : List UInt8) (w : World) (hd : SH) (cn : Nat) (K : OpenKnow l hd cn A c w) (hA : Row w w.heap.size A (l.map bc)) (hc : 512 ≤ c)
    (d1 : decide ((496 : Int) < (cn : Int)) = false) (z0 : (hd.kind == 0) = false) (z1 : (hd.parts == 0) = false) (z2 : decide (hd.parts ≤ hd.part) = false) :
    Calls Tryd.prog 12 #[.slice A 512 c] w (OpenOut w l) := by
  have hmr := made_rest K.hd_ K.cn_ d1 z0 z1 z2
  obtain ⟨b, off, rfl, hbw, hcell⟩ := hA.some_ (by rw [List.length_map, K.len]; decide)
  have hcn : cn ≤ 496 := by simp at d1; omega
  have HMR := Lib.hid hmr
  have HCELL := Lib.hid hcell
  have HA := Lib.hid hA
  have HBW := Lib.hid hbw
  obtain ⟨i0, hi0, hz0, hz1, hz2⟩ := info_parts u8_info
  clear hmr hcell hA hbw
  go_enter Tryd.func12, Tryd.ntmps12
  go_wp2_with fail
  refine (K.r0 [.int .i64 0, .int .i64 0, .int .i64 0, .int .i64 0, .int .i64 0] [.int .i64 0, .int .i64 0, .int .i64 0, .int .i64 0, .int .i64 0]).mono ?_
  rintro e w' ⟨rfl, rfl⟩
  go_wp2_with fail
  refine (K.r1 [.int .i64 0, .int .i64 0, .int .i64 0, .int .i64 0, .int .i64 0] [.int .i64 hd.kind, .int .i64 0, .int .i64 0, .int .i64 0, .int .i64 0]).mono ?_
  rintro e w' ⟨rfl, rfl⟩
  go_wp2_with fail
  refine (K.r2 [.int .i64 0, .int .i64 0, .int .i64 0, .int .i64 0, .int .i64 0] [.int .i64 hd.kind, .int .i64 hd.epoch, .int .i64 0, .int .i64 0, .int .i64 0]).mono ?_
  rintro e w' ⟨rfl, rfl⟩
  go_wp2_with fail
  refine (K.r3 [.int .i64 0, .int .i64 0, .int .i64 0, .int .i64 0, .int .i64 0] [.int .i64 hd.kind, .int .i64 hd.epoch, .int .i64 hd.seq, .int .i64 0, .int .i64 0]).mono ?_
  rintro e w' ⟨rfl, rfl⟩
  go_wp2_with fail
  refine (K.r4 [.int .i64 0, .int .i64 0, .int .i64 0, .int .i64 0, .int .i64 0] [.int .i64 hd.kind, .int .i64 hd.epoch, .int .i64 hd.seq, .int .i64 hd.part, .int .i64 0]).mono ?_
  rintro e w' ⟨rfl, rfl⟩
  go_wp2_with fail
  refine (K.r5 [.int .i64 0, .int .i64 0, .int .i64 0, .int .i64 0, .int .i64 0] [.int .i64 hd.kind, .int .i64 hd.epoch, .int .i64 hd.seq, .int .i64 hd.part, .int .i64 hd.parts]).mono ?_
  rintro e w' ⟨rfl, rfl⟩
  go_wp2
  go_loop [9] (ROpenRel l cn) (fun i => 512 - (intOf i).toNat)
  case atStart => exact ⟨16 + cn, Nat.le_refl _, by omega, by go_num, by rw [Nat.sub_self]; rfl⟩
  case round =>
    obtain ⟨p, hp1, hp2, rfl, hzt⟩ := hrel
    have HZ := Lib.hid hzt
    clear hzt
    by_cases hlt : p < 512
    · have hpl : p < l.length := by rw [K.len]; exact hlt
      have hcel : w.cell? ⟨b, off + p, none⟩ = some (.int .u8 (l[p].toNat : Int)) := by
        rw [HCELL.out p (bc l[p]) (by rw [List.getElem?_map, List.getElem?_eq_getElem hpl]; rfl)]; rfl
      have hbw := HBW.out
      have hbw1 : b < w.heap.size + 1 := by omega
      have hbw2 : b < w.heap.size + 1 + 1 := by omega
      by_cases hx : l[p] = 0
      · have hne : ((l[p].toNat : Int) != 0) = false := by rw [hx]; rfl
        have HS := Lib.hid (show zeroTo l (16 + cn) (p + 1 - (16 + cn)) = true by rw [zeroTo_succ hp1 hpl, HZ.out, hx]; rfl)
        clear hx
        go_wp2
        go_round
        case rel => exact ⟨p + 1, by omega, by omega, by go_num, HS.out⟩
        case measure => simp [intOf]; omega
      · have hne : ((l[p].toNat : Int) != 0) = true := by
          rw [bne_iff_ne]; intro e; exact hx (UInt8.toNat.inj (by show l[p].toNat = 0; omega))
        have he := openE_bad K.len (show madeB l = false by rw [HMR.out]; exact rest_no hp1 hpl hx)
        have HH := Lib.hid (openH_no (l := l) (by rw [he]; decide))
        have HB := Lib.hid (openB_no (l := l) (by rw [he]; decide))
        have HE := Lib.hid he
        clear he hx
        go_wp2
        exact bodyPost_ret (v := .tuple #[hzero.val, .slice none 0 0, .int .i64 14]) (by simp [results, Tryd.results12, go_sem, SH.val, hzero]) rfl
          ⟨.slice none 0 0, by rw [HE.out, HH.out], by rw [HB.out]; exact World.ownsRow_nil _ _ _ _, (((Below.refl _ _).alloc (Nat.le_refl _) _).alloc (by simp) _).alloc (by simp; omega) _⟩
    · obtain rfl : p = 512 := by omega
      have hm : madeB l = true := by rw [HMR.out, ← zeroTo_rest K.len]; exact HZ.out
      have he := openE_ok K.len hm
      have HH := Lib.hid (openH_ok he)
      have HB := Lib.hid (openB_ok he)
      have HE := Lib.hid he
      clear he hm
      have HLX := Lib.hid (show ((l.drop 16).take cn).length = cn by simp [K.len]; omega)
      obtain ⟨x, hx⟩ : ∃ x, (l.drop 16).take cn = x := ⟨_, rfl⟩
      rw [hx] at HLX
      have HX := Lib.hid hx
      have HC16 := Lib.hid (show ¬ c = 16 by omega)
      clear hx
      obtain ⟨W1, hW1⟩ : ∃ W1, W1 = ((w.alloc (.cells #[.int .i64 0, .int .i64 0, .int .i64 0, .int .i64 0, .int .i64 0] 36)).alloc (.cells #[.int .i64 hd.kind, .int .i64 hd.epoch, .int .i64 hd.seq, .int .i64 hd.part, .int .i64 hd.parts] 36)).alloc (.cells #[.int .i64 0, .int .i64 0, .int .i64 0, .int .i64 0, .int .i64 0] 36) := ⟨_, rfl⟩
      have hb1 : Below w.heap.size w W1 := by rw [hW1]; exact (((Below.refl _ _).alloc (Nat.le_refl _) _).alloc (by simp) _).alloc (by simp; omega) _
      have h2 : Whole W1 w.heap.size 36 hzero.cells := by rw [hW1]; exact ((Whole.made w hzero.cells _).alloc _).alloc _
      have h5 : Whole W1 (w.heap.size + 1) 36 hd.cells := by
        have h := (Whole.made (w.alloc (.cells hzero.cells.toArray 36)) hd.cells 36).alloc (.cells hzero.cells.toArray 36)
        rw [show (w.alloc (.cells hzero.cells.toArray 36)).heap.size = w.heap.size + 1 by simp] at h
        rw [hW1]; exact h
      have hrx := ((HA.out.below hb1).drop (k := 16) rfl).take cn
      rw [← List.map_drop, ← List.map_take, HX.out] at hrx
      have HRX := Lib.hid hrx
      have HB1 := Lib.hid hb1
      have H2 := Lib.hid h2
      have H5 := Lib.hid h5
      have hzW := hb1.size
      go_wp2
      rw [← hW1]
      clear hW1 hb1 h2 h5 hrx
      have c0 : W1.cell? ⟨w.heap.size + 1, 0, none⟩ = some (.int .i64 hd.kind) := H5.out.cell 0
      have c1 : W1.cell? ⟨w.heap.size + 1, 1, none⟩ = some (.int .i64 hd.epoch) := H5.out.cell 1
      have c2 : W1.cell? ⟨w.heap.size + 1, 2, none⟩ = some (.int .i64 hd.seq) := H5.out.cell 2
      have c3 : W1.cell? ⟨w.heap.size + 1, 3, none⟩ = some (.int .i64 hd.part) := H5.out.cell 3
      have c4 : W1.cell? ⟨w.heap.size + 1, 4, none⟩ = some (.int .i64 hd.parts) := H5.out.cell 4
      have hsum : IntKind.i64.wrap (16 + (cn : Int)) = 16 + (cn : Int) := IntWalk.i64_in _ (by omega)
      have hs2 : (16 + (cn : Int)).toNat = 16 + cn := by omega
      have hs3 : (16 : Int) ≤ 16 + (cn : Int) := by omega
      have hs4 : (16 : Int) + (cn : Int) ≤ (c : Int) := by omega
      have hs5 : (0 : Int) ≤ 16 + (cn : Int) := by omega
      go_region_held3 (fun X => X.cell? ⟨w.heap.size + 1, 0, none⟩ = some (.int .i64 hd.kind) ∧ X.cell? ⟨w.heap.size + 1, 1, none⟩ = some (.int .i64 hd.epoch) ∧ X.cell? ⟨w.heap.size + 1, 2, none⟩ = some (.int .i64 hd.seq) ∧ X.cell? ⟨w.heap.size + 1, 3, none⟩ = some (.int .i64 hd.part) ∧ X.cell? ⟨w.heap.size + 1, 4, none⟩ = some (.int .i64 hd.parts))
        (go_keep)
        ((refine step_append_any (o := ⟨some 87, _, _, _, _, _⟩) rfl (.tmp 82) (.tmp 86) _ rfl W1.heap.size 5 i0 _ 1 1 Tryd.underlying24 hi0 hz0 hz1 hz2 rfl (by omega) (.slice (some ⟨W1.heap.size, 0, none⟩) 0 0) 0 [] ?hx0 ?hx1 (some ⟨b, off + 16, none⟩) cn (c - 16) w.heap.size (x.map bc) ?hx2 (by rw [List.length_map, HLX.out, Nat.mul_one]) ?hx3 (bc_one _) (by unfold maxLen; omega) (by omega) ?hx4 ?_
          case hx0 => rfl
          case hx1 => exact (own_lit W1 5 1).drew
          case hx2 => exact congrArg (fun z => Value.slice z cn (c - 16)) (if_neg HC16.out)
          case hx3 => exact (HRX.out.alloc hzW _).drew
          case hx4 => simp
          intro v1 w1 hown1 hg1
          simp only [Nat.zero_add, List.nil_append] at hown1
          have HO1 := Lib.hid hown1
          have hb1 := own_below ((Below.refl W1.heap.size W1).alloc (Nat.le_refl _) _).drew (Nat.le_refl _) (by simp) (own_lit W1 5 1).drew hg1
          have HB1b := Lib.hid hb1
          have h2a := H2.out.below hb1 H2.out.lt
          have h5a := H5.out.below hb1 H5.out.lt
          have H2A := Lib.hid h2a
          have k0 : w1.cell? ⟨w.heap.size + 1, 0, none⟩ = some (.int .i64 hd.kind) := h5a.cell 0
          have k1 : w1.cell? ⟨w.heap.size + 1, 1, none⟩ = some (.int .i64 hd.epoch) := h5a.cell 1
          have k2 : w1.cell? ⟨w.heap.size + 1, 2, none⟩ = some (.int .i64 hd.seq) := h5a.cell 2
          have k3 : w1.cell? ⟨w.heap.size + 1, 3, none⟩ = some (.int .i64 hd.part) := h5a.cell 3
          have k4 : w1.cell? ⟨w.heap.size + 1, 4, none⟩ = some (.int .i64 hd.parts) := h5a.cell 4
          have m0 : w1.cell? ⟨w.heap.size, 0, none⟩ = some (.int .i64 0) := h2a.cell 0
          have y0 : w1.frozen? ⟨w.heap.size, 0, none⟩ = false := h2a.frozen 0
          have m1 : w1.cell? ⟨w.heap.size, 1, none⟩ = some (.int .i64 0) := h2a.cell 1
          have y1 : w1.frozen? ⟨w.heap.size, 1, none⟩ = false := h2a.frozen 1
          have m2 : w1.cell? ⟨w.heap.size, 2, none⟩ = some (.int .i64 0) := h2a.cell 2
          have y2 : w1.frozen? ⟨w.heap.size, 2, none⟩ = false := h2a.frozen 2
          have m3 : w1.cell? ⟨w.heap.size, 3, none⟩ = some (.int .i64 0) := h2a.cell 3
          have y3 : w1.frozen? ⟨w.heap.size, 3, none⟩ = false := h2a.frozen 3
          have m4 : w1.cell? ⟨w.heap.size, 4, none⟩ = some (.int .i64 0) := h2a.cell 4
          have y4 : w1.frozen? ⟨w.heap.size, 4, none⟩ = false := h2a.frozen 4
          clear hown1 hg1 hb1 h2a h5a))
      go_wp2
      have hv := H2A.out.set_ 0 (.int .i64 hd.kind) |>.set_ 1 (.int .i64 hd.epoch) |>.set_ 2 (.int .i64 hd.seq) |>.set_ 3 (.int .i64 hd.part) |>.set_ 4 (.int .i64 hd.parts)
      have hgr : Grew (fun j => j = w.heap.size) w1 (((((w1.setCell ⟨w.heap.size, 0, none⟩ (.int .i64 hd.kind)).setCell ⟨w.heap.size, 1, none⟩ (.int .i64 hd.epoch)).setCell ⟨w.heap.size, 2, none⟩ (.int .i64 hd.seq)).setCell ⟨w.heap.size, 3, none⟩ (.int .i64 hd.part)).setCell ⟨w.heap.size, 4, none⟩ (.int .i64 hd.parts)) :=
        ((((Grew.setCell (F := fun j => j = w.heap.size) (Grew.refl _ w1) (a := ⟨w.heap.size, 0, none⟩) (.inl rfl) _).setCell (a := ⟨w.heap.size, 1, none⟩) (.inl rfl) _).setCell (a := ⟨w.heap.size, 2, none⟩) (.inl rfl) _).setCell (a := ⟨w.heap.size, 3, none⟩) (.inl rfl) _).setCell (a := ⟨w.heap.size, 4, none⟩) (.inl rfl) _
      have HGR := Lib.hid hgr
      have w0 := hv.cell 0
      have w1_ := hv.cell 1
      have w2 := hv.cell 2
      have w3 := hv.cell 3
      have w4 := hv.cell 4
      simp only [hzero, SH.cells, List.set_cons_zero, List.set_cons_succ, List.getElem?_cons_zero, List.getElem?_cons_succ] at w0 w1_ w2 w3 w4
      refine bodyPost_ret (v := .tuple #[hd.val, v1, .int .i64 0]) (by simp [results, Tryd.results12, go_sem, SH.val, w0, w1_, w2, w3, w4]) rfl
        ⟨v1, by rw [HE.out, HH.out, K.hd_], ?_, ?_⟩
      · rw [HB.out, K.cn_, HX.out, HLX.out]
        exact own_grew (own_mono HO1.out hzW) HGR.out (fun g hg e => own_not_whole HO1.out H2A.out (by decide) (hg.trans (congrArg some e)))
      · exact ((HB1.out.trans (HB1b.out.mono hzW)).trans (HGR.out.below (B := w.heap.size) (fun j hj => by omega) (by have := HB1b.out.size; omega)))

theorem refopen_any (A : Option Addr) (n c : Nat) (l : List UInt8) (w : World) (hl : l.length = n) (hA : Row w w.heap.size A (l.map bc)) (hc : n ≤ c) :
    Calls Tryd.prog 12 #[.slice A n c] w (OpenOut w l) := by
  by_cases hn : n = 512
  · subst hn
    have K := openKnow (c := c) hl hA
    have bad : (decide (readC l ≤ 496) && !((readH l).kind == 0) && !((readH l).parts == 0) && decide ((readH l).part < (readH l).parts)) = false → madeB l = false := fun h => by
      unfold madeB; rw [h]; rfl
    cases d1 : decide ((496 : Int) < (readC l : Int)) with
    | true => exact refopen_bad0 A c l w _ _ K (bad (by have e : decide (readC l ≤ 496) = false := by (simp at d1; simp; omega)
                                                        rw [e]; rfl)) d1
    | false =>
      cases z0 : ((readH l).kind == 0) with
      | true => exact refopen_bad1 A c l w _ _ K (bad (by rw [z0]; simp)) d1 z0
      | false =>
        cases z1 : ((readH l).parts == 0) with
        | true => exact refopen_bad2 A c l w _ _ K (bad (by rw [z1]; simp)) d1 z0 z1
        | false =>
          cases z2 : decide ((readH l).parts ≤ (readH l).part) with
          | true => exact refopen_bad3 A c l w _ _ K (bad (by have e : decide ((readH l).part < (readH l).parts) = false := by (simp at z2; simp; omega)
                                                              rw [e]; simp)) d1 z0 z1 z2
          | false => exact refopen_good A c l w _ _ K hA hc d1 z0 z1 z2
  · exact refopen_short A n c l w hl hn

end Go.Proofs.YtbojdhhgholgjaaDoor
