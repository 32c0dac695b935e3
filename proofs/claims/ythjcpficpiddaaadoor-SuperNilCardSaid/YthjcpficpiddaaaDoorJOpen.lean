/-
  The contract of sector.Open.
-/
import Derived.Test.YthjcpficpiddaaaDoorJRead
import Derived.Test.YthjcpficpiddaaaDoorJSeal
import Derived.Test.YthjcpficpiddaaaDoorEqB
namespace Go.Proofs.YthjcpficpiddaaaDoor
open Go.RowKit

/-- What Open leaves: what the bytes tell, the data of its own; or an error and nothing. -/
def OpenOut (w : World) (l : List UInt8) (e : Ending) (w' : World) : Prop :=
  ∃ v, e = .returned (.tuple #[(openH l).val, v, .int .i64 (openE l)]) ∧ w'.ownsRow w.heap.size 5 1 v (openB l).length ((openB l).map bc) ∧ Below w.heap.size w w'
theorem openE_short {l : List UInt8} (h : l.length ≠ 512) : openE l = 3 := by unfold openE; rw [if_pos h]
theorem openE_bad {l : List UInt8} (h : l.length = 512) (hm : madeB l = false) : openE l = 14 := by unfold openE; rw [if_neg (by simp [h]), if_neg (by simp [hm])]
theorem openE_ok {l : List UInt8} (h : l.length = 512) (hm : madeB l = true) : openE l = 0 := by unfold openE; rw [if_neg (by simp [h]), if_pos hm]
theorem openH_no {l : List UInt8} (h : openE l ≠ 0) : openH l = hzero := by unfold openH; rw [if_neg h]
theorem openB_no {l : List UInt8} (h : openE l ≠ 0) : openB l = [] := by unfold openB; rw [if_neg h]
theorem openH_ok {l : List UInt8} (h : openE l = 0) : openH l = readH l := by unfold openH; rw [if_pos h]
theorem openB_ok {l : List UInt8} (h : openE l = 0) : openB l = (l.drop 16).take (readC l) := by unfold openB; rw [if_pos h]

set_option maxHeartbeats 400000 in
theorem open_short (A : Option Addr) (n c : Nat) (l : List UInt8) (w : World) (hl : l.length = n) (hn : n ≠ 512) : Calls Tryd.prog 33 #[.slice A n c] w (OpenOut w l) := by
  have he := openE_short (l := l) (by omega)
  have HH := Lib.hid (openH_no (l := l) (by rw [he]; decide))
  have HB := Lib.hid (openB_no (l := l) (by rw [he]; decide))
  have HE := Lib.hid he
  have d1 : ((n : Int) != 512) = true := by rw [bne_iff_ne]; omega
  clear he hn hl
  go_enter Tryd.func33, Tryd.ntmps33
  go_wp2
  exact bodyPost_ret (v := .tuple #[hzero.val, .slice none 0 0, .int .i64 3]) (by simp [results, Tryd.results33, go_sem, SH.val, hzero]) rfl
    ⟨.slice none 0 0, by rw [HE.out, HH.out], by rw [HB.out]; exact World.ownsRow_nil _ _ _ _, (Below.refl _ _).alloc (Nat.le_refl _) _⟩

set_option maxHeartbeats 1000000 in
set_option maxRecDepth 4000 in
theorem open_full (A : Option Addr) (c : Nat) (l : List UInt8) (w : World) (hl : l.length = 512) (hA : Row w w.heap.size A (l.map bc)) (hc : 512 ≤ c) (hs : SizesAt w) :
    Calls Tryd.prog 33 #[.slice A 512 c] w (OpenOut w l) := by
  obtain ⟨b, off, rfl, _, _⟩ := hA.some_ (by rw [List.length_map, hl]; decide)
  obtain ⟨i0, hi0, hz0, hz1, hz2⟩ := info_parts u8_info
  have HR := Lib.hid (read_any (some ⟨b, off, none⟩) c l (w.alloc (.cells #[.int .i64 0, .int .i64 0, .int .i64 0, .int .i64 0, .int .i64 0] 49)) hl ((hA.alloc (Nat.le_refl _) _).mono (by simp)) hc (hs.alloc _))
  have HW0 := Lib.hid (Whole.made w hzero.cells 49)
  have HL := Lib.hid hl
  have HA := Lib.hid hA
  have HS := Lib.hid hs
  by_cases hn : readC l ≤ 496
  · have d1 : decide ((496 : Int) < (readC l : Int)) = false := by simp; omega
    obtain ⟨m, hm⟩ : ∃ m, madeB l = m := ⟨_, rfl⟩
    have hsr := seal_read hl hn
    rw [hm] at hsr
    have HSR := Lib.hid hsr
    have HM := Lib.hid hm
    obtain ⟨x, hx⟩ : ∃ x, (l.drop 16).take (readC l) = x := ⟨_, rfl⟩
    have hxl : x.length = readC l := by rw [← hx]; simp; omega
    obtain ⟨hd, hhd⟩ : ∃ hd, readH l = hd := ⟨_, rfl⟩
    obtain ⟨cn, hcn⟩ : ∃ cn, readC l = cn := ⟨_, rfl⟩
    have HX := Lib.hid hx
    have HHD := Lib.hid hhd
    have HCN := Lib.hid hcn
    have hr0 := HR.out
    unfold HReadOut at hr0
    rw [hhd, hcn] at hr0
    have HR2 := Lib.hid hr0
    rw [hcn] at d1 hxl hn
    have HXL := Lib.hid hxl
    have HCC := Lib.hid (show 16 + cn - 16 = cn by omega)
    clear hl hA hs hsr hm hx hxl hhd hcn hr0
    go_enter Tryd.func33, Tryd.ntmps33
    go_wp2_with fail
    refine HR2.out.mono ?_
    rintro e w1 ⟨rfl, hb1⟩
    have HB1 := Lib.hid (((Below.refl w.heap.size w).alloc (Nat.le_refl _) _).trans (hb1.mono (by simp)))
    have HW1 := Lib.hid (HW0.out.below hb1 (by simp))
    clear hb1
    go_wp2_with (first
      | (refine wpList_store_at rfl 49 (.tmp 2) (.tmp 15) rfl w.heap.size 0 hd.cells rfl rfl 49 _ HW1.out (SH.fit _ _) head_cells hd.one ?_
         intro V hv1 hv2 hv3
         rw [SH.splice] at hv1
         have HV := Lib.hid hv1
         have hvb := HB1.out.trans (hv2.below (B := w.heap.size) (fun j hj => by omega) HB1.out.size)
         have HVB := Lib.hid hvb
         have hvz := hvb.size
         have HAV := Lib.hid (HA.out.below hvb)
         have hrx := (HAV.out.drop (k := 16) rfl).take cn
         rw [← List.map_drop, ← List.map_take, ← HCN.out, HX.out] at hrx
         have HRX := Lib.hid hrx
         clear hv1 hv2 hv3 hvb hrx)
      | (at_builtin
         refine wpList_append_row rfl (.tmp 20) (.tmp 24) _ rfl w.heap.size 5 i0 _ 1 1 Tryd.underlying45 hi0 hz0 hz1 hz2 rfl (by omega) (.slice none 0 0) 0 [] rfl
           (World.ownsRow_nil _ _ _ _) (some ⟨b, off + 16, none⟩) cn (c - 16) w.heap.size (x.map bc) (congrArg (fun z => Value.slice (some ⟨b, off + 16, none⟩) z (c - 16)) HCC.out) (by rw [List.length_map, HXL.out]; omega) HRX.out (bc_one x) (by unfold maxLen; omega) (by omega) hvz ?_
         intro v2 V2 hown2 hg2
         simp only [Nat.zero_add, List.nil_append] at hown2
         obtain ⟨A2, c2, rfl, hc1, hc2⟩ := own_form hown2
         have HO2 := Lib.hid hown2
         have HV2 := Lib.hid (HV.out.grown hg2 (by simp [Value.ownBlock]))
         have hvb2 := own_below HVB.out (Nat.le_refl _) hvz (World.ownsRow_nil V w.heap.size 5 1) hg2
         have HVB2 := Lib.hid hvb2
         have HS2 := Lib.hid (HS.out.next hvb2)
         have HAV2 := Lib.hid (HA.out.below hvb2)
         have hvz2 := hvb2.size
         clear hown2 hg2 hvb2)
      | (refine wpList_load_at rfl 49 (.tmp 2) rfl w.heap.size 0 rfl hd.cells _ Tryd.underlying49 rfl head_cells 49 _ HV2.out (fun j v hj => by rwa [Nat.zero_add]) ?_))
    refine (seal_any A2 c2 cn hd x V2 HXL.out (Row.of_own HO2.out) HS2.out hc1 (Nat.le_trans hc1 hc2)).mono ?_
    rintro e V3 ⟨v3, rfl, hown3, hb3⟩
    obtain ⟨A3, c3, rfl, hc3, hc4⟩ := own_form hown3
    have HO3 := Lib.hid hown3
    have HVB3 := Lib.hid (HVB2.out.trans (hb3.mono hvz2))
    have HV3 := Lib.hid (HV2.out.below hb3 HV2.out.lt)
    have HA3 := Lib.hid (HAV2.out.below (hb3.mono hvz2))
    have HX3 := Lib.hid (own_keep HO2.out (fun g hg => hb3.block g (HO2.out.lt g hg).2))
    have hvz3 := hb3.size
    have hmb : decide (sealB hd x = l) = m := by rw [← HHD.out, ← HX.out]; exact HSR.out
    have HMB := Lib.hid hmb
    clear hown3 hb3 hmb
    generalize sealB hd x = sb at *
    generalize sealE hd x.length = se
    go_wp2_with fail
    refine (eqbytes_any A3 (some ⟨b, off, none⟩) sb.length 512 c3 c V3.heap.size sb l V3 rfl HL.out (Row.of_own HO3.out) (HA3.out.mono (Nat.le_trans hvz2 hvz3))).mono ?_
    rw [HMB.out]
    rintro e w' ⟨rfl, rfl⟩
    cases m with
    | true =>
      have he := openE_ok HL.out HM.out
      have HH := Lib.hid (openH_ok he)
      have HB := Lib.hid (openB_ok he)
      have HE := Lib.hid he
      clear he
      go_wp2_with (first
        | (refine wpList_load_at rfl 49 (.tmp 2) rfl w.heap.size 0 rfl hd.cells _ Tryd.underlying49 rfl head_cells 49 _ HV3.out (fun j v hj => by rwa [Nat.zero_add]) ?_)
        | (refine wpList_store_at rfl 49 (.tmp 2) (.tmp 37) rfl w.heap.size 0 hd.cells rfl rfl 49 _ HV3.out (SH.fit _ _) head_cells hd.one ?_
           intro V4 hv1 hv2 hv3
           rw [SH.splice] at hv1
           have v0 : V4.cell? ⟨w.heap.size, 0, none⟩ = some (.int .i64 hd.kind) := hv1.cell 0
           have v1 : V4.cell? ⟨w.heap.size, 1, none⟩ = some (.int .i64 hd.epoch) := hv1.cell 1
           have v2 : V4.cell? ⟨w.heap.size, 2, none⟩ = some (.int .i64 hd.seq) := hv1.cell 2
           have v3 : V4.cell? ⟨w.heap.size, 3, none⟩ = some (.int .i64 hd.part) := hv1.cell 3
           have v4 : V4.cell? ⟨w.heap.size, 4, none⟩ = some (.int .i64 hd.parts) := hv1.cell 4
           have HVB4 := Lib.hid (HVB3.out.trans (hv2.below (B := w.heap.size) (fun j hj => by omega) HVB3.out.size))
           have HX4 := Lib.hid (own_grew HX3.out hv2 (fun g hg => fun e => own_not_whole HX3.out HV3.out (by decide) (hg.trans (congrArg some e))))
           clear hv1 hv2 hv3))
      exact bodyPost_ret (v := .tuple #[hd.val, .slice A2 cn c2, .int .i64 0]) (by simp [results, Tryd.results33, go_sem, SH.val, v0, v1, v2, v3, v4]) rfl
        ⟨.slice A2 cn c2, by rw [HE.out, HH.out, HHD.out], by rw [HB.out, HX.out, HXL.out]; exact HX4.out, HVB4.out⟩
    | false =>
      have he := openE_bad HL.out HM.out
      have HH := Lib.hid (openH_no (l := l) (by rw [he]; decide))
      have HB := Lib.hid (openB_no (l := l) (by rw [he]; decide))
      have HE := Lib.hid he
      clear he
      go_wp2_with (
        refine wpList_store_at rfl 49 (.tmp 2) (.tmp 36) rfl w.heap.size 0 hzero.cells rfl rfl 49 _ HV3.out (SH.fit _ _) head_cells hzero.one ?_
        intro V4 hv1 hv2 hv3
        rw [SH.splice] at hv1
        have v0 : V4.cell? ⟨w.heap.size, 0, none⟩ = some (.int .i64 0) := hv1.cell 0
        have v1 : V4.cell? ⟨w.heap.size, 1, none⟩ = some (.int .i64 0) := hv1.cell 1
        have v2 : V4.cell? ⟨w.heap.size, 2, none⟩ = some (.int .i64 0) := hv1.cell 2
        have v3 : V4.cell? ⟨w.heap.size, 3, none⟩ = some (.int .i64 0) := hv1.cell 3
        have v4 : V4.cell? ⟨w.heap.size, 4, none⟩ = some (.int .i64 0) := hv1.cell 4
        have HVB4 := Lib.hid (HVB3.out.trans (hv2.below (B := w.heap.size) (fun j hj => by omega) HVB3.out.size))
        clear hv1 hv2 hv3)
      exact bodyPost_ret (v := .tuple #[hzero.val, .slice none 0 0, .int .i64 14]) (by simp [results, Tryd.results33, go_sem, SH.val, hzero, v0, v1, v2, v3, v4]) rfl
        ⟨.slice none 0 0, by rw [HE.out, HH.out], by rw [HB.out]; exact World.ownsRow_nil _ _ _ _, HVB4.out⟩
  · have d1 : decide ((496 : Int) < (readC l : Int)) = true := by simp; omega
    have he := openE_bad hl (show madeB l = false by simp [madeB, hn])
    have HH := Lib.hid (openH_no (l := l) (by rw [he]; decide))
    have HB := Lib.hid (openB_no (l := l) (by rw [he]; decide))
    have HE := Lib.hid he
    clear he hl hA hs
    go_enter Tryd.func33, Tryd.ntmps33
    go_wp2_with fail
    refine HR.out.mono ?_
    rintro e w1 ⟨rfl, hb1⟩
    have HB1 := Lib.hid (((Below.refl w.heap.size w).alloc (Nat.le_refl _) _).trans (hb1.mono (by simp)))
    have HW1 := Lib.hid (HW0.out.below hb1 (by simp))
    clear hb1
    generalize readH l = hx
    go_wp2_with (first
      | (refine wpList_store_at rfl 49 (.tmp 2) (.tmp 15) rfl w.heap.size 0 hx.cells rfl rfl 49 _ HW1.out (SH.fit _ _) head_cells hx.one ?_
         intro V hv1 hv2 hv3
         rw [SH.splice] at hv1
         have HV := Lib.hid hv1
         have HVB := Lib.hid (HB1.out.trans (hv2.below (B := w.heap.size) (fun j hj => by omega) HB1.out.size))
         clear hv1 hv2 hv3)
      | (refine wpList_store_at rfl 49 (.tmp 2) (.tmp 19) rfl w.heap.size 0 hzero.cells rfl rfl 49 _ HV.out (SH.fit _ _) head_cells hzero.one ?_
         intro V2 hv1 hv2 hv3
         rw [SH.splice] at hv1
         have v0 : V2.cell? ⟨w.heap.size, 0, none⟩ = some (.int .i64 0) := hv1.cell 0
         have v1 : V2.cell? ⟨w.heap.size, 1, none⟩ = some (.int .i64 0) := hv1.cell 1
         have v2 : V2.cell? ⟨w.heap.size, 2, none⟩ = some (.int .i64 0) := hv1.cell 2
         have v3 : V2.cell? ⟨w.heap.size, 3, none⟩ = some (.int .i64 0) := hv1.cell 3
         have v4 : V2.cell? ⟨w.heap.size, 4, none⟩ = some (.int .i64 0) := hv1.cell 4
         have HVB2 := Lib.hid (HVB.out.trans (hv2.below (B := w.heap.size) (fun j hj => by omega) HVB.out.size))
         clear hv1 hv2 hv3))
    exact bodyPost_ret (v := .tuple #[hzero.val, .slice none 0 0, .int .i64 14]) (by simp [results, Tryd.results33, go_sem, SH.val, hzero, v0, v1, v2, v3, v4]) rfl
      ⟨.slice none 0 0, by rw [HE.out, HH.out], by rw [HB.out]; exact World.ownsRow_nil _ _ _ _, HVB2.out⟩

theorem open_any (A : Option Addr) (n c : Nat) (l : List UInt8) (w : World) (hl : l.length = n) (hA : Row w w.heap.size A (l.map bc)) (hc : n ≤ c) (hs : SizesAt w) :
    Calls Tryd.prog 33 #[.slice A n c] w (OpenOut w l) := by
  by_cases hn : n = 512
  · subst hn
    exact open_full A c l w hl hA hc hs
  · exact open_short A n c l w hl hn

end Go.Proofs.YthjcpficpiddaaaDoor
