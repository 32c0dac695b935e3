/-
  Heads held one against the other; the contract of super.read.
-/
import Derived.Test.YthjcpficpiddaaaDoorUNum
import Derived.Test.YthjcpficpiddaaaDoorJOpen
import Derived.Test.YthjcpficpiddaaaDoorVHold
import Derived.Test.YthjcpficpiddaaaDoorUDev
namespace Go.Proofs.YthjcpficpiddaaaDoor
open Go.RowKit

theorem head_neq (a b : SH) (w : World) : (binOp .neq 49 a.val b.val).run Tryd.prog w = .ok (.bool (!a.same b)) w := by
  have hf : Tryd.prog.underlying 49 = some (.struct (Tryd.prog.fieldsOf 49)) := by kernel_rfl
  have hs : Tryd.prog.stoodInHeld 49 = false := by kernel_rfl
  unfold SH.val
  rw [run_neq_struct, run_equalIn_struct w _ _ _ _ hf hs]
  obtain ⟨a0, a1, a2, a3, a4⟩ := a
  obtain ⟨b0, b1, b2, b3, b4⟩ := b
  simp [Program.fieldsOf, Tryd.underlying49, Op.eqFields, SH.same, SH.nums, go_sem]
  by_cases h0 : a0 = b0 <;> by_cases h1 : a1 = b1 <;> by_cases h2 : a2 = b2 <;> by_cases h3 : a3 = b3 <;> by_cases h4 : a4 = b4 <;> simp [h0, h1, h2, h3, h4]

theorem blk_info : (Tryd.prog.info? 30).map (·.size) = some 5 := by kernel_rfl
theorem Blk.splice (a b : Blk) : splice a.cells 0 b.cells = b.cells := rfl
theorem Blk.fit (a b : Blk) : 0 + a.cells.length ≤ b.cells.length := Nat.le_refl _
theorem Blk.one (a : Blk) : ∀ v ∈ a.cells, v.oneCell' = true := by simp [Blk.cells, Value.oneCell']
/-- A block of which k numbers are read. -/
def partB (l : List UInt8) : Nat → Blk
  | 0 => bzero
  | 1 => ⟨numN (cutL l 0 7), 0, 0, 0, 0⟩
  | 2 => ⟨numN (cutL l 0 7), numN (cutL l 7 7), 0, 0, 0⟩
  | 3 => ⟨numN (cutL l 0 7), numN (cutL l 7 7), numN (cutL l 14 7), 0, 0⟩
  | 4 => ⟨numN (cutL l 0 7), numN (cutL l 7 7), numN (cutL l 14 7), numN (cutL l 21 7), 0⟩
  | _ + 5 => readBlk l
theorem partB_set (l : List UInt8) {k : Nat} (hk : k < 5) : (partB l k).cells.set k (.int .i64 (numN (cutL l (k * 7) 7) : Int)) = (partB l (k + 1)).cells := by
  have e : k = 0 ∨ k = 1 ∨ k = 2 ∨ k = 3 ∨ k = 4 := by omega
  rcases e with rfl | rfl | rfl | rfl | rfl <;> rfl

/-- What lies in a sector that can be read. -/
def Dv.at? (x : Dv) (k : Nat) : Option Blk := if x.readE k = 0 ∧ countsB (x.readB k) k = true then some (readBlk (openB (x.readB k))) else none
def optB (o : Option Blk) : Blk := o.getD bzero
theorem Dv.at?_eq {x : Dv} {k : Nat} (hd : x.down = false) (hk : k < x.sure.length) : x.at? k = secBlk (x.now.getD k secZero) k := by
  have hh : x.has (k : Int) = true := by simp only [Dv.has, decide_eq_true_eq]; omega
  have he : x.readE k = if (x.now.getD k secZero).torn = true then 9 else 0 := by
    unfold Dv.readE
    rw [if_neg (by simp [hd]), if_neg (by simp [hh]), Int.toNat_natCast]
  unfold Dv.at? secBlk
  cases ht : (x.now.getD k secZero).torn with
  | true =>
    rw [ht] at he
    rw [if_neg (by rintro ⟨h1, _⟩; rw [he] at h1; simp at h1), if_neg (by simp)]
  | false =>
    rw [ht] at he
    have hr : x.readB k = (x.now.getD k secZero).data := by
      unfold Dv.readB
      rw [he, Int.toNat_natCast]
      rfl
    rw [he, hr]
    simp

/-- What read leaves. -/
def SReadOut (w : World) (o : Option Blk) (e : Ending) (w' : World) : Prop := e = .returned (.tuple #[(optB o).val, .bool o.isSome]) ∧ Below w.heap.size w w'

section
variable {w0 w : World} {D : Nat} {x : Dv}
def SReadRel (l : List UInt8) (B : Nat) (w : World) (i : Value) (wr : World) : Prop := ∃ k : Nat, k ≤ 5 ∧ i = .int .i64 k ∧ Whole wr B 30 (partB l k).cells ∧ Below B w wr

set_option maxHeartbeats 400000 in
theorem sread_no (h : Holds w0 w D x) (k : Nat) (he : x.readE k ≠ 0) :
    Calls Tryd.prog 24 #[.pointer (some ⟨D, 0, none⟩), .int .i64 k] w (SReadOut w none) := by
  have HR := Lib.hid (h_read (h.alloc (.cells bzero.cells.toArray 30)) k)
  have HW := Lib.hid (Whole.made w bzero.cells 30)
  have d1 : (x.readE (k : Int) != 0) = true := by rw [bne_iff_ne]; exact he
  generalize x.readE (k : Int) = er at *
  generalize x.readB (k : Int) = b at *
  clear he
  go_enter Tryd.func24, Tryd.ntmps24
  go_wp2_with fail
  refine HR.out.mono ?_
  rintro e w1 ⟨A, c, rfl, _, hb1, _⟩
  have HB1 := Lib.hid (((Below.refl w.heap.size w).alloc (Nat.le_refl _) _).trans (hb1.mono (by simp)))
  have HW1 := Lib.hid (HW.out.below hb1 (by simp))
  clear hb1
  go_wp2_with (
    refine wpList_store_at rfl 30 (.tmp 4) (.tmp 21) rfl w.heap.size 0 bzero.cells rfl rfl 30 _ HW1.out (Blk.fit _ _) blk_info bzero.one ?_
    intro V hv1 hv2 hv3
    rw [Blk.splice] at hv1
    have v0 : V.cell? ⟨w.heap.size, 0, none⟩ = some (.int .i64 bzero.gen) := hv1.cell 0
    have v1 : V.cell? ⟨w.heap.size, 1, none⟩ = some (.int .i64 bzero.epoch) := hv1.cell 1
    have v2 : V.cell? ⟨w.heap.size, 2, none⟩ = some (.int .i64 bzero.first) := hv1.cell 2
    have v3 : V.cell? ⟨w.heap.size, 3, none⟩ = some (.int .i64 bzero.begun) := hv1.cell 3
    have v4 : V.cell? ⟨w.heap.size, 4, none⟩ = some (.int .i64 bzero.count) := hv1.cell 4
    have HBV := Lib.hid (HB1.out.trans (hv2.below (B := w.heap.size) (fun j hj => by omega) HB1.out.size))
    clear hv1 hv2 hv3)
  exact bodyPost_ret (v := .tuple #[bzero.val, .bool false]) (by simp [results, Tryd.results24, go_sem, v0, v1, v2, v3, v4, Blk.val, bzero]) rfl ⟨rfl, HBV.out⟩

set_option maxHeartbeats 1000000 in
theorem sread_yes (h : Holds w0 w D x) (hv : VarsAt w) (k : Nat) (l : List UInt8) (he : x.readE k = 0) (hl : x.readB k = l) (m : Option Blk) (hm : (if countsB l k = true then some (readBlk (openB l)) else none) = m) :
    Calls Tryd.prog 24 #[.pointer (some ⟨D, 0, none⟩), .int .i64 k] w (SReadOut w m) := by
  have hr0 := h_read (h.alloc (.cells bzero.cells.toArray 30)) k
  rw [he, hl] at hr0
  have HR := Lib.hid hr0
  have HW := Lib.hid (Whole.made w bzero.cells 30)
  have HM := Lib.hid hm
  have HV := Lib.hid (hv.alloc (.cells bzero.cells.toArray 30))
  clear he hl hm hr0 h hv
  go_enter Tryd.func24, Tryd.ntmps24
  go_wp2_with fail
  refine HR.out.mono ?_
  rintro e w1 ⟨A, c, rfl, hown1, hb1, _⟩
  have HB1 := Lib.hid (((Below.refl w.heap.size w).alloc (Nat.le_refl _) _).trans (hb1.mono (by simp)))
  have HW1 := Lib.hid (HW.out.below hb1 (by simp))
  have HV1 := Lib.hid (HV.out.next hb1)
  have HO := Lib.hid (open_any A l.length c l w1 rfl (Row.of_own hown1) (own_cap hown1) HV1.out.sizes)
  clear hb1 hown1
  go_wp2_with fail
  refine HO.out.mono ?_
  rintro e w2 ⟨v2, rfl, hown2, hb2⟩
  obtain ⟨A2, c2, rfl, hc1, hc2⟩ := own_form hown2
  have HB2 := Lib.hid (HB1.out.trans (hb2.mono HB1.out.size))
  have HW2 := Lib.hid (HW1.out.below hb2 HW1.out.lt)
  have HV2 := Lib.hid (HV1.out.next hb2)
  have HO2 := Lib.hid hown2
  have HCC := Lib.hid (And.intro hc1 hc2)
  clear hb2 hown2 hc1 hc2
  obtain ⟨hd, hhd⟩ : ∃ hd, openH l = hd := ⟨_, rfl⟩
  obtain ⟨dt, hdt⟩ : ∃ dt, openB l = dt := ⟨_, rfl⟩
  obtain ⟨oe, hoe⟩ : ∃ oe, openE l = oe := ⟨_, rfl⟩
  rw [hhd, hdt, hoe]
  rw [hdt] at HO2 HCC
  have hmc := HM.out
  unfold countsB at hmc
  rw [hhd, hdt, hoe] at hmc
  have HMC := Lib.hid hmc
  clear hhd hdt hoe hmc HM HO
  have HW3 := Lib.hid (HW2.out.alloc (.cells hd.cells.toArray 49))
  have HB3 := Lib.hid (HB2.out.alloc HB2.out.size (.cells hd.cells.toArray 49))
  have hg : ∀ j u, supH.cells[j]? = some u → (w2.alloc (.cells #[.int .i64 hd.kind, .int .i64 hd.epoch, .int .i64 hd.seq, .int .i64 hd.part, .int .i64 hd.parts] 49)).cell? ⟨0, j, none⟩ = some u := fun j u hu => (HV2.out.alloc _).head.cell hu
  have g0 := hg 0 _ rfl
  have g1 := hg 1 _ rfl
  have g2 := hg 2 _ rfl
  have g3 := hg 3 _ rfl
  have g4 := hg 4 _ rfl
  clear hg
  have hne := fun w => head_neq hd supH w
  unfold SH.val at hne ⊢
  by_cases h1 : oe = 0
  · subst h1
    cases h2 : hd.same supH with
    | false =>
      simp only [h2] at hne
      have hmn : m = none := by rw [← HMC.out]; simp [h2]
      subst hmn
      clear h2
      go_wp2_with (
        refine wpList_store_at rfl 30 (.tmp 4) (.tmp 40) rfl w.heap.size 0 bzero.cells rfl rfl 30 _ HW3.out (Blk.fit _ _) blk_info bzero.one ?_
        intro V hv1 hv2 hv3
        rw [Blk.splice] at hv1
        have v0 : V.cell? ⟨w.heap.size, 0, none⟩ = some (.int .i64 bzero.gen) := hv1.cell 0
        have v1 : V.cell? ⟨w.heap.size, 1, none⟩ = some (.int .i64 bzero.epoch) := hv1.cell 1
        have v2 : V.cell? ⟨w.heap.size, 2, none⟩ = some (.int .i64 bzero.first) := hv1.cell 2
        have v3 : V.cell? ⟨w.heap.size, 3, none⟩ = some (.int .i64 bzero.begun) := hv1.cell 3
        have v4 : V.cell? ⟨w.heap.size, 4, none⟩ = some (.int .i64 bzero.count) := hv1.cell 4
        have HBV := Lib.hid (HB3.out.trans (hv2.below (B := w.heap.size) (fun j hj => by omega) HB3.out.size))
        clear hv1 hv2 hv3)
      exact bodyPost_ret (v := .tuple #[bzero.val, .bool false]) (by simp [results, Tryd.results24, go_sem, v0, v1, v2, v3, v4, Blk.val, bzero]) rfl ⟨rfl, HBV.out⟩

    | true =>
      simp only [h2] at hne
      obtain ⟨n, hn⟩ : ∃ n, dt.length = n := ⟨_, rfl⟩
      rw [hn] at HO2 HCC ⊢
      have HN := Lib.hid hn
      by_cases h3 : n = 35
      · subst h3
        clear hn
        have HBK := Lib.hid (Whole.made (w2.alloc (.cells hd.cells.toArray 49)) bzero.cells 30)
        rw [show (w2.alloc (.cells hd.cells.toArray 49)).heap.size = w2.heap.size + 1 by simp] at HBK
        have HNU := Lib.hid (bnumbers_any (w2.heap.size + 1))
        have HW4 := Lib.hid (HW3.out.alloc (.cells bzero.cells.toArray 30))
        have HB4 := Lib.hid (HB3.out.alloc HB3.out.size (.cells bzero.cells.toArray 30))
        have HO4 := Lib.hid (((Row.of_own HO2.out).alloc (Nat.le_refl _) (.cells hd.cells.toArray 49)).alloc (by simp) (.cells bzero.cells.toArray 30))
        have HLT := Lib.hid (show w.heap.size < w2.heap.size from HW2.out.lt)
        go_wp2_with fail
        refine (HNU.out _).mono ?_
        rintro e w5 ⟨rfl, hb5⟩
        have HB5 := Lib.hid (HB4.out.trans (hb5.mono HB4.out.size))
        have HW5 := Lib.hid (HW4.out.below hb5 HW4.out.lt)
        have HK5 := Lib.hid (HBK.out.below hb5 HBK.out.lt)
        have HO5 := Lib.hid (HO4.out.below (hb5.mono (by simp; omega)))
        have HZ5 := Lib.hid (show w2.heap.size + 1 < w5.heap.size from HK5.out.lt)
        clear hb5 g0 g1 g2 g3 g4 hne
        obtain ⟨B, hB⟩ : ∃ B, w2.heap.size + 1 = B := ⟨_, rfl⟩
        rw [hB] at HK5 HZ5 ⊢
        have HLB := Lib.hid (show w.heap.size < B by have := HLT.out; omega)
        have HL2 := Lib.hid (show w2.heap.size ≤ B by omega)
        clear hB HBK HNU HW4 HB4 HO4
        go_wp2
        go_loopw [42] (SReadRel dt B w5) (fun i _ => 5 - (intOf i).toNat)
        case atStart => exact ⟨0, by omega, rfl, HK5.out, Below.refl _ _⟩
        case round =>
          obtain ⟨j, hj, rfl, hwh, hbr⟩ := hrel
          have HWH := Lib.hid hwh
          have HB := Lib.hid hbr
          have HOr := Lib.hid (HO5.out.below (hbr.mono HL2.out))
          clear hbr
          by_cases hlt : j < 5
          · have hi := fun W => ptr_index B hlt W
            have hg := get_any A2 35 c2 _ dt ((j : Int) * 7) 7 wr HN.out HOr.out (by decide) HCC.out.1
            have hgl : getL dt ((j : Int) * 7) 7 = ((numN (cutL dt (j * 7) 7) : Int), (0 : Int)) := by
              have := getL_ok (l := dt) (a := j * 7) (s := 7) (by decide) (by decide) (by have := HN.out; omega)
              rw [← this]; push_cast; rfl
            rw [hgl] at hg
            have HG := Lib.hid hg
            have hcel : wr.cell? ⟨B, j, none⟩ = some (.int .i64 ((partB dt j).num j)) := by rw [hwh.cell]; exact (partB dt j).cell_num hlt
            have hfr := hwh.frozen j
            clear hg hgl hwh
            go_wp2_with fail
            refine HG.out.mono ?_
            rintro e w' ⟨rfl, rfl⟩
            go_wp2
            refine ⟨⟨j + 1, by omega, by go_num, ?_, ?_⟩, by simp [intOf]; omega⟩
            · rw [← partB_set dt hlt]; exact HWH.out.set_ _ _
            · exact HB.out.setCell (by simp) _
          · obtain rfl : j = 5 := by omega
            obtain ⟨g, hg⟩ : ∃ g, readBlk dt = g := ⟨_, rfl⟩
            have hg0 : 0 ≤ g.gen := by rw [← hg]; exact Int.natCast_nonneg _
            have hwg : Whole wr B 30 g.cells := by rw [← hg]; exact hwh
            have hmg : (if decide (g.gen % 2 = (k : Int)) = true then some g else none) = m := by
              rw [← HMC.out, HN.out, hg, h2]; simp
            have c0 : wr.cell? ⟨B, 0, none⟩ = some (.int .i64 g.gen) := hwg.cell 0
            have c1 : wr.cell? ⟨B, 1, none⟩ = some (.int .i64 g.epoch) := hwg.cell 1
            have c2' : wr.cell? ⟨B, 2, none⟩ = some (.int .i64 g.first) := hwg.cell 2
            have c3 : wr.cell? ⟨B, 3, none⟩ = some (.int .i64 g.begun) := hwg.cell 3
            have c4 : wr.cell? ⟨B, 4, none⟩ = some (.int .i64 g.count) := hwg.cell 4
            have r1 : g.gen.tmod 2 = g.gen % 2 := Int.tmod_eq_emod_of_nonneg hg0
            have HWr := Lib.hid (HW5.out.below HB.out HLB.out)
            have HBr := Lib.hid (HB5.out.trans (HB.out.mono (Nat.le_of_lt HLB.out)))
            clear hwh hwg hg HMC h2
            by_cases h5 : g.gen % 2 = (k : Int)
            · have d5 : (g.gen % 2 != (k : Int)) = false := by simp [h5]
              have hmn : m = some g := by rw [← hmg]; simp [h5]
              subst hmn
              clear h5 hmg hg0
              go_wp2_with (
                refine wpList_store_at rfl 30 (.tmp 4) (.tmp 62) rfl w.heap.size 0 g.cells rfl rfl 30 _ HWr.out (Blk.fit _ _) blk_info g.one ?_
                intro V hv1 hv2 hv3
                rw [Blk.splice] at hv1
                have v0 : V.cell? ⟨w.heap.size, 0, none⟩ = some (.int .i64 g.gen) := hv1.cell 0
                have v1 : V.cell? ⟨w.heap.size, 1, none⟩ = some (.int .i64 g.epoch) := hv1.cell 1
                have v2 : V.cell? ⟨w.heap.size, 2, none⟩ = some (.int .i64 g.first) := hv1.cell 2
                have v3 : V.cell? ⟨w.heap.size, 3, none⟩ = some (.int .i64 g.begun) := hv1.cell 3
                have v4 : V.cell? ⟨w.heap.size, 4, none⟩ = some (.int .i64 g.count) := hv1.cell 4
                have HBV := Lib.hid (HBr.out.trans (hv2.below (B := w.heap.size) (fun j hj => by omega) HBr.out.size))
                clear hv1 hv2 hv3)
              exact bodyPost_ret (v := .tuple #[g.val, .bool true]) (by simp [results, Tryd.results24, go_sem, v0, v1, v2, v3, v4, Blk.val]) rfl ⟨rfl, HBV.out⟩
            · have d5 : (g.gen % 2 != (k : Int)) = true := by rw [bne_iff_ne]; exact h5
              have hmn : m = none := by rw [← hmg]; simp [h5]
              subst hmn
              clear h5 hmg hg0
              go_wp2_with (
                refine wpList_store_at rfl 30 (.tmp 4) (.tmp 61) rfl w.heap.size 0 bzero.cells rfl rfl 30 _ HWr.out (Blk.fit _ _) blk_info bzero.one ?_
                intro V hv1 hv2 hv3
                rw [Blk.splice] at hv1
                have v0 : V.cell? ⟨w.heap.size, 0, none⟩ = some (.int .i64 bzero.gen) := hv1.cell 0
                have v1 : V.cell? ⟨w.heap.size, 1, none⟩ = some (.int .i64 bzero.epoch) := hv1.cell 1
                have v2 : V.cell? ⟨w.heap.size, 2, none⟩ = some (.int .i64 bzero.first) := hv1.cell 2
                have v3 : V.cell? ⟨w.heap.size, 3, none⟩ = some (.int .i64 bzero.begun) := hv1.cell 3
                have v4 : V.cell? ⟨w.heap.size, 4, none⟩ = some (.int .i64 bzero.count) := hv1.cell 4
                have HBV := Lib.hid (HBr.out.trans (hv2.below (B := w.heap.size) (fun j hj => by omega) HBr.out.size))
                clear hv1 hv2 hv3)
              exact bodyPost_ret (v := .tuple #[bzero.val, .bool false]) (by simp [results, Tryd.results24, go_sem, v0, v1, v2, v3, v4, Blk.val, bzero]) rfl ⟨rfl, HBV.out⟩
      · have d3 : ((n : Int) != 35) = true := by rw [bne_iff_ne]; omega
        have hmn : m = none := by rw [← HMC.out, HN.out]; simp [h3]
        subst hmn
        clear h2 h3 hn
        go_wp2_with (
          refine wpList_store_at rfl 30 (.tmp 4) (.tmp 40) rfl w.heap.size 0 bzero.cells rfl rfl 30 _ HW3.out (Blk.fit _ _) blk_info bzero.one ?_
          intro V hv1 hv2 hv3
          rw [Blk.splice] at hv1
          have v0 : V.cell? ⟨w.heap.size, 0, none⟩ = some (.int .i64 bzero.gen) := hv1.cell 0
          have v1 : V.cell? ⟨w.heap.size, 1, none⟩ = some (.int .i64 bzero.epoch) := hv1.cell 1
          have v2 : V.cell? ⟨w.heap.size, 2, none⟩ = some (.int .i64 bzero.first) := hv1.cell 2
          have v3 : V.cell? ⟨w.heap.size, 3, none⟩ = some (.int .i64 bzero.begun) := hv1.cell 3
          have v4 : V.cell? ⟨w.heap.size, 4, none⟩ = some (.int .i64 bzero.count) := hv1.cell 4
          have HBV := Lib.hid (HB3.out.trans (hv2.below (B := w.heap.size) (fun j hj => by omega) HB3.out.size))
          clear hv1 hv2 hv3)
        exact bodyPost_ret (v := .tuple #[bzero.val, .bool false]) (by simp [results, Tryd.results24, go_sem, v0, v1, v2, v3, v4, Blk.val, bzero]) rfl ⟨rfl, HBV.out⟩
  · have d1 : (oe != 0) = true := by rw [bne_iff_ne]; exact h1
    have hmn : m = none := by rw [← HMC.out]; simp [h1]
    subst hmn
    clear h1 hne g0 g1 g2 g3 g4
    go_wp2_with (
      refine wpList_store_at rfl 30 (.tmp 4) (.tmp 40) rfl w.heap.size 0 bzero.cells rfl rfl 30 _ HW3.out (Blk.fit _ _) blk_info bzero.one ?_
      intro V hv1 hv2 hv3
      rw [Blk.splice] at hv1
      have v0 : V.cell? ⟨w.heap.size, 0, none⟩ = some (.int .i64 bzero.gen) := hv1.cell 0
      have v1 : V.cell? ⟨w.heap.size, 1, none⟩ = some (.int .i64 bzero.epoch) := hv1.cell 1
      have v2 : V.cell? ⟨w.heap.size, 2, none⟩ = some (.int .i64 bzero.first) := hv1.cell 2
      have v3 : V.cell? ⟨w.heap.size, 3, none⟩ = some (.int .i64 bzero.begun) := hv1.cell 3
      have v4 : V.cell? ⟨w.heap.size, 4, none⟩ = some (.int .i64 bzero.count) := hv1.cell 4
      have HBV := Lib.hid (HB3.out.trans (hv2.below (B := w.heap.size) (fun j hj => by omega) HB3.out.size))
      clear hv1 hv2 hv3)
    exact bodyPost_ret (v := .tuple #[bzero.val, .bool false]) (by simp [results, Tryd.results24, go_sem, v0, v1, v2, v3, v4, Blk.val, bzero]) rfl ⟨rfl, HBV.out⟩

theorem sread_any (h : Holds w0 w D x) (hv : VarsAt w) (k : Nat) : Calls Tryd.prog 24 #[.pointer (some ⟨D, 0, none⟩), .int .i64 k] w (SReadOut w (x.at? k)) := by
  by_cases he : x.readE k = 0
  · exact sread_yes h hv k _ he rfl _ (by unfold Dv.at?; simp [he])
  · have e : x.at? k = none := by unfold Dv.at?; simp [he]
    rw [e]
    exact sread_no h k he
end

end Go.Proofs.YthjcpficpiddaaaDoor
