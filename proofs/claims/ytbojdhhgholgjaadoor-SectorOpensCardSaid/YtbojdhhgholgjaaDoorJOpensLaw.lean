/-
  SectorOpens: what a sector tells of itself, or why it tells nothing.
-/
import Derived.Test.YtbojdhhgholgjaaDoorJAns
import Derived.Test.YtbojdhhgholgjaaDoorJOpen
import Derived.Test.YtbojdhhgholgjaaDoorJRefGood
import Derived.Test.YtbojdhhgholgjaaDoorSame
import Derived.Test.YtbojdhhgholgjaaDoorJU16
import Derived.Test.YtbojdhhgholgjaaDoorJRefSeal
import Derived.Deep.RegionHeld3
import Derived.Deep.CutRange
import Derived.Deep.CutBlock
import Derived.StillTailTactics
import Derived.IntWalk
namespace Go.Proofs.YtbojdhhgholgjaaDoor
open Go.RowKit

/-- The bytes behind the second loop. -/
def YRel (w : World) (v : Value) (L : Nat) (wr : World) : Prop := ∃ ys : List UInt8, ys.length = L ∧ wr.ownsRow w.heap.size 5 1 v L (ys.map bc) ∧ Below w.heap.size w wr
def ZRel (w : World) (v : Value) (L : Nat) (i : Value) (wr : World) : Prop := ∃ k : Nat, k ≤ 20 ∧ i = .int .i64 k ∧ YRel w v L wr
/-- The bytes behind the first loop: some, of the call's own. -/
def XRel (w : World) (v : Value) (wr : World) : Prop := ∃ ys : List UInt8, ys.length ≤ 2000 ∧ wr.ownsRow w.heap.size 5 1 v ys.length (ys.map bc) ∧ Below w.heap.size w wr

set_option maxHeartbeats 1000000 in
set_option maxRecDepth 8000 in
theorem opens_short (A B C : Option Addr) (m cA n cB k cC : Nat) (l : List UInt8) (tt : List UInt8) (w : World) (hs : SizesAt w) (hl : l.length = m) (hA : Row w w.heap.size A (l.map bc)) (h : m ≤ 2000)
    (ns : List Nat) (hn : ns.length = n) (hB : Row w w.heap.size B (ns.map c16)) (hn16 : ∀ x ∈ ns, x < 65536) (hk : tt.length = k) (hC : Row w w.heap.size C (tt.map bc)) (hnm : n ≤ maxLen) (hkm : k ≤ maxLen) :
    Calls Tryd.prog 4 #[.slice A m cA, .slice B n cB, .slice C k cC] w (TrueB w) := by
  have hd : decide ((2000 : Int) < (m : Int)) = false := by simp; omega
  have HL := Lib.hid hl
  have HA := Lib.hid hA
  have HS := Lib.hid hs
  obtain ⟨i0, hi0, hz0, hz1, hz2⟩ := info_parts u8_info
  have HN := Lib.hid hn
  have HBB := Lib.hid hB
  have HN16 := Lib.hid hn16
  have HK := Lib.hid hk
  have HCC := Lib.hid hC
  have hnm' : n ≤ 9223372036854775807 := hnm
  have hkm' : k ≤ 9223372036854775807 := hkm
  clear hnm hkm
  clear hs hl hA hn hB hn16 hk hC
  go_enter Tryd.func4, Tryd.ntmps4
  go_wp2_with (
    at_builtin
    refine wpList_append_row rfl (.tmp 15) (.tmp 16) _ rfl w.heap.size 5 i0 _ 1 1 Tryd.underlying24 hi0 hz0 hz1 hz2 rfl (by omega) (.slice (some ⟨w.heap.size, 0, none⟩) 0 0) 0 [] rfl
      (own_lit _ _ _) A m cA w.heap.size (l.map bc) rfl (by rw [List.length_map, HL.out]; omega) (HA.out.alloc (Nat.le_refl _) _) (bc_one l) (by unfold maxLen; omega) (by omega) (by simp) ?_
    intro v1 W1 hown1 hg1
    simp only [Nat.zero_add, List.nil_append] at hown1
    obtain ⟨A1, c1, rfl, hc1, _⟩ := own_form hown1
    have hb1 := own_below ((Below.refl w.heap.size w).alloc (Nat.le_refl _) _) (Nat.le_refl _) (by simp) (own_lit w 5 1) hg1
    have HO1 := Lib.hid hown1
    have HB1 := Lib.hid hb1
    have HS1 := Lib.hid (HS.out.next hb1)
    have hz1w := hb1.size
    clear hown1 hg1 hb1)
  refine (answers_any _ HS1.out).mono ?_
  rintro e W2 ⟨rfl, hb2⟩
  have HO2 := Lib.hid (own_keep HO1.out (fun j hj => hb2.block j (HO1.out.lt j hj).2))
  have HB2 := Lib.hid (HB1.out.trans (hb2.mono hz1w))
  have hz2w := HB2.out.size
  clear hb2 HO1 HB1 hz1w
  have hr1 : (m : Int) % 3 = ((m % 3 : Nat) : Int) := by omega
  obtain ⟨r3, hr3⟩ : ∃ r3, m % 3 = r3 := ⟨_, rfl⟩
  rw [hr3] at hr1
  clear hr3
  go_upto_block 0 with (fail)
  go_cut [7] from 26 to 42 (XRel w)
  case first =>
    go_wp2
    go_loopw [7] (XRel w) (fun v _ => 512 - lenV v)
    case atStart => exact ⟨l, by rw [HL.out]; exact h, by rw [HL.out]; exact HO2.out, HB2.out⟩
    case round =>
      obtain ⟨ys, hy, hown, hbr⟩ := hrel
      obtain ⟨Ar, cr, rfl, hc1r, _⟩ := own_form hown
      have HOr := Lib.hid hown
      have HBr := Lib.hid hbr
      have hzr := hbr.size
      obtain ⟨L, hL⟩ : ∃ L, ys.length = L := ⟨_, rfl⟩
      rw [hL] at HOr hy hc1r ⊢
      have HLL := Lib.hid hL
      clear hown hbr hL hc1r
      by_cases hc : 0 < L ∧ L < 512 ∧ r3 ≠ 0
      · obtain ⟨g1, g2, g3⟩ := hc
        have e3 : ((r3 : Int) != 0) = true := by rw [bne_iff_ne]; omega
        clear g3
        have hr := Row.made wr #[.int .u8 0] 5
        have HR := Lib.hid hr
        clear hr
        go_wp2_with (
          at_builtin
          refine wpList_append_row rfl (.tmp 40) (.tmp 41) _ rfl w.heap.size 5 i0 _ 1 1 Tryd.underlying24 hi0 hz0 hz1 hz2 rfl (by omega) (.slice Ar L cr) L _ rfl (HOr.out.alloc _)
            (some ⟨wr.heap.size, 0, none⟩) 1 1 (wr.heap.size + 1) [.int .u8 0] rfl rfl HR.out (by simp [Value.oneCell']) (by unfold maxLen; omega) (by omega) (by simp; omega) ?_
          intro v3 w3 hown3 hg3
          have HB3 := Lib.hid (own_below (HBr.out.alloc hzr _) (Nat.le_refl _) (by simp; omega) (HOr.out.alloc _) hg3)
          have HX3 : XRel w v3 w3 := ⟨ys ++ [0], by simp [HLL.out]; omega, by simpa [HLL.out, bc] using hown3, HB3.out⟩
          obtain ⟨A3, c3, rfl, _, _⟩ := own_form hown3
          clear hown3 hg3)
        exact ⟨HX3, by simp [lenV]; omega⟩
      · by_cases g1 : 0 < L
        · by_cases g2 : L < 512
          · have g3 : r3 = 0 := by
              apply Classical.byContradiction
              intro g3; exact hc ⟨g1, g2, g3⟩
            have e3 : ((r3 : Int) != 0) = false := by rw [g3]; rfl
            clear hc g3
            go_wp2
            go_meet
            exact ⟨ys, by rw [HLL.out]; exact hy, by rw [HLL.out]; exact HOr.out, HBr.out⟩
          · clear hc
            go_wp2
            go_meet
            exact ⟨ys, by rw [HLL.out]; exact hy, by rw [HLL.out]; exact HOr.out, HBr.out⟩
        · clear hc
          go_wp2
          go_meet
          exact ⟨ys, by rw [HLL.out]; exact hy, by rw [HLL.out]; exact HOr.out, HBr.out⟩
  case rest =>
    obtain ⟨ys, hy, hown, hbc⟩ := hcut
    obtain ⟨A7, c7, rfl, hc7, _⟩ := own_form hown
    obtain ⟨L, hL⟩ : ∃ L, ys.length = L := ⟨_, rfl⟩
    rw [hL] at hown hy hc7 ⊢
    have HLL := Lib.hid hL
    have HO7 := Lib.hid hown
    have HB7 := Lib.hid hbc
    clear hown hbc hL
    go_upto_block 2 with (fail)
    go_cut [8] from 43 to 77 (fun _ wx => YRel w (.slice A7 L c7) L wx)
    case first =>
      go_wp2
      go_loopw [8] (ZRel w (.slice A7 L c7) L) (fun i _ => 20 - (intOf i).toNat)
      case atStart => exact ⟨0, by omega, rfl, ys, HLL.out, HO7.out, HB7.out⟩
      case round =>
        obtain ⟨j, hj, rfl, zs, hz, hown, hbr⟩ := hrel
        have HZ := Lib.hid hz
        have HOr := Lib.hid hown
        have HBr := Lib.hid hbr
        have hzr := hbr.size
        have HBx := Lib.hid (HBB.out.below hbr)
        have HCx := Lib.hid (HCC.out.below hbr)
        clear hz hown hbr
        by_cases g1 : j < n
        · by_cases g2 : j < k
          · by_cases g3 : j < 20
            · by_cases g4 : 0 < L
              · have hjn : j < ns.length := by rw [HN.out]; exact g1
                have hjk : j < tt.length := by rw [HK.out]; exact g2
                obtain ⟨b1, o1, rfl, _, hcb⟩ := HBx.out.at_ (k := j) (by rw [List.length_map]; exact hjn)
                obtain ⟨b2, o2, rfl, _, hcc⟩ := HCx.out.at_ (k := j) (by rw [List.length_map]; exact hjk)
                have hcb' : wr.cell? ⟨b1, o1 + j, none⟩ = some (.int .u16 ((ns[j] : Nat) : Int)) := by rw [hcb]; simp [c16]
                have hcc' : wr.cell? ⟨b2, o2 + j, none⟩ = some (.int .u8 ((tt[j]).toNat : Int)) := by rw [hcc]; simp [bc]
                obtain ⟨x, hx⟩ : ∃ x, ns[j] = x := ⟨_, rfl⟩
                have hx16 : x < 65536 := by rw [← hx]; exact HN16.out _ (List.getElem_mem hjn)
                rw [hx] at hcb'
                obtain ⟨y, hy8⟩ : ∃ y, tt[j] = y := ⟨_, rfl⟩
                rw [hy8] at hcc'
                obtain ⟨r, hr⟩ : ∃ r, x % L = r := ⟨_, rfl⟩
                have hrL : r < L := by rw [← hr]; exact Nat.mod_lt _ g4
                obtain ⟨g, rfl⟩ := own_some HOr.out g4
                have hzl : zs.length = L := HZ.out
                obtain ⟨u, hcr⟩ : ∃ u, wr.cell? ⟨g, r, none⟩ = some u := ⟨_, (HOr.out.cellAt r (by omega)).trans (List.getElem?_eq_getElem (by rw [List.length_map]; omega))⟩
                have hfr := HOr.out.frozenAt r
                have w1 : IntKind.i64.wrap (x : Int) = (x : Int) := IntWalk.i64_in _ (by omega)
                have w2 : (x : Int).tmod (L : Int) = (r : Int) := by rw [Int.tmod_eq_emod_of_nonneg (by omega)]; exact_mod_cast hr
                have w3 : (x : Int) % (L : Int) = (r : Int) := by exact_mod_cast hr
                have w4 : ¬ L = 0 := by omega
                have hgB := (HOr.out.lt g rfl).1
                clear hcb hcc hx hy8 hr hzl
                go_wp2
                go_still_tail 14, (by kernel_rfl)
                go_wp2
                refine ⟨⟨j + 1, by omega, by go_num, zs.set r y, by rw [List.length_set]; exact HZ.out, ?_, ?_⟩, by simp [intOf]; omega⟩
                · rw [List.map_set]
                  exact (HOr.out.drew.stored r (bc y)).1
                · exact HBr.out.drew.setCell hgB _
              · go_wp2
                go_meet
                exact ⟨zs, HZ.out, HOr.out, HBr.out⟩
            · go_wp2
              go_meet
              exact ⟨zs, HZ.out, HOr.out, HBr.out⟩
          · go_wp2
            go_meet
            exact ⟨zs, HZ.out, HOr.out, HBr.out⟩
        · go_wp2
          go_meet
          exact ⟨zs, HZ.out, HOr.out, HBr.out⟩
    case rest =>
      obtain ⟨zs, hz, hown, hbd⟩ := hcut
      have HZ := Lib.hid hz
      have HO8 := Lib.hid hown
      have HB8 := Lib.hid hbd
      have hz8 := hbd.size
      have HS8 := Lib.hid (HS.out.next hbd)
      clear hz hown hbd
      go_wp2_with (
        at_builtin
        refine wpList_append_row rfl (.tmp 79) (.tmp 80) _ rfl wc.heap.size 5 i0 _ 1 1 Tryd.underlying24 hi0 hz0 hz1 hz2 rfl (by omega) (.slice (some ⟨wc.heap.size, 0, none⟩) 0 0) 0 [] rfl
          (own_lit _ _ _) A7 L c7 wc.heap.size (zs.map bc) rfl (by rw [List.length_map, HZ.out]; omega) ((Row.of_own HO8.out).alloc (Nat.le_refl _) _) (bc_one zs) (by unfold maxLen; omega) (by omega) (by simp) ?_
        intro v9 W9 hown9 hg9
        simp only [Nat.zero_add, List.nil_append] at hown9
        obtain ⟨A9, c9, rfl, hc9, hc9'⟩ := own_form hown9
        have hb9 := own_below ((Below.refl wc.heap.size wc).alloc (Nat.le_refl _) _) (Nat.le_refl _) (by simp) (own_lit wc 5 1) hg9
        have HO9 := Lib.hid hown9
        have HB9 := Lib.hid (HB8.out.trans (hb9.mono hz8))
        have HS9 := Lib.hid (HS8.out.next hb9)
        have HR9 := Lib.hid ((Row.of_own HO8.out).below hb9)
        have hz9 := hb9.size
        clear hown9 hg9 hb9)
      refine (open_any A9 L c9 zs W9 HZ.out (Row.of_own HO9.out) hc9 HS9.out).mono ?_
      rintro e W10 ⟨v10, rfl, hown10, hb10⟩
      obtain ⟨hd0, hhd⟩ : ∃ hd0, openH zs = hd0 := ⟨_, rfl⟩
      rw [hhd]
      unfold SH.val
      have HO10 := Lib.hid hown10
      have hb10' := HB9.out.trans (hb10.mono (Nat.le_trans hz8 hz9))
      have HB10 := Lib.hid hb10'
      have HS10 := Lib.hid (HS.out.next hb10')
      have HR10 := Lib.hid (HR9.out.below (hb10.mono hz9))
      have hz10 := hb10.size
      have hW10 := Whole.made W10 hd0.cells 23
      have HW10 := Lib.hid hW10
      have HHD := Lib.hid hhd
      clear hown10 hb10 hb10' hW10 hhd
      go_wp2_with fail
      refine (refopen_any A7 L c7 zs _ HZ.out ((HR10.out.mono (Nat.le_trans hz9 hz10)).alloc (Nat.le_refl _) _ |>.mono (by simp)) hc7).mono ?_
      rintro e W11 ⟨v11, rfl, hown11, hb11⟩
      rw [HHD.out]
      unfold SH.val
      obtain ⟨A10, c10, rfl, h101, h102⟩ := own_form HO10.out
      obtain ⟨A11, c11, rfl, h111, h112⟩ := own_form hown11
      have HO11 := Lib.hid hown11
      have hW11 := HW10.out.below hb11 HW10.out.lt
      have HB11 := Lib.hid ((HB10.out.alloc (Nat.le_trans hz8 (Nat.le_trans hz9 hz10)) (.cells hd0.cells.toArray 23)).trans (hb11.mono (by simp; omega)))
      have hlt11 := hW11.lt
      have t0 : W11.cell? ⟨W10.heap.size, 0, none⟩ = some (.int .i64 hd0.kind) := hW11.cell 0
      have t1 : W11.cell? ⟨W10.heap.size, 1, none⟩ = some (.int .i64 hd0.epoch) := hW11.cell 1
      have t2 : W11.cell? ⟨W10.heap.size, 2, none⟩ = some (.int .i64 hd0.seq) := hW11.cell 2
      have t3 : W11.cell? ⟨W10.heap.size, 3, none⟩ = some (.int .i64 hd0.part) := hW11.cell 3
      have t4 : W11.cell? ⟨W10.heap.size, 4, none⟩ = some (.int .i64 hd0.parts) := hW11.cell 4
      have HR10b := Lib.hid (Row.of_own ((own_keep HO10.out (fun j hj => Below.heap_alloc W10 (.cells hd0.cells.toArray 23) j (HO10.out.lt j hj).2)) |> fun h => own_keep h (fun j hj => hb11.block j (h.lt j hj).2)))
      have HR11 := Lib.hid (Row.of_own hown11)
      have HM10 := Lib.hid (Nat.le_trans h101 h102)
      clear hown11 hb11 hW11 h101 h102 h111 h112
      by_cases he : openE zs = 0
      · rw [he]
        have e0 : (hd0.kind == hd0.kind) = true := by simp
        have e1 : (hd0.epoch == hd0.epoch) = true := by simp
        have e2 : (hd0.seq == hd0.seq) = true := by simp
        have e3 : (hd0.part == hd0.part) = true := by simp
        have e4 : (hd0.parts == hd0.parts) = true := by simp
        clear he
        obtain ⟨sb, hsb⟩ : ∃ sb, openB zs = sb := ⟨_, rfl⟩
        rw [hsb] at HR10b HR11 HM10 ⊢
        clear hsb
        go_wp2_with fail
        refine (same_yes A10 A11 sb.length sb.length c10 c11 W11.heap.size sb _ rfl rfl ((HR10b.out.alloc (by simp) _)) (HR11.out.alloc (Nat.le_refl _) _) HM10.out).mono ?_
        rintro e w6 ⟨rfl, k6, rfl⟩
        go_wp2
        go_ret
        exact ⟨rfl, below_drewN' (HB11.out.alloc HB11.out.size _) _⟩
      · have hh0 : hd0 = hzero := by rw [← HHD.out]; exact openH_no he
        have hb0 := openB_no he
        rw [hb0, hh0]
        rw [hh0] at t0 t1 t2 t3 t4
        obtain ⟨se, hse⟩ : ∃ se, openE zs = se := ⟨_, rfl⟩
        rw [hse] at he ⊢
        have e1 : (se == se) = true := by simp
        have e2 : (se != 0) = true := by rw [bne_iff_ne]; exact he
        clear he hse hb0 hh0
        go_wp2
        go_ret
        exact ⟨rfl, HB11.out.alloc HB11.out.size _⟩

set_option maxHeartbeats 1000000 in
set_option maxRecDepth 8000 in
theorem opens_long (A B C : Option Addr) (m cA n cB k cC : Nat) (l : List UInt8) (w : World) (hs : SizesAt w) (hl : l.length = m) (hA : Row w w.heap.size A (l.map bc)) (h : 2000 < m) (hm : m ≤ 140737488351232) :
    Calls Tryd.prog 4 #[.slice A m cA, .slice B n cB, .slice C k cC] w (TrueB w) := by
  have hd : decide ((2000 : Int) < (m : Int)) = true := by simp; omega
  have HL := Lib.hid hl
  have HA := Lib.hid hA
  have HS := Lib.hid hs
  obtain ⟨i0, hi0, hz0, hz1, hz2⟩ := info_parts u8_info
  clear hs hl hA
  go_enter Tryd.func4, Tryd.ntmps4
  go_wp2_with (
    at_builtin
    refine wpList_append_row rfl (.tmp 15) (.tmp 16) _ rfl w.heap.size 5 i0 _ 1 1 Tryd.underlying24 hi0 hz0 hz1 hz2 rfl (by omega) (.slice (some ⟨w.heap.size, 0, none⟩) 0 0) 0 [] rfl
      (own_lit _ _ _) A m cA w.heap.size (l.map bc) rfl (by rw [List.length_map, HL.out]; omega) (HA.out.alloc (Nat.le_refl _) _) (bc_one l) (by unfold maxLen; omega) (by omega) (by simp) ?_
    intro v1 W1 hown1 hg1
    simp only [Nat.zero_add, List.nil_append] at hown1
    obtain ⟨A1, c1, rfl, hc1, _⟩ := own_form hown1
    have hb1 := own_below ((Below.refl w.heap.size w).alloc (Nat.le_refl _) _) (Nat.le_refl _) (by simp) (own_lit w 5 1) hg1
    have HB1 := Lib.hid hb1
    have HS1 := Lib.hid (HS.out.next hb1)
    have hz1w := hb1.size
    clear hown1 hg1 hb1)
  refine (answers_any _ HS1.out).mono ?_
  rintro e W2 ⟨rfl, hb2⟩
  have HB2 := Lib.hid (HB1.out.trans (hb2.mono hz1w))
  have HS2 := Lib.hid (HS1.out.next hb2)
  clear hb2
  go_wp2_with fail
  refine (answers_any _ HS2.out).mono ?_
  rintro e W3 ⟨rfl, hb3⟩
  have HB3 := Lib.hid (HB2.out.trans (hb3.mono HB2.out.size))
  clear hb3
  go_wp2
  go_ret
  exact ⟨rfl, HB3.out⟩

theorem opens_any (A : Option Addr) (m cA : Nat) (l : List UInt8) (B : Option Addr) (n cB : Nat) (ns : List Nat) (C : Option Addr) (k cC : Nat) (tt : List UInt8) (w : World) (hs : SizesAt w)
    (hl : l.length = m) (hA : Row w w.heap.size A (l.map bc)) (hm : m ≤ 140737488351232) (hn : ns.length = n) (hB : Row w w.heap.size B (ns.map c16)) (hn16 : ∀ x ∈ ns, x < 65536) (hnm : n ≤ maxLen) (hk : tt.length = k) (hC : Row w w.heap.size C (tt.map bc)) (hkm : k ≤ maxLen) :
    Calls Tryd.prog 4 #[.slice A m cA, .slice B n cB, .slice C k cC] w (TrueB w) := by
  by_cases h : m ≤ 2000
  · exact opens_short A B C m cA n cB k cC l tt w hs hl hA h ns hn hB hn16 hk hC hnm hkm
  · exact opens_long A B C m cA n cB k cC l w hs hl hA (by omega) hm

end Go.Proofs.YtbojdhhgholgjaaDoor
