/-
  SuperCuts: the walk.
-/
import Derived.Test.YthjcpficpiddaaaDoorUCutsP
import Derived.IntWalk
namespace Go.Proofs.YthjcpficpiddaaaDoor
open Go.RowKit

structure FitsB (b : Blk) : Prop where
  out : b.fits = true
set_option maxHeartbeats 4000000 in
set_option maxRecDepth 8000 in
theorem cuts_in (A : Option Addr) (c : Nat) (l : List Blk) (q m t : Nat) (w : World) (hv : VarsAt w) (hA : BlksIn w w.heap.size A l) (hl1 : ¬ l.length < 1) (hl2 : ¬ 20 < l.length) (hq : q < 256) (hm : m < 18446744073709551616) (ht : t < 18446744073709551616) :
    Calls Tryd.prog 3 #[.slice A l.length c, .int .u8 (q : Int), .int .u64 (m : Int), .int .u64 (t : Int)] w (TrueB w) := by
  have HN := Lib.hid (h_new w w (Below.refl _ _) 4 (by decide) (by decide))
  have HV := Lib.hid hv
  have HA := Lib.hid hA
  have HMT := Lib.hid (And.intro hm ht)
  have HQ := Lib.hid hq
  have HL := Lib.hid (show 0 < l.length ∧ l.length ≤ 20 from ⟨by omega, by omega⟩)
  have d1 : decide ((l.length : Int) < 1) = false := by simp; omega
  have d2 : decide ((20 : Int) < (l.length : Int)) = false := by simp; omega
  clear hv hA hl1 hl2 hm ht hq
  go_enter Tryd.func3, Tryd.ntmps3
  go_wp2_with fail
  refine HN.out.mono ?_
  rintro e w1 ⟨D, rfl, hh1⟩
  have HH1 := Lib.hid hh1
  clear hh1
  go_wp2_with fail
  refine (sanswers_any _ (HV.out.next HH1.out.below)).mono ?_
  rintro e w2 ⟨rfl, hb2⟩
  have HH2 := Lib.hid (HH1.out.next hb2)
  clear hb2
  go_wp2
  have HW3 := Lib.hid (Whole.made w2 bzero.cells 30)
  have HH3 := Lib.hid (HH2.out.alloc (.cells bzero.cells.toArray 30))
  have HLB := Lib.hid (show w.heap.size ≤ w2.heap.size from HH2.out.below.size)
  clear d1 d2
  go_loopw [12] (CutsRel l w D w2.heap.size) (fun i _ => 20 - (intOf i).toNat)
  case atStart => exact ⟨0, _, HL.out.1, rfl, HH3.out, by simp, inv_new 4, HW3.out⟩
  case round =>
    obtain ⟨k, S, hk, rfl, hh, hS, hi, hwp⟩ := hrel
    have d1 : decide ((k : Int) < (l.length : Int)) = true := by simp; omega
    obtain ⟨b, off, rfl, hbH, hcell, hin⟩ := HA.out k hk
    have HH := Lib.hid hh
    have HS := Lib.hid hS
    have HI := Lib.hid hi
    have HWP := Lib.hid hwp
    have HK := Lib.hid hk
    obtain ⟨x, hx⟩ : ∃ x, l[k]'hk = x := ⟨_, rfl⟩
    simp only [hx] at hcell hin
    have hrange : wr.rangeAt b (off + k * 5) x.cells := fun j v hj => by
      rw [Nat.add_assoc]
      exact (hh.below.cell (p := ⟨b, off + (k * 5 + j), none⟩) hbH).trans (hcell j v hj)
    have HX := Lib.hid (show blkK l k = { x with gen := (k : Int) } by unfold blkK; rw [List.getD_eq_getElem?_getD, List.getElem?_eq_getElem hk, hx]; rfl)
    have HIN := Lib.hid hin
    have hk2 : (k : Int) < (l.length : Int) := by omega
    clear hh hS hi hwp hx hin hcell
    go_wp2_with (refine wpList_load_mid rfl 30 (.tmp 54) rfl b (off + k * 5) rfl [.int .i64 x.gen, .int .i64 x.epoch, .int .i64 x.first, .int .i64 x.begun, .int .i64 x.count] _ hrange Tryd.underlying30 rfl blk_info ?_)
    generalize hW4 : wr.alloc (Obj.cells #[.int .i64 (k : Int), .int .i64 x.epoch, .int .i64 x.first, .int .i64 x.begun, .int .i64 x.count] 30) = W4
    have HW4 := Lib.hid (show Whole W4 wr.heap.size 30 [.int .i64 (k : Int), .int .i64 x.epoch, .int .i64 x.first, .int .i64 x.begun, .int .i64 x.count] by rw [← hW4]; exact Whole.made _ _ _)
    have HH4 := Lib.hid (show Holds w W4 D ⟨S, [], 0, false⟩ by rw [← hW4]; exact HH.out.alloc _)
    have HP4 := Lib.hid (show Whole W4 w2.heap.size 30 (prevB l k).cells by rw [← hW4]; exact HWP.out.alloc _)
    have HNE := Lib.hid (show w2.heap.size < wr.heap.size from HWP.out.lt)
    obtain ⟨bw, hbw⟩ : ∃ bw, wr.heap.size = bw := ⟨_, rfl⟩
    rw [hbw] at HW4 HNE ⊢
    have c0 : W4.cell? ⟨bw, 0, none⟩ = some (.int .i64 (k : Int)) := HW4.out.cell 0
    have c1 : W4.cell? ⟨bw, 1, none⟩ = some (.int .i64 x.epoch) := HW4.out.cell 1
    have c2 : W4.cell? ⟨bw, 2, none⟩ = some (.int .i64 x.first) := HW4.out.cell 2
    have c3 : W4.cell? ⟨bw, 3, none⟩ = some (.int .i64 x.begun) := HW4.out.cell 3
    have c4 : W4.cell? ⟨bw, 4, none⟩ = some (.int .i64 x.count) := HW4.out.cell 4
    clear hW4 hrange hbw
    have HC1 := Lib.hid fun W => ref_fits_any x.epoch 7 W (i64_le HIN.out.epoch).2
    cases hf1 : fitB x.epoch 7 with
    | false =>
      rw [hf1] at HC1
      clear hf1
      refine (HC1.out _).mono ?_
      rintro e w' ⟨rfl, rfl⟩
      go_wp2
      go_ret
      exact ⟨rfl, HH4.out.below⟩
    | true =>
      rw [hf1] at HC1
      have HF1 := Lib.hid hf1
      clear hf1
      refine (HC1.out _).mono ?_
      rintro e w' ⟨rfl, rfl⟩
      go_wp2_with fail
      have HC2 := Lib.hid fun W => ref_fits_any x.first 7 W (i64_le HIN.out.first).2
      cases hf2 : fitB x.first 7 with
      | false =>
        rw [hf2] at HC2
        clear hf2
        refine (HC2.out _).mono ?_
        rintro e w' ⟨rfl, rfl⟩
        go_wp2
        go_ret
        exact ⟨rfl, HH4.out.below⟩
      | true =>
        rw [hf2] at HC2
        have HF2 := Lib.hid hf2
        clear hf2
        refine (HC2.out _).mono ?_
        rintro e w' ⟨rfl, rfl⟩
        go_wp2_with fail
        have HC3 := Lib.hid fun W => ref_fits_any x.begun 7 W (i64_le HIN.out.begun).2
        cases hf3 : fitB x.begun 7 with
        | false =>
          rw [hf3] at HC3
          clear hf3
          refine (HC3.out _).mono ?_
          rintro e w' ⟨rfl, rfl⟩
          go_wp2
          go_ret
          exact ⟨rfl, HH4.out.below⟩
        | true =>
          rw [hf3] at HC3
          have HF3 := Lib.hid hf3
          clear hf3
          refine (HC3.out _).mono ?_
          rintro e w' ⟨rfl, rfl⟩
          go_wp2_with fail
          have HC4 := Lib.hid fun W => ref_fits_any x.count 7 W (i64_le HIN.out.count).2
          cases hf4 : fitB x.count 7 with
          | false =>
            rw [hf4] at HC4
            clear hf4
            refine (HC4.out _).mono ?_
            rintro e w' ⟨rfl, rfl⟩
            go_wp2
            go_ret
            exact ⟨rfl, HH4.out.below⟩
          | true =>
            rw [hf4] at HC4
            have HF4 := Lib.hid hf4
            clear hf4
            refine (HC4.out _).mono ?_
            rintro e w' ⟨rfl, rfl⟩
            have HFY : FitsB (blkK l k) := ⟨by rw [HX.out, Blk.fits_all]; simp only [HF1.out, HF2.out, HF3.out, HF4.out, fit_small (show (0 : Int) ≤ (k : Int) by omega) (show (k : Int) < 100 by have := HL.out.2; have := HK.out; omega)]; rfl⟩
            have hyv : (blkK l k).val = .agg #[.int .i64 (k : Int), .int .i64 x.epoch, .int .i64 x.first, .int .i64 x.begun, .int .i64 x.count] := by rw [HX.out]; rfl
            have hyc : (blkK l k).cells = [.int .i64 (k : Int), .int .i64 x.epoch, .int .i64 x.first, .int .i64 x.begun, .int .i64 x.count] := by rw [HX.out]; rfl
            have HYC := Lib.hid hyc
            have hnx : Next (prevO l k) (blkK l k) ((blkK l k).gen % 2).toNat := Next.of _ _ (next_prev l k) (by rw [HX.out]; exact Int.natCast_nonneg k)
            have HNX := Lib.hid hnx
            clear HC1 HC2 HC3 HC4 HF1 HF2 HF3 HF4 hyc
            have rl : wrap64 ((l.length : Int) - 1) = (l.length : Int) - 1 := by have := HL.out.2; unfold wrap64; omega
            by_cases hla : k + 1 < l.length
            · have d3 : decide ((k : Int) < (l.length : Int) - 1) = true := by simp; omega
              have HLA := Lib.hid hla
              obtain ⟨S5, hsw1, hsw2, hsw3, hsw4⟩ := save_step l k HS.out HI.out HFY.out
              have hs0 := save_any HH4.out HV.out (blkK l k) HFY.out (show (0 : Nat) < 4294967295 by decide)
              rw [hsw1, hsw2, hyv] at hs0
              have HS5 := Lib.hid hsw3
              have HI5 := Lib.hid hsw4
              have HSV := Lib.hid hs0
              clear hla hk hk2 d1 hsw1 hsw2 hsw3 hsw4 hs0 hyv hnx
              go_wp2_with fail
              refine HSV.out.mono ?_
              rintro e w5 ⟨rfl, hh5, hk5⟩
              have HH5 := Lib.hid hh5
              have HW5 := Lib.hid (hk5.whole HW4.out blk_notD)
              have HP5 := Lib.hid (hk5.whole HP4.out blk_notD)
              clear hh5 hk5 c0 c1 c2 c3 c4
              have c0 : w5.cell? ⟨bw, 0, none⟩ = some (.int .i64 (k : Int)) := HW5.out.cell 0
              have c1 : w5.cell? ⟨bw, 1, none⟩ = some (.int .i64 x.epoch) := HW5.out.cell 1
              have c2 : w5.cell? ⟨bw, 2, none⟩ = some (.int .i64 x.first) := HW5.out.cell 2
              have c3 : w5.cell? ⟨bw, 3, none⟩ = some (.int .i64 x.begun) := HW5.out.cell 3
              have c4 : w5.cell? ⟨bw, 4, none⟩ = some (.int .i64 x.count) := HW5.out.cell 4
              have hkb : k < 20 := by have := HK.out; have := HL.out.2; omega
              go_wp2_with (
                refine wpList_store_at rfl 30 (.tmp 11) (.tmp 89) rfl w2.heap.size 0 [.int .i64 (k : Int), .int .i64 x.epoch, .int .i64 x.first, .int .i64 x.begun, .int .i64 x.count] rfl rfl 30 _ HP5.out (Nat.le_refl 5) blk_info (by simp [Value.oneCell']) ?_
                intro V hv1 hv2 hv3
                rw [show splice (prevB l k).cells 0 [.int .i64 (k : Int), .int .i64 x.epoch, .int .i64 x.first, .int .i64 x.begun, .int .i64 x.count] = [.int .i64 (k : Int), .int .i64 x.epoch, .int .i64 x.first, .int .i64 x.begun, .int .i64 x.count] from rfl] at hv1
                have HV1 := Lib.hid hv1
                have HHV := Lib.hid (HH5.out.far HP5.out blk_notD hv2 HLB.out)
                clear hv1 hv2 hv3)
              refine ⟨⟨k + 1, S5, HLA.out, by go_num, HHV.out, HS5.out, HI5.out, ?_⟩, by simp only [intOf]; omega⟩
              show Whole V w2.heap.size 30 (blkK l k).cells
              rw [HYC.out]
              exact HV1.out
            · have d3 : decide ((k : Int) < (l.length : Int) - 1) = false := by simp; omega
              have hlim : (Dv.mk S [] 0 false).limited ((q : Int) % 5) = ⟨S, [], q % 5, false⟩ := by
                have e : ((q : Int) % 5).toNat = q % 5 := by omega
                unfold Dv.limited
                rw [if_neg (by omega), e]
              have hli := h_limit HH4.out ((q : Int) % 5) (by omega)
              rw [hlim] at hli
              have HLI := Lib.hid hli
              have hcu := cuts (S := S) (by rw [HS.out]; decide) HI.out hnx HFY.out (q % 5) m t
              have HCU := Lib.hid hcu
              have HYV := Lib.hid hyv
              clear hla hk hk2 d1 hlim hli hcu hyv hnx
              go_wp2_with fail
              refine HLI.out.mono ?_
              rintro e w5 ⟨rfl, hh5, hk5⟩
              have HH5 := Lib.hid hh5
              have HW5 := Lib.hid (hk5.whole HW4.out blk_notD)
              have HP5 := Lib.hid (hk5.whole HP4.out blk_notD)
              have hs0 := save_any HH5.out HV.out (blkK l k) HFY.out (show (0 : Nat) < 4294967295 by decide)
              rw [HYV.out] at hs0
              have HSV := Lib.hid hs0
              clear hh5 hk5 hs0 c0 c1 c2 c3 c4
              have c0 : w5.cell? ⟨bw, 0, none⟩ = some (.int .i64 (k : Int)) := HW5.out.cell 0
              have c1 : w5.cell? ⟨bw, 1, none⟩ = some (.int .i64 x.epoch) := HW5.out.cell 1
              have c2 : w5.cell? ⟨bw, 2, none⟩ = some (.int .i64 x.first) := HW5.out.cell 2
              have c3 : w5.cell? ⟨bw, 3, none⟩ = some (.int .i64 x.begun) := HW5.out.cell 3
              have c4 : w5.cell? ⟨bw, 4, none⟩ = some (.int .i64 x.count) := HW5.out.cell 4
              go_wp2_with fail
              refine HSV.out.mono ?_
              rintro e w6 ⟨rfl, hh6, hk6⟩
              have HCR := Lib.hid (h_crash hh6 m t HMT.out.1 HMT.out.2 (Nat.lt_of_le_of_lt (save_uns _ _) (show (0 : Nat) + 1 < 4294967296 by decide)))
              have HW6 := Lib.hid (hk6.whole HW5.out blk_notD)
              have HP6 := Lib.hid (hk6.whole HP5.out blk_notD)
              obtain ⟨S', hS1, hS2, hS3⟩ := HCU.out
              rw [hS1] at HCR
              obtain ⟨f, hf⟩ : ∃ f, (Dv.mk S [] (q % 5) false).saveE (blkK l k) = f := ⟨_, rfl⟩
              rw [hf] at hS3 ⊢
              have HS2 := Lib.hid (show 2 ≤ S'.length by rw [hS2, HS.out]; decide)
              have HS3 := Lib.hid hS3
              clear hh6 hk6 hf hS1 hS2 hS3 c0 c1 c2 c3 c4
              go_wp2_with fail
              refine HCR.out.mono ?_
              rintro e w7 ⟨rfl, hh7, hk7⟩
              have HH7 := Lib.hid hh7
              have HW7 := Lib.hid (hk7.whole HW6.out blk_notD)
              have HP7 := Lib.hid (hk7.whole HP6.out blk_notD)
              have HLO := Lib.hid (load_any hh7 (HV.out.next hh7.below))
              clear hh7 hk7
              go_wp2_with fail
              refine HLO.out.mono ?_
              rintro e w8 ⟨rfl, hb8⟩
              have HH8 := Lib.hid (HH7.out.next hb8)
              have HW8 := Lib.hid (HW7.out.below hb8 HW7.out.lt)
              have HP8 := Lib.hid (HP7.out.below hb8 HP7.out.lt)
              clear hb8 d3
              have hkb : k < 20 := by have := HK.out; have := HL.out.2; omega
              rcases HS3.out with ⟨hf, hi⟩ | ⟨hf, hi | hi⟩
              · subst hf
                have hlo := load_holds hi HS2.out
                rw [hlo.1, hlo.2, HYV.out]
                have c0 : ∀ o : Obj, (w8.alloc o).cell? ⟨bw, 0, none⟩ = some (.int .i64 (k : Int)) := fun o => (HW8.out.alloc o).cell 0
                have c1 : ∀ o : Obj, (w8.alloc o).cell? ⟨bw, 1, none⟩ = some (.int .i64 x.epoch) := fun o => (HW8.out.alloc o).cell 1
                have c2 : ∀ o : Obj, (w8.alloc o).cell? ⟨bw, 2, none⟩ = some (.int .i64 x.first) := fun o => (HW8.out.alloc o).cell 2
                have c3 : ∀ o : Obj, (w8.alloc o).cell? ⟨bw, 3, none⟩ = some (.int .i64 x.begun) := fun o => (HW8.out.alloc o).cell 3
                have c4 : ∀ o : Obj, (w8.alloc o).cell? ⟨bw, 4, none⟩ = some (.int .i64 x.count) := fun o => (HW8.out.alloc o).cell 4
                obtain ⟨S9, hs1, hs2, hs3, hs4⟩ := save_more HS2.out hi (b := ⟨(k : Int) + 1, 3, 0, 0, 0⟩) (by show (k : Int) + 1 = (blkK l k).gen + 1; rw [HX.out]) (show (0 : Int) ≤ (k : Int) + 1 by omega) (by rw [Blk.fits_all]; show (fitB ((k : Int) + 1) 7 && fitB 3 7 && fitB 0 7 && fitB 0 7 && fitB 0 7) = true; rw [fit_small (n := (k : Int) + 1) (by omega) (by omega)]; rfl)
                have hl9 := load_holds hs4 hs3
                have HL9 := Lib.hid hl9
                have hs9 : ∀ W, Holds w W D ⟨S', [], 0, false⟩ → Calls Tryd.prog 8 #[.pointer (some ⟨D, 0, none⟩), .agg #[.int .i64 ((k : Int) + 1), .int .i64 3, .int .i64 0, .int .i64 0, .int .i64 0]] W (fun e w' => e = .returned (.int .i64 0) ∧ Holds w w' D ⟨S9, [], 0, false⟩ ∧ Kept W w') := fun W hh => by
                  have := save_any hh HV.out ⟨(k : Int) + 1, 3, 0, 0, 0⟩ (by rw [Blk.fits_all]; show (fitB ((k : Int) + 1) 7 && fitB 3 7 && fitB 0 7 && fitB 0 7 && fitB 0 7) = true; rw [fit_small (n := (k : Int) + 1) (by omega) (by omega)]; rfl) (show (0 : Nat) < 4294967295 by decide)
                  rwa [hs1, hs2] at this
                have HS9 := Lib.hid hs9
                have hn1 : ∀ W, (binOp .neq 30 (.agg #[.int .i64 (k : Int), .int .i64 x.epoch, .int .i64 x.first, .int .i64 x.begun, .int .i64 x.count]) (.agg #[.int .i64 (k : Int), .int .i64 x.epoch, .int .i64 x.first, .int .i64 x.begun, .int .i64 x.count])).run Tryd.prog W = .ok (.bool false) W := fun W => by have := blk_neq ⟨(k : Int), x.epoch, x.first, x.begun, x.count⟩ ⟨(k : Int), x.epoch, x.first, x.begun, x.count⟩ W; rw [Blk.same_self] at this; exact this
                have he9 : ∀ W, (binOp .eql 30 (.agg #[.int .i64 ((k : Int) + 1), .int .i64 3, .int .i64 0, .int .i64 0, .int .i64 0]) (.agg #[.int .i64 ((k : Int) + 1), .int .i64 3, .int .i64 0, .int .i64 0, .int .i64 0])).run Tryd.prog W = .ok (.bool true) W := fun W => by have := blk_eql ⟨(k : Int) + 1, 3, 0, 0, 0⟩ ⟨(k : Int) + 1, 3, 0, 0, 0⟩ W; rw [Blk.same_self] at this; exact this
                have hnw := Whole.made (w8.alloc (.cells [.int .i64 (k : Int), .int .i64 x.epoch, .int .i64 x.first, .int .i64 x.begun, .int .i64 x.count].toArray 30)) [.int .i64 ((k : Int) + 1), .int .i64 3, .int .i64 0, .int .i64 0, .int .i64 0] 30
                rw [show (w8.alloc (.cells [.int .i64 (k : Int), .int .i64 x.epoch, .int .i64 x.first, .int .i64 x.begun, .int .i64 x.count].toArray 30)).heap.size = w8.heap.size + 1 by simp] at hnw
                have HNW := Lib.hid hnw
                clear hlo hs1 hs2 hs3 hs4 hl9 hs9 hnw
                go_wp2_with fail
                refine (HS9.out _ ((HH8.out.alloc _).alloc _)).mono ?_
                rintro e w9 ⟨rfl, hh9, hk9⟩
                have HH9 := Lib.hid hh9
                have HN9 := Lib.hid (hk9.whole HNW.out blk_notD)
                have hlo9 := load_any hh9 (HV.out.next hh9.below)
                rw [HL9.out.1, HL9.out.2] at hlo9
                have HLO9 := Lib.hid hlo9
                clear hh9 hk9 hlo9
                go_wp2_with fail
                refine HLO9.out.mono ?_
                rintro e w10 ⟨rfl, hb10⟩
                have HH10 := Lib.hid (HH9.out.next hb10)
                have HN10 := Lib.hid (HN9.out.below hb10 HN9.out.lt)
                have n0 : ∀ o : Obj, (w10.alloc o).cell? ⟨w8.heap.size + 1, 0, none⟩ = some (.int .i64 ((k : Int) + 1)) := fun o => (HN10.out.alloc o).cell 0
                have n1 : ∀ o : Obj, (w10.alloc o).cell? ⟨w8.heap.size + 1, 1, none⟩ = some (.int .i64 3) := fun o => (HN10.out.alloc o).cell 1
                have n2 : ∀ o : Obj, (w10.alloc o).cell? ⟨w8.heap.size + 1, 2, none⟩ = some (.int .i64 0) := fun o => (HN10.out.alloc o).cell 2
                have n3 : ∀ o : Obj, (w10.alloc o).cell? ⟨w8.heap.size + 1, 3, none⟩ = some (.int .i64 0) := fun o => (HN10.out.alloc o).cell 3
                have n4 : ∀ o : Obj, (w10.alloc o).cell? ⟨w8.heap.size + 1, 4, none⟩ = some (.int .i64 0) := fun o => (HN10.out.alloc o).cell 4
                clear hb10
                rw [show Blk.val ⟨(k : Int) + 1, 3, 0, 0, 0⟩ = .agg #[.int .i64 ((k : Int) + 1), .int .i64 3, .int .i64 0, .int .i64 0, .int .i64 0] from rfl]
                go_wp2
                go_ret
                exact ⟨rfl, (HH10.out.alloc _).below⟩
              · subst hf
                have hi2 := Lib.hid hi
                clear hi
                by_cases hk0 : 0 < k
                · skip
                  have hlo := load_holds hi2.out HS2.out
                  rw [hlo.1, hlo.2, HYV.out]
                  have dk1 : decide ((0 : Int) < (k : Int)) = true := by simp; omega
                  have dk3 : decide (0 < k) = true := by simp; omega
                  have dk4 : (k == 0) = false := by simp; omega
                  have dk5 : decide (k = 0) = false := by simp; omega
                  have dk2 : ((k : Int) == 0) = false := by simp; omega
                  clear hk0
                  have c0 : ∀ o : Obj, (w8.alloc o).cell? ⟨bw, 0, none⟩ = some (.int .i64 (k : Int)) := fun o => (HW8.out.alloc o).cell 0
                  have c1 : ∀ o : Obj, (w8.alloc o).cell? ⟨bw, 1, none⟩ = some (.int .i64 x.epoch) := fun o => (HW8.out.alloc o).cell 1
                  have c2 : ∀ o : Obj, (w8.alloc o).cell? ⟨bw, 2, none⟩ = some (.int .i64 x.first) := fun o => (HW8.out.alloc o).cell 2
                  have c3 : ∀ o : Obj, (w8.alloc o).cell? ⟨bw, 3, none⟩ = some (.int .i64 x.begun) := fun o => (HW8.out.alloc o).cell 3
                  have c4 : ∀ o : Obj, (w8.alloc o).cell? ⟨bw, 4, none⟩ = some (.int .i64 x.count) := fun o => (HW8.out.alloc o).cell 4
                  obtain ⟨S9, hs1, hs2, hs3, hs4⟩ := save_more HS2.out hi2.out (b := ⟨(k : Int) + 1, 3, 0, 0, 0⟩) (by show (k : Int) + 1 = (blkK l k).gen + 1; rw [HX.out]) (show (0 : Int) ≤ (k : Int) + 1 by omega) (by rw [Blk.fits_all]; show (fitB ((k : Int) + 1) 7 && fitB 3 7 && fitB 0 7 && fitB 0 7 && fitB 0 7) = true; rw [fit_small (n := (k : Int) + 1) (by omega) (by omega)]; rfl)
                  have hl9 := load_holds hs4 hs3
                  have HL9 := Lib.hid hl9
                  have hs9 : ∀ W, Holds w W D ⟨S', [], 0, false⟩ → Calls Tryd.prog 8 #[.pointer (some ⟨D, 0, none⟩), .agg #[.int .i64 ((k : Int) + 1), .int .i64 3, .int .i64 0, .int .i64 0, .int .i64 0]] W (fun e w' => e = .returned (.int .i64 0) ∧ Holds w w' D ⟨S9, [], 0, false⟩ ∧ Kept W w') := fun W hh => by
                    have := save_any hh HV.out ⟨(k : Int) + 1, 3, 0, 0, 0⟩ (by rw [Blk.fits_all]; show (fitB ((k : Int) + 1) 7 && fitB 3 7 && fitB 0 7 && fitB 0 7 && fitB 0 7) = true; rw [fit_small (n := (k : Int) + 1) (by omega) (by omega)]; rfl) (show (0 : Nat) < 4294967295 by decide)
                    rwa [hs1, hs2] at this
                  have HS9 := Lib.hid hs9
                  have hn1 : ∀ W, (binOp .neq 30 (.agg #[.int .i64 (k : Int), .int .i64 x.epoch, .int .i64 x.first, .int .i64 x.begun, .int .i64 x.count]) (.agg #[.int .i64 (k : Int), .int .i64 x.epoch, .int .i64 x.first, .int .i64 x.begun, .int .i64 x.count])).run Tryd.prog W = .ok (.bool false) W := fun W => by have := blk_neq ⟨(k : Int), x.epoch, x.first, x.begun, x.count⟩ ⟨(k : Int), x.epoch, x.first, x.begun, x.count⟩ W; rw [Blk.same_self] at this; exact this
                  have he9 : ∀ W, (binOp .eql 30 (.agg #[.int .i64 ((k : Int) + 1), .int .i64 3, .int .i64 0, .int .i64 0, .int .i64 0]) (.agg #[.int .i64 ((k : Int) + 1), .int .i64 3, .int .i64 0, .int .i64 0, .int .i64 0])).run Tryd.prog W = .ok (.bool true) W := fun W => by have := blk_eql ⟨(k : Int) + 1, 3, 0, 0, 0⟩ ⟨(k : Int) + 1, 3, 0, 0, 0⟩ W; rw [Blk.same_self] at this; exact this
                  have hnw := Whole.made (w8.alloc (.cells [.int .i64 (k : Int), .int .i64 x.epoch, .int .i64 x.first, .int .i64 x.begun, .int .i64 x.count].toArray 30)) [.int .i64 ((k : Int) + 1), .int .i64 3, .int .i64 0, .int .i64 0, .int .i64 0] 30
                  rw [show (w8.alloc (.cells [.int .i64 (k : Int), .int .i64 x.epoch, .int .i64 x.first, .int .i64 x.begun, .int .i64 x.count].toArray 30)).heap.size = w8.heap.size + 1 by simp] at hnw
                  have HNW := Lib.hid hnw
                  clear hlo hs1 hs2 hs3 hs4 hl9 hs9 hnw
                  go_wp2_with fail
                  refine (HS9.out _ ((HH8.out.alloc _).alloc _)).mono ?_
                  rintro e w9 ⟨rfl, hh9, hk9⟩
                  have HH9 := Lib.hid hh9
                  have HN9 := Lib.hid (hk9.whole HNW.out blk_notD)
                  have hlo9 := load_any hh9 (HV.out.next hh9.below)
                  rw [HL9.out.1, HL9.out.2] at hlo9
                  have HLO9 := Lib.hid hlo9
                  clear hh9 hk9 hlo9
                  go_wp2_with fail
                  refine HLO9.out.mono ?_
                  rintro e w10 ⟨rfl, hb10⟩
                  have HH10 := Lib.hid (HH9.out.next hb10)
                  have HN10 := Lib.hid (HN9.out.below hb10 HN9.out.lt)
                  have n0 : ∀ o : Obj, (w10.alloc o).cell? ⟨w8.heap.size + 1, 0, none⟩ = some (.int .i64 ((k : Int) + 1)) := fun o => (HN10.out.alloc o).cell 0
                  have n1 : ∀ o : Obj, (w10.alloc o).cell? ⟨w8.heap.size + 1, 1, none⟩ = some (.int .i64 3) := fun o => (HN10.out.alloc o).cell 1
                  have n2 : ∀ o : Obj, (w10.alloc o).cell? ⟨w8.heap.size + 1, 2, none⟩ = some (.int .i64 0) := fun o => (HN10.out.alloc o).cell 2
                  have n3 : ∀ o : Obj, (w10.alloc o).cell? ⟨w8.heap.size + 1, 3, none⟩ = some (.int .i64 0) := fun o => (HN10.out.alloc o).cell 3
                  have n4 : ∀ o : Obj, (w10.alloc o).cell? ⟨w8.heap.size + 1, 4, none⟩ = some (.int .i64 0) := fun o => (HN10.out.alloc o).cell 4
                  clear hb10
                  rw [show Blk.val ⟨(k : Int) + 1, 3, 0, 0, 0⟩ = .agg #[.int .i64 ((k : Int) + 1), .int .i64 3, .int .i64 0, .int .i64 0, .int .i64 0] from rfl]
                  go_wp2
                  go_ret
                  exact ⟨rfl, (HH10.out.alloc _).below⟩
                · skip
                  have hlo := load_holds hi2.out HS2.out
                  rw [hlo.1, hlo.2, HYV.out]
                  have dk1 : decide ((0 : Int) < (k : Int)) = false := by simp; omega
                  have dk3 : decide (0 < k) = false := by simp; omega
                  have dk4 : (k == 0) = true := by simp; omega
                  have dk5 : decide (k = 0) = true := by simp; omega
                  have dk2 : ((k : Int) == 0) = true := by simp; omega
                  clear hk0
                  have c0 : ∀ o : Obj, (w8.alloc o).cell? ⟨bw, 0, none⟩ = some (.int .i64 (k : Int)) := fun o => (HW8.out.alloc o).cell 0
                  have c1 : ∀ o : Obj, (w8.alloc o).cell? ⟨bw, 1, none⟩ = some (.int .i64 x.epoch) := fun o => (HW8.out.alloc o).cell 1
                  have c2 : ∀ o : Obj, (w8.alloc o).cell? ⟨bw, 2, none⟩ = some (.int .i64 x.first) := fun o => (HW8.out.alloc o).cell 2
                  have c3 : ∀ o : Obj, (w8.alloc o).cell? ⟨bw, 3, none⟩ = some (.int .i64 x.begun) := fun o => (HW8.out.alloc o).cell 3
                  have c4 : ∀ o : Obj, (w8.alloc o).cell? ⟨bw, 4, none⟩ = some (.int .i64 x.count) := fun o => (HW8.out.alloc o).cell 4
                  obtain ⟨S9, hs1, hs2, hs3, hs4⟩ := save_more HS2.out hi2.out (b := ⟨(k : Int) + 1, 3, 0, 0, 0⟩) (by show (k : Int) + 1 = (blkK l k).gen + 1; rw [HX.out]) (show (0 : Int) ≤ (k : Int) + 1 by omega) (by rw [Blk.fits_all]; show (fitB ((k : Int) + 1) 7 && fitB 3 7 && fitB 0 7 && fitB 0 7 && fitB 0 7) = true; rw [fit_small (n := (k : Int) + 1) (by omega) (by omega)]; rfl)
                  have hl9 := load_holds hs4 hs3
                  have HL9 := Lib.hid hl9
                  have hs9 : ∀ W, Holds w W D ⟨S', [], 0, false⟩ → Calls Tryd.prog 8 #[.pointer (some ⟨D, 0, none⟩), .agg #[.int .i64 ((k : Int) + 1), .int .i64 3, .int .i64 0, .int .i64 0, .int .i64 0]] W (fun e w' => e = .returned (.int .i64 0) ∧ Holds w w' D ⟨S9, [], 0, false⟩ ∧ Kept W w') := fun W hh => by
                    have := save_any hh HV.out ⟨(k : Int) + 1, 3, 0, 0, 0⟩ (by rw [Blk.fits_all]; show (fitB ((k : Int) + 1) 7 && fitB 3 7 && fitB 0 7 && fitB 0 7 && fitB 0 7) = true; rw [fit_small (n := (k : Int) + 1) (by omega) (by omega)]; rfl) (show (0 : Nat) < 4294967295 by decide)
                    rwa [hs1, hs2] at this
                  have HS9 := Lib.hid hs9
                  have hn1 : ∀ W, (binOp .neq 30 (.agg #[.int .i64 (k : Int), .int .i64 x.epoch, .int .i64 x.first, .int .i64 x.begun, .int .i64 x.count]) (.agg #[.int .i64 (k : Int), .int .i64 x.epoch, .int .i64 x.first, .int .i64 x.begun, .int .i64 x.count])).run Tryd.prog W = .ok (.bool false) W := fun W => by have := blk_neq ⟨(k : Int), x.epoch, x.first, x.begun, x.count⟩ ⟨(k : Int), x.epoch, x.first, x.begun, x.count⟩ W; rw [Blk.same_self] at this; exact this
                  have he9 : ∀ W, (binOp .eql 30 (.agg #[.int .i64 ((k : Int) + 1), .int .i64 3, .int .i64 0, .int .i64 0, .int .i64 0]) (.agg #[.int .i64 ((k : Int) + 1), .int .i64 3, .int .i64 0, .int .i64 0, .int .i64 0])).run Tryd.prog W = .ok (.bool true) W := fun W => by have := blk_eql ⟨(k : Int) + 1, 3, 0, 0, 0⟩ ⟨(k : Int) + 1, 3, 0, 0, 0⟩ W; rw [Blk.same_self] at this; exact this
                  have hnw := Whole.made (w8.alloc (.cells [.int .i64 (k : Int), .int .i64 x.epoch, .int .i64 x.first, .int .i64 x.begun, .int .i64 x.count].toArray 30)) [.int .i64 ((k : Int) + 1), .int .i64 3, .int .i64 0, .int .i64 0, .int .i64 0] 30
                  rw [show (w8.alloc (.cells [.int .i64 (k : Int), .int .i64 x.epoch, .int .i64 x.first, .int .i64 x.begun, .int .i64 x.count].toArray 30)).heap.size = w8.heap.size + 1 by simp] at hnw
                  have HNW := Lib.hid hnw
                  clear hlo hs1 hs2 hs3 hs4 hl9 hs9 hnw
                  go_wp2_with fail
                  refine (HS9.out _ ((HH8.out.alloc _).alloc _)).mono ?_
                  rintro e w9 ⟨rfl, hh9, hk9⟩
                  have HH9 := Lib.hid hh9
                  have HN9 := Lib.hid (hk9.whole HNW.out blk_notD)
                  have hlo9 := load_any hh9 (HV.out.next hh9.below)
                  rw [HL9.out.1, HL9.out.2] at hlo9
                  have HLO9 := Lib.hid hlo9
                  clear hh9 hk9 hlo9
                  go_wp2_with fail
                  refine HLO9.out.mono ?_
                  rintro e w10 ⟨rfl, hb10⟩
                  have HH10 := Lib.hid (HH9.out.next hb10)
                  have HN10 := Lib.hid (HN9.out.below hb10 HN9.out.lt)
                  have n0 : ∀ o : Obj, (w10.alloc o).cell? ⟨w8.heap.size + 1, 0, none⟩ = some (.int .i64 ((k : Int) + 1)) := fun o => (HN10.out.alloc o).cell 0
                  have n1 : ∀ o : Obj, (w10.alloc o).cell? ⟨w8.heap.size + 1, 1, none⟩ = some (.int .i64 3) := fun o => (HN10.out.alloc o).cell 1
                  have n2 : ∀ o : Obj, (w10.alloc o).cell? ⟨w8.heap.size + 1, 2, none⟩ = some (.int .i64 0) := fun o => (HN10.out.alloc o).cell 2
                  have n3 : ∀ o : Obj, (w10.alloc o).cell? ⟨w8.heap.size + 1, 3, none⟩ = some (.int .i64 0) := fun o => (HN10.out.alloc o).cell 3
                  have n4 : ∀ o : Obj, (w10.alloc o).cell? ⟨w8.heap.size + 1, 4, none⟩ = some (.int .i64 0) := fun o => (HN10.out.alloc o).cell 4
                  clear hb10
                  rw [show Blk.val ⟨(k : Int) + 1, 3, 0, 0, 0⟩ = .agg #[.int .i64 ((k : Int) + 1), .int .i64 3, .int .i64 0, .int .i64 0, .int .i64 0] from rfl]
                  go_wp2
                  go_ret
                  exact ⟨rfl, (HH10.out.alloc _).below⟩
              · subst hf
                rcases prev_cases l k with ⟨hk0, hpo, _⟩ | ⟨hk0, hpo, hpg⟩
                · rw [hpo] at hi
                  have hlo := load_none hi HS2.out
                  rw [hlo.1, hlo.2, show bzero.val = .agg #[.int .i64 0, .int .i64 0, .int .i64 0, .int .i64 0, .int .i64 0] from rfl]
                  have dk1 : decide ((0 : Int) < (k : Int)) = false := by simp; omega
                  have dk3 : decide (0 < k) = false := by simp; omega
                  have dk4 : (k == 0) = true := by simp; omega
                  have dk5 : decide (k = 0) = true := by simp; omega
                  have dk2 : ((k : Int) == 0) = true := by simp; omega
                  clear hk0 hpo
                  obtain ⟨S9, hs1, hs2, hs3, hs4⟩ := save_more HS2.out hi (b := ⟨0, 3, 0, 0, 0⟩) rfl (show (0 : Int) ≤ 0 by omega) (by rw [Blk.fits_all]; show (fitB (0) 7 && fitB 3 7 && fitB 0 7 && fitB 0 7 && fitB 0 7) = true; rw [fit_small (n := 0) (by omega) (by omega)]; rfl)
                  have hl9 := load_holds hs4 hs3
                  have HL9 := Lib.hid hl9
                  have hs9 : ∀ W, Holds w W D ⟨S', [], 0, false⟩ → Calls Tryd.prog 8 #[.pointer (some ⟨D, 0, none⟩), .agg #[.int .i64 (0), .int .i64 3, .int .i64 0, .int .i64 0, .int .i64 0]] W (fun e w' => e = .returned (.int .i64 0) ∧ Holds w w' D ⟨S9, [], 0, false⟩ ∧ Kept W w') := fun W hh => by
                    have := save_any hh HV.out ⟨0, 3, 0, 0, 0⟩ (by rw [Blk.fits_all]; show (fitB (0) 7 && fitB 3 7 && fitB 0 7 && fitB 0 7 && fitB 0 7) = true; rw [fit_small (n := 0) (by omega) (by omega)]; rfl) (show (0 : Nat) < 4294967295 by decide)
                    rwa [hs1, hs2] at this
                  have HS9 := Lib.hid hs9
                  have he9 : ∀ W, (binOp .eql 30 (.agg #[.int .i64 (0), .int .i64 3, .int .i64 0, .int .i64 0, .int .i64 0]) (.agg #[.int .i64 (0), .int .i64 3, .int .i64 0, .int .i64 0, .int .i64 0])).run Tryd.prog W = .ok (.bool true) W := fun W => by have := blk_eql ⟨0, 3, 0, 0, 0⟩ ⟨0, 3, 0, 0, 0⟩ W; rw [Blk.same_self] at this; exact this
                  have hnw := Whole.made (w8.alloc (.cells [.int .i64 0, .int .i64 0, .int .i64 0, .int .i64 0, .int .i64 0].toArray 30)) [.int .i64 (0), .int .i64 3, .int .i64 0, .int .i64 0, .int .i64 0] 30
                  rw [show (w8.alloc (.cells [.int .i64 0, .int .i64 0, .int .i64 0, .int .i64 0, .int .i64 0].toArray 30)).heap.size = w8.heap.size + 1 by simp] at hnw
                  have HNW := Lib.hid hnw
                  clear hlo hs1 hs2 hs3 hs4 hl9 hs9 hnw
                  go_wp2_with fail
                  refine (HS9.out _ ((HH8.out.alloc _).alloc _)).mono ?_
                  rintro e w9 ⟨rfl, hh9, hk9⟩
                  have HH9 := Lib.hid hh9
                  have HN9 := Lib.hid (hk9.whole HNW.out blk_notD)
                  have hlo9 := load_any hh9 (HV.out.next hh9.below)
                  rw [HL9.out.1, HL9.out.2] at hlo9
                  have HLO9 := Lib.hid hlo9
                  clear hh9 hk9 hlo9
                  go_wp2_with fail
                  refine HLO9.out.mono ?_
                  rintro e w10 ⟨rfl, hb10⟩
                  have HH10 := Lib.hid (HH9.out.next hb10)
                  have HN10 := Lib.hid (HN9.out.below hb10 HN9.out.lt)
                  have n0 : ∀ o : Obj, (w10.alloc o).cell? ⟨w8.heap.size + 1, 0, none⟩ = some (.int .i64 (0)) := fun o => (HN10.out.alloc o).cell 0
                  have n1 : ∀ o : Obj, (w10.alloc o).cell? ⟨w8.heap.size + 1, 1, none⟩ = some (.int .i64 3) := fun o => (HN10.out.alloc o).cell 1
                  have n2 : ∀ o : Obj, (w10.alloc o).cell? ⟨w8.heap.size + 1, 2, none⟩ = some (.int .i64 0) := fun o => (HN10.out.alloc o).cell 2
                  have n3 : ∀ o : Obj, (w10.alloc o).cell? ⟨w8.heap.size + 1, 3, none⟩ = some (.int .i64 0) := fun o => (HN10.out.alloc o).cell 3
                  have n4 : ∀ o : Obj, (w10.alloc o).cell? ⟨w8.heap.size + 1, 4, none⟩ = some (.int .i64 0) := fun o => (HN10.out.alloc o).cell 4
                  clear hb10
                  rw [show Blk.val ⟨0, 3, 0, 0, 0⟩ = .agg #[.int .i64 (0), .int .i64 3, .int .i64 0, .int .i64 0, .int .i64 0] from rfl]
                  go_wp2
                  go_ret
                  exact ⟨rfl, (HH10.out.alloc _).below⟩
                · rw [hpo] at hi
                  obtain ⟨p, hp⟩ : ∃ p, prevB l k = p := ⟨_, rfl⟩
                  rw [hp] at hi hpg HP8
                  have hp0 : 0 ≤ p.gen := by omega
                  have hp1 : p.gen < 50 := by omega
                  have HPG := Lib.hid hpg
                  have hlo := load_holds hi HS2.out
                  rw [hlo.1, hlo.2, show p.val = .agg #[.int .i64 p.gen, .int .i64 p.epoch, .int .i64 p.first, .int .i64 p.begun, .int .i64 p.count] from rfl]
                  have dk1 : decide ((0 : Int) < (k : Int)) = true := by simp; omega
                  have dk3 : decide (0 < k) = true := by simp; omega
                  have dk4 : (k == 0) = false := by simp; omega
                  have dk5 : decide (k = 0) = false := by simp; omega
                  have dk2 : ((k : Int) == 0) = false := by simp; omega
                  clear hk0 hpo hpg hp
                  have c0 : ∀ o : Obj, (w8.alloc o).cell? ⟨bw, 0, none⟩ = some (.int .i64 (k : Int)) := fun o => (HW8.out.alloc o).cell 0
                  have c1 : ∀ o : Obj, (w8.alloc o).cell? ⟨bw, 1, none⟩ = some (.int .i64 x.epoch) := fun o => (HW8.out.alloc o).cell 1
                  have c2 : ∀ o : Obj, (w8.alloc o).cell? ⟨bw, 2, none⟩ = some (.int .i64 x.first) := fun o => (HW8.out.alloc o).cell 2
                  have c3 : ∀ o : Obj, (w8.alloc o).cell? ⟨bw, 3, none⟩ = some (.int .i64 x.begun) := fun o => (HW8.out.alloc o).cell 3
                  have c4 : ∀ o : Obj, (w8.alloc o).cell? ⟨bw, 4, none⟩ = some (.int .i64 x.count) := fun o => (HW8.out.alloc o).cell 4
                  have d0 : ∀ o : Obj, (w8.alloc o).cell? ⟨w2.heap.size, 0, none⟩ = some (.int .i64 p.gen) := fun o => (HP8.out.alloc o).cell 0
                  have d1 : ∀ o : Obj, (w8.alloc o).cell? ⟨w2.heap.size, 1, none⟩ = some (.int .i64 p.epoch) := fun o => (HP8.out.alloc o).cell 1
                  have d2 : ∀ o : Obj, (w8.alloc o).cell? ⟨w2.heap.size, 2, none⟩ = some (.int .i64 p.first) := fun o => (HP8.out.alloc o).cell 2
                  have d3 : ∀ o : Obj, (w8.alloc o).cell? ⟨w2.heap.size, 3, none⟩ = some (.int .i64 p.begun) := fun o => (HP8.out.alloc o).cell 3
                  have d4 : ∀ o : Obj, (w8.alloc o).cell? ⟨w2.heap.size, 4, none⟩ = some (.int .i64 p.count) := fun o => (HP8.out.alloc o).cell 4
                  obtain ⟨S9, hs1, hs2, hs3, hs4⟩ := save_more HS2.out hi (b := ⟨p.gen + 1, 3, 0, 0, 0⟩) rfl (show (0 : Int) ≤ p.gen + 1 by omega) (by rw [Blk.fits_all]; show (fitB (p.gen + 1) 7 && fitB 3 7 && fitB 0 7 && fitB 0 7 && fitB 0 7) = true; rw [fit_small (n := p.gen + 1) (by omega) (by omega)]; rfl)
                  have hl9 := load_holds hs4 hs3
                  have HL9 := Lib.hid hl9
                  have hs9 : ∀ W, Holds w W D ⟨S', [], 0, false⟩ → Calls Tryd.prog 8 #[.pointer (some ⟨D, 0, none⟩), .agg #[.int .i64 (p.gen + 1), .int .i64 3, .int .i64 0, .int .i64 0, .int .i64 0]] W (fun e w' => e = .returned (.int .i64 0) ∧ Holds w w' D ⟨S9, [], 0, false⟩ ∧ Kept W w') := fun W hh => by
                    have := save_any hh HV.out ⟨p.gen + 1, 3, 0, 0, 0⟩ (by rw [Blk.fits_all]; show (fitB (p.gen + 1) 7 && fitB 3 7 && fitB 0 7 && fitB 0 7 && fitB 0 7) = true; rw [fit_small (n := p.gen + 1) (by omega) (by omega)]; rfl) (show (0 : Nat) < 4294967295 by decide)
                    rwa [hs1, hs2] at this
                  have HS9 := Lib.hid hs9
                  have hn1 : ∀ W, (binOp .neq 30 (.agg #[.int .i64 p.gen, .int .i64 p.epoch, .int .i64 p.first, .int .i64 p.begun, .int .i64 p.count]) (.agg #[.int .i64 (k : Int), .int .i64 x.epoch, .int .i64 x.first, .int .i64 x.begun, .int .i64 x.count])).run Tryd.prog W = .ok (.bool true) W := fun W => by have := blk_neq p ⟨(k : Int), x.epoch, x.first, x.begun, x.count⟩ W; rw [Blk.same_gen (show p.gen ≠ (k : Int) by have := HPG.out; omega)] at this; exact this
                  have hn2 : ∀ W, (binOp .neq 30 (.agg #[.int .i64 p.gen, .int .i64 p.epoch, .int .i64 p.first, .int .i64 p.begun, .int .i64 p.count]) (.agg #[.int .i64 p.gen, .int .i64 p.epoch, .int .i64 p.first, .int .i64 p.begun, .int .i64 p.count])).run Tryd.prog W = .ok (.bool false) W := fun W => by have := blk_neq p p W; rw [Blk.same_self] at this; exact this
                  have he9 : ∀ W, (binOp .eql 30 (.agg #[.int .i64 (p.gen + 1), .int .i64 3, .int .i64 0, .int .i64 0, .int .i64 0]) (.agg #[.int .i64 (p.gen + 1), .int .i64 3, .int .i64 0, .int .i64 0, .int .i64 0])).run Tryd.prog W = .ok (.bool true) W := fun W => by have := blk_eql ⟨p.gen + 1, 3, 0, 0, 0⟩ ⟨p.gen + 1, 3, 0, 0, 0⟩ W; rw [Blk.same_self] at this; exact this
                  have hnw := Whole.made (w8.alloc (.cells [.int .i64 p.gen, .int .i64 p.epoch, .int .i64 p.first, .int .i64 p.begun, .int .i64 p.count].toArray 30)) [.int .i64 (p.gen + 1), .int .i64 3, .int .i64 0, .int .i64 0, .int .i64 0] 30
                  rw [show (w8.alloc (.cells [.int .i64 p.gen, .int .i64 p.epoch, .int .i64 p.first, .int .i64 p.begun, .int .i64 p.count].toArray 30)).heap.size = w8.heap.size + 1 by simp] at hnw
                  have HNW := Lib.hid hnw
                  clear hlo hs1 hs2 hs3 hs4 hl9 hs9 hnw
                  go_wp2_with fail
                  refine (HS9.out _ ((HH8.out.alloc _).alloc _)).mono ?_
                  rintro e w9 ⟨rfl, hh9, hk9⟩
                  have HH9 := Lib.hid hh9
                  have HN9 := Lib.hid (hk9.whole HNW.out blk_notD)
                  have hlo9 := load_any hh9 (HV.out.next hh9.below)
                  rw [HL9.out.1, HL9.out.2] at hlo9
                  have HLO9 := Lib.hid hlo9
                  clear hh9 hk9 hlo9
                  go_wp2_with fail
                  refine HLO9.out.mono ?_
                  rintro e w10 ⟨rfl, hb10⟩
                  have HH10 := Lib.hid (HH9.out.next hb10)
                  have HN10 := Lib.hid (HN9.out.below hb10 HN9.out.lt)
                  have n0 : ∀ o : Obj, (w10.alloc o).cell? ⟨w8.heap.size + 1, 0, none⟩ = some (.int .i64 (p.gen + 1)) := fun o => (HN10.out.alloc o).cell 0
                  have n1 : ∀ o : Obj, (w10.alloc o).cell? ⟨w8.heap.size + 1, 1, none⟩ = some (.int .i64 3) := fun o => (HN10.out.alloc o).cell 1
                  have n2 : ∀ o : Obj, (w10.alloc o).cell? ⟨w8.heap.size + 1, 2, none⟩ = some (.int .i64 0) := fun o => (HN10.out.alloc o).cell 2
                  have n3 : ∀ o : Obj, (w10.alloc o).cell? ⟨w8.heap.size + 1, 3, none⟩ = some (.int .i64 0) := fun o => (HN10.out.alloc o).cell 3
                  have n4 : ∀ o : Obj, (w10.alloc o).cell? ⟨w8.heap.size + 1, 4, none⟩ = some (.int .i64 0) := fun o => (HN10.out.alloc o).cell 4
                  clear hb10
                  rw [show Blk.val ⟨p.gen + 1, 3, 0, 0, 0⟩ = .agg #[.int .i64 (p.gen + 1), .int .i64 3, .int .i64 0, .int .i64 0, .int .i64 0] from rfl]
                  go_wp2
                  go_ret
                  exact ⟨rfl, (HH10.out.alloc _).below⟩

theorem cuts_any (A : Option Addr) (c : Nat) (l : List Blk) (q m t : Nat) (w : World) (hv : VarsAt w) (hA : BlksIn w w.heap.size A l) (_ : l.length ≤ maxLen) (hq : q < 256) (hm : m < 18446744073709551616) (ht : t < 18446744073709551616) :
    Calls Tryd.prog 3 #[.slice A l.length c, .int .u8 (q : Int), .int .u64 (m : Int), .int .u64 (t : Int)] w (TrueB w) := by
  by_cases h1 : l.length < 1
  · exact cuts_out A c l q m t w hv (.inl h1)
  · by_cases h2 : 20 < l.length
    · exact cuts_out A c l q m t w hv (.inr h2)
    · exact cuts_in A c l q m t w hv hA h1 h2 hq hm ht

end Go.Proofs.YthjcpficpiddaaaDoor
