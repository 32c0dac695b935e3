/-
  FlashSure: what was sure is there behind a crash, unless something that was not sure was done, or torn, in its place.
-/
import Derived.Test.YtledoajhjkfaoaaVSureP
import Derived.Test.YtledoajhjkfaoaaBytesIn
namespace Go.Proofs.Ytledoajhjkfaoaa
open Go.RowKit

def dvS (S : List Sec) (us : List Wri) : Dv := ⟨S, us, 0, false⟩
def blankS : List Sec := List.replicate 8 secZero
theorem blank_len : blankS.length = 8 := List.length_replicate ..
def SureRel1 (w : World) (D gw : Nat) (data : List (List UInt8)) (i : Value) (wr : World) : Prop :=
  ∃ k : Nat, k ≤ data.length ∧ k ≤ 8 ∧ i = .int .i64 k ∧ Holds w wr D (dvS blankS (us1 data k)) ∧ WantAt w wr gw ((vl1 data k).map Prod.snd) ∧ smallV (vl1 data k)
def SureRel2 (w : World) (D gw gb : Nat) (m t : Nat) (S : List Sec) (V : List (Bool × List UInt8)) (ov : List UInt8) (i : Value) (wr : World) : Prop :=
  ∃ k : Nat, k ≤ ov.length ∧ k ≤ 64 ∧ i = .int .i64 k ∧ Holds w wr D (dvS S (us2 ov k)) ∧ WantAt w wr gw ((vl2 m t ov V k).map Prod.snd) ∧ Whole wr gb 4 ((vl2 m t ov V k).map fun p => .bool p.1)
def SureRel3 (w : World) (D gw gb : Nat) (V : List (Bool × List UInt8)) (i : Value) (wr : World) : Prop :=
  ∃ k : Nat, k ≤ 8 ∧ i = .int .i64 k ∧ Holds w wr D (dvS (V.map toSec) []) ∧ WantAt w wr gw (V.map Prod.snd) ∧ Whole wr gb 4 (V.map fun p => .bool p.1)

theorem bs_info : (Try.prog.info? 30).map (fun i => (i.zero, i.size, i.bytes)) = some (some (.slice none 0 0), 1, 24) := by kernel_rfl
theorem bool_info : (Try.prog.info? 4).map (fun i => (i.zero, i.size, i.bytes)) = some (some (.bool false), 1, 1) := by kernel_rfl

set_option maxRecDepth 8000 in
set_option maxHeartbeats 2000000 in
theorem sure_any (A : Option Addr) (c : Nat) (vs : List Value) (data : List (List UInt8)) (B : Option Addr) (cb : Nat) (ov : List UInt8) (m t : Nat) (w : World) (hA : BytesIn w w.heap.size A vs data) (_ : data.length ≤ maxLen) (hB : Row w w.heap.size B (ov.map bc)) (_ : ov.length ≤ maxLen)
    (hm : m < 18446744073709551616) (ht : t < 18446744073709551616) :
    Calls Try.prog 4 #[.slice A data.length c, .slice B ov.length cb, .int .u64 m, .int .u64 t] w (TrueB w) := by
  have HN := Lib.hid (h_new w w (Below.refl _ _) 8 (by decide) (by decide))
  obtain ⟨i0, hi0, hz0, hz1, hz2⟩ := info_parts u8_info
  obtain ⟨i1, hi1, hy0, hy1, hy2⟩ := info_parts bs_info
  obtain ⟨i2, hi2, hx0, hx1, hx2⟩ := info_parts bool_info
  have HA := Lib.hid hA
  have HB := Lib.hid hB
  clear hA hB
  go_enter Try.func4, Try.ntmps4
  go_wp2_with fail
  refine HN.out.mono ?_
  rintro e w1 ⟨D, rfl, h1⟩
  have H1 := Lib.hid h1
  clear h1
  go_wp2_with fail
  refine (flash_answers w1).mono ?_
  rintro e w2 ⟨rfl, hb2⟩
  have H2 := Lib.hid (H1.out.next hb2)
  clear hb2
  go_wp2_with (
    refine wpList_make_zeros rfl (.const (.int .i64 8)) (.const (.int .i64 8)) _ rfl 30 i1 _ 24 Try.underlying51 hi1 hy0 hy1 hy2 rfl .i64 .i64 _ _ 8 8 rfl rfl rfl (by omega) (by omega) (by omega) (by unfold maxLen; omega) ?_)
  go_loopw [12] (SureRel1 w D w2.heap.size data) (fun i _ => data.length - (intOf i).toNat)
  case atStart =>
    refine ⟨0, Nat.zero_le _, Nat.zero_le _, rfl, H2.out.alloc _, ⟨zerosL (.slice none 0 0) 8, heap_alloc_new w2 _, by simp [vl1, zerosL], fun p h h' => ?_⟩, fun p hp => by rw [(List.mem_replicate.1 hp).2]; exact Nat.zero_le _⟩
    simp only [vl1, zerosL, List.map_replicate, List.getElem_replicate]
    exact Sl.nil _ _
  case round =>
    obtain ⟨k, hk, hk8, rfl, hh, hw, hsm⟩ := hrel
    have HSM := Lib.hid hsm
    clear hsm
    have HH := Lib.hid hh
    have HW := Lib.hid hw
    clear hh hw
    by_cases hlt : k < data.length ∧ k < 8
    · obtain ⟨hlt, h8⟩ := hlt
      obtain ⟨b, off, Ak, ck, rfl, hb, hc, hr, hm1⟩ := HA.out.at_ hlt
      obtain ⟨lk, hlk⟩ : ∃ lk, lk = data.getD k [] := ⟨_, rfl⟩
      rw [← hlk] at hc hr hm1
      have HLK := Lib.hid hlk
      have HC := Lib.hid hc
      have HR := Lib.hid hr
      unfold maxLen at hm1
      have d8 : decide ((k : Int) < 8) = true := by simp; omega
      have c1 : wr.cell? ⟨b, off + k, none⟩ = some (.slice Ak lk.length ck) := (HH.out.below.cell (p := ⟨b, off + k, none⟩) hb).trans hc
      clear hlk hc hr
      by_cases h5 : lk.length ≤ 512
      · have d5 : decide (512 < (lk.length : Int)) = false := by simp; omega
        have hzw := HH.out.below.size
        have c1a : (wr.alloc (.cells #[] 5)).cell? ⟨b, off + k, none⟩ = some (.slice Ak lk.length ck) := (World.cell?_alloc_lt wr _ ⟨b, off + k, none⟩ (block_lt_of_cell c1)).trans c1
        go_wp2_with (
          at_builtin
          refine wpList_append_row rfl (.tmp 49) (.tmp 53) _ rfl wr.heap.size 5 i0 _ 1 1 Try.underlying30 hi0 hz0 hz1 hz2 rfl (by omega) (.slice (some ⟨wr.heap.size, 0, none⟩) 0 0) 0 [] rfl
            (own_lit _ _ _) Ak lk.length ck w.heap.size (lk.map bc) rfl (by rw [List.length_map]; omega) ((HR.out.below HH.out.below).alloc hzw (.cells #[] 5)) (bc_one lk) (by unfold maxLen; omega) (by omega) (by simp) ?_
          intro v3 w3 hown3 hg3
          simp only [Nat.zero_add, List.nil_append] at hown3
          obtain ⟨A3, c3, rfl, _, _⟩ := own_form hown3
          have HO3 := Lib.hid (BytesAt.own hown3)
          have hB3 := (own_below ((Below.refl wr.heap.size wr).alloc (Nat.le_refl _) _) (Nat.le_refl _) (by simp) (own_lit wr 5 1) hg3)
          have H3 := Lib.hid (HH.out.next hB3)
          have HW3 := Lib.hid (HW.out.keep (Kept.below hB3))
          clear hown3 hg3 hB3)
        have hwr4 := h_write H3.out k A3 c3 lk (by omega) HO3.out (by show (us1 data k).length < 4294967296; rw [length_us1]; omega)
        rw [write_plain (x := dvS blankS (us1 data k)) rfl rfl (by show k < blankS.length; rw [blank_len]; exact h8) h5] at hwr4
        refine hwr4.mono ?_
        rintro e w4 ⟨rfl, h4, hk4⟩
        have H4 := Lib.hid h4
        have HW4 := Lib.hid (HW3.out.keep hk4)
        have c4 : w4.cell? ⟨b, off + k, none⟩ = some (.slice Ak lk.length ck) := (h4.below.cell (p := ⟨b, off + k, none⟩) hb).trans HC.out
        obtain ⟨vk, q4, _, z4⟩ := HW4.out.cell (p := k) (by rw [List.length_map, length_vl1]; exact h8)
        clear h4 hk4 hwr4 c1 c1a
        go_wp2
        refine ⟨⟨k + 1, by omega, by omega, by go_num, ?_, ?_, ?_⟩, by simp [intOf]; omega⟩
        · obtain ⟨vs', hv', _⟩ := HW4.out
          rw [us1_succ, ← HLK.out]
          exact H4.out.put hv' bs_not H2.out.below.size k _
        · rw [vl1, List.map_set]
          have h := HW4.out.set_ k (v := .slice Ak lk.length ck) (l := lk) ⟨Ak, ck, rfl, .inl HR.out⟩
          rw [HLK.out] at h
          rw [← HLK.out]
          rw [← HLK.out] at h
          exact h
        · rw [vl1, ← HLK.out]
          exact HSM.out.set_ k h5
      · have d5 : decide (512 < (lk.length : Int)) = true := by simp; omega
        go_wp2
        go_ret
        exact ⟨rfl, HH.out.below⟩
    · have hdec : (k < data.length → ¬ k < 8) := fun h1 h2 => hlt ⟨h1, h2⟩
      have hs := h_sync HH.out (by show (us1 data k).length < 4294967296; rw [length_us1]; omega)
      rw [show (dvS blankS (us1 data k)).syncE = 0 from rfl] at hs
      have HS := Lib.hid hs
      clear hs
      obtain ⟨V, hV⟩ : ∃ V, V = vl1 data k := ⟨_, rfl⟩
      have hV8 : V.length = 8 := by rw [hV]; exact length_vl1 data k
      have hsy : (dvS blankS (us1 data k)).sync = dvS (V.map toSec) [] := by
        show dvS (crashN allOnes 0 (us1 data k) blankS (us1 data k).length) [] = _
        rw [length_us1, hV, ← crash_vl1 data k k (Nat.le_refl _)]
        rfl
      have hfst : V.map (fun p => Value.bool p.1) = zerosL (.bool false) 8 := by
        have h := congrArg (List.map Value.bool) (vl1_fst data k)
        rw [← hV, List.map_map, List.map_replicate] at h
        exact h
      rw [← hV] at HW HSM
      have HV8 := Lib.hid hV8
      have HSY := Lib.hid hsy
      have HFST := Lib.hid hfst
      clear hV hV8 hsy hfst
      by_cases hl : k < data.length
      · have d8 : decide ((k : Int) < 8) = false := by simp; omega
        clear hdec hlt
        go_wp2_with fail
        refine HS.out.mono ?_
        rintro e w3 ⟨rfl, h3, hk3⟩
        rw [HSY.out] at h3
        have H3 := Lib.hid h3
        have HW3 := Lib.hid (HW.out.keep hk3)
        clear h3 hk3
        go_wp2_with (
          refine wpList_make_zeros rfl (.const (.int .i64 8)) (.const (.int .i64 8)) _ rfl 4 i2 _ 1 Try.underlying52 hi2 hx0 hx1 hx2 rfl .i64 .i64 _ _ 8 8 rfl rfl rfl (by omega) (by omega) (by omega) (by unfold maxLen; omega) ?_)
        have HZ := Lib.hid (show w.heap.size ≤ w2.heap.size ∧ w.heap.size ≤ w3.heap.size from ⟨H2.out.below.size, H3.out.below.size⟩)
        obtain ⟨wo, rfl⟩ : ∃ wo : World, wo = wr := ⟨_, rfl⟩
        go_loopw [14] (SureRel2 w D w2.heap.size w3.heap.size m t (V.map toSec) V ov) (fun i _ => ov.length - (intOf i).toNat)
        case atStart =>
          refine ⟨0, Nat.zero_le _, Nat.zero_le _, rfl, H3.out.alloc _, HW3.out.keep (Kept.below ((Below.refl _ _).alloc (Nat.le_refl _) _)), ?_⟩
          show Whole _ _ _ (V.map fun p => .bool p.1)
          rw [HFST.out]
          exact heap_alloc_new w3 _
        case round =>
          obtain ⟨j, hj, hj64, rfl, hh, hw, hbr⟩ := hrel
          have HH2 := Lib.hid hh
          have HW2 := Lib.hid hw
          have HBR := Lib.hid hbr
          clear hh hw hbr
          by_cases hlt2 : j < ov.length ∧ j < 64
          · obtain ⟨hlt2, h64⟩ := hlt2
            have d64 : decide ((j : Int) < 64) = true := by simp; omega
            obtain ⟨bB, oB, rfl, hbB, hcB⟩ := HB.out.at_ (k := j) (by rw [List.length_map]; exact hlt2)
            obtain ⟨b, hbe⟩ : ∃ b, b = ov[j] := ⟨_, rfl⟩
            rw [List.getElem_map, ← hbe] at hcB
            have HBE := Lib.hid hbe
            have HCB := Lib.hid (show w.cell? ⟨bB, oB + j, none⟩ = some (.int .u8 b.toNat) from hcB)
            have cb1 : wr.cell? ⟨bB, oB + j, none⟩ = some (.int .u8 b.toNat) := (HH2.out.below.cell (p := ⟨bB, oB + j, none⟩) hbB).trans HCB.out
            have hp8 : b.toNat % 8 < 8 := Nat.mod_lt _ (by decide)
            have hbt : b.toNat ≤ 255 := by have := b.toNat_lt; omega
            have e8 : ((b.toNat : Int) % 8) = ((b.toNat % 8 : Nat) : Int) := by omega
            clear hbe hcB
            have hwr4 := h_write (HH2.out.alloc (.cells (([b, 1] : List UInt8).map bc).toArray 5)) ((b.toNat : Int) % 8) _ 2 [b, 1] (by show 2 ≤ 9223372036854775807; decide) (BytesAt.lit wr [b, 1]) (by show (us2 ov j).length < 4294967296; rw [length_us2 hj]; omega)
            rw [show (dvS (V.map toSec) (us2 ov j)).write ((b.toNat : Int) % 8) [b, 1] = dvS (V.map toSec) (us2 ov (j + 1)) from by rw [e8, write_plain (x := dvS (V.map toSec) (us2 ov j)) rfl rfl (by show b.toNat % 8 < (V.map toSec).length; rw [List.length_map, HV8.out]; exact hp8) (by show 2 ≤ 512; decide), us2_succ hlt2, ← HBE.out]; rfl] at hwr4
            have HWR4 := Lib.hid hwr4
            clear hwr4 e8
            go_wp2_with fail
            refine HWR4.out.mono ?_
            rintro e w4 ⟨rfl, h4, hk4⟩
            have H4 := Lib.hid h4
            have hka := Kept.below ((Below.refl wr.heap.size wr).alloc (Nat.le_refl _) (.cells (([b, 1] : List UInt8).map bc).toArray 5))
            have HW4 := Lib.hid ((HW2.out.keep hka).keep hk4)
            have HB4 := Lib.hid (hk4.whole (hka.whole HBR.out bool_not) bool_not)
            clear h4 hk4 hka cb1
            obtain ⟨p, hp⟩ : ∃ p, p = b.toNat % 8 := ⟨_, rfl⟩
            have hp8' : p < 8 := by rw [hp]; exact hp8
            have hlV : (vl2 m t ov V j).length = 8 := length_vl2 m t ov HV8.out j
            obtain ⟨vk, q4, z4⟩ : ∃ vk, w4.cell? ⟨w2.heap.size, p, none⟩ = some vk ∧ w4.frozen? ⟨w2.heap.size, p, none⟩ = false := by
              obtain ⟨vk, q4, _, z4⟩ := HW4.out.cell (p := p) (by rw [List.length_map, hlV]; exact hp8')
              exact ⟨vk, q4, z4⟩
            obtain ⟨b5, q5⟩ : ∃ b5, w4.cell? ⟨w3.heap.size, p, none⟩ = some (.bool b5) := ⟨_, by rw [HB4.out.cell, List.getElem?_map, List.getElem?_eq_getElem (by rw [hlV]; exact hp8')]; rfl⟩
            have z5 : w4.frozen? ⟨w3.heap.size, p, none⟩ = false := HB4.out.frozen p
            rw [hp] at q4 z4 q5 z5
            have hne : w2.heap.size ≠ w3.heap.size := by have := HW3.out.lt; omega
            have hbt2 := shr_fact t j h64
            have hbm2 := shr_fact m j h64
            have HSTEP := Lib.hid (show vl2 m t ov V (j + 1) = if bitAt t j = true then (vl2 m t ov V j).set p (true, []) else if bitAt m j = true then (vl2 m t ov V j).set p (false, [b, 1]) else vl2 m t ov V j from by rw [vl2, List.getElem?_eq_getElem hlt2, ← HBE.out, hp])
            have HPP := Lib.hid hp
            clear hp
            cases htb : bitAt t j with
            | true =>
              rw [htb] at hbt2
              have HT := Lib.hid htb
              clear htb hbm2
              go_wp2
              refine ⟨⟨j + 1, by omega, by omega, by go_num, ?_, ?_, ?_⟩, by simp [intOf]; omega⟩
              · rw [← HPP.out]
                obtain ⟨vs', hv', _⟩ := (HW4.out.beside HB4.out p (.bool true))
                exact (H4.out.put HB4.out bool_not HZ.out.2 p _).put hv' bs_not HZ.out.1 p _
              · rw [HSTEP.out, if_pos HT.out, ← HPP.out, List.map_set]
                exact (HW4.out.beside HB4.out p (.bool true)).set_ p (Sl.nil _ _)
              · rw [HSTEP.out, if_pos HT.out, ← HPP.out, List.map_set]
                exact (Below.heap_setCell _ _ _ _ (fun e => hne e.symm)).trans (HB4.out.set_ p _)
            | false =>
              rw [htb] at hbt2
              have HT := Lib.hid htb
              clear htb
              cases hmb : bitAt m j with
              | true =>
                rw [hmb] at hbm2
                have HM := Lib.hid hmb
                clear hmb
                have cb4 : w4.cell? ⟨bB, oB + j, none⟩ = some (.int .u8 b.toNat) := (H4.out.below.cell (p := ⟨bB, oB + j, none⟩) hbB).trans HCB.out
                have hneb : bB ≠ w3.heap.size := by have := HZ.out.2; omega
                have HQ := Lib.hid (show w4.cell? ⟨w2.heap.size, b.toNat % 8, none⟩ = some vk ∧ w4.frozen? ⟨w2.heap.size, b.toNat % 8, none⟩ = false from ⟨q4, z4⟩)
                have q6 : ((w4.setCell ⟨w3.heap.size, b.toNat % 8, none⟩ (.bool false)).alloc (.cells #[.int .u8 b.toNat, .int .u8 1] 5)).cell? ⟨w2.heap.size, b.toNat % 8, none⟩ = some vk := by
                  rw [World.cell?_alloc_lt _ _ _ (by show w2.heap.size < (w4.setCell _ _).heap.size; rw [World.size_setCell]; exact HW4.out.lt), World.cell?_setCell_other _ _ _ _ (by intro e; injection e with e _; exact hne e.symm)]
                  exact HQ.out.1
                have z6 : ((w4.setCell ⟨w3.heap.size, b.toNat % 8, none⟩ (.bool false)).alloc (.cells #[.int .u8 b.toNat, .int .u8 1] 5)).frozen? ⟨w2.heap.size, b.toNat % 8, none⟩ = false := by
                  rw [World.frozen?_alloc_past _ _ _ (by show w2.heap.size < (w4.setCell _ _).heap.size; rw [World.size_setCell]; exact HW4.out.lt), World.frozen?_setCell]
                  exact HQ.out.2
                clear q4 z4
                go_wp2
                have hW6 := (HW4.out.beside HB4.out p (.bool false)).keep (Kept.below ((Below.refl _ _).alloc (Nat.le_refl _) (.cells (([b, 1] : List UInt8).map bc).toArray 5)))
                have hB6 := (HB4.out.set_ p (.bool false)).alloc (.cells (([b, 1] : List UInt8).map bc).toArray 5)
                have hH6 := (H4.out.put HB4.out bool_not HZ.out.2 p (.bool false)).alloc (.cells (([b, 1] : List UInt8).map bc).toArray 5)
                have hS6 : Sl w ((w4.setCell ⟨w3.heap.size, p, none⟩ (.bool false)).alloc (.cells (([b, 1] : List UInt8).map bc).toArray 5)) (.slice (some ⟨w4.heap.size, 0, none⟩) 2 2) [b, 1] := by
                  refine ⟨_, 2, rfl, .inr ⟨w4.heap.size, rfl, H4.out.below.size, ?_⟩⟩
                  have h := Whole.made (w4.setCell ⟨w3.heap.size, p, none⟩ (.bool false)) (([b, 1] : List UInt8).map bc) 5
                  rw [World.size_setCell] at h
                  exact h
                refine ⟨⟨j + 1, by omega, by omega, by go_num, ?_, ?_, ?_⟩, by simp [intOf]; omega⟩
                · rw [← HPP.out]
                  obtain ⟨vs', hv', _⟩ := hW6
                  exact hH6.put hv' bs_not HZ.out.1 p _
                · rw [HSTEP.out, if_neg (by rw [HT.out]; decide), if_pos HM.out, ← HPP.out, List.map_set]
                  exact hW6.set_ p hS6
                · rw [HSTEP.out, if_neg (by rw [HT.out]; decide), if_pos HM.out, ← HPP.out, List.map_set]
                  exact (Below.heap_setCell _ _ _ _ (fun e => hne e.symm)).trans hB6
              | false =>
                rw [hmb] at hbm2
                have HM := Lib.hid hmb
                clear hmb
                go_wp2
                refine ⟨⟨j + 1, by omega, by omega, by go_num, ?_, ?_, ?_⟩, by simp [intOf]; omega⟩
                · exact H4.out
                · rw [HSTEP.out, if_neg (by rw [HT.out]; decide), if_neg (by rw [HM.out]; decide)]
                  exact HW4.out
                · rw [HSTEP.out, if_neg (by rw [HT.out]; decide), if_neg (by rw [HM.out]; decide)]
                  exact HB4.out
          · have hdec2 : (j < ov.length → ¬ j < 64) := fun h1 h2 => hlt2 ⟨h1, h2⟩
            obtain ⟨V2, hV2⟩ : ∃ V2, V2 = vl2 m t ov V j := ⟨_, rfl⟩
            have hV28 : V2.length = 8 := by rw [hV2]; exact length_vl2 m t ov HV8.out j
            have hcr : (dvS (V.map toSec) (us2 ov j)).crash m t = dvS (V2.map toSec) [] := by
              show dvS (crashN m t (us2 ov j) (V.map toSec) (us2 ov j).length) [] = _
              rw [length_us2 hj, hV2, ← crash_vl2 m t ov V hj j (Nat.le_refl _)]
            have hsm2 : smallV V2 := by rw [hV2]; exact small_vl2 m t ov HSM.out j
            have hcs := h_crash HH2.out m t hm ht (by show (us2 ov j).length < 4294967296; rw [length_us2 hj]; omega)
            rw [hcr] at hcs
            rw [← hV2] at HW2 HBR
            have HCS := Lib.hid hcs
            have HV28 := Lib.hid hV28
            have HSM2 := Lib.hid hsm2
            clear hcs hV28 hsm2 hcr hV2
            by_cases hl2 : j < ov.length
            · have d64 : decide ((j : Int) < 64) = false := by simp; omega
              clear hdec2 hlt2
              go_wp2_with fail
              refine HCS.out.mono ?_
              rintro e w5 ⟨rfl, h5, hk5⟩
              have H5 := Lib.hid h5
              have HW5 := Lib.hid (HW2.out.keep hk5)
              have HB5 := Lib.hid (hk5.whole HBR.out bool_not)
              clear h5 hk5
              obtain ⟨wo2, rfl⟩ : ∃ wo2 : World, wo2 = wr := ⟨_, rfl⟩
              go_wp2_with fail
              go_loopw [16] (SureRel3 w D w2.heap.size w3.heap.size V2) (fun i _ => 8 - (intOf i).toNat)
              case atStart => exact ⟨0, Nat.zero_le _, rfl, H5.out, HW5.out, HB5.out⟩
              case round =>
                obtain ⟨q, hq, rfl, hh, hw, hbr⟩ := hrel
                have HH3 := Lib.hid hh
                have HW3 := Lib.hid hw
                have HB3 := Lib.hid hbr
                clear hh hw hbr
                by_cases hq8 : q < 8
                · have hqV : q < V2.length := by rw [HV28.out]; exact hq8
                  have hrd := h_read HH3.out q
                  obtain ⟨e1, e2⟩ := read_want (V := V2) hqV
                  have qb : wr.cell? ⟨w3.heap.size, q, none⟩ = some (.bool (V2[q]).1) := by rw [HB3.out.cell, List.getElem?_map, List.getElem?_eq_getElem hqV]; rfl
                  have hsmq := HSM2.out _ (List.getElem_mem hqV)
                  obtain ⟨vk, qv, hsl, _⟩ := HW3.out.cell (p := q) (by rw [List.length_map]; exact hqV)
                  rw [List.getElem_map] at hsl
                  obtain ⟨pq, hpq⟩ : ∃ pq, pq = V2[q] := ⟨_, rfl⟩
                  rw [← hpq] at e1 e2 qb hsmq hsl
                  have e1' : (dvS (V2.map toSec) []).readE q = (if pq.1 = true then 9 else 0) := e1
                  have e2' : (dvS (V2.map toSec) []).readB q = (if pq.1 = true then [] else padB pq.2) := e2
                  rw [e1', e2'] at hrd
                  clear e1 e2 e1' e2' hpq
                  obtain ⟨bq, lq⟩ := pq
                  cases bq with
                  | true =>
                    have hrd1 : Calls Try.prog 23 #[.pointer (some ⟨D, 0, none⟩), .int .i64 q] wr (fun e w' => ∃ A c, e = .returned (.tuple #[.slice A 0 c, .int .i64 9]) ∧ w'.ownsRow wr.heap.size 5 1 (.slice A 0 c) 0 [] ∧ Below wr.heap.size wr w' ∧ Holds w w' D (dvS (V2.map toSec) [])) := hrd
                    have HRD := Lib.hid hrd1
                    clear hrd hrd1 hsl qv hsmq
                    have qb1 : wr.cell? ⟨w3.heap.size, q, none⟩ = some (.bool true) := qb
                    clear qb
                    go_wp2_with fail
                    refine HRD.out.mono ?_
                    rintro e w6 ⟨A6, c6, rfl, _, hb6, h6⟩
                    have qb6 : w6.cell? ⟨w3.heap.size, q, none⟩ = some (.bool true) := (hb6.cell (p := ⟨w3.heap.size, q, none⟩) (block_lt_of_cell qb1)).trans qb1
                    have H6 := Lib.hid h6
                    have HK6 := Lib.hid (Kept.below hb6)
                    clear hb6 h6 qb1
                    go_wp2
                    refine ⟨⟨q + 1, by omega, by go_num, H6.out, HW3.out.keep HK6.out, HK6.out.whole HB3.out bool_not⟩, by simp [intOf]; omega⟩
                  | false =>
                    have hln : (padB lq).length = 512 := length_padB hsmq
                    have HLN := Lib.hid hln
                    have hrd1 : Calls Try.prog 23 #[.pointer (some ⟨D, 0, none⟩), .int .i64 q] wr (fun e w' => ∃ A c, e = .returned (.tuple #[.slice A 512 c, .int .i64 0]) ∧ w'.ownsRow wr.heap.size 5 1 (.slice A 512 c) 512 ((padB lq).map bc) ∧ Below wr.heap.size wr w' ∧ Holds w w' D (dvS (V2.map toSec) [])) := by
                      have h := hrd
                      simp only [if_neg (show ¬ (false = true) by decide)] at h
                      rw [hln] at h
                      exact h
                    have HRD := Lib.hid hrd1
                    obtain ⟨Ak, ck, rfl, hrk⟩ := hsl.row HH3.out.below
                    have HRK := Lib.hid hrk
                    have HSQ := Lib.hid (show lq.length ≤ 512 from hsmq)
                    have qv1 : wr.cell? ⟨w2.heap.size, q, none⟩ = some (.slice Ak lq.length ck) := qv
                    have qb1 : wr.cell? ⟨w3.heap.size, q, none⟩ = some (.bool false) := qb
                    clear hrd hrd1 hsl qb qv hsmq hln hrk
                    go_wp2_with fail
                    refine HRD.out.mono ?_
                    rintro e w6 ⟨A6, c6, rfl, ho6, hb6, h6⟩
                    have qb6 : w6.cell? ⟨w3.heap.size, q, none⟩ = some (.bool false) := (hb6.cell (p := ⟨w3.heap.size, q, none⟩) (block_lt_of_cell qb1)).trans qb1
                    have qv6 : w6.cell? ⟨w2.heap.size, q, none⟩ = some (.slice Ak lq.length ck) := (hb6.cell (p := ⟨w2.heap.size, q, none⟩) (block_lt_of_cell qv1)).trans qv1
                    have H6 := Lib.hid h6
                    have HK6 := Lib.hid (Kept.below hb6)
                    have HR6 := Lib.hid (Row.of_own ho6)
                    have HRK6 := Lib.hid ((HRK.out.below hb6).mono hb6.size)
                    clear ho6 hb6 h6 qb1 qv1
                    go_wp2_with fail
                    refine (zero_any w6).mono ?_
                    rintro e w7 ⟨rfl, hx7, hb7⟩
                    have qv7 : w7.cell? ⟨w2.heap.size, q, none⟩ = some (.slice Ak lq.length ck) := (hb7.cell (p := ⟨w2.heap.size, q, none⟩) (block_lt_of_cell qv6)).trans qv6
                    have HX7 := Lib.hid (show w7.heap[w6.heap.size]? = some (.cells (zero512.map bc).toArray 5 (0, 0)) from hx7)
                    have HB7 := Lib.hid hb7
                    have HRK7 := Lib.hid (HRK6.out.below hb7)
                    clear hx7 hb7 qb6 qv6
                    go_wp2_with (
                      with_reducible refine wpList_copy_splice rfl (.tmp 146) (.tmp 150) 30 30 rfl 5 Try.underlying30 u8_size _ _ _ _ _ _ rfl rfl w6.heap.size 0 _ 5 HX7.out (lq.map bc) ?c4 ?c5 ?c6 (bc_one lq) w6.heap.size w6 HB7.out (Nat.le_refl _) ?_
                      case c4 => rw [List.length_map]; exact (Nat.min_eq_left HSQ.out).symm
                      case c5 => exact fun h0 => ⟨rfl, HRK7.out.pos h0⟩
                      case c6 => rw [List.length_map, List.length_map, length_zero512]; have := HSQ.out; omega
                      intro w8 hx8 hb8
                      have H8 := Lib.hid (H6.out.next hb8)
                      have HK8 := Lib.hid (Kept.below hb8)
                      have HR8 := Lib.hid ((HR6.out.below hb8).mono hb8.size)
                      have HX8 := Lib.hid (show Whole w8 w6.heap.size 5 ((padB lq).map bc) from by have h := hx8.out; rw [pad_zero8] at h; exact h)
                      clear hx8 hb8)
                    refine (same_yes A6 _ 512 512 c6 512 w8.heap.size (padB lq) w8 HLN.out HLN.out HR8.out HX8.out.row (by decide)).mono ?_
                    rintro e w9 ⟨rfl, k9, rfl⟩
                    go_wp2
                    have hk := HK6.out.trans HK8.out
                    refine ⟨⟨q + 1, by omega, by go_num, H8.out.drewN k9, (HW3.out.keep hk).keep (Kept.below (below_drewN' (Below.refl _ _) k9)), (hk.whole HB3.out bool_not)⟩, by simp [intOf]; omega⟩
                · obtain rfl : q = 8 := by omega
                  go_wp2
                  go_ret
                  exact ⟨rfl, HH3.out.below⟩
            · clear hdec2 hlt2
              go_wp2_with fail
              refine HCS.out.mono ?_
              rintro e w5 ⟨rfl, h5, hk5⟩
              have H5 := Lib.hid h5
              have HW5 := Lib.hid (HW2.out.keep hk5)
              have HB5 := Lib.hid (hk5.whole HBR.out bool_not)
              clear h5 hk5
              obtain ⟨wo2, rfl⟩ : ∃ wo2 : World, wo2 = wr := ⟨_, rfl⟩
              go_wp2_with fail
              go_loopw [16] (SureRel3 w D w2.heap.size w3.heap.size V2) (fun i _ => 8 - (intOf i).toNat)
              case atStart => exact ⟨0, Nat.zero_le _, rfl, H5.out, HW5.out, HB5.out⟩
              case round =>
                obtain ⟨q, hq, rfl, hh, hw, hbr⟩ := hrel
                have HH3 := Lib.hid hh
                have HW3 := Lib.hid hw
                have HB3 := Lib.hid hbr
                clear hh hw hbr
                by_cases hq8 : q < 8
                · have hqV : q < V2.length := by rw [HV28.out]; exact hq8
                  have hrd := h_read HH3.out q
                  obtain ⟨e1, e2⟩ := read_want (V := V2) hqV
                  have qb : wr.cell? ⟨w3.heap.size, q, none⟩ = some (.bool (V2[q]).1) := by rw [HB3.out.cell, List.getElem?_map, List.getElem?_eq_getElem hqV]; rfl
                  have hsmq := HSM2.out _ (List.getElem_mem hqV)
                  obtain ⟨vk, qv, hsl, _⟩ := HW3.out.cell (p := q) (by rw [List.length_map]; exact hqV)
                  rw [List.getElem_map] at hsl
                  obtain ⟨pq, hpq⟩ : ∃ pq, pq = V2[q] := ⟨_, rfl⟩
                  rw [← hpq] at e1 e2 qb hsmq hsl
                  have e1' : (dvS (V2.map toSec) []).readE q = (if pq.1 = true then 9 else 0) := e1
                  have e2' : (dvS (V2.map toSec) []).readB q = (if pq.1 = true then [] else padB pq.2) := e2
                  rw [e1', e2'] at hrd
                  clear e1 e2 e1' e2' hpq
                  obtain ⟨bq, lq⟩ := pq
                  cases bq with
                  | true =>
                    have hrd1 : Calls Try.prog 23 #[.pointer (some ⟨D, 0, none⟩), .int .i64 q] wr (fun e w' => ∃ A c, e = .returned (.tuple #[.slice A 0 c, .int .i64 9]) ∧ w'.ownsRow wr.heap.size 5 1 (.slice A 0 c) 0 [] ∧ Below wr.heap.size wr w' ∧ Holds w w' D (dvS (V2.map toSec) [])) := hrd
                    have HRD := Lib.hid hrd1
                    clear hrd hrd1 hsl qv hsmq
                    have qb1 : wr.cell? ⟨w3.heap.size, q, none⟩ = some (.bool true) := qb
                    clear qb
                    go_wp2_with fail
                    refine HRD.out.mono ?_
                    rintro e w6 ⟨A6, c6, rfl, _, hb6, h6⟩
                    have qb6 : w6.cell? ⟨w3.heap.size, q, none⟩ = some (.bool true) := (hb6.cell (p := ⟨w3.heap.size, q, none⟩) (block_lt_of_cell qb1)).trans qb1
                    have H6 := Lib.hid h6
                    have HK6 := Lib.hid (Kept.below hb6)
                    clear hb6 h6 qb1
                    go_wp2
                    refine ⟨⟨q + 1, by omega, by go_num, H6.out, HW3.out.keep HK6.out, HK6.out.whole HB3.out bool_not⟩, by simp [intOf]; omega⟩
                  | false =>
                    have hln : (padB lq).length = 512 := length_padB hsmq
                    have HLN := Lib.hid hln
                    have hrd1 : Calls Try.prog 23 #[.pointer (some ⟨D, 0, none⟩), .int .i64 q] wr (fun e w' => ∃ A c, e = .returned (.tuple #[.slice A 512 c, .int .i64 0]) ∧ w'.ownsRow wr.heap.size 5 1 (.slice A 512 c) 512 ((padB lq).map bc) ∧ Below wr.heap.size wr w' ∧ Holds w w' D (dvS (V2.map toSec) [])) := by
                      have h := hrd
                      simp only [if_neg (show ¬ (false = true) by decide)] at h
                      rw [hln] at h
                      exact h
                    have HRD := Lib.hid hrd1
                    obtain ⟨Ak, ck, rfl, hrk⟩ := hsl.row HH3.out.below
                    have HRK := Lib.hid hrk
                    have HSQ := Lib.hid (show lq.length ≤ 512 from hsmq)
                    have qv1 : wr.cell? ⟨w2.heap.size, q, none⟩ = some (.slice Ak lq.length ck) := qv
                    have qb1 : wr.cell? ⟨w3.heap.size, q, none⟩ = some (.bool false) := qb
                    clear hrd hrd1 hsl qb qv hsmq hln hrk
                    go_wp2_with fail
                    refine HRD.out.mono ?_
                    rintro e w6 ⟨A6, c6, rfl, ho6, hb6, h6⟩
                    have qb6 : w6.cell? ⟨w3.heap.size, q, none⟩ = some (.bool false) := (hb6.cell (p := ⟨w3.heap.size, q, none⟩) (block_lt_of_cell qb1)).trans qb1
                    have qv6 : w6.cell? ⟨w2.heap.size, q, none⟩ = some (.slice Ak lq.length ck) := (hb6.cell (p := ⟨w2.heap.size, q, none⟩) (block_lt_of_cell qv1)).trans qv1
                    have H6 := Lib.hid h6
                    have HK6 := Lib.hid (Kept.below hb6)
                    have HR6 := Lib.hid (Row.of_own ho6)
                    have HRK6 := Lib.hid ((HRK.out.below hb6).mono hb6.size)
                    clear ho6 hb6 h6 qb1 qv1
                    go_wp2_with fail
                    refine (zero_any w6).mono ?_
                    rintro e w7 ⟨rfl, hx7, hb7⟩
                    have qv7 : w7.cell? ⟨w2.heap.size, q, none⟩ = some (.slice Ak lq.length ck) := (hb7.cell (p := ⟨w2.heap.size, q, none⟩) (block_lt_of_cell qv6)).trans qv6
                    have HX7 := Lib.hid (show w7.heap[w6.heap.size]? = some (.cells (zero512.map bc).toArray 5 (0, 0)) from hx7)
                    have HB7 := Lib.hid hb7
                    have HRK7 := Lib.hid (HRK6.out.below hb7)
                    clear hx7 hb7 qb6 qv6
                    go_wp2_with (
                      with_reducible refine wpList_copy_splice rfl (.tmp 146) (.tmp 150) 30 30 rfl 5 Try.underlying30 u8_size _ _ _ _ _ _ rfl rfl w6.heap.size 0 _ 5 HX7.out (lq.map bc) ?c4 ?c5 ?c6 (bc_one lq) w6.heap.size w6 HB7.out (Nat.le_refl _) ?_
                      case c4 => rw [List.length_map]; exact (Nat.min_eq_left HSQ.out).symm
                      case c5 => exact fun h0 => ⟨rfl, HRK7.out.pos h0⟩
                      case c6 => rw [List.length_map, List.length_map, length_zero512]; have := HSQ.out; omega
                      intro w8 hx8 hb8
                      have H8 := Lib.hid (H6.out.next hb8)
                      have HK8 := Lib.hid (Kept.below hb8)
                      have HR8 := Lib.hid ((HR6.out.below hb8).mono hb8.size)
                      have HX8 := Lib.hid (show Whole w8 w6.heap.size 5 ((padB lq).map bc) from by have h := hx8.out; rw [pad_zero8] at h; exact h)
                      clear hx8 hb8)
                    refine (same_yes A6 _ 512 512 c6 512 w8.heap.size (padB lq) w8 HLN.out HLN.out HR8.out HX8.out.row (by decide)).mono ?_
                    rintro e w9 ⟨rfl, k9, rfl⟩
                    go_wp2
                    have hk := HK6.out.trans HK8.out
                    refine ⟨⟨q + 1, by omega, by go_num, H8.out.drewN k9, (HW3.out.keep hk).keep (Kept.below (below_drewN' (Below.refl _ _) k9)), (hk.whole HB3.out bool_not)⟩, by simp [intOf]; omega⟩
                · obtain rfl : q = 8 := by omega
                  go_wp2
                  go_ret
                  exact ⟨rfl, HH3.out.below⟩
      · clear hdec hlt
        go_wp2_with fail
        refine HS.out.mono ?_
        rintro e w3 ⟨rfl, h3, hk3⟩
        rw [HSY.out] at h3
        have H3 := Lib.hid h3
        have HW3 := Lib.hid (HW.out.keep hk3)
        clear h3 hk3
        go_wp2_with (
          refine wpList_make_zeros rfl (.const (.int .i64 8)) (.const (.int .i64 8)) _ rfl 4 i2 _ 1 Try.underlying52 hi2 hx0 hx1 hx2 rfl .i64 .i64 _ _ 8 8 rfl rfl rfl (by omega) (by omega) (by omega) (by unfold maxLen; omega) ?_)
        have HZ := Lib.hid (show w.heap.size ≤ w2.heap.size ∧ w.heap.size ≤ w3.heap.size from ⟨H2.out.below.size, H3.out.below.size⟩)
        obtain ⟨wo, rfl⟩ : ∃ wo : World, wo = wr := ⟨_, rfl⟩
        go_loopw [14] (SureRel2 w D w2.heap.size w3.heap.size m t (V.map toSec) V ov) (fun i _ => ov.length - (intOf i).toNat)
        case atStart =>
          refine ⟨0, Nat.zero_le _, Nat.zero_le _, rfl, H3.out.alloc _, HW3.out.keep (Kept.below ((Below.refl _ _).alloc (Nat.le_refl _) _)), ?_⟩
          show Whole _ _ _ (V.map fun p => .bool p.1)
          rw [HFST.out]
          exact heap_alloc_new w3 _
        case round =>
          obtain ⟨j, hj, hj64, rfl, hh, hw, hbr⟩ := hrel
          have HH2 := Lib.hid hh
          have HW2 := Lib.hid hw
          have HBR := Lib.hid hbr
          clear hh hw hbr
          by_cases hlt2 : j < ov.length ∧ j < 64
          · obtain ⟨hlt2, h64⟩ := hlt2
            have d64 : decide ((j : Int) < 64) = true := by simp; omega
            obtain ⟨bB, oB, rfl, hbB, hcB⟩ := HB.out.at_ (k := j) (by rw [List.length_map]; exact hlt2)
            obtain ⟨b, hbe⟩ : ∃ b, b = ov[j] := ⟨_, rfl⟩
            rw [List.getElem_map, ← hbe] at hcB
            have HBE := Lib.hid hbe
            have HCB := Lib.hid (show w.cell? ⟨bB, oB + j, none⟩ = some (.int .u8 b.toNat) from hcB)
            have cb1 : wr.cell? ⟨bB, oB + j, none⟩ = some (.int .u8 b.toNat) := (HH2.out.below.cell (p := ⟨bB, oB + j, none⟩) hbB).trans HCB.out
            have hp8 : b.toNat % 8 < 8 := Nat.mod_lt _ (by decide)
            have hbt : b.toNat ≤ 255 := by have := b.toNat_lt; omega
            have e8 : ((b.toNat : Int) % 8) = ((b.toNat % 8 : Nat) : Int) := by omega
            clear hbe hcB
            have hwr4 := h_write (HH2.out.alloc (.cells (([b, 1] : List UInt8).map bc).toArray 5)) ((b.toNat : Int) % 8) _ 2 [b, 1] (by show 2 ≤ 9223372036854775807; decide) (BytesAt.lit wr [b, 1]) (by show (us2 ov j).length < 4294967296; rw [length_us2 hj]; omega)
            rw [show (dvS (V.map toSec) (us2 ov j)).write ((b.toNat : Int) % 8) [b, 1] = dvS (V.map toSec) (us2 ov (j + 1)) from by rw [e8, write_plain (x := dvS (V.map toSec) (us2 ov j)) rfl rfl (by show b.toNat % 8 < (V.map toSec).length; rw [List.length_map, HV8.out]; exact hp8) (by show 2 ≤ 512; decide), us2_succ hlt2, ← HBE.out]; rfl] at hwr4
            have HWR4 := Lib.hid hwr4
            clear hwr4 e8
            go_wp2_with fail
            refine HWR4.out.mono ?_
            rintro e w4 ⟨rfl, h4, hk4⟩
            have H4 := Lib.hid h4
            have hka := Kept.below ((Below.refl wr.heap.size wr).alloc (Nat.le_refl _) (.cells (([b, 1] : List UInt8).map bc).toArray 5))
            have HW4 := Lib.hid ((HW2.out.keep hka).keep hk4)
            have HB4 := Lib.hid (hk4.whole (hka.whole HBR.out bool_not) bool_not)
            clear h4 hk4 hka cb1
            obtain ⟨p, hp⟩ : ∃ p, p = b.toNat % 8 := ⟨_, rfl⟩
            have hp8' : p < 8 := by rw [hp]; exact hp8
            have hlV : (vl2 m t ov V j).length = 8 := length_vl2 m t ov HV8.out j
            obtain ⟨vk, q4, z4⟩ : ∃ vk, w4.cell? ⟨w2.heap.size, p, none⟩ = some vk ∧ w4.frozen? ⟨w2.heap.size, p, none⟩ = false := by
              obtain ⟨vk, q4, _, z4⟩ := HW4.out.cell (p := p) (by rw [List.length_map, hlV]; exact hp8')
              exact ⟨vk, q4, z4⟩
            obtain ⟨b5, q5⟩ : ∃ b5, w4.cell? ⟨w3.heap.size, p, none⟩ = some (.bool b5) := ⟨_, by rw [HB4.out.cell, List.getElem?_map, List.getElem?_eq_getElem (by rw [hlV]; exact hp8')]; rfl⟩
            have z5 : w4.frozen? ⟨w3.heap.size, p, none⟩ = false := HB4.out.frozen p
            rw [hp] at q4 z4 q5 z5
            have hne : w2.heap.size ≠ w3.heap.size := by have := HW3.out.lt; omega
            have hbt2 := shr_fact t j h64
            have hbm2 := shr_fact m j h64
            have HSTEP := Lib.hid (show vl2 m t ov V (j + 1) = if bitAt t j = true then (vl2 m t ov V j).set p (true, []) else if bitAt m j = true then (vl2 m t ov V j).set p (false, [b, 1]) else vl2 m t ov V j from by rw [vl2, List.getElem?_eq_getElem hlt2, ← HBE.out, hp])
            have HPP := Lib.hid hp
            clear hp
            cases htb : bitAt t j with
            | true =>
              rw [htb] at hbt2
              have HT := Lib.hid htb
              clear htb hbm2
              go_wp2
              refine ⟨⟨j + 1, by omega, by omega, by go_num, ?_, ?_, ?_⟩, by simp [intOf]; omega⟩
              · rw [← HPP.out]
                obtain ⟨vs', hv', _⟩ := (HW4.out.beside HB4.out p (.bool true))
                exact (H4.out.put HB4.out bool_not HZ.out.2 p _).put hv' bs_not HZ.out.1 p _
              · rw [HSTEP.out, if_pos HT.out, ← HPP.out, List.map_set]
                exact (HW4.out.beside HB4.out p (.bool true)).set_ p (Sl.nil _ _)
              · rw [HSTEP.out, if_pos HT.out, ← HPP.out, List.map_set]
                exact (Below.heap_setCell _ _ _ _ (fun e => hne e.symm)).trans (HB4.out.set_ p _)
            | false =>
              rw [htb] at hbt2
              have HT := Lib.hid htb
              clear htb
              cases hmb : bitAt m j with
              | true =>
                rw [hmb] at hbm2
                have HM := Lib.hid hmb
                clear hmb
                have cb4 : w4.cell? ⟨bB, oB + j, none⟩ = some (.int .u8 b.toNat) := (H4.out.below.cell (p := ⟨bB, oB + j, none⟩) hbB).trans HCB.out
                have hneb : bB ≠ w3.heap.size := by have := HZ.out.2; omega
                have HQ := Lib.hid (show w4.cell? ⟨w2.heap.size, b.toNat % 8, none⟩ = some vk ∧ w4.frozen? ⟨w2.heap.size, b.toNat % 8, none⟩ = false from ⟨q4, z4⟩)
                have q6 : ((w4.setCell ⟨w3.heap.size, b.toNat % 8, none⟩ (.bool false)).alloc (.cells #[.int .u8 b.toNat, .int .u8 1] 5)).cell? ⟨w2.heap.size, b.toNat % 8, none⟩ = some vk := by
                  rw [World.cell?_alloc_lt _ _ _ (by show w2.heap.size < (w4.setCell _ _).heap.size; rw [World.size_setCell]; exact HW4.out.lt), World.cell?_setCell_other _ _ _ _ (by intro e; injection e with e _; exact hne e.symm)]
                  exact HQ.out.1
                have z6 : ((w4.setCell ⟨w3.heap.size, b.toNat % 8, none⟩ (.bool false)).alloc (.cells #[.int .u8 b.toNat, .int .u8 1] 5)).frozen? ⟨w2.heap.size, b.toNat % 8, none⟩ = false := by
                  rw [World.frozen?_alloc_past _ _ _ (by show w2.heap.size < (w4.setCell _ _).heap.size; rw [World.size_setCell]; exact HW4.out.lt), World.frozen?_setCell]
                  exact HQ.out.2
                clear q4 z4
                go_wp2
                have hW6 := (HW4.out.beside HB4.out p (.bool false)).keep (Kept.below ((Below.refl _ _).alloc (Nat.le_refl _) (.cells (([b, 1] : List UInt8).map bc).toArray 5)))
                have hB6 := (HB4.out.set_ p (.bool false)).alloc (.cells (([b, 1] : List UInt8).map bc).toArray 5)
                have hH6 := (H4.out.put HB4.out bool_not HZ.out.2 p (.bool false)).alloc (.cells (([b, 1] : List UInt8).map bc).toArray 5)
                have hS6 : Sl w ((w4.setCell ⟨w3.heap.size, p, none⟩ (.bool false)).alloc (.cells (([b, 1] : List UInt8).map bc).toArray 5)) (.slice (some ⟨w4.heap.size, 0, none⟩) 2 2) [b, 1] := by
                  refine ⟨_, 2, rfl, .inr ⟨w4.heap.size, rfl, H4.out.below.size, ?_⟩⟩
                  have h := Whole.made (w4.setCell ⟨w3.heap.size, p, none⟩ (.bool false)) (([b, 1] : List UInt8).map bc) 5
                  rw [World.size_setCell] at h
                  exact h
                refine ⟨⟨j + 1, by omega, by omega, by go_num, ?_, ?_, ?_⟩, by simp [intOf]; omega⟩
                · rw [← HPP.out]
                  obtain ⟨vs', hv', _⟩ := hW6
                  exact hH6.put hv' bs_not HZ.out.1 p _
                · rw [HSTEP.out, if_neg (by rw [HT.out]; decide), if_pos HM.out, ← HPP.out, List.map_set]
                  exact hW6.set_ p hS6
                · rw [HSTEP.out, if_neg (by rw [HT.out]; decide), if_pos HM.out, ← HPP.out, List.map_set]
                  exact (Below.heap_setCell _ _ _ _ (fun e => hne e.symm)).trans hB6
              | false =>
                rw [hmb] at hbm2
                have HM := Lib.hid hmb
                clear hmb
                go_wp2
                refine ⟨⟨j + 1, by omega, by omega, by go_num, ?_, ?_, ?_⟩, by simp [intOf]; omega⟩
                · exact H4.out
                · rw [HSTEP.out, if_neg (by rw [HT.out]; decide), if_neg (by rw [HM.out]; decide)]
                  exact HW4.out
                · rw [HSTEP.out, if_neg (by rw [HT.out]; decide), if_neg (by rw [HM.out]; decide)]
                  exact HB4.out
          · have hdec2 : (j < ov.length → ¬ j < 64) := fun h1 h2 => hlt2 ⟨h1, h2⟩
            obtain ⟨V2, hV2⟩ : ∃ V2, V2 = vl2 m t ov V j := ⟨_, rfl⟩
            have hV28 : V2.length = 8 := by rw [hV2]; exact length_vl2 m t ov HV8.out j
            have hcr : (dvS (V.map toSec) (us2 ov j)).crash m t = dvS (V2.map toSec) [] := by
              show dvS (crashN m t (us2 ov j) (V.map toSec) (us2 ov j).length) [] = _
              rw [length_us2 hj, hV2, ← crash_vl2 m t ov V hj j (Nat.le_refl _)]
            have hsm2 : smallV V2 := by rw [hV2]; exact small_vl2 m t ov HSM.out j
            have hcs := h_crash HH2.out m t hm ht (by show (us2 ov j).length < 4294967296; rw [length_us2 hj]; omega)
            rw [hcr] at hcs
            rw [← hV2] at HW2 HBR
            have HCS := Lib.hid hcs
            have HV28 := Lib.hid hV28
            have HSM2 := Lib.hid hsm2
            clear hcs hV28 hsm2 hcr hV2
            by_cases hl2 : j < ov.length
            · have d64 : decide ((j : Int) < 64) = false := by simp; omega
              clear hdec2 hlt2
              go_wp2_with fail
              refine HCS.out.mono ?_
              rintro e w5 ⟨rfl, h5, hk5⟩
              have H5 := Lib.hid h5
              have HW5 := Lib.hid (HW2.out.keep hk5)
              have HB5 := Lib.hid (hk5.whole HBR.out bool_not)
              clear h5 hk5
              obtain ⟨wo2, rfl⟩ : ∃ wo2 : World, wo2 = wr := ⟨_, rfl⟩
              go_wp2_with fail
              go_loopw [16] (SureRel3 w D w2.heap.size w3.heap.size V2) (fun i _ => 8 - (intOf i).toNat)
              case atStart => exact ⟨0, Nat.zero_le _, rfl, H5.out, HW5.out, HB5.out⟩
              case round =>
                obtain ⟨q, hq, rfl, hh, hw, hbr⟩ := hrel
                have HH3 := Lib.hid hh
                have HW3 := Lib.hid hw
                have HB3 := Lib.hid hbr
                clear hh hw hbr
                by_cases hq8 : q < 8
                · have hqV : q < V2.length := by rw [HV28.out]; exact hq8
                  have hrd := h_read HH3.out q
                  obtain ⟨e1, e2⟩ := read_want (V := V2) hqV
                  have qb : wr.cell? ⟨w3.heap.size, q, none⟩ = some (.bool (V2[q]).1) := by rw [HB3.out.cell, List.getElem?_map, List.getElem?_eq_getElem hqV]; rfl
                  have hsmq := HSM2.out _ (List.getElem_mem hqV)
                  obtain ⟨vk, qv, hsl, _⟩ := HW3.out.cell (p := q) (by rw [List.length_map]; exact hqV)
                  rw [List.getElem_map] at hsl
                  obtain ⟨pq, hpq⟩ : ∃ pq, pq = V2[q] := ⟨_, rfl⟩
                  rw [← hpq] at e1 e2 qb hsmq hsl
                  have e1' : (dvS (V2.map toSec) []).readE q = (if pq.1 = true then 9 else 0) := e1
                  have e2' : (dvS (V2.map toSec) []).readB q = (if pq.1 = true then [] else padB pq.2) := e2
                  rw [e1', e2'] at hrd
                  clear e1 e2 e1' e2' hpq
                  obtain ⟨bq, lq⟩ := pq
                  cases bq with
                  | true =>
                    have hrd1 : Calls Try.prog 23 #[.pointer (some ⟨D, 0, none⟩), .int .i64 q] wr (fun e w' => ∃ A c, e = .returned (.tuple #[.slice A 0 c, .int .i64 9]) ∧ w'.ownsRow wr.heap.size 5 1 (.slice A 0 c) 0 [] ∧ Below wr.heap.size wr w' ∧ Holds w w' D (dvS (V2.map toSec) [])) := hrd
                    have HRD := Lib.hid hrd1
                    clear hrd hrd1 hsl qv hsmq
                    have qb1 : wr.cell? ⟨w3.heap.size, q, none⟩ = some (.bool true) := qb
                    clear qb
                    go_wp2_with fail
                    refine HRD.out.mono ?_
                    rintro e w6 ⟨A6, c6, rfl, _, hb6, h6⟩
                    have qb6 : w6.cell? ⟨w3.heap.size, q, none⟩ = some (.bool true) := (hb6.cell (p := ⟨w3.heap.size, q, none⟩) (block_lt_of_cell qb1)).trans qb1
                    have H6 := Lib.hid h6
                    have HK6 := Lib.hid (Kept.below hb6)
                    clear hb6 h6 qb1
                    go_wp2
                    refine ⟨⟨q + 1, by omega, by go_num, H6.out, HW3.out.keep HK6.out, HK6.out.whole HB3.out bool_not⟩, by simp [intOf]; omega⟩
                  | false =>
                    have hln : (padB lq).length = 512 := length_padB hsmq
                    have HLN := Lib.hid hln
                    have hrd1 : Calls Try.prog 23 #[.pointer (some ⟨D, 0, none⟩), .int .i64 q] wr (fun e w' => ∃ A c, e = .returned (.tuple #[.slice A 512 c, .int .i64 0]) ∧ w'.ownsRow wr.heap.size 5 1 (.slice A 512 c) 512 ((padB lq).map bc) ∧ Below wr.heap.size wr w' ∧ Holds w w' D (dvS (V2.map toSec) [])) := by
                      have h := hrd
                      simp only [if_neg (show ¬ (false = true) by decide)] at h
                      rw [hln] at h
                      exact h
                    have HRD := Lib.hid hrd1
                    obtain ⟨Ak, ck, rfl, hrk⟩ := hsl.row HH3.out.below
                    have HRK := Lib.hid hrk
                    have HSQ := Lib.hid (show lq.length ≤ 512 from hsmq)
                    have qv1 : wr.cell? ⟨w2.heap.size, q, none⟩ = some (.slice Ak lq.length ck) := qv
                    have qb1 : wr.cell? ⟨w3.heap.size, q, none⟩ = some (.bool false) := qb
                    clear hrd hrd1 hsl qb qv hsmq hln hrk
                    go_wp2_with fail
                    refine HRD.out.mono ?_
                    rintro e w6 ⟨A6, c6, rfl, ho6, hb6, h6⟩
                    have qb6 : w6.cell? ⟨w3.heap.size, q, none⟩ = some (.bool false) := (hb6.cell (p := ⟨w3.heap.size, q, none⟩) (block_lt_of_cell qb1)).trans qb1
                    have qv6 : w6.cell? ⟨w2.heap.size, q, none⟩ = some (.slice Ak lq.length ck) := (hb6.cell (p := ⟨w2.heap.size, q, none⟩) (block_lt_of_cell qv1)).trans qv1
                    have H6 := Lib.hid h6
                    have HK6 := Lib.hid (Kept.below hb6)
                    have HR6 := Lib.hid (Row.of_own ho6)
                    have HRK6 := Lib.hid ((HRK.out.below hb6).mono hb6.size)
                    clear ho6 hb6 h6 qb1 qv1
                    go_wp2_with fail
                    refine (zero_any w6).mono ?_
                    rintro e w7 ⟨rfl, hx7, hb7⟩
                    have qv7 : w7.cell? ⟨w2.heap.size, q, none⟩ = some (.slice Ak lq.length ck) := (hb7.cell (p := ⟨w2.heap.size, q, none⟩) (block_lt_of_cell qv6)).trans qv6
                    have HX7 := Lib.hid (show w7.heap[w6.heap.size]? = some (.cells (zero512.map bc).toArray 5 (0, 0)) from hx7)
                    have HB7 := Lib.hid hb7
                    have HRK7 := Lib.hid (HRK6.out.below hb7)
                    clear hx7 hb7 qb6 qv6
                    go_wp2_with (
                      with_reducible refine wpList_copy_splice rfl (.tmp 146) (.tmp 150) 30 30 rfl 5 Try.underlying30 u8_size _ _ _ _ _ _ rfl rfl w6.heap.size 0 _ 5 HX7.out (lq.map bc) ?c4 ?c5 ?c6 (bc_one lq) w6.heap.size w6 HB7.out (Nat.le_refl _) ?_
                      case c4 => rw [List.length_map]; exact (Nat.min_eq_left HSQ.out).symm
                      case c5 => exact fun h0 => ⟨rfl, HRK7.out.pos h0⟩
                      case c6 => rw [List.length_map, List.length_map, length_zero512]; have := HSQ.out; omega
                      intro w8 hx8 hb8
                      have H8 := Lib.hid (H6.out.next hb8)
                      have HK8 := Lib.hid (Kept.below hb8)
                      have HR8 := Lib.hid ((HR6.out.below hb8).mono hb8.size)
                      have HX8 := Lib.hid (show Whole w8 w6.heap.size 5 ((padB lq).map bc) from by have h := hx8.out; rw [pad_zero8] at h; exact h)
                      clear hx8 hb8)
                    refine (same_yes A6 _ 512 512 c6 512 w8.heap.size (padB lq) w8 HLN.out HLN.out HR8.out HX8.out.row (by decide)).mono ?_
                    rintro e w9 ⟨rfl, k9, rfl⟩
                    go_wp2
                    have hk := HK6.out.trans HK8.out
                    refine ⟨⟨q + 1, by omega, by go_num, H8.out.drewN k9, (HW3.out.keep hk).keep (Kept.below (below_drewN' (Below.refl _ _) k9)), (hk.whole HB3.out bool_not)⟩, by simp [intOf]; omega⟩
                · obtain rfl : q = 8 := by omega
                  go_wp2
                  go_ret
                  exact ⟨rfl, HH3.out.below⟩
            · clear hdec2 hlt2
              go_wp2_with fail
              refine HCS.out.mono ?_
              rintro e w5 ⟨rfl, h5, hk5⟩
              have H5 := Lib.hid h5
              have HW5 := Lib.hid (HW2.out.keep hk5)
              have HB5 := Lib.hid (hk5.whole HBR.out bool_not)
              clear h5 hk5
              obtain ⟨wo2, rfl⟩ : ∃ wo2 : World, wo2 = wr := ⟨_, rfl⟩
              go_wp2_with fail
              go_loopw [16] (SureRel3 w D w2.heap.size w3.heap.size V2) (fun i _ => 8 - (intOf i).toNat)
              case atStart => exact ⟨0, Nat.zero_le _, rfl, H5.out, HW5.out, HB5.out⟩
              case round =>
                obtain ⟨q, hq, rfl, hh, hw, hbr⟩ := hrel
                have HH3 := Lib.hid hh
                have HW3 := Lib.hid hw
                have HB3 := Lib.hid hbr
                clear hh hw hbr
                by_cases hq8 : q < 8
                · have hqV : q < V2.length := by rw [HV28.out]; exact hq8
                  have hrd := h_read HH3.out q
                  obtain ⟨e1, e2⟩ := read_want (V := V2) hqV
                  have qb : wr.cell? ⟨w3.heap.size, q, none⟩ = some (.bool (V2[q]).1) := by rw [HB3.out.cell, List.getElem?_map, List.getElem?_eq_getElem hqV]; rfl
                  have hsmq := HSM2.out _ (List.getElem_mem hqV)
                  obtain ⟨vk, qv, hsl, _⟩ := HW3.out.cell (p := q) (by rw [List.length_map]; exact hqV)
                  rw [List.getElem_map] at hsl
                  obtain ⟨pq, hpq⟩ : ∃ pq, pq = V2[q] := ⟨_, rfl⟩
                  rw [← hpq] at e1 e2 qb hsmq hsl
                  have e1' : (dvS (V2.map toSec) []).readE q = (if pq.1 = true then 9 else 0) := e1
                  have e2' : (dvS (V2.map toSec) []).readB q = (if pq.1 = true then [] else padB pq.2) := e2
                  rw [e1', e2'] at hrd
                  clear e1 e2 e1' e2' hpq
                  obtain ⟨bq, lq⟩ := pq
                  cases bq with
                  | true =>
                    have hrd1 : Calls Try.prog 23 #[.pointer (some ⟨D, 0, none⟩), .int .i64 q] wr (fun e w' => ∃ A c, e = .returned (.tuple #[.slice A 0 c, .int .i64 9]) ∧ w'.ownsRow wr.heap.size 5 1 (.slice A 0 c) 0 [] ∧ Below wr.heap.size wr w' ∧ Holds w w' D (dvS (V2.map toSec) [])) := hrd
                    have HRD := Lib.hid hrd1
                    clear hrd hrd1 hsl qv hsmq
                    have qb1 : wr.cell? ⟨w3.heap.size, q, none⟩ = some (.bool true) := qb
                    clear qb
                    go_wp2_with fail
                    refine HRD.out.mono ?_
                    rintro e w6 ⟨A6, c6, rfl, _, hb6, h6⟩
                    have qb6 : w6.cell? ⟨w3.heap.size, q, none⟩ = some (.bool true) := (hb6.cell (p := ⟨w3.heap.size, q, none⟩) (block_lt_of_cell qb1)).trans qb1
                    have H6 := Lib.hid h6
                    have HK6 := Lib.hid (Kept.below hb6)
                    clear hb6 h6 qb1
                    go_wp2
                    refine ⟨⟨q + 1, by omega, by go_num, H6.out, HW3.out.keep HK6.out, HK6.out.whole HB3.out bool_not⟩, by simp [intOf]; omega⟩
                  | false =>
                    have hln : (padB lq).length = 512 := length_padB hsmq
                    have HLN := Lib.hid hln
                    have hrd1 : Calls Try.prog 23 #[.pointer (some ⟨D, 0, none⟩), .int .i64 q] wr (fun e w' => ∃ A c, e = .returned (.tuple #[.slice A 512 c, .int .i64 0]) ∧ w'.ownsRow wr.heap.size 5 1 (.slice A 512 c) 512 ((padB lq).map bc) ∧ Below wr.heap.size wr w' ∧ Holds w w' D (dvS (V2.map toSec) [])) := by
                      have h := hrd
                      simp only [if_neg (show ¬ (false = true) by decide)] at h
                      rw [hln] at h
                      exact h
                    have HRD := Lib.hid hrd1
                    obtain ⟨Ak, ck, rfl, hrk⟩ := hsl.row HH3.out.below
                    have HRK := Lib.hid hrk
                    have HSQ := Lib.hid (show lq.length ≤ 512 from hsmq)
                    have qv1 : wr.cell? ⟨w2.heap.size, q, none⟩ = some (.slice Ak lq.length ck) := qv
                    have qb1 : wr.cell? ⟨w3.heap.size, q, none⟩ = some (.bool false) := qb
                    clear hrd hrd1 hsl qb qv hsmq hln hrk
                    go_wp2_with fail
                    refine HRD.out.mono ?_
                    rintro e w6 ⟨A6, c6, rfl, ho6, hb6, h6⟩
                    have qb6 : w6.cell? ⟨w3.heap.size, q, none⟩ = some (.bool false) := (hb6.cell (p := ⟨w3.heap.size, q, none⟩) (block_lt_of_cell qb1)).trans qb1
                    have qv6 : w6.cell? ⟨w2.heap.size, q, none⟩ = some (.slice Ak lq.length ck) := (hb6.cell (p := ⟨w2.heap.size, q, none⟩) (block_lt_of_cell qv1)).trans qv1
                    have H6 := Lib.hid h6
                    have HK6 := Lib.hid (Kept.below hb6)
                    have HR6 := Lib.hid (Row.of_own ho6)
                    have HRK6 := Lib.hid ((HRK.out.below hb6).mono hb6.size)
                    clear ho6 hb6 h6 qb1 qv1
                    go_wp2_with fail
                    refine (zero_any w6).mono ?_
                    rintro e w7 ⟨rfl, hx7, hb7⟩
                    have qv7 : w7.cell? ⟨w2.heap.size, q, none⟩ = some (.slice Ak lq.length ck) := (hb7.cell (p := ⟨w2.heap.size, q, none⟩) (block_lt_of_cell qv6)).trans qv6
                    have HX7 := Lib.hid (show w7.heap[w6.heap.size]? = some (.cells (zero512.map bc).toArray 5 (0, 0)) from hx7)
                    have HB7 := Lib.hid hb7
                    have HRK7 := Lib.hid (HRK6.out.below hb7)
                    clear hx7 hb7 qb6 qv6
                    go_wp2_with (
                      with_reducible refine wpList_copy_splice rfl (.tmp 146) (.tmp 150) 30 30 rfl 5 Try.underlying30 u8_size _ _ _ _ _ _ rfl rfl w6.heap.size 0 _ 5 HX7.out (lq.map bc) ?c4 ?c5 ?c6 (bc_one lq) w6.heap.size w6 HB7.out (Nat.le_refl _) ?_
                      case c4 => rw [List.length_map]; exact (Nat.min_eq_left HSQ.out).symm
                      case c5 => exact fun h0 => ⟨rfl, HRK7.out.pos h0⟩
                      case c6 => rw [List.length_map, List.length_map, length_zero512]; have := HSQ.out; omega
                      intro w8 hx8 hb8
                      have H8 := Lib.hid (H6.out.next hb8)
                      have HK8 := Lib.hid (Kept.below hb8)
                      have HR8 := Lib.hid ((HR6.out.below hb8).mono hb8.size)
                      have HX8 := Lib.hid (show Whole w8 w6.heap.size 5 ((padB lq).map bc) from by have h := hx8.out; rw [pad_zero8] at h; exact h)
                      clear hx8 hb8)
                    refine (same_yes A6 _ 512 512 c6 512 w8.heap.size (padB lq) w8 HLN.out HLN.out HR8.out HX8.out.row (by decide)).mono ?_
                    rintro e w9 ⟨rfl, k9, rfl⟩
                    go_wp2
                    have hk := HK6.out.trans HK8.out
                    refine ⟨⟨q + 1, by omega, by go_num, H8.out.drewN k9, (HW3.out.keep hk).keep (Kept.below (below_drewN' (Below.refl _ _) k9)), (hk.whole HB3.out bool_not)⟩, by simp [intOf]; omega⟩
                · obtain rfl : q = 8 := by omega
                  go_wp2
                  go_ret
                  exact ⟨rfl, HH3.out.below⟩

end Go.Proofs.Ytledoajhjkfaoaa
