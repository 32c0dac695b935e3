/-
  The contract of sector.Seal.
-/
import Derived.Test.YthjcpficpiddaaaDoorJNum
import Derived.Test.YthjcpficpiddaaaDoorPut
import Derived.Test.YthjcpficpiddaaaDoorFrame
namespace Go.Proofs.YthjcpficpiddaaaDoor
open Go.RowKit

/-- What Seal leaves: an error and no bytes, or its bytes, of its own. -/
def SealOut (w : World) (h : SH) (l : List UInt8) (e : Ending) (w' : World) : Prop :=
  ∃ v, e = .returned (.tuple #[v, .int .i64 (sealE h l.length)]) ∧ w'.ownsRow w.heap.size 5 1 v (sealB h l).length ((sealB h l).map bc) ∧ Below w.heap.size w w'

set_option maxHeartbeats 400000 in
theorem seal_head (A : Option Addr) (c n : Nat) (h : SH) (l : List UInt8) (w : World) (_ : l.length = n) (hs : SizesAt w) (hb : headB h = false) :
    Calls Tryd.prog 15 #[h.val, .slice A n c] w (SealOut w h l) := by
  have HE := Lib.hid (sealE_head (n := l.length) hb)
  have HBB := Lib.hid (sealB_head (l := l) hb)
  have hn := sound_any h
  rw [hb] at hn
  have HN := Lib.hid hn
  have HS := Lib.hid (hs.alloc (.cells h.cells.toArray 49))
  clear hs hb hn
  unfold SH.val
  go_enter Tryd.func15, Tryd.ntmps15
  go_wp2_with fail
  refine (HN.out _ HS.out).mono ?_
  rintro e w1 ⟨rfl, hb1⟩
  have HB1 := Lib.hid (((Below.refl w.heap.size w).alloc (Nat.le_refl _) _).trans (hb1.mono (by simp)))
  clear hb1
  go_wp2
  go_ret2
  exact ⟨.slice none 0 0, by rw [HE.out]; rfl, by rw [HBB.out]; exact World.ownsRow_nil _ _ _ _, HB1.out⟩

set_option maxHeartbeats 400000 in
theorem seal_large (A : Option Addr) (c n : Nat) (h : SH) (l : List UInt8) (w : World) (hl : l.length = n) (hs : SizesAt w) (hb : headB h = true) (hn : 496 < n) (_ : n ≤ maxLen) :
    Calls Tryd.prog 15 #[h.val, .slice A n c] w (SealOut w h l) := by
  have HE := Lib.hid (sealE_large (n := l.length) hb (by omega))
  have HBB := Lib.hid (sealB_large (h := h) (l := l) (by omega))
  have hn2 := sound_any h
  rw [hb] at hn2
  have HN := Lib.hid hn2
  have HS := Lib.hid (hs.alloc (.cells h.cells.toArray 49))
  have d1 : decide ((496 : Int) < (n : Int)) = true := by simp; omega
  clear hs hb hl hn2
  unfold SH.val
  go_enter Tryd.func15, Tryd.ntmps15
  go_wp2_with fail
  refine (HN.out _ HS.out).mono ?_
  rintro e w1 ⟨rfl, hb1⟩
  have HB1 := Lib.hid (((Below.refl w.heap.size w).alloc (Nat.le_refl _) _).trans (hb1.mono (by simp)))
  clear hb1
  go_wp2
  go_ret2
  exact ⟨.slice none 0 0, by rw [HE.out]; rfl, by rw [HBB.out]; exact World.ownsRow_nil _ _ _ _, HB1.out⟩

structure HdLen (h : SH) (n : Nat) : Prop where
  out : (hdB h n).length = 16
def SealRel (h : SH) (w : World) (v i : Value) (wr : World) : Prop :=
  ∃ k : Nat, k ≤ 5 ∧ i = .int .i64 k ∧ wr.ownsRow w.heap.size 5 1 v (hdP h k).length ((hdP h k).map bc) ∧ Below w.heap.size w wr

set_option maxHeartbeats 1000000 in
set_option maxRecDepth 4000 in
theorem seal_ok (A : Option Addr) (c n : Nat) (h : SH) (l : List UInt8) (w : World) (hl : l.length = n) (hA : Row w w.heap.size A (l.map bc)) (hs : SizesAt w) (hb : headB h = true) (hn : n ≤ 496) (_ : n ≤ c) :
    Calls Tryd.prog 15 #[h.val, .slice A n c] w (SealOut w h l) := by
  have HE := Lib.hid (sealE_ok (n := l.length) hb (by omega))
  have HBB := Lib.hid (sealB_ok (l := l) hb (by omega))
  have HBL := Lib.hid (length_sealB (l := l) hb (by omega))
  have hlh := length_hdB (n := n) (headB_fits hb) hn
  have hn2 := sound_any h
  rw [hb] at hn2
  have HN := Lib.hid hn2
  have HNN := Lib.hid (numbers_any h)
  have HS0 := Lib.hid hs
  have HS := Lib.hid (hs.alloc (.cells h.cells.toArray 49))
  have HL := Lib.hid hl
  have HA := Lib.hid hA
  have HLH : HdLen h n := ⟨hlh⟩
  have d1 : decide ((496 : Int) < (n : Int)) = false := by simp; omega
  obtain ⟨i0, hi0, hz0, hz1, hz2⟩ := info_parts u8_info
  clear hs hb hl hn2 hA hlh
  unfold SH.val
  go_enter Tryd.func15, Tryd.ntmps15
  go_wp2_with fail
  refine (HN.out _ HS.out).mono ?_
  rintro e w1 ⟨rfl, hb1⟩
  have HB1 := Lib.hid (((Below.refl w.heap.size w).alloc (Nat.le_refl _) _).trans (hb1.mono (by simp)))
  have hc0 : ∀ j v, h.cells[j]? = some v → w1.cell? ⟨w.heap.size, j, none⟩ = some v := fun j v hj => by
    rw [hb1.cell (p := ⟨w.heap.size, j, none⟩) (by simp), World.cell?_alloc_at _ _ _ _ rfl]
    simpa [SH.cells] using hj
  have c0 := hc0 0 _ rfl
  have c1 := hc0 1 _ rfl
  have c2 := hc0 2 _ rfl
  have c3 := hc0 3 _ rfl
  have c4 := hc0 4 _ rfl
  clear hc0 hb1
  go_wp2_with fail
  refine (HNN.out _).mono ?_
  rintro e w2 ⟨rfl, hb2⟩
  have HB2 := Lib.hid (HB1.out.trans (hb2.mono HB1.out.size))
  clear hb2 c0 c1 c2 c3 c4
  go_wp2
  go_loopw [6, 18] (SealRel h w) (fun _ i _ => 5 - (intOf i).toNat)
  case atStart => exact ⟨0, by omega, rfl, World.ownsRow_nil _ _ _ _, HB2.out⟩
  case round =>
    obtain ⟨k, hk, rfl, hown, hbr⟩ := hrel
    obtain ⟨A1, c1, rfl, hc1, hc2⟩ := own_form hown
    have hlk := length_hdP h k
    have HO := Lib.hid hown
    have HB := Lib.hid hbr
    have HSr := Lib.hid (HS0.out.next hbr)
    clear hown hbr
    by_cases hlt : k < 5
    · have hi := fun w => arr_index h hlt w
      have hcel := HSr.out.cell hlt
      have HP := Lib.hid (put_any A1 (hdP h k).length c1 wr.heap.size (hdP h k) (h.num k) (szN k) wr rfl (Row.of_own HO.out) (Nat.le_refl _) (by omega))
      clear hlk hc1 hc2 d1
      go_wp2_with fail
      refine HP.out.mono ?_
      rintro e w3 ⟨A3, c3, rfl, hown3, hb3⟩
      have hsz := HB.out.size
      have HO3 := Lib.hid (own_mono hown3 hsz)
      have HB3 := Lib.hid (HB.out.trans (hb3.mono hsz))
      clear hown3 hb3
      go_wp2
      exact ⟨⟨k + 1, by omega, by go_num, HO3.out, HB3.out⟩, by simp [intOf]; omega⟩
    · obtain rfl : k = 5 := by omega
      have HP := Lib.hid (put_any A1 (hdP h 5).length c1 wr.heap.size (hdP h 5) n 2 wr rfl (Row.of_own HO.out) (Nat.le_refl _) (by omega))
      clear hlk
      have hsz := HB.out.size
      go_wp2_with fail
      refine HP.out.mono ?_
      rintro e w3 ⟨A3, c3, rfl, hown3, hb3⟩
      have hlen : (putL (hdP h 5) n 2).length = 16 := HLH.out
      rw [hlen] at hown3 ⊢
      have HR3 := Lib.hid (Row.of_own hown3)
      have hsz3 := hb3.size
      have HB3 := Lib.hid (HB.out.trans (hb3.mono hsz))
      have HD := Lib.hid (show putL (hdP h 5) n 2 = hdB h n from rfl)
      clear hown3 hb3 hlen
      have HA3 := Lib.hid (HA.out.below HB3.out)
      go_wp2_with (first
        | (refine wpList_make_zeros rfl (.const (.int .i64 512)) (.const (.int .i64 512)) _ rfl 5 i0 _ 1 Tryd.underlying45 hi0 hz0 hz1 hz2 rfl .i64 .i64 512 512 512 512 rfl rfl (by omega) (by omega) (by omega) (by omega) (by unfold maxLen; omega) ?_)
        | (with_reducible refine wpList_copy_splice rfl (.tmp 34) (.tmp 35) _ _ rfl 5 Tryd.underlying45 u8_size _ _ _ _ _ _ rfl rfl w3.heap.size 0 (zerosL (.int .u8 0) 512) 5 (heap_alloc_new w3 _) ((hdB h n).map bc) ?c3 ?c4 ?c5 (bc_one _) w3.heap.size w3 ?c7 (Nat.le_refl _) ?_
           case c3 => rw [List.length_map, HLH.out]; rfl
           case c4 => exact fun h0 => ⟨rfl, (HR3.out.alloc (Nat.le_refl _) _).pos (by rw [List.length_map, HD.out]; rwa [List.length_map] at h0)⟩
           case c5 => rw [List.length_map, HLH.out, length_zerosL]; omega
           case c7 => exact (Below.refl _ _).alloc (Nat.le_refl _) _
           intro w4 HG4 hB4
           have HB4 := Lib.hid hB4
           have HA4 := Lib.hid (HA3.out.below (hB4.mono (Nat.le_trans hsz hsz3)))
           clear hB4)
        | (with_reducible refine wpList_copy_splice rfl (.tmp 38) (.tmp 39) _ _ rfl 5 Tryd.underlying45 u8_size _ _ _ _ _ _ rfl rfl w3.heap.size 16 (splice (zerosL (.int .u8 0) 512) 0 ((hdB h n).map bc)) 5 HG4.out (l.map bc) ?d3 ?d4 ?d5 (bc_one _) w3.heap.size w3 HB4.out (Nat.le_refl _) ?_
           case d3 => rw [List.length_map, HL.out]; exact (Nat.min_eq_left hn).symm
           case d4 => exact fun h0 => ⟨rfl, HA4.out.pos h0⟩
           case d5 => rw [length_splice _ _ _ (by rw [List.length_map, HLH.out, length_zerosL]; omega), List.length_map, HL.out, length_zerosL]; omega
           intro w5 HG5 hB5
           have HB5 := Lib.hid hB5
           clear hB5))
      go_ret2
      refine ⟨.slice (some ⟨w3.heap.size, 0, none⟩) 512 512, by rw [HE.out]; rfl, ?_, HB3.out.trans (HB5.out.mono (Nat.le_trans hsz hsz3))⟩
      have hbl := HBL.out
      rw [hbl, HBB.out, HL.out]
      have h5 := HG5.out
      have hsp := seal_splice (hd := hdB h n) (l := l) HLH.out (by have := HL.out; omega)
      rw [hsp] at h5
      refine own_of_block h5 (Nat.le_trans hsz hsz3) ?_ (Nat.le_refl _) (by unfold maxLen; omega) ?_
      · rw [List.length_map, ← HL.out, ← HBB.out, hbl]
      · rw [HL.out]; exact List.take_of_length_le (by rw [List.length_map, ← HL.out, ← HBB.out, hbl]; exact Nat.le_refl _)

theorem seal_any (A : Option Addr) (c n : Nat) (h : SH) (l : List UInt8) (w : World) (hl : l.length = n) (hA : Row w w.heap.size A (l.map bc)) (hs : SizesAt w) (hc : n ≤ c) (hm : n ≤ maxLen) :
    Calls Tryd.prog 15 #[h.val, .slice A n c] w (SealOut w h l) := by
  cases hb : headB h with
  | false => exact seal_head A c n h l w hl hs hb
  | true =>
    by_cases hn : n ≤ 496
    · exact seal_ok A c n h l w hl hA hs hb hn hc
    · exact seal_large A c n h l w hl hs hb (by omega) hm

end Go.Proofs.YthjcpficpiddaaaDoor
