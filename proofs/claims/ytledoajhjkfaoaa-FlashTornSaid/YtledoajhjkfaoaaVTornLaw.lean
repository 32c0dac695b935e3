/-
  FlashTorn: a torn sector is torn till it is written; what was written is there then, and sure, when all is.
-/
import Derived.Test.YtledoajhjkfaoaaVAns
namespace Go.Proofs.Ytledoajhjkfaoaa
open Go.RowKit

def trn1 : Dv := ⟨[secZero, secZero], [⟨1, padB [1]⟩], 0, false⟩
def trn2 : Dv := ⟨[secZero, secTorn], [], 0, false⟩
def trn3 (l : List UInt8) : Dv := ⟨[secZero, secTorn], [⟨1, padB l⟩], 0, false⟩
def trn4 (l : List UInt8) : Dv := ⟨[secZero, ⟨padB l, false⟩], [], 0, false⟩
theorem trn1_write : (newDv 2).write 1 [1] = trn1 := by
  unfold Dv.write
  rw [if_neg (by decide), if_neg (by decide)]
  rfl
theorem trn1_crash : trn1.crash 0 1 = trn2 := rfl
theorem trn3_write {l : List UInt8} (h : l.length ≤ 512) : trn2.write 1 l = trn3 l ∧ trn2.writeE 1 l = 0 := by
  constructor
  · unfold Dv.write
    rw [if_neg (by rintro (h1 | h1 | h1); exact absurd h1 (by decide); exact absurd h1 (by decide); omega), if_neg (by decide)]
    rfl
  · unfold Dv.writeE
    rw [if_neg (by decide), if_neg (by rintro (h1 | h1); exact absurd h1 (by decide); omega), if_neg (by decide)]
theorem trn3_sync (l : List UInt8) : (trn3 l).sync = trn4 l ∧ (trn3 l).syncE = 0 := ⟨rfl, rfl⟩
theorem trn4_crash (l : List UInt8) : (trn4 l).crash 0 0 = trn4 l := rfl
theorem trn3_crash (l : List UInt8) : (trn3 l).crash 0 0 = trn2 := rfl
theorem trn2_read : trn2.readE 1 = 9 ∧ trn2.readB 1 = [] := ⟨rfl, rfl⟩
theorem trn3_read (l : List UInt8) : (trn3 l).readE 1 = 0 ∧ (trn3 l).readB 1 = padB l := ⟨rfl, rfl⟩
theorem trn4_read (l : List UInt8) : (trn4 l).readE 1 = 0 ∧ (trn4 l).readB 1 = padB l := ⟨rfl, rfl⟩
theorem pad_zero {l : List UInt8} (_ : l.length ≤ 512) : splice (zero512.map bc) 0 (l.map bc) = (padB l).map bc := by
  unfold splice padB zero512
  rw [List.length_map, List.take_zero, List.nil_append, Nat.zero_add, List.map_append, List.map_replicate, List.map_replicate, List.drop_replicate]

set_option maxRecDepth 4000 in
set_option maxHeartbeats 400000 in
theorem torn_long (A : Option Addr) (c n : Nat) (b : Bool) (w : World) (hn : n ≤ maxLen) (h5 : 512 < n) : Calls Try.prog 5 #[.slice A n c, .bool b] w (TrueB w) := by
  have HN := Lib.hid (h_new w w (Below.refl _ _) 2 (by decide) (by decide))
  unfold maxLen at hn
  have d1 : decide (512 < (n : Int)) = true := by simp; omega
  go_enter Try.func5, Try.ntmps5
  go_wp2_with fail
  refine HN.out.mono ?_
  rintro e w1 ⟨D, rfl, h1⟩
  have H1 := Lib.hid h1
  clear h1
  go_wp2_with fail
  refine (flash_answers w1).mono ?_
  rintro e w2 ⟨rfl, hb2⟩
  have H2 := Lib.hid (H1.out.next hb2)
  clear hb2
  go_wp2_with fail
  refine (flash_answers w2).mono ?_
  rintro e w3 ⟨rfl, hb3⟩
  have H3 := Lib.hid (H2.out.next hb3)
  clear hb3
  go_wp2
  go_ret
  exact ⟨rfl, H3.out.below⟩

set_option maxRecDepth 4000 in
set_option maxHeartbeats 1000000 in
theorem torn_short (A : Option Addr) (c : Nat) (l : List UInt8) (b : Bool) (w : World) (hA : Row w w.heap.size A (l.map bc)) (h5 : l.length ≤ 512) : Calls Try.prog 5 #[.slice A l.length c, .bool b] w (TrueB w) := by
  have HN := Lib.hid (h_new w w (Below.refl _ _) 2 (by decide) (by decide))
  have d1 : decide (512 < (l.length : Int)) = false := by simp; omega
  have H5 := Lib.hid h5
  have HA := Lib.hid hA
  have HLEN := Lib.hid (length_padB h5)
  obtain ⟨i0, hi0, hz0, hz1, hz2⟩ := info_parts u8_info
  clear hA h5
  go_enter Try.func5, Try.ntmps5
  go_wp2_with fail
  refine HN.out.mono ?_
  rintro e w1 ⟨D, rfl, h1⟩
  have H1 := Lib.hid h1
  clear h1
  go_wp2_with fail
  refine (flash_answers w1).mono ?_
  rintro e w2 ⟨rfl, hb2⟩
  have H2 := Lib.hid (H1.out.next hb2)
  clear hb2
  go_wp2_with fail
  refine (h_write (H2.out.alloc _) 1 _ _ [1] (by decide) (BytesAt.lit w2 [1]) (by decide)).mono ?_
  rw [trn1_write]
  rintro e w3 ⟨rfl, h3, _⟩
  have H3 := Lib.hid h3
  clear h3
  go_wp2_with fail
  refine (h_crash H3.out 0 1 (by decide) (by decide) (by decide)).mono ?_
  rw [trn1_crash]
  rintro e w4 ⟨rfl, h4, _⟩
  have H4 := Lib.hid h4
  clear h4
  go_wp2_with fail
  refine (h_read H4.out 1).mono ?_
  rw [trn2_read.1, trn2_read.2]
  rintro e w5 ⟨A5, c5, rfl, _, _, h5⟩
  have H5d := Lib.hid h5
  have HA5 := Lib.hid (HA.out.below h5.below)
  have hz5 := h5.below.size
  clear h5
  go_wp2_with (
    at_builtin
    refine wpList_append_row rfl (.tmp 44) (.tmp 45) _ rfl w5.heap.size 5 i0 _ 1 1 Try.underlying30 hi0 hz0 hz1 hz2 rfl (by omega) (.slice (some ⟨w5.heap.size, 0, none⟩) 0 0) 0 [] rfl
      (own_lit _ _ _) A l.length c w.heap.size (l.map bc) rfl (by rw [List.length_map]; omega) (HA5.out.alloc hz5 (.cells #[] 5)) (bc_one l) (by unfold maxLen; have := H5.out; omega) (by have := H5.out; omega) (by simp) ?_
    intro v6 w6 hown6 hg6
    simp only [Nat.zero_add, List.nil_append] at hown6
    obtain ⟨A6, c6, rfl, _, _⟩ := own_form hown6
    have HO6 := Lib.hid (BytesAt.own hown6)
    have hB6 := (own_below ((Below.refl w5.heap.size w5).alloc (Nat.le_refl _) _) (Nat.le_refl _) (by simp) (own_lit w5 5 1) hg6)
    have H6 := Lib.hid (H5d.out.next hB6)
    clear hown6 hg6 hB6)
  refine (h_write H6.out 1 A6 c6 l (by have := H5.out; omega) HO6.out (by decide)).mono ?_
  rw [(trn3_write H5.out).1, (trn3_write H5.out).2]
  rintro e w7 ⟨rfl, h7, _⟩
  have H7 := Lib.hid h7
  clear h7
  go_wp2_with fail
  refine (h_read H7.out 1).mono ?_
  rw [(trn3_read l).1, (trn3_read l).2, HLEN.out]
  rintro e w8 ⟨A8, c8, rfl, ho8, _, h8⟩
  have H8 := Lib.hid h8
  have HR8 := Lib.hid (Row.of_own ho8)
  clear h8 ho8
  go_wp2_with fail
  refine (zero_any w8).mono ?_
  rintro e w9 ⟨rfl, hx9, hb9⟩
  have H9 := Lib.hid (H8.out.next hb9)
  have HB9 := Lib.hid hb9
  have HA9 := Lib.hid (HA.out.below H9.out.below)
  have HX9 := Lib.hid (show w9.heap[w8.heap.size]? = some (.cells (zero512.map bc).toArray 5 (0, 0)) from hx9)
  clear hb9 hx9
  go_wp2_with (
    with_reducible refine wpList_copy_splice rfl (.tmp 54) (.tmp 55) 30 30 rfl 5 Try.underlying30 u8_size _ _ _ _ _ _ rfl rfl w8.heap.size 0 _ 5 HX9.out (l.map bc) ?c4 ?c5 ?c6 (bc_one l) w8.heap.size w8 HB9.out (Nat.le_refl _) ?_
    case c4 => rw [List.length_map]; exact (Nat.min_eq_left H5.out).symm
    case c5 => exact fun h0 => ⟨rfl, HA9.out.pos h0⟩
    case c6 => rw [List.length_map, List.length_map, length_zero512]; have := H5.out; omega
    intro w10 hx10 hb10
    have H10 := Lib.hid (H8.out.next hb10)
    have HR10 := Lib.hid (HR8.out.below hb10)
    have HX10 := Lib.hid (show Whole w10 w8.heap.size 5 ((padB l).map bc) from by have h := hx10.out; rw [pad_zero H5.out] at h; exact h)
    have hz10 := hb10.size
    clear hx10 hb10)
  refine (same_yes A8 _ 512 512 c8 512 w10.heap.size (padB l) w10 HLEN.out HLEN.out (HR10.out.mono hz10) HX10.out.row (by decide)).mono ?_
  rintro e w11 ⟨rfl, k11, rfl⟩
  have hone : (trn3 l).uns.length < 4294967296 := by show 1 < 4294967296; decide
  have HONE := Lib.hid hone
  clear hone
  cases b with
  | true =>
    go_wp2_with fail
    refine (h_sync (H10.out.drewN k11) HONE.out).mono ?_
    rw [(trn3_sync l).1, (trn3_sync l).2]
    rintro e w12 ⟨rfl, h12, hk12⟩
    have H12 := Lib.hid h12
    have HX12 := Lib.hid (hk12.whole (HX10.out.drewN k11) u8_not)
    clear h12 hk12
    go_wp2_with fail
    refine (h_crash H12.out 0 0 (by decide) (by decide) (by show 0 < 4294967296; decide)).mono ?_
    rw [trn4_crash]
    rintro e w13 ⟨rfl, h13, hk13⟩
    have H13 := Lib.hid h13
    have HX13 := Lib.hid (hk13.whole HX12.out u8_not)
    clear h13 hk13
    go_wp2_with fail
    refine (h_read H13.out 1).mono ?_
    rw [(trn4_read l).1, (trn4_read l).2, HLEN.out]
    rintro e w14 ⟨A14, c14, rfl, ho14, hb14, h14⟩
    have H14 := Lib.hid h14
    have HR14 := Lib.hid (Row.of_own ho14)
    have HX14 := Lib.hid ((Kept.below hb14).whole HX13.out u8_not)
    clear h14 ho14 hb14
    go_wp2_with fail
    refine (same_yes A14 _ 512 512 c14 512 w14.heap.size (padB l) w14 HLEN.out HLEN.out HR14.out HX14.out.row (by decide)).mono ?_
    rintro e w15 ⟨rfl, k15, rfl⟩
    go_wp2
    go_ret
    exact ⟨rfl, below_drewN' H14.out.below _⟩
  | false =>
    go_wp2_with fail
    refine (h_crash (H10.out.drewN k11) 0 0 (by decide) (by decide) HONE.out).mono ?_
    rw [trn3_crash]
    rintro e w13 ⟨rfl, h13, _⟩
    have H13 := Lib.hid h13
    clear h13
    go_wp2_with fail
    refine (h_read H13.out 1).mono ?_
    rw [trn2_read.1, trn2_read.2]
    rintro e w14 ⟨A14, c14, rfl, _, _, h14⟩
    have H14 := Lib.hid h14
    clear h14
    go_wp2
    go_ret
    exact ⟨rfl, H14.out.below⟩

end Go.Proofs.Ytledoajhjkfaoaa
