/-
  FlashApart: a device and its copy know nothing of each other; nothing is shared; a nil one is refused.
-/
import Derived.Test.YtledoajhjkfaoaaVTwo
import Derived.Test.YtledoajhjkfaoaaVNil
import Derived.Deep.QuietTactic
import Derived.BigQuiet
namespace Go.Proofs.Ytledoajhjkfaoaa
open Go.RowKit

def apt1 (l : List UInt8) : Dv := ⟨[secZero, secZero, secZero], [⟨1, padB l⟩], 0, false⟩
theorem apt1_write {l : List UInt8} (h : l.length ≤ 512) : (newDv 3).write 1 l = apt1 l := by
  unfold Dv.write
  rw [if_neg (by rintro (h1 | h1 | h1); exact absurd h1 (by decide); exact absurd h1 (by decide); omega), if_neg (by decide)]
  rfl
def apt2 (l : List UInt8) : Dv := ⟨[secZero, secZero, secZero], [⟨1, padB l⟩, ⟨1, padB [9]⟩], 0, false⟩
theorem apt2_write (l : List UInt8) : (apt1 l).write 1 [9] = apt2 l := by
  unfold Dv.write
  rw [if_neg (by rintro (h1 | h1 | h1); exact absurd h1 (by show ¬ false = true; decide); exact absurd h1 (by rw [show (apt1 l).has 1 = true from rfl]; decide); exact absurd h1 (by decide)), if_neg (by rw [show (apt1 l).lasts = true from rfl]; decide)]
  rfl
theorem apt1_read (l : List UInt8) : (apt1 l).readE 1 = 0 ∧ (apt1 l).readB 1 = padB l := ⟨rfl, rfl⟩
theorem apt1_crash (l : List UInt8) : (apt1 l).crash 0 0 = newDv 3 := rfl
theorem apt2_read : (newDv 3).readE 1 = 0 ∧ (newDv 3).readB 1 = zero512 := ⟨rfl, rfl⟩

theorem told_quiet {P : Program} {f : FuncId} {args : Array Value} {w : World} {v : Value} {k : Nat} (h : Calls P f args (w.drewN k) (Told (w.drewN k) v)) : Calls P f args (w.drewN k) fun e w' => e = .returned v ∧ ∃ m, w' = w.drewN m :=
  h.mono fun _ _ ⟨he, hw⟩ => ⟨he, k, hw.symm⟩
section
variable (A : Option Addr) (c n : Nat) (at_ : Int) (w : World)
set_option maxRecDepth 4000 in
set_option maxHeartbeats 400000 in
theorem apart_out (hn : n ≤ maxLen) (h5 : 512 < n ∨ n < 1) : Calls Try.prog 6 #[.slice A n c, .int .i64 at_] w (TrueB w) := by
  have HN := Lib.hid (h_new w w (Below.refl _ _) 3 (by decide) (by decide))
  unfold maxLen at hn
  by_cases h6 : 512 < n
  · have d1 : decide (512 < (n : Int)) = true := by simp; omega
    clear h5
    go_enter Try.func6, Try.ntmps6
    go_wp2_with fail
    refine HN.out.mono ?_
    rintro e w1 ⟨D, rfl, h1⟩
    have H1 := Lib.hid h1
    clear h1
    go_wp2_with fail
    refine (flash_answers w1).mono ?_
    rintro e w2 ⟨rfl, hb2⟩
    have H2 := Lib.hid (H1.out.next hb2)
    clear hb2
    go_wp2_with fail
    refine (flash_answers w2).mono ?_
    rintro e w3 ⟨rfl, hb3⟩
    have H3 := Lib.hid (H2.out.next hb3)
    clear hb3
    go_wp2
    go_ret
    exact ⟨rfl, H3.out.below⟩
  · obtain rfl : n = 0 := by omega
    clear h5 h6
    go_enter Try.func6, Try.ntmps6
    go_wp2_with fail
    refine HN.out.mono ?_
    rintro e w1 ⟨D, rfl, h1⟩
    have H1 := Lib.hid h1
    clear h1
    go_wp2_with fail
    refine (flash_answers w1).mono ?_
    rintro e w2 ⟨rfl, hb2⟩
    have H2 := Lib.hid (H1.out.next hb2)
    clear hb2
    go_wp2_with fail
    refine (flash_answers w2).mono ?_
    rintro e w3 ⟨rfl, hb3⟩
    have H3 := Lib.hid (H2.out.next hb3)
    clear hb3
    go_wp2
    go_ret
    exact ⟨rfl, H3.out.below⟩
end

set_option maxRecDepth 8000 in
set_option maxHeartbeats 2000000 in
theorem apart_in (A : Option Addr) (c : Nat) (a : UInt8) (t : List UInt8) (at_ : Int) (w : World) (hA : Row w w.heap.size A ((a :: t).map bc)) (h5 : (a :: t).length ≤ 512) :
    Calls Try.prog 6 #[.slice A (a :: t).length c, .int .i64 at_] w (TrueB w) := by
  have HN := Lib.hid (h_new w w (Below.refl _ _) 3 (by decide) (by decide))
  obtain ⟨n, hn⟩ : ∃ n, n = (a :: t).length := ⟨_, rfl⟩
  have h1n : 1 ≤ n := by rw [hn]; simp
  have d1 : decide (512 < (n : Int)) = false := by simp; omega
  have d2 : decide ((n : Int) < 1) = false := by simp; omega
  have HNL := Lib.hid hn
  have H5 := Lib.hid h5
  have HA := Lib.hid hA
  have HLEN := Lib.hid (length_padB h5)
  obtain ⟨b0, o0, rfl, hb0, hc0⟩ := hA (by simp)
  have hca := hc0 0 (bc a) rfl
  rw [Nat.add_zero] at hca
  have HCA := Lib.hid hca
  obtain ⟨i0, hi0, hz0, hz1, hz2⟩ := info_parts u8_info
  rw [← hn]
  clear hA h5 hn hc0 hca
  go_enter Try.func6, Try.ntmps6
  go_wp2_with fail
  refine HN.out.mono ?_
  rintro e w1 ⟨D, rfl, h1⟩
  have H1 := Lib.hid h1
  clear h1
  go_wp2_with fail
  refine (flash_answers w1).mono ?_
  rintro e w2 ⟨rfl, hb2⟩
  have H2 := Lib.hid (H1.out.next hb2)
  have HA2 := Lib.hid (HA.out.below (H1.out.next hb2).below)
  have hz2w := (H1.out.next hb2).below.size
  clear hb2
  go_wp2_with (
    at_builtin
    refine wpList_append_row rfl (.tmp 44) (.tmp 45) _ rfl w2.heap.size 5 i0 _ 1 1 Try.underlying30 hi0 hz0 hz1 hz2 rfl (by omega) (.slice (some ⟨w2.heap.size, 0, none⟩) 0 0) 0 [] rfl
      (own_lit _ _ _) (some ⟨b0, o0, none⟩) n c w.heap.size ((a :: t).map bc) rfl (by rw [List.length_map, HNL.out]; omega) (HA2.out.alloc hz2w (.cells #[] 5)) (bc_one _) (by unfold maxLen; have := H5.out; have := HNL.out; omega) (by have := H5.out; have := HNL.out; omega) (by simp) ?_
    intro v3 w3 hown3 hg3
    simp only [Nat.zero_add, List.nil_append] at hown3
    obtain ⟨A3, c3, rfl, _, _⟩ := own_form hown3
    obtain ⟨g3, rfl⟩ := own_some hown3 h1n
    have hB3 := (own_below ((Below.refl w2.heap.size w2).alloc (Nat.le_refl _) _) (Nat.le_refl _) (by simp) (own_lit w2 5 1) hg3)
    have H3 := Lib.hid (H2.out.next hB3)
    have HO3 := Lib.hid hown3
    clear hown3 hg3 hB3)
  have hw4 := h_write H3.out 1 (some ⟨g3, 0, none⟩) c3 (a :: t) (by have := H5.out; omega) (BytesAt.own HO3.out) (by decide)
  rw [← HNL.out, apt1_write H5.out] at hw4
  have HW4 := Lib.hid hw4
  clear hw4
  go_wp2_with fail
  refine HW4.out.mono ?_
  rintro e w4 ⟨rfl, h4, hk4⟩
  have H4 := Lib.hid h4
  have ho4 := hk4.own HO3.out u8_not
  have HO4 := Lib.hid ho4
  have q4 : w4.cell? ⟨g3, 0, none⟩ = some (.int .u8 a.toNat) := by rw [own_cell ho4 (k := 0) (by simp)]; rfl
  have z4 : w4.frozen? ⟨g3, 0, none⟩ = false := own_frozen ho4 0
  clear h4 hk4 ho4
  go_wp2_with fail
  have H5w := Lib.hid (H4.out.set_ HO4.out hz2w 0 (.int .u8 (((a.toNat : Int) + 1) % 256)))
  refine (h_copy H5w.out (by show 0 < 3; decide) (by show 1 < 4294967296; decide)).mono ?_
  rintro e w6 ⟨C, rfl, h6, _⟩
  have H6 := Lib.hid h6
  clear h6 q4 z4
  have hw7 := h2_write (H6.out.next ((Below.refl _ _).alloc (Nat.le_refl _) _)) 1 _ 1 [9] (by decide) (BytesAt.lit w6 [9]) (by show 1 < 4294967296; decide)
  rw [apt2_write] at hw7
  have HW7 := Lib.hid hw7
  clear hw7
  go_wp2_with fail
  refine HW7.out.mono ?_
  rintro e w7 ⟨rfl, h7, _⟩
  have H7 := Lib.hid h7
  clear h7
  go_wp2_with fail
  refine (h2_sync H7.out (by show 2 < 4294967296; decide)).mono ?_
  rintro e w8 ⟨rfl, h8, _⟩
  have H8 := Lib.hid h8.second
  clear h8
  have hr9 := h_read H8.out 1
  rw [(apt1_read _).1, (apt1_read _).2, HLEN.out] at hr9
  have HR9 := Lib.hid hr9
  clear hr9
  go_wp2_with fail
  refine HR9.out.mono ?_
  rintro e w9 ⟨A9, c9, rfl, ho9, hb9, h9⟩
  obtain ⟨g9, rfl⟩ := own_some ho9 (by decide)
  have H9 := Lib.hid h9
  have HO9 := Lib.hid ho9
  have hlen := HLEN.out
  have qb : w9.cell? ⟨g9, 0, none⟩ = some (.int .u8 a.toNat) := by rw [own_cell ho9 (k := 0) (by rw [List.length_map, hlen]; decide)]; rfl
  have qd : w9.cell? ⟨b0, o0, none⟩ = some (.int .u8 a.toNat) := (h9.below.cell (p := ⟨b0, o0, none⟩) hb0).trans HCA.out
  have hbs := hb9.size
  have HBS := Lib.hid hbs
  have heq : ((a.toNat : Int) == (a.toNat : Int)) = true := by simp
  have hne : ((a.toNat : Int) != (a.toNat : Int)) = false := by simp
  clear ho9 h9 hb9 hbs hlen
  go_wp2_with fail
  go_quiet (fail)
  revert nq
  intro n9
  go_wp2_with fail
  have hu10 := h_unsure (H9.out.drewN n9) (by show 1 < 4294967296; decide)
  refine hu10.mono ?_
  rintro e w10 ⟨v, vs, rfl, hat, hb10, h10⟩
  obtain ⟨u0, rfl⟩ : ∃ u0, vs = [u0] := by
    have := hat.len
    match vs, this with
    | [u0], _ => exact ⟨u0, rfl⟩
  have hrow : w10.ownsRow (w9.drewN n9).heap.size 48 2 v 1 (wcells [⟨1, padB (a :: t)⟩] [u0]) := hat.row
  have heach : w10.ownsRow (w9.drewN n9).heap.size 5 1 u0 512 ((padB (a :: t)).map bc) := hat.each 0 (by show 0 < 1; decide) (by simp)
  obtain ⟨Av, cv, rfl, _, _⟩ := own_form hrow
  obtain ⟨gv, rfl⟩ := own_some hrow (by show 0 < 1; decide)
  obtain ⟨A0, k0, hu0, _, _⟩ := own_form heach
  have hu0' : u0 = .slice A0 512 k0 := hu0
  subst hu0'
  obtain ⟨g0, rfl⟩ := own_some heach (by decide)
  have hlen := HLEN.out
  have p1 : w10.cell? ⟨gv, 1, none⟩ = some (.slice (some ⟨g0, 0, none⟩) 512 k0) := by rw [own_cell hrow (k := 1) (by show 1 < 2; decide)]; rfl
  have p0 : w10.cell? ⟨g0, 0, none⟩ = some (.int .u8 a.toNat) := by
    have := own_cell heach (k := 0) (by show 0 < ((padB (a :: t)).map bc).length; rw [List.length_map, hlen]; decide)
    rw [this]; rfl
  have z0 : w10.frozen? ⟨g0, 0, none⟩ = false := own_frozen heach 0
  have ho10 : w10.ownsRow w8.heap.size 5 1 (.slice (some ⟨g9, 0, none⟩) 512 c9) 512 ((padB (a :: t)).map bc) := own_keep HO9.out fun g hg => hb10.block g (HO9.out.lt g hg).2
  have HO10 := Lib.hid ho10
  have r9 : w10.cell? ⟨g9, 0, none⟩ = some (.int .u8 a.toNat) := by rw [own_cell ho10 (k := 0) (by rw [List.length_map, hlen]; decide)]; rfl
  have z9 : w10.frozen? ⟨g9, 0, none⟩ = false := own_frozen ho10 0
  have rd : w10.cell? ⟨b0, o0, none⟩ = some (.int .u8 a.toNat) := (h10.below.cell (p := ⟨b0, o0, none⟩) hb0).trans HCA.out
  have hne9 : gv ≠ g9 ∧ g0 ≠ g9 := by
    have h1 := (HO9.out.lt g9 rfl).2
    have h2 := (hrow.lt gv rfl).1
    have h3 := (heach.lt g0 rfl).1
    have h4 : (w9.drewN n9).heap.size = w9.heap.size := rfl
    omega
  have H10 := Lib.hid h10
  have HE := Lib.hid heach
  have HZ := Lib.hid (show w.heap.size ≤ w8.heap.size ∧ w.heap.size ≤ (w9.drewN n9).heap.size from ⟨H8.out.below.size, H9.out.below.size⟩)
  have HNE := Lib.hid hne9
  clear hat hb10 h10 hrow heach ho10 hne9 qb qd hlen hu0 hu10
  go_wp2_with fail
  go_quiet (fail)
  go_wp2_with fail
  obtain ⟨W11, hW11⟩ : ∃ W11, W11 = (w10.drewN nq).setCell ⟨g9, 0, none⟩ (.int .u8 (((a.toNat : Int) + 1) % 256)) := ⟨_, rfl⟩
  simp only [← hW11]
  have HW11 := Lib.hid (show Holds w W11 C (apt1 (a :: t)) by rw [hW11]; exact (H10.out.drewN nq).set_ (own_keep HO10.out fun _ _ => rfl) HZ.out.1 0 _)
  have he11 : W11.ownsRow (w9.drewN n9).heap.size 5 1 (.slice (some ⟨g0, 0, none⟩) 512 k0) 512 ((padB (a :: t)).map bc) := by rw [hW11]; exact own_set_far (own_keep HE.out fun _ _ => rfl) (by intro e; simp [Value.ownBlock] at e; exact HNE.out.2 e) _
  have p1e : W11.cell? ⟨gv, 1, none⟩ = some (.slice (some ⟨g0, 0, none⟩) 512 k0) := by rw [hW11, World.cell?_setCell_other _ _ _ _ (by intro e; injection e with e _; exact HNE.out.1 e.symm)]; exact p1
  have p0e : W11.cell? ⟨g0, 0, none⟩ = some (.int .u8 a.toNat) := by rw [hW11, World.cell?_setCell_other _ _ _ _ (by intro e; injection e with e _; exact HNE.out.2 e.symm)]; exact p0
  have z0e : W11.frozen? ⟨g0, 0, none⟩ = false := own_frozen he11 0
  have HE11 := Lib.hid he11
  clear he11 hW11 p1 p0 z0 r9 z9 rd
  go_region
  go_wp2_with fail
  have hw12 := HW11.out.set_ HE11.out HZ.out.2 0 (.int .u8 (((a.toNat : Int) + 1) % 256))
  have hr12 := h_read (hw12.drewN 1) 1
  rw [(apt1_read _).1, (apt1_read _).2, HLEN.out] at hr12
  refine hr12.mono ?_
  rintro e w13 ⟨A13, c13, rfl, ho13, _, h13⟩
  obtain ⟨g13, rfl⟩ := own_some ho13 (by decide)
  have H13 := Lib.hid h13
  have HO13 := Lib.hid ho13
  clear ho13 h13 p1e p0e z0e hw12 hr12
  go_wp2_with fail
  refine (h_crash H13.out 0 0 (by decide) (by decide) (by show 1 < 4294967296; decide)).mono ?_
  rw [apt1_crash]
  rintro e w14 ⟨rfl, h14, hk14⟩
  have H14 := Lib.hid h14
  have HO14 := Lib.hid (hk14.own HO13.out u8_not)
  clear h14 hk14
  have hr15 := h_read H14.out 1
  rw [apt2_read.1, apt2_read.2, length_zero512] at hr15
  have HR15 := Lib.hid hr15
  clear hr15
  go_wp2_with fail
  refine HR15.out.mono ?_
  rintro e w15 ⟨A15, c15, rfl, ho15, hb15, h15⟩
  obtain ⟨g15, rfl⟩ := own_some ho15 (by decide)
  have hlen := HLEN.out
  have f13 : w15.cell? ⟨g13, 0, none⟩ = some (.int .u8 a.toNat) := by
    rw [own_cell ((Kept.below hb15).own HO14.out u8_not) (k := 0) (by rw [List.length_map, hlen]; decide)]; rfl
  have f15 : w15.cell? ⟨g15, 0, none⟩ = some (.int .u8 0) := by
    rw [own_cell ho15 (k := 0) (by rw [List.length_map, length_zero512]; decide)]; rfl
  have fd : w15.cell? ⟨b0, o0, none⟩ = some (.int .u8 a.toNat) := (h15.below.cell (p := ⟨b0, o0, none⟩) hb0).trans HCA.out
  have H15 := Lib.hid h15
  clear ho15 hb15 h15 hlen
  have hn0 : 0 < n := by omega
  have HQ1 := Lib.hid fun k => told_quiet (nil_write (w15.drewN k) at_ (.slice none 0 0))
  have HQ2 := Lib.hid fun k => told_quiet (nil_sync (w15.drewN k))
  have HQ3 := Lib.hid fun k => told_quiet (nil_limit (w15.drewN k) 1)
  have HQ4 := Lib.hid fun k => told_quiet (nil_crash (w15.drewN k) 1 1)
  have HQ5 := Lib.hid fun k => told_quiet (nil_len (w15.drewN k))
  have HQ6 := Lib.hid fun k => told_quiet (nil_down (w15.drewN k))
  have HQ7 := Lib.hid fun k => told_quiet (nil_unsure (w15.drewN k))
  have HQ8 := Lib.hid fun k => told_quiet (nil_copy (w15.drewN k))
  go_wp2_with fail
  refine (nil_read w15 at_).mono ?_
  rintro e w' ⟨rfl, rfl⟩
  go_wp2_with fail
  go_quiet ((first
    | (go_at_call 10; exact HQ1.out _)
    | (go_at_call 12; exact HQ2.out _)
    | (go_at_call 14; exact HQ3.out _)
    | (go_at_call 15; exact HQ4.out _)
    | (go_at_call 19; exact HQ5.out _)
    | (go_at_call 18; exact HQ6.out _)
    | (go_at_call 21; exact HQ7.out _)
    | (go_at_call 17; exact HQ8.out _)))
  go_wp2
  go_ret
  exact ⟨rfl, below_drewN' H15.out.below _⟩

end Go.Proofs.Ytledoajhjkfaoaa
