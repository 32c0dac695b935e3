/-
  NumKeeps: what num.Put is given is not changed, its spare room included, and its answer shares nothing with it.
-/
import Derived.Test.YtoockdnkjficmaaAnswers
import Derived.Test.YtoockdnkjficmaaSame
namespace Go.Proofs.Ytoockdnkjficmaa
open Go.RowKit

set_option maxHeartbeats 400000 in
theorem keeps_long (A : Option Addr) (m c : Nat) (n : Int) (w : World) (hm : m ≤ maxLen) (h : 5000 < m) :
    Calls Try.prog 7 #[.slice A m c, .int .i64 n] w (TrueB w) := by
  unfold maxLen at hm
  have hd : decide ((5000 : Int) < (m : Int)) = true := by simp; omega
  go_enter Try.func7, Try.ntmps7
  go_wp2_with fail
  refine (answers_any _).mono ?_
  rintro e w1 ⟨rfl, hb1⟩
  have hz1 := hb1.size
  have HB1 := Lib.hid hb1
  clear hb1
  go_wp2_with fail
  refine (answers_any _).mono ?_
  rintro e w2 ⟨rfl, hb2⟩
  have HB2 := Lib.hid hb2
  clear hb2
  go_wp2
  go_ret
  exact ⟨rfl, HB1.out.trans (HB2.out.mono hz1)⟩

def KeepsRel (B n : Nat) (w : World) (v : Value) (i : Value) (wr : World) : Prop :=
  ∃ k : Nat, k ≤ n ∧ i = .int .i64 k ∧ Below B w wr ∧ ∃ xs : List UInt8, xs.length = n ∧ wr.ownsRow B 5 1 v n (xs.map bc)

set_option maxHeartbeats 800000 in
theorem keeps_short (A : Option Addr) (m c : Nat) (l : List UInt8) (n : Int) (w : World) (hl : l.length = m) (hA : Row w w.heap.size A (l.map bc)) (h : m ≤ 5000) :
    Calls Try.prog 7 #[.slice A m c, .int .i64 n] w (TrueB w) := by
  obtain ⟨i0, hi0, hz0, hz1, hz2⟩ := info_parts u8_info
  have hd : decide ((5000 : Int) < (m : Int)) = false := by simp; omega
  have HL := Lib.hid hl
  have HA := Lib.hid hA
  clear hl hA
  go_enter Try.func7, Try.ntmps7
  go_wp2_with fail
  refine (answers_any _).mono ?_
  rintro e w1 ⟨rfl, hb1⟩
  have hw1 := hb1.size
  have HB1 := Lib.hid hb1
  have HA1 := Lib.hid (HA.out.below hb1)
  clear hb1
  have HA2 := Lib.hid (HA1.out.alloc hw1 (.cells #[] 5))
  go_wp2_with (first
    | (at_builtin
       refine wpList_append_row rfl (.tmp 16) (.tmp 17) _ rfl w1.heap.size 5 i0 _ 1 1 Try.underlying22 hi0 hz0 hz1 hz2 rfl (by omega) (.slice (some ⟨w1.heap.size, 0, none⟩) 0 0) 0 [] rfl
         (own_lit _ _ _) A m c w.heap.size (l.map bc) rfl (by rw [List.length_map, HL.out]; omega) HA2.out (bc_one l) (by unfold maxLen; omega) (by omega) (by simp) ?_
       intro v2 w2 hown2 hg2
       simp only [Nat.zero_add, List.nil_append] at hown2
       obtain ⟨A2, c2, rfl, hc1, hc2⟩ := own_form hown2
       have HO2 := Lib.hid hown2
       have hB2 := (own_below ((Below.refl w1.heap.size w1).alloc (Nat.le_refl _) _) (Nat.le_refl _) (by simp) (own_lit w1 5 1) hg2)
       have hw2 := hB2.size
       have HB2 := Lib.hid hB2
       clear hown2 hg2 hB2)
    | (at_builtin
       refine wpList_append_row rfl (.tmp 18) (.tmp 19) _ rfl w1.heap.size 5 i0 _ 1 1 Try.underlying22 hi0 hz0 hz1 hz2 rfl (by omega) (.slice A2 m c2) m (l.map bc) rfl
         (HO2.out.alloc _) (some ⟨w2.heap.size, 0, none⟩) 3 3 (w2.heap.size + 1) (([7, 8, 9] : List UInt8).map bc) rfl rfl (Row.made w2 _ _) (bc_one _) (by unfold maxLen; omega) (by omega) (by simp; omega) ?_
       intro v3 w3 hown3 hg3
       rw [← List.map_append] at hown3
       obtain ⟨A3, c3, rfl, hc3, hc4⟩ := own_form hown3
       have HO3 := Lib.hid hown3
       have hB3 := (own_below ((Below.refl w1.heap.size w2).alloc hw2 _) (Nat.le_refl _) (by simp; omega) (HO2.out.alloc _) hg3)
       have hw3 := hB3.size
       have HB3 := Lib.hid hB3
       clear hown3 hg3 hB3))
  have HR3 := Lib.hid (Row.of_own HO3.out)
  refine (put_any A3 m c3 w3.heap.size l n 2 w3 HL.out ?_ (Nat.le_refl _) (by omega)).mono ?_
  · have hr := HR3.out.take m
    rwa [← List.map_take, List.take_left' HL.out] at hr
  rintro e w4 ⟨A4, c4, rfl, hown4, hB4⟩
  generalize putL l n 2 = Q at hown4 ⊢
  obtain ⟨N, hN⟩ : ∃ N, Q.length = N := ⟨_, rfl⟩
  rw [hN] at hown4 ⊢
  obtain ⟨_, _, _, hN1, hN2⟩ := own_form hown4
  have hN3 : N ≤ maxLen := Nat.le_trans hN1 hN2
  unfold maxLen at hN3
  have HN := Lib.hid hN
  have hw4 := hB4.size
  have HO4 := Lib.hid hown4
  have HB4 := Lib.hid hB4
  clear hown4 hB4 hN hN1 hN2
  go_wp2
  go_loopw [7] (KeepsRel w3.heap.size N w3 (.slice A4 N c4)) (fun i _ => N - (intOf i).toNat)
  case atStart => exact ⟨0, by omega, rfl, HB4.out, Q, HN.out, HO4.out⟩
  case round =>
    obtain ⟨k, hk, rfl, hbw, xs, hxs, hown⟩ := hrel
    have hwr := hbw.size
    have HX := Lib.hid hxs
    have HO := Lib.hid hown
    have HB := Lib.hid hbw
    clear hxs hown hbw
    by_cases hlt : k < N
    · obtain ⟨g, rfl⟩ := own_some HO.out (by omega)
      have hkx : k < xs.length := by rw [HX.out]; exact hlt
      have hcel : wr.cell? ⟨g, k, none⟩ = some (.int .u8 (xs[k].toNat : Int)) := by
        rw [HO.out.cellAt k (by omega), List.getElem?_map, List.getElem?_eq_getElem hkx]; rfl
      have hfr := HO.out.frozenAt k
      have hx8 := xs[k].toNat_lt
      go_wp2
      have hst := HO.out.stored k (.int .u8 ((xs[k].toNat + 1 : Int) % 256))
      refine ⟨⟨k + 1, by omega, by go_num, ?_, xs.set k (xs[k] + 1), by rw [List.length_set]; exact HX.out, ?_⟩, by simp [intOf]; omega⟩
      · exact HB.out.setCell (HO.out.lt g rfl).1 _
      · rw [List.map_set, show bc (xs[k] + 1) = .int .u8 ((xs[k].toNat + 1 : Int) % 256) from by
          unfold bc
          rw [UInt8.toNat_add]
          congr 1]
        exact hst.1
    · obtain rfl : k = N := by omega
      have hr3 := HR3.out.below HB.out
      have hA := ((HA1.out.below (HB2.out.mono hw1)).below (HB3.out.mono hw1)).below (HB.out.mono (by omega))
      have hlen3 : (((l ++ [7, 8, 9] : List UInt8)).map bc).length = m + 3 := by simp [HL.out]
      obtain ⟨b3, off3, rfl, _, hc⟩ := hr3.some_ (by omega)
      have e7 : wr.cell? ⟨b3, off3 + m, none⟩ = some (.int .u8 7) := hc m _ (by rw [← HL.out, List.map_append, List.getElem?_append_right (by simp)]; simp [bc])
      have e8 : wr.cell? ⟨b3, off3 + (m + 1), none⟩ = some (.int .u8 8) := hc (m + 1) _ (by rw [← HL.out, List.map_append, List.getElem?_append_right (by simp)]; simp [bc])
      have HR := Lib.hid (hr3.take m)
      have HAr := Lib.hid hA
      clear hr3 hA hc hlen3
      go_wp2_with fail
      refine (same_yes _ A m m c3 c wr.heap.size l wr HL.out HL.out ?_ (HAr.out.mono (by omega)) (by unfold maxLen; omega)).mono ?_
      · have hr := HR.out.mono hwr
        rwa [← List.map_take, List.take_left' HL.out] at hr
      rintro e w5 ⟨rfl, k5, rfl⟩
      go_wp2
      go_ret
      exact ⟨rfl, below_drewN' (((HB1.out.trans (HB2.out.mono hw1)).trans (HB3.out.mono hw1)).trans (HB.out.mono (by omega))) _⟩

theorem keeps_any (A : Option Addr) (m c : Nat) (l : List UInt8) (n : Int) (w : World) (hl : l.length = m) (hA : Row w w.heap.size A (l.map bc)) (hm : m ≤ maxLen) :
    Calls Try.prog 7 #[.slice A m c, .int .i64 n] w (TrueB w) := by
  by_cases h5 : m ≤ 5000
  · exact keeps_short A m c l n w hl hA h5
  · exact keeps_long A m c n w hm (by omega)

end Go.Proofs.Ytoockdnkjficmaa
