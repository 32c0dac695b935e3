/-
  WnameSets, where the number fits and the bytes are there.
-/
import Derived.Test.YtmfcppolomkbfaaSetsBad
import Derived.IntWalk
namespace Go.Proofs.Ytmfcppolomkbfaa
open Go.RowKit

def BumpRel (W : World) (g c N base : Nat) (i : Value) (wr : World) : Prop :=
  ∃ (k : Nat) (l : List UInt8), k ≤ N ∧ i = .int .i64 (k : Nat) ∧ l.length = N ∧ wr.ownsRow base 5 1 (.slice (some ⟨g, 0, none⟩) N c) N (l.map bc) ∧ Grew (· = g) W wr

set_option maxRecDepth 100000 in
set_option maxHeartbeats 4000000 in
theorem sets_good (A : Option Addr) (m c : Nat) (b : List UInt8) (q n s : Nat) (w : World) (hbl : b.length = m) (hrow : Row w w.heap.size A (b.map bc)) (hm : m ≤ 5000) (hc : m ≤ c) (hn : (n : Int) ≤ 9223372036854775807) (hf : fitB n s = true) (hq : q + s ≤ m) :
    Calls Try.prog 7 #[.slice A m c, .int .i64 q, .int .i64 n, .int .i64 s] w (TrueB w) := by
  have hms : 0 < m := by have := (fitB_size hf).1; omega
  obtain ⟨i0, hi0, hz0, hz1, hz2⟩ := info_parts u8_info
  have d1 : decide (5000 < (m : Int)) = false := by simp; omega
  have HRF := Lib.hid (fun W => ref_fits_any n s W hn)
  rw [hf] at HRF
  have HL := Lib.hid hbl
  have HA0 := Lib.hid hrow
  obtain ⟨hs1, hs2, _⟩ := fitB_size hf
  obtain ⟨bA, oA, rfl, hbA, _⟩ := hrow.some_ (by rw [List.length_map]; omega)
  have HSET := Lib.hid (fun W (vB vM : Value) (hw : Wr W w.heap.size w.heap.size vB vM b []) => set_ok w.heap.size W w.heap.size vB vM b [] q n s hw (by omega) hf (by rw [hbl]; exact hq))
  have HP := Lib.hid (fun W => ref_put_any none 0 0 0 [] (n : Int) (s : Int) W rfl (Row.empty _ _ _) (Nat.zero_le _) (by omega) hn)
  rw [putL_yes hf, List.nil_append] at HP
  have hdl := length_digs n s
  obtain ⟨f, hfe⟩ : ∃ f, f = q + s := ⟨_, rfl⟩
  have hfi : (q : Int) + (s : Int) = (f : Int) := by omega
  have hwr : IntKind.i64.wrap ((q : Int) + (s : Int)) = (f : Int) := by rw [hfi]; exact IntWalk.i64_in _ (by omega)
  have hwr2 : IntKind.i64.wrap (f : Int) = (f : Int) := IntWalk.i64_in _ (by omega)
  obtain ⟨r, hr⟩ : ∃ r, r = (b.drop f).length := ⟨_, rfl⟩
  have hmf : m - f = r := by rw [hr, List.length_drop]; omega
  obtain ⟨A85, hif⟩ : ∃ A85, (if c = f then some (⟨bA, oA, none⟩ : Addr) else some ⟨bA, oA + f, none⟩) = A85 := ⟨_, rfl⟩
  have HR85 := Lib.hid (show Row w w.heap.size A85 ((b.drop f).map bc) by
    by_cases hcf : c = f
    · have : b.drop f = [] := List.drop_of_length_le (by omega)
      rw [this]
      exact Row.empty _ _ _
    · rw [if_neg hcf] at hif
      have h := hrow.drop rfl (k := f)
      rw [← List.map_drop, hif] at h
      exact h)
  have HRT := Lib.hid (show Row w w.heap.size (some ⟨bA, oA, none⟩) ((b.take q).map bc) by
    have h := hrow.take q
    rw [← List.map_take] at h
    exact h)
  have hql : (b.take q).length = q := by rw [List.length_take]; omega
  have HQL := Lib.hid hql
  have HR0 := Lib.hid hr
  have HFE := Lib.hid hfe
  have HD := Lib.hid hdl
  have hff1 : q ≤ f := by omega
  have hff2 : f ≤ m := by omega
  have hf0 : (0 : Int) ≤ f := by omega
  have hf1 : (f : Int) ≤ (m : Int) := by omega
  have hq0 : (0 : Int) ≤ q := by omega
  have hq1 : (q : Int) ≤ (c : Int) := by omega
  have d2 : decide ((q : Int) < 0) = false := by simp
  have d3 : decide ((m : Int) < (q : Int)) = false := by simp; omega
  have d4 : decide ((m : Int) - (q : Int) < (s : Int)) = false := by simp; omega
  clear hql hr hfe hdl
  clear hbl hrow hf
  go_enter Try.func7, Try.ntmps7
  go_wp2_with fail
  refine (new_any _).mono ?_
  rintro e w1 ⟨rfl, hw1, hb1⟩
  have HW1 := Lib.hid hw1
  have HB1 := Lib.hid hb1
  clear hb1 hw1
  go_wp2_with fail
  refine (wanswers_any _).mono ?_
  rintro e w2 ⟨rfl, hb⟩
  have HW2 := Lib.hid (HW1.out.below hb)
  have HB2 := Lib.hid (HB1.out.trans (hb.mono HB1.out.size))
  have hz2' : w.heap.size ≤ w2.heap.size := HB2.out.size
  have HA2 := Lib.hid ((HA0.out.below HB2.out).alloc hz2' (.cells #[] 5))
  clear hb
  go_wp2_with (
    at_builtin
    refine wpList_append_row rfl (.tmp 33) (.tmp 34) _ rfl w2.heap.size 5 i0 _ 1 1 Try.underlying26 hi0 hz0 hz1 hz2 rfl (by omega) (.slice (some ⟨w2.heap.size, 0, none⟩) 0 0) 0 [] rfl
      (own_lit _ _ _) (some ⟨bA, oA, none⟩) m c w.heap.size (b.map bc) rfl (by rw [List.length_map, HL.out, Nat.mul_one]) HA2.out (bc_one b) (by unfold maxLen; omega) (by omega) (by simp) ?_
    intro v3 w3 hown3 hg3
    simp only [Nat.zero_add, List.nil_append] at hown3
    obtain ⟨A3, c3, rfl, _, _⟩ := own_form hown3
    have HR3 := Lib.hid (Row.of_own hown3)
    have hb3 := own_below ((Below.refl w2.heap.size w2).alloc (Nat.le_refl _) _) (Nat.le_refl _) (by simp) (own_lit w2 5 1) hg3
    have HW3 := Lib.hid (HW2.out.below hb3)
    have HB3 := Lib.hid (HB2.out.trans (hb3.mono hz2'))
    clear hown3 hg3 hb3)
  refine (raw_any w.heap.size w3 w.heap.size _ _ [] [] A3 m c3 w3.heap.size b HW3.out HL.out HR3.out (by simp; omega)).mono ?_
  rintro e w4 ⟨rfl, hp⟩
  have hb4 := hp.below HW3.out
  obtain ⟨vB4, vM4, hw4, _, _⟩ := hp
  have HW4 := Lib.hid (show Wr w4 w.heap.size w.heap.size vB4 vM4 b [] from hw4)
  have HB4 := Lib.hid (HB3.out.trans hb4)
  have hz4 : w.heap.size ≤ w4.heap.size := HB4.out.size
  clear hb4 hw4
  go_wp2_with fail
  refine (HSET.out w4 _ _ HW4.out).mono ?_
  rintro e w5 ⟨rfl, hp⟩
  have hb5 := hp.below HW4.out
  obtain ⟨vB5, vM5, hw5, _, _⟩ := hp
  have HW5 := Lib.hid hw5
  have HB5 := Lib.hid (HB4.out.trans hb5)
  have hz5 : w.heap.size ≤ w5.heap.size := HB5.out.size
  clear hb5 hw5
  go_wp2_with fail
  refine (HRF.out _).mono ?_
  rintro e w' ⟨rfl, rfl⟩
  go_wp2
  have HRT5 := Lib.hid ((HRT.out.below HB5.out).mono hz5)
  have HR855 := Lib.hid ((HR85.out.below HB5.out).mono hz5)
  have HB := Lib.hid (Below.refl w5.heap.size w5).drew
  have hz : w5.heap.size ≤ w5.drew.heap.size := Nat.le_refl _
  go_region_held3 (fun _ => True)
    (trivial)
    ((first
      | (go_at_call 27
         refine (HP.out _).mono ?_
         rintro e wp ⟨Ap, cp, rfl, hop, hbp⟩
         have HOP := Lib.hid hop
         have HBP := Lib.hid hbp
         clear hop hbp
         first
           | (have HO76 := Lib.hid (own_keep HO76.out fun j hj => HBP.out.block j (HO76.out.lt j hj).2))
           | (have HO72 := Lib.hid (own_keep (own_lit w5.drew 5 1) fun j hj => HBP.out.block j ((own_lit w5.drew 5 1).lt j hj).2)
              have hzY := hz)
           | skip
         first
           | (have HB := Lib.hid (HB.out.trans (HBP.out.mono hz)))
           | (have HB := Lib.hid ((HB.out.alloc hz _).trans (HBP.out.mono (Nat.le_trans hz (by simp)))))
         have hz : w5.heap.size ≤ wp.heap.size := HB.out.size)
      | ((first
           | (refine step_append_any rfl (.tmp 72) (.tmp 75) _ rfl w5.heap.size 5 i0 _ 1 1 Try.underlying26 hi0 hz0 hz1 hz2 rfl (by omega) _ 0 [] rfl (own_mono HO72.out hzY) (some ⟨bA, oA, none⟩) q c w5.heap.size ((b.take q).map bc) rfl (by rw [List.length_map, HQL.out, Nat.mul_one]) (HRT5.out.below HB.out) (bc_one _) (by unfold maxLen; omega) (by omega) hz ?_)
           | (refine step_append_any rfl (.tmp 72) (.tmp 75) _ rfl w5.heap.size 5 i0 _ 1 1 Try.underlying26 hi0 hz0 hz1 hz2 rfl (by omega) _ 0 [] rfl (own_mono (own_lit _ _ _) hz) (some ⟨bA, oA, none⟩) q c w5.heap.size ((b.take q).map bc) rfl (by rw [List.length_map, HQL.out, Nat.mul_one]) (by first | exact HRT5.out.below (HB.out.alloc hz _) | exact HRT5.out.below HB.out) (bc_one _) (by unfold maxLen; omega) (by omega) (by first | exact hz | (simp; done) | (simp; omega)) ?_))
         intro v1 w1 hown1 hg1
         simp only [Nat.zero_add, List.nil_append] at hown1
         obtain ⟨A1, c1, rfl, _, _⟩ := own_form hown1
         have HO76 := Lib.hid hown1
         have HG76 := Lib.hid hg1
         clear hown1 hg1
         first
           | (have HOP := Lib.hid ((HOP.out.alloc _).kept HG76.out (.inr (by intro e; have := (HOP.out.lt _ e).2; omega))))
           | (have HOP := Lib.hid (HOP.out.kept HG76.out (.inr (by intro e; have := (HOP.out.lt _ e).1; simp at this; omega))))
           | skip
         first
           | (have HB := Lib.hid (own_below HB.out (Nat.le_refl _) hz (own_mono HO72.out hzY) HG76.out))
           | (have HB := Lib.hid (own_below (HB.out.alloc hz _) (Nat.le_refl _) (by first | (simp; done) | (simp; omega)) (own_mono (own_lit _ 5 1) hz) HG76.out))
         have hz : w5.heap.size ≤ w1.heap.size := HB.out.size)
      | (refine step_append_any rfl (.tmp 76) (.tmp 79) _ rfl w5.heap.size 5 i0 _ 1 1 Try.underlying26 hi0 hz0 hz1 hz2 rfl (by omega) (.slice A1 q c1) q _ rfl HO76.out Ap (digs n s).length cp _ ((digs n s).map bc) rfl (by rw [List.length_map, Nat.mul_one]) (Row.of_own HOP.out) (bc_one _) (by rw [HD.out]; unfold maxLen; omega) (by rw [HD.out]; omega) hz ?_
         intro v2 w2 hown2 hg2
         obtain ⟨A2, c2, rfl, _, _⟩ := own_form hown2
         have HO80 := Lib.hid hown2
         have HB := Lib.hid (own_below HB.out (Nat.le_refl _) hz HO76.out hg2)
         have hz : w5.heap.size ≤ w2.heap.size := HB.out.size
         clear hown2 hg2)
      | (refine step_append_any rfl (.tmp 80) (.tmp 85) _ rfl w5.heap.size 5 i0 _ 1 1 Try.underlying26 hi0 hz0 hz1 hz2 rfl (by omega) (.slice A2 (q + (digs n s).length) c2) (q + (digs n s).length) _ rfl HO80.out A85 r (c - f) w5.heap.size ((b.drop f).map bc) rfl (by rw [List.length_map, Nat.mul_one, HR0.out]) (HR855.out.below HB.out) (bc_one _) (by rw [HD.out]; unfold maxLen; omega) (by rw [HD.out]; omega) hz ?_
         intro v6 w6 hown6 hg6
         obtain ⟨A6, c6, rfl, _, _⟩ := own_form hown6
         have HO86 := Lib.hid hown6
         have HB := Lib.hid (own_below HB.out (Nat.le_refl _) hz HO80.out hg6)
         have hz : w5.heap.size ≤ w6.heap.size := HB.out.size
         clear hown6 hg6)))
  have HW6 := Lib.hid (HW5.out.below HB.out)
  have HB6 := Lib.hid (HB5.out.trans (HB.out.mono hz5))
  have hz6 : w.heap.size ≤ w6.heap.size := HB6.out.size
  have hset : setB b q (digs n s) = b.take q ++ (digs n s ++ b.drop f) := by rw [setB, HD.out, HFE.out]
  have hsl : (setB b q (digs n s)).length = q + (digs n s).length + r := by rw [hset, List.length_append, List.length_append, HQL.out, HR0.out]; omega
  have hlm : (setB b q (digs n s)).length = m := by rw [length_setB (by rw [HD.out, HL.out]; exact hq), HL.out]
  have hwant := HO86.out
  rw [← hsl, List.append_assoc, ← List.map_append, ← List.map_append, ← hset] at hwant
  rw [← hsl]
  generalize setB b q (digs n s) = B at *
  have HWANT := Lib.hid hwant
  have hBm : B.length ≤ 5000 := by omega
  have hB0 : 0 < B.length := by omega
  have HLM := Lib.hid hlm
  clear hwant HO86 hset hsl hlm
  go_wp2_with fail
  refine (bytes_any w.heap.size w6 w.heap.size vB5 vM5 B [] HW6.out (by omega)).mono ?_
  rintro e w7 ⟨A7, c7, rfl, ho7, hb7⟩
  obtain ⟨g7, rfl⟩ := own_some ho7 hB0
  have HO7 := Lib.hid ho7
  have HW7 := Lib.hid (HW6.out.below hb7)
  have HN7 := Lib.hid (own_keep HWANT.out fun j hj => hb7.block j (HWANT.out.lt j hj).2)
  have HB7 := Lib.hid (HB6.out.trans (hb7.mono hz6))
  have hz7 : w.heap.size ≤ w7.heap.size := HB7.out.size
  have hg7 := (ho7.lt g7 rfl).1
  clear ho7 hb7
  go_wp2_with fail
  refine (same_yes (some ⟨g7, 0, none⟩) A6 B.length B.length c7 c6 w7.heap.size B w7 rfl rfl (Row.of_own HO7.out) (Row.of_own HN7.out) (by unfold maxLen; omega)).mono ?_
  rintro e w8 ⟨rfl, k8, hw8⟩
  have HO8 := Lib.hid (show w8.ownsRow w6.heap.size 5 1 (.slice (some ⟨g7, 0, none⟩) B.length c7) B.length (B.map bc) by rw [hw8]; exact HO7.out)
  have HW8 := Lib.hid (show Wr w8 w.heap.size w.heap.size vB5 vM5 B [] by rw [hw8]; exact HW7.out.drewN k8)
  have HN8 := Lib.hid (show w8.ownsRow w5.heap.size 5 1 (.slice A6 B.length c6) B.length (B.map bc) by rw [hw8]; exact HN7.out)
  have HB8 := Lib.hid (show Below w.heap.size w w8 by rw [hw8]; exact below_drewN' HB7.out k8)
  have hz8 : w.heap.size ≤ w8.heap.size := HB8.out.size
  have hga : ∀ j, ownF w.heap.size vB5 vM5 j → j ≠ g7 := fun j hj e => by have := (HW6.out.own hj).2; omega
  have hgb : ∀ j, (Value.slice A6 B.length c6).ownBlock = some j → j ≠ g7 := fun j hj e => by have := (HWANT.out.lt j hj).2; omega
  have HGA := Lib.hid hga
  have HGB := Lib.hid hgb
  clear hw8 hga hgb
  go_wp2
  go_loopw [13] (BumpRel w8 g7 c7 B.length w6.heap.size) (fun i _ => B.length - (intOf i).toNat)
  case atStart => exact ⟨0, B, Nat.zero_le _, rfl, rfl, HO8.out, Grew.refl _ _⟩
  case round =>
    obtain ⟨k, l, hk, rfl, hl, ho, hg⟩ := hrel
    by_cases hlt : k < B.length
    · have ck := own_cell ho (k := k) (by rw [List.length_map, hl]; exact hlt)
      have fk := own_frozen ho k
      obtain ⟨y, hy⟩ : ∃ y, y = l[k]'(by rw [hl]; exact hlt) := ⟨_, rfl⟩
      have ck' : wr.cell? ⟨g7, k, none⟩ = some (.int .u8 (y.toNat : Int)) := by rw [ck, List.getElem_map, hy]; rfl
      obtain ⟨z, hz'⟩ : ∃ z : UInt8, z = UInt8.ofNat (y.toNat + 1) := ⟨_, rfl⟩
      have hwz : IntKind.u8.wrap ((y.toNat : Int) + 1) = (z.toNat : Int) := by rw [hz', UInt8.toNat_ofNat', IntKind.wrap_u8]; omega
      have HO := Lib.hid ho
      have HG := Lib.hid hg
      have HLL := Lib.hid hl
      clear ck ho hg hl hy hz'
      go_wp2
      refine ⟨⟨k + 1, l.set k z, by omega, by go_num, by rw [List.length_set]; exact HLL.out, ?_, HG.out.setCell (.inl rfl) _⟩, by simp [intOf]; omega⟩
      have h := own_store HO.out (k := k) hlt (bc z)
      rw [← List.map_set] at h
      exact h
    · obtain rfl : k = B.length := by omega
      have HW9 := Lib.hid (HW8.out.grew hg fun j hj => HGA.out j hj)
      have HN9 := Lib.hid (own_grew HN8.out hg fun j hj => HGB.out j hj)
      have HB9 := Lib.hid (HB8.out.trans (hg.below (fun j hj => by rw [hj]; exact Nat.le_trans hz6 hg7) hz8))
      have hz9 : w.heap.size ≤ wr.heap.size := HB9.out.size
      clear ho hg hl
      go_wp2_with fail
      refine (raw_nil _ _).mono ?_
      rintro e w' ⟨rfl, rfl⟩
      go_wp2_with fail
      refine (bytes_any w.heap.size wr w.heap.size vB5 vM5 B [] HW9.out (by omega)).mono ?_
      rintro e w10 ⟨A10, c10, rfl, ho10, hb10⟩
      have HR10 := Lib.hid (Row.of_own ho10)
      have HN10 := Lib.hid (Row.of_own (own_keep HN9.out fun j hj => hb10.block j (HN9.out.lt j hj).2))
      have HB10 := Lib.hid (HB9.out.trans (hb10.mono hz9))
      clear ho10 hb10
      go_wp2_with fail
      refine (same_yes A10 A6 B.length B.length c10 c6 w10.heap.size B w10 rfl rfl HR10.out HN10.out (by unfold maxLen; omega)).mono ?_
      rintro e w11 ⟨rfl, k11, rfl⟩
      go_wp2_with fail
      refine (set_nil _).mono ?_
      rintro e w' ⟨rfl, rfl⟩
      go_wp2_with fail
      refine (name_nil _ _ _).mono ?_
      rintro e w' ⟨rfl, rfl⟩
      go_wp2_with fail
      refine (bytes_nil _).mono ?_
      rintro e w' ⟨rfl, rfl⟩
      go_wp2_with fail
      refine (len_nil _).mono ?_
      rintro e w' ⟨rfl, rfl⟩
      go_wp2
      go_ret
      exact ⟨rfl, below_drewN' HB10.out _⟩

end Go.Proofs.Ytmfcppolomkbfaa
