/-
  WnameReach: what stands 16384 bytes from the beginning on is not led to, what stands ahead of it is.
-/
import Derived.Test.YtmfcppolomkbfaaTwo
import Derived.Test.YtmfcppolomkbfaaWAnswers
import Derived.Test.YtmfcppolomkbfaaNReach
namespace Go.Proofs.Ytmfcppolomkbfaa
open Go.RowKit

set_option maxRecDepth 100000 in
set_option maxHeartbeats 1000000 in
theorem reach_bad (A : Option Addr) (c : Nat) (n : List (List UInt8)) (a : Int) (w : World) (hA : NameIn w A n) (hs : soundN n = false) :
    Calls Try.prog 8 #[.slice A n.length c, .int .u16 a] w (TrueB w) := by
  have HSO := Lib.hid (fun (W : World) hr => ref_sound_free A c w.heap.size n W hr (by have := hA.2.1; unfold maxLen; omega) hA.2.2)
  rw [hs] at HSO
  have HA := Lib.hid hA.1
  clear hA hs
  go_enter Try.func8, Try.ntmps8
  go_wp2_with fail
  refine (new_any _).mono ?_
  rintro e w1 ⟨rfl, _, hb1⟩
  have HB1 := Lib.hid hb1
  clear hb1
  go_wp2_with fail
  refine (wanswers_any _).mono ?_
  rintro e w2 ⟨rfl, hb⟩
  have HB2 := Lib.hid (HB1.out.trans (hb.mono HB1.out.size))
  clear hb
  go_wp2_with fail
  refine (HSO.out _ (HA.out.below HB2.out)).mono ?_
  rintro e w' ⟨rfl, rfl⟩
  go_wp2_with fail
  refine (wanswers_any _).mono ?_
  rintro e w3 ⟨rfl, hb⟩
  have HB3 := Lib.hid (HB2.out.trans (hb.mono HB2.out.size))
  clear hb
  go_wp2
  go_ret
  exact ⟨rfl, HB3.out⟩

set_option maxRecDepth 100000 in
set_option maxHeartbeats 1000000 in
theorem reach_root (A : Option Addr) (c : Nat) (a : Int) (w : World) :
    Calls Try.prog 8 #[.slice A 0 c, .int .u16 a] w (TrueB w) := by
  have HSO := Lib.hid (fun (W : World) => ref_sound_free A c 0 [] W (Row.empty _ _ _) (Nat.zero_le _) (fun k h => absurd h (Nat.not_lt_zero _)))
  rw [show soundN [] = true from rfl] at HSO
  go_enter Try.func8, Try.ntmps8
  go_wp2_with fail
  refine (new_any _).mono ?_
  rintro e w1 ⟨rfl, _, hb1⟩
  have HB1 := Lib.hid hb1
  clear hb1
  go_wp2_with fail
  refine (wanswers_any _).mono ?_
  rintro e w2 ⟨rfl, hb⟩
  have HB2 := Lib.hid (HB1.out.trans (hb.mono HB1.out.size))
  clear hb
  go_wp2_with fail
  refine (HSO.out _).mono ?_
  rintro e w' ⟨rfl, rfl⟩
  go_wp2_with fail
  refine (wanswers_any _).mono ?_
  rintro e w3 ⟨rfl, hb⟩
  have HB3 := Lib.hid (HB2.out.trans (hb.mono HB2.out.size))
  clear hb
  go_wp2
  go_ret
  exact ⟨rfl, HB3.out⟩

theorem zeros_bytes (k : Nat) : zerosL (.int .u8 0) k = (List.replicate k (0 : UInt8)).map bc := by
  unfold zerosL
  rw [List.map_replicate]
  rfl

theorem size_quiet {A : Option Addr} {m c base : Nat} {n : List (List UInt8)} {w : World} (hl : n.length = m) (hA : Row w base A (n.map sv)) (hs : szN n ≤ maxLen) (k : Nat) :
    Calls Try.prog 28 #[.slice A m c] (w.drewN k) fun e w' => e = .returned (.int .i64 (szN n)) ∧ ∃ j, w' = w.drewN j :=
  (ref_size_any A m c base n (w.drewN k) hl (hA.drewN k) hs).mono fun e w' ⟨he, hw⟩ => ⟨he, k, hw.symm⟩
theorem szN_drop_le (n : List (List UInt8)) (k : Nat) : szN (n.drop k) ≤ szN n := by
  induction n generalizing k with
  | nil => simp
  | cons x n ih =>
    cases k with
    | zero => simp
    | succ k => simp only [List.drop_succ_cons, szN]; have := ih k; omega

/-- What is wanted: nothing but the whole name, where no rest can be led to. -/
def ReachRel (W : World) (N k one : Nat) (want i : Value) (wr : World) : Prop :=
  ∃ j x q, j ≤ N ∧ i = .int .i64 ((j : Nat) - 1 : Int) ∧ want = .int .i64 (x : Nat) ∧ x ≤ 100000 ∧ (16384 ≤ k → x = one) ∧ wr = W.drewN q

set_option maxRecDepth 100000 in
set_option maxHeartbeats 4000000 in
theorem reach_good (A : Option Addr) (c : Nat) (n : List (List UInt8)) (a : Nat) (w : World) (hA : NameIn w A n) (hc : n.length ≤ c) (hs : soundN n = true) (hn0 : n ≠ []) (ha : a ≤ 65535) :
    Calls Try.prog 8 #[.slice A n.length c, .int .u16 a] w (TrueB w) := by
  obtain ⟨i0, hi0, hz0, hz1, hz2⟩ := info_parts u8_info
  obtain ⟨s0, hs0, hx0, hx1, hx2⟩ := info_parts str_info
  have hss := hs
  simp only [soundN, Bool.and_eq_true, decide_eq_true_eq] at hss
  obtain ⟨hfl, hsz⟩ := hss
  have hnl := length_lt_szN n
  have hpos : 0 < n.length := List.length_pos_iff.2 hn0
  have HSO := Lib.hid (fun (W : World) hr => ref_sound_free A c w.heap.size n W hr (by have := hA.2.1; unfold maxLen; omega) hA.2.2)
  rw [hs] at HSO
  obtain ⟨k, hk⟩ : ∃ k, k = 16370 + a % 30 := ⟨_, rfl⟩
  have e1 : (16370 : Int) + (a : Int) % 30 = (k : Int) := by omega
  have hk1 : k ≤ 16400 := by omega
  have t0 : ((n.length : Int) == 0) = false := by rw [beq_eq_false_iff_ne]; omega
  obtain ⟨bA, oA, rfl, hbA, _⟩ := hA.1.some_ (by rw [List.length_map]; exact hpos)
  have HA := Lib.hid hA.1
  have HS := Lib.hid hs
  have HF := Lib.hid hfl
  have HN0 := Lib.hid hn0
  clear hA hs hfl hk hn0
  go_enter Try.func8, Try.ntmps8
  go_wp2_with fail
  refine (new_any _).mono ?_
  rintro e w1 ⟨rfl, hw1, hb1⟩
  have HW1 := Lib.hid hw1
  have HB1 := Lib.hid hb1
  clear hb1 hw1
  go_wp2_with fail
  refine (wanswers_any _).mono ?_
  rintro e w2 ⟨rfl, hb⟩
  have HW2 := Lib.hid (HW1.out.below hb)
  have HB2 := Lib.hid (HB1.out.trans (hb.mono HB1.out.size))
  clear hb
  go_wp2_with fail
  refine (HSO.out _ (HA.out.below HB2.out)).mono ?_
  rintro e w' ⟨rfl, rfl⟩
  have HWZ := Lib.hid (HW2.out.alloc (.cells (zerosL (.int .u8 0) k).toArray 5))
  have hrz := (Whole.made w2 (zerosL (.int .u8 0) k) 5).row
  rw [zeros_bytes] at hrz
  have HRZ := Lib.hid hrz
  clear hrz
  have hz2w : w.heap.size ≤ w2.heap.size := HB2.out.size
  go_wp2_with (
    refine wpList_make_zeros rfl (.tmp 42) (.tmp 42) _ rfl 5 i0 _ 1 Try.underlying26 hi0 hz0 hz1 hz2 rfl .i64 .i64 _ _ k k rfl rfl rfl rfl (by omega) (by omega) (by unfold maxLen; omega) ?_)
  have HZ := Lib.hid (show (List.replicate k (0 : UInt8)).length = k by simp)
  rw [zeros_bytes] at HWZ ⊢
  generalize List.replicate k (0 : UInt8) = Z at HRZ HZ HWZ ⊢
  refine (raw_any w.heap.size _ w.heap.size _ _ [] [] (some ⟨w2.heap.size, 0, none⟩) k k _ Z HWZ.out HZ.out HRZ.out (by simp; omega)).mono ?_
  rintro e w3 ⟨rfl, hp⟩
  have hb3 := hp.below HWZ.out
  obtain ⟨vB3, vM3, hw3, _, _⟩ := hp
  have HW3 := Lib.hid hw3
  have HB3 := Lib.hid ((HB2.out.alloc hz2w _).trans hb3)
  have hz3 : w.heap.size ≤ w3.heap.size := HB3.out.size
  have HA3 := Lib.hid ((HA.out.below HB3.out).alloc hz3 (.cells #[] 9))
  clear hb3 hw3 HWZ HRZ
  go_wp2_with (
    at_builtin
    refine wpList_append_row rfl (.tmp 46) (.tmp 47) _ rfl w3.heap.size 9 s0 _ 1 16 Try.underlying31 hs0 hx0 hx1 hx2 rfl (by omega) (.slice (some ⟨w3.heap.size, 0, none⟩) 0 0) 0 [] rfl
      (own_lit _ _ _) (some ⟨bA, oA, none⟩) n.length c w.heap.size (n.map sv) rfl (by rw [List.length_map, Nat.mul_one]) HA3.out (sv_one n) (by unfold maxLen; omega) (by omega) (by simp) ?_
    intro v4 w4 hown4 hg4
    simp only [Nat.zero_add, List.nil_append] at hown4
    obtain ⟨A4, c4, rfl, _, _⟩ := own_form hown4
    have HR4 := Lib.hid (Row.of_own hown4)
    have hb4 := own_below ((Below.refl w3.heap.size w3).alloc (Nat.le_refl _) _) (Nat.le_refl _) (by simp) (own_lit w3 9 1) hg4
    have HW4 := Lib.hid (HW3.out.below hb4)
    have HB4 := Lib.hid (HB3.out.trans (hb4.mono hz3))
    have hz4 : w.heap.size ≤ w4.heap.size := Nat.le_trans hz3 hb4.size
    clear hown4 hg4 hb4)
  refine (name_sound w.heap.size w4 w.heap.size vB3 vM3 Z [] A4 n.length c4 w4.heap.size n true HW4.out rfl HR4.out (Nat.le_refl _) HS.out (by have := HZ.out; omega) (by simp) (fun r hr => absurd hr List.not_mem_nil)).mono ?_
  rintro e w5 ⟨rfl, hp⟩
  have hb5 := hp.below HW4.out
  obtain ⟨vB5, vM5, hw5, _, _⟩ := hp
  obtain ⟨hf1, hf2, hf3⟩ := nameW_fresh true n Z [] (fun r hr => absurd hr List.not_mem_nil)
  obtain ⟨⟨S1, hS1⟩, hA1, hG1⟩ := nameW_good (short := true) HF.out (GoodR.nil Z)
  have hr1 := length_nameW_rests true n Z []
  generalize hB1 : (nameW true n Z []).1 = B1 at *
  generalize hR1 : (nameW true n Z []).2 = R1 at *
  rw [HZ.out] at hf1 hf2 hf3
  have HF2 := Lib.hid hf2
  have HF3 := Lib.hid hf3
  have HL1 := Lib.hid hf1
  have HG1 := Lib.hid hG1
  have HW5 := Lib.hid hw5
  have HB5 := Lib.hid (HB4.out.trans hb5)
  have hz5 : w.heap.size ≤ w5.heap.size := Nat.le_trans hz4 hb5.size
  have HA5 := Lib.hid ((HA.out.below HB5.out).alloc hz5 (.cells #[] 9))
  have hb1b : B1.length ≤ 20000 := by omega
  simp only [List.length_nil] at hr1
  have ed1 : (B1.length : Int) - (k : Int) = (szN n : Int) := by omega
  clear hb5 hw5 hf1 hf2 hf3 hA1 hG1 hS1 hB1 hR1
  go_wp2_with fail
  refine (len_any w.heap.size w5 w.heap.size vB5 vM5 B1 R1 HW5.out).mono ?_
  rintro e w' ⟨rfl, rfl⟩
  go_wp2_with (
    at_builtin
    refine wpList_append_row rfl (.tmp 55) (.tmp 56) _ rfl w5.heap.size 9 s0 _ 1 16 Try.underlying31 hs0 hx0 hx1 hx2 rfl (by omega) (.slice (some ⟨w5.heap.size, 0, none⟩) 0 0) 0 [] rfl
      (own_lit _ _ _) (some ⟨bA, oA, none⟩) n.length c w.heap.size (n.map sv) rfl (by rw [List.length_map, Nat.mul_one]) HA5.out (sv_one n) (by unfold maxLen; omega) (by omega) (by simp) ?_
    intro v6 w6 hown6 hg6
    simp only [Nat.zero_add, List.nil_append] at hown6
    obtain ⟨A6, c6, rfl, _, _⟩ := own_form hown6
    have HR6 := Lib.hid (Row.of_own hown6)
    have hb6 := own_below ((Below.refl w5.heap.size w5).alloc (Nat.le_refl _) _) (Nat.le_refl _) (by simp) (own_lit w5 9 1) hg6
    have HW6 := Lib.hid (HW5.out.below hb6)
    have HB6 := Lib.hid (HB5.out.trans (hb6.mono hz5))
    have hz6 : w.heap.size ≤ w6.heap.size := Nat.le_trans hz5 hb6.size
    clear hown6 hg6 hb6)
  refine (name_sound w.heap.size w6 w.heap.size vB5 vM5 B1 R1 A6 n.length c6 w6.heap.size n true HW6.out rfl HR6.out (Nat.le_refl _) HS.out (by omega) (by omega) (fun r hr => (HG1.out r hr).1)).mono ?_
  rintro e w7 ⟨rfl, hp⟩
  have hb7 := hp.below HW6.out
  obtain ⟨vB7, vM7, hw7, _, _⟩ := hp
  obtain ⟨_, hA2, _⟩ := nameW_good (short := true) HF.out HG1.out
  obtain ⟨two, htwo⟩ : ∃ two, two = if k < 16384 then 2 else szN n := ⟨_, rfl⟩
  have hl2 : (nameW true n B1 R1).1.length = B1.length + two := by
    by_cases hk : k < 16384
    · rw [length_nameW_hit HN0.out (HF3.out hk HN0.out), htwo, if_pos hk]
    · have hr0 := HF2.out (by omega)
      rw [hr0, (nameW_fresh true n B1 [] (fun r hr => absurd hr List.not_mem_nil)).1, htwo, if_neg hk]
  generalize (nameW true n B1 R1).1 = B2 at *
  generalize (nameW true n B1 R1).2 = R2 at *
  have hrd := hA2.read (x := 0) (m := []) (by simp only [szN]; omega)
  have htw2 : two ≤ 255 := by rw [htwo]; split <;> omega
  have HRD := Lib.hid hrd
  have HT := Lib.hid htwo
  have ed2 : (B2.length : Int) - (k : Int) - (szN n : Int) = (two : Int) := by have := HL1.out; omega
  have hb2b : B2.length ≤ 20000 := by have := HL1.out; omega
  have HW7 := Lib.hid hw7
  have HB7 := Lib.hid (HB6.out.trans hb7)
  have hz7 : w.heap.size ≤ w7.heap.size := Nat.le_trans hz6 hb7.size
  have HA7 := Lib.hid ((HA.out.below HB7.out).mono hz7)
  clear hb7 hw7 hA2 hl2 htwo hrd
  go_wp2_with fail
  refine (len_any w.heap.size w7 w.heap.size vB7 vM7 B2 R2 HW7.out).mono ?_
  rintro e w' ⟨rfl, rfl⟩
  go_wp2
  go_loopw [9, 10] (ReachRel w7 n.length k (szN n)) (fun _ i _ => (intOf i + 1).toNat)
  case atStart => exact ⟨n.length, szN n, 0, Nat.le_refl _, rfl, rfl, by omega, fun _ => rfl, rfl⟩
  case round =>
    obtain ⟨j, x, q, hj, rfl, rfl, hx, hxk, rfl⟩ := hrel
    have HX := Lib.hid hxk
    clear hxk
    by_cases hj0 : 0 < j
    · obtain ⟨i, rfl⟩ : ∃ i, j = i + 1 := ⟨j - 1, by omega⟩
      rw [show (((i + 1 : Nat) : Int) - 1) = (i : Int) by omega]
      obtain ⟨W, hW⟩ : ∃ W, W = w7.drewN q := ⟨_, rfl⟩
      rw [← hW]
      have hrW : Row W w7.heap.size (some ⟨bA, oA, none⟩) (n.map sv) := by rw [hW]; exact HA7.out.drewN q
      have HQ := Lib.hid hW
      have hdl : szN (n.drop i) ≤ szN n := szN_drop_le n i
      obtain ⟨ah, hah⟩ : ∃ ah : Nat, (szN n : Int) - (szN (n.drop i) : Int) = (ah : Int) := ⟨szN n - szN (n.drop i), by omega⟩
      have HZ1 := Lib.hid (size_quiet (c := c) (w := W) (base := w7.heap.size) rfl hrW (by unfold maxLen; omega))
      have HZ2 := Lib.hid (size_quiet (m := n.length - i) (c := c - i) (w := W) (base := w7.heap.size) (A := some ⟨bA, oA + i, none⟩) (n := n.drop i) (by simp) (by have := hrW.drop rfl (k := i); rw [← List.map_drop] at this; exact this) (by unfold maxLen; omega))
      have hci : (c = i) = False := by simp; omega
      have hi0 : (0 : Int) ≤ i := by omega
      have hi1 : (i : Int) ≤ (n.length : Int) := by omega
      clear hW hrW
      by_cases hka : k + ah < 16384
      · have dka : decide ((k : Int) + (ah : Int) < 16384) = true := by simp; omega
        go_wp2
        go_quiet ((go_at_call 28; first | with_reducible exact HZ1.out _ | with_reducible exact HZ2.out _))
        go_wp2
        refine ⟨⟨i, ah + 2, q + nq, by omega, rfl, by go_num, by omega, fun h => by omega, by rw [HQ.out, World.drewN_drewN]⟩, by simp [intOf]⟩
      · have dka : decide ((k : Int) + (ah : Int) < 16384) = false := by simp; omega
        go_wp2
        go_quiet ((go_at_call 28; first | with_reducible exact HZ1.out _ | with_reducible exact HZ2.out _))
        go_wp2
        refine ⟨⟨i, x, q + nq, by omega, rfl, rfl, hx, HX.out, by rw [HQ.out, World.drewN_drewN]⟩, by simp [intOf]⟩
    · obtain rfl : j = 0 := by omega
      rw [show (((0 : Nat) : Int) - 1) = -1 by omega]
      have HW8 := Lib.hid (HW7.out.drewN q)
      have HB8 := Lib.hid (below_drewN' HB7.out q)
      have HA8 := Lib.hid (HA7.out.drewN q)
      have HRD8 := Lib.hid (fun W A' c' hr h1 h2 => wget_at A' B2.length c' B2 B1.length W rfl hr h1 h2 (by omega))
      rw [HRD.out] at HRD8
      have HEX := Lib.hid (fun A' B' c1' c2' (w' : World) hA' hB' => exact_any A' B' n.length n.length c1' c2' w'.heap.size n n w' rfl rfl hA' hB' (by unfold maxLen; omega))
      rw [show decide (n = n) = true by simp] at HEX
      have HZ1 := Lib.hid (fun W hr => ref_size_any (some ⟨bA, oA, none⟩) n.length c w7.heap.size n W rfl hr (by unfold maxLen; omega))
      have ek : (k : Int) + (szN n : Int) = (B1.length : Int) := by have := HL1.out; omega
      have q1 : ((szN n : Int) == (szN n : Int)) = true := by simp
      by_cases hk2 : k < 16384
      · have dk : decide ((k : Int) < 16384) = true := by simp; omega
        obtain rfl : two = 2 := by rw [HT.out, if_pos hk2]
        go_wp2_with fail
        refine (bytes_any w.heap.size _ w.heap.size vB7 vM7 B2 R2 HW8.out (by omega)).mono ?_
        rintro e w9 ⟨A9, c9, rfl, ho9, hb9⟩
        have hc9 := own_cap ho9
        have hc10 := own_capM ho9
        have HR9 := Lib.hid (Row.of_own ho9)
        have HB9 := Lib.hid (HB8.out.trans (hb9.mono hz7))
        have HA9 := Lib.hid (HA8.out.below hb9)
        have hz9 : w7.heap.size ≤ w9.heap.size := hb9.size
        clear ho9 hb9
        go_wp2_with fail
        refine (HRD8.out _ _ _ HR9.out hc10 hc9).mono ?_
        rintro e w10 ⟨v10, rfl, ho10, hb10⟩
        obtain ⟨A10, c10, rfl, _, _⟩ := own_form ho10
        have HR10 := Lib.hid (Row.of_own ho10)
        have HB10 := Lib.hid (HB9.out.trans (hb10.mono (Nat.le_trans hz7 hz9)))
        have HA10 := Lib.hid (HA9.out.below (hb10.mono hz9))
        have hz10 : w7.heap.size ≤ w10.heap.size := Nat.le_trans hz9 hb10.size
        clear ho10 hb10
        go_wp2_with fail
        refine (HZ1.out _ HA10.out).mono ?_
        rintro e w' ⟨rfl, rfl⟩
        go_wp2_with fail
        refine (HEX.out _ _ _ _ _ HR10.out (HA10.out.mono hz10)).mono ?_
        rintro e w11 ⟨rfl, q2, rfl⟩
        go_wp2
        go_ret
        exact ⟨rfl, below_drewN' HB10.out q2⟩
      · have dk : decide ((k : Int) < 16384) = false := by simp; omega
        obtain rfl : two = szN n := by rw [HT.out, if_neg hk2]
        obtain rfl : x = szN n := HX.out (by omega)
        go_wp2_with fail
        refine (bytes_any w.heap.size _ w.heap.size vB7 vM7 B2 R2 HW8.out (by omega)).mono ?_
        rintro e w9 ⟨A9, c9, rfl, ho9, hb9⟩
        have hc9 := own_cap ho9
        have hc10 := own_capM ho9
        have HR9 := Lib.hid (Row.of_own ho9)
        have HB9 := Lib.hid (HB8.out.trans (hb9.mono hz7))
        have HA9 := Lib.hid (HA8.out.below hb9)
        have hz9 : w7.heap.size ≤ w9.heap.size := hb9.size
        clear ho9 hb9
        go_wp2_with fail
        refine (HRD8.out _ _ _ HR9.out hc10 hc9).mono ?_
        rintro e w10 ⟨v10, rfl, ho10, hb10⟩
        obtain ⟨A10, c10, rfl, _, _⟩ := own_form ho10
        have HR10 := Lib.hid (Row.of_own ho10)
        have HB10 := Lib.hid (HB9.out.trans (hb10.mono (Nat.le_trans hz7 hz9)))
        have HA10 := Lib.hid (HA9.out.below (hb10.mono hz9))
        have hz10 : w7.heap.size ≤ w10.heap.size := Nat.le_trans hz9 hb10.size
        clear ho10 hb10
        go_wp2_with fail
        refine (HZ1.out _ HA10.out).mono ?_
        rintro e w' ⟨rfl, rfl⟩
        go_wp2_with fail
        refine (HEX.out _ _ _ _ _ HR10.out (HA10.out.mono hz10)).mono ?_
        rintro e w11 ⟨rfl, q2, rfl⟩
        go_wp2
        go_ret
        exact ⟨rfl, below_drewN' HB10.out q2⟩

theorem reach_any (A : Option Addr) (c : Nat) (n : List (List UInt8)) (a : Int) (w : World) (hA : NameIn w A n) (hc : n.length ≤ c) (ha : (Lit.int .u16 a).wf = true) :
    Calls Try.prog 8 #[.slice A n.length c, .int .u16 a] w (TrueB w) := by
  have h1 : IntKind.u16.min = 0 := rfl
  have h2 : IntKind.u16.max = 65535 := rfl
  simp only [Lit.wf, Bool.and_eq_true, decide_eq_true_eq] at ha
  cases hs : soundN n
  · exact reach_bad A c n a w hA hs
  · obtain ⟨a, rfl⟩ : ∃ m : Nat, a = m := ⟨a.toNat, by omega⟩
    by_cases hn : n = []
    · subst hn
      exact reach_root A c a w
    · exact reach_good A c n a w hA hc hs hn (by omega)

end Go.Proofs.Ytmfcppolomkbfaa
