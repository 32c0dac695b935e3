/-
  WnameBack: names that are written one behind the other are read as they are, short or not; what is short is not longer.
-/
import Derived.Test.YtmfcppolomkbfaaTwo
import Derived.Test.YtmfcppolomkbfaaNamesIn
import Derived.Test.YtmfcppolomkbfaaWAnswers
namespace Go.Proofs.Ytmfcppolomkbfaa
open Go.RowKit

def WBackRel (w : World) (g1 g2 : Nat) (ns : List (List (List UInt8))) (ahead : List UInt8) (va i : Value) (wr : World) : Prop :=
  ∃ k vB1 vM1 B1 R1 vB2 vM2 B2 R2 ats, k ≤ ns.length ∧ i = .int .i64 (k : Nat) ∧ Two wr w.heap.size g1 vB1 vM1 B1 R1 g2 vB2 vM2 B2 R2 va ats ∧ Below w.heap.size w wr ∧ w.heap.size ≤ wr.heap.size ∧
    Laid (ns.take k) B1 ats ∧ GoodR B1 R1 ∧ GoodR B2 R2 ∧ (∀ j, j < k → soundN (ns.getD j []) = true) ∧ B1.length ≤ ahead.length + B2.length ∧ B2.length ≤ 255 * k ∧ R1.length ≤ 127 * k ∧ R2.length ≤ 127 * k

def WReadRel (W : World) (N : Nat) (i : Value) (wr : World) : Prop := ∃ k : Nat, k ≤ N ∧ i = .int .i64 k ∧ Below W.heap.size W wr
theorem at_cell {w : World} {base g c : Nat} {ats : List Nat} (h : w.ownsRow base 3 1 (.slice (some ⟨g, 0, none⟩) ats.length c) ats.length (ats.map iv)) {k : Nat} (hk : k < ats.length) :
    w.cell? ⟨g, k, none⟩ = some (.int .i64 ((ats.getD k 0 : Nat) : Int)) := by
  rw [own_cell h (k := k) (by rw [List.length_map]; exact hk)]
  simp [iv, List.getD, List.getElem?_eq_getElem hk]
theorem nextR_zero' (e : Nat) : nextR 0 e = e := rfl
theorem AtN.place {B : List UInt8} {p q e : Nat} {n : List (List UInt8)} (h : AtN B p q n e) : p < B.length := by
  cases h with
  | fin h => exact (List.getElem?_eq_some_iff.1 h).1
  | ptr h _ _ _ _ => exact (List.getElem?_eq_some_iff.1 h).1
  | lab _ _ h _ _ _ => exact (List.getElem?_eq_some_iff.1 h).1

set_option maxRecDepth 100000 in
set_option maxHeartbeats 1000000 in
theorem wback_dark (A0 A1 A2 : Option Addr) (N0 N1 N2 c0 c1 c2 : Nat) (w : World) (hd : 60 < N0 ∨ 20000 < N1) (h0 : N0 ≤ maxLen) (h1 : N1 ≤ maxLen) :
    Calls Try.prog 5 #[.slice A0 N0 c0, .slice A1 N1 c1, .slice A2 N2 c2] w (TrueB w) := by
  unfold maxLen at h0 h1
  have key : ∀ d : Bool, decide (60 < (N0 : Int)) = d → (d = false → decide (20000 < (N1 : Int)) = true) → Calls Try.prog 5 #[.slice A0 N0 c0, .slice A1 N1 c1, .slice A2 N2 c2] w (TrueB w) := by
    intro d d1 d2
    cases d
    all_goals
      have d3 : decide (20000 < (N1 : Int)) = true ∨ True := .inr trivial
      first | (have d4 := d2 rfl) | skip
      clear d2 d3
      go_enter Try.func5, Try.ntmps5
      go_wp2_with fail
      refine (new_any _).mono ?_
      rintro e w1 ⟨rfl, _, hb1⟩
      have HB1 := Lib.hid hb1
      clear hb1
      go_wp2_with fail
      refine (new_any _).mono ?_
      rintro e w2 ⟨rfl, _, hb2⟩
      have HB2 := Lib.hid (HB1.out.trans (hb2.mono HB1.out.size))
      clear hb2
      go_wp2_with fail
      refine (wanswers_any _).mono ?_
      rintro e w3 ⟨rfl, hb⟩
      have HB3 := Lib.hid (HB2.out.trans (hb.mono HB2.out.size))
      clear hb
      go_wp2_with fail
      refine (wanswers_any _).mono ?_
      rintro e w4 ⟨rfl, hb⟩
      have HB4 := Lib.hid (HB3.out.trans (hb.mono HB3.out.size))
      clear hb
      go_wp2
      go_ret
      exact ⟨rfl, HB4.out⟩
  refine key _ rfl fun h => ?_
  simp at h ⊢
  omega

set_option maxRecDepth 100000 in
set_option maxHeartbeats 8000000 in
theorem wback_light (A0 A1 A2 : Option Addr) (c0 c1 c2 : Nat) (vs : List Value) (ns : List (List (List UInt8))) (ahead : List UInt8) (shs : List Bool) (w : World) (hn : NamesIn w w.heap.size A0 vs ns) (hr1 : Row w w.heap.size A1 (ahead.map bc)) (hr2 : Row w w.heap.size A2 (shs.map Value.bool))
    (h0 : ns.length ≤ 60) (h1 : ahead.length ≤ 20000) (h2 : shs.length ≤ maxLen) :
    Calls Try.prog 5 #[.slice A0 ns.length c0, .slice A1 ahead.length c1, .slice A2 shs.length c2] w (TrueB w) := by
  unfold maxLen at h2
  obtain ⟨i0, hi0, hz0, hz1, hz2⟩ := info_parts u8_info
  obtain ⟨j0, hj0, hy0, hy1, hy2⟩ := info_parts int_info
  obtain ⟨s0, hs0, hx0, hx1, hx2⟩ := info_parts str_info
  have d1 : decide (60 < (ns.length : Int)) = false := by simp; omega
  have d2 : decide (20000 < (ahead.length : Int)) = false := by simp; omega
  have HN := Lib.hid hn
  have HR1 := Lib.hid hr1
  have HR2 := Lib.hid hr2
  clear hn hr1 hr2
  go_enter Try.func5, Try.ntmps5
  go_wp2_with fail
  refine (new_any _).mono ?_
  rintro e w1 ⟨rfl, hw1, hb1⟩
  have HW1 := Lib.hid hw1
  have HB1 := Lib.hid hb1
  have hl1 := hw1.blk.lt
  clear hb1 hw1
  go_wp2_with fail
  refine (new_any _).mono ?_
  rintro e w2 ⟨rfl, hw2, hb2⟩
  have HT2 := Lib.hid (show Two w2 w.heap.size w.heap.size (.slice none 0 0) (.map none) [] [] w1.heap.size (.slice none 0 0) (.map none) [] [] (.slice none 0 0) [] from
    ⟨HW1.out.below hb2, hw2.mono HB1.out.size, World.ownsRow_nil _ _ _ _, fun j h1 h2 => by have e1 := ownF_new h1; have e2 := ownF_new h2; omega,
      fun j _ e => by simp [Value.ownBlock] at e, fun j _ e => by simp [Value.ownBlock] at e⟩)
  have HB2 := Lib.hid (HB1.out.trans (hb2.mono HB1.out.size))
  have hz2' := hb2.size
  clear hb2 hw2
  go_wp2_with fail
  refine (wanswers_any _).mono ?_
  rintro e w3 ⟨rfl, hb⟩
  have HT3 := Lib.hid (HT2.out.below hb)
  have HB3 := Lib.hid (HB2.out.trans (hb.mono HB2.out.size))
  have hz3 : w.heap.size ≤ w3.heap.size := Nat.le_trans HB2.out.size hb.size
  have HA := Lib.hid ((HR1.out.below HB3.out).alloc hz3 (.cells #[] 5))
  clear hb
  go_wp2_with (
    at_builtin
    refine wpList_append_row rfl (.tmp 45) (.tmp 46) _ rfl w3.heap.size 5 i0 _ 1 1 Try.underlying26 hi0 hz0 hz1 hz2 rfl (by omega) (.slice (some ⟨w3.heap.size, 0, none⟩) 0 0) 0 [] rfl
      (own_lit _ _ _) A1 ahead.length c1 w.heap.size (ahead.map bc) rfl (by rw [List.length_map, Nat.mul_one]) HA.out (bc_one ahead) (by unfold maxLen; omega) (by omega) (by simp) ?_
    intro v4 w4 hown4 hg4
    simp only [Nat.zero_add, List.nil_append] at hown4
    obtain ⟨A4, c4, rfl, hc1, hc2⟩ := own_form hown4
    have HR4 := Lib.hid (Row.of_own hown4)
    have hb4 := own_below ((Below.refl w3.heap.size w3).alloc (Nat.le_refl _) _) (Nat.le_refl _) (by simp) (own_lit w3 5 1) hg4
    have HT4 := Lib.hid (HT3.out.below hb4)
    have HB4 := Lib.hid (HB3.out.trans (hb4.mono hz3))
    have hz4 : w.heap.size ≤ w4.heap.size := Nat.le_trans hz3 hb4.size
    clear hown4 hg4 hb4)
  refine (raw_any w.heap.size w4 _ _ _ [] [] A4 ahead.length c4 w4.heap.size ahead HT4.out.w1 rfl HR4.out (by simp; omega)).mono ?_
  rintro e w5 ⟨rfl, hp⟩
  have hb5 := hp.below HT4.out.w1
  obtain ⟨vB, vM, ht5⟩ := HT4.out.pen hp
  have HT5 := Lib.hid ht5
  have HB5 := Lib.hid (HB4.out.trans hb5)
  have hz5 : w.heap.size ≤ w5.heap.size := Nat.le_trans hz4 hb5.size
  clear hp hb5 ht5
  go_wp2
  go_loopw [9, 10] (WBackRel w w.heap.size w1.heap.size ns ahead) (fun _ i _ => ns.length - (intOf i).toNat)
  case atStart => exact ⟨0, vB, vM, ahead, [], .slice none 0 0, .map none, [], [], [], Nat.zero_le _, rfl, HT5.out, HB5.out, hz5, by rw [List.take_zero]; exact Laid.nil _, GoodR.nil _, GoodR.nil _, fun j h => absurd h (Nat.not_lt_zero _), by simp, by simp, by simp, by simp⟩
  case round =>
    obtain ⟨k, vB1, vM1, B1, R1, vB2, vM2, B2, R2, ats, hk, rfl, ht, hb, hz, hld, hg1, hg2, hsd, hle, hl2, hq1, hq2⟩ := hrel
    obtain ⟨Aa, ca, rfl, _, _⟩ := own_form ht.row
    have hal : ats.length ≤ 60 := by rw [hld.1, List.length_take]; omega
    have HT := Lib.hid ht
    have HB := Lib.hid hb
    have HLD := Lib.hid hld
    have HG1 := Lib.hid hg1
    have HG2 := Lib.hid hg2
    have HSD := Lib.hid hsd
    clear ht hb hld hg1 hg2 hsd HT5 HB5 HT4 HB4 HT3 HB3 HT2 HB2 HR4 HA
    by_cases hlt : k < ns.length
    · obtain ⟨bN, oN, Ak, ck, rfl, hbN, hcN, hrN, hm1, hm2⟩ := HN.out.at_ hlt
      obtain ⟨n, hn⟩ : ∃ n, ns.getD k [] = n := ⟨_, rfl⟩
      have hnk : ns[k] = n := by rw [← hn]; simp [List.getD, List.getElem?_eq_getElem hlt]
      simp only [hn] at hcN hrN hm1 hm2
      have HNG := Lib.hid hn
      have HNK := Lib.hid hnk
      have HCN := Lib.hid hcN
      have HRN := Lib.hid hrN
      have HSO := Lib.hid (fun W hr => ref_sound_free Ak ck w.heap.size n W hr hm1 hm2)
      have crn : wr.cell? ⟨bN, oN + k, none⟩ = some (.slice Ak n.length ck) := (HB.out.cell (p := ⟨bN, oN + k, none⟩) hbN).trans hcN
      clear hn hnk hcN hrN hm1 hm2
      cases hs : soundN n
      · rw [hs] at HSO
        clear hs
        go_wp2_with fail
        refine (HSO.out _ (HRN.out.below HB.out)).mono ?_
        rintro e w' ⟨rfl, rfl⟩
        go_wp2
        go_ret
        exact ⟨rfl, HB.out⟩
      rw [hs] at HSO
      have HS := Lib.hid hs
      have hss := hs
      simp only [soundN, Bool.and_eq_true, decide_eq_true_eq] at hss
      obtain ⟨hfl, hsz⟩ := hss
      have hnl := szN_ge n hfl
      have HF := Lib.hid hfl
      clear hs hfl
      by_cases hks : k < shs.length
      · obtain ⟨bS, oS, rfl, hbS, hcS⟩ := HR2.out.at_ (k := k) (by rw [List.length_map]; exact hks)
        obtain ⟨sh, hsh⟩ : ∃ sh, sh = shs[k] := ⟨_, rfl⟩
        rw [List.getElem_map, ← hsh] at hcS
        have HCS := Lib.hid hcS
        have ds : decide ((k : Int) < (shs.length : Int)) = true := by simp; omega
        clear hcS
        clear hsh
        go_wp2_with fail
        refine (HSO.out _ (HRN.out.below HB.out)).mono ?_
        rintro e w' ⟨rfl, rfl⟩
        have HV := Lib.hid (Row.made wr #[.int .i64 (B1.length : Int)] 3)
        go_wp2_with fail
        refine (len_any w.heap.size wr w.heap.size vB1 vM1 B1 R1 HT.out.w1).mono ?_
        rintro e w' ⟨rfl, rfl⟩
        go_wp2_with (first
          | (at_builtin
             refine wpList_append_at rfl (.tmp 61) (.tmp 64) _ rfl w.heap.size 3 j0 _ 1 8 Try.underlying51 hj0 hy0 hy1 hy2 rfl (by omega) (.slice Aa ats.length ca) ats.length _ rfl (HT.out.row.alloc _)
               (some ⟨wr.heap.size, 0, none⟩) 1 1 (wr.heap.size + 1) [.int .i64 (B1.length : Int)] rfl rfl HV.out (by simp [Value.oneCell']) (by unfold maxLen; omega) (by omega) (by simp; omega) ?_
             intro v6 w6 hown6 hg6 hat6
             obtain ⟨A6, c6, rfl, _, _⟩ := own_form hown6
             have hb0 : Below wr.heap.size wr (wr.alloc (.cells #[.int .i64 (B1.length : Int)] 3)) := (Below.refl _ _).alloc (Nat.le_refl _) _
             have ht0 := HT.out.below hb0
             have HB6 := Lib.hid (own_below (HB.out.alloc hz _) (Nat.le_refl _) (by simp; omega) ht0.row hg6)
             have HT6 := Lib.hid (ht0.grown (a := B1.length) hown6 hg6 hat6)
             have hz6 : w.heap.size ≤ w6.heap.size := by have := hg6.size; simp at this; omega
             have c6n : w6.cell? ⟨bN, oN + k, none⟩ = some (.slice Ak n.length ck) := (HB6.out.cell (p := ⟨bN, oN + k, none⟩) hbN).trans HCN.out
             have hbN6 : bN < w6.heap.size := Nat.lt_of_lt_of_le hbN hz6
             have HA6 := Lib.hid ((HRN.out.below HB6.out).alloc hz6 (.cells #[] 9))
             clear hown6 hg6 hat6 hb0 ht0)
          | (at_builtin
             refine wpList_append_row rfl (.tmp 67) (.tmp 71) _ rfl w6.heap.size 9 s0 _ 1 16 Try.underlying31 hs0 hx0 hx1 hx2 rfl (by omega) (.slice (some ⟨w6.heap.size, 0, none⟩) 0 0) 0 [] rfl
               (own_lit _ _ _) Ak n.length ck w.heap.size (n.map sv) rfl (by rw [List.length_map, Nat.mul_one]) HA6.out (sv_one n) (by unfold maxLen; omega) (by omega) (by simp) ?_
             intro v7 w7 hown7 hg7
             simp only [Nat.zero_add, List.nil_append] at hown7
             obtain ⟨A7, c7, rfl, _, _⟩ := own_form hown7
             have HR7 := Lib.hid (Row.of_own hown7)
             have hb7 := own_below ((Below.refl w6.heap.size w6).alloc (Nat.le_refl _) _) (Nat.le_refl _) (by simp) (own_lit w6 9 1) hg7
             have HT7 := Lib.hid (HT6.out.below hb7)
             have HB7 := Lib.hid (HB6.out.trans (hb7.mono hz6))
             have hz7 : w.heap.size ≤ w7.heap.size := Nat.le_trans hz6 hb7.size
             have c7s : w7.cell? ⟨bS, oS + k, none⟩ = some (.bool sh) := (HB7.out.cell (p := ⟨bS, oS + k, none⟩) hbS).trans HCS.out
             clear hown7 hg7 hb7))
        refine (name_sound w.heap.size w7 w.heap.size vB1 vM1 B1 R1 A7 n.length c7 w7.heap.size n sh HT7.out.w1 rfl HR7.out (Nat.le_refl _) HS.out (by omega) (by omega) (fun r hr => (HG1.out r hr).1)).mono ?_
        rintro e w8 ⟨rfl, hp⟩
        have hb8 := hp.below HT7.out.w1
        obtain ⟨vB3, vM3, ht8⟩ := HT7.out.pen hp
        have HT8 := Lib.hid ht8
        have HB8 := Lib.hid (HB7.out.trans hb8)
        have hz8 : w.heap.size ≤ w8.heap.size := Nat.le_trans hz7 hb8.size
        have c8n : w8.cell? ⟨bN, oN + k, none⟩ = some (.slice Ak n.length ck) := (HB8.out.cell (p := ⟨bN, oN + k, none⟩) hbN).trans HCN.out
        have hbN8 : bN < w8.heap.size := Nat.lt_of_lt_of_le hbN hz8
        have HA8 := Lib.hid ((HRN.out.below HB8.out).alloc hz8 (.cells #[] 9))
        clear hp hb8 ht8
        go_wp2_with (
          at_builtin
          refine wpList_append_row rfl (.tmp 85) (.tmp 89) _ rfl w8.heap.size 9 s0 _ 1 16 Try.underlying31 hs0 hx0 hx1 hx2 rfl (by omega) (.slice (some ⟨w8.heap.size, 0, none⟩) 0 0) 0 [] rfl
            (own_lit _ _ _) Ak n.length ck w.heap.size (n.map sv) rfl (by rw [List.length_map, Nat.mul_one]) HA8.out (sv_one n) (by unfold maxLen; omega) (by omega) (by simp) ?_
          intro v9 w9 hown9 hg9
          simp only [Nat.zero_add, List.nil_append] at hown9
          obtain ⟨A9, c9, rfl, _, _⟩ := own_form hown9
          have HR9 := Lib.hid (Row.of_own hown9)
          have hb9 := own_below ((Below.refl w8.heap.size w8).alloc (Nat.le_refl _) _) (Nat.le_refl _) (by simp) (own_lit w8 9 1) hg9
          have HT9 := Lib.hid (HT8.out.below hb9)
          have HB9 := Lib.hid (HB8.out.trans (hb9.mono hz8))
          have hz9 : w.heap.size ≤ w9.heap.size := Nat.le_trans hz8 hb9.size
          clear hown9 hg9 hb9)
        refine (name_sound w.heap.size w9 w1.heap.size vB2 vM2 B2 R2 A9 n.length c9 w9.heap.size n false HT9.out.w2 rfl HR9.out (Nat.le_refl _) HS.out (by omega) (by omega) (fun r hr => (HG2.out r hr).1)).mono ?_
        rintro e w10 ⟨rfl, hp⟩
        have hb10 := hp.below HT9.out.w2
        obtain ⟨vB4, vM4, ht10⟩ := HT9.out.swap.pen hp
        have HT10 := Lib.hid ht10.swap
        have HB10 := Lib.hid (HB9.out.trans hb10)
        have hz10 : w.heap.size ≤ w10.heap.size := Nat.le_trans hz9 hb10.size
        clear hp hb10 ht10
        go_wp2
        obtain ⟨⟨S, hS⟩, hA, hG⟩ := nameW_good (short := sh) (n := n) HF.out HG1.out
        obtain ⟨_, _, hG'⟩ := nameW_good (short := false) (n := n) HF.out HG2.out
        have hn1 := length_nameW_le sh n B1 R1 HF.out
        have hn2 := length_nameW_long n B2 R2
        have hn3 := length_nameW_rests sh n B1 R1
        have hn4 := length_nameW_rests false n B2 R2
        refine ⟨⟨k + 1, vB3, vM3, _, _, vB4, vM4, _, _, ats ++ [B1.length], by omega, by go_num, by simpa using HT10.out, HB10.out, hz10, ?_, hG, hG', ?_, by omega, by omega, by omega, by omega⟩, by simp [intOf]; omega⟩
        · rw [List.take_succ_eq_append_getElem hlt, HNK.out]
          exact HLD.out.snoc hS hA
        · intro j hj
          by_cases hjk : j < k
          · exact HSD.out j hjk
          · obtain rfl : j = k := by omega
            rw [HNG.out]
            exact HS.out
      · obtain ⟨sh, hsh⟩ : ∃ sh, sh = false := ⟨_, rfl⟩
        have ds : decide ((k : Int) < (shs.length : Int)) = false := by simp; omega
        have HSH := Lib.hid (show false = sh from hsh.symm)
        go_wp2_with fail
        refine (HSO.out _ (HRN.out.below HB.out)).mono ?_
        rintro e w' ⟨rfl, rfl⟩
        have HV := Lib.hid (Row.made wr #[.int .i64 (B1.length : Int)] 3)
        go_wp2_with fail
        refine (len_any w.heap.size wr w.heap.size vB1 vM1 B1 R1 HT.out.w1).mono ?_
        rintro e w' ⟨rfl, rfl⟩
        go_wp2_with (first
          | (at_builtin
             refine wpList_append_at rfl (.tmp 61) (.tmp 64) _ rfl w.heap.size 3 j0 _ 1 8 Try.underlying51 hj0 hy0 hy1 hy2 rfl (by omega) (.slice Aa ats.length ca) ats.length _ rfl (HT.out.row.alloc _)
               (some ⟨wr.heap.size, 0, none⟩) 1 1 (wr.heap.size + 1) [.int .i64 (B1.length : Int)] rfl rfl HV.out (by simp [Value.oneCell']) (by unfold maxLen; omega) (by omega) (by simp; omega) ?_
             intro v6 w6 hown6 hg6 hat6
             obtain ⟨A6, c6, rfl, _, _⟩ := own_form hown6
             have hb0 : Below wr.heap.size wr (wr.alloc (.cells #[.int .i64 (B1.length : Int)] 3)) := (Below.refl _ _).alloc (Nat.le_refl _) _
             have ht0 := HT.out.below hb0
             have HB6 := Lib.hid (own_below (HB.out.alloc hz _) (Nat.le_refl _) (by simp; omega) ht0.row hg6)
             have HT6 := Lib.hid (ht0.grown (a := B1.length) hown6 hg6 hat6)
             have hz6 : w.heap.size ≤ w6.heap.size := by have := hg6.size; simp at this; omega
             have c6n : w6.cell? ⟨bN, oN + k, none⟩ = some (.slice Ak n.length ck) := (HB6.out.cell (p := ⟨bN, oN + k, none⟩) hbN).trans HCN.out
             have hbN6 : bN < w6.heap.size := Nat.lt_of_lt_of_le hbN hz6
             have HA6 := Lib.hid ((HRN.out.below HB6.out).alloc hz6 (.cells #[] 9))
             clear hown6 hg6 hat6 hb0 ht0)
          | (at_builtin
             refine wpList_append_row rfl (.tmp 67) (.tmp 71) _ rfl w6.heap.size 9 s0 _ 1 16 Try.underlying31 hs0 hx0 hx1 hx2 rfl (by omega) (.slice (some ⟨w6.heap.size, 0, none⟩) 0 0) 0 [] rfl
               (own_lit _ _ _) Ak n.length ck w.heap.size (n.map sv) rfl (by rw [List.length_map, Nat.mul_one]) HA6.out (sv_one n) (by unfold maxLen; omega) (by omega) (by simp) ?_
             intro v7 w7 hown7 hg7
             simp only [Nat.zero_add, List.nil_append] at hown7
             obtain ⟨A7, c7, rfl, _, _⟩ := own_form hown7
             have HR7 := Lib.hid (Row.of_own hown7)
             have hb7 := own_below ((Below.refl w6.heap.size w6).alloc (Nat.le_refl _) _) (Nat.le_refl _) (by simp) (own_lit w6 9 1) hg7
             have HT7 := Lib.hid (HT6.out.below hb7)
             have HB7 := Lib.hid (HB6.out.trans (hb7.mono hz6))
             have hz7 : w.heap.size ≤ w7.heap.size := Nat.le_trans hz6 hb7.size
             skip
             clear hown7 hg7 hb7))
        rw [HSH.out]
        refine (name_sound w.heap.size w7 w.heap.size vB1 vM1 B1 R1 A7 n.length c7 w7.heap.size n sh HT7.out.w1 rfl HR7.out (Nat.le_refl _) HS.out (by omega) (by omega) (fun r hr => (HG1.out r hr).1)).mono ?_
        rintro e w8 ⟨rfl, hp⟩
        have hb8 := hp.below HT7.out.w1
        obtain ⟨vB3, vM3, ht8⟩ := HT7.out.pen hp
        have HT8 := Lib.hid ht8
        have HB8 := Lib.hid (HB7.out.trans hb8)
        have hz8 : w.heap.size ≤ w8.heap.size := Nat.le_trans hz7 hb8.size
        have c8n : w8.cell? ⟨bN, oN + k, none⟩ = some (.slice Ak n.length ck) := (HB8.out.cell (p := ⟨bN, oN + k, none⟩) hbN).trans HCN.out
        have hbN8 : bN < w8.heap.size := Nat.lt_of_lt_of_le hbN hz8
        have HA8 := Lib.hid ((HRN.out.below HB8.out).alloc hz8 (.cells #[] 9))
        clear hp hb8 ht8
        go_wp2_with (
          at_builtin
          refine wpList_append_row rfl (.tmp 85) (.tmp 89) _ rfl w8.heap.size 9 s0 _ 1 16 Try.underlying31 hs0 hx0 hx1 hx2 rfl (by omega) (.slice (some ⟨w8.heap.size, 0, none⟩) 0 0) 0 [] rfl
            (own_lit _ _ _) Ak n.length ck w.heap.size (n.map sv) rfl (by rw [List.length_map, Nat.mul_one]) HA8.out (sv_one n) (by unfold maxLen; omega) (by omega) (by simp) ?_
          intro v9 w9 hown9 hg9
          simp only [Nat.zero_add, List.nil_append] at hown9
          obtain ⟨A9, c9, rfl, _, _⟩ := own_form hown9
          have HR9 := Lib.hid (Row.of_own hown9)
          have hb9 := own_below ((Below.refl w8.heap.size w8).alloc (Nat.le_refl _) _) (Nat.le_refl _) (by simp) (own_lit w8 9 1) hg9
          have HT9 := Lib.hid (HT8.out.below hb9)
          have HB9 := Lib.hid (HB8.out.trans (hb9.mono hz8))
          have hz9 : w.heap.size ≤ w9.heap.size := Nat.le_trans hz8 hb9.size
          clear hown9 hg9 hb9)
        refine (name_sound w.heap.size w9 w1.heap.size vB2 vM2 B2 R2 A9 n.length c9 w9.heap.size n false HT9.out.w2 rfl HR9.out (Nat.le_refl _) HS.out (by omega) (by omega) (fun r hr => (HG2.out r hr).1)).mono ?_
        rintro e w10 ⟨rfl, hp⟩
        have hb10 := hp.below HT9.out.w2
        obtain ⟨vB4, vM4, ht10⟩ := HT9.out.swap.pen hp
        have HT10 := Lib.hid ht10.swap
        have HB10 := Lib.hid (HB9.out.trans hb10)
        have hz10 : w.heap.size ≤ w10.heap.size := Nat.le_trans hz9 hb10.size
        clear hp hb10 ht10
        go_wp2
        obtain ⟨⟨S, hS⟩, hA, hG⟩ := nameW_good (short := sh) (n := n) HF.out HG1.out
        obtain ⟨_, _, hG'⟩ := nameW_good (short := false) (n := n) HF.out HG2.out
        have hn1 := length_nameW_le sh n B1 R1 HF.out
        have hn2 := length_nameW_long n B2 R2
        have hn3 := length_nameW_rests sh n B1 R1
        have hn4 := length_nameW_rests false n B2 R2
        refine ⟨⟨k + 1, vB3, vM3, _, _, vB4, vM4, _, _, ats ++ [B1.length], by omega, by go_num, by simpa using HT10.out, HB10.out, hz10, ?_, hG, hG', ?_, by omega, by omega, by omega, by omega⟩, by simp [intOf]; omega⟩
        · rw [List.take_succ_eq_append_getElem hlt, HNK.out]
          exact HLD.out.snoc hS hA
        · intro j hj
          by_cases hjk : j < k
          · exact HSD.out j hjk
          · obtain rfl : j = k := by omega
            rw [HNG.out]
            exact HS.out
    · obtain rfl : k = ns.length := by omega
      have hld := HLD.out
      rw [List.take_length] at hld
      have hal2 : ats.length = ns.length := hld.1
      have HLN := Lib.hid hld
      have HAL := Lib.hid hal2
      have hcapb : B1.length ≤ 40000 := by omega
      have dlen : decide ((B2.length : Int) < (B1.length : Int) - (ahead.length : Int)) = false := by simp; omega
      clear hld hal2
      go_wp2_with fail
      refine (bytes_any w.heap.size wr w.heap.size vB1 vM1 B1 R1 HT.out.w1 (by omega)).mono ?_
      rintro e w6 ⟨A6, c6, rfl, ho6, hb6⟩
      have hc6 := own_cap ho6
      have hc7 := own_capM ho6
      have HT6 := Lib.hid (HT.out.below hb6)
      have HB6 := Lib.hid (HB.out.trans (hb6.mono hz))
      have HR6 := Lib.hid (Row.of_own ho6)
      have hz6 : w.heap.size ≤ w6.heap.size := Nat.le_trans hz hb6.size
      clear ho6 hb6
      go_wp2_with fail
      refine (len_any w.heap.size w6 w1.heap.size vB2 vM2 B2 R2 HT6.out.w2).mono ?_
      rintro e w' ⟨rfl, rfl⟩
      go_wp2
      go_loopw [12] (WReadRel w6 ns.length) (fun i _ => ns.length - (intOf i).toNat)
      case atStart => exact ⟨0, Nat.zero_le _, rfl, Below.refl _ _⟩
      case round =>
        obtain ⟨k, hk, rfl, hb⟩ := hrel
        have HBB := Lib.hid hb
        have hzz := hb.size
        clear hb
        by_cases hlt : k < ns.length
        · obtain ⟨bN, oN, Ak, ck, rfl, hbN, hcN, hrN, hm1, hm2⟩ := HN.out.at_ hlt
          obtain ⟨gA, rfl⟩ := own_some HT6.out.row (by rw [HAL.out]; omega)
          have hgA := (HT6.out.row.lt gA rfl).2
          have hka : k < ats.length := by rw [HAL.out]; exact hlt
          obtain ⟨n, hn⟩ : ∃ n, ns.getD k [] = n := ⟨_, rfl⟩
          obtain ⟨a, ha⟩ : ∃ a, ats.getD k 0 = a := ⟨_, rfl⟩
          obtain ⟨e, he⟩ : ∃ e, (ats ++ [B1.length]).getD (k + 1) 0 = e := ⟨_, rfl⟩
          have hat := HLN.out.2 k hlt
          have hs := HSD.out k hlt
          have hac := at_cell HT6.out.row hka
          simp only [hn] at hcN hrN hm1 hm2 hs hat
          rw [ha] at hat hac
          rw [he] at hat
          have hss := hs
          simp only [soundN, Bool.and_eq_true, decide_eq_true_eq] at hss
          have hrd := hat.read (x := 0) (m := []) (by simp only [szN]; omega)
          rw [List.nil_append, nextR_zero'] at hrd
          have hnl := length_lt_szN n
          have hsz := hss.2
          have hab : a ≤ 40000 := by
            have := hat.place
            omega
          have HG := Lib.hid (fun W hr => wget_at A6 B1.length c6 B1 a W rfl hr hc7 hc6 (by omega))
          rw [hrd] at HG
          have HEX := Lib.hid (fun A' B' c1' c2' (w' : World) hA' hB' => exact_any A' B' n.length n.length c1' c2' w'.heap.size n n w' rfl rfl hA' hB' (by unfold maxLen; omega))
          rw [show decide (n = n) = true by simp] at HEX
          have HCN := Lib.hid ((HB6.out.cell (p := ⟨bN, oN + k, none⟩) hbN).trans hcN)
          have HRN := Lib.hid ((hrN.below HB6.out).mono hz6)
          have crA : wr.cell? ⟨gA, k, none⟩ = some (.int .i64 (a : Int)) := (HBB.out.cell (p := ⟨gA, k, none⟩) hgA).trans hac
          have HE := Lib.hid he
          have hbN6 : bN < w6.heap.size := Nat.lt_of_lt_of_le hbN hz6
          clear hn ha he hat hs hac hcN hrN hm1 hm2 hss hrd
          by_cases hk1 : k + 1 < ns.length
          · have hac1 := at_cell HT6.out.row (k := k + 1) (by rw [HAL.out]; exact hk1)
            have he1 : ats.getD (k + 1) 0 = e := by rw [← HE.out, getD_left (by rw [HAL.out]; exact hk1)]
            rw [he1] at hac1
            have HC1 := Lib.hid hac1
            have hka1 : k + 1 < ats.length := by rw [HAL.out]; exact hk1
            have hka2 : (k : Int) + 1 < (ats.length : Int) := by omega
            have dk : decide ((k : Int) + 1 < (ns.length : Int)) = true := by simp; omega
            have t1 : ((e : Int) != (e : Int)) = false := by simp
            clear hac1 he1
            go_wp2_with fail
            refine (HG.out _ ((HR6.out.below HBB.out).mono hzz)).mono ?_
            rintro e' w7 ⟨v7, rfl, ho7, hb7⟩
            obtain ⟨A7, c7, rfl, _, _⟩ := own_form ho7
            have HR7 := Lib.hid (Row.of_own ho7)
            have HB7 := Lib.hid (HBB.out.trans (hb7.mono hzz))
            have c7n : w7.cell? ⟨bN, oN + k, none⟩ = some (.slice Ak n.length ck) := (HB7.out.cell (p := ⟨bN, oN + k, none⟩) hbN6).trans HCN.out
            have c7a : w7.cell? ⟨gA, k + 1, none⟩ = some (.int .i64 (e : Int)) := (HB7.out.cell (p := ⟨gA, k + 1, none⟩) hgA).trans HC1.out
            clear ho7 hb7
            go_wp2_with fail
            refine (HEX.out _ _ _ _ _ HR7.out ((HRN.out.below HB7.out).mono HB7.out.size)).mono ?_
            rintro e' w8 ⟨rfl, q, rfl⟩
            go_wp2
            refine ⟨⟨k + 1, by omega, by go_num, below_drewN' HB7.out q⟩, by simp [intOf]; omega⟩
          · have hkn : ns.length = k + 1 := by omega
            have he1 : B1.length = e := by rw [← HE.out, getD_at (by rw [HAL.out]; omega)]
            have dk : decide ((k : Int) + 1 < (ns.length : Int)) = false := by simp; omega
            have t1 : ((B1.length : Int) != (e : Int)) = false := by rw [he1]; simp
            have t2 : ((e : Int) != (B1.length : Int)) = false := by rw [he1]; simp
            have HKN := Lib.hid hkn
            clear he1 hkn
            go_wp2_with fail
            refine (HG.out _ ((HR6.out.below HBB.out).mono hzz)).mono ?_
            rintro e' w7 ⟨v7, rfl, ho7, hb7⟩
            obtain ⟨A7, c7, rfl, _, _⟩ := own_form ho7
            have HR7 := Lib.hid (Row.of_own ho7)
            have HB7 := Lib.hid (HBB.out.trans (hb7.mono hzz))
            have c7n : w7.cell? ⟨bN, oN + k, none⟩ = some (.slice Ak n.length ck) := (HB7.out.cell (p := ⟨bN, oN + k, none⟩) hbN6).trans HCN.out
            clear ho7 hb7
            go_wp2_with fail
            refine (HEX.out _ _ _ _ _ HR7.out ((HRN.out.below HB7.out).mono HB7.out.size)).mono ?_
            rintro e' w8 ⟨rfl, q, rfl⟩
            go_wp2
            refine ⟨⟨k + 1, by omega, by go_num, below_drewN' HB7.out q⟩, by simp [intOf]; omega⟩
        · obtain rfl : k = ns.length := by omega
          go_wp2
          go_ret
          exact ⟨rfl, HB6.out.trans (HBB.out.mono hz6)⟩

theorem wback_any (A0 A1 A2 : Option Addr) (c0 c1 c2 : Nat) (vs : List Value) (ns : List (List (List UInt8))) (ahead : List UInt8) (shs : List Bool) (w : World) (hn : NamesIn w w.heap.size A0 vs ns) (hr1 : Row w w.heap.size A1 (ahead.map bc)) (hr2 : Row w w.heap.size A2 (shs.map Value.bool))
    (h0 : ns.length ≤ maxLen) (h1 : ahead.length ≤ maxLen) (h2 : shs.length ≤ maxLen) :
    Calls Try.prog 5 #[.slice A0 ns.length c0, .slice A1 ahead.length c1, .slice A2 shs.length c2] w (TrueB w) := by
  by_cases h : ns.length ≤ 60 ∧ ahead.length ≤ 20000
  · exact wback_light A0 A1 A2 c0 c1 c2 vs ns ahead shs w hn hr1 hr2 h.1 h.2 h2
  · exact wback_dark A0 A1 A2 ns.length ahead.length shs.length c0 c1 c2 w (by omega) h0 h1

end Go.Proofs.Ytmfcppolomkbfaa
