/-
  WnameSets: a number that is put in the place of bytes is there, and nothing else is changed.
-/
import Derived.Test.YtmfcppolomkbfaaWSet
import Derived.Test.YtmfcppolomkbfaaTwo
import Derived.Test.YtmfcppolomkbfaaWAnswers
import Derived.Test.YtmfcppolomkbfaaPutRef
import Derived.Test.YtmfcppolomkbfaaSame
namespace Go.Proofs.Ytmfcppolomkbfaa
open Go.RowKit

/-- append onto a row of the call's own, as one step of a region that draws. -/
theorem step_append_any {P : Program} {w : World} {ops : Array Oper} {o : Oper} {a : Act} {K : Act → World → Prop} {Q : Exit → Act → World → Prop} {E : Prop} (hgd : o.guard = none) (s x : Operand) (t : TypeId)
    (ho : o.op = .call { callee := .builtin .append, args := #[s, x], argTypes := #[t, t] })
    (base : Nat) (e : TypeId) (i : TypeInfo) (z : Value) (size bytes : Nat) (ht : P.underlying t = some (.slice e)) (hi : P.info? e = some i) (hz : i.zero = some z)
    (hsize : i.size = size) (hby : i.bytes = bytes) (hzs : z.cells.size = size) (hsz : 0 < size)
    (v : Value) (n : Nat) (xs : List Value) (hs : a.eval s = v) (hown : w.ownsRow base e size v n xs)
    (A : Option Addr) (m c H : Nat) (news : List Value) (hx : a.eval x = .slice A m c) (hl : news.length = m * size) (hr : Row w H A news) (h1 : ∀ u ∈ news, u.oneCell' = true)
    (h63 : n + m ≤ maxLen) (hbytes : (n + m) * bytes ≤ 140737488355328) (hbase : base ≤ w.heap.size)
    (h : ∀ v' w', w'.ownsRow base e size v' (n + m) (xs ++ news) → w.grownBy w' v.ownBlock → K (a.put o.dst v') w') : if Region.wanted o (yielded ops a.tmps) = true then Oper.wp P o a w K Q else E := by
  have hw : Region.wanted o (yielded ops a.tmps) = true := by simp [Region.wanted, hgd]
  rw [if_pos hw]
  obtain ⟨v', w', hrun, h2, h3⟩ := append_row_run (P := P) w base t o.type e i z size bytes ht hi hz hsize hby hzs hsz v n xs hown A m c H news hl hr h1 h63 hbytes hbase
  unfold Oper.wp
  simp [execOp, ho, resolve, invoke, builtin, hs, hx, hrun, Result.andThen]
  exact h v' w' h2 h3

set_option maxRecDepth 100000 in
set_option maxHeartbeats 1000000 in
theorem sets_dark (A : Option Addr) (m c : Nat) (q n s : Int) (w : World) (hm : 5000 < m) (hm2 : m ≤ maxLen) :
    Calls Try.prog 7 #[.slice A m c, .int .i64 q, .int .i64 n, .int .i64 s] w (TrueB w) := by
  unfold maxLen at hm2
  have d1 : decide (5000 < (m : Int)) = true := by simp; omega
  go_enter Try.func7, Try.ntmps7
  go_wp2_with fail
  refine (new_any _).mono ?_
  rintro e w1 ⟨rfl, _, hb1⟩
  have HB1 := Lib.hid hb1
  clear hb1
  go_wp2_with fail
  refine (wanswers_any _).mono ?_
  rintro e w2 ⟨rfl, hb⟩
  have HB2 := Lib.hid (HB1.out.trans (hb.mono HB1.out.size))
  clear hb
  go_wp2_with fail
  refine (wanswers_any _).mono ?_
  rintro e w3 ⟨rfl, hb⟩
  have HB3 := Lib.hid (HB2.out.trans (hb.mono HB2.out.size))
  clear hb
  go_wp2
  go_ret
  exact ⟨rfl, HB3.out⟩

set_option maxRecDepth 100000 in
set_option maxHeartbeats 1000000 in
theorem sets_misfit (A : Option Addr) (m c : Nat) (b : List UInt8) (q n s : Int) (w : World) (hbl : b.length = m) (hrow : Row w w.heap.size A (b.map bc)) (hm : m ≤ 5000) (hn : n ≤ 9223372036854775807) (hf : fitB n s = false)  :
    Calls Try.prog 7 #[.slice A m c, .int .i64 q, .int .i64 n, .int .i64 s] w (TrueB w) := by
  obtain ⟨i0, hi0, hz0, hz1, hz2⟩ := info_parts u8_info
  have d1 : decide (5000 < (m : Int)) = false := by simp; omega
  have HRF := Lib.hid (fun W => ref_fits_any n s W hn)
  rw [hf] at HRF
  have HL := Lib.hid hbl
  have HA0 := Lib.hid hrow
  have HSET := Lib.hid (fun W (vB vM : Value) (_ : Wr W w.heap.size w.heap.size vB vM b []) => set_misfit (.pointer (some ⟨w.heap.size, 0, none⟩)) q n s W hf)
  clear hbl hrow hf
  go_enter Try.func7, Try.ntmps7
  go_wp2_with fail
  refine (new_any _).mono ?_
  rintro e w1 ⟨rfl, hw1, hb1⟩
  have HW1 := Lib.hid hw1
  have HB1 := Lib.hid hb1
  clear hb1 hw1
  go_wp2_with fail
  refine (wanswers_any _).mono ?_
  rintro e w2 ⟨rfl, hb⟩
  have HW2 := Lib.hid (HW1.out.below hb)
  have HB2 := Lib.hid (HB1.out.trans (hb.mono HB1.out.size))
  have hz2' : w.heap.size ≤ w2.heap.size := HB2.out.size
  have HA2 := Lib.hid ((HA0.out.below HB2.out).alloc hz2' (.cells #[] 5))
  clear hb
  go_wp2_with (
    at_builtin
    refine wpList_append_row rfl (.tmp 33) (.tmp 34) _ rfl w2.heap.size 5 i0 _ 1 1 Try.underlying26 hi0 hz0 hz1 hz2 rfl (by omega) (.slice (some ⟨w2.heap.size, 0, none⟩) 0 0) 0 [] rfl
      (own_lit _ _ _) A m c w.heap.size (b.map bc) rfl (by rw [List.length_map, HL.out, Nat.mul_one]) HA2.out (bc_one b) (by unfold maxLen; omega) (by omega) (by simp) ?_
    intro v3 w3 hown3 hg3
    simp only [Nat.zero_add, List.nil_append] at hown3
    obtain ⟨A3, c3, rfl, _, _⟩ := own_form hown3
    have HR3 := Lib.hid (Row.of_own hown3)
    have hb3 := own_below ((Below.refl w2.heap.size w2).alloc (Nat.le_refl _) _) (Nat.le_refl _) (by simp) (own_lit w2 5 1) hg3
    have HW3 := Lib.hid (HW2.out.below hb3)
    have HB3 := Lib.hid (HB2.out.trans (hb3.mono hz2'))
    clear hown3 hg3 hb3)
  refine (raw_any w.heap.size w3 w.heap.size _ _ [] [] A3 m c3 w3.heap.size b HW3.out HL.out HR3.out (by simp; omega)).mono ?_
  rintro e w4 ⟨rfl, hp⟩
  have hb4 := hp.below HW3.out
  obtain ⟨vB4, vM4, hw4, _, _⟩ := hp
  have HW4 := Lib.hid (show Wr w4 w.heap.size w.heap.size vB4 vM4 b [] from hw4)
  have HB4 := Lib.hid (HB3.out.trans hb4)
  have hz4 : w.heap.size ≤ w4.heap.size := HB4.out.size
  clear hb4 hw4
  go_wp2_with fail
  refine (HSET.out w4 _ _ HW4.out).mono ?_
  rintro e w' ⟨rfl, rfl⟩
  go_wp2_with fail
  refine (HRF.out _).mono ?_
  rintro e w' ⟨rfl, rfl⟩
  go_wp2_with fail
  refine (bytes_any w.heap.size w4 w.heap.size vB4 vM4 b [] HW4.out (by rw [HL.out]; omega)).mono ?_
  rintro e w5 ⟨A5, c5, rfl, ho5, hb5⟩
  have HR5 := Lib.hid (Row.of_own ho5)
  have HB5 := Lib.hid (HB4.out.trans (hb5.mono hz4))
  have HA5 := Lib.hid ((HA0.out.below HB5.out).mono HB5.out.size)
  clear ho5 hb5
  go_wp2_with fail
  refine (same_yes A5 A b.length m c5 c w5.heap.size b w5 rfl HL.out HR5.out HA5.out (by rw [HL.out]; unfold maxLen; omega)).mono ?_
  rintro e w6 ⟨rfl, k6, rfl⟩
  go_wp2
  go_ret
  exact ⟨rfl, below_drewN' HB5.out _⟩

set_option maxRecDepth 100000 in
set_option maxHeartbeats 1000000 in
theorem sets_neg (A : Option Addr) (m c : Nat) (b : List UInt8) (q n s : Int) (w : World) (hbl : b.length = m) (hrow : Row w w.heap.size A (b.map bc)) (hm : m ≤ 5000) (hn : n ≤ 9223372036854775807) (hf : fitB n s = true) (hq : q < 0) :
    Calls Try.prog 7 #[.slice A m c, .int .i64 q, .int .i64 n, .int .i64 s] w (TrueB w) := by
  obtain ⟨i0, hi0, hz0, hz1, hz2⟩ := info_parts u8_info
  have d1 : decide (5000 < (m : Int)) = false := by simp; omega
  have HRF := Lib.hid (fun W => ref_fits_any n s W hn)
  rw [hf] at HRF
  have HL := Lib.hid hbl
  have HA0 := Lib.hid hrow
  have HSET := Lib.hid (fun W (vB vM : Value) (_ : Wr W w.heap.size w.heap.size vB vM b []) => set_neg (.pointer (some ⟨w.heap.size, 0, none⟩)) q n s W hf hq)
  have d2 : decide (q < 0) = true := by simp; omega
  clear hbl hrow hf
  go_enter Try.func7, Try.ntmps7
  go_wp2_with fail
  refine (new_any _).mono ?_
  rintro e w1 ⟨rfl, hw1, hb1⟩
  have HW1 := Lib.hid hw1
  have HB1 := Lib.hid hb1
  clear hb1 hw1
  go_wp2_with fail
  refine (wanswers_any _).mono ?_
  rintro e w2 ⟨rfl, hb⟩
  have HW2 := Lib.hid (HW1.out.below hb)
  have HB2 := Lib.hid (HB1.out.trans (hb.mono HB1.out.size))
  have hz2' : w.heap.size ≤ w2.heap.size := HB2.out.size
  have HA2 := Lib.hid ((HA0.out.below HB2.out).alloc hz2' (.cells #[] 5))
  clear hb
  go_wp2_with (
    at_builtin
    refine wpList_append_row rfl (.tmp 33) (.tmp 34) _ rfl w2.heap.size 5 i0 _ 1 1 Try.underlying26 hi0 hz0 hz1 hz2 rfl (by omega) (.slice (some ⟨w2.heap.size, 0, none⟩) 0 0) 0 [] rfl
      (own_lit _ _ _) A m c w.heap.size (b.map bc) rfl (by rw [List.length_map, HL.out, Nat.mul_one]) HA2.out (bc_one b) (by unfold maxLen; omega) (by omega) (by simp) ?_
    intro v3 w3 hown3 hg3
    simp only [Nat.zero_add, List.nil_append] at hown3
    obtain ⟨A3, c3, rfl, _, _⟩ := own_form hown3
    have HR3 := Lib.hid (Row.of_own hown3)
    have hb3 := own_below ((Below.refl w2.heap.size w2).alloc (Nat.le_refl _) _) (Nat.le_refl _) (by simp) (own_lit w2 5 1) hg3
    have HW3 := Lib.hid (HW2.out.below hb3)
    have HB3 := Lib.hid (HB2.out.trans (hb3.mono hz2'))
    clear hown3 hg3 hb3)
  refine (raw_any w.heap.size w3 w.heap.size _ _ [] [] A3 m c3 w3.heap.size b HW3.out HL.out HR3.out (by simp; omega)).mono ?_
  rintro e w4 ⟨rfl, hp⟩
  have hb4 := hp.below HW3.out
  obtain ⟨vB4, vM4, hw4, _, _⟩ := hp
  have HW4 := Lib.hid (show Wr w4 w.heap.size w.heap.size vB4 vM4 b [] from hw4)
  have HB4 := Lib.hid (HB3.out.trans hb4)
  have hz4 : w.heap.size ≤ w4.heap.size := HB4.out.size
  clear hb4 hw4
  go_wp2_with fail
  refine (HSET.out w4 _ _ HW4.out).mono ?_
  rintro e w' ⟨rfl, rfl⟩
  go_wp2_with fail
  refine (HRF.out _).mono ?_
  rintro e w' ⟨rfl, rfl⟩
  go_wp2_with fail
  refine (bytes_any w.heap.size w4 w.heap.size vB4 vM4 b [] HW4.out (by rw [HL.out]; omega)).mono ?_
  rintro e w5 ⟨A5, c5, rfl, ho5, hb5⟩
  have HR5 := Lib.hid (Row.of_own ho5)
  have HB5 := Lib.hid (HB4.out.trans (hb5.mono hz4))
  have HA5 := Lib.hid ((HA0.out.below HB5.out).mono HB5.out.size)
  clear ho5 hb5
  go_wp2_with fail
  refine (same_yes A5 A b.length m c5 c w5.heap.size b w5 rfl HL.out HR5.out HA5.out (by rw [HL.out]; unfold maxLen; omega)).mono ?_
  rintro e w6 ⟨rfl, k6, rfl⟩
  go_wp2
  go_ret
  exact ⟨rfl, below_drewN' HB5.out _⟩

set_option maxRecDepth 100000 in
set_option maxHeartbeats 1000000 in
theorem sets_far (A : Option Addr) (m c : Nat) (b : List UInt8) (q n s : Int) (w : World) (hbl : b.length = m) (hrow : Row w w.heap.size A (b.map bc)) (hm : m ≤ 5000) (hn : n ≤ 9223372036854775807) (hf : fitB n s = true) (hq : 0 ≤ q) (hq2 : (m : Int) < q) :
    Calls Try.prog 7 #[.slice A m c, .int .i64 q, .int .i64 n, .int .i64 s] w (TrueB w) := by
  obtain ⟨i0, hi0, hz0, hz1, hz2⟩ := info_parts u8_info
  have d1 : decide (5000 < (m : Int)) = false := by simp; omega
  have HRF := Lib.hid (fun W => ref_fits_any n s W hn)
  rw [hf] at HRF
  have HL := Lib.hid hbl
  have HA0 := Lib.hid hrow
  have HSET := Lib.hid (fun W (vB vM : Value) (hw : Wr W w.heap.size w.heap.size vB vM b []) => set_far w.heap.size W w.heap.size vB vM b [] q n s hw (by omega) hf hq (by have := (fitB_size hf).1; rw [hbl]; omega))
  have d2 : decide (q < 0) = false := by simp; omega
  have d3 : decide ((m : Int) < q) = true := by simp; omega
  clear hbl hrow hf
  go_enter Try.func7, Try.ntmps7
  go_wp2_with fail
  refine (new_any _).mono ?_
  rintro e w1 ⟨rfl, hw1, hb1⟩
  have HW1 := Lib.hid hw1
  have HB1 := Lib.hid hb1
  clear hb1 hw1
  go_wp2_with fail
  refine (wanswers_any _).mono ?_
  rintro e w2 ⟨rfl, hb⟩
  have HW2 := Lib.hid (HW1.out.below hb)
  have HB2 := Lib.hid (HB1.out.trans (hb.mono HB1.out.size))
  have hz2' : w.heap.size ≤ w2.heap.size := HB2.out.size
  have HA2 := Lib.hid ((HA0.out.below HB2.out).alloc hz2' (.cells #[] 5))
  clear hb
  go_wp2_with (
    at_builtin
    refine wpList_append_row rfl (.tmp 33) (.tmp 34) _ rfl w2.heap.size 5 i0 _ 1 1 Try.underlying26 hi0 hz0 hz1 hz2 rfl (by omega) (.slice (some ⟨w2.heap.size, 0, none⟩) 0 0) 0 [] rfl
      (own_lit _ _ _) A m c w.heap.size (b.map bc) rfl (by rw [List.length_map, HL.out, Nat.mul_one]) HA2.out (bc_one b) (by unfold maxLen; omega) (by omega) (by simp) ?_
    intro v3 w3 hown3 hg3
    simp only [Nat.zero_add, List.nil_append] at hown3
    obtain ⟨A3, c3, rfl, _, _⟩ := own_form hown3
    have HR3 := Lib.hid (Row.of_own hown3)
    have hb3 := own_below ((Below.refl w2.heap.size w2).alloc (Nat.le_refl _) _) (Nat.le_refl _) (by simp) (own_lit w2 5 1) hg3
    have HW3 := Lib.hid (HW2.out.below hb3)
    have HB3 := Lib.hid (HB2.out.trans (hb3.mono hz2'))
    clear hown3 hg3 hb3)
  refine (raw_any w.heap.size w3 w.heap.size _ _ [] [] A3 m c3 w3.heap.size b HW3.out HL.out HR3.out (by simp; omega)).mono ?_
  rintro e w4 ⟨rfl, hp⟩
  have hb4 := hp.below HW3.out
  obtain ⟨vB4, vM4, hw4, _, _⟩ := hp
  have HW4 := Lib.hid (show Wr w4 w.heap.size w.heap.size vB4 vM4 b [] from hw4)
  have HB4 := Lib.hid (HB3.out.trans hb4)
  have hz4 : w.heap.size ≤ w4.heap.size := HB4.out.size
  clear hb4 hw4
  go_wp2_with fail
  refine (HSET.out w4 _ _ HW4.out).mono ?_
  rintro e w' ⟨rfl, rfl⟩
  go_wp2_with fail
  refine (HRF.out _).mono ?_
  rintro e w' ⟨rfl, rfl⟩
  go_wp2_with fail
  refine (bytes_any w.heap.size w4 w.heap.size vB4 vM4 b [] HW4.out (by rw [HL.out]; omega)).mono ?_
  rintro e w5 ⟨A5, c5, rfl, ho5, hb5⟩
  have HR5 := Lib.hid (Row.of_own ho5)
  have HB5 := Lib.hid (HB4.out.trans (hb5.mono hz4))
  have HA5 := Lib.hid ((HA0.out.below HB5.out).mono HB5.out.size)
  clear ho5 hb5
  go_wp2_with fail
  refine (same_yes A5 A b.length m c5 c w5.heap.size b w5 rfl HL.out HR5.out HA5.out (by rw [HL.out]; unfold maxLen; omega)).mono ?_
  rintro e w6 ⟨rfl, k6, rfl⟩
  go_wp2
  go_ret
  exact ⟨rfl, below_drewN' HB5.out _⟩

set_option maxRecDepth 100000 in
set_option maxHeartbeats 1000000 in
theorem sets_few (A : Option Addr) (m c : Nat) (b : List UInt8) (q n s : Int) (w : World) (hbl : b.length = m) (hrow : Row w w.heap.size A (b.map bc)) (hm : m ≤ 5000) (hn : n ≤ 9223372036854775807) (hf : fitB n s = true) (hq : 0 ≤ q) (hq2 : q ≤ (m : Int)) (hq3 : (m : Int) - q < s) :
    Calls Try.prog 7 #[.slice A m c, .int .i64 q, .int .i64 n, .int .i64 s] w (TrueB w) := by
  obtain ⟨i0, hi0, hz0, hz1, hz2⟩ := info_parts u8_info
  have d1 : decide (5000 < (m : Int)) = false := by simp; omega
  have HRF := Lib.hid (fun W => ref_fits_any n s W hn)
  rw [hf] at HRF
  have HL := Lib.hid hbl
  have HA0 := Lib.hid hrow
  have HSET := Lib.hid (fun W (vB vM : Value) (hw : Wr W w.heap.size w.heap.size vB vM b []) => set_far w.heap.size W w.heap.size vB vM b [] q n s hw (by omega) hf hq (by have := (fitB_size hf).1; rw [hbl]; omega))
  have d2 : decide (q < 0) = false := by simp; omega
  have d3 : decide ((m : Int) < q) = false := by simp; omega
  have d4 : decide ((m : Int) - q < s) = true := by simp; omega
  clear hbl hrow hf
  go_enter Try.func7, Try.ntmps7
  go_wp2_with fail
  refine (new_any _).mono ?_
  rintro e w1 ⟨rfl, hw1, hb1⟩
  have HW1 := Lib.hid hw1
  have HB1 := Lib.hid hb1
  clear hb1 hw1
  go_wp2_with fail
  refine (wanswers_any _).mono ?_
  rintro e w2 ⟨rfl, hb⟩
  have HW2 := Lib.hid (HW1.out.below hb)
  have HB2 := Lib.hid (HB1.out.trans (hb.mono HB1.out.size))
  have hz2' : w.heap.size ≤ w2.heap.size := HB2.out.size
  have HA2 := Lib.hid ((HA0.out.below HB2.out).alloc hz2' (.cells #[] 5))
  clear hb
  go_wp2_with (
    at_builtin
    refine wpList_append_row rfl (.tmp 33) (.tmp 34) _ rfl w2.heap.size 5 i0 _ 1 1 Try.underlying26 hi0 hz0 hz1 hz2 rfl (by omega) (.slice (some ⟨w2.heap.size, 0, none⟩) 0 0) 0 [] rfl
      (own_lit _ _ _) A m c w.heap.size (b.map bc) rfl (by rw [List.length_map, HL.out, Nat.mul_one]) HA2.out (bc_one b) (by unfold maxLen; omega) (by omega) (by simp) ?_
    intro v3 w3 hown3 hg3
    simp only [Nat.zero_add, List.nil_append] at hown3
    obtain ⟨A3, c3, rfl, _, _⟩ := own_form hown3
    have HR3 := Lib.hid (Row.of_own hown3)
    have hb3 := own_below ((Below.refl w2.heap.size w2).alloc (Nat.le_refl _) _) (Nat.le_refl _) (by simp) (own_lit w2 5 1) hg3
    have HW3 := Lib.hid (HW2.out.below hb3)
    have HB3 := Lib.hid (HB2.out.trans (hb3.mono hz2'))
    clear hown3 hg3 hb3)
  refine (raw_any w.heap.size w3 w.heap.size _ _ [] [] A3 m c3 w3.heap.size b HW3.out HL.out HR3.out (by simp; omega)).mono ?_
  rintro e w4 ⟨rfl, hp⟩
  have hb4 := hp.below HW3.out
  obtain ⟨vB4, vM4, hw4, _, _⟩ := hp
  have HW4 := Lib.hid (show Wr w4 w.heap.size w.heap.size vB4 vM4 b [] from hw4)
  have HB4 := Lib.hid (HB3.out.trans hb4)
  have hz4 : w.heap.size ≤ w4.heap.size := HB4.out.size
  clear hb4 hw4
  go_wp2_with fail
  refine (HSET.out w4 _ _ HW4.out).mono ?_
  rintro e w' ⟨rfl, rfl⟩
  go_wp2_with fail
  refine (HRF.out _).mono ?_
  rintro e w' ⟨rfl, rfl⟩
  go_wp2_with fail
  refine (bytes_any w.heap.size w4 w.heap.size vB4 vM4 b [] HW4.out (by rw [HL.out]; omega)).mono ?_
  rintro e w5 ⟨A5, c5, rfl, ho5, hb5⟩
  have HR5 := Lib.hid (Row.of_own ho5)
  have HB5 := Lib.hid (HB4.out.trans (hb5.mono hz4))
  have HA5 := Lib.hid ((HA0.out.below HB5.out).mono HB5.out.size)
  clear ho5 hb5
  go_wp2_with fail
  refine (same_yes A5 A b.length m c5 c w5.heap.size b w5 rfl HL.out HR5.out HA5.out (by rw [HL.out]; unfold maxLen; omega)).mono ?_
  rintro e w6 ⟨rfl, k6, rfl⟩
  go_wp2
  go_ret
  exact ⟨rfl, below_drewN' HB5.out _⟩

end Go.Proofs.Ytmfcppolomkbfaa
