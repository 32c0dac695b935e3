/-
  The contract of name.Text.
-/
import Derived.Test.YtiegneopolffoaaBuilder
import Derived.Test.YtiegneopolffoaaNText
namespace Go.Proofs.Ytiegneopolffoaa
open Go.RowKit

theorem Wrote.intro {B b : Nat} {l : List UInt8} {w w' : World} {v : Value} (h1 : Bld B b l w') (h2 : Below B w w') : Wrote B b l w v (.returned v) w' := ⟨rfl, h1, h2⟩

set_option maxHeartbeats 400000 in
theorem plain_any (c : UInt8) (w : World) :
    Calls Try.prog 44 #[.int .u8 c.toNat] w (Told w (.bool (plainC c))) := by
  have hc := c.toNat_lt
  by_cases h1 : 33 ≤ c.toNat
  · by_cases h2 : c.toNat ≤ 126
    · have d2 : decide ((c.toNat : Int) ≤ 126) = true := by simp; omega
      have HF := Lib.hid (plainC_yes (c := c) (by omega))
      go_enter Try.func44, Try.ntmps44
      go_wp2
      go_ret
      exact ⟨ret_bool HF.out.symm, rfl⟩
    · have d2 : decide ((c.toNat : Int) ≤ 126) = false := by simp; omega
      have HF := Lib.hid (plainC_no (c := c) (by omega))
      go_enter Try.func44, Try.ntmps44
      go_wp2
      go_ret
      exact ⟨ret_bool HF.out.symm, rfl⟩
  · have HF := Lib.hid (plainC_no (c := c) (by omega))
    go_enter Try.func44, Try.ntmps44
    go_wp2
    go_ret
    exact ⟨ret_bool HF.out.symm, rfl⟩

set_option maxHeartbeats 400000 in
theorem writeChar_esc (B b : Nat) (l : List UInt8) (c : UInt8) (w : World) (h : Bld B b l w) (hlen : l.length + 4 ≤ 140737488355328) (hBw : B ≤ w.heap.size) (hc : c.toNat = 46 ∨ c.toNat = 92) :
    Calls Try.prog 32 #[.pointer (some ⟨b, 0, none⟩), .int .u8 c.toNat] w (Wrote B b (l ++ textC c) w (.tuple #[])) := by
  rw [textC_esc hc]
  have HW := Lib.hid (write_any B b l 92 w h (by omega) hBw)
  have h1 : ((c.toNat : Int) == 46) = true ∨ (((c.toNat : Int) == 46) = false ∧ ((c.toNat : Int) == 92) = true) := by
    rcases hc with h | h <;> simp [h]
  clear hc h
  rcases h1 with h1 | ⟨h1, h2⟩
  all_goals
    go_enter Try.func32, Try.ntmps32
    go_wp2_with fail
    refine HW.out.mono ?_
    rintro e w1 ⟨rfl, hb1, hB1⟩
    have hz := hB1.size
    have HB1 := Lib.hid hB1
    have HD1 := Lib.hid hb1
    clear hb1 hB1
    go_wp2_with fail
    refine (write_any B b _ c w1 HD1.out (by simp; omega) (by omega)).mono ?_
    rintro e w2 ⟨rfl, hb2, hB2⟩
    have HB2 := Lib.hid hB2
    have HD2 := Lib.hid hb2
    clear hb2 hB2
    go_wp2
    go_end0
    exact Wrote.intro (by have h := HD2.out; simpa using h) (HB1.out.trans HB2.out)

set_option maxHeartbeats 400000 in
theorem writeChar_as (B b : Nat) (l : List UInt8) (c : UInt8) (w : World) (h : Bld B b l w) (hlen : l.length + 4 ≤ 140737488355328) (hBw : B ≤ w.heap.size) (hc : ¬ (c.toNat = 46 ∨ c.toNat = 92)) (hp : 33 ≤ c.toNat ∧ c.toNat ≤ 126) :
    Calls Try.prog 32 #[.pointer (some ⟨b, 0, none⟩), .int .u8 c.toNat] w (Wrote B b (l ++ textC c) w (.tuple #[])) := by
  rw [textC_as hc hp]
  have HW := Lib.hid (write_any B b l c w h (by omega) hBw)
  have hpl := plain_any c w
  rw [plainC_yes hp] at hpl
  have HP := Lib.hid hpl
  have h1 : ((c.toNat : Int) == 46) = false := by rw [beq_eq_false_iff_ne]; omega
  have h2 : ((c.toNat : Int) == 92) = false := by rw [beq_eq_false_iff_ne]; omega
  clear hc h hpl hp
  go_enter Try.func32, Try.ntmps32
  go_wp2_with fail
  refine HP.out.mono ?_
  rintro e w' ⟨rfl, rfl⟩
  go_wp2_with fail
  refine HW.out.mono ?_
  rintro e w1 ⟨rfl, hb1, hB1⟩
  have HB1 := Lib.hid hB1
  have HD1 := Lib.hid hb1
  clear hb1 hB1
  go_wp2
  go_end0
  exact Wrote.intro HD1.out HB1.out

set_option maxHeartbeats 400000 in
theorem writeChar_num (B b : Nat) (l : List UInt8) (c : UInt8) (w : World) (h : Bld B b l w) (hlen : l.length + 4 ≤ 140737488355328) (hBw : B ≤ w.heap.size) (hp : ¬ (33 ≤ c.toNat ∧ c.toNat ≤ 126)) :
    Calls Try.prog 32 #[.pointer (some ⟨b, 0, none⟩), .int .u8 c.toNat] w (Wrote B b (l ++ textC c) w (.tuple #[])) := by
  rw [textC_num hp]
  have HW := Lib.hid (write_any B b l 92 w h (by omega) hBw)
  have hpl := plain_any c w
  rw [plainC_no hp] at hpl
  have HP := Lib.hid hpl
  have h1 : ((c.toNat : Int) == 46) = false := by rw [beq_eq_false_iff_ne]; omega
  have h2 : ((c.toNat : Int) == 92) = false := by rw [beq_eq_false_iff_ne]; omega
  have hc := c.toNat_lt
  clear h hpl hp
  go_enter Try.func32, Try.ntmps32
  go_wp2_with fail
  refine HP.out.mono ?_
  rintro e w' ⟨rfl, rfl⟩
  go_wp2_with fail
  refine HW.out.mono ?_
  rintro e w1 ⟨rfl, hb1, hB1⟩
  have hz1 := hB1.size
  have HB1 := Lib.hid hB1
  have HD1 := Lib.hid hb1
  clear hb1 hB1
  go_wp2_with fail
  rw [dgH_int]
  refine (write_any B b _ (dgH c) w1 HD1.out (by simp; omega) (by omega)).mono ?_
  rintro e w2 ⟨rfl, hb2, hB2⟩
  have hz2 := hB2.size
  have HB2 := Lib.hid hB2
  have HD2 := Lib.hid hb2
  clear hb2 hB2
  go_wp2_with fail
  rw [dgT_int]
  refine (write_any B b _ (dgT c) w2 HD2.out (by simp; omega) (by omega)).mono ?_
  rintro e w3 ⟨rfl, hb3, hB3⟩
  have hz3 := hB3.size
  have HB3 := Lib.hid hB3
  have HD3 := Lib.hid hb3
  clear hb3 hB3
  go_wp2_with fail
  rw [dgO_int]
  refine (write_any B b _ (dgO c) w3 HD3.out (by simp; omega) (by omega)).mono ?_
  rintro e w4 ⟨rfl, hb4, hB4⟩
  have HB4 := Lib.hid hB4
  have HD4 := Lib.hid hb4
  clear hb4 hB4
  go_wp2
  go_end0
  exact Wrote.intro (by have h := HD4.out; simpa using h) (((HB1.out.trans HB2.out).trans HB3.out).trans HB4.out)

theorem writeChar_any (B b : Nat) (l : List UInt8) (c : UInt8) (w : World) (h : Bld B b l w) (hlen : l.length + 4 ≤ 140737488355328) (hBw : B ≤ w.heap.size) :
    Calls Try.prog 32 #[.pointer (some ⟨b, 0, none⟩), .int .u8 c.toNat] w (Wrote B b (l ++ textC c) w (.tuple #[])) := by
  by_cases hc : c.toNat = 46 ∨ c.toNat = 92
  · exact writeChar_esc B b l c w h hlen hBw hc
  · by_cases hp : 33 ≤ c.toNat ∧ c.toNat ≤ 126
    · exact writeChar_as B b l c w h hlen hBw hc hp
    · exact writeChar_num B b l c w h hlen hBw hp

def TextRel (w : World) (n : List (List UInt8)) (i : Value) (wr : World) : Prop :=
  ∃ k : Nat, k ≤ n.length ∧ i = .int .i64 k ∧ Bld w.heap.size w.heap.size (textN (n.take k)) wr ∧ Below w.heap.size w wr
def TextRel2 (w : World) (p l : List UInt8) (i : Value) (wr : World) : Prop :=
  ∃ k : Nat, k ≤ l.length ∧ i = .int .i64 k ∧ Bld w.heap.size w.heap.size (p ++ textL (l.take k)) wr ∧ Below w.heap.size w wr

theorem textA_nil : textA [] = [46] := rfl
theorem textA_ne {n : List (List UInt8)} (h : n ≠ []) : textA n = textN n := by unfold textA; rw [if_neg h]

set_option maxHeartbeats 400000 in
theorem text_nil (A : Option Addr) (c : Nat) (w : World) :
    Calls Try.prog 17 #[.slice A 0 c] w (Gave w (.string ⟨(textA []).toArray⟩)) := by
  rw [textA_nil]
  go_enter Try.func17, Try.ntmps17
  go_wp2
  go_ret
  exact ⟨rfl, Below.refl _ _⟩

set_option maxHeartbeats 400000 in
theorem text_ne (A : Option Addr) (m c H : Nat) (n : List (List UInt8)) (w : World) (hl : n.length = m) (hA : Row w H A (n.map sv)) (hH : H ≤ w.heap.size) (hs : szN n ≤ 17592186000000) (hn : n ≠ []) :
    Calls Try.prog 17 #[.slice A m c] w (Gave w (.string ⟨(textA n).toArray⟩)) := by
  subst hl
  rw [textA_ne hn]
  have hlen := length_lt_szN n
  have hnl : 0 < n.length := by
    rcases n with _ | ⟨x, n⟩
    · exact absurd rfl hn
    · simp
  have h0 : ((n.length : Int) == 0) = false := by rw [beq_eq_false_iff_ne]; omega
  have HN := Lib.hid (textN_ne hn)
  have HA := Lib.hid (hA.mono hH)
  clear hA hn hH
  go_enter Try.func17, Try.ntmps17
  go_wp2
  go_loopw [12] (TextRel w n) (fun i _ => n.length - (intOf i).toNat)
  case atStart => exact ⟨0, Nat.zero_le _, rfl, Lib.fresh_isBuilder _ _ _, (Below.refl _ _).alloc (Nat.le_refl _) _⟩
  case round =>
    obtain ⟨k, hk, rfl, hbk, hwk⟩ := hrel
    have hzk := hwk.size
    have HBK := Lib.hid hbk
    have HWK := Lib.hid hwk
    have HAK := Lib.hid (HA.out.below hwk)
    clear hbk hwk
    by_cases hlt : k < n.length
    · obtain ⟨b, off, rfl, _, hc⟩ := HAK.out.name_at hlt
      have hle := len_le_szN hlt
      have hpl := textN_take_le n k
      have HT := Lib.hid (textN_snoc hlt)
      go_wp2_with fail
      go_loopw [18] (TextRel2 w (textN (n.take k)) n[k]) (fun i _ => (n[k]).length - (intOf i).toNat)
      case atStart => exact ⟨0, Nat.zero_le _, rfl, by simpa [textL] using HBK.out, HWK.out⟩
      case round =>
        obtain ⟨j, hj, rfl, hbj, hwj⟩ := hrel
        have hzj := hwj.size
        have HBJ := Lib.hid hbj
        have HWJ := Lib.hid hwj
        clear hbj hwj
        have hpj := textL_take_le n[k] j
        by_cases hjt : j < (n[k]).length
        · have HL := Lib.hid (textL_snoc hjt)
          go_wp2_with fail
          refine (writeChar_any _ _ _ (n[k])[j] _ HBJ.out (by rw [List.length_append]; omega) hzj).mono ?_
          rintro e w2 ⟨rfl, hb2, hB2⟩
          have HB2 := Lib.hid hb2
          have HW2 := Lib.hid hB2
          clear hb2 hB2
          go_wp2
          refine ⟨⟨j + 1, by omega, by go_num, ?_, HWJ.out.trans HW2.out⟩, by simp [intOf]; omega⟩
          rw [HL.out, ← List.append_assoc]
          exact HB2.out
        · obtain rfl : j = (n[k]).length := by omega
          go_wp2_with fail
          refine (write_any _ _ _ 46 _ HBJ.out (by rw [List.length_append]; omega) hzj).mono ?_
          rintro e w2 ⟨rfl, hb2, hB2⟩
          have HB2 := Lib.hid hb2
          have HW2 := Lib.hid hB2
          clear hb2 hB2
          go_wp2
          refine ⟨⟨k + 1, by omega, by go_num, ?_, HWJ.out.trans HW2.out⟩, by simp [intOf]; omega⟩
          rw [HT.out]
          have h := HB2.out
          rw [List.take_length] at h
          exact h
    · obtain rfl : k = n.length := by omega
      rw [List.take_length] at HBK
      go_wp2_with fail
      refine (string_any _ _ _ _ HBK.out HN.out).mono ?_
      rintro e w2 ⟨rfl, hB2⟩
      have HW2 := Lib.hid hB2
      clear hB2
      go_wp2
      go_ret
      exact ⟨rfl, HWK.out.trans HW2.out⟩

theorem text_any (A : Option Addr) (m c H : Nat) (n : List (List UInt8)) (w : World) (hl : n.length = m) (hA : Row w H A (n.map sv)) (hH : H ≤ w.heap.size) (hs : szN n ≤ 17592186000000) :
    Calls Try.prog 17 #[.slice A m c] w (Gave w (.string ⟨(textA n).toArray⟩)) := by
  by_cases hn : n = []
  · subst hn
    subst hl
    exact text_nil A c w
  · exact text_ne A m c H n w hl hA hH hs hn

end Go.Proofs.Ytiegneopolffoaa
