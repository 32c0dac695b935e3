/-
  The contract of wname.whole: a sound name's labels as bytes.
-/
import Derived.Test.YtjjmllbkfbdcnaaWriter
namespace Go.Proofs.Ytjjmllbkfbdcnaa
open Go.RowKit

theorem strCells_list (l : List UInt8) : Lib.strCells ⟨l.toArray⟩ = l.map bc := by
  simp only [Lib.strCells]
  rfl

def WholeRel (w : World) (n : List (List UInt8)) (v i : Value) (wr : World) : Prop :=
  ∃ k : Nat, k ≤ n.length ∧ i = .int .i64 k ∧ wr.ownsRow w.heap.size 5 1 v (encN (n.take k)).length ((encN (n.take k)).map bc) ∧ Below w.heap.size w wr ∧ w.heap.size ≤ wr.heap.size

theorem encN_take_succ {n : List (List UInt8)} {k : Nat} (h : k < n.length) : encN (n.take (k + 1)) = encN (n.take k) ++ (UInt8.ofNat (n[k]).length :: n[k]) := by
  rw [List.take_succ_eq_append_getElem h, encN_snoc]
theorem length_encN_take (n : List (List UInt8)) (k : Nat) : (encN (n.take k)).length < szN n := by
  have h1 := length_encN (n.take k)
  have h2 := szN_take_le n k
  omega

set_option maxHeartbeats 2000000 in
theorem whole_any (A : Option Addr) (m c H : Nat) (n : List (List UInt8)) (w : World) (hl : n.length = m) (hA : Row w H A (n.map sv)) (hH : H ≤ w.heap.size) (hf : n.all fitL = true) (hs : szN n ≤ 255) :
    Calls Try.prog 44 #[.slice A m c] w (Gave w (.string ⟨(encN n).toArray⟩)) := by
  subst hl
  obtain ⟨i0, hi0, hz0, hz1, hz2⟩ := info_parts u8_info
  have hnl := length_lt_szN n
  have HA := Lib.hid hA
  have HF := Lib.hid hf
  clear hA hf
  go_enter Try.func44, Try.ntmps44
  go_wp2
  go_loopw [3, 8] (WholeRel w n) (fun _ i _ => n.length - (intOf i).toNat)
  case atStart => exact ⟨0, Nat.zero_le _, rfl, World.ownsRow_nil _ _ _ _, Below.refl _ _, Nat.le_refl _⟩
  case round =>
    obtain ⟨k, hk, rfl, hown, hbw, hz⟩ := hrel
    obtain ⟨A1, c1, rfl, _, _⟩ := own_form hown
    have htl := length_encN_take n k
    by_cases hlt : k < n.length
    · obtain ⟨b, off, rfl, hb, hc⟩ := (HA.out.mono hH |>.below hbw).name_at hlt
      obtain ⟨l, hl⟩ : ∃ l, n[k] = l := ⟨_, rfl⟩
      have hfl : 1 ≤ l.length ∧ l.length ≤ 63 := by
        have h := List.all_eq_true.1 HF.out _ (List.getElem_mem hlt)
        rw [hl] at h
        exact fitL_iff.1 h
      have hen := encN_take_succ hlt
      rw [hl] at hc hen
      obtain ⟨e, he⟩ : ∃ e, e = encN (n.take k) := ⟨_, rfl⟩
      rw [← he] at hown hen htl ⊢
      obtain ⟨hf1, hf2⟩ := hfl
      have hwr : IntKind.u8.wrap (l.length : Int) = (l.length : Int) := by rw [IntKind.wrap_u8]; omega
      have HE := Lib.hid hen
      have HO := Lib.hid hown
      have HB := Lib.hid hbw
      have HR1 := Lib.hid (Row.made wr #[.int .u8 (l.length : Int)] 5)
      have HBC := Lib.hid (show bc (UInt8.ofNat l.length) = .int .u8 (l.length : Int) by unfold bc; rw [UInt8.toNat_ofNat', Nat.mod_eq_of_lt (by omega)])
      clear hown hbw hen he hl
      go_wp2_with (first
        | (at_builtin
           refine wpList_append_row rfl (.tmp 12) (.tmp 16) _ rfl w.heap.size 5 i0 _ 1 1 Try.underlying22 hi0 hz0 hz1 hz2 rfl (by omega) (.slice A1 e.length c1) e.length _ rfl (HO.out.alloc _)
             (some ⟨wr.heap.size, 0, none⟩) 1 1 (wr.heap.size + 1) [.int .u8 (l.length : Int)] rfl rfl HR1.out (by simp [Value.oneCell']) (by unfold maxLen; omega) (by omega) (by simp; omega) ?_
           intro v2 w2 hown2 hg2
           obtain ⟨A2, c2, rfl, _, _⟩ := own_form hown2
           have HO2 := Lib.hid hown2
           have hz2' : w.heap.size ≤ w2.heap.size := by have := hg2.size; simp at this; omega
           have HB2 := Lib.hid (own_below (HB.out.alloc hz (.cells #[.int .u8 (l.length : Int)] 5)) (Nat.le_refl _) (by simp; omega) (HO.out.alloc _) hg2)
           clear hown2 hg2)
        | (at_builtin
           refine Lib.wpList_append_own_string _ rfl (.tmp 18) (.tmp 19) _ _ rfl w.heap.size 5 i0 Try.underlying22 Try.underlying9 hi0 hz0 hz1 hz2 (.slice A2 (e.length + 1) c2) (e.length + 1) _ rfl HO2.out ⟨l.toArray⟩ rfl
             (by simp [ByteArray.size]; unfold maxLen; omega) (by simp [ByteArray.size]; omega) hz2' ?_
           intro v3 w3 hown3 hg3 _
           rw [strCells_list] at hown3
           have HO3 := Lib.hid hown3
           have HB3 := Lib.hid (own_below HB2.out (Nat.le_refl _) hz2' HO2.out hg3)
           have hz3 : w.heap.size ≤ w3.heap.size := Nat.le_trans hz2' hg3.size
           clear hown3 hg3))
      refine ⟨⟨k + 1, by omega, by go_num, ?_, HB3.out, hz3⟩, by simp [intOf]; omega⟩
      rw [HE.out]
      have h := HO3.out
      rw [← HBC.out] at h
      simpa [ByteArray.size, Nat.add_assoc, Nat.add_comm 1] using h
    · obtain rfl : k = n.length := by omega
      rw [List.take_length] at *
      have hcv := convert_row_run (P := Try.prog) wr 22 9 5 Try.underlying22 Try.underlying5 Try.underlying9 A1 (encN n).length c1 wr.heap.size (encN n) rfl (Row.of_own hown)
      have HB := Lib.hid hbw
      clear hown hbw
      go_wp2
      go_ret
      exact ⟨rfl, HB.out⟩

end Go.Proofs.Ytjjmllbkfbdcnaa
