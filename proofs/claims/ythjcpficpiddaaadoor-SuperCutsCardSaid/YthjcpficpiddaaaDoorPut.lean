/-
  The contract of num.Put.
-/
import Derived.Test.YthjcpficpiddaaaDoorProg
import Derived.Test.YthjcpficpiddaaaDoorPlain
import Derived.Test.YthjcpficpiddaaaDoorWords
import Derived.Test.YthjcpficpiddaaaDoorFits
import Derived.Test.YthjcpficpiddaaaDoorOwn
namespace Go.Proofs.YthjcpficpiddaaaDoor
open Go.RowKit

set_option maxHeartbeats 400000 in
theorem put_no (A : Option Addr) (k c H : Nat) (l : List UInt8) (n s : Int) (w : World) (hl : l.length = k) (hA : Row w H A (l.map bc)) (hb : k ≤ 140737488355328) (hf : fitB n s = false) :
    Calls Tryd.prog 27 #[.slice A k c, .int .i64 n, .int .i64 s] w (Owned w l) := by
  have hf2 := fun W => fits_any n s W
  rw [hf] at hf2
  obtain ⟨i0, hi0, hz0, hz1, hz2⟩ := info_parts u8_info
  have HF := Lib.hid hf2
  have HL := Lib.hid hl
  have HA := Lib.hid hA
  clear hf hf2 hl hA
  go_enter Tryd.func27, Tryd.ntmps27
  go_wp2_with (first
    | (go_at_call 23; refine (HF.out _).mono ?_; rintro e w' ⟨rfl, rfl⟩)
    | (at_builtin
       refine wpList_append_row rfl (.const (.slice none 0 0)) (.tmp 13) _ rfl w.heap.size 5 i0 _ 1 1 Tryd.underlying45 hi0 hz0 hz1 hz2 rfl (by omega) (.slice none 0 0) 0 [] rfl
         (World.ownsRow_nil _ _ _ _) A k c H (l.map bc) rfl (by rw [List.length_map, HL.out]; omega) HA.out (bc_one l) (by unfold maxLen; omega) (by omega) (Nat.le_refl _) ?_
       intro v1 w1 hown1 hg1))
  go_ret
  obtain ⟨A', c', rfl, _, _⟩ := own_form hown1
  have hL := HL.out
  subst hL
  rw [Nat.zero_add] at *
  exact ⟨A', c', rfl, by simpa using hown1, own_below (Below.refl _ _) (Nat.le_refl _) (Nat.le_refl _) (World.ownsRow_nil _ w.heap.size 5 1) hg1⟩

def PutRel (B : Nat) (w : World) (l : List UInt8) (n s : Nat) (v i : Value) (wr : World) : Prop :=
  ∃ k : Nat, k ≤ s ∧ i = .int .i64 ((s : Int) - 1 - k) ∧ wr.ownsRow B 5 1 v (l.length + k) ((l ++ (digs n s).take k).map bc) ∧ Below B w wr ∧ B ≤ wr.heap.size

set_option maxRecDepth 4000 in
set_option maxHeartbeats 400000 in
theorem put_yes (A : Option Addr) (m c H : Nat) (l : List UInt8) (n s : Nat) (w : World) (hl : l.length = m) (hA : Row w H A (l.map bc)) (hH : H ≤ w.heap.size) (hb : m ≤ 140737488355000) (hf : fitB n s = true) :
    Calls Tryd.prog 27 #[.slice A m c, .int .i64 n, .int .i64 s] w (Owned w (l ++ digs n s)) := by
  obtain ⟨h1, h2, h3, h4⟩ : (1 : Int) ≤ s ∧ (s : Int) ≤ 7 ∧ (0 : Int) ≤ n ∧ (n : Int) < 2 ^ (8 * (s : Int).toNat) := by simpa [fitB] using hf
  have hf2 := fun W => fits_any n s W
  rw [hf] at hf2
  obtain ⟨i0, hi0, hz0, hz1, hz2⟩ := info_parts u8_info
  have HF := Lib.hid hf2
  have HL := Lib.hid hl
  have HA := Lib.hid hA
  have H4 := Lib.hid h4
  have HH := Lib.hid hH
  clear hf hf2 hl hA h4 hH
  go_enter Tryd.func27, Tryd.ntmps27
  go_wp2_with (first
    | (go_at_call 23; refine (HF.out _).mono ?_; rintro e w' ⟨rfl, rfl⟩)
    | (refine wpList_make_zeros rfl (.tmp 16) (.tmp 20) _ rfl 5 i0 _ 1 Tryd.underlying45 hi0 hz0 hz1 hz2 rfl .i64 .i64 _ _ m (m + s) rfl rfl rfl (by omega) (by omega) (by omega) (by unfold maxLen; omega) ?_)
    | (with_reducible refine wpList_copy_splice rfl _ _ _ _ rfl 5 Tryd.underlying45 u8_size _ _ _ _ _ _ rfl rfl w.heap.size 0 (zerosL (.int .u8 0) (m + s)) 5 (heap_alloc_new w _) (l.map bc) ?c3 ?c4 ?c5 (bc_one l) w.heap.size w ?c7 (Nat.le_refl _) ?_
       case c3 => rw [List.length_map, HL.out]; exact (Nat.min_self m).symm
       case c4 => exact fun h0 => ⟨rfl, (HA.out.alloc HH.out _).pos h0⟩
       case c5 => rw [List.length_map, HL.out, length_zerosL]; omega
       case c7 => exact (Below.refl _ _).alloc (Nat.le_refl _) _
       intro w2 HG2 hB2))
  have hown : w2.ownsRow w.heap.size 5 1 (.slice (some ⟨w.heap.size, 0, none⟩) m (m + s)) (l.length + 0) ((l ++ (digs n s).take 0).map bc) := by
    rw [Nat.add_zero, HL.out]
    refine own_of_block HG2.out (Nat.le_refl _) ?_ (by omega) (by unfold maxLen; omega) ?_
    · rw [length_splice _ _ _ (by rw [List.length_map, HL.out, length_zerosL]; omega), length_zerosL]
    · simp [splice, HL.out]
  have HO := Lib.hid hown
  have hz := hB2.size
  clear hown HG2
  go_loopw [7, 8] (PutRel w.heap.size w l n s) (fun _ i _ => (intOf i + 1).toNat)
  case atStart => exact ⟨0, by omega, by simp, HO.out, hB2, hz⟩
  case round =>
    obtain ⟨k, hk, rfl, hown, hbw, hbz⟩ := hrel
    obtain ⟨A1, c1, rfl, hc1, hc2⟩ := own_form hown
    have HO1 := Lib.hid hown
    have HB1 := Lib.hid hbw
    clear hown hbw
    by_cases hlt : k < s
    · have hd : decide ((k : Int) ≤ (s : Int) - 1) = true := by simp; omega
      have hr := Row.made wr #[.int .u8 ((n : Int) / 2 ^ (8 * (s - 1 - k)) % 256)] 5
      have HR := Lib.hid hr
      clear hr
      go_wp2_with (
        at_builtin
        refine wpList_append_row rfl (.tmp 31) (.tmp 37) _ rfl w.heap.size 5 i0 _ 1 1 Tryd.underlying45 hi0 hz0 hz1 hz2 rfl (by omega) (.slice A1 (l.length + k) c1) (l.length + k) _ rfl (HO1.out.alloc _)
          (some ⟨wr.heap.size, 0, none⟩) 1 1 (wr.heap.size + 1) [.int .u8 ((n : Int) / 2 ^ (8 * (s - 1 - k)) % 256)] rfl rfl HR.out (by simp [Value.oneCell']) (by unfold maxLen; have := HL.out; omega) (by have := HL.out; omega) (by simp; omega) ?_
        intro v1 w1 hown1 hg1)
      refine ⟨⟨k + 1, by omega, by go_num, ?_, ?_, ?_⟩, ?_⟩
      · rw [← digs_cells l n s k hlt]; exact hown1
      · exact own_below (HB1.out.alloc hbz _) (Nat.le_refl _) (by simp; omega) (HO1.out.alloc _) hg1
      · have := hg1.size; simp at this; omega
      · simp [intOf]; omega
    · obtain rfl : k = s := by omega
      have hd : decide ((0 : Int) ≤ (k : Int) - 1 - k) = false := by simp; omega
      go_wp2
      go_ret
      have hL : l.length + k = (l ++ digs n k).length := by simp [length_digs]
      have hT : (digs n k).take k = digs n k := List.take_of_length_le (by rw [length_digs]; omega)
      have ho := HO1.out
      rw [hT, hL] at ho
      exact ⟨A1, c1, by rw [← hL]; rfl, ho, HB1.out⟩

theorem put_any (A : Option Addr) (m c H : Nat) (l : List UInt8) (n s : Int) (w : World) (hl : l.length = m) (hA : Row w H A (l.map bc)) (hH : H ≤ w.heap.size) (hb : m ≤ 140737488355000) :
    Calls Tryd.prog 27 #[.slice A m c, .int .i64 n, .int .i64 s] w (Owned w (putL l n s)) := by
  cases hf : fitB n s with
  | false => rw [putL_no hf]; exact put_no A m c H l n s w hl hA (by omega) hf
  | true =>
    have h := hf
    simp only [fitB, decide_eq_true_eq] at h
    obtain ⟨n', rfl⟩ : ∃ k : Nat, n = k := ⟨n.toNat, by omega⟩
    obtain ⟨s', rfl⟩ : ∃ k : Nat, s = k := ⟨s.toNat, by omega⟩
    rw [putL_yes hf]
    exact put_yes A m c H l n' s' w hl hA hH hb hf

end Go.Proofs.YthjcpficpiddaaaDoor
