/-
  The contract of num.Get.
-/
import Derived.Test.YthjcpficpiddaaaDoorProg
import Derived.Test.YthjcpficpiddaaaDoorPlain
import Derived.Test.YthjcpficpiddaaaDoorWords
import Derived.Test.YthjcpficpiddaaaDoorFits
namespace Go.Proofs.YthjcpficpiddaaaDoor
open Go.RowKit

def Gets (w : World) (r : Int × Int) (e : Ending) (w' : World) : Prop := e = .returned (.tuple #[.int .i64 r.1, .int .i64 r.2]) ∧ w = w'
def GetRel (l : List UInt8) (a s : Nat) (n i : Value) : Prop := ∃ k : Nat, k ≤ s ∧ i = .int .i64 k ∧ n = .int .i64 (numN (cutL l a k))

theorem getL_size {l : List UInt8} {a s : Int} (h : ¬ (1 ≤ s ∧ s ≤ 7)) : getL l a s = (0, 1) := by unfold getL; rw [szB_false h, if_pos (.inl rfl)]
theorem getL_neg {l : List UInt8} {a s : Int} (h : a < 0) : getL l a s = (0, 1) := by unfold getL; rw [if_pos (.inr h)]
theorem getL_short {l : List UInt8} {a s : Int} (h1 : 1 ≤ s) (h2 : s ≤ 7) (h3 : 0 ≤ a) (h : (l.length : Int) < a + s) : getL l a s = (0, 3) := by
  unfold getL; rw [szB_true ⟨h1, h2⟩, if_neg (by simp; omega), if_pos h]
theorem getL_ok {l : List UInt8} {a s : Nat} (h1 : 1 ≤ s) (h2 : s ≤ 7) (h : a + s ≤ l.length) : getL l a s = ((numN (cutL l a s) : Int), (0 : Int)) := by
  unfold getL; rw [szB_true ⟨by omega, by omega⟩, if_neg (by simp), if_neg (by omega)]; simp

set_option maxHeartbeats 400000 in
theorem get_ok (A : Option Addr) (n c H : Nat) (l : List UInt8) (a s : Nat) (w : World) (hl : l.length = n) (hA : Row w H A (l.map bc)) (hm : n ≤ maxLen) (hc : n ≤ c) (h1 : 1 ≤ s) (h2 : s ≤ 7) (h3 : a + s ≤ n) :
    Calls Tryd.prog 34 #[.slice A n c, .int .i64 a, .int .i64 s] w (Gets w (getL l a s)) := by
  rw [getL_ok h1 h2 (by omega)]
  unfold maxLen at hm
  obtain ⟨b, off, rfl, _, hcell⟩ := hA.some_ (by rw [List.length_map]; omega)
  have d3 : decide ((a : Int) < 0) = false := by simp
  have d4 : decide ((n : Int) - (s : Int) < (a : Int)) = false := by simp; omega
  have HL := Lib.hid hl
  have HC := Lib.hid hcell
  clear hl hcell hA
  go_enter Tryd.func34, Tryd.ntmps34
  go_wp2_with (go_at_call 31; refine (sized_yes _ _ (by omega) (by omega)).mono ?_; rintro e w' ⟨rfl, rfl⟩)
  go_loop [8, 31] (GetRel l a s) (fun _ i => s - (intOf i).toNat)
  case atStart => exact ⟨0, by omega, rfl, rfl⟩
  case round =>
    obtain ⟨k, hk, rfl, rfl⟩ := hrel
    by_cases hlt : k < s
    · have hb : a + k < l.length := by rw [HL.out]; omega
      have hcel : w.cell? ⟨b, off + a + k, none⟩ = some (.int .u8 (l[a + k]).toNat) := by
        rw [Nat.add_assoc, HC.out (a + k) (bc l[a + k]) (by rw [List.getElem?_map, List.getElem?_eq_getElem hb]; rfl)]; rfl
      have hsn := cutL_succ hb
      have HS := Lib.hid hsn
      have hq := numN_le48 (cutL l a k) (by rw [length_cutL (by omega)]; omega)
      have hx := (l[a + k]).toNat_lt
      clear hsn
      go_wp2
      refine ⟨⟨k + 1, by omega, by go_num, ?_⟩, by simp [intOf]; omega⟩
      rw [HS.out, numN_snoc, or_byte _ _ hq hx]
    · obtain rfl : k = s := by omega
      go_wp2
      go_ret2
      exact ⟨rfl, rfl⟩

set_option maxHeartbeats 400000 in
theorem get_short (A : Option Addr) (n c : Nat) (a s : Int) (w : World) (hm : n ≤ maxLen) (h1 : 1 ≤ s) (h2 : s ≤ 7) (h0 : 0 ≤ a) (h3 : (n : Int) < a + s) :
    Calls Tryd.prog 34 #[.slice A n c, .int .i64 a, .int .i64 s] w (Gets w (0, 3)) := by
  unfold maxLen at hm
  have d3 : decide (a < 0) = false := by simp; omega
  have d4 : decide ((n : Int) - s < a) = true := by simp; omega
  go_enter Tryd.func34, Tryd.ntmps34
  go_wp2_with (go_at_call 31; refine (sized_yes _ _ h1 h2).mono ?_; rintro e w' ⟨rfl, rfl⟩)
  go_ret2
  exact ⟨rfl, rfl⟩

set_option maxHeartbeats 400000 in
theorem get_arg (A : Option Addr) (n c : Nat) (a s : Int) (w : World) (h : ¬ (1 ≤ s ∧ s ≤ 7) ∨ a < 0) :
    Calls Tryd.prog 34 #[.slice A n c, .int .i64 a, .int .i64 s] w (Gets w (0, 1)) := by
  by_cases hs : 1 ≤ s ∧ s ≤ 7
  · obtain ⟨h1, h2⟩ := hs
    have h0 : a < 0 := by omega
    have d3 : decide (a < 0) = true := by simp; omega
    clear h
    go_enter Tryd.func34, Tryd.ntmps34
    go_wp2_with (go_at_call 31; refine (sized_yes _ _ h1 h2).mono ?_; rintro e w' ⟨rfl, rfl⟩)
    go_ret2
    exact ⟨rfl, rfl⟩
  · have hs' : s < 1 ∨ 7 < s := by omega
    clear h
    go_enter Tryd.func34, Tryd.ntmps34
    go_wp2_with (go_at_call 31; refine (sized_no _ _ hs').mono ?_; rintro e w' ⟨rfl, rfl⟩)
    go_ret2
    exact ⟨rfl, rfl⟩

theorem get_any (A : Option Addr) (n c H : Nat) (l : List UInt8) (a s : Int) (w : World) (hl : l.length = n) (hA : Row w H A (l.map bc)) (hm : n ≤ maxLen) (hc : n ≤ c) :
    Calls Tryd.prog 34 #[.slice A n c, .int .i64 a, .int .i64 s] w (Gets w (getL l a s)) := by
  by_cases hs : 1 ≤ s ∧ s ≤ 7
  · obtain ⟨h1, h2⟩ := hs
    by_cases h0 : a < 0
    · rw [getL_neg h0]
      exact get_arg A n c a s w (.inr h0)
    · by_cases h3 : (n : Int) < a + s
      · rw [getL_short h1 h2 (by omega) (by rw [hl]; exact h3)]
        exact get_short A n c a s w hm h1 h2 (by omega) h3
      · obtain ⟨a', rfl⟩ : ∃ m : Nat, a = m := ⟨a.toNat, by omega⟩
        obtain ⟨s', rfl⟩ : ∃ m : Nat, s = m := ⟨s.toNat, by omega⟩
        exact get_ok A n c H l a' s' w hl hA hm hc (by omega) (by omega) (by omega)
  · rw [getL_size hs]
    exact get_arg A n c a s w (.inl hs)

end Go.Proofs.YthjcpficpiddaaaDoor
