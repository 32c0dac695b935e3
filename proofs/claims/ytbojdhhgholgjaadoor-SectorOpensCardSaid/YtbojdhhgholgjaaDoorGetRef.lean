/-
  The contract of the document's Get of a number.
-/
import Derived.Test.YtbojdhhgholgjaaDoorGet
namespace Go.Proofs.YtbojdhhgholgjaaDoor
open Go.RowKit

set_option maxHeartbeats 400000 in
theorem ref_get_ok (A : Option Addr) (n c H : Nat) (l : List UInt8) (a s : Nat) (w : World) (hl : l.length = n) (hA : Row w H A (l.map bc)) (hm : n ≤ maxLen) (h1 : 1 ≤ s) (h2 : s ≤ 7) (h3 : a + s ≤ n) :
    Calls Tryd.prog 20 #[.slice A n c, .int .i64 a, .int .i64 s] w (Gets w (getL l a s)) := by
  rw [getL_ok h1 h2 (by omega)]
  unfold maxLen at hm
  obtain ⟨b, off, rfl, _, hcell⟩ := hA.some_ (by rw [List.length_map]; omega)
  have d1 : decide ((s : Int) < 1) = false := by simp; omega
  have d2 : decide (7 < (s : Int)) = false := by simp; omega
  have d3 : decide ((a : Int) < 0) = false := by simp
  have d4 : decide (n < a) = false := by simp; omega
  have d5 : decide ((n : Int) - (a : Int) < (s : Int)) = false := by simp; omega
  have HL := Lib.hid hl
  have HC := Lib.hid hcell
  clear hl hcell hA
  go_enter Tryd.func20, Tryd.ntmps20
  go_wp2
  go_loop [8, 9] (GetRel l a s) (fun _ i => s - (intOf i).toNat)
  case atStart => exact ⟨0, by omega, rfl, rfl⟩
  case round =>
    obtain ⟨k, hk, rfl, rfl⟩ := hrel
    by_cases hlt : k < s
    · have hb : a + k < l.length := by rw [HL.out]; omega
      have hcel : w.cell? ⟨b, off + (a + k), none⟩ = some (.int .u8 (l[a + k]).toNat) := by
        rw [HC.out (a + k) (bc l[a + k]) (by rw [List.getElem?_map, List.getElem?_eq_getElem hb]; rfl)]; rfl
      have hsn := cutL_succ hb
      have HS := Lib.hid hsn
      have hq := numN_le48 (cutL l a k) (by rw [length_cutL (by omega)]; omega)
      have hx := (l[a + k]).toNat_lt
      clear hsn
      go_wp2
      refine ⟨⟨k + 1, by omega, by go_num, ?_⟩, by simp [intOf]; omega⟩
      rw [HS.out, numN_snoc]
      go_num
    · obtain rfl : k = s := by omega
      go_wp2
      go_ret2
      exact ⟨rfl, rfl⟩

set_option maxHeartbeats 400000 in
theorem ref_get_short (A : Option Addr) (n c : Nat) (a s : Int) (w : World) (h1 : 1 ≤ s) (h2 : s ≤ 7) (h0 : 0 ≤ a) (h3 : (n : Int) < a + s) :
    Calls Tryd.prog 20 #[.slice A n c, .int .i64 a, .int .i64 s] w (Gets w (0, 3)) := by
  have d1 : decide (s < 1) = false := by simp; omega
  have d2 : decide (7 < s) = false := by simp; omega
  have d3 : decide (a < 0) = false := by simp; omega
  by_cases h4 : (n : Int) < a
  · have d4 : decide ((n : Int) < a) = true := by simp; omega
    go_enter Tryd.func20, Tryd.ntmps20
    go_wp2
    go_ret2
    exact ⟨rfl, rfl⟩
  · have d4 : decide ((n : Int) < a) = false := by simp; omega
    have d5 : decide ((n : Int) - a < s) = true := by simp; omega
    go_enter Tryd.func20, Tryd.ntmps20
    go_wp2
    go_ret2
    exact ⟨rfl, rfl⟩

set_option maxHeartbeats 400000 in
theorem ref_get_arg (A : Option Addr) (n c : Nat) (a s : Int) (w : World) (h : s < 1 ∨ 7 < s ∨ a < 0) :
    Calls Tryd.prog 20 #[.slice A n c, .int .i64 a, .int .i64 s] w (Gets w (0, 1)) := by
  by_cases e1 : s < 1
  · have d1 : decide (s < 1) = true := by simp; omega
    clear h
    go_enter Tryd.func20, Tryd.ntmps20
    go_wp2
    go_ret2
    exact ⟨rfl, rfl⟩
  · have d1 : decide (s < 1) = false := by simp; omega
    by_cases e2 : 7 < s
    · have d2 : decide (7 < s) = true := by simp; omega
      clear h
      go_enter Tryd.func20, Tryd.ntmps20
      go_wp2
      go_ret2
      exact ⟨rfl, rfl⟩
    · have d2 : decide (7 < s) = false := by simp; omega
      have d3 : decide (a < 0) = true := by simp; omega
      clear h
      go_enter Tryd.func20, Tryd.ntmps20
      go_wp2
      go_ret2
      exact ⟨rfl, rfl⟩

theorem ref_get_any (A : Option Addr) (n c H : Nat) (l : List UInt8) (a s : Int) (w : World) (hl : l.length = n) (hA : Row w H A (l.map bc)) (hm : n ≤ maxLen) :
    Calls Tryd.prog 20 #[.slice A n c, .int .i64 a, .int .i64 s] w (Gets w (getL l a s)) := by
  by_cases hs : 1 ≤ s ∧ s ≤ 7
  · obtain ⟨h1, h2⟩ := hs
    by_cases h0 : a < 0
    · rw [getL_neg h0]
      exact ref_get_arg A n c a s w (.inr (.inr h0))
    · by_cases h3 : (n : Int) < a + s
      · rw [getL_short h1 h2 (by omega) (by rw [hl]; exact h3)]
        exact ref_get_short A n c a s w h1 h2 (by omega) h3
      · obtain ⟨a', rfl⟩ : ∃ m : Nat, a = m := ⟨a.toNat, by omega⟩
        obtain ⟨s', rfl⟩ : ∃ m : Nat, s = m := ⟨s.toNat, by omega⟩
        exact ref_get_ok A n c H l a' s' w hl hA hm (by omega) (by omega) (by omega)
  · rw [getL_size hs]
    exact ref_get_arg A n c a s w (by omega)

end Go.Proofs.YtbojdhhgholgjaaDoor
