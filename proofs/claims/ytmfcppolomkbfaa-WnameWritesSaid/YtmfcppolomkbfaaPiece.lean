/-
  The contract of 'light' of the statements of layer 3.
-/
import Derived.Test.YtmfcppolomkbfaaEndP
import Derived.Test.YtmfcppolomkbfaaSound
namespace Go.Proofs.Ytmfcppolomkbfaa
open Go.RowKit

def Pc.light (p : Pc) : Bool := decide (p.name.length ≤ 200) && decide (p.raw.length ≤ 20000) && p.name.all (fun l => decide (l.length ≤ 300))

def LightRelP (n : List (List UInt8)) (i : Value) : Prop :=
  ∃ k : Nat, k ≤ n.length ∧ i = .int .i64 k ∧ (n.take k).all (fun l => decide (l.length ≤ 300)) = true

set_option maxHeartbeats 400000 in
theorem pc_light (H : Nat) (cs : List Value) (p : Pc) (w : World) (hH : H ≤ w.heap.size) (hp : PieceOf w H cs p) :
    Calls Try.prog 11 #[.agg cs.toArray] w (Gave w (.bool p.light)) := by
  obtain ⟨n, bs, l, z3, z4, z5⟩ := p
  obtain ⟨An, cn, Ar, cr, rfl, hA, hn1, hn2, hs, hR, hl, w3, w4, w5⟩ := hp
  dsimp only at *
  unfold maxLen at hs hn2 hl
  have HA := Lib.hid hA
  have HS := Lib.hid hs
  clear hA hs hR w3 w4 w5
  go_enter Try.func11, Try.ntmps11
  by_cases e1 : n.length ≤ 200
  · have d1 : decide (200 < (n.length : Int)) = false := by simp; omega
    by_cases e2 : l.length ≤ 20000
    · have d2 : decide (20000 < (l.length : Int)) = false := by simp; omega
      have HB := Lib.hid (((Below.refl w.heap.size w)).alloc (Nat.le_refl _) (.cells #[.slice An n.length cn, .bool bs, .slice Ar l.length cr, .int .i64 z3, .int .i64 z4, .int .i64 z5] 33))
      have HA2 := Lib.hid (HA.out.alloc hH (.cells #[.slice An n.length cn, .bool bs, .slice Ar l.length cr, .int .i64 z3, .int .i64 z4, .int .i64 z5] 33))
      go_wp2
      go_loop [3] (LightRelP n) (fun i => n.length - (intOf i).toNat)
      case atStart => exact ⟨0, Nat.zero_le _, rfl, by simp⟩
      case round =>
        obtain ⟨k, hk, rfl, hall⟩ := hrel
        have HK := Lib.hid hall
        clear hall
        by_cases hlt : k < n.length
        · obtain ⟨b, off, rfl, hbH, hc⟩ := HA2.out.name_at hlt
          have hle := HS.out k hlt
          by_cases e3 : (n[k]).length ≤ 300
          · have d3 : decide (300 < ((n[k]).length : Int)) = false := by simp; omega
            have HF := Lib.hid (all_snoc (fun l => decide (l.length ≤ 300)) hlt HK.out (by simp; omega))
            go_wp2
            exact ⟨⟨k + 1, by omega, by go_num, HF.out⟩, by simp [intOf]; omega⟩
          · have d3 : decide (300 < ((n[k]).length : Int)) = true := by simp; omega
            have HF := Lib.hid (all_not (fun l => decide (l.length ≤ 300)) hlt (by simp; omega))
            go_wp2
            go_ret
            exact ⟨ret_bool (by simp [Pc.light, HF.out]), HB.out⟩
        · obtain rfl : k = n.length := by omega
          go_wp2
          go_ret
          refine ⟨ret_bool ?_, HB.out⟩
          have h := HK.out
          rw [List.take_length] at h
          simp [Pc.light, h, e1, e2]
    · have d2 : decide (20000 < (l.length : Int)) = true := by simp; omega
      go_wp2
      go_ret
      exact ⟨ret_bool (by simp [Pc.light, e2]), Below.alloc (Below.refl w.heap.size w) (Nat.le_refl _) _⟩
  · have d1 : decide (200 < (n.length : Int)) = true := by simp; omega
    go_wp2
    go_ret
    exact ⟨ret_bool (by simp [Pc.light, e1]), Below.alloc (Below.refl w.heap.size w) (Nat.le_refl _) _⟩

end Go.Proofs.Ytmfcppolomkbfaa
