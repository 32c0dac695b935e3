/-
  The contract of Write, whatever it is given.
-/
import Derived.Test.YthjcpficpiddaaaDoorVWrite
namespace Go.Proofs.YthjcpficpiddaaaDoor
open Go.RowKit

section
variable (w : World) (base : Nat) (m : Lies) (x : Dv) (k : Int) (A : Option Addr) (c : Nat) (b : List UInt8)
set_option maxHeartbeats 400000 in
theorem write_down (h : DevAt w base m x) (hd : x.down = true) (n : Nat) : Calls Tryd.prog 18 #[.pointer (some ⟨m.d, 0, none⟩), .int .i64 k, .slice A n c] w (Told w (.int .i64 8)) := by
  have r1 := ready_core w m.d m _ _ _ h.blk
  rw [if_pos hd] at r1
  have HR := Lib.hid r1
  clear r1 h hd
  go_enter Tryd.func18, Tryd.ntmps18
  go_wp2_with fail
  refine HR.out.mono ?_
  rintro e w' ⟨rfl, rfl⟩
  go_wp2
  go_ret
  exact ⟨rfl, rfl⟩
set_option maxHeartbeats 400000 in
theorem write_arg (h : DevAt w base m x) (hd : ¬ x.down = true) (n : Nat) (hn : (n : Int) ≤ 9223372036854775807) (hb : x.has k = false ∨ 512 < n) : Calls Tryd.prog 18 #[.pointer (some ⟨m.d, 0, none⟩), .int .i64 k, .slice A n c] w (Told w (.int .i64 1)) := by
  have r1 := ready_core w m.d m _ _ _ h.blk
  rw [if_neg hd] at r1
  have r2 := has_core w m.d m _ _ _ h.blk k
  have HR := Lib.hid r1
  cases hh : x.has k with
  | false =>
    have e : decide (0 ≤ k ∧ k < (x.sure.length : Int)) = false := hh
    rw [e] at r2
    have HH := Lib.hid r2
    clear r1 r2 h hd hb hh e
    go_enter Tryd.func18, Tryd.ntmps18
    go_wp2_with fail
    refine HR.out.mono ?_
    rintro e w' ⟨rfl, rfl⟩
    go_wp2_with fail
    refine HH.out.mono ?_
    rintro e w' ⟨rfl, rfl⟩
    go_wp2
    go_ret
    exact ⟨rfl, rfl⟩
  | true =>
    have e : decide (0 ≤ k ∧ k < (x.sure.length : Int)) = true := hh
    rw [e] at r2
    have HH := Lib.hid r2
    have d1 : decide (512 < (n : Int)) = true := by
      rcases hb with hb | hb
      · rw [hh] at hb; cases hb
      · simp; omega
    clear r1 r2 h hd hb hh e
    go_enter Tryd.func18, Tryd.ntmps18
    go_wp2_with fail
    refine HR.out.mono ?_
    rintro e w' ⟨rfl, rfl⟩
    go_wp2_with fail
    refine HH.out.mono ?_
    rintro e w' ⟨rfl, rfl⟩
    go_wp2
    go_ret
    exact ⟨rfl, rfl⟩
set_option maxHeartbeats 400000 in
theorem write_last (h : DevAt w base m x) (hd : ¬ x.down = true) (n : Nat) (hh : x.has k = true) (hn : n ≤ 512) (hl : x.limit = 1) : Calls Tryd.prog 18 #[.pointer (some ⟨m.d, 0, none⟩), .int .i64 k, .slice A n c] w
    (fun e w' => e = .returned (.int .i64 8) ∧ w' = (w.setCell ⟨m.d, 3, none⟩ (.int .i64 ((x.limit - 1 : Nat) : Int))).setCell ⟨m.d, 4, none⟩ (.bool (decide (x.limit = 1)))) := by
  have r1 := ready_core w m.d m _ _ _ h.blk
  rw [if_neg hd] at r1
  have r2 := has_core w m.d m _ _ _ h.blk k
  have e : decide (0 ≤ k ∧ k < (x.sure.length : Int)) = true := hh
  rw [e] at r2
  have r3 := lasts_some w m.d m _ _ _ h.blk (by omega) h.ok.lim
  rw [show decide (x.limit ≠ 1) = false by simp [hl]] at r3
  have HR := Lib.hid r1
  have HH := Lib.hid r2
  have HL := Lib.hid r3
  have d0 : decide (512 < (n : Int)) = false := by simp; omega
  clear r1 r2 r3 h hd hh hl e
  go_enter Tryd.func18, Tryd.ntmps18
  go_wp2_with fail
  refine HR.out.mono ?_
  rintro e w' ⟨rfl, rfl⟩
  go_wp2_with fail
  refine HH.out.mono ?_
  rintro e w' ⟨rfl, rfl⟩
  go_wp2_with fail
  refine HL.out.mono ?_
  rintro e w' ⟨rfl, rfl⟩
  go_wp2
  go_ret
  exact ⟨rfl, rfl⟩
end
theorem SrcAt.keep {w w' : World} {m : Lies} {A : Option Addr} {b : List UInt8} (h : SrcAt w m A b) (hg : Grew (fun j => j = m.d) w w') : SrcAt w' m A b := fun hb => by
  obtain ⟨g, off, e, h1, h2, h3⟩ := h hb
  refine ⟨g, off, e, Nat.lt_of_lt_of_le h1 hg.size, h2, fun j u hu => ?_⟩
  rw [← h3 j u hu]
  exact World.cell?_of_block (hg.block g h1 h2)
theorem went_of {base : Nat} {w w1 w' : World} {m : Lies} {x : Dv} (hg : Grew (fun j => j = m.d) w w1) (_ : w1.heap.size = w.heap.size) (h : Went base w1 m x w') : Went base w m x w' :=
  Went.then rfl (hg.mono fun _ h => .inl (.inl h)) (fun _ h => .inl h) h
theorem dev_write (w : World) (base : Nat) (m : Lies) (x : Dv) (h : DevAt w base m x) (k : Int) (A : Option Addr) (c : Nat) (b : List UInt8) (hl : b.length ≤ 9223372036854775807) (hs : SrcAt w m A b) (hu : x.uns.length < 4294967296) :
    Calls Tryd.prog 18 #[.pointer (some ⟨m.d, 0, none⟩), .int .i64 k, .slice A b.length c] w (WriteOut base w m (x.write k b) (x.writeE k b)) := by
  by_cases hd : x.down = true
  · have e1 : x.write k b = x := by unfold Dv.write; rw [if_pos (.inl hd)]
    have e2 : x.writeE k b = 8 := by unfold Dv.writeE; rw [if_pos hd]
    rw [e1, e2]
    refine (write_down w base m x k A c h hd _).mono ?_
    rintro e w' ⟨rfl, rfl⟩
    exact ⟨rfl, Went.refl h⟩
  by_cases hb : x.has k = false ∨ 512 < b.length
  · have e1 : x.write k b = x := by unfold Dv.write; rw [if_pos (.inr hb)]
    have e2 : x.writeE k b = 1 := by unfold Dv.writeE; rw [if_neg hd, if_pos hb]
    rw [e1, e2]
    refine (write_arg w base m x k A c h hd _ (by omega) hb).mono ?_
    rintro e w' ⟨rfl, rfl⟩
    exact ⟨rfl, Went.refl h⟩
  have hh : x.has k = true := by
    cases e : x.has k with
    | true => rfl
    | false => exact absurd (.inl e) hb
  have hn : b.length ≤ 512 := by
    apply Classical.byContradiction
    intro hc
    exact hb (.inr (by omega))
  have hdf : x.down = false := by simpa using hd
  by_cases hl1 : x.limit = 1
  · have hlast : x.lasts = false := by simp [Dv.lasts, hl1]
    have e1 : x.write k b = x.spent := by unfold Dv.write; rw [if_neg (by simp [hd, hh]; omega), if_pos hlast]
    have e2 : x.writeE k b = 8 := by unfold Dv.writeE; rw [if_neg hd, if_neg hb, if_pos hlast]
    rw [e1, e2]
    refine (write_last w base m x k A c h hd _ hh hn hl1).mono ?_
    rintro e w' ⟨rfl, rfl⟩
    exact ⟨rfl, went_of (grew_two w m.d 3 4 _ _) (by simp) (Went.refl (h.spent (by omega) hdf))⟩
  have hlast : x.lasts = true := by simp [Dv.lasts, hl1]
  have e1 : x.write k b = { x.spent with uns := x.spent.uns ++ [⟨k.toNat, padB b⟩] } := by
    unfold Dv.write
    rw [if_neg (by simp [hd, hh]; omega), if_neg (by rw [hlast]; decide), spent_uns]
  have e2 : x.writeE k b = 0 := by unfold Dv.writeE; rw [if_neg hd, if_neg hb, if_neg (by rw [hlast]; decide)]
  rw [e1, e2]
  have hk : 0 ≤ k ∧ k < (x.sure.length : Int) := by simpa [Dv.has] using hh
  obtain ⟨i, rfl⟩ : ∃ i : Nat, k = i := ⟨k.toNat, by omega⟩
  have r1 := ready_core w m.d m _ _ _ h.blk
  rw [if_neg hd] at r1
  have r2 := has_core w m.d m _ _ _ h.blk (i : Int)
  rw [decide_eq_true hk] at r2
  by_cases hl0 : x.limit = 0
  · have es : x.spent = x := by unfold Dv.spent; rw [if_pos hl0]
    rw [es]
    refine (write_full w w base m x h i c A b (by omega) hn hs hu r1 r2 ((lasts_zero w m.d m _ _ _ h.blk hl0).mono ?_)).mono ?_
    · rintro e w' ⟨rfl, rfl⟩; exact ⟨rfl, rfl⟩
    · rintro e w' hw; exact hw
  · have hsp := h.spent hl0 hdf
    have r3 := lasts_some w m.d m _ _ _ h.blk hl0 h.ok.lim
    rw [show decide (x.limit ≠ 1) = true by simp [hl1]] at r3
    refine (write_full w _ base m x.spent hsp i c A b (by rw [spent_sure]; omega) hn (hs.keep (grew_two w m.d 3 4 _ _)) (by rw [spent_uns]; exact hu) r1 r2 r3).mono ?_
    rintro e w' ⟨he, hw⟩
    exact ⟨he, went_of (grew_two w m.d 3 4 _ _) (by simp) hw⟩

end Go.Proofs.YthjcpficpiddaaaDoor
