/-
  The contracts of Sync and Crash.
-/
import Derived.Test.YthjcpficpiddaaaDoorVSettle
namespace Go.Proofs.YthjcpficpiddaaaDoor
open Go.RowKit

set_option maxHeartbeats 400000 in
theorem dev_sync (w : World) (base : Nat) (m : Lies) (x : Dv) (h : DevAt w base m x) (hu : x.uns.length < 4294967296) :
    Calls Tryd.prog 17 #[.pointer (some ⟨m.d, 0, none⟩)] w (WriteOut base w m x.sync x.syncE) := by
  have r1 := ready_core w m.d m _ _ _ h.blk
  by_cases hd : x.down = true
  · have e1 : x.sync = x := by unfold Dv.sync; rw [if_pos hd]
    have e2 : x.syncE = 8 := by unfold Dv.syncE; rw [if_pos (.inl hd)]
    rw [e1, e2]
    rw [if_pos hd] at r1
    have HR := Lib.hid r1
    have H := Lib.hid h
    clear r1 h hd e1 e2
    go_enter Tryd.func17, Tryd.ntmps17
    go_wp2_with fail
    refine HR.out.mono ?_
    rintro e w' ⟨rfl, rfl⟩
    go_wp2
    go_ret
    exact ⟨rfl, Went.refl H.out⟩
  rw [if_neg hd] at r1
  have HR := Lib.hid r1
  have hdf : x.down = false := by simpa using hd
  have hl := dev_lasts w base m x h hdf
  cases hlast : x.lasts with
  | false =>
    have e1 : x.sync = x.spent := by unfold Dv.sync; rw [if_neg hd, if_pos hlast]
    have e2 : x.syncE = 8 := by unfold Dv.syncE; rw [if_pos (.inr hlast)]
    rw [e1, e2]
    have hl2 : Calls Tryd.prog 29 #[.pointer (some ⟨m.d, 0, none⟩)] w (fun e w' => e = .returned (.bool false) ∧ Went base w m x.spent w') := hl.mono fun e w' ⟨h1, h2, h3, h4⟩ => ⟨by rw [h1, hlast], went_of h3 h4 (Went.refl h2)⟩
    have HL := Lib.hid hl2
    clear r1 h hd hdf hl hl2 e1 e2 hlast
    go_enter Tryd.func17, Tryd.ntmps17
    go_wp2_with fail
    refine HR.out.mono ?_
    rintro e w' ⟨rfl, rfl⟩
    go_wp2_with fail
    refine HL.out.mono ?_
    rintro e w' ⟨rfl, hw⟩
    have HW := Lib.hid hw
    clear hw
    go_wp2
    go_ret
    exact ⟨rfl, HW.out⟩
  | true =>
    have e1 : x.sync = x.spent.settled allOnes 0 := by unfold Dv.sync; rw [if_neg hd, if_neg (by rw [hlast]; decide)]
    have e2 : x.syncE = 0 := by unfold Dv.syncE; rw [if_neg (by rw [hlast]; simp [hd])]
    rw [e1, e2]
    have hl2 : Calls Tryd.prog 29 #[.pointer (some ⟨m.d, 0, none⟩)] w (fun e w' => e = .returned (.bool true) ∧ DevAt w' base m x.spent ∧ Grew (fun j => j = m.d) w w' ∧ w'.heap.size = w.heap.size) := hl.mono fun e w' ⟨h1, h2, h3, h4⟩ => ⟨by rw [h1, hlast], h2, h3, h4⟩
    have hset : ∀ w1, DevAt w1 base m x.spent → Calls Tryd.prog 19 #[.pointer (some ⟨m.d, 0, none⟩), .int .u64 18446744073709551615, .int .u64 0] w1 (fun e w' => e = .returned (.tuple #[]) ∧ Went base w1 m (x.spent.settled allOnes 0) w') := fun w1 h1 =>
      dev_settle w1 base m x.spent h1 allOnes 0 (by decide) (by decide) (by rw [spent_uns]; exact hu)
    have HL := Lib.hid hl2
    have HSET := Lib.hid hset
    clear r1 h hd hdf hl hl2 e1 e2 hlast hset hu
    go_enter Tryd.func17, Tryd.ntmps17
    go_wp2_with fail
    refine HR.out.mono ?_
    rintro e w' ⟨rfl, rfl⟩
    go_wp2_with fail
    refine HL.out.mono ?_
    rintro e w1 ⟨rfl, h1, hg, hz⟩
    have H1 := Lib.hid h1
    have HG := Lib.hid hg
    have HZ := Lib.hid hz
    clear h1 hg hz
    go_wp2_with fail
    refine (HSET.out w1 H1.out).mono ?_
    rintro e w2 ⟨rfl, hw⟩
    have HW := Lib.hid hw
    clear hw
    go_wp2
    go_ret
    exact ⟨rfl, went_of HG.out HZ.out HW.out⟩

set_option maxHeartbeats 400000 in
theorem dev_crash (w : World) (base : Nat) (m : Lies) (x : Dv) (h : DevAt w base m x) (mk t : Nat) (hm : mk < 18446744073709551616) (ht : t < 18446744073709551616) (hu : x.uns.length < 4294967296) :
    Calls Tryd.prog 10 #[.pointer (some ⟨m.d, 0, none⟩), .int .u64 mk, .int .u64 t] w (WriteOut base w m (x.crash mk t) 0) := by
  have HSET := Lib.hid (dev_settle w base m x h mk t hm ht hu)
  clear h hu
  go_enter Tryd.func10, Tryd.ntmps10
  go_wp2_with fail
  refine HSET.out.mono ?_
  rintro e w1 ⟨rfl, m1, hd, h1, hg, hf⟩
  have c3 : w1.cell? ⟨m.d, 3, none⟩ = some (.int .i64 (x.settled mk t).limit) := by rw [← hd]; exact h1.blk.cell 3
  have z3 : w1.frozen? ⟨m.d, 3, none⟩ = false := by rw [← hd]; exact h1.blk.frozen 3
  have c4 : w1.cell? ⟨m.d, 4, none⟩ = some (.bool (x.settled mk t).down) := by rw [← hd]; exact h1.blk.cell 4
  have z4 : w1.frozen? ⟨m.d, 4, none⟩ = false := by rw [← hd]; exact h1.blk.frozen 4
  have HD := Lib.hid hd
  have H1 := Lib.hid h1
  have HG := Lib.hid hg
  have HF := Lib.hid hf
  clear h1 hg hf hd
  go_wp2
  go_ret
  refine ⟨rfl, Went.then HD.out HG.out HF.out ?_⟩
  have hc := H1.out.cells (y := x.crash mk t) rfl rfl (Nat.zero_le _) (grew_two w1 m1.d 3 4 (.int .i64 0) (.bool false)) ((H1.out.blk.set_ 3 _).set_ 4 _)
  rw [HD.out] at hc
  exact ⟨m1, rfl, hc, by rw [← HD.out]; exact (grew_two w1 m1.d 3 4 _ _).mono fun _ h => .inl (.inl h), fun _ h => .inl h⟩

end Go.Proofs.YthjcpficpiddaaaDoor
