/-
  The contract of super.Save.
-/
import Derived.Test.YthjcpficpiddaaaDoorULoad
import Derived.Deep.RegionHeld3
import Derived.IntWalk
namespace Go.Proofs.YthjcpficpiddaaaDoor
open Go.RowKit

theorem secBlk_small {s : Sec} {k : Nat} {b : Blk} (h : secBlk s k = some b) : 0 ≤ b.gen ∧ b.gen < 72057594037927936 := by
  unfold secBlk at h
  split at h
  · injection h with h
    rw [← h]
    refine ⟨Int.natCast_nonneg _, ?_⟩
    show (numN _ : Int) < _
    have h1 := numN_lt (cutL (openB s.data) 0 7)
    have h2 : (cutL (openB s.data) 0 7).length ≤ 7 := by unfold cutL; rw [List.length_take]; exact Nat.min_le_left _ _
    have h3 : 256 ^ (cutL (openB s.data) 0 7).length ≤ 256 ^ 7 := Nat.pow_le_pow_right (by decide) h2
    have h4 : (256 : Nat) ^ 7 = 72057594037927936 := by decide
    omega
  · cases h
theorem loadS_small {S : List Sec} {b : Blk} (h : loadS S = some b) : 0 ≤ b.gen ∧ b.gen < 72057594037927936 := by
  unfold loadS at h
  cases e0 : secBlk (S.getD 0 secZero) 0 with
  | none =>
    cases e1 : secBlk (S.getD 1 secZero) 1 with
    | none => rw [e0, e1] at h; cases h
    | some c => rw [e0, e1] at h; injection h with h; rw [← h]; exact secBlk_small e1
  | some a =>
    cases e1 : secBlk (S.getD 1 secZero) 1 with
    | none => rw [e0, e1] at h; injection h with h; rw [← h]; exact secBlk_small e0
    | some c =>
      rw [e0, e1] at h
      have h' : (if c.gen < a.gen then some a else some c) = some b := h
      split at h'
      · injection h' with h'; rw [← h']; exact secBlk_small e0
      · injection h' with h'; rw [← h']; exact secBlk_small e1
theorem bytes_five (b : Blk) (hf : b.fits = true) (W : World) : Calls Tryd.prog 16 #[b.val] W
    (fun e W' => ∃ A c, e = .returned (.slice A 35 c) ∧ 35 ≤ c ∧ W'.ownsRow W.heap.size 5 1 (.slice A 35 c) 35 (b.bytes.map bc) ∧ Below W.heap.size W W') := by
  refine (bbytes_any b W).mono ?_
  rintro e W' ⟨v, rfl, hown, hb⟩
  rw [bytesTo_five hf, length_bbytes] at hown
  obtain ⟨A, c, rfl, h1, _⟩ := own_form hown
  exact ⟨A, c, rfl, h1, hown, hb⟩
theorem seal_five (b : Blk) (A : Option Addr) (c : Nat) (W : World) (hA : Row W W.heap.size A (b.bytes.map bc)) (hc : 35 ≤ c) (hs : SizesAt W) :
    Calls Tryd.prog 15 #[.agg #[.int .i64 1, .int .i64 0, .int .i64 0, .int .i64 0, .int .i64 1], .slice A 35 c] W
      (fun e W' => ∃ A c, e = .returned (.tuple #[.slice A 512 c, .int .i64 0]) ∧ W'.ownsRow W.heap.size 5 1 (.slice A 512 c) 512 (b.sec.map bc) ∧ Below W.heap.size W W') := by
  refine (seal_any A c 35 supH b.bytes W (length_bbytes b) hA hs hc (by decide)).mono ?_
  rintro e W' ⟨v, rfl, hown, hb⟩
  have hl : (sealB supH b.bytes).length = 512 := length_bsec b
  rw [hl] at hown
  obtain ⟨A', c', rfl, h1, _⟩ := own_form hown
  exact ⟨A', c', by rw [length_bbytes]; rfl, hown, hb⟩
theorem sync_uns (x : Dv) : x.sync.uns.length ≤ x.uns.length := by
  unfold Dv.sync
  split
  · exact Nat.le_refl _
  · split
    · rw [spent_uns]; exact Nat.le_refl _
    · exact Nat.zero_le _
theorem write_uns (x : Dv) (k : Int) (l : List UInt8) : (x.write k l).uns.length ≤ x.uns.length + 1 := by
  unfold Dv.write
  split
  · omega
  · split
    · rw [spent_uns]; omega
    · simp
theorem put2_uns (x : Dv) (b : Blk) : (x.put2 b).uns.length ≤ x.uns.length + 1 :=
  Nat.le_trans (write_uns x.sync (b.gen % 2) b.sec) (Nat.succ_le_succ (sync_uns x))
theorem fits_gen {b : Blk} (h : b.fits = true) : 0 ≤ b.gen := by
  rw [Blk.fits_all] at h
  simp only [Bool.and_eq_true] at h
  have h1 := h.1.1.1.1
  simp only [fitB, decide_eq_true_eq] at h1
  omega
theorem write_512 {w0 w : World} {D : Nat} {x : Dv} (h : Holds w0 w D x) (k : Int) (A : Option Addr) (c : Nat) (b : Blk) (hs : BytesAt w A b.sec) (hu : x.uns.length < 4294967296) :
    Calls Tryd.prog 18 #[.pointer (some ⟨D, 0, none⟩), .int .i64 k, .slice A 512 c] w (fun e w' => e = .returned (.int .i64 (x.writeE k b.sec)) ∧ Holds w0 w' D (x.write k b.sec) ∧ Kept w w') := by
  have := h_write h k A c b.sec (by rw [length_bsec]; decide) hs hu
  rwa [length_bsec] at this
theorem blk_gen (f : Blk) (W : World) : (Instr.field 30 (.agg #[.int .i64 f.gen, .int .i64 f.epoch, .int .i64 f.first, .int .i64 f.begun, .int .i64 f.count]) 0).run Tryd.prog W = .ok (.int .i64 f.gen) W := by rfl
theorem blk_notD : ¬ devT 30 := by unfold devT; decide
/-- Save answers an error, and nothing is done. -/
theorem save_bad (p : Value) (b : Blk) (E : Int) (hE : E ≠ 0) (w : World) (hr : ∀ w', Below w.heap.size w w' → Calls Tryd.prog 12 #[p] w' (Told w' (.int .i64 E))) :
    Calls Tryd.prog 8 #[p, b.val] w (Gave w (.int .i64 E)) := by
  have d1 : (E != 0) = true := by rw [bne_iff_ne]; exact hE
  have HR := Lib.hid (hr (w.alloc (.cells b.cells.toArray 30)) ((Below.refl _ _).alloc (Nat.le_refl _) _))
  have HB1 := Lib.hid ((Below.refl w.heap.size w).alloc (Nat.le_refl _) (.cells b.cells.toArray 30))
  clear hE hr
  unfold Blk.val
  go_enter Tryd.func8, Tryd.ntmps8
  go_wp2_with fail
  refine HR.out.mono ?_
  rintro e w1 ⟨rfl, rfl⟩
  go_wp2
  go_ret
  exact ⟨rfl, HB1.out⟩
theorem save_nil (b : Blk) (w : World) : Calls Tryd.prog 8 #[.pointer none, b.val] w (Gave w (.int .i64 1)) := save_bad _ b 1 (by decide) w fun _ _ => sready_nil

section
variable {w0 w : World} {D : Nat} {x : Dv}
set_option maxHeartbeats 1000000 in
set_option maxRecDepth 4000 in
theorem save_fits (h : Holds w0 w D x) (hv : VarsAt w0) (b : Blk) (hf : b.fits = true) (h1 : ¬ x.sure.length < 2) (h2 : x.down = false) (hu : x.uns.length < 4294967295) :
    Calls Tryd.prog 8 #[.pointer (some ⟨D, 0, none⟩), b.val] w (fun e w' => e = .returned (.int .i64 (x.saveE b)) ∧ Holds w0 w' D (x.save b) ∧ Kept w w') := by
  have hE : x.readyE = 0 := by unfold Dv.readyE; rw [if_neg h1, if_neg (by simp [h2])]
  have hr0 := sready_any (h.alloc (.cells b.cells.toArray 30))
  rw [hE] at hr0
  have HR := Lib.hid hr0
  have HF := Lib.hid hf
  have HH := Lib.hid h
  have HV := Lib.hid hv
  have hlp := last_pick h2 (by omega)
  have HNO := Lib.hid (show x.saveNo b = if b.gen ≠ nextG (loadS x.now) then 15 else 0 by unfold Dv.saveNo; rw [if_neg h1, if_neg (by simp [h2]), hf]; simp)
  have HU := Lib.hid hu
  obtain ⟨o, ho⟩ : ∃ o, loadS x.now = o := ⟨_, rfl⟩
  have hng : ((o.getD bnone).gen + 1 = nextG o) ∧ -1 ≤ (o.getD bnone).gen ∧ (o.getD bnone).gen < 72057594037927936 := by
    subst ho
    cases hl : loadS x.now with
    | none => exact ⟨rfl, by decide, by decide⟩
    | some c =>
      have := loadS_small hl
      exact ⟨rfl, by show -1 ≤ c.gen; omega, this.2⟩
  rw [ho] at hlp HNO
  obtain ⟨f, hf2⟩ : ∃ f, o.getD bnone = f := ⟨_, rfl⟩
  rw [hf2] at hng hlp
  have HLP := Lib.hid hlp
  have HNG := Lib.hid hng.1
  have hf0 := hng.2.1
  have hf1 := hng.2.2
  have r0 : IntKind.i64.wrap (f.gen + 1) = f.gen + 1 := IntWalk.i64_in _ (by omega)
  clear hr0 hE h1 h2 hf h hv hlp hu ho hf2 hng
  unfold Blk.val
  go_enter Tryd.func8, Tryd.ntmps8
  go_wp2_with fail
  refine HR.out.mono ?_
  rintro e w1 ⟨rfl, rfl⟩
  go_wp2
  obtain ⟨W1, hW1⟩ : ∃ W1, W1 = w.alloc (.cells b.cells.toArray 30) := ⟨_, rfl⟩
  have hW : Whole W1 w.heap.size 30 b.cells := by rw [hW1]; exact Whole.made _ _ _
  have HB1 := Lib.hid (show Below w.heap.size w W1 by rw [hW1]; exact (Below.refl _ _).alloc (Nat.le_refl _) _)
  have HH1 := Lib.hid (HH.out.next HB1.out)
  have HW1 := Lib.hid hW
  have HLT1 := Lib.hid hW.lt
  have c0 : W1.cell? ⟨w.heap.size, 0, none⟩ = some (.int .i64 b.gen) := hW.cell 0
  have c1 : W1.cell? ⟨w.heap.size, 1, none⟩ = some (.int .i64 b.epoch) := hW.cell 1
  have c2 : W1.cell? ⟨w.heap.size, 2, none⟩ = some (.int .i64 b.first) := hW.cell 2
  have c3 : W1.cell? ⟨w.heap.size, 3, none⟩ = some (.int .i64 b.begun) := hW.cell 3
  have c4 : W1.cell? ⟨w.heap.size, 4, none⟩ = some (.int .i64 b.count) := hW.cell 4
  change Code.wp _ _ _ _ (w.alloc (.cells b.cells.toArray 30))
  rw [← hW1]
  clear hW1 hW HR
  have HFI := Lib.hid (bfits_any b)
  rw [HF.out] at HFI
  unfold Blk.val at HFI
  have hla : (∀ W, Holds w0 W D x → VarsAt W → Calls Tryd.prog 14 #[.pointer (some ⟨D, 0, none⟩)] W (Gave W (.agg #[.int .i64 f.gen, .int .i64 f.epoch, .int .i64 f.first, .int .i64 f.begun, .int .i64 f.count]))) := fun W hw hv => by
    have := slast_any hw hv
    rwa [HLP.out] at this
  have HLA := Lib.hid hla
  clear hla
  have hfd := blk_gen f
  go_region_held3 (fun X => X.cell? ⟨w.heap.size, 0, none⟩ = some (.int .i64 b.gen) ∧ X.cell? ⟨w.heap.size, 1, none⟩ = some (.int .i64 b.epoch) ∧ X.cell? ⟨w.heap.size, 2, none⟩ = some (.int .i64 b.first) ∧ X.cell? ⟨w.heap.size, 3, none⟩ = some (.int .i64 b.begun) ∧ X.cell? ⟨w.heap.size, 4, none⟩ = some (.int .i64 b.count))
    (go_keep)
    ((first
      | (go_at_call 13
         refine (HFI.out _).mono ?_
         rintro e w2 ⟨rfl, hb2'⟩
         have hb2 := (Below.refl W1.heap.size W1).drew.trans hb2'
         have HB2 := Lib.hid (HB1.out.trans (hb2.mono HB1.out.size))
         have HH2 := Lib.hid (HH1.out.next hb2)
         have HW2 := Lib.hid (HW1.out.below hb2 HLT1.out)
         clear hb2'
         have c0 : w2.cell? ⟨w.heap.size, 0, none⟩ = some (.int .i64 b.gen) := HW2.out.cell 0
         have c1 : w2.cell? ⟨w.heap.size, 1, none⟩ = some (.int .i64 b.epoch) := HW2.out.cell 1
         have c2 : w2.cell? ⟨w.heap.size, 2, none⟩ = some (.int .i64 b.first) := HW2.out.cell 2
         have c3 : w2.cell? ⟨w.heap.size, 3, none⟩ = some (.int .i64 b.begun) := HW2.out.cell 3
         have c4 : w2.cell? ⟨w.heap.size, 4, none⟩ = some (.int .i64 b.count) := HW2.out.cell 4
         clear hb2)
      | (go_at_call 14
         refine (HLA.out _ HH2.out (HV.out.next HH2.out.below)).mono ?_
         rintro e w3 ⟨rfl, hb3⟩
         have HB3 := Lib.hid (HB2.out.trans (hb3.mono HB2.out.size))
         have HH3 := Lib.hid (HH2.out.next hb3)
         have HW3 := Lib.hid (HW2.out.below hb3 HW2.out.lt)
         have c0 : w3.cell? ⟨w.heap.size, 0, none⟩ = some (.int .i64 b.gen) := HW3.out.cell 0
         have c1 : w3.cell? ⟨w.heap.size, 1, none⟩ = some (.int .i64 b.epoch) := HW3.out.cell 1
         have c2 : w3.cell? ⟨w.heap.size, 2, none⟩ = some (.int .i64 b.first) := HW3.out.cell 2
         have c3 : w3.cell? ⟨w.heap.size, 3, none⟩ = some (.int .i64 b.begun) := HW3.out.cell 3
         have c4 : w3.cell? ⟨w.heap.size, 4, none⟩ = some (.int .i64 b.count) := HW3.out.cell 4
         clear hb3)))
  by_cases hg : b.gen = f.gen + 1
  · have d1 : (b.gen != f.gen + 1) = false := by simp [hg]
    have HNO2 := Lib.hid (show x.saveNo b = 0 by rw [HNO.out, ← HNG.out, hg]; simp)
    have HG := Lib.hid hg
    clear hg
    go_wp2
    have g0 : w3.cell? ⟨0, 0, none⟩ = some (.int .i64 1) := (HV.out.next HH3.out.below).head.cell (k := 0) rfl
    have g1 : w3.cell? ⟨0, 1, none⟩ = some (.int .i64 0) := (HV.out.next HH3.out.below).head.cell (k := 1) rfl
    have g2 : w3.cell? ⟨0, 2, none⟩ = some (.int .i64 0) := (HV.out.next HH3.out.below).head.cell (k := 2) rfl
    have g3 : w3.cell? ⟨0, 3, none⟩ = some (.int .i64 0) := (HV.out.next HH3.out.below).head.cell (k := 3) rfl
    have g4 : w3.cell? ⟨0, 4, none⟩ = some (.int .i64 1) := (HV.out.next HH3.out.below).head.cell (k := 4) rfl
    have HBY := Lib.hid (bytes_five b HF.out)
    have HSE := Lib.hid (seal_five b)
    unfold Blk.val at HBY
    go_region_held3 (fun X => X.cell? ⟨0, 0, none⟩ = some (.int .i64 1) ∧ X.cell? ⟨0, 1, none⟩ = some (.int .i64 0) ∧ X.cell? ⟨0, 2, none⟩ = some (.int .i64 0) ∧ X.cell? ⟨0, 3, none⟩ = some (.int .i64 0) ∧ X.cell? ⟨0, 4, none⟩ = some (.int .i64 1) ∧ X.cell? ⟨w.heap.size, 0, none⟩ = some (.int .i64 b.gen) ∧ X.cell? ⟨w.heap.size, 1, none⟩ = some (.int .i64 b.epoch) ∧ X.cell? ⟨w.heap.size, 2, none⟩ = some (.int .i64 b.first) ∧ X.cell? ⟨w.heap.size, 3, none⟩ = some (.int .i64 b.begun) ∧ X.cell? ⟨w.heap.size, 4, none⟩ = some (.int .i64 b.count))
      (go_keep)
      ((first
      | (go_at_call 16
         refine (HBY.out _).mono ?_
         rintro e w4 ⟨A4, k4, rfl, hk4, hown4', hb4'⟩
         have hb4 := (Below.refl w3.heap.size w3).drew.trans hb4'
         have HO4 := Lib.hid hown4'
         have HK4 := Lib.hid hk4
         have HB4 := Lib.hid (HB3.out.trans (hb4.mono HB3.out.size))
         have HH4 := Lib.hid (HH3.out.next hb4)
         have HW4 := Lib.hid (HW3.out.below hb4 HW3.out.lt)
         have c0 : w4.cell? ⟨w.heap.size, 0, none⟩ = some (.int .i64 b.gen) := HW4.out.cell 0
         have c1 : w4.cell? ⟨w.heap.size, 1, none⟩ = some (.int .i64 b.epoch) := HW4.out.cell 1
         have c2 : w4.cell? ⟨w.heap.size, 2, none⟩ = some (.int .i64 b.first) := HW4.out.cell 2
         have c3 : w4.cell? ⟨w.heap.size, 3, none⟩ = some (.int .i64 b.begun) := HW4.out.cell 3
         have c4 : w4.cell? ⟨w.heap.size, 4, none⟩ = some (.int .i64 b.count) := HW4.out.cell 4
         have g0 : w4.cell? ⟨0, 0, none⟩ = some (.int .i64 1) := (HV.out.next HH4.out.below).head.cell (k := 0) rfl
         have g1 : w4.cell? ⟨0, 1, none⟩ = some (.int .i64 0) := (HV.out.next HH4.out.below).head.cell (k := 1) rfl
         have g2 : w4.cell? ⟨0, 2, none⟩ = some (.int .i64 0) := (HV.out.next HH4.out.below).head.cell (k := 2) rfl
         have g3 : w4.cell? ⟨0, 3, none⟩ = some (.int .i64 0) := (HV.out.next HH4.out.below).head.cell (k := 3) rfl
         have g4 : w4.cell? ⟨0, 4, none⟩ = some (.int .i64 1) := (HV.out.next HH4.out.below).head.cell (k := 4) rfl
         clear hb4 hb4' hk4 hown4')
      | (go_at_call 15
         refine (HSE.out A4 k4 _ (Row.of_own HO4.out) HK4.out (HV.out.next HH4.out.below).sizes).mono ?_
         rintro e w5 ⟨A5, k5, rfl, hown5, hb5⟩
         have HO5 := Lib.hid hown5
         have HB5 := Lib.hid (HB4.out.trans (hb5.mono HB4.out.size))
         have HH5 := Lib.hid (HH4.out.next hb5)
         have HW5 := Lib.hid (HW4.out.below hb5 HW4.out.lt)
         have c0 : w5.cell? ⟨w.heap.size, 0, none⟩ = some (.int .i64 b.gen) := HW5.out.cell 0
         have c1 : w5.cell? ⟨w.heap.size, 1, none⟩ = some (.int .i64 b.epoch) := HW5.out.cell 1
         have c2 : w5.cell? ⟨w.heap.size, 2, none⟩ = some (.int .i64 b.first) := HW5.out.cell 2
         have c3 : w5.cell? ⟨w.heap.size, 3, none⟩ = some (.int .i64 b.begun) := HW5.out.cell 3
         have c4 : w5.cell? ⟨w.heap.size, 4, none⟩ = some (.int .i64 b.count) := HW5.out.cell 4
         have g0 : w5.cell? ⟨0, 0, none⟩ = some (.int .i64 1) := (HV.out.next HH5.out.below).head.cell (k := 0) rfl
         have g1 : w5.cell? ⟨0, 1, none⟩ = some (.int .i64 0) := (HV.out.next HH5.out.below).head.cell (k := 1) rfl
         have g2 : w5.cell? ⟨0, 2, none⟩ = some (.int .i64 0) := (HV.out.next HH5.out.below).head.cell (k := 2) rfl
         have g3 : w5.cell? ⟨0, 3, none⟩ = some (.int .i64 0) := (HV.out.next HH5.out.below).head.cell (k := 3) rfl
         have g4 : w5.cell? ⟨0, 4, none⟩ = some (.int .i64 1) := (HV.out.next HH5.out.below).head.cell (k := 4) rfl
         clear hb5 hown5)))
    clear g0 g1 g2 g3 g4 c0 c1 c2 c3 c4
    go_wp2_with fail
    refine (h_sync HH5.out (by have := HU.out; omega)).mono ?_
    rintro e w6 ⟨rfl, hh6, hk6⟩
    have HH6 := Lib.hid hh6
    have HK6 := Lib.hid ((Kept.below HB5.out).trans hk6)
    have HW6 := Lib.hid (hk6.whole HW5.out blk_notD)
    have HO6 := Lib.hid (hk6.own HO5.out u8_not)
    clear hh6 hk6
    obtain ⟨e1, he1⟩ : ∃ e1, x.syncE = e1 := ⟨_, rfl⟩
    have HE1 := Lib.hid he1
    rw [he1]
    clear he1
    by_cases h1 : e1 = 0
    · subst h1
      have c0 : w6.cell? ⟨w.heap.size, 0, none⟩ = some (.int .i64 b.gen) := HW6.out.cell 0
      have r1 : b.gen.tmod 2 = b.gen % 2 := Int.tmod_eq_emod_of_nonneg (fits_gen HF.out)
      have HWW := Lib.hid (write_512 HH6.out (b.gen % 2) A5 k5 b (BytesAt.own HO6.out) (Nat.lt_of_le_of_lt (sync_uns x) (by have := HU.out; omega)))
      go_wp2_with fail
      refine HWW.out.mono ?_
      rintro e w7 ⟨rfl, hh7, hk7⟩
      change Holds w0 w7 D (x.put2 b) at hh7
      rw [show x.sync.writeE (b.gen % 2) b.sec = x.put2E b from rfl]
      have HH7 := Lib.hid hh7
      have HK7 := Lib.hid (HK6.out.trans hk7)
      clear hh7 hk7
      obtain ⟨e2, he2⟩ : ∃ e2, x.put2E b = e2 := ⟨_, rfl⟩
      have HE2 := Lib.hid he2
      rw [he2]
      clear he2
      by_cases h2 : e2 = 0
      · subst h2
        go_wp2_with fail
        refine (h_sync HH7.out (Nat.lt_of_le_of_lt (put2_uns x b) (by have := HU.out; omega))).mono ?_
        rintro e w8 ⟨rfl, hh8, hk8⟩
        have HH8 := Lib.hid hh8
        have HK8 := Lib.hid (HK7.out.trans hk8)
        clear hh8 hk8
        have HE3 := Lib.hid (show x.saveE b = (x.put2 b).syncE by unfold Dv.saveE; rw [HNO2.out, HE1.out, HE2.out]; rfl)
        have HE4 := Lib.hid (show x.save b = (x.put2 b).sync by unfold Dv.save; rw [HNO2.out, HE1.out, HE2.out]; rfl)
        generalize (x.put2 b).syncE = e3 at *
        go_wp2
        go_ret
        exact ⟨by rw [HE3.out]; rfl, by rw [HE4.out]; exact HH8.out, HK8.out⟩
      · have d2 : (e2 != 0) = true := by rw [bne_iff_ne]; exact h2
        have HE3 := Lib.hid (show x.saveE b = e2 by unfold Dv.saveE; rw [HNO2.out, HE1.out, HE2.out]; simp [h2])
        have HE4 := Lib.hid (show x.save b = x.put2 b by unfold Dv.save; rw [HNO2.out, HE1.out, HE2.out]; simp [h2])
        clear h2
        go_wp2
        go_ret
        exact ⟨by rw [HE3.out]; rfl, by rw [HE4.out]; exact HH7.out, HK7.out⟩
    · have d2 : (e1 != 0) = true := by rw [bne_iff_ne]; exact h1
      have HE3 := Lib.hid (show x.saveE b = e1 by unfold Dv.saveE; rw [HNO2.out, HE1.out]; simp [h1])
      have HE4 := Lib.hid (show x.save b = x.sync by unfold Dv.save; rw [HNO2.out, HE1.out]; simp [h1]; rfl)
      clear h1
      go_wp2
      go_ret
      exact ⟨by rw [HE3.out]; rfl, by rw [HE4.out]; exact HH6.out, HK6.out⟩
  · have d1 : (b.gen != f.gen + 1) = true := by rw [bne_iff_ne]; exact hg
    have HNO2 := Lib.hid (show x.saveNo b = 15 by rw [HNO.out, ← HNG.out]; simp [hg])
    clear hg
    go_wp2
    go_ret
    refine ⟨by unfold Dv.saveE; rw [HNO2.out]; rfl, ?_, Kept.below HB3.out⟩
    have e : x.save b = x := by unfold Dv.save; rw [HNO2.out]; rfl
    rw [e]
    exact HH3.out
theorem save_any (h : Holds w0 w D x) (hv : VarsAt w0) (b : Blk) (hf : b.fits = true) (hu : x.uns.length < 4294967295) :
    Calls Tryd.prog 8 #[.pointer (some ⟨D, 0, none⟩), b.val] w (fun e w' => e = .returned (.int .i64 (x.saveE b)) ∧ Holds w0 w' D (x.save b) ∧ Kept w w') := by
  by_cases h1 : x.sure.length < 2
  · have e1 : x.saveNo b = 1 := if_pos h1
    have e2 : x.readyE = 1 := if_pos h1
    have e3 : x.saveE b = 1 := by unfold Dv.saveE; rw [e1]; rfl
    have e4 : x.save b = x := by unfold Dv.save; rw [e1]; rfl
    rw [e3, e4]
    refine (save_bad _ b 1 (by decide) w fun w' hb => ?_).mono fun e w' ⟨he, hb⟩ => ⟨he, h.next hb, Kept.below hb⟩
    have := sready_any (h.next hb)
    rwa [e2] at this
  · cases h2 : x.down with
    | true =>
      have e1 : x.saveNo b = 8 := by unfold Dv.saveNo; rw [if_neg h1, if_pos h2]
      have e2 : x.readyE = 8 := by unfold Dv.readyE; rw [if_neg h1, if_pos h2]
      have e3 : x.saveE b = 8 := by unfold Dv.saveE; rw [e1]; rfl
      have e4 : x.save b = x := by unfold Dv.save; rw [e1]; rfl
      rw [e3, e4]
      refine (save_bad _ b 8 (by decide) w fun w' hb => ?_).mono fun e w' ⟨he, hb⟩ => ⟨he, h.next hb, Kept.below hb⟩
      have := sready_any (h.next hb)
      rwa [e2] at this
    | false => exact save_fits h hv b hf h1 h2 hu
end

end Go.Proofs.YthjcpficpiddaaaDoor
