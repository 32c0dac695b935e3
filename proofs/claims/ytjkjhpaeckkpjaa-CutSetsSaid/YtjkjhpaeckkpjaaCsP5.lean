/-
  CutSets, whole: of up to 119 addresses of one name, and up to 119 of another behind them, cut.Fit tells all of a name or none, at whatever size from 512 to 3511, with TC just where some are missing. No condition.
-/
import Derived.Test.YtjkjhpaeckkpjaaCsP4
import Derived.Test.YtjkjhpaeckkpjaaMbP9
import Derived.Test.YtjkjhpaeckkpjaaCsP1
namespace Go.Proofs.Ytjkjhpaeckkpjaa
open Go.RowKit

/-- Where an address lies whose name lies in block g. -/
def adrV (g : Nat) : RV := ⟨some ⟨g, 0, none⟩, 1, ⟨some ⟨g + 1, 0, none⟩, none, none, none, none, 4, 0, 0, 0, 0⟩⟩
theorem adr_own {w : World} {B g : Nat} {nm : List UInt8} {t : UInt8} {j : Nat} (h1 : B ≤ g) (h2 : B ≤ g + 1) (hn : Whole w g 9 [sv nm]) (hb : Whole w (g + 1) 5 (([1, 2, t, UInt8.ofNat j] : List UInt8).map bc)) : OwnR w B (adrV g) (adrR nm t j) :=
  ⟨own_of_block hn h1 rfl (Nat.le_refl 1) (show (1 : Nat) ≤ maxLen by unfold maxLen; omega) rfl, ⟨own_of_block hb h2 rfl (Nat.le_refl 4) (show (4 : Nat) ≤ maxLen by unfold maxLen; omega) rfl, World.ownsRow_nil _ _ _ _, World.ownsRow_nil _ _ _ _, World.ownsRow_nil _ _ _ _, World.ownsRow_nil _ _ _ _⟩⟩
theorem whole_row {w : World} {g : Nat} {t : TypeId} {L : List Value} (h : Whole w g t L) : Row w (g + 1) (some ⟨g, 0, none⟩) L :=
  Row.of_cells (Nat.lt_succ_self g) fun j u hu => by rw [Nat.zero_add, h.cell]; exact hu
/-- Fit of the message of two sets. -/
theorem sets_call {w : World} {B m a b : Nat} {A : Option Addr} {c : Nat} {ps : List (RV × Rt)} {N : Int} (hrc : recs ps = adrL firstB 3 a ++ adrL secondB 4 b) (hpl : ps.length = m) (hr : RecRow w B (.slice A m c) ps) (h1 : 512 ≤ N) (h2 : N ≤ 65535) (ha : a ≤ 120) (hb : b ≤ 120) :
    Calls Try.prog 23 #[valM setsH (.slice none 0 0) (.slice A m c) (.slice none 0 0) (.slice none 0 0), .int .i64 N] w (fun e w' => ∃ l x A5 c5, e = .returned (.tuple #[.slice A5 l.length c5, .int .i64 0]) ∧ w'.ownsRow w.heap.size 5 1 (.slice A5 l.length c5) l.length (l.map bc) ∧ Below w.heap.size w w' ∧
      (l.length : Int) ≤ N ∧ decM l = .ok x ∧ x.an.length ≤ a + b ∧ (x.an.length = 0 ∨ x.an.length = a ∨ x.an.length = a + b) ∧ x.h.tc = decide (x.an.length < a + b)) := by
  subst hpl
  have hmsg : MV.msg ⟨setsH, none, 0, [], ⟨A, c, ps⟩, nilSec, nilSec⟩ = setsM a b := by
    show (⟨setsH, [], recs ps, [], []⟩ : Mt) = _
    rw [hrc]
    rfl
  have hlen : ps.length = a + b := by
    have h3 := congrArg List.length hrc
    rw [length_recs, List.length_append, length_adr, length_adr] at h3
    exact h3
  have hsec : ∀ i, ∀ p ∈ (MV.sec ⟨setsH, none, 0, [], ⟨A, c, ps⟩, nilSec, nilSec⟩ i).ps, p ∈ ps := fun i p hp => by
    unfold MV.sec at hp
    split at hp
    · exact hp
    · split at hp
      · exact absurd hp (List.not_mem_nil)
      · exact absurd hp (List.not_mem_nil)
  have hcl := own_cap hr.row
  have h3 := cfit_any w N ⟨setsH, none, 0, [], ⟨A, c, ps⟩, nilSec, nilSec⟩
    ⟨⟨Row.empty _ _ _, fun _ h => absurd h (List.not_mem_nil)⟩, ⟨Row.of_own hr.row, fun p hp => (hr.each p hp).at_⟩, ⟨Row.empty _ _ _, fun _ h => absurd h (List.not_mem_nil)⟩, ⟨Row.empty _ _ _, fun _ h => absurd h (List.not_mem_nil)⟩⟩
    ⟨⟨by show (Lit.int .i64 0).wf = true; decide, by show (Lit.int .i64 0).wf = true; decide, by show (Lit.int .i64 0).wf = true; decide, by show (Lit.int .i64 0).wf = true; decide⟩, fun _ h => absurd h (List.not_mem_nil), fun i p hp => by
      have h4 : p.2 ∈ setsL a b := by
        unfold setsL
        rw [← hrc]
        exact List.mem_map.2 ⟨p, hsec i p hp, rfl⟩
      exact (soundX_iff.1 (sets_each ha hb _ h4)).2.small, Nat.zero_le _, fun i => by
        unfold MV.sec
        split
        · show ps.length ≤ 1000
          omega
        · split <;> exact Nat.zero_le _⟩
    (fun i p hp => ⟨own_mono (hr.each p (hsec i p hp)).n (Nat.zero_le _), (hr.each p (hsec i p hp)).d.monoB (Nat.zero_le _)⟩)
    (fun i => by
      unfold MV.sec
      split
      · exact hcl
      · split <;> exact Nat.zero_le _) (Nat.zero_le _)
  refine h3.mono ?_
  rintro e w' ⟨res, hf, he⟩
  rw [hmsg] at hf
  obtain ⟨l, x, hl, h4, h5, h6, h7, h8⟩ := sets_fit ha hb h1 h2 hf
  obtain ⟨A5, c5, a1, a2, a3⟩ := encOut_yes he hl
  exact ⟨l, x, A5, c5, a1, a2, a3, h4, h5, h6, h7, h8⟩
def SetsRel (w : World) (L1 : List Rt) (nm : List UInt8) (t : UInt8) (k : Nat) (i : Value) (wr : World) : Prop :=
  ∃ (j m : Nat) (A : Option Addr) (c : Nat) (ps : List (RV × Rt)), j ≤ k ∧ i = .int .i64 (j : Nat) ∧ recs ps = L1 ++ adrL nm t j ∧ ps.length = m ∧ m = L1.length + j ∧ RecRow wr (w.heap.size + 1) (.slice A m c) ps ∧
    Whole wr w.heap.size 25 (cellsM setsH (.slice none 0 0) (.slice A m c) (.slice none 0 0) (.slice none 0 0)) ∧ Below w.heap.size w wr

set_option maxRecDepth 20000 in
set_option maxHeartbeats 8000000 in
theorem csets_any (a b n : Nat) (w : World) (ha : a < 256) (hb : b < 256) (hn : n < 65536) : Calls Try.prog 9 #[.int .u8 a, .int .u8 b, .int .u16 n] w (TrueB w) := by
  obtain ⟨i0, hi0, hz0, hz1, hz2⟩ := info_parts rr_info
  have HA := Lib.hid (fun W' => canswers_any W')
  obtain ⟨ka, hka⟩ : ∃ k : Nat, k = a % 120 := ⟨_, rfl⟩
  obtain ⟨kb, hkb⟩ : ∃ k : Nat, k = b % 120 := ⟨_, rfl⟩
  obtain ⟨W, hW⟩ : ∃ W, W = w.alloc (.cells #[.int .i64 0, .bool true, .int .i64 0, .bool false, .bool false, .bool false, .bool false, .int .i64 0, .slice none 0 0, .slice none 0 0, .slice none 0 0, .slice none 0 0, .bool false, .int .i64 0] 25) := ⟨_, rfl⟩
  have hB : Below w.heap.size w W := by rw [hW]; exact (Below.refl _ _).alloc (Nat.le_refl _) _
  have hwh : Whole W w.heap.size 25 (cellsM setsH (.slice none 0 0) (.slice none 0 0) (.slice none 0 0) (.slice none 0 0)) := by rw [hW]; exact Whole.made w _ _
  have HB := Lib.hid hB
  have HW := Lib.hid hwh
  have HKA := Lib.hid hka
  have HKB := Lib.hid hkb
  clear hB hwh hka hkb
  subst hW
  go_enter Try.func9, Try.ntmps9
  go_wp2
  obtain ⟨N, hN⟩ : ∃ N : Int, N = 512 + (n : Int) % 3000 := ⟨_, rfl⟩
  have hN1 : 512 ≤ N := by omega
  have hN2 : N ≤ 65535 := by omega
  rw [← hN]
  clear hN
  have hka := HKA.out
  have hkb := HKB.out
  have hka1 : ka < 120 := by omega
  have hkb1 : kb < 120 := by omega
  clear hka hkb
  go_loopw [9] (SetsRel w [] firstB 3 ka) (fun i _ => ka - (intOf i).toNat)
  case atStart => exact ⟨0, 0, none, 0, [], Nat.zero_le _, rfl, rfl, rfl, rfl, RecRow.nil _ _, HW.out, HB.out⟩
  case round =>
    obtain ⟨j, m, A, c, ps, hj, rfl, hrc, hpl, hml, hr, hw, hb⟩ := hrel
    have HML := Lib.hid hml
    have hmb : m ≤ 1000 := by
      rw [hml]
      simp; omega
    have HRC := Lib.hid hrc
    have HPL := Lib.hid hpl
    have HR := Lib.hid hr
    have HWR := Lib.hid hw
    have HBR := Lib.hid hb
    have hgl : w.heap.size < wr.heap.size := Whole.lt hw
    have c9 : wr.cell? ⟨w.heap.size, 9, none⟩ = some (.slice A m c) := Whole.cell hw 9
    have f9 : wr.frozen? ⟨w.heap.size, 9, none⟩ = false := Whole.frozen hw 9
    clear hr hw hb hrc hpl hml
    by_cases hlt : j < ka
    · obtain ⟨W3, hW3⟩ : ∃ W3, W3 = ((wr.alloc (.cells #[.string { data := #[102, 105, 114, 115, 116] }] 9)).alloc (.cells #[.int .u8 1, .int .u8 2, .int .u8 3, .int .u8 j] 5)).alloc (.cells #[.slice (some ⟨wr.heap.size, 0, none⟩) 1 1, .int .i64 1, .int .i64 1, .int .i64 0, .slice (some ⟨wr.heap.size + 1, 0, none⟩) 4 4, .slice none 0 0, .slice none 0 0, .slice none 0 0, .slice none 0 0] 48) := ⟨_, rfl⟩
      have hz3 : W3.heap.size = wr.heap.size + 1 + 1 + 1 := by rw [hW3]; simp
      have hba : Below wr.heap.size wr W3 := by rw [hW3]; exact (((Below.refl _ _).alloc (Nat.le_refl _) _).alloc (by simp) _).alloc (by simp; omega) _
      have hn1 : Whole W3 wr.heap.size 9 [sv firstB] := by rw [hW3]; exact ((Whole.made wr [sv firstB] _).alloc _).alloc _
      have hn2 : Whole W3 (wr.heap.size + 1) 5 [.int .u8 1, .int .u8 2, .int .u8 3, .int .u8 j] := by
        rw [hW3]
        have h1 := Whole.made (wr.alloc (.cells #[.string { data := #[102, 105, 114, 115, 116] }] 9)) [.int .u8 1, .int .u8 2, .int .u8 3, .int .u8 j] 5
        rw [show (wr.alloc (.cells #[.string { data := #[102, 105, 114, 115, 116] }] 9)).heap.size = wr.heap.size + 1 by simp] at h1
        exact h1.alloc _
      have hn3 : Whole W3 (wr.heap.size + 1 + 1) 48 (cellsR (adrV wr.heap.size, adrR firstB 3 j)) := by
        rw [hW3]
        have h1 := Whole.made ((wr.alloc (.cells #[.string { data := #[102, 105, 114, 115, 116] }] 9)).alloc (.cells #[.int .u8 1, .int .u8 2, .int .u8 3, .int .u8 j] 5)) (cellsR (adrV wr.heap.size, adrR firstB 3 j)) 48
        rw [show ((wr.alloc (.cells #[.string { data := #[102, 105, 114, 115, 116] }] 9)).alloc (.cells #[.int .u8 1, .int .u8 2, .int .u8 3, .int .u8 j] 5)).heap.size = wr.heap.size + 1 + 1 by simp] at h1
        exact h1
      have hown : OwnR W3 (w.heap.size + 1) (adrV wr.heap.size) (adrR firstB 3 j) := adr_own (by omega) (by omega) hn1 (by
        rw [show ([1, 2, 3, UInt8.ofNat j] : List UInt8).map bc = [.int .u8 1, .int .u8 2, .int .u8 3, .int .u8 j] from by
          show [bc 1, bc 2, bc 3, bc (UInt8.ofNat j)] = _
          unfold bc
          rw [UInt8.toNat_ofNat', Nat.mod_eq_of_lt (show j < 2 ^ 8 by omega)]
          rfl]
        exact hn2)
      have HOR := Lib.hid hown
      have HRA := Lib.hid (show RecRow W3 (w.heap.size + 1) (.slice A m c) ps from HR.out.keep fun q _ hq => hba.block q hq)
      have HWA := Lib.hid (Whole.below HWR.out hba hgl)
      have HBA := Lib.hid (HBR.out.trans (hba.mono HBR.out.size))
      have HRO := Lib.hid (show Row W3 (wr.heap.size + 1 + 1 + 1) (some ⟨wr.heap.size + 1 + 1, 0, none⟩) (cellsR (adrV wr.heap.size, adrR firstB 3 j)) from whole_row hn3)
      have HQA := Lib.hid (show W3.ownsRow (w.heap.size + 1) 48 9 (.slice A m c) m (ps.flatMap cellsR) from by
        have h1 := HRA.out.row
        rwa [HPL.out] at h1)
      have hbz : w.heap.size + 1 ≤ W3.heap.size := by omega
      have d0 : decide ((j : Int) < (a : Int) % 120) = true := decide_eq_true (by have h1 := HKA.out; omega)
      have hj8 : IntKind.u8.wrap (j : Int) = (j : Int) := IntWalk.u8_in _ (by omega)
      clear hba hn1 hn2 hn3 hown hz3
      go_wp2_with (
        at_builtin
        rw [← hW3]
        refine wpList_append_row rfl (.tmp 30) (.tmp 37) _ rfl (w.heap.size + 1) 48 i0 _ 9 168 Try.underlying23 hi0 hz0 hz1 hz2 rfl (by omega) (.slice A m c) m _ rfl HQA.out
          (some ⟨wr.heap.size + 1 + 1, 0, none⟩) 1 1 (wr.heap.size + 1 + 1 + 1) (cellsR (adrV wr.heap.size, adrR firstB 3 j)) rfl rfl HRO.out (cellsR_one1 _) (by unfold maxLen; omega) (by omega) hbz ?_
        intro v7 w7 hown7 hg7
        obtain ⟨A7, c7, rfl, _, _⟩ := own_form hown7
        have hgn : (Value.slice A m c).ownBlock ≠ some w.heap.size := own_not_whole HQA.out HWA.out (by decide)
        have hw7 := Whole.grown HWA.out hg7 (Ne.symm hgn)
        have HW7 := Lib.hid hw7
        have c9' : w7.cell? ⟨w.heap.size, 9, none⟩ = some (.slice A m c) := Whole.cell hw7 9
        have f9' : w7.frozen? ⟨w.heap.size, 9, none⟩ = false := Whole.frozen hw7 9
        have HR7 := Lib.hid (show RecRow w7 (w.heap.size + 1) (.slice A7 (m + 1) c7) (ps ++ [(adrV wr.heap.size, adrR firstB 3 j)]) from
          RecRow.snoc (v' := .slice A7 (m + 1) c7) HRA.out HOR.out (by rw [HPL.out]; exact hown7) hg7)
        have HB7 := Lib.hid (HBA.out.grown hg7 HBA.out.size fun q hq => by have := (HQA.out.lt q hq).1; omega)
        clear hown7 hg7 hgn hw7)
      have HREL := Lib.hid (show SetsRel w ([]) firstB 3 ka (.int .i64 ((j + 1 : Nat) : Int)) (w7.setCell ⟨w.heap.size, 9, none⟩ (.slice A7 (m + 1) c7)) from
        ⟨j + 1, m + 1, A7, c7, ps ++ [(adrV wr.heap.size, adrR firstB 3 j)], by omega, rfl, by rw [recs_append, HRC.out, adr_snoc, List.append_assoc]; rfl, by rw [List.length_append, HPL.out]; rfl, by rw [HML.out]; omega, HR7.out.keep fun q hq _ => Below.heap_setCell _ ⟨w.heap.size, 9, none⟩ _ q (by show q ≠ w.heap.size; omega), HW7.out.set_ 9 _, HB7.out.setCell (p := ⟨w.heap.size, 9, none⟩) (Nat.le_refl _) _⟩)
      have hrl := HREL.out
      rw [show ((j + 1 : Nat) : Int) = (j : Int) + 1 by omega] at hrl
      exact ⟨hrl, by simp [intOf]; omega⟩
    · obtain rfl : ka = j := by omega
      have dl : decide ((ka : Int) < (a : Int) % 120) = false := decide_eq_false (by have h1 := HKA.out; omega)
      have HM0 := Lib.hid (show m = ka from by rw [HML.out]; simp)
      have HRC0 := Lib.hid (show recs ps = adrL firstB 3 ka ++ adrL secondB 4 0 from by rw [HRC.out]; simp [adrL])
      clear HRC HML hlt hj
      go_wp2
      clear dl c9 f9 HW HB
      go_loopw [11] (SetsRel w (adrL firstB 3 ka) secondB 4 kb) (fun i _ => kb - (intOf i).toNat)
      case atStart => exact ⟨0, m, A, c, ps, Nat.zero_le _, rfl, HRC0.out, HPL.out, by rw [HM0.out, length_adr]; rfl, HR.out, HWR.out, HBR.out⟩
      case round =>
      clear HR HWR HBR HPL HRC0
      revert HM0
      generalize m = m0
      intro HM0
      obtain ⟨j, m, A, c, ps, hj, rfl, hrc, hpl, hml, hr, hw, hb⟩ := hrel
      have HML := Lib.hid hml
      have hmb : m ≤ 1000 := by
        rw [hml]
        rw [length_adr]; omega
      have HRC := Lib.hid hrc
      have HPL := Lib.hid hpl
      have HR := Lib.hid hr
      have HWR := Lib.hid hw
      have HBR := Lib.hid hb
      have hgl : w.heap.size < wr.heap.size := Whole.lt hw
      have c9 : wr.cell? ⟨w.heap.size, 9, none⟩ = some (.slice A m c) := Whole.cell hw 9
      have f9 : wr.frozen? ⟨w.heap.size, 9, none⟩ = false := Whole.frozen hw 9
      clear hr hw hb hrc hpl hml
      by_cases hlt : j < kb
      · obtain ⟨W3, hW3⟩ : ∃ W3, W3 = ((wr.alloc (.cells #[.string { data := #[115, 101, 99, 111, 110, 100] }] 9)).alloc (.cells #[.int .u8 1, .int .u8 2, .int .u8 4, .int .u8 j] 5)).alloc (.cells #[.slice (some ⟨wr.heap.size, 0, none⟩) 1 1, .int .i64 1, .int .i64 1, .int .i64 0, .slice (some ⟨wr.heap.size + 1, 0, none⟩) 4 4, .slice none 0 0, .slice none 0 0, .slice none 0 0, .slice none 0 0] 48) := ⟨_, rfl⟩
        have hz3 : W3.heap.size = wr.heap.size + 1 + 1 + 1 := by rw [hW3]; simp
        have hba : Below wr.heap.size wr W3 := by rw [hW3]; exact (((Below.refl _ _).alloc (Nat.le_refl _) _).alloc (by simp) _).alloc (by simp; omega) _
        have hn1 : Whole W3 wr.heap.size 9 [sv secondB] := by rw [hW3]; exact ((Whole.made wr [sv secondB] _).alloc _).alloc _
        have hn2 : Whole W3 (wr.heap.size + 1) 5 [.int .u8 1, .int .u8 2, .int .u8 4, .int .u8 j] := by
          rw [hW3]
          have h1 := Whole.made (wr.alloc (.cells #[.string { data := #[115, 101, 99, 111, 110, 100] }] 9)) [.int .u8 1, .int .u8 2, .int .u8 4, .int .u8 j] 5
          rw [show (wr.alloc (.cells #[.string { data := #[115, 101, 99, 111, 110, 100] }] 9)).heap.size = wr.heap.size + 1 by simp] at h1
          exact h1.alloc _
        have hn3 : Whole W3 (wr.heap.size + 1 + 1) 48 (cellsR (adrV wr.heap.size, adrR secondB 4 j)) := by
          rw [hW3]
          have h1 := Whole.made ((wr.alloc (.cells #[.string { data := #[115, 101, 99, 111, 110, 100] }] 9)).alloc (.cells #[.int .u8 1, .int .u8 2, .int .u8 4, .int .u8 j] 5)) (cellsR (adrV wr.heap.size, adrR secondB 4 j)) 48
          rw [show ((wr.alloc (.cells #[.string { data := #[115, 101, 99, 111, 110, 100] }] 9)).alloc (.cells #[.int .u8 1, .int .u8 2, .int .u8 4, .int .u8 j] 5)).heap.size = wr.heap.size + 1 + 1 by simp] at h1
          exact h1
        have hown : OwnR W3 (w.heap.size + 1) (adrV wr.heap.size) (adrR secondB 4 j) := adr_own (by omega) (by omega) hn1 (by
          rw [show ([1, 2, 4, UInt8.ofNat j] : List UInt8).map bc = [.int .u8 1, .int .u8 2, .int .u8 4, .int .u8 j] from by
            show [bc 1, bc 2, bc 4, bc (UInt8.ofNat j)] = _
            unfold bc
            rw [UInt8.toNat_ofNat', Nat.mod_eq_of_lt (show j < 2 ^ 8 by omega)]
            rfl]
          exact hn2)
        have HOR := Lib.hid hown
        have HRA := Lib.hid (show RecRow W3 (w.heap.size + 1) (.slice A m c) ps from HR.out.keep fun q _ hq => hba.block q hq)
        have HWA := Lib.hid (Whole.below HWR.out hba hgl)
        have HBA := Lib.hid (HBR.out.trans (hba.mono HBR.out.size))
        have HRO := Lib.hid (show Row W3 (wr.heap.size + 1 + 1 + 1) (some ⟨wr.heap.size + 1 + 1, 0, none⟩) (cellsR (adrV wr.heap.size, adrR secondB 4 j)) from whole_row hn3)
        have HQA := Lib.hid (show W3.ownsRow (w.heap.size + 1) 48 9 (.slice A m c) m (ps.flatMap cellsR) from by
          have h1 := HRA.out.row
          rwa [HPL.out] at h1)
        have hbz : w.heap.size + 1 ≤ W3.heap.size := by omega
        have d0 : decide ((j : Int) < (b : Int) % 120) = true := decide_eq_true (by have h1 := HKB.out; omega)
        have hj8 : IntKind.u8.wrap (j : Int) = (j : Int) := IntWalk.u8_in _ (by omega)
        clear hba hn1 hn2 hn3 hown hz3
        go_wp2_with (
          at_builtin
          rw [← hW3]
          refine wpList_append_row rfl (.tmp 51) (.tmp 58) _ rfl (w.heap.size + 1) 48 i0 _ 9 168 Try.underlying23 hi0 hz0 hz1 hz2 rfl (by omega) (.slice A m c) m _ rfl HQA.out
            (some ⟨wr.heap.size + 1 + 1, 0, none⟩) 1 1 (wr.heap.size + 1 + 1 + 1) (cellsR (adrV wr.heap.size, adrR secondB 4 j)) rfl rfl HRO.out (cellsR_one1 _) (by unfold maxLen; omega) (by omega) hbz ?_
          intro v7 w7 hown7 hg7
          obtain ⟨A7, c7, rfl, _, _⟩ := own_form hown7
          have hgn : (Value.slice A m c).ownBlock ≠ some w.heap.size := own_not_whole HQA.out HWA.out (by decide)
          have hw7 := Whole.grown HWA.out hg7 (Ne.symm hgn)
          have HW7 := Lib.hid hw7
          have c9' : w7.cell? ⟨w.heap.size, 9, none⟩ = some (.slice A m c) := Whole.cell hw7 9
          have f9' : w7.frozen? ⟨w.heap.size, 9, none⟩ = false := Whole.frozen hw7 9
          have HR7 := Lib.hid (show RecRow w7 (w.heap.size + 1) (.slice A7 (m + 1) c7) (ps ++ [(adrV wr.heap.size, adrR secondB 4 j)]) from
            RecRow.snoc (v' := .slice A7 (m + 1) c7) HRA.out HOR.out (by rw [HPL.out]; exact hown7) hg7)
          have HB7 := Lib.hid (HBA.out.grown hg7 HBA.out.size fun q hq => by have := (HQA.out.lt q hq).1; omega)
          clear hown7 hg7 hgn hw7)
        have HREL := Lib.hid (show SetsRel w (adrL firstB 3 ka) secondB 4 kb (.int .i64 ((j + 1 : Nat) : Int)) (w7.setCell ⟨w.heap.size, 9, none⟩ (.slice A7 (m + 1) c7)) from
          ⟨j + 1, m + 1, A7, c7, ps ++ [(adrV wr.heap.size, adrR secondB 4 j)], by omega, rfl, by rw [recs_append, HRC.out, adr_snoc, List.append_assoc]; rfl, by rw [List.length_append, HPL.out]; rfl, by rw [HML.out]; omega, HR7.out.keep fun q hq _ => Below.heap_setCell _ ⟨w.heap.size, 9, none⟩ _ q (by show q ≠ w.heap.size; omega), HW7.out.set_ 9 _, HB7.out.setCell (p := ⟨w.heap.size, 9, none⟩) (Nat.le_refl _) _⟩)
        have hrl := HREL.out
        rw [show ((j + 1 : Nat) : Int) = (j : Int) + 1 by omega] at hrl
        exact ⟨hrl, by simp [intOf]; omega⟩
      · obtain rfl : j = kb := by omega
        have d0 : wr.cell? ⟨w.heap.size, 0, none⟩ = some (.int .i64 0) := Whole.cell HWR.out 0
        have d1 : wr.cell? ⟨w.heap.size, 1, none⟩ = some (.bool true) := Whole.cell HWR.out 1
        have d2 : wr.cell? ⟨w.heap.size, 2, none⟩ = some (.int .i64 0) := Whole.cell HWR.out 2
        have d3 : wr.cell? ⟨w.heap.size, 3, none⟩ = some (.bool false) := Whole.cell HWR.out 3
        have d4 : wr.cell? ⟨w.heap.size, 4, none⟩ = some (.bool false) := Whole.cell HWR.out 4
        have d5 : wr.cell? ⟨w.heap.size, 5, none⟩ = some (.bool false) := Whole.cell HWR.out 5
        have d6 : wr.cell? ⟨w.heap.size, 6, none⟩ = some (.bool false) := Whole.cell HWR.out 6
        have d7 : wr.cell? ⟨w.heap.size, 7, none⟩ = some (.int .i64 0) := Whole.cell HWR.out 7
        have d8 : wr.cell? ⟨w.heap.size, 8, none⟩ = some (.slice none 0 0) := Whole.cell HWR.out 8
        have d10 : wr.cell? ⟨w.heap.size, 10, none⟩ = some (.slice none 0 0) := Whole.cell HWR.out 10
        have d11 : wr.cell? ⟨w.heap.size, 11, none⟩ = some (.slice none 0 0) := Whole.cell HWR.out 11
        have d12 : wr.cell? ⟨w.heap.size, 12, none⟩ = some (.bool false) := Whole.cell HWR.out 12
        have d13 : wr.cell? ⟨w.heap.size, 13, none⟩ = some (.int .i64 0) := Whole.cell HWR.out 13
        have HFC := Lib.hid (sets_call HRC.out HPL.out HR.out hN1 hN2 (by omega) (by omega))
        have hmm : m = m0 + j := by rw [HML.out, length_adr, HM0.out]
        have HMM := Lib.hid hmm
        have dl : decide ((j : Int) < (b : Int) % 120) = false := decide_eq_false (by have h1 := HKB.out; omega)
        clear hlt hj hmm HR HRC HPL HML f9
        go_wp2_with fail
        refine HFC.out.mono ?_
        rintro e w5 ⟨l, x, A5, c5, rfl, ho5, hb5, hln, hdl, hxl, hx3, hxt⟩
        have HB5 := Lib.hid (HBR.out.trans (hb5.mono HBR.out.size))
        have HW5 := Lib.hid (HWR.out.below hb5 HWR.out.lt)
        have HD5 := Lib.hid (decode_any A5 l.length c5 l w5 rfl (Row.of_own ho5) (own_cap ho5) (own_capM ho5))
        have HDL := Lib.hid hdl
        have HXL := Lib.hid (show x.an.length = 0 ∨ x.an.length = m0 ∨ x.an.length = m from by rw [HM0.out, HMM.out, HM0.out]; exact hx3)
        have HXT := Lib.hid (show x.h.tc = decide (x.an.length < m) from by rw [HMM.out, HM0.out]; exact hxt)
        have dn : decide ((l.length : Int) ≤ N) = true := decide_eq_true hln
        clear ho5 hb5 hdl hln hx3 hxt hxl HFC HMM
        clear d0 d1 d2 d3 d4 d5 d6 d7 d8 d10 d11 d12 d13 c9 dl
        go_wp2_with fail
        refine HD5.out.mono ?_
        intro e w6 he6
        obtain ⟨m3, rfl, hm3, _, hb6⟩ := decOut_yes he6 HDL.out
        have HB6 := Lib.hid (HB5.out.trans (hb6.mono HB5.out.size))
        have HW6 := Lib.hid (HW5.out.below hb6 HW5.out.lt)
        have HXL := Lib.hid (show m3.s0.ps.length = 0 ∨ m3.s0.ps.length = m0 ∨ m3.s0.ps.length = m from by
          have h1 := HXL.out
          rw [← hm3] at h1
          simpa [MV.msg, length_recs] using h1)
        have HXT := Lib.hid (show m3.h.tc = decide (m3.s0.ps.length < m) from by
          have h1 := HXT.out
          rw [← hm3] at h1
          simpa [MV.msg, length_recs] using h1)
        clear he6 hb6 hm3 HD5 HDL
        obtain ⟨h3, qA3, qc3, qp3, ⟨A30, k30, p30⟩, ⟨A31, k31, p31⟩, ⟨A32, k32, p32⟩⟩ := m3
        dsimp only at HXL HXT
        obtain ⟨W7, hW7⟩ : ∃ W7, W7 = w6.alloc (.cells #[.int .i64 h3.id, .bool h3.resp, .int .i64 h3.op, .bool h3.aa, .bool h3.tc, .bool h3.rd, .bool h3.ra, .int .i64 h3.rc, .slice qA3 qp3.length qc3, .slice A30 p30.length k30, .slice A31 p31.length k31, .slice A32 p32.length k32, .bool h3.edns, .int .i64 h3.size] 25) := ⟨_, rfl⟩
        have hb7 : Below w6.heap.size w6 W7 := by rw [hW7]; exact (Below.refl _ _).alloc (Nat.le_refl _) _
        have HB7 := Lib.hid (HB6.out.trans (hb7.mono HB6.out.size))
        have HW7 := Lib.hid (HW6.out.below hb7 HW6.out.lt)
        have HY7 := Lib.hid (show Whole W7 w6.heap.size 25 (cellsM h3 (.slice qA3 qp3.length qc3) (.slice A30 p30.length k30) (.slice A31 p31.length k31) (.slice A32 p32.length k32)) from by rw [hW7]; exact Whole.made w6 (cellsM h3 (.slice qA3 qp3.length qc3) (.slice A30 p30.length k30) (.slice A31 p31.length k31) (.slice A32 p32.length k32)) _)
        clear hb7
        go_wp2_with fail
        rw [← hW7]
        clear hW7
        refine (HA.out W7).mono ?_
        rintro e w8 ⟨rfl, hb8⟩
        have HB8 := Lib.hid (HB7.out.trans (hb8.mono HB7.out.size))
        have hm9 := Whole.cell (HW7.out.below hb8 HW7.out.lt) 9
        have hy4 := Whole.cell (HY7.out.below hb8 HY7.out.lt) 4
        have c9 : w8.cell? ⟨w.heap.size, 9, none⟩ = some (.slice A m c) := hm9
        have y4 : w8.cell? ⟨w6.heap.size, 4, none⟩ = some (.bool h3.tc) := hy4
        clear hb8 hm9 hy4 HW7 HY7 HB7 HB6 HB5 HW5 HW6 HWR HBR
        revert HXL HXT y4
        generalize p30.length = q
        generalize h3.tc = tc
        intro HXL HXT y4
        have hxl := HXL.out
        have hxt := HXT.out
        clear HXL HXT
        by_cases hqm : q < m
        · rw [decide_eq_true hqm] at hxt
          subst hxt
          have t1 : decide ((q : Int) < (m : Int)) = true := decide_eq_true (by omega)
          have t2 : decide (q < m) = true := decide_eq_true hqm
          clear hqm
          by_cases e0 : q = 0
          · have b0 : ((q : Int) == 0) = true := by rw [e0]; rfl
            clear e0 hxl
            go_wp2
            go_ret
            exact ⟨rfl, HB8.out⟩
          have b0 : ((q : Int) == 0) = false := by rw [beq_eq_false_iff_ne]; omega
          by_cases e1 : q = m0
          · have b1 : ((q : Int) == (m0 : Int)) = true := by rw [e1]; simp
            clear e0 e1 hxl
            go_wp2
            go_ret
            exact ⟨rfl, HB8.out⟩
          have b1 : ((q : Int) == (m0 : Int)) = false := by rw [beq_eq_false_iff_ne]; omega
          have b2 : ((q : Int) == (m : Int)) = true := by
            rw [beq_iff_eq]
            omega
          clear e0 e1 hxl
          go_wp2
          go_ret
          exact ⟨rfl, HB8.out⟩
        · rw [decide_eq_false hqm] at hxt
          subst hxt
          have t1 : decide ((q : Int) < (m : Int)) = false := decide_eq_false (by omega)
          have t2 : decide (q < m) = false := decide_eq_false hqm
          clear hqm
          by_cases e0 : q = 0
          · have b0 : ((q : Int) == 0) = true := by rw [e0]; rfl
            clear e0 hxl
            go_wp2
            go_ret
            exact ⟨rfl, HB8.out⟩
          have b0 : ((q : Int) == 0) = false := by rw [beq_eq_false_iff_ne]; omega
          by_cases e1 : q = m0
          · have b1 : ((q : Int) == (m0 : Int)) = true := by rw [e1]; simp
            clear e0 e1 hxl
            go_wp2
            go_ret
            exact ⟨rfl, HB8.out⟩
          have b1 : ((q : Int) == (m0 : Int)) = false := by rw [beq_eq_false_iff_ne]; omega
          have b2 : ((q : Int) == (m : Int)) = true := by
            rw [beq_iff_eq]
            omega
          clear e0 e1 hxl
          go_wp2
          go_ret
          exact ⟨rfl, HB8.out⟩
theorem csets_law (a b n : Int) (w : World) (ha : (Lit.int .u8 a).wf = true) (hb : (Lit.int .u8 b).wf = true) (hn : (Lit.int .u16 n).wf = true) : Calls Try.prog 9 #[.int .u8 a, .int .u8 b, .int .u16 n] w (TrueB w) := by
  have h1 : IntKind.u8.min = 0 := rfl
  have h2 : IntKind.u8.max = 255 := rfl
  have h3 : IntKind.u16.min = 0 := rfl
  have h4 : IntKind.u16.max = 65535 := rfl
  simp only [Lit.wf, Bool.and_eq_true, decide_eq_true_eq] at ha hb hn
  obtain ⟨a', rfl⟩ : ∃ m : Nat, a = m := ⟨a.toNat, by omega⟩
  obtain ⟨b', rfl⟩ : ∃ m : Nat, b = m := ⟨b.toNat, by omega⟩
  obtain ⟨n', rfl⟩ : ∃ m : Nat, n = m := ⟨n.toNat, by omega⟩
  exact csets_any a' b' n' w (by omega) (by omega) (by omega)

end Go.Proofs.Ytjkjhpaeckkpjaa

namespace Go.Proofs.Ytjkjhpaeckkpjaa
open Go.ChangeShapes Go.WideShapes Go.ChangeAt Go.RowKit

set_option maxRecDepth 100000 in
theorem csets_lifted (os : Os) (started : os.Started) (H : Type) (enc : TypeId × Value → H) :
    ReturnsInHanded {} Try.checked os 9 .any (Rows.cutSetsSpec.pre6 enc Try.prog Try.f9 Rows.cutSetsRow.domain false) (Rows.cutSetsSpec.post enc Try.prog Try.f9 false true false false) := by
  refine returnsInHanded_of_change_sized (C := Try.checked) Try.own started (by kernel_rfl) Try.func9
    (ChangeSpec.witness6 (enc := enc) (C := Try.checked) false ⟨#[], #[.int .u8 0, .int .u8 0, .int .u16 0], []⟩ 8 (by kernel_rfl) (by kernel_rfl) (by kernel_rfl) (by kernel_rfl)) ?_
  intro W base args ds gs before hval0 hW _ hsz0 _
  have hsz : (DataW.weightsEach Try.prog (Try.f9.params.toList ++ Rows.cutSetsSpec.plain.varTypes Try.prog) (ds ++ gs)).all (· ≤ reachBytes) = true := hsz0
  clear hsz0
  have hval : ∀ (j : Nat) t v, Try.f9.params[j]? = some t → args[j]? = some v → Value.okWide Try.prog W .any base t v := hval0
  have hW' := hW
  obtain ⟨p, q, hA0, hV, rfl, _, _⟩ := hW
  have hA : DataW.TrodAll enc Try.prog W 0 (fun _ => true) true Try.f9.params.toList args.toList ds p := hA0
  rw [Try.params9] at hA hval hsz
  obtain ⟨v0, v1, v2, d0, d1, d2, p0, p1, p2, rfl, rfl, rfl, h0, h1, h2⟩ := trodAll_three hA
  obtain ⟨rfl, rfl⟩ := trodVars_none hV
  obtain ⟨n0, rfl, rfl, rfl, w0⟩ := open_int Try.underlying5 (hval 0 5 v0 rfl rfl) h0
  obtain ⟨n1, rfl, rfl, rfl, w1⟩ := open_int Try.underlying5 (hval 1 5 v1 rfl rfl) h1
  obtain ⟨n2, rfl, rfl, rfl, w2⟩ := open_int Try.underlying38 (hval 2 38 v2 rfl rfl) h2
  have key : Calls Try.prog 9 #[.int .u8 n0, .int .u8 n1, .int .u16 n2] W (TrueB W) := by
    exact csets_law n0 n1 n2 W w0 w1 w2
  refine key.mono fun e W' ⟨he, hb⟩ => ?_
  subst he
  exact ⟨_, rfl, law_post (P := Try.prog) (tb := 4) Try.laidOut (by kernel_rfl) (by kernel_rfl) (by kernel_rfl) Try.underlying4 rfl hW' rfl rfl rfl hb⟩

theorem csets_holds : Rows.CutSetsSaid :=
  OpenClaim.holds_of_wide 9 Try.f9 rfl rfl rfl rfl rfl rfl rfl ⟨rfl, rfl, rfl, rfl, rfl⟩ rfl rfl rfl rfl rfl (by kernel_rfl) Try.func9 (by kernel_rfl)
    (of_decide_eq_true (by kernel_rfl)) (by unfold Func.isWrapper; first | (rw [if_pos (by decide +kernel)]; kernel_rfl) | (rw [if_neg (by decide +kernel)]; exact ⟨rfl, rfl⟩))
    (fun os started H enc _ => csets_lifted os started H enc)

end Go.Proofs.Ytjkjhpaeckkpjaa
