/-
  RdataTexts: texts may be just so many, and just so long.
-/
import Derived.Test.YtfehbkandfdepaaDSound
import Derived.Test.YtfehbkandfdepaaDAnswers
import Derived.Test.YtfehbkandfdepaaOwnD
namespace Go.Proofs.Ytfehbkandfdepaa
open Go.RowKit

/-- k bytes that are zero (a definition, so that the walk leaves it standing). -/
def zerosB (k : Nat) : List UInt8 := List.replicate k 0
theorem length_zerosB (k : Nat) : (zerosB k).length = k := by simp [zerosB]
theorem cut_zeros {k p : Nat} (h : p < k) : numN (cutL (zerosB k) p 1) = 0 := by
  have e : cutL (zerosB k) p 1 = [0] := by
    unfold cutL zerosB
    rw [List.drop_replicate, List.take_replicate, Nat.min_eq_left (by omega)]
    rfl
  rw [e]
  rfl
theorem texts_zeros {k : Nat} : ∀ (d p : Nat) (acc : List (List UInt8)), k - p = d → p ≤ k → acc.length = p → p ≤ 64 → 0 < k →
    (k ≤ 64 → ∃ l, textsR (zerosB k) p k acc = .ok (l, k)) ∧ (64 < k → textsR (zerosB k) p k acc = .error 4)
  | 0, p, acc, hd, hp, ha, h64, hk => by
    refine ⟨fun h => ?_, fun h => by omega⟩
    obtain rfl : p = k := by omega
    exact ⟨acc, textsR_end (Nat.le_refl _) (fun e => by rw [e] at ha; simp at ha; omega)⟩
  | d + 1, p, acc, hd, hp, ha, h64, hk => by
    have hlt : p < k := by omega
    have hz := cut_zeros hlt
    by_cases h : acc.length = 64
    · refine ⟨fun hk => by omega, fun _ => textsR_large hlt h⟩
    · have hn := textsR_next (b := zerosB k) (acc := acc) hlt h (by rw [hz]; omega)
      rw [hz] at hn
      rw [hn]
      exact texts_zeros d (p + 1 + 0) _ (by omega) (by omega) (by rw [List.length_append]; simp; omega) (by omega) hk
theorem get_zeros_ok {k : Nat} (h0 : 0 < k) (h : k ≤ 64) : ∃ d, getD (zerosB k) 0 k 16 = (d, 0) := by
  obtain ⟨l, hl⟩ := (texts_zeros (k := k) (k - 0) 0 [] rfl (by omega) rfl (by omega) h0).1 h
  refine ⟨⟨[], [], [], [], l⟩, ?_⟩
  unfold getD
  rw [if_neg (by simp [kindB]), if_neg (by rw [length_zerosB]; omega)]
  have e : readD (zerosB k) (0 : Int).toNat ((0 : Int) + (k : Int)).toNat (shN 16) = .ok ⟨[], [], [], [], l⟩ := by
    rw [show ((0 : Int) + (k : Int)).toNat = k by omega, show (0 : Int).toNat = 0 from rfl]
    have hs : shN 16 = ⟨0, false, false, false, 0, true, 0, 0⟩ := by simp [shN]
    rw [hs]
    simp [readD, numsR, numsL, bind, Except.bind, hl, bytesR, cutL]
  rw [e]
theorem get_zeros_large {k : Nat} (h : 64 < k) : getD (zerosB k) 0 k 16 = (⟨[], [], [], [], []⟩, 4) := by
  have hl := (texts_zeros (k := k) (k - 0) 0 [] rfl (by omega) rfl (by omega) (by omega)).2 h
  unfold getD
  rw [if_neg (by simp [kindB]), if_neg (by rw [length_zerosB]; omega)]
  have e : readD (zerosB k) (0 : Int).toNat ((0 : Int) + (k : Int)).toNat (shN 16) = .error 4 := by
    rw [show ((0 : Int) + (k : Int)).toNat = k by omega, show (0 : Int).toNat = 0 from rfl]
    have hs : shN 16 = ⟨0, false, false, false, 0, true, 0, 0⟩ := by simp [shN]
    rw [hs]
    simp [readD, numsR, numsL, bind, Except.bind, hl]
  rw [e]
theorem get_none : getD [] 0 0 16 = (⟨[], [], [], [], []⟩, 2) := by
  unfold getD
  rw [if_neg (by simp [kindB]), if_neg (by simp)]
  have hs : shN 16 = ⟨0, false, false, false, 0, true, 0, 0⟩ := by simp [shN]
  rw [hs]
  have h := textsR_none (b := []) (p := 0) (en := 0) (Nat.le_refl _)
  simp [readD, numsR, numsL, bind, Except.bind, h]
theorem sound_texts (l : List (List UInt8)) : soundD 16 ⟨[], [], [], [], l⟩ = (l.all (fun t => decide (t.length ≤ 255)) && (decide (1 ≤ l.length) && decide (l.length ≤ 64))) := by
  have hs : shN 16 = ⟨0, false, false, false, 0, true, 0, 0⟩ := by simp [shN]
  simp [soundD, hs, kindB, soundBs, soundNm, soundNs, numsOk, soundTs]

theorem u8_bd2 {n : Int} (h : (Lit.int .u8 n).wf = true) : 0 ≤ n ∧ n < 256 := by
  have h1 : IntKind.u8.min = 0 := rfl
  have h2 : IntKind.u8.max = 255 := rfl
  simp only [Lit.wf, Bool.and_eq_true, decide_eq_true_eq] at h
  omega
theorem zeros_cells (k : Nat) : zerosL (.int .u8 0) k = (zerosB k).map bc := by simp [zerosL, zerosB, bc]
theorem bc_of_nat {n : Nat} (h : n < 256) : Value.int .u8 (n : Int) = bc (UInt8.ofNat n) := by
  unfold bc
  rw [UInt8.toNat_ofNat', Nat.mod_eq_of_lt (by omega)]
def FillRel (w : World) (n : Nat) (i : Value) (wr : World) : Prop :=
  ∃ (k : Nat) (l : List UInt8), k ≤ n ∧ i = .int .i64 k ∧ l.length = n ∧ Whole wr w.heap.size 5 (l.map bc) ∧ Below w.heap.size w wr ∧ wr.heap.size = w.heap.size + 1
/-- k texts of one letter. -/
def manyX (k : Nat) : List (List UInt8) := List.replicate k [120]
theorem length_manyX (k : Nat) : (manyX k).length = k := by simp [manyX]
theorem manyX_succ (k : Nat) : manyX (k + 1) = manyX k ++ [[120]] := by simp [manyX, List.replicate_succ']
structure TS (w : World) (K : Nat) (At : Option Addr) (ct ge : Nat) (l : List UInt8) (W : World) : Prop where
  d : Whole W (w.heap.size + 1) 26 [.slice none 0 0, .slice none 0 0, .slice none 0 0, .slice none 0 0, .slice At K ct]
  t : W.ownsRow (w.heap.size + 2) 9 1 (.slice At K ct) K ((manyX K).map sv)
  e : Whole W (ge + 1) 26 [.slice none 0 0, .slice none 0 0, .slice none 0 0, .slice none 0 0, .slice (some ⟨ge, 0, none⟩) 1 1]
  s : Whole W ge 9 [sv l]
  below : Below w.heap.size w W
  size : w.heap.size ≤ W.heap.size
theorem TS.step {w W W' : World} {K ct ge : Nat} {At : Option Addr} {l : List UInt8} (h : TS w K At ct ge l W) (hb : Below W.heap.size W W') : TS w K At ct ge l W' :=
  ⟨h.d.below hb h.d.lt, own_keep h.t fun g e => hb.block g (h.t.lt g e).2, h.e.below hb h.e.lt, h.s.below hb h.s.lt, h.below.trans (hb.mono h.size), Nat.le_trans h.size hb.size⟩
theorem TS.alloc {w W : World} {K ct ge : Nat} {At : Option Addr} {l : List UInt8} (h : TS w K At ct ge l W) (o : Obj) : TS w K At ct ge l (W.alloc o) := h.step ((Below.refl _ _).alloc (Nat.le_refl _) o)

def GrowRel (w : World) (g : Nat) (l : List UInt8) (n : Nat) (i : Value) (wr : World) : Prop :=
  ∃ (k : Nat) (vt : Value), k ≤ n ∧ i = .int .i64 k ∧ Whole wr (g + 1) 26 [.slice none 0 0, .slice none 0 0, .slice none 0 0, .slice none 0 0, vt] ∧ wr.ownsRow (g + 2) 9 1 vt k ((manyX k).map sv) ∧ Whole wr g 5 (l.map bc) ∧ Below w.heap.size w wr ∧ g + 2 ≤ wr.heap.size

set_option maxRecDepth 20000 in
set_option maxHeartbeats 8000000 in
theorem rtexts_le (n1 n2 n3 K L : Nat) (w : World) (h3 : n3 < 256) (e1 : (60 : Int) + (n1 : Int) % 8 = (K : Int)) (e2 : (250 : Int) + (n2 : Int) % 10 = (L : Int)) (hK : K ≤ 64) (hK1 : 1 ≤ K) (hK2 : K ≤ 70) (hL2 : L ≤ 300) :
    Calls Try.prog 6 #[.int .u8 n1, .int .u8 n2, .int .u8 n3] w (TrueB w) := by
  obtain ⟨i0, hi0, hz0, hz1, hz2⟩ := info_parts u8_info
  obtain ⟨is, his, hs0, hs1, hs2⟩ := info_parts str_info
  have HL0 := Lib.hid (bc_of_nat h3)
  have HSX := Lib.hid (fun W At ct (hr : Row W W.heap.size At ((manyX K).map sv)) (hc : K ≤ ct) => by
    have h := dsound_any 16 ⟨none, none, none, none, At, 0, 0, 0, 0, ct⟩ ⟨[], [], [], [], manyX K⟩ W ⟨Row.empty _ _ _, Row.empty _ _ _, Row.empty _ _ _, Row.empty _ _ _, hr, Nat.le_refl _, Nat.le_refl _, Nat.le_refl _, Nat.le_refl _, by rw [length_manyX]; exact hc, Nat.zero_le _, Nat.zero_le _⟩
      (by show szN [] ≤ maxLen; decide) (by show szN [] ≤ maxLen; decide) (by rw [length_manyX]; unfold maxLen; omega) (fun k hk => by simp [manyX, maxLen])
    rw [sound_texts, length_manyX, show (manyX K).all (fun t => decide (t.length ≤ 255)) = true by simp [manyX], show (true && (decide (1 ≤ K) && decide (K ≤ 64))) = true by simp; omega] at h
    simp only [DV.val, length_manyX, List.length_nil] at h
    exact h)
  have hq0 : (decide ((L : Int) ≤ 255) == decide ((L : Int) ≤ 255)) = true := by simp
  have HSE := Lib.hid (fun W At ct (s : List UInt8) (hs : s.length = L) (hr : Row W W.heap.size At [sv s]) (hc : 1 ≤ ct) => by
    have hone : ∀ k (h : k < [s].length), ([s][k]).length ≤ maxLen := by
      intro k hk
      have h0 : k = 0 := by simpa using hk
      subst h0
      simp [hs, maxLen]
      omega
    have h := dsound_any 16 ⟨none, none, none, none, At, 0, 0, 0, 0, ct⟩ ⟨[], [], [], [], [s]⟩ W ⟨Row.empty _ _ _, Row.empty _ _ _, Row.empty _ _ _, Row.empty _ _ _, hr, Nat.le_refl _, Nat.le_refl _, Nat.le_refl _, Nat.le_refl _, hc, Nat.zero_le _, Nat.zero_le _⟩
      (by show szN [] ≤ maxLen; decide) (by show szN [] ≤ maxLen; decide) (by unfold maxLen; simp) hone
    rw [sound_texts, show ([s].all (fun t => decide (t.length ≤ 255)) && (decide (1 ≤ [s].length) && decide ([s].length ≤ 64))) = decide ((L : Int) ≤ 255) by simp [hs]; omega] at h
    simp only [DV.val, List.length_cons, List.length_nil, Nat.zero_add] at h
    exact h)
  have HG1 := Lib.hid (fun W A c hr hc1 hc2 => dget_any A K c (zerosB K) 0 K 16 W (length_zerosB K) hr hc1 hc2 (by omega))
  have HG2 := Lib.hid (fun W => dget_any none 0 0 [] 0 0 16 W rfl (Row.empty _ _ _) (Nat.le_refl _) (Nat.zero_le _) (by omega))
  rw [get_none] at HG2
  obtain ⟨dz, hdz⟩ : ∃ dz, getD (zerosB K) 0 K 16 = (dz, 0) := by exact get_zeros_ok hK1 hK
  rw [hdz] at HG1
  have dK : decide ((64 : Int) < (K : Int)) = false := by simp; omega
  have dK2 : decide ((K : Int) ≤ 64) = true := by simp; omega
  clear hdz h3
  go_enter Try.func6, Try.ntmps6
  go_wp2_with (refine wpList_make_zeros rfl (.tmp 28) (.tmp 28) _ rfl 5 i0 _ 1 Try.underlying22 hi0 hz0 hz1 hz2 rfl .i64 .i64 _ _ L L rfl rfl rfl rfl (Nat.le_refl _) (by omega) (by unfold maxLen; omega) ?_)
  obtain ⟨W0, hW0⟩ : ∃ W0, W0 = w.alloc (.cells (zerosL (.int .u8 0) L).toArray 5) := ⟨_, rfl⟩
  rw [← hW0]
  have hw0 : Whole W0 w.heap.size 5 ((zerosB L).map bc) := by rw [hW0, zeros_cells]; exact Whole.made w _ _
  have hb0 : Below w.heap.size w W0 := by rw [hW0]; exact (Below.refl _ _).alloc (Nat.le_refl _) _
  have hs0' : W0.heap.size = w.heap.size + 1 := by rw [hW0]; simp
  have HW0 := Lib.hid hw0
  have HB0 := Lib.hid hb0
  have HS0 := Lib.hid hs0'
  clear hW0 hw0 hb0 hs0'
  go_loopw [10] (FillRel w L) (fun i _ => L - (intOf i).toNat)
  case atStart => exact ⟨0, zerosB L, Nat.zero_le _, rfl, length_zerosB L, HW0.out, HB0.out, HS0.out⟩
  case round =>
    obtain ⟨k, l, hk, rfl, hll, hwh, hbw, hsz⟩ := hrel
    have HLL := Lib.hid hll
    have HWH := Lib.hid hwh
    have HBW := Lib.hid hbw
    have HSZ := Lib.hid hsz
    clear hll hwh hbw hsz
    by_cases hlt : k < L
    · have hcc : wr.cell? ⟨w.heap.size, k, none⟩ = some (bc (l[k]'(by rw [HLL.out]; exact hlt))) := by
        rw [HWH.out.cell k, List.getElem?_map, List.getElem?_eq_getElem (by rw [HLL.out]; exact hlt)]
        rfl
      have hf : wr.frozen? ⟨w.heap.size, k, none⟩ = false := HWH.out.frozen k
      go_wp2
      refine ⟨⟨k + 1, l.set k (UInt8.ofNat n3), hlt, by go_num, by rw [List.length_set]; exact HLL.out, ?_, HBW.out.setCell (Nat.le_refl _) _, by simpa using HSZ.out⟩, by simp [intOf]; omega⟩
      rw [List.map_set, ← HL0.out]
      exact HWH.out.set_ k _
    · obtain rfl : k = L := by omega
      obtain ⟨LL, rfl⟩ : ∃ LL, LL = k := ⟨_, rfl⟩
      go_wp2
      obtain ⟨W1, hW1⟩ : ∃ W1, W1 = wr.alloc (.cells #[.slice none 0 0, .slice none 0 0, .slice none 0 0, .slice none 0 0, .slice none 0 0] 26) := ⟨_, rfl⟩
      rw [← hW1]
      have hgd : Whole W1 (w.heap.size + 1) 26 [.slice none 0 0, .slice none 0 0, .slice none 0 0, .slice none 0 0, .slice none 0 0] := by
        have := Whole.made wr [.slice none 0 0, .slice none 0 0, .slice none 0 0, .slice none 0 0, .slice none 0 0] 26
        rw [HSZ.out] at this
        rw [hW1]
        exact this
      have hwl : Whole W1 w.heap.size 5 (l.map bc) := by rw [hW1]; exact HWH.out.alloc _
      have hb1 : Below w.heap.size w W1 := by rw [hW1]; exact HBW.out.alloc (by have := HSZ.out; omega) _
      have hs1' : w.heap.size + 2 ≤ W1.heap.size := by rw [hW1]; have := HSZ.out; simp; omega
      have HGD := Lib.hid hgd
      have HWL := Lib.hid hwl
      have HB1 := Lib.hid hb1
      have HS1 := Lib.hid hs1'
      rw [HSZ.out]
      clear hW1 hgd hwl hb1 hs1' HW0 HB0 HS0 HWH HBW HSZ
      go_loopw [12] (GrowRel w w.heap.size l K) (fun i _ => K - (intOf i).toNat)
      case atStart => exact ⟨0, .slice none 0 0, Nat.zero_le _, rfl, HGD.out, World.ownsRow_nil _ _ _ _, HWL.out, HB1.out, HS1.out⟩
      case round =>
        obtain ⟨k, vt, hk, rfl, hgd, ho, hwl, hbw, hsz⟩ := hrel
        obtain ⟨At, ct, rfl, _, hct⟩ := own_form ho
        have c4 : wr.cell? ⟨w.heap.size + 1, 4, none⟩ = some (.slice At k ct) := hgd.cell 4
        have f4 : wr.frozen? ⟨w.heap.size + 1, 4, none⟩ = false := hgd.frozen 4
        have HGD := Lib.hid hgd
        have HO := Lib.hid ho
        have HWL := Lib.hid hwl
        have HBW := Lib.hid hbw
        clear hgd ho hwl hbw
        by_cases hlt : k < K
        · have hrm := Row.made wr #[.string ⟨#[120]⟩] 9
          have HRM := Lib.hid hrm
          clear hrm
          go_wp2_with (
            at_builtin
            refine wpList_append_at rfl (.tmp 46) (.tmp 47) _ rfl (w.heap.size + 2) 9 is _ 1 16 Try.underlying23 his hs0 hs1 hs2 rfl (by omega) (.slice At k ct) k _ rfl (HO.out.alloc _)
              (some ⟨wr.heap.size, 0, none⟩) 1 1 (wr.heap.size + 1) [.string ⟨#[120]⟩] rfl rfl HRM.out (by simp [Value.oneCell']) (by unfold maxLen; omega) (by omega) (by simp; omega) ?_
            intro v2 w2 hown2 hg2 hat2
            obtain ⟨A2, c2, rfl, _, _⟩ := own_form hown2
            have hgd2 : Whole w2 (w.heap.size + 1) 26 [.slice none 0 0, .slice none 0 0, .slice none 0 0, .slice none 0 0, .slice At k ct] := (HGD.out.alloc _).grown hg2 (fun e => own_not_whole HO.out HGD.out (by decide) e.symm)
            have hwl2 : Whole w2 w.heap.size 5 (l.map bc) := (HWL.out.alloc _).grown hg2 (fun e => own_not_whole HO.out HWL.out (by decide) e.symm)
            have hb2 := own_below (HBW.out.alloc (by omega) _) (by omega : w.heap.size ≤ w.heap.size + 2) (by simp; omega) (HO.out.alloc _) hg2
            have hz2 := hg2.size
            simp at hz2
            have HO2 := Lib.hid hown2
            have HGD2 := Lib.hid hgd2
            have HWL2 := Lib.hid hwl2
            have HB2 := Lib.hid hb2
            have c42 : w2.cell? ⟨w.heap.size + 1, 4, none⟩ = some (.slice At k ct) := hgd2.cell 4
            have f42 : w2.frozen? ⟨w.heap.size + 1, 4, none⟩ = false := hgd2.frozen 4
            clear hown2 hg2 hat2 hgd2 hwl2 hb2)
          refine ⟨⟨k + 1, .slice A2 (k + 1) c2, hlt, by go_num, HGD2.out.set_ 4 _, ?_, ?_, ?_, by simp; omega⟩, by simp [intOf]; omega⟩
          · rw [manyX_succ, List.map_append]
            exact own_set_far HO2.out (own_not_whole HO2.out HGD2.out (by decide)) _
          · exact HWL2.out.keep (Below.heap_setCell w2 ⟨w.heap.size + 1, 4, none⟩ _ _ (by simp))
          · exact HB2.out.setCell (p := ⟨w.heap.size + 1, 4, none⟩) (by simp) _
        · obtain rfl : k = K := by omega
          obtain ⟨KK, rfl⟩ : ∃ KK, KK = k := ⟨_, rfl⟩
          have hcv := convert_row_run (P := Try.prog) wr 22 9 5 Try.underlying22 Try.underlying5 Try.underlying9 _ LL LL _ l HLL.out HWL.out.row
          go_wp2_with (refine wpList_make_zeros rfl (.tmp 54) (.tmp 54) _ rfl 5 i0 _ 1 Try.underlying22 hi0 hz0 hz1 hz2 rfl .i64 .i64 _ _ KK KK rfl rfl rfl rfl (Nat.le_refl _) (by omega) (by unfold maxLen; omega) ?_)
          have hts : TS w KK At ct wr.heap.size l (((wr.alloc (.cells #[.string ⟨l.toArray⟩] 9)).alloc (.cells #[.slice none 0 0, .slice none 0 0, .slice none 0 0, .slice none 0 0, .slice (some ⟨wr.heap.size, 0, none⟩) 1 1] 26)).alloc (.cells (zerosL (.int .u8 0) KK).toArray 5)) := by
            refine ⟨((HGD.out.alloc _).alloc _).alloc _, ((HO.out.alloc _).alloc _).alloc _, ?_, ((Whole.made wr [sv l] _).alloc _).alloc _, ((HBW.out.alloc (by omega) _).alloc (by simp; omega) _).alloc (by simp; omega) _, by simp; omega⟩
            have := Whole.made (wr.alloc (.cells #[.string ⟨l.toArray⟩] 9)) [.slice none 0 0, .slice none 0 0, .slice none 0 0, .slice none 0 0, .slice (some ⟨wr.heap.size, 0, none⟩) 1 1] 26
            refine Whole.alloc ?_ _
            simpa using this
          have hrz : Row (((wr.alloc (.cells #[.string ⟨l.toArray⟩] 9)).alloc (.cells #[.slice none 0 0, .slice none 0 0, .slice none 0 0, .slice none 0 0, .slice (some ⟨wr.heap.size, 0, none⟩) 1 1] 26)).alloc (.cells (zerosL (.int .u8 0) KK).toArray 5)) (wr.heap.size + 1 + 1 + 1) (some ⟨wr.heap.size + 1 + 1, 0, none⟩) ((zerosB KK).map bc) := by
            have := Row.made ((wr.alloc (.cells #[.string ⟨l.toArray⟩] 9)).alloc (.cells #[.slice none 0 0, .slice none 0 0, .slice none 0 0, .slice none 0 0, .slice (some ⟨wr.heap.size, 0, none⟩) 1 1] 26)) (zerosL (.int .u8 0) KK).toArray 5
            rw [← zeros_cells]
            simpa using this
          have HTS := Lib.hid hts
          have HRZ := Lib.hid hrz
          clear hts hrz HGD HO HWL HBW c4 f4 hcv
          go_wp2_with fail
          refine (HG1.out _ _ KK (by simpa using HRZ.out) (Nat.le_refl _) (by unfold maxLen; omega)).mono ?_
          rintro e W7 ⟨y7, rfl, _, hb⟩
          have HT7 := Lib.hid (HTS.out.step hb)
          clear hb HTS HRZ
          go_wp2_with fail
          refine (HG2.out _).mono ?_
          rintro e W8 ⟨y8, rfl, _, hb⟩
          have HT8 := Lib.hid ((HT7.out.alloc _).step hb)
          clear hb HT7
          go_wp2_with fail
          refine (danswers_any _).mono ?_
          rintro e W9 ⟨rfl, hb⟩
          have ht9 := (HT8.out.alloc _).step hb
          have c0 : W9.cell? ⟨w.heap.size + 1, 0, none⟩ = some (.slice none 0 0) := ht9.d.cell 0
          have c1 : W9.cell? ⟨w.heap.size + 1, 1, none⟩ = some (.slice none 0 0) := ht9.d.cell 1
          have c2 : W9.cell? ⟨w.heap.size + 1, 2, none⟩ = some (.slice none 0 0) := ht9.d.cell 2
          have c3 : W9.cell? ⟨w.heap.size + 1, 3, none⟩ = some (.slice none 0 0) := ht9.d.cell 3
          have c4 : W9.cell? ⟨w.heap.size + 1, 4, none⟩ = some (.slice At KK ct) := ht9.d.cell 4
          have HT9 := Lib.hid ht9
          clear hb HT8 ht9
          go_wp2_with fail
          refine (HSX.out _ _ _ (Row.of_own HT9.out.t) (own_cap HT9.out.t)).mono ?_
          rintro e W10 ⟨rfl, hb⟩
          have ht10 := HT9.out.step hb
          clear c0 c1 c2 c3 c4
          have c0 : W10.cell? ⟨wr.heap.size + 1, 0, none⟩ = some (.slice none 0 0) := ht10.e.cell 0
          have c1 : W10.cell? ⟨wr.heap.size + 1, 1, none⟩ = some (.slice none 0 0) := ht10.e.cell 1
          have c2 : W10.cell? ⟨wr.heap.size + 1, 2, none⟩ = some (.slice none 0 0) := ht10.e.cell 2
          have c3 : W10.cell? ⟨wr.heap.size + 1, 3, none⟩ = some (.slice none 0 0) := ht10.e.cell 3
          have c4 : W10.cell? ⟨wr.heap.size + 1, 4, none⟩ = some (.slice (some ⟨wr.heap.size, 0, none⟩) 1 1) := ht10.e.cell 4
          have HT10 := Lib.hid ht10
          clear hb HT9 ht10
          go_wp2_with fail
          refine (HSE.out _ _ 1 l HLL.out HT10.out.s.row (Nat.le_refl _)).mono ?_
          rintro e W11 ⟨rfl, hb⟩
          have HT11 := Lib.hid (HT10.out.step hb)
          clear hb HT10 c0 c1 c2 c3 c4
          go_wp2
          go_ret
          exact ⟨rfl, HT11.out.below⟩

set_option maxRecDepth 20000 in
set_option maxHeartbeats 8000000 in
theorem rtexts_gt (n1 n2 n3 K L : Nat) (w : World) (h3 : n3 < 256) (e1 : (60 : Int) + (n1 : Int) % 8 = (K : Int)) (e2 : (250 : Int) + (n2 : Int) % 10 = (L : Int)) (hK : 64 < K) (hK1 : 1 ≤ K) (hK2 : K ≤ 70) (hL2 : L ≤ 300) :
    Calls Try.prog 6 #[.int .u8 n1, .int .u8 n2, .int .u8 n3] w (TrueB w) := by
  obtain ⟨i0, hi0, hz0, hz1, hz2⟩ := info_parts u8_info
  obtain ⟨is, his, hs0, hs1, hs2⟩ := info_parts str_info
  have HL0 := Lib.hid (bc_of_nat h3)
  have HSX := Lib.hid (fun W At ct (hr : Row W W.heap.size At ((manyX K).map sv)) (hc : K ≤ ct) => by
    have h := dsound_any 16 ⟨none, none, none, none, At, 0, 0, 0, 0, ct⟩ ⟨[], [], [], [], manyX K⟩ W ⟨Row.empty _ _ _, Row.empty _ _ _, Row.empty _ _ _, Row.empty _ _ _, hr, Nat.le_refl _, Nat.le_refl _, Nat.le_refl _, Nat.le_refl _, by rw [length_manyX]; exact hc, Nat.zero_le _, Nat.zero_le _⟩
      (by show szN [] ≤ maxLen; decide) (by show szN [] ≤ maxLen; decide) (by rw [length_manyX]; unfold maxLen; omega) (fun k hk => by simp [manyX, maxLen])
    rw [sound_texts, length_manyX, show (manyX K).all (fun t => decide (t.length ≤ 255)) = true by simp [manyX], show (true && (decide (1 ≤ K) && decide (K ≤ 64))) = false by simp; omega] at h
    simp only [DV.val, length_manyX, List.length_nil] at h
    exact h)
  have hq0 : (decide ((L : Int) ≤ 255) == decide ((L : Int) ≤ 255)) = true := by simp
  have HSE := Lib.hid (fun W At ct (s : List UInt8) (hs : s.length = L) (hr : Row W W.heap.size At [sv s]) (hc : 1 ≤ ct) => by
    have hone : ∀ k (h : k < [s].length), ([s][k]).length ≤ maxLen := by
      intro k hk
      have h0 : k = 0 := by simpa using hk
      subst h0
      simp [hs, maxLen]
      omega
    have h := dsound_any 16 ⟨none, none, none, none, At, 0, 0, 0, 0, ct⟩ ⟨[], [], [], [], [s]⟩ W ⟨Row.empty _ _ _, Row.empty _ _ _, Row.empty _ _ _, Row.empty _ _ _, hr, Nat.le_refl _, Nat.le_refl _, Nat.le_refl _, Nat.le_refl _, hc, Nat.zero_le _, Nat.zero_le _⟩
      (by show szN [] ≤ maxLen; decide) (by show szN [] ≤ maxLen; decide) (by unfold maxLen; simp) hone
    rw [sound_texts, show ([s].all (fun t => decide (t.length ≤ 255)) && (decide (1 ≤ [s].length) && decide ([s].length ≤ 64))) = decide ((L : Int) ≤ 255) by simp [hs]; omega] at h
    simp only [DV.val, List.length_cons, List.length_nil, Nat.zero_add] at h
    exact h)
  have HG1 := Lib.hid (fun W A c hr hc1 hc2 => dget_any A K c (zerosB K) 0 K 16 W (length_zerosB K) hr hc1 hc2 (by omega))
  have HG2 := Lib.hid (fun W => dget_any none 0 0 [] 0 0 16 W rfl (Row.empty _ _ _) (Nat.le_refl _) (Nat.zero_le _) (by omega))
  rw [get_none] at HG2
  obtain ⟨dz, hdz⟩ : ∃ dz, getD (zerosB K) 0 K 16 = (dz, 4) := by exact ⟨_, get_zeros_large hK⟩
  rw [hdz] at HG1
  have dK : decide ((64 : Int) < (K : Int)) = true := by simp; omega
  have dK2 : decide ((K : Int) ≤ 64) = false := by simp; omega
  clear hdz h3
  go_enter Try.func6, Try.ntmps6
  go_wp2_with (refine wpList_make_zeros rfl (.tmp 28) (.tmp 28) _ rfl 5 i0 _ 1 Try.underlying22 hi0 hz0 hz1 hz2 rfl .i64 .i64 _ _ L L rfl rfl rfl rfl (Nat.le_refl _) (by omega) (by unfold maxLen; omega) ?_)
  obtain ⟨W0, hW0⟩ : ∃ W0, W0 = w.alloc (.cells (zerosL (.int .u8 0) L).toArray 5) := ⟨_, rfl⟩
  rw [← hW0]
  have hw0 : Whole W0 w.heap.size 5 ((zerosB L).map bc) := by rw [hW0, zeros_cells]; exact Whole.made w _ _
  have hb0 : Below w.heap.size w W0 := by rw [hW0]; exact (Below.refl _ _).alloc (Nat.le_refl _) _
  have hs0' : W0.heap.size = w.heap.size + 1 := by rw [hW0]; simp
  have HW0 := Lib.hid hw0
  have HB0 := Lib.hid hb0
  have HS0 := Lib.hid hs0'
  clear hW0 hw0 hb0 hs0'
  go_loopw [10] (FillRel w L) (fun i _ => L - (intOf i).toNat)
  case atStart => exact ⟨0, zerosB L, Nat.zero_le _, rfl, length_zerosB L, HW0.out, HB0.out, HS0.out⟩
  case round =>
    obtain ⟨k, l, hk, rfl, hll, hwh, hbw, hsz⟩ := hrel
    have HLL := Lib.hid hll
    have HWH := Lib.hid hwh
    have HBW := Lib.hid hbw
    have HSZ := Lib.hid hsz
    clear hll hwh hbw hsz
    by_cases hlt : k < L
    · have hcc : wr.cell? ⟨w.heap.size, k, none⟩ = some (bc (l[k]'(by rw [HLL.out]; exact hlt))) := by
        rw [HWH.out.cell k, List.getElem?_map, List.getElem?_eq_getElem (by rw [HLL.out]; exact hlt)]
        rfl
      have hf : wr.frozen? ⟨w.heap.size, k, none⟩ = false := HWH.out.frozen k
      go_wp2
      refine ⟨⟨k + 1, l.set k (UInt8.ofNat n3), hlt, by go_num, by rw [List.length_set]; exact HLL.out, ?_, HBW.out.setCell (Nat.le_refl _) _, by simpa using HSZ.out⟩, by simp [intOf]; omega⟩
      rw [List.map_set, ← HL0.out]
      exact HWH.out.set_ k _
    · obtain rfl : k = L := by omega
      obtain ⟨LL, rfl⟩ : ∃ LL, LL = k := ⟨_, rfl⟩
      go_wp2
      obtain ⟨W1, hW1⟩ : ∃ W1, W1 = wr.alloc (.cells #[.slice none 0 0, .slice none 0 0, .slice none 0 0, .slice none 0 0, .slice none 0 0] 26) := ⟨_, rfl⟩
      rw [← hW1]
      have hgd : Whole W1 (w.heap.size + 1) 26 [.slice none 0 0, .slice none 0 0, .slice none 0 0, .slice none 0 0, .slice none 0 0] := by
        have := Whole.made wr [.slice none 0 0, .slice none 0 0, .slice none 0 0, .slice none 0 0, .slice none 0 0] 26
        rw [HSZ.out] at this
        rw [hW1]
        exact this
      have hwl : Whole W1 w.heap.size 5 (l.map bc) := by rw [hW1]; exact HWH.out.alloc _
      have hb1 : Below w.heap.size w W1 := by rw [hW1]; exact HBW.out.alloc (by have := HSZ.out; omega) _
      have hs1' : w.heap.size + 2 ≤ W1.heap.size := by rw [hW1]; have := HSZ.out; simp; omega
      have HGD := Lib.hid hgd
      have HWL := Lib.hid hwl
      have HB1 := Lib.hid hb1
      have HS1 := Lib.hid hs1'
      rw [HSZ.out]
      clear hW1 hgd hwl hb1 hs1' HW0 HB0 HS0 HWH HBW HSZ
      go_loopw [12] (GrowRel w w.heap.size l K) (fun i _ => K - (intOf i).toNat)
      case atStart => exact ⟨0, .slice none 0 0, Nat.zero_le _, rfl, HGD.out, World.ownsRow_nil _ _ _ _, HWL.out, HB1.out, HS1.out⟩
      case round =>
        obtain ⟨k, vt, hk, rfl, hgd, ho, hwl, hbw, hsz⟩ := hrel
        obtain ⟨At, ct, rfl, _, hct⟩ := own_form ho
        have c4 : wr.cell? ⟨w.heap.size + 1, 4, none⟩ = some (.slice At k ct) := hgd.cell 4
        have f4 : wr.frozen? ⟨w.heap.size + 1, 4, none⟩ = false := hgd.frozen 4
        have HGD := Lib.hid hgd
        have HO := Lib.hid ho
        have HWL := Lib.hid hwl
        have HBW := Lib.hid hbw
        clear hgd ho hwl hbw
        by_cases hlt : k < K
        · have hrm := Row.made wr #[.string ⟨#[120]⟩] 9
          have HRM := Lib.hid hrm
          clear hrm
          go_wp2_with (
            at_builtin
            refine wpList_append_at rfl (.tmp 46) (.tmp 47) _ rfl (w.heap.size + 2) 9 is _ 1 16 Try.underlying23 his hs0 hs1 hs2 rfl (by omega) (.slice At k ct) k _ rfl (HO.out.alloc _)
              (some ⟨wr.heap.size, 0, none⟩) 1 1 (wr.heap.size + 1) [.string ⟨#[120]⟩] rfl rfl HRM.out (by simp [Value.oneCell']) (by unfold maxLen; omega) (by omega) (by simp; omega) ?_
            intro v2 w2 hown2 hg2 hat2
            obtain ⟨A2, c2, rfl, _, _⟩ := own_form hown2
            have hgd2 : Whole w2 (w.heap.size + 1) 26 [.slice none 0 0, .slice none 0 0, .slice none 0 0, .slice none 0 0, .slice At k ct] := (HGD.out.alloc _).grown hg2 (fun e => own_not_whole HO.out HGD.out (by decide) e.symm)
            have hwl2 : Whole w2 w.heap.size 5 (l.map bc) := (HWL.out.alloc _).grown hg2 (fun e => own_not_whole HO.out HWL.out (by decide) e.symm)
            have hb2 := own_below (HBW.out.alloc (by omega) _) (by omega : w.heap.size ≤ w.heap.size + 2) (by simp; omega) (HO.out.alloc _) hg2
            have hz2 := hg2.size
            simp at hz2
            have HO2 := Lib.hid hown2
            have HGD2 := Lib.hid hgd2
            have HWL2 := Lib.hid hwl2
            have HB2 := Lib.hid hb2
            have c42 : w2.cell? ⟨w.heap.size + 1, 4, none⟩ = some (.slice At k ct) := hgd2.cell 4
            have f42 : w2.frozen? ⟨w.heap.size + 1, 4, none⟩ = false := hgd2.frozen 4
            clear hown2 hg2 hat2 hgd2 hwl2 hb2)
          refine ⟨⟨k + 1, .slice A2 (k + 1) c2, hlt, by go_num, HGD2.out.set_ 4 _, ?_, ?_, ?_, by simp; omega⟩, by simp [intOf]; omega⟩
          · rw [manyX_succ, List.map_append]
            exact own_set_far HO2.out (own_not_whole HO2.out HGD2.out (by decide)) _
          · exact HWL2.out.keep (Below.heap_setCell w2 ⟨w.heap.size + 1, 4, none⟩ _ _ (by simp))
          · exact HB2.out.setCell (p := ⟨w.heap.size + 1, 4, none⟩) (by simp) _
        · obtain rfl : k = K := by omega
          obtain ⟨KK, rfl⟩ : ∃ KK, KK = k := ⟨_, rfl⟩
          have hcv := convert_row_run (P := Try.prog) wr 22 9 5 Try.underlying22 Try.underlying5 Try.underlying9 _ LL LL _ l HLL.out HWL.out.row
          go_wp2_with (refine wpList_make_zeros rfl (.tmp 54) (.tmp 54) _ rfl 5 i0 _ 1 Try.underlying22 hi0 hz0 hz1 hz2 rfl .i64 .i64 _ _ KK KK rfl rfl rfl rfl (Nat.le_refl _) (by omega) (by unfold maxLen; omega) ?_)
          have hts : TS w KK At ct wr.heap.size l (((wr.alloc (.cells #[.string ⟨l.toArray⟩] 9)).alloc (.cells #[.slice none 0 0, .slice none 0 0, .slice none 0 0, .slice none 0 0, .slice (some ⟨wr.heap.size, 0, none⟩) 1 1] 26)).alloc (.cells (zerosL (.int .u8 0) KK).toArray 5)) := by
            refine ⟨((HGD.out.alloc _).alloc _).alloc _, ((HO.out.alloc _).alloc _).alloc _, ?_, ((Whole.made wr [sv l] _).alloc _).alloc _, ((HBW.out.alloc (by omega) _).alloc (by simp; omega) _).alloc (by simp; omega) _, by simp; omega⟩
            have := Whole.made (wr.alloc (.cells #[.string ⟨l.toArray⟩] 9)) [.slice none 0 0, .slice none 0 0, .slice none 0 0, .slice none 0 0, .slice (some ⟨wr.heap.size, 0, none⟩) 1 1] 26
            refine Whole.alloc ?_ _
            simpa using this
          have hrz : Row (((wr.alloc (.cells #[.string ⟨l.toArray⟩] 9)).alloc (.cells #[.slice none 0 0, .slice none 0 0, .slice none 0 0, .slice none 0 0, .slice (some ⟨wr.heap.size, 0, none⟩) 1 1] 26)).alloc (.cells (zerosL (.int .u8 0) KK).toArray 5)) (wr.heap.size + 1 + 1 + 1) (some ⟨wr.heap.size + 1 + 1, 0, none⟩) ((zerosB KK).map bc) := by
            have := Row.made ((wr.alloc (.cells #[.string ⟨l.toArray⟩] 9)).alloc (.cells #[.slice none 0 0, .slice none 0 0, .slice none 0 0, .slice none 0 0, .slice (some ⟨wr.heap.size, 0, none⟩) 1 1] 26)) (zerosL (.int .u8 0) KK).toArray 5
            rw [← zeros_cells]
            simpa using this
          have HTS := Lib.hid hts
          have HRZ := Lib.hid hrz
          clear hts hrz HGD HO HWL HBW c4 f4 hcv
          go_wp2_with fail
          refine (HG1.out _ _ KK (by simpa using HRZ.out) (Nat.le_refl _) (by unfold maxLen; omega)).mono ?_
          rintro e W7 ⟨y7, rfl, _, hb⟩
          have HT7 := Lib.hid (HTS.out.step hb)
          clear hb HTS HRZ
          go_wp2_with fail
          refine (HG2.out _).mono ?_
          rintro e W8 ⟨y8, rfl, _, hb⟩
          have HT8 := Lib.hid ((HT7.out.alloc _).step hb)
          clear hb HT7
          go_wp2_with fail
          refine (danswers_any _).mono ?_
          rintro e W9 ⟨rfl, hb⟩
          have ht9 := (HT8.out.alloc _).step hb
          have c0 : W9.cell? ⟨w.heap.size + 1, 0, none⟩ = some (.slice none 0 0) := ht9.d.cell 0
          have c1 : W9.cell? ⟨w.heap.size + 1, 1, none⟩ = some (.slice none 0 0) := ht9.d.cell 1
          have c2 : W9.cell? ⟨w.heap.size + 1, 2, none⟩ = some (.slice none 0 0) := ht9.d.cell 2
          have c3 : W9.cell? ⟨w.heap.size + 1, 3, none⟩ = some (.slice none 0 0) := ht9.d.cell 3
          have c4 : W9.cell? ⟨w.heap.size + 1, 4, none⟩ = some (.slice At KK ct) := ht9.d.cell 4
          have HT9 := Lib.hid ht9
          clear hb HT8 ht9
          go_wp2_with fail
          refine (HSX.out _ _ _ (Row.of_own HT9.out.t) (own_cap HT9.out.t)).mono ?_
          rintro e W10 ⟨rfl, hb⟩
          have ht10 := HT9.out.step hb
          clear c0 c1 c2 c3 c4
          have c0 : W10.cell? ⟨wr.heap.size + 1, 0, none⟩ = some (.slice none 0 0) := ht10.e.cell 0
          have c1 : W10.cell? ⟨wr.heap.size + 1, 1, none⟩ = some (.slice none 0 0) := ht10.e.cell 1
          have c2 : W10.cell? ⟨wr.heap.size + 1, 2, none⟩ = some (.slice none 0 0) := ht10.e.cell 2
          have c3 : W10.cell? ⟨wr.heap.size + 1, 3, none⟩ = some (.slice none 0 0) := ht10.e.cell 3
          have c4 : W10.cell? ⟨wr.heap.size + 1, 4, none⟩ = some (.slice (some ⟨wr.heap.size, 0, none⟩) 1 1) := ht10.e.cell 4
          have HT10 := Lib.hid ht10
          clear hb HT9 ht10
          go_wp2_with fail
          refine (HSE.out _ _ 1 l HLL.out HT10.out.s.row (Nat.le_refl _)).mono ?_
          rintro e W11 ⟨rfl, hb⟩
          have HT11 := Lib.hid (HT10.out.step hb)
          clear hb HT10 c0 c1 c2 c3 c4
          go_wp2
          go_ret
          exact ⟨rfl, HT11.out.below⟩

theorem rdtexts_any (n1 n2 n3 : Int) (w : World) (h1 : (Lit.int .u8 n1).wf = true) (h2 : (Lit.int .u8 n2).wf = true) (h3 : (Lit.int .u8 n3).wf = true) :
    Calls Try.prog 6 #[.int .u8 n1, .int .u8 n2, .int .u8 n3] w (TrueB w) := by
  have b1 := u8_bd2 h1
  have b2 := u8_bd2 h2
  have b3 := u8_bd2 h3
  obtain ⟨a1, rfl⟩ : ∃ a : Nat, n1 = a := ⟨n1.toNat, by omega⟩
  obtain ⟨a2, rfl⟩ : ∃ a : Nat, n2 = a := ⟨n2.toNat, by omega⟩
  obtain ⟨a3, rfl⟩ : ∃ a : Nat, n3 = a := ⟨n3.toNat, by omega⟩
  by_cases hK : 60 + a1 % 8 ≤ 64
  · exact rtexts_le a1 a2 a3 (60 + a1 % 8) (250 + a2 % 10) w (by omega) (by omega) (by omega) hK (by omega) (by omega) (by omega)
  · exact rtexts_gt a1 a2 a3 (60 + a1 % 8) (250 + a2 % 10) w (by omega) (by omega) (by omega) (by omega) (by omega) (by omega) (by omega)

end Go.Proofs.Ytfehbkandfdepaa
