/-
  The contracts of name.Sound and of the document's, and of a law's 'light'.
-/
import Derived.Test.YtjjmllbkfbdcnaaRrwritesP2
import Derived.Test.YtjjmllbkfbdcnaaRrwritesP1
import Derived.Deep.CutRange
import Derived.Deep.RegionHeld3
import Derived.Deep.RegionLaw
import Derived.Outline
namespace Go.Proofs.Ytjjmllbkfbdcnaa
open Go.RowKit

set_option maxHeartbeats 400000 in
theorem fits_label (l : List UInt8) (w : World) (hm : l.length ≤ maxLen) :
    Calls Try.prog 80 #[.string ⟨l.toArray⟩] w (Told w (.bool (fitL l))) := by
  unfold maxLen at hm
  by_cases h1 : 1 ≤ l.length
  · by_cases h2 : l.length ≤ 63
    · have HF := Lib.hid (show fitL l = true by simp [fitL, h1, h2])
      have d2 : decide ((l.length : Int) ≤ 63) = true := by simp; omega
      go_enter Try.func80, Try.ntmps80
      go_wp2
      go_ret
      exact ⟨by rw [HF.out]; rfl, rfl⟩
    · have HF := Lib.hid (show fitL l = false by simp [fitL]; omega)
      have d2 : decide ((l.length : Int) ≤ 63) = false := by simp; omega
      go_enter Try.func80, Try.ntmps80
      go_wp2
      go_ret
      exact ⟨by rw [HF.out]; rfl, rfl⟩
  · have HF := Lib.hid (show fitL l = false by simp [fitL]; omega)
    go_enter Try.func80, Try.ntmps80
    go_wp2
    go_ret
    exact ⟨by rw [HF.out]; rfl, rfl⟩

theorem all_snoc {n : List (List UInt8)} {k : Nat} (p : List UInt8 → Bool) (h : k < n.length) (ha : (n.take k).all p = true) (hp : p n[k] = true) : (n.take (k + 1)).all p = true := by
  rw [List.take_succ_eq_append_getElem h, List.all_append, ha]
  simp [hp]
theorem all_not {n : List (List UInt8)} {k : Nat} (p : List UInt8 → Bool) (h : k < n.length) (hp : p n[k] = false) : n.all p = false := by
  rw [List.all_eq_false]
  exact ⟨n[k], List.getElem_mem h, by simp [hp]⟩

def EveryRel (n : List (List UInt8)) (i : Value) : Prop := ∃ k : Nat, k ≤ n.length ∧ i = .int .i64 k ∧ (n.take k).all fitL = true

set_option maxHeartbeats 400000 in
theorem every_any (A : Option Addr) (m c H : Nat) (n : List (List UInt8)) (w : World) (hl : n.length = m) (hA : Row w H A (n.map sv)) (hs : szN n ≤ maxLen) :
    Calls Try.prog 79 #[.slice A m c, .func (.func 80) #[] #[]] w (Told w (.bool (n.all fitL))) := by
  subst hl
  unfold maxLen at hs
  have hlen := length_lt_szN n
  have HA := Lib.hid hA
  clear hA
  go_enter Try.func79, Try.ntmps79
  go_wp2
  go_loop [9] (EveryRel n) (fun i => n.length - (intOf i).toNat)
  case atStart => exact ⟨0, Nat.zero_le _, rfl, by simp⟩
  case round =>
    obtain ⟨k, hk, rfl, hall⟩ := hrel
    have HK := Lib.hid hall
    clear hall
    by_cases hlt : k < n.length
    · obtain ⟨b, off, rfl, _, hc⟩ := HA.out.name_at hlt
      have hle := len_le_szN hlt
      cases hf : fitL n[k]
      · have hct := fun W => fits_label n[k] W (by unfold maxLen; omega)
        rw [hf] at hct
        have HC := Lib.hid hct
        have HF := Lib.hid (all_not fitL hlt hf)
        clear hct hf
        go_wp2_with (go_at_call 80; refine (HC.out _).mono ?_; rintro e w' ⟨rfl, rfl⟩)
        go_ret
        exact ⟨by rw [HF.out]; rfl, rfl⟩
      · have hct := fun W => fits_label n[k] W (by unfold maxLen; omega)
        rw [hf] at hct
        have HC := Lib.hid hct
        have HF := Lib.hid (all_snoc fitL hlt HK.out hf)
        clear hct hf
        go_wp2_with (go_at_call 80; refine (HC.out _).mono ?_; rintro e w' ⟨rfl, rfl⟩)
        exact ⟨⟨k + 1, by omega, by go_num, HF.out⟩, by simp [intOf]; omega⟩
    · obtain rfl : k = n.length := by omega
      go_wp2
      go_ret
      exact ⟨ret_bool (by have h := HK.out; rw [List.take_length] at h; exact h.symm), rfl⟩

set_option maxHeartbeats 400000 in
theorem sound_any (A : Option Addr) (m c H : Nat) (n : List (List UInt8)) (w : World) (hl : n.length = m) (hA : Row w H A (n.map sv)) (hs : szN n ≤ maxLen) :
    Calls Try.prog 43 #[.slice A m c] w (Told w (.bool (soundN n))) := by
  have hev := fun W h => every_any A m c H n W hl h hs
  have hsz := fun W h => size_any A m c H n W hl h hs
  have HA := Lib.hid hA
  have HZ := Lib.hid hsz
  clear hA hl hsz
  cases hf : n.all fitL
  · rw [hf] at hev
    have HE := Lib.hid hev
    have HF := Lib.hid (show soundN n = false by simp [soundN, hf])
    clear hev hf
    go_enter Try.func43, Try.ntmps43
    go_wp2_with (first
      | (go_at_call 79; refine (HE.out _ HA.out).mono ?_; rintro e w' ⟨rfl, rfl⟩)
      | (go_at_call 81; refine (HZ.out _ HA.out).mono ?_; rintro e w' ⟨rfl, rfl⟩))
    go_ret
    exact ⟨by rw [HF.out]; rfl, rfl⟩
  · rw [hf] at hev
    have HE := Lib.hid hev
    have HF := Lib.hid (show soundN n = decide (szN n ≤ 255) by simp [soundN, hf])
    clear hev hf
    go_enter Try.func43, Try.ntmps43
    go_wp2_with (first
      | (go_at_call 79; refine (HE.out _ HA.out).mono ?_; rintro e w' ⟨rfl, rfl⟩)
      | (go_at_call 81; refine (HZ.out _ HA.out).mono ?_; rintro e w' ⟨rfl, rfl⟩))
    go_ret
    refine ⟨ret_bool ?_, rfl⟩
    rw [HF.out]
    simp
    omega

set_option maxHeartbeats 400000 in
theorem ref_sound_any (A : Option Addr) (m c H : Nat) (n : List (List UInt8)) (w : World) (hl : n.length = m) (hA : Row w H A (n.map sv)) (hs : szN n ≤ maxLen) :
    Calls Try.prog 12 #[.slice A m c] w (Told w (.bool (soundN n))) := by
  have hsz := fun W h => ref_size_any A m c H n W hl h hs
  subst hl
  unfold maxLen at hs
  have hlen := length_lt_szN n
  have HA := Lib.hid hA
  have HZ := Lib.hid hsz
  clear hA hsz
  by_cases h127 : n.length ≤ 127
  · have d1 : decide (127 < (n.length : Int)) = false := by simp; omega
    go_enter Try.func12, Try.ntmps12
    go_wp2
    go_loop [3] (EveryRel n) (fun i => n.length - (intOf i).toNat)
    case atStart => exact ⟨0, Nat.zero_le _, rfl, by simp⟩
    case round =>
      obtain ⟨k, hk, rfl, hall⟩ := hrel
      have HK := Lib.hid hall
      clear hall
      by_cases hlt : k < n.length
      · obtain ⟨b, off, rfl, _, hc⟩ := HA.out.name_at hlt
        have hle := len_le_szN hlt
        by_cases e1 : 1 ≤ (n[k]).length
        · have d2 : decide (((n[k]).length : Int) < 1) = false := by simp; omega
          by_cases e2 : (n[k]).length ≤ 63
          · have d3 : decide (63 < ((n[k]).length : Int)) = false := by simp; omega
            have HF := Lib.hid (all_snoc fitL hlt HK.out (by simp [fitL]; omega))
            go_wp2
            exact ⟨⟨k + 1, by omega, by go_num, HF.out⟩, by simp [intOf]; omega⟩
          · have d3 : decide (63 < ((n[k]).length : Int)) = true := by simp; omega
            have HF := Lib.hid (all_not fitL hlt (by simp [fitL]; omega))
            go_wp2
            go_ret
            exact ⟨ret_bool (by simp [soundN, HF.out]), rfl⟩
        · have d2 : decide (((n[k]).length : Int) < 1) = true := by simp; omega
          have HF := Lib.hid (all_not fitL hlt (by simp [fitL]; omega))
          go_wp2
          go_ret
          exact ⟨ret_bool (by simp [soundN, HF.out]), rfl⟩
      · obtain rfl : k = n.length := by omega
        go_wp2_with (go_at_call 42; refine (HZ.out _ HA.out).mono ?_; rintro e w' ⟨rfl, rfl⟩)
        go_ret
        refine ⟨ret_bool ?_, rfl⟩
        have h := HK.out
        rw [List.take_length] at h
        simp [soundN, h]
        omega
  · have HF := Lib.hid (soundN_long (n := n) (by omega))
    have d1 : decide (127 < (n.length : Int)) = true := by simp; omega
    go_enter Try.func12, Try.ntmps12
    go_wp2
    go_ret
    exact ⟨ret_bool HF.out.symm, rfl⟩

end Go.Proofs.Ytjjmllbkfbdcnaa

namespace Go.Proofs.Ytjjmllbkfbdcnaa
open Go.RowKit

/-- 'at, ok := rests[r]'. -/
theorem wpList_rests {w : World} {ops : Array Oper} {rest : List Oper} {o : Oper} {a : Act} {Q : Exit → Act → World → Prop} (hg : o.guard = none) (m x : Operand) (hop : o.op = Op.lookup 73 m x true)
    {base : Nat} {v : Value} {R : Rs} {r : List (List UInt8)} {s : List UInt8} {f : Option Nat} (h : MapOf w base v R) (hr : r.all fitL = true) (he : (encN r).length ≤ maxLen) (hsr : encN r = s) (hf : findR R r = f) (hm : a.eval m = v) (hx : a.eval x = .string ⟨s.toArray⟩)
    (hK : wpList Try.prog ops Q rest (a.put o.dst (.tuple #[.int .i64 (f.getD 0 : Nat), .bool f.isSome])) w) : wpList Try.prog ops Q (o :: rest) a w := by
  subst hsr
  subst hf
  rcases h with ⟨rfl, rfl⟩ | ⟨b, D, rfl, hb, ho, hs⟩
  · refine wpList_plain hg fun K' hK' => ?_
    have hrun := Maps.look_nil (w := w) true str_keyed Try.underlying73 (int_zero w) (key_enc he)
    unfold Oper.wp
    simp [execOp, hop, hm, hx, hrun, Result.andThen]
    exact hK' _ _ hK
  · refine wpList_lookup_own_ok_int w hg m x _ hop 9 3 .i64 str_keyed Try.underlying73 Try.underlying3 (int_zero _) b _ D hm ho _ _ hx (key_enc he) fun c hat hwc => ?_
    obtain ⟨h1, h2⟩ := hs.2 r hr
    rw [h2] at hat
    injection hat with hat
    injection hat with _ hat
    rw [← hat, h1]
    exact hK

def strLenV : Value → Nat
  | .string s => s.size
  | _ => 0

def NameRel (base : Nat) (w : World) (g : Nat) (vB vM : Value) (short : Bool) (n : List (List UInt8)) (B : List UInt8) (R : Rs) (v : Value) (wr : World) : Prop :=
  ∃ m B' R' vB' vM', v = .string ⟨(encN m).toArray⟩ ∧ m.all fitL = true ∧ szN m ≤ 255 ∧ Wr wr base g vB' vM' B' R' ∧ Grew (ownF g vB vM) w wr ∧ (∀ j, ownF g vB' vM' j → ownF g vB vM j ∨ w.heap.size ≤ j) ∧
    nameW short n B R = nameW short m B' R' ∧ B'.length + szN m ≤ B.length + szN n ∧ R'.length + m.length ≤ R.length + n.length ∧ ∀ r ∈ R', r.2 < 16384

theorem extract_take (l : List UInt8) (k : Nat) : (ByteArray.mk l.toArray).extract 0 k = ⟨(l.take k).toArray⟩ := by
  apply ByteArray.ext
  apply Array.toList_inj.1
  simp [ByteArray.data_extract]
theorem extract_tail (l : List UInt8) (k m : Nat) (hm : l.length ≤ m) : (ByteArray.mk l.toArray).extract k m = ⟨(l.drop k).toArray⟩ := by
  apply ByteArray.ext
  apply Array.toList_inj.1
  simp [ByteArray.data_extract]
  exact List.take_of_length_le (by simp; omega)

theorem putL_zero : putL [] 0 1 = [0] := by decide +kernel
theorem putL_ptr {k : Nat} (hk : k < 16384) : putL [] (49152 + (k : Int)) 2 = digs (49152 + k) 2 := by
  have hf : fitB ((49152 + k : Nat) : Int) ((2 : Nat) : Int) = true := fitB_true (by omega) (by omega) (by omega) (by simp; omega)
  have h := putL_yes (l := []) hf
  simpa using h
theorem noteR_good {B : List UInt8} {R : Rs} {r : List (List UInt8)} (h : ∀ x ∈ R, x.2 < 16384) : (∀ x ∈ noteR B R r, x.2 < 16384) ∧ (noteR B R r).length ≤ R.length + 1 := by
  unfold noteR
  split
  · rename_i hb
    refine ⟨fun x hx => ?_, by simp⟩
    rcases List.mem_append.1 hx with hx | hx
    · exact h x hx
    · rw [List.mem_singleton.1 hx]; exact hb
  · exact ⟨h, by omega⟩

set_option maxHeartbeats 4000000 in
theorem name_sound (base : Nat) (w : World) (g : Nat) (vB vM : Value) (B : List UInt8) (R : Rs) (A : Option Addr) (m c H : Nat) (n : List (List UInt8)) (short : Bool) (h : Wr w base g vB vM B R) (hl : n.length = m) (hA : Row w H A (n.map sv)) (hH : H ≤ w.heap.size)
    (hs : soundN n = true) (hB : B.length ≤ 1000000000) (hR : R.length ≤ 900000) (hR16 : ∀ r ∈ R, r.2 < 16384) :
    Calls Try.prog 13 #[.pointer (some ⟨g, 0, none⟩), .slice A m c, .bool short] w (fun e w' => e = .returned (.int .i64 0) ∧ Penned base w g vB vM (nameW short n B R).1 (nameW short n B R).2 w') := by
  subst hl
  have hs2 := hs
  simp only [soundN, Bool.and_eq_true, decide_eq_true_eq] at hs2
  obtain ⟨hfl, hsz⟩ := hs2
  have hnl := szN_ge n hfl
  have HSO := Lib.hid (fun W hr => sound_any A n.length c H n W rfl hr (by unfold maxLen; omega))
  rw [hs] at HSO
  have HWH := Lib.hid (whole_any A n.length c H n w rfl hA hH hfl hsz)
  have HA := Lib.hid hA
  have HW := Lib.hid h
  have HF := Lib.hid hfl
  have HR16 := Lib.hid hR16
  have hbs := h.size
  clear h hA hs hfl hR16
  go_enter Try.func13, Try.ntmps13
  go_wp2_with fail
  refine (HSO.out _ HA.out).mono ?_
  rintro e w' ⟨rfl, rfl⟩
  go_wp2_with fail
  refine HWH.out.mono ?_
  rintro e w0 ⟨rfl, hb0⟩
  have HB0 := Lib.hid hb0
  clear hb0
  go_wp2
  go_loopw [7] (NameRel base w g vB vM short n B R) (fun v _ => strLenV v)
  case atStart => exact ⟨n, B, R, vB, vM, rfl, HF.out, hsz, HW.out.below HB0.out, Grew.all HB0.out, fun j hj => .inl hj, rfl, Nat.le_refl _, Nat.le_refl _, HR16.out⟩
  case round =>
    obtain ⟨m, B1, R1, vB1, vM1, rfl, hfm, hszm, hw1, hg1, ho1, hnw, hb1, hr1, hr16⟩ := hrel
    have HW1 := Lib.hid hw1
    have HG1 := Lib.hid hg1
    have HO1 := Lib.hid ho1
    have HNW := Lib.hid hnw
    have HR1 := Lib.hid hr16
    have c1 := hw1.c1
    have hem := length_encN m
    clear hw1 hg1 ho1 hnw hr16
    rcases m with _ | ⟨l, m⟩
    · have HN := Lib.hid (num_any base wr g vB1 vM1 B1 R1 0 1 HW1.out (by omega))
      rw [putL_zero] at HN
      simp only [encN] at *
      go_wp2_with fail
      refine HN.out.mono ?_
      rintro e w2 ⟨rfl, hp⟩
      have HP := Lib.hid (Penned.then HG1.out HO1.out hp)
      clear hp
      go_wp2
      go_ret
      refine ⟨rfl, ?_⟩
      rw [HNW.out, nameW_nil]
      exact HP.out
    · have hall : (l :: m).all fitL = true := hfm
      simp only [List.all_cons, Bool.and_eq_true, fitL_iff] at hfm
      obtain ⟨⟨hl1, hl2⟩, hfm2⟩ := hfm
      have hlen : (encN (l :: m)).length ≤ maxLen := by unfold maxLen; omega
      have hpm := szN_pos m
      simp only [szN] at hszm hb1 hem
      simp only [List.length_cons] at hr1
      have HNT := Lib.hid (note_any base wr g vB1 vM1 B1 R1 (l :: m) HW1.out hall hlen (by omega))
      obtain ⟨x, hx⟩ : ∃ x, x = UInt8.ofNat l.length := ⟨_, rfl⟩
      obtain ⟨e, he⟩ : ∃ e, e = encN m := ⟨_, rfl⟩
      have hen : encN (l :: m) = x :: (l ++ e) := by rw [hx, he]; rfl
      have hxi : (x.toNat : Int) = (l.length : Int) := by rw [hx, UInt8.toNat_ofNat']; omega
      have hee : e.length + 1 = szN m := by rw [he]; exact length_encN m
      have HEN := Lib.hid hen
      have HEM := Lib.hid he
      have HX := Lib.hid hx
      have HALL := Lib.hid hall
      rw [hen] at HNT ⊢
      rw [hen] at hem
      have hex1 : (ByteArray.mk (x :: (l ++ e)).toArray).extract 0 (l.length + 1) = ⟨(x :: l).toArray⟩ := by rw [extract_take]; simp
      have hex2 : (ByteArray.mk (x :: (l ++ e)).toArray).extract (l.length + 1) (l.length + e.length + 1) = ⟨e.toArray⟩ := by rw [extract_tail _ _ _ (by simp)]; simp
      have i0 : (ByteArray.mk (x :: (l ++ e)).toArray)[0]'(by simp [ByteArray.size]) = x := rfl
      have hq : ((1 : Int) + (l.length : Int)).toNat = l.length + 1 := by omega
      clear hen he hx hall
      cases hfi : findR R1 (l :: m) with
      | some k =>
        have hk16 := HR1.out _ (findR_mem hfi)
        have HFI := Lib.hid hfi
        clear hfi
        cases short with
        | true =>
          have HN := Lib.hid (num_any base wr g vB1 vM1 B1 R1 (49152 + (k : Int)) 2 HW1.out (by omega))
          rw [putL_ptr hk16] at HN
          clear hex1 hex2 hq
          go_wp2_with (
            at_lookup
            refine wpList_rests rfl (.tmp 24) (.tmp 25) rfl HW1.out.map HALL.out hlen HEN.out HFI.out rfl rfl ?_
            simp only [Option.getD_some, Option.isSome_some])
          refine HN.out.mono ?_
          rintro e w2 ⟨rfl, hp⟩
          have HP := Lib.hid (Penned.then HG1.out HO1.out hp)
          clear hp
          go_wp2
          go_ret
          refine ⟨rfl, ?_⟩
          rw [HNW.out, nameW_hit HFI.out]
          exact HP.out
        | false =>
          go_wp2_with (
            at_lookup
            refine wpList_rests rfl (.tmp 24) (.tmp 25) rfl HW1.out.map HALL.out hlen HEN.out HFI.out rfl rfl ?_
            simp only [Option.getD_some, Option.isSome_some])
          refine HNT.out.mono ?_
          rintro e' w2 ⟨rfl, vB2, vM2, hw2, hg2, ho2⟩
          have HW2 := Lib.hid hw2
          have HG2 := Lib.hid (HG1.out.trans hg2 HO1.out)
          have HO2 := Lib.hid (fun j hj => (ho2 j hj).elim (HO1.out j) (fun h => Or.inr (Nat.le_trans HG1.out.size h)))
          clear hw2 hg2 ho2
          go_wp2_with (
            refine wpList_bytes rfl (.tmp 47) _ _ 5 rfl Try.underlying9 Try.underlying22 Try.underlying5 (x :: l) rfl ?_
            intro C w3 hC hmk hb3 hs3)
          have hrow := hmk.row.take (x :: l).length
          rw [List.take_left' (by simp)] at hrow
          have HRW := Lib.hid (raw_any base w3 g vB2 vM2 B1 (noteR B1 R1 (l :: m)) _ (x :: l).length C w3.heap.size (x :: l) (HW2.out.below hb3) rfl hrow (by simp; omega))
          have HG3 := Lib.hid (HG2.out.then_below hb3)
          clear hrow hmk hC hs3
          have hs3 := hb3.size
          clear hb3
          refine HRW.out.mono ?_
          rintro e' w4 ⟨rfl, vB4, vM4, hw4, hg4, ho4⟩
          have HW4 := Lib.hid hw4
          have HG4 := Lib.hid (HG3.out.trans hg4 HO2.out)
          have HO4 := Lib.hid (fun j hj => (ho4 j hj).elim (HO2.out j) (fun h => Or.inr (Nat.le_trans HG3.out.size h)))
          clear hw4 hg4 ho4
          go_wp2
          refine ⟨⟨m, B1 ++ (x :: l), noteR B1 R1 (l :: m), vB4, vM4, by rw [HEM.out], hfm2, by omega, HW4.out, HG4.out, HO4.out, ?_, ?_, ?_, (noteR_good HR1.out).1⟩, ?_⟩
          · rw [HNW.out, HX.out]
            exact nameW_long _ _ _ _
          · simp only [List.length_append, List.length_cons]; omega
          · have := (noteR_good (B := B1) (r := l :: m) HR1.out).2; omega
          · simp [strLenV, ByteArray.size]; omega
      | none =>
        have HFI := Lib.hid hfi
        clear hfi
        go_wp2_with (
          at_lookup
          refine wpList_rests rfl (.tmp 24) (.tmp 25) rfl HW1.out.map HALL.out hlen HEN.out HFI.out rfl rfl ?_
          simp only [Option.getD_none, Option.isSome_none])
        refine HNT.out.mono ?_
        rintro e' w2 ⟨rfl, vB2, vM2, hw2, hg2, ho2⟩
        have HW2 := Lib.hid hw2
        have HG2 := Lib.hid (HG1.out.trans hg2 HO1.out)
        have HO2 := Lib.hid (fun j hj => (ho2 j hj).elim (HO1.out j) (fun h => Or.inr (Nat.le_trans HG1.out.size h)))
        clear hw2 hg2 ho2
        go_wp2_with (
          refine wpList_bytes rfl (.tmp 47) _ _ 5 rfl Try.underlying9 Try.underlying22 Try.underlying5 (x :: l) rfl ?_
          intro C w3 hC hmk hb3 hs3)
        have hrow := hmk.row.take (x :: l).length
        rw [List.take_left' (by simp)] at hrow
        have HRW := Lib.hid (raw_any base w3 g vB2 vM2 B1 (noteR B1 R1 (l :: m)) _ (x :: l).length C w3.heap.size (x :: l) (HW2.out.below hb3) rfl hrow (by simp; omega))
        have HG3 := Lib.hid (HG2.out.then_below hb3)
        clear hrow hmk hC hs3
        have hs3 := hb3.size
        clear hb3
        refine HRW.out.mono ?_
        rintro e' w4 ⟨rfl, vB4, vM4, hw4, hg4, ho4⟩
        have HW4 := Lib.hid hw4
        have HG4 := Lib.hid (HG3.out.trans hg4 HO2.out)
        have HO4 := Lib.hid (fun j hj => (ho4 j hj).elim (HO2.out j) (fun h => Or.inr (Nat.le_trans HG3.out.size h)))
        clear hw4 hg4 ho4
        go_wp2
        refine ⟨⟨m, B1 ++ (x :: l), noteR B1 R1 (l :: m), vB4, vM4, by rw [HEM.out], hfm2, by omega, HW4.out, HG4.out, HO4.out, ?_, ?_, ?_, (noteR_good HR1.out).1⟩, ?_⟩
        · rw [HNW.out, HX.out]
          exact nameW_miss HFI.out
        · simp only [List.length_append, List.length_cons]; omega
        · have := (noteR_good (B := B1) (r := l :: m) HR1.out).2; omega
        · simp [strLenV, ByteArray.size]; omega

set_option maxHeartbeats 400000 in
theorem name_bad (w : World) (g : Nat) (A : Option Addr) (m c H : Nat) (n : List (List UInt8)) (short : Bool) (hl : n.length = m) (hA : Row w H A (n.map sv)) (hm : szN n ≤ maxLen) (hs : soundN n = false) :
    Calls Try.prog 13 #[.pointer (some ⟨g, 0, none⟩), .slice A m c, .bool short] w (Told w (.int .i64 5)) := by
  have HSO := Lib.hid (sound_any A m c H n w hl hA hm)
  rw [hs] at HSO
  clear hl hA hs
  go_enter Try.func13, Try.ntmps13
  go_wp2_with fail
  refine HSO.out.mono ?_
  rintro e w' ⟨rfl, rfl⟩
  go_wp2
  go_ret
  exact ⟨rfl, rfl⟩

set_option maxHeartbeats 400000 in
theorem name_nil (v s : Value) (w : World) : Calls Try.prog 13 #[.pointer none, v, s] w (Told w (.int .i64 1)) := by
  go_enter Try.func13, Try.ntmps13
  go_wp2
  go_ret
  exact ⟨rfl, rfl⟩

end Go.Proofs.Ytjjmllbkfbdcnaa

namespace Go.Proofs.Ytjjmllbkfbdcnaa
open Go.RowKit

theorem int_info : (Try.prog.info? 3).map (fun i => (i.zero, i.size, i.bytes)) = some (some (.int .i64 0), 1, 8) := by kernel_rfl
/-- A number as a cell. -/
def iv (n : Nat) : Value := .int .i64 (n : Int)
theorem iv_one (l : List Nat) : ∀ u ∈ l.map iv, u.oneCell' = true := by
  intro u hu
  obtain ⟨x, _, rfl⟩ := List.mem_map.1 hu
  rfl

structure Two (w : World) (base g1 : Nat) (vB1 vM1 : Value) (B1 : List UInt8) (R1 : Rs) (g2 : Nat) (vB2 vM2 : Value) (B2 : List UInt8) (R2 : Rs) (va : Value) (ats : List Nat) : Prop where
  w1 : Wr w base g1 vB1 vM1 B1 R1
  w2 : Wr w base g2 vB2 vM2 B2 R2
  row : w.ownsRow base 3 1 va ats.length (ats.map iv)
  d12 : ∀ j, ownF g1 vB1 vM1 j → ¬ ownF g2 vB2 vM2 j
  d1 : ∀ j, ownF g1 vB1 vM1 j → va.ownBlock ≠ some j
  d2 : ∀ j, ownF g2 vB2 vM2 j → va.ownBlock ≠ some j

theorem own_capM {w : World} {base : Nat} {t : TypeId} {A : Option Addr} {n c : Nat} {xs : List Value} {size : Nat} (h : w.ownsRow base t size (.slice A n c) n xs) : c ≤ maxLen := by
  obtain ⟨A', c', e, _, h2⟩ := own_form h
  injection e with _ _ e
  omega
theorem ownF_new {g j : Nat} (h : ownF g (.slice none 0 0) (.map none) j) : j = g := by
  rcases h with h | h | h
  · exact h
  · simp [Value.ownBlock] at h
  · cases h
section
variable {w w' : World} {base g1 : Nat} {vB1 vM1 : Value} {B1 : List UInt8} {R1 : Rs} {g2 : Nat} {vB2 vM2 : Value} {B2 : List UInt8} {R2 : Rs} {va : Value} {ats : List Nat}
theorem Two.swap (h : Two w base g1 vB1 vM1 B1 R1 g2 vB2 vM2 B2 R2 va ats) : Two w base g2 vB2 vM2 B2 R2 g1 vB1 vM1 B1 R1 va ats :=
  ⟨h.w2, h.w1, h.row, fun j h2 h1 => h.d12 j h1 h2, h.d2, h.d1⟩
theorem Two.below (h : Two w base g1 vB1 vM1 B1 R1 g2 vB2 vM2 B2 R2 va ats) (hb : Below w.heap.size w w') : Two w' base g1 vB1 vM1 B1 R1 g2 vB2 vM2 B2 R2 va ats :=
  ⟨h.w1.below hb, h.w2.below hb, own_keep h.row fun j hj => hb.block j (h.row.lt j hj).2, h.d12, h.d1, h.d2⟩
theorem Penned.below {B : List UInt8} {R : Rs} {g : Nat} {vB vM : Value} {B0 : List UInt8} {R0 : Rs} (hw : Wr w base g vB vM B0 R0) (h : Penned base w g vB vM B R w') : Below base w w' := by
  obtain ⟨_, _, _, hg, _⟩ := h
  exact hg.below (fun j hj => (hw.own hj).1) hw.size
theorem Two.pen (h : Two w base g1 vB1 vM1 B1 R1 g2 vB2 vM2 B2 R2 va ats) {B : List UInt8} {R : Rs} (hp : Penned base w g1 vB1 vM1 B R w') : ∃ vB vM, Two w' base g1 vB vM B R g2 vB2 vM2 B2 R2 va ats := by
  obtain ⟨vB, vM, h1, hg, hf⟩ := hp
  refine ⟨vB, vM, h1, h.w2.grew hg fun j hj h1 => h.d12 j h1 hj, own_grew h.row hg fun j hj h1 => h.d1 j h1 hj, fun j hj h2 => ?_, fun j hj => ?_, h.d2⟩
  · rcases hf j hj with h3 | h3
    · exact h.d12 j h3 h2
    · have := (h.w2.own h2).2; omega
  · rcases hf j hj with h3 | h3
    · exact h.d1 j h3
    · intro e
      have := (h.row.lt j e).2; omega
/-- The row has grown. -/
theorem Two.grown (h : Two w base g1 vB1 vM1 B1 R1 g2 vB2 vM2 B2 R2 va ats) {va' : Value} {a : Nat} (ho : w'.ownsRow base 3 1 va' (ats.length + 1) (ats.map iv ++ [iv a])) (hg : w.grownBy w' va.ownBlock) (hat : va'.ownBlock = va.ownBlock ∨ va'.ownBlock = some w.heap.size) :
    Two w' base g1 vB1 vM1 B1 R1 g2 vB2 vM2 B2 R2 va' (ats ++ [a]) := by
  have hG : Grew (fun j => va.ownBlock = some j) w w' := Grew.of_grown hg fun j hj => .inl hj
  have hn : ∀ j, va'.ownBlock = some j → va.ownBlock = some j ∨ w.heap.size ≤ j := fun j hj => by
    rcases hat with e | e
    · exact .inl (by rw [← e]; exact hj)
    · rw [e] at hj; injection hj with hj; exact .inr (by omega)
  refine ⟨h.w1.grew hG fun j hj e => h.d1 j hj e, h.w2.grew hG fun j hj e => h.d2 j hj e, by simpa using ho, h.d12, fun j hj e => ?_, fun j hj e => ?_⟩
  · rcases hn j e with h3 | h3
    · exact h.d1 j hj h3
    · have := (h.w1.own hj).2; omega
  · rcases hn j e with h3 | h3
    · exact h.d2 j hj h3
    · have := (h.w2.own hj).2; omega
end

set_option maxHeartbeats 400000 in
/-- The document's Sound of any name, however large. -/
theorem ref_sound_free (A : Option Addr) (c H : Nat) (n : List (List UInt8)) (w : World) (hA : Row w H A (n.map sv)) (_ : n.length ≤ maxLen) (hs : ∀ k (h : k < n.length), (n[k]).length ≤ maxLen) :
    Calls Try.prog 12 #[.slice A n.length c] w (Told w (.bool (soundN n))) := by
  have HA := Lib.hid hA
  have HS := Lib.hid hs
  clear hA hs
  by_cases h127 : n.length ≤ 127
  · have d1 : decide (127 < (n.length : Int)) = false := by simp; omega
    go_enter Try.func12, Try.ntmps12
    go_wp2
    go_loop [3] (EveryRel n) (fun i => n.length - (intOf i).toNat)
    case atStart => exact ⟨0, Nat.zero_le _, rfl, by simp⟩
    case round =>
      obtain ⟨k, hk, rfl, hall⟩ := hrel
      have HK := Lib.hid hall
      clear hall
      by_cases hlt : k < n.length
      · obtain ⟨b, off, rfl, _, hc⟩ := HA.out.name_at hlt
        have hle := HS.out k hlt
        unfold maxLen at hle
        by_cases e1 : 1 ≤ (n[k]).length
        · have d2 : decide (((n[k]).length : Int) < 1) = false := by simp; omega
          by_cases e2 : (n[k]).length ≤ 63
          · have d3 : decide (63 < ((n[k]).length : Int)) = false := by simp; omega
            have HF := Lib.hid (all_snoc fitL hlt HK.out (by simp [fitL]; omega))
            go_wp2
            exact ⟨⟨k + 1, by omega, by go_num, HF.out⟩, by simp [intOf]; omega⟩
          · have d3 : decide (63 < ((n[k]).length : Int)) = true := by simp; omega
            have HF := Lib.hid (all_not fitL hlt (by simp [fitL]; omega))
            go_wp2
            go_ret
            exact ⟨ret_bool (by simp [soundN, HF.out]), rfl⟩
        · have d2 : decide (((n[k]).length : Int) < 1) = true := by simp; omega
          have HF := Lib.hid (all_not fitL hlt (by simp [fitL]; omega))
          go_wp2
          go_ret
          exact ⟨ret_bool (by simp [soundN, HF.out]), rfl⟩
      · obtain rfl : k = n.length := by omega
        have hall := HK.out
        rw [List.take_length] at hall
        have hsz : szN n ≤ n.length * (63 + 1) + 1 := szN_le 63 n fun l hl => (fitL_iff.1 (List.all_eq_true.1 hall l hl)).2
        have HZ := Lib.hid (ref_size_any A n.length c H n w rfl HA.out (by unfold maxLen; omega))
        have HALL := Lib.hid hall
        clear hall
        go_wp2_with fail
        refine HZ.out.mono ?_
        rintro e w' ⟨rfl, rfl⟩
        go_wp2
        go_ret
        refine ⟨ret_bool ?_, rfl⟩
        simp [soundN, HALL.out]
        omega
  · have HF := Lib.hid (soundN_long (n := n) (by omega))
    have d1 : decide (127 < (n.length : Int)) = true := by simp; omega
    go_enter Try.func12, Try.ntmps12
    go_wp2
    go_ret
    exact ⟨ret_bool HF.out.symm, rfl⟩

/-- The names ns stand in B at the places ats, one behind the other, and B ends with the last one. -/
def Laid (ns : List (List (List UInt8))) (B : List UInt8) (ats : List Nat) : Prop :=
  ats.length = ns.length ∧ ∀ i, i < ns.length → AtN B (ats.getD i 0) (ats.getD i 0) (ns.getD i []) ((ats ++ [B.length]).getD (i + 1) 0)
theorem Laid.nil (B : List UInt8) : Laid [] B [] := ⟨rfl, fun _ h => absurd h (Nat.not_lt_zero _)⟩
theorem getD_left {α : Type} {l m : List α} {i : Nat} {d : α} (h : i < l.length) : (l ++ m).getD i d = l.getD i d := by
  simp [List.getD, List.getElem?_append_left h]
theorem getD_at {α : Type} {l : List α} {a d : α} {i : Nat} (h : i = l.length) : (l ++ [a]).getD i d = a := by
  subst h
  simp [List.getD]
theorem Laid.snoc {ns : List (List (List UInt8))} {B B' S : List UInt8} {ats : List Nat} {n : List (List UInt8)} (h : Laid ns B ats) (hB : B' = B ++ S) (hn : AtN B' B.length B.length n B'.length) : Laid (ns ++ [n]) B' (ats ++ [B.length]) := by
  obtain ⟨h1, h2⟩ := h
  refine ⟨by simp [h1], fun i hi => ?_⟩
  simp only [List.length_append, List.length_cons, List.length_nil] at hi
  by_cases hlt : i < ns.length
  · rw [getD_left (by omega), getD_left hlt, getD_left (by simp; omega)]
    rw [hB]
    exact (h2 i hlt).more S
  · obtain rfl : i = ns.length := by omega
    rw [getD_at h1.symm, getD_at rfl, getD_at (by simp [h1])]
    exact hn

/-- append onto a row of the call's own, as one step of a region that draws. -/
theorem step_append_any {P : Program} {w : World} {ops : Array Oper} {o : Oper} {a : Act} {K : Act → World → Prop} {Q : Exit → Act → World → Prop} {E : Prop} (hgd : o.guard = none) (s x : Operand) (t : TypeId)
    (ho : o.op = .call { callee := .builtin .append, args := #[s, x], argTypes := #[t, t] })
    (base : Nat) (e : TypeId) (i : TypeInfo) (z : Value) (size bytes : Nat) (ht : P.underlying t = some (.slice e)) (hi : P.info? e = some i) (hz : i.zero = some z)
    (hsize : i.size = size) (hby : i.bytes = bytes) (hzs : z.cells.size = size) (hsz : 0 < size)
    (v : Value) (n : Nat) (xs : List Value) (hs : a.eval s = v) (hown : w.ownsRow base e size v n xs)
    (A : Option Addr) (m c H : Nat) (news : List Value) (hx : a.eval x = .slice A m c) (hl : news.length = m * size) (hr : Row w H A news) (h1 : ∀ u ∈ news, u.oneCell' = true)
    (h63 : n + m ≤ maxLen) (hbytes : (n + m) * bytes ≤ 140737488355328) (hbase : base ≤ w.heap.size)
    (h : ∀ v' w', w'.ownsRow base e size v' (n + m) (xs ++ news) → w.grownBy w' v.ownBlock → K (a.put o.dst v') w') : if Region.wanted o (yielded ops a.tmps) = true then Oper.wp P o a w K Q else E := by
  have hw : Region.wanted o (yielded ops a.tmps) = true := by simp [Region.wanted, hgd]
  rw [if_pos hw]
  obtain ⟨v', w', hrun, h2, h3⟩ := append_row_run (P := P) w base t o.type e i z size bytes ht hi hz hsize hby hzs hsz v n xs hown A m c H news hl hr h1 h63 hbytes hbase
  unfold Oper.wp
  simp [execOp, ho, resolve, invoke, builtin, hs, hx, hrun, Result.andThen]
  exact h v' w' h2 h3

end Go.Proofs.Ytjjmllbkfbdcnaa

namespace Go.Proofs.Ytjjmllbkfbdcnaa
open Go.RowKit

def RefPutRel (B g m n s : Nat) (w : World) (l : List UInt8) (v1 : Value) (N i : Value) (wr : World) : Prop :=
  ∃ k : Nat, k ≤ s ∧ i = .int .i64 ((s : Int) - 1 - k) ∧ N = .int .i64 ((n : Int) / 2 ^ (8 * k)) ∧ Whole wr g 5 (laid n s k) ∧ wr.ownsRow B 5 1 v1 m (l.map bc) ∧ Below B w wr

set_option maxHeartbeats 400000 in
theorem ref_put_no (A : Option Addr) (k c H : Nat) (l : List UInt8) (n s : Int) (w : World) (hl : l.length = k) (hA : Row w H A (l.map bc)) (hH : H ≤ w.heap.size) (hb : k ≤ 140737488355328) (hn : n ≤ 9223372036854775807) (hf : fitB n s = false) :
    Calls Try.prog 83 #[.slice A k c, .int .i64 n, .int .i64 s] w (Owned w l) := by
  have hf2 := fun W => ref_fits_any n s W hn
  rw [hf] at hf2
  obtain ⟨i0, hi0, hz0, hz1, hz2⟩ := info_parts u8_info
  have HF := Lib.hid hf2
  have HL := Lib.hid hl
  have HA := Lib.hid (hA.alloc hH (.cells #[] 5))
  clear hf hf2 hl hA hH
  go_enter Try.func83, Try.ntmps83
  go_wp2_with (first
    | (go_at_call 62; refine (HF.out _).mono ?_; rintro e w' ⟨rfl, rfl⟩)
    | (at_builtin
       refine wpList_append_row rfl (.tmp 10) (.tmp 11) _ rfl w.heap.size 5 i0 _ 1 1 Try.underlying22 hi0 hz0 hz1 hz2 rfl (by omega) (.slice (some ⟨w.heap.size, 0, none⟩) 0 0) 0 [] rfl
         (own_lit _ _ _) A k c H (l.map bc) rfl (by rw [List.length_map, HL.out]; omega) HA.out (bc_one l) (by unfold maxLen; omega) (by omega) (by simp) ?_
       intro v1 w1 hown1 hg1
       simp only [Nat.zero_add, List.nil_append] at hown1
       obtain ⟨A1, c1, rfl, hc1, hc2⟩ := own_form hown1
       have HO1 := Lib.hid hown1
       have HB1 := Lib.hid (own_below ((Below.refl w.heap.size w).alloc (Nat.le_refl _) _) (Nat.le_refl _) (by simp) (own_lit w 5 1) hg1)
       clear hown1 hg1))
  go_ret
  have hL := HL.out
  have ho := HO1.out
  rw [← hL] at ho
  exact ⟨A1, c1, by rw [hL]; rfl, ho, HB1.out⟩

set_option maxRecDepth 4000 in
set_option maxHeartbeats 400000 in
theorem ref_put_yes (A : Option Addr) (m c H : Nat) (l : List UInt8) (n s : Nat) (w : World) (hl : l.length = m) (hA : Row w H A (l.map bc)) (hH : H ≤ w.heap.size) (hb : m ≤ 140737488355000) (hf : fitB n s = true) :
    Calls Try.prog 83 #[.slice A m c, .int .i64 n, .int .i64 s] w (Owned w (l ++ digs n s)) := by
  obtain ⟨h1, h2, h3, h4⟩ : (1 : Int) ≤ s ∧ (s : Int) ≤ 7 ∧ (0 : Int) ≤ n ∧ (n : Int) < 2 ^ (8 * (s : Int).toNat) := by simpa [fitB] using hf
  have hn : (n : Int) ≤ 9223372036854775807 := by
    have : (2 : Int) ^ (8 * (s : Int).toNat) ≤ 2 ^ 56 := by
      have := Nat.pow_le_pow_right (n := 2) (by omega) (show 8 * (s : Int).toNat ≤ 56 by omega)
      exact_mod_cast this
    omega
  have hf2 := fun W => ref_fits_any n s W hn
  rw [hf] at hf2
  obtain ⟨i0, hi0, hz0, hz1, hz2⟩ := info_parts u8_info
  have HF := Lib.hid hf2
  have HL := Lib.hid hl
  have HA := Lib.hid (hA.alloc hH (.cells #[] 5))
  have H4 := Lib.hid h4
  clear hf hf2 hl hA h4 hH
  go_enter Try.func83, Try.ntmps83
  go_wp2_with (first
    | (go_at_call 62; refine (HF.out _).mono ?_; rintro e w' ⟨rfl, rfl⟩)
    | (at_builtin
       refine wpList_append_row rfl (.tmp 10) (.tmp 11) _ rfl w.heap.size 5 i0 _ 1 1 Try.underlying22 hi0 hz0 hz1 hz2 rfl (by omega) (.slice (some ⟨w.heap.size, 0, none⟩) 0 0) 0 [] rfl
         (own_lit _ _ _) A m c H (l.map bc) rfl (by rw [List.length_map, HL.out]; omega) HA.out (bc_one l) (by unfold maxLen; omega) (by omega) (by simp) ?_
       intro v1 w1 hown1 hg1
       simp only [Nat.zero_add, List.nil_append] at hown1
       obtain ⟨A1, c1, rfl, hc1, hc2⟩ := own_form hown1
       have HO1 := Lib.hid hown1
       have HB1 := Lib.hid (own_below ((Below.refl w.heap.size w).alloc (Nat.le_refl _) _) (Nat.le_refl _) (by simp) (own_lit w 5 1) hg1)
       have hw1 := HB1.out.size
       clear hown1 hg1)
    | (refine wpList_make_zeros rfl (.tmp 18) (.tmp 18) _ rfl 5 i0 _ 1 Try.underlying22 hi0 hz0 hz1 hz2 rfl .i64 .i64 _ _ s s rfl rfl rfl rfl (by omega) (by omega) (by unfold maxLen; omega) ?_))
  have hown2 := HO1.out.alloc (.cells (zerosL (.int .u8 0) s).toArray 5)
  have hwh := Whole.made w1 (zerosL (.int .u8 0) s) 5
  rw [show zerosL (.int .u8 0) s = laid n s 0 from by simp [laid, zerosL, List.drop_of_length_le (Nat.le_of_eq (length_digs n s))]] at hwh hown2 ⊢
  have HO2 := Lib.hid hown2
  have HW := Lib.hid hwh
  have HB2 := Lib.hid (HB1.out.alloc hw1 (.cells (laid n s 0).toArray 5))
  clear hown2 hwh
  go_loopw [1, 9] (RefPutRel w.heap.size w1.heap.size m n s w l (.slice A1 m c1)) (fun _ i _ => (intOf i + 1).toNat)
  case atStart => exact ⟨0, by omega, by simp, by simp, HW.out, HO2.out, HB2.out⟩
  case round =>
    obtain ⟨k, hk, rfl, rfl, hwh, hown, hbw⟩ := hrel
    have hlt9 := hwh.lt
    have HW1 := Lib.hid hwh
    have HO3 := Lib.hid hown
    have HB3 := Lib.hid hbw
    clear hown hbw
    have g1 := div_nonneg' h3 k
    have g2 := div_le' h3 k
    by_cases hlt : k < s
    · have hd : decide ((k : Int) ≤ (s : Int) - 1) = true := by simp; omega
      have hcel : wr.cell? ⟨w1.heap.size, s - 1 - k, none⟩ = some ((laid n s k)[s - 1 - k]'(by rw [length_laid]; omega)) := by
        rw [hwh.cell]; exact List.getElem?_eq_getElem _
      have hfr := hwh.frozen (s - 1 - k)
      clear hwh
      go_wp2
      refine ⟨⟨k + 1, by omega, by go_num, by rw [div_step], ?_, ?_, ?_⟩, by simp [intOf]; omega⟩
      · rw [← laid_set hlt]; exact HW1.out.set_ _ _
      · refine own_set_far HO3.out (fun e => ?_) _
        have := (HO1.out.lt _ e).2
        exact absurd this (Nat.lt_irrefl _)
      · exact HB3.out.setCell hw1 _
    · obtain rfl : k = s := by omega
      have hd : decide ((0 : Int) ≤ (k : Int) - 1 - k) = false := by simp; omega
      have hrow := hwh.row
      rw [laid_all] at hrow
      have HR := Lib.hid hrow
      clear hwh hrow
      go_wp2_with (
        at_builtin
        refine wpList_append_row rfl (.tmp 34) (.tmp 35) _ rfl w.heap.size 5 i0 _ 1 1 Try.underlying22 hi0 hz0 hz1 hz2 rfl (by omega) (.slice A1 m c1) m _ rfl HO3.out
          (some ⟨w1.heap.size, 0, none⟩) k k wr.heap.size ((digs n k).map bc) rfl (by rw [List.length_map, length_digs]; omega) HR.out (bc_one _) (by unfold maxLen; omega) (by omega) (by omega) ?_
        intro v2 w2 hown2 hg2
        obtain ⟨A2, c2, rfl, hc3, hc4⟩ := own_form hown2
        have HO4 := Lib.hid hown2
        have HB4 := Lib.hid (own_below HB3.out (Nat.le_refl _) (by omega) HO3.out hg2)
        clear hown2 hg2)
      go_ret
      have hL : m + k = (l ++ digs n k).length := by simp [length_digs, HL.out]
      have ho := HO4.out
      rw [← List.map_append, hL] at ho
      exact ⟨A2, c2, by rw [← hL]; rfl, ho, HB4.out⟩

theorem ref_put_any (A : Option Addr) (m c H : Nat) (l : List UInt8) (n s : Int) (w : World) (hl : l.length = m) (hA : Row w H A (l.map bc)) (hH : H ≤ w.heap.size) (hb : m ≤ 140737488355000) (hn : n ≤ 9223372036854775807) :
    Calls Try.prog 83 #[.slice A m c, .int .i64 n, .int .i64 s] w (Owned w (putL l n s)) := by
  cases hf : fitB n s with
  | false => rw [putL_no hf]; exact ref_put_no A m c H l n s w hl hA hH (by omega) hn hf
  | true =>
    have h := hf
    simp only [fitB, decide_eq_true_eq] at h
    obtain ⟨n', rfl⟩ : ∃ k : Nat, n = k := ⟨n.toNat, by omega⟩
    obtain ⟨s', rfl⟩ : ∃ k : Nat, s = k := ⟨s.toNat, by omega⟩
    rw [putL_yes hf]
    exact ref_put_yes A m c H l n' s' w hl hA hH hb hf

end Go.Proofs.Ytjjmllbkfbdcnaa

namespace Go.Proofs.Ytjjmllbkfbdcnaa
open Go.RowKit

theorem own_own_apart {w : World} {b1 b2 : Nat} {e1 e2 : TypeId} {s1 s2 n1 n2 : Nat} {v1 v2 : Value} {x1 x2 : List Value} (h1 : w.ownsRow b1 e1 s1 v1 n1 x1) (h2 : w.ownsRow b2 e2 s2 v2 n2 x2) (he : e1 ≠ e2) {j : Nat} (hj : v1.ownBlock = some j) : v2.ownBlock ≠ some j := by
  intro hk
  rcases h1.2 with ⟨rfl, _⟩ | ⟨g1, _, c1, rfl, _, hh1, _⟩
  · cases hj
  · rcases h2.2 with ⟨rfl, _⟩ | ⟨g2, _, c2, rfl, _, hh2, _⟩
    · cases hk
    · simp [Value.ownBlock] at hj hk
      subst hj; subst hk
      rw [hh1] at hh2
      simp at hh2
      exact he hh2.2

/-- Rests as cells: two each. -/
def restL : Rs → List Value → List Value
  | r :: R, v :: vs => iv r.2 :: v :: restL R vs
  | _, _ => []
theorem restL_snoc : ∀ (R : Rs) (vs : List Value) (r : List (List UInt8) × Nat) (v : Value), vs.length = R.length → restL (R ++ [r]) (vs ++ [v]) = restL R vs ++ [iv r.2, v]
  | [], [], _, _, _ => rfl
  | _ :: R, _ :: vs, r, v, h => by simp only [List.cons_append, restL]; rw [restL_snoc R vs r v (by simpa using h)]
theorem length_restL : ∀ (R : Rs) (vs : List Value), vs.length = R.length → (restL R vs).length = R.length * 2
  | [], [], _ => rfl
  | _ :: R, _ :: vs, h => by simp only [restL, List.length_cons]; rw [length_restL R vs (by simpa using h)]; omega
theorem restL_at : ∀ (R : Rs) (vs : List Value) (i : Nat) (h : i < R.length), vs.length = R.length → (restL R vs)[i * 2]? = some (iv R[i].2) ∧ (restL R vs)[i * 2 + 1]? = vs[i]?
  | _ :: _, _ :: _, 0, _, _ => ⟨rfl, rfl⟩
  | _ :: R, _ :: vs, i + 1, h, hl => by
    have := restL_at R vs i (by simpa using h) (by simpa using hl)
    rw [Nat.add_mul, Nat.one_mul]
    simpa [restL] using this

/-- The row vR says the rests R; all its blocks hold Fp. -/
def RestsOf (w : World) (base : Nat) (Fp : Nat → Prop) (vR : Value) (R : Rs) : Prop :=
  ∃ vs : List Value, vs.length = R.length ∧ w.ownsRow base 83 2 vR R.length (restL R vs) ∧ (∀ j, vR.ownBlock = some j → Fp j) ∧
    ∀ i (h : i < R.length), ∃ A c, vs[i]? = some (.slice A (R[i].1).length c) ∧ w.ownsRow base 9 1 (.slice A (R[i].1).length c) (R[i].1).length ((R[i].1).map sv) ∧ ∀ j, (Value.slice A (R[i].1).length c).ownBlock = some j → Fp j

/-- The document's Writer: its block is g; all its blocks hold Fp. -/
structure RWr (w : World) (base : Nat) (Fp : Nat → Prop) (g : Nat) (vB vR : Value) (B : List UInt8) (R : Rs) : Prop where
  blk : Whole w g 35 [vB, vR]
  fg : Fp g
  row : w.ownsRow base 5 1 vB B.length (B.map bc)
  frow : ∀ j, vB.ownBlock = some j → Fp j
  rests : RestsOf w base Fp vR R
  low : ∀ j, Fp j → base ≤ j ∧ j < w.heap.size

section
variable {w w' : World} {base g : Nat} {Fp Gp : Nat → Prop} {vB vR : Value} {B : List UInt8} {R : Rs}
theorem RWr.c0 (h : RWr w base Fp g vB vR B R) : w.cell? ⟨g, 0, none⟩ = some vB := h.blk.cell 0
theorem RWr.c1 (h : RWr w base Fp g vB vR B R) : w.cell? ⟨g, 1, none⟩ = some vR := h.blk.cell 1
theorem RWr.f0 (h : RWr w base Fp g vB vR B R) : w.frozen? ⟨g, 0, none⟩ = false := h.blk.frozen 0
theorem RWr.f1 (h : RWr w base Fp g vB vR B R) : w.frozen? ⟨g, 1, none⟩ = false := h.blk.frozen 1
theorem RWr.size (h : RWr w base Fp g vB vR B R) : base ≤ w.heap.size := by have := h.low g h.fg; omega
theorem RestsOf.keep (h : RestsOf w base Fp vR R) (hk : ∀ j, Fp j → w'.heap[j]? = w.heap[j]?) : RestsOf w' base Fp vR R := by
  obtain ⟨vs, h1, h2, h3, h4⟩ := h
  refine ⟨vs, h1, own_keep h2 fun j hj => hk j (h3 j hj), h3, fun i hi => ?_⟩
  obtain ⟨A, c, h5, h6, h7⟩ := h4 i hi
  exact ⟨A, c, h5, own_keep h6 fun j hj => hk j (h7 j hj), h7⟩
theorem RestsOf.wider (h : RestsOf w base Fp vR R) (hf : ∀ j, Fp j → Gp j) : RestsOf w base Gp vR R := by
  obtain ⟨vs, h1, h2, h3, h4⟩ := h
  refine ⟨vs, h1, h2, fun j hj => hf j (h3 j hj), fun i hi => ?_⟩
  obtain ⟨A, c, h5, h6, h7⟩ := h4 i hi
  exact ⟨A, c, h5, h6, fun j hj => hf j (h7 j hj)⟩
theorem RWr.keep (h : RWr w base Fp g vB vR B R) (hs : w.heap.size ≤ w'.heap.size) (hk : ∀ j, Fp j → w'.heap[j]? = w.heap[j]?) : RWr w' base Fp g vB vR B R :=
  ⟨h.blk.keep (hk g h.fg), h.fg, own_keep h.row fun j hj => hk j (h.frow j hj), h.frow, h.rests.keep hk, fun j hj => ⟨(h.low j hj).1, Nat.lt_of_lt_of_le (h.low j hj).2 hs⟩⟩
theorem RWr.below (h : RWr w base Fp g vB vR B R) (hb : Below w.heap.size w w') : RWr w' base Fp g vB vR B R := h.keep hb.size fun j hj => hb.block j (h.low j hj).2
theorem RWr.grew (h : RWr w base Fp g vB vR B R) {F : Nat → Prop} (hg : Grew F w w') (hf : ∀ j, Fp j → ¬ F j) : RWr w' base Fp g vB vR B R := h.keep hg.size fun j hj => hg.block j (h.low j hj).2 (hf j hj)
end

/-- The document's Writer has B and R now; nothing but its own has turned. -/
def RPenned (base : Nat) (w : World) (Fp : Nat → Prop) (g : Nat) (B : List UInt8) (R : Rs) (w' : World) : Prop :=
  ∃ Gp vB vR, RWr w' base Gp g vB vR B R ∧ Grew Fp w w' ∧ ∀ j, Gp j → Fp j ∨ w.heap.size ≤ j
theorem RPenned.then {base : Nat} {w w1 w2 : World} {Fp Gp : Nat → Prop} {g : Nat} {B : List UInt8} {R : Rs} (hg : Grew Fp w w1) (hf : ∀ j, Gp j → Fp j ∨ w.heap.size ≤ j) (h : RPenned base w1 Gp g B R w2) : RPenned base w Fp g B R w2 := by
  obtain ⟨Gq, vB, vR, h1, h2, h3⟩ := h
  refine ⟨Gq, vB, vR, h1, hg.trans h2 hf, fun j hj => ?_⟩
  rcases h3 j hj with h4 | h4
  · exact hf j h4
  · exact .inr (Nat.le_trans hg.size h4)

/-- A new row of bytes has been put into the first cell. -/
theorem RWr.newB {w w' : World} {base g : Nat} {Fp : Nat → Prop} {vB vR v : Value} {B l : List UInt8} {R : Rs} (h : RWr w base Fp g vB vR B R) (hb : Below w.heap.size w w') (ho : w'.ownsRow w.heap.size 5 1 v l.length (l.map bc)) :
    RPenned base w Fp g l R (w'.setCell ⟨g, 0, none⟩ v) := by
  have hw := h.below hb
  have hne : v.ownBlock ≠ some g := own_not_whole ho hw.blk (by decide)
  have hk : ∀ j, j ≠ g → (w'.setCell ⟨g, 0, none⟩ v).heap[j]? = w'.heap[j]? := fun j hj => Below.heap_setCell w' ⟨g, 0, none⟩ v j hj
  have hgp : ∀ j, Fp j → Fp j ∨ (w.heap.size ≤ j ∧ j < w'.heap.size) := fun j hj => .inl hj
  refine ⟨fun j => Fp j ∨ (w.heap.size ≤ j ∧ j < w'.heap.size), v, vR, ⟨hw.blk.set_ 0 v, .inl h.fg, ?_, fun j hj => .inr (ho.lt j hj), ?_, ?_⟩, ?_, ?_⟩
  · exact own_mono (own_set_far ho hne v) h.size
  · obtain ⟨vs, h1, h2, h3, h4⟩ := hw.rests
    refine RestsOf.wider (Fp := Fp) ⟨vs, h1, own_set_far h2 (own_not_whole h2 hw.blk (by decide)) v, h3, fun i hi => ?_⟩ hgp
    obtain ⟨A, c, h5, h6, h7⟩ := h4 i hi
    exact ⟨A, c, h5, own_set_far h6 (own_not_whole h6 hw.blk (by decide)) v, h7⟩
  · intro j hj
    have hs : (w'.setCell ⟨g, 0, none⟩ v).heap.size = w'.heap.size := by simp
    rw [hs]
    rcases hj with hj | hj
    · have := h.low j hj; have := hb.size; omega
    · have := h.size; omega
  · exact (Grew.all hb).setCell (.inl h.fg) _
  · intro j hj
    rcases hj with hj | hj
    · exact .inl hj
    · exact .inr hj.1

set_option maxHeartbeats 1000000 in
theorem rraw_any (base : Nat) (w : World) (Fp : Nat → Prop) (g : Nat) (vB vR : Value) (B : List UInt8) (R : Rs) (A : Option Addr) (m c : Nat) (l : List UInt8) (h : RWr w base Fp g vB vR B R) (hl : l.length = m) (hr : Row w w.heap.size A (l.map bc)) (hm : B.length + m ≤ 140737488355000) :
    Calls Try.prog 50 #[.pointer (some ⟨g, 0, none⟩), .slice A m c] w (fun e w' => e = .returned (.tuple #[]) ∧ RPenned base w Fp g (B ++ l) R w') := by
  obtain ⟨i0, hi0, hz0, hz1, hz2⟩ := info_parts u8_info
  obtain ⟨A0, c0, rfl, _, _⟩ := own_form h.row
  have h0 := h.c0
  have hgl := h.blk.lt
  have HR := Lib.hid hr
  have HL := Lib.hid hl
  have HW := Lib.hid h
  have HR0 := Lib.hid ((Row.of_own h.row).alloc (Nat.le_refl _) (.cells #[] 5))
  clear h hl hr
  go_enter Try.func50, Try.ntmps50
  go_wp2_with (first
    | (at_builtin
       refine wpList_append_row rfl (.tmp 5) (.tmp 9) _ rfl w.heap.size 5 i0 _ 1 1 Try.underlying22 hi0 hz0 hz1 hz2 rfl (by omega) (.slice (some ⟨w.heap.size, 0, none⟩) 0 0) 0 [] rfl
         (own_lit _ _ _) A0 B.length c0 w.heap.size (B.map bc) rfl (by rw [List.length_map, Nat.mul_one]) HR0.out (bc_one B) (by unfold maxLen; omega) (by omega) (by simp) ?_
       intro v1 w1 hown1 hg1
       simp only [Nat.zero_add, List.nil_append] at hown1
       obtain ⟨A1, c1, rfl, _, _⟩ := own_form hown1
       have HO1 := Lib.hid hown1
       have HB1 := Lib.hid (own_below ((Below.refl w.heap.size w).alloc (Nat.le_refl _) _) (Nat.le_refl _) (by simp) (own_lit w 5 1) hg1)
       have hz1' : w.heap.size ≤ w1.heap.size := HB1.out.size
       clear hown1 hg1)
    | (at_builtin
       refine wpList_append_row rfl (.tmp 10) (.tmp 11) _ rfl w.heap.size 5 i0 _ 1 1 Try.underlying22 hi0 hz0 hz1 hz2 rfl (by omega) (.slice A1 B.length c1) B.length _ rfl HO1.out
         A m c w.heap.size (l.map bc) rfl (by rw [List.length_map, HL.out, Nat.mul_one]) (HR.out.below HB1.out) (bc_one l) (by unfold maxLen; omega) (by omega) hz1' ?_
       intro v2 w2 hown2 hg2
       obtain ⟨A2, c2, rfl, _, _⟩ := own_form hown2
       have HO2 := Lib.hid hown2
       have hb2 := own_below HB1.out (Nat.le_refl _) hz1' HO1.out hg2
       have hk2 := (HW.out.below hb2)
       have c0' := hk2.c0
       have f0' := hk2.f0
       have HB2 := Lib.hid hb2
       clear hown2 hg2 hb2 hk2))
  go_end0
  have ho := HO2.out
  have hl2 : B.length + m = (B ++ l).length := by rw [List.length_append, HL.out]
  rw [← List.map_append] at ho
  rw [hl2] at ho ⊢
  exact ⟨rfl, HW.out.newB HB2.out ho⟩

set_option maxHeartbeats 1000000 in
theorem rnum_any (base : Nat) (w : World) (Fp : Nat → Prop) (g : Nat) (vB vR : Value) (B : List UInt8) (R : Rs) (n s : Int) (h : RWr w base Fp g vB vR B R) (hm : B.length ≤ 140737488354000) (hn : n ≤ 9223372036854775807) :
    Calls Try.prog 49 #[.pointer (some ⟨g, 0, none⟩), .int .i64 n, .int .i64 s] w (fun e w' => e = .returned (.tuple #[]) ∧ RPenned base w Fp g (putL B n s) R w') := by
  obtain ⟨A0, c0, rfl, _, _⟩ := own_form h.row
  have HP := Lib.hid (ref_put_any A0 B.length c0 w.heap.size B n s w rfl (Row.of_own h.row) (Nat.le_refl _) (by omega) hn)
  have h0 := h.c0
  have HW := Lib.hid h
  clear h
  generalize putL B n s = l at *
  go_enter Try.func49, Try.ntmps49
  go_wp2_with fail
  refine HP.out.mono ?_
  rintro e w1 ⟨A1, c1, rfl, ho, hb⟩
  have hk1 := HW.out.below hb
  have c0' := hk1.c0
  have f0' := hk1.f0
  have HO := Lib.hid ho
  have HB := Lib.hid hb
  clear ho hb hk1
  go_wp2
  go_end0
  exact ⟨rfl, HW.out.newB HB.out HO.out⟩

end Go.Proofs.Ytjjmllbkfbdcnaa

namespace Go.Proofs.Ytjjmllbkfbdcnaa
open Go.RowKit

theorem nameW_prefix (short : Bool) : ∀ (n : List (List UInt8)) (B : List UInt8) (R : Rs), ∃ T, (nameW short n B R).2 = R ++ T
  | [], B, R => ⟨[], by simp [nameW_nil]⟩
  | l :: n, B, R => by
    have step : ∃ T, (nameW short n (B ++ UInt8.ofNat l.length :: l) (if B.length < 16384 then R ++ [(l :: n, B.length)] else R)).2 = R ++ T := by
      obtain ⟨T, hT⟩ := nameW_prefix short n (B ++ UInt8.ofNat l.length :: l) (if B.length < 16384 then R ++ [(l :: n, B.length)] else R)
      rw [hT]
      split
      · exact ⟨(l :: n, B.length) :: T, by simp⟩
      · exact ⟨T, rfl⟩
    cases hfi : findR R (l :: n) with
    | none => rw [nameW_miss hfi]; exact step
    | some k =>
      cases short with
      | false => rw [nameW_long]; exact step
      | true => rw [nameW_hit hfi]; exact ⟨[], by simp⟩
theorem findR_append {R : Rs} {n : List (List UInt8)} {k : Nat} (T : Rs) (h : findR R n = some k) : findR (R ++ T) n = some k := by
  unfold findR at h ⊢
  rw [List.find?_append]
  cases hf : R.find? fun r => decide (r.1 = n) with
  | none => rw [hf] at h; cases h
  | some r => rw [hf] at h; exact h
theorem findR_other {R : Rs} {n : List (List UInt8)} (h : ∀ r ∈ R, n.length < r.1.length) : findR R n = none := by
  unfold findR
  rw [Option.map_eq_none_iff, List.find?_eq_none]
  intro r hr
  have := h r hr
  simp
  intro e
  rw [e] at this
  omega
/-- A name of which no rest was written is written whole. -/
theorem nameW_fresh (short : Bool) : ∀ (n : List (List UInt8)) (B : List UInt8) (R : Rs), (∀ r ∈ R, n.length < r.1.length) → (nameW short n B R).1.length = B.length + szN n ∧ (16384 ≤ B.length → (nameW short n B R).2 = R) ∧ (B.length < 16384 → n ≠ [] → findR (nameW short n B R).2 n = some B.length)
  | [], B, R, _ => by simp [nameW_nil, szN]
  | l :: n, B, R, h => by
    have hfi := findR_other h
    rw [nameW_miss hfi]
    obtain ⟨h1, h2, _⟩ := nameW_fresh short n (B ++ UInt8.ofNat l.length :: l) (if B.length < 16384 then R ++ [(l :: n, B.length)] else R) (fun r hr => by
      split at hr
      · rcases List.mem_append.1 hr with hr | hr
        · have := h r hr; simp at this; omega
        · rw [List.mem_singleton.1 hr]; simp
      · have := h r hr; simp at this; omega)
    refine ⟨?_, fun hb => ?_, fun hb _ => ?_⟩
    · rw [h1]; simp [szN]; omega
    · rw [h2 (by simp; omega), if_neg (by omega)]
    · rw [if_pos hb]
      obtain ⟨T, hT⟩ := nameW_prefix short n (B ++ UInt8.ofNat l.length :: l) (R ++ [(l :: n, B.length)])
      rw [hT]
      refine findR_append T ?_
      rw [findR_snoc, hfi, if_pos rfl]
      rfl
theorem length_nameW_hit {n : List (List UInt8)} {B : List UInt8} {R : Rs} {k : Nat} (hn : n ≠ []) (h : findR R n = some k) : (nameW true n B R).1.length = B.length + 2 := by
  cases n with
  | nil => exact absurd rfl hn
  | cons l n => rw [nameW_hit h]; simp [length_digs]

end Go.Proofs.Ytjjmllbkfbdcnaa

namespace Go.Proofs.Ytjjmllbkfbdcnaa
open Go.RowKit

def findV (R : Rs) (n : List (List UInt8)) : Int := match findR R n with
  | some k => (k : Int)
  | none => -1
theorem findV_some {R : Rs} {n : List (List UInt8)} {k : Nat} (h : findR R n = some k) : findV R n = k := by simp only [findV, h]
theorem findV_none {R : Rs} {n : List (List UInt8)} (h : findR R n = none) : findV R n = -1 := by simp only [findV, h]
def FindRel (w : World) (R : Rs) (n : List (List UInt8)) (i : Value) (wr : World) : Prop := ∃ k q : Nat, k ≤ R.length ∧ i = .int .i64 k ∧ findR (R.take k) n = none ∧ wr = w.drewN q
theorem findR_here {R : Rs} {n : List (List UInt8)} {k : Nat} (hk : k < R.length) (h : findR (R.take k) n = none) (e : R[k].1 = n) : findR R n = some R[k].2 := by
  have h1 : findR (R.take (k + 1)) n = some R[k].2 := by
    rw [List.take_succ_eq_append_getElem hk, show R[k] = (R[k].1, R[k].2) from rfl, findR_snoc, h, if_pos e]
    rfl
  have h2 := findR_append (R.drop (k + 1)) h1
  rwa [List.take_append_drop] at h2
theorem findR_not {R : Rs} {n : List (List UInt8)} {k : Nat} (hk : k < R.length) (h : findR (R.take k) n = none) (e : R[k].1 ≠ n) : findR (R.take (k + 1)) n = none := by
  rw [List.take_succ_eq_append_getElem hk, show R[k] = (R[k].1, R[k].2) from rfl, findR_snoc, h, if_neg e]
  rfl

set_option maxHeartbeats 1000000 in
theorem rfind_any (base : Nat) (w : World) (Fp : Nat → Prop) (g : Nat) (vB vR : Value) (B : List UInt8) (R : Rs) (A : Option Addr) (m c : Nat) (n : List (List UInt8)) (h : RWr w base Fp g vB vR B R) (hl : n.length = m) (hA : Row w w.heap.size A (n.map sv))
    (_ : n.length ≤ 1000) (hR : R.length ≤ 1000000) (hR1 : ∀ r ∈ R, r.1.length ≤ 1000) :
    Calls Try.prog 48 #[.pointer (some ⟨g, 0, none⟩), .slice A m c] w (Drewn w (.int .i64 (findV R n))) := by
  subst hl
  obtain ⟨vs, hvl, hrow, hfr, hat⟩ := h.rests
  obtain ⟨AR, cR, rfl, hc1, hc2⟩ := own_form hrow
  have h1 := h.c1
  have HAT := Lib.hid hat
  have HRW := Lib.hid hrow
  have HA := Lib.hid hA
  have HR1 := Lib.hid hR1
  have HVL := Lib.hid hvl
  clear h hat hrow hA hR1 hvl hfr
  go_enter Try.func48, Try.ntmps48
  go_wp2
  go_loopw [5] (FindRel w R n) (fun i _ => R.length - (intOf i).toNat)
  case atStart => exact ⟨0, 0, Nat.zero_le _, rfl, by rw [List.take_zero]; rfl, rfl⟩
  case round =>
    obtain ⟨k, q, hk, rfl, hno, rfl⟩ := hrel
    have HNO := Lib.hid hno
    clear hno
    by_cases hlt : k < R.length
    · obtain ⟨gR, rfl⟩ := own_some HRW.out (by omega)
      obtain ⟨Ak, ck, hv, hok, _⟩ := HAT.out k hlt
      obtain ⟨hr1, hr2⟩ := restL_at R vs k hlt HVL.out
      rw [hv] at hr2
      have hc0 := HRW.out.cells (g := gR) rfl (k * 2) _ hr1
      have hc1' := HRW.out.cells (g := gR) rfl (k * 2 + 1) _ hr2
      rw [addr_add, Nat.zero_add] at hc0 hc1'
      have hc0' : w.cell? ⟨gR, k * 2, none⟩ = some (.int .i64 (R[k].2 : Int)) := hc0
      have hlen := HR1.out _ (List.getElem_mem hlt)
      obtain ⟨x, hx⟩ : ∃ x, x = R[k].1 := ⟨_, rfl⟩
      obtain ⟨y, hy⟩ : ∃ y, y = R[k].2 := ⟨_, rfl⟩
      rw [← hx] at hc1' hok hlen
      rw [← hy] at hc0'
      have HX := Lib.hid hx
      have HY := Lib.hid hy
      have HE := Lib.hid (fun W hA' hB' => exact_any Ak A x.length n.length ck c w.heap.size x n W rfl rfl hA' hB' (by unfold maxLen; omega))
      have HOK := Lib.hid (Row.of_own hok)
      clear hv hok hr1 hr2 hc0 hx hy
      by_cases he : x = n
      · rw [show decide (x = n) = true by simp [he]] at HE
        have HF := Lib.hid (findR_here hlt HNO.out (by rw [← HX.out]; exact he))
        clear he
        go_wp2_with fail
        refine (HE.out _ (HOK.out.drewN q) (HA.out.drewN q)).mono ?_
        rintro e w1 ⟨rfl, q1, rfl⟩
        go_wp2
        go_ret
        exact ⟨ret_int (by rw [findV_some HF.out, ← HY.out]), q + q1, rfl⟩
      · rw [show decide (x = n) = false by simp [he]] at HE
        have HF := Lib.hid (findR_not hlt HNO.out (by rw [← HX.out]; exact he))
        clear he
        go_wp2_with fail
        refine (HE.out _ (HOK.out.drewN q) (HA.out.drewN q)).mono ?_
        rintro e w1 ⟨rfl, q1, rfl⟩
        go_wp2
        exact ⟨⟨k + 1, q + q1, by omega, by go_num, HF.out, rfl⟩, by simp [intOf]; omega⟩
    · obtain rfl : k = R.length := by omega
      have HF := Lib.hid (show findR R n = none by have h := HNO.out; rwa [List.take_length] at h)
      go_wp2
      go_ret
      exact ⟨ret_int (findV_none HF.out).symm, q, rfl⟩

theorem rest_info : (Try.prog.info? 83).map (fun i => (i.zero, i.size, i.bytes)) = some (some (.agg #[.int .i64 0, .slice none 0 0]), 2, 32) := by kernel_rfl

theorem putL_ptr' (B : List UInt8) {k : Nat} (hk : k < 16384) : putL B (49152 + (k : Int)) 2 = B ++ digs (49152 + k) 2 := by
  have hf : fitB ((49152 + k : Nat) : Int) ((2 : Nat) : Int) = true := fitB_true (by omega) (by omega) (by omega) (by simp; omega)
  have h := putL_yes (l := B) hf
  simpa using h
theorem putL_len (B : List UInt8) {k : Nat} (hk : k < 256) : putL B (k : Int) 1 = B ++ [UInt8.ofNat k] := by
  have hf : fitB (k : Int) ((1 : Nat) : Int) = true := fitB_true (by omega) (by omega) (by omega) (by simp; omega)
  have h := putL_yes (l := B) hf
  simp only [digs, List.range_succ, List.range_zero] at h
  simpa using h

/-- append onto a row of the call's own, as one step of a region that draws; it says where the new row lies. -/
theorem step_append_at {P : Program} {w : World} {ops : Array Oper} {o : Oper} {a : Act} {K : Act → World → Prop} {Q : Exit → Act → World → Prop} {E : Prop} (hgd : o.guard = none) (s x : Operand) (t : TypeId)
    (ho : o.op = .call { callee := .builtin .append, args := #[s, x], argTypes := #[t, t] })
    (base : Nat) (e : TypeId) (i : TypeInfo) (z : Value) (size bytes : Nat) (ht : P.underlying t = some (.slice e)) (hi : P.info? e = some i) (hz : i.zero = some z)
    (hsize : i.size = size) (hby : i.bytes = bytes) (hzs : z.cells.size = size) (hsz : 0 < size)
    (v : Value) (n : Nat) (xs : List Value) (hs : a.eval s = v) (hown : w.ownsRow base e size v n xs)
    (A : Option Addr) (m c H : Nat) (news : List Value) (hx : a.eval x = .slice A m c) (hl : news.length = m * size) (hr : Row w H A news) (h1 : ∀ u ∈ news, u.oneCell' = true)
    (h63 : n + m ≤ maxLen) (hbytes : (n + m) * bytes ≤ 140737488355328) (hbase : base ≤ w.heap.size)
    (h : ∀ v' w', w'.ownsRow base e size v' (n + m) (xs ++ news) → w.grownBy w' v.ownBlock → (v'.ownBlock = v.ownBlock ∨ v'.ownBlock = some w.heap.size) → K (a.put o.dst v') w') : if Region.wanted o (yielded ops a.tmps) = true then Oper.wp P o a w K Q else E := by
  have hw : Region.wanted o (yielded ops a.tmps) = true := by simp [Region.wanted, hgd]
  rw [if_pos hw]
  have key : ∃ v' w', (Builtin.append_ #[t, t] o.type #[v, .slice A m c]).run P w = .ok v' w' ∧ w'.ownsRow base e size v' (n + m) (xs ++ news) ∧ w.grownBy w' v.ownBlock ∧ (v'.ownBlock = v.ownBlock ∨ v'.ownBlock = some w.heap.size) := by
    rcases A with _ | ad
    · have hn : news = [] := by
        rcases news with _ | ⟨u, us⟩
        · rfl
        · obtain ⟨_, _, h, _⟩ := hr (by simp)
          cases h
      have hm : m = 0 := by
        subst hn
        rcases Nat.eq_zero_or_pos m with h0 | h0
        · exact h0
        · have := Nat.mul_pos h0 hsz
          simp at hl; omega
      subst hn; subst hm
      exact ⟨v, w, append_nil_run (P := P) w base t o.type e i size ht hi v n xs hown c, by simpa using hown, World.grownBy.refl w _, .inl rfl⟩
    · have hc : ∀ j u, news[j]? = some u → w.cell? (ad.add j) = some u := by
        intro j u hu
        obtain ⟨b, off, e, _, hc⟩ := hr (fun e => by rw [e] at hu; simp at hu)
        injection e with e
        subst e
        rw [addr_add]
        exact hc j u hu
      obtain ⟨v', w', h2, h3, h4, _, h6⟩ := run_append_own_at (P := P) w base t o.type e i z size bytes ht hi hz hsize hby hzs hsz v n xs hown ad m c news hl hc h1 h63 hbytes hbase
      exact ⟨v', w', h2, h3, h4, h6⟩
  obtain ⟨v', w', hrun, h2, h3, h4⟩ := key
  unfold Oper.wp
  simp [execOp, ho, resolve, invoke, builtin, hs, hx, hrun, Result.andThen]
  exact h v' w' h2 h3 h4

/-- A rest has been noted. -/
theorem RWr.newR {w w1 w2 : World} {base g k : Nat} {Fp : Nat → Prop} {vB vR v2 : Value} {B : List UInt8} {R : Rs} {A : Option Addr} {c : Nat} {n : List (List UInt8)} {vs : List Value} (h : RWr w base Fp g vB vR B R) (hb : Below w.heap.size w w1)
    (hvl : vs.length = R.length) (hrow : w.ownsRow base 83 2 vR R.length (restL R vs)) (hfr : ∀ j, vR.ownBlock = some j → Fp j)
    (hat : ∀ i (h : i < R.length), ∃ A c, vs[i]? = some (.slice A (R[i].1).length c) ∧ w.ownsRow base 9 1 (.slice A (R[i].1).length c) (R[i].1).length ((R[i].1).map sv) ∧ ∀ j, (Value.slice A (R[i].1).length c).ownBlock = some j → Fp j)
    (ho : w1.ownsRow w.heap.size 9 1 (.slice A n.length c) n.length (n.map sv)) (ho2 : w2.ownsRow base 83 2 v2 (R.length + 1) (restL R vs ++ [iv k, .slice A n.length c]))
    (hg : w1.grownBy w2 vR.ownBlock) (hv2 : v2.ownBlock = vR.ownBlock ∨ v2.ownBlock = some w1.heap.size) :
    RPenned base w Fp g B (R ++ [(n, k)]) (w2.setCell ⟨g, 1, none⟩ v2) := by
  have hw1 := h.below hb
  have hrow1 := own_keep hrow fun j hj => hb.block j (hrow.lt j hj).2
  have hgne : vR.ownBlock ≠ some g := own_not_whole hrow h.blk (by decide)
  have hblk2 : Whole w2 g 35 [vB, vR] := hw1.blk.keep (hg.block g hw1.blk.lt (Ne.symm hgne))
  have hk : ∀ j, j < w1.heap.size → vR.ownBlock ≠ some j → j ≠ g → (w2.setCell ⟨g, 1, none⟩ v2).heap[j]? = w1.heap[j]? := fun j hj h1 h2 => (Below.heap_setCell w2 ⟨g, 1, none⟩ v2 j h2).trans (hg.block j hj (Ne.symm h1))
  have hs2 : (w2.setCell ⟨g, 1, none⟩ v2).heap.size = w2.heap.size := by simp
  have hsz1 := hb.size
  have hsz2 := hg.size
  have hbs := h.size
  refine ⟨fun j => Fp j ∨ (w.heap.size ≤ j ∧ j < w2.heap.size), vB, v2, ⟨hblk2.set_ 1 v2, .inl h.fg, ?_, fun j hj => .inl (h.frow j hj), ?_, ?_⟩, ?_, ?_⟩
  · refine own_keep hw1.row fun j hj => hk j (hw1.row.lt j hj).2 (own_own_apart hw1.row hrow1 (by decide) hj) (fun e => own_not_whole hw1.row hw1.blk (by decide) (by rw [hj, e]))
  · refine ⟨vs ++ [.slice A n.length c], by simp [hvl], ?_, fun j hj => ?_, fun i hi => ?_⟩
    · rw [restL_snoc R vs (n, k) _ hvl, List.length_append]
      exact own_set_far ho2 (own_not_whole ho2 hblk2 (by decide)) v2
    · rcases hv2 with e | e
      · exact .inl (hfr j (by rw [← e]; exact hj))
      · rw [e] at hj
        injection hj with hj
        have := (ho2.lt w1.heap.size e).2
        exact .inr ⟨by omega, by omega⟩
    · simp only [List.length_append, List.length_cons, List.length_nil] at hi
      by_cases hlt : i < R.length
      · obtain ⟨A', c', h5, h6, h7⟩ := hat i hlt
        have h6' := own_keep h6 fun j hj => hb.block j (h6.lt j hj).2
        simp only [List.getElem_append_left hlt]
        refine ⟨A', c', by rw [List.getElem?_append_left (by omega)]; exact h5, own_keep h6' fun j hj => hk j (h6'.lt j hj).2 (own_own_apart h6' hrow1 (by decide) hj) (fun e => own_not_whole h6' hw1.blk (by decide) (by rw [hj, e])), fun j hj => .inl (h7 j hj)⟩
      · obtain rfl : i = R.length := by omega
        have hge : (R ++ [(n, k)])[R.length] = (n, k) := by simp
        simp only [hge]
        refine ⟨A, c, by rw [← hvl]; simp, own_mono (own_keep ho fun j hj => hk j (ho.lt j hj).2 (own_own_apart ho hrow1 (by decide) hj) (fun e => own_not_whole ho hw1.blk (by decide) (by rw [hj, e]))) hbs, fun j hj => .inr ⟨(ho.lt j hj).1, ?_⟩⟩
        have := (ho.lt j hj).2
        omega
  · intro j hj
    rw [hs2]
    rcases hj with hj | hj
    · have := h.low j hj; omega
    · omega
  · refine ((Grew.all hb).grown hg fun j hj => .inl (hfr j hj)).setCell (.inl h.fg) _
  · intro j hj
    rcases hj with hj | hj
    · exact .inl hj
    · exact .inr hj.1
theorem Row.cell_at {w : World} {H b off : Nat} {n : List (List UInt8)} (h : Row w H (some ⟨b, off, none⟩) (n.map sv)) {k : Nat} (hk : k < n.length) : w.cell? ⟨b, off + k, none⟩ = some (.string ⟨(n[k]).toArray⟩) := by
  obtain ⟨b', off', e, _, hc⟩ := h.name_at hk
  injection e with e
  injection e with e1 e2
  subst e1; subst e2
  exact hc

/-- Is a pointer written? -/
def hitB (R : Rs) (n : List (List UInt8)) (short : Bool) : Bool := (findR R n).isSome && short
def HitRel (R : Rs) (n : List (List UInt8)) (short : Bool) (wf : World) (s : Value) (wx : World) : Prop := s = .bool (hitB R n short) ∧ wf = wx
theorem hitB_true {R : Rs} {n : List (List UInt8)} {short : Bool} (h : hitB R n short = true) : ∃ a, findR R n = some a ∧ short = true := by
  simp only [hitB, Bool.and_eq_true] at h
  obtain ⟨a, ha⟩ := Option.isSome_iff_exists.1 h.1
  exact ⟨a, ha, h.2⟩
theorem nameW_nohit {short : Bool} {l : List UInt8} {n : List (List UInt8)} {B : List UInt8} {R : Rs} (h : hitB R (l :: n) short = false) :
    nameW short (l :: n) B R = nameW short n (B ++ UInt8.ofNat l.length :: l) (if B.length < 16384 then R ++ [(l :: n, B.length)] else R) := by
  cases hf : findR R (l :: n) with
  | none => exact nameW_miss hf
  | some a =>
    have hs : short = false := by simpa [hitB, hf] using h
    subst hs
    exact nameW_long l n B R
theorem noteR_long {B : List UInt8} {R : Rs} {r : List (List UInt8)} (h : ∀ x ∈ R, x.2 < 16384 ∧ x.1.length ≤ 1000) (hr : r.length ≤ 1000) : (∀ x ∈ noteR B R r, x.2 < 16384 ∧ x.1.length ≤ 1000) ∧ (noteR B R r).length ≤ R.length + 1 := by
  unfold noteR
  split
  · rename_i hb
    refine ⟨fun x hx => ?_, by simp⟩
    rcases List.mem_append.1 hx with hx | hx
    · exact h x hx
    · rw [List.mem_singleton.1 hx]; exact ⟨hb, hr⟩
  · exact ⟨h, by omega⟩

/-- Behind the note of a rest. -/
def NotedRel (base : Nat) (w : World) (Fp : Nat → Prop) (g : Nat) (B : List UInt8) (R : Rs) (wx : World) : Prop := RPenned base w Fp g B R wx

def RNameRel (base : Nat) (w : World) (Fp : Nat → Prop) (g : Nat) (short : Bool) (n : List (List UInt8)) (B : List UInt8) (R : Rs) (i : Value) (wr : World) : Prop :=
  ∃ (k : Nat) (B' : List UInt8) (R' : Rs), k ≤ n.length ∧ i = .int .i64 (k : Nat) ∧ RPenned base w Fp g B' R' wr ∧ nameW short n B R = nameW short (n.drop k) B' R' ∧ B'.length + szN (n.drop k) ≤ B.length + szN n ∧ R'.length ≤ R.length + k ∧ ∀ r ∈ R', r.2 < 16384 ∧ r.1.length ≤ 1000

set_option maxRecDepth 100000 in
set_option maxHeartbeats 8000000 in
theorem rname_any (base : Nat) (w : World) (Fp : Nat → Prop) (g : Nat) (vB vR : Value) (B : List UInt8) (R : Rs) (A : Option Addr) (c H : Nat) (n : List (List UInt8)) (short : Bool) (h : RWr w base Fp g vB vR B R) (hA : Row w H A (n.map sv)) (hH : H ≤ base) (hc : n.length ≤ c)
    (hs : soundN n = true) (hB : B.length ≤ 1000000000) (hR : R.length ≤ 900000) (hR16 : ∀ r ∈ R, r.2 < 16384 ∧ r.1.length ≤ 1000) :
    Calls Try.prog 14 #[.pointer (some ⟨g, 0, none⟩), .slice A n.length c, .bool short] w (fun e w' => e = .returned (.tuple #[]) ∧ RPenned base w Fp g (nameW short n B R).1 (nameW short n B R).2 w') := by
  obtain ⟨s0, hs0, hx0, hx1, hx2⟩ := info_parts str_info
  obtain ⟨r0, hr0, hu0, hu1, hu2⟩ := info_parts rest_info
  have hs2 := hs
  simp only [soundN, Bool.and_eq_true, decide_eq_true_eq] at hs2
  obtain ⟨hfl, hsz⟩ := hs2
  have hnl := szN_ge n hfl
  have hbs := h.size
  have hlow := h.low
  have HA := Lib.hid hA
  have HF := Lib.hid hfl
  have HLOW := Lib.hid hlow
  have HW0 := Lib.hid (show RPenned base w Fp g B R w from ⟨Fp, vB, vR, h, Grew.refl _ _, fun j hj => .inl hj⟩)
  have HR16 := Lib.hid hR16
  clear h hA hs hfl hlow hR16
  go_enter Try.func14, Try.ntmps14
  go_wp2
  go_loopw [6] (RNameRel base w Fp g short n B R) (fun i _ => n.length - (intOf i).toNat)
  case atStart => exact ⟨0, B, R, Nat.zero_le _, rfl, HW0.out, rfl, Nat.le_refl _, Nat.le_refl _, HR16.out⟩
  case round =>
    obtain ⟨k, B1, R1, hk, rfl, ⟨Gp, vB1, vR1, hw1, hg1, ho1⟩, hnw, hb1, hr1, hr16⟩ := hrel
    obtain ⟨AB, cB, rfl, _, _⟩ := own_form hw1.row
    have HW1 := Lib.hid hw1
    have HG1 := Lib.hid hg1
    have HO1 := Lib.hid ho1
    have HNW := Lib.hid hnw
    have HR1 := Lib.hid hr16
    have hrowA := HA.out.grew hg1 (Nat.le_trans hH hbs) (fun j hj => Nat.le_trans hH (HLOW.out j hj).1)
    have HAr := Lib.hid hrowA
    have hHr : H ≤ wr.heap.size := Nat.le_trans hH hw1.size
    clear hw1 hg1 ho1 hnw hr16
    by_cases hlt : k < n.length
    · obtain ⟨bA, oA, rfl, hbA, hcA⟩ := hrowA.name_at hlt
      obtain ⟨l, hl⟩ : ∃ l, l = n[k] := ⟨_, rfl⟩
      have hdk : n.drop k = l :: n.drop (k + 1) := by rw [hl, List.drop_eq_getElem_cons hlt]
      have hfk : 1 ≤ l.length ∧ l.length ≤ 63 := by
        have h := List.all_eq_true.1 HF.out _ (List.getElem_mem hlt)
        rw [← hl] at h
        exact fitL_iff.1 h
      obtain ⟨hl1, hl2⟩ := hfk
      have hdl : szN (n.drop k) = l.length + 1 + szN (n.drop (k + 1)) := by rw [hdk]; rfl
      have hdn : (n.drop k).length ≤ 1000 := by rw [List.length_drop]; omega
      have hrowD : Row wr wr.heap.size (some ⟨bA, oA + k, none⟩) ((n.drop k).map sv) := by
        have h := (hrowA.drop rfl (k := k)).mono hHr
        rwa [← List.map_drop] at h
      have HFD := Lib.hid (rfind_any base wr Gp g (.slice AB B1.length cB) vR1 B1 R1 (some ⟨bA, oA + k, none⟩) (n.length - k) (c - k) (n.drop k) HW1.out (by simp) hrowD hdn (by omega) (fun r hr => (HR1.out r hr).2))
      have hck : (c = k) = False := by simp; omega
      have hk0 : (0 : Int) ≤ k := by omega
      have hk1 : (k : Int) ≤ (n.length : Int) := by omega
      have HL := Lib.hid hl
      have HDK := Lib.hid hdk
      clear hrowA hrowD hl hdk hcA
      go_wp2_with fail
      refine HFD.out.mono ?_
      rintro e w1 ⟨rfl, q, rfl⟩
      obtain ⟨wf, hwf⟩ : ∃ wf, wf = wr.drewN q := ⟨_, rfl⟩
      rw [← hwf]
      have hWf : RWr wf base Gp g (.slice AB B1.length cB) vR1 B1 R1 := by rw [hwf]; exact HW1.out.keep (Nat.le_refl _) fun _ _ => rfl
      have HGf := Lib.hid (show Grew Fp w wf by rw [hwf]; exact HG1.out.drewN q)
      have HAf := Lib.hid (show Row wf H (some ⟨bA, oA, none⟩) (n.map sv) by rw [hwf]; exact HAr.out.drewN q)
      have hHf : H ≤ wf.heap.size := by rw [hwf]; exact hHr
      have c0f := hWf.c0
      have HWf := Lib.hid hWf
      have HADf := Lib.hid (show Row (wf.drew.alloc (.cells #[] 9)) H (some ⟨bA, oA + k, none⟩) ((n.drop k).map sv) by
        have h := HAf.out.drop rfl (k := k)
        rw [← List.map_drop] at h
        exact h.drew.alloc (by simpa using hHf) _)
      clear hwf hWf
      go_upto_region 4 with fail
      go_cut [23] from 8 to 67 (fun s23 wx => HitRel R1 (n.drop k) short wf s23 wx)
      case first =>
        cases hfi : findR R1 (n.drop k) with
        | some a =>
          have dfv : decide (0 ≤ findV R1 (n.drop k)) = true := by rw [findV_some hfi]; simp
          have HFI := Lib.hid hfi
          clear hfi
          go_wp2_with fail
          go_meet
          exact ⟨by simp [hitB, HFI.out], rfl⟩
        | none =>
          have dfv : decide (0 ≤ findV R1 (n.drop k)) = false := by rw [findV_none hfi]; rfl
          have HFI := Lib.hid hfi
          clear hfi
          go_wp2_with fail
          go_meet
          exact ⟨by simp [hitB, HFI.out], rfl⟩
      case rest =>
        obtain ⟨rfl, rfl⟩ := hcut
        cases hh : hitB R1 (n.drop k) short with
        | true =>
          obtain ⟨a, hfi, rfl⟩ := hitB_true hh
          have ha16 := (HR1.out _ (findR_mem hfi)).1
          simp only at ha16
          rw [findV_some hfi]
          have HFI := Lib.hid hfi
          have HN := Lib.hid (rnum_any base wf Gp g (.slice AB B1.length cB) vR1 B1 R1 (49152 + (a : Int)) 2 HWf.out (by omega) (by omega))
          rw [putL_ptr' B1 ha16] at HN
          clear hh hfi
          go_wp2_with fail
          refine HN.out.mono ?_
          rintro e w2 ⟨rfl, hp⟩
          have HP := Lib.hid (RPenned.then HGf.out HO1.out hp)
          clear hp
          go_wp2
          refine bodyPost_ret (v := .tuple #[]) (by simp [results, Try.results14, go_sem]) rfl ?_
          refine ⟨rfl, ?_⟩
          rw [HNW.out, HDK.out]
          have h := HFI.out
          rw [HDK.out] at h
          rw [nameW_hit h]
          exact HP.out
        | false =>
          have HHF := Lib.hid (nameW_nohit (l := l) (n := n.drop (k + 1)) (B := B1) (by rw [← HDK.out]; exact hh))
          clear hh
          go_upto_if 33 with fail
          go_cut [] from 8 to 67 (fun wx => NotedRel base w Fp g B1 (noteR B1 R1 (n.drop k)) wx)
          case first =>
            by_cases hB16 : B1.length < 16384
            · have dB : decide ((B1.length : Int) < 16384) = true := by simp; omega
              obtain ⟨vs, hvl, hrow, hfr, hat⟩ := HWf.out.rests
              obtain ⟨AR, cR, rfl, _, _⟩ := own_form hrow
              have c1f := HWf.out.c1
              have f1f := HWf.out.f1
              have hgl := HWf.out.blk.lt
              have hbw := HWf.out.size
              have hgne : (Value.slice AR R1.length cR).ownBlock ≠ some g := own_not_whole hrow HWf.out.blk (by decide)
              have HROW := Lib.hid hrow
              have HVL := Lib.hid hvl
              have HFR := Lib.hid hfr
              have HAT := Lib.hid hat
              have HGN := Lib.hid hgne
              have hRl : R1.length ≤ 1000000 := by omega
              have hdl2 : n.length - k ≤ 1000 := by omega
              clear hvl hrow hfr hat hgne
              go_wp2
              go_region_law (first
                | (refine step_append_any rfl (.tmp 44) (.tmp 47) _ rfl wf.heap.size 9 s0 _ 1 16 Try.underlying23 hs0 hx0 hx1 hx2 rfl (by omega) (.slice (some ⟨wf.heap.size, 0, none⟩) 0 0) 0 [] rfl
                     (own_lit wf.drew _ _) (some ⟨bA, oA + k, none⟩) (n.length - k) (c - k) H ((n.drop k).map sv) rfl (by simp) HADf.out (sv_one _) (by unfold maxLen; omega) (by omega) (by simp) ?_
                   intro v1 w1 hown1 hg1
                   simp only [Nat.zero_add, List.nil_append] at hown1
                   obtain ⟨A1, c1, rfl, _, _⟩ := own_form hown1
                   have hb1 : Below wf.heap.size wf w1 := own_below (((Below.refl wf.heap.size wf).drew).alloc (Nat.le_refl _) _) (Nat.le_refl _) (by simp) (own_lit wf.drew 9 1) hg1
                   have hk1' := HWf.out.below hb1
                   have c0' := hk1'.c0
                   have c1' := hk1'.c1
                   have hg1l := hk1'.blk.lt
                   have HO48 := Lib.hid hown1
                   have HB1 := Lib.hid hb1
                   have HR1' := Lib.hid (own_keep HROW.out fun j hj => hb1.block j (HROW.out.lt j hj).2)
                   have hz1' : base ≤ w1.heap.size := Nat.le_trans hbw hb1.size
                   clear hown1 hg1 hb1 hk1')
                | (refine step_append_at rfl (.tmp 38) (.tmp 50) _ rfl base 83 r0 _ 2 32 Try.underlying33 hr0 hu0 hu1 hu2 rfl (by omega) (.slice AR R1.length cR) R1.length _ rfl (HR1'.out.alloc _)
                     (some ⟨w1.heap.size, 0, none⟩) 1 1 (w1.heap.size + 1) [.int .i64 (B1.length : Int), .slice A1 (n.length - k) c1] rfl rfl (Row.made w1 #[.int .i64 (B1.length : Int), .slice A1 (n.length - k) c1] _) (by simp [Value.oneCell']) (by unfold maxLen; omega) (by omega) (by simp; omega) ?_
                   intro v2 w2 hown2 hg2 hat2
                   obtain ⟨A2, c2, rfl, _, _⟩ := own_form hown2
                   have hk2 : w2.heap[g]? = w1.heap[g]? := (hg2.block g (by simp; omega) (Ne.symm HGN.out)).trans (Below.heap_alloc w1 _ g hg1l)
                   have hk2' := (HWf.out.below HB1.out).blk.keep hk2
                   have c1'' : w2.cell? ⟨g, 1, none⟩ = some (.slice AR R1.length cR) := hk2'.cell 1
                   have f1'' : w2.frozen? ⟨g, 1, none⟩ = false := hk2'.frozen 1
                   have HO51 := Lib.hid hown2
                   have HG51 := Lib.hid hg2
                   have HA51 := Lib.hid hat2
                   have c0'' : w2.cell? ⟨g, 0, none⟩ = some (.slice AB B1.length cB) := hk2'.cell 0
                   clear hown2 hg2 hat2 hk2 hk2'))
              all_goals
                go_wp2_with fail
                go_meet
                show RPenned base w Fp g B1 (noteR B1 R1 (n.drop k)) _
                rw [noteR, if_pos hB16]
                have h48 := HO48.out.alloc (.cells #[.int .i64 (B1.length : Int), .slice A1 (n.length - k) c1] 83)
                have h51 := HO51.out
                have hb2 := HB1.out.alloc HB1.out.size (.cells #[.int .i64 (B1.length : Int), .slice A1 (n.length - k) c1] 83)
                have HG52 := HG51.out
                have HA52 := HA51.out
                rw [show n.length - k = (n.drop k).length by simp] at h48 h51 hb2 HG52 HA52
                exact RPenned.then HGf.out HO1.out (HWf.out.newR hb2 HVL.out HROW.out HFR.out HAT.out h48 h51 HG52 HA52)
            · have dB : decide ((B1.length : Int) < 16384) = false := by simp; omega
              go_wp2_with fail
              go_meet
              show RPenned base w Fp g B1 (noteR B1 R1 (n.drop k)) wf
              rw [noteR, if_neg hB16]
              exact ⟨Gp, _, _, HWf.out, HGf.out, HO1.out⟩
          case rest =>
            obtain ⟨Gq, vB2, vR2, hw2, hg2, ho2⟩ := hcut
            have hlowH : ∀ j, Fp j → H ≤ j := fun j hj => Nat.le_trans hH (HLOW.out j hj).1
            have hHw : H ≤ w.heap.size := Nat.le_trans hH hbs
            have c2 : wc.cell? ⟨bA, oA + k, none⟩ = some (.string ⟨l.toArray⟩) := by rw [Row.cell_at (HA.out.grew hg2 hHw hlowH) hlt, HL.out]
            have hnote := noteR_long (B := B1) (r := n.drop k) HR1.out hdn
            obtain ⟨R2, hR2⟩ : ∃ R2, R2 = noteR B1 R1 (n.drop k) := ⟨_, rfl⟩
            rw [← hR2] at hw2 hnote
            obtain ⟨hno1, hno2⟩ := hnote
            have HNO := Lib.hid hno1
            have HN := Lib.hid (rnum_any base wc Gq g vB2 vR2 B1 R2 (l.length : Int) 1 hw2 (by omega) (by omega))
            rw [putL_len B1 (by omega)] at HN
            have HG2 := Lib.hid hg2
            have HO2 := Lib.hid ho2
            have HRR := Lib.hid hR2
            clear hw2 hg2 ho2 hno1 hR2
            go_wp2_with fail
            refine HN.out.mono ?_
            rintro e w3 ⟨rfl, Gs, vB3, vR3, hw3, hg3, ho3⟩
            have HG3 := Lib.hid (HG2.out.trans hg3 HO2.out)
            have HO3 := Lib.hid (fun j hj => (ho3 j hj).elim (HO2.out j) (fun h => Or.inr (Nat.le_trans HG2.out.size h)))
            have HW3 := Lib.hid hw3
            have c3 : w3.cell? ⟨bA, oA + k, none⟩ = some (.string ⟨l.toArray⟩) := by rw [Row.cell_at (HA.out.grew HG3.out hHw hlowH) hlt, HL.out]
            clear hw3 hg3 ho3
            go_wp2_with (
              refine wpList_bytes rfl (.tmp 65) _ _ 5 rfl Try.underlying9 Try.underlying22 Try.underlying5 l rfl ?_
              intro C w4 hC hmk hb4 hs4)
            have hrow4 := hmk.row.take l.length
            rw [List.take_left' (by simp)] at hrow4
            have HRW := Lib.hid (rraw_any base w4 Gs g vB3 vR3 (B1 ++ [UInt8.ofNat l.length]) R2 _ l.length C l (HW3.out.below hb4) rfl hrow4 (by simp; omega))
            have HG4 := Lib.hid (HG3.out.then_below hb4)
            clear hrow4 hmk hC hs4 hb4
            refine HRW.out.mono ?_
            rintro e w5 ⟨rfl, Gt, vB5, vR5, hw5, hg5, ho5⟩
            have HW5 := Lib.hid hw5
            have HG5 := Lib.hid (HG4.out.trans hg5 HO3.out)
            have HO5 := Lib.hid (fun j hj => (ho5 j hj).elim (HO3.out j) (fun h => Or.inr (Nat.le_trans HG4.out.size h)))
            clear hw5 hg5 ho5
            go_wp2
            refine ⟨⟨k + 1, (B1 ++ [UInt8.ofNat l.length]) ++ l, R2, by omega, by go_num, ⟨Gt, vB5, vR5, HW5.out, HG5.out, HO5.out⟩, ?_, ?_, by omega, HNO.out⟩, by simp [intOf]; omega⟩
            · rw [HNW.out, HDK.out, HHF.out, HRR.out, noteR, HDK.out, List.append_assoc, List.singleton_append]
            · simp only [List.length_append, List.length_cons, List.length_nil]; omega
    · obtain rfl : k = n.length := by omega
      have HN := Lib.hid (rnum_any base wr Gp g (.slice AB B1.length cB) vR1 B1 R1 0 1 HW1.out (by omega) (by omega))
      rw [show putL B1 0 1 = B1 ++ [0] from putL_len B1 (k := 0) (by omega)] at HN
      clear hrowA
      go_wp2_with fail
      refine HN.out.mono ?_
      rintro e w2 ⟨rfl, hp⟩
      have HP := Lib.hid (RPenned.then HG1.out HO1.out hp)
      clear hp
      go_wp2
      go_end0
      refine ⟨rfl, ?_⟩
      rw [HNW.out, List.drop_length, nameW_nil]
      exact HP.out

end Go.Proofs.Ytjjmllbkfbdcnaa

namespace Go.Proofs.Ytjjmllbkfbdcnaa
open Go.RowKit

structure Pair (w : World) (base g1 : Nat) (vB1 vM1 : Value) (B1 : List UInt8) (R1 : Rs) (Fp : Nat → Prop) (g2 : Nat) (vB2 vR2 : Value) (B2 : List UInt8) (R2 : Rs) : Prop where
  w1 : Wr w base g1 vB1 vM1 B1 R1
  w2 : RWr w base Fp g2 vB2 vR2 B2 R2
  d : ∀ j, ownF g1 vB1 vM1 j → ¬ Fp j

section
variable {w w' : World} {base g1 : Nat} {vB1 vM1 : Value} {B1 : List UInt8} {R1 : Rs} {Fp : Nat → Prop} {g2 : Nat} {vB2 vR2 : Value} {B2 : List UInt8} {R2 : Rs}
theorem Pair.below (h : Pair w base g1 vB1 vM1 B1 R1 Fp g2 vB2 vR2 B2 R2) (hb : Below w.heap.size w w') : Pair w' base g1 vB1 vM1 B1 R1 Fp g2 vB2 vR2 B2 R2 :=
  ⟨h.w1.below hb, h.w2.below hb, h.d⟩
/-- The program's Writer has gone on. -/
theorem Pair.pen1 (h : Pair w base g1 vB1 vM1 B1 R1 Fp g2 vB2 vR2 B2 R2) {B : List UInt8} {R : Rs} (hp : Penned base w g1 vB1 vM1 B R w') :
    ∃ vB vM, Pair w' base g1 vB vM B R Fp g2 vB2 vR2 B2 R2 ∧ Below base w w' := by
  have hbel := hp.below h.w1
  obtain ⟨vB, vM, h1, hg, hf⟩ := hp
  refine ⟨vB, vM, ⟨h1, h.w2.grew hg fun j hj h1 => h.d j h1 hj, fun j hj h2 => ?_⟩, hbel⟩
  rcases hf j hj with h3 | h3
  · exact h.d j h3 h2
  · have := (h.w2.low j h2).2; omega
/-- The document's Writer has gone on. -/
theorem Pair.pen2 (h : Pair w base g1 vB1 vM1 B1 R1 Fp g2 vB2 vR2 B2 R2) {B : List UInt8} {R : Rs} (hp : RPenned base w Fp g2 B R w') :
    ∃ Gp vB vR, Pair w' base g1 vB1 vM1 B1 R1 Gp g2 vB vR B R ∧ Below base w w' := by
  obtain ⟨Gp, vB, vR, h1, hg, hf⟩ := hp
  refine ⟨Gp, vB, vR, ⟨h.w1.grew hg h.d, h1, fun j hj h2 => ?_⟩, hg.below (fun j hj => (h.w2.low j hj).1) h.w2.size⟩
  rcases hf j h2 with h3 | h3
  · exact h.d j hj h3
  · have := (h.w1.own hj).2; omega
/-- Both are new. -/
theorem Pair.new {b0 : Nat} (h : Wr w b0 g1 (.slice none 0 0) (.map none) [] []) :
    Pair (w.alloc (.cells #[.slice none 0 0, .slice none 0 0] 35)) b0 g1 (.slice none 0 0) (.map none) [] [] (fun j => j = w.heap.size) w.heap.size (.slice none 0 0) (.slice none 0 0) [] [] := by
  refine ⟨h.alloc _, ⟨heap_alloc_new w _, rfl, World.ownsRow_nil _ _ _ _, fun j hj => by simp [Value.ownBlock] at hj, ⟨[], rfl, World.ownsRow_nil _ _ _ _, fun j hj => by simp [Value.ownBlock] at hj, fun i hi => absurd hi (Nat.not_lt_zero _)⟩, fun j hj => ?_⟩, fun j hj e => ?_⟩
  · subst hj
    exact ⟨h.size, by simp⟩
  · subst e
    have := (h.own hj).2
    omega
end

theorem nameW_kept (short : Bool) : ∀ (n : List (List UInt8)) (B : List UInt8) (R : Rs), (∀ x ∈ R, x.2 < 16384 ∧ x.1.length ≤ 1000) → n.length ≤ 1000 → ∀ x ∈ (nameW short n B R).2, x.2 < 16384 ∧ x.1.length ≤ 1000
  | [], B, R, h, _ => by rw [nameW_nil]; exact h
  | l :: n, B, R, h, hn => by
    cases hf : hitB R (l :: n) short with
    | true =>
      obtain ⟨hs, a, ha⟩ : short = true ∧ ∃ a, findR R (l :: n) = some a := by
        unfold hitB at hf
        cases h1 : findR R (l :: n) with
        | none => simp [h1] at hf
        | some a => exact ⟨by simpa [h1] using hf, a, rfl⟩
      subst hs
      rw [nameW_hit ha]
      exact h
    | false =>
      rw [nameW_nohit hf]
      refine nameW_kept short n _ _ ?_ (by simp only [List.length_cons] at hn; omega)
      have := (noteR_long (B := B) (r := l :: n) h hn).1
      rw [noteR] at this
      exact this

theorem putL_app (B : List UInt8) (n s : Int) : putL B n s = B ++ putL [] n s := by
  unfold putL
  split <;> simp
theorem putL_le7 (n s : Int) : (putL [] n s).length ≤ 7 := by
  unfold putL
  split
  · rename_i hf
    simp only [fitB, decide_eq_true_eq] at hf
    simp [length_digs]
    omega
  · simp

end Go.Proofs.Ytjjmllbkfbdcnaa

namespace Go.Proofs.Ytjjmllbkfbdcnaa
open Go.RowKit

def numsW (s : Int) : List Int → List UInt8
  | [] => []
  | n :: l => putL [] n s ++ numsW s l
theorem numsW_snoc (s : Int) (n : Int) : ∀ l, numsW s (l ++ [n]) = numsW s l ++ putL [] n s
  | [] => by simp [numsW]
  | m :: l => by simp [numsW, numsW_snoc s n l]
theorem length_putL (n s : Int) : (putL [] n s).length ≤ 7 := by
  unfold putL
  split
  · rename_i h
    simp only [fitB, decide_eq_true_eq] at h
    simp [length_digs]
    omega
  · simp
theorem length_numsW (s : Int) : ∀ l : List Int, (numsW s l).length ≤ 7 * l.length
  | [] => by simp [numsW]
  | n :: l => by
    have h1 := length_numsW s l
    have h2 := length_putL n s
    simp only [numsW, List.length_append, List.length_cons]
    omega
def textsW : List (List UInt8) → List UInt8
  | [] => []
  | t :: l => putL [] (t.length : Int) 1 ++ (t ++ textsW l)
theorem textsW_snoc (t : List UInt8) : ∀ l, textsW (l ++ [t]) = textsW l ++ (putL [] (t.length : Int) 1 ++ t)
  | [] => by simp [textsW]
  | m :: l => by simp [textsW, textsW_snoc t l]
theorem length_textsW (M : Nat) : ∀ l : List (List UInt8), (∀ t ∈ l, t.length ≤ M) → (textsW l).length ≤ (M + 7) * l.length
  | [], _ => by simp [textsW]
  | t :: l, h => by
    have h1 := length_textsW M l fun x hx => h x (List.mem_cons_of_mem _ hx)
    have h2 := length_putL (t.length : Int) 1
    have h3 := h t (List.mem_cons_self ..)
    simp only [textsW, List.length_append, List.length_cons, Nat.mul_add]
    omega

/-- A row that stays while blocks in F turn. -/
def Stay (F : Nat → Prop) (w : World) (A : Option Addr) (xs : List Value) : Prop := ∀ w', Grew F w w' → Row w' w'.heap.size A xs
theorem Stay.row {F : Nat → Prop} {w : World} {A : Option Addr} {xs : List Value} (h : Stay F w A xs) : Row w w.heap.size A xs := h w (Grew.refl _ _)

theorem Penned.more {base : Nat} {w w1 w2 : World} {g : Nat} {vB vM : Value} {B : List UInt8} {R : Rs} (h : Penned base w g vB vM B R w1) (hb : Below w1.heap.size w1 w2) : Penned base w g vB vM B R w2 := by
  obtain ⟨vB1, vM1, h1, hg, hf⟩ := h
  exact ⟨vB1, vM1, h1.below hb, hg.then_below hb, hf⟩
theorem Penned.next {base : Nat} {w w1 w2 : World} {g : Nat} {vB vM vB1 vM1 : Value} {B B2 : List UInt8} {R R2 : Rs} (_ : Wr w1 base g vB1 vM1 B R) (hg : Grew (ownF g vB vM) w w1) (hf : ∀ j, ownF g vB1 vM1 j → ownF g vB vM j ∨ w.heap.size ≤ j)
    (h2 : Penned base w1 g vB1 vM1 B2 R2 w2) : Penned base w g vB vM B2 R2 w2 := Penned.then hg hf h2

def PNRel (base : Nat) (w : World) (g : Nat) (vB vM : Value) (B : List UInt8) (R : Rs) (s : Int) (l : List Int) (i : Value) (wr : World) : Prop :=
  ∃ k : Nat, k ≤ l.length ∧ i = .int .i64 k ∧ Penned base w g vB vM (B ++ numsW s (l.take k)) R wr

set_option maxRecDepth 4000 in
set_option maxHeartbeats 1000000 in
theorem putNums_any (base : Nat) (w : World) (g : Nat) (vB vM : Value) (B : List UInt8) (R : Rs) (A : Option Addr) (m c : Nat) (l : List Int) (s : Int) (h : Wr w base g vB vM B R) (hl : l.length = m) (hA : Stay (ownF g vB vM) w A (l.map zv)) (hm : m ≤ 1000) (hB : B.length ≤ 1000000000) :
    Calls Try.prog 52 #[.pointer (some ⟨g, 0, none⟩), .slice A m c, .int .i64 s] w (fun e w' => e = .returned (.tuple #[]) ∧ Penned base w g vB vM (B ++ numsW s l) R w') := by
  have HNUM := Lib.hid (fun W vB1 vM1 B1 n (h : Wr W base g vB1 vM1 B1 R) hb => num_any base W g vB1 vM1 B1 R n s h hb)
  have HA := Lib.hid hA
  have HL := Lib.hid hl
  have HW := Lib.hid h
  clear h hA hl
  go_enter Try.func52, Try.ntmps52
  go_wp2
  go_loopw [10] (PNRel base w g vB vM B R s l) (fun i _ => m - (intOf i).toNat)
  case atStart => exact ⟨0, Nat.zero_le _, rfl, by simpa [numsW] using Penned.refl HW.out⟩
  case round =>
    obtain ⟨k, hk, rfl, hp⟩ := hrel
    by_cases hlt : k < m
    · have hkl : k < l.length := by rw [HL.out]; exact hlt
      obtain ⟨vB1, vM1, h1, hg, hf⟩ := hp
      obtain ⟨b, off, rfl, _, hc⟩ := (HA.out wr hg).int_at hkl
      have hlen : (B ++ numsW s (l.take k)).length ≤ 140737488354000 := by
        have := length_numsW s (l.take k)
        rw [List.length_append]
        rw [List.length_take] at this
        omega
      have H1 := Lib.hid h1
      have HG := Lib.hid hg
      have HF := Lib.hid hf
      have HLEN := Lib.hid hlen
      clear h1 hg hf hlen
      go_wp2_with fail
      refine (HNUM.out wr vB1 vM1 _ l[k] H1.out HLEN.out).mono ?_
      rintro e w1 ⟨rfl, hp⟩
      have HP := Lib.hid (Penned.next H1.out HG.out HF.out hp)
      clear hp
      go_wp2
      refine ⟨⟨k + 1, hkl, by go_num, ?_⟩, by simp [intOf]; omega⟩
      rw [List.take_succ_eq_append_getElem hkl, numsW_snoc, ← List.append_assoc]
      exact HP.out
    · obtain rfl : k = m := by have := HL.out; omega
      have HP := Lib.hid hp
      clear hp
      go_wp2
      go_end0
      exact ⟨rfl, by have h := HP.out; rw [← HL.out, List.take_length] at h; exact h⟩

def PTRel (base : Nat) (w : World) (g : Nat) (vB vM : Value) (B : List UInt8) (R : Rs) (l : List (List UInt8)) (i : Value) (wr : World) : Prop :=
  ∃ k : Nat, k ≤ l.length ∧ i = .int .i64 k ∧ Penned base w g vB vM (B ++ textsW (l.take k)) R wr

set_option maxRecDepth 4000 in
set_option maxHeartbeats 1000000 in
theorem putTexts_any (base : Nat) (w : World) (g : Nat) (vB vM : Value) (B : List UInt8) (R : Rs) (A : Option Addr) (m c : Nat) (l : List (List UInt8)) (h : Wr w base g vB vM B R) (hl : l.length = m) (hA : Stay (ownF g vB vM) w A (l.map sv)) (hm : m ≤ 1000) (hB : B.length ≤ 1000000000) (ht : ∀ t ∈ l, t.length ≤ 1000) :
    Calls Try.prog 53 #[.pointer (some ⟨g, 0, none⟩), .slice A m c] w (fun e w' => e = .returned (.tuple #[]) ∧ Penned base w g vB vM (B ++ textsW l) R w') := by
  have HNUM := Lib.hid (fun W vB1 vM1 B1 n (h : Wr W base g vB1 vM1 B1 R) hb => num_any base W g vB1 vM1 B1 R n 1 h hb)
  have HRAW := Lib.hid (fun W vB1 vM1 B1 A1 m1 c1 H1 l1 (h : Wr W base g vB1 vM1 B1 R) hl1 hr1 hb => raw_any base W g vB1 vM1 B1 R A1 m1 c1 H1 l1 h hl1 hr1 hb)
  have HA := Lib.hid hA
  have HL := Lib.hid hl
  have HW := Lib.hid h
  have HT := Lib.hid ht
  clear h hA hl ht
  go_enter Try.func53, Try.ntmps53
  go_wp2
  go_loopw [8] (PTRel base w g vB vM B R l) (fun i _ => m - (intOf i).toNat)
  case atStart => exact ⟨0, Nat.zero_le _, rfl, by simpa [textsW] using Penned.refl HW.out⟩
  case round =>
    obtain ⟨k, hk, rfl, hp⟩ := hrel
    by_cases hlt : k < m
    · have hkl : k < l.length := by rw [HL.out]; exact hlt
      obtain ⟨vB1, vM1, h1, hg, hf⟩ := hp
      obtain ⟨b, off, rfl, _, hc⟩ := (HA.out wr hg).name_at hkl
      have hlk := HT.out l[k] (List.getElem_mem hkl)
      have hlen : (B ++ textsW (l.take k)).length + 3000 ≤ 140737488354000 := by
        have := length_textsW 1000 (l.take k) fun t ht => HT.out t (List.mem_of_mem_take ht)
        rw [List.length_append]
        rw [List.length_take] at this
        have h3 : (1000 + 7) * min k l.length ≤ (1000 + 7) * 1000 := Nat.mul_le_mul_left _ (by omega)
        omega
      have H1 := Lib.hid h1
      have HG := Lib.hid hg
      have HF := Lib.hid hf
      have HLEN := Lib.hid hlen
      have HTS := Lib.hid (show textsW (l.take (k + 1)) = textsW (l.take k) ++ (putL [] (l[k].length : Int) 1 ++ l[k]) by rw [List.take_succ_eq_append_getElem hkl, textsW_snoc])
      obtain ⟨t, htt⟩ : ∃ t, t = l[k] := ⟨_, rfl⟩
      rw [← htt] at hc hlk HTS
      clear h1 hg hf hlen htt
      go_wp2_with fail
      refine (HNUM.out wr vB1 vM1 _ (t.length : Int) H1.out (by have := HLEN.out; omega)).mono ?_
      rintro e w1 ⟨rfl, hp⟩
      have HP := Lib.hid (Penned.next H1.out HG.out HF.out hp)
      clear hp
      go_wp2_with (refine wpList_bytes rfl (.tmp 17) 9 22 5 rfl Try.underlying9 Try.underlying22 Try.underlying5 t rfl ?_; intro C4 w2 hC4 hM4 hB4 hs4)
      obtain ⟨vB2, vM2, h2, hg2, hf2⟩ := HP.out.more hB4
      have hr := hM4.row.take t.length
      rw [List.take_left' (by rw [List.length_map])] at hr
      have HR := Lib.hid hr
      have H2 := Lib.hid h2
      have HG2 := Lib.hid hg2
      have HF2 := Lib.hid hf2
      clear hr h2 hg2 hf2 hM4 hB4 hs4
      have hp7 := length_putL (t.length : Int) 1
      refine (HRAW.out w2 vB2 vM2 _ _ t.length C4 _ t H2.out rfl HR.out (by have := HLEN.out; rw [List.length_append]; omega)).mono ?_
      rintro e w3 ⟨rfl, hp⟩
      have HP3 := Lib.hid (Penned.next H2.out HG2.out HF2.out hp)
      clear hp
      go_wp2
      refine ⟨⟨k + 1, hkl, by go_num, ?_⟩, by simp [intOf]; omega⟩
      rw [HTS.out, ← List.append_assoc, ← List.append_assoc]
      exact HP3.out
    · obtain rfl : k = m := by have := HL.out; omega
      have HP := Lib.hid hp
      clear hp
      go_wp2
      go_end0
      exact ⟨rfl, by have h := HP.out; rw [← HL.out, List.take_length] at h; exact h⟩

end Go.Proofs.Ytjjmllbkfbdcnaa

namespace Go.Proofs.Ytjjmllbkfbdcnaa
open Go.RowKit

/-- What a type has. -/
structure Sh where
  ahead : Nat
  host : Bool
  mail : Bool
  short : Bool
  behind : Nat
  texts : Bool
  least : Nat
  most : Nat
abbrev Sh.val (s : Sh) : Value := .agg #[.int .i64 s.ahead, .bool s.host, .bool s.mail, .bool s.short, .int .i64 s.behind, .bool s.texts, .int .i64 s.least, .int .i64 s.most]
def shN (k : Int) : Sh :=
  if k = 1 then ⟨0, false, false, false, 0, false, 4, 4⟩
  else if k = 28 then ⟨0, false, false, false, 0, false, 16, 16⟩
  else if k = 2 ∨ k = 5 ∨ k = 12 then ⟨0, true, false, true, 0, false, 0, 0⟩
  else if k = 15 then ⟨1, true, false, true, 0, false, 0, 0⟩
  else if k = 6 then ⟨0, true, true, true, 5, false, 0, 0⟩
  else if k = 16 then ⟨0, false, false, false, 0, true, 0, 0⟩
  else if k = 33 then ⟨3, true, false, false, 0, false, 0, 0⟩
  else ⟨0, false, false, false, 0, false, 0, 65535⟩
/-- May a type be so? -/
def kindB (k : Int) : Bool := decide (1 ≤ k ∧ k ≤ 65535)

theorem shN_cases (k : Int) : k = 1 ∨ k = 28 ∨ k = 2 ∨ k = 5 ∨ k = 12 ∨ k = 15 ∨ k = 6 ∨ k = 16 ∨ k = 33 ∨ ((k == 1) = false ∧ (k == 28) = false ∧ (k == 2) = false ∧ (k == 5) = false ∧ (k == 12) = false ∧ (k == 15) = false ∧ (k == 6) = false ∧ (k == 16) = false ∧ (k == 33) = false) := by
  simp only [beq_eq_false_iff_ne]
  omega
theorem shN_other {k : Int} (h : (k == 1) = false ∧ (k == 28) = false ∧ (k == 2) = false ∧ (k == 5) = false ∧ (k == 12) = false ∧ (k == 15) = false ∧ (k == 6) = false ∧ (k == 16) = false ∧ (k == 33) = false) : shN k = ⟨0, false, false, false, 0, false, 0, 65535⟩ := by
  simp only [beq_eq_false_iff_ne] at h
  obtain ⟨h1, h2, h3, h4, h5, h6, h7, h8, h9⟩ := h
  unfold shN
  rw [if_neg h1, if_neg h2, if_neg (by omega), if_neg h6, if_neg h7, if_neg h8, if_neg h9]

set_option maxHeartbeats 400000 in
theorem shapeOf_any (k : Int) (w : World) : Calls Try.prog 51 #[.int .i64 k] w (Gave w (shN k).val) := by
  rcases shN_cases k with rfl | rfl | rfl | rfl | rfl | rfl | rfl | rfl | rfl | h
  case inr.inr.inr.inr.inr.inr.inr.inr.inr =>
    rw [shN_other h]
    obtain ⟨h1, h2, h3, h4, h5, h6, h7, h8, h9⟩ := h
    go_enter Try.func51, Try.ntmps51
    go_wp2
    exact ⟨rfl, (Sh.mk 0 false false false 0 false 0 65535).val, by simp [results, Try.results51, go_sem], rfl, (Below.refl _ _).alloc (Nat.le_refl _) _⟩
  all_goals
    go_enter Try.func51, Try.ntmps51
    go_wp2
    exact ⟨rfl, (shN _).val, by simp [results, Try.results51, go_sem, shN], rfl, (Below.refl _ _).alloc (Nat.le_refl _) _⟩

theorem kindB_fit {k : Int} (h : k ≠ 0) : fitB k 2 = kindB k := by
  unfold fitB kindB
  rw [show (2 : Int) ^ (8 * (2 : Int).toNat) = 65536 from rfl]
  congr 1
  apply propext
  omega
set_option maxHeartbeats 400000 in
theorem isKind_any (k : Int) (w : World) : Calls Try.prog 56 #[.int .i64 k] w (Told w (.bool (kindB k))) := by
  have HF := Lib.hid (fun W => fits_any k 2 W)
  by_cases h : k = 0
  · subst h
    go_enter Try.func56, Try.ntmps56
    go_wp2
    go_ret
    exact ⟨rfl, rfl⟩
  · have t1 : (k != 0) = true := by rw [bne_iff_ne]; exact h
    rw [kindB_fit h] at HF
    go_enter Try.func56, Try.ntmps56
    go_wp2_with fail
    refine (HF.out _).mono ?_
    rintro e w' ⟨rfl, rfl⟩
    go_wp2
    go_ret
    exact ⟨by simp, rfl⟩

end Go.Proofs.Ytjjmllbkfbdcnaa
