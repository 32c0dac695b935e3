/-
  The contract of a Writer's Name.
-/
import Derived.Test.YtjjmllbkfbdcnaaNote
import Derived.Test.YtjjmllbkfbdcnaaWhole
import Derived.Test.YtjjmllbkfbdcnaaSound
namespace Go.Proofs.Ytjjmllbkfbdcnaa
open Go.RowKit

/-- 'at, ok := rests[r]'. -/
theorem wpList_rests {w : World} {ops : Array Oper} {rest : List Oper} {o : Oper} {a : Act} {Q : Exit → Act → World → Prop} (hg : o.guard = none) (m x : Operand) (hop : o.op = Op.lookup 73 m x true)
    {base : Nat} {v : Value} {R : Rs} {r : List (List UInt8)} {s : List UInt8} {f : Option Nat} (h : MapOf w base v R) (hr : r.all fitL = true) (he : (encN r).length ≤ maxLen) (hsr : encN r = s) (hf : findR R r = f) (hm : a.eval m = v) (hx : a.eval x = .string ⟨s.toArray⟩)
    (hK : wpList Try.prog ops Q rest (a.put o.dst (.tuple #[.int .i64 (f.getD 0 : Nat), .bool f.isSome])) w) : wpList Try.prog ops Q (o :: rest) a w := by
  subst hsr
  subst hf
  rcases h with ⟨rfl, rfl⟩ | ⟨b, D, rfl, hb, ho, hs⟩
  · refine wpList_plain hg fun K' hK' => ?_
    have hrun := Maps.look_nil (w := w) true str_keyed Try.underlying73 (int_zero w) (key_enc he)
    unfold Oper.wp
    simp [execOp, hop, hm, hx, hrun, Result.andThen]
    exact hK' _ _ hK
  · refine wpList_lookup_own_ok_int w hg m x _ hop 9 3 .i64 str_keyed Try.underlying73 Try.underlying3 (int_zero _) b _ D hm ho _ _ hx (key_enc he) fun c hat hwc => ?_
    obtain ⟨h1, h2⟩ := hs.2 r hr
    rw [h2] at hat
    injection hat with hat
    injection hat with _ hat
    rw [← hat, h1]
    exact hK

def strLenV : Value → Nat
  | .string s => s.size
  | _ => 0

def NameRel (base : Nat) (w : World) (g : Nat) (vB vM : Value) (short : Bool) (n : List (List UInt8)) (B : List UInt8) (R : Rs) (v : Value) (wr : World) : Prop :=
  ∃ m B' R' vB' vM', v = .string ⟨(encN m).toArray⟩ ∧ m.all fitL = true ∧ szN m ≤ 255 ∧ Wr wr base g vB' vM' B' R' ∧ Grew (ownF g vB vM) w wr ∧ (∀ j, ownF g vB' vM' j → ownF g vB vM j ∨ w.heap.size ≤ j) ∧
    nameW short n B R = nameW short m B' R' ∧ B'.length + szN m ≤ B.length + szN n ∧ R'.length + m.length ≤ R.length + n.length ∧ ∀ r ∈ R', r.2 < 16384

theorem extract_take (l : List UInt8) (k : Nat) : (ByteArray.mk l.toArray).extract 0 k = ⟨(l.take k).toArray⟩ := by
  apply ByteArray.ext
  apply Array.toList_inj.1
  simp [ByteArray.data_extract]
theorem extract_tail (l : List UInt8) (k m : Nat) (hm : l.length ≤ m) : (ByteArray.mk l.toArray).extract k m = ⟨(l.drop k).toArray⟩ := by
  apply ByteArray.ext
  apply Array.toList_inj.1
  simp [ByteArray.data_extract]
  exact List.take_of_length_le (by simp; omega)

theorem putL_zero : putL [] 0 1 = [0] := by decide +kernel
theorem putL_ptr {k : Nat} (hk : k < 16384) : putL [] (49152 + (k : Int)) 2 = digs (49152 + k) 2 := by
  have hf : fitB ((49152 + k : Nat) : Int) ((2 : Nat) : Int) = true := fitB_true (by omega) (by omega) (by omega) (by simp; omega)
  have h := putL_yes (l := []) hf
  simpa using h
theorem noteR_good {B : List UInt8} {R : Rs} {r : List (List UInt8)} (h : ∀ x ∈ R, x.2 < 16384) : (∀ x ∈ noteR B R r, x.2 < 16384) ∧ (noteR B R r).length ≤ R.length + 1 := by
  unfold noteR
  split
  · rename_i hb
    refine ⟨fun x hx => ?_, by simp⟩
    rcases List.mem_append.1 hx with hx | hx
    · exact h x hx
    · rw [List.mem_singleton.1 hx]; exact hb
  · exact ⟨h, by omega⟩

set_option maxHeartbeats 4000000 in
theorem name_sound (base : Nat) (w : World) (g : Nat) (vB vM : Value) (B : List UInt8) (R : Rs) (A : Option Addr) (m c H : Nat) (n : List (List UInt8)) (short : Bool) (h : Wr w base g vB vM B R) (hl : n.length = m) (hA : Row w H A (n.map sv)) (hH : H ≤ w.heap.size)
    (hs : soundN n = true) (hB : B.length ≤ 1000000000) (hR : R.length ≤ 900000) (hR16 : ∀ r ∈ R, r.2 < 16384) :
    Calls Try.prog 13 #[.pointer (some ⟨g, 0, none⟩), .slice A m c, .bool short] w (fun e w' => e = .returned (.int .i64 0) ∧ Penned base w g vB vM (nameW short n B R).1 (nameW short n B R).2 w') := by
  subst hl
  have hs2 := hs
  simp only [soundN, Bool.and_eq_true, decide_eq_true_eq] at hs2
  obtain ⟨hfl, hsz⟩ := hs2
  have hnl := szN_ge n hfl
  have HSO := Lib.hid (fun W hr => sound_any A n.length c H n W rfl hr (by unfold maxLen; omega))
  rw [hs] at HSO
  have HWH := Lib.hid (whole_any A n.length c H n w rfl hA hH hfl hsz)
  have HA := Lib.hid hA
  have HW := Lib.hid h
  have HF := Lib.hid hfl
  have HR16 := Lib.hid hR16
  have hbs := h.size
  clear h hA hs hfl hR16
  go_enter Try.func13, Try.ntmps13
  go_wp2_with fail
  refine (HSO.out _ HA.out).mono ?_
  rintro e w' ⟨rfl, rfl⟩
  go_wp2_with fail
  refine HWH.out.mono ?_
  rintro e w0 ⟨rfl, hb0⟩
  have HB0 := Lib.hid hb0
  clear hb0
  go_wp2
  go_loopw [7] (NameRel base w g vB vM short n B R) (fun v _ => strLenV v)
  case atStart => exact ⟨n, B, R, vB, vM, rfl, HF.out, hsz, HW.out.below HB0.out, Grew.all HB0.out, fun j hj => .inl hj, rfl, Nat.le_refl _, Nat.le_refl _, HR16.out⟩
  case round =>
    obtain ⟨m, B1, R1, vB1, vM1, rfl, hfm, hszm, hw1, hg1, ho1, hnw, hb1, hr1, hr16⟩ := hrel
    have HW1 := Lib.hid hw1
    have HG1 := Lib.hid hg1
    have HO1 := Lib.hid ho1
    have HNW := Lib.hid hnw
    have HR1 := Lib.hid hr16
    have c1 := hw1.c1
    have hem := length_encN m
    clear hw1 hg1 ho1 hnw hr16
    rcases m with _ | ⟨l, m⟩
    · have HN := Lib.hid (num_any base wr g vB1 vM1 B1 R1 0 1 HW1.out (by omega))
      rw [putL_zero] at HN
      simp only [encN] at *
      go_wp2_with fail
      refine HN.out.mono ?_
      rintro e w2 ⟨rfl, hp⟩
      have HP := Lib.hid (Penned.then HG1.out HO1.out hp)
      clear hp
      go_wp2
      go_ret
      refine ⟨rfl, ?_⟩
      rw [HNW.out, nameW_nil]
      exact HP.out
    · have hall : (l :: m).all fitL = true := hfm
      simp only [List.all_cons, Bool.and_eq_true, fitL_iff] at hfm
      obtain ⟨⟨hl1, hl2⟩, hfm2⟩ := hfm
      have hlen : (encN (l :: m)).length ≤ maxLen := by unfold maxLen; omega
      have hpm := szN_pos m
      simp only [szN] at hszm hb1 hem
      simp only [List.length_cons] at hr1
      have HNT := Lib.hid (note_any base wr g vB1 vM1 B1 R1 (l :: m) HW1.out hall hlen (by omega))
      obtain ⟨x, hx⟩ : ∃ x, x = UInt8.ofNat l.length := ⟨_, rfl⟩
      obtain ⟨e, he⟩ : ∃ e, e = encN m := ⟨_, rfl⟩
      have hen : encN (l :: m) = x :: (l ++ e) := by rw [hx, he]; rfl
      have hxi : (x.toNat : Int) = (l.length : Int) := by rw [hx, UInt8.toNat_ofNat']; omega
      have hee : e.length + 1 = szN m := by rw [he]; exact length_encN m
      have HEN := Lib.hid hen
      have HEM := Lib.hid he
      have HX := Lib.hid hx
      have HALL := Lib.hid hall
      rw [hen] at HNT ⊢
      rw [hen] at hem
      have hex1 : (ByteArray.mk (x :: (l ++ e)).toArray).extract 0 (l.length + 1) = ⟨(x :: l).toArray⟩ := by rw [extract_take]; simp
      have hex2 : (ByteArray.mk (x :: (l ++ e)).toArray).extract (l.length + 1) (l.length + e.length + 1) = ⟨e.toArray⟩ := by rw [extract_tail _ _ _ (by simp)]; simp
      have i0 : (ByteArray.mk (x :: (l ++ e)).toArray)[0]'(by simp [ByteArray.size]) = x := rfl
      have hq : ((1 : Int) + (l.length : Int)).toNat = l.length + 1 := by omega
      clear hen he hx hall
      cases hfi : findR R1 (l :: m) with
      | some k =>
        have hk16 := HR1.out _ (findR_mem hfi)
        have HFI := Lib.hid hfi
        clear hfi
        cases short with
        | true =>
          have HN := Lib.hid (num_any base wr g vB1 vM1 B1 R1 (49152 + (k : Int)) 2 HW1.out (by omega))
          rw [putL_ptr hk16] at HN
          clear hex1 hex2 hq
          go_wp2_with (
            at_lookup
            refine wpList_rests rfl (.tmp 24) (.tmp 25) rfl HW1.out.map HALL.out hlen HEN.out HFI.out rfl rfl ?_
            simp only [Option.getD_some, Option.isSome_some])
          refine HN.out.mono ?_
          rintro e w2 ⟨rfl, hp⟩
          have HP := Lib.hid (Penned.then HG1.out HO1.out hp)
          clear hp
          go_wp2
          go_ret
          refine ⟨rfl, ?_⟩
          rw [HNW.out, nameW_hit HFI.out]
          exact HP.out
        | false =>
          go_wp2_with (
            at_lookup
            refine wpList_rests rfl (.tmp 24) (.tmp 25) rfl HW1.out.map HALL.out hlen HEN.out HFI.out rfl rfl ?_
            simp only [Option.getD_some, Option.isSome_some])
          refine HNT.out.mono ?_
          rintro e' w2 ⟨rfl, vB2, vM2, hw2, hg2, ho2⟩
          have HW2 := Lib.hid hw2
          have HG2 := Lib.hid (HG1.out.trans hg2 HO1.out)
          have HO2 := Lib.hid (fun j hj => (ho2 j hj).elim (HO1.out j) (fun h => Or.inr (Nat.le_trans HG1.out.size h)))
          clear hw2 hg2 ho2
          go_wp2_with (
            refine wpList_bytes rfl (.tmp 47) _ _ 5 rfl Try.underlying9 Try.underlying22 Try.underlying5 (x :: l) rfl ?_
            intro C w3 hC hmk hb3 hs3)
          have hrow := hmk.row.take (x :: l).length
          rw [List.take_left' (by simp)] at hrow
          have HRW := Lib.hid (raw_any base w3 g vB2 vM2 B1 (noteR B1 R1 (l :: m)) _ (x :: l).length C w3.heap.size (x :: l) (HW2.out.below hb3) rfl hrow (by simp; omega))
          have HG3 := Lib.hid (HG2.out.then_below hb3)
          clear hrow hmk hC hs3
          have hs3 := hb3.size
          clear hb3
          refine HRW.out.mono ?_
          rintro e' w4 ⟨rfl, vB4, vM4, hw4, hg4, ho4⟩
          have HW4 := Lib.hid hw4
          have HG4 := Lib.hid (HG3.out.trans hg4 HO2.out)
          have HO4 := Lib.hid (fun j hj => (ho4 j hj).elim (HO2.out j) (fun h => Or.inr (Nat.le_trans HG3.out.size h)))
          clear hw4 hg4 ho4
          go_wp2
          refine ⟨⟨m, B1 ++ (x :: l), noteR B1 R1 (l :: m), vB4, vM4, by rw [HEM.out], hfm2, by omega, HW4.out, HG4.out, HO4.out, ?_, ?_, ?_, (noteR_good HR1.out).1⟩, ?_⟩
          · rw [HNW.out, HX.out]
            exact nameW_long _ _ _ _
          · simp only [List.length_append, List.length_cons]; omega
          · have := (noteR_good (B := B1) (r := l :: m) HR1.out).2; omega
          · simp [strLenV, ByteArray.size]; omega
      | none =>
        have HFI := Lib.hid hfi
        clear hfi
        go_wp2_with (
          at_lookup
          refine wpList_rests rfl (.tmp 24) (.tmp 25) rfl HW1.out.map HALL.out hlen HEN.out HFI.out rfl rfl ?_
          simp only [Option.getD_none, Option.isSome_none])
        refine HNT.out.mono ?_
        rintro e' w2 ⟨rfl, vB2, vM2, hw2, hg2, ho2⟩
        have HW2 := Lib.hid hw2
        have HG2 := Lib.hid (HG1.out.trans hg2 HO1.out)
        have HO2 := Lib.hid (fun j hj => (ho2 j hj).elim (HO1.out j) (fun h => Or.inr (Nat.le_trans HG1.out.size h)))
        clear hw2 hg2 ho2
        go_wp2_with (
          refine wpList_bytes rfl (.tmp 47) _ _ 5 rfl Try.underlying9 Try.underlying22 Try.underlying5 (x :: l) rfl ?_
          intro C w3 hC hmk hb3 hs3)
        have hrow := hmk.row.take (x :: l).length
        rw [List.take_left' (by simp)] at hrow
        have HRW := Lib.hid (raw_any base w3 g vB2 vM2 B1 (noteR B1 R1 (l :: m)) _ (x :: l).length C w3.heap.size (x :: l) (HW2.out.below hb3) rfl hrow (by simp; omega))
        have HG3 := Lib.hid (HG2.out.then_below hb3)
        clear hrow hmk hC hs3
        have hs3 := hb3.size
        clear hb3
        refine HRW.out.mono ?_
        rintro e' w4 ⟨rfl, vB4, vM4, hw4, hg4, ho4⟩
        have HW4 := Lib.hid hw4
        have HG4 := Lib.hid (HG3.out.trans hg4 HO2.out)
        have HO4 := Lib.hid (fun j hj => (ho4 j hj).elim (HO2.out j) (fun h => Or.inr (Nat.le_trans HG3.out.size h)))
        clear hw4 hg4 ho4
        go_wp2
        refine ⟨⟨m, B1 ++ (x :: l), noteR B1 R1 (l :: m), vB4, vM4, by rw [HEM.out], hfm2, by omega, HW4.out, HG4.out, HO4.out, ?_, ?_, ?_, (noteR_good HR1.out).1⟩, ?_⟩
        · rw [HNW.out, HX.out]
          exact nameW_miss HFI.out
        · simp only [List.length_append, List.length_cons]; omega
        · have := (noteR_good (B := B1) (r := l :: m) HR1.out).2; omega
        · simp [strLenV, ByteArray.size]; omega

set_option maxHeartbeats 400000 in
theorem name_bad (w : World) (g : Nat) (A : Option Addr) (m c H : Nat) (n : List (List UInt8)) (short : Bool) (hl : n.length = m) (hA : Row w H A (n.map sv)) (hm : szN n ≤ maxLen) (hs : soundN n = false) :
    Calls Try.prog 13 #[.pointer (some ⟨g, 0, none⟩), .slice A m c, .bool short] w (Told w (.int .i64 5)) := by
  have HSO := Lib.hid (sound_any A m c H n w hl hA hm)
  rw [hs] at HSO
  clear hl hA hs
  go_enter Try.func13, Try.ntmps13
  go_wp2_with fail
  refine HSO.out.mono ?_
  rintro e w' ⟨rfl, rfl⟩
  go_wp2
  go_ret
  exact ⟨rfl, rfl⟩

set_option maxHeartbeats 400000 in
theorem name_nil (v s : Value) (w : World) : Calls Try.prog 13 #[.pointer none, v, s] w (Told w (.int .i64 1)) := by
  go_enter Try.func13, Try.ntmps13
  go_wp2
  go_ret
  exact ⟨rfl, rfl⟩

end Go.Proofs.Ytjjmllbkfbdcnaa
