/-
  The contracts of name.digit, name.readNumber and name.readChar.
-/
import Derived.Test.YtiegneopolffoaaText
import Derived.Test.YtiegneopolffoaaNParse
import Derived.IntWalk
namespace Go.Proofs.Ytiegneopolffoaa
open Go.RowKit

set_option maxHeartbeats 400000 in
theorem digit_any (c : UInt8) (w : World) :
    Calls Try.prog 50 #[.int .u8 c.toNat] w (Told w (.bool (digB c))) := by
  have hc := c.toNat_lt
  by_cases h1 : 48 ≤ c.toNat
  · by_cases h2 : c.toNat ≤ 57
    · have d2 : decide ((c.toNat : Int) ≤ 57) = true := by simp; omega
      have HF := Lib.hid (digB_yes (c := c) (by omega))
      go_enter Try.func50, Try.ntmps50
      go_wp2
      go_ret
      exact ⟨ret_bool HF.out.symm, rfl⟩
    · have d2 : decide ((c.toNat : Int) ≤ 57) = false := by simp; omega
      have HF := Lib.hid (digB_no (c := c) (by omega))
      go_enter Try.func50, Try.ntmps50
      go_wp2
      go_ret
      exact ⟨ret_bool HF.out.symm, rfl⟩
  · have HF := Lib.hid (digB_no (c := c) (by omega))
    go_enter Try.func50, Try.ntmps50
    go_wp2
    go_ret
    exact ⟨ret_bool HF.out.symm, rfl⟩

/-- What readChar and readNumber answer. -/
def chr (x : Option (UInt8 × Nat)) : Value := match x with
  | some (b, k) => .tuple #[.int .u8 b.toNat, .int .i64 k]
  | none => .tuple #[.int .u8 0, .int .i64 0]

set_option maxHeartbeats 400000 in
theorem readNumber_short (c : UInt8) (t : List UInt8) (w : World) (h : t.length < 3) :
    Calls Try.prog 51 #[.string ⟨(c :: t).toArray⟩] w (Drewn w (chr ((readN t).map fun b => (b, 4)))) := by
  have hn : readN t = none := by
    cases hr : readN t with
    | none => rfl
    | some b => have := readN_len hr; omega
  rw [hn]
  have d1 : decide ((t.length : Int) + 1 < 4) = true := by simp; omega
  clear hn
  go_enter Try.func51, Try.ntmps51
  go_wp2
  go_ret2
  exact ⟨rfl, 0, rfl⟩

theorem size4 (c d e f : UInt8) (t : List UInt8) : (ByteArray.mk (c :: d :: e :: f :: t).toArray).size = t.length + 4 := by simp [ByteArray.size]
theorem digB_iff {c : UInt8} (h : digB c = true) : 48 ≤ c.toNat ∧ c.toNat ≤ 57 := by simpa [digB] using h

set_option maxHeartbeats 1000000 in
theorem readNumber_long (c d e f : UInt8) (t : List UInt8) (w : World) (hm : t.length ≤ 1000000) :
    Calls Try.prog 51 #[.string ⟨(c :: d :: e :: f :: t).toArray⟩] w (Drewn w (chr ((readN (d :: e :: f :: t)).map fun b => (b, 4)))) := by
  have i1 : (ByteArray.mk (c :: d :: e :: f :: t).toArray)[1]'(by have := size4 c d e f t; omega) = d := rfl
  have i2 : (ByteArray.mk (c :: d :: e :: f :: t).toArray)[2]'(by have := size4 c d e f t; omega) = e := rfl
  have i3 : (ByteArray.mk (c :: d :: e :: f :: t).toArray)[3]'(by have := size4 c d e f t; omega) = f := rfl
  have HD := Lib.hid (fun W => digit_any d W)
  have HE := Lib.hid (fun W => digit_any e W)
  have HF := Lib.hid (fun W => digit_any f W)
  have d4 : decide ((t.length : Int) + 1 + 1 + 1 + 1 < 4) = false := by simp; omega
  have h1 := d.toNat_lt
  have h2 := e.toNat_lt
  have h3 := f.toNat_lt
  cases hd : digB d
  · rw [hd] at HD
    have HR := Lib.hid (show readN (d :: e :: f :: t) = none by simp [readN, hd])
    clear hd
    go_enter Try.func51, Try.ntmps51
    go_wp2_with fail
    refine (HD.out _).mono ?_
    rintro e w' ⟨rfl, rfl⟩
    go_wp2
    go_ret2
    exact ⟨by rw [HR.out]; rfl, 0, rfl⟩
  · rw [hd] at HD
    cases he : digB e
    · rw [he] at HE
      have HR := Lib.hid (show readN (d :: e :: f :: t) = none by simp [readN, he])
      clear hd he
      go_enter Try.func51, Try.ntmps51
      go_wp2_with fail
      refine (HD.out _).mono ?_
      rintro e w' ⟨rfl, rfl⟩
      go_wp2_with fail
      refine (HE.out _).mono ?_
      rintro e w' ⟨rfl, rfl⟩
      go_wp2
      go_ret2
      exact ⟨by rw [HR.out]; rfl, 0, rfl⟩
    · rw [he] at HE
      cases hf : digB f
      · rw [hf] at HF
        have HR := Lib.hid (show readN (d :: e :: f :: t) = none by simp [readN, hf])
        clear hd he hf
        go_enter Try.func51, Try.ntmps51
        go_wp2_with fail
        refine (HD.out _).mono ?_
        rintro e w' ⟨rfl, rfl⟩
        go_wp2_with fail
        refine (HE.out _).mono ?_
        rintro e w' ⟨rfl, rfl⟩
        go_wp2_with fail
        refine (HF.out _).mono ?_
        rintro e w' ⟨rfl, rfl⟩
        go_wp2
        go_ret2
        exact ⟨by rw [HR.out]; rfl, 0, rfl⟩
      · rw [hf] at HF
        obtain ⟨b1, b2⟩ := digB_iff hd
        obtain ⟨b3, b4⟩ := digB_iff he
        obtain ⟨b5, b6⟩ := digB_iff hf
        have HV := Lib.hid (show numC d e f = (d.toNat - 48) * 100 + (e.toNat - 48) * 10 + (f.toNat - 48) from rfl)
        have w1 : IntKind.u8.wrap ((d.toNat : Int) - 48) = (d.toNat : Int) - 48 := by rw [IntKind.wrap_u8]; omega
        have w2 : IntKind.u8.wrap ((e.toNat : Int) - 48) = (e.toNat : Int) - 48 := by rw [IntKind.wrap_u8]; omega
        have w3 : IntKind.u8.wrap ((f.toNat : Int) - 48) = (f.toNat : Int) - 48 := by rw [IntKind.wrap_u8]; omega
        have HRd := Lib.hid (show readN (d :: e :: f :: t) = if numC d e f ≤ 255 then some (UInt8.ofNat (numC d e f)) else none by simp [readN, hd, he, hf])
        clear hd he hf
        go_enter Try.func51, Try.ntmps51
        go_wp2_with fail
        refine (HD.out _).mono ?_
        rintro e w' ⟨rfl, rfl⟩
        go_wp2_with fail
        refine (HE.out _).mono ?_
        rintro e w' ⟨rfl, rfl⟩
        go_wp2_with fail
        refine (HF.out _).mono ?_
        rintro e w' ⟨rfl, rfl⟩
        go_wp2
        go_quiet (fail)
        by_cases hv : numC d e f ≤ 255
        · have HR := Lib.hid (HRd.out.trans (if_pos hv))
          have hv2 : ((d.toNat : Int) - 48) * 100 + ((e.toNat : Int) - 48) * 10 + ((f.toNat : Int) - 48) ≤ 255 := by rw [HV.out] at hv; omega
          clear hv
          go_wp2
          go_ret2
          refine ⟨?_, _, rfl⟩
          rw [HR.out]
          simp only [Option.map_some, chr]
          rw [show ((UInt8.ofNat (numC d e f)).toNat : Int) = ((d.toNat : Int) - 48) * 100 + ((e.toNat : Int) - 48) * 10 + ((f.toNat : Int) - 48) by rw [UInt8.toNat_ofNat', HV.out]; omega]
          rfl
        · have HR := Lib.hid (HRd.out.trans (if_neg hv))
          have hv2 : 255 < ((d.toNat : Int) - 48) * 100 + ((e.toNat : Int) - 48) * 10 + ((f.toNat : Int) - 48) := by rw [HV.out] at hv; omega
          clear hv
          go_wp2
          go_ret2
          exact ⟨by rw [HR.out]; rfl, _, rfl⟩

theorem readNumber_any (c : UInt8) (t : List UInt8) (w : World) (hm : t.length ≤ 1000000) :
    Calls Try.prog 51 #[.string ⟨(c :: t).toArray⟩] w (Drewn w (chr ((readN t).map fun b => (b, 4)))) := by
  match t, hm with
  | [], _ => exact readNumber_short c _ w (by simp)
  | [_], _ => exact readNumber_short c _ w (by simp)
  | [_, _], _ => exact readNumber_short c _ w (by simp)
  | d :: e :: f :: t, hm => exact readNumber_long c d e f t w (by simp at hm; omega)

set_option maxHeartbeats 1000000 in
theorem readChar_any (c : UInt8) (t : List UInt8) (w : World) (hm : t.length ≤ 1000000) :
    Calls Try.prog 46 #[.string ⟨(c :: t).toArray⟩] w (Drewn w (chr (readC (c :: t)))) := by
  have i0 : (ByteArray.mk (c :: t).toArray)[0]'(by simp [ByteArray.size]) = c := rfl
  have hc := c.toNat_lt
  by_cases h92 : c.toNat = 92
  · have t1 : ((c.toNat : Int) != 92) = false := by rw [h92]; rfl
    rcases t with _ | ⟨d, t⟩
    · have HR := Lib.hid (show readC [c] = none by simp [readC, h92])
      clear h92
      go_enter Try.func46, Try.ntmps46
      go_wp2
      go_ret2
      exact ⟨by rw [HR.out]; rfl, 0, rfl⟩
    · have i1 : (ByteArray.mk (c :: d :: t).toArray)[1]'(by simp [ByteArray.size]) = d := rfl
      have d2 : decide ((t.length : Int) + 1 + 1 < 2) = false := by simp; omega
      have HD := Lib.hid (fun W => digit_any d W)
      cases hd : digB d
      · rw [hd] at HD
        have HR := Lib.hid (show readC (c :: d :: t) = some (d, 2) by simp [readC, h92, hd])
        clear h92 hd
        go_enter Try.func46, Try.ntmps46
        go_wp2_with fail
        refine (HD.out _).mono ?_
        rintro e w' ⟨rfl, rfl⟩
        go_wp2
        go_ret2
        exact ⟨by rw [HR.out]; rfl, 0, rfl⟩
      · rw [hd] at HD
        have HR := Lib.hid (show readC (c :: d :: t) = (readN (d :: t)).map fun b => (b, 4) by simp [readC, h92, hd])
        have HN := Lib.hid (readNumber_any c (d :: t) w hm)
        clear h92 hd
        go_enter Try.func46, Try.ntmps46
        go_wp2_with fail
        refine (HD.out _).mono ?_
        rintro e w' ⟨rfl, rfl⟩
        go_wp2_with fail
        refine HN.out.mono ?_
        rintro e w' ⟨rfl, q, rfl⟩
        have HRR := Lib.hid (HR.out)
        cases hx : readN (d :: t) with
        | none =>
          simp only [Option.map_none, chr]
          rw [hx] at HR
          clear hx HRR
          go_wp2
          go_ret2
          exact ⟨by rw [HR.out]; rfl, q, rfl⟩
        | some b =>
          simp only [Option.map_some, chr]
          rw [hx] at HR
          clear hx HRR
          go_wp2
          go_ret2
          exact ⟨by rw [HR.out]; rfl, q, rfl⟩
  · have t1 : ((c.toNat : Int) != 92) = true := by rw [bne_iff_ne]; omega
    have HP := Lib.hid (fun W => plain_any c W)
    cases hp : plainC c
    · rw [hp] at HP
      have HR := Lib.hid (show readC (c :: t) = none by rw [readC.eq_def]; simp [h92, hp])
      clear h92 hp
      go_enter Try.func46, Try.ntmps46
      go_wp2_with fail
      refine (HP.out _).mono ?_
      rintro e w' ⟨rfl, rfl⟩
      go_wp2
      go_ret2
      exact ⟨by rw [HR.out]; rfl, 0, rfl⟩
    · rw [hp] at HP
      have HR := Lib.hid (show readC (c :: t) = some (c, 1) by rw [readC.eq_def]; simp [h92, hp])
      clear h92 hp
      go_enter Try.func46, Try.ntmps46
      go_wp2_with fail
      refine (HP.out _).mono ?_
      rintro e w' ⟨rfl, rfl⟩
      go_wp2
      go_ret2
      exact ⟨by rw [HR.out]; rfl, 0, rfl⟩

end Go.Proofs.Ytiegneopolffoaa
