/-
  RdataBack: what is written is read as it is, with all bytes used, whatever stands ahead and behind.
-/
import Derived.Test.YtfehbkandfdepaaDRefX
import Derived.Test.YtfehbkandfdepaaDRound
import Derived.Test.YtfehbkandfdepaaDAnswers
import Derived.Test.YtfehbkandfdepaaDLight
import Derived.Test.YtfehbkandfdepaaDSame
import Derived.Test.YtfehbkandfdepaaOwnD
import Derived.Test.YtfehbkandfdepaaEndD
namespace Go.Proofs.Ytfehbkandfdepaa
open Go.RowKit

theorem sizedB {d : Dt} (h : LightD d) : Sized d := by
  have h1 := szN_le 300 d.host h.h
  have h2 := szN_le 300 d.mail h.m
  have h3 := h.nh
  have h4 := h.nm
  have h5 := h.nt
  have h6 : d.host.length * (300 + 1) ≤ 300 * (300 + 1) := Nat.mul_le_mul_right _ h3
  have h7 : d.mail.length * (300 + 1) ≤ 300 * (300 + 1) := Nat.mul_le_mul_right _ h4
  refine ⟨?_, ?_, ?_⟩ <;> unfold maxLen <;> omega
theorem lightB {x : DV} {d : Dt} {w : World} (h : DataAt w w.heap.size x d) (i : DIn d) : Calls Try.prog 8 #[x.val d] w (Gave w (.bool (lightD d))) :=
  light_any x d w h i.h i.m i.t i.lh i.lm i.lt
theorem refIn {d : Dt} (i : DIn d) (l : LightD d) : RefIn d := ⟨(sizedB l).h, (sizedB l).m, i.t, i.lt, fun n hn => (i64_le (i.n n hn)).2⟩
theorem most_le (k : Int) : (shN k).most ≤ 65535 := by
  rcases shN_cases k with rfl | rfl | rfl | rfl | rfl | rfl | rfl | rfl | rfl | hk
  case inr.inr.inr.inr.inr.inr.inr.inr.inr => rw [shN_other hk]; exact Nat.le_refl _
  all_goals decide
theorem ends_le (k : Int) : (shN k).ahead ≤ 10 ∧ (shN k).behind ≤ 10 := by
  rcases shN_cases k with rfl | rfl | rfl | rfl | rfl | rfl | rfl | rfl | rfl | hk
  case inr.inr.inr.inr.inr.inr.inr.inr.inr => rw [shN_other hk]; exact ⟨by decide, by decide⟩
  all_goals decide
theorem length_putD {s : Sh} {d : Dt} (B : List UInt8) (R : Rs) (sp : SoundP s d) (h1 : s.ahead ≤ 10 ∧ s.behind ≤ 10) (h2 : s.most ≤ 65535) : (putD s d B R).1.length ≤ B.length + 100000 := by
  have n1 := length_numsW 2 (d.nums.take s.ahead)
  have n2 := length_numsW 4 (d.nums.drop s.ahead)
  rw [List.length_take] at n1
  rw [List.length_drop] at n2
  have n3 := sp.n
  have n4 := length_textsW 255 d.texts sp.tl
  have n5 : (255 + 7) * d.texts.length ≤ (255 + 7) * 64 := Nat.mul_le_mul_left _ sp.t
  have n6 := sp.b
  have hH : (putH s d B R).1.length ≤ B.length + 70 + 255 := by
    unfold putH
    cases hh : s.host
    · rw [if_neg (by decide)]
      simp only [List.length_append]
      omega
    · have hs := soundN_parts (sp.h hh)
      rw [if_pos rfl]
      have := length_nameW_le s.short d.host (B ++ numsW 2 (d.nums.take s.ahead)) R hs.1
      rw [List.length_append] at this
      omega
  have hM : (putM s d (putH s d B R)).1.length ≤ B.length + 70 + 255 + 255 := by
    unfold putM
    cases hh : s.mail
    · rw [if_neg (by decide)]
      omega
    · have hs := soundN_parts (sp.m hh)
      rw [if_pos rfl]
      have := length_nameW_le s.short d.mail (putH s d B R).1 (putH s d B R).2 hs.1
      omega
  unfold putD
  simp only [List.length_append]
  omega

/-- What the law holds: the box of its data, the data, and the bytes that are to stand around it. -/
structure BK (w : World) (x : DV) (d : Dt) (Aa Ab : Option Addr) (ah be : List UInt8) (W : World) : Prop where
  bx : Whole W w.heap.size 26 [x.vb d, x.vh d, x.vm d, x.vn d, x.vt d]
  dt : DataAt W w.heap.size x d
  ra : Row W w.heap.size Aa (ah.map bc)
  rb : Row W w.heap.size Ab (be.map bc)
  below : Below w.heap.size w W
  size : w.heap.size + 1 ≤ W.heap.size
section
variable {w W W' : World} {x : DV} {d : Dt} {Aa Ab : Option Addr} {ah be : List UInt8}
theorem BK.step (h : BK w x d Aa Ab ah be W) (hb : Below (w.heap.size + 1) W W') : BK w x d Aa Ab ah be W' :=
  ⟨h.bx.below hb (by omega), h.dt.below (hb.mono (by omega)), h.ra.below (hb.mono (by omega)), h.rb.below (hb.mono (by omega)), h.below.trans (hb.mono (by omega)), Nat.le_trans h.size hb.size⟩
theorem BK.next (h : BK w x d Aa Ab ah be W) (hb : Below W.heap.size W W') : BK w x d Aa Ab ah be W' := h.step (hb.mono h.size)
theorem BK.made (hx : DataAt w w.heap.size x d) (ha : Row w w.heap.size Aa (ah.map bc)) (hb : Row w w.heap.size Ab (be.map bc)) :
    BK w x d Aa Ab ah be (w.alloc (.cells #[x.vb d, x.vh d, x.vm d, x.vn d, x.vt d] 26)) :=
  ⟨Whole.made w [x.vb d, x.vh d, x.vm d, x.vn d, x.vt d] _, hx.alloc (Nat.le_refl _) _, ha.alloc (Nat.le_refl _) _, hb.alloc (Nat.le_refl _) _, (Below.refl _ _).alloc (Nat.le_refl _) _, by simp⟩
theorem BK.at_ (h : BK w x d Aa Ab ah be W) : DataAt W W.heap.size x d := h.dt.mono (by have := h.size; omega)
end
theorem penned_below {base : Nat} {w w' : World} {g : Nat} {vB vM : Value} {B B' : List UInt8} {R R' : Rs} (hw : Wr w base g vB vM B R) (h : Penned base w g vB vM B' R' w') : Below base w w' := by
  obtain ⟨_, _, _, hg, _⟩ := h
  exact hg.below (fun j hj => (hw.own hj).1) hw.size

/-- The read of what was written. -/
theorem get_back {k : Int} {d : Dt} {X Y : List UInt8} (hs : soundD k d = true) : getD ((putD (shN k) d X []).1 ++ Y) X.length (((putD (shN k) d X []).1.length - X.length : Nat) : Int) k = (d, 0) := by
  have sp := soundP hs
  have hk : kindB k = true := by unfold soundD at hs; simp only [Bool.and_eq_true] at hs; exact hs.1
  obtain ⟨B1, x2, x3, hput, hB1, ⟨S2, hS2⟩, ⟨S3, hS3⟩, _⟩ := parts X sp
  have hle : X.length ≤ (putD (shN k) d X []).1.length := by rw [hput, hS3, hS2, hB1]; simp only [List.length_append]; omega
  have hr := read_back (X := X) (Y := Y) sp (shP k)
  unfold getD
  rw [if_neg (by rw [hk]; first | (simp; done) | (simp; omega)), if_neg (by rw [List.length_append]; omega), Int.toNat_natCast, show ((X.length : Int) + (((putD (shN k) d X []).1.length - X.length : Nat) : Int)).toNat = (putD (shN k) d X []).1.length by omega, hr]
theorem put_le {k : Int} {d : Dt} {X : List UInt8} (hs : soundD k d = true) : X.length ≤ (putD (shN k) d X []).1.length := by
  have sp := soundP hs
  obtain ⟨B1, x2, x3, hput, hB1, ⟨S2, hS2⟩, ⟨S3, hS3⟩, _⟩ := parts X sp
  rw [hput, hS3, hS2, hB1]
  simp only [List.length_append]
  omega
theorem get_less {k : Int} {d : Dt} {X Y : List UInt8} (hs : soundD k d = true) (hb : d.bytes = []) (ht : d.texts.length ≤ 1) (hz : X.length < (putD (shN k) d X []).1.length) :
    ∃ e, e ≠ 0 ∧ getD ((putD (shN k) d X []).1 ++ Y) X.length ((((putD (shN k) d X []).1.length - X.length : Nat) : Int) - 1) k = (⟨[], [], [], [], []⟩, e) := by
  have sp := soundP hs
  have hk : kindB k = true := by unfold soundD at hs; simp only [Bool.and_eq_true] at hs; exact hs.1
  obtain ⟨e, he, hr⟩ := read_short (X := X) (Y := Y) sp (shP k) hb ht hz
  refine ⟨e, he, ?_⟩
  unfold getD
  rw [if_neg (by rw [hk]; first | (simp; done) | (simp; omega)), if_neg (by rw [List.length_append]; omega), Int.toNat_natCast, show ((X.length : Int) + ((((putD (shN k) d X []).1.length - X.length : Nat) : Int) - 1)).toNat = (putD (shN k) d X []).1.length - 1 by omega, hr]

set_option maxRecDepth 20000 in
set_option maxHeartbeats 1000000 in
theorem rback_dark (k : Int) (x : DV) (d : Dt) (Aa Ab : Option Addr) (ca cb : Nat) (ah be : List UInt8) (w : World) (hx : DataAt w w.heap.size x d) (i : DIn d) (ha : Row w w.heap.size Aa (ah.map bc)) (hb : Row w w.heap.size Ab (be.map bc))
    (h1 : ah.length ≤ maxLen) (h2 : be.length ≤ maxLen) (hd : lightD d = true → ah.length ≤ 5000 → be.length ≤ 5000 → soundD k d = false) :
    Calls Try.prog 4 #[.int .i64 k, x.val d, .slice Aa ah.length ca, .slice Ab be.length cb] w (TrueB w) := by
  unfold maxLen at h1 h2
  have HX := Lib.hid (BK.made hx ha hb)
  have HL := Lib.hid (fun W (h : DataAt W W.heap.size x d) => lightB h i)
  have HI := Lib.hid (fun (h : lightD d = true) => refIn i ((lightD_iff d).1 h))
  have HD := Lib.hid hd
  clear hx ha hb i hd
  go_enter Try.func4, Try.ntmps4
  go_wp2_with fail
  refine (danswers_any _).mono ?_
  rintro e w1 ⟨rfl, hb⟩
  have hx1 := HX.out.next hb
  have p0 : w1.cell? ⟨w.heap.size, 0, none⟩ = some (.slice x.Ab d.bytes.length x.cb) := hx1.bx.cell 0
  have p1 : w1.cell? ⟨w.heap.size, 1, none⟩ = some (.slice x.Ah d.host.length x.ch) := hx1.bx.cell 1
  have p2 : w1.cell? ⟨w.heap.size, 2, none⟩ = some (.slice x.Am d.mail.length x.cm) := hx1.bx.cell 2
  have p3 : w1.cell? ⟨w.heap.size, 3, none⟩ = some (.slice x.An d.nums.length x.cn) := hx1.bx.cell 3
  have p4 : w1.cell? ⟨w.heap.size, 4, none⟩ = some (.slice x.At d.texts.length x.ct) := hx1.bx.cell 4
  have HX1 := Lib.hid hx1
  clear hb hx1
  go_wp2_with fail
  refine (HL.out _ HX1.out.at_).mono ?_
  intro e w2 hO
  obtain ⟨he, hb⟩ := hO
  have hx2 := HX1.out.next hb
  clear p0 p1 p2 p3 p4 hb
  have HX2 := Lib.hid hx2
  cases hl : lightD d with
  | false =>
    rw [hl] at he
    subst he
    clear hx2
    go_wp2_with fail
    refine (danswers_any _).mono ?_
    rintro e wz ⟨rfl, hb⟩
    have HXZ := Lib.hid (HX2.out.next hb)
    clear hb
    go_wp2
    go_ret
    exact ⟨rfl, HXZ.out.below⟩
  | true =>
    rw [hl] at he
    subst he
    by_cases g1 : 5000 < ah.length
    · have d1 : decide ((5000 : Int) < (ah.length : Int)) = true := by simp; omega
      clear hx2
      go_wp2_with fail
      refine (danswers_any _).mono ?_
      rintro e wz ⟨rfl, hb⟩
      have HXZ := Lib.hid (HX2.out.next hb)
      clear hb
      go_wp2
      go_ret
      exact ⟨rfl, HXZ.out.below⟩
    · have d1 : decide ((5000 : Int) < (ah.length : Int)) = false := by simp; omega
      by_cases g2 : 5000 < be.length
      · have d2 : decide ((5000 : Int) < (be.length : Int)) = true := by simp; omega
        clear hx2
        go_wp2_with fail
        refine (danswers_any _).mono ?_
        rintro e wz ⟨rfl, hb⟩
        have HXZ := Lib.hid (HX2.out.next hb)
        clear hb
        go_wp2
        go_ret
        exact ⟨rfl, HXZ.out.below⟩
      · have d2 : decide ((5000 : Int) < (be.length : Int)) = false := by simp; omega
        have HR := Lib.hid (fun W (h : DataAt W W.heap.size x d) => refData_any k x d W h (HI.out hl))
        rw [HD.out hl (by omega) (by omega)] at HR
        have p0 : w2.cell? ⟨w.heap.size, 0, none⟩ = some (.slice x.Ab d.bytes.length x.cb) := hx2.bx.cell 0
        have p1 : w2.cell? ⟨w.heap.size, 1, none⟩ = some (.slice x.Ah d.host.length x.ch) := hx2.bx.cell 1
        have p2 : w2.cell? ⟨w.heap.size, 2, none⟩ = some (.slice x.Am d.mail.length x.cm) := hx2.bx.cell 2
        have p3 : w2.cell? ⟨w.heap.size, 3, none⟩ = some (.slice x.An d.nums.length x.cn) := hx2.bx.cell 3
        have p4 : w2.cell? ⟨w.heap.size, 4, none⟩ = some (.slice x.At d.texts.length x.ct) := hx2.bx.cell 4
        clear hx2
        go_wp2_with fail
        refine (HR.out _ HX2.out.at_).mono ?_
        rintro e w3 ⟨rfl, hb⟩
        have HX3 := Lib.hid (HX2.out.next hb)
        clear hb p0 p1 p2 p3 p4
        go_wp2_with fail
        refine (danswers_any _).mono ?_
        rintro e wz ⟨rfl, hb⟩
        have HXZ := Lib.hid (HX3.out.next hb)
        clear hb
        go_wp2
        go_ret
        exact ⟨rfl, HXZ.out.below⟩

set_option maxRecDepth 20000 in
set_option maxHeartbeats 8000000 in
theorem rback_light (k : Int) (x : DV) (d : Dt) (Aa Ab : Option Addr) (ca cb : Nat) (ah be : List UInt8) (w : World) (hx : DataAt w w.heap.size x d) (i : DIn d) (ha : Row w w.heap.size Aa (ah.map bc)) (hb : Row w w.heap.size Ab (be.map bc))
    (hl : lightD d = true) (h1 : ah.length ≤ 5000) (h2 : be.length ≤ 5000) (hs : soundD k d = true) :
    Calls Try.prog 4 #[.int .i64 k, x.val d, .slice Aa ah.length ca, .slice Ab be.length cb] w (TrueB w) := by
  obtain ⟨i0, hi0, hz0, hz1, hz2⟩ := info_parts u8_info
  have d1 : decide ((5000 : Int) < (ah.length : Int)) = false := by simp; omega
  have d2 : decide ((5000 : Int) < (be.length : Int)) = false := by simp; omega
  have ld := (lightD_iff d).1 hl
  have sz := sizedB ld
  have ri := refIn i ld
  obtain ⟨B8, hB8⟩ : ∃ B8, B8 = (putD (shN k) d ah []).1 := ⟨_, rfl⟩
  obtain ⟨R8, hR8⟩ : ∃ R8, R8 = (putD (shN k) d ah []).2 := ⟨_, rfl⟩
  obtain ⟨B9, hB9⟩ : ∃ B9, B9 = B8 ++ be := ⟨_, rfl⟩
  have hle : ah.length ≤ B8.length := by rw [hB8]; exact put_le hs
  have hle2 : B8.length ≤ ah.length + 100000 := by
    rw [hB8]
    exact length_putD ah [] (soundP hs) (ends_le k) (most_le k)
  have hl9 : B9.length = B8.length + be.length := by rw [hB9, List.length_append]
  have gb := get_back (X := ah) (Y := be) hs
  have gl := get_less (X := ah) (Y := be) hs
  rw [← hB8, ← hB9, show ((B8.length - ah.length : Nat) : Int) = (B8.length : Int) - (ah.length : Int) by omega] at gb gl
  have HPUT := Lib.hid (fun base W g vB vM y Bd (h : Wr W base g vB vM ah []) (ho : OwnD W Bd y d) hsep => put_sound base W g vB vM ah [] k y d Bd h ho hsep hs (by omega) (by simp) (GoodR.nil _) ri.h ri.m)
  rw [← hB8, ← hR8] at HPUT
  have HG := Lib.hid (fun A c W hrow hm hc => dget_any A B9.length c B9 (ah.length : Int) ((B8.length : Int) - (ah.length : Int)) k W rfl hrow hm hc (by omega))
  have HG2 := Lib.hid (fun A c W hrow hm hc => dget_any A B9.length c B9 (ah.length : Int) ((B8.length : Int) - (ah.length : Int) - 1) k W rfl hrow hm hc (by omega))
  have HEX := Lib.hid (fun y W (hy : DataAt W W.heap.size y d) (hx : DataAt W W.heap.size x d) => dexact_any y x d d W hy hx sz sz i.h i.m)
  rw [exactD_self] at HEX
  rw [gb] at HG
  have HR := Lib.hid (fun x W (h : DataAt W W.heap.size x d) => refData_any k x d W h ri)
  rw [hs] at HR
  have HO := Lib.hid (fun W (h : DataAt W W.heap.size x d) => ownData_any x d W h ld)
  have HGL := Lib.hid gl
  have HX := Lib.hid (BK.made hx ha hb)
  have HL := Lib.hid (fun W (h : DataAt W W.heap.size x d) => lightB h i)
  rw [hl] at HL
  have HB9 := Lib.hid hB9
  have lb : d.bytes.length ≤ 70000 := ld.nb
  have lt : d.texts.length ≤ 200 := ld.nt
  have L9 := Lib.hid hl9
  have l9 : B9.length ≤ 200000 := by omega
  clear hx ha hb i hl hs ld sz ri hB8 hR8 hB9 gb gl hl9
  go_enter Try.func4, Try.ntmps4
  go_wp2_with fail
  refine (danswers_any _).mono ?_
  rintro e w1 ⟨rfl, hb⟩
  have hx1 := HX.out.next hb
  have p0 : w1.cell? ⟨w.heap.size, 0, none⟩ = some (.slice x.Ab d.bytes.length x.cb) := hx1.bx.cell 0
  have p1 : w1.cell? ⟨w.heap.size, 1, none⟩ = some (.slice x.Ah d.host.length x.ch) := hx1.bx.cell 1
  have p2 : w1.cell? ⟨w.heap.size, 2, none⟩ = some (.slice x.Am d.mail.length x.cm) := hx1.bx.cell 2
  have p3 : w1.cell? ⟨w.heap.size, 3, none⟩ = some (.slice x.An d.nums.length x.cn) := hx1.bx.cell 3
  have p4 : w1.cell? ⟨w.heap.size, 4, none⟩ = some (.slice x.At d.texts.length x.ct) := hx1.bx.cell 4
  have HX1 := Lib.hid hx1
  clear hb hx1
  go_wp2_with fail
  refine (HL.out _ HX1.out.at_).mono ?_
  rintro e w2 ⟨rfl, hb⟩
  have hx2 := HX1.out.next hb
  clear p0 p1 p2 p3 p4 hb
  have p0 : w2.cell? ⟨w.heap.size, 0, none⟩ = some (.slice x.Ab d.bytes.length x.cb) := hx2.bx.cell 0
  have p1 : w2.cell? ⟨w.heap.size, 1, none⟩ = some (.slice x.Ah d.host.length x.ch) := hx2.bx.cell 1
  have p2 : w2.cell? ⟨w.heap.size, 2, none⟩ = some (.slice x.Am d.mail.length x.cm) := hx2.bx.cell 2
  have p3 : w2.cell? ⟨w.heap.size, 3, none⟩ = some (.slice x.An d.nums.length x.cn) := hx2.bx.cell 3
  have p4 : w2.cell? ⟨w.heap.size, 4, none⟩ = some (.slice x.At d.texts.length x.ct) := hx2.bx.cell 4
  have HX2 := Lib.hid hx2
  clear hx2
  go_wp2_with fail
  refine (HR.out _ _ HX2.out.at_).mono ?_
  rintro e w3 ⟨rfl, hb⟩
  have HX3 := Lib.hid (HX2.out.next hb)
  have hz3 := HX3.out.size
  clear p0 p1 p2 p3 p4 hb HX HX1
  go_wp2_with fail
  refine (new_any _).mono ?_
  rintro e w4 ⟨rfl, hw, hb⟩
  have HX4 := Lib.hid (HX3.out.next hb)
  have HW4 := Lib.hid hw
  have hz4 := hb.size
  have HRA := Lib.hid (HX4.out.ra.alloc (show w.heap.size ≤ w4.heap.size by omega) (.cells #[] 5))
  clear hb hw HX2
  go_wp2_with (
    at_builtin
    refine wpList_append_row rfl (.tmp 41) (.tmp 42) _ rfl w4.heap.size 5 i0 _ 1 1 Try.underlying22 hi0 hz0 hz1 hz2 rfl (by omega) (.slice (some ⟨w4.heap.size, 0, none⟩) 0 0) 0 [] rfl
      (own_lit _ _ _) Aa ah.length ca w.heap.size (ah.map bc) rfl (by rw [List.length_map, Nat.mul_one]) HRA.out (bc_one ah) (by unfold maxLen; omega) (by omega) (by simp) ?_
    intro vw5 w5 hown hg
    simp only [Nat.zero_add, List.nil_append] at hown
    obtain ⟨Aw5, cw5, rfl, _, _⟩ := own_form hown
    have HRw5 := Lib.hid (Row.of_own hown)
    have HBw5 := Lib.hid (own_below ((Below.refl w4.heap.size w4).alloc (Nat.le_refl _) _) (Nat.le_refl _) (by simp) (own_lit w4 5 1) hg)
    clear hown hg)
  have HX5 := Lib.hid (HX4.out.next HBw5.out)
  have HW5 := Lib.hid (HW4.out.below HBw5.out)
  have hz5 := HBw5.out.size
  refine (raw_any w3.heap.size w5 _ _ _ [] [] Aw5 ah.length cw5 w5.heap.size ah HW5.out rfl HRw5.out (by simp; omega)).mono ?_
  rintro e w6 ⟨rfl, hp⟩
  have hb6 := penned_below HW5.out hp
  have hx6 := HX5.out.step (hb6.mono hz3)
  have hz6 := hb6.size
  obtain ⟨vB6, vM6, hw6, _, _⟩ := hp
  rw [List.nil_append] at hw6
  have HW6 := Lib.hid hw6
  have p0 : w6.cell? ⟨w.heap.size, 0, none⟩ = some (.slice x.Ab d.bytes.length x.cb) := hx6.bx.cell 0
  have p1 : w6.cell? ⟨w.heap.size, 1, none⟩ = some (.slice x.Ah d.host.length x.ch) := hx6.bx.cell 1
  have p2 : w6.cell? ⟨w.heap.size, 2, none⟩ = some (.slice x.Am d.mail.length x.cm) := hx6.bx.cell 2
  have p3 : w6.cell? ⟨w.heap.size, 3, none⟩ = some (.slice x.An d.nums.length x.cn) := hx6.bx.cell 3
  have p4 : w6.cell? ⟨w.heap.size, 4, none⟩ = some (.slice x.At d.texts.length x.ct) := hx6.bx.cell 4
  have HX6 := Lib.hid hx6
  clear hb6 hx6 hw6 HX4 HX5 HW4 HW5 HBw5 HRw5 HRA
  go_wp2_with fail
  refine (HO.out _ HX6.out.at_).mono ?_
  rintro e w7 ⟨y, rfl, ho, _, _, hb⟩
  have HX7 := Lib.hid (HX6.out.next hb)
  have HW7 := Lib.hid (HW6.out.below hb)
  have HOW := Lib.hid ho
  have hz7 := hb.size
  clear p0 p1 p2 p3 p4 hb ho
  go_wp2_with fail
  refine (HPUT.out _ _ _ _ _ _ _ HW7.out HOW.out (fun j hj => (HW6.out.own hj).2)).mono ?_
  rintro e w8 ⟨rfl, hp⟩
  have hb8 := penned_below HW7.out hp
  have hz8 := hb8.size
  have HX8 := Lib.hid (HX7.out.step (hb8.mono hz3))
  obtain ⟨vB8, vM8, hw8, _, _⟩ := hp
  have HW8 := Lib.hid hw8
  clear hb8 hw8 HX6 HX7 HW7 HW6 HOW
  go_wp2_with fail
  refine (len_any w3.heap.size w8 _ vB8 vM8 B8 R8 HW8.out).mono ?_
  rintro e w' ⟨rfl, rfl⟩
  have HRB := Lib.hid (HX8.out.rb.alloc (show w.heap.size ≤ w8.heap.size by omega) (.cells #[] 5))
  go_wp2_with (
    at_builtin
    refine wpList_append_row rfl (.tmp 57) (.tmp 58) _ rfl w8.heap.size 5 i0 _ 1 1 Try.underlying22 hi0 hz0 hz1 hz2 rfl (by omega) (.slice (some ⟨w8.heap.size, 0, none⟩) 0 0) 0 [] rfl
      (own_lit _ _ _) Ab be.length cb w.heap.size (be.map bc) rfl (by rw [List.length_map, Nat.mul_one]) HRB.out (bc_one be) (by unfold maxLen; omega) (by omega) (by simp) ?_
    intro vw9 w9 hown hg
    simp only [Nat.zero_add, List.nil_append] at hown
    obtain ⟨Aw9, cw9, rfl, _, _⟩ := own_form hown
    have HRw9 := Lib.hid (Row.of_own hown)
    have HBw9 := Lib.hid (own_below ((Below.refl w8.heap.size w8).alloc (Nat.le_refl _) _) (Nat.le_refl _) (by simp) (own_lit w8 5 1) hg)
    clear hown hg)
  have HX9 := Lib.hid (HX8.out.next HBw9.out)
  have HW9 := Lib.hid (HW8.out.below HBw9.out)
  have hz9 := HBw9.out.size
  refine (raw_any w3.heap.size w9 _ _ _ B8 R8 Aw9 be.length cw9 w9.heap.size be HW9.out rfl HRw9.out (by omega)).mono ?_
  rintro e w10 ⟨rfl, hp⟩
  have hb10 := penned_below HW9.out hp
  have HX10 := Lib.hid (HX9.out.step (hb10.mono hz3))
  have hz10 := hb10.size
  obtain ⟨vB10, vM10, hw10, _, _⟩ := hp
  rw [← HB9.out] at hw10
  have HW10 := Lib.hid hw10
  clear hb10 hw10 HX8 HX9 HW8 HW9 HBw9 HRw9 HRB
  go_wp2_with fail
  refine (bytes_any w3.heap.size w10 _ vB10 vM10 B9 R8 HW10.out (by omega)).mono ?_
  rintro e w11 ⟨A11, c11, rfl, ho, hb⟩
  have HX11 := Lib.hid (HX10.out.next hb)
  have HW11 := Lib.hid (HW10.out.below hb)
  have HR11 := Lib.hid (Row.of_own ho)
  have hc1 := own_cap ho
  have hc2 := own_capZ ho
  have hz11 := hb.size
  clear ho hb
  go_wp2_with fail
  refine (HG.out _ _ _ HR11.out hc1 hc2).mono ?_
  rintro e w12 ⟨z, rfl, ho, hb⟩
  have hx12 := HX11.out.next hb
  have HW12 := Lib.hid (HW11.out.below hb)
  have HZ12 := Lib.hid ho
  have hz12 := hb.size
  have hzz : w.heap.size < w12.heap.size := by have := hx12.size; omega
  have p0 : w12.cell? ⟨w.heap.size, 0, none⟩ = some (.slice x.Ab d.bytes.length x.cb) := hx12.bx.cell 0
  have p1 : w12.cell? ⟨w.heap.size, 1, none⟩ = some (.slice x.Ah d.host.length x.ch) := hx12.bx.cell 1
  have p2 : w12.cell? ⟨w.heap.size, 2, none⟩ = some (.slice x.Am d.mail.length x.cm) := hx12.bx.cell 2
  have p3 : w12.cell? ⟨w.heap.size, 3, none⟩ = some (.slice x.An d.nums.length x.cn) := hx12.bx.cell 3
  have p4 : w12.cell? ⟨w.heap.size, 4, none⟩ = some (.slice x.At d.texts.length x.ct) := hx12.bx.cell 4
  have HX12 := Lib.hid hx12
  clear ho hb HX10 HX11 HW10 HW11 hx12
  go_wp2_with fail
  obtain ⟨W13, hW13⟩ : ∃ W13, W13 = w12.alloc (.cells #[.slice z.Ab d.bytes.length z.cb, .slice z.Ah d.host.length z.ch, .slice z.Am d.mail.length z.cm, .slice z.An d.nums.length z.cn, .slice z.At d.texts.length z.ct] 26) := ⟨_, rfl⟩
  rw [← hW13]
  have hb13 : Below w12.heap.size w12 W13 := by rw [hW13]; exact (Below.refl _ _).alloc (Nat.le_refl _) _
  have hbz : Whole W13 w12.heap.size 26 [z.vb d, z.vh d, z.vm d, z.vn d, z.vt d] := by rw [hW13]; exact Whole.made w12 [z.vb d, z.vh d, z.vm d, z.vn d, z.vt d] _
  have HX13 := Lib.hid (HX12.out.next hb13)
  have HW13 := Lib.hid (HW12.out.below hb13)
  have HZ13 := Lib.hid (HZ12.out.keep fun g hg => hb13.block g hg)
  have HBZ := Lib.hid hbz
  have hz13 := hb13.size
  clear hb13 hbz hW13 HX12 HW12 HZ12 p0 p1 p2 p3 p4 hzz
  refine (HEX.out _ _ HZ13.out.at_ HX13.out.at_).mono ?_
  rintro e w14 ⟨rfl, hb⟩
  have HX14 := Lib.hid (HX13.out.next hb)
  have HW14 := Lib.hid (HW13.out.below hb)
  have HZ14 := Lib.hid (HZ13.out.keep fun g hg => hb.block g hg)
  have hbz := HBZ.out.below hb HBZ.out.lt
  have q0 : w14.cell? ⟨w12.heap.size, 0, none⟩ = some (.slice z.Ab d.bytes.length z.cb) := hbz.cell 0
  have q1 : w14.cell? ⟨w12.heap.size, 1, none⟩ = some (.slice z.Ah d.host.length z.ch) := hbz.cell 1
  have q2 : w14.cell? ⟨w12.heap.size, 2, none⟩ = some (.slice z.Am d.mail.length z.cm) := hbz.cell 2
  have q3 : w14.cell? ⟨w12.heap.size, 3, none⟩ = some (.slice z.An d.nums.length z.cn) := hbz.cell 3
  have q4 : w14.cell? ⟨w12.heap.size, 4, none⟩ = some (.slice z.At d.texts.length z.ct) := hbz.cell 4
  have hz14 := hb.size
  clear hb hbz HBZ HX13 HW13 HZ13
  go_wp2_with fail
  refine (HR.out _ _ HZ14.out.at_).mono ?_
  rintro e w15 ⟨rfl, hb⟩
  have hx15 := HX14.out.next hb
  have HW15 := Lib.hid (HW14.out.below hb)
  have hz15 := hb.size
  have HX15 := Lib.hid hx15
  clear hb HX14 HW14 HZ14 q0 q1 q2 q3 q4
  by_cases hz : B8.length = ah.length
  · have d3 : ((B8.length : Int) - (ah.length : Int) == 0) = true := by simp; omega
    clear hx15
    go_wp2
    go_ret
    exact ⟨rfl, HX15.out.below⟩
  have d3 : ((B8.length : Int) - (ah.length : Int) == 0) = false := by simp; omega
  clear hx15
  go_wp2_with fail
  refine (bytes_any w3.heap.size w15 _ vB10 vM10 B9 R8 HW15.out (by omega)).mono ?_
  rintro e w16 ⟨A16, c16, rfl, ho, hb⟩
  have HX16 := Lib.hid (HX15.out.next hb)
  have HR16 := Lib.hid (Row.of_own ho)
  have hc3 := own_cap ho
  have hc4 := own_capZ ho
  clear ho hb HX15
  obtain ⟨r, hr⟩ : ∃ r, r = getD B9 (ah.length : Int) ((B8.length : Int) - (ah.length : Int) - 1) k := ⟨_, rfl⟩
  rw [← hr] at HG2
  have HRR := Lib.hid (show r.2 = 0 → 0 < d.bytes.length ∨ 1 < d.texts.length from by
    intro h0
    by_cases h : d.bytes = [] ∧ d.texts.length ≤ 1
    · obtain ⟨e, he, hge⟩ := HGL.out h.1 h.2 (by omega)
      rw [← hr] at hge
      rw [hge] at h0
      exact absurd h0 he
    · rcases Nat.eq_zero_or_pos d.bytes.length with h1 | h1
      · have := List.length_eq_zero_iff.1 h1
        exact .inr (by rcases Nat.lt_or_ge 1 d.texts.length with h2 | h2; exact h2; exact absurd ⟨this, h2⟩ h)
      · exact .inl h1)
  clear hr
  go_wp2_with fail
  refine (HG2.out _ _ _ HR16.out hc3 hc4).mono ?_
  rintro e w17 ⟨z2, rfl, _, hb⟩
  have hx17 := HX16.out.next hb
  have hzz : w.heap.size < w17.heap.size := by have := hx17.size; omega
  have p0 : w17.cell? ⟨w.heap.size, 0, none⟩ = some (.slice x.Ab d.bytes.length x.cb) := hx17.bx.cell 0
  have p1 : w17.cell? ⟨w.heap.size, 1, none⟩ = some (.slice x.Ah d.host.length x.ch) := hx17.bx.cell 1
  have p2 : w17.cell? ⟨w.heap.size, 2, none⟩ = some (.slice x.Am d.mail.length x.cm) := hx17.bx.cell 2
  have p3 : w17.cell? ⟨w.heap.size, 3, none⟩ = some (.slice x.An d.nums.length x.cn) := hx17.bx.cell 3
  have p4 : w17.cell? ⟨w.heap.size, 4, none⟩ = some (.slice x.At d.texts.length x.ct) := hx17.bx.cell 4
  have HX17 := Lib.hid hx17
  clear hb hx17 HX16
  have HY := Lib.hid (HX17.out.below.trans ((Below.refl w17.heap.size w17).mono (Nat.le_of_lt hzz)))
  by_cases h0 : r.2 = 0
  · have HQ := Lib.hid (HRR.out h0)
    have e0 : ((r.2 : Int) != 0) = false := by simp [h0]
    by_cases hb : 0 < d.bytes.length
    · have e1 : decide ((0 : Int) < (d.bytes.length : Int)) = true := by simp; omega
      go_wp2
      go_ret
      exact ⟨rfl, HX17.out.below.alloc (by omega) _⟩
    · have e1 : decide ((0 : Int) < (d.bytes.length : Int)) = false := decide_eq_false (by omega)
      have e2 : decide ((1 : Int) < (d.texts.length : Int)) = true := by
        have := HQ.out
        simp
        omega
      go_wp2
      go_ret
      exact ⟨rfl, HX17.out.below.alloc (by omega) _⟩
  · have e0 : ((r.2 : Int) != 0) = true := by simp [h0]
    go_wp2
    go_ret
    exact ⟨rfl, HX17.out.below.alloc (by omega) _⟩

theorem rback_any (k : Int) (x : DV) (d : Dt) (Aa Ab : Option Addr) (ca cb : Nat) (ah be : List UInt8) (w : World) (hx : DataAt w w.heap.size x d) (i : DIn d) (ha : Row w w.heap.size Aa (ah.map bc)) (hb : Row w w.heap.size Ab (be.map bc))
    (h1 : ah.length ≤ maxLen) (h2 : be.length ≤ maxLen) :
    Calls Try.prog 4 #[.int .i64 k, x.val d, .slice Aa ah.length ca, .slice Ab be.length cb] w (TrueB w) := by
  by_cases h : lightD d = true ∧ ah.length ≤ 5000 ∧ be.length ≤ 5000 ∧ soundD k d = true
  · exact rback_light k x d Aa Ab ca cb ah be w hx i ha hb h.1 h.2.1 h.2.2.1 h.2.2.2
  · exact rback_dark k x d Aa Ab ca cb ah be w hx i ha hb h1 h2 fun q1 q2 q3 => by
      cases hs : soundD k d with
      | false => rfl
      | true => exact absurd ⟨q1, q2, q3, hs⟩ h

end Go.Proofs.Ytfehbkandfdepaa
