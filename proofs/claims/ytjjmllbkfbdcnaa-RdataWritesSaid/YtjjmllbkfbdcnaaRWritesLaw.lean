/-
  RdataWrites: whether a type may say so, and how it is written behind names.
-/
import Derived.Test.YtjjmllbkfbdcnaaDPutRef
import Derived.Test.YtjjmllbkfbdcnaaDRefP
import Derived.Test.YtjjmllbkfbdcnaaDAnswers
import Derived.Test.YtjjmllbkfbdcnaaDLight
import Derived.Test.YtjjmllbkfbdcnaaOwnD
import Derived.Test.YtjjmllbkfbdcnaaEndD
import Derived.Test.YtjjmllbkfbdcnaaNamesIn
import Derived.Test.YtjjmllbkfbdcnaaSame
namespace Go.Proofs.Ytjjmllbkfbdcnaa
open Go.RowKit

theorem refIn2 {d : Dt} (i : DIn d) (l : LightD d) : RefIn d := by
  have h1 := szN_le 300 d.host l.h
  have h2 := szN_le 300 d.mail l.m
  have h3 := l.nh
  have h4 := l.nm
  have h6 : d.host.length * (300 + 1) ≤ 300 * (300 + 1) := Nat.mul_le_mul_right _ h3
  have h7 : d.mail.length * (300 + 1) ≤ 300 * (300 + 1) := Nat.mul_le_mul_right _ h4
  exact ⟨by unfold maxLen; omega, by unfold maxLen; omega, i.t, i.lt, fun n hn => (i64_le (i.n n hn)).2⟩
theorem light2 {x : DV} {d : Dt} {w : World} (h : DataAt w w.heap.size x d) (i : DIn d) : Calls Try.prog 10 #[x.val d] w (Gave w (.bool (lightD d))) :=
  light_any x d w h i.h i.m i.t i.lh i.lm i.lt

theorem most_le2 (k : Int) : (shN k).most ≤ 65535 := by
  rcases shN_cases k with rfl | rfl | rfl | rfl | rfl | rfl | rfl | rfl | rfl | hk
  case inr.inr.inr.inr.inr.inr.inr.inr.inr => rw [shN_other hk]; exact Nat.le_refl _
  all_goals decide
theorem ends_le2 (k : Int) : (shN k).ahead ≤ 10 ∧ (shN k).behind ≤ 10 := by
  rcases shN_cases k with rfl | rfl | rfl | rfl | rfl | rfl | rfl | rfl | rfl | hk
  case inr.inr.inr.inr.inr.inr.inr.inr.inr => rw [shN_other hk]; exact ⟨by decide, by decide⟩
  all_goals decide
theorem length_putD2 {s : Sh} {d : Dt} (B : List UInt8) (R : Rs) (sp : SoundP s d) (h1 : s.ahead ≤ 10 ∧ s.behind ≤ 10) (h2 : s.most ≤ 65535) : (putD s d B R).1.length ≤ B.length + 100000 := by
  have n1 := length_numsW 2 (d.nums.take s.ahead)
  have n2 := length_numsW 4 (d.nums.drop s.ahead)
  rw [List.length_take] at n1
  rw [List.length_drop] at n2
  have n3 := sp.n
  have n4 := length_textsW 255 d.texts sp.tl
  have n5 : (255 + 7) * d.texts.length ≤ (255 + 7) * 64 := Nat.mul_le_mul_left _ sp.t
  have n6 := sp.b
  have hH : (putH s d B R).1.length ≤ B.length + 70 + 255 := by
    unfold putH
    cases hh : s.host
    · rw [if_neg (by decide)]
      simp only [List.length_append]
      omega
    · have hs := soundN_parts (sp.h hh)
      rw [if_pos rfl]
      have := length_nameW_le s.short d.host (B ++ numsW 2 (d.nums.take s.ahead)) R hs.1
      rw [List.length_append] at this
      omega
  have hM : (putM s d (putH s d B R)).1.length ≤ B.length + 70 + 255 + 255 := by
    unfold putM
    cases hh : s.mail
    · rw [if_neg (by decide)]
      omega
    · have hs := soundN_parts (sp.m hh)
      rw [if_pos rfl]
      have := length_nameW_le s.short d.mail (putH s d B R).1 (putH s d B R).2 hs.1
      omega
  unfold putD
  simp only [List.length_append]
  omega
/-- What the law holds: the box of its data, and the data. -/
structure XK (w : World) (x : DV) (d : Dt) (W : World) : Prop where
  bx : Whole W w.heap.size 26 [x.vb d, x.vh d, x.vm d, x.vn d, x.vt d]
  dt : DataAt W w.heap.size x d
  below : Below w.heap.size w W
  size : w.heap.size + 1 ≤ W.heap.size
section
variable {w W W' : World} {x : DV} {d : Dt}
theorem XK.step (h : XK w x d W) (hb : Below (w.heap.size + 1) W W') : XK w x d W' :=
  ⟨h.bx.below hb (by omega), h.dt.below (hb.mono (by omega)), h.below.trans (hb.mono (by omega)), Nat.le_trans h.size hb.size⟩
theorem XK.next (h : XK w x d W) (hb : Below W.heap.size W W') : XK w x d W' := h.step (hb.mono h.size)
theorem XK.made (hx : DataAt w w.heap.size x d) : XK w x d (w.alloc (.cells #[x.vb d, x.vh d, x.vm d, x.vn d, x.vt d] 26)) :=
  ⟨Whole.made w [x.vb d, x.vh d, x.vm d, x.vn d, x.vt d] _, hx.alloc (Nat.le_refl _) _, (Below.refl _ _).alloc (Nat.le_refl _) _, by simp⟩
theorem XK.at_ (h : XK w x d W) : DataAt W W.heap.size x d := h.dt.mono (by have := h.size; omega)
end

set_option maxRecDepth 20000 in
set_option maxHeartbeats 1000000 in
theorem rwrites_dark (k : Int) (x : DV) (d : Dt) (An : Option Addr) (N cn : Nat) (w : World) (hx : DataAt w w.heap.size x d) (i : DIn d) (hN : N ≤ maxLen) (hd : lightD d = true → 30 < N) :
    Calls Try.prog 3 #[.int .i64 k, x.val d, .slice An N cn] w (TrueB w) := by
  unfold maxLen at hN
  have HX := Lib.hid (XK.made hx)
  have HL := Lib.hid (fun W (h : DataAt W W.heap.size x d) => light2 h i)
  have HD := Lib.hid hd
  clear hx i hd
  go_enter Try.func3, Try.ntmps3
  go_wp2_with fail
  refine (danswers_any _).mono ?_
  rintro e w1 ⟨rfl, hb⟩
  have hx1 := HX.out.next hb
  have p0 : w1.cell? ⟨w.heap.size, 0, none⟩ = some (.slice x.Ab d.bytes.length x.cb) := hx1.bx.cell 0
  have p1 : w1.cell? ⟨w.heap.size, 1, none⟩ = some (.slice x.Ah d.host.length x.ch) := hx1.bx.cell 1
  have p2 : w1.cell? ⟨w.heap.size, 2, none⟩ = some (.slice x.Am d.mail.length x.cm) := hx1.bx.cell 2
  have p3 : w1.cell? ⟨w.heap.size, 3, none⟩ = some (.slice x.An d.nums.length x.cn) := hx1.bx.cell 3
  have p4 : w1.cell? ⟨w.heap.size, 4, none⟩ = some (.slice x.At d.texts.length x.ct) := hx1.bx.cell 4
  have HX1 := Lib.hid hx1
  clear hb hx1
  go_wp2_with fail
  refine (HL.out _ HX1.out.at_).mono ?_
  intro e w2 hO
  obtain ⟨he, hb⟩ := hO
  have HX2 := Lib.hid (HX1.out.next hb)
  clear p0 p1 p2 p3 p4 hb
  cases hl : lightD d with
  | false =>
    rw [hl] at he
    subst he
    go_wp2_with fail
    refine (danswers_any _).mono ?_
    rintro e wz ⟨rfl, hb⟩
    have HXZ := Lib.hid (HX2.out.next hb)
    clear hb
    go_wp2
    go_ret
    exact ⟨rfl, HXZ.out.below⟩
  | true =>
    rw [hl] at he
    subst he
    have g1 := HD.out hl
    have d1 : decide ((30 : Int) < (N : Int)) = true := by simp; omega
    go_wp2_with fail
    refine (danswers_any _).mono ?_
    rintro e wz ⟨rfl, hb⟩
    have HXZ := Lib.hid (HX2.out.next hb)
    clear hb
    go_wp2
    go_ret
    exact ⟨rfl, HXZ.out.below⟩

theorem NamesIn.atC {w : World} {H : Nat} {A : Option Addr} {vs : List Value} {ns : List (List (List UInt8))} (h : NamesIn w H A vs ns) (hq : ∀ (k : Nat) (A' : Option Addr) (m' c' : Nat), vs[k]? = some (Value.slice A' m' c') → m' ≤ c') {k : Nat} (hk : k < ns.length) :
    ∃ b off Ak ck, A = some ⟨b, off, none⟩ ∧ b < H ∧ w.cell? ⟨b, off + k, none⟩ = some (.slice Ak (ns.getD k []).length ck) ∧ Row w H Ak ((ns.getD k []).map sv) ∧ (ns.getD k []).length ≤ maxLen ∧ (∀ i (h : i < (ns.getD k []).length), ((ns.getD k [])[i]).length ≤ maxLen) ∧ (ns.getD k []).length ≤ ck := by
  obtain ⟨h1, h2, h3⟩ := h
  obtain ⟨Ak, ck, h4, h5, h6, h7⟩ := h3 k hk
  obtain ⟨b, off, rfl, hb, hc⟩ := h1.some_ (by omega)
  exact ⟨b, off, Ak, ck, rfl, hb, hc k _ h4, h5, h6, h7, hq k _ _ _ h4⟩
def RWRel (w wn : World) (x : DV) (d : Dt) (g1 g2 N : Nat) (i : Value) (wr : World) : Prop :=
  ∃ (k : Nat) (vB1 vM1 : Value) (B : List UInt8) (R : Rs) (Fp : Nat → Prop) (vB2 vR2 : Value), k ≤ N ∧ i = .int .i64 k ∧ Pair wr wn.heap.size g1 vB1 vM1 B R Fp g2 vB2 vR2 B R ∧ XK w x d wr ∧
    B.length ≤ 255 * k ∧ R.length ≤ 255 * k ∧ GoodR B R ∧ (∀ r ∈ R, r.2 < 16384 ∧ r.1.length ≤ 1000) ∧ wn.heap.size ≤ wr.heap.size

set_option maxRecDepth 20000 in
set_option maxHeartbeats 8000000 in
theorem rwrites_light (k : Int) (x : DV) (d : Dt) (An : Option Addr) (cn : Nat) (vs : List Value) (ns : List (List (List UInt8))) (w : World) (hx : DataAt w w.heap.size x d) (i : DIn d) (hn : NamesIn w w.heap.size An vs ns) (hq : ∀ (k : Nat) (A' : Option Addr) (m' c' : Nat), vs[k]? = some (Value.slice A' m' c') → m' ≤ c') (hl : lightD d = true) (h30 : ns.length ≤ 30) (s : Bool) (hs : soundD k d = s) :
    Calls Try.prog 3 #[.int .i64 k, x.val d, .slice An ns.length cn] w (TrueB w) := by
  obtain ⟨s0, hs0, hx0, hx1, hx2⟩ := info_parts str_info
  have d1 : decide ((30 : Int) < (ns.length : Int)) = false := by simp; omega
  have ld := (lightD_iff d).1 hl
  have ri := refIn2 i ld
  have HPS := Lib.hid (fun (hs' : soundD k d = true) base W g vB vM B R y Bd (h : Wr W base g vB vM B R) (ho : OwnD W Bd y d) hsep hB hR hG => put_sound base W g vB vM B R k y d Bd h ho hsep hs' hB hR hG ri.h ri.m)
  have HPB := Lib.hid (fun (hs' : soundD k d = false) W g y (hy : DataAt W W.heap.size y d) => put_bad W g k y d hy hs' ri.h ri.m ri.t ri.tl)
  have HSD := Lib.hid (fun y W (hy : DataAt W W.heap.size y d) => dsound_any k y d W hy ri.h ri.m ri.t ri.tl)
  have HPR := Lib.hid (fun (hs' : soundD k d = true) base W Fp g vB vR B R (h : RWr W base Fp g vB vR B R) (hx : DataAt W base x d) hB hR hR16 => rput_any base W Fp g vB vR B R k x d h hx hs' ri.n hB hR hR16)
  have HR := Lib.hid (fun x W (h : DataAt W W.heap.size x d) => refData_any k x d W h ri)
  have HO := Lib.hid (fun W (h : DataAt W W.heap.size x d) => ownData_any x d W h ld)
  have HLEN := Lib.hid (fun (hs' : soundD k d = true) B R => length_putD2 B R (soundP hs') (ends_le2 k) (most_le2 k))
  rw [hs] at HSD HR
  have HX := Lib.hid (XK.made hx)
  have HL := Lib.hid (fun W (h : DataAt W W.heap.size x d) => light2 h i)
  rw [hl] at HL
  have HN := Lib.hid (fun (kk : Nat) (h : kk < ns.length) => hn.atC hq h)
  have HS := Lib.hid hs
  clear hx i hl hs ld ri hn hq
  go_enter Try.func3, Try.ntmps3
  go_wp2_with fail
  refine (danswers_any _).mono ?_
  rintro e w1 ⟨rfl, hb⟩
  have hx1 := HX.out.next hb
  have p0 : w1.cell? ⟨w.heap.size, 0, none⟩ = some (.slice x.Ab d.bytes.length x.cb) := hx1.bx.cell 0
  have p1 : w1.cell? ⟨w.heap.size, 1, none⟩ = some (.slice x.Ah d.host.length x.ch) := hx1.bx.cell 1
  have p2 : w1.cell? ⟨w.heap.size, 2, none⟩ = some (.slice x.Am d.mail.length x.cm) := hx1.bx.cell 2
  have p3 : w1.cell? ⟨w.heap.size, 3, none⟩ = some (.slice x.An d.nums.length x.cn) := hx1.bx.cell 3
  have p4 : w1.cell? ⟨w.heap.size, 4, none⟩ = some (.slice x.At d.texts.length x.ct) := hx1.bx.cell 4
  have HX1 := Lib.hid hx1
  clear hb hx1
  go_wp2_with fail
  refine (HL.out _ HX1.out.at_).mono ?_
  rintro e w2 ⟨rfl, hb⟩
  have HX2 := Lib.hid (HX1.out.next hb)
  clear p0 p1 p2 p3 p4 hb HX
  go_wp2_with fail
  refine (new_any _).mono ?_
  rintro e w3 ⟨rfl, hw, hb⟩
  have HP3 := Lib.hid (Pair.new hw)
  have HX3 := Lib.hid ((HX2.out.next hb).next ((Below.refl _ _).alloc (Nat.le_refl _) (.cells #[.slice none 0 0, .slice none 0 0] 35)))
  have hz3 := hb.size
  have hz2 := HX2.out.size
  have hz4 : w2.heap.size ≤ (w3.alloc (.cells #[.slice none 0 0, .slice none 0 0] 35)).heap.size := by simp; omega
  have HZ4 := Lib.hid hz4
  clear hb hw HX1 HX2 hz4
  go_wp2
  obtain ⟨g2, hg2⟩ : ∃ g2, g2 = w3.heap.size := ⟨_, rfl⟩
  rw [← hg2] at HP3 ⊢
  clear hg2
  go_loopw [9] (RWRel w w2 x d w2.heap.size g2 ns.length) (fun i _ => ns.length - (intOf i).toNat)
  case atStart => exact ⟨0, _, _, [], [], _, _, _, Nat.zero_le _, rfl, HP3.out, HX3.out, by simp, by simp, GoodR.nil _, fun r hr => absurd hr (List.not_mem_nil), HZ4.out⟩
  case round =>
    obtain ⟨kk, vB1, vM1, B, R, Fp, vB2, vR2, hk, rfl, hpr, hxk, hBl, hRl, hG, hR16, hzr⟩ := hrel
    have HP := Lib.hid hpr
    have HXK := Lib.hid hxk
    have HG := Lib.hid hG
    have HR16 := Lib.hid hR16
    clear hpr hxk hG hR16 HP3 HX3 HZ4
    by_cases hlt : kk < ns.length
    · obtain ⟨bN, oN, Ak, ck, rfl, hbN, hcN, hrN, hm1, hm2, hck⟩ := HN.out kk hlt
      obtain ⟨n, hn⟩ : ∃ n, ns.getD kk [] = n := ⟨_, rfl⟩
      simp only [hn] at hcN hrN hm1 hm2 hck
      have HCN := Lib.hid hcN
      have HRN := Lib.hid hrN
      have HSO := Lib.hid (fun W hr => ref_sound_free Ak ck w.heap.size n W hr hm1 hm2)
      have crn : wr.cell? ⟨bN, oN + kk, none⟩ = some (.slice Ak n.length ck) := (HXK.out.below.cell (p := ⟨bN, oN + kk, none⟩) hbN).trans hcN
      clear hn hcN hrN hm1 hm2
      cases hsn : soundN n
      · rw [hsn] at HSO
        clear hsn
        go_wp2_with fail
        refine (HSO.out _ (HRN.out.below HXK.out.below)).mono ?_
        rintro e w' ⟨rfl, rfl⟩
        go_wp2
        exact ⟨⟨kk + 1, vB1, vM1, B, R, Fp, vB2, vR2, hlt, by go_num, HP.out, HXK.out, by omega, by omega, HG.out, HR16.out, hzr⟩, by simp [intOf]; omega⟩
      rw [hsn] at HSO
      have HSN := Lib.hid hsn
      have hfit := soundN_parts hsn
      have HF := Lib.hid hfit.1
      have hsz := hfit.2
      have hnl := szN_ge n hfit.1
      have hzw : w.heap.size + 1 ≤ wr.heap.size := HXK.out.size
      have hbNr : bN < wr.heap.size := by omega
      have HA6 := Lib.hid ((HRN.out.below HXK.out.below).alloc (show w.heap.size ≤ wr.heap.size by omega) (.cells #[] 9))
      clear hsn hfit
      go_wp2_with fail
      refine (HSO.out _ (HRN.out.below HXK.out.below)).mono ?_
      rintro e w' ⟨rfl, rfl⟩
      go_wp2_with (
        at_builtin
        refine wpList_append_row rfl (.tmp 40) (.tmp 44) _ rfl wr.heap.size 9 s0 _ 1 16 Try.underlying23 hs0 hx0 hx1 hx2 rfl (by omega) (.slice (some ⟨wr.heap.size, 0, none⟩) 0 0) 0 [] rfl
          (own_lit _ _ _) Ak n.length ck w.heap.size (n.map sv) rfl (by rw [List.length_map, Nat.mul_one]) HA6.out (sv_one n) (by unfold maxLen; omega) (by omega) (by simp) ?_
        intro v7 w7 hown7 hg7
        simp only [Nat.zero_add, List.nil_append] at hown7
        obtain ⟨A7, c7, rfl, _, _⟩ := own_form hown7
        have HR7 := Lib.hid (Row.of_own hown7)
        have hb7 := own_below ((Below.refl wr.heap.size wr).alloc (Nat.le_refl _) _) (Nat.le_refl _) (by simp) (own_lit wr 9 1) hg7
        have HP7 := Lib.hid (HP.out.below hb7)
        have HX7 := Lib.hid (HXK.out.next hb7)
        have hz7 : wr.heap.size ≤ w7.heap.size := hb7.size
        clear hown7 hg7 hb7)
      refine (name_sound w2.heap.size w7 w2.heap.size vB1 vM1 B R A7 n.length c7 w7.heap.size n true HP7.out.w1 rfl HR7.out (Nat.le_refl _) HSN.out (by omega) (by omega) (fun r hr => (HR16.out r hr).1)).mono ?_
      rintro e w8 ⟨rfl, hp⟩
      obtain ⟨vB3, vM3, hp8, hb8⟩ := HP7.out.pen1 hp
      have HP8 := Lib.hid hp8
      have HX8 := Lib.hid (HX7.out.step (hb8.mono hz2))
      have hz8 := hb8.size
      have crn : w8.cell? ⟨bN, oN + kk, none⟩ = some (.slice Ak n.length ck) := (HX8.out.below.cell (p := ⟨bN, oN + kk, none⟩) hbN).trans HCN.out
      clear hp hp8 hb8
      go_wp2_with fail
      refine (rname_any w2.heap.size w8 Fp g2 vB2 vR2 B R Ak ck w.heap.size n true HP8.out.w2 (HRN.out.below HX8.out.below) (by omega) hck HSN.out (by omega) (by omega) HR16.out).mono ?_
      rintro e w9 ⟨rfl, hp⟩
      obtain ⟨Gp, vB4, vR4, hp9, hb9⟩ := HP8.out.pen2 hp
      have HP9 := Lib.hid hp9
      have HX9 := Lib.hid (HX8.out.step (hb9.mono hz2))
      have hz9 := hb9.size
      clear hp hp9 hb9
      have hlB := length_nameW_le true n B R HF.out
      have hlR := length_nameW_rests true n B R
      have HKR := Lib.hid (nameW_kept true n B R HR16.out (by omega))
      obtain ⟨_, _, hGG⟩ := nameW_good (short := true) (n := n) HF.out HG.out
      have HGG := Lib.hid hGG
      clear hGG
      go_wp2
      exact ⟨⟨kk + 1, vB3, vM3, _, _, Gp, vB4, vR4, hlt, by go_num, HP9.out, HX9.out, by omega, by omega, HGG.out, HKR.out, by omega⟩, by simp [intOf]; omega⟩
    · obtain rfl : kk = ns.length := by omega
      have hxk := HXK.out
      have p0 : wr.cell? ⟨w.heap.size, 0, none⟩ = some (.slice x.Ab d.bytes.length x.cb) := hxk.bx.cell 0
      have p1 : wr.cell? ⟨w.heap.size, 1, none⟩ = some (.slice x.Ah d.host.length x.ch) := hxk.bx.cell 1
      have p2 : wr.cell? ⟨w.heap.size, 2, none⟩ = some (.slice x.Am d.mail.length x.cm) := hxk.bx.cell 2
      have p3 : wr.cell? ⟨w.heap.size, 3, none⟩ = some (.slice x.An d.nums.length x.cn) := hxk.bx.cell 3
      have p4 : wr.cell? ⟨w.heap.size, 4, none⟩ = some (.slice x.At d.texts.length x.ct) := hxk.bx.cell 4
      clear hxk
      go_wp2_with fail
      refine (HO.out _ HXK.out.at_).mono ?_
      rintro e w4 ⟨y, rfl, ho, _, _, hb⟩
      have HP4 := Lib.hid (HP.out.below hb)
      have HX4 := Lib.hid (HXK.out.next hb)
      have HY4 := Lib.hid ho
      have hz4 := hb.size
      have hwl := HP.out.w1
      clear ho hb p0 p1 p2 p3 p4
      cases s with
      | false =>
        go_wp2_with fail
        refine (HPB.out HS.out _ _ _ HY4.out.at_).mono ?_
        rintro e w5 ⟨rfl, hb⟩
        have HP5 := Lib.hid (HP4.out.below hb)
        have hx5 := HX4.out.next hb
        have p0 : w5.cell? ⟨w.heap.size, 0, none⟩ = some (.slice x.Ab d.bytes.length x.cb) := hx5.bx.cell 0
        have p1 : w5.cell? ⟨w.heap.size, 1, none⟩ = some (.slice x.Ah d.host.length x.ch) := hx5.bx.cell 1
        have p2 : w5.cell? ⟨w.heap.size, 2, none⟩ = some (.slice x.Am d.mail.length x.cm) := hx5.bx.cell 2
        have p3 : w5.cell? ⟨w.heap.size, 3, none⟩ = some (.slice x.An d.nums.length x.cn) := hx5.bx.cell 3
        have p4 : w5.cell? ⟨w.heap.size, 4, none⟩ = some (.slice x.At d.texts.length x.ct) := hx5.bx.cell 4
        have HX5 := Lib.hid hx5
        clear hb hx5 HP4 HX4 HY4 HP HXK hwl
        go_wp2_with fail
        refine (HR.out _ _ HX5.out.at_).mono ?_
        rintro e w6 ⟨rfl, hb⟩
        obtain ⟨A2, c2, rfl, _, _⟩ := own_form HP5.out.w2.row
        have HPR := Lib.hid ((HP5.out.below hb).below (Below.refl _ _).drew)
        have HXR := Lib.hid ((HX5.out.next hb).next (Below.refl _ _).drew)
        clear hb p0 p1 p2 p3 p4 HP5 HX5
        go_wp2
        go_region_held3 (fun W => (W.cell? ⟨w.heap.size, 0, none⟩ = some (.slice x.Ab d.bytes.length x.cb) ∧ W.cell? ⟨w.heap.size, 1, none⟩ = some (.slice x.Ah d.host.length x.ch) ∧ W.cell? ⟨w.heap.size, 2, none⟩ = some (.slice x.Am d.mail.length x.cm) ∧ W.cell? ⟨w.heap.size, 3, none⟩ = some (.slice x.An d.nums.length x.cn) ∧ W.cell? ⟨w.heap.size, 4, none⟩ = some (.slice x.At d.texts.length x.ct)) ∧ W.cell? ⟨g2, 0, none⟩ = some (.slice A2 B.length c2))
          (exact ⟨⟨HXR.out.bx.cell 0, HXR.out.bx.cell 1, HXR.out.bx.cell 2, HXR.out.bx.cell 3, HXR.out.bx.cell 4⟩, HPR.out.w2.c0⟩)
          ((first
            | (go_at_call 16
               with_reducible refine (HO.out _ HXR.out.at_).mono ?_
               rintro e wn ⟨y1, rfl, ho, _, _, hb⟩
               have HY := Lib.hid ho
               have HPR := Lib.hid (HPR.out.below hb)
               have HXR := Lib.hid (HXR.out.next hb)
               clear ho hb)
            | (go_at_call 19
               with_reducible refine (HSD.out _ _ HY.out.at_).mono ?_
               rintro e wn ⟨rfl, hb⟩
               have HPR := Lib.hid (HPR.out.below hb)
               have HXR := Lib.hid (HXR.out.next hb)
               clear hb)
            | (go_at_call 21
               refine (bytes_any w2.heap.size _ w2.heap.size vB1 vM1 B R HPR.out.w1 (by omega)).mono ?_
               rintro e wn ⟨A7, c7, rfl, ho7, hb⟩
               have HR7 := Lib.hid (Row.of_own ho7)
               have HPR := Lib.hid (HPR.out.below hb)
               have HXR := Lib.hid (HXR.out.next hb)
               have HR27 := Lib.hid (Row.of_own HPR.out.w2.row)
               clear ho7 hb)
            | (go_at_call 20
               refine (same_yes _ A2 B.length B.length _ c2 _ B _ rfl rfl HR7.out HR27.out (by unfold maxLen; omega)).mono ?_
               rintro e wn ⟨rfl, k8, rfl⟩
               have HPR := Lib.hid (HPR.out.below (below_drewN (Below.refl _ _) k8))
               have HXR := Lib.hid (HXR.out.next (below_drewN (Below.refl _ _) k8)))
            | (go_at_call 15
               refine (put_nil k _ d _).mono ?_
               rintro e wn ⟨rfl, hb⟩
               have HPR := Lib.hid (HPR.out.below hb)
               have HXR := Lib.hid (HXR.out.next hb)
               clear hb)))
        go_wp2
        go_ret
        exact ⟨rfl, HXR.out.below⟩
      | true =>
        go_wp2_with fail
        refine (HPS.out HS.out w2.heap.size _ _ _ _ B R _ _ HP4.out.w1 HY4.out (fun j hj => (hwl.own hj).2) (by omega) (by omega) HG.out).mono ?_
        rintro e w5 ⟨rfl, hp⟩
        obtain ⟨vB5, vM5, hp5, hb⟩ := HP4.out.pen1 hp
        have HP5 := Lib.hid hp5
        have hx5 := HX4.out.step (hb.mono hz2)
        have hz5 := hb.size
        have p0 : w5.cell? ⟨w.heap.size, 0, none⟩ = some (.slice x.Ab d.bytes.length x.cb) := hx5.bx.cell 0
        have p1 : w5.cell? ⟨w.heap.size, 1, none⟩ = some (.slice x.Ah d.host.length x.ch) := hx5.bx.cell 1
        have p2 : w5.cell? ⟨w.heap.size, 2, none⟩ = some (.slice x.Am d.mail.length x.cm) := hx5.bx.cell 2
        have p3 : w5.cell? ⟨w.heap.size, 3, none⟩ = some (.slice x.An d.nums.length x.cn) := hx5.bx.cell 3
        have p4 : w5.cell? ⟨w.heap.size, 4, none⟩ = some (.slice x.At d.texts.length x.ct) := hx5.bx.cell 4
        have HX5 := Lib.hid hx5
        clear hb hx5 hp hp5 HP4 HX4 HY4 HP HXK hwl
        go_wp2_with fail
        refine (HR.out _ _ HX5.out.at_).mono ?_
        rintro e w6 ⟨rfl, hb⟩
        have HP6 := Lib.hid (HP5.out.below hb)
        have hx6 := HX5.out.next hb
        have hz6 := hb.size
        clear hb p0 p1 p2 p3 p4 HP5 HX5
        have p0 : w6.cell? ⟨w.heap.size, 0, none⟩ = some (.slice x.Ab d.bytes.length x.cb) := hx6.bx.cell 0
        have p1 : w6.cell? ⟨w.heap.size, 1, none⟩ = some (.slice x.Ah d.host.length x.ch) := hx6.bx.cell 1
        have p2 : w6.cell? ⟨w.heap.size, 2, none⟩ = some (.slice x.Am d.mail.length x.cm) := hx6.bx.cell 2
        have p3 : w6.cell? ⟨w.heap.size, 3, none⟩ = some (.slice x.An d.nums.length x.cn) := hx6.bx.cell 3
        have p4 : w6.cell? ⟨w.heap.size, 4, none⟩ = some (.slice x.At d.texts.length x.ct) := hx6.bx.cell 4
        have HX6 := Lib.hid hx6
        clear hx6
        go_wp2_with fail
        refine (HPR.out HS.out w2.heap.size _ Fp g2 _ _ B R HP6.out.w2 (HX6.out.dt.mono (by omega)) (by omega) (by omega) HR16.out).mono ?_
        rintro e w7 ⟨rfl, hp⟩
        obtain ⟨Gp, vB6, vR6, hp7, hb⟩ := HP6.out.pen2 hp
        have hl8 := HLEN.out HS.out B R
        generalize (putD (shN k) d B R).1 = B8 at *
        generalize (putD (shN k) d B R).2 = R8 at *
        obtain ⟨A2, c2, rfl, _, _⟩ := own_form hp7.w2.row
        have HPR := Lib.hid (hp7.below (Below.refl _ _).drew)
        have hx7 := HX6.out.step (hb.mono hz2)
        have HXR := Lib.hid (hx7.next (Below.refl _ _).drew)
        have n0 : w7.cell? ⟨w.heap.size, 0, none⟩ = some (.slice x.Ab d.bytes.length x.cb) := hx7.bx.cell 0
        have n1 : w7.cell? ⟨w.heap.size, 1, none⟩ = some (.slice x.Ah d.host.length x.ch) := hx7.bx.cell 1
        have n2 : w7.cell? ⟨w.heap.size, 2, none⟩ = some (.slice x.Am d.mail.length x.cm) := hx7.bx.cell 2
        have n3 : w7.cell? ⟨w.heap.size, 3, none⟩ = some (.slice x.An d.nums.length x.cn) := hx7.bx.cell 3
        have n4 : w7.cell? ⟨w.heap.size, 4, none⟩ = some (.slice x.At d.texts.length x.ct) := hx7.bx.cell 4
        have n5 : w7.cell? ⟨g2, 0, none⟩ = some (.slice A2 B8.length c2) := hp7.w2.c0
        clear hb p0 p1 p2 p3 p4 HP6 HX6 hp hp7 hx7
        go_wp2
        refine wp_region_held_drew (S := (fun W => (W.cell? ⟨w.heap.size, 0, none⟩ = some (.slice x.Ab d.bytes.length x.cb) ∧ W.cell? ⟨w.heap.size, 1, none⟩ = some (.slice x.Ah d.host.length x.ch) ∧ W.cell? ⟨w.heap.size, 2, none⟩ = some (.slice x.Am d.mail.length x.cm) ∧ W.cell? ⟨w.heap.size, 3, none⟩ = some (.slice x.An d.nums.length x.cn) ∧ W.cell? ⟨w.heap.size, 4, none⟩ = some (.slice x.At d.texts.length x.ct)) ∧ W.cell? ⟨g2, 0, none⟩ = some (.slice A2 B8.length c2))) (by kernel_rfl) (by exact ⟨⟨HXR.out.bx.cell 0, HXR.out.bx.cell 1, HXR.out.bx.cell 2, HXR.out.bx.cell 3, HXR.out.bx.cell 4⟩, HPR.out.w2.c0⟩) (fun hHeld => ?_)
        refine wpAnyH_take (i := 0) (oi := { dst := some 66, op := Op.move (Operand.tmp 0), type := 3, pos := "law.go:55", after := #[], guard := none }) (v := ?_) rfl (by kernel_rfl) (by kernel_rfl) (by kernel_rfl) (fun _ _ _ h => h) (Or.inl ⟨by rfl, ?_⟩) (by assumption) ?_
        rotate_left
        · intro W hSw
          try dsimp only at hSw
          go_simp
          all_goals (with_reducible rfl)
        try simp only [Act.put, List.setIfInBounds_toArray, List.set_cons_zero, List.set_cons_succ]
        refine wpAnyH_take (i := 1) (oi := { dst := some 67, op := Op.load 26 (Operand.tmp 4), type := 26, pos := "law.go:55", after := #[], guard := none }) (v := ?_) rfl (by kernel_rfl) (by kernel_rfl) (by kernel_rfl) (fun _ _ _ h => h) (Or.inl ⟨by rfl, ?_⟩) (by assumption) ?_
        rotate_left
        · intro W hSw
          try dsimp only at hSw
          go_simp
          all_goals (with_reducible rfl)
        try simp only [Act.put, List.setIfInBounds_toArray, List.set_cons_zero, List.set_cons_succ]
        refine wpAnyH_take (i := 4) (oi := { dst := some 70, op := Op.move (Operand.tmp 11), type := 4, pos := "law.go:55", after := #[], guard := none }) (v := ?_) rfl (by kernel_rfl) (by kernel_rfl) (by kernel_rfl) (fun _ _ _ h => h) (Or.inl ⟨by rfl, ?_⟩) (by assumption) ?_
        rotate_left
        · intro W hSw
          try dsimp only at hSw
          go_simp
          all_goals (with_reducible rfl)
        try simp only [Act.put, List.setIfInBounds_toArray, List.set_cons_zero, List.set_cons_succ]
        refine wpAnyH_ready (rs := [2]) (by kernel_rfl) (by simp) ?_
        refine AllReadyH.cons (o := { dst := some 68, op := Op.call { callee := Callee.value (Operand.func 16), args := #[Operand.tmp 67], argTypes := #[26] }, type := 26, pos := "law.go:55", after := #[{ on := 1, ground := Ground.data }], guard := none }) rfl (fun K hK => ?_) AllReadyH.nil
        go_simp
        refine (HO.out _ HXR.out.at_).mono ?_
        rintro e wn ⟨y1, rfl, ho, _, _, hb⟩
        have HY := Lib.hid ho
        have HPR := Lib.hid (HPR.out.below hb)
        have HXR := Lib.hid (HXR.out.next hb)
        clear ho hb
        go_wp2_with fail
        refine hK.out _ _ (by exact ⟨⟨HXR.out.bx.cell 0, HXR.out.bx.cell 1, HXR.out.bx.cell 2, HXR.out.bx.cell 3, HXR.out.bx.cell 4⟩, HPR.out.w2.c0⟩) (fun hHeld2 => ?_)
        clear hK K hHeld
        have hHeld := hHeld2
        clear hHeld2
        try simp only [Act.put, List.setIfInBounds_toArray, List.set_cons_zero, List.set_cons_succ]
        refine wpAnyH_ready (rs := [3]) (by kernel_rfl) (by simp) ?_
        refine AllReadyH.cons (o := { dst := some 69, op := Op.call { callee := Callee.value (Operand.func 19), args := #[Operand.tmp 66, Operand.tmp 68], argTypes := #[3, 26] }, type := 4, pos := "law.go:55", after := #[{ on := 0, ground := Ground.data }, { on := 2, ground := Ground.data }, { on := 2, ground := Ground.chain }], guard := none }) rfl (fun K hK => ?_) AllReadyH.nil
        go_simp
        refine (HSD.out _ _ HY.out.at_).mono ?_
        rintro e wn ⟨rfl, hb⟩
        have HPR := Lib.hid (HPR.out.below hb)
        have HXR := Lib.hid (HXR.out.next hb)
        clear hb
        go_wp2_with fail
        refine hK.out _ _ (by exact ⟨⟨HXR.out.bx.cell 0, HXR.out.bx.cell 1, HXR.out.bx.cell 2, HXR.out.bx.cell 3, HXR.out.bx.cell 4⟩, HPR.out.w2.c0⟩) (fun hHeld2 => ?_)
        clear hK K hHeld
        have hHeld := hHeld2
        clear hHeld2
        try simp only [Act.put, List.setIfInBounds_toArray, List.set_cons_zero, List.set_cons_succ]
        refine wpAnyH_take (i := 5) (oi := { dst := some 71, op := Op.binOp BinOp.eql 4 (Operand.tmp 69) (Operand.tmp 70) 4, type := 4, pos := "law.go:55", after := #[{ on := 3, ground := Ground.data }, { on := 4, ground := Ground.data }], guard := none }) (v := ?_) rfl (by kernel_rfl) (by kernel_rfl) (by kernel_rfl) (fun _ _ _ h => h) (Or.inl ⟨by rfl, ?_⟩) (by assumption) ?_
        rotate_left
        · intro W hSw
          try dsimp only at hSw
          go_simp
          all_goals (with_reducible rfl)
        try simp only [Act.put, List.setIfInBounds_toArray, List.set_cons_zero, List.set_cons_succ]
        refine wpAnyH_take (i := 6) (oi := { dst := some 72, op := Op.move (Operand.tmp 71), type := 4, pos := "law.go:55", after := #[{ on := 5, ground := Ground.data }, { on := 3, ground := Ground.chain }], guard := none }) (v := ?_) rfl (by kernel_rfl) (by kernel_rfl) (by kernel_rfl) (fun _ _ _ h => h) (Or.inl ⟨by rfl, ?_⟩) (by assumption) ?_
        rotate_left
        · intro W hSw
          try dsimp only at hSw
          go_simp
          all_goals (with_reducible rfl)
        try simp only [Act.put, List.setIfInBounds_toArray, List.set_cons_zero, List.set_cons_succ]
        refine wpAnyH_take (i := 7) (oi := { dst := some 73, op := Op.move (Operand.tmp 10), type := 37, pos := "law.go:55", after := #[{ on := 6, ground := Ground.guard }], guard := some (6, true) }) (v := ?_) rfl (by kernel_rfl) (by kernel_rfl) (by kernel_rfl) (fun _ _ _ h => h) (Or.inl ⟨by rfl, ?_⟩) (by assumption) ?_
        rotate_left
        · intro W hSw
          try dsimp only at hSw
          go_simp
          all_goals (with_reducible rfl)
        try simp only [Act.put, List.setIfInBounds_toArray, List.set_cons_zero, List.set_cons_succ]
        refine wpAnyH_take (i := 8) (oi := { dst := some 74, op := Op.binOp BinOp.eql 37 (Operand.tmp 73) (Operand.const (Value.int IntKind.i64 0)) 37, type := 4, pos := "law.go:55", after := #[{ on := 7, ground := Ground.data }, { on := 6, ground := Ground.guard }], guard := some (6, true) }) (v := ?_) rfl (by kernel_rfl) (by kernel_rfl) (by kernel_rfl) (fun _ _ _ h => h) (Or.inl ⟨by rfl, ?_⟩) (by assumption) ?_
        rotate_left
        · intro W hSw
          try dsimp only at hSw
          go_simp
          all_goals (with_reducible rfl)
        try simp only [Act.put, List.setIfInBounds_toArray, List.set_cons_zero, List.set_cons_succ]
        refine wpAnyH_take (i := 9) (oi := { dst := some 75, op := Op.move (Operand.tmp 11), type := 4, pos := "law.go:55", after := #[{ on := 6, ground := Ground.guard }], guard := some (6, true) }) (v := ?_) rfl (by kernel_rfl) (by kernel_rfl) (by kernel_rfl) (fun _ _ _ h => h) (Or.inl ⟨by rfl, ?_⟩) (by assumption) ?_
        rotate_left
        · intro W hSw
          try dsimp only at hSw
          go_simp
          all_goals (with_reducible rfl)
        try simp only [Act.put, List.setIfInBounds_toArray, List.set_cons_zero, List.set_cons_succ]
        refine wpAnyH_take (i := 10) (oi := { dst := some 76, op := Op.binOp BinOp.eql 4 (Operand.tmp 74) (Operand.tmp 75) 4, type := 4, pos := "law.go:55", after := #[{ on := 8, ground := Ground.data }, { on := 9, ground := Ground.data }, { on := 6, ground := Ground.guard }], guard := some (6, true) }) (v := ?_) rfl (by kernel_rfl) (by kernel_rfl) (by kernel_rfl) (fun _ _ _ h => h) (Or.inl ⟨by rfl, ?_⟩) (by assumption) ?_
        rotate_left
        · intro W hSw
          try dsimp only at hSw
          go_simp
          all_goals (with_reducible rfl)
        try simp only [Act.put, List.setIfInBounds_toArray, List.set_cons_zero, List.set_cons_succ]
        refine wpAnyH_take (i := 11) (oi := { dst := some 77, op := Op.pick (Operand.tmp 72) (Operand.tmp 76) (Operand.const (Value.bool false)), type := 4, pos := "law.go:55", after := #[{ on := 6, ground := Ground.data }, { on := 10, ground := Ground.data }], guard := none }) (v := ?_) rfl (by kernel_rfl) (by kernel_rfl) (by kernel_rfl) (fun _ _ _ h => h) (Or.inl ⟨by rfl, ?_⟩) (by assumption) ?_
        rotate_left
        · intro W hSw
          try dsimp only at hSw
          go_simp
          all_goals (with_reducible rfl)
        try simp only [Act.put, List.setIfInBounds_toArray, List.set_cons_zero, List.set_cons_succ]
        refine wpAnyH_take (i := 12) (oi := { dst := some 78, op := Op.move (Operand.tmp 77), type := 4, pos := "law.go:55", after := #[{ on := 11, ground := Ground.data }, { on := 6, ground := Ground.chain }], guard := none }) (v := ?_) rfl (by kernel_rfl) (by kernel_rfl) (by kernel_rfl) (fun _ _ _ h => h) (Or.inl ⟨by rfl, ?_⟩) (by assumption) ?_
        rotate_left
        · intro W hSw
          try dsimp only at hSw
          go_simp
          all_goals (with_reducible rfl)
        try simp only [Act.put, List.setIfInBounds_toArray, List.set_cons_zero, List.set_cons_succ]
        refine wpAnyH_take (i := 13) (oi := { dst := some 79, op := Op.move (Operand.tmp 11), type := 4, pos := "law.go:55", after := #[{ on := 12, ground := Ground.guard }], guard := some (12, true) }) (v := ?_) rfl (by kernel_rfl) (by kernel_rfl) (by kernel_rfl) (fun _ _ _ h => h) (Or.inl ⟨by rfl, ?_⟩) (by assumption) ?_
        rotate_left
        · intro W hSw
          try dsimp only at hSw
          go_simp
          all_goals (with_reducible rfl)
        try simp only [Act.put, List.setIfInBounds_toArray, List.set_cons_zero, List.set_cons_succ]
        refine wpAnyH_take (i := 14) (oi := { dst := some 80, op := Op.move (Operand.tmp 79), type := 4, pos := "law.go:55", after := #[{ on := 13, ground := Ground.data }, { on := 12, ground := Ground.chain }, { on := 12, ground := Ground.guard }], guard := some (12, true) }) (v := ?_) rfl (by kernel_rfl) (by kernel_rfl) (by kernel_rfl) (fun _ _ _ h => h) (Or.inl ⟨by rfl, ?_⟩) (by assumption) ?_
        rotate_left
        · intro W hSw
          try dsimp only at hSw
          go_simp
          all_goals (with_reducible rfl)
        try simp only [Act.put, List.setIfInBounds_toArray, List.set_cons_zero, List.set_cons_succ]
        refine wpAnyH_take (i := 15) (oi := { dst := some 81, op := Op.move (Operand.tmp 10), type := 37, pos := "law.go:55", after := #[{ on := 14, ground := Ground.guard }], guard := some (14, false) }) (v := undef) rfl (by kernel_rfl) (by kernel_rfl) (by kernel_rfl) (fun _ _ _ h => h) (Or.inr ⟨by rfl, rfl⟩) (by assumption) ?_
        try simp only [Act.put, List.setIfInBounds_toArray, List.set_cons_zero, List.set_cons_succ]
        refine wpAnyH_take (i := 16) (oi := { dst := some 82, op := Op.binOp BinOp.eql 37 (Operand.tmp 81) (Operand.const (Value.int IntKind.i64 2)) 37, type := 4, pos := "law.go:55", after := #[{ on := 15, ground := Ground.data }, { on := 14, ground := Ground.guard }], guard := some (14, false) }) (v := undef) rfl (by kernel_rfl) (by kernel_rfl) (by kernel_rfl) (fun _ _ _ h => h) (Or.inr ⟨by rfl, rfl⟩) (by assumption) ?_
        try simp only [Act.put, List.setIfInBounds_toArray, List.set_cons_zero, List.set_cons_succ]
        refine wpAnyH_take (i := 17) (oi := { dst := some 83, op := Op.pick (Operand.tmp 80) (Operand.const (Value.bool true)) (Operand.tmp 82), type := 4, pos := "law.go:55", after := #[{ on := 14, ground := Ground.data }, { on := 16, ground := Ground.data }, { on := 12, ground := Ground.guard }], guard := some (12, true) }) (v := ?_) rfl (by kernel_rfl) (by kernel_rfl) (by kernel_rfl) (fun _ _ _ h => h) (Or.inl ⟨by rfl, ?_⟩) (by assumption) ?_
        rotate_left
        · intro W hSw
          try dsimp only at hSw
          go_simp
          all_goals (with_reducible rfl)
        try simp only [Act.put, List.setIfInBounds_toArray, List.set_cons_zero, List.set_cons_succ]
        refine wpAnyH_take (i := 18) (oi := { dst := some 84, op := Op.pick (Operand.tmp 78) (Operand.tmp 83) (Operand.const (Value.bool false)), type := 4, pos := "law.go:55", after := #[{ on := 12, ground := Ground.data }, { on := 17, ground := Ground.data }], guard := none }) (v := ?_) rfl (by kernel_rfl) (by kernel_rfl) (by kernel_rfl) (fun _ _ _ h => h) (Or.inl ⟨by rfl, ?_⟩) (by assumption) ?_
        rotate_left
        · intro W hSw
          try dsimp only at hSw
          go_simp
          all_goals (with_reducible rfl)
        try simp only [Act.put, List.setIfInBounds_toArray, List.set_cons_zero, List.set_cons_succ]
        refine wpAnyH_take (i := 19) (oi := { dst := some 85, op := Op.move (Operand.tmp 84), type := 4, pos := "law.go:55", after := #[{ on := 18, ground := Ground.data }, { on := 14, ground := Ground.chain }], guard := none }) (v := ?_) rfl (by kernel_rfl) (by kernel_rfl) (by kernel_rfl) (fun _ _ _ h => h) (Or.inl ⟨by rfl, ?_⟩) (by assumption) ?_
        rotate_left
        · intro W hSw
          try dsimp only at hSw
          go_simp
          all_goals (with_reducible rfl)
        try simp only [Act.put, List.setIfInBounds_toArray, List.set_cons_zero, List.set_cons_succ]
        refine wpAnyH_take (i := 20) (oi := { dst := some 86, op := Op.move (Operand.tmp 7), type := 30, pos := "law.go:55", after := #[{ on := 19, ground := Ground.guard }], guard := some (19, true) }) (v := ?_) rfl (by kernel_rfl) (by kernel_rfl) (by kernel_rfl) (fun _ _ _ h => h) (Or.inl ⟨by rfl, ?_⟩) (by assumption) ?_
        rotate_left
        · intro W hSw
          try dsimp only at hSw
          go_simp
          all_goals (with_reducible rfl)
        try simp only [Act.put, List.setIfInBounds_toArray, List.set_cons_zero, List.set_cons_succ]
        refine wpAnyH_take (i := 22) (oi := { dst := some 88, op := Op.move (Operand.tmp 8), type := 32, pos := "law.go:55", after := #[{ on := 19, ground := Ground.guard }], guard := some (19, true) }) (v := ?_) rfl (by kernel_rfl) (by kernel_rfl) (by kernel_rfl) (fun _ _ _ h => h) (Or.inl ⟨by rfl, ?_⟩) (by assumption) ?_
        rotate_left
        · intro W hSw
          try dsimp only at hSw
          go_simp
          all_goals (with_reducible rfl)
        try simp only [Act.put, List.setIfInBounds_toArray, List.set_cons_zero, List.set_cons_succ]
        refine wpAnyH_take (i := 23) (oi := { dst := some 89, op := Op.nilCheck (Operand.tmp 88), type := 0, pos := "law.go:55", after := #[{ on := 22, ground := Ground.data }, { on := 19, ground := Ground.guard }], guard := some (19, true) }) (v := ?_) rfl (by kernel_rfl) (by kernel_rfl) (by kernel_rfl) (fun _ _ _ h => h) (Or.inl ⟨by rfl, ?_⟩) (by assumption) ?_
        rotate_left
        · intro W hSw
          try dsimp only at hSw
          go_simp
          all_goals (with_reducible rfl)
        try simp only [Act.put, List.setIfInBounds_toArray, List.set_cons_zero, List.set_cons_succ]
        refine wpAnyH_take (i := 24) (oi := { dst := some 90, op := Op.fieldAddr 35 (Operand.tmp 89) 0, type := 0, pos := "law.go:55", after := #[{ on := 23, ground := Ground.data }, { on := 19, ground := Ground.guard }], guard := some (19, true) }) (v := ?_) rfl (by kernel_rfl) (by kernel_rfl) (by kernel_rfl) (fun _ _ _ h => h) (Or.inl ⟨by rfl, ?_⟩) (by assumption) ?_
        rotate_left
        · intro W hSw
          try dsimp only at hSw
          go_simp
          all_goals (with_reducible rfl)
        try simp only [Act.put, List.setIfInBounds_toArray, List.set_cons_zero, List.set_cons_succ]
        refine wpAnyH_take (i := 25) (oi := { dst := some 91, op := Op.load 22 (Operand.tmp 90), type := 22, pos := "law.go:55", after := #[{ on := 24, ground := Ground.data }, { on := 19, ground := Ground.guard }], guard := some (19, true) }) (v := ?_) rfl (by kernel_rfl) (by kernel_rfl) (by kernel_rfl) (fun _ _ _ h => h) (Or.inl ⟨by rfl, ?_⟩) (by assumption) ?_
        rotate_left
        · intro W hSw
          try dsimp only at hSw
          go_simp
          all_goals (with_reducible rfl)
        try simp only [Act.put, List.setIfInBounds_toArray, List.set_cons_zero, List.set_cons_succ]
        refine wpAnyH_ready (rs := [21]) (by kernel_rfl) (by simp) ?_
        refine AllReadyH.cons (o := { dst := some 87, op := Op.call { callee := Callee.value (Operand.func 21), args := #[Operand.tmp 86], argTypes := #[30] }, type := 22, pos := "law.go:55", after := #[{ on := 20, ground := Ground.data }, { on := 19, ground := Ground.chain }, { on := 19, ground := Ground.guard }], guard := some (19, true) }) rfl (fun K hK => ?_) AllReadyH.nil
        go_simp
        refine (bytes_any w2.heap.size _ w2.heap.size vB5 vM5 B8 R8 HPR.out.w1 (by omega)).mono ?_
        rintro e wn ⟨A7, c7, rfl, ho7, hb⟩
        have HR7 := Lib.hid (Row.of_own ho7)
        have HPR := Lib.hid (HPR.out.below hb)
        have HXR := Lib.hid (HXR.out.next hb)
        have HR27 := Lib.hid (Row.of_own HPR.out.w2.row)
        clear ho7 hb
        go_wp2_with fail
        refine hK.out _ _ (by exact ⟨⟨HXR.out.bx.cell 0, HXR.out.bx.cell 1, HXR.out.bx.cell 2, HXR.out.bx.cell 3, HXR.out.bx.cell 4⟩, HPR.out.w2.c0⟩) (fun hHeld2 => ?_)
        clear hK K hHeld
        have hHeld := hHeld2
        clear hHeld2
        try simp only [Act.put, List.setIfInBounds_toArray, List.set_cons_zero, List.set_cons_succ]
        refine wpAnyH_ready (rs := [26]) (by kernel_rfl) (by simp) ?_
        refine AllReadyH.cons (o := { dst := some 92, op := Op.call { callee := Callee.value (Operand.func 20), args := #[Operand.tmp 87, Operand.tmp 91], argTypes := #[22, 22] }, type := 4, pos := "law.go:55", after := #[{ on := 21, ground := Ground.data }, { on := 25, ground := Ground.data }, { on := 21, ground := Ground.chain }, { on := 19, ground := Ground.guard }], guard := some (19, true) }) rfl (fun K hK => ?_) AllReadyH.nil
        go_simp
        refine (same_yes _ A2 B8.length B8.length _ c2 _ B8 _ rfl rfl HR7.out HR27.out (by unfold maxLen; omega)).mono ?_
        rintro e wn ⟨rfl, k8, rfl⟩
        have HPR := Lib.hid (HPR.out.below (below_drewN (Below.refl _ _) k8))
        have HXR := Lib.hid (HXR.out.next (below_drewN (Below.refl _ _) k8))
        go_wp2_with fail
        refine hK.out _ _ (by exact ⟨⟨HXR.out.bx.cell 0, HXR.out.bx.cell 1, HXR.out.bx.cell 2, HXR.out.bx.cell 3, HXR.out.bx.cell 4⟩, HPR.out.w2.c0⟩) (fun hHeld2 => ?_)
        clear hK K hHeld
        have hHeld := hHeld2
        clear hHeld2
        try simp only [Act.put, List.setIfInBounds_toArray, List.set_cons_zero, List.set_cons_succ]
        refine wpAnyH_take (i := 27) (oi := { dst := some 93, op := Op.pick (Operand.tmp 85) (Operand.tmp 92) (Operand.const (Value.bool false)), type := 4, pos := "law.go:55", after := #[{ on := 19, ground := Ground.data }, { on := 26, ground := Ground.data }], guard := none }) (v := ?_) rfl (by kernel_rfl) (by kernel_rfl) (by kernel_rfl) (fun _ _ _ h => h) (Or.inl ⟨by rfl, ?_⟩) (by assumption) ?_
        rotate_left
        · intro W hSw
          try dsimp only at hSw
          go_simp
          all_goals (with_reducible rfl)
        try simp only [Act.put, List.setIfInBounds_toArray, List.set_cons_zero, List.set_cons_succ]
        refine wpAnyH_take (i := 28) (oi := { dst := some 94, op := Op.move (Operand.tmp 93), type := 4, pos := "law.go:55", after := #[{ on := 27, ground := Ground.data }, { on := 26, ground := Ground.chain }], guard := none }) (v := ?_) rfl (by kernel_rfl) (by kernel_rfl) (by kernel_rfl) (fun _ _ _ h => h) (Or.inl ⟨by rfl, ?_⟩) (by assumption) ?_
        rotate_left
        · intro W hSw
          try dsimp only at hSw
          go_simp
          all_goals (with_reducible rfl)
        try simp only [Act.put, List.setIfInBounds_toArray, List.set_cons_zero, List.set_cons_succ]
        refine wpAnyH_take (i := 29) (oi := { dst := some 95, op := Op.move (Operand.tmp 0), type := 3, pos := "law.go:55", after := #[{ on := 28, ground := Ground.guard }], guard := some (28, true) }) (v := ?_) rfl (by kernel_rfl) (by kernel_rfl) (by kernel_rfl) (fun _ _ _ h => h) (Or.inl ⟨by rfl, ?_⟩) (by assumption) ?_
        rotate_left
        · intro W hSw
          try dsimp only at hSw
          go_simp
          all_goals (with_reducible rfl)
        try simp only [Act.put, List.setIfInBounds_toArray, List.set_cons_zero, List.set_cons_succ]
        refine wpAnyH_take (i := 30) (oi := { dst := some 96, op := Op.load 26 (Operand.tmp 4), type := 26, pos := "law.go:55", after := #[{ on := 28, ground := Ground.guard }], guard := some (28, true) }) (v := ?_) rfl (by kernel_rfl) (by kernel_rfl) (by kernel_rfl) (fun _ _ _ h => h) (Or.inl ⟨by rfl, ?_⟩) (by assumption) ?_
        rotate_left
        · intro W hSw
          try dsimp only at hSw
          go_simp
          all_goals (with_reducible rfl)
        try simp only [Act.put, List.setIfInBounds_toArray, List.set_cons_zero, List.set_cons_succ]
        refine wpAnyH_ready (rs := [31]) (by kernel_rfl) (by simp) ?_
        refine AllReadyH.cons (o := { dst := some 97, op := Op.call { callee := Callee.value (Operand.func 16), args := #[Operand.tmp 96], argTypes := #[26] }, type := 26, pos := "law.go:55", after := #[{ on := 30, ground := Ground.data }, { on := 28, ground := Ground.chain }, { on := 28, ground := Ground.guard }], guard := some (28, true) }) rfl (fun K hK => ?_) AllReadyH.nil
        go_simp
        refine (HO.out _ HXR.out.at_).mono ?_
        rintro e wn ⟨y1, rfl, ho, _, _, hb⟩
        have HY := Lib.hid ho
        have HPR := Lib.hid (HPR.out.below hb)
        have HXR := Lib.hid (HXR.out.next hb)
        clear ho hb
        go_wp2_with fail
        refine hK.out _ _ (by exact ⟨⟨HXR.out.bx.cell 0, HXR.out.bx.cell 1, HXR.out.bx.cell 2, HXR.out.bx.cell 3, HXR.out.bx.cell 4⟩, HPR.out.w2.c0⟩) (fun hHeld2 => ?_)
        clear hK K hHeld
        have hHeld := hHeld2
        clear hHeld2
        try simp only [Act.put, List.setIfInBounds_toArray, List.set_cons_zero, List.set_cons_succ]
        refine wpAnyH_ready (rs := [32]) (by kernel_rfl) (by simp) ?_
        refine AllReadyH.cons (o := { dst := some 98, op := Op.call { callee := Callee.value (Operand.func 15), args := #[Operand.const (Value.pointer none), Operand.tmp 95, Operand.tmp 97], argTypes := #[30, 3, 26] }, type := 37, pos := "law.go:55", after := #[{ on := 29, ground := Ground.data }, { on := 31, ground := Ground.data }, { on := 31, ground := Ground.chain }, { on := 28, ground := Ground.guard }], guard := some (28, true) }) rfl (fun K hK => ?_) AllReadyH.nil
        go_simp
        refine (put_nil k _ d _).mono ?_
        rintro e wn ⟨rfl, hb⟩
        have HPR := Lib.hid (HPR.out.below hb)
        have HXR := Lib.hid (HXR.out.next hb)
        clear hb
        go_wp2_with fail
        refine hK.out _ _ (by exact ⟨⟨HXR.out.bx.cell 0, HXR.out.bx.cell 1, HXR.out.bx.cell 2, HXR.out.bx.cell 3, HXR.out.bx.cell 4⟩, HPR.out.w2.c0⟩) (fun hHeld2 => ?_)
        clear hK K hHeld
        have hHeld := hHeld2
        clear hHeld2
        try simp only [Act.put, List.setIfInBounds_toArray, List.set_cons_zero, List.set_cons_succ]
        refine wpAnyH_take (i := 33) (oi := { dst := some 99, op := Op.binOp BinOp.eql 37 (Operand.tmp 98) (Operand.const (Value.int IntKind.i64 2)) 37, type := 4, pos := "law.go:55", after := #[{ on := 32, ground := Ground.data }, { on := 28, ground := Ground.guard }], guard := some (28, true) }) (v := ?_) rfl (by kernel_rfl) (by kernel_rfl) (by kernel_rfl) (fun _ _ _ h => h) (Or.inl ⟨by rfl, ?_⟩) (by assumption) ?_
        rotate_left
        · intro W hSw
          try dsimp only at hSw
          go_simp
          all_goals (with_reducible rfl)
        try simp only [Act.put, List.setIfInBounds_toArray, List.set_cons_zero, List.set_cons_succ]
        refine wpAnyH_take (i := 34) (oi := { dst := some 100, op := Op.pick (Operand.tmp 94) (Operand.tmp 99) (Operand.const (Value.bool false)), type := 4, pos := "law.go:55", after := #[{ on := 28, ground := Ground.data }, { on := 33, ground := Ground.data }], guard := none }) (v := ?_) rfl (by kernel_rfl) (by kernel_rfl) (by kernel_rfl) (fun _ _ _ h => h) (Or.inl ⟨by rfl, ?_⟩) (by assumption) ?_
        rotate_left
        · intro W hSw
          try dsimp only at hSw
          go_simp
          all_goals (with_reducible rfl)
        try simp only [Act.put, List.setIfInBounds_toArray, List.set_cons_zero, List.set_cons_succ]
        refine wpAnyH_take (i := 35) (oi := { dst := some 6, op := Op.assign (Operand.tmp 100), type := _, pos := "law.go:55", after := _, guard := none }) (v := ?_) rfl (by kernel_rfl) (by kernel_rfl) (by kernel_rfl) (fun _ _ _ h => h) (Or.inl ⟨by rfl, ?_⟩) (by assumption) ?_
        rotate_left
        · intro W hSw
          try dsimp only at hSw
          go_simp
          all_goals (with_reducible rfl)
        try simp only [Act.put, List.setIfInBounds_toArray, List.set_cons_zero, List.set_cons_succ]
        refine wpAnyH_done (by kernel_rfl) ?_ _
        all_goals
          go_wp2
          go_ret
          exact ⟨rfl, HXR.out.below⟩

theorem rwrites_any (k : Int) (x : DV) (d : Dt) (An : Option Addr) (cn : Nat) (vs : List Value) (ns : List (List (List UInt8))) (w : World) (hx : DataAt w w.heap.size x d) (i : DIn d) (hn : NamesIn w w.heap.size An vs ns) (hq : ∀ (k : Nat) (A' : Option Addr) (m' c' : Nat), vs[k]? = some (Value.slice A' m' c') → m' ≤ c') (hm : ns.length ≤ maxLen) :
    Calls Try.prog 3 #[.int .i64 k, x.val d, .slice An ns.length cn] w (TrueB w) := by
  by_cases h : lightD d = true ∧ ns.length ≤ 30
  · exact rwrites_light k x d An cn vs ns w hx i hn hq h.1 h.2 _ rfl
  · exact rwrites_dark k x d An ns.length cn w hx i hm fun q1 => by
      by_cases h2 : ns.length ≤ 30
      · exact absurd ⟨q1, h2⟩ h
      · omega

end Go.Proofs.Ytjjmllbkfbdcnaa
