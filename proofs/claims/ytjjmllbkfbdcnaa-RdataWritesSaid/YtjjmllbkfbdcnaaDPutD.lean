/-
  The contract of rdata.Put.
-/
import Derived.Test.YtjjmllbkfbdcnaaDPut
import Derived.Test.YtjjmllbkfbdcnaaDSound
namespace Go.Proofs.Ytjjmllbkfbdcnaa
open Go.RowKit

/-- What is written of data, behind B with the rests R. -/
def putH (s : Sh) (d : Dt) (B : List UInt8) (R : Rs) : List UInt8 × Rs := if s.host = true then nameW s.short d.host (B ++ numsW 2 (d.nums.take s.ahead)) R else (B ++ numsW 2 (d.nums.take s.ahead), R)
def putM (s : Sh) (d : Dt) (x : List UInt8 × Rs) : List UInt8 × Rs := if s.mail = true then nameW s.short d.mail x.1 x.2 else x
def putD (s : Sh) (d : Dt) (B : List UInt8) (R : Rs) : List UInt8 × Rs :=
  ((((putM s d (putH s d B R)).1 ++ numsW 4 (d.nums.drop s.ahead)) ++ textsW d.texts) ++ d.bytes, (putM s d (putH s d B R)).2)

/-- What soundness says of the parts. -/
structure SoundP (s : Sh) (d : Dt) : Prop where
  h : s.host = true → soundN d.host = true
  m : s.mail = true → soundN d.mail = true
  h0 : s.host = false → d.host = []
  m0 : s.mail = false → d.mail = []
  n : d.nums.length = s.ahead + s.behind
  ok : numsOk s.ahead d.nums = true
  t : d.texts.length ≤ 64
  tl : ∀ t ∈ d.texts, t.length ≤ 255
  t0 : s.texts = false → d.texts = []
  t1 : s.texts = true → 1 ≤ d.texts.length
  b : d.bytes.length ≤ s.most
  bl : s.least ≤ d.bytes.length
theorem soundNm_yes {n : List (List UInt8)} {had : Bool} (h : soundNm n had = true) : (had = true → soundN n = true) ∧ (had = false → n = []) := by
  unfold soundNm at h
  constructor
  · rintro rfl
    by_cases h0 : n.length = 0
    · have : n = [] := List.eq_nil_of_length_eq_zero h0
      subst this
      decide
    · simpa [h0] using h
  · rintro rfl
    have h0 : n.length = 0 := by simpa using h
    exact List.eq_nil_of_length_eq_zero h0
theorem soundP {k : Int} {d : Dt} (h : soundD k d = true) : SoundP (shN k) d := by
  unfold soundD at h
  simp only [Bool.and_eq_true] at h
  obtain ⟨hk, hb, hh, hm, hn, ht⟩ := h
  have hh2 := soundNm_yes hh
  have hm2 := soundNm_yes hm
  unfold soundBs at hb
  unfold soundNs at hn
  unfold soundTs at ht
  simp only [Bool.and_eq_true, decide_eq_true_eq] at hb hn
  have ht2 : d.texts.length ≤ 64 ∧ (∀ t ∈ d.texts, t.length ≤ 255) ∧ ((shN k).texts = false → d.texts = []) ∧ ((shN k).texts = true → 1 ≤ d.texts.length) := by
    cases hf : (shN k).texts
    · rw [hf] at ht
      have h0 : d.texts.length = 0 := by simpa using ht
      have h1 : d.texts = [] := List.eq_nil_of_length_eq_zero h0
      refine ⟨by omega, fun t ht => (by rw [h1] at ht; cases ht), fun _ => h1, fun h => (by cases h)⟩
    · rw [hf] at ht
      simp only [if_true, Bool.and_eq_true, List.all_eq_true, decide_eq_true_eq] at ht
      exact ⟨ht.2.2, ht.1, fun h => (by cases h), fun _ => ht.2.1⟩
  exact ⟨hh2.1, hm2.1, hh2.2, hm2.2, hn.1, hn.2, ht2.1, ht2.2.1, ht2.2.2.1, ht2.2.2.2, hb.2, hb.1⟩
theorem soundN_parts {n : List (List UInt8)} (h : soundN n = true) : n.all fitL = true ∧ szN n ≤ 255 := by
  simpa [soundN] using h

theorem row_drop {w : World} {H k : Nat} {A : Option Addr} {xs : List Value} (h : Row w H A xs) : Row w H (A.map fun x => x.add k) (xs.drop k) := by
  intro hne
  obtain ⟨b, off, rfl, _, _⟩ := h (fun e => by rw [e] at hne; simp at hne)
  simp only [Option.map_some, addr_add]
  exact (h.drop rfl (k := k)) hne
theorem Penned.from {base : Nat} {w W0 W : World} {g : Nat} {vB vM : Value} {B : List UInt8} {R : Rs} (hb : Below w.heap.size w W0) (h : Penned base W0 g vB vM B R W) : Penned base w g vB vM B R W := by
  obtain ⟨vB1, vM1, h1, hg, hf⟩ := h
  refine ⟨vB1, vM1, h1, (Grew.all hb).trans hg fun j hj => .inl hj, fun j hj => ?_⟩
  rcases hf j hj with h2 | h2
  · exact .inl h2
  · exact .inr (Nat.le_trans hb.size h2)

set_option maxRecDepth 20000 in
set_option maxHeartbeats 1000000 in
theorem put_none (base : Nat) (w : World) (g : Nat) (vB vM : Value) (B : List UInt8) (R : Rs) (k : Int) (y : DV) (d : Dt) (Bd : Nat) (h : Wr w base g vB vM B R) (ho : OwnD w Bd y d) (hsep : ∀ j, ownF g vB vM j → j < Bd) (hs : soundD k d = true) (h1 : (shN k).host = false) (h2 : (shN k).mail = false)
    (hB : B.length ≤ 100000000) (hR : R.length ≤ 800000) (hG : GoodR B R) (q1 : szN d.host ≤ maxLen) (q2 : szN d.mail ≤ maxLen) :
    Calls Try.prog 15 #[.pointer (some ⟨g, 0, none⟩), .int .i64 k, y.val d] w (fun e w' => e = .returned (.int .i64 0) ∧ Penned base w g vB vM (putD (shN k) d B R).1 (putD (shN k) d B R).2 w') := by
  have sp := soundP hs
  have q3 : ∀ k (h : k < d.texts.length), (d.texts[k]).length ≤ maxLen := fun k h => Nat.le_trans (sp.tl _ (List.getElem_mem h)) (by decide)
  have ksm := shN_small k
  have HSD := Lib.hid (fun W (h : DataAt W W.heap.size y d) => dsound_any k y d W h q1 q2 (Nat.le_trans sp.t (by decide)) q3)
  rw [hs] at HSD
  have HSH := Lib.hid (fun W => shapeOf_any k W)
  have hmost : (shN k).most ≤ 65535 := by
    rcases shN_cases k with rfl | rfl | rfl | rfl | rfl | rfl | rfl | rfl | rfl | hk
    case inr.inr.inr.inr.inr.inr.inr.inr.inr => rw [shN_other hk]; exact Nat.le_refl _
    all_goals decide
  obtain ⟨s, hss⟩ : ∃ s, s = shN k := ⟨_, rfl⟩
  rw [← hss] at HSH sp ksm h1 h2 hmost ⊢
  clear hss
  obtain ⟨ah, s1, s2, s3, be, s5, le, mo⟩ := s
  simp only at h1 h2 ksm hmost
  subst h1 h2
  have SP := Lib.hid sp
  have HGD := Lib.hid hG
  have hlow : ∀ j, ownF g vB vM j → j < w.heap.size := fun j hj => (h.own hj).2
  have HW := Lib.hid h
  have HO := Lib.hid ho
  have hcn := own_cap ho.n
  have hcm := own_capZ ho.n
  have hnl : d.nums.length = ah + be := sp.n
  have e1 : (0 : Int) ≤ (ah : Int) := by omega
  have e2 : (ah : Int) ≤ (y.cn : Int) := by omega
  have e3 : (ah : Int) ≤ (d.nums.length : Int) := by omega
  have e4 : (d.nums.length : Int) ≤ (y.cn : Int) := by omega
  have HNL := Lib.hid hnl
  unfold maxLen at hcm
  clear h ho hs sp hG q1 q2 q3 hnl
  go_enter Try.func15, Try.ntmps15
  go_wp2_with fail
  have hbox := Whole.made w [y.vb d, y.vh d, y.vm d, y.vn d, y.vt d] 26
  have hod := (HO.out.keep (w' := w.alloc (.cells #[y.vb d, y.vh d, y.vm d, y.vn d, y.vt d] 26)) fun g hg => Below.heap_alloc w _ g hg)
  refine (HSD.out _ hod.at_).mono ?_
  rintro e w1 ⟨rfl, hb1⟩
  have hbox1 := hbox.below hb1 hbox.lt
  have hod1 := hod.keep fun g hg => hb1.block g hg
  have hB1 : Below w.heap.size w w1 := ((Below.refl _ w).alloc (Nat.le_refl _) _).trans (hb1.mono (by simp))
  clear hbox hod hb1
  have HBX1 := Lib.hid hbox1
  have HOD1 := Lib.hid hod1
  have HB1 := Lib.hid hB1
  have hz1 : w.heap.size < w1.heap.size := hbox1.lt
  clear hbox1 hod1 hB1
  go_wp2_with fail
  refine (HSH.out _).mono ?_
  rintro e w2 ⟨rfl, hb2⟩
  obtain ⟨W0, hW0⟩ : ∃ W0, W0 = w2.alloc (.cells #[.int .i64 ah, .bool false, .bool false, .bool s3, .int .i64 be, .bool s5, .int .i64 le, .int .i64 mo] 85) := ⟨_, rfl⟩
  have hz2 := hb2.size
  have hbx : Whole W0 w.heap.size 26 [y.vb d, y.vh d, y.vm d, y.vn d, y.vt d] := by rw [hW0]; exact (HBX1.out.below hb2 hz1).alloc _
  have hshb : Whole W0 w2.heap.size 85 [.int .i64 ah, .bool false, .bool false, .bool s3, .int .i64 be, .bool s5, .int .i64 le, .int .i64 mo] := by rw [hW0]; exact Whole.made w2 _ _
  have hod : OwnD W0 Bd y d := by rw [hW0]; exact (HOD1.out.keep fun g hg => hb2.block g hg).keep fun g hg => Below.heap_alloc w2 _ g hg
  have hBW : Below w.heap.size w W0 := by rw [hW0]; exact (HB1.out.trans (hb2.mono (by omega))).alloc (by omega) _
  have hwr : Wr W0 base g vB vM B R := HW.out.keep fun j hj => hBW.block j (hlow j hj)
  have HBW := Lib.hid hBW
  have HALL := Lib.hid (fun W (hg : Grew (ownF g vB vM) W0 W) => (show Whole W w.heap.size 26 [y.vb d, y.vh d, y.vm d, y.vn d, y.vt d] ∧ Whole W w2.heap.size 85 [.int .i64 ah, .bool false, .bool false, .bool s3, .int .i64 be, .bool s5, .int .i64 le, .int .i64 mo] ∧ OwnD W Bd y d from
    ⟨hbx.grew hg (fun hj => by have := hlow _ hj; omega), hshb.grew hg (fun hj => by have := hlow _ hj; omega),
      own_grew hod.b hg fun j e hj => (by have := (hod.b.lt j e).1; have := hsep j hj; omega), own_grew hod.h hg fun j e hj => (by have := (hod.h.lt j e).1; have := hsep j hj; omega), own_grew hod.m hg fun j e hj => (by have := (hod.m.lt j e).1; have := hsep j hj; omega),
      own_grew hod.n hg fun j e hj => (by have := (hod.n.lt j e).1; have := hsep j hj; omega), own_grew hod.t hg fun j e hj => (by have := (hod.t.lt j e).1; have := hsep j hj; omega)⟩))
  have h0 := hwr
  have g0 : Grew (ownF g vB vM) W0 W0 := Grew.refl _ _
  have f0 : ∀ j, ownF g vB vM j → ownF g vB vM j ∨ W0.heap.size ≤ j := fun j hj => .inl hj
  have HW0 := Lib.hid hW0
  clear hW0 hbx hshb hod hBW hwr hb2 HBX1 HOD1 HB1 HW HO hlow hsep

  obtain ⟨hx, hy, _⟩ := HALL.out W0 g0
  have cs0 : W0.cell? ⟨w2.heap.size, 0, none⟩ = some (.int .i64 ah) := hy.cell 0
  have cd3 : W0.cell? ⟨w.heap.size, 3, none⟩ = some (.slice y.An d.nums.length y.cn) := hx.cell 3
  clear hx hy
  have H0 := Lib.hid h0
  have G0 := Lib.hid g0
  have F0 := Lib.hid f0
  clear h0 g0 f0
  rw [HW0.out] at cs0 cd3
  go_wp2_with fail
  rw [← HW0.out]
  refine (putNums_any base W0 g vB vM B R y.An ah y.cn (d.nums.take ah) 2 H0.out (by rw [List.length_take, HNL.out]; omega) (fun w' hw => by rw [List.map_take]; exact ((HALL.out w' (G0.out.trans hw F0.out)).2.2.at_.n.take ah)) (by omega) (by omega)).mono ?_
  rintro e W1 ⟨rfl, hp⟩
  obtain ⟨vB1, vM1, h1, g1, f1⟩ := Penned.next H0.out G0.out F0.out hp
  clear hp cs0 cd3
  have hB1 : (B ++ numsW 2 (d.nums.take ah)).length ≤ 100010000 := by have h1 := length_numsW 2 (d.nums.take ah); rw [List.length_append]; rw [List.length_take] at h1; omega
  have GD1 := Lib.hid (HGD.out.more (numsW 2 (d.nums.take ah)))
  obtain ⟨Bc, hBc⟩ : ∃ Bc, Bc = B ++ numsW 2 (d.nums.take ah) := ⟨_, rfl⟩
  rw [← hBc] at h1 hB1 GD1
  have hR1 : R.length ≤ 800000 := hR
  obtain ⟨Rc, hRc⟩ : ∃ Rc, Rc = R := ⟨_, rfl⟩
  rw [← hRc] at h1 hR1 GD1
  have HRC := Lib.hid hRc
  have HBC := Lib.hid hBc
  clear hRc hBc
  obtain ⟨hx, hy, _⟩ := HALL.out W1 g1
  have cs1 : W1.cell? ⟨w2.heap.size, 1, none⟩ = some (.bool false) := hy.cell 1
  have cs2 : W1.cell? ⟨w2.heap.size, 2, none⟩ = some (.bool false) := hy.cell 2
  have cs0 : W1.cell? ⟨w2.heap.size, 0, none⟩ = some (.int .i64 ah) := hy.cell 0
  have cd3 : W1.cell? ⟨w.heap.size, 3, none⟩ = some (.slice y.An d.nums.length y.cn) := hx.cell 3
  clear hx hy
  have H1 := Lib.hid h1
  have G1 := Lib.hid g1
  have F1 := Lib.hid f1
  clear h1 g1 f1
  have ST1 := Lib.hid (show Stay (ownF g vB1 vM1) W1 (y.An.map fun x => x.add ah) ((d.nums.drop ah).map zv) from fun w' hw => by rw [List.map_drop]; exact row_drop (HALL.out w' (G1.out.trans hw F1.out)).2.2.at_.n)
  have ST2 := Lib.hid (fun (hcn2 : y.cn = ah) => (show Stay (ownF g vB1 vM1) W1 y.An ((d.nums.drop ah).map zv) from fun w' hw => by rw [List.drop_eq_nil_of_le (by omega)]; exact Row.empty _ _ _))
  go_wp2_with fail
  all_goals
    first
      | with_reducible refine (putNums_any base W1 g vB1 vM1 Bc Rc (y.An.map fun x => x.add ah) (d.nums.length - ah) (y.cn - ah) (d.nums.drop ah) 4 H1.out (List.length_drop ..) ST1.out (by have := HNL.out; omega) (by omega)).mono ?_
      | with_reducible refine (putNums_any base W1 g vB1 vM1 Bc Rc y.An (d.nums.length - ah) 0 (d.nums.drop ah) 4 H1.out (List.length_drop ..) (ST2.out (by assumption)) (by have := HNL.out; omega) (by omega)).mono ?_
    rintro e W2 ⟨rfl, hp⟩
    obtain ⟨vB2, vM2, h2, g2, f2⟩ := Penned.next H1.out G1.out F1.out hp
    clear hp cs1 cs2 cs0 cd3
    obtain ⟨hx, hy, _⟩ := HALL.out W2 g2
    have cd4 : W2.cell? ⟨w.heap.size, 4, none⟩ = some (.slice y.At d.texts.length y.ct) := hx.cell 4
    have hl4 := length_numsW 4 (d.nums.drop ah)
    rw [List.length_drop] at hl4
    have hB2 : (Bc ++ numsW 4 (d.nums.drop ah)).length ≤ 100030000 := by rw [List.length_append]; have := HNL.out; omega
    have H2 := Lib.hid h2
    have G2 := Lib.hid g2
    have F2 := Lib.hid f2
    clear h2 g2 f2 hx hy hl4
    go_wp2_with fail
    refine (putTexts_any base W2 g vB2 vM2 _ Rc y.At d.texts.length y.ct d.texts H2.out rfl (fun w' hw => (HALL.out w' (G2.out.trans hw F2.out)).2.2.at_.t) (by have := SP.out.t; omega) (by omega) (fun t ht => Nat.le_trans (SP.out.tl t ht) (by omega))).mono ?_
    rintro e W3 ⟨rfl, hp⟩
    obtain ⟨vB3, vM3, h3, g3, f3⟩ := Penned.next H2.out G2.out F2.out hp
    clear hp cd4
    obtain ⟨hx, hy, _⟩ := HALL.out W3 g3
    have cd0 : W3.cell? ⟨w.heap.size, 0, none⟩ = some (.slice y.Ab d.bytes.length y.cb) := hx.cell 0
    have hl5 := length_textsW 255 d.texts SP.out.tl
    have hl6 : (255 + 7) * d.texts.length ≤ (255 + 7) * 64 := Nat.mul_le_mul_left _ SP.out.t
    have hB3 : ((Bc ++ numsW 4 (d.nums.drop ah)) ++ textsW d.texts).length ≤ 100060000 := by rw [List.length_append]; omega
    have hbl := SP.out.b
    simp only at hbl
    have H3 := Lib.hid h3
    have G3 := Lib.hid g3
    have F3 := Lib.hid f3
    clear h3 g3 f3 hx hy hl5 hl6
    go_wp2_with fail
    refine (raw_any base W3 g vB3 vM3 _ Rc y.Ab d.bytes.length y.cb W3.heap.size d.bytes H3.out rfl (HALL.out W3 G3.out).2.2.at_.b (by omega)).mono ?_
    rintro e W4 ⟨rfl, hp⟩
    have hp2 := Penned.next H3.out G3.out F3.out hp
    have HP := Lib.hid hp2
    clear hp hp2 cd0
    go_wp2
    go_ret
    refine ⟨rfl, Penned.from HBW.out ?_⟩
    have hfin : putD ⟨ah, false, false, s3, be, s5, le, mo⟩ d B R = (((Bc ++ numsW 4 (d.nums.drop ah)) ++ textsW d.texts) ++ d.bytes, Rc) := by
      rw [HBC.out, HRC.out]
      rfl
    rw [hfin]
    exact HP.out

set_option maxRecDepth 20000 in
set_option maxHeartbeats 1000000 in
theorem put_host (base : Nat) (w : World) (g : Nat) (vB vM : Value) (B : List UInt8) (R : Rs) (k : Int) (y : DV) (d : Dt) (Bd : Nat) (h : Wr w base g vB vM B R) (ho : OwnD w Bd y d) (hsep : ∀ j, ownF g vB vM j → j < Bd) (hs : soundD k d = true) (h1 : (shN k).host = true) (h2 : (shN k).mail = false)
    (hB : B.length ≤ 100000000) (hR : R.length ≤ 800000) (hG : GoodR B R) (q1 : szN d.host ≤ maxLen) (q2 : szN d.mail ≤ maxLen) :
    Calls Try.prog 15 #[.pointer (some ⟨g, 0, none⟩), .int .i64 k, y.val d] w (fun e w' => e = .returned (.int .i64 0) ∧ Penned base w g vB vM (putD (shN k) d B R).1 (putD (shN k) d B R).2 w') := by
  have sp := soundP hs
  have q3 : ∀ k (h : k < d.texts.length), (d.texts[k]).length ≤ maxLen := fun k h => Nat.le_trans (sp.tl _ (List.getElem_mem h)) (by decide)
  have ksm := shN_small k
  have HSD := Lib.hid (fun W (h : DataAt W W.heap.size y d) => dsound_any k y d W h q1 q2 (Nat.le_trans sp.t (by decide)) q3)
  rw [hs] at HSD
  have HSH := Lib.hid (fun W => shapeOf_any k W)
  have hmost : (shN k).most ≤ 65535 := by
    rcases shN_cases k with rfl | rfl | rfl | rfl | rfl | rfl | rfl | rfl | rfl | hk
    case inr.inr.inr.inr.inr.inr.inr.inr.inr => rw [shN_other hk]; exact Nat.le_refl _
    all_goals decide
  obtain ⟨s, hss⟩ : ∃ s, s = shN k := ⟨_, rfl⟩
  rw [← hss] at HSH sp ksm h1 h2 hmost ⊢
  clear hss
  obtain ⟨ah, s1, s2, s3, be, s5, le, mo⟩ := s
  simp only at h1 h2 ksm hmost
  subst h1 h2
  have SP := Lib.hid sp
  have HGD := Lib.hid hG
  have hlow : ∀ j, ownF g vB vM j → j < w.heap.size := fun j hj => (h.own hj).2
  have HW := Lib.hid h
  have HO := Lib.hid ho
  have hcn := own_cap ho.n
  have hcm := own_capZ ho.n
  have hnl : d.nums.length = ah + be := sp.n
  have e1 : (0 : Int) ≤ (ah : Int) := by omega
  have e2 : (ah : Int) ≤ (y.cn : Int) := by omega
  have e3 : (ah : Int) ≤ (d.nums.length : Int) := by omega
  have e4 : (d.nums.length : Int) ≤ (y.cn : Int) := by omega
  have HNL := Lib.hid hnl
  unfold maxLen at hcm
  clear h ho hs sp hG q1 q2 q3 hnl
  go_enter Try.func15, Try.ntmps15
  go_wp2_with fail
  have hbox := Whole.made w [y.vb d, y.vh d, y.vm d, y.vn d, y.vt d] 26
  have hod := (HO.out.keep (w' := w.alloc (.cells #[y.vb d, y.vh d, y.vm d, y.vn d, y.vt d] 26)) fun g hg => Below.heap_alloc w _ g hg)
  refine (HSD.out _ hod.at_).mono ?_
  rintro e w1 ⟨rfl, hb1⟩
  have hbox1 := hbox.below hb1 hbox.lt
  have hod1 := hod.keep fun g hg => hb1.block g hg
  have hB1 : Below w.heap.size w w1 := ((Below.refl _ w).alloc (Nat.le_refl _) _).trans (hb1.mono (by simp))
  clear hbox hod hb1
  have HBX1 := Lib.hid hbox1
  have HOD1 := Lib.hid hod1
  have HB1 := Lib.hid hB1
  have hz1 : w.heap.size < w1.heap.size := hbox1.lt
  clear hbox1 hod1 hB1
  go_wp2_with fail
  refine (HSH.out _).mono ?_
  rintro e w2 ⟨rfl, hb2⟩
  obtain ⟨W0, hW0⟩ : ∃ W0, W0 = w2.alloc (.cells #[.int .i64 ah, .bool true, .bool false, .bool s3, .int .i64 be, .bool s5, .int .i64 le, .int .i64 mo] 85) := ⟨_, rfl⟩
  have hz2 := hb2.size
  have hbx : Whole W0 w.heap.size 26 [y.vb d, y.vh d, y.vm d, y.vn d, y.vt d] := by rw [hW0]; exact (HBX1.out.below hb2 hz1).alloc _
  have hshb : Whole W0 w2.heap.size 85 [.int .i64 ah, .bool true, .bool false, .bool s3, .int .i64 be, .bool s5, .int .i64 le, .int .i64 mo] := by rw [hW0]; exact Whole.made w2 _ _
  have hod : OwnD W0 Bd y d := by rw [hW0]; exact (HOD1.out.keep fun g hg => hb2.block g hg).keep fun g hg => Below.heap_alloc w2 _ g hg
  have hBW : Below w.heap.size w W0 := by rw [hW0]; exact (HB1.out.trans (hb2.mono (by omega))).alloc (by omega) _
  have hwr : Wr W0 base g vB vM B R := HW.out.keep fun j hj => hBW.block j (hlow j hj)
  have HBW := Lib.hid hBW
  have HALL := Lib.hid (fun W (hg : Grew (ownF g vB vM) W0 W) => (show Whole W w.heap.size 26 [y.vb d, y.vh d, y.vm d, y.vn d, y.vt d] ∧ Whole W w2.heap.size 85 [.int .i64 ah, .bool true, .bool false, .bool s3, .int .i64 be, .bool s5, .int .i64 le, .int .i64 mo] ∧ OwnD W Bd y d from
    ⟨hbx.grew hg (fun hj => by have := hlow _ hj; omega), hshb.grew hg (fun hj => by have := hlow _ hj; omega),
      own_grew hod.b hg fun j e hj => (by have := (hod.b.lt j e).1; have := hsep j hj; omega), own_grew hod.h hg fun j e hj => (by have := (hod.h.lt j e).1; have := hsep j hj; omega), own_grew hod.m hg fun j e hj => (by have := (hod.m.lt j e).1; have := hsep j hj; omega),
      own_grew hod.n hg fun j e hj => (by have := (hod.n.lt j e).1; have := hsep j hj; omega), own_grew hod.t hg fun j e hj => (by have := (hod.t.lt j e).1; have := hsep j hj; omega)⟩))
  have h0 := hwr
  have g0 : Grew (ownF g vB vM) W0 W0 := Grew.refl _ _
  have f0 : ∀ j, ownF g vB vM j → ownF g vB vM j ∨ W0.heap.size ≤ j := fun j hj => .inl hj
  have HW0 := Lib.hid hW0
  clear hW0 hbx hshb hod hBW hwr hb2 HBX1 HOD1 HB1 HW HO hlow hsep

  obtain ⟨hx, hy, _⟩ := HALL.out W0 g0
  have cs0 : W0.cell? ⟨w2.heap.size, 0, none⟩ = some (.int .i64 ah) := hy.cell 0
  have cd3 : W0.cell? ⟨w.heap.size, 3, none⟩ = some (.slice y.An d.nums.length y.cn) := hx.cell 3
  clear hx hy
  have H0 := Lib.hid h0
  have G0 := Lib.hid g0
  have F0 := Lib.hid f0
  clear h0 g0 f0
  rw [HW0.out] at cs0 cd3
  go_wp2_with fail
  rw [← HW0.out]
  refine (putNums_any base W0 g vB vM B R y.An ah y.cn (d.nums.take ah) 2 H0.out (by rw [List.length_take, HNL.out]; omega) (fun w' hw => by rw [List.map_take]; exact ((HALL.out w' (G0.out.trans hw F0.out)).2.2.at_.n.take ah)) (by omega) (by omega)).mono ?_
  rintro e W1 ⟨rfl, hp⟩
  obtain ⟨vB1, vM1, h1, g1, f1⟩ := Penned.next H0.out G0.out F0.out hp
  clear hp cs0 cd3
  have hB1 : (B ++ numsW 2 (d.nums.take ah)).length ≤ 100010000 := by have h1 := length_numsW 2 (d.nums.take ah); rw [List.length_append]; rw [List.length_take] at h1; omega
  have GD1 := Lib.hid (HGD.out.more (numsW 2 (d.nums.take ah)))
  obtain ⟨Bc, hBc⟩ : ∃ Bc, Bc = B ++ numsW 2 (d.nums.take ah) := ⟨_, rfl⟩
  rw [← hBc] at h1 hB1 GD1
  have hR1 : R.length ≤ 800000 := hR
  obtain ⟨Rc, hRc⟩ : ∃ Rc, Rc = R := ⟨_, rfl⟩
  rw [← hRc] at h1 hR1 GD1
  have HRC := Lib.hid hRc
  have HBC := Lib.hid hBc
  clear hRc hBc
  obtain ⟨hx, hy, _⟩ := HALL.out W1 g1
  have cs1 : W1.cell? ⟨w2.heap.size, 1, none⟩ = some (.bool true) := hy.cell 1
  have cs3 : W1.cell? ⟨w2.heap.size, 3, none⟩ = some (.bool s3) := hy.cell 3
  have cd1 : W1.cell? ⟨w.heap.size, 1, none⟩ = some (.slice y.Ah d.host.length y.ch) := hx.cell 1
  clear hx hy
  have H1 := Lib.hid h1
  have G1 := Lib.hid g1
  have F1 := Lib.hid f1
  clear h1 g1 f1
  go_wp2_with fail
  have hfs1 := soundN_parts (SP.out.h rfl)
  refine (name_sound base W1 g vB1 vM1 Bc Rc y.Ah d.host.length y.ch W1.heap.size d.host s3 H1.out rfl (HALL.out W1 G1.out).2.2.at_.h (Nat.le_refl _) (SP.out.h rfl) (by omega) (by omega) (fun r hr => (GD1.out r hr).1)).mono ?_
  rintro e W2 ⟨rfl, hp⟩
  obtain ⟨vB2, vM2, h2, g2, f2⟩ := Penned.next H1.out G1.out F1.out hp
  clear hp cs1 cs3 cd1
  have GD2 := Lib.hid (nameW_good (short := s3) hfs1.1 GD1.out).2.2
  have hl2 := length_nameW_le s3 d.host Bc Rc hfs1.1
  have hr2 := length_nameW_rests s3 d.host Bc Rc
  have hln2 := length_lt_szN d.host
  obtain ⟨Bd2, hBd2⟩ : ∃ x, x = (nameW s3 d.host Bc Rc).1 := ⟨_, rfl⟩
  obtain ⟨Rd2, hRd2⟩ : ∃ x, x = (nameW s3 d.host Bc Rc).2 := ⟨_, rfl⟩
  rw [← hBd2, ← hRd2] at h2 GD2
  rw [← hBd2] at hl2
  rw [← hRd2] at hr2
  have HEQ2 := Lib.hid (And.intro hBd2 hRd2)
  have hB2 : Bd2.length ≤ 100011000 := by omega
  have hR2 : Rd2.length ≤ 801000 := by omega
  clear hBd2 hRd2 hfs1 hl2 hr2 hln2 hB1 hR1
  obtain ⟨hx, hy, _⟩ := HALL.out W2 g2
  have cs2 : W2.cell? ⟨w2.heap.size, 2, none⟩ = some (.bool false) := hy.cell 2
  have cs0 : W2.cell? ⟨w2.heap.size, 0, none⟩ = some (.int .i64 ah) := hy.cell 0
  have cd3 : W2.cell? ⟨w.heap.size, 3, none⟩ = some (.slice y.An d.nums.length y.cn) := hx.cell 3
  clear hx hy
  have H2 := Lib.hid h2
  have G2 := Lib.hid g2
  have F2 := Lib.hid f2
  clear h2 g2 f2
  have ST1 := Lib.hid (show Stay (ownF g vB2 vM2) W2 (y.An.map fun x => x.add ah) ((d.nums.drop ah).map zv) from fun w' hw => by rw [List.map_drop]; exact row_drop (HALL.out w' (G2.out.trans hw F2.out)).2.2.at_.n)
  have ST2 := Lib.hid (fun (hcn2 : y.cn = ah) => (show Stay (ownF g vB2 vM2) W2 y.An ((d.nums.drop ah).map zv) from fun w' hw => by rw [List.drop_eq_nil_of_le (by omega)]; exact Row.empty _ _ _))
  go_wp2_with fail
  all_goals
    first
      | with_reducible refine (putNums_any base W2 g vB2 vM2 Bd2 Rd2 (y.An.map fun x => x.add ah) (d.nums.length - ah) (y.cn - ah) (d.nums.drop ah) 4 H2.out (List.length_drop ..) ST1.out (by have := HNL.out; omega) (by omega)).mono ?_
      | with_reducible refine (putNums_any base W2 g vB2 vM2 Bd2 Rd2 y.An (d.nums.length - ah) 0 (d.nums.drop ah) 4 H2.out (List.length_drop ..) (ST2.out (by assumption)) (by have := HNL.out; omega) (by omega)).mono ?_
    rintro e W3 ⟨rfl, hp⟩
    obtain ⟨vB3, vM3, h3, g3, f3⟩ := Penned.next H2.out G2.out F2.out hp
    clear hp cs2 cs0 cd3
    obtain ⟨hx, hy, _⟩ := HALL.out W3 g3
    have cd4 : W3.cell? ⟨w.heap.size, 4, none⟩ = some (.slice y.At d.texts.length y.ct) := hx.cell 4
    have hl4 := length_numsW 4 (d.nums.drop ah)
    rw [List.length_drop] at hl4
    have hB3 : (Bd2 ++ numsW 4 (d.nums.drop ah)).length ≤ 100030000 := by rw [List.length_append]; have := HNL.out; omega
    have H3 := Lib.hid h3
    have G3 := Lib.hid g3
    have F3 := Lib.hid f3
    clear h3 g3 f3 hx hy hl4
    go_wp2_with fail
    refine (putTexts_any base W3 g vB3 vM3 _ Rd2 y.At d.texts.length y.ct d.texts H3.out rfl (fun w' hw => (HALL.out w' (G3.out.trans hw F3.out)).2.2.at_.t) (by have := SP.out.t; omega) (by omega) (fun t ht => Nat.le_trans (SP.out.tl t ht) (by omega))).mono ?_
    rintro e W4 ⟨rfl, hp⟩
    obtain ⟨vB4, vM4, h4, g4, f4⟩ := Penned.next H3.out G3.out F3.out hp
    clear hp cd4
    obtain ⟨hx, hy, _⟩ := HALL.out W4 g4
    have cd0 : W4.cell? ⟨w.heap.size, 0, none⟩ = some (.slice y.Ab d.bytes.length y.cb) := hx.cell 0
    have hl5 := length_textsW 255 d.texts SP.out.tl
    have hl6 : (255 + 7) * d.texts.length ≤ (255 + 7) * 64 := Nat.mul_le_mul_left _ SP.out.t
    have hB4 : ((Bd2 ++ numsW 4 (d.nums.drop ah)) ++ textsW d.texts).length ≤ 100060000 := by rw [List.length_append]; omega
    have hbl := SP.out.b
    simp only at hbl
    have H4 := Lib.hid h4
    have G4 := Lib.hid g4
    have F4 := Lib.hid f4
    clear h4 g4 f4 hx hy hl5 hl6
    go_wp2_with fail
    refine (raw_any base W4 g vB4 vM4 _ Rd2 y.Ab d.bytes.length y.cb W4.heap.size d.bytes H4.out rfl (HALL.out W4 G4.out).2.2.at_.b (by omega)).mono ?_
    rintro e W5 ⟨rfl, hp⟩
    have hp2 := Penned.next H4.out G4.out F4.out hp
    have HP := Lib.hid hp2
    clear hp hp2 cd0
    go_wp2
    go_ret
    refine ⟨rfl, Penned.from HBW.out ?_⟩
    have hfin : putD ⟨ah, true, false, s3, be, s5, le, mo⟩ d B R = (((Bd2 ++ numsW 4 (d.nums.drop ah)) ++ textsW d.texts) ++ d.bytes, Rd2) := by
      rw [HEQ2.out.1, HEQ2.out.2, HBC.out, HRC.out]
      rfl
    rw [hfin]
    exact HP.out

set_option maxRecDepth 20000 in
set_option maxHeartbeats 1000000 in
theorem put_both (base : Nat) (w : World) (g : Nat) (vB vM : Value) (B : List UInt8) (R : Rs) (k : Int) (y : DV) (d : Dt) (Bd : Nat) (h : Wr w base g vB vM B R) (ho : OwnD w Bd y d) (hsep : ∀ j, ownF g vB vM j → j < Bd) (hs : soundD k d = true) (h1 : (shN k).host = true) (h2 : (shN k).mail = true)
    (hB : B.length ≤ 100000000) (hR : R.length ≤ 800000) (hG : GoodR B R) (q1 : szN d.host ≤ maxLen) (q2 : szN d.mail ≤ maxLen) :
    Calls Try.prog 15 #[.pointer (some ⟨g, 0, none⟩), .int .i64 k, y.val d] w (fun e w' => e = .returned (.int .i64 0) ∧ Penned base w g vB vM (putD (shN k) d B R).1 (putD (shN k) d B R).2 w') := by
  have sp := soundP hs
  have q3 : ∀ k (h : k < d.texts.length), (d.texts[k]).length ≤ maxLen := fun k h => Nat.le_trans (sp.tl _ (List.getElem_mem h)) (by decide)
  have ksm := shN_small k
  have HSD := Lib.hid (fun W (h : DataAt W W.heap.size y d) => dsound_any k y d W h q1 q2 (Nat.le_trans sp.t (by decide)) q3)
  rw [hs] at HSD
  have HSH := Lib.hid (fun W => shapeOf_any k W)
  have hmost : (shN k).most ≤ 65535 := by
    rcases shN_cases k with rfl | rfl | rfl | rfl | rfl | rfl | rfl | rfl | rfl | hk
    case inr.inr.inr.inr.inr.inr.inr.inr.inr => rw [shN_other hk]; exact Nat.le_refl _
    all_goals decide
  obtain ⟨s, hss⟩ : ∃ s, s = shN k := ⟨_, rfl⟩
  rw [← hss] at HSH sp ksm h1 h2 hmost ⊢
  clear hss
  obtain ⟨ah, s1, s2, s3, be, s5, le, mo⟩ := s
  simp only at h1 h2 ksm hmost
  subst h1 h2
  have SP := Lib.hid sp
  have HGD := Lib.hid hG
  have hlow : ∀ j, ownF g vB vM j → j < w.heap.size := fun j hj => (h.own hj).2
  have HW := Lib.hid h
  have HO := Lib.hid ho
  have hcn := own_cap ho.n
  have hcm := own_capZ ho.n
  have hnl : d.nums.length = ah + be := sp.n
  have e1 : (0 : Int) ≤ (ah : Int) := by omega
  have e2 : (ah : Int) ≤ (y.cn : Int) := by omega
  have e3 : (ah : Int) ≤ (d.nums.length : Int) := by omega
  have e4 : (d.nums.length : Int) ≤ (y.cn : Int) := by omega
  have HNL := Lib.hid hnl
  unfold maxLen at hcm
  clear h ho hs sp hG q1 q2 q3 hnl
  go_enter Try.func15, Try.ntmps15
  go_wp2_with fail
  have hbox := Whole.made w [y.vb d, y.vh d, y.vm d, y.vn d, y.vt d] 26
  have hod := (HO.out.keep (w' := w.alloc (.cells #[y.vb d, y.vh d, y.vm d, y.vn d, y.vt d] 26)) fun g hg => Below.heap_alloc w _ g hg)
  refine (HSD.out _ hod.at_).mono ?_
  rintro e w1 ⟨rfl, hb1⟩
  have hbox1 := hbox.below hb1 hbox.lt
  have hod1 := hod.keep fun g hg => hb1.block g hg
  have hB1 : Below w.heap.size w w1 := ((Below.refl _ w).alloc (Nat.le_refl _) _).trans (hb1.mono (by simp))
  clear hbox hod hb1
  have HBX1 := Lib.hid hbox1
  have HOD1 := Lib.hid hod1
  have HB1 := Lib.hid hB1
  have hz1 : w.heap.size < w1.heap.size := hbox1.lt
  clear hbox1 hod1 hB1
  go_wp2_with fail
  refine (HSH.out _).mono ?_
  rintro e w2 ⟨rfl, hb2⟩
  obtain ⟨W0, hW0⟩ : ∃ W0, W0 = w2.alloc (.cells #[.int .i64 ah, .bool true, .bool true, .bool s3, .int .i64 be, .bool s5, .int .i64 le, .int .i64 mo] 85) := ⟨_, rfl⟩
  have hz2 := hb2.size
  have hbx : Whole W0 w.heap.size 26 [y.vb d, y.vh d, y.vm d, y.vn d, y.vt d] := by rw [hW0]; exact (HBX1.out.below hb2 hz1).alloc _
  have hshb : Whole W0 w2.heap.size 85 [.int .i64 ah, .bool true, .bool true, .bool s3, .int .i64 be, .bool s5, .int .i64 le, .int .i64 mo] := by rw [hW0]; exact Whole.made w2 _ _
  have hod : OwnD W0 Bd y d := by rw [hW0]; exact (HOD1.out.keep fun g hg => hb2.block g hg).keep fun g hg => Below.heap_alloc w2 _ g hg
  have hBW : Below w.heap.size w W0 := by rw [hW0]; exact (HB1.out.trans (hb2.mono (by omega))).alloc (by omega) _
  have hwr : Wr W0 base g vB vM B R := HW.out.keep fun j hj => hBW.block j (hlow j hj)
  have HBW := Lib.hid hBW
  have HALL := Lib.hid (fun W (hg : Grew (ownF g vB vM) W0 W) => (show Whole W w.heap.size 26 [y.vb d, y.vh d, y.vm d, y.vn d, y.vt d] ∧ Whole W w2.heap.size 85 [.int .i64 ah, .bool true, .bool true, .bool s3, .int .i64 be, .bool s5, .int .i64 le, .int .i64 mo] ∧ OwnD W Bd y d from
    ⟨hbx.grew hg (fun hj => by have := hlow _ hj; omega), hshb.grew hg (fun hj => by have := hlow _ hj; omega),
      own_grew hod.b hg fun j e hj => (by have := (hod.b.lt j e).1; have := hsep j hj; omega), own_grew hod.h hg fun j e hj => (by have := (hod.h.lt j e).1; have := hsep j hj; omega), own_grew hod.m hg fun j e hj => (by have := (hod.m.lt j e).1; have := hsep j hj; omega),
      own_grew hod.n hg fun j e hj => (by have := (hod.n.lt j e).1; have := hsep j hj; omega), own_grew hod.t hg fun j e hj => (by have := (hod.t.lt j e).1; have := hsep j hj; omega)⟩))
  have h0 := hwr
  have g0 : Grew (ownF g vB vM) W0 W0 := Grew.refl _ _
  have f0 : ∀ j, ownF g vB vM j → ownF g vB vM j ∨ W0.heap.size ≤ j := fun j hj => .inl hj
  have HW0 := Lib.hid hW0
  clear hW0 hbx hshb hod hBW hwr hb2 HBX1 HOD1 HB1 HW HO hlow hsep

  obtain ⟨hx, hy, _⟩ := HALL.out W0 g0
  have cs0 : W0.cell? ⟨w2.heap.size, 0, none⟩ = some (.int .i64 ah) := hy.cell 0
  have cd3 : W0.cell? ⟨w.heap.size, 3, none⟩ = some (.slice y.An d.nums.length y.cn) := hx.cell 3
  clear hx hy
  have H0 := Lib.hid h0
  have G0 := Lib.hid g0
  have F0 := Lib.hid f0
  clear h0 g0 f0
  rw [HW0.out] at cs0 cd3
  go_wp2_with fail
  rw [← HW0.out]
  refine (putNums_any base W0 g vB vM B R y.An ah y.cn (d.nums.take ah) 2 H0.out (by rw [List.length_take, HNL.out]; omega) (fun w' hw => by rw [List.map_take]; exact ((HALL.out w' (G0.out.trans hw F0.out)).2.2.at_.n.take ah)) (by omega) (by omega)).mono ?_
  rintro e W1 ⟨rfl, hp⟩
  obtain ⟨vB1, vM1, h1, g1, f1⟩ := Penned.next H0.out G0.out F0.out hp
  clear hp cs0 cd3
  have hB1 : (B ++ numsW 2 (d.nums.take ah)).length ≤ 100010000 := by have h1 := length_numsW 2 (d.nums.take ah); rw [List.length_append]; rw [List.length_take] at h1; omega
  have GD1 := Lib.hid (HGD.out.more (numsW 2 (d.nums.take ah)))
  obtain ⟨Bc, hBc⟩ : ∃ Bc, Bc = B ++ numsW 2 (d.nums.take ah) := ⟨_, rfl⟩
  rw [← hBc] at h1 hB1 GD1
  have hR1 : R.length ≤ 800000 := hR
  obtain ⟨Rc, hRc⟩ : ∃ Rc, Rc = R := ⟨_, rfl⟩
  rw [← hRc] at h1 hR1 GD1
  have HRC := Lib.hid hRc
  have HBC := Lib.hid hBc
  clear hRc hBc
  obtain ⟨hx, hy, _⟩ := HALL.out W1 g1
  have cs1 : W1.cell? ⟨w2.heap.size, 1, none⟩ = some (.bool true) := hy.cell 1
  have cs3 : W1.cell? ⟨w2.heap.size, 3, none⟩ = some (.bool s3) := hy.cell 3
  have cd1 : W1.cell? ⟨w.heap.size, 1, none⟩ = some (.slice y.Ah d.host.length y.ch) := hx.cell 1
  clear hx hy
  have H1 := Lib.hid h1
  have G1 := Lib.hid g1
  have F1 := Lib.hid f1
  clear h1 g1 f1
  go_wp2_with fail
  have hfs1 := soundN_parts (SP.out.h rfl)
  refine (name_sound base W1 g vB1 vM1 Bc Rc y.Ah d.host.length y.ch W1.heap.size d.host s3 H1.out rfl (HALL.out W1 G1.out).2.2.at_.h (Nat.le_refl _) (SP.out.h rfl) (by omega) (by omega) (fun r hr => (GD1.out r hr).1)).mono ?_
  rintro e W2 ⟨rfl, hp⟩
  obtain ⟨vB2, vM2, h2, g2, f2⟩ := Penned.next H1.out G1.out F1.out hp
  clear hp cs1 cs3 cd1
  have GD2 := Lib.hid (nameW_good (short := s3) hfs1.1 GD1.out).2.2
  have hl2 := length_nameW_le s3 d.host Bc Rc hfs1.1
  have hr2 := length_nameW_rests s3 d.host Bc Rc
  have hln2 := length_lt_szN d.host
  obtain ⟨Bd2, hBd2⟩ : ∃ x, x = (nameW s3 d.host Bc Rc).1 := ⟨_, rfl⟩
  obtain ⟨Rd2, hRd2⟩ : ∃ x, x = (nameW s3 d.host Bc Rc).2 := ⟨_, rfl⟩
  rw [← hBd2, ← hRd2] at h2 GD2
  rw [← hBd2] at hl2
  rw [← hRd2] at hr2
  have HEQ2 := Lib.hid (And.intro hBd2 hRd2)
  have hB2 : Bd2.length ≤ 100011000 := by omega
  have hR2 : Rd2.length ≤ 801000 := by omega
  clear hBd2 hRd2 hfs1 hl2 hr2 hln2 hB1 hR1
  obtain ⟨hx, hy, _⟩ := HALL.out W2 g2
  have cs2 : W2.cell? ⟨w2.heap.size, 2, none⟩ = some (.bool true) := hy.cell 2
  have cs3 : W2.cell? ⟨w2.heap.size, 3, none⟩ = some (.bool s3) := hy.cell 3
  have cd2 : W2.cell? ⟨w.heap.size, 2, none⟩ = some (.slice y.Am d.mail.length y.cm) := hx.cell 2
  clear hx hy
  have H2 := Lib.hid h2
  have G2 := Lib.hid g2
  have F2 := Lib.hid f2
  clear h2 g2 f2
  go_wp2_with fail
  have hfs2 := soundN_parts (SP.out.m rfl)
  refine (name_sound base W2 g vB2 vM2 Bd2 Rd2 y.Am d.mail.length y.cm W2.heap.size d.mail s3 H2.out rfl (HALL.out W2 G2.out).2.2.at_.m (Nat.le_refl _) (SP.out.m rfl) (by omega) (by omega) (fun r hr => (GD2.out r hr).1)).mono ?_
  rintro e W3 ⟨rfl, hp⟩
  obtain ⟨vB3, vM3, h3, g3, f3⟩ := Penned.next H2.out G2.out F2.out hp
  clear hp cs2 cs3 cd2
  have hl3 := length_nameW_le s3 d.mail Bd2 Rd2 hfs2.1
  obtain ⟨Be, hBe⟩ : ∃ x, x = (nameW s3 d.mail Bd2 Rd2).1 := ⟨_, rfl⟩
  obtain ⟨Re, hRe⟩ : ∃ x, x = (nameW s3 d.mail Bd2 Rd2).2 := ⟨_, rfl⟩
  rw [← hBe, ← hRe] at h3
  rw [← hBe] at hl3
  have HEQ3 := Lib.hid (And.intro hBe hRe)
  have hB3 : Be.length ≤ 100020000 := by omega
  clear hBe hRe hfs2 hl3 hB2
  obtain ⟨hx, hy, _⟩ := HALL.out W3 g3
  have cs0 : W3.cell? ⟨w2.heap.size, 0, none⟩ = some (.int .i64 ah) := hy.cell 0
  have cd3 : W3.cell? ⟨w.heap.size, 3, none⟩ = some (.slice y.An d.nums.length y.cn) := hx.cell 3
  clear hx hy
  have H3 := Lib.hid h3
  have G3 := Lib.hid g3
  have F3 := Lib.hid f3
  clear h3 g3 f3
  have ST1 := Lib.hid (show Stay (ownF g vB3 vM3) W3 (y.An.map fun x => x.add ah) ((d.nums.drop ah).map zv) from fun w' hw => by rw [List.map_drop]; exact row_drop (HALL.out w' (G3.out.trans hw F3.out)).2.2.at_.n)
  have ST2 := Lib.hid (fun (hcn2 : y.cn = ah) => (show Stay (ownF g vB3 vM3) W3 y.An ((d.nums.drop ah).map zv) from fun w' hw => by rw [List.drop_eq_nil_of_le (by omega)]; exact Row.empty _ _ _))
  go_wp2_with fail
  all_goals
    first
      | with_reducible refine (putNums_any base W3 g vB3 vM3 Be Re (y.An.map fun x => x.add ah) (d.nums.length - ah) (y.cn - ah) (d.nums.drop ah) 4 H3.out (List.length_drop ..) ST1.out (by have := HNL.out; omega) (by omega)).mono ?_
      | with_reducible refine (putNums_any base W3 g vB3 vM3 Be Re y.An (d.nums.length - ah) 0 (d.nums.drop ah) 4 H3.out (List.length_drop ..) (ST2.out (by assumption)) (by have := HNL.out; omega) (by omega)).mono ?_
    rintro e W4 ⟨rfl, hp⟩
    obtain ⟨vB4, vM4, h4, g4, f4⟩ := Penned.next H3.out G3.out F3.out hp
    clear hp cs0 cd3
    obtain ⟨hx, hy, _⟩ := HALL.out W4 g4
    have cd4 : W4.cell? ⟨w.heap.size, 4, none⟩ = some (.slice y.At d.texts.length y.ct) := hx.cell 4
    have hl4 := length_numsW 4 (d.nums.drop ah)
    rw [List.length_drop] at hl4
    have hB4 : (Be ++ numsW 4 (d.nums.drop ah)).length ≤ 100030000 := by rw [List.length_append]; have := HNL.out; omega
    have H4 := Lib.hid h4
    have G4 := Lib.hid g4
    have F4 := Lib.hid f4
    clear h4 g4 f4 hx hy hl4
    go_wp2_with fail
    refine (putTexts_any base W4 g vB4 vM4 _ Re y.At d.texts.length y.ct d.texts H4.out rfl (fun w' hw => (HALL.out w' (G4.out.trans hw F4.out)).2.2.at_.t) (by have := SP.out.t; omega) (by omega) (fun t ht => Nat.le_trans (SP.out.tl t ht) (by omega))).mono ?_
    rintro e W5 ⟨rfl, hp⟩
    obtain ⟨vB5, vM5, h5, g5, f5⟩ := Penned.next H4.out G4.out F4.out hp
    clear hp cd4
    obtain ⟨hx, hy, _⟩ := HALL.out W5 g5
    have cd0 : W5.cell? ⟨w.heap.size, 0, none⟩ = some (.slice y.Ab d.bytes.length y.cb) := hx.cell 0
    have hl5 := length_textsW 255 d.texts SP.out.tl
    have hl6 : (255 + 7) * d.texts.length ≤ (255 + 7) * 64 := Nat.mul_le_mul_left _ SP.out.t
    have hB5 : ((Be ++ numsW 4 (d.nums.drop ah)) ++ textsW d.texts).length ≤ 100060000 := by rw [List.length_append]; omega
    have hbl := SP.out.b
    simp only at hbl
    have H5 := Lib.hid h5
    have G5 := Lib.hid g5
    have F5 := Lib.hid f5
    clear h5 g5 f5 hx hy hl5 hl6
    go_wp2_with fail
    refine (raw_any base W5 g vB5 vM5 _ Re y.Ab d.bytes.length y.cb W5.heap.size d.bytes H5.out rfl (HALL.out W5 G5.out).2.2.at_.b (by omega)).mono ?_
    rintro e W6 ⟨rfl, hp⟩
    have hp2 := Penned.next H5.out G5.out F5.out hp
    have HP := Lib.hid hp2
    clear hp hp2 cd0
    go_wp2
    go_ret
    refine ⟨rfl, Penned.from HBW.out ?_⟩
    have hfin : putD ⟨ah, true, true, s3, be, s5, le, mo⟩ d B R = (((Be ++ numsW 4 (d.nums.drop ah)) ++ textsW d.texts) ++ d.bytes, Re) := by
      rw [HEQ3.out.1, HEQ3.out.2, HEQ2.out.1, HEQ2.out.2, HBC.out, HRC.out]
      rfl
    rw [hfin]
    exact HP.out

end Go.Proofs.Ytjjmllbkfbdcnaa
