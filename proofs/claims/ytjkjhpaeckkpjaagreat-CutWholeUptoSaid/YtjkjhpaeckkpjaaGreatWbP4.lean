/-
  The contract of rdata.Put.
-/
import Derived.Test.YtjkjhpaeckkpjaaGreatWbP3
import Derived.Test.YtjkjhpaeckkpjaaGreatWbP2
import Derived.Test.YtjkjhpaeckkpjaaGreatProg
import Derived.Test.YtjkjhpaeckkpjaaGreatWbP1
import Derived.Deep.QuietTactic
import Derived.BigQuiet
import Derived.Deep.RegionLaw
import Derived.Deep.AppendLies
import Derived.Deep.RegionHeld3
import Derived.BigRegion
import Derived.Deep.LoopGhost
namespace Go.Proofs.YtjkjhpaeckkpjaaGreat
open Go.RowKit

/-- What is written of data, behind B with the rests R. -/
def putH (s : Sh) (d : Dt) (B : List UInt8) (R : Rs) : List UInt8 × Rs := if s.host = true then nameW s.short d.host (B ++ numsW 2 (d.nums.take s.ahead)) R else (B ++ numsW 2 (d.nums.take s.ahead), R)
def putM (s : Sh) (d : Dt) (x : List UInt8 × Rs) : List UInt8 × Rs := if s.mail = true then nameW s.short d.mail x.1 x.2 else x
def putD (s : Sh) (d : Dt) (B : List UInt8) (R : Rs) : List UInt8 × Rs :=
  ((((putM s d (putH s d B R)).1 ++ numsW 4 (d.nums.drop s.ahead)) ++ textsW d.texts) ++ d.bytes, (putM s d (putH s d B R)).2)

/-- The block j holds a slice of the data. -/
def DV.owns (y : DV) (d : Dt) (j : Nat) : Prop := (y.vb d).ownBlock = some j ∨ (y.vh d).ownBlock = some j ∨ (y.vm d).ownBlock = some j ∨ (y.vn d).ownBlock = some j ∨ (y.vt d).ownBlock = some j
theorem OwnD.base {w : World} {B : Nat} {y : DV} {d : Dt} (h : OwnD w B y d) {j : Nat} (hj : y.owns d j) : B ≤ j ∧ j < w.heap.size := by
  rcases hj with e | e | e | e | e
  · exact h.b.lt j e
  · exact h.h.lt j e
  · exact h.m.lt j e
  · exact h.n.lt j e
  · exact h.t.lt j e
/-- What soundness says of the parts. -/
structure SoundP (s : Sh) (d : Dt) : Prop where
  h : s.host = true → soundN d.host = true
  m : s.mail = true → soundN d.mail = true
  h0 : s.host = false → d.host = []
  m0 : s.mail = false → d.mail = []
  n : d.nums.length = s.ahead + s.behind
  ok : numsOk s.ahead d.nums = true
  t : d.texts.length ≤ 64
  tl : ∀ t ∈ d.texts, t.length ≤ 255
  t0 : s.texts = false → d.texts = []
  t1 : s.texts = true → 1 ≤ d.texts.length
  b : d.bytes.length ≤ s.most
  bl : s.least ≤ d.bytes.length
theorem soundNm_yes {n : List (List UInt8)} {had : Bool} (h : soundNm n had = true) : (had = true → soundN n = true) ∧ (had = false → n = []) := by
  unfold soundNm at h
  constructor
  · rintro rfl
    by_cases h0 : n.length = 0
    · have : n = [] := List.eq_nil_of_length_eq_zero h0
      subst this
      decide
    · simpa [h0] using h
  · rintro rfl
    have h0 : n.length = 0 := by simpa using h
    exact List.eq_nil_of_length_eq_zero h0
theorem soundP {k : Int} {d : Dt} (h : soundD k d = true) : SoundP (shN k) d := by
  unfold soundD at h
  simp only [Bool.and_eq_true] at h
  obtain ⟨hk, hb, hh, hm, hn, ht⟩ := h
  have hh2 := soundNm_yes hh
  have hm2 := soundNm_yes hm
  unfold soundBs at hb
  unfold soundNs at hn
  unfold soundTs at ht
  simp only [Bool.and_eq_true, decide_eq_true_eq] at hb hn
  have ht2 : d.texts.length ≤ 64 ∧ (∀ t ∈ d.texts, t.length ≤ 255) ∧ ((shN k).texts = false → d.texts = []) ∧ ((shN k).texts = true → 1 ≤ d.texts.length) := by
    cases hf : (shN k).texts
    · rw [hf] at ht
      have h0 : d.texts.length = 0 := by simpa using ht
      have h1 : d.texts = [] := List.eq_nil_of_length_eq_zero h0
      refine ⟨by omega, fun t ht => (by rw [h1] at ht; cases ht), fun _ => h1, fun h => (by cases h)⟩
    · rw [hf] at ht
      simp only [if_true, Bool.and_eq_true, List.all_eq_true, decide_eq_true_eq] at ht
      exact ⟨ht.2.2, ht.1, fun h => (by cases h), fun _ => ht.2.1⟩
  exact ⟨hh2.1, hm2.1, hh2.2, hm2.2, hn.1, hn.2, ht2.1, ht2.2.1, ht2.2.2.1, ht2.2.2.2, hb.2, hb.1⟩
theorem soundN_parts {n : List (List UInt8)} (h : soundN n = true) : n.all fitL = true ∧ szN n ≤ 255 := by
  simpa [soundN] using h

theorem row_drop {w : World} {H k : Nat} {A : Option Addr} {xs : List Value} (h : Row w H A xs) : Row w H (A.map fun x => x.add k) (xs.drop k) := by
  intro hne
  obtain ⟨b, off, rfl, _, _⟩ := h (fun e => by rw [e] at hne; simp at hne)
  simp only [Option.map_some, addr_add]
  exact (h.drop rfl (k := k)) hne
theorem Penned.from {base : Nat} {w W0 W : World} {g : Nat} {vB vM : Value} {B : List UInt8} {R : Rs} (hb : Below w.heap.size w W0) (h : Penned base W0 g vB vM B R W) : Penned base w g vB vM B R W := by
  obtain ⟨vB1, vM1, h1, hg, hf⟩ := h
  refine ⟨vB1, vM1, h1, (Grew.all hb).trans hg fun j hj => .inl hj, fun j hj => ?_⟩
  rcases hf j hj with h2 | h2
  · exact .inl h2
  · exact .inr (Nat.le_trans hb.size h2)

set_option maxRecDepth 20000 in
set_option maxHeartbeats 1000000 in
theorem put_none (base : Nat) (w : World) (g : Nat) (vB vM : Value) (B : List UInt8) (R : Rs) (k : Int) (y : DV) (d : Dt) (Bd : Nat) (h : Wr w base g vB vM B R) (ho : OwnD w Bd y d) (hsep : ∀ j, ownF g vB vM j → ¬ y.owns d j) (hs : soundD k d = true) (h1 : (shN k).host = false) (h2 : (shN k).mail = false)
    (hB : B.length ≤ 100000000) (hR : R.length ≤ 800000) (hG : GoodR B R) (q1 : szN d.host ≤ maxLen) (q2 : szN d.mail ≤ maxLen) :
    Calls Tryz.prog 74 #[.pointer (some ⟨g, 0, none⟩), .int .i64 k, y.val d] w (fun e w' => e = .returned (.int .i64 0) ∧ Penned base w g vB vM (putD (shN k) d B R).1 (putD (shN k) d B R).2 w') := by
  have sp := soundP hs
  have q3 : ∀ k (h : k < d.texts.length), (d.texts[k]).length ≤ maxLen := fun k h => Nat.le_trans (sp.tl _ (List.getElem_mem h)) (by decide)
  have ksm := shN_small k
  have HSD := Lib.hid (fun W (h : DataAt W W.heap.size y d) => dsound_any k y d W h q1 q2 (Nat.le_trans sp.t (by decide)) q3)
  rw [hs] at HSD
  have HSH := Lib.hid (fun W => shapeOf_any k W)
  have hmost : (shN k).most ≤ 65535 := by
    rcases shN_cases k with rfl | rfl | rfl | rfl | rfl | rfl | rfl | rfl | rfl | hk
    case inr.inr.inr.inr.inr.inr.inr.inr.inr => rw [shN_other hk]; exact Nat.le_refl _
    all_goals decide
  obtain ⟨s, hss⟩ : ∃ s, s = shN k := ⟨_, rfl⟩
  rw [← hss] at HSH sp ksm h1 h2 hmost ⊢
  clear hss
  obtain ⟨ah, s1, s2, s3, be, s5, le, mo⟩ := s
  simp only at h1 h2 ksm hmost
  subst h1 h2
  have SP := Lib.hid sp
  have HGD := Lib.hid hG
  have hlow : ∀ j, ownF g vB vM j → j < w.heap.size := fun j hj => (h.own hj).2
  have HW := Lib.hid h
  have HO := Lib.hid ho
  have hcn := own_cap ho.n
  have hcm := own_capZ ho.n
  have hnl : d.nums.length = ah + be := sp.n
  have e1 : (0 : Int) ≤ (ah : Int) := by omega
  have e2 : (ah : Int) ≤ (y.cn : Int) := by omega
  have e3 : (ah : Int) ≤ (d.nums.length : Int) := by omega
  have e4 : (d.nums.length : Int) ≤ (y.cn : Int) := by omega
  have HNL := Lib.hid hnl
  unfold maxLen at hcm
  clear h ho hs sp hG q1 q2 q3 hnl
  go_enter Tryz.func74, Tryz.ntmps74
  go_wp2_with fail
  have hbox := Whole.made w [y.vb d, y.vh d, y.vm d, y.vn d, y.vt d] 40
  have hod := (HO.out.keep (w' := w.alloc (.cells #[y.vb d, y.vh d, y.vm d, y.vn d, y.vt d] 40)) fun g hg => Below.heap_alloc w _ g hg)
  refine (HSD.out _ hod.at_).mono ?_
  rintro e w1 ⟨rfl, hb1⟩
  have hbox1 := hbox.below hb1 hbox.lt
  have hod1 := hod.keep fun g hg => hb1.block g hg
  have hB1 : Below w.heap.size w w1 := ((Below.refl _ w).alloc (Nat.le_refl _) _).trans (hb1.mono (by simp))
  clear hbox hod hb1
  have HBX1 := Lib.hid hbox1
  have HOD1 := Lib.hid hod1
  have HB1 := Lib.hid hB1
  have hz1 : w.heap.size < w1.heap.size := hbox1.lt
  clear hbox1 hod1 hB1
  go_wp2_with fail
  refine (HSH.out _).mono ?_
  rintro e w2 ⟨rfl, hb2⟩
  obtain ⟨W0, hW0⟩ : ∃ W0, W0 = w2.alloc (.cells #[.int .i64 ah, .bool false, .bool false, .bool s3, .int .i64 be, .bool s5, .int .i64 le, .int .i64 mo] 100) := ⟨_, rfl⟩
  have hz2 := hb2.size
  have hbx : Whole W0 w.heap.size 40 [y.vb d, y.vh d, y.vm d, y.vn d, y.vt d] := by rw [hW0]; exact (HBX1.out.below hb2 hz1).alloc _
  have hshb : Whole W0 w2.heap.size 100 [.int .i64 ah, .bool false, .bool false, .bool s3, .int .i64 be, .bool s5, .int .i64 le, .int .i64 mo] := by rw [hW0]; exact Whole.made w2 _ _
  have hod : OwnD W0 Bd y d := by rw [hW0]; exact (HOD1.out.keep fun g hg => hb2.block g hg).keep fun g hg => Below.heap_alloc w2 _ g hg
  have hBW : Below w.heap.size w W0 := by rw [hW0]; exact (HB1.out.trans (hb2.mono (by omega))).alloc (by omega) _
  have hwr : Wr W0 base g vB vM B R := HW.out.keep fun j hj => hBW.block j (hlow j hj)
  have HBW := Lib.hid hBW
  have HALL := Lib.hid (fun W (hg : Grew (ownF g vB vM) W0 W) => (show Whole W w.heap.size 40 [y.vb d, y.vh d, y.vm d, y.vn d, y.vt d] ∧ Whole W w2.heap.size 100 [.int .i64 ah, .bool false, .bool false, .bool s3, .int .i64 be, .bool s5, .int .i64 le, .int .i64 mo] ∧ OwnD W Bd y d from
    ⟨hbx.grew hg (fun hj => by have := hlow _ hj; omega), hshb.grew hg (fun hj => by have := hlow _ hj; omega),
      own_grew hod.b hg fun j e hj => hsep j hj (.inl e), own_grew hod.h hg fun j e hj => hsep j hj (.inr (.inl e)), own_grew hod.m hg fun j e hj => hsep j hj (.inr (.inr (.inl e))),
      own_grew hod.n hg fun j e hj => hsep j hj (.inr (.inr (.inr (.inl e)))), own_grew hod.t hg fun j e hj => hsep j hj (.inr (.inr (.inr (.inr e))))⟩))
  have h0 := hwr
  have g0 : Grew (ownF g vB vM) W0 W0 := Grew.refl _ _
  have f0 : ∀ j, ownF g vB vM j → ownF g vB vM j ∨ W0.heap.size ≤ j := fun j hj => .inl hj
  have HW0 := Lib.hid hW0
  clear hW0 hbx hshb hod hBW hwr hb2 HBX1 HOD1 HB1 HW HO hlow hsep

  obtain ⟨hx, hy, _⟩ := HALL.out W0 g0
  have cs0 : W0.cell? ⟨w2.heap.size, 0, none⟩ = some (.int .i64 ah) := hy.cell 0
  have cd3 : W0.cell? ⟨w.heap.size, 3, none⟩ = some (.slice y.An d.nums.length y.cn) := hx.cell 3
  clear hx hy
  have H0 := Lib.hid h0
  have G0 := Lib.hid g0
  have F0 := Lib.hid f0
  clear h0 g0 f0
  rw [HW0.out] at cs0 cd3
  go_wp2_with fail
  rw [← HW0.out]
  refine (putNums_any base W0 g vB vM B R y.An ah y.cn (d.nums.take ah) 2 H0.out (by rw [List.length_take, HNL.out]; omega) (fun w' hw => by rw [List.map_take]; exact ((HALL.out w' (G0.out.trans hw F0.out)).2.2.at_.n.take ah)) (by omega) (by omega)).mono ?_
  rintro e W1 ⟨rfl, hp⟩
  obtain ⟨vB1, vM1, h1, g1, f1⟩ := Penned.next H0.out G0.out F0.out hp
  clear hp cs0 cd3
  have hB1 : (B ++ numsW 2 (d.nums.take ah)).length ≤ 100010000 := by have h1 := length_numsW 2 (d.nums.take ah); rw [List.length_append]; rw [List.length_take] at h1; omega
  have GD1 := Lib.hid (HGD.out.more (numsW 2 (d.nums.take ah)))
  obtain ⟨Bc, hBc⟩ : ∃ Bc, Bc = B ++ numsW 2 (d.nums.take ah) := ⟨_, rfl⟩
  rw [← hBc] at h1 hB1 GD1
  have hR1 : R.length ≤ 800000 := hR
  obtain ⟨Rc, hRc⟩ : ∃ Rc, Rc = R := ⟨_, rfl⟩
  rw [← hRc] at h1 hR1 GD1
  have HRC := Lib.hid hRc
  have HBC := Lib.hid hBc
  clear hRc hBc
  obtain ⟨hx, hy, _⟩ := HALL.out W1 g1
  have cs1 : W1.cell? ⟨w2.heap.size, 1, none⟩ = some (.bool false) := hy.cell 1
  have cs2 : W1.cell? ⟨w2.heap.size, 2, none⟩ = some (.bool false) := hy.cell 2
  have cs0 : W1.cell? ⟨w2.heap.size, 0, none⟩ = some (.int .i64 ah) := hy.cell 0
  have cd3 : W1.cell? ⟨w.heap.size, 3, none⟩ = some (.slice y.An d.nums.length y.cn) := hx.cell 3
  clear hx hy
  have H1 := Lib.hid h1
  have G1 := Lib.hid g1
  have F1 := Lib.hid f1
  clear h1 g1 f1
  have ST1 := Lib.hid (show Stay (ownF g vB1 vM1) W1 (y.An.map fun x => x.add ah) ((d.nums.drop ah).map zv) from fun w' hw => by rw [List.map_drop]; exact row_drop (HALL.out w' (G1.out.trans hw F1.out)).2.2.at_.n)
  have ST2 := Lib.hid (fun (hcn2 : y.cn = ah) => (show Stay (ownF g vB1 vM1) W1 y.An ((d.nums.drop ah).map zv) from fun w' hw => by rw [List.drop_eq_nil_of_le (by omega)]; exact Row.empty _ _ _))
  go_wp2_with fail
  all_goals
    first
      | with_reducible refine (putNums_any base W1 g vB1 vM1 Bc Rc (y.An.map fun x => x.add ah) (d.nums.length - ah) (y.cn - ah) (d.nums.drop ah) 4 H1.out (List.length_drop ..) ST1.out (by have := HNL.out; omega) (by omega)).mono ?_
      | with_reducible refine (putNums_any base W1 g vB1 vM1 Bc Rc y.An (d.nums.length - ah) 0 (d.nums.drop ah) 4 H1.out (List.length_drop ..) (ST2.out (by assumption)) (by have := HNL.out; omega) (by omega)).mono ?_
    rintro e W2 ⟨rfl, hp⟩
    obtain ⟨vB2, vM2, h2, g2, f2⟩ := Penned.next H1.out G1.out F1.out hp
    clear hp cs1 cs2 cs0 cd3
    obtain ⟨hx, hy, _⟩ := HALL.out W2 g2
    have cd4 : W2.cell? ⟨w.heap.size, 4, none⟩ = some (.slice y.At d.texts.length y.ct) := hx.cell 4
    have hl4 := length_numsW 4 (d.nums.drop ah)
    rw [List.length_drop] at hl4
    have hB2 : (Bc ++ numsW 4 (d.nums.drop ah)).length ≤ 100030000 := by rw [List.length_append]; have := HNL.out; omega
    have H2 := Lib.hid h2
    have G2 := Lib.hid g2
    have F2 := Lib.hid f2
    clear h2 g2 f2 hx hy hl4
    go_wp2_with fail
    refine (putTexts_any base W2 g vB2 vM2 _ Rc y.At d.texts.length y.ct d.texts H2.out rfl (fun w' hw => (HALL.out w' (G2.out.trans hw F2.out)).2.2.at_.t) (by have := SP.out.t; omega) (by omega) (fun t ht => Nat.le_trans (SP.out.tl t ht) (by omega))).mono ?_
    rintro e W3 ⟨rfl, hp⟩
    obtain ⟨vB3, vM3, h3, g3, f3⟩ := Penned.next H2.out G2.out F2.out hp
    clear hp cd4
    obtain ⟨hx, hy, _⟩ := HALL.out W3 g3
    have cd0 : W3.cell? ⟨w.heap.size, 0, none⟩ = some (.slice y.Ab d.bytes.length y.cb) := hx.cell 0
    have hl5 := length_textsW 255 d.texts SP.out.tl
    have hl6 : (255 + 7) * d.texts.length ≤ (255 + 7) * 64 := Nat.mul_le_mul_left _ SP.out.t
    have hB3 : ((Bc ++ numsW 4 (d.nums.drop ah)) ++ textsW d.texts).length ≤ 100060000 := by rw [List.length_append]; omega
    have hbl := SP.out.b
    simp only at hbl
    have H3 := Lib.hid h3
    have G3 := Lib.hid g3
    have F3 := Lib.hid f3
    clear h3 g3 f3 hx hy hl5 hl6
    go_wp2_with fail
    refine (raw_any base W3 g vB3 vM3 _ Rc y.Ab d.bytes.length y.cb W3.heap.size d.bytes H3.out rfl (HALL.out W3 G3.out).2.2.at_.b (by omega)).mono ?_
    rintro e W4 ⟨rfl, hp⟩
    have hp2 := Penned.next H3.out G3.out F3.out hp
    have HP := Lib.hid hp2
    clear hp hp2 cd0
    go_wp2
    go_ret
    refine ⟨rfl, Penned.from HBW.out ?_⟩
    have hfin : putD ⟨ah, false, false, s3, be, s5, le, mo⟩ d B R = (((Bc ++ numsW 4 (d.nums.drop ah)) ++ textsW d.texts) ++ d.bytes, Rc) := by
      rw [HBC.out, HRC.out]
      rfl
    rw [hfin]
    exact HP.out

set_option maxRecDepth 20000 in
set_option maxHeartbeats 1000000 in
theorem put_host (base : Nat) (w : World) (g : Nat) (vB vM : Value) (B : List UInt8) (R : Rs) (k : Int) (y : DV) (d : Dt) (Bd : Nat) (h : Wr w base g vB vM B R) (ho : OwnD w Bd y d) (hsep : ∀ j, ownF g vB vM j → ¬ y.owns d j) (hs : soundD k d = true) (h1 : (shN k).host = true) (h2 : (shN k).mail = false)
    (hB : B.length ≤ 100000000) (hR : R.length ≤ 800000) (hG : GoodR B R) (q1 : szN d.host ≤ maxLen) (q2 : szN d.mail ≤ maxLen) :
    Calls Tryz.prog 74 #[.pointer (some ⟨g, 0, none⟩), .int .i64 k, y.val d] w (fun e w' => e = .returned (.int .i64 0) ∧ Penned base w g vB vM (putD (shN k) d B R).1 (putD (shN k) d B R).2 w') := by
  have sp := soundP hs
  have q3 : ∀ k (h : k < d.texts.length), (d.texts[k]).length ≤ maxLen := fun k h => Nat.le_trans (sp.tl _ (List.getElem_mem h)) (by decide)
  have ksm := shN_small k
  have HSD := Lib.hid (fun W (h : DataAt W W.heap.size y d) => dsound_any k y d W h q1 q2 (Nat.le_trans sp.t (by decide)) q3)
  rw [hs] at HSD
  have HSH := Lib.hid (fun W => shapeOf_any k W)
  have hmost : (shN k).most ≤ 65535 := by
    rcases shN_cases k with rfl | rfl | rfl | rfl | rfl | rfl | rfl | rfl | rfl | hk
    case inr.inr.inr.inr.inr.inr.inr.inr.inr => rw [shN_other hk]; exact Nat.le_refl _
    all_goals decide
  obtain ⟨s, hss⟩ : ∃ s, s = shN k := ⟨_, rfl⟩
  rw [← hss] at HSH sp ksm h1 h2 hmost ⊢
  clear hss
  obtain ⟨ah, s1, s2, s3, be, s5, le, mo⟩ := s
  simp only at h1 h2 ksm hmost
  subst h1 h2
  have SP := Lib.hid sp
  have HGD := Lib.hid hG
  have hlow : ∀ j, ownF g vB vM j → j < w.heap.size := fun j hj => (h.own hj).2
  have HW := Lib.hid h
  have HO := Lib.hid ho
  have hcn := own_cap ho.n
  have hcm := own_capZ ho.n
  have hnl : d.nums.length = ah + be := sp.n
  have e1 : (0 : Int) ≤ (ah : Int) := by omega
  have e2 : (ah : Int) ≤ (y.cn : Int) := by omega
  have e3 : (ah : Int) ≤ (d.nums.length : Int) := by omega
  have e4 : (d.nums.length : Int) ≤ (y.cn : Int) := by omega
  have HNL := Lib.hid hnl
  unfold maxLen at hcm
  clear h ho hs sp hG q1 q2 q3 hnl
  go_enter Tryz.func74, Tryz.ntmps74
  go_wp2_with fail
  have hbox := Whole.made w [y.vb d, y.vh d, y.vm d, y.vn d, y.vt d] 40
  have hod := (HO.out.keep (w' := w.alloc (.cells #[y.vb d, y.vh d, y.vm d, y.vn d, y.vt d] 40)) fun g hg => Below.heap_alloc w _ g hg)
  refine (HSD.out _ hod.at_).mono ?_
  rintro e w1 ⟨rfl, hb1⟩
  have hbox1 := hbox.below hb1 hbox.lt
  have hod1 := hod.keep fun g hg => hb1.block g hg
  have hB1 : Below w.heap.size w w1 := ((Below.refl _ w).alloc (Nat.le_refl _) _).trans (hb1.mono (by simp))
  clear hbox hod hb1
  have HBX1 := Lib.hid hbox1
  have HOD1 := Lib.hid hod1
  have HB1 := Lib.hid hB1
  have hz1 : w.heap.size < w1.heap.size := hbox1.lt
  clear hbox1 hod1 hB1
  go_wp2_with fail
  refine (HSH.out _).mono ?_
  rintro e w2 ⟨rfl, hb2⟩
  obtain ⟨W0, hW0⟩ : ∃ W0, W0 = w2.alloc (.cells #[.int .i64 ah, .bool true, .bool false, .bool s3, .int .i64 be, .bool s5, .int .i64 le, .int .i64 mo] 100) := ⟨_, rfl⟩
  have hz2 := hb2.size
  have hbx : Whole W0 w.heap.size 40 [y.vb d, y.vh d, y.vm d, y.vn d, y.vt d] := by rw [hW0]; exact (HBX1.out.below hb2 hz1).alloc _
  have hshb : Whole W0 w2.heap.size 100 [.int .i64 ah, .bool true, .bool false, .bool s3, .int .i64 be, .bool s5, .int .i64 le, .int .i64 mo] := by rw [hW0]; exact Whole.made w2 _ _
  have hod : OwnD W0 Bd y d := by rw [hW0]; exact (HOD1.out.keep fun g hg => hb2.block g hg).keep fun g hg => Below.heap_alloc w2 _ g hg
  have hBW : Below w.heap.size w W0 := by rw [hW0]; exact (HB1.out.trans (hb2.mono (by omega))).alloc (by omega) _
  have hwr : Wr W0 base g vB vM B R := HW.out.keep fun j hj => hBW.block j (hlow j hj)
  have HBW := Lib.hid hBW
  have HALL := Lib.hid (fun W (hg : Grew (ownF g vB vM) W0 W) => (show Whole W w.heap.size 40 [y.vb d, y.vh d, y.vm d, y.vn d, y.vt d] ∧ Whole W w2.heap.size 100 [.int .i64 ah, .bool true, .bool false, .bool s3, .int .i64 be, .bool s5, .int .i64 le, .int .i64 mo] ∧ OwnD W Bd y d from
    ⟨hbx.grew hg (fun hj => by have := hlow _ hj; omega), hshb.grew hg (fun hj => by have := hlow _ hj; omega),
      own_grew hod.b hg fun j e hj => hsep j hj (.inl e), own_grew hod.h hg fun j e hj => hsep j hj (.inr (.inl e)), own_grew hod.m hg fun j e hj => hsep j hj (.inr (.inr (.inl e))),
      own_grew hod.n hg fun j e hj => hsep j hj (.inr (.inr (.inr (.inl e)))), own_grew hod.t hg fun j e hj => hsep j hj (.inr (.inr (.inr (.inr e))))⟩))
  have h0 := hwr
  have g0 : Grew (ownF g vB vM) W0 W0 := Grew.refl _ _
  have f0 : ∀ j, ownF g vB vM j → ownF g vB vM j ∨ W0.heap.size ≤ j := fun j hj => .inl hj
  have HW0 := Lib.hid hW0
  clear hW0 hbx hshb hod hBW hwr hb2 HBX1 HOD1 HB1 HW HO hlow hsep

  obtain ⟨hx, hy, _⟩ := HALL.out W0 g0
  have cs0 : W0.cell? ⟨w2.heap.size, 0, none⟩ = some (.int .i64 ah) := hy.cell 0
  have cd3 : W0.cell? ⟨w.heap.size, 3, none⟩ = some (.slice y.An d.nums.length y.cn) := hx.cell 3
  clear hx hy
  have H0 := Lib.hid h0
  have G0 := Lib.hid g0
  have F0 := Lib.hid f0
  clear h0 g0 f0
  rw [HW0.out] at cs0 cd3
  go_wp2_with fail
  rw [← HW0.out]
  refine (putNums_any base W0 g vB vM B R y.An ah y.cn (d.nums.take ah) 2 H0.out (by rw [List.length_take, HNL.out]; omega) (fun w' hw => by rw [List.map_take]; exact ((HALL.out w' (G0.out.trans hw F0.out)).2.2.at_.n.take ah)) (by omega) (by omega)).mono ?_
  rintro e W1 ⟨rfl, hp⟩
  obtain ⟨vB1, vM1, h1, g1, f1⟩ := Penned.next H0.out G0.out F0.out hp
  clear hp cs0 cd3
  have hB1 : (B ++ numsW 2 (d.nums.take ah)).length ≤ 100010000 := by have h1 := length_numsW 2 (d.nums.take ah); rw [List.length_append]; rw [List.length_take] at h1; omega
  have GD1 := Lib.hid (HGD.out.more (numsW 2 (d.nums.take ah)))
  obtain ⟨Bc, hBc⟩ : ∃ Bc, Bc = B ++ numsW 2 (d.nums.take ah) := ⟨_, rfl⟩
  rw [← hBc] at h1 hB1 GD1
  have hR1 : R.length ≤ 800000 := hR
  obtain ⟨Rc, hRc⟩ : ∃ Rc, Rc = R := ⟨_, rfl⟩
  rw [← hRc] at h1 hR1 GD1
  have HRC := Lib.hid hRc
  have HBC := Lib.hid hBc
  clear hRc hBc
  obtain ⟨hx, hy, _⟩ := HALL.out W1 g1
  have cs1 : W1.cell? ⟨w2.heap.size, 1, none⟩ = some (.bool true) := hy.cell 1
  have cs3 : W1.cell? ⟨w2.heap.size, 3, none⟩ = some (.bool s3) := hy.cell 3
  have cd1 : W1.cell? ⟨w.heap.size, 1, none⟩ = some (.slice y.Ah d.host.length y.ch) := hx.cell 1
  clear hx hy
  have H1 := Lib.hid h1
  have G1 := Lib.hid g1
  have F1 := Lib.hid f1
  clear h1 g1 f1
  go_wp2_with fail
  have hfs1 := soundN_parts (SP.out.h rfl)
  refine (name_sound base W1 g vB1 vM1 Bc Rc y.Ah d.host.length y.ch W1.heap.size d.host s3 H1.out rfl (HALL.out W1 G1.out).2.2.at_.h (Nat.le_refl _) (SP.out.h rfl) (by omega) (by omega) (fun r hr => (GD1.out r hr).1)).mono ?_
  rintro e W2 ⟨rfl, hp⟩
  obtain ⟨vB2, vM2, h2, g2, f2⟩ := Penned.next H1.out G1.out F1.out hp
  clear hp cs1 cs3 cd1
  have GD2 := Lib.hid (nameW_good (short := s3) hfs1.1 GD1.out).2.2
  have hl2 := length_nameW_le s3 d.host Bc Rc hfs1.1
  have hr2 := length_nameW_rests s3 d.host Bc Rc
  have hln2 := length_lt_szN d.host
  obtain ⟨Bd2, hBd2⟩ : ∃ x, x = (nameW s3 d.host Bc Rc).1 := ⟨_, rfl⟩
  obtain ⟨Rd2, hRd2⟩ : ∃ x, x = (nameW s3 d.host Bc Rc).2 := ⟨_, rfl⟩
  rw [← hBd2, ← hRd2] at h2 GD2
  rw [← hBd2] at hl2
  rw [← hRd2] at hr2
  have HEQ2 := Lib.hid (And.intro hBd2 hRd2)
  have hB2 : Bd2.length ≤ 100011000 := by omega
  have hR2 : Rd2.length ≤ 801000 := by omega
  clear hBd2 hRd2 hfs1 hl2 hr2 hln2 hB1 hR1
  obtain ⟨hx, hy, _⟩ := HALL.out W2 g2
  have cs2 : W2.cell? ⟨w2.heap.size, 2, none⟩ = some (.bool false) := hy.cell 2
  have cs0 : W2.cell? ⟨w2.heap.size, 0, none⟩ = some (.int .i64 ah) := hy.cell 0
  have cd3 : W2.cell? ⟨w.heap.size, 3, none⟩ = some (.slice y.An d.nums.length y.cn) := hx.cell 3
  clear hx hy
  have H2 := Lib.hid h2
  have G2 := Lib.hid g2
  have F2 := Lib.hid f2
  clear h2 g2 f2
  have ST1 := Lib.hid (show Stay (ownF g vB2 vM2) W2 (y.An.map fun x => x.add ah) ((d.nums.drop ah).map zv) from fun w' hw => by rw [List.map_drop]; exact row_drop (HALL.out w' (G2.out.trans hw F2.out)).2.2.at_.n)
  have ST2 := Lib.hid (fun (hcn2 : y.cn = ah) => (show Stay (ownF g vB2 vM2) W2 y.An ((d.nums.drop ah).map zv) from fun w' hw => by rw [List.drop_eq_nil_of_le (by omega)]; exact Row.empty _ _ _))
  go_wp2_with fail
  all_goals
    first
      | with_reducible refine (putNums_any base W2 g vB2 vM2 Bd2 Rd2 (y.An.map fun x => x.add ah) (d.nums.length - ah) (y.cn - ah) (d.nums.drop ah) 4 H2.out (List.length_drop ..) ST1.out (by have := HNL.out; omega) (by omega)).mono ?_
      | with_reducible refine (putNums_any base W2 g vB2 vM2 Bd2 Rd2 y.An (d.nums.length - ah) 0 (d.nums.drop ah) 4 H2.out (List.length_drop ..) (ST2.out (by assumption)) (by have := HNL.out; omega) (by omega)).mono ?_
    rintro e W3 ⟨rfl, hp⟩
    obtain ⟨vB3, vM3, h3, g3, f3⟩ := Penned.next H2.out G2.out F2.out hp
    clear hp cs2 cs0 cd3
    obtain ⟨hx, hy, _⟩ := HALL.out W3 g3
    have cd4 : W3.cell? ⟨w.heap.size, 4, none⟩ = some (.slice y.At d.texts.length y.ct) := hx.cell 4
    have hl4 := length_numsW 4 (d.nums.drop ah)
    rw [List.length_drop] at hl4
    have hB3 : (Bd2 ++ numsW 4 (d.nums.drop ah)).length ≤ 100030000 := by rw [List.length_append]; have := HNL.out; omega
    have H3 := Lib.hid h3
    have G3 := Lib.hid g3
    have F3 := Lib.hid f3
    clear h3 g3 f3 hx hy hl4
    go_wp2_with fail
    refine (putTexts_any base W3 g vB3 vM3 _ Rd2 y.At d.texts.length y.ct d.texts H3.out rfl (fun w' hw => (HALL.out w' (G3.out.trans hw F3.out)).2.2.at_.t) (by have := SP.out.t; omega) (by omega) (fun t ht => Nat.le_trans (SP.out.tl t ht) (by omega))).mono ?_
    rintro e W4 ⟨rfl, hp⟩
    obtain ⟨vB4, vM4, h4, g4, f4⟩ := Penned.next H3.out G3.out F3.out hp
    clear hp cd4
    obtain ⟨hx, hy, _⟩ := HALL.out W4 g4
    have cd0 : W4.cell? ⟨w.heap.size, 0, none⟩ = some (.slice y.Ab d.bytes.length y.cb) := hx.cell 0
    have hl5 := length_textsW 255 d.texts SP.out.tl
    have hl6 : (255 + 7) * d.texts.length ≤ (255 + 7) * 64 := Nat.mul_le_mul_left _ SP.out.t
    have hB4 : ((Bd2 ++ numsW 4 (d.nums.drop ah)) ++ textsW d.texts).length ≤ 100060000 := by rw [List.length_append]; omega
    have hbl := SP.out.b
    simp only at hbl
    have H4 := Lib.hid h4
    have G4 := Lib.hid g4
    have F4 := Lib.hid f4
    clear h4 g4 f4 hx hy hl5 hl6
    go_wp2_with fail
    refine (raw_any base W4 g vB4 vM4 _ Rd2 y.Ab d.bytes.length y.cb W4.heap.size d.bytes H4.out rfl (HALL.out W4 G4.out).2.2.at_.b (by omega)).mono ?_
    rintro e W5 ⟨rfl, hp⟩
    have hp2 := Penned.next H4.out G4.out F4.out hp
    have HP := Lib.hid hp2
    clear hp hp2 cd0
    go_wp2
    go_ret
    refine ⟨rfl, Penned.from HBW.out ?_⟩
    have hfin : putD ⟨ah, true, false, s3, be, s5, le, mo⟩ d B R = (((Bd2 ++ numsW 4 (d.nums.drop ah)) ++ textsW d.texts) ++ d.bytes, Rd2) := by
      rw [HEQ2.out.1, HEQ2.out.2, HBC.out, HRC.out]
      rfl
    rw [hfin]
    exact HP.out

set_option maxRecDepth 20000 in
set_option maxHeartbeats 1000000 in
theorem put_both (base : Nat) (w : World) (g : Nat) (vB vM : Value) (B : List UInt8) (R : Rs) (k : Int) (y : DV) (d : Dt) (Bd : Nat) (h : Wr w base g vB vM B R) (ho : OwnD w Bd y d) (hsep : ∀ j, ownF g vB vM j → ¬ y.owns d j) (hs : soundD k d = true) (h1 : (shN k).host = true) (h2 : (shN k).mail = true)
    (hB : B.length ≤ 100000000) (hR : R.length ≤ 800000) (hG : GoodR B R) (q1 : szN d.host ≤ maxLen) (q2 : szN d.mail ≤ maxLen) :
    Calls Tryz.prog 74 #[.pointer (some ⟨g, 0, none⟩), .int .i64 k, y.val d] w (fun e w' => e = .returned (.int .i64 0) ∧ Penned base w g vB vM (putD (shN k) d B R).1 (putD (shN k) d B R).2 w') := by
  have sp := soundP hs
  have q3 : ∀ k (h : k < d.texts.length), (d.texts[k]).length ≤ maxLen := fun k h => Nat.le_trans (sp.tl _ (List.getElem_mem h)) (by decide)
  have ksm := shN_small k
  have HSD := Lib.hid (fun W (h : DataAt W W.heap.size y d) => dsound_any k y d W h q1 q2 (Nat.le_trans sp.t (by decide)) q3)
  rw [hs] at HSD
  have HSH := Lib.hid (fun W => shapeOf_any k W)
  have hmost : (shN k).most ≤ 65535 := by
    rcases shN_cases k with rfl | rfl | rfl | rfl | rfl | rfl | rfl | rfl | rfl | hk
    case inr.inr.inr.inr.inr.inr.inr.inr.inr => rw [shN_other hk]; exact Nat.le_refl _
    all_goals decide
  obtain ⟨s, hss⟩ : ∃ s, s = shN k := ⟨_, rfl⟩
  rw [← hss] at HSH sp ksm h1 h2 hmost ⊢
  clear hss
  obtain ⟨ah, s1, s2, s3, be, s5, le, mo⟩ := s
  simp only at h1 h2 ksm hmost
  subst h1 h2
  have SP := Lib.hid sp
  have HGD := Lib.hid hG
  have hlow : ∀ j, ownF g vB vM j → j < w.heap.size := fun j hj => (h.own hj).2
  have HW := Lib.hid h
  have HO := Lib.hid ho
  have hcn := own_cap ho.n
  have hcm := own_capZ ho.n
  have hnl : d.nums.length = ah + be := sp.n
  have e1 : (0 : Int) ≤ (ah : Int) := by omega
  have e2 : (ah : Int) ≤ (y.cn : Int) := by omega
  have e3 : (ah : Int) ≤ (d.nums.length : Int) := by omega
  have e4 : (d.nums.length : Int) ≤ (y.cn : Int) := by omega
  have HNL := Lib.hid hnl
  unfold maxLen at hcm
  clear h ho hs sp hG q1 q2 q3 hnl
  go_enter Tryz.func74, Tryz.ntmps74
  go_wp2_with fail
  have hbox := Whole.made w [y.vb d, y.vh d, y.vm d, y.vn d, y.vt d] 40
  have hod := (HO.out.keep (w' := w.alloc (.cells #[y.vb d, y.vh d, y.vm d, y.vn d, y.vt d] 40)) fun g hg => Below.heap_alloc w _ g hg)
  refine (HSD.out _ hod.at_).mono ?_
  rintro e w1 ⟨rfl, hb1⟩
  have hbox1 := hbox.below hb1 hbox.lt
  have hod1 := hod.keep fun g hg => hb1.block g hg
  have hB1 : Below w.heap.size w w1 := ((Below.refl _ w).alloc (Nat.le_refl _) _).trans (hb1.mono (by simp))
  clear hbox hod hb1
  have HBX1 := Lib.hid hbox1
  have HOD1 := Lib.hid hod1
  have HB1 := Lib.hid hB1
  have hz1 : w.heap.size < w1.heap.size := hbox1.lt
  clear hbox1 hod1 hB1
  go_wp2_with fail
  refine (HSH.out _).mono ?_
  rintro e w2 ⟨rfl, hb2⟩
  obtain ⟨W0, hW0⟩ : ∃ W0, W0 = w2.alloc (.cells #[.int .i64 ah, .bool true, .bool true, .bool s3, .int .i64 be, .bool s5, .int .i64 le, .int .i64 mo] 100) := ⟨_, rfl⟩
  have hz2 := hb2.size
  have hbx : Whole W0 w.heap.size 40 [y.vb d, y.vh d, y.vm d, y.vn d, y.vt d] := by rw [hW0]; exact (HBX1.out.below hb2 hz1).alloc _
  have hshb : Whole W0 w2.heap.size 100 [.int .i64 ah, .bool true, .bool true, .bool s3, .int .i64 be, .bool s5, .int .i64 le, .int .i64 mo] := by rw [hW0]; exact Whole.made w2 _ _
  have hod : OwnD W0 Bd y d := by rw [hW0]; exact (HOD1.out.keep fun g hg => hb2.block g hg).keep fun g hg => Below.heap_alloc w2 _ g hg
  have hBW : Below w.heap.size w W0 := by rw [hW0]; exact (HB1.out.trans (hb2.mono (by omega))).alloc (by omega) _
  have hwr : Wr W0 base g vB vM B R := HW.out.keep fun j hj => hBW.block j (hlow j hj)
  have HBW := Lib.hid hBW
  have HALL := Lib.hid (fun W (hg : Grew (ownF g vB vM) W0 W) => (show Whole W w.heap.size 40 [y.vb d, y.vh d, y.vm d, y.vn d, y.vt d] ∧ Whole W w2.heap.size 100 [.int .i64 ah, .bool true, .bool true, .bool s3, .int .i64 be, .bool s5, .int .i64 le, .int .i64 mo] ∧ OwnD W Bd y d from
    ⟨hbx.grew hg (fun hj => by have := hlow _ hj; omega), hshb.grew hg (fun hj => by have := hlow _ hj; omega),
      own_grew hod.b hg fun j e hj => hsep j hj (.inl e), own_grew hod.h hg fun j e hj => hsep j hj (.inr (.inl e)), own_grew hod.m hg fun j e hj => hsep j hj (.inr (.inr (.inl e))),
      own_grew hod.n hg fun j e hj => hsep j hj (.inr (.inr (.inr (.inl e)))), own_grew hod.t hg fun j e hj => hsep j hj (.inr (.inr (.inr (.inr e))))⟩))
  have h0 := hwr
  have g0 : Grew (ownF g vB vM) W0 W0 := Grew.refl _ _
  have f0 : ∀ j, ownF g vB vM j → ownF g vB vM j ∨ W0.heap.size ≤ j := fun j hj => .inl hj
  have HW0 := Lib.hid hW0
  clear hW0 hbx hshb hod hBW hwr hb2 HBX1 HOD1 HB1 HW HO hlow hsep

  obtain ⟨hx, hy, _⟩ := HALL.out W0 g0
  have cs0 : W0.cell? ⟨w2.heap.size, 0, none⟩ = some (.int .i64 ah) := hy.cell 0
  have cd3 : W0.cell? ⟨w.heap.size, 3, none⟩ = some (.slice y.An d.nums.length y.cn) := hx.cell 3
  clear hx hy
  have H0 := Lib.hid h0
  have G0 := Lib.hid g0
  have F0 := Lib.hid f0
  clear h0 g0 f0
  rw [HW0.out] at cs0 cd3
  go_wp2_with fail
  rw [← HW0.out]
  refine (putNums_any base W0 g vB vM B R y.An ah y.cn (d.nums.take ah) 2 H0.out (by rw [List.length_take, HNL.out]; omega) (fun w' hw => by rw [List.map_take]; exact ((HALL.out w' (G0.out.trans hw F0.out)).2.2.at_.n.take ah)) (by omega) (by omega)).mono ?_
  rintro e W1 ⟨rfl, hp⟩
  obtain ⟨vB1, vM1, h1, g1, f1⟩ := Penned.next H0.out G0.out F0.out hp
  clear hp cs0 cd3
  have hB1 : (B ++ numsW 2 (d.nums.take ah)).length ≤ 100010000 := by have h1 := length_numsW 2 (d.nums.take ah); rw [List.length_append]; rw [List.length_take] at h1; omega
  have GD1 := Lib.hid (HGD.out.more (numsW 2 (d.nums.take ah)))
  obtain ⟨Bc, hBc⟩ : ∃ Bc, Bc = B ++ numsW 2 (d.nums.take ah) := ⟨_, rfl⟩
  rw [← hBc] at h1 hB1 GD1
  have hR1 : R.length ≤ 800000 := hR
  obtain ⟨Rc, hRc⟩ : ∃ Rc, Rc = R := ⟨_, rfl⟩
  rw [← hRc] at h1 hR1 GD1
  have HRC := Lib.hid hRc
  have HBC := Lib.hid hBc
  clear hRc hBc
  obtain ⟨hx, hy, _⟩ := HALL.out W1 g1
  have cs1 : W1.cell? ⟨w2.heap.size, 1, none⟩ = some (.bool true) := hy.cell 1
  have cs3 : W1.cell? ⟨w2.heap.size, 3, none⟩ = some (.bool s3) := hy.cell 3
  have cd1 : W1.cell? ⟨w.heap.size, 1, none⟩ = some (.slice y.Ah d.host.length y.ch) := hx.cell 1
  clear hx hy
  have H1 := Lib.hid h1
  have G1 := Lib.hid g1
  have F1 := Lib.hid f1
  clear h1 g1 f1
  go_wp2_with fail
  have hfs1 := soundN_parts (SP.out.h rfl)
  refine (name_sound base W1 g vB1 vM1 Bc Rc y.Ah d.host.length y.ch W1.heap.size d.host s3 H1.out rfl (HALL.out W1 G1.out).2.2.at_.h (Nat.le_refl _) (SP.out.h rfl) (by omega) (by omega) (fun r hr => (GD1.out r hr).1)).mono ?_
  rintro e W2 ⟨rfl, hp⟩
  obtain ⟨vB2, vM2, h2, g2, f2⟩ := Penned.next H1.out G1.out F1.out hp
  clear hp cs1 cs3 cd1
  have GD2 := Lib.hid (nameW_good (short := s3) hfs1.1 GD1.out).2.2
  have hl2 := length_nameW_le s3 d.host Bc Rc hfs1.1
  have hr2 := length_nameW_rests s3 d.host Bc Rc
  have hln2 := length_lt_szN d.host
  obtain ⟨Bd2, hBd2⟩ : ∃ x, x = (nameW s3 d.host Bc Rc).1 := ⟨_, rfl⟩
  obtain ⟨Rd2, hRd2⟩ : ∃ x, x = (nameW s3 d.host Bc Rc).2 := ⟨_, rfl⟩
  rw [← hBd2, ← hRd2] at h2 GD2
  rw [← hBd2] at hl2
  rw [← hRd2] at hr2
  have HEQ2 := Lib.hid (And.intro hBd2 hRd2)
  have hB2 : Bd2.length ≤ 100011000 := by omega
  have hR2 : Rd2.length ≤ 801000 := by omega
  clear hBd2 hRd2 hfs1 hl2 hr2 hln2 hB1 hR1
  obtain ⟨hx, hy, _⟩ := HALL.out W2 g2
  have cs2 : W2.cell? ⟨w2.heap.size, 2, none⟩ = some (.bool true) := hy.cell 2
  have cs3 : W2.cell? ⟨w2.heap.size, 3, none⟩ = some (.bool s3) := hy.cell 3
  have cd2 : W2.cell? ⟨w.heap.size, 2, none⟩ = some (.slice y.Am d.mail.length y.cm) := hx.cell 2
  clear hx hy
  have H2 := Lib.hid h2
  have G2 := Lib.hid g2
  have F2 := Lib.hid f2
  clear h2 g2 f2
  go_wp2_with fail
  have hfs2 := soundN_parts (SP.out.m rfl)
  refine (name_sound base W2 g vB2 vM2 Bd2 Rd2 y.Am d.mail.length y.cm W2.heap.size d.mail s3 H2.out rfl (HALL.out W2 G2.out).2.2.at_.m (Nat.le_refl _) (SP.out.m rfl) (by omega) (by omega) (fun r hr => (GD2.out r hr).1)).mono ?_
  rintro e W3 ⟨rfl, hp⟩
  obtain ⟨vB3, vM3, h3, g3, f3⟩ := Penned.next H2.out G2.out F2.out hp
  clear hp cs2 cs3 cd2
  have hl3 := length_nameW_le s3 d.mail Bd2 Rd2 hfs2.1
  obtain ⟨Be, hBe⟩ : ∃ x, x = (nameW s3 d.mail Bd2 Rd2).1 := ⟨_, rfl⟩
  obtain ⟨Re, hRe⟩ : ∃ x, x = (nameW s3 d.mail Bd2 Rd2).2 := ⟨_, rfl⟩
  rw [← hBe, ← hRe] at h3
  rw [← hBe] at hl3
  have HEQ3 := Lib.hid (And.intro hBe hRe)
  have hB3 : Be.length ≤ 100020000 := by omega
  clear hBe hRe hfs2 hl3 hB2
  obtain ⟨hx, hy, _⟩ := HALL.out W3 g3
  have cs0 : W3.cell? ⟨w2.heap.size, 0, none⟩ = some (.int .i64 ah) := hy.cell 0
  have cd3 : W3.cell? ⟨w.heap.size, 3, none⟩ = some (.slice y.An d.nums.length y.cn) := hx.cell 3
  clear hx hy
  have H3 := Lib.hid h3
  have G3 := Lib.hid g3
  have F3 := Lib.hid f3
  clear h3 g3 f3
  have ST1 := Lib.hid (show Stay (ownF g vB3 vM3) W3 (y.An.map fun x => x.add ah) ((d.nums.drop ah).map zv) from fun w' hw => by rw [List.map_drop]; exact row_drop (HALL.out w' (G3.out.trans hw F3.out)).2.2.at_.n)
  have ST2 := Lib.hid (fun (hcn2 : y.cn = ah) => (show Stay (ownF g vB3 vM3) W3 y.An ((d.nums.drop ah).map zv) from fun w' hw => by rw [List.drop_eq_nil_of_le (by omega)]; exact Row.empty _ _ _))
  go_wp2_with fail
  all_goals
    first
      | with_reducible refine (putNums_any base W3 g vB3 vM3 Be Re (y.An.map fun x => x.add ah) (d.nums.length - ah) (y.cn - ah) (d.nums.drop ah) 4 H3.out (List.length_drop ..) ST1.out (by have := HNL.out; omega) (by omega)).mono ?_
      | with_reducible refine (putNums_any base W3 g vB3 vM3 Be Re y.An (d.nums.length - ah) 0 (d.nums.drop ah) 4 H3.out (List.length_drop ..) (ST2.out (by assumption)) (by have := HNL.out; omega) (by omega)).mono ?_
    rintro e W4 ⟨rfl, hp⟩
    obtain ⟨vB4, vM4, h4, g4, f4⟩ := Penned.next H3.out G3.out F3.out hp
    clear hp cs0 cd3
    obtain ⟨hx, hy, _⟩ := HALL.out W4 g4
    have cd4 : W4.cell? ⟨w.heap.size, 4, none⟩ = some (.slice y.At d.texts.length y.ct) := hx.cell 4
    have hl4 := length_numsW 4 (d.nums.drop ah)
    rw [List.length_drop] at hl4
    have hB4 : (Be ++ numsW 4 (d.nums.drop ah)).length ≤ 100030000 := by rw [List.length_append]; have := HNL.out; omega
    have H4 := Lib.hid h4
    have G4 := Lib.hid g4
    have F4 := Lib.hid f4
    clear h4 g4 f4 hx hy hl4
    go_wp2_with fail
    refine (putTexts_any base W4 g vB4 vM4 _ Re y.At d.texts.length y.ct d.texts H4.out rfl (fun w' hw => (HALL.out w' (G4.out.trans hw F4.out)).2.2.at_.t) (by have := SP.out.t; omega) (by omega) (fun t ht => Nat.le_trans (SP.out.tl t ht) (by omega))).mono ?_
    rintro e W5 ⟨rfl, hp⟩
    obtain ⟨vB5, vM5, h5, g5, f5⟩ := Penned.next H4.out G4.out F4.out hp
    clear hp cd4
    obtain ⟨hx, hy, _⟩ := HALL.out W5 g5
    have cd0 : W5.cell? ⟨w.heap.size, 0, none⟩ = some (.slice y.Ab d.bytes.length y.cb) := hx.cell 0
    have hl5 := length_textsW 255 d.texts SP.out.tl
    have hl6 : (255 + 7) * d.texts.length ≤ (255 + 7) * 64 := Nat.mul_le_mul_left _ SP.out.t
    have hB5 : ((Be ++ numsW 4 (d.nums.drop ah)) ++ textsW d.texts).length ≤ 100060000 := by rw [List.length_append]; omega
    have hbl := SP.out.b
    simp only at hbl
    have H5 := Lib.hid h5
    have G5 := Lib.hid g5
    have F5 := Lib.hid f5
    clear h5 g5 f5 hx hy hl5 hl6
    go_wp2_with fail
    refine (raw_any base W5 g vB5 vM5 _ Re y.Ab d.bytes.length y.cb W5.heap.size d.bytes H5.out rfl (HALL.out W5 G5.out).2.2.at_.b (by omega)).mono ?_
    rintro e W6 ⟨rfl, hp⟩
    have hp2 := Penned.next H5.out G5.out F5.out hp
    have HP := Lib.hid hp2
    clear hp hp2 cd0
    go_wp2
    go_ret
    refine ⟨rfl, Penned.from HBW.out ?_⟩
    have hfin : putD ⟨ah, true, true, s3, be, s5, le, mo⟩ d B R = (((Be ++ numsW 4 (d.nums.drop ah)) ++ textsW d.texts) ++ d.bytes, Re) := by
      rw [HEQ3.out.1, HEQ3.out.2, HEQ2.out.1, HEQ2.out.2, HBC.out, HRC.out]
      rfl
    rw [hfin]
    exact HP.out

end Go.Proofs.YtjkjhpaeckkpjaaGreat

namespace Go.Proofs.YtjkjhpaeckkpjaaGreat
open Go.RowKit

set_option maxRecDepth 4000 in
set_option maxHeartbeats 1000000 in
theorem rdata_16 (x : DV) (d : Dt) (w : World) (hx : DataAt w w.heap.size x d) (hi : RefIn d) :
    Calls Tryz.prog 41 #[.int .i64 16, x.val d] w (Gave w (.bool (soundD 16 d))) := by
  have kn : d.nums.length ≤ maxLen := Nat.le_trans hx.ln hx.kn
  have kb : d.bytes.length ≤ maxLen := Nat.le_trans hx.lb hx.kb
  obtain ⟨W, hW⟩ : ∃ W, W = w.alloc (.cells #[.slice x.Ab d.bytes.length x.cb, .slice x.Ah d.host.length x.ch, .slice x.Am d.mail.length x.cm, .slice x.An d.nums.length x.cn, .slice x.At d.texts.length x.ct] 40) := ⟨_, rfl⟩
  have hD : DataAt W w.heap.size x d := by rw [hW]; exact hx.alloc (Nat.le_refl _) _
  have hB : Below w.heap.size w W := by rw [hW]; exact (Below.refl _ _).alloc (Nat.le_refl _) _
  have hsz : w.heap.size ≤ W.heap.size := by rw [hW]; simp
  have hwh : Whole W w.heap.size 40 [x.vb d, x.vh d, x.vm d, x.vn d, x.vt d] := by rw [hW]; exact Whole.made w [x.vb d, x.vh d, x.vm d, x.vn d, x.vt d] _
  have c0 : W.cell? ⟨w.heap.size, 0, none⟩ = some (.slice x.Ab d.bytes.length x.cb) := hwh.cell 0
  have c1 : W.cell? ⟨w.heap.size, 1, none⟩ = some (.slice x.Ah d.host.length x.ch) := hwh.cell 1
  have c2 : W.cell? ⟨w.heap.size, 2, none⟩ = some (.slice x.Am d.mail.length x.cm) := hwh.cell 2
  have c3 : W.cell? ⟨w.heap.size, 3, none⟩ = some (.slice x.An d.nums.length x.cn) := hwh.cell 3
  have c4 : W.cell? ⟨w.heap.size, 4, none⟩ = some (.slice x.At d.texts.length x.ct) := hwh.cell 4
  have HB := Lib.hid hB
  have HW := Lib.hid hW
  have HDT := Lib.hid hD.t
  have HTL := Lib.hid hi.tl
  have hkt := hi.t
  unfold maxLen at hkt
  have HH := Lib.hid (fun (_ : Unit) => ref_sound_wide x.Ah x.ch w.heap.size d.host W hD.h hi.h.1 hi.h.2)
  have HM := Lib.hid (fun (_ : Unit) => ref_sound_wide x.Am x.cm w.heap.size d.mail W hD.m hi.m.1 hi.m.2)
  have HF := Lib.hid (fun (_ : Unit) (a : Nat) (s : Int) => fit_any x.An d.nums.length x.cn w.heap.size d.nums a s W rfl hD.n kn hi.n)
  have HSZ := Lib.hid hsz
  unfold maxLen at kb kn
  have HS := Lib.hid (soundD_16 d)
  clear hD hB hwh hsz hx hi hW
  have enter : True := trivial
  by_cases l1 : 1 ≤ d.texts.length
  case neg =>
    have t1 : decide ((d.texts.length : Int) < 1) = true := by simp; omega
    rw [decide_eq_false l1] at HS
    clear l1
    go_enter Tryz.func41, Tryz.ntmps41
    rw [HW.out] at c0 c1 c2 c3 c4
    go_wp2
    go_ret
    exact ⟨by rw [HS.out]; rfl, by have h := HB.out; rw [HW.out] at h; exact h⟩
  have t1 : decide ((d.texts.length : Int) < 1) = false := by simp; omega
  rw [decide_eq_true l1] at HS
  by_cases l2 : d.texts.length ≤ 64
  case neg =>
    have t2 : decide ((64 : Int) < (d.texts.length : Int)) = true := by simp; omega
    rw [decide_eq_false l2] at HS
    clear l1 l2
    go_enter Tryz.func41, Tryz.ntmps41
    rw [HW.out] at c0 c1 c2 c3 c4
    go_wp2
    go_ret
    exact ⟨by rw [HS.out]; rfl, by have h := HB.out; rw [HW.out] at h; exact h⟩
  have t2 : decide ((64 : Int) < (d.texts.length : Int)) = false := by simp; omega
  rw [decide_eq_true l2] at HS
  go_enter Tryz.func41, Tryz.ntmps41
  rw [HW.out] at c0 c1 c2 c3 c4
  go_wp2_with fail
  rw [← HW.out]
  rw [← HW.out] at c0 c1 c2 c3 c4
  refine (empty_t x d W).mono ?_
  intro e w1 hO
  obtain ⟨he, hb⟩ := hO
  have HE := Lib.hid (HB.out.trans (hb.mono HSZ.out))
  have HT1 := Lib.hid ((HDT.out.below (hb.mono HSZ.out)))
  have c41 : w1.cell? ⟨w.heap.size, 4, none⟩ = some (.slice x.At d.texts.length x.ct) := (hb.cell (p := ⟨w.heap.size, 4, none⟩) (World.block_lt_of_cell? W _ c4)).trans c4
  clear hb c0 c1 c2 c3 c4
  cases hv : (decide (d.bytes.length = 0) && (decide (d.host.length = 0) && (decide (d.mail.length = 0) && decide (d.nums.length = 0)))) with
  | false =>
    rw [hv] at he HS
    subst he
    go_wp2
    go_ret
    exact ⟨by rw [HS.out]; rfl, HE.out⟩
  | true =>
  rw [hv] at he HS
  subst he
  go_wp2
  go_loop [5] (STRel d.texts) (fun i => d.texts.length - (intOf i).toNat)
  case atStart => exact ⟨0, Nat.zero_le _, rfl, rfl⟩
  case round =>
    obtain ⟨k, hk, rfl, hok⟩ := hrel
    have HOK := Lib.hid hok
    clear hok
    by_cases hlt : k < d.texts.length
    · obtain ⟨b, off, hA, _, hc⟩ := HT1.out.name_at hlt
      have hlk := HTL.out k hlt
      unfold maxLen at hlk
      rw [hA] at c41
      by_cases hbig : 255 < (d.texts[k]).length
      · have d1 : decide ((255 : Int) < ((d.texts[k]).length : Int)) = true := by simp; omega
        have HN := Lib.hid (all_not (n := d.texts) (fun t : List UInt8 => decide (t.length ≤ 255)) hlt (by simp; omega))
        go_wp2
        go_ret
        exact ⟨by rw [HS.out, HN.out]; rfl, HE.out⟩
      · have d1 : decide ((255 : Int) < ((d.texts[k]).length : Int)) = false := by simp; omega
        have HY := Lib.hid (all_snoc (n := d.texts) (fun t : List UInt8 => decide (t.length ≤ 255)) hlt HOK.out (by simp; omega))
        go_wp2
        exact ⟨⟨k + 1, hlt, by go_num, HY.out⟩, by simp [intOf]; omega⟩
    · obtain rfl : k = d.texts.length := by omega
      have HN := Lib.hid (show d.texts.all (fun t => decide (t.length ≤ 255)) = true by have h := HOK.out; rw [List.take_length] at h; exact h)
      go_wp2
      go_ret
      exact ⟨by rw [HS.out, HN.out]; rfl, HE.out⟩

theorem refData_any (k : Int) (x : DV) (d : Dt) (w : World) (hx : DataAt w w.heap.size x d) (hi : RefIn d) :
    Calls Tryz.prog 41 #[.int .i64 k, x.val d] w (Gave w (.bool (soundD k d))) := by
  cases hk : kindB k with
  | false => exact rdata_kind k x d w hk
  | true =>
    rcases shN_cases k with rfl | rfl | rfl | rfl | rfl | rfl | rfl | rfl | rfl | ho
    · exact rdata_1 x d w hx hi
    · exact rdata_28 x d w hx hi
    · exact rdata_2 x d w hx hi
    · exact rdata_5 x d w hx hi
    · exact rdata_12 x d w hx hi
    · exact rdata_15 x d w hx hi
    · exact rdata_6 x d w hx hi
    · exact rdata_16 x d w hx hi
    · exact rdata_33 x d w hx hi
    · exact rdata_other k x d w hx hi hk ho

theorem sound_sz {k : Int} {d : Dt} (h : soundD k d = true) : szN d.host ≤ maxLen ∧ szN d.mail ≤ maxLen := by
  have sp := soundP h
  have key : ∀ (n : List (List UInt8)) (b : Bool), (b = true → soundN n = true) → (b = false → n = []) → szN n ≤ maxLen := by
    intro n b h1 h2
    cases b
    · rw [h2 rfl]; decide
    · have := (soundN_parts (h1 rfl)).2
      unfold maxLen
      omega
  exact ⟨key _ _ sp.h sp.h0, key _ _ sp.m sp.m0⟩
theorem put_apart (base : Nat) (w : World) (g : Nat) (vB vM : Value) (B : List UInt8) (R : Rs) (k : Int) (y : DV) (d : Dt) (Bd : Nat) (h : Wr w base g vB vM B R) (ho : OwnD w Bd y d) (hsep : ∀ j, ownF g vB vM j → ¬ y.owns d j) (hs : soundD k d = true)
    (hB : B.length ≤ 100000000) (hR : R.length ≤ 800000) (hG : GoodR B R) :
    Calls Tryz.prog 74 #[.pointer (some ⟨g, 0, none⟩), .int .i64 k, y.val d] w (fun e w' => e = .returned (.int .i64 0) ∧ Penned base w g vB vM (putD (shN k) d B R).1 (putD (shN k) d B R).2 w') := by
  obtain ⟨q1, q2⟩ := sound_sz hs
  rcases shN_cases k with rfl | rfl | rfl | rfl | rfl | rfl | rfl | rfl | rfl | hk
  case inr.inr.inr.inr.inr.inr.inr.inr.inr =>
    exact put_none base w g vB vM B R k y d Bd h ho hsep hs (by rw [shN_other hk]) (by rw [shN_other hk]) hB hR hG q1 q2
  all_goals first
    | exact put_none base w g vB vM B R _ y d Bd h ho hsep hs (by decide) (by decide) hB hR hG q1 q2
    | exact put_host base w g vB vM B R _ y d Bd h ho hsep hs (by decide) (by decide) hB hR hG q1 q2
    | exact put_both base w g vB vM B R _ y d Bd h ho hsep hs (by decide) (by decide) hB hR hG q1 q2
theorem put_sound (base : Nat) (w : World) (g : Nat) (vB vM : Value) (B : List UInt8) (R : Rs) (k : Int) (y : DV) (d : Dt) (Bd : Nat) (h : Wr w base g vB vM B R) (ho : OwnD w Bd y d) (hsep : ∀ j, ownF g vB vM j → j < Bd) (hs : soundD k d = true)
    (hB : B.length ≤ 100000000) (hR : R.length ≤ 800000) (hG : GoodR B R) :
    Calls Tryz.prog 74 #[.pointer (some ⟨g, 0, none⟩), .int .i64 k, y.val d] w (fun e w' => e = .returned (.int .i64 0) ∧ Penned base w g vB vM (putD (shN k) d B R).1 (putD (shN k) d B R).2 w') :=
  put_apart base w g vB vM B R k y d Bd h ho (fun j hj ho2 => by have h1 := hsep j hj; have h2 := (ho.base ho2).1; omega) hs hB hR hG

end Go.Proofs.YtjkjhpaeckkpjaaGreat

namespace Go.Proofs.YtjkjhpaeckkpjaaGreat
open Go.RowKit

def Gets (w : World) (r : Int × Int) (e : Ending) (w' : World) : Prop := e = .returned (.tuple #[.int .i64 r.1, .int .i64 r.2]) ∧ w = w'
def GetRel (l : List UInt8) (a s : Nat) (n i : Value) : Prop := ∃ k : Nat, k ≤ s ∧ i = .int .i64 k ∧ n = .int .i64 (numN (cutL l a k))

theorem getL_size {l : List UInt8} {a s : Int} (h : ¬ (1 ≤ s ∧ s ≤ 7)) : getL l a s = (0, 1) := by unfold getL; rw [szB_false h, if_pos (.inl rfl)]
theorem getL_neg {l : List UInt8} {a s : Int} (h : a < 0) : getL l a s = (0, 1) := by unfold getL; rw [if_pos (.inr h)]
theorem getL_short {l : List UInt8} {a s : Int} (h1 : 1 ≤ s) (h2 : s ≤ 7) (h3 : 0 ≤ a) (h : (l.length : Int) < a + s) : getL l a s = (0, 3) := by
  unfold getL; rw [szB_true ⟨h1, h2⟩, if_neg (by simp; omega), if_pos h]
theorem getL_ok {l : List UInt8} {a s : Nat} (h1 : 1 ≤ s) (h2 : s ≤ 7) (h : a + s ≤ l.length) : getL l a s = ((numN (cutL l a s) : Int), (0 : Int)) := by
  unfold getL; rw [szB_true ⟨by omega, by omega⟩, if_neg (by simp), if_neg (by omega)]; simp

set_option maxHeartbeats 400000 in
theorem get_ok (A : Option Addr) (n c H : Nat) (l : List UInt8) (a s : Nat) (w : World) (hl : l.length = n) (hA : Row w H A (l.map bc)) (hm : n ≤ maxLen) (hc : n ≤ c) (h1 : 1 ≤ s) (h2 : s ≤ 7) (h3 : a + s ≤ n) :
    Calls Tryz.prog 54 #[.slice A n c, .int .i64 a, .int .i64 s] w (Gets w (getL l a s)) := by
  rw [getL_ok h1 h2 (by omega)]
  unfold maxLen at hm
  obtain ⟨b, off, rfl, _, hcell⟩ := hA.some_ (by rw [List.length_map]; omega)
  have d3 : decide ((a : Int) < 0) = false := by simp
  have d4 : decide ((n : Int) - (s : Int) < (a : Int)) = false := by simp; omega
  have HL := Lib.hid hl
  have HC := Lib.hid hcell
  clear hl hcell hA
  go_enter Tryz.func54, Tryz.ntmps54
  go_wp2_with (go_at_call 61; refine (sized_yes _ _ (by omega) (by omega)).mono ?_; rintro e w' ⟨rfl, rfl⟩)
  go_loop [8, 31] (GetRel l a s) (fun _ i => s - (intOf i).toNat)
  case atStart => exact ⟨0, by omega, rfl, rfl⟩
  case round =>
    obtain ⟨k, hk, rfl, rfl⟩ := hrel
    by_cases hlt : k < s
    · have hb : a + k < l.length := by rw [HL.out]; omega
      have hcel : w.cell? ⟨b, off + a + k, none⟩ = some (.int .u8 (l[a + k]).toNat) := by
        rw [Nat.add_assoc, HC.out (a + k) (bc l[a + k]) (by rw [List.getElem?_map, List.getElem?_eq_getElem hb]; rfl)]; rfl
      have hsn := cutL_succ hb
      have HS := Lib.hid hsn
      have hq := numN_le48 (cutL l a k) (by rw [length_cutL (by omega)]; omega)
      have hx := (l[a + k]).toNat_lt
      clear hsn
      go_wp2
      refine ⟨⟨k + 1, by omega, by go_num, ?_⟩, by simp [intOf]; omega⟩
      rw [HS.out, numN_snoc, or_byte _ _ hq hx]
    · obtain rfl : k = s := by omega
      go_wp2
      go_ret2
      exact ⟨rfl, rfl⟩

set_option maxHeartbeats 400000 in
theorem get_short (A : Option Addr) (n c : Nat) (a s : Int) (w : World) (hm : n ≤ maxLen) (h1 : 1 ≤ s) (h2 : s ≤ 7) (h0 : 0 ≤ a) (h3 : (n : Int) < a + s) :
    Calls Tryz.prog 54 #[.slice A n c, .int .i64 a, .int .i64 s] w (Gets w (0, 3)) := by
  unfold maxLen at hm
  have d3 : decide (a < 0) = false := by simp; omega
  have d4 : decide ((n : Int) - s < a) = true := by simp; omega
  go_enter Tryz.func54, Tryz.ntmps54
  go_wp2_with (go_at_call 61; refine (sized_yes _ _ h1 h2).mono ?_; rintro e w' ⟨rfl, rfl⟩)
  go_ret2
  exact ⟨rfl, rfl⟩

set_option maxHeartbeats 400000 in
theorem get_arg (A : Option Addr) (n c : Nat) (a s : Int) (w : World) (h : ¬ (1 ≤ s ∧ s ≤ 7) ∨ a < 0) :
    Calls Tryz.prog 54 #[.slice A n c, .int .i64 a, .int .i64 s] w (Gets w (0, 1)) := by
  by_cases hs : 1 ≤ s ∧ s ≤ 7
  · obtain ⟨h1, h2⟩ := hs
    have h0 : a < 0 := by omega
    have d3 : decide (a < 0) = true := by simp; omega
    clear h
    go_enter Tryz.func54, Tryz.ntmps54
    go_wp2_with (go_at_call 61; refine (sized_yes _ _ h1 h2).mono ?_; rintro e w' ⟨rfl, rfl⟩)
    go_ret2
    exact ⟨rfl, rfl⟩
  · have hs' : s < 1 ∨ 7 < s := by omega
    clear h
    go_enter Tryz.func54, Tryz.ntmps54
    go_wp2_with (go_at_call 61; refine (sized_no _ _ hs').mono ?_; rintro e w' ⟨rfl, rfl⟩)
    go_ret2
    exact ⟨rfl, rfl⟩

theorem get_any (A : Option Addr) (n c H : Nat) (l : List UInt8) (a s : Int) (w : World) (hl : l.length = n) (hA : Row w H A (l.map bc)) (hm : n ≤ maxLen) (hc : n ≤ c) :
    Calls Tryz.prog 54 #[.slice A n c, .int .i64 a, .int .i64 s] w (Gets w (getL l a s)) := by
  by_cases hs : 1 ≤ s ∧ s ≤ 7
  · obtain ⟨h1, h2⟩ := hs
    by_cases h0 : a < 0
    · rw [getL_neg h0]
      exact get_arg A n c a s w (.inr h0)
    · by_cases h3 : (n : Int) < a + s
      · rw [getL_short h1 h2 (by omega) (by rw [hl]; exact h3)]
        exact get_short A n c a s w hm h1 h2 (by omega) h3
      · obtain ⟨a', rfl⟩ : ∃ m : Nat, a = m := ⟨a.toNat, by omega⟩
        obtain ⟨s', rfl⟩ : ∃ m : Nat, s = m := ⟨s.toNat, by omega⟩
        exact get_ok A n c H l a' s' w hl hA hm hc (by omega) (by omega) (by omega)
  · rw [getL_size hs]
    exact get_arg A n c a s w (.inl hs)

end Go.Proofs.YtjkjhpaeckkpjaaGreat

namespace Go.Proofs.YtjkjhpaeckkpjaaGreat
open Go.RowKit

/-- The call gives up with the error k. -/
def gaveE (k : Int) : Ending := .panicked [{ v := .iface 140 (.agg #[.int .i64 k]), recovered := false }]

/-- A reader's block: the bytes, the place, the end. -/
abbrev RB (w : World) (g : Nat) (vb : Value) (p en : Nat) : Prop := Whole w g 144 [vb, .int .i64 p, .int .i64 en]
section
variable {w : World} {g : Nat} {vb : Value} {p en : Nat}
theorem RB.c0 (h : RB w g vb p en) : w.cell? ⟨g, 0, none⟩ = some vb := h.cell 0
theorem RB.c1 (h : RB w g vb p en) : w.cell? ⟨g, 1, none⟩ = some (.int .i64 p) := h.cell 1
theorem RB.c2 (h : RB w g vb p en) : w.cell? ⟨g, 2, none⟩ = some (.int .i64 en) := h.cell 2
theorem RB.set1 (h : RB w g vb p en) (y : Nat) : RB (w.setCell ⟨g, 1, none⟩ (.int .i64 y)) g vb y en := h.set_ 1 _
end
/-- Only the block g may have turned. -/
abbrev GrewG (g : Nat) (w w' : World) : Prop := Grew (fun j => j = g) w w'

set_option maxHeartbeats 400000 in
theorem giveUp_any (k : Int) (w : World) : Calls Tryz.prog 106 #[.int .i64 k] w (fun e w' => e = gaveE k ∧ w = w') := by
  go_enter Tryz.func106, Tryz.ntmps106
  go_wp2
  exact ⟨rfl, rfl, rfl⟩

theorem cutL_take {b : List UInt8} {p s en : Nat} (h : p + s ≤ en) : cutL (b.take en) p s = cutL b p s := by
  unfold cutL
  rw [List.drop_take, List.take_take]
  congr 1
  omega

theorem num_quiet {A : Option Addr} {m cap base en : Nat} {b : List UInt8} {a s r1 r2 : Int} {w : World} (hbl : b.length = m) (hm : m ≤ cap) (hc : cap ≤ maxLen) (hen : en ≤ m) (hg : getL (b.take en) a s = (r1, r2)) (hrow : Row w base A (b.map bc)) (k : Nat) :
    Calls Tryz.prog 54 #[.slice A en cap, .int .i64 a, .int .i64 s] (w.drewN k) fun e w' => e = .returned (.tuple #[.int .i64 r1, .int .i64 r2]) ∧ ∃ j, w' = w.drewN j :=
  (get_any A en cap base (b.take en) a s (w.drewN k) (by rw [List.length_take]; omega) (by rw [List.map_take]; exact (hrow.take en).drewN k) (by omega) (by omega)).mono fun e w' ⟨he, hw⟩ => ⟨by rw [he, hg], k, hw.symm⟩

/-- The call answers v, and stands at p' now. -/
def Went (w : World) (g : Nat) (vb : Value) (p' en : Nat) (v : Value) (e : Ending) (w' : World) : Prop := e = .returned v ∧ RB w' g vb p' en ∧ GrewG g w w'
/-- The call gives up. -/
def Quit (g : Nat) (w : World) (k : Int) (e : Ending) (w' : World) : Prop := e = gaveE k ∧ GrewG g w w'

set_option maxHeartbeats 400000 in
theorem dnum_ok (w : World) (g : Nat) (A : Option Addr) (m cap base : Nat) (b : List UInt8) (p en s : Nat) (h : RB w g (.slice A m cap) p en) (hbl : b.length = m) (hrow : Row w base A (b.map bc)) (hm : m ≤ cap) (hc : cap ≤ maxLen) (hen : en ≤ m)
    (h1 : 1 ≤ s) (h2 : s ≤ 7) (hp : p + s ≤ en) :
    Calls Tryz.prog 108 #[.pointer (some ⟨g, 0, none⟩), .int .i64 s] w (Went w g (.slice A m cap) (p + s) en (.int .i64 (numN (cutL b p s)))) := by
  have HG := Lib.hid (num_quiet (en := en) (a := (p : Int)) (s := (s : Int)) (r1 := numN (cutL b p s)) (r2 := 0) hbl hm hc hen (by rw [getL_ok h1 h2 (by rw [List.length_take]; omega), cutL_take hp]) hrow)
  unfold maxLen at hc
  have c0 := h.c0
  have c1 := h.c1
  have c2 := h.c2
  have f1 : w.frozen? ⟨g, 1, none⟩ = false := h.frozen 1
  have e1 : (0 : Int) ≤ en := by omega
  have e2 : (en : Int) ≤ cap := by omega
  have HR := Lib.hid h
  clear h hbl hrow
  go_enter Tryz.func108, Tryz.ntmps108
  go_wp2
  go_quiet ((go_at_call 54; exact HG.out _))
  go_wp2
  go_ret
  refine ⟨rfl, ?_, ?_⟩
  · have hr := HR.out.set1 (p + s)
    rw [show ((p + s : Nat) : Int) = (p : Int) + (s : Int) by omega] at hr
    exact hr
  · exact Grew.setCell (F := fun j => j = g) ((Grew.refl _ w).drewN _) (a := ⟨g, 1, none⟩) (.inl rfl) _

set_option maxHeartbeats 400000 in
theorem dnum_short (w : World) (g : Nat) (A : Option Addr) (m cap base : Nat) (b : List UInt8) (p en s : Nat) (h : RB w g (.slice A m cap) p en) (hbl : b.length = m) (hrow : Row w base A (b.map bc)) (hm : m ≤ cap) (hc : cap ≤ maxLen) (hen : en ≤ m)
    (h1 : 1 ≤ s) (h2 : s ≤ 7) (hp : en < p + s) :
    Calls Tryz.prog 108 #[.pointer (some ⟨g, 0, none⟩), .int .i64 s] w (Quit g w 3) := by
  have HG := Lib.hid (num_quiet (en := en) (a := (p : Int)) (s := (s : Int)) (r1 := 0) (r2 := 3) hbl hm hc hen (getL_short (a := p) (s := s) (by omega) (by omega) (by omega) (by rw [List.length_take]; omega)) hrow)
  unfold maxLen at hc
  have c0 := h.c0
  have c1 := h.c1
  have c2 := h.c2
  have e1 : (0 : Int) ≤ en := by omega
  have e2 : (en : Int) ≤ cap := by omega
  clear h hbl hrow
  go_enter Tryz.func108, Tryz.ntmps108
  go_wp2
  go_quiet ((go_at_call 54; exact HG.out _))
  go_wp2_with fail
  refine (giveUp_any _ _).mono ?_
  rintro e w' ⟨rfl, rfl⟩
  exact ⟨rfl, rfl, (Grew.refl _ w).drewN _⟩

/-- The call answers the next s bytes, where they lie. -/
def Took (w : World) (g base : Nat) (vb : Value) (b : List UInt8) (p s en : Nat) (e : Ending) (w' : World) : Prop :=
  ∃ A' c', e = .returned (.slice A' s c') ∧ s ≤ c' ∧ c' ≤ maxLen ∧ Row w base A' ((cutL b p s).map bc) ∧ RB w' g vb (p + s) en ∧ GrewG g w w'

theorem row_cut {w : World} {base m p s : Nat} {A : Option Addr} {b : List UInt8} (hbl : b.length = m) (hrow : Row w base A (b.map bc)) (hp : p + s ≤ m) : Row w base (A.map fun x => x.add p) ((cutL b p s).map bc) := by
  rcases Nat.eq_zero_or_pos s with rfl | hs
  · simp only [cutL, List.take_zero, List.map_nil]
    exact Row.empty _ _ _
  · obtain ⟨bb, off, rfl, _, _⟩ := hrow.some_ (by rw [List.length_map]; omega)
    simp only [Option.map_some, addr_add]
    have h := (hrow.drop rfl (k := p)).take s
    rw [← List.map_drop, ← List.map_take] at h
    exact h

set_option maxHeartbeats 400000 in
theorem take_ok (w : World) (g : Nat) (A : Option Addr) (m cap base : Nat) (b : List UInt8) (p en s : Nat) (h : RB w g (.slice A m cap) p en) (hbl : b.length = m) (hrow : Row w base A (b.map bc)) (hm : m ≤ cap) (hc : cap ≤ maxLen) (hen : en ≤ m) (hp : p + s ≤ en) :
    Calls Tryz.prog 109 #[.pointer (some ⟨g, 0, none⟩), .int .i64 s] w (Took w g base (.slice A m cap) b p s en) := by
  have HC := Lib.hid (row_cut (p := p) (s := s) hbl hrow (by omega))
  have H0 : ∀ k, RB (w.drewN k) g (.slice A m cap) p en := fun k => h
  have HK : ∀ k, RB ((w.drewN k).setCell ⟨g, 1, none⟩ (.int .i64 ((p : Int) + (s : Int)))) g (.slice A m cap) (p + s) en := fun k => by
    have hr := (H0 k).set1 (p + s)
    rw [show ((p + s : Nat) : Int) = (p : Int) + (s : Int) by omega] at hr
    exact hr
  have HL := Lib.hid HK
  have HG := Lib.hid (fun k => Grew.setCell (F := fun j => j = g) ((Grew.refl _ w).drewN k) (a := ⟨g, 1, none⟩) (.inl rfl) (.int .i64 ((p : Int) + (s : Int))))
  have HM := Lib.hid hc
  have HW := Lib.hid hrow
  have HB := Lib.hid hbl
  unfold maxLen at hc
  have c0 := h.c0
  have c1 := h.c1
  have c2 := h.c2
  have f1 : w.frozen? ⟨g, 1, none⟩ = false := h.frozen 1
  have e1 : (0 : Int) ≤ p := by omega
  have e2 : (p : Int) + s ≤ cap := by omega
  have e3 : (p : Int) ≤ (p : Int) + s := by omega
  have d1 : decide ((en : Int) - (p : Int) < (s : Int)) = false := by simp; omega
  clear h hrow hbl H0 HK
  go_enter Tryz.func109, Tryz.ntmps109
  go_wp2
  go_quiet (fail)
  go_wp2
  go_quiet (fail)
  go_wp2
  case inl =>
    obtain rfl : s = 0 := by omega
    go_ret
    refine ⟨A, 0, rfl, Nat.le_refl _, by unfold maxLen; omega, by simp only [cutL, List.take_zero, List.map_nil]; exact Row.empty _ _ _, ?_, HG.out _⟩
    have hr := HL.out
    rw [h] at hr
    exact hr _
  case inr =>
    go_ret
    exact ⟨_, cap - p, rfl, by omega, Nat.le_trans (Nat.sub_le _ _) HM.out, HC.out, HL.out _, HG.out _⟩

set_option maxHeartbeats 400000 in
theorem take_short (w : World) (g : Nat) (vb : Value) (p en s : Nat) (h : RB w g vb p en) (hs : s ≤ 70000) (hen : en ≤ maxLen) (hpe : p ≤ maxLen) (hp : en < p + s) :
    Calls Tryz.prog 109 #[.pointer (some ⟨g, 0, none⟩), .int .i64 s] w (Quit g w 3) := by
  unfold maxLen at hen hpe
  have c1 := h.c1
  have c2 := h.c2
  have d1 : decide ((en : Int) - (p : Int) < (s : Int)) = true := by simp; omega
  clear h
  go_enter Tryz.func109, Tryz.ntmps109
  go_wp2
  go_quiet (fail)
  go_wp2_with fail
  refine (giveUp_any _ _).mono ?_
  rintro e w' ⟨rfl, rfl⟩
  exact ⟨rfl, rfl, (Grew.refl _ w).drewN _⟩

end Go.Proofs.YtjkjhpaeckkpjaaGreat

namespace Go.Proofs.YtjkjhpaeckkpjaaGreat
open Go.RowKit

/-- The cells of a reader. -/
def rdL (vb : Value) (p q x s : Nat) (vl : Value) (d : Bool) : List Value := [vb, .int .i64 p, .int .i64 q, .int .i64 x, .int .i64 s, vl, .bool d]
abbrev RD (w : World) (g : Nat) (vb : Value) (p q x s : Nat) (vl : Value) (d : Bool) : Prop := Whole w g 131 (rdL vb p q x s vl d)

section
variable {w : World} {g : Nat} {vb : Value} {p q x s : Nat} {vl : Value} {d : Bool}
theorem RD.c0 (h : RD w g vb p q x s vl d) : w.cell? ⟨g, 0, none⟩ = some vb := h.cell 0
theorem RD.c1 (h : RD w g vb p q x s vl d) : w.cell? ⟨g, 1, none⟩ = some (.int .i64 p) := h.cell 1
theorem RD.c2 (h : RD w g vb p q x s vl d) : w.cell? ⟨g, 2, none⟩ = some (.int .i64 q) := h.cell 2
theorem RD.c3 (h : RD w g vb p q x s vl d) : w.cell? ⟨g, 3, none⟩ = some (.int .i64 x) := h.cell 3
theorem RD.c4 (h : RD w g vb p q x s vl d) : w.cell? ⟨g, 4, none⟩ = some (.int .i64 s) := h.cell 4
theorem RD.c5 (h : RD w g vb p q x s vl d) : w.cell? ⟨g, 5, none⟩ = some vl := h.cell 5
theorem RD.c6 (h : RD w g vb p q x s vl d) : w.cell? ⟨g, 6, none⟩ = some (.bool d) := h.cell 6
theorem RD.set1 (h : RD w g vb p q x s vl d) (y : Nat) : RD (w.setCell ⟨g, 1, none⟩ (.int .i64 y)) g vb y q x s vl d := h.set_ 1 _
theorem RD.set2 (h : RD w g vb p q x s vl d) (y : Nat) : RD (w.setCell ⟨g, 2, none⟩ (.int .i64 y)) g vb p y x s vl d := h.set_ 2 _
theorem RD.set3 (h : RD w g vb p q x s vl d) (y : Nat) : RD (w.setCell ⟨g, 3, none⟩ (.int .i64 y)) g vb p q y s vl d := h.set_ 3 _
theorem RD.set4 (h : RD w g vb p q x s vl d) (y : Nat) : RD (w.setCell ⟨g, 4, none⟩ (.int .i64 y)) g vb p q x y vl d := h.set_ 4 _
theorem RD.set5 (h : RD w g vb p q x s vl d) (y : Value) : RD (w.setCell ⟨g, 5, none⟩ y) g vb p q x s y d := h.set_ 5 _
theorem RD.set6 (h : RD w g vb p q x s vl d) (y : Bool) : RD (w.setCell ⟨g, 6, none⟩ (.bool y)) g vb p q x s vl y := h.set_ 6 _
end

theorem below_set {w : World} {base g : Nat} (hg : base ≤ g) (i : Nat) (u : Value) : Below base w (w.setCell ⟨g, i, none⟩ u) := (Below.refl base w).setCell (p := ⟨g, i, none⟩) hg u

/-- The call has put the place in, if none was there. -/
def Behind (base : Nat) (w : World) (g : Nat) (vb : Value) (p q x s : Nat) (vl : Value) (d : Bool) (y : Nat) (e : Ending) (w' : World) : Prop :=
  e = .returned (.tuple #[]) ∧ RD w' g vb p q (nextR x y) s vl d ∧ Below base w w' ∧ ∀ j, j ≠ g → w'.heap[j]? = w.heap[j]?

set_option maxHeartbeats 400000 in
theorem behind_any (base : Nat) (w : World) (g : Nat) (vb : Value) (p q x s : Nat) (vl : Value) (d : Bool) (y : Nat) (hg : base ≤ g) (h : RD w g vb p q x s vl d) :
    Calls Tryz.prog 96 #[.pointer (some ⟨g, 0, none⟩), .int .i64 y] w (Behind base w g vb p q x s vl d y) := by
  have h3 := h.c3
  have f3 : w.frozen? ⟨g, 3, none⟩ = false := h.frozen 3
  have HR := Lib.hid h
  clear h
  by_cases hx : x = 0
  · subst hx
    go_enter Tryz.func96, Tryz.ntmps96
    go_wp2
    go_end0
    exact ⟨rfl, HR.out.set3 y, below_set hg _ _, fun j hj => Below.heap_setCell w ⟨g, 3, none⟩ _ j hj⟩
  · have t1 : ((x : Int) == 0) = false := by rw [beq_eq_false_iff_ne]; omega
    have HX := Lib.hid (show nextR x y = x by rw [nextR, if_neg hx])
    clear hx
    go_enter Tryz.func96, Tryz.ntmps96
    go_wp2
    go_end0
    exact ⟨rfl, by rw [HX.out]; exact HR.out, Below.refl _ _, fun _ _ => rfl⟩

/-- The call answers the error k. -/
def Erred (base : Nat) (w : World) (g : Nat) (vb : Value) (k : Int) (e : Ending) (w' : World) : Prop := e = .returned (.int .i64 k) ∧ Below base w w' ∧ ∃ vl p q x s d, RD w' g vb p q x s vl d

set_option maxHeartbeats 400000 in
theorem label_short (base : Nat) (w : World) (g : Nat) (A : Option Addr) (m cap : Nat) (p q x s f c : Nat) (vl : Value) (d : Bool) (h : RD w g (.slice A m cap) p q x s vl d) (hm : m ≤ maxLen) (hc : c < 64) (hs : m < f + c) :
    Calls Tryz.prog 97 #[.pointer (some ⟨g, 0, none⟩), .int .i64 f, .int .i64 c] w (Erred base w g (.slice A m cap) 3) := by
  unfold maxLen at hm
  have h0 := h.c0
  have d1 : decide ((m : Int) - (c : Int) < (f : Int)) = true := by simp; omega
  have HR := Lib.hid h
  clear h
  go_enter Tryz.func97, Tryz.ntmps97
  go_wp2
  go_ret
  exact ⟨rfl, Below.refl _ _, _, _, _, _, _, _, HR.out⟩

set_option maxHeartbeats 400000 in
theorem label_long (base : Nat) (w : World) (g : Nat) (A : Option Addr) (m cap : Nat) (p q x s f c : Nat) (vl : Value) (d : Bool) (hg : base ≤ g) (h : RD w g (.slice A m cap) p q x s vl d) (hm : m ≤ maxLen) (hc : c < 64) (hs : f + c ≤ m) (hsz : s ≤ 255) (hl : 255 < s + 1 + c) :
    Calls Tryz.prog 97 #[.pointer (some ⟨g, 0, none⟩), .int .i64 f, .int .i64 c] w (Erred base w g (.slice A m cap) 5) := by
  unfold maxLen at hm
  have h0 := h.c0
  have h4 := h.c4
  have f4 : w.frozen? ⟨g, 4, none⟩ = false := h.frozen 4
  have d1 : decide ((m : Int) - (c : Int) < (f : Int)) = false := by simp; omega
  have d2 : decide (255 < (s : Int) + (1 + (c : Int))) = true := by simp; omega
  have HR := Lib.hid h
  clear h
  go_enter Tryz.func97, Tryz.ntmps97
  go_wp2
  go_ret
  refine ⟨rfl, below_set hg _ _, vl, p, q, x, s + (1 + c), d, ?_⟩
  have h := RD.set4 HR.out (s + (1 + c))
  rw [show ((s + (1 + c) : Nat) : Int) = (s : Int) + (1 + (c : Int)) by omega] at h
  exact h

/-- The call has read on: the labels are n now. -/
def Labeled (base : Nat) (w : World) (g : Nat) (vb : Value) (p q x : Nat) (n : List (List UInt8)) (d : Bool) (e : Ending) (w' : World) : Prop :=
  e = .returned (.int .i64 0) ∧ ∃ vl', RD w' g vb p q x (szN n) vl' d ∧ w'.ownsRow base 9 1 vl' n.length (n.map sv) ∧ Below base w w'

set_option maxHeartbeats 1000000 in
theorem label_ok (base : Nat) (w : World) (g : Nat) (bb off m cap : Nat) (b : List UInt8) (p q x f c : Nat) (vl : Value) (n : List (List UInt8)) (d : Bool) (hg : base ≤ g) (h : RD w g (.slice (some ⟨bb, off, none⟩) m cap) p q x (szN n) vl d)
    (hbl : b.length = m) (hrow : Row w base (some ⟨bb, off, none⟩) (b.map bc)) (hown : w.ownsRow base 9 1 vl n.length (n.map sv)) (hz : base ≤ w.heap.size)
    (hm : m ≤ cap) (hcap : cap ≤ maxLen) (hc1 : 1 ≤ c) (hc : c < 64) (hs : f + c ≤ m) (hl : szN n + 1 + c ≤ 255) :
    Calls Tryz.prog 97 #[.pointer (some ⟨g, 0, none⟩), .int .i64 f, .int .i64 c] w (Labeled base w g (.slice (some ⟨bb, off, none⟩) m cap) (f + c) q x (n ++ [cutL b f c]) d) := by
  unfold maxLen at hcap
  obtain ⟨i0, hi0, hz0, hz1, hz2⟩ := info_parts str_info
  have h0 := h.c0
  have h1 := h.c1
  have h4 := h.c4
  have f1 : w.frozen? ⟨g, 1, none⟩ = false := h.frozen 1
  have f4 : w.frozen? ⟨g, 4, none⟩ = false := h.frozen 4
  have d1 : decide ((m : Int) - (c : Int) < (f : Int)) = false := by simp; omega
  have d2 : decide (255 < (szN n : Int) + (1 + (c : Int))) = false := by simp; omega
  have HR := Lib.hid h
  have HW := Lib.hid hrow
  have HO := Lib.hid hown
  have HL := Lib.hid hbl
  clear h hrow hown hbl
  go_enter Tryz.func97, Tryz.ntmps97
  go_wp2
  obtain ⟨W, hW⟩ : ∃ W, W = (w.setCell ⟨g, 4, none⟩ (.int .i64 ((szN n : Int) + (1 + (c : Int))))).setCell ⟨g, 1, none⟩ (.int .i64 ((f : Int) + (c : Int))) := ⟨_, rfl⟩
  rw [← hW]
  have hB : Below base w W := by rw [hW]; exact (below_set hg _ _).trans (below_set hg _ _)
  have hr : RD W g (.slice (some ⟨bb, off, none⟩) m cap) (f + c) q x (szN n + (1 + c)) vl d := by
    rw [hW, show (szN n : Int) + (1 + (c : Int)) = ((szN n + (1 + c) : Nat) : Int) by omega, show (f : Int) + (c : Int) = ((f + c : Nat) : Int) by omega]
    exact (HR.out.set4 _).set1 _
  have hgl := hr.lt
  have ho : W.ownsRow base 9 1 vl n.length (n.map sv) := by
    rw [hW]
    exact own_set_far (own_set_far HO.out (own_not_whole HO.out HR.out (by decide)) _) (own_not_whole HO.out HR.out (by decide)) _
  have hrw := HW.out.below hB
  have hne : vl.ownBlock ≠ some g := own_not_whole HO.out HR.out (by decide)
  clear hW h0 h1 h4 f1 f4 d1 d2 HR HW HO
  replace hz := Nat.le_trans hz hB.size
  have HB := Lib.hid hB
  have h0 := hr.c0
  have h1 : W.cell? ⟨g, 1, none⟩ = some (.int .i64 ((f : Int) + (c : Int))) := hr.c1
  have h5 := hr.c5
  have hcv := convert_row_run (P := Tryz.prog) W.drew 29 9 5 Tryz.underlying29 Tryz.underlying5 Tryz.underlying9 (some ⟨bb, off + f, none⟩) c (cap - f) base (cutL b f c) (length_cutL (by rw [HL.out]; exact hs))
    (by have := ((hrw.drop rfl (k := f)).take c); rw [← List.map_drop, ← List.map_take] at this; exact this)
  have HO := Lib.hid ho
  have HR := Lib.hid hr
  have HN := Lib.hid hne
  clear hB ho hr hne hrw
  have e0 : (0 : Int) ≤ f := by omega
  have e1 : (f : Int) ≤ (f : Int) + c := by omega
  have e2 : (f : Int) + c ≤ cap := by omega
  have hnl : n.length ≤ 254 := by have := length_lt_szN n; omega
  have hcf : (cap = f) = False := by simp; omega
  have htn : ((f : Int) + (c : Int)).toNat - f = c := by omega
  go_region_law (first
    | (refine step_append_lies _ (by rfl) (.tmp 40) (.tmp 52) _ (by rfl) base 9 i0 _ 1 16 Tryz.underlying37 hi0 hz0 hz1 hz2 rfl (by omega) vl n.length (n.map sv) (by rfl) ((HO.out.drew).alloc _)
        ⟨W.heap.size, 0, none⟩ 1 1 [.string ⟨(cutL b f c).toArray⟩] (by rfl) (by rfl) (World.news_of_block (heap_alloc_new _ _)) (by simp [Value.oneCell']) (by omega) (by unfold maxLen; omega) (by omega) (by simp; omega) (W.heap.size + 1) (by simp) ?_
       intro gg cap2 w1 hown1 hgrow hat hlt
       have hr1 := HR.out.keep ((hgrow.block g (by simp; omega) (Ne.symm HN.out)).trans (Below.heap_alloc W.drew _ g (by simpa using hgl)))
       have h5' := RD.c5 hr1
       have f5' : w1.frozen? ⟨g, 5, none⟩ = false := Whole.frozen hr1 5
       have HR1 := Lib.hid hr1
       have HO1 := Lib.hid hown1
       have HB1 := Lib.hid (own_below (((Below.refl base W).drew).alloc (by simpa using hz) _) (Nat.le_refl _) (by simp; omega) ((HO.out.drew).alloc _) hgrow)
       clear hr1 hown1 hgrow hat hlt))
  all_goals
    go_wp2
    go_ret
    have hr2 := RD.set5 HR1.out (.slice (some ⟨gg, 0, none⟩) (n.length + 1) cap2)
    refine ⟨rfl, .slice (some ⟨gg, 0, none⟩) (n.length + 1) cap2, ?_, ?_, (HB.out.trans HB1.out).trans (below_set hg _ _)⟩
    · rw [show szN (n ++ [cutL b f c]) = szN n + (1 + c) by rw [szN_snoc, length_cutL (by rw [HL.out]; exact hs)]; omega]
      exact hr2
    · have ho2 := own_set_far HO1.out (a := ⟨g, 5, none⟩) (own_not_whole HO1.out HR1.out (by decide)) (.slice (some ⟨gg, 0, none⟩) (n.length + 1) cap2)
      simpa [sv] using ho2

end Go.Proofs.YtjkjhpaeckkpjaaGreat

namespace Go.Proofs.YtjkjhpaeckkpjaaGreat
open Go.RowKit

/-- What a step leaves: an error; or the name's end; or a reading that goes on, and comes to the same. -/
def Stepped (base : Nat) (w : World) (g : Nat) (vb : Value) (b : List UInt8) (p q x : Nat) (n : List (List UInt8)) (e : Ending) (w' : World) : Prop :=
  Below base w w' ∧ ((∃ k : Nat, k ≠ 0 ∧ e = .returned (.int .i64 k) ∧ getR b p q x n = ([], 0, k) ∧ ∃ vl' p' q' x' s' d', RD w' g vb p' q' x' s' vl' d') ∨
    (e = .returned (.int .i64 0) ∧ ∃ vl' p' q' x' n' d', RD w' g vb p' q' x' (szN n') vl' d' ∧ w'.ownsRow base 9 1 vl' n'.length (n'.map sv) ∧ szN n' ≤ 255 ∧ (p' ≤ b.length ∧ q' ≤ p') ∧
      if d' = true then getR b p q x n = (n', x', 0) else getR b p q x n = getR b p' q' x' n' ∧ (q' < q ∨ q' = q ∧ szN n < szN n')))

theorem get_quiet {A : Option Addr} {m cap base : Nat} {b : List UInt8} {a s r1 r2 : Int} {w : World} (hbl : b.length = m) (hm : m ≤ maxLen) (hc : m ≤ cap) (hg : getL b a s = (r1, r2)) (hrow : Row w base A (b.map bc)) (k : Nat) :
    Calls Tryz.prog 54 #[.slice A m cap, .int .i64 a, .int .i64 s] (w.drewN k) fun e w' => e = .returned (.tuple #[.int .i64 r1, .int .i64 r2]) ∧ ∃ j, w' = w.drewN j :=
  (get_any A m cap base b a s (w.drewN k) hbl (hrow.drewN k) hm hc).mono fun e w' ⟨he, hw⟩ => ⟨by rw [he, hg], k, hw.symm⟩

set_option maxHeartbeats 400000 in
theorem follow_short (base : Nat) (w : World) (g : Nat) (A : Option Addr) (m cap : Nat) (b : List UInt8) (p q x s : Nat) (vl : Value) (d : Bool) (h : RD w g (.slice A m cap) p q x s vl d)
    (hbl : b.length = m) (hrow : Row w base A (b.map bc)) (hm : m ≤ maxLen) (hc : m ≤ cap) (hs : m < p + 2) :
    Calls Tryz.prog 98 #[.pointer (some ⟨g, 0, none⟩)] w (fun e w' => e = .returned (.int .i64 3) ∧ ∃ k, w' = w.drewN k) := by
  have h0 := h.c0
  have h1 := h.c1
  have HG := Lib.hid (get_quiet hbl hm hc (getL_short (a := p) (s := 2) (by omega) (by omega) (by omega) (by rw [hbl]; omega)) hrow)
  clear h hbl hrow
  go_enter Tryz.func98, Tryz.ntmps98
  go_wp2
  go_quiet ((go_at_call 54; exact HG.out _))
  go_wp2
  go_ret
  exact ⟨rfl, _, rfl⟩

/-- The number that the two bytes of a pointer are. -/
theorem getL_two {b : List UInt8} {p : Nat} (hp : p < b.length) (h : p + 1 < b.length) : getL b p 2 = ((((b[p]).toNat * 256 + (b[p + 1]).toNat : Nat) : Int), 0) := by
  have e := getL_ok (l := b) (a := p) (s := 2) (by omega) (by omega) (by omega)
  have h1 := cutL_succ (l := b) (a := p) (k := 0) (by omega)
  have h2 := cutL_succ (l := b) (a := p) (k := 1) h
  have h0 : cutL b p 0 = [] := by simp [cutL]
  rw [h0] at h1
  simp only [Nat.zero_add, List.nil_append, Nat.add_zero] at h1
  rw [h1] at h2
  rw [show (2 : Int) = ((2 : Nat) : Int) from rfl, e, h2]
  simp [numN]
theorem getL_one {b : List UInt8} {p : Nat} (h : p < b.length) : getL b p 1 = (((b[p]).toNat : Int), 0) := by
  have e := getL_ok (l := b) (a := p) (s := 1) (by omega) (by omega) (by omega)
  have h1 := cutL_succ (l := b) (a := p) (k := 0) (by omega)
  have h0 : cutL b p 0 = [] := by simp [cutL]
  rw [h0] at h1
  simp only [Nat.zero_add, List.nil_append, Nat.add_zero] at h1
  rw [show (1 : Int) = ((1 : Nat) : Int) from rfl, e, h1]
  simp [numN]

set_option maxHeartbeats 400000 in
theorem follow_loop (base : Nat) (w : World) (g : Nat) (A : Option Addr) (m cap : Nat) (b : List UInt8) (p q x s : Nat) (vl : Value) (d : Bool) (h : RD w g (.slice A m cap) p q x s vl d)
    (hbl : b.length = m) (hrow : Row w base A (b.map bc)) (hm : m ≤ maxLen) (hc : m ≤ cap) (hp : p < b.length) (hs : p + 1 < b.length) (y z : UInt8) (hy : b[p] = y) (hz : b[p + 1] = z) (h192 : 192 ≤ y.toNat) (hq : q ≤ toR y z) :
    Calls Tryz.prog 98 #[.pointer (some ⟨g, 0, none⟩)] w (fun e w' => e = .returned (.int .i64 6) ∧ ∃ k, w' = w.drewN k) := by
  have h0 := h.c0
  have h1 := h.c1
  have h2 := h.c2
  have HG := Lib.hid (get_quiet hbl hm hc (getL_two hp hs) hrow)
  rw [hy, hz] at HG
  clear hy hz
  have u1 := y.toNat_lt
  have u2 := z.toNat_lt
  unfold toR at hq
  generalize y.toNat = c1 at *
  generalize z.toNat = c2 at *
  have hv : ((c1 * 256 + c2 : Nat) : Int) = (c1 : Int) * 256 + c2 := by omega
  have d1 : decide ((q : Int) ≤ (c1 : Int) * 256 + c2 - 49152) = true := by simp; omega
  rw [hv] at HG
  clear h hbl hrow hv
  go_enter Tryz.func98, Tryz.ntmps98
  go_wp2
  go_quiet ((go_at_call 54; exact HG.out _))
  go_wp2
  go_ret
  exact ⟨rfl, _, rfl⟩

set_option maxHeartbeats 1000000 in
theorem follow_ok (base : Nat) (w : World) (g : Nat) (A : Option Addr) (m cap : Nat) (b : List UInt8) (p q x s : Nat) (vl : Value) (d : Bool) (hg : base ≤ g) (h : RD w g (.slice A m cap) p q x s vl d)
    (hbl : b.length = m) (hrow : Row w base A (b.map bc)) (hm : m ≤ maxLen) (hc : m ≤ cap) (hp : p < b.length) (hs : p + 1 < b.length) (y z : UInt8) (hy : b[p] = y) (hz : b[p + 1] = z) (h192 : 192 ≤ y.toNat) (hq : toR y z < q) :
    Calls Tryz.prog 98 #[.pointer (some ⟨g, 0, none⟩)] w (fun e w' => e = .returned (.int .i64 0) ∧ RD w' g (.slice A m cap) (toR y z) (toR y z) (nextR x (p + 2)) s vl d ∧ Below base w w' ∧ ∀ j, j ≠ g → w'.heap[j]? = w.heap[j]?) := by
  unfold maxLen at hm
  have h0 := h.c0
  have h1 := h.c1
  have h2 := h.c2
  have HG := Lib.hid (get_quiet hbl hm hc (getL_two hp hs) hrow)
  rw [hy, hz] at HG
  clear hy hz
  have u1 := y.toNat_lt
  have u2 := z.toNat_lt
  have hs' : p + 1 < m := by rw [← hbl]; exact hs
  have HT := Lib.hid (show toR y z = (y.toNat - 192) * 256 + z.toNat from rfl)
  rw [HT.out] at hq
  generalize toR y z = t at *
  generalize y.toNat = c1 at *
  generalize z.toNat = c2 at *
  have hv : ((c1 * 256 + c2 : Nat) : Int) = (c1 : Int) * 256 + c2 := by omega
  have ht : (c1 : Int) * 256 + c2 - 49152 = ((t : Nat) : Int) := by have := HT.out; omega
  have d1 : decide ((q : Int) ≤ (t : Int)) = false := by have := HT.out; simp; omega
  have HB := Lib.hid (fun W hr => behind_any base W g (.slice A m cap) p q x s vl d (p + 2) hg hr)
  have hv2 : ((p + 2 : Nat) : Int) = (p : Int) + 2 := by omega
  rw [hv] at HG
  rw [hv2] at HB
  have HR := Lib.hid h
  clear h hbl hrow hv hv2
  go_enter Tryz.func98, Tryz.ntmps98
  go_wp2
  go_quiet ((go_at_call 54; exact HG.out _))
  go_wp2_with fail
  refine (HB.out (w.drewN nq) (HR.out.drewN nq)).mono ?_
  rintro e w1 ⟨rfl, hr1, hb1, hj1⟩
  have f1 : w1.frozen? ⟨g, 1, none⟩ = false := hr1.frozen 1
  have f2 : w1.frozen? ⟨g, 2, none⟩ = false := hr1.frozen 2
  have c1' := RD.c1 hr1
  have c2' := RD.c2 hr1
  have HR1 := Lib.hid hr1
  have HB1 := Lib.hid hb1
  have HJ1 := Lib.hid hj1
  clear hr1 hb1 hj1
  go_wp2
  go_ret
  refine ⟨rfl, RD.set2 (RD.set1 HR1.out t) t, (((below_drewN' (Below.refl base w) nq).trans HB1.out).trans (below_set hg _ _)).trans (below_set hg _ _), fun j hj => ?_⟩
  exact (Below.heap_setCell _ ⟨g, 2, none⟩ _ j hj).trans ((Below.heap_setCell _ ⟨g, 1, none⟩ _ j hj).trans (HJ1.out j hj))

set_option maxHeartbeats 400000 in
theorem step_end (base : Nat) (w : World) (g : Nat) (A : Option Addr) (m cap : Nat) (b : List UInt8) (p q x : Nat) (vl : Value) (n : List (List UInt8)) (d : Bool) (h : RD w g (.slice A m cap) p q x (szN n) vl d)
    (hbl : b.length = m) (hrow : Row w base A (b.map bc)) (hm : m ≤ maxLen) (hc : m ≤ cap) (hp : b.length ≤ p) :
    Calls Tryz.prog 91 #[.pointer (some ⟨g, 0, none⟩)] w (Stepped base w g (.slice A m cap) b p q x n) := by
  have h0 := h.c0
  have h1 := h.c1
  have HG := Lib.hid (get_quiet hbl hm hc (getL_short (a := p) (s := 1) (by omega) (by omega) (by omega) (by omega)) hrow)
  have HE := Lib.hid (getR_end (q := q) (x := x) (n := n) hp)
  have HR := Lib.hid h
  clear h hbl hrow hp
  go_enter Tryz.func91, Tryz.ntmps91
  go_wp2
  go_quiet ((go_at_call 54; exact HG.out _))
  go_wp2
  go_ret
  exact ⟨below_drewN' (Below.refl base w) _, .inl ⟨3, by decide, rfl, HE.out, _, _, _, _, _, _, HR.out.drewN _⟩⟩

set_option maxHeartbeats 400000 in
theorem step_bad (base : Nat) (w : World) (g : Nat) (A : Option Addr) (m cap : Nat) (b : List UInt8) (p q x : Nat) (vl : Value) (n : List (List UInt8)) (d : Bool) (h : RD w g (.slice A m cap) p q x (szN n) vl d)
    (hbl : b.length = m) (hrow : Row w base A (b.map bc)) (hm : m ≤ maxLen) (hc : m ≤ cap) (hp : p < b.length) (y : UInt8) (hy : b[p] = y) (h64 : 64 ≤ y.toNat) (h192 : y.toNat < 192) :
    Calls Tryz.prog 91 #[.pointer (some ⟨g, 0, none⟩)] w (Stepped base w g (.slice A m cap) b p q x n) := by
  have h0 := h.c0
  have h1 := h.c1
  have HG := Lib.hid (get_quiet hbl hm hc (getL_one hp) hrow)
  have HE := Lib.hid (getR_bad (q := q) (x := x) (n := n) hp (by rw [hy]; exact h64) (by rw [hy]; exact h192))
  rw [hy] at HG
  have HR := Lib.hid h
  clear h hbl hrow hy hp
  generalize y.toNat = c at *
  have t0 : ((c : Int) == 0) = false := by rw [beq_eq_false_iff_ne]; omega
  have t1 : decide ((c : Int) ≤ 63) = false := by simp; omega
  have t2 : decide ((c : Int) < 192) = true := by simp; omega
  go_enter Tryz.func91, Tryz.ntmps91
  go_wp2
  go_quiet ((go_at_call 54; exact HG.out _))
  go_wp2
  go_ret
  exact ⟨below_drewN' (Below.refl base w) _, .inl ⟨5, by decide, rfl, HE.out, _, _, _, _, _, _, HR.out.drewN _⟩⟩

set_option maxHeartbeats 1000000 in
theorem step_zero (base : Nat) (w : World) (g : Nat) (A : Option Addr) (m cap : Nat) (b : List UInt8) (p q x : Nat) (vl : Value) (n : List (List UInt8)) (d : Bool) (hg : base ≤ g) (h : RD w g (.slice A m cap) p q x (szN n) vl d)
    (hbl : b.length = m) (hrow : Row w base A (b.map bc)) (hm : m ≤ maxLen) (hc : m ≤ cap) (hown : w.ownsRow base 9 1 vl n.length (n.map sv)) (hsz : szN n ≤ 255) (hqp : q ≤ p) (hp : p < b.length) (y : UInt8) (hy : b[p] = y) (h00 : y.toNat = 0) :
    Calls Tryz.prog 91 #[.pointer (some ⟨g, 0, none⟩)] w (Stepped base w g (.slice A m cap) b p q x n) := by
  unfold maxLen at hm
  have h0 := h.c0
  have h1 := h.c1
  have HG := Lib.hid (get_quiet hbl hm hc (getL_one hp) hrow)
  have HE := Lib.hid (getR_zero (q := q) (x := x) (n := n) hp (by rw [hy]; exact h00))
  rw [hy, h00] at HG
  have HB := Lib.hid (fun W hr => behind_any base W g (.slice A m cap) p q x (szN n) vl d (p + 1) hg hr)
  rw [show ((p + 1 : Nat) : Int) = (p : Int) + 1 by omega] at HB
  have HR := Lib.hid h
  have HO := Lib.hid hown
  have hne := own_not_whole hown h (by decide)
  have HN := Lib.hid hne
  have hp' : p < m := by rw [← hbl]; exact hp
  have hpl : p ≤ b.length := Nat.le_of_lt hp
  clear h hbl hrow hy hp h00 hown hne
  go_enter Tryz.func91, Tryz.ntmps91
  go_wp2
  go_quiet ((go_at_call 54; exact HG.out _))
  go_wp2_with fail
  refine (HB.out (w.drewN nq) (HR.out.drewN nq)).mono ?_
  rintro e w1 ⟨rfl, hr1, hb1, hj1⟩
  have f6 : w1.frozen? ⟨g, 6, none⟩ = false := hr1.frozen 6
  have c6' := RD.c6 hr1
  have HR1 := Lib.hid hr1
  have HB1 := Lib.hid hb1
  have HO1 := Lib.hid (own_keep (w := w) (w' := w1) HO.out fun j hj => hj1 j (fun e => HN.out (by rw [hj, e])))
  clear hr1 hb1 hj1
  go_wp2
  go_ret
  refine ⟨((below_drewN' (Below.refl base w) nq).trans HB1.out).trans (below_set hg _ _), .inr ⟨rfl, vl, _, _, _, n, true, RD.set6 HR1.out true, own_set_far HO1.out HN.out _, hsz, ⟨hpl, hqp⟩, ?_⟩⟩
  rw [if_pos rfl]
  exact HE.out

end Go.Proofs.YtjkjhpaeckkpjaaGreat

namespace Go.Proofs.YtjkjhpaeckkpjaaGreat
open Go.RowKit

theorem Stepped.drew {base : Nat} {w : World} {g : Nat} {vb : Value} {b : List UInt8} {p q x : Nat} {n : List (List UInt8)} {e : Ending} {w' : World} {k : Nat} (h : Stepped base (w.drewN k) g vb b p q x n e w') : Stepped base w g vb b p q x n e w' :=
  ⟨(below_drewN' (Below.refl base w) k).trans h.1, h.2⟩

set_option maxHeartbeats 1000000 in
theorem step_label (base : Nat) (w : World) (g : Nat) (bb off m cap : Nat) (b : List UInt8) (p q x : Nat) (vl : Value) (n : List (List UInt8)) (hg : base ≤ g) (h : RD w g (.slice (some ⟨bb, off, none⟩) m cap) p q x (szN n) vl false)
    (hbl : b.length = m) (hrow : Row w base (some ⟨bb, off, none⟩) (b.map bc)) (hcap : cap ≤ maxLen) (hc : m ≤ cap) (hown : w.ownsRow base 9 1 vl n.length (n.map sv)) (hz : base ≤ w.heap.size) (hsz : szN n ≤ 255) (hqp : q ≤ p)
    (hp : p < b.length) (y : UInt8) (hy : b[p] = y) (h00 : y.toNat ≠ 0) (h64 : y.toNat < 64) :
    Calls Tryz.prog 91 #[.pointer (some ⟨g, 0, none⟩)] w (Stepped base w g (.slice (some ⟨bb, off, none⟩) m cap) b p q x n) := by
  have hm : m ≤ maxLen := Nat.le_trans hc hcap
  have h0 := h.c0
  have h1 := h.c1
  have HG := Lib.hid (get_quiet hbl hm hc (getL_one hp) hrow)
  rw [hy] at HG
  have hp' : p < m := by rw [← hbl]; exact hp
  have key : ∀ W, RD W g (.slice (some ⟨bb, off, none⟩) m cap) p q x (szN n) vl false → Row W base (some ⟨bb, off, none⟩) (b.map bc) → W.ownsRow base 9 1 vl n.length (n.map sv) → base ≤ W.heap.size →
      Calls Tryz.prog 97 #[.pointer (some ⟨g, 0, none⟩), .int .i64 ((p : Int) + 1), .int .i64 (y.toNat : Int)] W (fun e w' => ∃ k : Int, e = .returned (.int .i64 k) ∧ Stepped base W g (.slice (some ⟨bb, off, none⟩) m cap) b p q x n e w') := by
    intro W hr hrw ho hzz
    rw [show (p : Int) + 1 = ((p + 1 : Nat) : Int) by omega]
    by_cases hs : p + 1 + y.toNat ≤ m
    · by_cases hl : szN n + 1 + y.toNat ≤ 255
      · refine (label_ok base W g bb off m cap b p q x (p + 1) y.toNat vl n false hg hr hbl hrw ho hzz hc hcap (by omega) h64 hs hl).mono ?_
        rintro e w' ⟨rfl, vl', h2, h3, h4⟩
        refine ⟨0, rfl, h4, .inr ⟨rfl, vl', _, _, _, _, false, h2, h3, ?_, ⟨by rw [hbl]; exact hs, by omega⟩, ?_⟩⟩
        · rw [szN_snoc, length_cutL (by rw [hbl]; exact hs)]; omega
        · rw [if_neg (by decide), getR_label hp (by rw [hy]; exact h00) (by rw [hy]; exact h64) (by rw [hy, hbl]; exact hs) (by rw [hy]; omega)]
          rw [hy]
          refine ⟨rfl, .inr ⟨rfl, ?_⟩⟩
          rw [szN_snoc]; omega
      · refine (label_long base W g _ m cap p q x (szN n) (p + 1) y.toNat vl false hg hr hm h64 hs hsz (by omega)).mono ?_
        rintro e w' ⟨rfl, h4, vl', p', q', x', s', d', h5⟩
        refine ⟨5, rfl, h4, .inl ⟨5, by decide, rfl, ?_, ?_⟩⟩
        · exact getR_long hp (by rw [hy]; exact h00) (by rw [hy]; exact h64) (by rw [hy, hbl]; exact hs) (by rw [hy]; omega)
        · exact ⟨_, _, _, _, _, _, h5⟩
    · refine (label_short base W g _ m cap p q x (szN n) (p + 1) y.toNat vl false hr hm h64 (by omega)).mono ?_
      rintro e w' ⟨rfl, h4, vl', p', q', x', s', d', h5⟩
      refine ⟨3, rfl, h4, .inl ⟨3, by decide, rfl, ?_, ?_⟩⟩
      · exact getR_short hp (by rw [hy]; exact h00) (by rw [hy]; exact h64) (by rw [hy, hbl]; omega)
      · exact ⟨_, _, _, _, _, _, h5⟩
  have HK := Lib.hid key
  have HR := Lib.hid h
  have HO := Lib.hid hown
  have HW := Lib.hid hrow
  clear h hbl hrow hy hp hown key
  generalize y.toNat = c at *
  have t0 : ((c : Int) == 0) = false := by rw [beq_eq_false_iff_ne]; omega
  have t1 : decide ((c : Int) ≤ 63) = true := by simp; omega
  have hpm : (p : Int) < 9223372036854775807 := by unfold maxLen at hm; omega
  go_enter Tryz.func91, Tryz.ntmps91
  go_wp2
  go_quiet ((go_at_call 54; exact HG.out _))
  go_wp2_with fail
  refine (HK.out (w.drewN nq) (HR.out.drewN nq) (HW.out.drewN nq) HO.out hz).mono ?_
  rintro e w1 ⟨k, rfl, hst⟩
  have HS := Lib.hid hst
  clear hst
  go_wp2
  go_ret
  exact Stepped.drew HS.out

set_option maxHeartbeats 1000000 in
theorem step_ptr (base : Nat) (w : World) (g : Nat) (A : Option Addr) (m cap : Nat) (b : List UInt8) (p q x : Nat) (vl : Value) (n : List (List UInt8)) (hg : base ≤ g) (h : RD w g (.slice A m cap) p q x (szN n) vl false)
    (hbl : b.length = m) (hrow : Row w base A (b.map bc)) (hm : m ≤ maxLen) (hc : m ≤ cap) (hown : w.ownsRow base 9 1 vl n.length (n.map sv)) (hsz : szN n ≤ 255) (hqp : q ≤ p)
    (hp : p < b.length) (y : UInt8) (hy : b[p] = y) (h192 : 192 ≤ y.toNat) :
    Calls Tryz.prog 91 #[.pointer (some ⟨g, 0, none⟩)] w (Stepped base w g (.slice A m cap) b p q x n) := by
  have h0 := h.c0
  have h1 := h.c1
  have HG := Lib.hid (get_quiet hbl hm hc (getL_one hp) hrow)
  rw [hy] at HG
  have key : ∀ W, RD W g (.slice A m cap) p q x (szN n) vl false → Row W base A (b.map bc) → W.ownsRow base 9 1 vl n.length (n.map sv) →
      Calls Tryz.prog 98 #[.pointer (some ⟨g, 0, none⟩)] W (fun e w' => ∃ k : Int, e = .returned (.int .i64 k) ∧ Stepped base W g (.slice A m cap) b p q x n e w') := by
    intro W hr hrw ho
    by_cases hs : p + 1 < b.length
    · obtain ⟨z, hz⟩ : ∃ z, b[p + 1] = z := ⟨_, rfl⟩
      by_cases hq : toR y z < q
      · refine (follow_ok base W g A m cap b p q x (szN n) vl false hg hr hbl hrw hm hc hp hs y z hy hz h192 hq).mono ?_
        rintro e w' ⟨rfl, h2, h3, h4⟩
        have hpz := getR_ptr (x := x) (n := n) hp hs (by rw [hy]; exact h192) (by rw [hy, hz]; exact hq)
        rw [hy, hz] at hpz
        refine ⟨0, rfl, h3, .inr ⟨rfl, vl, _, _, _, n, false, h2, own_keep ho fun j hj => h4 j (fun e => own_not_whole ho hr (by decide) (by rw [hj, e])), hsz, ?_, ?_⟩⟩
        · exact ⟨by omega, Nat.le_refl _⟩
        · rw [if_neg (by decide)]
          exact ⟨hpz, .inl hq⟩
      · refine (follow_loop base W g A m cap b p q x (szN n) vl false hr hbl hrw hm hc hp hs y z hy hz h192 (by omega)).mono ?_
        rintro e w' ⟨rfl, k, rfl⟩
        exact ⟨6, rfl, below_drewN' (Below.refl base W) k, .inl ⟨6, by decide, rfl, getR_loop hp hs (by rw [hy]; exact h192) (by rw [hy, hz]; omega), _, _, _, _, _, _, hr.drewN k⟩⟩
    · refine (follow_short base W g A m cap b p q x (szN n) vl false hr hbl hrw hm hc (by omega)).mono ?_
      rintro e w' ⟨rfl, k, rfl⟩
      exact ⟨3, rfl, below_drewN' (Below.refl base W) k, .inl ⟨3, by decide, rfl, getR_half hp (by rw [hy]; exact h192) (by omega), _, _, _, _, _, _, hr.drewN k⟩⟩
  have HK := Lib.hid key
  have HR := Lib.hid h
  have HO := Lib.hid hown
  have HW := Lib.hid hrow
  clear h hbl hrow hy hp hown key
  generalize y.toNat = c at *
  have t0 : ((c : Int) == 0) = false := by rw [beq_eq_false_iff_ne]; omega
  have t1 : decide ((c : Int) ≤ 63) = false := by simp; omega
  have t2 : decide ((c : Int) < 192) = false := by simp; omega
  go_enter Tryz.func91, Tryz.ntmps91
  go_wp2
  go_quiet ((go_at_call 54; exact HG.out _))
  go_wp2_with fail
  refine (HK.out (w.drewN nq) (HR.out.drewN nq) (HW.out.drewN nq) HO.out).mono ?_
  rintro e w1 ⟨k, rfl, hst⟩
  have HS := Lib.hid hst
  clear hst
  go_wp2
  go_ret
  exact Stepped.drew HS.out

theorem step_any (base : Nat) (w : World) (g : Nat) (A : Option Addr) (m cap : Nat) (b : List UInt8) (p q x : Nat) (vl : Value) (n : List (List UInt8)) (hg : base ≤ g) (h : RD w g (.slice A m cap) p q x (szN n) vl false)
    (hbl : b.length = m) (hrow : Row w base A (b.map bc)) (hcap : cap ≤ maxLen) (hc : m ≤ cap) (hown : w.ownsRow base 9 1 vl n.length (n.map sv)) (hz : base ≤ w.heap.size) (hsz : szN n ≤ 255) (hqp : q ≤ p) :
    Calls Tryz.prog 91 #[.pointer (some ⟨g, 0, none⟩)] w (Stepped base w g (.slice A m cap) b p q x n) := by
  have hm : m ≤ maxLen := Nat.le_trans hc hcap
  by_cases hp : p < b.length
  · obtain ⟨y, hy⟩ : ∃ y, b[p] = y := ⟨_, rfl⟩
    by_cases h1 : y.toNat = 0
    · exact step_zero base w g A m cap b p q x vl n false hg h hbl hrow hm hc hown hsz hqp hp y hy h1
    · by_cases h2 : y.toNat < 64
      · obtain ⟨bb, off, rfl, _⟩ := hrow.some_ (by rw [List.length_map]; omega)
        exact step_label base w g bb off m cap b p q x vl n hg h hbl hrow hcap hc hown hz hsz hqp hp y hy h1 h2
      · by_cases h3 : y.toNat < 192
        · exact step_bad base w g A m cap b p q x vl n false h hbl hrow hm hc hp y hy (by omega) h3
        · exact step_ptr base w g A m cap b p q x vl n hg h hbl hrow hm hc hown hsz hqp hp y hy (by omega)
  · exact step_end base w g A m cap b p q x vl n false h hbl hrow hm hc (by omega)

end Go.Proofs.YtjkjhpaeckkpjaaGreat

namespace Go.Proofs.YtjkjhpaeckkpjaaGreat
open Go.RowKit

/-- The call answers what is read: a name in new memory, a place, an error. -/
def Read (w : World) (r : List (List UInt8) × Nat × Nat) (e : Ending) (w' : World) : Prop :=
  ∃ v, e = .returned (.tuple #[v, .int .i64 r.2.1, .int .i64 r.2.2]) ∧ w'.ownsRow w.heap.size 9 1 v r.1.length (r.1.map sv) ∧ Below w.heap.size w w'

/-- At the loop's head: what is still to be read, or the error. -/
def WGetRel (w : World) (g : Nat) (vb : Value) (b : List UInt8) (a : Nat) (e : Value) (wr : World) : Prop :=
  ∃ k p q x s vl d, e = .int .i64 (k : Nat) ∧ RD wr g vb p q x s vl d ∧ Below w.heap.size w wr ∧ w.heap.size ≤ wr.heap.size ∧
    (if k = 0 then ∃ n, s = szN n ∧ szN n ≤ 255 ∧ q ≤ p ∧ p ≤ max a b.length ∧ wr.ownsRow w.heap.size 9 1 vl n.length (n.map sv) ∧ (if d = true then getR b a a 0 [] = (n, x, 0) else getR b a a 0 [] = getR b p q x n)
     else getR b a a 0 [] = ([], 0, k))

def doneV : Option Value → Bool
  | some (.bool false) => false
  | _ => true
def numV : Option Value → Nat
  | some v => (intOf v).toNat
  | none => 0
/-- What is left to read, as a number. -/
def leftR (g : Nat) (e : Value) (wr : World) : Nat :=
  if intOf e = 0 then (if doneV (wr.cell? ⟨g, 6, none⟩) = true then 0 else 1 + numV (wr.cell? ⟨g, 2, none⟩) * 256 + (255 - numV (wr.cell? ⟨g, 4, none⟩))) else 0
section
variable {wr : World} {g : Nat} {vb : Value} {p q x s : Nat} {vl : Value} {d : Bool}
theorem leftR_on (h : RD wr g vb p q x s vl false) : leftR g (.int .i64 0) wr = 1 + q * 256 + (255 - s) := by
  simp [leftR, h.c2, h.c4, h.c6, doneV, numV, intOf]
theorem leftR_off (h : RD wr g vb p q x s vl true) : leftR g (.int .i64 0) wr = 0 := by
  simp [leftR, h.c6, doneV, intOf]
theorem leftR_err {k : Nat} (hk : k ≠ 0) : leftR g (.int .i64 (k : Int)) wr = 0 := by
  simp [leftR, intOf, hk]
end

set_option maxHeartbeats 1000000 in
theorem wget_at (A : Option Addr) (m cap : Nat) (b : List UInt8) (a : Nat) (w : World) (hbl : b.length = m) (hrow : Row w w.heap.size A (b.map bc)) (hcap : cap ≤ maxLen) (hc : m ≤ cap) (_ha : a ≤ 9223372036854775807) :
    Calls Tryz.prog 78 #[.slice A m cap, .int .i64 a] w (Read w (getR b a a 0 [])) := by
  have HS := Lib.hid (fun W p q x vl n hr hrw ho hz hsz hqp => step_any w.heap.size W w.heap.size A m cap b p q x vl n (Nat.le_refl _) hr hbl hrw hcap hc ho hz hsz hqp)
  have HW := Lib.hid hrow
  have hcl : cap ≤ maxLen := hcap
  clear hrow hbl
  go_enter Tryz.func78, Tryz.ntmps78
  go_wp2
  go_loopw [6] (WGetRel w w.heap.size (.slice A m cap) b a) (fun e wr => leftR w.heap.size e wr)
  case atStart =>
    refine ⟨0, a, a, 0, 1, .slice none 0 0, false, rfl, heap_alloc_new w _, (Below.refl _ _).alloc (Nat.le_refl _) _, by simp, ?_⟩
    rw [if_pos rfl]
    exact ⟨[], rfl, by decide, Nat.le_refl _, by omega, World.ownsRow_nil _ _ _ _, by rw [if_neg (by decide)]⟩
  case round =>
    obtain ⟨k, p, q, x, s, vl, d, rfl, hr, hb, hz, hk⟩ := hrel
    by_cases hk0 : k = 0
    · subst hk0
      rw [if_pos rfl] at hk
      obtain ⟨n, rfl, hsz, hqp, hpl, ho, hgr⟩ := hk
      have c6 := hr.c6
      cases d
      · rw [if_neg (by decide)] at hgr
        have HR := Lib.hid hr
        have HB := Lib.hid hb
        have HO := Lib.hid ho
        have HGR := Lib.hid hgr
        clear hr hb ho hgr
        go_wp2_with fail
        refine (HS.out wr p q x vl n HR.out (HW.out.below HB.out) HO.out hz hsz hqp).mono ?_
        rintro e w1 ⟨hb1, h1⟩
        have HB1 := Lib.hid (HB.out.trans hb1)
        have hz1 : w.heap.size ≤ w1.heap.size := Nat.le_trans hz hb1.size
        clear hb1
        rcases h1 with ⟨k, hk, rfl, hg1, vl', p', q', x', s', d', hr1⟩ | ⟨rfl, vl', p', q', x', n', d', hr1, ho1, hsz1, ⟨hp1, hq1⟩, hg1⟩
        · have HG1 := Lib.hid (HGR.out.trans hg1)
          have HR1 := Lib.hid hr1
          clear hg1 hr1
          go_wp2
          refine ⟨⟨k, p', q', x', s', vl', d', rfl, HR1.out, HB1.out, hz1, by rw [if_neg hk]; exact HG1.out⟩, ?_⟩
          show leftR w.heap.size (.int .i64 (k : Int)) w1 < leftR w.heap.size (.int .i64 0) wr
          rw [leftR_err hk, leftR_on HR.out]
          omega
        · have HG1 := Lib.hid hg1
          have HR1 := Lib.hid hr1
          have HO1 := Lib.hid ho1
          clear hg1 hr1 ho1
          go_wp2
          refine ⟨⟨0, p', q', x', _, vl', d', rfl, HR1.out, HB1.out, hz1, ?_⟩, ?_⟩
          · rw [if_pos rfl]
            refine ⟨n', rfl, hsz1, hq1, by omega, HO1.out, ?_⟩
            have h := HG1.out
            split
            · rename_i hd
              rw [if_pos hd] at h
              exact HGR.out.trans h
            · rename_i hd
              rw [if_neg hd] at h
              exact HGR.out.trans h.1
          · have h := HG1.out
            have hl := leftR_on HR.out
            cases d'
            · rw [if_neg (by decide)] at h
              have hl1 := leftR_on HR1.out
              show leftR w.heap.size (.int .i64 0) w1 < leftR w.heap.size (.int .i64 0) wr
              rw [hl, hl1]
              omega
            · have hl1 := leftR_off HR1.out
              show leftR w.heap.size (.int .i64 0) w1 < leftR w.heap.size (.int .i64 0) wr
              rw [hl, hl1]
              omega
      · rw [if_pos rfl] at hgr
        have h3 := hr.c3
        have h5 := hr.c5
        have HR := Lib.hid hr
        have HB := Lib.hid hb
        have HO := Lib.hid ho
        have HGR := Lib.hid hgr
        clear hr hb ho hgr
        go_wp2
        go_quiet (fail)
        go_wp2
        go_ret3
        exact ⟨vl, by rw [HGR.out]; rfl, by rw [HGR.out]; exact HO.out, below_drewN' HB.out _⟩
    · rw [if_neg hk0] at hk
      have c6 := hr.c6
      have t1 : ((k : Int) == 0) = false := by rw [beq_eq_false_iff_ne]; omega
      have t2 : ((k : Int) != 0) = true := by rw [bne_iff_ne]; omega
      have HB := Lib.hid hb
      have HK := Lib.hid hk
      clear hr hb hk hk0
      cases d
      all_goals
        go_wp2
        go_ret3
        exact ⟨.slice none 0 0, by rw [HK.out]; rfl, by rw [HK.out]; exact World.ownsRow_nil _ _ _ _, HB.out⟩

set_option maxHeartbeats 400000 in
theorem step_neg (g : Nat) (A : Option Addr) (m cap : Nat) (a : Int) (w : World) (c0 : w.cell? ⟨g, 0, none⟩ = some (.slice A m cap)) (c1 : w.cell? ⟨g, 1, none⟩ = some (.int .i64 a)) (ha : a < 0) :
    Calls Tryz.prog 91 #[.pointer (some ⟨g, 0, none⟩)] w (Drewn w (.int .i64 1)) := by
  have hG : ∀ k, Calls Tryz.prog 54 #[.slice A m cap, .int .i64 a, .int .i64 1] (w.drewN k) fun e w' => e = .returned (.tuple #[.int .i64 0, .int .i64 1]) ∧ ∃ j, w' = w.drewN j :=
    fun k => (get_arg A m cap a 1 (w.drewN k) (.inr ha)).mono fun e w' ⟨he, hw⟩ => ⟨he, k, hw.symm⟩
  have HG := Lib.hid hG
  clear hG
  go_enter Tryz.func91, Tryz.ntmps91
  go_wp2
  go_quiet ((go_at_call 54; exact HG.out _))
  go_wp2
  go_ret
  exact ⟨rfl, _, rfl⟩

def NegRel (w : World) (g : Nat) (A : Option Addr) (m cap : Nat) (a : Int) (e : Value) (wr : World) : Prop :=
  ∃ k : Nat, k ≤ 1 ∧ e = .int .i64 k ∧ wr.cell? ⟨g, 0, none⟩ = some (.slice A m cap) ∧ wr.cell? ⟨g, 1, none⟩ = some (.int .i64 a) ∧ wr.cell? ⟨g, 6, none⟩ = some (.bool false) ∧ Below w.heap.size w wr

set_option maxHeartbeats 400000 in
theorem wget_neg (A : Option Addr) (m cap : Nat) (a : Int) (w : World) (ha : a < 0) :
    Calls Tryz.prog 78 #[.slice A m cap, .int .i64 a] w (Read w ([], 0, 1)) := by
  go_enter Tryz.func78, Tryz.ntmps78
  go_wp2
  go_loopw [6] (NegRel w w.heap.size A m cap a) (fun e _ => if intOf e = 0 then 1 else 0)
  case atStart =>
    have h (i : Nat) : (w.alloc (.cells #[.slice A m cap, .int .i64 a, .int .i64 a, .int .i64 0, .int .i64 1, .slice none 0 0, .bool false] 131)).cell? ⟨w.heap.size, i, none⟩ = [.slice A m cap, .int .i64 a, .int .i64 a, .int .i64 0, .int .i64 1, .slice none 0 0, .bool false][i]? :=
      Whole.cell (Whole.made w [.slice A m cap, .int .i64 a, .int .i64 a, .int .i64 0, .int .i64 1, .slice none 0 0, .bool false] 131) i
    exact ⟨0, by omega, rfl, h 0, h 1, h 6, (Below.refl _ _).alloc (Nat.le_refl _) _⟩
  case round =>
    obtain ⟨k, hk, rfl, c0, c1, c6, hb⟩ := hrel
    have HB := Lib.hid hb
    clear hb
    by_cases hk0 : k = 0
    · subst hk0
      go_wp2_with fail
      refine (step_neg w.heap.size A m cap a wr c0 c1 ha).mono ?_
      rintro e w1 ⟨rfl, j, rfl⟩
      go_wp2
      exact ⟨⟨1, by omega, rfl, c0, c1, c6, below_drewN' HB.out _⟩, by simp [intOf]⟩
    · obtain rfl : k = 1 := by omega
      go_wp2
      go_ret3
      exact ⟨.slice none 0 0, rfl, World.ownsRow_nil _ _ _ _, HB.out⟩

theorem wget_any (A : Option Addr) (m cap : Nat) (b : List UInt8) (a : Int) (w : World) (hbl : b.length = m) (hrow : Row w w.heap.size A (b.map bc)) (hcap : cap ≤ maxLen) (hc : m ≤ cap) (ha : a ≤ 9223372036854775807) :
    Calls Tryz.prog 78 #[.slice A m cap, .int .i64 a] w (Read w (getW b a)) := by
  by_cases h : a < 0
  · rw [getW_neg h]
    exact wget_neg A m cap a w h
  · obtain ⟨n, rfl⟩ : ∃ n : Nat, a = n := ⟨a.toNat, by omega⟩
    rw [getW_at]
    exact wget_at A m cap b n w hbl hrow hcap hc (by omega)

end Go.Proofs.YtjkjhpaeckkpjaaGreat

namespace Go.Proofs.YtjkjhpaeckkpjaaGreat
open Go.RowKit

/-- What a reader's call leaves: it stands at a place and answers a value, or gives up. -/
def Outc {α : Type} (w : World) (g : Nat) (vb : Value) (en : Nat) (r : Except Nat (α × Nat)) (V : α → Value → World → Prop) (e : Ending) (w' : World) : Prop :=
  GrewG g w w' ∧ match r with
  | .ok x => ∃ v, e = .returned v ∧ RB w' g vb x.2 en ∧ V x.1 v w'
  | .error k => e = gaveE k
theorem Outc.ok {α : Type} {w : World} {g : Nat} {vb : Value} {en p' : Nat} {r : Except Nat (α × Nat)} {x : α} {V : α → Value → World → Prop} {v : Value} {w' : World} (hr : r = .ok (x, p')) (hg : GrewG g w w') (h : RB w' g vb p' en) (hv : V x v w') :
    Outc w g vb en r V (.returned v) w' := by
  subst hr
  exact ⟨hg, v, rfl, h, hv⟩
theorem Outc.err {α : Type} {w : World} {g : Nat} {vb : Value} {en k : Nat} {r : Except Nat (α × Nat)} {V : α → Value → World → Prop} {w' : World} (hr : r = .error k) (hg : GrewG g w w') : Outc w g vb en r V (gaveE k) w' := by
  subst hr
  exact ⟨hg, rfl⟩
theorem Outc.cases {α : Type} {w : World} {g : Nat} {vb : Value} {en : Nat} {r : Except Nat (α × Nat)} {V : α → Value → World → Prop} {e : Ending} {w' : World} (h : Outc w g vb en r V e w') :
    GrewG g w w' ∧ ((∃ x p' v, r = .ok (x, p') ∧ e = .returned v ∧ RB w' g vb p' en ∧ V x v w') ∨ ∃ k, r = .error k ∧ e = gaveE k) := by
  obtain ⟨hg, h⟩ := h
  refine ⟨hg, ?_⟩
  rcases r with k | ⟨x, p'⟩
  · exact .inr ⟨k, rfl, h⟩
  · obtain ⟨v, h1, h2, h3⟩ := h
    exact .inl ⟨x, p', v, rfl, h1, h2, h3⟩

/-- k numbers of s bytes from p on. -/
def numsL (b : List UInt8) (p s : Nat) : Nat → List Int
  | 0 => []
  | k + 1 => numsL b p s k ++ [(numN (cutL b (p + k * s) s) : Int)]
theorem length_numsL (b : List UInt8) (p s : Nat) : ∀ k, (numsL b p s k).length = k
  | 0 => rfl
  | k + 1 => by simp [numsL, length_numsL b p s k]

/-- What is read of k numbers. -/
def numsR (b : List UInt8) (p en s k : Nat) : Except Nat (List Int × Nat) := if p + k * s ≤ en then .ok (numsL b p s k, p + k * s) else .error 3
/-- A slice of the call's own, which reads as the numbers. -/
def OwnI (B : Nat) (l : List Int) (v : Value) (w : World) : Prop := w.ownsRow B 3 1 v l.length (l.map zv)
/-- A slice of the call's own, which reads as the strings. -/
def OwnT (B : Nat) (l : List (List UInt8)) (v : Value) (w : World) : Prop := w.ownsRow B 9 1 v l.length (l.map sv)
/-- A slice of the call's own, which reads as the bytes. -/
def OwnB (B : Nat) (l : List UInt8) (v : Value) (w : World) : Prop := w.ownsRow B 5 1 v l.length (l.map bc)

def NumsRel (w : World) (g : Nat) (vb : Value) (b : List UInt8) (p s en k : Nat) (v i : Value) (wr : World) : Prop :=
  ∃ j : Nat, j ≤ k ∧ i = .int .i64 j ∧ p + j * s ≤ en ∧ RB wr g vb (p + j * s) en ∧ wr.ownsRow w.heap.size 3 1 v j ((numsL b p s j).map zv) ∧ GrewG g w wr

set_option maxRecDepth 4000 in
set_option maxHeartbeats 1000000 in
theorem nums_any (w : World) (g : Nat) (A : Option Addr) (m cap base : Nat) (b : List UInt8) (p en s k : Nat) (h : RB w g (.slice A m cap) p en) (hbl : b.length = m) (hrow : Row w base A (b.map bc)) (hbg : base ≤ g) (hm : m ≤ cap) (hc : cap ≤ maxLen) (hen : en ≤ m)
    (hp : p ≤ en) (h1 : 1 ≤ s) (h2 : s ≤ 7) (hk : k ≤ 10) :
    Calls Tryz.prog 102 #[.pointer (some ⟨g, 0, none⟩), .int .i64 k, .int .i64 s] w
      (Outc w g (.slice A m cap) en (numsR b p en s k) (OwnI w.heap.size)) := by
  obtain ⟨i0, hi0, hz0, hz1, hz2⟩ := info_parts zint_info
  have hgl := h.lt
  have HOK := Lib.hid (fun W q hr hw hq => dnum_ok W g A m cap base b q en s hr hbl hw hm hc hen h1 h2 hq)
  have HNO := Lib.hid (fun W q hr hw hq => dnum_short W g A m cap base b q en s hr hbl hw hm hc hen h1 h2 hq)
  have HW := Lib.hid hrow
  have HR := Lib.hid h
  clear h hrow hbl
  go_enter Tryz.func102, Tryz.ntmps102
  go_wp2
  go_loopw [7, 9] (NumsRel w g (.slice A m cap) b p s en k) (fun _ i _ => k - (intOf i).toNat)
  case atStart =>
    exact ⟨0, Nat.zero_le _, rfl, by omega, by rw [Nat.zero_mul, Nat.add_zero]; exact HR.out, World.ownsRow_nil _ _ _ _, Grew.refl _ _⟩
  case round =>
    obtain ⟨j, hj, rfl, hpj, hr, ho, hg⟩ := hrel
    obtain ⟨Av, cv, rfl, _, hcv⟩ := own_form ho
    have HRJ := Lib.hid hr
    have HO := Lib.hid ho
    have HG := Lib.hid hg
    have HWJ := Lib.hid (HW.out.below (hg.below (fun q e => by subst e; exact hbg) (by omega)))
    have hsz : w.heap.size ≤ wr.heap.size := hg.size
    clear hr ho hg
    by_cases hjk : j < k
    · by_cases hfit : p + j * s + s ≤ en
      · have e1 : (j + 1) * s = j * s + s := Nat.succ_mul j s
        go_wp2_with fail
        refine (HOK.out wr _ HRJ.out HWJ.out hfit).mono ?_
        rintro e w1 ⟨rfl, hr1, hg1⟩
        have HR1 := Lib.hid hr1
        have HO1 := Lib.hid (own_grew HO.out hg1 fun q hq e => by subst e; have := (HO.out.lt q hq).1; omega)
        have HG1 := Lib.hid (HG.out.trans hg1 fun q hq => .inl hq)
        have hsz1 : w.heap.size ≤ w1.heap.size := HG1.out.size
        have hrm := Row.made w1 #[.int .i64 (numN (cutL b (p + j * s) s) : Nat)] 3
        have HRM := Lib.hid hrm
        clear hr1 hg1 hrm
        go_wp2_with (
          at_builtin
          refine wpList_append_at rfl (.tmp 11) (.tmp 15) _ rfl w.heap.size 3 i0 _ 1 8 Tryz.underlying38 hi0 hz0 hz1 hz2 rfl (by omega) (.slice Av j cv) j _ rfl (HO1.out.alloc _)
            (some ⟨w1.heap.size, 0, none⟩) 1 1 (w1.heap.size + 1) [.int .i64 (numN (cutL b (p + j * s) s) : Nat)] rfl rfl HRM.out (by simp [Value.oneCell']) (by unfold maxLen; omega) (by omega) (by simp; omega) ?_
          intro v2 w2 hown2 hg2 hat2)
        refine ⟨⟨j + 1, by omega, by go_num, by omega, ?_, ?_, ?_⟩, ?_⟩
        · rw [e1, ← Nat.add_assoc]
          have h3 : RB (w1.alloc (.cells #[.int .i64 (numN (cutL b (p + j * s) s) : Nat)] 3)) g (.slice A m cap) (p + j * s + s) en := HR1.out.alloc _
          refine h3.grown hg2 ?_
          intro e
          have := (HO1.out.lt g e.symm).1
          omega
        · rw [numsL, List.map_append]
          exact hown2
        · exact (HG1.out.alloc _).grown hg2 fun q e => .inr (HO1.out.lt q e).1
        · simp [intOf]; omega
      · have hno : ¬ p + k * s ≤ en := by
          have : (j + 1) * s ≤ k * s := Nat.mul_le_mul_right s hjk
          have e1 : (j + 1) * s = j * s + s := Nat.succ_mul j s
          omega
        go_wp2_with fail
        refine (HNO.out wr _ HRJ.out HWJ.out (by omega)).mono ?_
        rintro e w1 ⟨rfl, hg1⟩
        exact ⟨rfl, Outc.err (by rw [numsR, if_neg hno]) (HG.out.trans hg1 fun q hq => .inl hq)⟩
    · obtain rfl : j = k := by omega
      go_wp2
      go_ret
      exact Outc.ok (by rw [numsR, if_pos hpj]) HG.out HRJ.out (by unfold OwnI; rw [length_numsL]; exact HO.out)

/-- What is read of a name, up to an end. -/
def nameF (r : List (List UInt8) × Nat × Nat) (en : Nat) : Except Nat (List (List UInt8) × Nat) := if r.2.2 ≠ 0 then .error r.2.2 else if en < r.2.1 then .error 3 else .ok (r.1, r.2.1)
def nameR (b : List UInt8) (p en : Nat) : Except Nat (List (List UInt8) × Nat) := nameF (getR b p p 0 []) en

set_option maxHeartbeats 1000000 in
theorem rname_read (w : World) (g : Nat) (A : Option Addr) (m cap base : Nat) (b : List UInt8) (p en : Nat) (h : RB w g (.slice A m cap) p en) (hbl : b.length = m) (hrow : Row w base A (b.map bc)) (hbg : base ≤ w.heap.size) (hm : m ≤ cap) (hc : cap ≤ maxLen) (hen : en ≤ m)
    (hp : p ≤ en) :
    Calls Tryz.prog 103 #[.pointer (some ⟨g, 0, none⟩)] w (Outc w g (.slice A m cap) en (nameR b p en) (OwnT w.heap.size)) := by
  have HG := Lib.hid (fun W hr => wget_at A m cap b p W hbl hr hc hm (by unfold maxLen at hc; omega))
  unfold nameR
  generalize getR b p p 0 [] = r at HG
  obtain ⟨n, x, k⟩ := r
  have c0 := h.c0
  have c1 := h.c1
  have hgl := h.lt
  have HW := Lib.hid (hrow.mono hbg)
  have HR := Lib.hid h
  clear h hrow hbl
  go_enter Tryz.func103, Tryz.ntmps103
  go_wp2
  go_region_held3 (fun w' => w'.cell? ⟨g, 0, none⟩ = some (.slice A m cap) ∧ w'.cell? ⟨g, 1, none⟩ = some (.int .i64 p))
    (first | exact ⟨c0, c1⟩ | exact ⟨C0.out, C1.out⟩)
    ((go_at_call 78
      refine (HG.out w.drew HW.out).mono ?_
      rintro e w1 ⟨v, rfl, ho, hb⟩
      obtain ⟨Av, cv, rfl, _, _⟩ := own_form ho
      have C0 := Lib.hid ((hb.cell (p := ⟨g, 0, none⟩) hgl).trans c0)
      have C1 := Lib.hid ((hb.cell (p := ⟨g, 1, none⟩) hgl).trans c1)
      have HB := Lib.hid (show Below w.heap.size w w1 from ((Below.refl _ w).drew).trans hb)
      have HO := Lib.hid ho
      clear ho hb))
  have hr1 : RB w1 g (.slice A m cap) p en := HR.out.below HB.out hgl
  have c2 := hr1.c2
  have f1 : w1.frozen? ⟨g, 1, none⟩ = false := Whole.frozen hr1 1
  have HR1 := Lib.hid hr1
  have HGW := Lib.hid (show GrewG g w w1 from Grew.all HB.out)
  clear hr1 C0 C1 c0 c1
  by_cases hk : k = 0
  · subst hk
    by_cases hx : en < x
    · have d1 : decide ((en : Int) < (x : Int)) = true := by simp; omega
      go_wp2_with fail
      refine (giveUp_any _ _).mono ?_
      rintro e w' ⟨rfl, rfl⟩
      exact ⟨rfl, Outc.err (by simp [nameF, hx]) HGW.out⟩
    · have d1 : decide ((en : Int) < (x : Int)) = false := by simp; omega
      go_wp2
      go_ret
      exact Outc.ok (by simp [nameF, hx]) (Grew.setCell (F := fun j => j = g) HGW.out (a := ⟨g, 1, none⟩) (.inl rfl) _) (HR1.out.set1 x) (own_set_far HO.out (fun e => by have := (HO.out.lt g e).1; simp at this; omega) _)
  · have t1 : ((k : Int) != 0) = true := by rw [bne_iff_ne]; omega
    go_wp2_with fail
    refine (giveUp_any _ _).mono ?_
    rintro e w' ⟨rfl, rfl⟩
    exact ⟨rfl, Outc.err (by simp [nameF, hk]) HGW.out⟩

end Go.Proofs.YtjkjhpaeckkpjaaGreat
