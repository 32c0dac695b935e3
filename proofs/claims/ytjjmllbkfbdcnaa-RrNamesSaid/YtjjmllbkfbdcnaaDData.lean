/-
  The reader of rdata: all parts of data.
-/
import Derived.Test.YtjjmllbkfbdcnaaDBase
namespace Go.Proofs.Ytjjmllbkfbdcnaa
open Go.RowKit

set_option maxRecDepth 4000 in
set_option maxHeartbeats 2000000 in
theorem data_bytes (w : World) (g : Nat) (A : Option Addr) (m cap base : Nat) (b : List UInt8) (p en : Nat) (s : Sh) (h1 : s.host = false) (h2 : s.mail = false) (h3 : s.texts = false) (k1 : s.ahead ≤ 10) (k2 : s.behind ≤ 10) (k3 : s.least ≤ 16) (k4 : s.most ≤ 65535)
    (h : RB w g (.slice A m cap) p en) (hbl : b.length = m) (hrow : Row w base A (b.map bc)) (hbg : base ≤ g) (hm : m ≤ cap) (hc : cap ≤ maxLen) (hen : en ≤ m) (hp : p ≤ en) :
    Calls Try.prog 78 #[.pointer (some ⟨g, 0, none⟩), s.val] w (DataOut w g (readD b p en s)) := by
  obtain ⟨i0, hi0, hz0, hz1, hz2⟩ := info_parts zint_info
  obtain ⟨ah, s1, s2, s3, be, s5, le, mo⟩ := s
  simp only at h1 h2 h3 k1 k2 k3 k4
  subst h1 h2 h3
  have HN := Lib.hid (fun W q s k hr hw hq h1 h2 hk => nums_any W g A m cap base b q en s k hr hbl hw hbg hm hc hen hq h1 h2 hk)
  have HM := Lib.hid (fun W q hr hw hq hbw => rname_read W g A m cap base b q en hr hbl hw hbw hm hc hen hq)
  have HT := Lib.hid (fun W q hr hw hq => texts_any W g A m cap base b q en hr hbl hw hbg hm hc hen hq)
  have HY := Lib.hid (fun W q hr hw hq => dbytes_any W g A m cap base b q en le mo hr hbl hw hbg hm hc hen hq k3 k4)
  have HW := Lib.hid hrow
  have hgl := h.lt
  have hen2 := Nat.le_trans hen (Nat.le_trans hm hc)
  unfold maxLen at hen2
  have HR := Lib.hid h
  clear h hrow hbl
  go_enter Try.func78, Try.ntmps78
  go_wp2_with fail
  obtain ⟨W0, hW0⟩ : ∃ W0, W0 = (w.alloc (.cells #[.int .i64 ah, .bool false, .bool false, .bool s3, .int .i64 be, .bool false, .int .i64 le, .int .i64 mo] 85)).alloc (.cells #[.slice none 0 0, .slice none 0 0, .slice none 0 0, .slice none 0 0, .slice none 0 0] 26) := ⟨_, rfl⟩
  rw [← hW0]
  have hd0 : DS w g (.slice A m cap) ⟨ah, false, false, s3, be, false, le, mo⟩ p en [.slice none 0 0, .slice none 0 0, .slice none 0 0, .slice none 0 0, .slice none 0 0] W0 := by
    rw [hW0]
    refine ⟨(HR.out.alloc _).alloc _, (Whole.made w [.int .i64 ah, .bool false, .bool false, .bool s3, .int .i64 be, .bool false, .int .i64 le, .int .i64 mo] _).alloc _, ?_, ((Grew.refl _ w).alloc _).alloc _, hgl⟩
    have := Whole.made (w.alloc (.cells #[.int .i64 ah, .bool false, .bool false, .bool s3, .int .i64 be, .bool false, .int .i64 le, .int .i64 mo] 85)) [.slice none 0 0, .slice none 0 0, .slice none 0 0, .slice none 0 0, .slice none 0 0] 26
    simpa using this
  clear hW0
  refine (HN.out W0 p 2 ah hd0.rb (hd0.row HW.out hbg) hp (by omega) (by omega) k1).mono ?_
  intro e W1 hO
  obtain ⟨hg1, ⟨na, q1, v1, e1, rfl, hr1, ho1⟩ | ⟨k, e1, rfl⟩⟩ := hO.cases
  case inr => exact ⟨rfl, DataOut.err (by simp [readD, bind, Except.bind, e1]) (hd0.gr.trans hg1 fun _ e => .inl e)⟩
  have hd1 := hd0.step hg1 hr1
  replace ho1 : W1.ownsRow w.heap.size 3 1 v1 na.length (na.map zv) := own_mono ho1 hd0.gr.size
  obtain ⟨A1, c1, rfl, _, _⟩ := own_form ho1
  have R1 := Lib.hid ho1
  have E1 := Lib.hid e1
  have hq1 := (numsR_le e1).1
  have hl1 : na.length ≤ 10 := by rw [(numsR_le e1).2]; assumption
  clear  ho1 hg1 hr1 e1 hd0
  have cs1 := hd1.hs 1
  have cs2 := hd1.hs 2
  have cs4 := hd1.hs 4
  simp only [List.getElem?_cons_zero, List.getElem?_cons_succ] at cs1 cs2 cs4
  go_wp2_with fail
  refine (HN.out W1 q1 4 be hd1.rb (hd1.row HW.out hbg) hq1 (by omega) (by omega) k2).mono ?_
  intro e W2 hO
  obtain ⟨hg2, ⟨nb, q2, v2, e2, rfl, hr2, ho2⟩ | ⟨k, e2, rfl⟩⟩ := hO.cases
  case inr => exact ⟨rfl, DataOut.err (by simp [readD, bind, Except.bind, E1.out, e2]) (hd1.gr.trans hg2 fun _ e => .inl e)⟩
  have hd2 := hd1.step hg2 hr2
  replace ho2 : W2.ownsRow w.heap.size 3 1 v2 nb.length (nb.map zv) := own_mono ho2 hd1.gr.size
  obtain ⟨A2, c2, rfl, _, _⟩ := own_form ho2
  have R1 := Lib.hid (hd1.own R1.out hg2)
  have R2 := Lib.hid ho2
  have E2 := Lib.hid e2
  have hq2 := (numsR_le e2).1
  have hl2 : nb.length ≤ 10 := by rw [(numsR_le e2).2]; assumption
  clear cs1 cs2 cs4 ho2 hg2 hr2 e2 hd1
  go_wp2_with (
    at_builtin
    refine wpList_append_at rfl (.tmp 20) (.tmp 24) _ rfl w.heap.size 3 i0 _ 1 8 Try.underlying24 hi0 hz0 hz1 hz2 rfl (by omega) (.slice A1 na.length c1) na.length _ rfl R1.out
      A2 nb.length c2 W2.heap.size (nb.map zv) rfl (by simp) (Row.of_own R2.out) (zv_one _) (by unfold maxLen; omega) (by omega) (by have := hd2.gr.size; omega) ?_
    intro va Wa howna hga hata
    obtain ⟨Aa, ca, rfl, _, _⟩ := own_form howna
    have hda := hd2.grown R1.out (by decide) (by decide) hga
    have Ra := Lib.hid howna
    clear howna hga hata hd2
    have cs5 := hda.hs 5
    have cs6 := hda.hs 6
    have cs7 := hda.hs 7
    have cd3 := hda.hd 3
    simp only [List.getElem?_cons_zero, List.getElem?_cons_succ] at cs5 cs6 cs7 cd3
    have fd3 := hda.fd 3
    )
  obtain ⟨W3, hW3⟩ : ∃ W3, W3 = Wa.setCell ⟨w.heap.size + 1, 3, none⟩ (.slice Aa (na.length + nb.length) ca) := ⟨_, rfl⟩
  rw [← hW3]
  have hd3 : DS w g (.slice A m cap) ⟨ah, false, false, s3, be, false, le, mo⟩ q2 en [.slice none 0 0, .slice none 0 0, .slice none 0 0, .slice Aa (na.length + nb.length) ca, .slice none 0 0] W3 := by rw [hW3]; exact hda.store 3 _
  have Ra := Lib.hid (show W3.ownsRow w.heap.size 3 1 _ _ _ by rw [hW3]; exact hda.ownset Ra.out (by decide) 3 _)
  clear cs5 cs6 cs7 cd3 fd3 hW3 hda
  refine (HY.out W3 q2  hd3.rb (hd3.row HW.out hbg) hq2 ).mono ?_
  intro e W4 hO
  obtain ⟨hg4, ⟨yy, q4, v4, e4, rfl, hr4, ho4⟩ | ⟨k, e4, rfl⟩⟩ := hO.cases
  case inr => exact ⟨rfl, DataOut.err (by simp [readD, bind, Except.bind, E1.out, E2.out, e4]) (hd3.gr.trans hg4 fun _ e => .inl e)⟩
  have hd4 := hd3.step hg4 hr4
  replace ho4 : W4.ownsRow w.heap.size 5 1 v4 yy.length (yy.map bc) := own_mono ho4 hd3.gr.size
  obtain ⟨A4, c4, rfl, _, _⟩ := own_form ho4
  have Ra := Lib.hid (hd3.own Ra.out hg4)
  have R4 := Lib.hid ho4
  have E4 := Lib.hid e4
  clear  ho4 hg4 hr4 e4 hd3
  have cd0 := hd4.hd 0
  simp only [List.getElem?_cons_zero] at cd0
  have fd0 := hd4.fd 0
  go_wp2
  obtain ⟨W5, hW5⟩ : ∃ W5, W5 = W4.setCell ⟨w.heap.size + 1, 0, none⟩ (.slice A4 yy.length c4) := ⟨_, rfl⟩
  rw [← hW5]
  have hd5 : DS w g (.slice A m cap) ⟨ah, false, false, s3, be, false, le, mo⟩ q4 en [.slice A4 yy.length c4, .slice none 0 0, .slice none 0 0, .slice Aa (na.length + nb.length) ca, .slice none 0 0] W5 := by rw [hW5]; exact hd4.store 0 _
  have Ra := Lib.hid (show W5.ownsRow w.heap.size 3 1 _ _ _ by rw [hW5]; exact hd4.ownset Ra.out (by decide) 0 _)
  have R4 := Lib.hid (show W5.ownsRow w.heap.size 5 1 _ _ _ by rw [hW5]; exact hd4.ownset R4.out (by decide) 0 _)
  clear cd0 fd0 hW5 hd4
  have g1 := hd5.rb.c1
  have g2 := hd5.rb.c2
  by_cases hx : q4 < en
  · have d1 : decide ((q4 : Int) < (en : Int)) = true := by simp; omega
    go_quiet (fail)
    go_wp2_with fail
    refine (giveUp_any _ _).mono ?_
    rintro e w' ⟨rfl, rfl⟩
    exact ⟨rfl, DataOut.err (by simp [readD, bind, Except.bind, E1.out, E2.out, E4.out, hx]) (hd5.gr.drewN _)⟩
  · have d1 : decide ((q4 : Int) < (en : Int)) = false := by simp; omega
    have cd0 := hd5.hd 0
    have cd1 := hd5.hd 1
    have cd2 := hd5.hd 2
    have cd3 := hd5.hd 3
    have cd4 := hd5.hd 4
    simp only [List.getElem?_cons_zero, List.getElem?_cons_succ] at cd0 cd1 cd2 cd3 cd4
    have fd0 := hd5.fd 0
    have fd1 := hd5.fd 1
    have fd2 := hd5.fd 2
    have fd3 := hd5.fd 3
    have fd4 := hd5.fd 4
    go_quiet (fail)
    go_wp2
    have hr := fun k => hd5.restore k (.slice A4 yy.length c4) (.slice none 0 0) (.slice none 0 0) (.slice Aa (na.length + nb.length) ca) (.slice none 0 0)
    have HRS := Lib.hid hr
    clear hr cd0 cd1 cd2 cd3 cd4 fd0 fd1 fd2 fd3 fd4 g1 g2
    refine ⟨rfl, (DV.mk A4 none none Aa none c4 0 0 ca 0).val ⟨yy, [], [], na ++ nb, []⟩, ?_, DataOut.ok _ (by simp [readD, bind, Except.bind, E1.out, E2.out, E4.out, hx]) (HRS.out _).1.gr ⟨(HRS.out _).2 _ _ _ _ R4.out (by decide), World.ownsRow_nil _ _ _ _, World.ownsRow_nil _ _ _ _, ?_, World.ownsRow_nil _ _ _ _⟩⟩
    · have hz := fun k i => (HRS.out k).1.hd i
      have c0 := fun k => hz k 0
      have c1 := fun k => hz k 1
      have c2 := fun k => hz k 2
      have c3 := fun k => hz k 3
      have c4 := fun k => hz k 4
      clear hz
      simp only [List.set_cons_zero, List.set_cons_succ, List.getElem?_cons_zero, List.getElem?_cons_succ] at c0 c1 c2 c3 c4
      simp [results, Try.results78, go_sem, c0, c1, c2, c3, c4]
    · have h5 := fun k => (HRS.out k).2 _ _ _ _ Ra.out (by decide)
      simpa [DV.vn, List.length_append, List.map_append] using h5 _

set_option maxRecDepth 4000 in
set_option maxHeartbeats 2000000 in
theorem data_host (w : World) (g : Nat) (A : Option Addr) (m cap base : Nat) (b : List UInt8) (p en : Nat) (s : Sh) (h1 : s.host = true) (h2 : s.mail = false) (h3 : s.texts = false) (k1 : s.ahead ≤ 10) (k2 : s.behind ≤ 10) (k3 : s.least ≤ 16) (k4 : s.most ≤ 65535)
    (h : RB w g (.slice A m cap) p en) (hbl : b.length = m) (hrow : Row w base A (b.map bc)) (hbg : base ≤ g) (hm : m ≤ cap) (hc : cap ≤ maxLen) (hen : en ≤ m) (hp : p ≤ en) :
    Calls Try.prog 78 #[.pointer (some ⟨g, 0, none⟩), s.val] w (DataOut w g (readD b p en s)) := by
  obtain ⟨i0, hi0, hz0, hz1, hz2⟩ := info_parts zint_info
  obtain ⟨ah, s1, s2, s3, be, s5, le, mo⟩ := s
  simp only at h1 h2 h3 k1 k2 k3 k4
  subst h1 h2 h3
  have HN := Lib.hid (fun W q s k hr hw hq h1 h2 hk => nums_any W g A m cap base b q en s k hr hbl hw hbg hm hc hen hq h1 h2 hk)
  have HM := Lib.hid (fun W q hr hw hq hbw => rname_read W g A m cap base b q en hr hbl hw hbw hm hc hen hq)
  have HT := Lib.hid (fun W q hr hw hq => texts_any W g A m cap base b q en hr hbl hw hbg hm hc hen hq)
  have HY := Lib.hid (fun W q hr hw hq => dbytes_any W g A m cap base b q en le mo hr hbl hw hbg hm hc hen hq k3 k4)
  have HW := Lib.hid hrow
  have hgl := h.lt
  have hen2 := Nat.le_trans hen (Nat.le_trans hm hc)
  unfold maxLen at hen2
  have HR := Lib.hid h
  clear h hrow hbl
  go_enter Try.func78, Try.ntmps78
  go_wp2_with fail
  obtain ⟨W0, hW0⟩ : ∃ W0, W0 = (w.alloc (.cells #[.int .i64 ah, .bool true, .bool false, .bool s3, .int .i64 be, .bool false, .int .i64 le, .int .i64 mo] 85)).alloc (.cells #[.slice none 0 0, .slice none 0 0, .slice none 0 0, .slice none 0 0, .slice none 0 0] 26) := ⟨_, rfl⟩
  rw [← hW0]
  have hd0 : DS w g (.slice A m cap) ⟨ah, true, false, s3, be, false, le, mo⟩ p en [.slice none 0 0, .slice none 0 0, .slice none 0 0, .slice none 0 0, .slice none 0 0] W0 := by
    rw [hW0]
    refine ⟨(HR.out.alloc _).alloc _, (Whole.made w [.int .i64 ah, .bool true, .bool false, .bool s3, .int .i64 be, .bool false, .int .i64 le, .int .i64 mo] _).alloc _, ?_, ((Grew.refl _ w).alloc _).alloc _, hgl⟩
    have := Whole.made (w.alloc (.cells #[.int .i64 ah, .bool true, .bool false, .bool s3, .int .i64 be, .bool false, .int .i64 le, .int .i64 mo] 85)) [.slice none 0 0, .slice none 0 0, .slice none 0 0, .slice none 0 0, .slice none 0 0] 26
    simpa using this
  clear hW0
  refine (HN.out W0 p 2 ah hd0.rb (hd0.row HW.out hbg) hp (by omega) (by omega) k1).mono ?_
  intro e W1 hO
  obtain ⟨hg1, ⟨na, q1, v1, e1, rfl, hr1, ho1⟩ | ⟨k, e1, rfl⟩⟩ := hO.cases
  case inr => exact ⟨rfl, DataOut.err (by simp [readD, bind, Except.bind, e1]) (hd0.gr.trans hg1 fun _ e => .inl e)⟩
  have hd1 := hd0.step hg1 hr1
  replace ho1 : W1.ownsRow w.heap.size 3 1 v1 na.length (na.map zv) := own_mono ho1 hd0.gr.size
  obtain ⟨A1, c1, rfl, _, _⟩ := own_form ho1
  have R1 := Lib.hid ho1
  have E1 := Lib.hid e1
  have hq1 := (numsR_le e1).1
  have hl1 : na.length ≤ 10 := by rw [(numsR_le e1).2]; assumption
  clear  ho1 hg1 hr1 e1 hd0
  have cs1 := hd1.hs 1
  simp only [List.getElem?_cons_zero, List.getElem?_cons_succ] at cs1
  go_wp2_with fail
  refine (HM.out W1 q1  hd1.rb (hd1.row HW.out hbg) hq1 (by have := hd1.gr.size; omega)).mono ?_
  intro e W2 hO
  obtain ⟨hg2, ⟨hh, q2, v2, e2, rfl, hr2, ho2⟩ | ⟨k, e2, rfl⟩⟩ := hO.cases
  case inr => exact ⟨rfl, DataOut.err (by simp [readD, bind, Except.bind, E1.out, e2]) (hd1.gr.trans hg2 fun _ e => .inl e)⟩
  have hd2 := hd1.step hg2 hr2
  replace ho2 : W2.ownsRow w.heap.size 9 1 v2 hh.length (hh.map sv) := own_mono ho2 hd1.gr.size
  obtain ⟨A2, c2, rfl, _, _⟩ := own_form ho2
  have R1 := Lib.hid (hd1.own R1.out hg2)
  have R2 := Lib.hid ho2
  have E2 := Lib.hid e2
  have hq2 := nameR_le e2
  clear cs1 ho2 hg2 hr2 e2 hd1
  have cs2 := hd2.hs 2
  have cs4 := hd2.hs 4
  have cd1 := hd2.hd 1
  simp only [List.getElem?_cons_zero, List.getElem?_cons_succ] at cs2 cs4 cd1
  have fd1 := hd2.fd 1
  go_wp2_with fail
  obtain ⟨W3, hW3⟩ : ∃ W3, W3 = W2.setCell ⟨w.heap.size + 1, 1, none⟩ (.slice A2 hh.length c2) := ⟨_, rfl⟩
  rw [← hW3]
  have hd3 : DS w g (.slice A m cap) ⟨ah, true, false, s3, be, false, le, mo⟩ q2 en [.slice none 0 0, .slice A2 hh.length c2, .slice none 0 0, .slice none 0 0, .slice none 0 0] W3 := by rw [hW3]; exact hd2.store 1 _
  have R1 := Lib.hid (show W3.ownsRow w.heap.size 3 1 _ _ _ by rw [hW3]; exact hd2.ownset R1.out (by decide) 1 _)
  have R2 := Lib.hid (show W3.ownsRow w.heap.size 9 1 _ _ _ by rw [hW3]; exact hd2.ownset R2.out (by decide) 1 _)
  clear cs2 cs4 cd1 fd1 hW3 hd2
  refine (HN.out W3 q2 4 be hd3.rb (hd3.row HW.out hbg) hq2 (by omega) (by omega) k2).mono ?_
  intro e W4 hO
  obtain ⟨hg4, ⟨nb, q4, v4, e4, rfl, hr4, ho4⟩ | ⟨k, e4, rfl⟩⟩ := hO.cases
  case inr => exact ⟨rfl, DataOut.err (by simp [readD, bind, Except.bind, E1.out, E2.out, e4]) (hd3.gr.trans hg4 fun _ e => .inl e)⟩
  have hd4 := hd3.step hg4 hr4
  replace ho4 : W4.ownsRow w.heap.size 3 1 v4 nb.length (nb.map zv) := own_mono ho4 hd3.gr.size
  obtain ⟨A4, c4, rfl, _, _⟩ := own_form ho4
  have R1 := Lib.hid (hd3.own R1.out hg4)
  have R2 := Lib.hid (hd3.own R2.out hg4)
  have R4 := Lib.hid ho4
  have E4 := Lib.hid e4
  have hq4 := (numsR_le e4).1
  have hl4 : nb.length ≤ 10 := by rw [(numsR_le e4).2]; assumption
  clear  ho4 hg4 hr4 e4 hd3
  go_wp2_with (
    at_builtin
    refine wpList_append_at rfl (.tmp 20) (.tmp 24) _ rfl w.heap.size 3 i0 _ 1 8 Try.underlying24 hi0 hz0 hz1 hz2 rfl (by omega) (.slice A1 na.length c1) na.length _ rfl R1.out
      A4 nb.length c4 W4.heap.size (nb.map zv) rfl (by simp) (Row.of_own R4.out) (zv_one _) (by unfold maxLen; omega) (by omega) (by have := hd4.gr.size; omega) ?_
    intro va Wa howna hga hata
    obtain ⟨Aa, ca, rfl, _, _⟩ := own_form howna
    have hda := hd4.grown R1.out (by decide) (by decide) hga
    have R2 := Lib.hid (R2.out.kept hga (rows_apart R2.out R1.out (by decide)))
    have Ra := Lib.hid howna
    clear howna hga hata hd4
    have cs5 := hda.hs 5
    have cs6 := hda.hs 6
    have cs7 := hda.hs 7
    have cd3 := hda.hd 3
    simp only [List.getElem?_cons_zero, List.getElem?_cons_succ] at cs5 cs6 cs7 cd3
    have fd3 := hda.fd 3
    )
  obtain ⟨W5, hW5⟩ : ∃ W5, W5 = Wa.setCell ⟨w.heap.size + 1, 3, none⟩ (.slice Aa (na.length + nb.length) ca) := ⟨_, rfl⟩
  rw [← hW5]
  have hd5 : DS w g (.slice A m cap) ⟨ah, true, false, s3, be, false, le, mo⟩ q4 en [.slice none 0 0, .slice A2 hh.length c2, .slice none 0 0, .slice Aa (na.length + nb.length) ca, .slice none 0 0] W5 := by rw [hW5]; exact hda.store 3 _
  have R2 := Lib.hid (show W5.ownsRow w.heap.size 9 1 _ _ _ by rw [hW5]; exact hda.ownset R2.out (by decide) 3 _)
  have Ra := Lib.hid (show W5.ownsRow w.heap.size 3 1 _ _ _ by rw [hW5]; exact hda.ownset Ra.out (by decide) 3 _)
  clear cs5 cs6 cs7 cd3 fd3 hW5 hda
  refine (HY.out W5 q4  hd5.rb (hd5.row HW.out hbg) hq4 ).mono ?_
  intro e W6 hO
  obtain ⟨hg6, ⟨yy, q6, v6, e6, rfl, hr6, ho6⟩ | ⟨k, e6, rfl⟩⟩ := hO.cases
  case inr => exact ⟨rfl, DataOut.err (by simp [readD, bind, Except.bind, E1.out, E2.out, E4.out, e6]) (hd5.gr.trans hg6 fun _ e => .inl e)⟩
  have hd6 := hd5.step hg6 hr6
  replace ho6 : W6.ownsRow w.heap.size 5 1 v6 yy.length (yy.map bc) := own_mono ho6 hd5.gr.size
  obtain ⟨A6, c6, rfl, _, _⟩ := own_form ho6
  have R2 := Lib.hid (hd5.own R2.out hg6)
  have Ra := Lib.hid (hd5.own Ra.out hg6)
  have R6 := Lib.hid ho6
  have E6 := Lib.hid e6
  clear  ho6 hg6 hr6 e6 hd5
  have cd0 := hd6.hd 0
  simp only [List.getElem?_cons_zero] at cd0
  have fd0 := hd6.fd 0
  go_wp2
  obtain ⟨W7, hW7⟩ : ∃ W7, W7 = W6.setCell ⟨w.heap.size + 1, 0, none⟩ (.slice A6 yy.length c6) := ⟨_, rfl⟩
  rw [← hW7]
  have hd7 : DS w g (.slice A m cap) ⟨ah, true, false, s3, be, false, le, mo⟩ q6 en [.slice A6 yy.length c6, .slice A2 hh.length c2, .slice none 0 0, .slice Aa (na.length + nb.length) ca, .slice none 0 0] W7 := by rw [hW7]; exact hd6.store 0 _
  have R2 := Lib.hid (show W7.ownsRow w.heap.size 9 1 _ _ _ by rw [hW7]; exact hd6.ownset R2.out (by decide) 0 _)
  have Ra := Lib.hid (show W7.ownsRow w.heap.size 3 1 _ _ _ by rw [hW7]; exact hd6.ownset Ra.out (by decide) 0 _)
  have R6 := Lib.hid (show W7.ownsRow w.heap.size 5 1 _ _ _ by rw [hW7]; exact hd6.ownset R6.out (by decide) 0 _)
  clear cd0 fd0 hW7 hd6
  have g1 := hd7.rb.c1
  have g2 := hd7.rb.c2
  by_cases hx : q6 < en
  · have d1 : decide ((q6 : Int) < (en : Int)) = true := by simp; omega
    go_quiet (fail)
    go_wp2_with fail
    refine (giveUp_any _ _).mono ?_
    rintro e w' ⟨rfl, rfl⟩
    exact ⟨rfl, DataOut.err (by simp [readD, bind, Except.bind, E1.out, E2.out, E4.out, E6.out, hx]) (hd7.gr.drewN _)⟩
  · have d1 : decide ((q6 : Int) < (en : Int)) = false := by simp; omega
    have cd0 := hd7.hd 0
    have cd1 := hd7.hd 1
    have cd2 := hd7.hd 2
    have cd3 := hd7.hd 3
    have cd4 := hd7.hd 4
    simp only [List.getElem?_cons_zero, List.getElem?_cons_succ] at cd0 cd1 cd2 cd3 cd4
    have fd0 := hd7.fd 0
    have fd1 := hd7.fd 1
    have fd2 := hd7.fd 2
    have fd3 := hd7.fd 3
    have fd4 := hd7.fd 4
    go_quiet (fail)
    go_wp2
    have hr := fun k => hd7.restore k (.slice A6 yy.length c6) (.slice A2 hh.length c2) (.slice none 0 0) (.slice Aa (na.length + nb.length) ca) (.slice none 0 0)
    have HRS := Lib.hid hr
    clear hr cd0 cd1 cd2 cd3 cd4 fd0 fd1 fd2 fd3 fd4 g1 g2
    refine ⟨rfl, (DV.mk A6 A2 none Aa none c6 c2 0 ca 0).val ⟨yy, hh, [], na ++ nb, []⟩, ?_, DataOut.ok _ (by simp [readD, bind, Except.bind, E1.out, E2.out, E4.out, E6.out, hx]) (HRS.out _).1.gr ⟨(HRS.out _).2 _ _ _ _ R6.out (by decide), (HRS.out _).2 _ _ _ _ R2.out (by decide), World.ownsRow_nil _ _ _ _, ?_, World.ownsRow_nil _ _ _ _⟩⟩
    · have hz := fun k i => (HRS.out k).1.hd i
      have c0 := fun k => hz k 0
      have c1 := fun k => hz k 1
      have c2 := fun k => hz k 2
      have c3 := fun k => hz k 3
      have c4 := fun k => hz k 4
      clear hz
      simp only [List.set_cons_zero, List.set_cons_succ, List.getElem?_cons_zero, List.getElem?_cons_succ] at c0 c1 c2 c3 c4
      simp [results, Try.results78, go_sem, c0, c1, c2, c3, c4]
    · have h5 := fun k => (HRS.out k).2 _ _ _ _ Ra.out (by decide)
      simpa [DV.vn, List.length_append, List.map_append] using h5 _

set_option maxRecDepth 4000 in
set_option maxHeartbeats 2000000 in
theorem data_both (w : World) (g : Nat) (A : Option Addr) (m cap base : Nat) (b : List UInt8) (p en : Nat) (s : Sh) (h1 : s.host = true) (h2 : s.mail = true) (h3 : s.texts = false) (k1 : s.ahead ≤ 10) (k2 : s.behind ≤ 10) (k3 : s.least ≤ 16) (k4 : s.most ≤ 65535)
    (h : RB w g (.slice A m cap) p en) (hbl : b.length = m) (hrow : Row w base A (b.map bc)) (hbg : base ≤ g) (hm : m ≤ cap) (hc : cap ≤ maxLen) (hen : en ≤ m) (hp : p ≤ en) :
    Calls Try.prog 78 #[.pointer (some ⟨g, 0, none⟩), s.val] w (DataOut w g (readD b p en s)) := by
  obtain ⟨i0, hi0, hz0, hz1, hz2⟩ := info_parts zint_info
  obtain ⟨ah, s1, s2, s3, be, s5, le, mo⟩ := s
  simp only at h1 h2 h3 k1 k2 k3 k4
  subst h1 h2 h3
  have HN := Lib.hid (fun W q s k hr hw hq h1 h2 hk => nums_any W g A m cap base b q en s k hr hbl hw hbg hm hc hen hq h1 h2 hk)
  have HM := Lib.hid (fun W q hr hw hq hbw => rname_read W g A m cap base b q en hr hbl hw hbw hm hc hen hq)
  have HT := Lib.hid (fun W q hr hw hq => texts_any W g A m cap base b q en hr hbl hw hbg hm hc hen hq)
  have HY := Lib.hid (fun W q hr hw hq => dbytes_any W g A m cap base b q en le mo hr hbl hw hbg hm hc hen hq k3 k4)
  have HW := Lib.hid hrow
  have hgl := h.lt
  have hen2 := Nat.le_trans hen (Nat.le_trans hm hc)
  unfold maxLen at hen2
  have HR := Lib.hid h
  clear h hrow hbl
  go_enter Try.func78, Try.ntmps78
  go_wp2_with fail
  obtain ⟨W0, hW0⟩ : ∃ W0, W0 = (w.alloc (.cells #[.int .i64 ah, .bool true, .bool true, .bool s3, .int .i64 be, .bool false, .int .i64 le, .int .i64 mo] 85)).alloc (.cells #[.slice none 0 0, .slice none 0 0, .slice none 0 0, .slice none 0 0, .slice none 0 0] 26) := ⟨_, rfl⟩
  rw [← hW0]
  have hd0 : DS w g (.slice A m cap) ⟨ah, true, true, s3, be, false, le, mo⟩ p en [.slice none 0 0, .slice none 0 0, .slice none 0 0, .slice none 0 0, .slice none 0 0] W0 := by
    rw [hW0]
    refine ⟨(HR.out.alloc _).alloc _, (Whole.made w [.int .i64 ah, .bool true, .bool true, .bool s3, .int .i64 be, .bool false, .int .i64 le, .int .i64 mo] _).alloc _, ?_, ((Grew.refl _ w).alloc _).alloc _, hgl⟩
    have := Whole.made (w.alloc (.cells #[.int .i64 ah, .bool true, .bool true, .bool s3, .int .i64 be, .bool false, .int .i64 le, .int .i64 mo] 85)) [.slice none 0 0, .slice none 0 0, .slice none 0 0, .slice none 0 0, .slice none 0 0] 26
    simpa using this
  clear hW0
  refine (HN.out W0 p 2 ah hd0.rb (hd0.row HW.out hbg) hp (by omega) (by omega) k1).mono ?_
  intro e W1 hO
  obtain ⟨hg1, ⟨na, q1, v1, e1, rfl, hr1, ho1⟩ | ⟨k, e1, rfl⟩⟩ := hO.cases
  case inr => exact ⟨rfl, DataOut.err (by simp [readD, bind, Except.bind, e1]) (hd0.gr.trans hg1 fun _ e => .inl e)⟩
  have hd1 := hd0.step hg1 hr1
  replace ho1 : W1.ownsRow w.heap.size 3 1 v1 na.length (na.map zv) := own_mono ho1 hd0.gr.size
  obtain ⟨A1, c1, rfl, _, _⟩ := own_form ho1
  have R1 := Lib.hid ho1
  have E1 := Lib.hid e1
  have hq1 := (numsR_le e1).1
  have hl1 : na.length ≤ 10 := by rw [(numsR_le e1).2]; assumption
  clear  ho1 hg1 hr1 e1 hd0
  have cs1 := hd1.hs 1
  simp only [List.getElem?_cons_zero, List.getElem?_cons_succ] at cs1
  go_wp2_with fail
  refine (HM.out W1 q1  hd1.rb (hd1.row HW.out hbg) hq1 (by have := hd1.gr.size; omega)).mono ?_
  intro e W2 hO
  obtain ⟨hg2, ⟨hh, q2, v2, e2, rfl, hr2, ho2⟩ | ⟨k, e2, rfl⟩⟩ := hO.cases
  case inr => exact ⟨rfl, DataOut.err (by simp [readD, bind, Except.bind, E1.out, e2]) (hd1.gr.trans hg2 fun _ e => .inl e)⟩
  have hd2 := hd1.step hg2 hr2
  replace ho2 : W2.ownsRow w.heap.size 9 1 v2 hh.length (hh.map sv) := own_mono ho2 hd1.gr.size
  obtain ⟨A2, c2, rfl, _, _⟩ := own_form ho2
  have R1 := Lib.hid (hd1.own R1.out hg2)
  have R2 := Lib.hid ho2
  have E2 := Lib.hid e2
  have hq2 := nameR_le e2
  clear cs1 ho2 hg2 hr2 e2 hd1
  have cs2 := hd2.hs 2
  have cd1 := hd2.hd 1
  simp only [List.getElem?_cons_zero, List.getElem?_cons_succ] at cs2 cd1
  have fd1 := hd2.fd 1
  go_wp2_with fail
  obtain ⟨W3, hW3⟩ : ∃ W3, W3 = W2.setCell ⟨w.heap.size + 1, 1, none⟩ (.slice A2 hh.length c2) := ⟨_, rfl⟩
  rw [← hW3]
  have hd3 : DS w g (.slice A m cap) ⟨ah, true, true, s3, be, false, le, mo⟩ q2 en [.slice none 0 0, .slice A2 hh.length c2, .slice none 0 0, .slice none 0 0, .slice none 0 0] W3 := by rw [hW3]; exact hd2.store 1 _
  have R1 := Lib.hid (show W3.ownsRow w.heap.size 3 1 _ _ _ by rw [hW3]; exact hd2.ownset R1.out (by decide) 1 _)
  have R2 := Lib.hid (show W3.ownsRow w.heap.size 9 1 _ _ _ by rw [hW3]; exact hd2.ownset R2.out (by decide) 1 _)
  clear cs2 cd1 fd1 hW3 hd2
  refine (HM.out W3 q2  hd3.rb (hd3.row HW.out hbg) hq2 (by have := hd3.gr.size; omega)).mono ?_
  intro e W4 hO
  obtain ⟨hg4, ⟨mm, q4, v4, e4, rfl, hr4, ho4⟩ | ⟨k, e4, rfl⟩⟩ := hO.cases
  case inr => exact ⟨rfl, DataOut.err (by simp [readD, bind, Except.bind, E1.out, E2.out, e4]) (hd3.gr.trans hg4 fun _ e => .inl e)⟩
  have hd4 := hd3.step hg4 hr4
  replace ho4 : W4.ownsRow w.heap.size 9 1 v4 mm.length (mm.map sv) := own_mono ho4 hd3.gr.size
  obtain ⟨A4, c4, rfl, _, _⟩ := own_form ho4
  have R1 := Lib.hid (hd3.own R1.out hg4)
  have R2 := Lib.hid (hd3.own R2.out hg4)
  have R4 := Lib.hid ho4
  have E4 := Lib.hid e4
  have hq4 := nameR_le e4
  clear  ho4 hg4 hr4 e4 hd3
  have cs4 := hd4.hs 4
  have cd2 := hd4.hd 2
  simp only [List.getElem?_cons_zero, List.getElem?_cons_succ] at cs4 cd2
  have fd2 := hd4.fd 2
  go_wp2_with fail
  obtain ⟨W5, hW5⟩ : ∃ W5, W5 = W4.setCell ⟨w.heap.size + 1, 2, none⟩ (.slice A4 mm.length c4) := ⟨_, rfl⟩
  rw [← hW5]
  have hd5 : DS w g (.slice A m cap) ⟨ah, true, true, s3, be, false, le, mo⟩ q4 en [.slice none 0 0, .slice A2 hh.length c2, .slice A4 mm.length c4, .slice none 0 0, .slice none 0 0] W5 := by rw [hW5]; exact hd4.store 2 _
  have R1 := Lib.hid (show W5.ownsRow w.heap.size 3 1 _ _ _ by rw [hW5]; exact hd4.ownset R1.out (by decide) 2 _)
  have R2 := Lib.hid (show W5.ownsRow w.heap.size 9 1 _ _ _ by rw [hW5]; exact hd4.ownset R2.out (by decide) 2 _)
  have R4 := Lib.hid (show W5.ownsRow w.heap.size 9 1 _ _ _ by rw [hW5]; exact hd4.ownset R4.out (by decide) 2 _)
  clear cs4 cd2 fd2 hW5 hd4
  refine (HN.out W5 q4 4 be hd5.rb (hd5.row HW.out hbg) hq4 (by omega) (by omega) k2).mono ?_
  intro e W6 hO
  obtain ⟨hg6, ⟨nb, q6, v6, e6, rfl, hr6, ho6⟩ | ⟨k, e6, rfl⟩⟩ := hO.cases
  case inr => exact ⟨rfl, DataOut.err (by simp [readD, bind, Except.bind, E1.out, E2.out, E4.out, e6]) (hd5.gr.trans hg6 fun _ e => .inl e)⟩
  have hd6 := hd5.step hg6 hr6
  replace ho6 : W6.ownsRow w.heap.size 3 1 v6 nb.length (nb.map zv) := own_mono ho6 hd5.gr.size
  obtain ⟨A6, c6, rfl, _, _⟩ := own_form ho6
  have R1 := Lib.hid (hd5.own R1.out hg6)
  have R2 := Lib.hid (hd5.own R2.out hg6)
  have R4 := Lib.hid (hd5.own R4.out hg6)
  have R6 := Lib.hid ho6
  have E6 := Lib.hid e6
  have hq6 := (numsR_le e6).1
  have hl6 : nb.length ≤ 10 := by rw [(numsR_le e6).2]; assumption
  clear  ho6 hg6 hr6 e6 hd5
  go_wp2_with (
    at_builtin
    refine wpList_append_at rfl (.tmp 20) (.tmp 24) _ rfl w.heap.size 3 i0 _ 1 8 Try.underlying24 hi0 hz0 hz1 hz2 rfl (by omega) (.slice A1 na.length c1) na.length _ rfl R1.out
      A6 nb.length c6 W6.heap.size (nb.map zv) rfl (by simp) (Row.of_own R6.out) (zv_one _) (by unfold maxLen; omega) (by omega) (by have := hd6.gr.size; omega) ?_
    intro va Wa howna hga hata
    obtain ⟨Aa, ca, rfl, _, _⟩ := own_form howna
    have hda := hd6.grown R1.out (by decide) (by decide) hga
    have R2 := Lib.hid (R2.out.kept hga (rows_apart R2.out R1.out (by decide)))
    have R4 := Lib.hid (R4.out.kept hga (rows_apart R4.out R1.out (by decide)))
    have Ra := Lib.hid howna
    clear howna hga hata hd6
    have cs5 := hda.hs 5
    have cs6 := hda.hs 6
    have cs7 := hda.hs 7
    have cd3 := hda.hd 3
    simp only [List.getElem?_cons_zero, List.getElem?_cons_succ] at cs5 cs6 cs7 cd3
    have fd3 := hda.fd 3
    )
  obtain ⟨W7, hW7⟩ : ∃ W7, W7 = Wa.setCell ⟨w.heap.size + 1, 3, none⟩ (.slice Aa (na.length + nb.length) ca) := ⟨_, rfl⟩
  rw [← hW7]
  have hd7 : DS w g (.slice A m cap) ⟨ah, true, true, s3, be, false, le, mo⟩ q6 en [.slice none 0 0, .slice A2 hh.length c2, .slice A4 mm.length c4, .slice Aa (na.length + nb.length) ca, .slice none 0 0] W7 := by rw [hW7]; exact hda.store 3 _
  have R2 := Lib.hid (show W7.ownsRow w.heap.size 9 1 _ _ _ by rw [hW7]; exact hda.ownset R2.out (by decide) 3 _)
  have R4 := Lib.hid (show W7.ownsRow w.heap.size 9 1 _ _ _ by rw [hW7]; exact hda.ownset R4.out (by decide) 3 _)
  have Ra := Lib.hid (show W7.ownsRow w.heap.size 3 1 _ _ _ by rw [hW7]; exact hda.ownset Ra.out (by decide) 3 _)
  clear cs5 cs6 cs7 cd3 fd3 hW7 hda
  refine (HY.out W7 q6  hd7.rb (hd7.row HW.out hbg) hq6 ).mono ?_
  intro e W8 hO
  obtain ⟨hg8, ⟨yy, q8, v8, e8, rfl, hr8, ho8⟩ | ⟨k, e8, rfl⟩⟩ := hO.cases
  case inr => exact ⟨rfl, DataOut.err (by simp [readD, bind, Except.bind, E1.out, E2.out, E4.out, E6.out, e8]) (hd7.gr.trans hg8 fun _ e => .inl e)⟩
  have hd8 := hd7.step hg8 hr8
  replace ho8 : W8.ownsRow w.heap.size 5 1 v8 yy.length (yy.map bc) := own_mono ho8 hd7.gr.size
  obtain ⟨A8, c8, rfl, _, _⟩ := own_form ho8
  have R2 := Lib.hid (hd7.own R2.out hg8)
  have R4 := Lib.hid (hd7.own R4.out hg8)
  have Ra := Lib.hid (hd7.own Ra.out hg8)
  have R8 := Lib.hid ho8
  have E8 := Lib.hid e8
  clear  ho8 hg8 hr8 e8 hd7
  have cd0 := hd8.hd 0
  simp only [List.getElem?_cons_zero] at cd0
  have fd0 := hd8.fd 0
  go_wp2
  obtain ⟨W9, hW9⟩ : ∃ W9, W9 = W8.setCell ⟨w.heap.size + 1, 0, none⟩ (.slice A8 yy.length c8) := ⟨_, rfl⟩
  rw [← hW9]
  have hd9 : DS w g (.slice A m cap) ⟨ah, true, true, s3, be, false, le, mo⟩ q8 en [.slice A8 yy.length c8, .slice A2 hh.length c2, .slice A4 mm.length c4, .slice Aa (na.length + nb.length) ca, .slice none 0 0] W9 := by rw [hW9]; exact hd8.store 0 _
  have R2 := Lib.hid (show W9.ownsRow w.heap.size 9 1 _ _ _ by rw [hW9]; exact hd8.ownset R2.out (by decide) 0 _)
  have R4 := Lib.hid (show W9.ownsRow w.heap.size 9 1 _ _ _ by rw [hW9]; exact hd8.ownset R4.out (by decide) 0 _)
  have Ra := Lib.hid (show W9.ownsRow w.heap.size 3 1 _ _ _ by rw [hW9]; exact hd8.ownset Ra.out (by decide) 0 _)
  have R8 := Lib.hid (show W9.ownsRow w.heap.size 5 1 _ _ _ by rw [hW9]; exact hd8.ownset R8.out (by decide) 0 _)
  clear cd0 fd0 hW9 hd8
  have g1 := hd9.rb.c1
  have g2 := hd9.rb.c2
  by_cases hx : q8 < en
  · have d1 : decide ((q8 : Int) < (en : Int)) = true := by simp; omega
    go_quiet (fail)
    go_wp2_with fail
    refine (giveUp_any _ _).mono ?_
    rintro e w' ⟨rfl, rfl⟩
    exact ⟨rfl, DataOut.err (by simp [readD, bind, Except.bind, E1.out, E2.out, E4.out, E6.out, E8.out, hx]) (hd9.gr.drewN _)⟩
  · have d1 : decide ((q8 : Int) < (en : Int)) = false := by simp; omega
    have cd0 := hd9.hd 0
    have cd1 := hd9.hd 1
    have cd2 := hd9.hd 2
    have cd3 := hd9.hd 3
    have cd4 := hd9.hd 4
    simp only [List.getElem?_cons_zero, List.getElem?_cons_succ] at cd0 cd1 cd2 cd3 cd4
    have fd0 := hd9.fd 0
    have fd1 := hd9.fd 1
    have fd2 := hd9.fd 2
    have fd3 := hd9.fd 3
    have fd4 := hd9.fd 4
    go_quiet (fail)
    go_wp2
    have hr := fun k => hd9.restore k (.slice A8 yy.length c8) (.slice A2 hh.length c2) (.slice A4 mm.length c4) (.slice Aa (na.length + nb.length) ca) (.slice none 0 0)
    have HRS := Lib.hid hr
    clear hr cd0 cd1 cd2 cd3 cd4 fd0 fd1 fd2 fd3 fd4 g1 g2
    refine ⟨rfl, (DV.mk A8 A2 A4 Aa none c8 c2 c4 ca 0).val ⟨yy, hh, mm, na ++ nb, []⟩, ?_, DataOut.ok _ (by simp [readD, bind, Except.bind, E1.out, E2.out, E4.out, E6.out, E8.out, hx]) (HRS.out _).1.gr ⟨(HRS.out _).2 _ _ _ _ R8.out (by decide), (HRS.out _).2 _ _ _ _ R2.out (by decide), (HRS.out _).2 _ _ _ _ R4.out (by decide), ?_, World.ownsRow_nil _ _ _ _⟩⟩
    · have hz := fun k i => (HRS.out k).1.hd i
      have c0 := fun k => hz k 0
      have c1 := fun k => hz k 1
      have c2 := fun k => hz k 2
      have c3 := fun k => hz k 3
      have c4 := fun k => hz k 4
      clear hz
      simp only [List.set_cons_zero, List.set_cons_succ, List.getElem?_cons_zero, List.getElem?_cons_succ] at c0 c1 c2 c3 c4
      simp [results, Try.results78, go_sem, c0, c1, c2, c3, c4]
    · have h5 := fun k => (HRS.out k).2 _ _ _ _ Ra.out (by decide)
      simpa [DV.vn, List.length_append, List.map_append] using h5 _

set_option maxRecDepth 4000 in
set_option maxHeartbeats 2000000 in
theorem data_texts (w : World) (g : Nat) (A : Option Addr) (m cap base : Nat) (b : List UInt8) (p en : Nat) (s : Sh) (h1 : s.host = false) (h2 : s.mail = false) (h3 : s.texts = true) (k1 : s.ahead ≤ 10) (k2 : s.behind ≤ 10) (k3 : s.least ≤ 16) (k4 : s.most ≤ 65535)
    (h : RB w g (.slice A m cap) p en) (hbl : b.length = m) (hrow : Row w base A (b.map bc)) (hbg : base ≤ g) (hm : m ≤ cap) (hc : cap ≤ maxLen) (hen : en ≤ m) (hp : p ≤ en) :
    Calls Try.prog 78 #[.pointer (some ⟨g, 0, none⟩), s.val] w (DataOut w g (readD b p en s)) := by
  obtain ⟨i0, hi0, hz0, hz1, hz2⟩ := info_parts zint_info
  obtain ⟨ah, s1, s2, s3, be, s5, le, mo⟩ := s
  simp only at h1 h2 h3 k1 k2 k3 k4
  subst h1 h2 h3
  have HN := Lib.hid (fun W q s k hr hw hq h1 h2 hk => nums_any W g A m cap base b q en s k hr hbl hw hbg hm hc hen hq h1 h2 hk)
  have HM := Lib.hid (fun W q hr hw hq hbw => rname_read W g A m cap base b q en hr hbl hw hbw hm hc hen hq)
  have HT := Lib.hid (fun W q hr hw hq => texts_any W g A m cap base b q en hr hbl hw hbg hm hc hen hq)
  have HY := Lib.hid (fun W q hr hw hq => dbytes_any W g A m cap base b q en le mo hr hbl hw hbg hm hc hen hq k3 k4)
  have HW := Lib.hid hrow
  have hgl := h.lt
  have hen2 := Nat.le_trans hen (Nat.le_trans hm hc)
  unfold maxLen at hen2
  have HR := Lib.hid h
  clear h hrow hbl
  go_enter Try.func78, Try.ntmps78
  go_wp2_with fail
  obtain ⟨W0, hW0⟩ : ∃ W0, W0 = (w.alloc (.cells #[.int .i64 ah, .bool false, .bool false, .bool s3, .int .i64 be, .bool true, .int .i64 le, .int .i64 mo] 85)).alloc (.cells #[.slice none 0 0, .slice none 0 0, .slice none 0 0, .slice none 0 0, .slice none 0 0] 26) := ⟨_, rfl⟩
  rw [← hW0]
  have hd0 : DS w g (.slice A m cap) ⟨ah, false, false, s3, be, true, le, mo⟩ p en [.slice none 0 0, .slice none 0 0, .slice none 0 0, .slice none 0 0, .slice none 0 0] W0 := by
    rw [hW0]
    refine ⟨(HR.out.alloc _).alloc _, (Whole.made w [.int .i64 ah, .bool false, .bool false, .bool s3, .int .i64 be, .bool true, .int .i64 le, .int .i64 mo] _).alloc _, ?_, ((Grew.refl _ w).alloc _).alloc _, hgl⟩
    have := Whole.made (w.alloc (.cells #[.int .i64 ah, .bool false, .bool false, .bool s3, .int .i64 be, .bool true, .int .i64 le, .int .i64 mo] 85)) [.slice none 0 0, .slice none 0 0, .slice none 0 0, .slice none 0 0, .slice none 0 0] 26
    simpa using this
  clear hW0
  refine (HN.out W0 p 2 ah hd0.rb (hd0.row HW.out hbg) hp (by omega) (by omega) k1).mono ?_
  intro e W1 hO
  obtain ⟨hg1, ⟨na, q1, v1, e1, rfl, hr1, ho1⟩ | ⟨k, e1, rfl⟩⟩ := hO.cases
  case inr => exact ⟨rfl, DataOut.err (by simp [readD, bind, Except.bind, e1]) (hd0.gr.trans hg1 fun _ e => .inl e)⟩
  have hd1 := hd0.step hg1 hr1
  replace ho1 : W1.ownsRow w.heap.size 3 1 v1 na.length (na.map zv) := own_mono ho1 hd0.gr.size
  obtain ⟨A1, c1, rfl, _, _⟩ := own_form ho1
  have R1 := Lib.hid ho1
  have E1 := Lib.hid e1
  have hq1 := (numsR_le e1).1
  have hl1 : na.length ≤ 10 := by rw [(numsR_le e1).2]; assumption
  clear  ho1 hg1 hr1 e1 hd0
  have cs1 := hd1.hs 1
  have cs2 := hd1.hs 2
  have cs4 := hd1.hs 4
  simp only [List.getElem?_cons_zero, List.getElem?_cons_succ] at cs1 cs2 cs4
  go_wp2_with fail
  refine (HN.out W1 q1 4 be hd1.rb (hd1.row HW.out hbg) hq1 (by omega) (by omega) k2).mono ?_
  intro e W2 hO
  obtain ⟨hg2, ⟨nb, q2, v2, e2, rfl, hr2, ho2⟩ | ⟨k, e2, rfl⟩⟩ := hO.cases
  case inr => exact ⟨rfl, DataOut.err (by simp [readD, bind, Except.bind, E1.out, e2]) (hd1.gr.trans hg2 fun _ e => .inl e)⟩
  have hd2 := hd1.step hg2 hr2
  replace ho2 : W2.ownsRow w.heap.size 3 1 v2 nb.length (nb.map zv) := own_mono ho2 hd1.gr.size
  obtain ⟨A2, c2, rfl, _, _⟩ := own_form ho2
  have R1 := Lib.hid (hd1.own R1.out hg2)
  have R2 := Lib.hid ho2
  have E2 := Lib.hid e2
  have hq2 := (numsR_le e2).1
  have hl2 : nb.length ≤ 10 := by rw [(numsR_le e2).2]; assumption
  clear cs1 cs2 cs4 ho2 hg2 hr2 e2 hd1
  go_wp2_with (
    at_builtin
    refine wpList_append_at rfl (.tmp 20) (.tmp 24) _ rfl w.heap.size 3 i0 _ 1 8 Try.underlying24 hi0 hz0 hz1 hz2 rfl (by omega) (.slice A1 na.length c1) na.length _ rfl R1.out
      A2 nb.length c2 W2.heap.size (nb.map zv) rfl (by simp) (Row.of_own R2.out) (zv_one _) (by unfold maxLen; omega) (by omega) (by have := hd2.gr.size; omega) ?_
    intro va Wa howna hga hata
    obtain ⟨Aa, ca, rfl, _, _⟩ := own_form howna
    have hda := hd2.grown R1.out (by decide) (by decide) hga
    have Ra := Lib.hid howna
    clear howna hga hata hd2
    have cs5 := hda.hs 5
    have cd3 := hda.hd 3
    simp only [List.getElem?_cons_zero, List.getElem?_cons_succ] at cs5 cd3
    have fd3 := hda.fd 3
    )
  obtain ⟨W3, hW3⟩ : ∃ W3, W3 = Wa.setCell ⟨w.heap.size + 1, 3, none⟩ (.slice Aa (na.length + nb.length) ca) := ⟨_, rfl⟩
  rw [← hW3]
  have hd3 : DS w g (.slice A m cap) ⟨ah, false, false, s3, be, true, le, mo⟩ q2 en [.slice none 0 0, .slice none 0 0, .slice none 0 0, .slice Aa (na.length + nb.length) ca, .slice none 0 0] W3 := by rw [hW3]; exact hda.store 3 _
  have Ra := Lib.hid (show W3.ownsRow w.heap.size 3 1 _ _ _ by rw [hW3]; exact hda.ownset Ra.out (by decide) 3 _)
  clear cs5 cd3 fd3 hW3 hda
  refine (HT.out W3 q2  hd3.rb (hd3.row HW.out hbg) hq2 ).mono ?_
  intro e W4 hO
  obtain ⟨hg4, ⟨tt, q4, v4, e4, rfl, hr4, ho4⟩ | ⟨k, e4, rfl⟩⟩ := hO.cases
  case inr => exact ⟨rfl, DataOut.err (by simp [readD, bind, Except.bind, E1.out, E2.out, e4]) (hd3.gr.trans hg4 fun _ e => .inl e)⟩
  have hd4 := hd3.step hg4 hr4
  replace ho4 : W4.ownsRow w.heap.size 9 1 v4 tt.length (tt.map sv) := own_mono ho4 hd3.gr.size
  obtain ⟨A4, c4, rfl, _, _⟩ := own_form ho4
  have Ra := Lib.hid (hd3.own Ra.out hg4)
  have R4 := Lib.hid ho4
  have E4 := Lib.hid e4
  have hq4 := textsR_le en q2 q4 [] tt (Nat.sub_le _ _) hq2 e4
  clear  ho4 hg4 hr4 e4 hd3
  have cs6 := hd4.hs 6
  have cs7 := hd4.hs 7
  have cd4 := hd4.hd 4
  simp only [List.getElem?_cons_zero, List.getElem?_cons_succ] at cs6 cs7 cd4
  have fd4 := hd4.fd 4
  go_wp2_with fail
  obtain ⟨W5, hW5⟩ : ∃ W5, W5 = W4.setCell ⟨w.heap.size + 1, 4, none⟩ (.slice A4 tt.length c4) := ⟨_, rfl⟩
  rw [← hW5]
  have hd5 : DS w g (.slice A m cap) ⟨ah, false, false, s3, be, true, le, mo⟩ q4 en [.slice none 0 0, .slice none 0 0, .slice none 0 0, .slice Aa (na.length + nb.length) ca, .slice A4 tt.length c4] W5 := by rw [hW5]; exact hd4.store 4 _
  have Ra := Lib.hid (show W5.ownsRow w.heap.size 3 1 _ _ _ by rw [hW5]; exact hd4.ownset Ra.out (by decide) 4 _)
  have R4 := Lib.hid (show W5.ownsRow w.heap.size 9 1 _ _ _ by rw [hW5]; exact hd4.ownset R4.out (by decide) 4 _)
  clear cs6 cs7 cd4 fd4 hW5 hd4
  refine (HY.out W5 q4  hd5.rb (hd5.row HW.out hbg) hq4 ).mono ?_
  intro e W6 hO
  obtain ⟨hg6, ⟨yy, q6, v6, e6, rfl, hr6, ho6⟩ | ⟨k, e6, rfl⟩⟩ := hO.cases
  case inr => exact ⟨rfl, DataOut.err (by simp [readD, bind, Except.bind, E1.out, E2.out, E4.out, e6]) (hd5.gr.trans hg6 fun _ e => .inl e)⟩
  have hd6 := hd5.step hg6 hr6
  replace ho6 : W6.ownsRow w.heap.size 5 1 v6 yy.length (yy.map bc) := own_mono ho6 hd5.gr.size
  obtain ⟨A6, c6, rfl, _, _⟩ := own_form ho6
  have Ra := Lib.hid (hd5.own Ra.out hg6)
  have R4 := Lib.hid (hd5.own R4.out hg6)
  have R6 := Lib.hid ho6
  have E6 := Lib.hid e6
  clear  ho6 hg6 hr6 e6 hd5
  have cd0 := hd6.hd 0
  simp only [List.getElem?_cons_zero] at cd0
  have fd0 := hd6.fd 0
  go_wp2
  obtain ⟨W7, hW7⟩ : ∃ W7, W7 = W6.setCell ⟨w.heap.size + 1, 0, none⟩ (.slice A6 yy.length c6) := ⟨_, rfl⟩
  rw [← hW7]
  have hd7 : DS w g (.slice A m cap) ⟨ah, false, false, s3, be, true, le, mo⟩ q6 en [.slice A6 yy.length c6, .slice none 0 0, .slice none 0 0, .slice Aa (na.length + nb.length) ca, .slice A4 tt.length c4] W7 := by rw [hW7]; exact hd6.store 0 _
  have Ra := Lib.hid (show W7.ownsRow w.heap.size 3 1 _ _ _ by rw [hW7]; exact hd6.ownset Ra.out (by decide) 0 _)
  have R4 := Lib.hid (show W7.ownsRow w.heap.size 9 1 _ _ _ by rw [hW7]; exact hd6.ownset R4.out (by decide) 0 _)
  have R6 := Lib.hid (show W7.ownsRow w.heap.size 5 1 _ _ _ by rw [hW7]; exact hd6.ownset R6.out (by decide) 0 _)
  clear cd0 fd0 hW7 hd6
  have g1 := hd7.rb.c1
  have g2 := hd7.rb.c2
  by_cases hx : q6 < en
  · have d1 : decide ((q6 : Int) < (en : Int)) = true := by simp; omega
    go_quiet (fail)
    go_wp2_with fail
    refine (giveUp_any _ _).mono ?_
    rintro e w' ⟨rfl, rfl⟩
    exact ⟨rfl, DataOut.err (by simp [readD, bind, Except.bind, E1.out, E2.out, E4.out, E6.out, hx]) (hd7.gr.drewN _)⟩
  · have d1 : decide ((q6 : Int) < (en : Int)) = false := by simp; omega
    have cd0 := hd7.hd 0
    have cd1 := hd7.hd 1
    have cd2 := hd7.hd 2
    have cd3 := hd7.hd 3
    have cd4 := hd7.hd 4
    simp only [List.getElem?_cons_zero, List.getElem?_cons_succ] at cd0 cd1 cd2 cd3 cd4
    have fd0 := hd7.fd 0
    have fd1 := hd7.fd 1
    have fd2 := hd7.fd 2
    have fd3 := hd7.fd 3
    have fd4 := hd7.fd 4
    go_quiet (fail)
    go_wp2
    have hr := fun k => hd7.restore k (.slice A6 yy.length c6) (.slice none 0 0) (.slice none 0 0) (.slice Aa (na.length + nb.length) ca) (.slice A4 tt.length c4)
    have HRS := Lib.hid hr
    clear hr cd0 cd1 cd2 cd3 cd4 fd0 fd1 fd2 fd3 fd4 g1 g2
    refine ⟨rfl, (DV.mk A6 none none Aa A4 c6 0 0 ca c4).val ⟨yy, [], [], na ++ nb, tt⟩, ?_, DataOut.ok _ (by simp [readD, bind, Except.bind, E1.out, E2.out, E4.out, E6.out, hx]) (HRS.out _).1.gr ⟨(HRS.out _).2 _ _ _ _ R6.out (by decide), World.ownsRow_nil _ _ _ _, World.ownsRow_nil _ _ _ _, ?_, (HRS.out _).2 _ _ _ _ R4.out (by decide)⟩⟩
    · have hz := fun k i => (HRS.out k).1.hd i
      have c0 := fun k => hz k 0
      have c1 := fun k => hz k 1
      have c2 := fun k => hz k 2
      have c3 := fun k => hz k 3
      have c4 := fun k => hz k 4
      clear hz
      simp only [List.set_cons_zero, List.set_cons_succ, List.getElem?_cons_zero, List.getElem?_cons_succ] at c0 c1 c2 c3 c4
      simp [results, Try.results78, go_sem, c0, c1, c2, c3, c4]
    · have h5 := fun k => (HRS.out k).2 _ _ _ _ Ra.out (by decide)
      simpa [DV.vn, List.length_append, List.map_append] using h5 _

end Go.Proofs.Ytjjmllbkfbdcnaa
