/-
  The reader of rdata: all parts of data.
-/
import Derived.Test.YthppgofpbpjglaaFbP5
import Derived.Recover
import Derived.Defers
import Derived.Laws.Pointers
import Derived.Test.YthppgofpbpjglaaFbP3
namespace Go.Proofs.Ythppgofpbpjglaa
open Go.RowKit

set_option maxRecDepth 4000 in
set_option maxHeartbeats 2000000 in
theorem data_bytes (w : World) (g : Nat) (A : Option Addr) (m cap base : Nat) (b : List UInt8) (p en : Nat) (s : Sh) (h1 : s.host = false) (h2 : s.mail = false) (h3 : s.texts = false) (k1 : s.ahead ≤ 10) (k2 : s.behind ≤ 10) (k3 : s.least ≤ 16) (k4 : s.most ≤ 65535)
    (h : RB w g (.slice A m cap) p en) (hbl : b.length = m) (hrow : Row w base A (b.map bc)) (hbg : base ≤ g) (hm : m ≤ cap) (hc : cap ≤ maxLen) (hen : en ≤ m) (hp : p ≤ en) :
    Calls Try.prog 92 #[.pointer (some ⟨g, 0, none⟩), s.val] w (DataOut w g (readD b p en s)) := by
  obtain ⟨i0, hi0, hz0, hz1, hz2⟩ := info_parts zint_info
  obtain ⟨ah, s1, s2, s3, be, s5, le, mo⟩ := s
  simp only at h1 h2 h3 k1 k2 k3 k4
  subst h1 h2 h3
  have HN := Lib.hid (fun W q s k hr hw hq h1 h2 hk => nums_any W g A m cap base b q en s k hr hbl hw hbg hm hc hen hq h1 h2 hk)
  have HM := Lib.hid (fun W q hr hw hq hbw => rname_read W g A m cap base b q en hr hbl hw hbw hm hc hen hq)
  have HT := Lib.hid (fun W q hr hw hq => texts_any W g A m cap base b q en hr hbl hw hbg hm hc hen hq)
  have HY := Lib.hid (fun W q hr hw hq => dbytes_any W g A m cap base b q en le mo hr hbl hw hbg hm hc hen hq k3 k4)
  have HW := Lib.hid hrow
  have hgl := h.lt
  have hen2 := Nat.le_trans hen (Nat.le_trans hm hc)
  unfold maxLen at hen2
  have HR := Lib.hid h
  clear h hrow hbl
  go_enter Try.func92, Try.ntmps92
  go_wp2_with fail
  obtain ⟨W0, hW0⟩ : ∃ W0, W0 = (w.alloc (.cells #[.int .i64 ah, .bool false, .bool false, .bool s3, .int .i64 be, .bool false, .int .i64 le, .int .i64 mo] 122)).alloc (.cells #[.slice none 0 0, .slice none 0 0, .slice none 0 0, .slice none 0 0, .slice none 0 0] 34) := ⟨_, rfl⟩
  rw [← hW0]
  have hd0 : DS w g (.slice A m cap) ⟨ah, false, false, s3, be, false, le, mo⟩ p en [.slice none 0 0, .slice none 0 0, .slice none 0 0, .slice none 0 0, .slice none 0 0] W0 := by
    rw [hW0]
    refine ⟨(HR.out.alloc _).alloc _, (Whole.made w [.int .i64 ah, .bool false, .bool false, .bool s3, .int .i64 be, .bool false, .int .i64 le, .int .i64 mo] _).alloc _, ?_, ((Grew.refl _ w).alloc _).alloc _, hgl⟩
    have := Whole.made (w.alloc (.cells #[.int .i64 ah, .bool false, .bool false, .bool s3, .int .i64 be, .bool false, .int .i64 le, .int .i64 mo] 122)) [.slice none 0 0, .slice none 0 0, .slice none 0 0, .slice none 0 0, .slice none 0 0] 34
    simpa using this
  clear hW0
  refine (HN.out W0 p 2 ah hd0.rb (hd0.row HW.out hbg) hp (by omega) (by omega) k1).mono ?_
  intro e W1 hO
  obtain ⟨hg1, ⟨na, q1, v1, e1, rfl, hr1, ho1⟩ | ⟨k, e1, rfl⟩⟩ := hO.cases
  case inr => exact ⟨rfl, DataOut.err (by simp [readD, bind, Except.bind, e1]) (hd0.gr.trans hg1 fun _ e => .inl e)⟩
  have hd1 := hd0.step hg1 hr1
  replace ho1 : W1.ownsRow w.heap.size 3 1 v1 na.length (na.map zv) := own_mono ho1 hd0.gr.size
  obtain ⟨A1, c1, rfl, _, _⟩ := own_form ho1
  have R1 := Lib.hid ho1
  have E1 := Lib.hid e1
  have hq1 := (numsR_le e1).1
  have hl1 : na.length ≤ 10 := by rw [(numsR_le e1).2]; assumption
  clear  ho1 hg1 hr1 e1 hd0
  have cs1 := hd1.hs 1
  have cs2 := hd1.hs 2
  have cs4 := hd1.hs 4
  simp only [List.getElem?_cons_zero, List.getElem?_cons_succ] at cs1 cs2 cs4
  go_wp2_with fail
  refine (HN.out W1 q1 4 be hd1.rb (hd1.row HW.out hbg) hq1 (by omega) (by omega) k2).mono ?_
  intro e W2 hO
  obtain ⟨hg2, ⟨nb, q2, v2, e2, rfl, hr2, ho2⟩ | ⟨k, e2, rfl⟩⟩ := hO.cases
  case inr => exact ⟨rfl, DataOut.err (by simp [readD, bind, Except.bind, E1.out, e2]) (hd1.gr.trans hg2 fun _ e => .inl e)⟩
  have hd2 := hd1.step hg2 hr2
  replace ho2 : W2.ownsRow w.heap.size 3 1 v2 nb.length (nb.map zv) := own_mono ho2 hd1.gr.size
  obtain ⟨A2, c2, rfl, _, _⟩ := own_form ho2
  have R1 := Lib.hid (hd1.own R1.out hg2)
  have R2 := Lib.hid ho2
  have E2 := Lib.hid e2
  have hq2 := (numsR_le e2).1
  have hl2 : nb.length ≤ 10 := by rw [(numsR_le e2).2]; assumption
  clear cs1 cs2 cs4 ho2 hg2 hr2 e2 hd1
  go_wp2_with (
    at_builtin
    refine wpList_append_at rfl (.tmp 20) (.tmp 24) _ rfl w.heap.size 3 i0 _ 1 8 Try.underlying32 hi0 hz0 hz1 hz2 rfl (by omega) (.slice A1 na.length c1) na.length _ rfl R1.out
      A2 nb.length c2 W2.heap.size (nb.map zv) rfl (by simp) (Row.of_own R2.out) (zv_one _) (by unfold maxLen; omega) (by omega) (by have := hd2.gr.size; omega) ?_
    intro va Wa howna hga hata
    obtain ⟨Aa, ca, rfl, _, _⟩ := own_form howna
    have hda := hd2.grown R1.out (by decide) (by decide) hga
    have Ra := Lib.hid howna
    clear howna hga hata hd2
    have cs5 := hda.hs 5
    have cs6 := hda.hs 6
    have cs7 := hda.hs 7
    have cd3 := hda.hd 3
    simp only [List.getElem?_cons_zero, List.getElem?_cons_succ] at cs5 cs6 cs7 cd3
    have fd3 := hda.fd 3
    )
  obtain ⟨W3, hW3⟩ : ∃ W3, W3 = Wa.setCell ⟨w.heap.size + 1, 3, none⟩ (.slice Aa (na.length + nb.length) ca) := ⟨_, rfl⟩
  rw [← hW3]
  have hd3 : DS w g (.slice A m cap) ⟨ah, false, false, s3, be, false, le, mo⟩ q2 en [.slice none 0 0, .slice none 0 0, .slice none 0 0, .slice Aa (na.length + nb.length) ca, .slice none 0 0] W3 := by rw [hW3]; exact hda.store 3 _
  have Ra := Lib.hid (show W3.ownsRow w.heap.size 3 1 _ _ _ by rw [hW3]; exact hda.ownset Ra.out (by decide) 3 _)
  clear cs5 cs6 cs7 cd3 fd3 hW3 hda
  refine (HY.out W3 q2  hd3.rb (hd3.row HW.out hbg) hq2 ).mono ?_
  intro e W4 hO
  obtain ⟨hg4, ⟨yy, q4, v4, e4, rfl, hr4, ho4⟩ | ⟨k, e4, rfl⟩⟩ := hO.cases
  case inr => exact ⟨rfl, DataOut.err (by simp [readD, bind, Except.bind, E1.out, E2.out, e4]) (hd3.gr.trans hg4 fun _ e => .inl e)⟩
  have hd4 := hd3.step hg4 hr4
  replace ho4 : W4.ownsRow w.heap.size 5 1 v4 yy.length (yy.map bc) := own_mono ho4 hd3.gr.size
  obtain ⟨A4, c4, rfl, _, _⟩ := own_form ho4
  have Ra := Lib.hid (hd3.own Ra.out hg4)
  have R4 := Lib.hid ho4
  have E4 := Lib.hid e4
  clear  ho4 hg4 hr4 e4 hd3
  have cd0 := hd4.hd 0
  simp only [List.getElem?_cons_zero] at cd0
  have fd0 := hd4.fd 0
  go_wp2
  obtain ⟨W5, hW5⟩ : ∃ W5, W5 = W4.setCell ⟨w.heap.size + 1, 0, none⟩ (.slice A4 yy.length c4) := ⟨_, rfl⟩
  rw [← hW5]
  have hd5 : DS w g (.slice A m cap) ⟨ah, false, false, s3, be, false, le, mo⟩ q4 en [.slice A4 yy.length c4, .slice none 0 0, .slice none 0 0, .slice Aa (na.length + nb.length) ca, .slice none 0 0] W5 := by rw [hW5]; exact hd4.store 0 _
  have Ra := Lib.hid (show W5.ownsRow w.heap.size 3 1 _ _ _ by rw [hW5]; exact hd4.ownset Ra.out (by decide) 0 _)
  have R4 := Lib.hid (show W5.ownsRow w.heap.size 5 1 _ _ _ by rw [hW5]; exact hd4.ownset R4.out (by decide) 0 _)
  clear cd0 fd0 hW5 hd4
  have g1 := hd5.rb.c1
  have g2 := hd5.rb.c2
  by_cases hx : q4 < en
  · have d1 : decide ((q4 : Int) < (en : Int)) = true := by simp; omega
    go_quiet (fail)
    go_wp2_with fail
    refine (giveUp_any _ _).mono ?_
    rintro e w' ⟨rfl, rfl⟩
    exact ⟨rfl, DataOut.err (by simp [readD, bind, Except.bind, E1.out, E2.out, E4.out, hx]) (hd5.gr.drewN _)⟩
  · have d1 : decide ((q4 : Int) < (en : Int)) = false := by simp; omega
    have cd0 := hd5.hd 0
    have cd1 := hd5.hd 1
    have cd2 := hd5.hd 2
    have cd3 := hd5.hd 3
    have cd4 := hd5.hd 4
    simp only [List.getElem?_cons_zero, List.getElem?_cons_succ] at cd0 cd1 cd2 cd3 cd4
    have fd0 := hd5.fd 0
    have fd1 := hd5.fd 1
    have fd2 := hd5.fd 2
    have fd3 := hd5.fd 3
    have fd4 := hd5.fd 4
    go_quiet (fail)
    go_wp2
    have hr := fun k => hd5.restore k (.slice A4 yy.length c4) (.slice none 0 0) (.slice none 0 0) (.slice Aa (na.length + nb.length) ca) (.slice none 0 0)
    have HRS := Lib.hid hr
    clear hr cd0 cd1 cd2 cd3 cd4 fd0 fd1 fd2 fd3 fd4 g1 g2
    refine ⟨rfl, (DV.mk A4 none none Aa none c4 0 0 ca 0).val ⟨yy, [], [], na ++ nb, []⟩, ?_, DataOut.ok _ (by simp [readD, bind, Except.bind, E1.out, E2.out, E4.out, hx]) (HRS.out _).1.gr ⟨(HRS.out _).2 _ _ _ _ R4.out (by decide), World.ownsRow_nil _ _ _ _, World.ownsRow_nil _ _ _ _, ?_, World.ownsRow_nil _ _ _ _⟩⟩
    · have hz := fun k i => (HRS.out k).1.hd i
      have c0 := fun k => hz k 0
      have c1 := fun k => hz k 1
      have c2 := fun k => hz k 2
      have c3 := fun k => hz k 3
      have c4 := fun k => hz k 4
      clear hz
      simp only [List.set_cons_zero, List.set_cons_succ, List.getElem?_cons_zero, List.getElem?_cons_succ] at c0 c1 c2 c3 c4
      simp [results, Try.results92, go_sem, c0, c1, c2, c3, c4]
    · have h5 := fun k => (HRS.out k).2 _ _ _ _ Ra.out (by decide)
      simpa [DV.vn, List.length_append, List.map_append] using h5 _

set_option maxRecDepth 4000 in
set_option maxHeartbeats 2000000 in
theorem data_host (w : World) (g : Nat) (A : Option Addr) (m cap base : Nat) (b : List UInt8) (p en : Nat) (s : Sh) (h1 : s.host = true) (h2 : s.mail = false) (h3 : s.texts = false) (k1 : s.ahead ≤ 10) (k2 : s.behind ≤ 10) (k3 : s.least ≤ 16) (k4 : s.most ≤ 65535)
    (h : RB w g (.slice A m cap) p en) (hbl : b.length = m) (hrow : Row w base A (b.map bc)) (hbg : base ≤ g) (hm : m ≤ cap) (hc : cap ≤ maxLen) (hen : en ≤ m) (hp : p ≤ en) :
    Calls Try.prog 92 #[.pointer (some ⟨g, 0, none⟩), s.val] w (DataOut w g (readD b p en s)) := by
  obtain ⟨i0, hi0, hz0, hz1, hz2⟩ := info_parts zint_info
  obtain ⟨ah, s1, s2, s3, be, s5, le, mo⟩ := s
  simp only at h1 h2 h3 k1 k2 k3 k4
  subst h1 h2 h3
  have HN := Lib.hid (fun W q s k hr hw hq h1 h2 hk => nums_any W g A m cap base b q en s k hr hbl hw hbg hm hc hen hq h1 h2 hk)
  have HM := Lib.hid (fun W q hr hw hq hbw => rname_read W g A m cap base b q en hr hbl hw hbw hm hc hen hq)
  have HT := Lib.hid (fun W q hr hw hq => texts_any W g A m cap base b q en hr hbl hw hbg hm hc hen hq)
  have HY := Lib.hid (fun W q hr hw hq => dbytes_any W g A m cap base b q en le mo hr hbl hw hbg hm hc hen hq k3 k4)
  have HW := Lib.hid hrow
  have hgl := h.lt
  have hen2 := Nat.le_trans hen (Nat.le_trans hm hc)
  unfold maxLen at hen2
  have HR := Lib.hid h
  clear h hrow hbl
  go_enter Try.func92, Try.ntmps92
  go_wp2_with fail
  obtain ⟨W0, hW0⟩ : ∃ W0, W0 = (w.alloc (.cells #[.int .i64 ah, .bool true, .bool false, .bool s3, .int .i64 be, .bool false, .int .i64 le, .int .i64 mo] 122)).alloc (.cells #[.slice none 0 0, .slice none 0 0, .slice none 0 0, .slice none 0 0, .slice none 0 0] 34) := ⟨_, rfl⟩
  rw [← hW0]
  have hd0 : DS w g (.slice A m cap) ⟨ah, true, false, s3, be, false, le, mo⟩ p en [.slice none 0 0, .slice none 0 0, .slice none 0 0, .slice none 0 0, .slice none 0 0] W0 := by
    rw [hW0]
    refine ⟨(HR.out.alloc _).alloc _, (Whole.made w [.int .i64 ah, .bool true, .bool false, .bool s3, .int .i64 be, .bool false, .int .i64 le, .int .i64 mo] _).alloc _, ?_, ((Grew.refl _ w).alloc _).alloc _, hgl⟩
    have := Whole.made (w.alloc (.cells #[.int .i64 ah, .bool true, .bool false, .bool s3, .int .i64 be, .bool false, .int .i64 le, .int .i64 mo] 122)) [.slice none 0 0, .slice none 0 0, .slice none 0 0, .slice none 0 0, .slice none 0 0] 34
    simpa using this
  clear hW0
  refine (HN.out W0 p 2 ah hd0.rb (hd0.row HW.out hbg) hp (by omega) (by omega) k1).mono ?_
  intro e W1 hO
  obtain ⟨hg1, ⟨na, q1, v1, e1, rfl, hr1, ho1⟩ | ⟨k, e1, rfl⟩⟩ := hO.cases
  case inr => exact ⟨rfl, DataOut.err (by simp [readD, bind, Except.bind, e1]) (hd0.gr.trans hg1 fun _ e => .inl e)⟩
  have hd1 := hd0.step hg1 hr1
  replace ho1 : W1.ownsRow w.heap.size 3 1 v1 na.length (na.map zv) := own_mono ho1 hd0.gr.size
  obtain ⟨A1, c1, rfl, _, _⟩ := own_form ho1
  have R1 := Lib.hid ho1
  have E1 := Lib.hid e1
  have hq1 := (numsR_le e1).1
  have hl1 : na.length ≤ 10 := by rw [(numsR_le e1).2]; assumption
  clear  ho1 hg1 hr1 e1 hd0
  have cs1 := hd1.hs 1
  simp only [List.getElem?_cons_zero, List.getElem?_cons_succ] at cs1
  go_wp2_with fail
  refine (HM.out W1 q1  hd1.rb (hd1.row HW.out hbg) hq1 (by have := hd1.gr.size; omega)).mono ?_
  intro e W2 hO
  obtain ⟨hg2, ⟨hh, q2, v2, e2, rfl, hr2, ho2⟩ | ⟨k, e2, rfl⟩⟩ := hO.cases
  case inr => exact ⟨rfl, DataOut.err (by simp [readD, bind, Except.bind, E1.out, e2]) (hd1.gr.trans hg2 fun _ e => .inl e)⟩
  have hd2 := hd1.step hg2 hr2
  replace ho2 : W2.ownsRow w.heap.size 9 1 v2 hh.length (hh.map sv) := own_mono ho2 hd1.gr.size
  obtain ⟨A2, c2, rfl, _, _⟩ := own_form ho2
  have R1 := Lib.hid (hd1.own R1.out hg2)
  have R2 := Lib.hid ho2
  have E2 := Lib.hid e2
  have hq2 := nameR_le e2
  clear cs1 ho2 hg2 hr2 e2 hd1
  have cs2 := hd2.hs 2
  have cs4 := hd2.hs 4
  have cd1 := hd2.hd 1
  simp only [List.getElem?_cons_zero, List.getElem?_cons_succ] at cs2 cs4 cd1
  have fd1 := hd2.fd 1
  go_wp2_with fail
  obtain ⟨W3, hW3⟩ : ∃ W3, W3 = W2.setCell ⟨w.heap.size + 1, 1, none⟩ (.slice A2 hh.length c2) := ⟨_, rfl⟩
  rw [← hW3]
  have hd3 : DS w g (.slice A m cap) ⟨ah, true, false, s3, be, false, le, mo⟩ q2 en [.slice none 0 0, .slice A2 hh.length c2, .slice none 0 0, .slice none 0 0, .slice none 0 0] W3 := by rw [hW3]; exact hd2.store 1 _
  have R1 := Lib.hid (show W3.ownsRow w.heap.size 3 1 _ _ _ by rw [hW3]; exact hd2.ownset R1.out (by decide) 1 _)
  have R2 := Lib.hid (show W3.ownsRow w.heap.size 9 1 _ _ _ by rw [hW3]; exact hd2.ownset R2.out (by decide) 1 _)
  clear cs2 cs4 cd1 fd1 hW3 hd2
  refine (HN.out W3 q2 4 be hd3.rb (hd3.row HW.out hbg) hq2 (by omega) (by omega) k2).mono ?_
  intro e W4 hO
  obtain ⟨hg4, ⟨nb, q4, v4, e4, rfl, hr4, ho4⟩ | ⟨k, e4, rfl⟩⟩ := hO.cases
  case inr => exact ⟨rfl, DataOut.err (by simp [readD, bind, Except.bind, E1.out, E2.out, e4]) (hd3.gr.trans hg4 fun _ e => .inl e)⟩
  have hd4 := hd3.step hg4 hr4
  replace ho4 : W4.ownsRow w.heap.size 3 1 v4 nb.length (nb.map zv) := own_mono ho4 hd3.gr.size
  obtain ⟨A4, c4, rfl, _, _⟩ := own_form ho4
  have R1 := Lib.hid (hd3.own R1.out hg4)
  have R2 := Lib.hid (hd3.own R2.out hg4)
  have R4 := Lib.hid ho4
  have E4 := Lib.hid e4
  have hq4 := (numsR_le e4).1
  have hl4 : nb.length ≤ 10 := by rw [(numsR_le e4).2]; assumption
  clear  ho4 hg4 hr4 e4 hd3
  go_wp2_with (
    at_builtin
    refine wpList_append_at rfl (.tmp 20) (.tmp 24) _ rfl w.heap.size 3 i0 _ 1 8 Try.underlying32 hi0 hz0 hz1 hz2 rfl (by omega) (.slice A1 na.length c1) na.length _ rfl R1.out
      A4 nb.length c4 W4.heap.size (nb.map zv) rfl (by simp) (Row.of_own R4.out) (zv_one _) (by unfold maxLen; omega) (by omega) (by have := hd4.gr.size; omega) ?_
    intro va Wa howna hga hata
    obtain ⟨Aa, ca, rfl, _, _⟩ := own_form howna
    have hda := hd4.grown R1.out (by decide) (by decide) hga
    have R2 := Lib.hid (R2.out.kept hga (rows_apart R2.out R1.out (by decide)))
    have Ra := Lib.hid howna
    clear howna hga hata hd4
    have cs5 := hda.hs 5
    have cs6 := hda.hs 6
    have cs7 := hda.hs 7
    have cd3 := hda.hd 3
    simp only [List.getElem?_cons_zero, List.getElem?_cons_succ] at cs5 cs6 cs7 cd3
    have fd3 := hda.fd 3
    )
  obtain ⟨W5, hW5⟩ : ∃ W5, W5 = Wa.setCell ⟨w.heap.size + 1, 3, none⟩ (.slice Aa (na.length + nb.length) ca) := ⟨_, rfl⟩
  rw [← hW5]
  have hd5 : DS w g (.slice A m cap) ⟨ah, true, false, s3, be, false, le, mo⟩ q4 en [.slice none 0 0, .slice A2 hh.length c2, .slice none 0 0, .slice Aa (na.length + nb.length) ca, .slice none 0 0] W5 := by rw [hW5]; exact hda.store 3 _
  have R2 := Lib.hid (show W5.ownsRow w.heap.size 9 1 _ _ _ by rw [hW5]; exact hda.ownset R2.out (by decide) 3 _)
  have Ra := Lib.hid (show W5.ownsRow w.heap.size 3 1 _ _ _ by rw [hW5]; exact hda.ownset Ra.out (by decide) 3 _)
  clear cs5 cs6 cs7 cd3 fd3 hW5 hda
  refine (HY.out W5 q4  hd5.rb (hd5.row HW.out hbg) hq4 ).mono ?_
  intro e W6 hO
  obtain ⟨hg6, ⟨yy, q6, v6, e6, rfl, hr6, ho6⟩ | ⟨k, e6, rfl⟩⟩ := hO.cases
  case inr => exact ⟨rfl, DataOut.err (by simp [readD, bind, Except.bind, E1.out, E2.out, E4.out, e6]) (hd5.gr.trans hg6 fun _ e => .inl e)⟩
  have hd6 := hd5.step hg6 hr6
  replace ho6 : W6.ownsRow w.heap.size 5 1 v6 yy.length (yy.map bc) := own_mono ho6 hd5.gr.size
  obtain ⟨A6, c6, rfl, _, _⟩ := own_form ho6
  have R2 := Lib.hid (hd5.own R2.out hg6)
  have Ra := Lib.hid (hd5.own Ra.out hg6)
  have R6 := Lib.hid ho6
  have E6 := Lib.hid e6
  clear  ho6 hg6 hr6 e6 hd5
  have cd0 := hd6.hd 0
  simp only [List.getElem?_cons_zero] at cd0
  have fd0 := hd6.fd 0
  go_wp2
  obtain ⟨W7, hW7⟩ : ∃ W7, W7 = W6.setCell ⟨w.heap.size + 1, 0, none⟩ (.slice A6 yy.length c6) := ⟨_, rfl⟩
  rw [← hW7]
  have hd7 : DS w g (.slice A m cap) ⟨ah, true, false, s3, be, false, le, mo⟩ q6 en [.slice A6 yy.length c6, .slice A2 hh.length c2, .slice none 0 0, .slice Aa (na.length + nb.length) ca, .slice none 0 0] W7 := by rw [hW7]; exact hd6.store 0 _
  have R2 := Lib.hid (show W7.ownsRow w.heap.size 9 1 _ _ _ by rw [hW7]; exact hd6.ownset R2.out (by decide) 0 _)
  have Ra := Lib.hid (show W7.ownsRow w.heap.size 3 1 _ _ _ by rw [hW7]; exact hd6.ownset Ra.out (by decide) 0 _)
  have R6 := Lib.hid (show W7.ownsRow w.heap.size 5 1 _ _ _ by rw [hW7]; exact hd6.ownset R6.out (by decide) 0 _)
  clear cd0 fd0 hW7 hd6
  have g1 := hd7.rb.c1
  have g2 := hd7.rb.c2
  by_cases hx : q6 < en
  · have d1 : decide ((q6 : Int) < (en : Int)) = true := by simp; omega
    go_quiet (fail)
    go_wp2_with fail
    refine (giveUp_any _ _).mono ?_
    rintro e w' ⟨rfl, rfl⟩
    exact ⟨rfl, DataOut.err (by simp [readD, bind, Except.bind, E1.out, E2.out, E4.out, E6.out, hx]) (hd7.gr.drewN _)⟩
  · have d1 : decide ((q6 : Int) < (en : Int)) = false := by simp; omega
    have cd0 := hd7.hd 0
    have cd1 := hd7.hd 1
    have cd2 := hd7.hd 2
    have cd3 := hd7.hd 3
    have cd4 := hd7.hd 4
    simp only [List.getElem?_cons_zero, List.getElem?_cons_succ] at cd0 cd1 cd2 cd3 cd4
    have fd0 := hd7.fd 0
    have fd1 := hd7.fd 1
    have fd2 := hd7.fd 2
    have fd3 := hd7.fd 3
    have fd4 := hd7.fd 4
    go_quiet (fail)
    go_wp2
    have hr := fun k => hd7.restore k (.slice A6 yy.length c6) (.slice A2 hh.length c2) (.slice none 0 0) (.slice Aa (na.length + nb.length) ca) (.slice none 0 0)
    have HRS := Lib.hid hr
    clear hr cd0 cd1 cd2 cd3 cd4 fd0 fd1 fd2 fd3 fd4 g1 g2
    refine ⟨rfl, (DV.mk A6 A2 none Aa none c6 c2 0 ca 0).val ⟨yy, hh, [], na ++ nb, []⟩, ?_, DataOut.ok _ (by simp [readD, bind, Except.bind, E1.out, E2.out, E4.out, E6.out, hx]) (HRS.out _).1.gr ⟨(HRS.out _).2 _ _ _ _ R6.out (by decide), (HRS.out _).2 _ _ _ _ R2.out (by decide), World.ownsRow_nil _ _ _ _, ?_, World.ownsRow_nil _ _ _ _⟩⟩
    · have hz := fun k i => (HRS.out k).1.hd i
      have c0 := fun k => hz k 0
      have c1 := fun k => hz k 1
      have c2 := fun k => hz k 2
      have c3 := fun k => hz k 3
      have c4 := fun k => hz k 4
      clear hz
      simp only [List.set_cons_zero, List.set_cons_succ, List.getElem?_cons_zero, List.getElem?_cons_succ] at c0 c1 c2 c3 c4
      simp [results, Try.results92, go_sem, c0, c1, c2, c3, c4]
    · have h5 := fun k => (HRS.out k).2 _ _ _ _ Ra.out (by decide)
      simpa [DV.vn, List.length_append, List.map_append] using h5 _

set_option maxRecDepth 4000 in
set_option maxHeartbeats 2000000 in
theorem data_both (w : World) (g : Nat) (A : Option Addr) (m cap base : Nat) (b : List UInt8) (p en : Nat) (s : Sh) (h1 : s.host = true) (h2 : s.mail = true) (h3 : s.texts = false) (k1 : s.ahead ≤ 10) (k2 : s.behind ≤ 10) (k3 : s.least ≤ 16) (k4 : s.most ≤ 65535)
    (h : RB w g (.slice A m cap) p en) (hbl : b.length = m) (hrow : Row w base A (b.map bc)) (hbg : base ≤ g) (hm : m ≤ cap) (hc : cap ≤ maxLen) (hen : en ≤ m) (hp : p ≤ en) :
    Calls Try.prog 92 #[.pointer (some ⟨g, 0, none⟩), s.val] w (DataOut w g (readD b p en s)) := by
  obtain ⟨i0, hi0, hz0, hz1, hz2⟩ := info_parts zint_info
  obtain ⟨ah, s1, s2, s3, be, s5, le, mo⟩ := s
  simp only at h1 h2 h3 k1 k2 k3 k4
  subst h1 h2 h3
  have HN := Lib.hid (fun W q s k hr hw hq h1 h2 hk => nums_any W g A m cap base b q en s k hr hbl hw hbg hm hc hen hq h1 h2 hk)
  have HM := Lib.hid (fun W q hr hw hq hbw => rname_read W g A m cap base b q en hr hbl hw hbw hm hc hen hq)
  have HT := Lib.hid (fun W q hr hw hq => texts_any W g A m cap base b q en hr hbl hw hbg hm hc hen hq)
  have HY := Lib.hid (fun W q hr hw hq => dbytes_any W g A m cap base b q en le mo hr hbl hw hbg hm hc hen hq k3 k4)
  have HW := Lib.hid hrow
  have hgl := h.lt
  have hen2 := Nat.le_trans hen (Nat.le_trans hm hc)
  unfold maxLen at hen2
  have HR := Lib.hid h
  clear h hrow hbl
  go_enter Try.func92, Try.ntmps92
  go_wp2_with fail
  obtain ⟨W0, hW0⟩ : ∃ W0, W0 = (w.alloc (.cells #[.int .i64 ah, .bool true, .bool true, .bool s3, .int .i64 be, .bool false, .int .i64 le, .int .i64 mo] 122)).alloc (.cells #[.slice none 0 0, .slice none 0 0, .slice none 0 0, .slice none 0 0, .slice none 0 0] 34) := ⟨_, rfl⟩
  rw [← hW0]
  have hd0 : DS w g (.slice A m cap) ⟨ah, true, true, s3, be, false, le, mo⟩ p en [.slice none 0 0, .slice none 0 0, .slice none 0 0, .slice none 0 0, .slice none 0 0] W0 := by
    rw [hW0]
    refine ⟨(HR.out.alloc _).alloc _, (Whole.made w [.int .i64 ah, .bool true, .bool true, .bool s3, .int .i64 be, .bool false, .int .i64 le, .int .i64 mo] _).alloc _, ?_, ((Grew.refl _ w).alloc _).alloc _, hgl⟩
    have := Whole.made (w.alloc (.cells #[.int .i64 ah, .bool true, .bool true, .bool s3, .int .i64 be, .bool false, .int .i64 le, .int .i64 mo] 122)) [.slice none 0 0, .slice none 0 0, .slice none 0 0, .slice none 0 0, .slice none 0 0] 34
    simpa using this
  clear hW0
  refine (HN.out W0 p 2 ah hd0.rb (hd0.row HW.out hbg) hp (by omega) (by omega) k1).mono ?_
  intro e W1 hO
  obtain ⟨hg1, ⟨na, q1, v1, e1, rfl, hr1, ho1⟩ | ⟨k, e1, rfl⟩⟩ := hO.cases
  case inr => exact ⟨rfl, DataOut.err (by simp [readD, bind, Except.bind, e1]) (hd0.gr.trans hg1 fun _ e => .inl e)⟩
  have hd1 := hd0.step hg1 hr1
  replace ho1 : W1.ownsRow w.heap.size 3 1 v1 na.length (na.map zv) := own_mono ho1 hd0.gr.size
  obtain ⟨A1, c1, rfl, _, _⟩ := own_form ho1
  have R1 := Lib.hid ho1
  have E1 := Lib.hid e1
  have hq1 := (numsR_le e1).1
  have hl1 : na.length ≤ 10 := by rw [(numsR_le e1).2]; assumption
  clear  ho1 hg1 hr1 e1 hd0
  have cs1 := hd1.hs 1
  simp only [List.getElem?_cons_zero, List.getElem?_cons_succ] at cs1
  go_wp2_with fail
  refine (HM.out W1 q1  hd1.rb (hd1.row HW.out hbg) hq1 (by have := hd1.gr.size; omega)).mono ?_
  intro e W2 hO
  obtain ⟨hg2, ⟨hh, q2, v2, e2, rfl, hr2, ho2⟩ | ⟨k, e2, rfl⟩⟩ := hO.cases
  case inr => exact ⟨rfl, DataOut.err (by simp [readD, bind, Except.bind, E1.out, e2]) (hd1.gr.trans hg2 fun _ e => .inl e)⟩
  have hd2 := hd1.step hg2 hr2
  replace ho2 : W2.ownsRow w.heap.size 9 1 v2 hh.length (hh.map sv) := own_mono ho2 hd1.gr.size
  obtain ⟨A2, c2, rfl, _, _⟩ := own_form ho2
  have R1 := Lib.hid (hd1.own R1.out hg2)
  have R2 := Lib.hid ho2
  have E2 := Lib.hid e2
  have hq2 := nameR_le e2
  clear cs1 ho2 hg2 hr2 e2 hd1
  have cs2 := hd2.hs 2
  have cd1 := hd2.hd 1
  simp only [List.getElem?_cons_zero, List.getElem?_cons_succ] at cs2 cd1
  have fd1 := hd2.fd 1
  go_wp2_with fail
  obtain ⟨W3, hW3⟩ : ∃ W3, W3 = W2.setCell ⟨w.heap.size + 1, 1, none⟩ (.slice A2 hh.length c2) := ⟨_, rfl⟩
  rw [← hW3]
  have hd3 : DS w g (.slice A m cap) ⟨ah, true, true, s3, be, false, le, mo⟩ q2 en [.slice none 0 0, .slice A2 hh.length c2, .slice none 0 0, .slice none 0 0, .slice none 0 0] W3 := by rw [hW3]; exact hd2.store 1 _
  have R1 := Lib.hid (show W3.ownsRow w.heap.size 3 1 _ _ _ by rw [hW3]; exact hd2.ownset R1.out (by decide) 1 _)
  have R2 := Lib.hid (show W3.ownsRow w.heap.size 9 1 _ _ _ by rw [hW3]; exact hd2.ownset R2.out (by decide) 1 _)
  clear cs2 cd1 fd1 hW3 hd2
  refine (HM.out W3 q2  hd3.rb (hd3.row HW.out hbg) hq2 (by have := hd3.gr.size; omega)).mono ?_
  intro e W4 hO
  obtain ⟨hg4, ⟨mm, q4, v4, e4, rfl, hr4, ho4⟩ | ⟨k, e4, rfl⟩⟩ := hO.cases
  case inr => exact ⟨rfl, DataOut.err (by simp [readD, bind, Except.bind, E1.out, E2.out, e4]) (hd3.gr.trans hg4 fun _ e => .inl e)⟩
  have hd4 := hd3.step hg4 hr4
  replace ho4 : W4.ownsRow w.heap.size 9 1 v4 mm.length (mm.map sv) := own_mono ho4 hd3.gr.size
  obtain ⟨A4, c4, rfl, _, _⟩ := own_form ho4
  have R1 := Lib.hid (hd3.own R1.out hg4)
  have R2 := Lib.hid (hd3.own R2.out hg4)
  have R4 := Lib.hid ho4
  have E4 := Lib.hid e4
  have hq4 := nameR_le e4
  clear  ho4 hg4 hr4 e4 hd3
  have cs4 := hd4.hs 4
  have cd2 := hd4.hd 2
  simp only [List.getElem?_cons_zero, List.getElem?_cons_succ] at cs4 cd2
  have fd2 := hd4.fd 2
  go_wp2_with fail
  obtain ⟨W5, hW5⟩ : ∃ W5, W5 = W4.setCell ⟨w.heap.size + 1, 2, none⟩ (.slice A4 mm.length c4) := ⟨_, rfl⟩
  rw [← hW5]
  have hd5 : DS w g (.slice A m cap) ⟨ah, true, true, s3, be, false, le, mo⟩ q4 en [.slice none 0 0, .slice A2 hh.length c2, .slice A4 mm.length c4, .slice none 0 0, .slice none 0 0] W5 := by rw [hW5]; exact hd4.store 2 _
  have R1 := Lib.hid (show W5.ownsRow w.heap.size 3 1 _ _ _ by rw [hW5]; exact hd4.ownset R1.out (by decide) 2 _)
  have R2 := Lib.hid (show W5.ownsRow w.heap.size 9 1 _ _ _ by rw [hW5]; exact hd4.ownset R2.out (by decide) 2 _)
  have R4 := Lib.hid (show W5.ownsRow w.heap.size 9 1 _ _ _ by rw [hW5]; exact hd4.ownset R4.out (by decide) 2 _)
  clear cs4 cd2 fd2 hW5 hd4
  refine (HN.out W5 q4 4 be hd5.rb (hd5.row HW.out hbg) hq4 (by omega) (by omega) k2).mono ?_
  intro e W6 hO
  obtain ⟨hg6, ⟨nb, q6, v6, e6, rfl, hr6, ho6⟩ | ⟨k, e6, rfl⟩⟩ := hO.cases
  case inr => exact ⟨rfl, DataOut.err (by simp [readD, bind, Except.bind, E1.out, E2.out, E4.out, e6]) (hd5.gr.trans hg6 fun _ e => .inl e)⟩
  have hd6 := hd5.step hg6 hr6
  replace ho6 : W6.ownsRow w.heap.size 3 1 v6 nb.length (nb.map zv) := own_mono ho6 hd5.gr.size
  obtain ⟨A6, c6, rfl, _, _⟩ := own_form ho6
  have R1 := Lib.hid (hd5.own R1.out hg6)
  have R2 := Lib.hid (hd5.own R2.out hg6)
  have R4 := Lib.hid (hd5.own R4.out hg6)
  have R6 := Lib.hid ho6
  have E6 := Lib.hid e6
  have hq6 := (numsR_le e6).1
  have hl6 : nb.length ≤ 10 := by rw [(numsR_le e6).2]; assumption
  clear  ho6 hg6 hr6 e6 hd5
  go_wp2_with (
    at_builtin
    refine wpList_append_at rfl (.tmp 20) (.tmp 24) _ rfl w.heap.size 3 i0 _ 1 8 Try.underlying32 hi0 hz0 hz1 hz2 rfl (by omega) (.slice A1 na.length c1) na.length _ rfl R1.out
      A6 nb.length c6 W6.heap.size (nb.map zv) rfl (by simp) (Row.of_own R6.out) (zv_one _) (by unfold maxLen; omega) (by omega) (by have := hd6.gr.size; omega) ?_
    intro va Wa howna hga hata
    obtain ⟨Aa, ca, rfl, _, _⟩ := own_form howna
    have hda := hd6.grown R1.out (by decide) (by decide) hga
    have R2 := Lib.hid (R2.out.kept hga (rows_apart R2.out R1.out (by decide)))
    have R4 := Lib.hid (R4.out.kept hga (rows_apart R4.out R1.out (by decide)))
    have Ra := Lib.hid howna
    clear howna hga hata hd6
    have cs5 := hda.hs 5
    have cs6 := hda.hs 6
    have cs7 := hda.hs 7
    have cd3 := hda.hd 3
    simp only [List.getElem?_cons_zero, List.getElem?_cons_succ] at cs5 cs6 cs7 cd3
    have fd3 := hda.fd 3
    )
  obtain ⟨W7, hW7⟩ : ∃ W7, W7 = Wa.setCell ⟨w.heap.size + 1, 3, none⟩ (.slice Aa (na.length + nb.length) ca) := ⟨_, rfl⟩
  rw [← hW7]
  have hd7 : DS w g (.slice A m cap) ⟨ah, true, true, s3, be, false, le, mo⟩ q6 en [.slice none 0 0, .slice A2 hh.length c2, .slice A4 mm.length c4, .slice Aa (na.length + nb.length) ca, .slice none 0 0] W7 := by rw [hW7]; exact hda.store 3 _
  have R2 := Lib.hid (show W7.ownsRow w.heap.size 9 1 _ _ _ by rw [hW7]; exact hda.ownset R2.out (by decide) 3 _)
  have R4 := Lib.hid (show W7.ownsRow w.heap.size 9 1 _ _ _ by rw [hW7]; exact hda.ownset R4.out (by decide) 3 _)
  have Ra := Lib.hid (show W7.ownsRow w.heap.size 3 1 _ _ _ by rw [hW7]; exact hda.ownset Ra.out (by decide) 3 _)
  clear cs5 cs6 cs7 cd3 fd3 hW7 hda
  refine (HY.out W7 q6  hd7.rb (hd7.row HW.out hbg) hq6 ).mono ?_
  intro e W8 hO
  obtain ⟨hg8, ⟨yy, q8, v8, e8, rfl, hr8, ho8⟩ | ⟨k, e8, rfl⟩⟩ := hO.cases
  case inr => exact ⟨rfl, DataOut.err (by simp [readD, bind, Except.bind, E1.out, E2.out, E4.out, E6.out, e8]) (hd7.gr.trans hg8 fun _ e => .inl e)⟩
  have hd8 := hd7.step hg8 hr8
  replace ho8 : W8.ownsRow w.heap.size 5 1 v8 yy.length (yy.map bc) := own_mono ho8 hd7.gr.size
  obtain ⟨A8, c8, rfl, _, _⟩ := own_form ho8
  have R2 := Lib.hid (hd7.own R2.out hg8)
  have R4 := Lib.hid (hd7.own R4.out hg8)
  have Ra := Lib.hid (hd7.own Ra.out hg8)
  have R8 := Lib.hid ho8
  have E8 := Lib.hid e8
  clear  ho8 hg8 hr8 e8 hd7
  have cd0 := hd8.hd 0
  simp only [List.getElem?_cons_zero] at cd0
  have fd0 := hd8.fd 0
  go_wp2
  obtain ⟨W9, hW9⟩ : ∃ W9, W9 = W8.setCell ⟨w.heap.size + 1, 0, none⟩ (.slice A8 yy.length c8) := ⟨_, rfl⟩
  rw [← hW9]
  have hd9 : DS w g (.slice A m cap) ⟨ah, true, true, s3, be, false, le, mo⟩ q8 en [.slice A8 yy.length c8, .slice A2 hh.length c2, .slice A4 mm.length c4, .slice Aa (na.length + nb.length) ca, .slice none 0 0] W9 := by rw [hW9]; exact hd8.store 0 _
  have R2 := Lib.hid (show W9.ownsRow w.heap.size 9 1 _ _ _ by rw [hW9]; exact hd8.ownset R2.out (by decide) 0 _)
  have R4 := Lib.hid (show W9.ownsRow w.heap.size 9 1 _ _ _ by rw [hW9]; exact hd8.ownset R4.out (by decide) 0 _)
  have Ra := Lib.hid (show W9.ownsRow w.heap.size 3 1 _ _ _ by rw [hW9]; exact hd8.ownset Ra.out (by decide) 0 _)
  have R8 := Lib.hid (show W9.ownsRow w.heap.size 5 1 _ _ _ by rw [hW9]; exact hd8.ownset R8.out (by decide) 0 _)
  clear cd0 fd0 hW9 hd8
  have g1 := hd9.rb.c1
  have g2 := hd9.rb.c2
  by_cases hx : q8 < en
  · have d1 : decide ((q8 : Int) < (en : Int)) = true := by simp; omega
    go_quiet (fail)
    go_wp2_with fail
    refine (giveUp_any _ _).mono ?_
    rintro e w' ⟨rfl, rfl⟩
    exact ⟨rfl, DataOut.err (by simp [readD, bind, Except.bind, E1.out, E2.out, E4.out, E6.out, E8.out, hx]) (hd9.gr.drewN _)⟩
  · have d1 : decide ((q8 : Int) < (en : Int)) = false := by simp; omega
    have cd0 := hd9.hd 0
    have cd1 := hd9.hd 1
    have cd2 := hd9.hd 2
    have cd3 := hd9.hd 3
    have cd4 := hd9.hd 4
    simp only [List.getElem?_cons_zero, List.getElem?_cons_succ] at cd0 cd1 cd2 cd3 cd4
    have fd0 := hd9.fd 0
    have fd1 := hd9.fd 1
    have fd2 := hd9.fd 2
    have fd3 := hd9.fd 3
    have fd4 := hd9.fd 4
    go_quiet (fail)
    go_wp2
    have hr := fun k => hd9.restore k (.slice A8 yy.length c8) (.slice A2 hh.length c2) (.slice A4 mm.length c4) (.slice Aa (na.length + nb.length) ca) (.slice none 0 0)
    have HRS := Lib.hid hr
    clear hr cd0 cd1 cd2 cd3 cd4 fd0 fd1 fd2 fd3 fd4 g1 g2
    refine ⟨rfl, (DV.mk A8 A2 A4 Aa none c8 c2 c4 ca 0).val ⟨yy, hh, mm, na ++ nb, []⟩, ?_, DataOut.ok _ (by simp [readD, bind, Except.bind, E1.out, E2.out, E4.out, E6.out, E8.out, hx]) (HRS.out _).1.gr ⟨(HRS.out _).2 _ _ _ _ R8.out (by decide), (HRS.out _).2 _ _ _ _ R2.out (by decide), (HRS.out _).2 _ _ _ _ R4.out (by decide), ?_, World.ownsRow_nil _ _ _ _⟩⟩
    · have hz := fun k i => (HRS.out k).1.hd i
      have c0 := fun k => hz k 0
      have c1 := fun k => hz k 1
      have c2 := fun k => hz k 2
      have c3 := fun k => hz k 3
      have c4 := fun k => hz k 4
      clear hz
      simp only [List.set_cons_zero, List.set_cons_succ, List.getElem?_cons_zero, List.getElem?_cons_succ] at c0 c1 c2 c3 c4
      simp [results, Try.results92, go_sem, c0, c1, c2, c3, c4]
    · have h5 := fun k => (HRS.out k).2 _ _ _ _ Ra.out (by decide)
      simpa [DV.vn, List.length_append, List.map_append] using h5 _

set_option maxRecDepth 4000 in
set_option maxHeartbeats 2000000 in
theorem data_texts (w : World) (g : Nat) (A : Option Addr) (m cap base : Nat) (b : List UInt8) (p en : Nat) (s : Sh) (h1 : s.host = false) (h2 : s.mail = false) (h3 : s.texts = true) (k1 : s.ahead ≤ 10) (k2 : s.behind ≤ 10) (k3 : s.least ≤ 16) (k4 : s.most ≤ 65535)
    (h : RB w g (.slice A m cap) p en) (hbl : b.length = m) (hrow : Row w base A (b.map bc)) (hbg : base ≤ g) (hm : m ≤ cap) (hc : cap ≤ maxLen) (hen : en ≤ m) (hp : p ≤ en) :
    Calls Try.prog 92 #[.pointer (some ⟨g, 0, none⟩), s.val] w (DataOut w g (readD b p en s)) := by
  obtain ⟨i0, hi0, hz0, hz1, hz2⟩ := info_parts zint_info
  obtain ⟨ah, s1, s2, s3, be, s5, le, mo⟩ := s
  simp only at h1 h2 h3 k1 k2 k3 k4
  subst h1 h2 h3
  have HN := Lib.hid (fun W q s k hr hw hq h1 h2 hk => nums_any W g A m cap base b q en s k hr hbl hw hbg hm hc hen hq h1 h2 hk)
  have HM := Lib.hid (fun W q hr hw hq hbw => rname_read W g A m cap base b q en hr hbl hw hbw hm hc hen hq)
  have HT := Lib.hid (fun W q hr hw hq => texts_any W g A m cap base b q en hr hbl hw hbg hm hc hen hq)
  have HY := Lib.hid (fun W q hr hw hq => dbytes_any W g A m cap base b q en le mo hr hbl hw hbg hm hc hen hq k3 k4)
  have HW := Lib.hid hrow
  have hgl := h.lt
  have hen2 := Nat.le_trans hen (Nat.le_trans hm hc)
  unfold maxLen at hen2
  have HR := Lib.hid h
  clear h hrow hbl
  go_enter Try.func92, Try.ntmps92
  go_wp2_with fail
  obtain ⟨W0, hW0⟩ : ∃ W0, W0 = (w.alloc (.cells #[.int .i64 ah, .bool false, .bool false, .bool s3, .int .i64 be, .bool true, .int .i64 le, .int .i64 mo] 122)).alloc (.cells #[.slice none 0 0, .slice none 0 0, .slice none 0 0, .slice none 0 0, .slice none 0 0] 34) := ⟨_, rfl⟩
  rw [← hW0]
  have hd0 : DS w g (.slice A m cap) ⟨ah, false, false, s3, be, true, le, mo⟩ p en [.slice none 0 0, .slice none 0 0, .slice none 0 0, .slice none 0 0, .slice none 0 0] W0 := by
    rw [hW0]
    refine ⟨(HR.out.alloc _).alloc _, (Whole.made w [.int .i64 ah, .bool false, .bool false, .bool s3, .int .i64 be, .bool true, .int .i64 le, .int .i64 mo] _).alloc _, ?_, ((Grew.refl _ w).alloc _).alloc _, hgl⟩
    have := Whole.made (w.alloc (.cells #[.int .i64 ah, .bool false, .bool false, .bool s3, .int .i64 be, .bool true, .int .i64 le, .int .i64 mo] 122)) [.slice none 0 0, .slice none 0 0, .slice none 0 0, .slice none 0 0, .slice none 0 0] 34
    simpa using this
  clear hW0
  refine (HN.out W0 p 2 ah hd0.rb (hd0.row HW.out hbg) hp (by omega) (by omega) k1).mono ?_
  intro e W1 hO
  obtain ⟨hg1, ⟨na, q1, v1, e1, rfl, hr1, ho1⟩ | ⟨k, e1, rfl⟩⟩ := hO.cases
  case inr => exact ⟨rfl, DataOut.err (by simp [readD, bind, Except.bind, e1]) (hd0.gr.trans hg1 fun _ e => .inl e)⟩
  have hd1 := hd0.step hg1 hr1
  replace ho1 : W1.ownsRow w.heap.size 3 1 v1 na.length (na.map zv) := own_mono ho1 hd0.gr.size
  obtain ⟨A1, c1, rfl, _, _⟩ := own_form ho1
  have R1 := Lib.hid ho1
  have E1 := Lib.hid e1
  have hq1 := (numsR_le e1).1
  have hl1 : na.length ≤ 10 := by rw [(numsR_le e1).2]; assumption
  clear  ho1 hg1 hr1 e1 hd0
  have cs1 := hd1.hs 1
  have cs2 := hd1.hs 2
  have cs4 := hd1.hs 4
  simp only [List.getElem?_cons_zero, List.getElem?_cons_succ] at cs1 cs2 cs4
  go_wp2_with fail
  refine (HN.out W1 q1 4 be hd1.rb (hd1.row HW.out hbg) hq1 (by omega) (by omega) k2).mono ?_
  intro e W2 hO
  obtain ⟨hg2, ⟨nb, q2, v2, e2, rfl, hr2, ho2⟩ | ⟨k, e2, rfl⟩⟩ := hO.cases
  case inr => exact ⟨rfl, DataOut.err (by simp [readD, bind, Except.bind, E1.out, e2]) (hd1.gr.trans hg2 fun _ e => .inl e)⟩
  have hd2 := hd1.step hg2 hr2
  replace ho2 : W2.ownsRow w.heap.size 3 1 v2 nb.length (nb.map zv) := own_mono ho2 hd1.gr.size
  obtain ⟨A2, c2, rfl, _, _⟩ := own_form ho2
  have R1 := Lib.hid (hd1.own R1.out hg2)
  have R2 := Lib.hid ho2
  have E2 := Lib.hid e2
  have hq2 := (numsR_le e2).1
  have hl2 : nb.length ≤ 10 := by rw [(numsR_le e2).2]; assumption
  clear cs1 cs2 cs4 ho2 hg2 hr2 e2 hd1
  go_wp2_with (
    at_builtin
    refine wpList_append_at rfl (.tmp 20) (.tmp 24) _ rfl w.heap.size 3 i0 _ 1 8 Try.underlying32 hi0 hz0 hz1 hz2 rfl (by omega) (.slice A1 na.length c1) na.length _ rfl R1.out
      A2 nb.length c2 W2.heap.size (nb.map zv) rfl (by simp) (Row.of_own R2.out) (zv_one _) (by unfold maxLen; omega) (by omega) (by have := hd2.gr.size; omega) ?_
    intro va Wa howna hga hata
    obtain ⟨Aa, ca, rfl, _, _⟩ := own_form howna
    have hda := hd2.grown R1.out (by decide) (by decide) hga
    have Ra := Lib.hid howna
    clear howna hga hata hd2
    have cs5 := hda.hs 5
    have cd3 := hda.hd 3
    simp only [List.getElem?_cons_zero, List.getElem?_cons_succ] at cs5 cd3
    have fd3 := hda.fd 3
    )
  obtain ⟨W3, hW3⟩ : ∃ W3, W3 = Wa.setCell ⟨w.heap.size + 1, 3, none⟩ (.slice Aa (na.length + nb.length) ca) := ⟨_, rfl⟩
  rw [← hW3]
  have hd3 : DS w g (.slice A m cap) ⟨ah, false, false, s3, be, true, le, mo⟩ q2 en [.slice none 0 0, .slice none 0 0, .slice none 0 0, .slice Aa (na.length + nb.length) ca, .slice none 0 0] W3 := by rw [hW3]; exact hda.store 3 _
  have Ra := Lib.hid (show W3.ownsRow w.heap.size 3 1 _ _ _ by rw [hW3]; exact hda.ownset Ra.out (by decide) 3 _)
  clear cs5 cd3 fd3 hW3 hda
  refine (HT.out W3 q2  hd3.rb (hd3.row HW.out hbg) hq2 ).mono ?_
  intro e W4 hO
  obtain ⟨hg4, ⟨tt, q4, v4, e4, rfl, hr4, ho4⟩ | ⟨k, e4, rfl⟩⟩ := hO.cases
  case inr => exact ⟨rfl, DataOut.err (by simp [readD, bind, Except.bind, E1.out, E2.out, e4]) (hd3.gr.trans hg4 fun _ e => .inl e)⟩
  have hd4 := hd3.step hg4 hr4
  replace ho4 : W4.ownsRow w.heap.size 9 1 v4 tt.length (tt.map sv) := own_mono ho4 hd3.gr.size
  obtain ⟨A4, c4, rfl, _, _⟩ := own_form ho4
  have Ra := Lib.hid (hd3.own Ra.out hg4)
  have R4 := Lib.hid ho4
  have E4 := Lib.hid e4
  have hq4 := textsR_le en q2 q4 [] tt (Nat.sub_le _ _) hq2 e4
  clear  ho4 hg4 hr4 e4 hd3
  have cs6 := hd4.hs 6
  have cs7 := hd4.hs 7
  have cd4 := hd4.hd 4
  simp only [List.getElem?_cons_zero, List.getElem?_cons_succ] at cs6 cs7 cd4
  have fd4 := hd4.fd 4
  go_wp2_with fail
  obtain ⟨W5, hW5⟩ : ∃ W5, W5 = W4.setCell ⟨w.heap.size + 1, 4, none⟩ (.slice A4 tt.length c4) := ⟨_, rfl⟩
  rw [← hW5]
  have hd5 : DS w g (.slice A m cap) ⟨ah, false, false, s3, be, true, le, mo⟩ q4 en [.slice none 0 0, .slice none 0 0, .slice none 0 0, .slice Aa (na.length + nb.length) ca, .slice A4 tt.length c4] W5 := by rw [hW5]; exact hd4.store 4 _
  have Ra := Lib.hid (show W5.ownsRow w.heap.size 3 1 _ _ _ by rw [hW5]; exact hd4.ownset Ra.out (by decide) 4 _)
  have R4 := Lib.hid (show W5.ownsRow w.heap.size 9 1 _ _ _ by rw [hW5]; exact hd4.ownset R4.out (by decide) 4 _)
  clear cs6 cs7 cd4 fd4 hW5 hd4
  refine (HY.out W5 q4  hd5.rb (hd5.row HW.out hbg) hq4 ).mono ?_
  intro e W6 hO
  obtain ⟨hg6, ⟨yy, q6, v6, e6, rfl, hr6, ho6⟩ | ⟨k, e6, rfl⟩⟩ := hO.cases
  case inr => exact ⟨rfl, DataOut.err (by simp [readD, bind, Except.bind, E1.out, E2.out, E4.out, e6]) (hd5.gr.trans hg6 fun _ e => .inl e)⟩
  have hd6 := hd5.step hg6 hr6
  replace ho6 : W6.ownsRow w.heap.size 5 1 v6 yy.length (yy.map bc) := own_mono ho6 hd5.gr.size
  obtain ⟨A6, c6, rfl, _, _⟩ := own_form ho6
  have Ra := Lib.hid (hd5.own Ra.out hg6)
  have R4 := Lib.hid (hd5.own R4.out hg6)
  have R6 := Lib.hid ho6
  have E6 := Lib.hid e6
  clear  ho6 hg6 hr6 e6 hd5
  have cd0 := hd6.hd 0
  simp only [List.getElem?_cons_zero] at cd0
  have fd0 := hd6.fd 0
  go_wp2
  obtain ⟨W7, hW7⟩ : ∃ W7, W7 = W6.setCell ⟨w.heap.size + 1, 0, none⟩ (.slice A6 yy.length c6) := ⟨_, rfl⟩
  rw [← hW7]
  have hd7 : DS w g (.slice A m cap) ⟨ah, false, false, s3, be, true, le, mo⟩ q6 en [.slice A6 yy.length c6, .slice none 0 0, .slice none 0 0, .slice Aa (na.length + nb.length) ca, .slice A4 tt.length c4] W7 := by rw [hW7]; exact hd6.store 0 _
  have Ra := Lib.hid (show W7.ownsRow w.heap.size 3 1 _ _ _ by rw [hW7]; exact hd6.ownset Ra.out (by decide) 0 _)
  have R4 := Lib.hid (show W7.ownsRow w.heap.size 9 1 _ _ _ by rw [hW7]; exact hd6.ownset R4.out (by decide) 0 _)
  have R6 := Lib.hid (show W7.ownsRow w.heap.size 5 1 _ _ _ by rw [hW7]; exact hd6.ownset R6.out (by decide) 0 _)
  clear cd0 fd0 hW7 hd6
  have g1 := hd7.rb.c1
  have g2 := hd7.rb.c2
  by_cases hx : q6 < en
  · have d1 : decide ((q6 : Int) < (en : Int)) = true := by simp; omega
    go_quiet (fail)
    go_wp2_with fail
    refine (giveUp_any _ _).mono ?_
    rintro e w' ⟨rfl, rfl⟩
    exact ⟨rfl, DataOut.err (by simp [readD, bind, Except.bind, E1.out, E2.out, E4.out, E6.out, hx]) (hd7.gr.drewN _)⟩
  · have d1 : decide ((q6 : Int) < (en : Int)) = false := by simp; omega
    have cd0 := hd7.hd 0
    have cd1 := hd7.hd 1
    have cd2 := hd7.hd 2
    have cd3 := hd7.hd 3
    have cd4 := hd7.hd 4
    simp only [List.getElem?_cons_zero, List.getElem?_cons_succ] at cd0 cd1 cd2 cd3 cd4
    have fd0 := hd7.fd 0
    have fd1 := hd7.fd 1
    have fd2 := hd7.fd 2
    have fd3 := hd7.fd 3
    have fd4 := hd7.fd 4
    go_quiet (fail)
    go_wp2
    have hr := fun k => hd7.restore k (.slice A6 yy.length c6) (.slice none 0 0) (.slice none 0 0) (.slice Aa (na.length + nb.length) ca) (.slice A4 tt.length c4)
    have HRS := Lib.hid hr
    clear hr cd0 cd1 cd2 cd3 cd4 fd0 fd1 fd2 fd3 fd4 g1 g2
    refine ⟨rfl, (DV.mk A6 none none Aa A4 c6 0 0 ca c4).val ⟨yy, [], [], na ++ nb, tt⟩, ?_, DataOut.ok _ (by simp [readD, bind, Except.bind, E1.out, E2.out, E4.out, E6.out, hx]) (HRS.out _).1.gr ⟨(HRS.out _).2 _ _ _ _ R6.out (by decide), World.ownsRow_nil _ _ _ _, World.ownsRow_nil _ _ _ _, ?_, (HRS.out _).2 _ _ _ _ R4.out (by decide)⟩⟩
    · have hz := fun k i => (HRS.out k).1.hd i
      have c0 := fun k => hz k 0
      have c1 := fun k => hz k 1
      have c2 := fun k => hz k 2
      have c3 := fun k => hz k 3
      have c4 := fun k => hz k 4
      clear hz
      simp only [List.set_cons_zero, List.set_cons_succ, List.getElem?_cons_zero, List.getElem?_cons_succ] at c0 c1 c2 c3 c4
      simp [results, Try.results92, go_sem, c0, c1, c2, c3, c4]
    · have h5 := fun k => (HRS.out k).2 _ _ _ _ Ra.out (by decide)
      simpa [DV.vn, List.length_append, List.map_append] using h5 _

end Go.Proofs.Ythppgofpbpjglaa

namespace Go.Proofs.Ythppgofpbpjglaa
open Go.RowKit

theorem gave_zero : (Try.prog.info? 115).map (·.zero) = some (some (.agg #[.int .i64 0])) := by kernel_rfl
theorem assert_gave (v : Value) (w : World) : (Instr.typeAssert (.iface 115 v) 20 115 true).run Try.prog w = .ok (.tuple #[v, .bool true]) w := by
  simp [Instr.typeAssert, run_underlying Try.underlying115]
theorem assert_nil (w : World) : (Instr.typeAssert .nilIface 20 115 true).run Try.prog w = .ok (.tuple #[.agg #[.int .i64 0], .bool false]) w := by
  obtain ⟨i, hi, hz⟩ := Option.map_eq_some_iff.1 gave_zero
  simp [Instr.typeAssert, run_underlying Try.underlying115, zeroValue, typeInfo, hi, hz]

set_option maxRecDepth 20000 in
set_option maxHeartbeats 1000000 in
theorem catch_gave (p : Addr) (u0 k : Int) (older : List PanicEntry) (w : World) (hc : w.cell? p = some (.int .i64 u0)) (hz : w.frozen? p = false) :
    CallsD Try.prog 91 #[.pointer (some p)] (.panicking ({ v := .iface 115 (.agg #[.int .i64 k]), recovered := false } :: older)) w fun e u' w' =>
      e = .returned (.tuple #[]) ∧ u' = .panicking ({ v := .iface 115 (.agg #[.int .i64 k]), recovered := true } :: older) ∧ w' = (w.alloc (.cells #[.int .i64 k] 115)).setCell p (.int .i64 k) := by
  refine callsD_of_wpS Try.func91 rfl fun c₀ cs hu => ?_
  apply wpS_seq
  apply wpS_region
  simp [wpOpsS, go_sem, recoverD, hu, Try.ntmps91, Exit.thenS]
  rw [show #[Value.pointer (some p)] ++ ((Array.replicate 15 undef).setIfInBounds 3 (.iface 115 (.agg #[.int .i64 k]))).setIfInBounds 0 (.iface 115 (.agg #[.int .i64 k])) = #[.pointer (some p), .iface 115 (.agg #[.int .i64 k]), undef, undef, .iface 115 (.agg #[.int .i64 k]), undef, undef, undef, undef, undef, undef, undef, undef, undef, undef, undef] from rfl]
  refine wpS_of_wp ?_
  have ha := assert_gave (.agg #[.int .i64 k])
  have hlt := World.block_lt_of_cell? w p hc
  have hc2 : (w.alloc (.cells #[.int .i64 k] 115)).cell? p = some (.int .i64 u0) := (World.cell?_alloc_lt w _ _ hlt).trans hc
  have hz2 : (w.alloc (.cells #[.int .i64 k] 115)).frozen? p = false := by
    have e := Below.heap_alloc w (.cells #[.int .i64 k] 115) p.block hlt
    unfold World.frozen? at hz ⊢
    rw [e]
    exact hz
  go_wp2
  simp [bodyPostS, results, Try.results91, go_sem]

set_option maxRecDepth 20000 in
set_option maxHeartbeats 1000000 in
theorem catch_idle (p : Addr) (w : World) : CallsD Try.prog 91 #[.pointer (some p)] .returning w fun e u' w' => e = .returned (.tuple #[]) ∧ u' = .returning ∧ Below w.heap.size w w' := by
  refine callsD_of_wpS Try.func91 rfl fun c₀ cs hu => ?_
  apply wpS_seq
  apply wpS_region
  simp [wpOpsS, go_sem, recoverD, hu, Try.ntmps91, Exit.thenS]
  rw [show #[Value.pointer (some p)] ++ ((Array.replicate 15 undef).setIfInBounds 3 .nilIface).setIfInBounds 0 .nilIface = #[.pointer (some p), .nilIface, undef, undef, .nilIface, undef, undef, undef, undef, undef, undef, undef, undef, undef, undef, undef] from rfl]
  refine wpS_of_wp ?_
  have ha := assert_nil
  go_wp2
  have hb : Below w.heap.size w (w.alloc (.cells #[.int .i64 0] 115)) := (Below.refl _ _).alloc (Nat.le_refl _) _
  cases c₀
  simp_all [bodyPostS, results, Try.results91, go_sem]

/-- What Get answers: data, an error. -/
def getD (b : List UInt8) (at_ size kind : Int) : Dt × Nat :=
  if at_ < 0 ∨ size < 0 ∨ kindB kind = false then (⟨[], [], [], [], []⟩, 1) else if (b.length : Int) - at_ < size then (⟨[], [], [], [], []⟩, 3)
  else match readD b at_.toNat (at_ + size).toNat (shN kind) with
    | .ok d => (d, 0)
    | .error k => (⟨[], [], [], [], []⟩, k)
/-- The call answers data in slices of its own, and an error. -/
def GotD (w : World) (r : Dt × Nat) (e : Ending) (w' : World) : Prop :=
  ∃ y : DV, e = .returned (.tuple #[y.val r.1, .int .i64 r.2]) ∧ OwnD w' w.heap.size y r.1 ∧ Below w.heap.size w w'

theorem data_any (w : World) (g : Nat) (A : Option Addr) (m cap base : Nat) (b : List UInt8) (p en : Nat) (kind : Int)
    (h : RB w g (.slice A m cap) p en) (hbl : b.length = m) (hrow : Row w base A (b.map bc)) (hbg : base ≤ g) (hm : m ≤ cap) (hc : cap ≤ maxLen) (hen : en ≤ m) (hp : p ≤ en) :
    Calls Try.prog 92 #[.pointer (some ⟨g, 0, none⟩), (shN kind).val] w (DataOut w g (readD b p en (shN kind))) := by
  rcases shN_cases kind with rfl | rfl | rfl | rfl | rfl | rfl | rfl | rfl | rfl | hk
  case inr.inr.inr.inr.inr.inr.inr.inr.inr =>
    rw [shN_other hk]
    exact data_bytes w g A m cap base b p en _ rfl rfl rfl (by decide) (by decide) (by decide) (by decide) h hbl hrow hbg hm hc hen hp
  all_goals first
    | exact data_bytes w g A m cap base b p en _ rfl rfl rfl (by decide) (by decide) (by decide) (by decide) h hbl hrow hbg hm hc hen hp
    | exact data_host w g A m cap base b p en _ rfl rfl rfl (by decide) (by decide) (by decide) (by decide) h hbl hrow hbg hm hc hen hp
    | exact data_both w g A m cap base b p en _ rfl rfl rfl (by decide) (by decide) (by decide) (by decide) h hbl hrow hbg hm hc hen hp
    | exact data_texts w g A m cap base b p en _ rfl rfl rfl (by decide) (by decide) (by decide) (by decide) h hbl hrow hbg hm hc hen hp

end Go.Proofs.Ythppgofpbpjglaa

namespace Go.Proofs.Ythppgofpbpjglaa
open Go.RowKit

theorem putL_fit {n s : Int} (h : fitB n s = true) : ∃ m k : Nat, n = m ∧ s = k ∧ putL [] n s = digs m k ∧ m < 2 ^ (8 * k) ∧ (putL [] n s).length = k := by
  have h2 := h
  simp only [fitB, decide_eq_true_eq] at h2
  obtain ⟨a1, a2, a3, a4⟩ := h2
  obtain ⟨m, rfl⟩ : ∃ m : Nat, n = m := ⟨n.toNat, by omega⟩
  obtain ⟨k, rfl⟩ : ∃ k : Nat, s = k := ⟨s.toNat, by omega⟩
  have e := putL_yes (l := []) (n := m) (s := k) h
  rw [List.nil_append] at e
  refine ⟨m, k, rfl, rfl, e, ?_, by rw [e, length_digs]⟩
  rw [Int.toNat_natCast] at a4
  exact_mod_cast a4

theorem length_numsW_fit (s : Nat) : ∀ l : List Int, (∀ n ∈ l, fitB n s = true) → (numsW s l).length = l.length * s
  | [], _ => by simp [numsW]
  | n :: l, h => by
    have h1 := length_numsW_fit s l fun x hx => h x (List.mem_cons_of_mem _ hx)
    obtain ⟨m, k, rfl, hk, e, hm, hl⟩ := putL_fit (h n (List.mem_cons_self ..))
    have : k = s := by omega
    subst this
    simp only [numsW, List.length_append, List.length_cons, Nat.add_mul]
    omega
theorem numsL_back (s : Nat) (X : List UInt8) : ∀ (k : Nat) (l : List Int) (Y : List UInt8), l.length = k → (∀ n ∈ l, fitB n s = true) → numsL ((X ++ numsW s l) ++ Y) X.length s k = l
  | 0, l, Y, hl, _ => by rw [List.eq_nil_of_length_eq_zero hl]; rfl
  | k + 1, l, Y, hl, h => by
    have hne : l ≠ [] := fun e => by rw [e] at hl; cases hl
    obtain ⟨l', n, rfl⟩ : ∃ l' n, l = l' ++ [n] := ⟨l.dropLast, l.getLast hne, (List.dropLast_concat_getLast hne).symm⟩
    have hl' : l'.length = k := by simpa using hl
    have h' : ∀ x ∈ l', fitB x s = true := fun x hx => h x (List.mem_append_left _ hx)
    obtain ⟨m, j, rfl, hj, e, hm, hlen⟩ := putL_fit (h n (List.mem_append_right _ (List.mem_singleton.2 rfl)))
    have : j = s := by omega
    subst this
    have hw := length_numsW_fit j l' h'
    rw [numsL, numsW_snoc, e]
    have e1 : ((X ++ (numsW (j : Int) l' ++ digs m j)) ++ Y) = ((X ++ numsW (j : Int) l') ++ (digs m j ++ Y)) := by simp [List.append_assoc]
    have e2 : ((X ++ (numsW (j : Int) l' ++ digs m j)) ++ Y) = (((X ++ numsW (j : Int) l') ++ digs m j) ++ Y) := by simp [List.append_assoc]
    have r1 := numsL_back j X k l' (digs m j ++ Y) hl' h'
    rw [← e1] at r1
    rw [r1]
    congr 1
    have hp : X.length + k * j = (X ++ numsW (j : Int) l').length := by rw [List.length_append, hw, hl']
    rw [hp, e2, cutL_more (by simp only [List.length_append, length_digs]; omega), cutL_behind, numN_digs hm]

theorem numsR_back {s : Nat} {X Y : List UInt8} {l : List Int} {en k : Nat} (hk : l.length = k) (h : ∀ n ∈ l, fitB n s = true) (hen : (X ++ numsW s l).length ≤ en) : numsR ((X ++ numsW s l) ++ Y) X.length en s k = .ok (l, (X ++ numsW s l).length) := by
  have hw := length_numsW_fit s l h
  rw [List.length_append, hw, hk] at hen
  rw [numsR, if_pos hen, numsL_back s X k l Y hk h, List.length_append, hw, hk]

theorem nameR_back {C : List UInt8} {q e en : Nat} {n : List (List UInt8)} (h : AtN C q q n e) (_ : 0 < e) (hn : szN n ≤ 255) : getR C q q 0 [] = (n, e, 0) ∧ (e ≤ en → nameR C q en = .ok (n, e)) ∧ (en < e → nameR C q en = .error 3) := by
  have h1 := h.read (x := 0) (m := []) (by have : szN [] = 1 := by decide
                                           omega)
  rw [List.nil_append] at h1
  have h2 : nextR 0 e = e := rfl
  rw [h2] at h1
  refine ⟨h1, fun hen => ?_, fun hen => ?_⟩
  · rw [nameR, h1, nameF, if_neg (by simp), if_neg (by simp; omega)]
  · rw [nameR, h1, nameF, if_neg (by simp), if_pos (by simpa using hen)]

theorem textsR_back : ∀ (l acc : List (List UInt8)) (X Y : List UInt8), acc ++ l ≠ [] → acc.length + l.length ≤ 64 → (∀ t ∈ l, t.length ≤ 255) → textsR ((X ++ textsW l) ++ Y) X.length (X ++ textsW l).length acc = .ok (acc ++ l, (X ++ textsW l).length)
  | [], acc, X, Y, hne, _, _ => by
    rw [textsR_end (by simp [textsW]) (by simpa using hne), List.append_nil]
    simp [textsW]
  | t :: l, acc, X, Y, hne, h64, ht => by
    have htl := ht t (List.mem_cons_self ..)
    have hfit : fitB (t.length : Int) ((1 : Nat) : Int) = true := fitB_true (by omega) (by omega) (by omega) (by simp; omega)
    obtain ⟨m, k, hm, hk, e, hm2, hl1⟩ := putL_fit hfit
    have hm' : m = t.length := by omega
    have hk' : k = 1 := by omega
    subst hm' hk'
    have e0 : putL [] (t.length : Int) 1 = digs t.length 1 := e
    have hx : (X ++ textsW (t :: l)) = ((X ++ (digs t.length 1 ++ t)) ++ textsW l) := by simp [textsW, e0, List.append_assoc]
    have hlen : (X ++ (digs t.length 1 ++ t)).length = X.length + 1 + t.length := by simp [length_digs]; omega
    have hc1 : cutL ((X ++ textsW (t :: l)) ++ Y) X.length 1 = digs t.length 1 := by
      rw [hx, show ((X ++ (digs t.length 1 ++ t)) ++ textsW l) ++ Y = (X ++ digs t.length 1) ++ (t ++ (textsW l ++ Y)) by simp [List.append_assoc], cutL_more (by rw [List.length_append, length_digs]; omega), cutL_behind]
    have hn : numN (cutL ((X ++ textsW (t :: l)) ++ Y) X.length 1) = t.length := by rw [hc1, numN_digs hm2]
    have hc2 : cutL ((X ++ textsW (t :: l)) ++ Y) (X.length + 1) t.length = t := by
      rw [hx, show ((X ++ (digs t.length 1 ++ t)) ++ textsW l) ++ Y = (X ++ digs t.length 1) ++ (t ++ (textsW l ++ Y)) by simp [List.append_assoc]]
      have hp : X.length + 1 = (X ++ digs t.length 1).length := by rw [List.length_append, length_digs]
      unfold cutL
      rw [hp, List.drop_left, List.take_left]
    have hle : X.length + 1 + t.length ≤ (X ++ textsW (t :: l)).length := by rw [hx, List.length_append, hlen]; omega
    rw [textsR_next (by omega) (by simp at h64; omega) (by rw [hn]; exact hle), hn, hc2]
    have ih := textsR_back l (acc ++ [t]) (X ++ (digs t.length 1 ++ t)) Y (by simp) (by simp at h64 ⊢; omega) (fun x hx => ht x (List.mem_cons_of_mem _ hx))
    rw [← hx, hlen] at ih
    rw [ih]
    simp

theorem bytesR_back {X l Y : List UInt8} {least most : Nat} (h1 : least ≤ l.length) (h2 : l.length ≤ most) : bytesR ((X ++ l) ++ Y) X.length (X ++ l).length least most = .ok (l, (X ++ l).length) := by
  have hs : max least (min most ((X ++ l).length - X.length)) = l.length := by
    rw [List.length_append]
    omega
  rw [bytesR, hs, if_neg (by rw [List.length_append]; omega)]
  have hc : cutL ((X ++ l) ++ Y) X.length l.length = l := by
    unfold cutL
    rw [List.append_assoc, List.drop_left, List.take_left]
  rw [hc, List.length_append]

theorem nums_fit {ah : Nat} {l : List Int} (h : numsOk ah l = true) : (∀ n ∈ l.take ah, fitB n ((2 : Nat) : Int) = true) ∧ (∀ n ∈ l.drop ah, fitB n ((4 : Nat) : Int) = true) := by
  unfold numsOk at h
  rw [List.all_eq_true] at h
  constructor
  · intro n hn
    obtain ⟨i, hi, rfl⟩ := List.getElem_of_mem hn
    have hi2 : i < ah ∧ i < l.length := by simp at hi; omega
    have := h i (List.mem_range.2 hi2.2)
    rw [sizeAt, if_pos hi2.1] at this
    simpa [List.getD, hi2.2] using this
  · intro n hn
    obtain ⟨i, hi, rfl⟩ := List.getElem_of_mem hn
    have hi2 : ah + i < l.length := by simp at hi; omega
    have := h (ah + i) (List.mem_range.2 hi2)
    rw [sizeAt, if_neg (by omega)] at this
    simpa [List.getD, hi2] using this

/-- What kinds of shapes there are. -/
structure ShP (s : Sh) : Prop where
  t : s.texts = true → s.host = false ∧ s.mail = false ∧ s.ahead = 0 ∧ s.behind = 0 ∧ s.least = 0 ∧ s.most = 0
  h : s.host = true → s.least = 0 ∧ s.most = 0
  m : s.mail = true → s.host = true ∧ 0 < s.behind
  b : 0 < s.behind → s.mail = true
  n : s.host = false → s.ahead = 0
theorem shP (k : Int) : ShP (shN k) := by
  rcases shN_cases k with rfl | rfl | rfl | rfl | rfl | rfl | rfl | rfl | rfl | hk
  case inr.inr.inr.inr.inr.inr.inr.inr.inr =>
    rw [shN_other hk]
    exact ⟨by decide, by decide, by decide, by decide, by decide⟩
  all_goals exact ⟨by decide, by decide, by decide, by decide, by decide⟩

theorem AtN.pos {B : List UInt8} {p q e : Nat} {n : List (List UInt8)} (h : AtN B p q n e) : p < e := by
  induction h <;> omega

/-- What stands where. -/
theorem parts {s : Sh} {d : Dt} (X : List UInt8) (sp : SoundP s d) : ∃ B1 x2 x3 : List UInt8,
    (putD s d X []).1 = ((x3 ++ numsW 4 (d.nums.drop s.ahead)) ++ textsW d.texts) ++ d.bytes ∧ B1 = X ++ numsW 2 (d.nums.take s.ahead) ∧ (∃ S, x2 = B1 ++ S) ∧ (∃ S, x3 = x2 ++ S) ∧
    (∀ C en, x2.length ≤ en → (if s.host = true then nameR (x2 ++ C) B1.length en else .ok ([], B1.length)) = .ok (d.host, x2.length)) ∧
    (∀ C en, x3.length ≤ en → (if s.mail = true then nameR (x3 ++ C) x2.length en else .ok ([], x2.length)) = .ok (d.mail, x3.length)) ∧
    (s.host = true → B1.length < x2.length ∧ ∀ C en, en < x2.length → nameR (x2 ++ C) B1.length en = .error 3) ∧ (s.host = false → x2 = B1) ∧ (s.mail = false → x3 = x2) := by
  have G0 : GoodR X [] := GoodR.nil X
  obtain ⟨B1, hB1⟩ : ∃ x, x = X ++ numsW 2 (d.nums.take s.ahead) := ⟨_, rfl⟩
  have G1 : GoodR B1 [] := by rw [hB1]; exact G0.more _
  obtain ⟨x2, hx2⟩ : ∃ x, x = putH s d X [] := ⟨_, rfl⟩
  have h2 : (∃ S, x2.1 = B1 ++ S) ∧ GoodR x2.1 x2.2 ∧ (∀ C en, x2.1.length ≤ en → (if s.host = true then nameR (x2.1 ++ C) B1.length en else .ok ([], B1.length)) = .ok (d.host, x2.1.length)) ∧
      (s.host = true → B1.length < x2.1.length ∧ ∀ C en, en < x2.1.length → nameR (x2.1 ++ C) B1.length en = .error 3) ∧ (s.host = false → x2.1 = B1) := by
    cases hh : s.host
    · have e : x2 = (B1, []) := by rw [hx2, putH, hh, if_neg (by decide), hB1]
      rw [e, sp.h0 hh]
      exact ⟨⟨[], by simp⟩, G1, fun C en _ => rfl, fun h => (by cases h), fun _ => rfl⟩
    · have hs := soundN_parts (sp.h hh)
      have e : x2 = nameW s.short d.host B1 [] := by rw [hx2, putH, hh, if_pos rfl, hB1]
      obtain ⟨hS, hat, hg⟩ := nameW_good (short := s.short) hs.1 G1
      rw [← e] at hS hat hg
      refine ⟨hS, hg, fun C en he => ?_, fun _ => ⟨hat.pos, fun C en he => ?_⟩, fun h => (by cases h)⟩
      · rw [if_pos rfl]
        exact (nameR_back (en := en) (hat.more C) (by have := hat.pos; omega) hs.2).2.1 he
      · exact (nameR_back (en := en) (hat.more C) (by have := hat.pos; omega) hs.2).2.2 he
  obtain ⟨hS2, G2, R2, E2, N2⟩ := h2
  obtain ⟨x3, hx3⟩ : ∃ x, x = putM s d x2 := ⟨_, rfl⟩
  have h3 : (∃ S, x3.1 = x2.1 ++ S) ∧ (∀ C en, x3.1.length ≤ en → (if s.mail = true then nameR (x3.1 ++ C) x2.1.length en else .ok ([], x2.1.length)) = .ok (d.mail, x3.1.length)) ∧ (s.mail = false → x3.1 = x2.1) := by
    cases hh : s.mail
    · have e : x3 = x2 := by rw [hx3, putM, hh, if_neg (by decide)]
      rw [e, sp.m0 hh]
      exact ⟨⟨[], by simp⟩, fun C en _ => rfl, fun _ => rfl⟩
    · have hs := soundN_parts (sp.m hh)
      have e : x3 = nameW s.short d.mail x2.1 x2.2 := by rw [hx3, putM, hh, if_pos rfl]
      obtain ⟨hS, hat, hg⟩ := nameW_good (short := s.short) hs.1 G2
      rw [← e] at hS hat hg
      refine ⟨hS, fun C en he => ?_, fun h => (by cases h)⟩
      rw [if_pos rfl]
      exact (nameR_back (en := en) (hat.more C) (by have := hat.pos; omega) hs.2).2.1 he
  obtain ⟨hS3, R3, N3⟩ := h3
  exact ⟨B1, x2.1, x3.1, by rw [putD, ← hx2, ← hx3], hB1, hS2, hS3, R2, R3, E2, N2, N3⟩

/-- The data that was written is read, whatever stands ahead and behind. -/
theorem read_back {s : Sh} {d : Dt} {X Y : List UInt8} (sp : SoundP s d) (sh : ShP s) : readD ((putD s d X []).1 ++ Y) X.length (putD s d X []).1.length s = .ok d := by
  have hn := nums_fit sp.ok
  have hlt : (d.nums.take s.ahead).length = s.ahead := by rw [List.length_take, sp.n]; omega
  have hld : (d.nums.drop s.ahead).length = s.behind := by rw [List.length_drop, sp.n]; omega
  obtain ⟨B1, x2, x3, hput, hB1, ⟨S2, hS2⟩, ⟨S3, hS3⟩, R2, R3, _, _, _⟩ := parts X sp
  rw [hput]
  obtain ⟨T, hT⟩ : ∃ T, T = (((x3 ++ numsW 4 (d.nums.drop s.ahead)) ++ textsW d.texts) ++ d.bytes) ++ Y := ⟨_, rfl⟩
  obtain ⟨en, hen⟩ : ∃ en, en = (((x3 ++ numsW 4 (d.nums.drop s.ahead)) ++ textsW d.texts) ++ d.bytes).length := ⟨_, rfl⟩
  rw [← hT, ← hen]
  have l1 : x3.length ≤ en := by rw [hen]; simp only [List.length_append]; omega
  have l2 : x2.length ≤ x3.length := by rw [hS3, List.length_append]; omega
  have l3 : B1.length ≤ x2.length := by rw [hS2, List.length_append]; omega
  have q1 : numsR T X.length en 2 s.ahead = .ok (d.nums.take s.ahead, B1.length) := by
    have hTx : T = (X ++ numsW ((2 : Nat) : Int) (d.nums.take s.ahead)) ++ ((S2 ++ S3) ++ (numsW 4 (d.nums.drop s.ahead) ++ (textsW d.texts ++ (d.bytes ++ Y)))) := by
      rw [hT, hS3, hS2, hB1]
      simp [List.append_assoc]
    have hle : (X ++ numsW ((2 : Nat) : Int) (d.nums.take s.ahead)).length ≤ en := by
      have h1 : B1.length ≤ en := by omega
      rw [hB1] at h1
      exact h1
    have h := numsR_back (X := X) (Y := (S2 ++ S3) ++ (numsW 4 (d.nums.drop s.ahead) ++ (textsW d.texts ++ (d.bytes ++ Y)))) (en := en) hlt hn.1 hle
    rw [← hTx] at h
    rw [hB1]
    exact h
  have q2 := R2 (S3 ++ (numsW 4 (d.nums.drop s.ahead) ++ (textsW d.texts ++ (d.bytes ++ Y)))) en (by omega)
  rw [show x2 ++ (S3 ++ (numsW 4 (d.nums.drop s.ahead) ++ (textsW d.texts ++ (d.bytes ++ Y)))) = T by rw [hT, hS3]; simp [List.append_assoc]] at q2
  have q3 := R3 (numsW 4 (d.nums.drop s.ahead) ++ (textsW d.texts ++ (d.bytes ++ Y))) en l1
  rw [show x3 ++ (numsW 4 (d.nums.drop s.ahead) ++ (textsW d.texts ++ (d.bytes ++ Y))) = T by rw [hT]; simp [List.append_assoc]] at q3
  have l4 : (x3 ++ numsW 4 (d.nums.drop s.ahead)).length ≤ en := by rw [hen]; simp only [List.length_append]; omega
  have q4 : numsR T x3.length en 4 s.behind = .ok (d.nums.drop s.ahead, (x3 ++ numsW 4 (d.nums.drop s.ahead)).length) := by
    have h := numsR_back (s := 4) (X := x3) (Y := textsW d.texts ++ (d.bytes ++ Y)) (en := en) hld hn.2 l4
    rw [show (x3 ++ numsW ((4 : Nat) : Int) (d.nums.drop s.ahead)) ++ (textsW d.texts ++ (d.bytes ++ Y)) = T by rw [hT]; simp [List.append_assoc]] at h
    exact h
  obtain ⟨x4, hx4⟩ : ∃ x, x = x3 ++ numsW 4 (d.nums.drop s.ahead) := ⟨_, rfl⟩
  rw [← hx4] at q4 l4 hT hen
  have q5 : (if s.texts = true then textsR T x4.length en [] else .ok ([], x4.length)) = .ok (d.texts, (x4 ++ textsW d.texts).length) := by
    cases ht : s.texts
    · rw [sp.t0 ht, if_neg (by decide)]
      simp [textsW]
    · rw [if_pos rfl]
      have hb0 : d.bytes = [] := List.eq_nil_of_length_eq_zero (by have h1 := sp.b; have h2 := (sh.t ht).2.2.2.2.2; omega)
      have h := textsR_back d.texts [] x4 Y (by rw [List.nil_append]; intro e; have := sp.t1 ht; rw [e] at this; simp at this) (by have := sp.t; simpa using this) sp.tl
      have e1 : (x4 ++ textsW d.texts) ++ Y = T := by rw [hT, hb0]; simp
      have e2 : (x4 ++ textsW d.texts).length = en := by rw [hen, hb0]; simp
      rw [e1, e2, List.nil_append] at h
      rw [e2]
      exact h
  have q6 : bytesR T (x4 ++ textsW d.texts).length en s.least s.most = .ok (d.bytes, en) := by
    have h := bytesR_back (X := x4 ++ textsW d.texts) (Y := Y) sp.bl sp.b
    rw [← hT, ← hen] at h
    exact h
  unfold readD
  rw [q1]
  simp only [bind, Except.bind]
  rw [q2]
  simp only []
  rw [q3]
  simp only []
  rw [q4]
  simp only []
  rw [q5]
  simp only []
  rw [q6]
  simp

/-- A byte less is too little. -/
theorem read_short {s : Sh} {d : Dt} {X Y : List UInt8} (sp : SoundP s d) (sh : ShP s) (hb : d.bytes = []) (ht1 : d.texts.length ≤ 1) (hsz : X.length < (putD s d X []).1.length) :
    ∃ k, k ≠ 0 ∧ readD ((putD s d X []).1 ++ Y) X.length ((putD s d X []).1.length - 1) s = .error k := by
  have hn := nums_fit sp.ok
  have hlt : (d.nums.take s.ahead).length = s.ahead := by rw [List.length_take, sp.n]; omega
  have hld : (d.nums.drop s.ahead).length = s.behind := by rw [List.length_drop, sp.n]; omega
  obtain ⟨B1, x2, x3, hput, hB1, ⟨S2, hS2⟩, ⟨S3, hS3⟩, R2, R3, E2, N2, N3⟩ := parts X sp
  rw [hb, List.append_nil] at hput
  rw [hput] at hsz ⊢
  obtain ⟨T, hT⟩ : ∃ T, T = ((x3 ++ numsW 4 (d.nums.drop s.ahead)) ++ textsW d.texts) ++ Y := ⟨_, rfl⟩
  obtain ⟨en, hen⟩ : ∃ en, en = ((x3 ++ numsW 4 (d.nums.drop s.ahead)) ++ textsW d.texts).length := ⟨_, rfl⟩
  rw [← hen] at hsz
  rw [← hT, ← hen]
  have l2 : x2.length ≤ x3.length := by rw [hS3, List.length_append]; omega
  have l3 : B1.length ≤ x2.length := by rw [hS2, List.length_append]; omega
  have q1 : B1.length ≤ en - 1 → numsR T X.length (en - 1) 2 s.ahead = .ok (d.nums.take s.ahead, B1.length) := fun hle => by
    have hTx : T = (X ++ numsW ((2 : Nat) : Int) (d.nums.take s.ahead)) ++ ((S2 ++ S3) ++ (numsW 4 (d.nums.drop s.ahead) ++ (textsW d.texts ++ Y))) := by
      rw [hT, hS3, hS2, hB1]
      simp [List.append_assoc]
    have hle2 : (X ++ numsW ((2 : Nat) : Int) (d.nums.take s.ahead)).length ≤ en - 1 := by
      rw [hB1] at hle
      exact hle
    have h := numsR_back (X := X) (Y := (S2 ++ S3) ++ (numsW 4 (d.nums.drop s.ahead) ++ (textsW d.texts ++ Y))) (en := en - 1) hlt hn.1 hle2
    rw [← hTx] at h
    rw [hB1]
    exact h
  have hT2 : x2 ++ (S3 ++ (numsW 4 (d.nums.drop s.ahead) ++ (textsW d.texts ++ Y))) = T := by rw [hT, hS3]; simp [List.append_assoc]
  have hT3 : x3 ++ (numsW 4 (d.nums.drop s.ahead) ++ (textsW d.texts ++ Y)) = T := by rw [hT]; simp [List.append_assoc]
  cases hh : s.host
  · have ha := sh.n hh
    have hm : s.mail = false := by
      cases hx : s.mail
      · rfl
      · have := (sh.m hx).1; rw [hh] at this; cases this
    have hbe : s.behind = 0 := by
      rcases Nat.eq_zero_or_pos s.behind with h0 | h0
      · exact h0
      · have := sh.b h0; rw [hm] at this; cases this
    have hnil : d.nums = [] := List.eq_nil_of_length_eq_zero (by rw [sp.n, ha, hbe])
    have e1 : B1 = X := by rw [hB1, hnil]; simp [numsW]
    have e3 : x3 = X := by rw [N3 hm, N2 hh, e1]
    rw [hnil, List.drop_nil] at hT hen
    simp only [numsW, List.append_nil] at hT hen
    rw [e3] at hT hen
    cases ht : s.texts
    · rw [sp.t0 ht] at hen
      simp [textsW] at hen
      omega
    · have h1 := sp.t1 ht
      obtain ⟨t, hts⟩ : ∃ t, d.texts = [t] := List.length_eq_one_iff.1 (by omega)
      have htl := sp.tl t (by rw [hts]; simp)
      rw [hts] at hT hen
      have hfit : fitB (t.length : Int) ((1 : Nat) : Int) = true := fitB_true (by omega) (by omega) (by omega) (by simp; omega)
      obtain ⟨m, k, hm1, hk1, e, hm2, hl1⟩ := putL_fit hfit
      have hm' : m = t.length := by omega
      have hk' : k = 1 := by omega
      subst hm' hk'
      have e0 : putL [] (t.length : Int) 1 = digs t.length 1 := e
      simp only [textsW, e0, List.append_nil] at hT hen
      have hen2 : en = X.length + 1 + t.length := by rw [hen]; simp [length_digs]; omega
      have hq1 := q1 (by rw [e1]; omega)
      have q5 : ∃ k, k ≠ 0 ∧ textsR T X.length (en - 1) [] = .error k := by
        rcases Nat.eq_zero_or_pos t.length with h0 | h0
        · exact ⟨2, by decide, textsR_none (by omega)⟩
        · have hc1 : cutL T X.length 1 = digs t.length 1 := by
            rw [hT, show (X ++ (digs t.length 1 ++ t)) ++ Y = (X ++ digs t.length 1) ++ (t ++ Y) by simp [List.append_assoc], cutL_more (by rw [List.length_append, length_digs]; omega), cutL_behind]
          have hnn : numN (cutL T X.length 1) = t.length := by rw [hc1, numN_digs hm2]
          exact ⟨3, by decide, textsR_short (by omega) (by simp) (by rw [hnn]; omega)⟩
      obtain ⟨k, hk0, hk⟩ := q5
      refine ⟨k, hk0, ?_⟩
      unfold readD
      rw [hq1, e1]
      simp only [bind, Except.bind, hh, hm, hbe, ht]
      simp [numsR, numsL]
      rw [if_pos (by omega)]
      simp [hk]
  · obtain ⟨hlt2, herr⟩ := E2 hh
    have ht : s.texts = false := by
      cases hx : s.texts
      · rfl
      · have := (sh.t hx).1; rw [hh] at this; cases this
    cases hm : s.mail
    · have hbe : s.behind = 0 := by
        rcases Nat.eq_zero_or_pos s.behind with h0 | h0
        · exact h0
        · have := sh.b h0; rw [hm] at this; cases this
      have hdn : d.nums.drop s.ahead = [] := List.eq_nil_of_length_eq_zero (by rw [hld, hbe])
      have he : en = x2.length := by rw [hen, hdn, sp.t0 ht, N3 hm]; simp [numsW, textsW]
      have hq1 := q1 (by omega)
      have hq2 := herr (S3 ++ (numsW 4 (d.nums.drop s.ahead) ++ (textsW d.texts ++ Y))) (en - 1) (by omega)
      rw [hT2] at hq2
      refine ⟨3, by decide, ?_⟩
      unfold readD
      rw [hq1]
      simp only [bind, Except.bind, hh, if_true]
      rw [hq2]
    · have hbe := (sh.m hm).2
      have hw4 := length_numsW_fit 4 (d.nums.drop s.ahead) hn.2
      rw [hld] at hw4
      have he : en = x3.length + s.behind * 4 := by
        rw [hen, sp.t0 ht]
        simp only [textsW, List.append_nil, List.length_append]
        have : (numsW 4 (d.nums.drop s.ahead)).length = s.behind * 4 := hw4
        omega
      have hq1 := q1 (by omega)
      have hq2 := R2 (S3 ++ (numsW 4 (d.nums.drop s.ahead) ++ (textsW d.texts ++ Y))) (en - 1) (by omega)
      rw [hT2] at hq2
      have hq3 := R3 (numsW 4 (d.nums.drop s.ahead) ++ (textsW d.texts ++ Y)) (en - 1) (by omega)
      rw [hT3] at hq3
      have hq4 : numsR T x3.length (en - 1) 4 s.behind = .error 3 := by rw [numsR, if_neg (by omega)]
      refine ⟨3, by decide, ?_⟩
      unfold readD
      rw [hq1]
      simp only [bind, Except.bind]
      rw [hq2]
      simp only []
      rw [hq3]
      simp only []
      rw [hq4]

end Go.Proofs.Ythppgofpbpjglaa

namespace Go.Proofs.Ythppgofpbpjglaa
open Go.RowKit

theorem makeFunc_run (fn : Fn) (first cap : Array Value) (w : World) : (Instr.makeFunc fn first cap).run Try.prog w = .ok (.func fn first cap) w := rfl

set_option maxRecDepth 20000 in
set_option maxHeartbeats 2000000 in
theorem dget_fine (A : Option Addr) (m cap : Nat) (b : List UInt8) (p s : Nat) (kind : Int) (w : World) (hbl : b.length = m) (hrow : Row w w.heap.size A (b.map bc)) (hm : m ≤ cap) (hc : cap ≤ maxLen) (hk : kindB kind = true) (hs : p + s ≤ m) :
    Calls Try.prog 48 #[.slice A m cap, .int .i64 p, .int .i64 s, .int .i64 kind] w (GotD w (match readD b p (p + s) (shN kind) with | .ok d => (d, 0) | .error k => (⟨[], [], [], [], []⟩, k))) := by
  have hmf := makeFunc_run
  have hc2 := hc
  unfold maxLen at hc2
  have HIK := Lib.hid (fun W => isKind_any kind W)
  rw [hk] at HIK
  have HSH := Lib.hid (fun W => shapeOf_any kind W)
  have d1 : decide ((p : Int) < 0) = false := by simp
  have d2 : decide ((s : Int) < 0) = false := by simp
  have d3 : decide ((m : Int) - (p : Int) < (s : Int)) = false := by simp; omega
  have HD := Lib.hid (fun W g base hr hw hbg => data_any W g A m cap base b p (p + s) kind hr hbl hw hbg hm hc hs (Nat.le_add_right _ _))
  have HW := Lib.hid hrow
  obtain ⟨r, hr⟩ : ∃ r, r = readD b p (p + s) (shN kind) := ⟨_, rfl⟩
  rw [← hr] at HD ⊢
  clear hr hrow hbl hk
  go_enter_defers Try.func48, Try.ntmps48
  go_wp2_with fail
  refine (HIK.out _).mono ?_
  rintro e w' ⟨rfl, rfl⟩
  go_wp2_with fail
  obtain ⟨W0, hW0⟩ : ∃ W0, W0 = ((w.alloc (.cells #[.slice none 0 0, .slice none 0 0, .slice none 0 0, .slice none 0 0, .slice none 0 0] 34)).alloc (.cells #[.int .i64 0] 55)).alloc (.cells #[.slice A m cap, .int .i64 p, .int .i64 ((p : Int) + (s : Int))] 119) := ⟨_, rfl⟩
  rw [← hW0]
  have hd : Whole W0 w.heap.size 34 [.slice none 0 0, .slice none 0 0, .slice none 0 0, .slice none 0 0, .slice none 0 0] := by
    rw [hW0]
    exact ((Whole.made w [.slice none 0 0, .slice none 0 0, .slice none 0 0, .slice none 0 0, .slice none 0 0] _).alloc _).alloc _
  have he : Whole W0 (w.heap.size + 1) 55 [.int .i64 0] := by
    rw [hW0]
    have := Whole.made (w.alloc (.cells #[.slice none 0 0, .slice none 0 0, .slice none 0 0, .slice none 0 0, .slice none 0 0] 34)) [.int .i64 0] 55
    refine Whole.alloc ?_ _
    simpa using this
  have hrb : RB W0 (w.heap.size + 1 + 1) (.slice A m cap) p (p + s) := by
    rw [hW0]
    have := Whole.made ((w.alloc (.cells #[.slice none 0 0, .slice none 0 0, .slice none 0 0, .slice none 0 0, .slice none 0 0] 34)).alloc (.cells #[.int .i64 0] 55)) [.slice A m cap, .int .i64 p, .int .i64 ((p : Int) + (s : Int))] 119
    unfold RB
    rw [Int.natCast_add]
    simpa using this
  have hb : Below w.heap.size w W0 := by
    rw [hW0]
    exact (((Below.refl _ _).alloc (Nat.le_refl _) _).alloc (by simp) _).alloc (by simp; omega) _
  have hz : W0.heap.size = w.heap.size + 1 + 1 + 1 := by rw [hW0]; simp
  clear hW0
  refine (HSH.out _).mono ?_
  rintro e w1 ⟨rfl, hb1⟩
  replace hd := hd.below hb1 (by omega)
  replace he := he.below hb1 (by omega)
  replace hrb := Whole.below hrb hb1 (by omega)
  replace hb := hb.trans (hb1.mono (by omega))
  have hz1 := hb1.size
  clear hb1
  have H1 := Lib.hid hd
  have H2 := Lib.hid he
  have H3 := Lib.hid hrb
  have H4 := Lib.hid hb
  clear hd he hrb hb
  go_wp2_with fail
  refine (HD.out w1 (w.heap.size + 1 + 1) w.heap.size H3.out (HW.out.below H4.out) (by omega)).mono ?_
  intro e w2 hO
  obtain ⟨hg, hO⟩ := hO
  have hd := H1.out.grew hg (by omega)
  have he := H2.out.grew hg (by omega)
  have hb := H4.out.trans (hg.below (B := w.heap.size) (fun j e => by omega) (by omega))
  have hz2 : w.heap.size + 1 + 1 + 1 ≤ w2.heap.size := by have := hg.size; omega
  clear H1 H2 H3 H4 hg
  rcases r with k | d
  · obtain rfl : e = gaveE k := hO
    unfold gaveE
    have ce : w2.cell? ⟨w.heap.size + 1, 0, none⟩ = some (.int .i64 0) := he.cell 0
    have fe : w2.frozen? ⟨w.heap.size + 1, 0, none⟩ = false := he.frozen 0
    refine leaves_cons (f := 91) (args := #[.pointer (some ⟨w.heap.size + 1, 0, none⟩)]) (by simp) (by simp [go_sem]) ?_
    refine (catch_gave ⟨w.heap.size + 1, 0, none⟩ 0 k [] _ ce fe).mono ?_
    intro e u' w3 ⟨h1, h2, hw3⟩
    subst h1 h2
    have hd3 : Whole w3 w.heap.size 34 [.slice none 0 0, .slice none 0 0, .slice none 0 0, .slice none 0 0, .slice none 0 0] := by
      rw [hw3]
      exact (hd.alloc _).keep (Below.heap_setCell _ ⟨w.heap.size + 1, 0, none⟩ _ _ (by simp))
    have he3 : Whole w3 (w.heap.size + 1) 55 [.int .i64 k] := by
      rw [hw3]
      exact (he.alloc _).set_ 0 _
    have hb3 : Below w.heap.size w w3 := by
      rw [hw3]
      exact (hb.alloc (by omega) _).setCell (p := ⟨w.heap.size + 1, 0, none⟩) (by simp) _
    clear hw3 hd he hb ce fe
    have q0 := hd3.cell 0
    have q1 := hd3.cell 1
    have q2 := hd3.cell 2
    have q3 := hd3.cell 3
    have q4 := hd3.cell 4
    have q5 := he3.cell 0
    simp only [List.getElem?_cons_zero, List.getElem?_cons_succ] at q0 q1 q2 q3 q4 q5
    simp [Leaves, settle, results, Try.results48, go_sem, q0, q1, q2, q3, q4, q5]
    exact ⟨⟨none, none, none, none, none, 0, 0, 0, 0, 0⟩, rfl, ⟨World.ownsRow_nil _ _ _ _, World.ownsRow_nil _ _ _ _, World.ownsRow_nil _ _ _ _, World.ownsRow_nil _ _ _ _, World.ownsRow_nil _ _ _ _⟩, hb3⟩
  · obtain ⟨y, rfl, ho⟩ := hO
    have HO := Lib.hid ho
    have HB := Lib.hid hb
    have HDD := Lib.hid hd
    have HEE := Lib.hid he
    have q0 := hd.cell 0
    have q1 := hd.cell 1
    have q2 := hd.cell 2
    have q3 := hd.cell 3
    have q4 := hd.cell 4
    have q5 := he.cell 0
    simp only [List.getElem?_cons_zero, List.getElem?_cons_succ] at q0 q1 q2 q3 q4 q5
    have z0 := hd.frozen 0
    have z1 := hd.frozen 1
    have z2 := hd.frozen 2
    have z3 := hd.frozen 3
    have z4 := hd.frozen 4
    have z5 := he.frozen 0
    clear ho hb hd he
    go_wp2
    obtain ⟨V, hV⟩ : ∃ V, V = (((((w2.setCell ⟨w.heap.size, 0, none⟩ (y.vb d)).setCell ⟨w.heap.size, 1, none⟩ (y.vh d)).setCell ⟨w.heap.size, 2, none⟩ (y.vm d)).setCell ⟨w.heap.size, 3, none⟩ (y.vn d)).setCell ⟨w.heap.size, 4, none⟩ (y.vt d)).setCell ⟨w.heap.size + 1, 0, none⟩ (.int .i64 0) := ⟨_, rfl⟩
    rw [← hV]
    have hd3 : Whole V w.heap.size 34 [y.vb d, y.vh d, y.vm d, y.vn d, y.vt d] := by
      rw [hV]
      refine Whole.keep (w := ((((w2.setCell ⟨w.heap.size, 0, none⟩ (y.vb d)).setCell ⟨w.heap.size, 1, none⟩ (y.vh d)).setCell ⟨w.heap.size, 2, none⟩ (y.vm d)).setCell ⟨w.heap.size, 3, none⟩ (y.vn d)).setCell ⟨w.heap.size, 4, none⟩ (y.vt d)) ?_ (Below.heap_setCell _ ⟨w.heap.size + 1, 0, none⟩ _ _ (by simp))
      exact ((((HDD.out.set_ 0 _).set_ 1 _).set_ 2 _).set_ 3 _).set_ 4 _
    have hs5 (W : World) (i : Nat) (u : Value) (g : Nat) (hg : g ≠ w.heap.size) : (W.setCell ⟨w.heap.size, i, none⟩ u).heap[g]? = W.heap[g]? := Below.heap_setCell W ⟨w.heap.size, i, none⟩ u g hg
    have he3 : Whole V (w.heap.size + 1) 55 [.int .i64 0] := by
      rw [hV]
      refine Whole.set_ (L := [.int .i64 0]) ?_ 0 _
      refine HEE.out.keep ?_
      rw [hs5 _ _ _ _ (by simp), hs5 _ _ _ _ (by simp), hs5 _ _ _ _ (by simp), hs5 _ _ _ _ (by simp), hs5 _ _ _ _ (by simp)]
    have hf3 : ∀ g, w.heap.size + 1 < g → V.heap[g]? = w2.heap[g]? := fun g hg => by
      rw [hV, Below.heap_setCell _ ⟨w.heap.size + 1, 0, none⟩ _ g (by simp; omega), hs5 _ _ _ _ (by omega), hs5 _ _ _ _ (by omega), hs5 _ _ _ _ (by omega), hs5 _ _ _ _ (by omega), hs5 _ _ _ _ (by omega)]
    have hz3 : V.heap.size = w2.heap.size := by rw [hV]; simp
    have hb3 : Below w.heap.size w V := by
      have hs (W : World) (i : Nat) (u : Value) : Below w.heap.size W (W.setCell ⟨w.heap.size, i, none⟩ u) := (Below.refl _ W).setCell (p := ⟨w.heap.size, i, none⟩) (Nat.le_refl _) u
      rw [hV]
      exact ((((((HB.out.trans (hs _ 0 _)).trans (hs _ 1 _)).trans (hs _ 2 _)).trans (hs _ 3 _)).trans (hs _ 4 _))).setCell (p := ⟨w.heap.size + 1, 0, none⟩) (by simp) _
    have ho3 : OwnD V w.heap.size y d := by
      have h := HO.out
      exact ⟨own_mono (own_keep h.b fun g e => hf3 g (by have := (h.b.lt g e).1; omega)) (by omega), own_mono (own_keep h.h fun g e => hf3 g (by have := (h.h.lt g e).1; omega)) (by omega), own_mono (own_keep h.m fun g e => hf3 g (by have := (h.m.lt g e).1; omega)) (by omega),
        own_mono (own_keep h.n fun g e => hf3 g (by have := (h.n.lt g e).1; omega)) (by omega), own_mono (own_keep h.t fun g e => hf3 g (by have := (h.t.lt g e).1; omega)) (by omega)⟩
    clear hV hs5 hf3 q0 q1 q2 q3 q4 q5 z0 z1 z2 z3 z4 z5
    refine leaves_cons (f := 91) (args := #[.pointer (some ⟨w.heap.size + 1, 0, none⟩)]) (by simp) (by simp [go_sem]) ?_
    refine (catch_idle ⟨w.heap.size + 1, 0, none⟩ _).mono ?_
    intro e u' w3 ⟨h1, h2, hbi⟩
    subst h1 h2
    replace hd3 := hd3.below hbi (by omega)
    replace he3 := he3.below hbi (by omega)
    replace ho3 := ho3.keep fun g hg => hbi.block g hg
    replace hb3 := hb3.trans (hbi.mono (by omega))
    have q0 := hd3.cell 0
    have q1 := hd3.cell 1
    have q2 := hd3.cell 2
    have q3 := hd3.cell 3
    have q4 := hd3.cell 4
    have q5 := he3.cell 0
    simp only [List.getElem?_cons_zero, List.getElem?_cons_succ] at q0 q1 q2 q3 q4 q5
    clear hbi hd3 he3
    simp [Leaves, settle, results, Try.results48, go_sem, q0, q1, q2, q3, q4, q5]
    exact ⟨y, rfl, ho3, hb3⟩

theorem no_data (w : World) (B : Nat) : OwnD w B ⟨none, none, none, none, none, 0, 0, 0, 0, 0⟩ ⟨[], [], [], [], []⟩ :=
  ⟨World.ownsRow_nil _ _ _ _, World.ownsRow_nil _ _ _ _, World.ownsRow_nil _ _ _ _, World.ownsRow_nil _ _ _ _, World.ownsRow_nil _ _ _ _⟩

set_option maxRecDepth 20000 in
set_option maxHeartbeats 1000000 in
theorem dget_arg (A : Option Addr) (m cap : Nat) (p s kind : Int) (w : World) (h : p < 0 ∨ s < 0 ∨ kindB kind = false) :
    Calls Try.prog 48 #[.slice A m cap, .int .i64 p, .int .i64 s, .int .i64 kind] w (GotD w (⟨[], [], [], [], []⟩, 1)) := by
  have HIK := Lib.hid (fun W => isKind_any kind W)
  have HB := Lib.hid (((Below.refl w.heap.size w).alloc (Nat.le_refl _) (.cells #[.slice none 0 0, .slice none 0 0, .slice none 0 0, .slice none 0 0, .slice none 0 0] 34)).alloc (by simp) (.cells #[.int .i64 1] 55))
  by_cases h1 : p < 0
  · have d1 : decide (p < 0) = true := by simp; omega
    clear h
    go_enter_defers Try.func48, Try.ntmps48
    go_wp2
    simp [bodyPostD, Leaves, results, Try.results48, go_sem]
    exact ⟨⟨none, none, none, none, none, 0, 0, 0, 0, 0⟩, rfl, no_data _ _, HB.out⟩
  · have d1 : decide (p < 0) = false := by simp; omega
    by_cases h2 : s < 0
    · have d2 : decide (s < 0) = true := by simp; omega
      clear h
      go_enter_defers Try.func48, Try.ntmps48
      go_wp2
      simp [bodyPostD, Leaves, results, Try.results48, go_sem]
      exact ⟨⟨none, none, none, none, none, 0, 0, 0, 0, 0⟩, rfl, no_data _ _, HB.out⟩
    · have d2 : decide (s < 0) = false := by simp; omega
      have hk : kindB kind = false := by rcases h with h | h | h <;> first | exact h | exact absurd h (by assumption)
      rw [hk] at HIK
      clear h hk
      go_enter_defers Try.func48, Try.ntmps48
      go_wp2_with fail
      refine (HIK.out _).mono ?_
      rintro e w' ⟨rfl, rfl⟩
      go_wp2
      simp [bodyPostD, Leaves, results, Try.results48, go_sem]
      exact ⟨⟨none, none, none, none, none, 0, 0, 0, 0, 0⟩, rfl, no_data _ _, HB.out⟩

set_option maxRecDepth 20000 in
set_option maxHeartbeats 1000000 in
theorem dget_short (A : Option Addr) (m cap : Nat) (p s kind : Int) (w : World) (hm : m ≤ maxLen) (h1 : 0 ≤ p) (h2 : 0 ≤ s) (hp : p ≤ 9223372036854775807) (hk : kindB kind = true) (hs : (m : Int) - p < s) :
    Calls Try.prog 48 #[.slice A m cap, .int .i64 p, .int .i64 s, .int .i64 kind] w (GotD w (⟨[], [], [], [], []⟩, 3)) := by
  have HIK := Lib.hid (fun W => isKind_any kind W)
  rw [hk] at HIK
  unfold maxLen at hm
  have HB := Lib.hid (((Below.refl w.heap.size w).alloc (Nat.le_refl _) (.cells #[.slice none 0 0, .slice none 0 0, .slice none 0 0, .slice none 0 0, .slice none 0 0] 34)).alloc (by simp) (.cells #[.int .i64 3] 55))
  have d1 : decide (p < 0) = false := by simp; omega
  have d2 : decide (s < 0) = false := by simp; omega
  have d3 : decide ((m : Int) - p < s) = true := by simp; omega
  clear hk
  go_enter_defers Try.func48, Try.ntmps48
  go_wp2_with fail
  refine (HIK.out _).mono ?_
  rintro e w' ⟨rfl, rfl⟩
  go_wp2
  simp [bodyPostD, Leaves, results, Try.results48, go_sem]
  exact ⟨⟨none, none, none, none, none, 0, 0, 0, 0, 0⟩, rfl, no_data _ _, HB.out⟩

theorem dget_any (A : Option Addr) (m cap : Nat) (b : List UInt8) (p s kind : Int) (w : World) (hbl : b.length = m) (hrow : Row w w.heap.size A (b.map bc)) (hm : m ≤ cap) (hc : cap ≤ maxLen) (hp : p ≤ 9223372036854775807) :
    Calls Try.prog 48 #[.slice A m cap, .int .i64 p, .int .i64 s, .int .i64 kind] w (GotD w (getD b p s kind)) := by
  unfold getD
  by_cases h : p < 0 ∨ s < 0 ∨ kindB kind = false
  · rw [if_pos h]
    exact dget_arg A m cap p s kind w h
  · rw [if_neg h]
    have h1 : 0 ≤ p := by omega
    have h2 : 0 ≤ s := by omega
    have hk : kindB kind = true := by
      cases hx : kindB kind with
      | true => rfl
      | false => exact absurd (.inr (.inr hx)) h
    subst hbl
    by_cases hs : (b.length : Int) - p < s
    · rw [if_pos hs]
      exact dget_short A _ cap p s kind w (Nat.le_trans hm hc) h1 h2 hp hk hs
    · rw [if_neg hs]
      obtain ⟨p', rfl⟩ : ∃ n : Nat, p = n := ⟨p.toNat, by omega⟩
      obtain ⟨s', rfl⟩ : ∃ n : Nat, s = n := ⟨s.toNat, by omega⟩
      have := dget_fine A _ cap b p' s' kind w rfl hrow hm hc hk (by omega)
      rw [Int.toNat_natCast, show ((p' : Int) + (s' : Int)).toNat = p' + s' by omega]
      exact this

end Go.Proofs.Ythppgofpbpjglaa

namespace Go.Proofs.Ythppgofpbpjglaa
open Go.RowKit

/-- The number of s bytes at p. -/
def numAt (b : List UInt8) (p s : Nat) : Nat := numN (cutL b p s)
/-- A TTL as it is read. -/
def ttlAt (b : List UInt8) (p : Nat) : Nat := if 2147483647 < numAt b p 4 then 0 else numAt b p 4
theorem getL_num {b : List UInt8} {p s : Nat} (h1 : 1 ≤ s) (h2 : s ≤ 7) (h : p + s ≤ b.length) : getL b p s = ((numAt b p s : Int), (0 : Int)) := getL_ok h1 h2 h
theorem numAt_lt (b : List UInt8) (p s : Nat) : numAt b p s < 2 ^ (8 * s) := by
  unfold numAt
  have h := numN_lt (cutL b p s)
  have h2 : (cutL b p s).length ≤ s := by unfold cutL; simp; omega
  rw [show (256 : Nat) = 2 ^ 8 by rfl, ← Nat.pow_mul] at h
  exact Nat.lt_of_lt_of_le h (Nat.pow_le_pow_right (by omega) (by omega))

set_option maxRecDepth 8000 in
set_option maxHeartbeats 2000000 in
theorem head_any (A : Option Addr) (n c : Nat) (b : List UInt8) (p : Nat) (w : World) (hl : b.length = n) (hA : Row w w.heap.size A (b.map bc)) (hm : n ≤ c) (hc : c ≤ maxLen) (hp : p + 10 ≤ n) :
    Calls Try.prog 47 #[.slice A n c, .int .i64 p] w (Gave w (.agg #[.int .i64 (numAt b p 2), .int .i64 (numAt b (p + 2) 2), .int .i64 (ttlAt b (p + 4)), .int .i64 (numAt b (p + 8) 2)])) := by
  have hn : n ≤ maxLen := Nat.le_trans hm hc
  have HG := Lib.hid (fun (W : World) (x y : Int) (q s : Nat) (hx : x = q) (hy : y = s) (h1 : 1 ≤ s) (h2 : s ≤ 7) (h : q + s ≤ b.length) (hb : Below w.heap.size w W) =>
    (show Calls Try.prog 89 #[.slice A n c, .int .i64 x, .int .i64 y] W (Gets W ((numAt b q s : Int), (0 : Int))) by subst hx; subst hy; exact (getL_num h1 h2 h) ▸ get_any A n c w.heap.size b q s W hl (hA.below hb) hn hm))
  unfold maxLen at hc
  have b0 := numAt_lt b (p + 4) 4
  have HL := Lib.hid hl
  clear hA hl
  obtain ⟨z0, e0⟩ : ∃ z, z = numAt b p 2 := ⟨_, rfl⟩
  obtain ⟨z1, e1⟩ : ∃ z, z = numAt b (p + 2) 2 := ⟨_, rfl⟩
  obtain ⟨z2, e2⟩ : ∃ z, z = numAt b (p + 4) 4 := ⟨_, rfl⟩
  obtain ⟨z3, e3⟩ : ∃ z, z = numAt b (p + 8) 2 := ⟨_, rfl⟩
  have H0 := Lib.hid (fun W (x : Int) (hx : x = (p + 0 : Nat)) hb => (show Calls Try.prog 89 #[.slice A n c, .int .i64 x, .int .i64 2] W (Gets W ((z0 : Int), (0 : Int))) from e0 ▸ HG.out W x 2 (p + 0) 2 hx rfl (by omega) (by omega) (by rw [HL.out]; omega) hb))
  have H1 := Lib.hid (fun W (x : Int) (hx : x = (p + 2 : Nat)) hb => (show Calls Try.prog 89 #[.slice A n c, .int .i64 x, .int .i64 2] W (Gets W ((z1 : Int), (0 : Int))) from e1 ▸ HG.out W x 2 (p + 2) 2 hx rfl (by omega) (by omega) (by rw [HL.out]; omega) hb))
  have H2 := Lib.hid (fun W (x : Int) (hx : x = (p + 4 : Nat)) hb => (show Calls Try.prog 89 #[.slice A n c, .int .i64 x, .int .i64 4] W (Gets W ((z2 : Int), (0 : Int))) from e2 ▸ HG.out W x 4 (p + 4) 4 hx rfl (by omega) (by omega) (by rw [HL.out]; omega) hb))
  have H3 := Lib.hid (fun W (x : Int) (hx : x = (p + 8 : Nat)) hb => (show Calls Try.prog 89 #[.slice A n c, .int .i64 x, .int .i64 2] W (Gets W ((z3 : Int), (0 : Int))) from e3 ▸ HG.out W x 2 (p + 8) 2 hx rfl (by omega) (by omega) (by rw [HL.out]; omega) hb))
  have ht : ttlAt b (p + 4) = if 2147483647 < z2 then 0 else z2 := by unfold ttlAt; rw [← e2]
  rw [ht, ← e0, ← e1, ← e3]
  clear e0 e1 e2 e3 HG HL ht b0
  have a0 := (Below.refl w.heap.size w).alloc (Nat.le_refl _) (.cells #[.int .i64 0, .int .i64 0, .int .i64 0, .int .i64 0] 79)
  by_cases ht : 2147483647 < z2
  · have d0 : decide ((2147483647 : Int) < (z2 : Int)) = true := by simp; omega
    rw [if_pos ht]
    clear ht
    go_enter Try.func47, Try.ntmps47
    go_wp2_with fail
    refine (H0.out _ _ (by push_cast; omega) a0).mono ?_
    rintro e w1 ⟨rfl, rfl⟩
    go_wp2_with fail
    refine (H1.out _ _ (by push_cast; omega) ((Below.refl w.heap.size w).alloc (Nat.le_refl _) (.cells #[.int .i64 (z0 : Int), .int .i64 0, .int .i64 0, .int .i64 0] 79))).mono ?_
    rintro e w2 ⟨rfl, rfl⟩
    go_wp2_with fail
    refine (H2.out _ _ (by push_cast; omega) ((Below.refl w.heap.size w).alloc (Nat.le_refl _) (.cells #[.int .i64 (z0 : Int), .int .i64 (z1 : Int), .int .i64 0, .int .i64 0] 79))).mono ?_
    rintro e w3 ⟨rfl, rfl⟩
    go_wp2_with fail
    refine (H3.out _ _ (by push_cast; omega) ((Below.refl w.heap.size w).alloc (Nat.le_refl _) (.cells #[.int .i64 (z0 : Int), .int .i64 (z1 : Int), .int .i64 (z2 : Int), .int .i64 0] 79))).mono ?_
    rintro e w4 ⟨rfl, rfl⟩
    go_wp2
    refine ⟨rfl, .agg #[.int .i64 (z0 : Int), .int .i64 (z1 : Int), .int .i64 ((0 : Nat) : Int), .int .i64 (z3 : Int)], ?_, rfl, (Below.refl w.heap.size w).alloc (Nat.le_refl _) _⟩
    simp [results, Try.results47, go_sem]
  · have d0 : decide ((2147483647 : Int) < (z2 : Int)) = false := by simp; omega
    rw [if_neg ht]
    clear ht
    go_enter Try.func47, Try.ntmps47
    go_wp2_with fail
    refine (H0.out _ _ (by push_cast; omega) a0).mono ?_
    rintro e w1 ⟨rfl, rfl⟩
    go_wp2_with fail
    refine (H1.out _ _ (by push_cast; omega) ((Below.refl w.heap.size w).alloc (Nat.le_refl _) (.cells #[.int .i64 (z0 : Int), .int .i64 0, .int .i64 0, .int .i64 0] 79))).mono ?_
    rintro e w2 ⟨rfl, rfl⟩
    go_wp2_with fail
    refine (H2.out _ _ (by push_cast; omega) ((Below.refl w.heap.size w).alloc (Nat.le_refl _) (.cells #[.int .i64 (z0 : Int), .int .i64 (z1 : Int), .int .i64 0, .int .i64 0] 79))).mono ?_
    rintro e w3 ⟨rfl, rfl⟩
    go_wp2_with fail
    refine (H3.out _ _ (by push_cast; omega) ((Below.refl w.heap.size w).alloc (Nat.le_refl _) (.cells #[.int .i64 (z0 : Int), .int .i64 (z1 : Int), .int .i64 (z2 : Int), .int .i64 0] 79))).mono ?_
    rintro e w4 ⟨rfl, rfl⟩
    go_wp2
    refine ⟨rfl, .agg #[.int .i64 (z0 : Int), .int .i64 (z1 : Int), .int .i64 (z2 : Int), .int .i64 (z3 : Int)], ?_, rfl, (Below.refl w.heap.size w).alloc (Nat.le_refl _) _⟩
    simp [results, Try.results47, go_sem]

end Go.Proofs.Ythppgofpbpjglaa
