/-
  The contract of the document's Data for texts, and whole; of rdata.Put, whole.
-/
import Derived.Test.YtjjmllbkfbdcnaaDRefD
import Derived.Test.YtjjmllbkfbdcnaaDPutD
namespace Go.Proofs.Ytjjmllbkfbdcnaa
open Go.RowKit

set_option maxRecDepth 4000 in
set_option maxHeartbeats 1000000 in
theorem rdata_16 (x : DV) (d : Dt) (w : World) (hx : DataAt w w.heap.size x d) (hi : RefIn d) :
    Calls Try.prog 17 #[.int .i64 16, x.val d] w (Gave w (.bool (soundD 16 d))) := by
  have kn : d.nums.length ≤ maxLen := Nat.le_trans hx.ln hx.kn
  have kb : d.bytes.length ≤ maxLen := Nat.le_trans hx.lb hx.kb
  obtain ⟨W, hW⟩ : ∃ W, W = w.alloc (.cells #[.slice x.Ab d.bytes.length x.cb, .slice x.Ah d.host.length x.ch, .slice x.Am d.mail.length x.cm, .slice x.An d.nums.length x.cn, .slice x.At d.texts.length x.ct] 26) := ⟨_, rfl⟩
  have hD : DataAt W w.heap.size x d := by rw [hW]; exact hx.alloc (Nat.le_refl _) _
  have hB : Below w.heap.size w W := by rw [hW]; exact (Below.refl _ _).alloc (Nat.le_refl _) _
  have hsz : w.heap.size ≤ W.heap.size := by rw [hW]; simp
  have hwh : Whole W w.heap.size 26 [x.vb d, x.vh d, x.vm d, x.vn d, x.vt d] := by rw [hW]; exact Whole.made w [x.vb d, x.vh d, x.vm d, x.vn d, x.vt d] _
  have c0 : W.cell? ⟨w.heap.size, 0, none⟩ = some (.slice x.Ab d.bytes.length x.cb) := hwh.cell 0
  have c1 : W.cell? ⟨w.heap.size, 1, none⟩ = some (.slice x.Ah d.host.length x.ch) := hwh.cell 1
  have c2 : W.cell? ⟨w.heap.size, 2, none⟩ = some (.slice x.Am d.mail.length x.cm) := hwh.cell 2
  have c3 : W.cell? ⟨w.heap.size, 3, none⟩ = some (.slice x.An d.nums.length x.cn) := hwh.cell 3
  have c4 : W.cell? ⟨w.heap.size, 4, none⟩ = some (.slice x.At d.texts.length x.ct) := hwh.cell 4
  have HB := Lib.hid hB
  have HW := Lib.hid hW
  have HDT := Lib.hid hD.t
  have HTL := Lib.hid hi.tl
  have hkt := hi.t
  unfold maxLen at hkt
  have HH := Lib.hid (fun (_ : Unit) => ref_sound_any x.Ah d.host.length x.ch w.heap.size d.host W rfl hD.h hi.h)
  have HM := Lib.hid (fun (_ : Unit) => ref_sound_any x.Am d.mail.length x.cm w.heap.size d.mail W rfl hD.m hi.m)
  have HF := Lib.hid (fun (_ : Unit) (a : Nat) (s : Int) => fit_any x.An d.nums.length x.cn w.heap.size d.nums a s W rfl hD.n kn hi.n)
  have HSZ := Lib.hid hsz
  unfold maxLen at kb kn
  have HS := Lib.hid (soundD_16 d)
  clear hD hB hwh hsz hx hi hW
  have enter : True := trivial
  by_cases l1 : 1 ≤ d.texts.length
  case neg =>
    have t1 : decide ((d.texts.length : Int) < 1) = true := by simp; omega
    rw [decide_eq_false l1] at HS
    clear l1
    go_enter Try.func17, Try.ntmps17
    rw [HW.out] at c0 c1 c2 c3 c4
    go_wp2
    go_ret
    exact ⟨by rw [HS.out]; rfl, by have h := HB.out; rw [HW.out] at h; exact h⟩
  have t1 : decide ((d.texts.length : Int) < 1) = false := by simp; omega
  rw [decide_eq_true l1] at HS
  by_cases l2 : d.texts.length ≤ 64
  case neg =>
    have t2 : decide ((64 : Int) < (d.texts.length : Int)) = true := by simp; omega
    rw [decide_eq_false l2] at HS
    clear l1 l2
    go_enter Try.func17, Try.ntmps17
    rw [HW.out] at c0 c1 c2 c3 c4
    go_wp2
    go_ret
    exact ⟨by rw [HS.out]; rfl, by have h := HB.out; rw [HW.out] at h; exact h⟩
  have t2 : decide ((64 : Int) < (d.texts.length : Int)) = false := by simp; omega
  rw [decide_eq_true l2] at HS
  go_enter Try.func17, Try.ntmps17
  rw [HW.out] at c0 c1 c2 c3 c4
  go_wp2_with fail
  rw [← HW.out]
  rw [← HW.out] at c0 c1 c2 c3 c4
  refine (empty_t x d W).mono ?_
  intro e w1 hO
  obtain ⟨he, hb⟩ := hO
  have HE := Lib.hid (HB.out.trans (hb.mono HSZ.out))
  have HT1 := Lib.hid ((HDT.out.below (hb.mono HSZ.out)))
  have c41 : w1.cell? ⟨w.heap.size, 4, none⟩ = some (.slice x.At d.texts.length x.ct) := (hb.cell (p := ⟨w.heap.size, 4, none⟩) (World.block_lt_of_cell? W _ c4)).trans c4
  clear hb c0 c1 c2 c3 c4
  cases hv : (decide (d.bytes.length = 0) && (decide (d.host.length = 0) && (decide (d.mail.length = 0) && decide (d.nums.length = 0)))) with
  | false =>
    rw [hv] at he HS
    subst he
    go_wp2
    go_ret
    exact ⟨by rw [HS.out]; rfl, HE.out⟩
  | true =>
  rw [hv] at he HS
  subst he
  go_wp2
  go_loop [5] (STRel d.texts) (fun i => d.texts.length - (intOf i).toNat)
  case atStart => exact ⟨0, Nat.zero_le _, rfl, rfl⟩
  case round =>
    obtain ⟨k, hk, rfl, hok⟩ := hrel
    have HOK := Lib.hid hok
    clear hok
    by_cases hlt : k < d.texts.length
    · obtain ⟨b, off, hA, _, hc⟩ := HT1.out.name_at hlt
      have hlk := HTL.out k hlt
      unfold maxLen at hlk
      rw [hA] at c41
      by_cases hbig : 255 < (d.texts[k]).length
      · have d1 : decide ((255 : Int) < ((d.texts[k]).length : Int)) = true := by simp; omega
        have HN := Lib.hid (all_not (n := d.texts) (fun t : List UInt8 => decide (t.length ≤ 255)) hlt (by simp; omega))
        go_wp2
        go_ret
        exact ⟨by rw [HS.out, HN.out]; rfl, HE.out⟩
      · have d1 : decide ((255 : Int) < ((d.texts[k]).length : Int)) = false := by simp; omega
        have HY := Lib.hid (all_snoc (n := d.texts) (fun t : List UInt8 => decide (t.length ≤ 255)) hlt HOK.out (by simp; omega))
        go_wp2
        exact ⟨⟨k + 1, hlt, by go_num, HY.out⟩, by simp [intOf]; omega⟩
    · obtain rfl : k = d.texts.length := by omega
      have HN := Lib.hid (show d.texts.all (fun t => decide (t.length ≤ 255)) = true by have h := HOK.out; rw [List.take_length] at h; exact h)
      go_wp2
      go_ret
      exact ⟨by rw [HS.out, HN.out]; rfl, HE.out⟩

theorem refData_any (k : Int) (x : DV) (d : Dt) (w : World) (hx : DataAt w w.heap.size x d) (hi : RefIn d) :
    Calls Try.prog 17 #[.int .i64 k, x.val d] w (Gave w (.bool (soundD k d))) := by
  cases hk : kindB k with
  | false => exact rdata_kind k x d w hk
  | true =>
    rcases shN_cases k with rfl | rfl | rfl | rfl | rfl | rfl | rfl | rfl | rfl | ho
    · exact rdata_1 x d w hx hi
    · exact rdata_28 x d w hx hi
    · exact rdata_2 x d w hx hi
    · exact rdata_5 x d w hx hi
    · exact rdata_12 x d w hx hi
    · exact rdata_15 x d w hx hi
    · exact rdata_6 x d w hx hi
    · exact rdata_16 x d w hx hi
    · exact rdata_33 x d w hx hi
    · exact rdata_other k x d w hx hi hk ho

theorem put_sound (base : Nat) (w : World) (g : Nat) (vB vM : Value) (B : List UInt8) (R : Rs) (k : Int) (y : DV) (d : Dt) (Bd : Nat) (h : Wr w base g vB vM B R) (ho : OwnD w Bd y d) (hsep : ∀ j, ownF g vB vM j → j < Bd) (hs : soundD k d = true)
    (hB : B.length ≤ 100000000) (hR : R.length ≤ 800000) (hG : GoodR B R) (q1 : szN d.host ≤ maxLen) (q2 : szN d.mail ≤ maxLen) :
    Calls Try.prog 15 #[.pointer (some ⟨g, 0, none⟩), .int .i64 k, y.val d] w (fun e w' => e = .returned (.int .i64 0) ∧ Penned base w g vB vM (putD (shN k) d B R).1 (putD (shN k) d B R).2 w') := by
  rcases shN_cases k with rfl | rfl | rfl | rfl | rfl | rfl | rfl | rfl | rfl | hk
  case inr.inr.inr.inr.inr.inr.inr.inr.inr =>
    exact put_none base w g vB vM B R k y d Bd h ho hsep hs (by rw [shN_other hk]) (by rw [shN_other hk]) hB hR hG q1 q2
  all_goals first
    | exact put_none base w g vB vM B R _ y d Bd h ho hsep hs (by decide) (by decide) hB hR hG q1 q2
    | exact put_host base w g vB vM B R _ y d Bd h ho hsep hs (by decide) (by decide) hB hR hG q1 q2
    | exact put_both base w g vB vM B R _ y d Bd h ho hsep hs (by decide) (by decide) hB hR hG q1 q2

end Go.Proofs.Ytjjmllbkfbdcnaa
