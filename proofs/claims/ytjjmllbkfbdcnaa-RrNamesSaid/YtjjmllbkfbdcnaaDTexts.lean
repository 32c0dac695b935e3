/-
  The reader of rdata: texts; bytes.
-/
import Derived.Test.YtjjmllbkfbdcnaaDNums
namespace Go.Proofs.Ytjjmllbkfbdcnaa
open Go.RowKit

/-- What is read of texts, from p on; acc are read already. -/
def textsR (b : List UInt8) (p en : Nat) (acc : List (List UInt8)) : Except Nat (List (List UInt8) × Nat) :=
  if _h : p < en then
    if acc.length = 64 then .error 4
    else if en < p + 1 + numN (cutL b p 1) then .error 3
    else textsR b (p + 1 + numN (cutL b p 1)) en (acc ++ [cutL b (p + 1) (numN (cutL b p 1))])
  else if acc = [] then .error 2 else .ok (acc, p)
termination_by en - p
section
variable {b : List UInt8} {p en : Nat} {acc : List (List UInt8)}
theorem textsR_large (h : p < en) (h1 : acc.length = 64) : textsR b p en acc = .error 4 := by rw [textsR, dif_pos h, if_pos h1]
theorem textsR_short (h : p < en) (h1 : acc.length ≠ 64) (h2 : en < p + 1 + numN (cutL b p 1)) : textsR b p en acc = .error 3 := by rw [textsR, dif_pos h, if_neg h1, if_pos h2]
theorem textsR_next (h : p < en) (h1 : acc.length ≠ 64) (h2 : p + 1 + numN (cutL b p 1) ≤ en) : textsR b p en acc = textsR b (p + 1 + numN (cutL b p 1)) en (acc ++ [cutL b (p + 1) (numN (cutL b p 1))]) := by
  rw [textsR, dif_pos h, if_neg h1, if_neg (by omega)]
theorem textsR_none (h : en ≤ p) : textsR b p en [] = .error 2 := by rw [textsR, dif_neg (by omega), if_pos rfl]
theorem textsR_end (h : en ≤ p) (h1 : acc ≠ []) : textsR b p en acc = .ok (acc, p) := by rw [textsR, dif_neg (by omega), if_neg h1]
end

theorem numN_one_lt (b : List UInt8) (p : Nat) : numN (cutL b p 1) < 256 := by
  have h := numN_lt (cutL b p 1)
  have hl : (cutL b p 1).length ≤ 1 := by simp [cutL]; omega
  have : 256 ^ (cutL b p 1).length ≤ 256 ^ 1 := Nat.pow_le_pow_right (by omega) hl
  omega

def TextsRel (w : World) (g : Nat) (vb : Value) (b : List UInt8) (p en : Nat) (v : Value) (wr : World) : Prop :=
  ∃ q acc, RB wr g vb q en ∧ q ≤ en ∧ acc.length ≤ 64 ∧ wr.ownsRow w.heap.size 9 1 v acc.length (acc.map sv) ∧ textsR b p en [] = textsR b q en acc ∧ GrewG g w wr

set_option maxRecDepth 4000 in
set_option maxHeartbeats 1000000 in
theorem texts_any (w : World) (g : Nat) (A : Option Addr) (m cap base : Nat) (b : List UInt8) (p en : Nat) (h : RB w g (.slice A m cap) p en) (hbl : b.length = m) (hrow : Row w base A (b.map bc)) (hbg : base ≤ g) (hm : m ≤ cap) (hc : cap ≤ maxLen) (hen : en ≤ m)
    (hp : p ≤ en) :
    Calls Try.prog 104 #[.pointer (some ⟨g, 0, none⟩)] w (Outc w g (.slice A m cap) en (textsR b p en []) (OwnT w.heap.size)) := by
  obtain ⟨i0, hi0, hz0, hz1, hz2⟩ := info_parts str_info
  have hgl := h.lt
  have HNUM := Lib.hid (fun W q hr hw hq => dnum_ok W g A m cap base b q en 1 hr hbl hw hm hc hen (by omega) (by omega) hq)
  have HTK := Lib.hid (fun W q s hr hw hq => take_ok W g A m cap base b q en s hr hbl hw hm hc hen hq)
  have HTS := Lib.hid (fun W q s hr hs hqe hq => take_short W g (.slice A m cap) q en s hr hs (Nat.le_trans hen (Nat.le_trans hm hc)) hqe hq)
  have HEN := Lib.hid (Nat.le_trans hen (Nat.le_trans hm hc))
  have HBL := Lib.hid hbl
  have HW := Lib.hid hrow
  have HR := Lib.hid h
  clear h hrow hbl
  go_enter Try.func104, Try.ntmps104
  go_wp2
  go_loopw [3] (TextsRel w g (.slice A m cap) b p en) (fun _ wr => en - numV (wr.cell? ⟨g, 1, none⟩))
  case atStart =>
    exact ⟨p, [], HR.out, hp, Nat.zero_le _, World.ownsRow_nil _ _ _ _, rfl, Grew.refl _ _⟩
  case round =>
    obtain ⟨q, acc, hr, hq, hacc, ho, hgr, hg⟩ := hrel
    obtain ⟨Av, cv, rfl, _, hcv⟩ := own_form ho
    have c1 := hr.c1
    have c2 := hr.c2
    have HG := Lib.hid hg
    have HGR := Lib.hid hgr
    have HRQ := Lib.hid hr
    have HO := Lib.hid ho
    have HWQ := Lib.hid (HW.out.below (hg.below (fun q e => by subst e; exact hbg) (by omega)))
    have hsz : w.heap.size ≤ wr.heap.size := hg.size
    clear hr hg hgr ho
    by_cases hqe : q < en
    · have d1 : decide ((q : Int) < (en : Int)) = true := by simp; omega
      by_cases h64 : acc.length = 64
      · have t1 : ((acc.length : Int) == 64) = true := by rw [beq_iff_eq]; omega
        go_wp2
        go_quiet (fail)
        go_wp2_with fail
        refine (giveUp_any _ _).mono ?_
        rintro e w' ⟨rfl, rfl⟩
        exact ⟨rfl, Outc.err (by rw [HGR.out]; exact textsR_large hqe h64) (HG.out.drewN _)⟩
      · have t1 : ((acc.length : Int) == 64) = false := by rw [beq_eq_false_iff_ne]; omega
        go_wp2
        go_quiet (fail)
        go_wp2_with fail
        refine (HNUM.out _ q (HRQ.out.drewN _) (HWQ.out.drewN _) hqe).mono ?_
        rintro e w1 ⟨he, hr1, hg1⟩
        have hn := numN_one_lt b q
        obtain ⟨n, hnn⟩ : ∃ n, n = numN (cutL b q 1) := ⟨_, rfl⟩
        rw [← hnn] at he hn
        subst he
        have HR1 := Lib.hid hr1
        have HG1 := Lib.hid ((HG.out.drewN _).trans hg1 fun q hq => .inl hq)
        have HO1 := Lib.hid (own_grew HO.out (show GrewG g wr w1 from ((Grew.refl _ wr).drewN _).trans hg1 fun q hq => .inl hq) fun q hq e => by subst e; have := (HO.out.lt q hq).1; omega)
        have HW1 := Lib.hid (HW.out.below (HG1.out.below (fun q e => by subst e; exact hbg) (by omega)))
        clear hr1 hg1 c1 c2
        have HNN := Lib.hid hnn
        clear hnn
        by_cases hfit : q + 1 + n ≤ en
        · go_wp2_with fail
          refine (HTK.out w1 (q + 1) n HR1.out HW1.out hfit).mono ?_
          rintro e w2 ⟨A2, c2, rfl, hc2, hc3, hrw2, hr2, hg2⟩
          have hcl := length_cutL (l := b) (a := q + 1) (k := n) (by rw [HBL.out]; omega)
          have hcv2 := convert_row_run (P := Try.prog) w2 22 9 5 Try.underlying22 Try.underlying5 Try.underlying9 A2 n c2 base (cutL b (q + 1) n) hcl (hrw2.below (hg2.below (fun q e => by subst e; exact hbg) (by have := HG1.out.size; omega)))
          have HR2 := Lib.hid hr2
          have HG2 := Lib.hid (HG1.out.trans hg2 fun q hq => .inl hq)
          have HO2 := Lib.hid (own_grew HO1.out hg2 fun q hq e => by subst e; have := (HO1.out.lt q hq).1; omega)
          have hsz2 : w.heap.size ≤ w2.heap.size := HG2.out.size
          have hrm := Row.made w2 #[.string ⟨(cutL b (q + 1) n).toArray⟩] 9
          have HRM := Lib.hid hrm
          clear hrw2 hr2 hg2 hrm
          have hnx := textsR_next hqe h64 (show q + 1 + numN (cutL b q 1) ≤ en by rw [← HNN.out]; exact hfit)
          rw [← HNN.out] at hnx
          have HNX := Lib.hid hnx
          clear hnx
          go_wp2_with (
            at_builtin
            refine wpList_append_at rfl (.tmp 17) (.tmp 23) _ rfl w.heap.size 9 i0 _ 1 16 Try.underlying23 hi0 hz0 hz1 hz2 rfl (by omega) (.slice Av acc.length cv) acc.length _ rfl (HO2.out.alloc _)
              (some ⟨w2.heap.size, 0, none⟩) 1 1 (w2.heap.size + 1) [.string ⟨(cutL b (q + 1) n).toArray⟩] rfl rfl HRM.out (by simp [Value.oneCell']) (by unfold maxLen; omega) (by omega) (by simp; omega) ?_
            intro v3 w3 hown3 hg3 hat3)
          have hrb3 : RB w3 g (.slice A m cap) (q + 1 + n) en := by
            have h3 : RB (w2.alloc (.cells #[.string ⟨(cutL b (q + 1) n).toArray⟩] 9)) g (.slice A m cap) (q + 1 + n) en := HR2.out.alloc _
            exact h3.grown hg3 (fun e => by have := (HO2.out.lt g e.symm).1; omega)
          refine ⟨⟨q + 1 + n, acc ++ [cutL b (q + 1) n], hrb3, hfit, by rw [List.length_append]; simp; omega, ?_, HGR.out.trans HNX.out, ?_⟩, ?_⟩
          · rw [List.length_append, List.map_append]
            exact hown3
          · exact (HG2.out.alloc _).grown hg3 fun q e => .inr (HO2.out.lt q e).1
          · rw [hrb3.c1, HRQ.out.c1]
            simp [numV, intOf]
            omega
        · go_wp2_with fail
          refine (HTS.out w1 (q + 1) n HR1.out (by omega) (by have := HEN.out; omega) (by omega)).mono ?_
          rintro e w2 ⟨rfl, hg2⟩
          exact ⟨rfl, Outc.err (by rw [HGR.out]; exact textsR_short hqe h64 (by rw [← HNN.out]; omega)) (HG1.out.trans hg2 fun q hq => .inl hq)⟩
    · have d1 : decide ((q : Int) < (en : Int)) = false := by simp; omega
      by_cases h0 : acc = []
      · subst h0
        go_wp2
        go_quiet (fail)
        go_wp2_with fail
        refine (giveUp_any _ _).mono ?_
        rintro e w' ⟨rfl, rfl⟩
        exact ⟨rfl, Outc.err (by rw [HGR.out]; exact textsR_none (by omega)) (HG.out.drewN _)⟩
      · have hl : 0 < acc.length := List.length_pos_iff.2 h0
        have t1 : ((acc.length : Int) == 0) = false := by rw [beq_eq_false_iff_ne]; omega
        go_wp2
        go_quiet (fail)
        go_wp2
        go_ret
        exact Outc.ok (by rw [HGR.out]; exact textsR_end (by omega) h0) (HG.out.drewN _) (HRQ.out.drewN _) HO.out

/-- What is read of bytes. -/
def bytesR (b : List UInt8) (p en least most : Nat) : Except Nat (List UInt8 × Nat) :=
  if en < p + max least (min most (en - p)) then .error 3 else .ok (cutL b p (max least (min most (en - p))), p + max least (min most (en - p)))

set_option maxRecDepth 4000 in
set_option maxHeartbeats 1000000 in
theorem dbytes_any (w : World) (g : Nat) (A : Option Addr) (m cap base : Nat) (b : List UInt8) (p en least most : Nat) (h : RB w g (.slice A m cap) p en) (hbl : b.length = m) (hrow : Row w base A (b.map bc)) (hbg : base ≤ g) (hm : m ≤ cap) (hc : cap ≤ maxLen) (hen : en ≤ m)
    (hp : p ≤ en) (hl : least ≤ 16) (hmo : most ≤ 65535) :
    Calls Try.prog 105 #[.pointer (some ⟨g, 0, none⟩), .int .i64 least, .int .i64 most] w (Outc w g (.slice A m cap) en (bytesR b p en least most) (OwnB w.heap.size)) := by
  obtain ⟨i0, hi0, hz0, hz1, hz2⟩ := info_parts u8_info
  obtain ⟨s, hs⟩ : ∃ s, s = max least (min most (en - p)) := ⟨_, rfl⟩
  have HTK := Lib.hid (fun W hr hw hq => take_ok W g A m cap base b p en s hr hbl hw hm hc hen hq)
  have HTS := Lib.hid (fun W hr hq => take_short W g (.slice A m cap) p en s hr (by omega) (Nat.le_trans hen (Nat.le_trans hm hc)) (Nat.le_trans hp (Nat.le_trans hen (Nat.le_trans hm hc))) hq)
  have hf : bytesR b p en least most = if en < p + s then .error 3 else .ok (cutL b p s, p + s) := by rw [bytesR, ← hs]
  have HF := Lib.hid hf
  have hs65 : s ≤ 65535 := by omega
  have hgl := h.lt
  have c1 := h.c1
  have c2 := h.c2
  have t0 : wrap64 ((en : Int) - (p : Int)) = (en : Int) - (p : Int) := by
    have := Nat.le_trans hen (Nat.le_trans hm hc)
    unfold maxLen at this
    rw [wrap64]
    omega
  have t1 : (if (least : Int) < if (en : Int) - (p : Int) < (most : Int) then (en : Int) - (p : Int) else (most : Int) then if (en : Int) - (p : Int) < (most : Int) then (en : Int) - (p : Int) else (most : Int) else (least : Int)) = (s : Int) := by
    split <;> split at * <;> omega
  have HBL := Lib.hid hbl
  have HW := Lib.hid hrow
  have HR := Lib.hid h
  have HSS := Lib.hid hs
  clear h hrow hbl hf hs
  go_enter Try.func105, Try.ntmps105
  go_wp2
  go_region
  obtain ⟨z, t2⟩ : ∃ z : Int, (if (en : Int) - (p : Int) < (most : Int) then (en : Int) - (p : Int) else (most : Int)) = z := ⟨_, rfl⟩
  rw [t2]
  clear t2 t0 t1 c1 c2
  by_cases hfit : p + s ≤ en
  · go_wp2_with fail
    refine (HTK.out _ (HR.out.drewN 1) (HW.out.drewN 1) hfit).mono ?_
    rintro e w1 ⟨A1, c1, rfl, hc1, hc2, hrw1, hr1, hg1⟩
    have hcl := length_cutL (l := b) (a := p) (k := s) (by rw [HBL.out]; omega)
    have hrw := hrw1.below (hg1.below (fun q e => by subst e; exact hbg) (by simp; omega))
    have HRW := Lib.hid hrw
    have HR1 := Lib.hid hr1
    have HG1 := Lib.hid (show GrewG g w w1 from ((Grew.refl _ w).drewN 1).trans hg1 fun q hq => .inl hq)
    have hsz : w.heap.size ≤ w1.heap.size := HG1.out.size
    clear hrw1 hr1 hg1 hrw
    go_wp2_with (
      at_builtin
      refine wpList_append_at rfl (.const (.slice none 0 0)) (.tmp 23) _ rfl w.heap.size 5 i0 _ 1 1 Try.underlying22 hi0 hz0 hz1 hz2 rfl (by omega) (.slice none 0 0) 0 [] rfl (World.ownsRow_nil _ _ _ _)
        A1 s c1 base ((cutL b p s).map bc) rfl (by rw [List.length_map, hcl, Nat.mul_one]) HRW.out (bc_one _) (by unfold maxLen; omega) (by omega) hsz ?_
      intro v2 w2 hown2 hg2 hat2)
    go_ret
    rw [Nat.zero_add, List.nil_append] at hown2
    refine Outc.ok (by rw [HF.out, if_neg (by omega)]) (HG1.out.grown hg2 fun q e => by cases e) (HR1.out.grown hg2 (by simp [Value.ownBlock])) ?_
    unfold OwnB
    rw [hcl]
    exact hown2
  · go_wp2_with fail
    refine (HTS.out _ (HR.out.drewN 1) (by omega)).mono ?_
    rintro e w1 ⟨rfl, hg1⟩
    exact ⟨rfl, Outc.err (by rw [HF.out, if_pos (by omega)]) (((Grew.refl _ w).drewN 1).trans hg1 fun q hq => .inl hq)⟩

end Go.Proofs.Ytjjmllbkfbdcnaa
