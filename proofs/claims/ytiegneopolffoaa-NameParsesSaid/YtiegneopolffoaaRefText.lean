/-
  The contract of the document's Text.
-/
import Derived.Test.YtiegneopolffoaaOwn
import Derived.Test.YtiegneopolffoaaNText
namespace Go.Proofs.Ytiegneopolffoaa
open Go.RowKit

set_option maxHeartbeats 1000000 in
theorem three_digits (c : UInt8) (w : World) :
    Calls Try.prog 35 #[.int .u8 c.toNat] w (Gave w (.string ⟨[dgH c, dgT c, dgO c].toArray⟩)) := by
  have hc := c.toNat_lt
  have hr := Row.made w #[.int .u8 (48 + (c.toNat : Int) / 100), .int .u8 (48 + (c.toNat : Int) / 10 % 10), .int .u8 (48 + (c.toNat : Int) % 10)] 5
  rw [dgH_int, dgT_int, dgO_int] at hr
  have hcv := convert_row_run (P := Try.prog) (w.alloc (.cells #[.int .u8 (dgH c).toNat, .int .u8 (dgT c).toNat, .int .u8 (dgO c).toNat] 5)) 33 9 5 Try.underlying33 Try.underlying5 Try.underlying9 _ 3 3 _ [dgH c, dgT c, dgO c] rfl hr
  rw [← dgH_int, ← dgT_int, ← dgO_int] at hcv
  clear hr
  go_enter Try.func35, Try.ntmps35
  go_wp2
  go_ret
  exact ⟨rfl, (Below.refl _ _).alloc (Nat.le_refl _) _⟩

theorem mk_app (x y : List UInt8) : Value.string (ByteArray.mk x.toArray ++ ByteArray.mk y.toArray) = Value.string ⟨(x ++ y).toArray⟩ := by rw [ByteArray.mk_append_mk]

theorem extract_one {l : List UInt8} {j : Nat} (h : j < l.length) : (ByteArray.mk l.toArray).extract j (j + 1) = ⟨[l[j]].toArray⟩ := by
  apply ByteArray.ext
  apply Array.toList_inj.1
  simp [ByteArray.data_extract, List.take_one, h]

def RTRel (w : World) (n : List (List UInt8)) (v i : Value) (wr : World) : Prop :=
  ∃ k : Nat, k ≤ n.length ∧ i = .int .i64 k ∧ v = .string ⟨(textN (n.take k)).toArray⟩ ∧ Below w.heap.size w wr
def RTRel2 (w : World) (p l : List UInt8) (v i : Value) (wr : World) : Prop :=
  ∃ k : Nat, k ≤ l.length ∧ i = .int .i64 k ∧ v = .string ⟨(p ++ textL (l.take k)).toArray⟩ ∧ Below w.heap.size w wr

set_option maxHeartbeats 400000 in
theorem ref_text_nil (A : Option Addr) (c : Nat) (w : World) :
    Calls Try.prog 18 #[.slice A 0 c] w (Gave w (.string ⟨(textA []).toArray⟩)) := by
  rw [show textA [] = [46] from rfl]
  go_enter Try.func18, Try.ntmps18
  go_wp2
  go_ret
  exact ⟨rfl, Below.refl _ _⟩

set_option maxHeartbeats 2000000 in
theorem ref_text_ne (A : Option Addr) (m c H : Nat) (n : List (List UInt8)) (w : World) (hl : n.length = m) (hA : Row w H A (n.map sv)) (hH : H ≤ w.heap.size) (hs : szN n ≤ 1000000) (hn : n ≠ []) :
    Calls Try.prog 18 #[.slice A m c] w (Gave w (.string ⟨(textA n).toArray⟩)) := by
  subst hl
  rw [show textA n = textN n by unfold textA; rw [if_neg hn]]
  have hlen := length_lt_szN n
  have hnl : 0 < n.length := by
    rcases n with _ | ⟨x, n⟩
    · exact absurd rfl hn
    · simp
  have h0 : ((n.length : Int) == 0) = false := by rw [beq_eq_false_iff_ne]; omega
  have HA := Lib.hid (hA.mono hH)
  clear hA hn hH
  go_enter Try.func18, Try.ntmps18
  go_wp2
  go_loopw [3, 4] (RTRel w n) (fun _ i _ => n.length - (intOf i).toNat)
  case atStart => exact ⟨0, Nat.zero_le _, rfl, rfl, Below.refl _ _⟩
  case round =>
    obtain ⟨k, hk, rfl, rfl, hwk⟩ := hrel
    have hpl := textN_take_le n k
    have HWK := Lib.hid hwk
    have HAK := Lib.hid (HA.out.below hwk)
    clear hwk
    by_cases hlt : k < n.length
    · obtain ⟨b, off, rfl, _, _⟩ := HAK.out.name_at hlt
      have hle := len_le_szN hlt
      have HT := Lib.hid (textN_snoc hlt)
      obtain ⟨p, hp⟩ : ∃ p, p = textN (n.take k) := ⟨_, rfl⟩
      rw [← hp] at hpl HT
      rw [← hp]
      clear hp
      go_wp2_with fail
      go_loopw [3, 5] (RTRel2 w p n[k]) (fun _ i _ => (n[k]).length - (intOf i).toNat)
      case atStart => exact ⟨0, Nat.zero_le _, rfl, by simp [textL], HWK.out⟩
      case round =>
        obtain ⟨j, hj, rfl, rfl, hwj⟩ := hrel
        have HWJ := Lib.hid hwj
        obtain ⟨b2, off2, e2, hb2, hc2⟩ := (HA.out.below hwj).name_at hlt
        injection e2 with e2
        injection e2 with e2 e3
        subst e2
        subst e3
        have hzj := hwj.size
        clear hwj
        have hpj := textL_take_le n[k] j
        have hpa : (p ++ textL (n[k].take j)).length ≤ 8000000 := by rw [List.length_append]; omega
        by_cases hjt : j < (n[k]).length
        · have HL := Lib.hid (textL_snoc hjt)
          have hlt8 := (n[k][j]).toNat_lt
          obtain ⟨q, hq⟩ : ∃ q, q = p ++ textL (n[k].take j) := ⟨_, rfl⟩
          rw [← hq] at hpa ⊢
          have HQ := Lib.hid hq
          clear hq
          have hby : (ByteArray.mk (n[k]).toArray)[j]'(by simpa [ByteArray.size] using hjt) = n[k][j] := rfl
          have hex : (ByteArray.mk (n[k]).toArray).extract j (j + 1) = ⟨[n[k][j]].toArray⟩ := extract_one hjt
          generalize hcc : n[k][j] = c at hlt8 HL hby hex
          clear hcc
          by_cases h46 : c.toNat = 46
          · have t1 : ((c.toNat : Int) == 46) = true := by rw [h46]; rfl
            have HC := Lib.hid (textC_esc (.inl h46))
            have HE := Lib.hid (show c = 46 from UInt8.toNat.inj h46)
            clear h46 hex
            go_wp2
            refine ⟨⟨j + 1, by omega, by go_num, ?_, HWJ.out⟩, by simp [intOf]; omega⟩
            rw [HL.out, HC.out, ← List.append_assoc, ← HQ.out, HE.out]
            exact mk_app q [92, 46]
          · have t1 : ((c.toNat : Int) == 46) = false := by rw [beq_eq_false_iff_ne]; omega
            by_cases h92 : c.toNat = 92
            · have t2 : ((c.toNat : Int) == 92) = true := by rw [h92]; rfl
              have HC := Lib.hid (textC_esc (.inr h92))
              have HE := Lib.hid (show c = 92 from UInt8.toNat.inj h92)
              clear h46 h92 hex
              go_wp2
              refine ⟨⟨j + 1, by omega, by go_num, ?_, HWJ.out⟩, by simp [intOf]; omega⟩
              rw [HL.out, HC.out, ← List.append_assoc, ← HQ.out, HE.out]
              exact mk_app q [92, 92]
            · have t2 : ((c.toNat : Int) == 92) = false := by rw [beq_eq_false_iff_ne]; omega
              by_cases hpl2 : 33 ≤ c.toNat ∧ c.toNat ≤ 126
              · obtain ⟨g1, g2⟩ := hpl2
                have t3 : decide ((c.toNat : Int) < 33) = false := by simp; omega
                have t4 : decide (126 < (c.toNat : Int)) = false := by simp; omega
                have HC := Lib.hid (textC_as (c := c) (by omega) ⟨g1, g2⟩)
                clear h46 h92
                go_wp2
                refine ⟨⟨j + 1, by omega, by go_num, ?_, HWJ.out⟩, by simp [intOf]; omega⟩
                rw [HL.out, HC.out, ← List.append_assoc, ← HQ.out]
                exact mk_app q [c]
              · have HC := Lib.hid (textC_num hpl2)
                have hg : c.toNat < 33 ∨ 126 < c.toNat := by omega
                clear hpl2 h46 h92 hex
                rcases hg with g1 | g2
                · have t3 : decide ((c.toNat : Int) < 33) = true := by simp; omega
                  go_wp2_with fail
                  refine (three_digits c wr).mono ?_
                  rintro e w1 ⟨rfl, hb1⟩
                  have HB1 := Lib.hid hb1
                  clear hb1
                  go_wp2
                  refine ⟨⟨j + 1, by omega, by go_num, ?_, HWJ.out.trans (HB1.out.mono hzj)⟩, by simp [intOf]; omega⟩
                  rw [HL.out, HC.out, ← List.append_assoc, ← HQ.out, ByteArray.mk_append_mk q [92], mk_app (q ++ [92])]
                  simp
                · have t3 : decide ((c.toNat : Int) < 33) = false := by simp; omega
                  have t4 : decide (126 < (c.toNat : Int)) = true := by simp; omega
                  go_wp2_with fail
                  refine (three_digits c wr).mono ?_
                  rintro e w1 ⟨rfl, hb1⟩
                  have HB1 := Lib.hid hb1
                  clear hb1
                  go_wp2
                  refine ⟨⟨j + 1, by omega, by go_num, ?_, HWJ.out.trans (HB1.out.mono hzj)⟩, by simp [intOf]; omega⟩
                  rw [HL.out, HC.out, ← List.append_assoc, ← HQ.out, ByteArray.mk_append_mk q [92], mk_app (q ++ [92])]
                  simp
        · obtain rfl : j = (n[k]).length := by omega
          rw [List.take_length] at hpa ⊢
          obtain ⟨q, hq⟩ : ∃ q, q = p ++ textL n[k] := ⟨_, rfl⟩
          rw [← hq] at hpa HT ⊢
          clear hq
          go_wp2
          refine ⟨⟨k + 1, by omega, by go_num, ?_, HWJ.out⟩, by simp [intOf]; omega⟩
          rw [HT.out]
          exact mk_app q [46]
    · obtain rfl : k = n.length := by omega
      rw [List.take_length]
      go_wp2
      go_ret
      exact ⟨rfl, HWK.out⟩

theorem ref_text_any (A : Option Addr) (m c H : Nat) (n : List (List UInt8)) (w : World) (hl : n.length = m) (hA : Row w H A (n.map sv)) (hH : H ≤ w.heap.size) (hs : szN n ≤ 1000000) :
    Calls Try.prog 18 #[.slice A m c] w (Gave w (.string ⟨(textA n).toArray⟩)) := by
  by_cases hn : n = []
  · subst hn
    subst hl
    exact ref_text_nil A c w
  · exact ref_text_ne A m c H n w hl hA hH hs hn

end Go.Proofs.Ytiegneopolffoaa
