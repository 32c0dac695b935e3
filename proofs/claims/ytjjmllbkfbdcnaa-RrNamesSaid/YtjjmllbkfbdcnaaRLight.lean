/-
  The contract of 'light' of the statements of layer 5.
-/
import Derived.Test.YtjjmllbkfbdcnaaRecs
import Derived.Test.YtjjmllbkfbdcnaaOwnD
namespace Go.Proofs.Ytjjmllbkfbdcnaa
open Go.RowKit

/-- Has a record few parts? -/
def lightR (r : Rt) : Bool := decide (r.name.length ≤ 200) && (decide (r.data.host.length ≤ 200) && (decide (r.data.mail.length ≤ 200) && (decide (r.data.texts.length ≤ 100) && (decide (r.data.nums.length ≤ 100) && (decide (r.data.bytes.length ≤ 66000))))))
def lightL (rs : List Rt) : Bool := rs.all lightR && decide (rs.length ≤ 60)
structure LightR (r : Rt) : Prop where
  l0 : r.name.length ≤ 200
  l1 : r.data.host.length ≤ 200
  l2 : r.data.mail.length ≤ 200
  l3 : r.data.texts.length ≤ 100
  l4 : r.data.nums.length ≤ 100
  l5 : r.data.bytes.length ≤ 66000
theorem lightR_iff {r : Rt} (h : lightR r = true) : LightR r := by
  unfold lightR at h
  simp only [Bool.and_eq_true, decide_eq_true_eq] at h
  obtain ⟨h0, h1, h2, h3, h4, h5⟩ := h
  exact ⟨h0, h1, h2, h3, h4, h5⟩
theorem LightR.few {r : Rt} (h : LightR r) : FewD r.data := ⟨Nat.le_trans h.l1 (by omega), Nat.le_trans h.l2 (by omega), Nat.le_trans h.l3 (by omega), Nat.le_trans h.l4 (by omega), Nat.le_trans h.l5 (by omega)⟩
theorem lightL_each {rs : List Rt} (h : lightL rs = true) : (∀ r ∈ rs, LightR r) ∧ rs.length ≤ 60 := by
  unfold lightL at h
  rw [Bool.and_eq_true, decide_eq_true_eq, List.all_eq_true] at h
  exact ⟨fun r hr => lightR_iff (h.1 r hr), h.2⟩
theorem recs_at {ps : List (RV × Rt)} {k : Nat} (hk : k < ps.length) : recs (ps.take (k + 1)) = recs (ps.take k) ++ [(ps[k]).2] := by
  rw [List.take_succ_eq_append_getElem hk, recs_append]
  rfl
def LightRelR (w : World) (ps : List (RV × Rt)) (i : Value) (wr : World) : Prop := ∃ k : Nat, k ≤ ps.length ∧ i = .int .i64 k ∧ (recs (ps.take k)).all lightR = true ∧ Below w.heap.size w wr

set_option maxRecDepth 20000 in
set_option maxHeartbeats 4000000 in
theorem lightL_any (w : World) (A : Option Addr) (c : Nat) (ps : List (RV × Rt)) (hp : RsAt w w.heap.size A ps) (hl : ps.length ≤ maxLen) :
    Calls Try.prog 23 #[.slice A ps.length c] w (Gave w (.bool (lightL (recs ps)))) := by
  unfold maxLen at hl
  have HP := Lib.hid hp
  clear hp
  go_enter Try.func23, Try.ntmps23
  go_wp2
  go_loopw [3] (LightRelR w ps) (fun i _ => ps.length - (intOf i).toNat)
  case atStart => exact ⟨0, Nat.zero_le _, rfl, rfl, Below.refl _ _⟩
  case round =>
    obtain ⟨k, hk, rfl, hal, hb⟩ := hrel
    have HAL := Lib.hid hal
    have HB := Lib.hid hb
    have hz := hb.size
    clear hal hb
    by_cases hlt : k < ps.length
    · obtain ⟨b, off, rfl, hbH, hra, q0, q1, q2, q3, q4, q5, q6, q7, q8⟩ := (HP.out.below HB.out).at_ hlt
      have HF := Lib.hid (show lightR (ps[k]).2 = false → lightL (recs ps) = false by
        intro h
        unfold lightL
        rw [show (recs ps).all lightR = false by
          rw [List.all_eq_false]
          exact ⟨(ps[k]).2, List.mem_map.2 ⟨ps[k], List.getElem_mem hlt, rfl⟩, by rw [h]; decide⟩]
        rfl)
      have HT := Lib.hid (show lightR (ps[k]).2 = true → (recs (ps.take (k + 1))).all lightR = true by
        intro h
        rw [recs_at hlt, List.all_append, HAL.out]
        simp [h])
      clear hra
      revert q0 q1 q2 q3 q4 q5 q6 q7 q8 HF HT
      generalize ps[k] = p
      obtain ⟨x, r⟩ := p
      intro q0 q1 q2 q3 q4 q5 q6 q7 q8 HF HT
      dsimp only at *
      have r0 : (wr.alloc (.cells #[.slice x.d.Ab r.data.bytes.length x.d.cb, .slice x.d.Ah r.data.host.length x.d.ch, .slice x.d.Am r.data.mail.length x.d.cm, .slice x.d.An r.data.nums.length x.d.cn, .slice x.d.At r.data.texts.length x.d.ct] 26)).cell? ⟨b, off + k * 9, none⟩ = some (.slice x.A r.name.length x.c) := (World.cell?_alloc_lt wr _ ⟨b, off + k * 9, none⟩ (by dsimp only; omega)).trans q0
      have HB2 := Lib.hid (HB.out.alloc hz (.cells #[.slice x.d.Ab r.data.bytes.length x.d.cb, .slice x.d.Ah r.data.host.length x.d.ch, .slice x.d.Am r.data.mail.length x.d.cm, .slice x.d.An r.data.nums.length x.d.cn, .slice x.d.At r.data.texts.length x.d.ct] 26))
      by_cases e0 : r.name.length ≤ 200
      case neg =>
        have d0 : decide ((200 : Int) < (r.name.length : Int)) = true := by simp; omega
        have HX := Lib.hid (HF.out (by unfold lightR; rw [show decide (r.name.length ≤ 200) = false by simp; omega]; simp))
        go_wp2
        go_ret
        exact ⟨by rw [HX.out]; rfl, HB2.out⟩
      have d0 : decide ((200 : Int) < (r.name.length : Int)) = false := by simp; omega
      by_cases e1 : r.data.host.length ≤ 200
      case neg =>
        have d1 : decide ((200 : Int) < (r.data.host.length : Int)) = true := by simp; omega
        have HX := Lib.hid (HF.out (by unfold lightR; rw [show decide (r.data.host.length ≤ 200) = false by simp; omega]; simp))
        go_wp2
        go_ret
        exact ⟨by rw [HX.out]; rfl, HB2.out⟩
      have d1 : decide ((200 : Int) < (r.data.host.length : Int)) = false := by simp; omega
      by_cases e2 : r.data.mail.length ≤ 200
      case neg =>
        have d2 : decide ((200 : Int) < (r.data.mail.length : Int)) = true := by simp; omega
        have HX := Lib.hid (HF.out (by unfold lightR; rw [show decide (r.data.mail.length ≤ 200) = false by simp; omega]; simp))
        go_wp2
        go_ret
        exact ⟨by rw [HX.out]; rfl, HB2.out⟩
      have d2 : decide ((200 : Int) < (r.data.mail.length : Int)) = false := by simp; omega
      by_cases e3 : r.data.texts.length ≤ 100
      case neg =>
        have d3 : decide ((100 : Int) < (r.data.texts.length : Int)) = true := by simp; omega
        have HX := Lib.hid (HF.out (by unfold lightR; rw [show decide (r.data.texts.length ≤ 100) = false by simp; omega]; simp))
        go_wp2
        go_ret
        exact ⟨by rw [HX.out]; rfl, HB2.out⟩
      have d3 : decide ((100 : Int) < (r.data.texts.length : Int)) = false := by simp; omega
      by_cases e4 : r.data.nums.length ≤ 100
      case neg =>
        have d4 : decide ((100 : Int) < (r.data.nums.length : Int)) = true := by simp; omega
        have HX := Lib.hid (HF.out (by unfold lightR; rw [show decide (r.data.nums.length ≤ 100) = false by simp; omega]; simp))
        go_wp2
        go_ret
        exact ⟨by rw [HX.out]; rfl, HB2.out⟩
      have d4 : decide ((100 : Int) < (r.data.nums.length : Int)) = false := by simp; omega
      by_cases e5 : r.data.bytes.length ≤ 66000
      case neg =>
        have d5 : decide ((66000 : Int) < (r.data.bytes.length : Int)) = true := by simp; omega
        have HX := Lib.hid (HF.out (by unfold lightR; rw [show decide (r.data.bytes.length ≤ 66000) = false by simp; omega]; simp))
        go_wp2
        go_ret
        exact ⟨by rw [HX.out]; rfl, HB2.out⟩
      have d5 : decide ((66000 : Int) < (r.data.bytes.length : Int)) = false := by simp; omega
      have HX := Lib.hid (HT.out (by unfold lightR; simp [e0, e1, e2, e3, e4, e5]))
      go_wp2
      exact ⟨⟨k + 1, by omega, by go_num, HX.out, HB2.out⟩, by simp [intOf]; omega⟩
    · obtain rfl : k = ps.length := by omega
      have HX := Lib.hid (show lightL (recs ps) = decide ((ps.length : Int) ≤ 60) by
        have h := HAL.out
        rw [List.take_length] at h
        unfold lightL
        rw [h, length_recs, Bool.true_and]
        exact decide_eq_decide.2 (by omega))
      go_wp2
      go_ret
      exact ⟨by rw [HX.out]; rfl, HB.out⟩

end Go.Proofs.Ytjjmllbkfbdcnaa
