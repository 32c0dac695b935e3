/-
  The contract of the reader's step, whole.
-/
import Derived.Test.YtjjmllbkfbdcnaaStep
namespace Go.Proofs.Ytjjmllbkfbdcnaa
open Go.RowKit

theorem Stepped.drew {base : Nat} {w : World} {g : Nat} {vb : Value} {b : List UInt8} {p q x : Nat} {n : List (List UInt8)} {e : Ending} {w' : World} {k : Nat} (h : Stepped base (w.drewN k) g vb b p q x n e w') : Stepped base w g vb b p q x n e w' :=
  ⟨(below_drewN' (Below.refl base w) k).trans h.1, h.2⟩

set_option maxHeartbeats 1000000 in
theorem step_label (base : Nat) (w : World) (g : Nat) (bb off m cap : Nat) (b : List UInt8) (p q x : Nat) (vl : Value) (n : List (List UInt8)) (hg : base ≤ g) (h : RD w g (.slice (some ⟨bb, off, none⟩) m cap) p q x (szN n) vl false)
    (hbl : b.length = m) (hrow : Row w base (some ⟨bb, off, none⟩) (b.map bc)) (hcap : cap ≤ maxLen) (hc : m ≤ cap) (hown : w.ownsRow base 9 1 vl n.length (n.map sv)) (hz : base ≤ w.heap.size) (hsz : szN n ≤ 255) (hqp : q ≤ p)
    (hp : p < b.length) (y : UInt8) (hy : b[p] = y) (h00 : y.toNat ≠ 0) (h64 : y.toNat < 64) :
    Calls Try.prog 85 #[.pointer (some ⟨g, 0, none⟩)] w (Stepped base w g (.slice (some ⟨bb, off, none⟩) m cap) b p q x n) := by
  have hm : m ≤ maxLen := Nat.le_trans hc hcap
  have h0 := h.c0
  have h1 := h.c1
  have HG := Lib.hid (get_quiet hbl hm hc (getL_one hp) hrow)
  rw [hy] at HG
  have hp' : p < m := by rw [← hbl]; exact hp
  have key : ∀ W, RD W g (.slice (some ⟨bb, off, none⟩) m cap) p q x (szN n) vl false → Row W base (some ⟨bb, off, none⟩) (b.map bc) → W.ownsRow base 9 1 vl n.length (n.map sv) → base ≤ W.heap.size →
      Calls Try.prog 108 #[.pointer (some ⟨g, 0, none⟩), .int .i64 ((p : Int) + 1), .int .i64 (y.toNat : Int)] W (fun e w' => ∃ k : Int, e = .returned (.int .i64 k) ∧ Stepped base W g (.slice (some ⟨bb, off, none⟩) m cap) b p q x n e w') := by
    intro W hr hrw ho hzz
    rw [show (p : Int) + 1 = ((p + 1 : Nat) : Int) by omega]
    by_cases hs : p + 1 + y.toNat ≤ m
    · by_cases hl : szN n + 1 + y.toNat ≤ 255
      · refine (label_ok base W g bb off m cap b p q x (p + 1) y.toNat vl n false hg hr hbl hrw ho hzz hc hcap (by omega) h64 hs hl).mono ?_
        rintro e w' ⟨rfl, vl', h2, h3, h4⟩
        refine ⟨0, rfl, h4, .inr ⟨rfl, vl', _, _, _, _, false, h2, h3, ?_, ⟨by rw [hbl]; exact hs, by omega⟩, ?_⟩⟩
        · rw [szN_snoc, length_cutL (by rw [hbl]; exact hs)]; omega
        · rw [if_neg (by decide), getR_label hp (by rw [hy]; exact h00) (by rw [hy]; exact h64) (by rw [hy, hbl]; exact hs) (by rw [hy]; omega)]
          rw [hy]
          refine ⟨rfl, .inr ⟨rfl, ?_⟩⟩
          rw [szN_snoc]; omega
      · refine (label_long base W g _ m cap p q x (szN n) (p + 1) y.toNat vl false hg hr hm h64 hs hsz (by omega)).mono ?_
        rintro e w' ⟨rfl, h4, vl', p', q', x', s', d', h5⟩
        refine ⟨5, rfl, h4, .inl ⟨5, by decide, rfl, ?_, ?_⟩⟩
        · exact getR_long hp (by rw [hy]; exact h00) (by rw [hy]; exact h64) (by rw [hy, hbl]; exact hs) (by rw [hy]; omega)
        · exact ⟨_, _, _, _, _, _, h5⟩
    · refine (label_short base W g _ m cap p q x (szN n) (p + 1) y.toNat vl false hr hm h64 (by omega)).mono ?_
      rintro e w' ⟨rfl, h4, vl', p', q', x', s', d', h5⟩
      refine ⟨3, rfl, h4, .inl ⟨3, by decide, rfl, ?_, ?_⟩⟩
      · exact getR_short hp (by rw [hy]; exact h00) (by rw [hy]; exact h64) (by rw [hy, hbl]; omega)
      · exact ⟨_, _, _, _, _, _, h5⟩
  have HK := Lib.hid key
  have HR := Lib.hid h
  have HO := Lib.hid hown
  have HW := Lib.hid hrow
  clear h hbl hrow hy hp hown key
  generalize y.toNat = c at *
  have t0 : ((c : Int) == 0) = false := by rw [beq_eq_false_iff_ne]; omega
  have t1 : decide ((c : Int) ≤ 63) = true := by simp; omega
  have hpm : (p : Int) < 9223372036854775807 := by unfold maxLen at hm; omega
  go_enter Try.func85, Try.ntmps85
  go_wp2
  go_quiet ((go_at_call 86; exact HG.out _))
  go_wp2_with fail
  refine (HK.out (w.drewN nq) (HR.out.drewN nq) (HW.out.drewN nq) HO.out hz).mono ?_
  rintro e w1 ⟨k, rfl, hst⟩
  have HS := Lib.hid hst
  clear hst
  go_wp2
  go_ret
  exact Stepped.drew HS.out

set_option maxHeartbeats 1000000 in
theorem step_ptr (base : Nat) (w : World) (g : Nat) (A : Option Addr) (m cap : Nat) (b : List UInt8) (p q x : Nat) (vl : Value) (n : List (List UInt8)) (hg : base ≤ g) (h : RD w g (.slice A m cap) p q x (szN n) vl false)
    (hbl : b.length = m) (hrow : Row w base A (b.map bc)) (hm : m ≤ maxLen) (hc : m ≤ cap) (hown : w.ownsRow base 9 1 vl n.length (n.map sv)) (hsz : szN n ≤ 255) (hqp : q ≤ p)
    (hp : p < b.length) (y : UInt8) (hy : b[p] = y) (h192 : 192 ≤ y.toNat) :
    Calls Try.prog 85 #[.pointer (some ⟨g, 0, none⟩)] w (Stepped base w g (.slice A m cap) b p q x n) := by
  have h0 := h.c0
  have h1 := h.c1
  have HG := Lib.hid (get_quiet hbl hm hc (getL_one hp) hrow)
  rw [hy] at HG
  have key : ∀ W, RD W g (.slice A m cap) p q x (szN n) vl false → Row W base A (b.map bc) → W.ownsRow base 9 1 vl n.length (n.map sv) →
      Calls Try.prog 109 #[.pointer (some ⟨g, 0, none⟩)] W (fun e w' => ∃ k : Int, e = .returned (.int .i64 k) ∧ Stepped base W g (.slice A m cap) b p q x n e w') := by
    intro W hr hrw ho
    by_cases hs : p + 1 < b.length
    · obtain ⟨z, hz⟩ : ∃ z, b[p + 1] = z := ⟨_, rfl⟩
      by_cases hq : toR y z < q
      · refine (follow_ok base W g A m cap b p q x (szN n) vl false hg hr hbl hrw hm hc hp hs y z hy hz h192 hq).mono ?_
        rintro e w' ⟨rfl, h2, h3, h4⟩
        have hpz := getR_ptr (x := x) (n := n) hp hs (by rw [hy]; exact h192) (by rw [hy, hz]; exact hq)
        rw [hy, hz] at hpz
        refine ⟨0, rfl, h3, .inr ⟨rfl, vl, _, _, _, n, false, h2, own_keep ho fun j hj => h4 j (fun e => own_not_whole ho hr (by decide) (by rw [hj, e])), hsz, ?_, ?_⟩⟩
        · exact ⟨by omega, Nat.le_refl _⟩
        · rw [if_neg (by decide)]
          exact ⟨hpz, .inl hq⟩
      · refine (follow_loop base W g A m cap b p q x (szN n) vl false hr hbl hrw hm hc hp hs y z hy hz h192 (by omega)).mono ?_
        rintro e w' ⟨rfl, k, rfl⟩
        exact ⟨6, rfl, below_drewN' (Below.refl base W) k, .inl ⟨6, by decide, rfl, getR_loop hp hs (by rw [hy]; exact h192) (by rw [hy, hz]; omega), _, _, _, _, _, _, hr.drewN k⟩⟩
    · refine (follow_short base W g A m cap b p q x (szN n) vl false hr hbl hrw hm hc (by omega)).mono ?_
      rintro e w' ⟨rfl, k, rfl⟩
      exact ⟨3, rfl, below_drewN' (Below.refl base W) k, .inl ⟨3, by decide, rfl, getR_half hp (by rw [hy]; exact h192) (by omega), _, _, _, _, _, _, hr.drewN k⟩⟩
  have HK := Lib.hid key
  have HR := Lib.hid h
  have HO := Lib.hid hown
  have HW := Lib.hid hrow
  clear h hbl hrow hy hp hown key
  generalize y.toNat = c at *
  have t0 : ((c : Int) == 0) = false := by rw [beq_eq_false_iff_ne]; omega
  have t1 : decide ((c : Int) ≤ 63) = false := by simp; omega
  have t2 : decide ((c : Int) < 192) = false := by simp; omega
  go_enter Try.func85, Try.ntmps85
  go_wp2
  go_quiet ((go_at_call 86; exact HG.out _))
  go_wp2_with fail
  refine (HK.out (w.drewN nq) (HR.out.drewN nq) (HW.out.drewN nq) HO.out).mono ?_
  rintro e w1 ⟨k, rfl, hst⟩
  have HS := Lib.hid hst
  clear hst
  go_wp2
  go_ret
  exact Stepped.drew HS.out

theorem step_any (base : Nat) (w : World) (g : Nat) (A : Option Addr) (m cap : Nat) (b : List UInt8) (p q x : Nat) (vl : Value) (n : List (List UInt8)) (hg : base ≤ g) (h : RD w g (.slice A m cap) p q x (szN n) vl false)
    (hbl : b.length = m) (hrow : Row w base A (b.map bc)) (hcap : cap ≤ maxLen) (hc : m ≤ cap) (hown : w.ownsRow base 9 1 vl n.length (n.map sv)) (hz : base ≤ w.heap.size) (hsz : szN n ≤ 255) (hqp : q ≤ p) :
    Calls Try.prog 85 #[.pointer (some ⟨g, 0, none⟩)] w (Stepped base w g (.slice A m cap) b p q x n) := by
  have hm : m ≤ maxLen := Nat.le_trans hc hcap
  by_cases hp : p < b.length
  · obtain ⟨y, hy⟩ : ∃ y, b[p] = y := ⟨_, rfl⟩
    by_cases h1 : y.toNat = 0
    · exact step_zero base w g A m cap b p q x vl n false hg h hbl hrow hm hc hown hsz hqp hp y hy h1
    · by_cases h2 : y.toNat < 64
      · obtain ⟨bb, off, rfl, _⟩ := hrow.some_ (by rw [List.length_map]; omega)
        exact step_label base w g bb off m cap b p q x vl n hg h hbl hrow hcap hc hown hz hsz hqp hp y hy h1 h2
      · by_cases h3 : y.toNat < 192
        · exact step_bad base w g A m cap b p q x vl n false h hbl hrow hm hc hp y hy (by omega) h3
        · exact step_ptr base w g A m cap b p q x vl n hg h hbl hrow hm hc hown hsz hqp hp y hy (by omega)
  · exact step_end base w g A m cap b p q x vl n false h hbl hrow hm hc (by omega)

end Go.Proofs.Ytjjmllbkfbdcnaa
