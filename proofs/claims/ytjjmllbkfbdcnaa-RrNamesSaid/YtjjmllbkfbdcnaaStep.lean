/-
  The contracts of the reader's follow and step.
-/
import Derived.Test.YtjjmllbkfbdcnaaReader
import Derived.Deep.QuietTactic
import Derived.BigQuiet
namespace Go.Proofs.Ytjjmllbkfbdcnaa
open Go.RowKit

/-- What a step leaves: an error; or the name's end; or a reading that goes on, and comes to the same. -/
def Stepped (base : Nat) (w : World) (g : Nat) (vb : Value) (b : List UInt8) (p q x : Nat) (n : List (List UInt8)) (e : Ending) (w' : World) : Prop :=
  Below base w w' ∧ ((∃ k : Nat, k ≠ 0 ∧ e = .returned (.int .i64 k) ∧ getR b p q x n = ([], 0, k) ∧ ∃ vl' p' q' x' s' d', RD w' g vb p' q' x' s' vl' d') ∨
    (e = .returned (.int .i64 0) ∧ ∃ vl' p' q' x' n' d', RD w' g vb p' q' x' (szN n') vl' d' ∧ w'.ownsRow base 9 1 vl' n'.length (n'.map sv) ∧ szN n' ≤ 255 ∧ (p' ≤ b.length ∧ q' ≤ p') ∧
      if d' = true then getR b p q x n = (n', x', 0) else getR b p q x n = getR b p' q' x' n' ∧ (q' < q ∨ q' = q ∧ szN n < szN n')))

theorem get_quiet {A : Option Addr} {m cap base : Nat} {b : List UInt8} {a s r1 r2 : Int} {w : World} (hbl : b.length = m) (hm : m ≤ maxLen) (hc : m ≤ cap) (hg : getL b a s = (r1, r2)) (hrow : Row w base A (b.map bc)) (k : Nat) :
    Calls Try.prog 86 #[.slice A m cap, .int .i64 a, .int .i64 s] (w.drewN k) fun e w' => e = .returned (.tuple #[.int .i64 r1, .int .i64 r2]) ∧ ∃ j, w' = w.drewN j :=
  (get_any A m cap base b a s (w.drewN k) hbl (hrow.drewN k) hm hc).mono fun e w' ⟨he, hw⟩ => ⟨by rw [he, hg], k, hw.symm⟩

set_option maxHeartbeats 400000 in
theorem follow_short (base : Nat) (w : World) (g : Nat) (A : Option Addr) (m cap : Nat) (b : List UInt8) (p q x s : Nat) (vl : Value) (d : Bool) (h : RD w g (.slice A m cap) p q x s vl d)
    (hbl : b.length = m) (hrow : Row w base A (b.map bc)) (hm : m ≤ maxLen) (hc : m ≤ cap) (hs : m < p + 2) :
    Calls Try.prog 109 #[.pointer (some ⟨g, 0, none⟩)] w (fun e w' => e = .returned (.int .i64 3) ∧ ∃ k, w' = w.drewN k) := by
  have h0 := h.c0
  have h1 := h.c1
  have HG := Lib.hid (get_quiet hbl hm hc (getL_short (a := p) (s := 2) (by omega) (by omega) (by omega) (by rw [hbl]; omega)) hrow)
  clear h hbl hrow
  go_enter Try.func109, Try.ntmps109
  go_wp2
  go_quiet ((go_at_call 86; exact HG.out _))
  go_wp2
  go_ret
  exact ⟨rfl, _, rfl⟩

/-- The number that the two bytes of a pointer are. -/
theorem getL_two {b : List UInt8} {p : Nat} (hp : p < b.length) (h : p + 1 < b.length) : getL b p 2 = ((((b[p]).toNat * 256 + (b[p + 1]).toNat : Nat) : Int), 0) := by
  have e := getL_ok (l := b) (a := p) (s := 2) (by omega) (by omega) (by omega)
  have h1 := cutL_succ (l := b) (a := p) (k := 0) (by omega)
  have h2 := cutL_succ (l := b) (a := p) (k := 1) h
  have h0 : cutL b p 0 = [] := by simp [cutL]
  rw [h0] at h1
  simp only [Nat.zero_add, List.nil_append, Nat.add_zero] at h1
  rw [h1] at h2
  rw [show (2 : Int) = ((2 : Nat) : Int) from rfl, e, h2]
  simp [numN]
theorem getL_one {b : List UInt8} {p : Nat} (h : p < b.length) : getL b p 1 = (((b[p]).toNat : Int), 0) := by
  have e := getL_ok (l := b) (a := p) (s := 1) (by omega) (by omega) (by omega)
  have h1 := cutL_succ (l := b) (a := p) (k := 0) (by omega)
  have h0 : cutL b p 0 = [] := by simp [cutL]
  rw [h0] at h1
  simp only [Nat.zero_add, List.nil_append, Nat.add_zero] at h1
  rw [show (1 : Int) = ((1 : Nat) : Int) from rfl, e, h1]
  simp [numN]

set_option maxHeartbeats 400000 in
theorem follow_loop (base : Nat) (w : World) (g : Nat) (A : Option Addr) (m cap : Nat) (b : List UInt8) (p q x s : Nat) (vl : Value) (d : Bool) (h : RD w g (.slice A m cap) p q x s vl d)
    (hbl : b.length = m) (hrow : Row w base A (b.map bc)) (hm : m ≤ maxLen) (hc : m ≤ cap) (hp : p < b.length) (hs : p + 1 < b.length) (y z : UInt8) (hy : b[p] = y) (hz : b[p + 1] = z) (h192 : 192 ≤ y.toNat) (hq : q ≤ toR y z) :
    Calls Try.prog 109 #[.pointer (some ⟨g, 0, none⟩)] w (fun e w' => e = .returned (.int .i64 6) ∧ ∃ k, w' = w.drewN k) := by
  have h0 := h.c0
  have h1 := h.c1
  have h2 := h.c2
  have HG := Lib.hid (get_quiet hbl hm hc (getL_two hp hs) hrow)
  rw [hy, hz] at HG
  clear hy hz
  have u1 := y.toNat_lt
  have u2 := z.toNat_lt
  unfold toR at hq
  generalize y.toNat = c1 at *
  generalize z.toNat = c2 at *
  have hv : ((c1 * 256 + c2 : Nat) : Int) = (c1 : Int) * 256 + c2 := by omega
  have d1 : decide ((q : Int) ≤ (c1 : Int) * 256 + c2 - 49152) = true := by simp; omega
  rw [hv] at HG
  clear h hbl hrow hv
  go_enter Try.func109, Try.ntmps109
  go_wp2
  go_quiet ((go_at_call 86; exact HG.out _))
  go_wp2
  go_ret
  exact ⟨rfl, _, rfl⟩

set_option maxHeartbeats 1000000 in
theorem follow_ok (base : Nat) (w : World) (g : Nat) (A : Option Addr) (m cap : Nat) (b : List UInt8) (p q x s : Nat) (vl : Value) (d : Bool) (hg : base ≤ g) (h : RD w g (.slice A m cap) p q x s vl d)
    (hbl : b.length = m) (hrow : Row w base A (b.map bc)) (hm : m ≤ maxLen) (hc : m ≤ cap) (hp : p < b.length) (hs : p + 1 < b.length) (y z : UInt8) (hy : b[p] = y) (hz : b[p + 1] = z) (h192 : 192 ≤ y.toNat) (hq : toR y z < q) :
    Calls Try.prog 109 #[.pointer (some ⟨g, 0, none⟩)] w (fun e w' => e = .returned (.int .i64 0) ∧ RD w' g (.slice A m cap) (toR y z) (toR y z) (nextR x (p + 2)) s vl d ∧ Below base w w' ∧ ∀ j, j ≠ g → w'.heap[j]? = w.heap[j]?) := by
  unfold maxLen at hm
  have h0 := h.c0
  have h1 := h.c1
  have h2 := h.c2
  have HG := Lib.hid (get_quiet hbl hm hc (getL_two hp hs) hrow)
  rw [hy, hz] at HG
  clear hy hz
  have u1 := y.toNat_lt
  have u2 := z.toNat_lt
  have hs' : p + 1 < m := by rw [← hbl]; exact hs
  have HT := Lib.hid (show toR y z = (y.toNat - 192) * 256 + z.toNat from rfl)
  rw [HT.out] at hq
  generalize toR y z = t at *
  generalize y.toNat = c1 at *
  generalize z.toNat = c2 at *
  have hv : ((c1 * 256 + c2 : Nat) : Int) = (c1 : Int) * 256 + c2 := by omega
  have ht : (c1 : Int) * 256 + c2 - 49152 = ((t : Nat) : Int) := by have := HT.out; omega
  have d1 : decide ((q : Int) ≤ (t : Int)) = false := by have := HT.out; simp; omega
  have HB := Lib.hid (fun W hr => behind_any base W g (.slice A m cap) p q x s vl d (p + 2) hg hr)
  have hv2 : ((p + 2 : Nat) : Int) = (p : Int) + 2 := by omega
  rw [hv] at HG
  rw [hv2] at HB
  have HR := Lib.hid h
  clear h hbl hrow hv hv2
  go_enter Try.func109, Try.ntmps109
  go_wp2
  go_quiet ((go_at_call 86; exact HG.out _))
  go_wp2_with fail
  refine (HB.out (w.drewN nq) (HR.out.drewN nq)).mono ?_
  rintro e w1 ⟨rfl, hr1, hb1, hj1⟩
  have f1 : w1.frozen? ⟨g, 1, none⟩ = false := hr1.frozen 1
  have f2 : w1.frozen? ⟨g, 2, none⟩ = false := hr1.frozen 2
  have c1' := RD.c1 hr1
  have c2' := RD.c2 hr1
  have HR1 := Lib.hid hr1
  have HB1 := Lib.hid hb1
  have HJ1 := Lib.hid hj1
  clear hr1 hb1 hj1
  go_wp2
  go_ret
  refine ⟨rfl, RD.set2 (RD.set1 HR1.out t) t, (((below_drewN' (Below.refl base w) nq).trans HB1.out).trans (below_set hg _ _)).trans (below_set hg _ _), fun j hj => ?_⟩
  exact (Below.heap_setCell _ ⟨g, 2, none⟩ _ j hj).trans ((Below.heap_setCell _ ⟨g, 1, none⟩ _ j hj).trans (HJ1.out j hj))

set_option maxHeartbeats 400000 in
theorem step_end (base : Nat) (w : World) (g : Nat) (A : Option Addr) (m cap : Nat) (b : List UInt8) (p q x : Nat) (vl : Value) (n : List (List UInt8)) (d : Bool) (h : RD w g (.slice A m cap) p q x (szN n) vl d)
    (hbl : b.length = m) (hrow : Row w base A (b.map bc)) (hm : m ≤ maxLen) (hc : m ≤ cap) (hp : b.length ≤ p) :
    Calls Try.prog 85 #[.pointer (some ⟨g, 0, none⟩)] w (Stepped base w g (.slice A m cap) b p q x n) := by
  have h0 := h.c0
  have h1 := h.c1
  have HG := Lib.hid (get_quiet hbl hm hc (getL_short (a := p) (s := 1) (by omega) (by omega) (by omega) (by omega)) hrow)
  have HE := Lib.hid (getR_end (q := q) (x := x) (n := n) hp)
  have HR := Lib.hid h
  clear h hbl hrow hp
  go_enter Try.func85, Try.ntmps85
  go_wp2
  go_quiet ((go_at_call 86; exact HG.out _))
  go_wp2
  go_ret
  exact ⟨below_drewN' (Below.refl base w) _, .inl ⟨3, by decide, rfl, HE.out, _, _, _, _, _, _, HR.out.drewN _⟩⟩

set_option maxHeartbeats 400000 in
theorem step_bad (base : Nat) (w : World) (g : Nat) (A : Option Addr) (m cap : Nat) (b : List UInt8) (p q x : Nat) (vl : Value) (n : List (List UInt8)) (d : Bool) (h : RD w g (.slice A m cap) p q x (szN n) vl d)
    (hbl : b.length = m) (hrow : Row w base A (b.map bc)) (hm : m ≤ maxLen) (hc : m ≤ cap) (hp : p < b.length) (y : UInt8) (hy : b[p] = y) (h64 : 64 ≤ y.toNat) (h192 : y.toNat < 192) :
    Calls Try.prog 85 #[.pointer (some ⟨g, 0, none⟩)] w (Stepped base w g (.slice A m cap) b p q x n) := by
  have h0 := h.c0
  have h1 := h.c1
  have HG := Lib.hid (get_quiet hbl hm hc (getL_one hp) hrow)
  have HE := Lib.hid (getR_bad (q := q) (x := x) (n := n) hp (by rw [hy]; exact h64) (by rw [hy]; exact h192))
  rw [hy] at HG
  have HR := Lib.hid h
  clear h hbl hrow hy hp
  generalize y.toNat = c at *
  have t0 : ((c : Int) == 0) = false := by rw [beq_eq_false_iff_ne]; omega
  have t1 : decide ((c : Int) ≤ 63) = false := by simp; omega
  have t2 : decide ((c : Int) < 192) = true := by simp; omega
  go_enter Try.func85, Try.ntmps85
  go_wp2
  go_quiet ((go_at_call 86; exact HG.out _))
  go_wp2
  go_ret
  exact ⟨below_drewN' (Below.refl base w) _, .inl ⟨5, by decide, rfl, HE.out, _, _, _, _, _, _, HR.out.drewN _⟩⟩

set_option maxHeartbeats 1000000 in
theorem step_zero (base : Nat) (w : World) (g : Nat) (A : Option Addr) (m cap : Nat) (b : List UInt8) (p q x : Nat) (vl : Value) (n : List (List UInt8)) (d : Bool) (hg : base ≤ g) (h : RD w g (.slice A m cap) p q x (szN n) vl d)
    (hbl : b.length = m) (hrow : Row w base A (b.map bc)) (hm : m ≤ maxLen) (hc : m ≤ cap) (hown : w.ownsRow base 9 1 vl n.length (n.map sv)) (hsz : szN n ≤ 255) (hqp : q ≤ p) (hp : p < b.length) (y : UInt8) (hy : b[p] = y) (h00 : y.toNat = 0) :
    Calls Try.prog 85 #[.pointer (some ⟨g, 0, none⟩)] w (Stepped base w g (.slice A m cap) b p q x n) := by
  unfold maxLen at hm
  have h0 := h.c0
  have h1 := h.c1
  have HG := Lib.hid (get_quiet hbl hm hc (getL_one hp) hrow)
  have HE := Lib.hid (getR_zero (q := q) (x := x) (n := n) hp (by rw [hy]; exact h00))
  rw [hy, h00] at HG
  have HB := Lib.hid (fun W hr => behind_any base W g (.slice A m cap) p q x (szN n) vl d (p + 1) hg hr)
  rw [show ((p + 1 : Nat) : Int) = (p : Int) + 1 by omega] at HB
  have HR := Lib.hid h
  have HO := Lib.hid hown
  have hne := own_not_whole hown h (by decide)
  have HN := Lib.hid hne
  have hp' : p < m := by rw [← hbl]; exact hp
  have hpl : p ≤ b.length := Nat.le_of_lt hp
  clear h hbl hrow hy hp h00 hown hne
  go_enter Try.func85, Try.ntmps85
  go_wp2
  go_quiet ((go_at_call 86; exact HG.out _))
  go_wp2_with fail
  refine (HB.out (w.drewN nq) (HR.out.drewN nq)).mono ?_
  rintro e w1 ⟨rfl, hr1, hb1, hj1⟩
  have f6 : w1.frozen? ⟨g, 6, none⟩ = false := hr1.frozen 6
  have c6' := RD.c6 hr1
  have HR1 := Lib.hid hr1
  have HB1 := Lib.hid hb1
  have HO1 := Lib.hid (own_keep (w := w) (w' := w1) HO.out fun j hj => hj1 j (fun e => HN.out (by rw [hj, e])))
  clear hr1 hb1 hj1
  go_wp2
  go_ret
  refine ⟨((below_drewN' (Below.refl base w) nq).trans HB1.out).trans (below_set hg _ _), .inr ⟨rfl, vl, _, _, _, n, true, RD.set6 HR1.out true, own_set_far HO1.out HN.out _, hsz, ⟨hpl, hqp⟩, ?_⟩⟩
  rw [if_pos rfl]
  exact HE.out

end Go.Proofs.Ytjjmllbkfbdcnaa
