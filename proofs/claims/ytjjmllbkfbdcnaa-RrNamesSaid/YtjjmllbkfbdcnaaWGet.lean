/-
  The contract of wname.Get.
-/
import Derived.Test.YtjjmllbkfbdcnaaStep2
import Derived.Deep.LoopGhost
namespace Go.Proofs.Ytjjmllbkfbdcnaa
open Go.RowKit

/-- The call answers what is read: a name in new memory, a place, an error. -/
def Read (w : World) (r : List (List UInt8) × Nat × Nat) (e : Ending) (w' : World) : Prop :=
  ∃ v, e = .returned (.tuple #[v, .int .i64 r.2.1, .int .i64 r.2.2]) ∧ w'.ownsRow w.heap.size 9 1 v r.1.length (r.1.map sv) ∧ Below w.heap.size w w'

/-- At the loop's head: what is still to be read, or the error. -/
def WGetRel (w : World) (g : Nat) (vb : Value) (b : List UInt8) (a : Nat) (e : Value) (wr : World) : Prop :=
  ∃ k p q x s vl d, e = .int .i64 (k : Nat) ∧ RD wr g vb p q x s vl d ∧ Below w.heap.size w wr ∧ w.heap.size ≤ wr.heap.size ∧
    (if k = 0 then ∃ n, s = szN n ∧ szN n ≤ 255 ∧ q ≤ p ∧ p ≤ max a b.length ∧ wr.ownsRow w.heap.size 9 1 vl n.length (n.map sv) ∧ (if d = true then getR b a a 0 [] = (n, x, 0) else getR b a a 0 [] = getR b p q x n)
     else getR b a a 0 [] = ([], 0, k))

def doneV : Option Value → Bool
  | some (.bool false) => false
  | _ => true
def numV : Option Value → Nat
  | some v => (intOf v).toNat
  | none => 0
/-- What is left to read, as a number. -/
def leftR (g : Nat) (e : Value) (wr : World) : Nat :=
  if intOf e = 0 then (if doneV (wr.cell? ⟨g, 6, none⟩) = true then 0 else 1 + numV (wr.cell? ⟨g, 2, none⟩) * 256 + (255 - numV (wr.cell? ⟨g, 4, none⟩))) else 0
section
variable {wr : World} {g : Nat} {vb : Value} {p q x s : Nat} {vl : Value} {d : Bool}
theorem leftR_on (h : RD wr g vb p q x s vl false) : leftR g (.int .i64 0) wr = 1 + q * 256 + (255 - s) := by
  simp [leftR, h.c2, h.c4, h.c6, doneV, numV, intOf]
theorem leftR_off (h : RD wr g vb p q x s vl true) : leftR g (.int .i64 0) wr = 0 := by
  simp [leftR, h.c6, doneV, intOf]
theorem leftR_err {k : Nat} (hk : k ≠ 0) : leftR g (.int .i64 (k : Int)) wr = 0 := by
  simp [leftR, intOf, hk]
end

set_option maxHeartbeats 1000000 in
theorem wget_at (A : Option Addr) (m cap : Nat) (b : List UInt8) (a : Nat) (w : World) (hbl : b.length = m) (hrow : Row w w.heap.size A (b.map bc)) (hcap : cap ≤ maxLen) (hc : m ≤ cap) (_ha : a ≤ 9223372036854775807) :
    Calls Try.prog 64 #[.slice A m cap, .int .i64 a] w (Read w (getR b a a 0 [])) := by
  have HS := Lib.hid (fun W p q x vl n hr hrw ho hz hsz hqp => step_any w.heap.size W w.heap.size A m cap b p q x vl n (Nat.le_refl _) hr hbl hrw hcap hc ho hz hsz hqp)
  have HW := Lib.hid hrow
  have hcl : cap ≤ maxLen := hcap
  clear hrow hbl
  go_enter Try.func64, Try.ntmps64
  go_wp2
  go_loopw [6] (WGetRel w w.heap.size (.slice A m cap) b a) (fun e wr => leftR w.heap.size e wr)
  case atStart =>
    refine ⟨0, a, a, 0, 1, .slice none 0 0, false, rfl, heap_alloc_new w _, (Below.refl _ _).alloc (Nat.le_refl _) _, by simp, ?_⟩
    rw [if_pos rfl]
    exact ⟨[], rfl, by decide, Nat.le_refl _, by omega, World.ownsRow_nil _ _ _ _, by rw [if_neg (by decide)]⟩
  case round =>
    obtain ⟨k, p, q, x, s, vl, d, rfl, hr, hb, hz, hk⟩ := hrel
    by_cases hk0 : k = 0
    · subst hk0
      rw [if_pos rfl] at hk
      obtain ⟨n, rfl, hsz, hqp, hpl, ho, hgr⟩ := hk
      have c6 := hr.c6
      cases d
      · rw [if_neg (by decide)] at hgr
        have HR := Lib.hid hr
        have HB := Lib.hid hb
        have HO := Lib.hid ho
        have HGR := Lib.hid hgr
        clear hr hb ho hgr
        go_wp2_with fail
        refine (HS.out wr p q x vl n HR.out (HW.out.below HB.out) HO.out hz hsz hqp).mono ?_
        rintro e w1 ⟨hb1, h1⟩
        have HB1 := Lib.hid (HB.out.trans hb1)
        have hz1 : w.heap.size ≤ w1.heap.size := Nat.le_trans hz hb1.size
        clear hb1
        rcases h1 with ⟨k, hk, rfl, hg1, vl', p', q', x', s', d', hr1⟩ | ⟨rfl, vl', p', q', x', n', d', hr1, ho1, hsz1, ⟨hp1, hq1⟩, hg1⟩
        · have HG1 := Lib.hid (HGR.out.trans hg1)
          have HR1 := Lib.hid hr1
          clear hg1 hr1
          go_wp2
          refine ⟨⟨k, p', q', x', s', vl', d', rfl, HR1.out, HB1.out, hz1, by rw [if_neg hk]; exact HG1.out⟩, ?_⟩
          show leftR w.heap.size (.int .i64 (k : Int)) w1 < leftR w.heap.size (.int .i64 0) wr
          rw [leftR_err hk, leftR_on HR.out]
          omega
        · have HG1 := Lib.hid hg1
          have HR1 := Lib.hid hr1
          have HO1 := Lib.hid ho1
          clear hg1 hr1 ho1
          go_wp2
          refine ⟨⟨0, p', q', x', _, vl', d', rfl, HR1.out, HB1.out, hz1, ?_⟩, ?_⟩
          · rw [if_pos rfl]
            refine ⟨n', rfl, hsz1, hq1, by omega, HO1.out, ?_⟩
            have h := HG1.out
            split
            · rename_i hd
              rw [if_pos hd] at h
              exact HGR.out.trans h
            · rename_i hd
              rw [if_neg hd] at h
              exact HGR.out.trans h.1
          · have h := HG1.out
            have hl := leftR_on HR.out
            cases d'
            · rw [if_neg (by decide)] at h
              have hl1 := leftR_on HR1.out
              show leftR w.heap.size (.int .i64 0) w1 < leftR w.heap.size (.int .i64 0) wr
              rw [hl, hl1]
              omega
            · have hl1 := leftR_off HR1.out
              show leftR w.heap.size (.int .i64 0) w1 < leftR w.heap.size (.int .i64 0) wr
              rw [hl, hl1]
              omega
      · rw [if_pos rfl] at hgr
        have h3 := hr.c3
        have h5 := hr.c5
        have HR := Lib.hid hr
        have HB := Lib.hid hb
        have HO := Lib.hid ho
        have HGR := Lib.hid hgr
        clear hr hb ho hgr
        go_wp2
        go_quiet (fail)
        go_wp2
        go_ret3
        exact ⟨vl, by rw [HGR.out]; rfl, by rw [HGR.out]; exact HO.out, below_drewN' HB.out _⟩
    · rw [if_neg hk0] at hk
      have c6 := hr.c6
      have t1 : ((k : Int) == 0) = false := by rw [beq_eq_false_iff_ne]; omega
      have t2 : ((k : Int) != 0) = true := by rw [bne_iff_ne]; omega
      have HB := Lib.hid hb
      have HK := Lib.hid hk
      clear hr hb hk hk0
      cases d
      all_goals
        go_wp2
        go_ret3
        exact ⟨.slice none 0 0, by rw [HK.out]; rfl, by rw [HK.out]; exact World.ownsRow_nil _ _ _ _, HB.out⟩

set_option maxHeartbeats 400000 in
theorem step_neg (g : Nat) (A : Option Addr) (m cap : Nat) (a : Int) (w : World) (c0 : w.cell? ⟨g, 0, none⟩ = some (.slice A m cap)) (c1 : w.cell? ⟨g, 1, none⟩ = some (.int .i64 a)) (ha : a < 0) :
    Calls Try.prog 85 #[.pointer (some ⟨g, 0, none⟩)] w (Drewn w (.int .i64 1)) := by
  have hG : ∀ k, Calls Try.prog 86 #[.slice A m cap, .int .i64 a, .int .i64 1] (w.drewN k) fun e w' => e = .returned (.tuple #[.int .i64 0, .int .i64 1]) ∧ ∃ j, w' = w.drewN j :=
    fun k => (get_arg A m cap a 1 (w.drewN k) (.inr ha)).mono fun e w' ⟨he, hw⟩ => ⟨he, k, hw.symm⟩
  have HG := Lib.hid hG
  clear hG
  go_enter Try.func85, Try.ntmps85
  go_wp2
  go_quiet ((go_at_call 86; exact HG.out _))
  go_wp2
  go_ret
  exact ⟨rfl, _, rfl⟩

def NegRel (w : World) (g : Nat) (A : Option Addr) (m cap : Nat) (a : Int) (e : Value) (wr : World) : Prop :=
  ∃ k : Nat, k ≤ 1 ∧ e = .int .i64 k ∧ wr.cell? ⟨g, 0, none⟩ = some (.slice A m cap) ∧ wr.cell? ⟨g, 1, none⟩ = some (.int .i64 a) ∧ wr.cell? ⟨g, 6, none⟩ = some (.bool false) ∧ Below w.heap.size w wr

set_option maxHeartbeats 400000 in
theorem wget_neg (A : Option Addr) (m cap : Nat) (a : Int) (w : World) (ha : a < 0) :
    Calls Try.prog 64 #[.slice A m cap, .int .i64 a] w (Read w ([], 0, 1)) := by
  go_enter Try.func64, Try.ntmps64
  go_wp2
  go_loopw [6] (NegRel w w.heap.size A m cap a) (fun e _ => if intOf e = 0 then 1 else 0)
  case atStart =>
    have h (i : Nat) : (w.alloc (.cells #[.slice A m cap, .int .i64 a, .int .i64 a, .int .i64 0, .int .i64 1, .slice none 0 0, .bool false] 119)).cell? ⟨w.heap.size, i, none⟩ = [.slice A m cap, .int .i64 a, .int .i64 a, .int .i64 0, .int .i64 1, .slice none 0 0, .bool false][i]? :=
      Whole.cell (Whole.made w [.slice A m cap, .int .i64 a, .int .i64 a, .int .i64 0, .int .i64 1, .slice none 0 0, .bool false] 119) i
    exact ⟨0, by omega, rfl, h 0, h 1, h 6, (Below.refl _ _).alloc (Nat.le_refl _) _⟩
  case round =>
    obtain ⟨k, hk, rfl, c0, c1, c6, hb⟩ := hrel
    have HB := Lib.hid hb
    clear hb
    by_cases hk0 : k = 0
    · subst hk0
      go_wp2_with fail
      refine (step_neg w.heap.size A m cap a wr c0 c1 ha).mono ?_
      rintro e w1 ⟨rfl, j, rfl⟩
      go_wp2
      exact ⟨⟨1, by omega, rfl, c0, c1, c6, below_drewN' HB.out _⟩, by simp [intOf]⟩
    · obtain rfl : k = 1 := by omega
      go_wp2
      go_ret3
      exact ⟨.slice none 0 0, rfl, World.ownsRow_nil _ _ _ _, HB.out⟩

theorem wget_any (A : Option Addr) (m cap : Nat) (b : List UInt8) (a : Int) (w : World) (hbl : b.length = m) (hrow : Row w w.heap.size A (b.map bc)) (hcap : cap ≤ maxLen) (hc : m ≤ cap) (ha : a ≤ 9223372036854775807) :
    Calls Try.prog 64 #[.slice A m cap, .int .i64 a] w (Read w (getW b a)) := by
  by_cases h : a < 0
  · rw [getW_neg h]
    exact wget_neg A m cap a w h
  · obtain ⟨n, rfl⟩ : ∃ n : Nat, a = n := ⟨a.toNat, by omega⟩
    rw [getW_at]
    exact wget_at A m cap b n w hbl hrow hcap hc (by omega)

end Go.Proofs.Ytjjmllbkfbdcnaa
