/-
  The contracts of the document's In, SameSet, Set and Exact.
-/
import Derived.Test.YtjjmllbkfbdcnaaRSet
import Derived.Test.YtjjmllbkfbdcnaaROwn
namespace Go.Proofs.Ytjjmllbkfbdcnaa
open Go.RowKit

/-- Is data the same, byte by byte? -/
def exactW (a b : Dt) : Bool := sameD a b && (decide (a.host = b.host) && decide (a.mail = b.mail))
theorem exactW_self (d : Dt) : exactW d d = true := by simp [exactW, sameD, eqN]
set_option maxRecDepth 4000 in
set_option maxHeartbeats 2000000 in
theorem dexact_wide (x y : DV) (a b : Dt) (w : World) (hx : DataAt w w.heap.size x a) (hy : DataAt w w.heap.size y b) (la : Wide a) (lb : Wide b) (kh : a.host.length ≤ maxLen) (km : a.mail.length ≤ maxLen) :
    Calls Try.prog 35 #[x.val a, y.val b] w (Gave w (.bool (exactW a b))) := by
  have HC1 := Lib.hid (fun W (h : Boxes w x y a b W) => ref_dsame_wide x y a b W h.atA h.atB la lb)
  have HC2 := Lib.hid (fun W (h : Boxes w x y a b W) => exact_any x.Ah y.Ah a.host.length b.host.length x.ch y.ch w.heap.size a.host b.host W rfl rfl h.da.h h.db.h kh)
  have HC3 := Lib.hid (fun W (h : Boxes w x y a b W) => exact_any x.Am y.Am a.mail.length b.mail.length x.cm y.cm w.heap.size a.mail b.mail W rfl rfl h.da.m h.db.m km)
  have HX := Lib.hid (Boxes.made hx hy)
  have HS := Lib.hid (show exactW a b = (sameD a b && (decide (a.host = b.host) && decide (a.mail = b.mail))) from rfl)
  clear hx hy la lb kh km
  go_enter Try.func35, Try.ntmps35
  go_wp2_with fail
  obtain ⟨W0, hW0⟩ : ∃ W0, W0 = (w.alloc (.cells #[.slice x.Ab a.bytes.length x.cb, .slice x.Ah a.host.length x.ch, .slice x.Am a.mail.length x.cm, .slice x.An a.nums.length x.cn, .slice x.At a.texts.length x.ct] 26)).alloc (.cells #[.slice y.Ab b.bytes.length y.cb, .slice y.Ah b.host.length y.ch, .slice y.Am b.mail.length y.cm, .slice y.An b.nums.length y.cn, .slice y.At b.texts.length y.ct] 26) := ⟨_, rfl⟩
  rw [← hW0]
  have hx0 : Boxes w x y a b W0 := by rw [hW0]; exact HX.out
  clear HX hW0
  refine (HC1.out W0 hx0).mono ?_
  intro e W1 hO
  obtain ⟨he, hb⟩ := hO
  have hx1 := hx0.step hb
  clear hb hx0
  cases hv : sameD a b with
  | false =>
    rw [hv] at he HS
    subst he
    have HB := Lib.hid hx1.below
    clear hx1
    go_wp2
    go_ret
    exact ⟨by rw [HS.out]; rfl, HB.out⟩
  | true =>
  rw [hv] at he HS
  subst he
  have p1 : W1.cell? ⟨w.heap.size, 1, none⟩ = some (.slice x.Ah a.host.length x.ch) := hx1.ba.cell 1
  have q1 : W1.cell? ⟨w.heap.size + 1, 1, none⟩ = some (.slice y.Ah b.host.length y.ch) := hx1.bb.cell 1
  go_wp2_with fail
  refine (HC2.out W1 hx1).mono ?_
  intro e W2 hO
  obtain ⟨he, hb⟩ := gave_drewn hO
  have hx2 := hx1.step hb
  clear hO hb hx1 p1 q1
  cases hv : decide (a.host = b.host) with
  | false =>
    rw [hv] at he HS
    subst he
    have HB := Lib.hid hx2.below
    clear hx2
    go_wp2
    go_ret
    exact ⟨by rw [HS.out]; rfl, HB.out⟩
  | true =>
  rw [hv] at he HS
  subst he
  have p2 : W2.cell? ⟨w.heap.size, 2, none⟩ = some (.slice x.Am a.mail.length x.cm) := hx2.ba.cell 2
  have q2 : W2.cell? ⟨w.heap.size + 1, 2, none⟩ = some (.slice y.Am b.mail.length y.cm) := hx2.bb.cell 2
  go_wp2_with fail
  refine (HC3.out W2 hx2).mono ?_
  intro e W3 hO
  obtain ⟨he, hb⟩ := gave_drewn hO
  have hx3 := hx2.step hb
  clear hO hb hx2 p2 q2
  subst he
  have HB := Lib.hid hx3.below
  clear hx3
  go_wp2
  go_ret
  refine ⟨?_, HB.out⟩
  rw [HS.out]
  simp

theorem sameD_turn (a b : Dt) : sameD a b = sameD b a := by
  have h : ∀ {α : Type} [DecidableEq α] (x y : α), decide (x = y) = decide (y = x) := fun x y => decide_eq_decide.2 ⟨Eq.symm, Eq.symm⟩
  unfold sameD eqN
  rw [h a.bytes, h a.nums, h a.texts, h (lowN a.host), h (lowN a.mail)]

def InRel (w : World) (x : DV) (a : Dt) (ps : List (DV × Dt)) (i : Value) (wr : World) : Prop :=
  ∃ k : Nat, k ≤ ps.length ∧ i = .int .i64 k ∧ (dats (ps.take k)).any (fun e => sameD a e) = false ∧ Whole wr w.heap.size 26 [.slice x.Ab a.bytes.length x.cb, .slice x.Ah a.host.length x.ch, .slice x.Am a.mail.length x.cm, .slice x.An a.nums.length x.cn, .slice x.At a.texts.length x.ct] ∧ Below w.heap.size w wr

set_option maxRecDepth 20000 in
set_option maxHeartbeats 4000000 in
theorem in_any (w : World) (x : DV) (a : Dt) (A : Option Addr) (c : Nat) (ps : List (DV × Dt)) (hx : DataAt w w.heap.size x a) (hp : DsAt w w.heap.size A ps) (la : Wide a) (hc : ∀ p ∈ ps, Wide p.2) (hl : ps.length ≤ maxLen) :
    Calls Try.prog 71 #[.slice A ps.length c, x.val a] w (Gave w (.bool (hasD (dats ps) a))) := by
  unfold maxLen at hl
  have HP := Lib.hid hp
  have HC := Lib.hid hc
  have HX := Lib.hid hx
  have HB0 := Lib.hid ((Below.refl w.heap.size w).alloc (Nat.le_refl _) (.cells #[.slice x.Ab a.bytes.length x.cb, .slice x.Ah a.host.length x.ch, .slice x.Am a.mail.length x.cm, .slice x.An a.nums.length x.cn, .slice x.At a.texts.length x.ct] 26))
  have HW0 := Lib.hid (Whole.made w [.slice x.Ab a.bytes.length x.cb, .slice x.Ah a.host.length x.ch, .slice x.Am a.mail.length x.cm, .slice x.An a.nums.length x.cn, .slice x.At a.texts.length x.ct] 26)
  clear hp hc hx
  go_enter Try.func71, Try.ntmps71
  go_wp2
  go_loopw [5] (InRel w x a ps) (fun i _ => ps.length - (intOf i).toNat)
  case atStart => exact ⟨0, Nat.zero_le _, rfl, rfl, HW0.out, HB0.out⟩
  case round =>
    obtain ⟨k, hk, rfl, hn, hwx, hb⟩ := hrel
    have HN := Lib.hid hn
    have HB := Lib.hid hb
    have hz := hb.size
    have HXX := Lib.hid hwx
    clear hn hb hwx
    by_cases hlt : k < ps.length
    · obtain ⟨b, off, rfl, hbH, hd, q0, q1, q2, q3, q4⟩ := HP.out.at_ hlt
      have hwd := HC.out _ (List.getElem_mem hlt)
      have HI := Lib.hid (any_snoc (fun e => sameD a e) hlt HN.out)
      revert hd q0 q1 q2 q3 q4 hwd HI
      generalize ps[k] = p
      obtain ⟨y, d⟩ := p
      intro hd q0 q1 q2 q3 q4 hwd HI
      dsimp only at *
      have HD := Lib.hid hd
      have HWD := Lib.hid hwd
      have Q0 := Lib.hid q0
      have Q1 := Lib.hid q1
      have Q2 := Lib.hid q2
      have Q3 := Lib.hid q3
      have Q4 := Lib.hid q4
      clear hd hwd q0 q1 q2 q3 q4
      have hbW : b < w.heap.size := hbH
      have hk0 : (0 : Int) ≤ (k : Int) := by omega
      have hk1 : (k : Int) < (ps.length : Int) := by omega
      have HBB := Lib.hid HB.out.drew
      have HXW := Lib.hid (show Whole wr.drew w.heap.size 26 [.slice x.Ab a.bytes.length x.cb, .slice x.Ah a.host.length x.ch, .slice x.Am a.mail.length x.cm, .slice x.An a.nums.length x.cn, .slice x.At a.texts.length x.ct] from HXX.out)
      go_wp2
      cases hv : sameD a d with
      | true =>
        have HT := Lib.hid (HI.out.1 hv)
        have HSM := Lib.hid (fun W (h : Below w.heap.size w W) => ref_dsame_wide y x d a W ((HD.out.below h).mono h.size) ((HX.out.below h).mono h.size) HWD.out la)
        rw [sameD_turn d a, hv] at HSM
        clear HI hv
        go_region_held3 (fun W => (W.cell? ⟨b, off + k * 5, none⟩ = some (.slice y.Ab d.bytes.length y.cb) ∧ W.cell? ⟨b, off + k * 5 + 1, none⟩ = some (.slice y.Ah d.host.length y.ch) ∧ W.cell? ⟨b, off + k * 5 + 2, none⟩ = some (.slice y.Am d.mail.length y.cm) ∧ W.cell? ⟨b, off + k * 5 + 3, none⟩ = some (.slice y.An d.nums.length y.cn) ∧ W.cell? ⟨b, off + k * 5 + 4, none⟩ = some (.slice y.At d.texts.length y.ct)) ∧ (W.cell? ⟨w.heap.size, 0, none⟩ = some (.slice x.Ab a.bytes.length x.cb) ∧ W.cell? ⟨w.heap.size, 1, none⟩ = some (.slice x.Ah a.host.length x.ch) ∧ W.cell? ⟨w.heap.size, 2, none⟩ = some (.slice x.Am a.mail.length x.cm) ∧ W.cell? ⟨w.heap.size, 3, none⟩ = some (.slice x.An a.nums.length x.cn) ∧ W.cell? ⟨w.heap.size, 4, none⟩ = some (.slice x.At a.texts.length x.ct)))
          (exact ⟨⟨(HBB.out.cell (p := ⟨b, off + k * 5, none⟩) hbW).trans Q0.out, (HBB.out.cell (p := ⟨b, off + k * 5 + 1, none⟩) hbW).trans Q1.out, (HBB.out.cell (p := ⟨b, off + k * 5 + 2, none⟩) hbW).trans Q2.out, (HBB.out.cell (p := ⟨b, off + k * 5 + 3, none⟩) hbW).trans Q3.out, (HBB.out.cell (p := ⟨b, off + k * 5 + 4, none⟩) hbW).trans Q4.out⟩, ⟨HXW.out.cell 0, HXW.out.cell 1, HXW.out.cell 2, HXW.out.cell 3, HXW.out.cell 4⟩⟩)
          ((first
            | (go_at_call 72
               refine (HSM.out _ HBB.out).mono ?_
               rintro e wn ⟨rfl, hb⟩
               have HXW := Lib.hid (HXW.out.below hb HXW.out.lt)
               have HBB := Lib.hid (HBB.out.trans (hb.mono HBB.out.size))
               clear hb)))
        go_wp2
        go_ret
        exact ⟨ret_bool HT.out.symm, HBB.out⟩
      | false =>
        have HT := Lib.hid (HI.out.2 hv)
        have HSM := Lib.hid (fun W (h : Below w.heap.size w W) => ref_dsame_wide y x d a W ((HD.out.below h).mono h.size) ((HX.out.below h).mono h.size) HWD.out la)
        rw [sameD_turn d a, hv] at HSM
        clear HI hv
        go_region_held3 (fun W => (W.cell? ⟨b, off + k * 5, none⟩ = some (.slice y.Ab d.bytes.length y.cb) ∧ W.cell? ⟨b, off + k * 5 + 1, none⟩ = some (.slice y.Ah d.host.length y.ch) ∧ W.cell? ⟨b, off + k * 5 + 2, none⟩ = some (.slice y.Am d.mail.length y.cm) ∧ W.cell? ⟨b, off + k * 5 + 3, none⟩ = some (.slice y.An d.nums.length y.cn) ∧ W.cell? ⟨b, off + k * 5 + 4, none⟩ = some (.slice y.At d.texts.length y.ct)) ∧ (W.cell? ⟨w.heap.size, 0, none⟩ = some (.slice x.Ab a.bytes.length x.cb) ∧ W.cell? ⟨w.heap.size, 1, none⟩ = some (.slice x.Ah a.host.length x.ch) ∧ W.cell? ⟨w.heap.size, 2, none⟩ = some (.slice x.Am a.mail.length x.cm) ∧ W.cell? ⟨w.heap.size, 3, none⟩ = some (.slice x.An a.nums.length x.cn) ∧ W.cell? ⟨w.heap.size, 4, none⟩ = some (.slice x.At a.texts.length x.ct)))
          (exact ⟨⟨(HBB.out.cell (p := ⟨b, off + k * 5, none⟩) hbW).trans Q0.out, (HBB.out.cell (p := ⟨b, off + k * 5 + 1, none⟩) hbW).trans Q1.out, (HBB.out.cell (p := ⟨b, off + k * 5 + 2, none⟩) hbW).trans Q2.out, (HBB.out.cell (p := ⟨b, off + k * 5 + 3, none⟩) hbW).trans Q3.out, (HBB.out.cell (p := ⟨b, off + k * 5 + 4, none⟩) hbW).trans Q4.out⟩, ⟨HXW.out.cell 0, HXW.out.cell 1, HXW.out.cell 2, HXW.out.cell 3, HXW.out.cell 4⟩⟩)
          ((first
            | (go_at_call 72
               refine (HSM.out _ HBB.out).mono ?_
               rintro e wn ⟨rfl, hb⟩
               have HXW := Lib.hid (HXW.out.below hb HXW.out.lt)
               have HBB := Lib.hid (HBB.out.trans (hb.mono HBB.out.size))
               clear hb)))
        go_wp2
        exact ⟨⟨k + 1, by omega, by go_num, HT.out, HXW.out, HBB.out⟩, by simp [intOf]; omega⟩
    · obtain rfl : k = ps.length := by omega
      have HF := Lib.hid (show hasD (dats ps) a = false by have h := HN.out; rw [List.take_length] at h; exact h)
      go_wp2
      go_ret
      exact ⟨ret_bool HF.out.symm, HB.out⟩

end Go.Proofs.Ytjjmllbkfbdcnaa
