/-
  The contract of PutRR of the document's Writer; rr.Put of nothing, and of a record that may not be.
-/
import Derived.Test.YtjkjhpaeckkpjaaCsP3
import Derived.Test.YtjkjhpaeckkpjaaMbP7
import Derived.Test.YtjkjhpaeckkpjaaMbP8
import Derived.Test.YtjkjhpaeckkpjaaCsP2
import Derived.Deep.CutRange
import Derived.Deep.RegionLaw
import Derived.Deep.RegionHeld3
import Derived.StillTailTactics
import Derived.Test.YtjkjhpaeckkpjaaMbP9
import Derived.Test.YtjkjhpaeckkpjaaMbP3
import Derived.Test.YtjkjhpaeckkpjaaMbP1
import Derived.Test.YtjkjhpaeckkpjaaMbP6
import Derived.BigQuiet
namespace Go.Proofs.Ytjkjhpaeckkpjaa
open Go.RowKit

section
variable {w : World} {base g : Nat} {Fp : Nat → Prop} {vB vR : Value} {B : List UInt8} {R : Rs}
theorem RWr.form (h : RWr w base Fp g vB vR B R) (hB : 0 < B.length) : ∃ b c, vB = .slice (some ⟨b, 0, none⟩) B.length c ∧ B.length ≤ c ∧ c ≤ maxLen := by
  obtain ⟨A, c, hv, h1, h2⟩ := own_form h.row
  subst hv
  rcases h.row.2 with ⟨hv, _⟩ | ⟨b, cap, cur, hv, _⟩
  · exfalso
    injection hv with _ hn _
    omega
  · injection hv with hA hn hc
    subst hA
    subst hc
    exact ⟨b, c, rfl, h1, h2⟩
/-- One byte of what stands there is another now. -/
theorem RWr.store {b c : Nat} (h : RWr w base Fp g (.slice (some ⟨b, 0, none⟩) B.length c) vR B R) {k : Nat} (hk : k < B.length) (u : UInt8) :
    RWr (w.setCell ⟨b, k, none⟩ (bc u)) base Fp g (.slice (some ⟨b, 0, none⟩) B.length c) vR (B.set k u) R := by
  have hne : b ≠ g := fun e => own_not_whole h.row h.blk (by decide) (by rw [← e]; rfl)
  have hk2 : ∀ j, j ≠ b → (w.setCell ⟨b, k, none⟩ (bc u)).heap[j]? = w.heap[j]? := fun j hj => Below.heap_setCell w ⟨b, k, none⟩ (bc u) j hj
  refine ⟨h.blk.keep (hk2 g (Ne.symm hne)), h.fg, ?_, h.frow, ?_, fun j hj => ?_⟩
  · have h1 := own_store h.row hk (bc u)
    rw [← List.map_set] at h1
    rw [List.length_set]
    exact h1
  · obtain ⟨vs, h1, h2, h3, h4⟩ := h.rests
    refine ⟨vs, h1, own_keep h2 fun j hj => hk2 j fun e => own_own_apart h2 h.row (by decide) hj (by rw [e]; rfl), h3, fun i hi => ?_⟩
    obtain ⟨A, c, h5, h6, h7⟩ := h4 i hi
    exact ⟨A, c, h5, own_keep h6 fun j hj => hk2 j fun e => own_own_apart h6 h.row (by decide) hj (by rw [e]; rfl), h7⟩
  · have := h.low j hj
    simp only [World.size_setCell]
    exact this
theorem rec_stays {x : RV} {r : Rt} {W : World} (hx : RAt w base x r) (hlow : ∀ j, Fp j → base ≤ j ∧ j < w.heap.size) (hb : base ≤ w.heap.size)
    (hp : RPenned base (w.alloc (.cells #[.slice x.A r.name.length x.c, .int .i64 r.kind, .int .i64 r.cls, .int .i64 r.ttl, .slice x.d.Ab r.data.bytes.length x.d.cb, .slice x.d.Ah r.data.host.length x.d.ch, .slice x.d.Am r.data.mail.length x.d.cm, .slice x.d.An r.data.nums.length x.d.cn, .slice x.d.At r.data.texts.length x.d.ct] 48)) Fp g B R W) : Whole W w.heap.size 48 [.slice x.A r.name.length x.c, .int .i64 r.kind, .int .i64 r.cls, .int .i64 r.ttl, .slice x.d.Ab r.data.bytes.length x.d.cb, .slice x.d.Ah r.data.host.length x.d.ch, .slice x.d.Am r.data.mail.length x.d.cm, .slice x.d.An r.data.nums.length x.d.cn, .slice x.d.At r.data.texts.length x.d.ct] ∧ RAt W base x r := by
  obtain ⟨_, _, _, _, hg, _⟩ := hp
  refine ⟨(Whole.made w [.slice x.A r.name.length x.c, .int .i64 r.kind, .int .i64 r.cls, .int .i64 r.ttl, .slice x.d.Ab r.data.bytes.length x.d.cb, .slice x.d.Ah r.data.host.length x.d.ch, .slice x.d.Am r.data.mail.length x.d.cm, .slice x.d.An r.data.nums.length x.d.cn, .slice x.d.At r.data.texts.length x.d.ct] _).keep (hg.block w.heap.size (by simp) fun hj => by have := (hlow _ hj).2; omega), (hx.below ((Below.refl _ _).alloc hb _)).below (hg.below (fun j hj => (hlow j hj).1) (by simp; omega))⟩
end
theorem digs_two (n : Nat) : digs n 2 = [UInt8.ofNat (n / 256), UInt8.ofNat n] := by simp [digs, List.range, List.range.loop]
theorem setB_two {B : List UInt8} {p : Nat} (a b : UInt8) (h : p + 2 ≤ B.length) : (B.set p a).set (p + 1) b = setB B p [a, b] := by
  obtain ⟨P, Q, rfl, rfl⟩ : ∃ P Q, B = P ++ Q ∧ P.length = p := ⟨B.take p, B.drop p, (List.take_append_drop p B).symm, by rw [List.length_take]; omega⟩
  match Q, h with
  | [], h => simp at h; omega
  | [_], h => simp at h
  | x :: y :: Q, _ =>
    unfold setB
    rw [List.set_append_right _ _ (Nat.le_refl _), List.set_append_right _ _ (by omega), List.take_left, Nat.sub_self, show P.length + 1 - P.length = 1 by omega, List.drop_append, List.drop_of_length_le (by omega)]
    simp

set_option maxRecDepth 20000 in
set_option maxHeartbeats 4000000 in
theorem rputRR_any (base : Nat) (w : World) (Fp : Nat → Prop) (g : Nat) (vB vR : Value) (B : List UInt8) (R : Rs) (x : RV) (r : Rt) (h : RWr w base Fp g vB vR B R) (hx : RAt w base x r) (hs : SoundR r) (hi : RIn r)
    (hB : B.length ≤ 90000000) (hR : R.length ≤ 700000) (hR16 : ∀ q ∈ R, q.2 < 16384 ∧ q.1.length ≤ 1000) :
    Calls Try.prog 58 #[.pointer (some ⟨g, 0, none⟩), x.val r] w (fun e w' => e = .returned (.bool true) ∧ RPenned base w Fp g (putRR r B R).1 (putRR r B R).2 w') := by
  have hp := soundN_parts hs.n
  have hnl := length_nameW_le true r.name B R hp.1
  have hnr := length_nameW_rests true r.name B R
  have hnz := length_lt_szN r.name
  have hn255 := hp.2
  have HR2 := Lib.hid (nameW_kept true r.name B R hR16 (by omega))
  have HR := Lib.hid hR16
  obtain ⟨WL, hWL, _, _, hD0⟩ := putRR_eq (B := B) (R := R) hs
  have hl0 : (putL [] 0 2).length = 2 := by decide +kernel
  have hl123 : (putL [] r.kind 2).length = 2 ∧ (putL [] r.cls 2).length = 2 ∧ (putL [] r.ttl 4).length = 4 := by
    have hkd : kindB r.kind = true := by have h := hs.d; unfold soundD at h; simp only [Bool.and_eq_true] at h; exact h.1
    simp only [kindB, decide_eq_true_eq] at hkd
    obtain ⟨_, s1, _, es1, _, _, l1⟩ := putL_fit (n := r.kind) (s := 2) (fitB_true (by omega) (by omega) (by omega) (by simp; omega))
    obtain ⟨_, s2, _, es2, _, _, l2⟩ := putL_fit hs.c
    obtain ⟨_, s3, _, es3, _, _, l3⟩ := putL_fit (n := r.ttl) (s := 4) (fitB_true (by omega) (by omega) hs.t0 (by have := hs.t1; simp; omega))
    omega
  obtain ⟨hl1, hl2, hl3⟩ := hl123
  have hHL : (putH8 r B R).length = (nameW true r.name B R).1.length + 8 := by
    unfold putH8
    simp only [List.length_append]
    omega
  have hD0L : (putD0 r B R).1.length = (putH8 r B R).length + 2 + WL.length := by
    rw [hD0]
    simp only [List.length_append, hl0]
  have HD := Lib.hid (show putRR r B R = (((putD0 r B R).1.set (putH8 r B R).length (UInt8.ofNat (WL.length / 256))).set ((putH8 r B R).length + 1) (UInt8.ofNat WL.length), (putD0 r B R).2) by
    unfold putRR
    rw [setB_two _ _ (by omega), show (putD0 r B R).1.length - ((putH8 r B R).length + 2) = WL.length by omega, digs_two])
  have HIK := Lib.hid (i64_top hi.k)
  have HIC := Lib.hid (i64_top hi.c)
  have HIT := Lib.hid (i64_top hi.t)
  have HIN := Lib.hid (fun n hn => i64_top (hi.nm n hn))
  have HS := Lib.hid hs
  have hlc := hx.l
  have HFIN := Lib.hid (fun B' R' W (hp : RPenned base (w.alloc (.cells #[.slice x.A r.name.length x.c, .int .i64 r.kind, .int .i64 r.cls, .int .i64 r.ttl, .slice x.d.Ab r.data.bytes.length x.d.cb, .slice x.d.Ah r.data.host.length x.d.ch, .slice x.d.Am r.data.mail.length x.d.cm, .slice x.d.An r.data.nums.length x.d.cn, .slice x.d.At r.data.texts.length x.d.ct] 48)) Fp g B' R' W) => hp.from)
  have HRC := Lib.hid (fun B' R' W (hp : RPenned base (w.alloc (.cells #[.slice x.A r.name.length x.c, .int .i64 r.kind, .int .i64 r.cls, .int .i64 r.ttl, .slice x.d.Ab r.data.bytes.length x.d.cb, .slice x.d.Ah r.data.host.length x.d.ch, .slice x.d.Am r.data.mail.length x.d.cm, .slice x.d.An r.data.nums.length x.d.cn, .slice x.d.At r.data.texts.length x.d.ct] 48)) Fp g B' R' W) => rec_stays hx h.low h.size hp)
  have HP := Lib.hid (show RPenned base (w.alloc (.cells #[.slice x.A r.name.length x.c, .int .i64 r.kind, .int .i64 r.cls, .int .i64 r.ttl, .slice x.d.Ab r.data.bytes.length x.d.cb, .slice x.d.Ah r.data.host.length x.d.ch, .slice x.d.Am r.data.mail.length x.d.cm, .slice x.d.An r.data.nums.length x.d.cn, .slice x.d.At r.data.texts.length x.d.ct] 48)) Fp g B R (w.alloc (.cells #[.slice x.A r.name.length x.c, .int .i64 r.kind, .int .i64 r.cls, .int .i64 r.ttl, .slice x.d.Ab r.data.bytes.length x.d.cb, .slice x.d.Ah r.data.host.length x.d.ch, .slice x.d.Am r.data.mail.length x.d.cm, .slice x.d.An r.data.nums.length x.d.cn, .slice x.d.At r.data.texts.length x.d.ct] 48)) from ⟨Fp, vB, vR, h.below ((Below.refl _ _).alloc (Nat.le_refl _) _), Grew.refl _ _, fun _ hj => .inl hj⟩)
  clear hp h hx hs hi hR16 hD0
  go_enter Try.func58, Try.ntmps58
  go_wp2_with fail
  refine (rnameP HP.out x.A x.c r.name true (HRC.out _ _ _ HP.out).2.n hlc HS.out.n (by omega) (by omega) HR.out).mono ?_
  rintro e w1 ⟨rfl, hpn⟩
  generalize w.alloc (.cells #[.slice x.A r.name.length x.c, .int .i64 r.kind, .int .i64 r.cls, .int .i64 r.ttl, .slice x.d.Ab r.data.bytes.length x.d.cb, .slice x.d.Ah r.data.host.length x.d.ch, .slice x.d.Am r.data.mail.length x.d.cm, .slice x.d.An r.data.nums.length x.d.cn, .slice x.d.At r.data.texts.length x.d.ct] 48) = w0 at *
  have HP := Lib.hid hpn
  clear hpn
  have p1 : w1.cell? ⟨w.heap.size, 1, none⟩ = some (.int .i64 r.kind) := (HRC.out _ _ _ HP.out).1.cell 1
  go_wp2_with fail
  refine (rnumP HP.out r.kind 2 (by omega) HIK.out).mono ?_
  rintro e w2 ⟨rfl, hpn⟩
  have HP := Lib.hid hpn
  clear hpn p1
  have p2 : w2.cell? ⟨w.heap.size, 2, none⟩ = some (.int .i64 r.cls) := (HRC.out _ _ _ HP.out).1.cell 2
  go_wp2_with fail
  refine (rnumP HP.out r.cls 2 (by rw [List.length_append]; omega) HIC.out).mono ?_
  rintro e w3 ⟨rfl, hpn⟩
  have HP := Lib.hid hpn
  clear hpn p2
  have p3 : w3.cell? ⟨w.heap.size, 3, none⟩ = some (.int .i64 r.ttl) := (HRC.out _ _ _ HP.out).1.cell 3
  go_wp2_with fail
  refine (rnumP HP.out r.ttl 4 (by rw [List.length_append, List.length_append]; omega) HIT.out).mono ?_
  rintro e w4 ⟨rfl, hpn⟩
  have HP := Lib.hid hpn
  clear hpn p3
  rw [show (((nameW true r.name B R).1 ++ putL [] r.kind 2) ++ putL [] r.cls 2) ++ putL [] r.ttl 4 = putH8 r B R from rfl] at HP
  obtain ⟨Gp, vB1, vR1, h1, hg, hf⟩ := HP.out
  obtain ⟨b1, c1, rfl, hc1, hc2⟩ := h1.form (by omega)
  have q0 := h1.c0
  obtain ⟨H, hHH⟩ : ∃ H, H = (putH8 r B R).length := ⟨_, rfl⟩
  rw [← hHH] at q0 HD hD0L hHL
  have hHb : H ≤ B.length + 300 := by omega
  have HH := Lib.hid hHH
  have HL0 := Lib.hid hl0
  clear h1 hg hf hc1 hc2 hHL hl0 hl1 hl2 hl3 hHH hnl
  go_wp2_with fail
  clear q0
  refine (rnumP HP.out 0 2 (by rw [← HH.out]; omega) (by omega)).mono ?_
  rintro e w5 ⟨rfl, hpn⟩
  have HP := Lib.hid hpn
  clear hpn
  have p1 : w5.cell? ⟨w.heap.size, 1, none⟩ = some (.int .i64 r.kind) := (HRC.out _ _ _ HP.out).1.cell 1
  have p4 : w5.cell? ⟨w.heap.size, 4, none⟩ = some (.slice x.d.Ab r.data.bytes.length x.d.cb) := (HRC.out _ _ _ HP.out).1.cell 4
  have p5 : w5.cell? ⟨w.heap.size, 5, none⟩ = some (.slice x.d.Ah r.data.host.length x.d.ch) := (HRC.out _ _ _ HP.out).1.cell 5
  have p6 : w5.cell? ⟨w.heap.size, 6, none⟩ = some (.slice x.d.Am r.data.mail.length x.d.cm) := (HRC.out _ _ _ HP.out).1.cell 6
  have p7 : w5.cell? ⟨w.heap.size, 7, none⟩ = some (.slice x.d.An r.data.nums.length x.d.cn) := (HRC.out _ _ _ HP.out).1.cell 7
  have p8 : w5.cell? ⟨w.heap.size, 8, none⟩ = some (.slice x.d.At r.data.texts.length x.d.ct) := (HRC.out _ _ _ HP.out).1.cell 8
  go_wp2_with fail
  obtain ⟨Gp, vB2, vR2, h1, hg, hf⟩ := HP.out
  refine (rput_any base w5 Gp g vB2 vR2 _ _ r.kind x.d r.data h1 (HRC.out _ _ _ HP.out).2.d HS.out.d HIN.out (by rw [List.length_append, HL0.out, ← HH.out]; omega) (by omega) HR2.out).mono ?_
  rintro e w6 ⟨rfl, hpn⟩
  have HP := Lib.hid (show RPenned base w0 Fp g (putD0 r B R).1 (putD0 r B R).2 w6 from RPenned.then hg hf hpn)
  clear hpn h1 hg hf p1 p4 p5 p6 p7 p8 HRC HR HR2
  obtain ⟨Gp, vB3, vR3, h1, hg, hf⟩ := HP.out
  obtain ⟨b, c, rfl, hc3, hc4⟩ := h1.form (by omega)
  have q0 := h1.c0
  obtain ⟨D, hDD⟩ : ∃ D, D = (putD0 r B R).1 := ⟨_, rfl⟩
  rw [← hDD] at h1 HP q0 hD0L hc3 HD
  have HDD := Lib.hid hDD
  have hbg : b ≠ g := fun e => own_not_whole h1.row h1.blk (by decide) (by rw [← e]; rfl)
  have f0 : w6.frozen? ⟨b, H, none⟩ = false := own_frozen h1.row _
  have k0 : w6.cell? ⟨b, H, none⟩ = some (((D.map bc))[H]'(by rw [List.length_map]; omega)) := own_cell h1.row _
  have f1 : w6.frozen? ⟨b, H + 1, none⟩ = false := own_frozen h1.row _
  have k1 : w6.cell? ⟨b, H + 1, none⟩ = some (((D.map bc))[H + 1]'(by rw [List.length_map]; omega)) := own_cell h1.row _
  have h2 := h1.store (k := H) (by omega) (UInt8.ofNat (WL.length / 256))
  have hx1 : b ≠ g ∧ g ≠ b := ⟨hbg, Ne.symm hbg⟩
  have h3 := RWr.store (B := D.set H (UInt8.ofNat (WL.length / 256))) (c := c) (b := b) (by rw [List.length_set]; exact h2) (k := H + 1) (by rw [List.length_set]; omega) (UInt8.ofNat WL.length)
  have hg3 := (hg.setCell (a := ⟨b, H, none⟩) (hf b (h1.frow b rfl)) (bc (UInt8.ofNat (WL.length / 256)))).setCell (a := ⟨b, H + 1, none⟩) (hf b (h1.frow b rfl)) (bc (UInt8.ofNat WL.length))
  have hz : RPenned base w0 Fp g ((D.set H (UInt8.ofNat (WL.length / 256))).set (H + 1) (UInt8.ofNat WL.length)) (putD0 r B R).2 ((w6.setCell ⟨b, H, none⟩ (bc (UInt8.ofNat (WL.length / 256)))).setCell ⟨b, H + 1, none⟩ (bc (UInt8.ofNat WL.length))) := ⟨Gp, _, _, h3, hg3, hf⟩
  have hz2 := HFIN.out _ _ _ hz
  rw [bc_dig, bc_dig, show (((WL.length / 256 : Nat) : Int) % 256) = (WL.length : Int) / 256 by omega] at hz2
  have hz3 := HD.out
  have HZ := Lib.hid hz2
  clear h1 h2 h3 hg hf hz hz2 hz3 hg3 hDD HFIN
  go_wp2
  go_ret
  rw [HD.out, show (H : Int) + 2 + (WL.length : Int) - (H : Int) - 2 = (WL.length : Int) by omega]
  exact ⟨rfl, HZ.out⟩

set_option maxHeartbeats 400000 in
theorem rrput_nil (w : World) : Calls Try.prog 30 #[.pointer none, .agg #[.slice none 0 0, .int .i64 99, .int .i64 0, .int .i64 0, .slice none 0 0, .slice none 0 0, .slice none 0 0, .slice none 0 0, .slice none 0 0]] w (Gave w (.int .i64 2)) := by
  go_enter Try.func30, Try.ntmps30
  go_wp2
  go_ret
  exact ⟨rfl, (Below.refl _ _).alloc (Nat.le_refl _) _⟩
set_option maxHeartbeats 400000 in
theorem rrput_bad (w : World) (g : Nat) (x : RV) (r : Rt) (hx : RAt w w.heap.size x r) (hs : soundR r = false) (hi : RIn r) (hl : LightR r) :
    Calls Try.prog 30 #[.pointer (some ⟨g, 0, none⟩), x.val r] w (Gave w (.int .i64 2)) := by
  have HB0 := Lib.hid ((Below.refl w.heap.size w).alloc (Nat.le_refl _) (.cells #[.slice x.A r.name.length x.c, .int .i64 r.kind, .int .i64 r.cls, .int .i64 r.ttl, .slice x.d.Ab r.data.bytes.length x.d.cb, .slice x.d.Ah r.data.host.length x.d.ch, .slice x.d.Am r.data.mail.length x.d.cm, .slice x.d.An r.data.nums.length x.d.cn, .slice x.d.At r.data.texts.length x.d.ct] 48))
  have HSD := Lib.hid (rsound_any x r (w.alloc (.cells #[.slice x.A r.name.length x.c, .int .i64 r.kind, .int .i64 r.cls, .int .i64 r.ttl, .slice x.d.Ab r.data.bytes.length x.d.cb, .slice x.d.Ah r.data.host.length x.d.ch, .slice x.d.Am r.data.mail.length x.d.cm, .slice x.d.An r.data.nums.length x.d.cn, .slice x.d.At r.data.texts.length x.d.ct] 48)) ((hx.below HB0.out).mono HB0.out.size) hi hl)
  rw [hs] at HSD
  clear hs hi hl hx
  go_enter Try.func30, Try.ntmps30
  go_wp2_with fail
  refine HSD.out.mono ?_
  rintro e w1 ⟨rfl, hb⟩
  have HB := Lib.hid (HB0.out.trans (hb.mono (by simp)))
  clear hb
  go_wp2
  go_ret
  exact ⟨rfl, HB.out⟩

end Go.Proofs.Ytjkjhpaeckkpjaa

namespace Go.Proofs.Ytjkjhpaeckkpjaa
open Go.RowKit

/-- Rests that may be led to, of few labels. -/
def Kept (R : Rs) : Prop := ∀ q ∈ R, q.2 < 16384 ∧ q.1.length ≤ 1000
theorem Kept.nil : Kept [] := fun _ h => absurd h (List.not_mem_nil)
theorem Kept.putD {s : Sh} {d : Dt} (B : List UInt8) {R : Rs} (h : Kept R) (lh : d.host.length ≤ 1000) (lm : d.mail.length ≤ 1000) : Kept (putD s d B R).2 := by
  have hH : Kept (putH s d B R).2 := by
    unfold putH
    cases hh : s.host
    · simp only [Bool.false_eq_true, if_false]
      exact h
    · simp only [if_true]
      exact nameW_kept _ _ _ _ h lh
  unfold Go.Proofs.Ytjkjhpaeckkpjaa.putD
  dsimp only
  unfold putM
  cases hh : s.mail
  · simp only [Bool.false_eq_true, if_false]
    exact hH
  · simp only [if_true]
    exact nameW_kept _ _ _ _ hH lm
theorem Kept.putRR {r : Rt} (B : List UInt8) {R : Rs} (h : Kept R) (l : LightR r) : Kept (putRR r B R).2 := by
  have l0 := l.l0
  have l1 := l.l1
  have l2 := l.l2
  exact Kept.putD _ (nameW_kept true r.name B R h (by omega)) (by omega) (by omega)
theorem Kept.putQs : ∀ {qs : List Qt} {s : List UInt8 × Rs}, Kept s.2 → (∀ q ∈ qs, q.name.length ≤ 200) → Kept (putQs qs s).2
  | [], _, h, _ => h
  | q :: qs, s, h, hl => Kept.putQs (qs := qs) (s := putQ q s.1 s.2) (nameW_kept true q.name s.1 s.2 h (by have := hl q (List.mem_cons_self); omega)) fun x hx => hl x (List.mem_cons_of_mem _ hx)
theorem Kept.putRs : ∀ {rs : List Rt} {s : List UInt8 × Rs}, Kept s.2 → (∀ r ∈ rs, LightR r) → Kept (putRs rs s).2
  | [], _, h, _ => h
  | r :: rs, s, h, hl => Kept.putRs (rs := rs) (s := Go.Proofs.Ytjkjhpaeckkpjaa.putRR r s.1 s.2) (Kept.putRR s.1 h (hl r (List.mem_cons_self))) fun x hx => hl x (List.mem_cons_of_mem _ hx)

/-- The record that Edns and Size are, as bytes. -/
theorem opt_bytes {n : Int} (h : fitB n 2 = true) (B : List UInt8) (R : Rs) : putRR (optR n) B R = (((B ++ [0, 0, 41]) ++ putL [] n 2) ++ [0, 0, 0, 0, 0, 0], R) := by
  obtain ⟨WL, hWL, _, _, hD0⟩ := putRR_eq (B := B) (R := R) (opt_sound h)
  have e1 : putL [] 41 2 = [0, 41] := by decide +kernel
  have e2 : putL [] 0 4 = [0, 0, 0, 0] := by decide +kernel
  have e3 : putL [] 0 2 = [0, 0] := by decide +kernel
  have h8 : putH8 (optR n) B R = (((B ++ [0]) ++ [0, 41]) ++ putL [] n 2) ++ [0, 0, 0, 0] := by
    unfold putH8
    show (((nameW true [] B R).1 ++ putL [] 41 2) ++ putL [] n 2) ++ putL [] 0 4 = _
    rw [nameW_nil, e1, e2]
  have hd : putD0 (optR n) B R = (putH8 (optR n) B R ++ [0, 0], R) := by
    unfold putD0
    show putD (shN 41) ⟨[], [], [], [], []⟩ (putH8 (optR n) B R ++ putL [] 0 2) (nameW true [] B R).2 = _
    rw [nameW_nil, e3]
    unfold putD putM putH
    simp [show (shN 41).host = false by decide +kernel, show (shN 41).mail = false by decide +kernel, numsW, textsW]
  unfold putRR
  rw [hd]
  dsimp only
  rw [show (putH8 (optR n) B R ++ ([0, 0] : List UInt8)).length - ((putH8 (optR n) B R).length + 2) = 0 by simp, show digs 0 2 = [0, 0] by decide +kernel]
  have hs : ∀ P : List UInt8, setB (P ++ [0, 0]) P.length [0, 0] = P ++ [0, 0] := fun P => by
    unfold setB
    simp
  rw [hs, h8]
  simp

/-- All that is written of a sound message is fine. -/
theorem fine_q {m : Mt} (hs : SoundM m) (k : Nat) (hk : k ≤ m.qs.length) : Fine (putQs (m.qs.take k) (m.head, [])) ∧ (putQs (m.qs.take k) (m.head, [])).1.length ≤ 12 + 70000 * k ∧ (putQs (m.qs.take k) (m.head, [])).2.length ≤ 900 * k := by
  have h := putQs_good (m.qs.take k) (m.head, []) (GoodR.nil _) fun q h => hs.q q (List.mem_of_mem_take h)
  rw [List.length_take, Nat.min_eq_left hk] at h
  have h1 := h.l
  have h2 := h.r
  have h3 := length_head hs
  have h4 := hs.n
  have e1 : ((m.head, []) : List UInt8 × Rs).1.length = m.head.length := rfl
  have e2 : ((m.head, []) : List UInt8 × Rs).2.length = 0 := rfl
  rw [e1, h3] at h1
  rw [e2] at h2
  exact ⟨⟨by omega, by omega, h.g⟩, h1, by omega⟩
theorem fine_r {m : Mt} (hs : SoundM m) (k : Nat) (hk : k ≤ m.all.length) : Fine (putRs (m.all.take k) (putQs m.qs (m.head, []))) := by
  obtain ⟨h0, h1, h2⟩ := fine_q hs m.qs.length (Nat.le_refl _)
  rw [List.take_length] at h0 h1 h2
  have h := putRs_good (m.all.take k) (putQs m.qs (m.head, [])) h0.g fun r h => (soundX_iff.1 (hs.r r (List.mem_of_mem_take h))).2
  rw [List.length_take, Nat.min_eq_left hk] at h
  have h3 := h.l
  have h4 := h.r
  have h5 := hs.n
  have h6 : m.all.length = m.an.length + (m.au.length + m.ex.length) := by unfold Mt.all; rw [List.length_append, List.length_append]
  exact ⟨by omega, by omega, h.g⟩
theorem enc_all {m : Mt} : encM m = (putRs (if m.h.edns = true then [optR m.h.size] else []) (putRs m.all (putQs m.qs (m.head, [])))).1 := by
  rw [← putRs_append]
  unfold encM Mt.all Mt.exX
  simp only [List.append_assoc]

theorem flag_any (b : Bool) (n : Nat) (w : World) (_ : n ≤ 65536) : Calls Try.prog 56 #[.bool b, .int .i64 n] w (fun e w' => e = .returned (.int .i64 (bit b n : Nat)) ∧ w' = w) := by
  cases b <;>
  · go_enter Try.func56, Try.ntmps56
    go_wp2
    go_ret
    exact ⟨rfl, rfl⟩
theorem RPenned.low {base : Nat} {w w' : World} {Fp : Nat → Prop} {g : Nat} {B : List UInt8} {R : Rs} (h : RPenned base w Fp g B R w') (hF : ∀ j, Fp j → base ≤ j) (hb : base ≤ w.heap.size) : Below base w w' := by
  obtain ⟨_, _, _, _, hg, _⟩ := h
  exact hg.below hF hb
theorem RWr.new (w : World) : RWr (w.alloc (.cells #[.slice none 0 0, .slice none 0 0] 94)) w.heap.size (fun j => j = w.heap.size) w.heap.size (.slice none 0 0) (.slice none 0 0) [] [] := by
  refine ⟨heap_alloc_new w _, rfl, World.ownsRow_nil _ _ _ _, fun j hj => by simp [Value.ownBlock] at hj, ⟨[], rfl, World.ownsRow_nil _ _ _ _, fun j hj => by simp [Value.ownBlock] at hj, fun i hi => absurd hi (Nat.not_lt_zero _)⟩, fun j hj => ?_⟩
  subst hj
  exact ⟨Nat.le_refl _, by simp⟩

/-- What Raw answers. -/
def RawOut (w : World) (b : List UInt8) (e : Ending) (w' : World) : Prop :=
  ∃ A c, e = .returned (.slice A b.length c) ∧ w'.ownsRow w.heap.size 5 1 (.slice A b.length c) b.length (b.map bc) ∧ Below w.heap.size w w'
def QRawRel (base : Nat) (W : World) (Fp : Nat → Prop) (g : Nat) (qs : List Qt) (S : List UInt8 × Rs) (i : Value) (wr : World) : Prop :=
  ∃ k : Nat, k ≤ qs.length ∧ i = .int .i64 k ∧ RPenned base W Fp g (putQs (qs.take k) S).1 (putQs (qs.take k) S).2 wr
def RRawRel (base : Nat) (W : World) (Fp : Nat → Prop) (g : Nat) (rs : List Rt) (S : List UInt8 × Rs) (i : Value) (wr : World) : Prop :=
  ∃ k : Nat, k ≤ rs.length ∧ i = .int .i64 k ∧ RPenned base W Fp g (putRs (rs.take k) S).1 (putRs (rs.take k) S).2 wr
def AllRawRel (wq : World) (ps : List (RV × Rt)) (v : Value) (wx : World) : Prop :=
  ∃ (A : Option Addr) (c : Nat), v = .slice A ps.length c ∧ wx.ownsRow wq.heap.size 48 9 v ps.length (ps.flatMap cellsR) ∧ Below wq.heap.size wq wx

end Go.Proofs.Ytjkjhpaeckkpjaa

namespace Go.Proofs.Ytjkjhpaeckkpjaa
open Go.RowKit

/-- What is written of a question or a record hangs on the place alone. -/
theorem putQ_shift (q : Qt) (B C : List UInt8) (R : Rs) (h : B.length = C.length) : ∃ W R', putQ q B R = (B ++ W, R') ∧ putQ q C R = (C ++ W, R') := by
  obtain ⟨W, R', h1, h2⟩ := nameW_shift true q.name B C R h
  refine ⟨(W ++ putL [] q.kind 2) ++ putL [] q.cls 2, R', ?_, ?_⟩
  · unfold putQ
    rw [h1]
    simp
  · unfold putQ
    rw [h2]
    simp
theorem putQs_shift : ∀ (qs : List Qt) (B C : List UInt8) (R : Rs), B.length = C.length → ∃ W R', putQs qs (B, R) = (B ++ W, R') ∧ putQs qs (C, R) = (C ++ W, R')
  | [], B, C, R, _ => ⟨[], R, by simp [putQs], by simp [putQs]⟩
  | q :: qs, B, C, R, h => by
    obtain ⟨W, R', h1, h2⟩ := putQ_shift q B C R h
    obtain ⟨W2, R2, h3, h4⟩ := putQs_shift qs (B ++ W) (C ++ W) R' (by simp [h])
    refine ⟨W ++ W2, R2, ?_, ?_⟩
    · show putQs qs (putQ q B R) = _
      rw [h1, h3, List.append_assoc]
    · show putQs qs (putQ q C R) = _
      rw [h2, h4, List.append_assoc]
theorem putRR_shift {r : Rt} (hs : SoundR r) (B C : List UInt8) (R : Rs) (h : B.length = C.length) : ∃ W R', putRR r B R = (B ++ W, R') ∧ putRR r C R = (C ++ W, R') := by
  obtain ⟨X, R1, x1, x2⟩ := nameW_shift true r.name B C R h
  obtain ⟨W, _, w1, w2, _⟩ := putRR_eq (B := B) (R := R) hs
  obtain ⟨V, _, v1, v2, _⟩ := putRR_eq (B := C) (R := R) hs
  have hB : putH8 r B R = B ++ (((X ++ putL [] r.kind 2) ++ putL [] r.cls 2) ++ putL [] r.ttl 4) := by
    unfold putH8
    rw [x1]
    simp
  have hC : putH8 r C R = C ++ (((X ++ putL [] r.kind 2) ++ putL [] r.cls 2) ++ putL [] r.ttl 4) := by
    unfold putH8
    rw [x2]
    simp
  rw [x1] at w1
  rw [x2] at v1
  obtain ⟨Y, R2, y1, y2⟩ := putD_shift (shN r.kind) r.data (putH8 r B R ++ digs W.length 2) (putH8 r C R ++ digs V.length 2) R1 (by rw [hB, hC]; simp [length_digs, h])
  rw [y1] at w1
  rw [y2] at v1
  rw [w1] at w2
  rw [v1] at v2
  have e1 : Y = W := List.append_cancel_left w2
  have e2 : Y = V := List.append_cancel_left v2
  subst e1; subst e2
  refine ⟨(((X ++ putL [] r.kind 2) ++ putL [] r.cls 2) ++ putL [] r.ttl 4) ++ (digs Y.length 2 ++ Y), R2, ?_, ?_⟩
  · rw [w1, hB]
    simp
  · rw [v1, hC]
    simp
theorem putRs_shift : ∀ (rs : List Rt) (B C : List UInt8) (R : Rs), (∀ r ∈ rs, SoundR r) → B.length = C.length → ∃ W R', putRs rs (B, R) = (B ++ W, R') ∧ putRs rs (C, R) = (C ++ W, R')
  | [], B, C, R, _, _ => ⟨[], R, by simp [putRs], by simp [putRs]⟩
  | r :: rs, B, C, R, hs, h => by
    obtain ⟨W, R', h1, h2⟩ := putRR_shift (hs r (List.mem_cons_self ..)) B C R h
    obtain ⟨W2, R2, h3, h4⟩ := putRs_shift rs (B ++ W) (C ++ W) R' (fun x hx => hs x (List.mem_cons_of_mem _ hx)) (by simp [h])
    refine ⟨W ++ W2, R2, ?_, ?_⟩
    · show putRs rs (putRR r B R) = _
      rw [h1, h3, List.append_assoc]
    · show putRs rs (putRR r C R) = _
      rw [h2, h4, List.append_assoc]

/-- The message with the first n of its records alone. -/
def Mt.first (m : Mt) (n : Nat) : Mt := ⟨{ m.h with tc := m.h.tc || decide (n < m.an.length + m.au.length) }, m.qs, m.an.take n, m.au.take (n - m.an.length), m.ex.take (n - m.an.length - m.au.length)⟩
theorem first_msg (m : MV) (n : Nat) : (m.first n).msg = m.msg.first n := by
  have e : ∀ (ps : List (RV × Rt)) k, recs (ps.take k) = (recs ps).take k := fun ps k => by unfold recs; rw [List.map_take]
  show Mt.mk _ _ (recs (m.s0.ps.take n)) (recs (m.s1.ps.take (n - m.s0.ps.length))) (recs (m.s2.ps.take (n - m.s0.ps.length - m.s1.ps.length))) = _
  rw [e, e, e]
  unfold Mt.first MV.msg
  dsimp only
  rw [length_recs, length_recs]
  rfl
theorem first_all (m : Mt) (n : Nat) : (m.first n).all = m.all.take n := by
  unfold Mt.all Mt.first
  dsimp only
  rw [List.take_append, List.take_append]
theorem Mt.all_length (m : Mt) : m.all.length = m.an.length + (m.au.length + m.ex.length) := by
  unfold Mt.all
  rw [List.length_append, List.length_append]
theorem first_whole {m : Mt} {n : Nat} (h : m.all.length ≤ n) : m.first n = m := by
  rw [Mt.all_length] at h
  unfold Mt.first
  rw [List.take_of_length_le (by omega), List.take_of_length_le (by omega), List.take_of_length_le (by omega), decide_eq_false (by omega), Bool.or_false]
theorem first_sound {m : Mt} (hs : SoundM m) (n : Nat) : SoundM (m.first n) := by
  refine ⟨hs.h, ?_, hs.q, fun r hr => ?_⟩
  · have h1 := hs.n
    show m.qs.length + (m.an.take n).length + (m.au.take (n - m.an.length)).length + (m.ex.take (n - m.an.length - m.au.length)).length ≤ 512
    rw [List.length_take, List.length_take, List.length_take]
    omega
  · rw [first_all] at hr
    exact hs.r r (List.mem_of_mem_take hr)

/-- How long the first n records are, with all that stands ahead of them. -/
def lenF (m : Mt) (n : Nat) : Nat := (putRs (m.all.take n) (putQs m.qs (m.head, []))).1.length + (if m.h.edns = true then 11 else 0)
theorem first_len {m : Mt} (hs : SoundM m) (n : Nat) : (encM (m.first n)).length = lenF m n := by
  have h1 := length_head hs
  have h2 := length_head (first_sound hs n)
  obtain ⟨W, R1, w1, w2⟩ := putQs_shift m.qs m.head (m.first n).head [] (by rw [h1, h2])
  obtain ⟨V, R2, v1, v2⟩ := putRs_shift (m.all.take n) (m.head ++ W) ((m.first n).head ++ W) R1 (fun r hr => (soundX_iff.1 (hs.r r (List.mem_of_mem_take hr))).2) (by rw [List.length_append, List.length_append, h1, h2])
  have hz : fitB m.h.size 2 = true := by
    have hh := hs.h
    unfold soundH at hh
    simp only [Bool.and_eq_true] at hh
    exact hh.2.2.2.1
  have l2 : (putL [] m.h.size 2).length = 2 := by rw [(fit2 hz).2.2.1]; simp [length_digs]
  rw [enc_all, first_all]
  unfold lenF
  show (putRs (if m.h.edns = true then [optR m.h.size] else []) (putRs (m.all.take n) (putQs m.qs ((m.first n).head, [])))).1.length = _
  rw [w1, w2, v1, v2]
  cases m.h.edns with
  | false =>
    simp only [Bool.false_eq_true, if_false]
    show ((m.first n).head ++ W ++ V).length = (m.head ++ W ++ V).length + 0
    simp only [List.length_append, h1, h2]
    omega
  | true =>
    simp only [if_true]
    show (putRR (optR m.h.size) ((m.first n).head ++ W ++ V) R2).1.length = (m.head ++ W ++ V).length + 11
    rw [opt_bytes hz]
    simp only [List.length_append, h1, h2, l2, List.length_cons, List.length_nil]
theorem lenF_mono {m : Mt} (hs : SoundM m) {a b : Nat} (h : a ≤ b) : lenF m a ≤ lenF m b := by
  have hq := (putQs_good m.qs (m.head, []) (GoodR.nil _) hs.q).g
  have hr : ∀ r ∈ m.all, SoundR r := fun r h => (soundX_iff.1 (hs.r r h)).2
  have h1 := (putRs_good (m.all.take a) _ hq fun r h => hr r (List.mem_of_mem_take h)).g
  have e : m.all.take b = m.all.take a ++ (m.all.take b).drop a := by
    have := List.take_append_drop a (m.all.take b)
    rw [List.take_take, Nat.min_eq_left h] at this
    exact this.symm
  obtain ⟨S, hS⟩ := (putRs_good ((m.all.take b).drop a) _ h1 fun r h => hr r (List.mem_of_mem_take (List.mem_of_mem_drop h))).x
  unfold lenF
  rw [e, putRs_append, hS, List.length_append]
  omega
/-- Do the first n of the records fit? -/
theorem fits_first {m : Mt} (hs : SoundM m) {s : Int} (hs2 : s ≤ 65535) (n : Nat) : fitE (encE (m.first n)) s = if (lenF m n : Int) ≤ s then some (encM (m.first n)) else none := by
  have h1 := first_len hs n
  unfold encE
  rw [if_pos (soundM_iff.2 (first_sound hs n)), h1]
  by_cases h : (lenF m n : Int) ≤ s
  · rw [if_neg (by omega)]
    show (if ((encM (m.first n)).length : Int) ≤ s then _ else _) = _
    rw [h1, if_pos h]
  · rw [if_neg h]
    split
    · rfl
    · show (if ((encM (m.first n)).length : Int) ≤ s then _ else _) = _
      rw [h1, if_neg h]
theorem tooBig_iff {m : MV} (hs : SoundM m.msg) {s : Int} (hs2 : s ≤ 65535) (i : Nat) : tooBig m s i = !decide ((lenF m.msg (i + 1) : Int) ≤ s) := by
  unfold tooBig
  rw [first_msg, fits_first hs hs2]
  split <;> rename_i h
  · rw [decide_eq_true h]; rfl
  · rw [decide_eq_false h]; rfl
theorem tooBig_mono {m : MV} (hs : SoundM m.msg) {s : Int} (hs2 : s ≤ 65535) (a b : Nat) (h : a ≤ b) (ha : tooBig m s a = true) : tooBig m s b = true := by
  rw [tooBig_iff hs hs2] at ha ⊢
  simp only [Bool.not_eq_true', decide_eq_false_iff_not] at ha ⊢
  have := lenF_mono hs (show a + 1 ≤ b + 1 by omega)
  omega

/-- Alike is an equivalence. -/
theorem alikeB_iff {a b : Rt} : alikeB a b = true ↔ a.kind = b.kind ∧ lowN a.name = lowN b.name := by
  unfold alikeB eqN
  rw [Bool.and_eq_true, decide_eq_true_eq, decide_eq_true_eq]
theorem wholeN_stop (rs : List Rt) : ∀ n, wholeN rs (wholeN rs n) = wholeN rs n
  | 0 => rfl
  | n + 1 => by
    by_cases h1 : n + 1 < rs.length
    · by_cases h2 : alikeB (rs[n]'(by omega)) rs[n + 1] = true
      · have e : wholeN rs (n + 1) = wholeN rs n := by rw [wholeN, dif_pos h1, if_pos h2]
        rw [e]
        exact wholeN_stop rs n
      · have e : wholeN rs (n + 1) = n + 1 := by rw [wholeN, dif_pos h1, if_neg h2]
        rw [e, e]
    · have e : wholeN rs (n + 1) = n + 1 := by rw [wholeN, dif_neg h1]
      rw [e, e]
/-- It is the last end of a set that is not behind n. -/
theorem wholeN_last (rs : List Rt) : ∀ n k, k ≤ n → wholeN rs k = k → k ≤ wholeN rs n
  | 0, k, hk, _ => by rw [Nat.le_zero.1 hk]; exact Nat.zero_le _
  | n + 1, k, hk, hst => by
    rcases Nat.lt_or_ge n k with h | h
    · obtain rfl : k = n + 1 := by omega
      rw [hst]
      exact Nat.le_refl _
    · have h0 := wholeN_last rs n k h hst
      by_cases h1 : n + 1 < rs.length
      · by_cases h2 : alikeB (rs[n]'(by omega)) rs[n + 1] = true
        · rw [wholeN, dif_pos h1, if_pos h2]
          exact h0
        · rw [wholeN, dif_pos h1, if_neg h2]
          omega
      · rw [wholeN, dif_neg h1]
        omega
theorem wholeN_big {rs : List Rt} {n : Nat} (h : rs.length ≤ n) : wholeN rs n = n := by
  cases n with
  | zero => rfl
  | succ n => rw [wholeN, dif_neg (by omega)]
/-- Between two alike records no set ends. -/
theorem wholeN_mid {rs : List Rt} {n : Nat} (h1 : n + 1 < rs.length) (h2 : alikeB (rs[n]'(by omega)) rs[n + 1] = true) : wholeN rs (n + 1) ≠ n + 1 := by
  rw [wholeN, dif_pos h1, if_pos h2]
  have := wholeN_le rs n
  omega
theorem wholeN_end {rs : List Rt} {n : Nat} (h1 : n + 1 < rs.length) (h2 : alikeB (rs[n]'(by omega)) rs[n + 1] = false) : wholeN rs (n + 1) = n + 1 := by
  rw [wholeN, dif_pos h1, if_neg (by rw [h2]; decide)]

/-- k is the last end of a set at which m fits into s bytes; 0, if it fits at none. -/
structure LastFit (m : Mt) (s : Int) (k : Nat) : Prop where
  le : k ≤ m.all.length
  stop : wholeN m.an k = k
  last : ∀ n, n ≤ m.all.length → wholeN m.an n = n → (lenF m n : Int) ≤ s → n ≤ k
  fits : k = 0 ∨ (lenF m k : Int) ≤ s
/-- What is left of a message that must fit into s bytes, of its first k records. -/
def cutR (m : Mt) (s : Int) (k : Nat) : Except Nat (List UInt8) := if (lenF m k : Int) ≤ s then .ok (encM (m.first k)) else .error 4
theorem LastFit.uniq {m : Mt} {s : Int} {k l : Nat} (h : LastFit m s k) (g : LastFit m s l) : k = l := by
  rcases h.fits with rfl | h1
  · rcases g.fits with rfl | g1
    · rfl
    · have := h.last l g.le g.stop g1
      omega
  · have a1 := g.last k h.le h.stop h1
    rcases g.fits with rfl | g1
    · omega
    · have a2 := h.last l g.le g.stop g1
      omega
theorem lastFit_whole {m : Mt} {s : Int} (h : (lenF m m.all.length : Int) ≤ s) : LastFit m s m.all.length :=
  ⟨Nat.le_refl _, wholeN_big (by rw [Mt.all_length]; omega), fun _ hn _ _ => hn, .inr h⟩
theorem lastFit_first {m : MV} (hs : SoundM m.msg) {s : Int} (hs2 : s ≤ 65535) {r : Nat} (hr : FirstYes (tooBig m s) (m.s0.ps.length + m.s1.ps.length + m.s2.ps.length) r) : LastFit m.msg s (wholeN m.msg.an r) := by
  have hl : m.msg.all.length = m.s0.ps.length + m.s1.ps.length + m.s2.ps.length := by rw [all_len]; omega
  have hw := wholeN_le m.msg.an r
  have hrl := hr.le
  refine ⟨by omega, wholeN_stop _ _, fun n hn hst hf => ?_, ?_⟩
  · refine wholeN_last _ _ _ ?_ hst
    rcases Nat.lt_or_ge r n with h | h
    · have h1 := hr.yes (by omega)
      rw [tooBig_iff hs hs2] at h1
      simp only [Bool.not_eq_true', decide_eq_false_iff_not] at h1
      have := lenF_mono hs (show r + 1 ≤ n by omega)
      omega
    · exact h
  · cases r with
    | zero => exact .inl (Nat.le_zero.1 hw)
    | succ r =>
      have h1 := hr.no r (Nat.lt_succ_self r)
      rw [tooBig_iff hs hs2] at h1
      simp only [Bool.not_eq_false', decide_eq_true_eq] at h1
      have := lenF_mono hs hw
      exact .inr (by omega)

/-- What Fit answers. -/
def FitIs (m : Mt) (s : Int) (res : Except Nat (List UInt8)) : Prop :=
  if s < 512 ∨ 65535 < s then res = .error 1 else if soundM m = false then res = .error 2 else ∃ k, LastFit m s k ∧ res = cutR m s k
theorem FitIs.uniq {m : Mt} {s : Int} {r t : Except Nat (List UInt8)} (h : FitIs m s r) (g : FitIs m s t) : r = t := by
  unfold FitIs at h g
  split at h
  · rw [if_pos (by assumption)] at g
    rw [h, g]
  · rw [if_neg (by assumption)] at g
    split at h
    · rw [if_pos (by assumption)] at g
      rw [h, g]
    · rw [if_neg (by assumption)] at g
      obtain ⟨k, hk, rfl⟩ := h
      obtain ⟨l, hl, rfl⟩ := g
      rw [hk.uniq hl]
theorem fitIs_of {m : Mt} (hs : SoundM m) {s : Int} (h1 : ¬ s < 512) (h2 : ¬ 65535 < s) {k : Nat} (hk : LastFit m s k) : FitIs m s (cutR m s k) := by
  unfold FitIs
  rw [if_neg (by omega), if_neg (by rw [soundM_iff.2 hs]; decide)]
  exact ⟨k, hk, rfl⟩
theorem fitIs_whole {m : Mt} (hs : SoundM m) {s : Int} (h1 : ¬ s < 512) (h2 : ¬ 65535 < s) {b : List UInt8} (hb : fitE (encE m) s = some b) : FitIs m s (.ok b) := by
  have e := fits_first hs (show s ≤ 65535 by omega) m.all.length
  rw [first_whole (Nat.le_refl _), hb] at e
  by_cases h : (lenF m m.all.length : Int) ≤ s
  · rw [if_pos h] at e
    injection e with e
    have h3 := fitIs_of hs h1 h2 (lastFit_whole h)
    unfold cutR at h3
    rw [if_pos h, first_whole (Nat.le_refl _)] at h3
    rw [e]
    exact h3
  · rw [if_neg h] at e
    cases e
def orLarge : Option (List UInt8) → Except Nat (List UInt8)
  | some b => .ok b
  | none => .error 4
theorem fitIs_first {m : MV} (hs : SoundM m.msg) {s : Int} (h1 : ¬ s < 512) (h2 : ¬ 65535 < s) {r : Nat} (hr : FirstYes (tooBig m s) (m.s0.ps.length + m.s1.ps.length + m.s2.ps.length) r) : FitIs m.msg s (orLarge (fitE (encE (m.first (wholeN m.msg.an r)).msg) s)) := by
  have h3 := fitIs_of hs h1 h2 (lastFit_first hs (by omega) hr)
  rw [first_msg, fits_first hs (by omega)]
  unfold cutR at h3
  split <;> rename_i h
  · rw [if_pos h] at h3
    exact h3
  · rw [if_neg h] at h3
    exact h3

end Go.Proofs.Ytjkjhpaeckkpjaa

namespace Go.Proofs.Ytjkjhpaeckkpjaa
open Go.RowKit

def CFitOut (w : World) (m : MV) (s : Int) (e : Ending) (w' : World) : Prop := ∃ res, FitIs m.msg s res ∧ EncOut w res e w'

set_option maxRecDepth 20000 in
set_option maxHeartbeats 8000000 in
theorem cfit_core (w : World) (s : Int) (m : MV) (h : Hd) (qA : Option Addr) (qc : Nat) (qp : List (QV × Qt)) (A0 A1 A2 : Option Addr) (k0 k1 k2 : Nat) (p0 p1 p2 : List (RV × Rt)) (he : m = ⟨h, qA, qc, qp, ⟨A0, k0, p0⟩, ⟨A1, k1, p1⟩, ⟨A2, k2, p2⟩⟩)
    (hm : MAt w w.heap.size m) (hi : MIn m) (ho : OwnedM w m) (hc : ∀ i, (m.sec i).ps.length ≤ (m.sec i).c) (hcm : m.s2.c ≤ maxLen) :
    Calls Try.prog 23 #[valM h (.slice qA qp.length qc) (.slice A0 p0.length k0) (.slice A1 p1.length k1) (.slice A2 p2.length k2), .int .i64 s] w (CFitOut w m s) := by
  obtain ⟨W, hW⟩ : ∃ W, W = w.alloc (.cells #[.int .i64 h.id, .bool h.resp, .int .i64 h.op, .bool h.aa, .bool h.tc, .bool h.rd, .bool h.ra, .int .i64 h.rc, .slice qA qp.length qc, .slice A0 p0.length k0, .slice A1 p1.length k1, .slice A2 p2.length k2, .bool h.edns, .int .i64 h.size] 25) := ⟨_, rfl⟩
  have hB : Below w.heap.size w W := by rw [hW]; exact (Below.refl _ _).alloc (Nat.le_refl _) _
  have hzW : W.heap.size = w.heap.size + 1 := by rw [hW]; simp
  have hwm : Whole W w.heap.size 25 (cellsM h (.slice qA qp.length qc) (.slice A0 p0.length k0) (.slice A1 p1.length k1) (.slice A2 p2.length k2)) := by rw [hW]; exact Whole.made w [.int .i64 h.id, .bool h.resp, .int .i64 h.op, .bool h.aa, .bool h.tc, .bool h.rd, .bool h.ra, .int .i64 h.rc, .slice qA qp.length qc, .slice A0 p0.length k0, .slice A1 p1.length k1, .slice A2 p2.length k2, .bool h.edns, .int .i64 h.size] _
  have ev : m.val = valM h (.slice qA qp.length qc) (.slice A0 p0.length k0) (.slice A1 p1.length k1) (.slice A2 p2.length k2) := by rw [he]
  have HC := Lib.hid (fun (W' : World) (hb : Below W.heap.size W W') => cells14 (hwm.below hb (by omega)))
  have HW := Lib.hid (fun (W' : World) (hb : Below W.heap.size W W') => hB.trans (hb.mono hB.size))
  have HSD := Lib.hid (fun (W' : World) (hb : Below W.heap.size W W') => (show Calls Try.prog 15 #[valM h (.slice qA qp.length qc) (.slice A0 p0.length k0) (.slice A1 p1.length k1) (.slice A2 p2.length k2)] W' (Gave W' (.bool (soundM m.msg))) from by
    have h1 := msound_any W' m ((hm.below (HW.out _ hb)).mono (HW.out _ hb).size) hi
    rwa [ev] at h1))
  have HEN := Lib.hid (fun (W' : World) (hb : Below W.heap.size W W') => (show Calls Try.prog 44 #[valM h (.slice qA qp.length qc) (.slice A0 p0.length k0) (.slice A1 p1.length k1) (.slice A2 p2.length k2), .int .i64 s] W' (CEncOut W' (fitE (encE m.msg) s)) from by
    have h1 := cencode_any W' m s ((hm.below (HW.out _ hb)).mono (HW.out _ hb).size) hi (ho.below (HW.out _ hb)) ⟨hc 2, hcm⟩
    rwa [ev] at h1))
  have HMO := Lib.hid (fun (hs : SoundM m.msg) (hs2 : s ≤ 65535) (W' : World) (hb : Below W.heap.size W W') => (show Calls Try.prog 46 #[valM h (.slice qA qp.length qc) (.slice A0 p0.length k0) (.slice A1 p1.length k1) (.slice A2 p2.length k2), .int .i64 s] W' (MostOut W' m s) from by
    have h1 := most_any W' s m ((hm.below (HW.out _ hb)).mono (HW.out _ hb).size) hi (ho.below (HW.out _ hb)) hc (fun a b hab _ => tooBig_mono hs hs2 a b hab)
    rwa [ev] at h1))
  have HWS := Lib.hid (fun (r : Nat) (hr : r ≤ 100000) (W' : World) (hb : Below W.heap.size W W') => (show Calls Try.prog 45 #[.slice A0 p0.length k0, .int .i64 r] W' (Gave W' (.int .i64 (wholeN (recs m.s0.ps) r : Nat))) from by
    have h0 := (hm.below (HW.out _ hb)).s0.mono (HW.out _ hb).size
    have h1 := wholeSets_any W' m.s0.A m.s0.c r m.s0.ps h0 (fun p hp => (hi.r 0 p hp).1.n) (by have := hi.rl 0; exact Nat.le_trans this (by omega)) hr
    rw [he] at h1 ⊢
    exact h1))
  have HFI := Lib.hid (fun (r : Nat) (hr : r ≤ 100000) (W' : World) (hb : Below W.heap.size W W') => (show Calls Try.prog 47 #[valM h (.slice qA qp.length qc) (.slice A0 p0.length k0) (.slice A1 p1.length k1) (.slice A2 p2.length k2), .int .i64 r] W' (Gave W' (m.first r).val) from by
    have h1 := first_any W' m r hr hi.rl hc
    rw [ev] at h1
    exact h1))
  have HE2 := Lib.hid (fun (r : Nat) (W' : World) (hb : Below W.heap.size W W') => (show Calls Try.prog 44 #[(m.first r).val, .int .i64 s] W' (CEncOut W' (fitE (encE (m.first r).msg) s)) from
    cencode_any W' (m.first r) s ((first_at (hm.below (HW.out _ hb)) r).mono (HW.out _ hb).size) (first_in hi _) ((first_owned ho _).below (HW.out _ hb)) (first_cap m _ (hi.rl 2))))
  have HN := Lib.hid (show m.s0.ps.length + m.s1.ps.length + m.s2.ps.length ≤ 3000 by have h0 := hi.rl 0; have h1 := hi.rl 1; have h2 := hi.rl 2; have e0 : (m.sec 0).ps.length = m.s0.ps.length := rfl; have e1 : (m.sec 1).ps.length = m.s1.ps.length := rfl; have e2 : (m.sec 2).ps.length = m.s2.ps.length := rfl; omega)
  have HRF := Lib.hid (Below.refl W.heap.size W)
  clear hB hzW hwm hm hi ho hc hcm ev he
  by_cases hs1 : s < 512
  · have d0 : decide (s < 512) = true := decide_eq_true hs1
    have HI := Lib.hid (show FitIs m.msg s (.error 1) from by unfold FitIs; rw [if_pos (.inl hs1)])
    have HBW := Lib.hid (HW.out W HRF.out)
    clear hs1
    subst hW
    go_enter Try.func23, Try.ntmps23
    go_wp2
    refine ⟨rfl, .tuple #[.slice none 0 0, .int .i64 1], by simp [results, Try.results23, go_sem], ?_⟩
    exact ⟨_, HI.out, HBW.out, rfl⟩
  by_cases hs2 : 65535 < s
  · have d0 : decide (s < 512) = false := decide_eq_false hs1
    have d1 : decide (65535 < s) = true := decide_eq_true hs2
    have HI := Lib.hid (show FitIs m.msg s (.error 1) from by unfold FitIs; rw [if_pos (.inr hs2)])
    have HBW := Lib.hid (HW.out W HRF.out)
    clear hs1 hs2
    subst hW
    go_enter Try.func23, Try.ntmps23
    go_wp2
    refine ⟨rfl, .tuple #[.slice none 0 0, .int .i64 1], by simp [results, Try.results23, go_sem], ?_⟩
    exact ⟨_, HI.out, HBW.out, rfl⟩
  have d0 : decide (s < 512) = false := decide_eq_false hs1
  have d1 : decide (65535 < s) = false := decide_eq_false hs2
  cases hsd : soundM m.msg with
  | false =>
    have HI := Lib.hid (show FitIs m.msg s (.error 2) from by unfold FitIs; rw [if_neg (by omega), if_pos hsd])
    rw [hsd] at HSD
    clear hs1 hs2 hsd HEN HMO HWS HFI HE2 HN HC
    subst hW
    go_enter Try.func23, Try.ntmps23
    go_wp2_with fail
    refine (HSD.out _ HRF.out).mono ?_
    rintro e w1 ⟨rfl, hb1⟩
    have HB1 := Lib.hid (HW.out _ hb1)
    clear hb1
    go_wp2
    refine ⟨rfl, .tuple #[.slice none 0 0, .int .i64 2], by simp [results, Try.results23, go_sem], ?_⟩
    exact ⟨_, HI.out, HB1.out, rfl⟩
  | true =>
  have hsm := soundM_iff.1 hsd
  have HFW := Lib.hid (fun b (hb : fitE (encE m.msg) s = some b) => fitIs_whole hsm hs1 hs2 hb)
  have HFF := Lib.hid (fun r (hr : FirstYes (tooBig m s) (m.s0.ps.length + m.s1.ps.length + m.s2.ps.length) r) => (show FitIs m.msg s (orLarge (fitE (encE (m.first (wholeN (recs m.s0.ps) r)).msg) s)) from fitIs_first hsm hs1 hs2 hr))
  have HMO := Lib.hid (HMO.out hsm (by omega))
  rw [hsd] at HSD
  clear hs1 hs2 hsd hsm
  subst hW
  go_enter Try.func23, Try.ntmps23
  go_wp2_with fail
  refine (HSD.out _ HRF.out).mono ?_
  rintro e w1 ⟨rfl, hb1⟩
  generalize w.alloc (.cells #[.int .i64 h.id, .bool h.resp, .int .i64 h.op, .bool h.aa, .bool h.tc, .bool h.rd, .bool h.ra, .int .i64 h.rc, .slice qA qp.length qc, .slice A0 p0.length k0, .slice A1 p1.length k1, .slice A2 p2.length k2, .bool h.edns, .int .i64 h.size] 25) = V at *
  have HB1 := Lib.hid hb1
  clear hb1 d0 d1 HSD
  obtain ⟨m0, m1, m2, m3, m4, m5, m6, m7, m8, m9, m10, m11, m12, m13⟩ := HC.out w1 HB1.out
  go_wp2_with fail
  refine (HEN.out _ HB1.out).mono ?_
  intro e w2 he2
  clear m0 m1 m2 m3 m4 m5 m6 m7 m8 m9 m10 m11 m12 m13
  cases hf : fitE (encE m.msg) s with
  | some b =>
    rw [hf] at he2
    obtain ⟨hb2, A, c, rfl, ho⟩ := he2
    have HI := Lib.hid (HFW.out b hf)
    have HB2 := Lib.hid (HW.out _ (HB1.out.trans (hb2.mono HB1.out.size)))
    have HO := Lib.hid (own_mono ho (HW.out _ HB1.out).size)
    clear hb2 ho hf HFW HFF HMO HEN HWS HFI HE2 HN HC HW HB1
    go_wp2
    refine ⟨rfl, .tuple #[.slice A b.length c, .int .i64 0], by simp [results, Try.results23, go_sem], ?_⟩
    exact ⟨_, HI.out, HB2.out, A, c, rfl, HO.out⟩
  | none =>
  rw [hf] at he2
  obtain ⟨hb2, rfl⟩ := he2
  have HBX := Lib.hid ((HB1.out.trans (hb2.mono HB1.out.size)).drew)
  have HBY := Lib.hid (HB1.out.trans (hb2.mono HB1.out.size))
  clear hb2 hf HB1 HFW HEN
  go_wp2
  go_region_held3 (fun X => X.cell? ⟨w.heap.size, 0, none⟩ = some (.int .i64 h.id) ∧ X.cell? ⟨w.heap.size, 1, none⟩ = some (.bool h.resp) ∧ X.cell? ⟨w.heap.size, 2, none⟩ = some (.int .i64 h.op) ∧ X.cell? ⟨w.heap.size, 3, none⟩ = some (.bool h.aa) ∧ X.cell? ⟨w.heap.size, 4, none⟩ = some (.bool h.tc) ∧ X.cell? ⟨w.heap.size, 5, none⟩ = some (.bool h.rd) ∧ X.cell? ⟨w.heap.size, 6, none⟩ = some (.bool h.ra) ∧ X.cell? ⟨w.heap.size, 7, none⟩ = some (.int .i64 h.rc) ∧ X.cell? ⟨w.heap.size, 8, none⟩ = some (.slice qA qp.length qc) ∧ X.cell? ⟨w.heap.size, 9, none⟩ = some (.slice A0 p0.length k0) ∧ X.cell? ⟨w.heap.size, 10, none⟩ = some (.slice A1 p1.length k1) ∧ X.cell? ⟨w.heap.size, 11, none⟩ = some (.slice A2 p2.length k2) ∧ X.cell? ⟨w.heap.size, 12, none⟩ = some (.bool h.edns) ∧ X.cell? ⟨w.heap.size, 13, none⟩ = some (.int .i64 h.size))
    (exact HC.out _ HBX.out)
    ((first
      | (go_at_call 46
         refine (HMO.out _ HBX.out).mono ?_
         rintro e wn ⟨hb, r, rfl, hr⟩
         have HR := Lib.hid hr
         have hrl : r ≤ 100000 := by have h1 := hr.le; have h2 := HN.out; omega
         have HBX := Lib.hid (HBX.out.trans (hb.mono HBX.out.size))
         clear hb hr)
      | (go_at_call 45
         refine (HWS.out r hrl _ HBX.out).mono ?_
         rintro e wn ⟨rfl, hb⟩
         have HBX := Lib.hid (HBX.out.trans (hb.mono HBX.out.size))
         clear hb)))
  all_goals
    rename_i hheld
    clear hheld
    have hkl := Nat.le_trans (wholeN_le (recs m.s0.ps) r) hrl
    have HF1 := Lib.hid (fun (W' : World) (hb : Below V.heap.size V W') => HFI.out (wholeN (recs m.s0.ps) r) hkl W' hb)
    have HE1 := Lib.hid (fun (W' : World) (hb : Below V.heap.size V W') => HE2.out (wholeN (recs m.s0.ps) r) W' hb)
    have HFO := Lib.hid (HFF.out r HR.out)
    clear HFF HFI HE2 HMO HWS HR HN
    obtain ⟨m0, m1, m2, m3, m4, m5, m6, m7, m8, m9, m10, m11, m12, m13⟩ := HC.out _ HBX.out
    revert HF1 HE1 HFO hkl
    generalize wholeN (recs m.s0.ps) r = kk
    intro hkl HF1 HE1 HFO
    revert HF1 HE1 HFO
    generalize (m.first kk).val = fv
    generalize fitE (encE (m.first kk).msg) s = o
    intro HF1 HE1 HFO
    go_wp2_with fail
    refine (HF1.out _ HBX.out).mono ?_
    rintro e w4 ⟨rfl, hb4⟩
    have HB4 := Lib.hid (HBX.out.trans (hb4.mono HBX.out.size))
    clear hb4 m0 m1 m2 m3 m4 m5 m6 m7 m8 m9 m10 m11 m12 m13
    go_wp2_with fail
    refine (HE1.out _ HB4.out).mono ?_
    intro e w5 he5
    cases o with
    | some b =>
      obtain ⟨hb5, A, c, rfl, ho⟩ := he5
      have HB5 := Lib.hid (HW.out _ (HB4.out.trans (hb5.mono HB4.out.size)))
      have HO := Lib.hid (own_mono ho (HW.out _ HB4.out).size)
      clear hb5 ho HF1 HE1 HC HW HB4
      go_wp2
      refine ⟨rfl, .tuple #[.slice A b.length c, .int .i64 0], by simp [results, Try.results23, go_sem], ?_⟩
      exact ⟨_, HFO.out, HB5.out, A, c, rfl, HO.out⟩
    | none =>
      obtain ⟨hb5, rfl⟩ := he5
      have HB5 := Lib.hid (HW.out _ (HB4.out.trans (hb5.mono HB4.out.size)))
      clear hb5 HF1 HE1 HC HW HB4
      go_wp2
      refine ⟨rfl, .tuple #[.slice none 0 0, .int .i64 4], by simp [results, Try.results23, go_sem], ?_⟩
      exact ⟨_, HFO.out, HB5.out, rfl⟩
theorem cfit_any (w : World) (s : Int) (m : MV) (hm : MAt w w.heap.size m) (hi : MIn m) (ho : OwnedM w m) (hc : ∀ i, (m.sec i).ps.length ≤ (m.sec i).c) (hcm : m.s2.c ≤ maxLen) :
    Calls Try.prog 23 #[m.val, .int .i64 s] w (CFitOut w m s) := by
  obtain ⟨h, qA, qc, qp, ⟨A0, k0, p0⟩, ⟨A1, k1, p1⟩, ⟨A2, k2, p2⟩⟩ := m
  exact cfit_core w s _ h qA qc qp A0 A1 A2 k0 k1 k2 p0 p1 p2 rfl hm hi ho hc hcm

end Go.Proofs.Ytjkjhpaeckkpjaa

namespace Go.Proofs.Ytjkjhpaeckkpjaa
open Go.RowKit

theorem encOut_no {w w' : World} {r : Except Nat (List UInt8)} {e : Ending} {k : Nat} (h : EncOut w r e w') (hr : r = .error k) : e = .returned (.tuple #[.slice none 0 0, .int .i64 k]) ∧ Below w.heap.size w w' := by
  subst hr
  exact ⟨h.2, h.1⟩
theorem encOut_yes {w w' : World} {r : Except Nat (List UInt8)} {e : Ending} {l : List UInt8} (h : EncOut w r e w') (hr : r = .ok l) : ∃ A c, e = .returned (.tuple #[.slice A l.length c, .int .i64 0]) ∧ w'.ownsRow w.heap.size 5 1 (.slice A l.length c) l.length (l.map bc) ∧ Below w.heap.size w w' := by
  subst hr
  obtain ⟨h1, A, c, h2, h3⟩ := h
  exact ⟨A, c, h2, h3, h1⟩
theorem decOut_yes {w w' : World} {r : Except Nat Mt} {e : Ending} {x : Mt} (h : DecOut w r e w') (hr : r = .ok x) : ∃ m : MV, e = .returned (.tuple #[m.val, .int .i64 0]) ∧ m.msg = x ∧ DOwn w' w.heap.size m ∧ Below w.heap.size w w' := by
  subst hr
  obtain ⟨h1, m, h2, h3, h4⟩ := h
  exact ⟨m, h2, h3, h4, h1⟩
/-- What Fit answers of a sound message within a size that may be. -/
theorem fitIs_sound {m : Mt} (hs : SoundM m) {s : Int} (h1 : 512 ≤ s) (h2 : s ≤ 65535) {res : Except Nat (List UInt8)} (h : FitIs m s res) :
    ∃ k, LastFit m s k ∧ ((res = .error 4 ∧ ¬ (lenF m k : Int) ≤ s) ∨ ((lenF m k : Int) ≤ s ∧ res = .ok (encM (m.first k)) ∧ (encM (m.first k)).length = lenF m k ∧ decM (encM (m.first k)) = .ok (m.first k))) := by
  unfold FitIs at h
  rw [if_neg (by omega), if_neg (by rw [soundM_iff.2 hs]; decide)] at h
  obtain ⟨k, hk, rfl⟩ := h
  refine ⟨k, hk, ?_⟩
  have hl := first_len hs k
  unfold cutR
  split <;> rename_i hf
  · have h3 := dec_enc (first_sound hs k) [] (by simp; omega)
    simp only [List.append_nil, if_true] at h3
    exact .inr ⟨hf, rfl, hl, h3⟩
  · exact .inl ⟨rfl, hf⟩
theorem cut_more {m : Mt} (hs : SoundM m) {n k : Int} (h1 : 512 ≤ n) (hnk : n ≤ k) (h2 : k ≤ 65535) {r1 r2 : Except Nat (List UInt8)} (f1 : FitIs m n r1) (f2 : FitIs m k r2) :
    r1 = .error 4 ∨ ∃ a b x y, r1 = .ok a ∧ r2 = .ok b ∧ decM a = .ok x ∧ decM b = .ok y ∧ a.length ≤ b.length ∧ x.an.length ≤ y.an.length ∧ x.au.length ≤ y.au.length ∧ x.ex.length ≤ y.ex.length ∧ (x.h.tc = true ∨ (x.h.tc = false ∧ y.h.tc = false)) := by
  obtain ⟨a, ha, ea⟩ := fitIs_sound hs h1 (by omega) f1
  obtain ⟨b, hb, eb⟩ := fitIs_sound hs (by omega) h2 f2
  rcases ea with ⟨ea, _⟩ | ⟨fa, ea, la, da⟩
  · exact .inl ea
  · have hab : a ≤ b := hb.last a ha.le ha.stop (by omega)
    have hm := lenF_mono hs hab
    rcases eb with ⟨_, nb⟩ | ⟨fb, eb, lb, db⟩
    · rcases hb.fits with rfl | h3
      · obtain rfl : a = 0 := by omega
        omega
      · exact absurd h3 nb
    · refine .inr ⟨_, _, _, _, ea, eb, da, db, by omega, ?_, ?_, ?_, ?_⟩
      · show (m.an.take a).length ≤ (m.an.take b).length
        rw [List.length_take, List.length_take]
        omega
      · show (m.au.take (a - m.an.length)).length ≤ (m.au.take (b - m.an.length)).length
        rw [List.length_take, List.length_take]
        omega
      · show (m.ex.take (a - m.an.length - m.au.length)).length ≤ (m.ex.take (b - m.an.length - m.au.length)).length
        rw [List.length_take, List.length_take]
        omega
      · show (m.h.tc || decide (a < m.an.length + m.au.length)) = true ∨ ((m.h.tc || decide (a < m.an.length + m.au.length)) = false ∧ (m.h.tc || decide (b < m.an.length + m.au.length)) = false)
        cases m.h.tc with
        | true => exact .inl rfl
        | false =>
          by_cases h3 : a < m.an.length + m.au.length
          · exact .inl (by rw [decide_eq_true h3]; rfl)
          · exact .inr ⟨by rw [decide_eq_false h3]; rfl, by rw [decide_eq_false (by omega)]; rfl⟩

end Go.Proofs.Ytjkjhpaeckkpjaa

namespace Go.Proofs.Ytjkjhpaeckkpjaa
open Go.RowKit

/-- Is data the same, byte by byte? -/
def exactD (a b : Dt) : Bool := sameD a b && (decide (a.host = b.host) && decide (a.mail = b.mail))
theorem exactD_self (d : Dt) : exactD d d = true := by simp [exactD, sameD, eqN]

set_option maxRecDepth 4000 in
set_option maxHeartbeats 2000000 in
theorem dexact_any (x y : DV) (a b : Dt) (w : World) (hx : DataAt w w.heap.size x a) (hy : DataAt w w.heap.size y b) (la : Sized a) (lb : Sized b) (kh : a.host.length ≤ maxLen) (km : a.mail.length ≤ maxLen) :
    Calls Try.prog 98 #[x.val a, y.val b] w (Gave w (.bool (exactD a b))) := by
  have HC1 := Lib.hid (fun W (h : Boxes w x y a b W) => ref_dsame_any x y a b W h.atA h.atB la lb)
  have HC2 := Lib.hid (fun W (h : Boxes w x y a b W) => exact_any x.Ah y.Ah a.host.length b.host.length x.ch y.ch w.heap.size a.host b.host W rfl rfl h.da.h h.db.h kh)
  have HC3 := Lib.hid (fun W (h : Boxes w x y a b W) => exact_any x.Am y.Am a.mail.length b.mail.length x.cm y.cm w.heap.size a.mail b.mail W rfl rfl h.da.m h.db.m km)
  have HX := Lib.hid (Boxes.made hx hy)
  have HS := Lib.hid (show exactD a b = (sameD a b && (decide (a.host = b.host) && decide (a.mail = b.mail))) from rfl)
  clear hx hy la lb kh km
  go_enter Try.func98, Try.ntmps98
  go_wp2_with fail
  obtain ⟨W0, hW0⟩ : ∃ W0, W0 = (w.alloc (.cells #[.slice x.Ab a.bytes.length x.cb, .slice x.Ah a.host.length x.ch, .slice x.Am a.mail.length x.cm, .slice x.An a.nums.length x.cn, .slice x.At a.texts.length x.ct] 46)).alloc (.cells #[.slice y.Ab b.bytes.length y.cb, .slice y.Ah b.host.length y.ch, .slice y.Am b.mail.length y.cm, .slice y.An b.nums.length y.cn, .slice y.At b.texts.length y.ct] 46) := ⟨_, rfl⟩
  rw [← hW0]
  have hx0 : Boxes w x y a b W0 := by rw [hW0]; exact HX.out
  clear HX hW0
  refine (HC1.out W0 hx0).mono ?_
  intro e W1 hO
  obtain ⟨he, hb⟩ := hO
  have hx1 := hx0.step hb
  clear hb hx0
  cases hv : sameD a b with
  | false =>
    rw [hv] at he HS
    subst he
    have HB := Lib.hid hx1.below
    clear hx1
    go_wp2
    go_ret
    exact ⟨by rw [HS.out]; rfl, HB.out⟩
  | true =>
  rw [hv] at he HS
  subst he
  have p1 : W1.cell? ⟨w.heap.size, 1, none⟩ = some (.slice x.Ah a.host.length x.ch) := hx1.ba.cell 1
  have q1 : W1.cell? ⟨w.heap.size + 1, 1, none⟩ = some (.slice y.Ah b.host.length y.ch) := hx1.bb.cell 1
  go_wp2_with fail
  refine (HC2.out W1 hx1).mono ?_
  intro e W2 hO
  obtain ⟨he, hb⟩ := gave_drewn hO
  have hx2 := hx1.step hb
  clear hO hb hx1 p1 q1
  cases hv : decide (a.host = b.host) with
  | false =>
    rw [hv] at he HS
    subst he
    have HB := Lib.hid hx2.below
    clear hx2
    go_wp2
    go_ret
    exact ⟨by rw [HS.out]; rfl, HB.out⟩
  | true =>
  rw [hv] at he HS
  subst he
  have p2 : W2.cell? ⟨w.heap.size, 2, none⟩ = some (.slice x.Am a.mail.length x.cm) := hx2.ba.cell 2
  have q2 : W2.cell? ⟨w.heap.size + 1, 2, none⟩ = some (.slice y.Am b.mail.length y.cm) := hx2.bb.cell 2
  go_wp2_with fail
  refine (HC3.out W2 hx2).mono ?_
  intro e W3 hO
  obtain ⟨he, hb⟩ := gave_drewn hO
  have hx3 := hx2.step hb
  clear hO hb hx2 p2 q2
  subst he
  have HB := Lib.hid hx3.below
  clear hx3
  go_wp2
  go_ret
  refine ⟨?_, HB.out⟩
  rw [HS.out]
  simp

end Go.Proofs.Ytjkjhpaeckkpjaa

namespace Go.Proofs.Ytjkjhpaeckkpjaa
open Go.RowKit

def sameR (a b : Rt) : Bool := decide (a.name = b.name) && (decide (a.kind = b.kind) && (decide (a.cls = b.cls) && (decide (a.ttl = b.ttl) && exactD a.data b.data)))
theorem sameR_self (r : Rt) : sameR r r = true := by simp [sameR, exactD_self]

set_option maxRecDepth 100000 in
set_option maxHeartbeats 4000000 in
theorem sameRR_any (x y : RV) (a b : Rt) (w : World) (hx : RAt w w.heap.size x a) (hy : RAt w w.heap.size y b) (hn : a.name.length ≤ maxLen) (la : Sized a.data) (lb : Sized b.data) (kh : a.data.host.length ≤ maxLen) (km : a.data.mail.length ≤ maxLen) :
    Calls Try.prog 69 #[x.val a, y.val b] w (Gave w (.bool (sameR a b))) := by
  obtain ⟨W, hW⟩ : ∃ W, W = (w.alloc (.cells #[.slice x.A a.name.length x.c, .int .i64 a.kind, .int .i64 a.cls, .int .i64 a.ttl, .slice x.d.Ab a.data.bytes.length x.d.cb, .slice x.d.Ah a.data.host.length x.d.ch, .slice x.d.Am a.data.mail.length x.d.cm, .slice x.d.An a.data.nums.length x.d.cn, .slice x.d.At a.data.texts.length x.d.ct] 48)).alloc (.cells #[.slice y.A b.name.length y.c, .int .i64 b.kind, .int .i64 b.cls, .int .i64 b.ttl, .slice y.d.Ab b.data.bytes.length y.d.cb, .slice y.d.Ah b.data.host.length y.d.ch, .slice y.d.Am b.data.mail.length y.d.cm, .slice y.d.An b.data.nums.length y.d.cn, .slice y.d.At b.data.texts.length y.d.ct] 48) := ⟨_, rfl⟩
  have hz : (w.alloc (.cells #[.slice x.A a.name.length x.c, .int .i64 a.kind, .int .i64 a.cls, .int .i64 a.ttl, .slice x.d.Ab a.data.bytes.length x.d.cb, .slice x.d.Ah a.data.host.length x.d.ch, .slice x.d.Am a.data.mail.length x.d.cm, .slice x.d.An a.data.nums.length x.d.cn, .slice x.d.At a.data.texts.length x.d.ct] 48)).heap.size = w.heap.size + 1 := by simp
  have hB : Below w.heap.size w W := by rw [hW]; exact ((Below.refl _ _).alloc (Nat.le_refl _) _).alloc (by rw [hz]; omega) _
  have ha : Whole W w.heap.size 48 [.slice x.A a.name.length x.c, .int .i64 a.kind, .int .i64 a.cls, .int .i64 a.ttl, .slice x.d.Ab a.data.bytes.length x.d.cb, .slice x.d.Ah a.data.host.length x.d.ch, .slice x.d.Am a.data.mail.length x.d.cm, .slice x.d.An a.data.nums.length x.d.cn, .slice x.d.At a.data.texts.length x.d.ct] := by rw [hW]; exact (Whole.made w _ _).alloc _
  have hb : Whole W (w.heap.size + 1) 48 [.slice y.A b.name.length y.c, .int .i64 b.kind, .int .i64 b.cls, .int .i64 b.ttl, .slice y.d.Ab b.data.bytes.length y.d.cb, .slice y.d.Ah b.data.host.length y.d.ch, .slice y.d.Am b.data.mail.length y.d.cm, .slice y.d.An b.data.nums.length y.d.cn, .slice y.d.At b.data.texts.length y.d.ct] := by
    rw [hW]
    have h := Whole.made (w.alloc (.cells #[.slice x.A a.name.length x.c, .int .i64 a.kind, .int .i64 a.cls, .int .i64 a.ttl, .slice x.d.Ab a.data.bytes.length x.d.cb, .slice x.d.Ah a.data.host.length x.d.ch, .slice x.d.Am a.data.mail.length x.d.cm, .slice x.d.An a.data.nums.length x.d.cn, .slice x.d.At a.data.texts.length x.d.ct] 48)) [.slice y.A b.name.length y.c, .int .i64 b.kind, .int .i64 b.cls, .int .i64 b.ttl, .slice y.d.Ab b.data.bytes.length y.d.cb, .slice y.d.Ah b.data.host.length y.d.ch, .slice y.d.Am b.data.mail.length y.d.cm, .slice y.d.An b.data.nums.length y.d.cn, .slice y.d.At b.data.texts.length y.d.ct] 48
    rw [hz] at h
    exact h
  have hsz : w.heap.size + 2 ≤ W.heap.size := by rw [hW]; simp
  have HB0 := Lib.hid hB
  have HA0 := Lib.hid ha
  have HBB := Lib.hid hb
  have HX := Lib.hid hx
  have HY := Lib.hid hy
  have HE := Lib.hid (fun W' (h : Below w.heap.size w W') => exact_any x.A y.A a.name.length b.name.length x.c y.c w.heap.size a.name b.name W' rfl rfl (hx.below h).n (hy.below h).n hn)
  have HD := Lib.hid (fun W' (h : Below w.heap.size w W') => dexact_any x.d y.d a.data b.data W' ((hx.below h).mono h.size).d ((hy.below h).mono h.size).d la lb kh km)
  have HS := Lib.hid (show sameR a b = (decide (a.name = b.name) && (decide (a.kind = b.kind) && (decide (a.cls = b.cls) && (decide (a.ttl = b.ttl) && exactD a.data b.data)))) from rfl)
  clear hB ha hb hx hy hz
  subst hW
  go_enter Try.func69, Try.ntmps69
  go_wp2_with fail
  refine (HE.out _ HB0.out).mono ?_
  intro e w1 hg1
  obtain ⟨rfl, hb1⟩ := gave_drewn hg1
  have HWA := Lib.hid (HA0.out.below hb1 (by omega))
  have HWB := Lib.hid (HBB.out.below hb1 (by omega))
  have HB1 := Lib.hid (HB0.out.trans (hb1.mono HB0.out.size))
  clear hb1 hg1 HA0 HBB HB0 hsz
  cases h1 : decide (a.name = b.name) with
  | false =>
    rw [h1] at HS
    go_wp2
    go_ret
    exact ⟨by rw [HS.out]; rfl, HB1.out⟩
  | true =>
  rw [h1] at HS
  have p1 : w1.cell? ⟨w.heap.size, 1, none⟩ = some (.int .i64 a.kind) := Whole.cell (L := [.slice x.A a.name.length x.c, .int .i64 a.kind, .int .i64 a.cls, .int .i64 a.ttl, .slice x.d.Ab a.data.bytes.length x.d.cb, .slice x.d.Ah a.data.host.length x.d.ch, .slice x.d.Am a.data.mail.length x.d.cm, .slice x.d.An a.data.nums.length x.d.cn, .slice x.d.At a.data.texts.length x.d.ct]) HWA.out 1
  have p2 : w1.cell? ⟨w.heap.size, 2, none⟩ = some (.int .i64 a.cls) := Whole.cell (L := [.slice x.A a.name.length x.c, .int .i64 a.kind, .int .i64 a.cls, .int .i64 a.ttl, .slice x.d.Ab a.data.bytes.length x.d.cb, .slice x.d.Ah a.data.host.length x.d.ch, .slice x.d.Am a.data.mail.length x.d.cm, .slice x.d.An a.data.nums.length x.d.cn, .slice x.d.At a.data.texts.length x.d.ct]) HWA.out 2
  have p3 : w1.cell? ⟨w.heap.size, 3, none⟩ = some (.int .i64 a.ttl) := Whole.cell (L := [.slice x.A a.name.length x.c, .int .i64 a.kind, .int .i64 a.cls, .int .i64 a.ttl, .slice x.d.Ab a.data.bytes.length x.d.cb, .slice x.d.Ah a.data.host.length x.d.ch, .slice x.d.Am a.data.mail.length x.d.cm, .slice x.d.An a.data.nums.length x.d.cn, .slice x.d.At a.data.texts.length x.d.ct]) HWA.out 3
  have p4 : w1.cell? ⟨w.heap.size, 4, none⟩ = some (.slice x.d.Ab a.data.bytes.length x.d.cb) := Whole.cell (L := [.slice x.A a.name.length x.c, .int .i64 a.kind, .int .i64 a.cls, .int .i64 a.ttl, .slice x.d.Ab a.data.bytes.length x.d.cb, .slice x.d.Ah a.data.host.length x.d.ch, .slice x.d.Am a.data.mail.length x.d.cm, .slice x.d.An a.data.nums.length x.d.cn, .slice x.d.At a.data.texts.length x.d.ct]) HWA.out 4
  have p5 : w1.cell? ⟨w.heap.size, 5, none⟩ = some (.slice x.d.Ah a.data.host.length x.d.ch) := Whole.cell (L := [.slice x.A a.name.length x.c, .int .i64 a.kind, .int .i64 a.cls, .int .i64 a.ttl, .slice x.d.Ab a.data.bytes.length x.d.cb, .slice x.d.Ah a.data.host.length x.d.ch, .slice x.d.Am a.data.mail.length x.d.cm, .slice x.d.An a.data.nums.length x.d.cn, .slice x.d.At a.data.texts.length x.d.ct]) HWA.out 5
  have p6 : w1.cell? ⟨w.heap.size, 6, none⟩ = some (.slice x.d.Am a.data.mail.length x.d.cm) := Whole.cell (L := [.slice x.A a.name.length x.c, .int .i64 a.kind, .int .i64 a.cls, .int .i64 a.ttl, .slice x.d.Ab a.data.bytes.length x.d.cb, .slice x.d.Ah a.data.host.length x.d.ch, .slice x.d.Am a.data.mail.length x.d.cm, .slice x.d.An a.data.nums.length x.d.cn, .slice x.d.At a.data.texts.length x.d.ct]) HWA.out 6
  have p7 : w1.cell? ⟨w.heap.size, 7, none⟩ = some (.slice x.d.An a.data.nums.length x.d.cn) := Whole.cell (L := [.slice x.A a.name.length x.c, .int .i64 a.kind, .int .i64 a.cls, .int .i64 a.ttl, .slice x.d.Ab a.data.bytes.length x.d.cb, .slice x.d.Ah a.data.host.length x.d.ch, .slice x.d.Am a.data.mail.length x.d.cm, .slice x.d.An a.data.nums.length x.d.cn, .slice x.d.At a.data.texts.length x.d.ct]) HWA.out 7
  have p8 : w1.cell? ⟨w.heap.size, 8, none⟩ = some (.slice x.d.At a.data.texts.length x.d.ct) := Whole.cell (L := [.slice x.A a.name.length x.c, .int .i64 a.kind, .int .i64 a.cls, .int .i64 a.ttl, .slice x.d.Ab a.data.bytes.length x.d.cb, .slice x.d.Ah a.data.host.length x.d.ch, .slice x.d.Am a.data.mail.length x.d.cm, .slice x.d.An a.data.nums.length x.d.cn, .slice x.d.At a.data.texts.length x.d.ct]) HWA.out 8
  have q1 : w1.cell? ⟨w.heap.size + 1, 1, none⟩ = some (.int .i64 b.kind) := Whole.cell (L := [.slice y.A b.name.length y.c, .int .i64 b.kind, .int .i64 b.cls, .int .i64 b.ttl, .slice y.d.Ab b.data.bytes.length y.d.cb, .slice y.d.Ah b.data.host.length y.d.ch, .slice y.d.Am b.data.mail.length y.d.cm, .slice y.d.An b.data.nums.length y.d.cn, .slice y.d.At b.data.texts.length y.d.ct]) HWB.out 1
  have q2 : w1.cell? ⟨w.heap.size + 1, 2, none⟩ = some (.int .i64 b.cls) := Whole.cell (L := [.slice y.A b.name.length y.c, .int .i64 b.kind, .int .i64 b.cls, .int .i64 b.ttl, .slice y.d.Ab b.data.bytes.length y.d.cb, .slice y.d.Ah b.data.host.length y.d.ch, .slice y.d.Am b.data.mail.length y.d.cm, .slice y.d.An b.data.nums.length y.d.cn, .slice y.d.At b.data.texts.length y.d.ct]) HWB.out 2
  have q3 : w1.cell? ⟨w.heap.size + 1, 3, none⟩ = some (.int .i64 b.ttl) := Whole.cell (L := [.slice y.A b.name.length y.c, .int .i64 b.kind, .int .i64 b.cls, .int .i64 b.ttl, .slice y.d.Ab b.data.bytes.length y.d.cb, .slice y.d.Ah b.data.host.length y.d.ch, .slice y.d.Am b.data.mail.length y.d.cm, .slice y.d.An b.data.nums.length y.d.cn, .slice y.d.At b.data.texts.length y.d.ct]) HWB.out 3
  have q4 : w1.cell? ⟨w.heap.size + 1, 4, none⟩ = some (.slice y.d.Ab b.data.bytes.length y.d.cb) := Whole.cell (L := [.slice y.A b.name.length y.c, .int .i64 b.kind, .int .i64 b.cls, .int .i64 b.ttl, .slice y.d.Ab b.data.bytes.length y.d.cb, .slice y.d.Ah b.data.host.length y.d.ch, .slice y.d.Am b.data.mail.length y.d.cm, .slice y.d.An b.data.nums.length y.d.cn, .slice y.d.At b.data.texts.length y.d.ct]) HWB.out 4
  have q5 : w1.cell? ⟨w.heap.size + 1, 5, none⟩ = some (.slice y.d.Ah b.data.host.length y.d.ch) := Whole.cell (L := [.slice y.A b.name.length y.c, .int .i64 b.kind, .int .i64 b.cls, .int .i64 b.ttl, .slice y.d.Ab b.data.bytes.length y.d.cb, .slice y.d.Ah b.data.host.length y.d.ch, .slice y.d.Am b.data.mail.length y.d.cm, .slice y.d.An b.data.nums.length y.d.cn, .slice y.d.At b.data.texts.length y.d.ct]) HWB.out 5
  have q6 : w1.cell? ⟨w.heap.size + 1, 6, none⟩ = some (.slice y.d.Am b.data.mail.length y.d.cm) := Whole.cell (L := [.slice y.A b.name.length y.c, .int .i64 b.kind, .int .i64 b.cls, .int .i64 b.ttl, .slice y.d.Ab b.data.bytes.length y.d.cb, .slice y.d.Ah b.data.host.length y.d.ch, .slice y.d.Am b.data.mail.length y.d.cm, .slice y.d.An b.data.nums.length y.d.cn, .slice y.d.At b.data.texts.length y.d.ct]) HWB.out 6
  have q7 : w1.cell? ⟨w.heap.size + 1, 7, none⟩ = some (.slice y.d.An b.data.nums.length y.d.cn) := Whole.cell (L := [.slice y.A b.name.length y.c, .int .i64 b.kind, .int .i64 b.cls, .int .i64 b.ttl, .slice y.d.Ab b.data.bytes.length y.d.cb, .slice y.d.Ah b.data.host.length y.d.ch, .slice y.d.Am b.data.mail.length y.d.cm, .slice y.d.An b.data.nums.length y.d.cn, .slice y.d.At b.data.texts.length y.d.ct]) HWB.out 7
  have q8 : w1.cell? ⟨w.heap.size + 1, 8, none⟩ = some (.slice y.d.At b.data.texts.length y.d.ct) := Whole.cell (L := [.slice y.A b.name.length y.c, .int .i64 b.kind, .int .i64 b.cls, .int .i64 b.ttl, .slice y.d.Ab b.data.bytes.length y.d.cb, .slice y.d.Ah b.data.host.length y.d.ch, .slice y.d.Am b.data.mail.length y.d.cm, .slice y.d.An b.data.nums.length y.d.cn, .slice y.d.At b.data.texts.length y.d.ct]) HWB.out 8
  by_cases h2 : a.kind = b.kind
  case neg =>
    have t2 : (a.kind == b.kind) = false := by rw [beq_eq_false_iff_ne]; exact h2
    rw [show decide (a.kind = b.kind) = false from decide_eq_false h2] at HS
    clear h2
    go_wp2
    go_ret
    exact ⟨by rw [HS.out]; rfl, HB1.out⟩
  have t2 : (a.kind == b.kind) = true := by rw [beq_iff_eq]; exact h2
  rw [show decide (a.kind = b.kind) = true from decide_eq_true h2] at HS
  clear h2
  by_cases h3 : a.cls = b.cls
  case neg =>
    have t3 : (a.cls == b.cls) = false := by rw [beq_eq_false_iff_ne]; exact h3
    rw [show decide (a.cls = b.cls) = false from decide_eq_false h3] at HS
    clear h3
    go_wp2
    go_ret
    exact ⟨by rw [HS.out]; rfl, HB1.out⟩
  have t3 : (a.cls == b.cls) = true := by rw [beq_iff_eq]; exact h3
  rw [show decide (a.cls = b.cls) = true from decide_eq_true h3] at HS
  clear h3
  by_cases h4 : a.ttl = b.ttl
  case neg =>
    have t4 : (a.ttl == b.ttl) = false := by rw [beq_eq_false_iff_ne]; exact h4
    rw [show decide (a.ttl = b.ttl) = false from decide_eq_false h4] at HS
    clear h4
    go_wp2
    go_ret
    exact ⟨by rw [HS.out]; rfl, HB1.out⟩
  have t4 : (a.ttl == b.ttl) = true := by rw [beq_iff_eq]; exact h4
  rw [show decide (a.ttl = b.ttl) = true from decide_eq_true h4] at HS
  clear h4
  go_wp2_with fail
  refine (HD.out _ HB1.out).mono ?_
  rintro e w2 ⟨rfl, hb2⟩
  have HB2 := Lib.hid (HB1.out.trans (hb2.mono HB1.out.size))
  clear hb2
  go_wp2
  go_ret
  exact ⟨by rw [HS.out]; simp, HB2.out⟩

end Go.Proofs.Ytjkjhpaeckkpjaa

namespace Go.Proofs.Ytjkjhpaeckkpjaa
open Go.RowKit

theorem wide_255 {n : List (List UInt8)} (h : szN n ≤ 255) : WideN n := wide_sz (Nat.le_trans h (by unfold maxLen; omega))
theorem sound_few {n : List (List UInt8)} (h : soundN n = true) : n.length ≤ 127 := by
  obtain ⟨h1, h2⟩ := soundN_parts h
  have := szN_ge n h1
  omega
theorem fit_wf {n s : Int} (h : fitB n s = true) : (Lit.int .i64 n).wf = true := by
  unfold fitB at h
  simp only [decide_eq_true_eq] at h
  obtain ⟨h1, h2, h3, h4⟩ := h
  have h5 : (2 : Int) ^ (8 * s.toNat) ≤ 72057594037927936 := by
    obtain ⟨k, hk⟩ : ∃ k, k = s.toNat := ⟨_, rfl⟩
    rw [← hk]
    rcases (show k = 1 ∨ k = 2 ∨ k = 3 ∨ k = 4 ∨ k = 5 ∨ k = 6 ∨ k = 7 by omega) with h | h | h | h | h | h | h <;> rw [h] <;> decide +kernel
  have e1 : IntKind.i64.min = -9223372036854775808 := rfl
  have e2 : IntKind.i64.max = 9223372036854775807 := rfl
  simp only [Lit.wf, Bool.and_eq_true, decide_eq_true_eq]
  omega
/-- What is sound is small. -/
theorem SoundR.small {r : Rt} (h : SoundR r) : RIn r ∧ LightR r := by
  have sp := soundP h.d
  have hn := soundN_parts h.n
  have e1 : szN ([] : List (List UInt8)) = 1 := rfl
  have hh : szN r.data.host ≤ 255 ∧ r.data.host.length ≤ 127 := by
    cases hs : (shN r.kind).host with
    | true => exact ⟨(soundN_parts (sp.h hs)).2, sound_few (sp.h hs)⟩
    | false => rw [sp.h0 hs]; exact ⟨by rw [e1]; omega, by simp⟩
  have hm : szN r.data.mail ≤ 255 ∧ r.data.mail.length ≤ 127 := by
    cases hs : (shN r.kind).mail with
    | true => exact ⟨(soundN_parts (sp.m hs)).2, sound_few (sp.m hs)⟩
    | false => rw [sp.m0 hs]; exact ⟨by rw [e1]; omega, by simp⟩
  have hf := sound_few h.n
  have h1 := shN_small r.kind
  have h2 := sp.n
  have h3 := sp.b
  have h4 : (shN r.kind).most ≤ 65535 := by
    unfold shN
    repeat' split
    all_goals decide
  have h5 := sp.t
  have hk : kindB r.kind = true := by have h := h.d; unfold soundD at h; simp only [Bool.and_eq_true] at h; exact h.1
  unfold kindB at hk
  simp only [decide_eq_true_eq] at hk
  obtain ⟨f2, f4⟩ := nums_fit sp.ok
  have e6 : IntKind.i64.min = -9223372036854775808 := rfl
  have e7 : IntKind.i64.max = 9223372036854775807 := rfl
  refine ⟨⟨wide_255 hn.2, ?_, fit_wf h.c, ?_, ⟨wide_255 hh.1, wide_255 hm.1, by unfold maxLen; omega⟩, fun k hk => ?_, fun n hn => ?_⟩, ⟨by omega, by omega, by omega, by omega, by omega, by omega⟩⟩
  · simp only [Lit.wf, Bool.and_eq_true, decide_eq_true_eq]
    omega
  · have := h.t0
    have := h.t1
    simp only [Lit.wf, Bool.and_eq_true, decide_eq_true_eq]
    omega
  · have := sp.tl _ (List.getElem_mem hk)
    unfold maxLen
    omega
  · rw [← List.take_append_drop (shN r.kind).ahead r.data.nums] at hn
    rcases List.mem_append.1 hn with h6 | h6
    · exact fit_wf (f2 n h6)
    · exact fit_wf (f4 n h6)

def SameRsRel (w : World) (k0 : Nat) (i : Value) (wr : World) : Prop := ∃ k : Nat, k ≤ k0 ∧ i = .int .i64 k ∧ Below w.heap.size w wr
set_option maxRecDepth 20000 in
set_option maxHeartbeats 4000000 in
theorem sameRRs_self (w : World) (A B : Option Addr) (c d : Nat) (ps qs : List (RV × Rt)) (hp : RsAt w w.heap.size A ps) (hq : RsAt w w.heap.size B qs) (he : recs ps = recs qs) (hs : ∀ r ∈ recs ps, SoundR r) (hl : ps.length ≤ 1000) :
    Calls Try.prog 43 #[.slice A ps.length c, .slice B qs.length d] w (Gave w (.bool true)) := by
  have hlen : qs.length = ps.length := by rw [← length_recs qs, ← he, length_recs]
  have HP := Lib.hid (fun W' (h : Below w.heap.size w W') => hp.below h)
  have HQ := Lib.hid (fun W' (h : Below w.heap.size w W') => hq.below h)
  have HS := Lib.hid hs
  have HE := Lib.hid (fun k (h1 : k < ps.length) (h2 : k < qs.length) => (show (qs[k]).2 = (ps[k]).2 from by
    have h3 : (recs qs)[k]? = (recs ps)[k]? := by rw [he]
    unfold recs at h3
    rw [List.getElem?_map, List.getElem?_map, List.getElem?_eq_getElem h1, List.getElem?_eq_getElem h2] at h3
    simpa using h3))
  clear hp hq hs he
  have HLQ := Lib.hid hlen
  rw [hlen]
  clear hlen
  go_enter Try.func43, Try.ntmps43
  go_wp2
  go_loopw [5] (SameRsRel w ps.length) (fun i _ => ps.length - (intOf i).toNat)
  case atStart => exact ⟨0, Nat.zero_le _, rfl, Below.refl _ _⟩
  case round =>
  obtain ⟨k, hk, rfl, hb⟩ := hrel
  have HB := Lib.hid hb
  clear hb
  by_cases hlt : k < ps.length
  · have hlq : k < qs.length := by rw [HLQ.out]; exact hlt
    obtain ⟨b1, o1, rfl, hb1, hra, q0, q1, q2, q3, q4, q5, q6, q7, q8⟩ := (HP.out _ HB.out).at_ hlt
    obtain ⟨b2, o2, rfl, hb2, hrb, r0, r1, r2, r3, r4, r5, r6, r7, r8⟩ := (HQ.out _ HB.out).at_ hlq
    have hsr := HS.out _ (List.mem_map.2 ⟨ps[k], List.getElem_mem hlt, rfl⟩)
    have hee := HE.out k hlt hlq
    revert hra hrb q0 q1 q2 q3 q4 q5 q6 q7 q8 r0 r1 r2 r3 r4 r5 r6 r7 r8 hsr hee
    generalize ps[k] = p
    generalize qs[k] = q
    obtain ⟨x, r⟩ := p
    obtain ⟨y, r'⟩ := q
    intro hra q0 q1 q2 q3 q4 q5 q6 q7 q8 hrb r0 r1 r2 r3 r4 r5 r6 r7 r8 hsr hee
    dsimp only at hra q0 q1 q2 q3 q4 q5 q6 q7 q8 hrb r0 r1 r2 r3 r4 r5 r6 r7 r8 hsr hee
    subst hee
    obtain ⟨hin, hlr⟩ := hsr.small
    have hw1 := hlr.l0
    have hw2 := hlr.l1
    have hw3 := hlr.l2
    have hsd := soundP hsr.d
    have hz : Sized r'.data := by
      have e1 : szN ([] : List (List UInt8)) = 1 := rfl
      have h5 := hsd.t
      refine ⟨?_, ?_, by unfold maxLen; omega⟩
      · cases hs : (shN r'.kind).host with
        | true => have := (soundN_parts (hsd.h hs)).2; unfold maxLen; omega
        | false => rw [hsd.h0 hs, e1]; unfold maxLen; omega
      · cases hs : (shN r'.kind).mail with
        | true => have := (soundN_parts (hsd.m hs)).2; unfold maxLen; omega
        | false => rw [hsd.m0 hs, e1]; unfold maxLen; omega
    have HCL := Lib.hid (sameRR_any x y r' r' wr.drew ((hra.below (Below.refl w.heap.size wr).drew).mono HB.out.size) ((hrb.below (Below.refl w.heap.size wr).drew).mono HB.out.size) (by unfold maxLen; omega) hz hz (by unfold maxLen; omega) (by unfold maxLen; omega))
    rw [sameR_self] at HCL
    clear hra hrb hsr hin hlr hw1 hw2 hw3 hsd hz
    go_wp2
    go_still_tail 8, (by kernel_rfl)
    change wpList _ _ _ _ _ wr.drew
    have HBD := Lib.hid HB.out.drew
    clear q0 q1 q2 q3 q4 q5 q6 q7 q8 r0 r1 r2 r3 r4 r5 r6 r7 r8
    go_wp2_with fail
    refine HCL.out.mono ?_
    rintro e w1 ⟨rfl, hb1⟩
    have HB1 := Lib.hid (HBD.out.trans (hb1.mono HBD.out.size))
    clear hb1
    go_wp2
    exact ⟨⟨k + 1, by omega, by go_num, HB1.out⟩, by simp [intOf]; omega⟩
  · obtain rfl : k = ps.length := by omega
    go_wp2
    go_ret
    exact ⟨rfl, HB.out⟩

def SameQRel (W : World) (k0 : Nat) (i : Value) (wr : World) : Prop := ∃ k : Nat, k ≤ k0 ∧ i = .int .i64 k ∧ Below W.heap.size W wr
set_option maxRecDepth 20000 in
set_option maxHeartbeats 8000000 in
theorem samemsg_core (w : World) (h : Hd) (qA qB : Option Addr) (qc qd : Nat) (qp qr : List (QV × Qt)) (A0 A1 A2 B0 B1 B2 : Option Addr) (k0 k1 k2 j0 j1 j2 : Nat) (p0 p1 p2 r0 r1 r2 : List (RV × Rt))
    (hq : QsAt w w.heap.size qA qp) (gq : QsAt w w.heap.size qB qr) (h0 : RsAt w w.heap.size A0 p0) (g0 : RsAt w w.heap.size B0 r0) (h1 : RsAt w w.heap.size A1 p1) (g1 : RsAt w w.heap.size B1 r1) (h2 : RsAt w w.heap.size A2 p2) (g2 : RsAt w w.heap.size B2 r2)
    (eq : qsts qp = qsts qr) (e0 : recs p0 = recs r0) (e1 : recs p1 = recs r1) (e2 : recs p2 = recs r2) (hsq : ∀ q ∈ qsts qp, soundQ q = true) (s0 : ∀ r ∈ recs p0, SoundR r) (s1 : ∀ r ∈ recs p1, SoundR r) (s2 : ∀ r ∈ recs p2, SoundR r)
    (lq : qp.length ≤ 1000) (l0 : p0.length ≤ 1000) (l1 : p1.length ≤ 1000) (l2 : p2.length ≤ 1000) :
    Calls Try.prog 19 #[valM h (.slice qA qp.length qc) (.slice A0 p0.length k0) (.slice A1 p1.length k1) (.slice A2 p2.length k2), valM h (.slice qB qr.length qd) (.slice B0 r0.length j0) (.slice B1 r1.length j1) (.slice B2 r2.length j2)] w (Gave w (.bool true)) := by
  have nq : qr.length = qp.length := by rw [← length_qsts qr, ← eq, length_qsts]
  have n0 : r0.length = p0.length := by rw [← length_recs r0, ← e0, length_recs]
  have n1 : r1.length = p1.length := by rw [← length_recs r1, ← e1, length_recs]
  have n2 : r2.length = p2.length := by rw [← length_recs r2, ← e2, length_recs]
  have HS0 := Lib.hid (fun W' (hb : Below w.heap.size w W') => sameRRs_self W' A0 B0 k0 j0 p0 r0 ((h0.below hb).mono hb.size) ((g0.below hb).mono hb.size) e0 s0 l0)
  have HS1 := Lib.hid (fun W' (hb : Below w.heap.size w W') => sameRRs_self W' A1 B1 k1 j1 p1 r1 ((h1.below hb).mono hb.size) ((g1.below hb).mono hb.size) e1 s1 l1)
  have HS2 := Lib.hid (fun W' (hb : Below w.heap.size w W') => sameRRs_self W' A2 B2 k2 j2 p2 r2 ((h2.below hb).mono hb.size) ((g2.below hb).mono hb.size) e2 s2 l2)
  rw [n0] at HS0
  rw [n1] at HS1
  rw [n2] at HS2
  have HQ := Lib.hid (fun W' (hb : Below w.heap.size w W') => hq.below hb)
  have HR := Lib.hid (fun W' (hb : Below w.heap.size w W') => gq.below hb)
  have HSQ := Lib.hid hsq
  have HE := Lib.hid (fun k (a1 : k < qp.length) (a2 : k < qr.length) => (show (qr[k]).2 = (qp[k]).2 from by
    have h3 : (qsts qr)[k]? = (qsts qp)[k]? := by rw [eq]
    unfold qsts at h3
    rw [List.getElem?_map, List.getElem?_map, List.getElem?_eq_getElem a1, List.getElem?_eq_getElem a2] at h3
    simpa using h3))
  have HNQ := Lib.hid nq
  rw [nq, n0, n1, n2]
  obtain ⟨W, hW⟩ : ∃ W, W = (w.alloc (.cells #[.int .i64 h.id, .bool h.resp, .int .i64 h.op, .bool h.aa, .bool h.tc, .bool h.rd, .bool h.ra, .int .i64 h.rc, .slice qA qp.length qc, .slice A0 p0.length k0, .slice A1 p1.length k1, .slice A2 p2.length k2, .bool h.edns, .int .i64 h.size] 25)).alloc (.cells #[.int .i64 h.id, .bool h.resp, .int .i64 h.op, .bool h.aa, .bool h.tc, .bool h.rd, .bool h.ra, .int .i64 h.rc, .slice qB qp.length qd, .slice B0 p0.length j0, .slice B1 p1.length j1, .slice B2 p2.length j2, .bool h.edns, .int .i64 h.size] 25) := ⟨_, rfl⟩
  have hB : Below w.heap.size w W := by rw [hW]; exact ((Below.refl _ _).alloc (Nat.le_refl _) _).alloc (by simp) _
  have hzW : W.heap.size = w.heap.size + 2 := by rw [hW]; simp
  have hw1 : Whole W w.heap.size 25 (cellsM h (.slice qA qp.length qc) (.slice A0 p0.length k0) (.slice A1 p1.length k1) (.slice A2 p2.length k2)) := by rw [hW]; exact (Whole.made w [.int .i64 h.id, .bool h.resp, .int .i64 h.op, .bool h.aa, .bool h.tc, .bool h.rd, .bool h.ra, .int .i64 h.rc, .slice qA qp.length qc, .slice A0 p0.length k0, .slice A1 p1.length k1, .slice A2 p2.length k2, .bool h.edns, .int .i64 h.size] _).alloc _
  have hw2 : Whole W (w.heap.size + 1) 25 (cellsM h (.slice qB qp.length qd) (.slice B0 p0.length j0) (.slice B1 p1.length j1) (.slice B2 p2.length j2)) := by
    rw [hW]
    have h1 := Whole.made (w.alloc (.cells #[.int .i64 h.id, .bool h.resp, .int .i64 h.op, .bool h.aa, .bool h.tc, .bool h.rd, .bool h.ra, .int .i64 h.rc, .slice qA qp.length qc, .slice A0 p0.length k0, .slice A1 p1.length k1, .slice A2 p2.length k2, .bool h.edns, .int .i64 h.size] 25)) [.int .i64 h.id, .bool h.resp, .int .i64 h.op, .bool h.aa, .bool h.tc, .bool h.rd, .bool h.ra, .int .i64 h.rc, .slice qB qp.length qd, .slice B0 p0.length j0, .slice B1 p1.length j1, .slice B2 p2.length j2, .bool h.edns, .int .i64 h.size] 25
    rw [show (w.alloc (.cells #[.int .i64 h.id, .bool h.resp, .int .i64 h.op, .bool h.aa, .bool h.tc, .bool h.rd, .bool h.ra, .int .i64 h.rc, .slice qA qp.length qc, .slice A0 p0.length k0, .slice A1 p1.length k1, .slice A2 p2.length k2, .bool h.edns, .int .i64 h.size] 25)).heap.size = w.heap.size + 1 by simp] at h1
    exact h1
  have HC := Lib.hid (fun (W' : World) (hb : Below W.heap.size W W') => (show (W'.cell? ⟨w.heap.size, 8, none⟩ = some (.slice qA qp.length qc) ∧ W'.cell? ⟨w.heap.size, 9, none⟩ = some (.slice A0 p0.length k0) ∧ W'.cell? ⟨w.heap.size, 10, none⟩ = some (.slice A1 p1.length k1) ∧ W'.cell? ⟨w.heap.size, 11, none⟩ = some (.slice A2 p2.length k2)) ∧
    (W'.cell? ⟨w.heap.size + 1, 8, none⟩ = some (.slice qB qp.length qd) ∧ W'.cell? ⟨w.heap.size + 1, 9, none⟩ = some (.slice B0 p0.length j0) ∧ W'.cell? ⟨w.heap.size + 1, 10, none⟩ = some (.slice B1 p1.length j1) ∧ W'.cell? ⟨w.heap.size + 1, 11, none⟩ = some (.slice B2 p2.length j2)) from by
      have a1 := hw1.below hb (by omega)
      have a2 := hw2.below hb (by omega)
      exact ⟨⟨a1.cell 8, a1.cell 9, a1.cell 10, a1.cell 11⟩, ⟨a2.cell 8, a2.cell 9, a2.cell 10, a2.cell 11⟩⟩))
  have HB := Lib.hid hB
  have HBW := Lib.hid (Below.refl W.heap.size W)
  clear hB hw1 hw2 hzW hq gq h0 g0 h1 g1 h2 g2 eq e0 e1 e2 hsq s0 s1 s2 nq n0 n1 n2
  subst hW
  go_enter Try.func19, Try.ntmps19
  go_wp2
  generalize (w.alloc (.cells #[.int .i64 h.id, .bool h.resp, .int .i64 h.op, .bool h.aa, .bool h.tc, .bool h.rd, .bool h.ra, .int .i64 h.rc, .slice qA qp.length qc, .slice A0 p0.length k0, .slice A1 p1.length k1, .slice A2 p2.length k2, .bool h.edns, .int .i64 h.size] 25)).alloc (.cells #[.int .i64 h.id, .bool h.resp, .int .i64 h.op, .bool h.aa, .bool h.tc, .bool h.rd, .bool h.ra, .int .i64 h.rc, .slice qB qp.length qd, .slice B0 p0.length j0, .slice B1 p1.length j1, .slice B2 p2.length j2, .bool h.edns, .int .i64 h.size] 25) = V at *
  go_loopw [5] (SameQRel V qp.length) (fun i _ => qp.length - (intOf i).toNat)
  case atStart => exact ⟨0, Nat.zero_le _, rfl, HBW.out⟩
  case round =>
  obtain ⟨k, hk, rfl, hb⟩ := hrel
  have HBR := Lib.hid hb
  obtain ⟨⟨m8, _, _, _⟩, ⟨n8, _, _, _⟩⟩ := HC.out wr hb
  clear hb
  by_cases hlt : k < qp.length
  · have hlq : k < qr.length := by rw [HNQ.out]; exact hlt
    have HBT := Lib.hid (HB.out.trans (HBR.out.mono HB.out.size))
    obtain ⟨b1, o1, rfl, hb1, hra, q0, q1, q2⟩ := (HQ.out _ HBT.out).at_ hlt
    obtain ⟨b2, o2, rfl, hb2, hrb, t0, t1, t2⟩ := (HR.out _ HBT.out).at_ hlq
    have hsr := HSQ.out _ (List.mem_map.2 ⟨qp[k], List.getElem_mem hlt, rfl⟩)
    have hee := HE.out k hlt hlq
    revert hra hrb q0 q1 q2 t0 t1 t2 hsr hee
    generalize qp[k] = p
    generalize qr[k] = q
    obtain ⟨x, r⟩ := p
    obtain ⟨y, r'⟩ := q
    intro hra q0 q1 q2 hrb t0 t1 t2 hsr hee
    dsimp only at hra q0 q1 q2 hrb t0 t1 t2 hsr hee
    subst hee
    have hnl := (show r'.name.length ≤ 127 from by
      unfold soundQ at hsr
      simp only [Bool.and_eq_true] at hsr
      exact sound_few hsr.1)
    have HX := Lib.hid (fun k => (show Calls Try.prog 42 #[.slice x.1 r'.name.length x.2, .slice y.1 r'.name.length y.2] (wr.drewN k) (fun e w' => e = .returned (.bool true) ∧ ∃ j, w' = wr.drewN j) from by
      have h1 := exact_any x.1 y.1 r'.name.length r'.name.length x.2 y.2 w.heap.size r'.name r'.name (wr.drewN k) rfl rfl (Row.drewN hra k) (Row.drewN hrb k) (by unfold maxLen; omega)
      refine h1.mono fun e w' ⟨ha, j, hj⟩ => ?_
      rw [show decide (r'.name = r'.name) = true by simp] at ha
      exact ⟨ha, k + j, by rw [hj, World.drewN_drewN]⟩))
    clear hra hrb hsr
    go_wp2
    go_quiet ((go_at_call 42; exact HX.out _))
    have HBN := Lib.hid (below_drewN' HBR.out nq)
    go_wp2
    exact ⟨⟨k + 1, by omega, by go_num, HBN.out⟩, by simp [intOf]; omega⟩
  · obtain rfl : k = qp.length := by omega
    have HBT := Lib.hid (HB.out.trans (HBR.out.mono HB.out.size))
    obtain ⟨⟨_, m9, _, _⟩, ⟨_, n9, _, _⟩⟩ := HC.out wr HBR.out
    go_wp2_with fail
    refine (HS0.out _ HBT.out).mono ?_
    rintro e w1 ⟨rfl, hb1⟩
    have HB1 := Lib.hid (HBR.out.trans (hb1.mono HBR.out.size))
    have HT1 := Lib.hid (HBT.out.trans (hb1.mono HBT.out.size))
    clear hb1 m9 n9
    obtain ⟨⟨_, _, m10, _⟩, ⟨_, _, n10, _⟩⟩ := HC.out w1 HB1.out
    go_wp2_with fail
    refine (HS1.out _ HT1.out).mono ?_
    rintro e w2 ⟨rfl, hb2⟩
    have HB2 := Lib.hid (HB1.out.trans (hb2.mono HB1.out.size))
    have HT2 := Lib.hid (HT1.out.trans (hb2.mono HT1.out.size))
    clear hb2 m10 n10
    obtain ⟨⟨_, _, _, m11⟩, ⟨_, _, _, n11⟩⟩ := HC.out w2 HB2.out
    go_wp2_with fail
    refine (HS2.out _ HT2.out).mono ?_
    rintro e w3 ⟨rfl, hb3⟩
    have HT3 := Lib.hid (HT2.out.trans (hb3.mono HT2.out.size))
    clear hb3
    go_wp2
    go_ret
    exact ⟨rfl, HT3.out⟩
/-- Two messages that are the same are the same to the document. -/
theorem samemsg_self (w : World) (m m' : MV) (hm : MAt w w.heap.size m) (hm' : MAt w w.heap.size m') (he : m'.msg = m.msg) (hq : ∀ q ∈ m.msg.qs, soundQ q = true) (hr : ∀ r ∈ m.msg.all, SoundR r) (lq : m.qp.length ≤ 1000) (lr : ∀ i, (m.sec i).ps.length ≤ 1000) :
    Calls Try.prog 19 #[m.val, m'.val] w (Gave w (.bool true)) := by
  obtain ⟨h, qA, qc, qp, ⟨A0, k0, p0⟩, ⟨A1, k1, p1⟩, ⟨A2, k2, p2⟩⟩ := m
  obtain ⟨h', qB, qd, qr, ⟨B0, j0, r0⟩, ⟨B1, j1, r1⟩, ⟨B2, j2, r2⟩⟩ := m'
  unfold MV.msg at he
  injection he with e0 e1 e2 e3 e4
  dsimp only at e0
  subst e0
  have l0 : p0.length ≤ 1000 := lr 0
  have l1 : p1.length ≤ 1000 := lr 1
  have l2 : p2.length ≤ 1000 := lr 2
  exact samemsg_core w _ qA qB qc qd qp qr A0 A1 A2 B0 B1 B2 k0 k1 k2 j0 j1 j2 p0 p1 p2 r0 r1 r2 hm.q hm'.q hm.s0 hm'.s0 hm.s1 hm'.s1 hm.s2 hm'.s2 e1.symm e2.symm e3.symm e4.symm hq
    (fun r h => hr r (List.mem_append_left _ h)) (fun r h => hr r (List.mem_append_right _ (List.mem_append_left _ h))) (fun r h => hr r (List.mem_append_right _ (List.mem_append_right _ h))) lq l0 l1 l2

end Go.Proofs.Ytjkjhpaeckkpjaa

namespace Go.Proofs.Ytjkjhpaeckkpjaa
open Go.RowKit

def firstB : List UInt8 := [102, 105, 114, 115, 116]
def secondB : List UInt8 := [115, 101, 99, 111, 110, 100]
/-- An address of a name. -/
def adrR (nm : List UInt8) (t : UInt8) (i : Nat) : Rt := ⟨[nm], 1, 1, 0, ⟨[1, 2, t, UInt8.ofNat i], [], [], [], []⟩⟩
def adrL (nm : List UInt8) (t : UInt8) (k : Nat) : List Rt := (List.range k).map (adrR nm t)
theorem length_adr (nm : List UInt8) (t : UInt8) (k : Nat) : (adrL nm t k).length = k := by simp [adrL]
theorem adr_snoc (nm : List UInt8) (t : UInt8) (k : Nat) : adrL nm t (k + 1) = adrL nm t k ++ [adrR nm t k] := by simp [adrL, List.range_succ]
theorem adr_at {nm : List UInt8} {t : UInt8} {k i : Nat} (h : i < (adrL nm t k).length) : (adrL nm t k)[i] = adrR nm t i := by simp [adrL]
theorem first_sound1 : ∀ i, i < 120 → soundX (adrR firstB 3 i) = true := by decide +kernel
theorem second_sound1 : ∀ i, i < 120 → soundX (adrR secondB 4 i) = true := by decide +kernel
def setsH : Hd := ⟨0, true, 0, false, false, false, false, 0, false, 0⟩
def setsL (a b : Nat) : List Rt := adrL firstB 3 a ++ adrL secondB 4 b
def setsM (a b : Nat) : Mt := ⟨setsH, [], setsL a b, [], []⟩
theorem length_sets (a b : Nat) : (setsL a b).length = a + b := by
  unfold setsL
  rw [List.length_append, length_adr, length_adr]
theorem sets_each {a b : Nat} (ha : a ≤ 120) (hb : b ≤ 120) : ∀ r ∈ setsL a b, soundX r = true := fun r hr => by
  rcases List.mem_append.1 hr with h | h
  · obtain ⟨i, hi, rfl⟩ := List.mem_map.1 h
    have := List.mem_range.1 hi
    exact first_sound1 i (by omega)
  · obtain ⟨i, hi, rfl⟩ := List.mem_map.1 h
    have := List.mem_range.1 hi
    exact second_sound1 i (by omega)
theorem sets_sound {a b : Nat} (ha : a ≤ 120) (hb : b ≤ 120) : SoundM (setsM a b) := by
  refine ⟨show soundH setsH = true by decide +kernel, ?_, fun q hq => absurd hq (List.not_mem_nil), fun r hr => sets_each ha hb r ?_⟩
  · show 0 + (setsL a b).length + 0 + 0 ≤ 512
    rw [length_sets]
    omega
  · unfold Mt.all at hr
    simpa [setsM] using hr
theorem alike_adr (nm : List UInt8) (t : UInt8) (i j : Nat) : alikeB (adrR nm t i) (adrR nm t j) = true := alikeB_iff.2 ⟨rfl, rfl⟩
theorem sets_stop {a b k : Nat} (h : wholeN (setsL a b) k = k) (hk : k ≤ a + b) : k = 0 ∨ k = a ∨ k = a + b := by
  rcases Nat.eq_zero_or_pos k with h0 | h0
  · exact .inl h0
  rcases Nat.lt_or_ge k (a + b) with h1 | h1
  · obtain ⟨i, rfl⟩ : ∃ i, k = i + 1 := ⟨k - 1, by omega⟩
    have hl := length_sets a b
    rcases Nat.lt_or_ge (i + 1) a with h2 | h2
    · refine absurd h (wholeN_mid (by omega) ?_)
      have e1 : (setsL a b)[i]'(by omega) = adrR firstB 3 i := by
        unfold setsL
        rw [List.getElem_append_left (by rw [length_adr]; omega), adr_at]
      have e2 : (setsL a b)[i + 1]'(by omega) = adrR firstB 3 (i + 1) := by
        unfold setsL
        rw [List.getElem_append_left (by rw [length_adr]; omega), adr_at]
      rw [e1, e2]
      exact alike_adr _ _ _ _
    · rcases Nat.lt_or_ge a (i + 1) with h3 | h3
      · refine absurd h (wholeN_mid (by omega) ?_)
        have e1 : (setsL a b)[i]'(by omega) = adrR secondB 4 (i - a) := by
          unfold setsL
          rw [List.getElem_append_right (by rw [length_adr]; omega), adr_at, length_adr]
        have e2 : (setsL a b)[i + 1]'(by omega) = adrR secondB 4 (i + 1 - a) := by
          unfold setsL
          rw [List.getElem_append_right (by rw [length_adr]; omega), adr_at, length_adr]
        rw [e1, e2]
        exact alike_adr _ _ _ _
      · exact .inr (.inl (by omega))
  · exact .inr (.inr (by omega))
/-- What is told of them. -/
theorem sets_fit {a b : Nat} (ha : a ≤ 120) (hb : b ≤ 120) {s : Int} (h1 : 512 ≤ s) (h2 : s ≤ 65535) {res : Except Nat (List UInt8)} (h : FitIs (setsM a b) s res) :
    ∃ l x, res = .ok l ∧ (l.length : Int) ≤ s ∧ decM l = .ok x ∧ x.an.length ≤ a + b ∧ (x.an.length = 0 ∨ x.an.length = a ∨ x.an.length = a + b) ∧ x.h.tc = decide (x.an.length < a + b) := by
  have hs := sets_sound ha hb
  obtain ⟨k, hk, e⟩ := fitIs_sound hs h1 h2 h
  have hle := hk.le
  have hall : (setsM a b).all.length = a + b := by
    rw [Mt.all_length]
    show (setsL a b).length + 0 = _
    rw [length_sets]
    omega
  rw [hall] at hle
  have hst : k = 0 ∨ k = a ∨ k = a + b := sets_stop hk.stop hle
  have h0 : (lenF (setsM a b) 0 : Int) ≤ s := by
    have h3 : lenF (setsM a b) 0 = (setsM a b).head.length + 0 := rfl
    rw [h3, length_head hs]
    omega
  rcases e with ⟨_, hn⟩ | ⟨hf, e1, e2, e3⟩
  · rcases hk.fits with rfl | h3
    · exact absurd h0 hn
    · exact absurd h3 hn
  · have el : ((setsM a b).first k).an.length = k := by
      show ((setsL a b).take k).length = k
      rw [List.length_take, length_sets]
      omega
    refine ⟨_, _, e1, by omega, e3, by omega, by rw [el]; exact hst, ?_⟩
    rw [el]
    show (false || decide (k < (setsL a b).length + 0)) = _
    rw [length_sets]
    rfl

end Go.Proofs.Ytjkjhpaeckkpjaa

namespace Go.Proofs.Ytjkjhpaeckkpjaa
open Go.RowKit

def ansC : Hd := ⟨7, false, 0, false, false, false, false, 0, false, 0⟩
theorem cans_bytes {res : Except Nat (List UInt8)} (h : FitIs (bareV ansC).msg 512 res) : res = .ok [0, 7, 0, 0, 0, 0, 0, 0, 0, 0, 0, 0] := by
  have h1 : soundM (bareV ansC).msg = true := by decide +kernel
  have h2 : encM (bareV ansC).msg = [0, 7, 0, 0, 0, 0, 0, 0, 0, 0, 0, 0] := by decide +kernel
  have h3 : fitE (encE (bareV ansC).msg) 512 = some [0, 7, 0, 0, 0, 0, 0, 0, 0, 0, 0, 0] := by
    unfold encE
    rw [if_pos h1, h2]
    rfl
  exact h.uniq (fitIs_whole (soundM_iff.1 h1) (by omega) (by omega) h3)

set_option maxRecDepth 20000 in
set_option maxHeartbeats 4000000 in
theorem canswers_any (w : World) : Calls Try.prog 21 #[] w (TrueB w) := by
  have hh : HIn ansC := ⟨by decide, by decide, by decide, by decide⟩
  have HE := Lib.hid (show Calls Try.prog 23 #[valM ansC (.slice none 0 0) (.slice none 0 0) (.slice none 0 0) (.slice none 0 0), .int .i64 512] w (CFitOut w (bareV ansC) 512) from
    cfit_any w 512 (bareV ansC) (bare_at ansC w _) (bare_in hh) (bare_own ansC w) (fun i => by rw [bare_sec]; exact Nat.le_refl _) (Nat.zero_le _))
  go_enter Try.func21, Try.ntmps21
  go_wp2_with fail
  refine HE.out.mono ?_
  rintro e w1 ⟨res, hf, he⟩
  rw [cans_bytes hf] at he
  obtain ⟨hb1, A1, c1, rfl, hown⟩ := he
  have HB1 := Lib.hid hb1
  have HRW := Lib.hid (Row.of_own hown)
  obtain ⟨b, off, rfl, hblt, hcell⟩ := HRW.out.some_ (by simp)
  have q1 : w1.cell? ⟨b, off + 1, none⟩ = some (.int .u8 7) := hcell 1 _ rfl
  clear hb1 hown hcell HE hf
  go_wp2
  go_ret
  exact ⟨rfl, HB1.out⟩

end Go.Proofs.Ytjkjhpaeckkpjaa
