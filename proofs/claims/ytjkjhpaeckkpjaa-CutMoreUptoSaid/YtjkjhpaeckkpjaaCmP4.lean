/-
  The contract of PutRR of the document's Writer; rr.Put of nothing, and of a record that may not be.
-/
import Derived.Test.YtjkjhpaeckkpjaaCmP3
import Derived.Test.YtjkjhpaeckkpjaaMbP7
import Derived.Test.YtjkjhpaeckkpjaaMbP8
import Derived.Test.YtjkjhpaeckkpjaaCmP2
import Derived.Deep.CutRange
import Derived.Deep.RegionLaw
import Derived.Deep.RegionHeld3
import Derived.StillTailTactics
import Derived.Test.YtjkjhpaeckkpjaaMbP9
namespace Go.Proofs.Ytjkjhpaeckkpjaa
open Go.RowKit

section
variable {w : World} {base g : Nat} {Fp : Nat → Prop} {vB vR : Value} {B : List UInt8} {R : Rs}
theorem RWr.form (h : RWr w base Fp g vB vR B R) (hB : 0 < B.length) : ∃ b c, vB = .slice (some ⟨b, 0, none⟩) B.length c ∧ B.length ≤ c ∧ c ≤ maxLen := by
  obtain ⟨A, c, hv, h1, h2⟩ := own_form h.row
  subst hv
  rcases h.row.2 with ⟨hv, _⟩ | ⟨b, cap, cur, hv, _⟩
  · exfalso
    injection hv with _ hn _
    omega
  · injection hv with hA hn hc
    subst hA
    subst hc
    exact ⟨b, c, rfl, h1, h2⟩
/-- One byte of what stands there is another now. -/
theorem RWr.store {b c : Nat} (h : RWr w base Fp g (.slice (some ⟨b, 0, none⟩) B.length c) vR B R) {k : Nat} (hk : k < B.length) (u : UInt8) :
    RWr (w.setCell ⟨b, k, none⟩ (bc u)) base Fp g (.slice (some ⟨b, 0, none⟩) B.length c) vR (B.set k u) R := by
  have hne : b ≠ g := fun e => own_not_whole h.row h.blk (by decide) (by rw [← e]; rfl)
  have hk2 : ∀ j, j ≠ b → (w.setCell ⟨b, k, none⟩ (bc u)).heap[j]? = w.heap[j]? := fun j hj => Below.heap_setCell w ⟨b, k, none⟩ (bc u) j hj
  refine ⟨h.blk.keep (hk2 g (Ne.symm hne)), h.fg, ?_, h.frow, ?_, fun j hj => ?_⟩
  · have h1 := own_store h.row hk (bc u)
    rw [← List.map_set] at h1
    rw [List.length_set]
    exact h1
  · obtain ⟨vs, h1, h2, h3, h4⟩ := h.rests
    refine ⟨vs, h1, own_keep h2 fun j hj => hk2 j fun e => own_own_apart h2 h.row (by decide) hj (by rw [e]; rfl), h3, fun i hi => ?_⟩
    obtain ⟨A, c, h5, h6, h7⟩ := h4 i hi
    exact ⟨A, c, h5, own_keep h6 fun j hj => hk2 j fun e => own_own_apart h6 h.row (by decide) hj (by rw [e]; rfl), h7⟩
  · have := h.low j hj
    simp only [World.size_setCell]
    exact this
theorem rec_stays {x : RV} {r : Rt} {W : World} (hx : RAt w base x r) (hlow : ∀ j, Fp j → base ≤ j ∧ j < w.heap.size) (hb : base ≤ w.heap.size)
    (hp : RPenned base (w.alloc (.cells #[.slice x.A r.name.length x.c, .int .i64 r.kind, .int .i64 r.cls, .int .i64 r.ttl, .slice x.d.Ab r.data.bytes.length x.d.cb, .slice x.d.Ah r.data.host.length x.d.ch, .slice x.d.Am r.data.mail.length x.d.cm, .slice x.d.An r.data.nums.length x.d.cn, .slice x.d.At r.data.texts.length x.d.ct] 48)) Fp g B R W) : Whole W w.heap.size 48 [.slice x.A r.name.length x.c, .int .i64 r.kind, .int .i64 r.cls, .int .i64 r.ttl, .slice x.d.Ab r.data.bytes.length x.d.cb, .slice x.d.Ah r.data.host.length x.d.ch, .slice x.d.Am r.data.mail.length x.d.cm, .slice x.d.An r.data.nums.length x.d.cn, .slice x.d.At r.data.texts.length x.d.ct] ∧ RAt W base x r := by
  obtain ⟨_, _, _, _, hg, _⟩ := hp
  refine ⟨(Whole.made w [.slice x.A r.name.length x.c, .int .i64 r.kind, .int .i64 r.cls, .int .i64 r.ttl, .slice x.d.Ab r.data.bytes.length x.d.cb, .slice x.d.Ah r.data.host.length x.d.ch, .slice x.d.Am r.data.mail.length x.d.cm, .slice x.d.An r.data.nums.length x.d.cn, .slice x.d.At r.data.texts.length x.d.ct] _).keep (hg.block w.heap.size (by simp) fun hj => by have := (hlow _ hj).2; omega), (hx.below ((Below.refl _ _).alloc hb _)).below (hg.below (fun j hj => (hlow j hj).1) (by simp; omega))⟩
end
theorem digs_two (n : Nat) : digs n 2 = [UInt8.ofNat (n / 256), UInt8.ofNat n] := by simp [digs, List.range, List.range.loop]
theorem setB_two {B : List UInt8} {p : Nat} (a b : UInt8) (h : p + 2 ≤ B.length) : (B.set p a).set (p + 1) b = setB B p [a, b] := by
  obtain ⟨P, Q, rfl, rfl⟩ : ∃ P Q, B = P ++ Q ∧ P.length = p := ⟨B.take p, B.drop p, (List.take_append_drop p B).symm, by rw [List.length_take]; omega⟩
  match Q, h with
  | [], h => simp at h; omega
  | [_], h => simp at h
  | x :: y :: Q, _ =>
    unfold setB
    rw [List.set_append_right _ _ (Nat.le_refl _), List.set_append_right _ _ (by omega), List.take_left, Nat.sub_self, show P.length + 1 - P.length = 1 by omega, List.drop_append, List.drop_of_length_le (by omega)]
    simp

set_option maxRecDepth 20000 in
set_option maxHeartbeats 4000000 in
theorem rputRR_any (base : Nat) (w : World) (Fp : Nat → Prop) (g : Nat) (vB vR : Value) (B : List UInt8) (R : Rs) (x : RV) (r : Rt) (h : RWr w base Fp g vB vR B R) (hx : RAt w base x r) (hs : SoundR r) (hi : RIn r)
    (hB : B.length ≤ 90000000) (hR : R.length ≤ 700000) (hR16 : ∀ q ∈ R, q.2 < 16384 ∧ q.1.length ≤ 1000) :
    Calls Try.prog 58 #[.pointer (some ⟨g, 0, none⟩), x.val r] w (fun e w' => e = .returned (.bool true) ∧ RPenned base w Fp g (putRR r B R).1 (putRR r B R).2 w') := by
  have hp := soundN_parts hs.n
  have hnl := length_nameW_le true r.name B R hp.1
  have hnr := length_nameW_rests true r.name B R
  have hnz := length_lt_szN r.name
  have hn255 := hp.2
  have HR2 := Lib.hid (nameW_kept true r.name B R hR16 (by omega))
  have HR := Lib.hid hR16
  obtain ⟨WL, hWL, _, _, hD0⟩ := putRR_eq (B := B) (R := R) hs
  have hl0 : (putL [] 0 2).length = 2 := by decide +kernel
  have hl123 : (putL [] r.kind 2).length = 2 ∧ (putL [] r.cls 2).length = 2 ∧ (putL [] r.ttl 4).length = 4 := by
    have hkd : kindB r.kind = true := by have h := hs.d; unfold soundD at h; simp only [Bool.and_eq_true] at h; exact h.1
    simp only [kindB, decide_eq_true_eq] at hkd
    obtain ⟨_, s1, _, es1, _, _, l1⟩ := putL_fit (n := r.kind) (s := 2) (fitB_true (by omega) (by omega) (by omega) (by simp; omega))
    obtain ⟨_, s2, _, es2, _, _, l2⟩ := putL_fit hs.c
    obtain ⟨_, s3, _, es3, _, _, l3⟩ := putL_fit (n := r.ttl) (s := 4) (fitB_true (by omega) (by omega) hs.t0 (by have := hs.t1; simp; omega))
    omega
  obtain ⟨hl1, hl2, hl3⟩ := hl123
  have hHL : (putH8 r B R).length = (nameW true r.name B R).1.length + 8 := by
    unfold putH8
    simp only [List.length_append]
    omega
  have hD0L : (putD0 r B R).1.length = (putH8 r B R).length + 2 + WL.length := by
    rw [hD0]
    simp only [List.length_append, hl0]
  have HD := Lib.hid (show putRR r B R = (((putD0 r B R).1.set (putH8 r B R).length (UInt8.ofNat (WL.length / 256))).set ((putH8 r B R).length + 1) (UInt8.ofNat WL.length), (putD0 r B R).2) by
    unfold putRR
    rw [setB_two _ _ (by omega), show (putD0 r B R).1.length - ((putH8 r B R).length + 2) = WL.length by omega, digs_two])
  have HIK := Lib.hid (i64_top hi.k)
  have HIC := Lib.hid (i64_top hi.c)
  have HIT := Lib.hid (i64_top hi.t)
  have HIN := Lib.hid (fun n hn => i64_top (hi.nm n hn))
  have HS := Lib.hid hs
  have hlc := hx.l
  have HFIN := Lib.hid (fun B' R' W (hp : RPenned base (w.alloc (.cells #[.slice x.A r.name.length x.c, .int .i64 r.kind, .int .i64 r.cls, .int .i64 r.ttl, .slice x.d.Ab r.data.bytes.length x.d.cb, .slice x.d.Ah r.data.host.length x.d.ch, .slice x.d.Am r.data.mail.length x.d.cm, .slice x.d.An r.data.nums.length x.d.cn, .slice x.d.At r.data.texts.length x.d.ct] 48)) Fp g B' R' W) => hp.from)
  have HRC := Lib.hid (fun B' R' W (hp : RPenned base (w.alloc (.cells #[.slice x.A r.name.length x.c, .int .i64 r.kind, .int .i64 r.cls, .int .i64 r.ttl, .slice x.d.Ab r.data.bytes.length x.d.cb, .slice x.d.Ah r.data.host.length x.d.ch, .slice x.d.Am r.data.mail.length x.d.cm, .slice x.d.An r.data.nums.length x.d.cn, .slice x.d.At r.data.texts.length x.d.ct] 48)) Fp g B' R' W) => rec_stays hx h.low h.size hp)
  have HP := Lib.hid (show RPenned base (w.alloc (.cells #[.slice x.A r.name.length x.c, .int .i64 r.kind, .int .i64 r.cls, .int .i64 r.ttl, .slice x.d.Ab r.data.bytes.length x.d.cb, .slice x.d.Ah r.data.host.length x.d.ch, .slice x.d.Am r.data.mail.length x.d.cm, .slice x.d.An r.data.nums.length x.d.cn, .slice x.d.At r.data.texts.length x.d.ct] 48)) Fp g B R (w.alloc (.cells #[.slice x.A r.name.length x.c, .int .i64 r.kind, .int .i64 r.cls, .int .i64 r.ttl, .slice x.d.Ab r.data.bytes.length x.d.cb, .slice x.d.Ah r.data.host.length x.d.ch, .slice x.d.Am r.data.mail.length x.d.cm, .slice x.d.An r.data.nums.length x.d.cn, .slice x.d.At r.data.texts.length x.d.ct] 48)) from ⟨Fp, vB, vR, h.below ((Below.refl _ _).alloc (Nat.le_refl _) _), Grew.refl _ _, fun _ hj => .inl hj⟩)
  clear hp h hx hs hi hR16 hD0
  go_enter Try.func58, Try.ntmps58
  go_wp2_with fail
  refine (rnameP HP.out x.A x.c r.name true (HRC.out _ _ _ HP.out).2.n hlc HS.out.n (by omega) (by omega) HR.out).mono ?_
  rintro e w1 ⟨rfl, hpn⟩
  generalize w.alloc (.cells #[.slice x.A r.name.length x.c, .int .i64 r.kind, .int .i64 r.cls, .int .i64 r.ttl, .slice x.d.Ab r.data.bytes.length x.d.cb, .slice x.d.Ah r.data.host.length x.d.ch, .slice x.d.Am r.data.mail.length x.d.cm, .slice x.d.An r.data.nums.length x.d.cn, .slice x.d.At r.data.texts.length x.d.ct] 48) = w0 at *
  have HP := Lib.hid hpn
  clear hpn
  have p1 : w1.cell? ⟨w.heap.size, 1, none⟩ = some (.int .i64 r.kind) := (HRC.out _ _ _ HP.out).1.cell 1
  go_wp2_with fail
  refine (rnumP HP.out r.kind 2 (by omega) HIK.out).mono ?_
  rintro e w2 ⟨rfl, hpn⟩
  have HP := Lib.hid hpn
  clear hpn p1
  have p2 : w2.cell? ⟨w.heap.size, 2, none⟩ = some (.int .i64 r.cls) := (HRC.out _ _ _ HP.out).1.cell 2
  go_wp2_with fail
  refine (rnumP HP.out r.cls 2 (by rw [List.length_append]; omega) HIC.out).mono ?_
  rintro e w3 ⟨rfl, hpn⟩
  have HP := Lib.hid hpn
  clear hpn p2
  have p3 : w3.cell? ⟨w.heap.size, 3, none⟩ = some (.int .i64 r.ttl) := (HRC.out _ _ _ HP.out).1.cell 3
  go_wp2_with fail
  refine (rnumP HP.out r.ttl 4 (by rw [List.length_append, List.length_append]; omega) HIT.out).mono ?_
  rintro e w4 ⟨rfl, hpn⟩
  have HP := Lib.hid hpn
  clear hpn p3
  rw [show (((nameW true r.name B R).1 ++ putL [] r.kind 2) ++ putL [] r.cls 2) ++ putL [] r.ttl 4 = putH8 r B R from rfl] at HP
  obtain ⟨Gp, vB1, vR1, h1, hg, hf⟩ := HP.out
  obtain ⟨b1, c1, rfl, hc1, hc2⟩ := h1.form (by omega)
  have q0 := h1.c0
  obtain ⟨H, hHH⟩ : ∃ H, H = (putH8 r B R).length := ⟨_, rfl⟩
  rw [← hHH] at q0 HD hD0L hHL
  have hHb : H ≤ B.length + 300 := by omega
  have HH := Lib.hid hHH
  have HL0 := Lib.hid hl0
  clear h1 hg hf hc1 hc2 hHL hl0 hl1 hl2 hl3 hHH hnl
  go_wp2_with fail
  clear q0
  refine (rnumP HP.out 0 2 (by rw [← HH.out]; omega) (by omega)).mono ?_
  rintro e w5 ⟨rfl, hpn⟩
  have HP := Lib.hid hpn
  clear hpn
  have p1 : w5.cell? ⟨w.heap.size, 1, none⟩ = some (.int .i64 r.kind) := (HRC.out _ _ _ HP.out).1.cell 1
  have p4 : w5.cell? ⟨w.heap.size, 4, none⟩ = some (.slice x.d.Ab r.data.bytes.length x.d.cb) := (HRC.out _ _ _ HP.out).1.cell 4
  have p5 : w5.cell? ⟨w.heap.size, 5, none⟩ = some (.slice x.d.Ah r.data.host.length x.d.ch) := (HRC.out _ _ _ HP.out).1.cell 5
  have p6 : w5.cell? ⟨w.heap.size, 6, none⟩ = some (.slice x.d.Am r.data.mail.length x.d.cm) := (HRC.out _ _ _ HP.out).1.cell 6
  have p7 : w5.cell? ⟨w.heap.size, 7, none⟩ = some (.slice x.d.An r.data.nums.length x.d.cn) := (HRC.out _ _ _ HP.out).1.cell 7
  have p8 : w5.cell? ⟨w.heap.size, 8, none⟩ = some (.slice x.d.At r.data.texts.length x.d.ct) := (HRC.out _ _ _ HP.out).1.cell 8
  go_wp2_with fail
  obtain ⟨Gp, vB2, vR2, h1, hg, hf⟩ := HP.out
  refine (rput_any base w5 Gp g vB2 vR2 _ _ r.kind x.d r.data h1 (HRC.out _ _ _ HP.out).2.d HS.out.d HIN.out (by rw [List.length_append, HL0.out, ← HH.out]; omega) (by omega) HR2.out).mono ?_
  rintro e w6 ⟨rfl, hpn⟩
  have HP := Lib.hid (show RPenned base w0 Fp g (putD0 r B R).1 (putD0 r B R).2 w6 from RPenned.then hg hf hpn)
  clear hpn h1 hg hf p1 p4 p5 p6 p7 p8 HRC HR HR2
  obtain ⟨Gp, vB3, vR3, h1, hg, hf⟩ := HP.out
  obtain ⟨b, c, rfl, hc3, hc4⟩ := h1.form (by omega)
  have q0 := h1.c0
  obtain ⟨D, hDD⟩ : ∃ D, D = (putD0 r B R).1 := ⟨_, rfl⟩
  rw [← hDD] at h1 HP q0 hD0L hc3 HD
  have HDD := Lib.hid hDD
  have hbg : b ≠ g := fun e => own_not_whole h1.row h1.blk (by decide) (by rw [← e]; rfl)
  have f0 : w6.frozen? ⟨b, H, none⟩ = false := own_frozen h1.row _
  have k0 : w6.cell? ⟨b, H, none⟩ = some (((D.map bc))[H]'(by rw [List.length_map]; omega)) := own_cell h1.row _
  have f1 : w6.frozen? ⟨b, H + 1, none⟩ = false := own_frozen h1.row _
  have k1 : w6.cell? ⟨b, H + 1, none⟩ = some (((D.map bc))[H + 1]'(by rw [List.length_map]; omega)) := own_cell h1.row _
  have h2 := h1.store (k := H) (by omega) (UInt8.ofNat (WL.length / 256))
  have hx1 : b ≠ g ∧ g ≠ b := ⟨hbg, Ne.symm hbg⟩
  have h3 := RWr.store (B := D.set H (UInt8.ofNat (WL.length / 256))) (c := c) (b := b) (by rw [List.length_set]; exact h2) (k := H + 1) (by rw [List.length_set]; omega) (UInt8.ofNat WL.length)
  have hg3 := (hg.setCell (a := ⟨b, H, none⟩) (hf b (h1.frow b rfl)) (bc (UInt8.ofNat (WL.length / 256)))).setCell (a := ⟨b, H + 1, none⟩) (hf b (h1.frow b rfl)) (bc (UInt8.ofNat WL.length))
  have hz : RPenned base w0 Fp g ((D.set H (UInt8.ofNat (WL.length / 256))).set (H + 1) (UInt8.ofNat WL.length)) (putD0 r B R).2 ((w6.setCell ⟨b, H, none⟩ (bc (UInt8.ofNat (WL.length / 256)))).setCell ⟨b, H + 1, none⟩ (bc (UInt8.ofNat WL.length))) := ⟨Gp, _, _, h3, hg3, hf⟩
  have hz2 := HFIN.out _ _ _ hz
  rw [bc_dig, bc_dig, show (((WL.length / 256 : Nat) : Int) % 256) = (WL.length : Int) / 256 by omega] at hz2
  have hz3 := HD.out
  have HZ := Lib.hid hz2
  clear h1 h2 h3 hg hf hz hz2 hz3 hg3 hDD HFIN
  go_wp2
  go_ret
  rw [HD.out, show (H : Int) + 2 + (WL.length : Int) - (H : Int) - 2 = (WL.length : Int) by omega]
  exact ⟨rfl, HZ.out⟩

set_option maxHeartbeats 400000 in
theorem rrput_nil (w : World) : Calls Try.prog 30 #[.pointer none, .agg #[.slice none 0 0, .int .i64 99, .int .i64 0, .int .i64 0, .slice none 0 0, .slice none 0 0, .slice none 0 0, .slice none 0 0, .slice none 0 0]] w (Gave w (.int .i64 2)) := by
  go_enter Try.func30, Try.ntmps30
  go_wp2
  go_ret
  exact ⟨rfl, (Below.refl _ _).alloc (Nat.le_refl _) _⟩
set_option maxHeartbeats 400000 in
theorem rrput_bad (w : World) (g : Nat) (x : RV) (r : Rt) (hx : RAt w w.heap.size x r) (hs : soundR r = false) (hi : RIn r) (hl : LightR r) :
    Calls Try.prog 30 #[.pointer (some ⟨g, 0, none⟩), x.val r] w (Gave w (.int .i64 2)) := by
  have HB0 := Lib.hid ((Below.refl w.heap.size w).alloc (Nat.le_refl _) (.cells #[.slice x.A r.name.length x.c, .int .i64 r.kind, .int .i64 r.cls, .int .i64 r.ttl, .slice x.d.Ab r.data.bytes.length x.d.cb, .slice x.d.Ah r.data.host.length x.d.ch, .slice x.d.Am r.data.mail.length x.d.cm, .slice x.d.An r.data.nums.length x.d.cn, .slice x.d.At r.data.texts.length x.d.ct] 48))
  have HSD := Lib.hid (rsound_any x r (w.alloc (.cells #[.slice x.A r.name.length x.c, .int .i64 r.kind, .int .i64 r.cls, .int .i64 r.ttl, .slice x.d.Ab r.data.bytes.length x.d.cb, .slice x.d.Ah r.data.host.length x.d.ch, .slice x.d.Am r.data.mail.length x.d.cm, .slice x.d.An r.data.nums.length x.d.cn, .slice x.d.At r.data.texts.length x.d.ct] 48)) ((hx.below HB0.out).mono HB0.out.size) hi hl)
  rw [hs] at HSD
  clear hs hi hl hx
  go_enter Try.func30, Try.ntmps30
  go_wp2_with fail
  refine HSD.out.mono ?_
  rintro e w1 ⟨rfl, hb⟩
  have HB := Lib.hid (HB0.out.trans (hb.mono (by simp)))
  clear hb
  go_wp2
  go_ret
  exact ⟨rfl, HB.out⟩

end Go.Proofs.Ytjkjhpaeckkpjaa

namespace Go.Proofs.Ytjkjhpaeckkpjaa
open Go.RowKit

/-- Rests that may be led to, of few labels. -/
def Kept (R : Rs) : Prop := ∀ q ∈ R, q.2 < 16384 ∧ q.1.length ≤ 1000
theorem Kept.nil : Kept [] := fun _ h => absurd h (List.not_mem_nil)
theorem Kept.putD {s : Sh} {d : Dt} (B : List UInt8) {R : Rs} (h : Kept R) (lh : d.host.length ≤ 1000) (lm : d.mail.length ≤ 1000) : Kept (putD s d B R).2 := by
  have hH : Kept (putH s d B R).2 := by
    unfold putH
    cases hh : s.host
    · simp only [Bool.false_eq_true, if_false]
      exact h
    · simp only [if_true]
      exact nameW_kept _ _ _ _ h lh
  unfold Go.Proofs.Ytjkjhpaeckkpjaa.putD
  dsimp only
  unfold putM
  cases hh : s.mail
  · simp only [Bool.false_eq_true, if_false]
    exact hH
  · simp only [if_true]
    exact nameW_kept _ _ _ _ hH lm
theorem Kept.putRR {r : Rt} (B : List UInt8) {R : Rs} (h : Kept R) (l : LightR r) : Kept (putRR r B R).2 := by
  have l0 := l.l0
  have l1 := l.l1
  have l2 := l.l2
  exact Kept.putD _ (nameW_kept true r.name B R h (by omega)) (by omega) (by omega)
theorem Kept.putQs : ∀ {qs : List Qt} {s : List UInt8 × Rs}, Kept s.2 → (∀ q ∈ qs, q.name.length ≤ 200) → Kept (putQs qs s).2
  | [], _, h, _ => h
  | q :: qs, s, h, hl => Kept.putQs (qs := qs) (s := putQ q s.1 s.2) (nameW_kept true q.name s.1 s.2 h (by have := hl q (List.mem_cons_self); omega)) fun x hx => hl x (List.mem_cons_of_mem _ hx)
theorem Kept.putRs : ∀ {rs : List Rt} {s : List UInt8 × Rs}, Kept s.2 → (∀ r ∈ rs, LightR r) → Kept (putRs rs s).2
  | [], _, h, _ => h
  | r :: rs, s, h, hl => Kept.putRs (rs := rs) (s := Go.Proofs.Ytjkjhpaeckkpjaa.putRR r s.1 s.2) (Kept.putRR s.1 h (hl r (List.mem_cons_self))) fun x hx => hl x (List.mem_cons_of_mem _ hx)

/-- The record that Edns and Size are, as bytes. -/
theorem opt_bytes {n : Int} (h : fitB n 2 = true) (B : List UInt8) (R : Rs) : putRR (optR n) B R = (((B ++ [0, 0, 41]) ++ putL [] n 2) ++ [0, 0, 0, 0, 0, 0], R) := by
  obtain ⟨WL, hWL, _, _, hD0⟩ := putRR_eq (B := B) (R := R) (opt_sound h)
  have e1 : putL [] 41 2 = [0, 41] := by decide +kernel
  have e2 : putL [] 0 4 = [0, 0, 0, 0] := by decide +kernel
  have e3 : putL [] 0 2 = [0, 0] := by decide +kernel
  have h8 : putH8 (optR n) B R = (((B ++ [0]) ++ [0, 41]) ++ putL [] n 2) ++ [0, 0, 0, 0] := by
    unfold putH8
    show (((nameW true [] B R).1 ++ putL [] 41 2) ++ putL [] n 2) ++ putL [] 0 4 = _
    rw [nameW_nil, e1, e2]
  have hd : putD0 (optR n) B R = (putH8 (optR n) B R ++ [0, 0], R) := by
    unfold putD0
    show putD (shN 41) ⟨[], [], [], [], []⟩ (putH8 (optR n) B R ++ putL [] 0 2) (nameW true [] B R).2 = _
    rw [nameW_nil, e3]
    unfold putD putM putH
    simp [show (shN 41).host = false by decide +kernel, show (shN 41).mail = false by decide +kernel, numsW, textsW]
  unfold putRR
  rw [hd]
  dsimp only
  rw [show (putH8 (optR n) B R ++ ([0, 0] : List UInt8)).length - ((putH8 (optR n) B R).length + 2) = 0 by simp, show digs 0 2 = [0, 0] by decide +kernel]
  have hs : ∀ P : List UInt8, setB (P ++ [0, 0]) P.length [0, 0] = P ++ [0, 0] := fun P => by
    unfold setB
    simp
  rw [hs, h8]
  simp

/-- All that is written of a sound message is fine. -/
theorem fine_q {m : Mt} (hs : SoundM m) (k : Nat) (hk : k ≤ m.qs.length) : Fine (putQs (m.qs.take k) (m.head, [])) ∧ (putQs (m.qs.take k) (m.head, [])).1.length ≤ 12 + 70000 * k ∧ (putQs (m.qs.take k) (m.head, [])).2.length ≤ 900 * k := by
  have h := putQs_good (m.qs.take k) (m.head, []) (GoodR.nil _) fun q h => hs.q q (List.mem_of_mem_take h)
  rw [List.length_take, Nat.min_eq_left hk] at h
  have h1 := h.l
  have h2 := h.r
  have h3 := length_head hs
  have h4 := hs.n
  have e1 : ((m.head, []) : List UInt8 × Rs).1.length = m.head.length := rfl
  have e2 : ((m.head, []) : List UInt8 × Rs).2.length = 0 := rfl
  rw [e1, h3] at h1
  rw [e2] at h2
  exact ⟨⟨by omega, by omega, h.g⟩, h1, by omega⟩
theorem fine_r {m : Mt} (hs : SoundM m) (k : Nat) (hk : k ≤ m.all.length) : Fine (putRs (m.all.take k) (putQs m.qs (m.head, []))) := by
  obtain ⟨h0, h1, h2⟩ := fine_q hs m.qs.length (Nat.le_refl _)
  rw [List.take_length] at h0 h1 h2
  have h := putRs_good (m.all.take k) (putQs m.qs (m.head, [])) h0.g fun r h => (soundX_iff.1 (hs.r r (List.mem_of_mem_take h))).2
  rw [List.length_take, Nat.min_eq_left hk] at h
  have h3 := h.l
  have h4 := h.r
  have h5 := hs.n
  have h6 : m.all.length = m.an.length + (m.au.length + m.ex.length) := by unfold Mt.all; rw [List.length_append, List.length_append]
  exact ⟨by omega, by omega, h.g⟩
theorem enc_all {m : Mt} : encM m = (putRs (if m.h.edns = true then [optR m.h.size] else []) (putRs m.all (putQs m.qs (m.head, [])))).1 := by
  rw [← putRs_append]
  unfold encM Mt.all Mt.exX
  simp only [List.append_assoc]

theorem flag_any (b : Bool) (n : Nat) (w : World) (_ : n ≤ 65536) : Calls Try.prog 56 #[.bool b, .int .i64 n] w (fun e w' => e = .returned (.int .i64 (bit b n : Nat)) ∧ w' = w) := by
  cases b <;>
  · go_enter Try.func56, Try.ntmps56
    go_wp2
    go_ret
    exact ⟨rfl, rfl⟩
theorem RPenned.low {base : Nat} {w w' : World} {Fp : Nat → Prop} {g : Nat} {B : List UInt8} {R : Rs} (h : RPenned base w Fp g B R w') (hF : ∀ j, Fp j → base ≤ j) (hb : base ≤ w.heap.size) : Below base w w' := by
  obtain ⟨_, _, _, _, hg, _⟩ := h
  exact hg.below hF hb
theorem RWr.new (w : World) : RWr (w.alloc (.cells #[.slice none 0 0, .slice none 0 0] 94)) w.heap.size (fun j => j = w.heap.size) w.heap.size (.slice none 0 0) (.slice none 0 0) [] [] := by
  refine ⟨heap_alloc_new w _, rfl, World.ownsRow_nil _ _ _ _, fun j hj => by simp [Value.ownBlock] at hj, ⟨[], rfl, World.ownsRow_nil _ _ _ _, fun j hj => by simp [Value.ownBlock] at hj, fun i hi => absurd hi (Nat.not_lt_zero _)⟩, fun j hj => ?_⟩
  subst hj
  exact ⟨Nat.le_refl _, by simp⟩

/-- What Raw answers. -/
def RawOut (w : World) (b : List UInt8) (e : Ending) (w' : World) : Prop :=
  ∃ A c, e = .returned (.slice A b.length c) ∧ w'.ownsRow w.heap.size 5 1 (.slice A b.length c) b.length (b.map bc) ∧ Below w.heap.size w w'
def QRawRel (base : Nat) (W : World) (Fp : Nat → Prop) (g : Nat) (qs : List Qt) (S : List UInt8 × Rs) (i : Value) (wr : World) : Prop :=
  ∃ k : Nat, k ≤ qs.length ∧ i = .int .i64 k ∧ RPenned base W Fp g (putQs (qs.take k) S).1 (putQs (qs.take k) S).2 wr
def RRawRel (base : Nat) (W : World) (Fp : Nat → Prop) (g : Nat) (rs : List Rt) (S : List UInt8 × Rs) (i : Value) (wr : World) : Prop :=
  ∃ k : Nat, k ≤ rs.length ∧ i = .int .i64 k ∧ RPenned base W Fp g (putRs (rs.take k) S).1 (putRs (rs.take k) S).2 wr
def AllRawRel (wq : World) (ps : List (RV × Rt)) (v : Value) (wx : World) : Prop :=
  ∃ (A : Option Addr) (c : Nat), v = .slice A ps.length c ∧ wx.ownsRow wq.heap.size 48 9 v ps.length (ps.flatMap cellsR) ∧ Below wq.heap.size wq wx

end Go.Proofs.Ytjkjhpaeckkpjaa

namespace Go.Proofs.Ytjkjhpaeckkpjaa
open Go.RowKit

/-- What is written of a question or a record hangs on the place alone. -/
theorem putQ_shift (q : Qt) (B C : List UInt8) (R : Rs) (h : B.length = C.length) : ∃ W R', putQ q B R = (B ++ W, R') ∧ putQ q C R = (C ++ W, R') := by
  obtain ⟨W, R', h1, h2⟩ := nameW_shift true q.name B C R h
  refine ⟨(W ++ putL [] q.kind 2) ++ putL [] q.cls 2, R', ?_, ?_⟩
  · unfold putQ
    rw [h1]
    simp
  · unfold putQ
    rw [h2]
    simp
theorem putQs_shift : ∀ (qs : List Qt) (B C : List UInt8) (R : Rs), B.length = C.length → ∃ W R', putQs qs (B, R) = (B ++ W, R') ∧ putQs qs (C, R) = (C ++ W, R')
  | [], B, C, R, _ => ⟨[], R, by simp [putQs], by simp [putQs]⟩
  | q :: qs, B, C, R, h => by
    obtain ⟨W, R', h1, h2⟩ := putQ_shift q B C R h
    obtain ⟨W2, R2, h3, h4⟩ := putQs_shift qs (B ++ W) (C ++ W) R' (by simp [h])
    refine ⟨W ++ W2, R2, ?_, ?_⟩
    · show putQs qs (putQ q B R) = _
      rw [h1, h3, List.append_assoc]
    · show putQs qs (putQ q C R) = _
      rw [h2, h4, List.append_assoc]
theorem putRR_shift {r : Rt} (hs : SoundR r) (B C : List UInt8) (R : Rs) (h : B.length = C.length) : ∃ W R', putRR r B R = (B ++ W, R') ∧ putRR r C R = (C ++ W, R') := by
  obtain ⟨X, R1, x1, x2⟩ := nameW_shift true r.name B C R h
  obtain ⟨W, _, w1, w2, _⟩ := putRR_eq (B := B) (R := R) hs
  obtain ⟨V, _, v1, v2, _⟩ := putRR_eq (B := C) (R := R) hs
  have hB : putH8 r B R = B ++ (((X ++ putL [] r.kind 2) ++ putL [] r.cls 2) ++ putL [] r.ttl 4) := by
    unfold putH8
    rw [x1]
    simp
  have hC : putH8 r C R = C ++ (((X ++ putL [] r.kind 2) ++ putL [] r.cls 2) ++ putL [] r.ttl 4) := by
    unfold putH8
    rw [x2]
    simp
  rw [x1] at w1
  rw [x2] at v1
  obtain ⟨Y, R2, y1, y2⟩ := putD_shift (shN r.kind) r.data (putH8 r B R ++ digs W.length 2) (putH8 r C R ++ digs V.length 2) R1 (by rw [hB, hC]; simp [length_digs, h])
  rw [y1] at w1
  rw [y2] at v1
  rw [w1] at w2
  rw [v1] at v2
  have e1 : Y = W := List.append_cancel_left w2
  have e2 : Y = V := List.append_cancel_left v2
  subst e1; subst e2
  refine ⟨(((X ++ putL [] r.kind 2) ++ putL [] r.cls 2) ++ putL [] r.ttl 4) ++ (digs Y.length 2 ++ Y), R2, ?_, ?_⟩
  · rw [w1, hB]
    simp
  · rw [v1, hC]
    simp
theorem putRs_shift : ∀ (rs : List Rt) (B C : List UInt8) (R : Rs), (∀ r ∈ rs, SoundR r) → B.length = C.length → ∃ W R', putRs rs (B, R) = (B ++ W, R') ∧ putRs rs (C, R) = (C ++ W, R')
  | [], B, C, R, _, _ => ⟨[], R, by simp [putRs], by simp [putRs]⟩
  | r :: rs, B, C, R, hs, h => by
    obtain ⟨W, R', h1, h2⟩ := putRR_shift (hs r (List.mem_cons_self ..)) B C R h
    obtain ⟨W2, R2, h3, h4⟩ := putRs_shift rs (B ++ W) (C ++ W) R' (fun x hx => hs x (List.mem_cons_of_mem _ hx)) (by simp [h])
    refine ⟨W ++ W2, R2, ?_, ?_⟩
    · show putRs rs (putRR r B R) = _
      rw [h1, h3, List.append_assoc]
    · show putRs rs (putRR r C R) = _
      rw [h2, h4, List.append_assoc]

/-- The message with the first n of its records alone. -/
def Mt.first (m : Mt) (n : Nat) : Mt := ⟨{ m.h with tc := m.h.tc || decide (n < m.an.length + m.au.length) }, m.qs, m.an.take n, m.au.take (n - m.an.length), m.ex.take (n - m.an.length - m.au.length)⟩
theorem first_msg (m : MV) (n : Nat) : (m.first n).msg = m.msg.first n := by
  have e : ∀ (ps : List (RV × Rt)) k, recs (ps.take k) = (recs ps).take k := fun ps k => by unfold recs; rw [List.map_take]
  show Mt.mk _ _ (recs (m.s0.ps.take n)) (recs (m.s1.ps.take (n - m.s0.ps.length))) (recs (m.s2.ps.take (n - m.s0.ps.length - m.s1.ps.length))) = _
  rw [e, e, e]
  unfold Mt.first MV.msg
  dsimp only
  rw [length_recs, length_recs]
  rfl
theorem first_all (m : Mt) (n : Nat) : (m.first n).all = m.all.take n := by
  unfold Mt.all Mt.first
  dsimp only
  rw [List.take_append, List.take_append]
theorem Mt.all_length (m : Mt) : m.all.length = m.an.length + (m.au.length + m.ex.length) := by
  unfold Mt.all
  rw [List.length_append, List.length_append]
theorem first_whole {m : Mt} {n : Nat} (h : m.all.length ≤ n) : m.first n = m := by
  rw [Mt.all_length] at h
  unfold Mt.first
  rw [List.take_of_length_le (by omega), List.take_of_length_le (by omega), List.take_of_length_le (by omega), decide_eq_false (by omega), Bool.or_false]
theorem first_sound {m : Mt} (hs : SoundM m) (n : Nat) : SoundM (m.first n) := by
  refine ⟨hs.h, ?_, hs.q, fun r hr => ?_⟩
  · have h1 := hs.n
    show m.qs.length + (m.an.take n).length + (m.au.take (n - m.an.length)).length + (m.ex.take (n - m.an.length - m.au.length)).length ≤ 512
    rw [List.length_take, List.length_take, List.length_take]
    omega
  · rw [first_all] at hr
    exact hs.r r (List.mem_of_mem_take hr)

/-- How long the first n records are, with all that stands ahead of them. -/
def lenF (m : Mt) (n : Nat) : Nat := (putRs (m.all.take n) (putQs m.qs (m.head, []))).1.length + (if m.h.edns = true then 11 else 0)
theorem first_len {m : Mt} (hs : SoundM m) (n : Nat) : (encM (m.first n)).length = lenF m n := by
  have h1 := length_head hs
  have h2 := length_head (first_sound hs n)
  obtain ⟨W, R1, w1, w2⟩ := putQs_shift m.qs m.head (m.first n).head [] (by rw [h1, h2])
  obtain ⟨V, R2, v1, v2⟩ := putRs_shift (m.all.take n) (m.head ++ W) ((m.first n).head ++ W) R1 (fun r hr => (soundX_iff.1 (hs.r r (List.mem_of_mem_take hr))).2) (by rw [List.length_append, List.length_append, h1, h2])
  have hz : fitB m.h.size 2 = true := by
    have hh := hs.h
    unfold soundH at hh
    simp only [Bool.and_eq_true] at hh
    exact hh.2.2.2.1
  have l2 : (putL [] m.h.size 2).length = 2 := by rw [(fit2 hz).2.2.1]; simp [length_digs]
  rw [enc_all, first_all]
  unfold lenF
  show (putRs (if m.h.edns = true then [optR m.h.size] else []) (putRs (m.all.take n) (putQs m.qs ((m.first n).head, [])))).1.length = _
  rw [w1, w2, v1, v2]
  cases m.h.edns with
  | false =>
    simp only [Bool.false_eq_true, if_false]
    show ((m.first n).head ++ W ++ V).length = (m.head ++ W ++ V).length + 0
    simp only [List.length_append, h1, h2]
    omega
  | true =>
    simp only [if_true]
    show (putRR (optR m.h.size) ((m.first n).head ++ W ++ V) R2).1.length = (m.head ++ W ++ V).length + 11
    rw [opt_bytes hz]
    simp only [List.length_append, h1, h2, l2, List.length_cons, List.length_nil]
theorem lenF_mono {m : Mt} (hs : SoundM m) {a b : Nat} (h : a ≤ b) : lenF m a ≤ lenF m b := by
  have hq := (putQs_good m.qs (m.head, []) (GoodR.nil _) hs.q).g
  have hr : ∀ r ∈ m.all, SoundR r := fun r h => (soundX_iff.1 (hs.r r h)).2
  have h1 := (putRs_good (m.all.take a) _ hq fun r h => hr r (List.mem_of_mem_take h)).g
  have e : m.all.take b = m.all.take a ++ (m.all.take b).drop a := by
    have := List.take_append_drop a (m.all.take b)
    rw [List.take_take, Nat.min_eq_left h] at this
    exact this.symm
  obtain ⟨S, hS⟩ := (putRs_good ((m.all.take b).drop a) _ h1 fun r h => hr r (List.mem_of_mem_take (List.mem_of_mem_drop h))).x
  unfold lenF
  rw [e, putRs_append, hS, List.length_append]
  omega
/-- Do the first n of the records fit? -/
theorem fits_first {m : Mt} (hs : SoundM m) {s : Int} (hs2 : s ≤ 65535) (n : Nat) : fitE (encE (m.first n)) s = if (lenF m n : Int) ≤ s then some (encM (m.first n)) else none := by
  have h1 := first_len hs n
  unfold encE
  rw [if_pos (soundM_iff.2 (first_sound hs n)), h1]
  by_cases h : (lenF m n : Int) ≤ s
  · rw [if_neg (by omega)]
    show (if ((encM (m.first n)).length : Int) ≤ s then _ else _) = _
    rw [h1, if_pos h]
  · rw [if_neg h]
    split
    · rfl
    · show (if ((encM (m.first n)).length : Int) ≤ s then _ else _) = _
      rw [h1, if_neg h]
theorem tooBig_iff {m : MV} (hs : SoundM m.msg) {s : Int} (hs2 : s ≤ 65535) (i : Nat) : tooBig m s i = !decide ((lenF m.msg (i + 1) : Int) ≤ s) := by
  unfold tooBig
  rw [first_msg, fits_first hs hs2]
  split <;> rename_i h
  · rw [decide_eq_true h]; rfl
  · rw [decide_eq_false h]; rfl
theorem tooBig_mono {m : MV} (hs : SoundM m.msg) {s : Int} (hs2 : s ≤ 65535) (a b : Nat) (h : a ≤ b) (ha : tooBig m s a = true) : tooBig m s b = true := by
  rw [tooBig_iff hs hs2] at ha ⊢
  simp only [Bool.not_eq_true', decide_eq_false_iff_not] at ha ⊢
  have := lenF_mono hs (show a + 1 ≤ b + 1 by omega)
  omega

/-- Alike is an equivalence. -/
theorem alikeB_iff {a b : Rt} : alikeB a b = true ↔ a.kind = b.kind ∧ lowN a.name = lowN b.name := by
  unfold alikeB eqN
  rw [Bool.and_eq_true, decide_eq_true_eq, decide_eq_true_eq]
theorem wholeN_stop (rs : List Rt) : ∀ n, wholeN rs (wholeN rs n) = wholeN rs n
  | 0 => rfl
  | n + 1 => by
    by_cases h1 : n + 1 < rs.length
    · by_cases h2 : alikeB (rs[n]'(by omega)) rs[n + 1] = true
      · have e : wholeN rs (n + 1) = wholeN rs n := by rw [wholeN, dif_pos h1, if_pos h2]
        rw [e]
        exact wholeN_stop rs n
      · have e : wholeN rs (n + 1) = n + 1 := by rw [wholeN, dif_pos h1, if_neg h2]
        rw [e, e]
    · have e : wholeN rs (n + 1) = n + 1 := by rw [wholeN, dif_neg h1]
      rw [e, e]
/-- It is the last end of a set that is not behind n. -/
theorem wholeN_last (rs : List Rt) : ∀ n k, k ≤ n → wholeN rs k = k → k ≤ wholeN rs n
  | 0, k, hk, _ => by rw [Nat.le_zero.1 hk]; exact Nat.zero_le _
  | n + 1, k, hk, hst => by
    rcases Nat.lt_or_ge n k with h | h
    · obtain rfl : k = n + 1 := by omega
      rw [hst]
      exact Nat.le_refl _
    · have h0 := wholeN_last rs n k h hst
      by_cases h1 : n + 1 < rs.length
      · by_cases h2 : alikeB (rs[n]'(by omega)) rs[n + 1] = true
        · rw [wholeN, dif_pos h1, if_pos h2]
          exact h0
        · rw [wholeN, dif_pos h1, if_neg h2]
          omega
      · rw [wholeN, dif_neg h1]
        omega
theorem wholeN_big {rs : List Rt} {n : Nat} (h : rs.length ≤ n) : wholeN rs n = n := by
  cases n with
  | zero => rfl
  | succ n => rw [wholeN, dif_neg (by omega)]
/-- Between two alike records no set ends. -/
theorem wholeN_mid {rs : List Rt} {n : Nat} (h1 : n + 1 < rs.length) (h2 : alikeB (rs[n]'(by omega)) rs[n + 1] = true) : wholeN rs (n + 1) ≠ n + 1 := by
  rw [wholeN, dif_pos h1, if_pos h2]
  have := wholeN_le rs n
  omega
theorem wholeN_end {rs : List Rt} {n : Nat} (h1 : n + 1 < rs.length) (h2 : alikeB (rs[n]'(by omega)) rs[n + 1] = false) : wholeN rs (n + 1) = n + 1 := by
  rw [wholeN, dif_pos h1, if_neg (by rw [h2]; decide)]

/-- k is the last end of a set at which m fits into s bytes; 0, if it fits at none. -/
structure LastFit (m : Mt) (s : Int) (k : Nat) : Prop where
  le : k ≤ m.all.length
  stop : wholeN m.an k = k
  last : ∀ n, n ≤ m.all.length → wholeN m.an n = n → (lenF m n : Int) ≤ s → n ≤ k
  fits : k = 0 ∨ (lenF m k : Int) ≤ s
/-- What is left of a message that must fit into s bytes, of its first k records. -/
def cutR (m : Mt) (s : Int) (k : Nat) : Except Nat (List UInt8) := if (lenF m k : Int) ≤ s then .ok (encM (m.first k)) else .error 4
theorem LastFit.uniq {m : Mt} {s : Int} {k l : Nat} (h : LastFit m s k) (g : LastFit m s l) : k = l := by
  rcases h.fits with rfl | h1
  · rcases g.fits with rfl | g1
    · rfl
    · have := h.last l g.le g.stop g1
      omega
  · have a1 := g.last k h.le h.stop h1
    rcases g.fits with rfl | g1
    · omega
    · have a2 := h.last l g.le g.stop g1
      omega
theorem lastFit_whole {m : Mt} {s : Int} (h : (lenF m m.all.length : Int) ≤ s) : LastFit m s m.all.length :=
  ⟨Nat.le_refl _, wholeN_big (by rw [Mt.all_length]; omega), fun _ hn _ _ => hn, .inr h⟩
theorem lastFit_first {m : MV} (hs : SoundM m.msg) {s : Int} (hs2 : s ≤ 65535) {r : Nat} (hr : FirstYes (tooBig m s) (m.s0.ps.length + m.s1.ps.length + m.s2.ps.length) r) : LastFit m.msg s (wholeN m.msg.an r) := by
  have hl : m.msg.all.length = m.s0.ps.length + m.s1.ps.length + m.s2.ps.length := by rw [all_len]; omega
  have hw := wholeN_le m.msg.an r
  have hrl := hr.le
  refine ⟨by omega, wholeN_stop _ _, fun n hn hst hf => ?_, ?_⟩
  · refine wholeN_last _ _ _ ?_ hst
    rcases Nat.lt_or_ge r n with h | h
    · have h1 := hr.yes (by omega)
      rw [tooBig_iff hs hs2] at h1
      simp only [Bool.not_eq_true', decide_eq_false_iff_not] at h1
      have := lenF_mono hs (show r + 1 ≤ n by omega)
      omega
    · exact h
  · cases r with
    | zero => exact .inl (Nat.le_zero.1 hw)
    | succ r =>
      have h1 := hr.no r (Nat.lt_succ_self r)
      rw [tooBig_iff hs hs2] at h1
      simp only [Bool.not_eq_false', decide_eq_true_eq] at h1
      have := lenF_mono hs hw
      exact .inr (by omega)

/-- What Fit answers. -/
def FitIs (m : Mt) (s : Int) (res : Except Nat (List UInt8)) : Prop :=
  if s < 512 ∨ 65535 < s then res = .error 1 else if soundM m = false then res = .error 2 else ∃ k, LastFit m s k ∧ res = cutR m s k
theorem FitIs.uniq {m : Mt} {s : Int} {r t : Except Nat (List UInt8)} (h : FitIs m s r) (g : FitIs m s t) : r = t := by
  unfold FitIs at h g
  split at h
  · rw [if_pos (by assumption)] at g
    rw [h, g]
  · rw [if_neg (by assumption)] at g
    split at h
    · rw [if_pos (by assumption)] at g
      rw [h, g]
    · rw [if_neg (by assumption)] at g
      obtain ⟨k, hk, rfl⟩ := h
      obtain ⟨l, hl, rfl⟩ := g
      rw [hk.uniq hl]
theorem fitIs_of {m : Mt} (hs : SoundM m) {s : Int} (h1 : ¬ s < 512) (h2 : ¬ 65535 < s) {k : Nat} (hk : LastFit m s k) : FitIs m s (cutR m s k) := by
  unfold FitIs
  rw [if_neg (by omega), if_neg (by rw [soundM_iff.2 hs]; decide)]
  exact ⟨k, hk, rfl⟩
theorem fitIs_whole {m : Mt} (hs : SoundM m) {s : Int} (h1 : ¬ s < 512) (h2 : ¬ 65535 < s) {b : List UInt8} (hb : fitE (encE m) s = some b) : FitIs m s (.ok b) := by
  have e := fits_first hs (show s ≤ 65535 by omega) m.all.length
  rw [first_whole (Nat.le_refl _), hb] at e
  by_cases h : (lenF m m.all.length : Int) ≤ s
  · rw [if_pos h] at e
    injection e with e
    have h3 := fitIs_of hs h1 h2 (lastFit_whole h)
    unfold cutR at h3
    rw [if_pos h, first_whole (Nat.le_refl _)] at h3
    rw [e]
    exact h3
  · rw [if_neg h] at e
    cases e
def orLarge : Option (List UInt8) → Except Nat (List UInt8)
  | some b => .ok b
  | none => .error 4
theorem fitIs_first {m : MV} (hs : SoundM m.msg) {s : Int} (h1 : ¬ s < 512) (h2 : ¬ 65535 < s) {r : Nat} (hr : FirstYes (tooBig m s) (m.s0.ps.length + m.s1.ps.length + m.s2.ps.length) r) : FitIs m.msg s (orLarge (fitE (encE (m.first (wholeN m.msg.an r)).msg) s)) := by
  have h3 := fitIs_of hs h1 h2 (lastFit_first hs (by omega) hr)
  rw [first_msg, fits_first hs (by omega)]
  unfold cutR at h3
  split <;> rename_i h
  · rw [if_pos h] at h3
    exact h3
  · rw [if_neg h] at h3
    exact h3

end Go.Proofs.Ytjkjhpaeckkpjaa

namespace Go.Proofs.Ytjkjhpaeckkpjaa
open Go.RowKit

def CFitOut (w : World) (m : MV) (s : Int) (e : Ending) (w' : World) : Prop := ∃ res, FitIs m.msg s res ∧ EncOut w res e w'

set_option maxRecDepth 20000 in
set_option maxHeartbeats 8000000 in
theorem cfit_core (w : World) (s : Int) (m : MV) (h : Hd) (qA : Option Addr) (qc : Nat) (qp : List (QV × Qt)) (A0 A1 A2 : Option Addr) (k0 k1 k2 : Nat) (p0 p1 p2 : List (RV × Rt)) (he : m = ⟨h, qA, qc, qp, ⟨A0, k0, p0⟩, ⟨A1, k1, p1⟩, ⟨A2, k2, p2⟩⟩)
    (hm : MAt w w.heap.size m) (hi : MIn m) (ho : OwnedM w m) (hc : ∀ i, (m.sec i).ps.length ≤ (m.sec i).c) (hcm : m.s2.c ≤ maxLen) :
    Calls Try.prog 23 #[valM h (.slice qA qp.length qc) (.slice A0 p0.length k0) (.slice A1 p1.length k1) (.slice A2 p2.length k2), .int .i64 s] w (CFitOut w m s) := by
  obtain ⟨W, hW⟩ : ∃ W, W = w.alloc (.cells #[.int .i64 h.id, .bool h.resp, .int .i64 h.op, .bool h.aa, .bool h.tc, .bool h.rd, .bool h.ra, .int .i64 h.rc, .slice qA qp.length qc, .slice A0 p0.length k0, .slice A1 p1.length k1, .slice A2 p2.length k2, .bool h.edns, .int .i64 h.size] 25) := ⟨_, rfl⟩
  have hB : Below w.heap.size w W := by rw [hW]; exact (Below.refl _ _).alloc (Nat.le_refl _) _
  have hzW : W.heap.size = w.heap.size + 1 := by rw [hW]; simp
  have hwm : Whole W w.heap.size 25 (cellsM h (.slice qA qp.length qc) (.slice A0 p0.length k0) (.slice A1 p1.length k1) (.slice A2 p2.length k2)) := by rw [hW]; exact Whole.made w [.int .i64 h.id, .bool h.resp, .int .i64 h.op, .bool h.aa, .bool h.tc, .bool h.rd, .bool h.ra, .int .i64 h.rc, .slice qA qp.length qc, .slice A0 p0.length k0, .slice A1 p1.length k1, .slice A2 p2.length k2, .bool h.edns, .int .i64 h.size] _
  have ev : m.val = valM h (.slice qA qp.length qc) (.slice A0 p0.length k0) (.slice A1 p1.length k1) (.slice A2 p2.length k2) := by rw [he]
  have HC := Lib.hid (fun (W' : World) (hb : Below W.heap.size W W') => cells14 (hwm.below hb (by omega)))
  have HW := Lib.hid (fun (W' : World) (hb : Below W.heap.size W W') => hB.trans (hb.mono hB.size))
  have HSD := Lib.hid (fun (W' : World) (hb : Below W.heap.size W W') => (show Calls Try.prog 15 #[valM h (.slice qA qp.length qc) (.slice A0 p0.length k0) (.slice A1 p1.length k1) (.slice A2 p2.length k2)] W' (Gave W' (.bool (soundM m.msg))) from by
    have h1 := msound_any W' m ((hm.below (HW.out _ hb)).mono (HW.out _ hb).size) hi
    rwa [ev] at h1))
  have HEN := Lib.hid (fun (W' : World) (hb : Below W.heap.size W W') => (show Calls Try.prog 44 #[valM h (.slice qA qp.length qc) (.slice A0 p0.length k0) (.slice A1 p1.length k1) (.slice A2 p2.length k2), .int .i64 s] W' (CEncOut W' (fitE (encE m.msg) s)) from by
    have h1 := cencode_any W' m s ((hm.below (HW.out _ hb)).mono (HW.out _ hb).size) hi (ho.below (HW.out _ hb)) ⟨hc 2, hcm⟩
    rwa [ev] at h1))
  have HMO := Lib.hid (fun (hs : SoundM m.msg) (hs2 : s ≤ 65535) (W' : World) (hb : Below W.heap.size W W') => (show Calls Try.prog 46 #[valM h (.slice qA qp.length qc) (.slice A0 p0.length k0) (.slice A1 p1.length k1) (.slice A2 p2.length k2), .int .i64 s] W' (MostOut W' m s) from by
    have h1 := most_any W' s m ((hm.below (HW.out _ hb)).mono (HW.out _ hb).size) hi (ho.below (HW.out _ hb)) hc (fun a b hab _ => tooBig_mono hs hs2 a b hab)
    rwa [ev] at h1))
  have HWS := Lib.hid (fun (r : Nat) (hr : r ≤ 100000) (W' : World) (hb : Below W.heap.size W W') => (show Calls Try.prog 45 #[.slice A0 p0.length k0, .int .i64 r] W' (Gave W' (.int .i64 (wholeN (recs m.s0.ps) r : Nat))) from by
    have h0 := (hm.below (HW.out _ hb)).s0.mono (HW.out _ hb).size
    have h1 := wholeSets_any W' m.s0.A m.s0.c r m.s0.ps h0 (fun p hp => (hi.r 0 p hp).1.n) (by have := hi.rl 0; exact Nat.le_trans this (by omega)) hr
    rw [he] at h1 ⊢
    exact h1))
  have HFI := Lib.hid (fun (r : Nat) (hr : r ≤ 100000) (W' : World) (hb : Below W.heap.size W W') => (show Calls Try.prog 47 #[valM h (.slice qA qp.length qc) (.slice A0 p0.length k0) (.slice A1 p1.length k1) (.slice A2 p2.length k2), .int .i64 r] W' (Gave W' (m.first r).val) from by
    have h1 := first_any W' m r hr hi.rl hc
    rw [ev] at h1
    exact h1))
  have HE2 := Lib.hid (fun (r : Nat) (W' : World) (hb : Below W.heap.size W W') => (show Calls Try.prog 44 #[(m.first r).val, .int .i64 s] W' (CEncOut W' (fitE (encE (m.first r).msg) s)) from
    cencode_any W' (m.first r) s ((first_at (hm.below (HW.out _ hb)) r).mono (HW.out _ hb).size) (first_in hi _) ((first_owned ho _).below (HW.out _ hb)) (first_cap m _ (hi.rl 2))))
  have HN := Lib.hid (show m.s0.ps.length + m.s1.ps.length + m.s2.ps.length ≤ 3000 by have h0 := hi.rl 0; have h1 := hi.rl 1; have h2 := hi.rl 2; have e0 : (m.sec 0).ps.length = m.s0.ps.length := rfl; have e1 : (m.sec 1).ps.length = m.s1.ps.length := rfl; have e2 : (m.sec 2).ps.length = m.s2.ps.length := rfl; omega)
  have HRF := Lib.hid (Below.refl W.heap.size W)
  clear hB hzW hwm hm hi ho hc hcm ev he
  by_cases hs1 : s < 512
  · have d0 : decide (s < 512) = true := decide_eq_true hs1
    have HI := Lib.hid (show FitIs m.msg s (.error 1) from by unfold FitIs; rw [if_pos (.inl hs1)])
    have HBW := Lib.hid (HW.out W HRF.out)
    clear hs1
    subst hW
    go_enter Try.func23, Try.ntmps23
    go_wp2
    refine ⟨rfl, .tuple #[.slice none 0 0, .int .i64 1], by simp [results, Try.results23, go_sem], ?_⟩
    exact ⟨_, HI.out, HBW.out, rfl⟩
  by_cases hs2 : 65535 < s
  · have d0 : decide (s < 512) = false := decide_eq_false hs1
    have d1 : decide (65535 < s) = true := decide_eq_true hs2
    have HI := Lib.hid (show FitIs m.msg s (.error 1) from by unfold FitIs; rw [if_pos (.inr hs2)])
    have HBW := Lib.hid (HW.out W HRF.out)
    clear hs1 hs2
    subst hW
    go_enter Try.func23, Try.ntmps23
    go_wp2
    refine ⟨rfl, .tuple #[.slice none 0 0, .int .i64 1], by simp [results, Try.results23, go_sem], ?_⟩
    exact ⟨_, HI.out, HBW.out, rfl⟩
  have d0 : decide (s < 512) = false := decide_eq_false hs1
  have d1 : decide (65535 < s) = false := decide_eq_false hs2
  cases hsd : soundM m.msg with
  | false =>
    have HI := Lib.hid (show FitIs m.msg s (.error 2) from by unfold FitIs; rw [if_neg (by omega), if_pos hsd])
    rw [hsd] at HSD
    clear hs1 hs2 hsd HEN HMO HWS HFI HE2 HN HC
    subst hW
    go_enter Try.func23, Try.ntmps23
    go_wp2_with fail
    refine (HSD.out _ HRF.out).mono ?_
    rintro e w1 ⟨rfl, hb1⟩
    have HB1 := Lib.hid (HW.out _ hb1)
    clear hb1
    go_wp2
    refine ⟨rfl, .tuple #[.slice none 0 0, .int .i64 2], by simp [results, Try.results23, go_sem], ?_⟩
    exact ⟨_, HI.out, HB1.out, rfl⟩
  | true =>
  have hsm := soundM_iff.1 hsd
  have HFW := Lib.hid (fun b (hb : fitE (encE m.msg) s = some b) => fitIs_whole hsm hs1 hs2 hb)
  have HFF := Lib.hid (fun r (hr : FirstYes (tooBig m s) (m.s0.ps.length + m.s1.ps.length + m.s2.ps.length) r) => (show FitIs m.msg s (orLarge (fitE (encE (m.first (wholeN (recs m.s0.ps) r)).msg) s)) from fitIs_first hsm hs1 hs2 hr))
  have HMO := Lib.hid (HMO.out hsm (by omega))
  rw [hsd] at HSD
  clear hs1 hs2 hsd hsm
  subst hW
  go_enter Try.func23, Try.ntmps23
  go_wp2_with fail
  refine (HSD.out _ HRF.out).mono ?_
  rintro e w1 ⟨rfl, hb1⟩
  generalize w.alloc (.cells #[.int .i64 h.id, .bool h.resp, .int .i64 h.op, .bool h.aa, .bool h.tc, .bool h.rd, .bool h.ra, .int .i64 h.rc, .slice qA qp.length qc, .slice A0 p0.length k0, .slice A1 p1.length k1, .slice A2 p2.length k2, .bool h.edns, .int .i64 h.size] 25) = V at *
  have HB1 := Lib.hid hb1
  clear hb1 d0 d1 HSD
  obtain ⟨m0, m1, m2, m3, m4, m5, m6, m7, m8, m9, m10, m11, m12, m13⟩ := HC.out w1 HB1.out
  go_wp2_with fail
  refine (HEN.out _ HB1.out).mono ?_
  intro e w2 he2
  clear m0 m1 m2 m3 m4 m5 m6 m7 m8 m9 m10 m11 m12 m13
  cases hf : fitE (encE m.msg) s with
  | some b =>
    rw [hf] at he2
    obtain ⟨hb2, A, c, rfl, ho⟩ := he2
    have HI := Lib.hid (HFW.out b hf)
    have HB2 := Lib.hid (HW.out _ (HB1.out.trans (hb2.mono HB1.out.size)))
    have HO := Lib.hid (own_mono ho (HW.out _ HB1.out).size)
    clear hb2 ho hf HFW HFF HMO HEN HWS HFI HE2 HN HC HW HB1
    go_wp2
    refine ⟨rfl, .tuple #[.slice A b.length c, .int .i64 0], by simp [results, Try.results23, go_sem], ?_⟩
    exact ⟨_, HI.out, HB2.out, A, c, rfl, HO.out⟩
  | none =>
  rw [hf] at he2
  obtain ⟨hb2, rfl⟩ := he2
  have HBX := Lib.hid ((HB1.out.trans (hb2.mono HB1.out.size)).drew)
  have HBY := Lib.hid (HB1.out.trans (hb2.mono HB1.out.size))
  clear hb2 hf HB1 HFW HEN
  go_wp2
  go_region_held3 (fun X => X.cell? ⟨w.heap.size, 0, none⟩ = some (.int .i64 h.id) ∧ X.cell? ⟨w.heap.size, 1, none⟩ = some (.bool h.resp) ∧ X.cell? ⟨w.heap.size, 2, none⟩ = some (.int .i64 h.op) ∧ X.cell? ⟨w.heap.size, 3, none⟩ = some (.bool h.aa) ∧ X.cell? ⟨w.heap.size, 4, none⟩ = some (.bool h.tc) ∧ X.cell? ⟨w.heap.size, 5, none⟩ = some (.bool h.rd) ∧ X.cell? ⟨w.heap.size, 6, none⟩ = some (.bool h.ra) ∧ X.cell? ⟨w.heap.size, 7, none⟩ = some (.int .i64 h.rc) ∧ X.cell? ⟨w.heap.size, 8, none⟩ = some (.slice qA qp.length qc) ∧ X.cell? ⟨w.heap.size, 9, none⟩ = some (.slice A0 p0.length k0) ∧ X.cell? ⟨w.heap.size, 10, none⟩ = some (.slice A1 p1.length k1) ∧ X.cell? ⟨w.heap.size, 11, none⟩ = some (.slice A2 p2.length k2) ∧ X.cell? ⟨w.heap.size, 12, none⟩ = some (.bool h.edns) ∧ X.cell? ⟨w.heap.size, 13, none⟩ = some (.int .i64 h.size))
    (exact HC.out _ HBX.out)
    ((first
      | (go_at_call 46
         refine (HMO.out _ HBX.out).mono ?_
         rintro e wn ⟨hb, r, rfl, hr⟩
         have HR := Lib.hid hr
         have hrl : r ≤ 100000 := by have h1 := hr.le; have h2 := HN.out; omega
         have HBX := Lib.hid (HBX.out.trans (hb.mono HBX.out.size))
         clear hb hr)
      | (go_at_call 45
         refine (HWS.out r hrl _ HBX.out).mono ?_
         rintro e wn ⟨rfl, hb⟩
         have HBX := Lib.hid (HBX.out.trans (hb.mono HBX.out.size))
         clear hb)))
  all_goals
    rename_i hheld
    clear hheld
    have hkl := Nat.le_trans (wholeN_le (recs m.s0.ps) r) hrl
    have HF1 := Lib.hid (fun (W' : World) (hb : Below V.heap.size V W') => HFI.out (wholeN (recs m.s0.ps) r) hkl W' hb)
    have HE1 := Lib.hid (fun (W' : World) (hb : Below V.heap.size V W') => HE2.out (wholeN (recs m.s0.ps) r) W' hb)
    have HFO := Lib.hid (HFF.out r HR.out)
    clear HFF HFI HE2 HMO HWS HR HN
    obtain ⟨m0, m1, m2, m3, m4, m5, m6, m7, m8, m9, m10, m11, m12, m13⟩ := HC.out _ HBX.out
    revert HF1 HE1 HFO hkl
    generalize wholeN (recs m.s0.ps) r = kk
    intro hkl HF1 HE1 HFO
    revert HF1 HE1 HFO
    generalize (m.first kk).val = fv
    generalize fitE (encE (m.first kk).msg) s = o
    intro HF1 HE1 HFO
    go_wp2_with fail
    refine (HF1.out _ HBX.out).mono ?_
    rintro e w4 ⟨rfl, hb4⟩
    have HB4 := Lib.hid (HBX.out.trans (hb4.mono HBX.out.size))
    clear hb4 m0 m1 m2 m3 m4 m5 m6 m7 m8 m9 m10 m11 m12 m13
    go_wp2_with fail
    refine (HE1.out _ HB4.out).mono ?_
    intro e w5 he5
    cases o with
    | some b =>
      obtain ⟨hb5, A, c, rfl, ho⟩ := he5
      have HB5 := Lib.hid (HW.out _ (HB4.out.trans (hb5.mono HB4.out.size)))
      have HO := Lib.hid (own_mono ho (HW.out _ HB4.out).size)
      clear hb5 ho HF1 HE1 HC HW HB4
      go_wp2
      refine ⟨rfl, .tuple #[.slice A b.length c, .int .i64 0], by simp [results, Try.results23, go_sem], ?_⟩
      exact ⟨_, HFO.out, HB5.out, A, c, rfl, HO.out⟩
    | none =>
      obtain ⟨hb5, rfl⟩ := he5
      have HB5 := Lib.hid (HW.out _ (HB4.out.trans (hb5.mono HB4.out.size)))
      clear hb5 HF1 HE1 HC HW HB4
      go_wp2
      refine ⟨rfl, .tuple #[.slice none 0 0, .int .i64 4], by simp [results, Try.results23, go_sem], ?_⟩
      exact ⟨_, HFO.out, HB5.out, rfl⟩
theorem cfit_any (w : World) (s : Int) (m : MV) (hm : MAt w w.heap.size m) (hi : MIn m) (ho : OwnedM w m) (hc : ∀ i, (m.sec i).ps.length ≤ (m.sec i).c) (hcm : m.s2.c ≤ maxLen) :
    Calls Try.prog 23 #[m.val, .int .i64 s] w (CFitOut w m s) := by
  obtain ⟨h, qA, qc, qp, ⟨A0, k0, p0⟩, ⟨A1, k1, p1⟩, ⟨A2, k2, p2⟩⟩ := m
  exact cfit_core w s _ h qA qc qp A0 A1 A2 k0 k1 k2 p0 p1 p2 rfl hm hi ho hc hcm

end Go.Proofs.Ytjkjhpaeckkpjaa

namespace Go.Proofs.Ytjkjhpaeckkpjaa
open Go.RowKit

theorem encOut_no {w w' : World} {r : Except Nat (List UInt8)} {e : Ending} {k : Nat} (h : EncOut w r e w') (hr : r = .error k) : e = .returned (.tuple #[.slice none 0 0, .int .i64 k]) ∧ Below w.heap.size w w' := by
  subst hr
  exact ⟨h.2, h.1⟩
theorem encOut_yes {w w' : World} {r : Except Nat (List UInt8)} {e : Ending} {l : List UInt8} (h : EncOut w r e w') (hr : r = .ok l) : ∃ A c, e = .returned (.tuple #[.slice A l.length c, .int .i64 0]) ∧ w'.ownsRow w.heap.size 5 1 (.slice A l.length c) l.length (l.map bc) ∧ Below w.heap.size w w' := by
  subst hr
  obtain ⟨h1, A, c, h2, h3⟩ := h
  exact ⟨A, c, h2, h3, h1⟩
theorem decOut_yes {w w' : World} {r : Except Nat Mt} {e : Ending} {x : Mt} (h : DecOut w r e w') (hr : r = .ok x) : ∃ m : MV, e = .returned (.tuple #[m.val, .int .i64 0]) ∧ m.msg = x ∧ DOwn w' w.heap.size m ∧ Below w.heap.size w w' := by
  subst hr
  obtain ⟨h1, m, h2, h3, h4⟩ := h
  exact ⟨m, h2, h3, h4, h1⟩
/-- What Fit answers of a sound message within a size that may be. -/
theorem fitIs_sound {m : Mt} (hs : SoundM m) {s : Int} (h1 : 512 ≤ s) (h2 : s ≤ 65535) {res : Except Nat (List UInt8)} (h : FitIs m s res) :
    ∃ k, LastFit m s k ∧ ((res = .error 4 ∧ ¬ (lenF m k : Int) ≤ s) ∨ ((lenF m k : Int) ≤ s ∧ res = .ok (encM (m.first k)) ∧ (encM (m.first k)).length = lenF m k ∧ decM (encM (m.first k)) = .ok (m.first k))) := by
  unfold FitIs at h
  rw [if_neg (by omega), if_neg (by rw [soundM_iff.2 hs]; decide)] at h
  obtain ⟨k, hk, rfl⟩ := h
  refine ⟨k, hk, ?_⟩
  have hl := first_len hs k
  unfold cutR
  split <;> rename_i hf
  · have h3 := dec_enc (first_sound hs k) [] (by simp; omega)
    simp only [List.append_nil, if_true] at h3
    exact .inr ⟨hf, rfl, hl, h3⟩
  · exact .inl ⟨rfl, hf⟩
theorem cut_more {m : Mt} (hs : SoundM m) {n k : Int} (h1 : 512 ≤ n) (hnk : n ≤ k) (h2 : k ≤ 65535) {r1 r2 : Except Nat (List UInt8)} (f1 : FitIs m n r1) (f2 : FitIs m k r2) :
    r1 = .error 4 ∨ ∃ a b x y, r1 = .ok a ∧ r2 = .ok b ∧ decM a = .ok x ∧ decM b = .ok y ∧ a.length ≤ b.length ∧ x.an.length ≤ y.an.length ∧ x.au.length ≤ y.au.length ∧ x.ex.length ≤ y.ex.length ∧ (x.h.tc = true ∨ (x.h.tc = false ∧ y.h.tc = false)) := by
  obtain ⟨a, ha, ea⟩ := fitIs_sound hs h1 (by omega) f1
  obtain ⟨b, hb, eb⟩ := fitIs_sound hs (by omega) h2 f2
  rcases ea with ⟨ea, _⟩ | ⟨fa, ea, la, da⟩
  · exact .inl ea
  · have hab : a ≤ b := hb.last a ha.le ha.stop (by omega)
    have hm := lenF_mono hs hab
    rcases eb with ⟨_, nb⟩ | ⟨fb, eb, lb, db⟩
    · rcases hb.fits with rfl | h3
      · obtain rfl : a = 0 := by omega
        omega
      · exact absurd h3 nb
    · refine .inr ⟨_, _, _, _, ea, eb, da, db, by omega, ?_, ?_, ?_, ?_⟩
      · show (m.an.take a).length ≤ (m.an.take b).length
        rw [List.length_take, List.length_take]
        omega
      · show (m.au.take (a - m.an.length)).length ≤ (m.au.take (b - m.an.length)).length
        rw [List.length_take, List.length_take]
        omega
      · show (m.ex.take (a - m.an.length - m.au.length)).length ≤ (m.ex.take (b - m.an.length - m.au.length)).length
        rw [List.length_take, List.length_take]
        omega
      · show (m.h.tc || decide (a < m.an.length + m.au.length)) = true ∨ ((m.h.tc || decide (a < m.an.length + m.au.length)) = false ∧ (m.h.tc || decide (b < m.an.length + m.au.length)) = false)
        cases m.h.tc with
        | true => exact .inl rfl
        | false =>
          by_cases h3 : a < m.an.length + m.au.length
          · exact .inl (by rw [decide_eq_true h3]; rfl)
          · exact .inr ⟨by rw [decide_eq_false h3]; rfl, by rw [decide_eq_false (by omega)]; rfl⟩

end Go.Proofs.Ytjkjhpaeckkpjaa

namespace Go.Proofs.Ytjkjhpaeckkpjaa
open Go.RowKit

def ansC : Hd := ⟨7, false, 0, false, false, false, false, 0, false, 0⟩
theorem cans_bytes {res : Except Nat (List UInt8)} (h : FitIs (bareV ansC).msg 512 res) : res = .ok [0, 7, 0, 0, 0, 0, 0, 0, 0, 0, 0, 0] := by
  have h1 : soundM (bareV ansC).msg = true := by decide +kernel
  have h2 : encM (bareV ansC).msg = [0, 7, 0, 0, 0, 0, 0, 0, 0, 0, 0, 0] := by decide +kernel
  have h3 : fitE (encE (bareV ansC).msg) 512 = some [0, 7, 0, 0, 0, 0, 0, 0, 0, 0, 0, 0] := by
    unfold encE
    rw [if_pos h1, h2]
    rfl
  exact h.uniq (fitIs_whole (soundM_iff.1 h1) (by omega) (by omega) h3)

set_option maxRecDepth 20000 in
set_option maxHeartbeats 4000000 in
theorem canswers_any (w : World) : Calls Try.prog 21 #[] w (TrueB w) := by
  have hh : HIn ansC := ⟨by decide, by decide, by decide, by decide⟩
  have HE := Lib.hid (show Calls Try.prog 23 #[valM ansC (.slice none 0 0) (.slice none 0 0) (.slice none 0 0) (.slice none 0 0), .int .i64 512] w (CFitOut w (bareV ansC) 512) from
    cfit_any w 512 (bareV ansC) (bare_at ansC w _) (bare_in hh) (bare_own ansC w) (fun i => by rw [bare_sec]; exact Nat.le_refl _) (Nat.zero_le _))
  go_enter Try.func21, Try.ntmps21
  go_wp2_with fail
  refine HE.out.mono ?_
  rintro e w1 ⟨res, hf, he⟩
  rw [cans_bytes hf] at he
  obtain ⟨hb1, A1, c1, rfl, hown⟩ := he
  have HB1 := Lib.hid hb1
  have HRW := Lib.hid (Row.of_own hown)
  obtain ⟨b, off, rfl, hblt, hcell⟩ := HRW.out.some_ (by simp)
  have q1 : w1.cell? ⟨b, off + 1, none⟩ = some (.int .u8 7) := hcell 1 _ rfl
  clear hb1 hown hcell HE hf
  go_wp2
  go_ret
  exact ⟨rfl, HB1.out⟩

end Go.Proofs.Ytjkjhpaeckkpjaa

namespace Go.Proofs.Ytjkjhpaeckkpjaa
open Go.RowKit

/-- The message with the first n of its records, in room that is as it was. -/
def MV.down (m : MV) (n : Nat) : MV :=
  ⟨{ m.h with tc := m.h.tc || decide (n < m.s0.ps.length + m.s1.ps.length) }, m.qA, m.qc, m.qp, ⟨m.s0.A, m.s0.c, m.s0.ps.take n⟩, ⟨m.s1.A, m.s1.c, m.s1.ps.take (n - m.s0.ps.length)⟩, ⟨m.s2.A, m.s2.c, m.s2.ps.take (n - m.s0.ps.length - m.s1.ps.length)⟩⟩
theorem down_msg (m : MV) (n : Nat) : (m.down n).msg = m.msg.first n := first_msg m n
theorem down_at {w : World} {H : Nat} {m : MV} (h : MAt w H m) (n : Nat) : MAt w H (m.down n) := ⟨h.q, upto_at h.s0 _, upto_at h.s1 _, upto_at h.s2 _⟩
theorem down_in {m : MV} (h : MIn m) (n : Nat) : MIn (m.down n) := by
  refine ⟨⟨h.h.i, h.h.o, h.h.r, h.h.s⟩, h.q, fun i => ?_, h.ql, fun i => ?_⟩
  · exact sec_all (m := m.down n) (P := fun s => ∀ p ∈ s.ps, RIn p.2 ∧ LightR p.2) (upto_sub (h.r 0)) (upto_sub (h.r 1)) (upto_sub (h.r 2)) i
  · exact sec_all (m := m.down n) (P := fun s => s.ps.length ≤ 1000) (upto_len (h.rl 0)) (upto_len (h.rl 1)) (upto_len (h.rl 2)) i
theorem down_whole {m : MV} {n : Nat} (h : m.s0.ps.length + m.s1.ps.length + m.s2.ps.length ≤ n) : m.down n = m := by
  unfold MV.down
  rw [List.take_of_length_le (by omega), List.take_of_length_le (by omega), List.take_of_length_le (by omega), decide_eq_false (by omega), Bool.or_false]

/-- Where the records that are alike to the last one of the first n begin, a set ends, and none ends in between. -/
theorem run_end {A : List Rt} {n j : Nat} {x : Rt} (hn : n ≤ A.length) (hj : j < n) (hal : ∀ i (h : i < n), j ≤ i → alikeB (A[i]'(by omega)) x = true) (hst : ∀ (h : 0 < j), alikeB (A[j - 1]'(by omega)) x = false) :
    wholeN A j = j ∧ ∀ k, k < n → wholeN A k = k → k ≤ j := by
  constructor
  · cases j with
    | zero => rfl
    | succ i =>
      refine wholeN_end (by omega) ?_
      have h1 := hal (i + 1) hj (Nat.le_refl _)
      have h2 : alikeB (A[i]'(by omega)) x = false := hst (Nat.succ_pos _)
      cases h3 : alikeB (A[i]'(by omega)) (A[i + 1]'(by omega)) with
      | false => rfl
      | true =>
        rw [alikeB_iff] at h1 h3
        have h4 : alikeB (A[i]'(by omega)) x = true := alikeB_iff.2 ⟨h3.1.trans h1.1, h3.2.trans h1.2⟩
        exact absurd (h4.symm.trans h2) (by decide)
  · intro k hk hs
    rcases Nat.lt_or_ge j k with h | h
    · obtain ⟨i, rfl⟩ : ∃ i, k = i + 1 := ⟨k - 1, by omega⟩
      have h1 := alikeB_iff.1 (hal i (by omega) (by omega))
      have h2 := alikeB_iff.1 (hal (i + 1) hk (by omega))
      exact absurd hs (wholeN_mid (by omega) (alikeB_iff.2 ⟨h1.1.trans h2.1.symm, h1.2.trans h2.2.symm⟩))
    · exact h

end Go.Proofs.Ytjkjhpaeckkpjaa

namespace Go.Proofs.Ytjkjhpaeckkpjaa
open Go.RowKit

set_option maxRecDepth 20000 in
set_option maxHeartbeats 8000000 in
theorem refraw_core (w : World) (m : MV) (h : Hd) (qA : Option Addr) (qc : Nat) (qp : List (QV × Qt)) (A0 A1 A2 : Option Addr) (k0 k1 k2 : Nat) (p0 p1 p2 : List (RV × Rt)) (he : m = ⟨h, qA, qc, qp, ⟨A0, k0, p0⟩, ⟨A1, k1, p1⟩, ⟨A2, k2, p2⟩⟩) (hm : MAt w w.heap.size m) (hi : MIn m) (hs : SoundM m.msg) (hqc : ∀ p ∈ qp, p.2.name.length ≤ p.1.2) :
    Calls Try.prog 34 #[valM h (.slice qA qp.length qc) (.slice A0 p0.length k0) (.slice A1 p1.length k1) (.slice A2 p2.length k2)] w (RawOut w (encM m.msg)) := by
  obtain ⟨i0, hi0, hz0, hz1, hz2⟩ := info_parts rr_info
  obtain ⟨W, hW⟩ : ∃ W, W = w.alloc (.cells #[.int .i64 h.id, .bool h.resp, .int .i64 h.op, .bool h.aa, .bool h.tc, .bool h.rd, .bool h.ra, .int .i64 h.rc, .slice qA qp.length qc, .slice A0 p0.length k0, .slice A1 p1.length k1, .slice A2 p2.length k2, .bool h.edns, .int .i64 h.size] 25) := ⟨_, rfl⟩
  have hzW : W.heap.size = w.heap.size + 1 := by rw [hW]; simp
  obtain ⟨V, hV⟩ : ∃ V, V = W.alloc (.cells #[.slice none 0 0, .slice none 0 0] 94) := ⟨_, rfl⟩
  have hB : Below w.heap.size w V := by rw [hV, hW]; exact ((Below.refl _ _).alloc (Nat.le_refl _) _).alloc (by simp) _
  have hzV : V.heap.size = w.heap.size + 2 := by rw [hV]; simp [hzW]
  have hwm : Whole V w.heap.size 25 m.cells := by rw [hV, hW, he]; exact (Whole.made w [.int .i64 h.id, .bool h.resp, .int .i64 h.op, .bool h.aa, .bool h.tc, .bool h.rd, .bool h.ra, .int .i64 h.rc, .slice qA qp.length qc, .slice A0 p0.length k0, .slice A1 p1.length k1, .slice A2 p2.length k2, .bool h.edns, .int .i64 h.size] _).alloc _
  have hr0 : RPenned (w.heap.size + 1) V (fun j => j = w.heap.size + 1) (w.heap.size + 1) [] [] V := by
    have h1 := RWr.new W
    rw [← hV, hzW] at h1
    exact ⟨_, _, _, h1, Grew.refl _ _, fun _ hj => .inl hj⟩
  have HLOW := Lib.hid (fun B R W' (hp : RPenned (w.heap.size + 1) V (fun j => j = w.heap.size + 1) (w.heap.size + 1) B R W') => hp.low (fun j hj => by omega) (show w.heap.size + 1 ≤ V.heap.size by omega))
  have HC := Lib.hid (fun (W' : World) (hb : Below (w.heap.size + 1) V W') => (show W'.cell? ⟨w.heap.size, 0, none⟩ = some (.int .i64 h.id) ∧ W'.cell? ⟨w.heap.size, 1, none⟩ = some (.bool h.resp) ∧ W'.cell? ⟨w.heap.size, 2, none⟩ = some (.int .i64 h.op) ∧ W'.cell? ⟨w.heap.size, 3, none⟩ = some (.bool h.aa) ∧
    W'.cell? ⟨w.heap.size, 4, none⟩ = some (.bool h.tc) ∧ W'.cell? ⟨w.heap.size, 5, none⟩ = some (.bool h.rd) ∧ W'.cell? ⟨w.heap.size, 6, none⟩ = some (.bool h.ra) ∧ W'.cell? ⟨w.heap.size, 7, none⟩ = some (.int .i64 h.rc) ∧ W'.cell? ⟨w.heap.size, 8, none⟩ = some (.slice qA qp.length qc) ∧
    W'.cell? ⟨w.heap.size, 9, none⟩ = some (.slice A0 p0.length k0) ∧ W'.cell? ⟨w.heap.size, 10, none⟩ = some (.slice A1 p1.length k1) ∧ W'.cell? ⟨w.heap.size, 11, none⟩ = some (.slice A2 p2.length k2) ∧ W'.cell? ⟨w.heap.size, 12, none⟩ = some (.bool h.edns) ∧ W'.cell? ⟨w.heap.size, 13, none⟩ = some (.int .i64 h.size) by
      have hw := hwm.below hb (Nat.lt_succ_self _)
      rw [he] at hw
      exact ⟨hw.cell 0, hw.cell 1, hw.cell 2, hw.cell 3, hw.cell 4, hw.cell 5, hw.cell 6, hw.cell 7, hw.cell 8, hw.cell 9, hw.cell 10, hw.cell 11, hw.cell 12, hw.cell 13⟩))
  have HBV := Lib.hid (fun (W' : World) (hb : Below (w.heap.size + 1) V W') => hB.trans (hb.mono (Nat.le_succ _)))
  have HS0 := Lib.hid (fun W' (hb : Below w.heap.size w W') => (show RsAt W' w.heap.size A0 p0 by have h2 := hm.s0.below hb; rw [he] at h2; exact h2))
  have HS1 := Lib.hid (fun W' (hb : Below w.heap.size w W') => (show RsAt W' w.heap.size A1 p1 by have h2 := hm.s1.below hb; rw [he] at h2; exact h2))
  have HS2 := Lib.hid (fun W' (hb : Below w.heap.size w W') => (show RsAt W' w.heap.size A2 p2 by have h2 := hm.s2.below hb; rw [he] at h2; exact h2))
  have HQ := Lib.hid (fun W' (hb : Below w.heap.size w W') => (show QsAt W' w.heap.size qA qp by have h2 := hm.q.below hb; rw [he] at h2; exact h2))
  have e1 : m.msg.qs = qsts qp := by rw [he]; rfl
  have e2 : m.msg.all = recs (p0 ++ p1 ++ p2) := by rw [he]; show recs p0 ++ (recs p1 ++ recs p2) = _; simp [recs_append]
  have eh : m.msg.h = h := by rw [he]; rfl
  obtain ⟨S, hS⟩ : ∃ S : List UInt8 × Rs, S = (m.msg.head, []) := ⟨_, rfl⟩
  have HFQ := Lib.hid (fun k (hk : k ≤ qp.length) => (show Fine (putQs ((qsts qp).take k) S) ∧ Kept (putQs ((qsts qp).take k) S).2 from by
    rw [hS, ← e1]
    exact ⟨(fine_q hs k (by rw [e1, length_qsts]; exact hk)).1, Kept.putQs Kept.nil fun q hq => by
      have h3 := List.mem_of_mem_take hq
      rw [e1] at h3
      obtain ⟨p, hp, rfl⟩ := List.mem_map.1 h3
      exact (hi.q p (by rw [he]; exact hp)).l⟩))
  have HRL := Lib.hid (show ∀ r ∈ m.msg.all, SoundR r ∧ LightR r ∧ RIn r from fun r hr => ⟨(soundX_iff.1 (hs.r r hr)).2, by
    have h3 := hr
    unfold Mt.all at h3
    rcases List.mem_append.1 h3 with h4 | h4
    · obtain ⟨p, hp, rfl⟩ := List.mem_map.1 h4
      exact (hi.r 0 p hp).symm
    · rcases List.mem_append.1 h4 with h4 | h4
      · obtain ⟨p, hp, rfl⟩ := List.mem_map.1 h4
        exact (hi.r 1 p hp).symm
      · obtain ⟨p, hp, rfl⟩ := List.mem_map.1 h4
        exact (hi.r 2 p hp).symm⟩)
  have HFR := Lib.hid (fun k (hk : k ≤ (p0 ++ p1 ++ p2).length) => (show Fine (putRs ((recs (p0 ++ p1 ++ p2)).take k) (putQs (qsts qp) S)) ∧ Kept (putRs ((recs (p0 ++ p1 ++ p2)).take k) (putQs (qsts qp) S)).2 from by
    have h3 := (HFQ.out qp.length (Nat.le_refl _)).2
    rw [List.take_of_length_le (by rw [length_qsts]; exact Nat.le_refl _)] at h3
    refine ⟨?_, Kept.putRs h3 fun r hr => (HRL.out r (by rw [e2]; exact List.mem_of_mem_take hr)).2.1⟩
    have h4 := fine_r hs k (by rw [e2, length_recs]; exact hk)
    rw [e1, e2] at h4
    rw [hS]
    exact h4))
  have HQI := Lib.hid (show ∀ p ∈ qp, soundN p.2.name = true ∧ p.2.kind ≤ 9223372036854775807 ∧ p.2.cls ≤ 9223372036854775807 ∧ p.2.name.length ≤ p.1.2 from fun p hp => by
    have h3 := hi.q p (by rw [he]; exact hp)
    have h4 := hs.q p.2 (by rw [e1]; exact List.mem_map.2 ⟨p, hp, rfl⟩)
    unfold soundQ at h4
    simp only [Bool.and_eq_true] at h4
    exact ⟨h4.1, i64_top h3.k, i64_top h3.c, hqc p hp⟩)
  have hhs := hs.h
  rw [eh] at hhs
  unfold soundH at hhs
  simp only [Bool.and_eq_true] at hhs
  obtain ⟨hid, hop, hrc, hsz, _⟩ := hhs
  have HE2 := Lib.hid e2
  have HEN := Lib.hid (show encM m.msg = (putRs (if h.edns = true then [optR h.size] else []) (putRs (recs (p0 ++ p1 ++ p2)) (putQs (qsts qp) S))).1 from by rw [enc_all, eh, e1, e2, hS])
  have HSZ := Lib.hid hsz
  have hhd : S.1 = headM h qp.length p0.length p1.length ((p2.length + bit h.edns 1 : Nat) : Int) := by
    rw [hS]
    show headM m.msg.h _ _ _ _ = _
    rw [eh, e1, length_qsts, length_exX, eh]
    have a0 : m.msg.an.length = p0.length := by rw [he]; exact length_recs _
    have a1 : m.msg.au.length = p1.length := by rw [he]; exact length_recs _
    have a2 : m.msg.ex.length = p2.length := by rw [he]; exact length_recs _
    rw [a0, a1, a2]
    rfl
  have hS2 : S.2 = [] := by rw [hS]
  have HHD := Lib.hid hhd
  have HS2E := Lib.hid hS2
  have hn := hs.n
  have a0 : m.msg.an.length = p0.length := by rw [he]; exact length_recs _
  have a1 : m.msg.au.length = p1.length := by rw [he]; exact length_recs _
  have a2 : m.msg.ex.length = p2.length := by rw [he]; exact length_recs _
  rw [e1, length_qsts, a0, a1, a2] at hn
  have l1 := length_putL2 h.id
  have hid2 : h.id ≤ 9223372036854775807 := by have := (fit2 hid).2.1; omega
  obtain ⟨b1, hb1, c1⟩ : ∃ b, bit h.resp 32768 = b ∧ b ≤ 32768 := ⟨_, rfl, by unfold bit; split <;> omega⟩
  obtain ⟨b2, hb2, c2⟩ : ∃ b, bit h.aa 1024 = b ∧ b ≤ 1024 := ⟨_, rfl, by unfold bit; split <;> omega⟩
  obtain ⟨b3, hb3, c3⟩ : ∃ b, bit h.tc 512 = b ∧ b ≤ 512 := ⟨_, rfl, by unfold bit; split <;> omega⟩
  obtain ⟨b4, hb4, c4⟩ : ∃ b, bit h.rd 256 = b ∧ b ≤ 256 := ⟨_, rfl, by unfold bit; split <;> omega⟩
  obtain ⟨b5, hb5, c5⟩ : ∃ b, bit h.ra 128 = b ∧ b ≤ 128 := ⟨_, rfl, by unfold bit; split <;> omega⟩
  obtain ⟨b6, hb6, c6⟩ : ∃ b, bit h.edns 1 = b ∧ b ≤ 1 := ⟨_, rfl, by unfold bit; split <;> omega⟩
  unfold codeB at hop hrc
  simp only [Bool.and_eq_true, decide_eq_true_eq] at hop hrc
  obtain ⟨op0, op1⟩ := hop
  obtain ⟨rc0, rc1⟩ := hrc
  have HBI := Lib.hid (show (b1 : Int) + h.op * 2048 + b2 + b3 + b4 + b5 + h.rc = ((bitsH h : Nat) : Int) by
    unfold bitsH
    rw [hb1, hb2, hb3, hb4, hb5]
    omega)
  have hbl : bitsH h < 65536 := by
    unfold bitsH
    rw [hb1, hb2, hb3, hb4, hb5]
    omega
  have HF1 := Lib.hid (fun W' => flag_any h.resp 32768 W' (by omega))
  have HF2 := Lib.hid (fun W' => flag_any h.aa 1024 W' (by omega))
  have HF3 := Lib.hid (fun W' => flag_any h.tc 512 W' (by omega))
  have HF4 := Lib.hid (fun W' => flag_any h.rd 256 W' (by omega))
  have HF5 := Lib.hid (fun W' => flag_any h.ra 128 W' (by omega))
  have HF6 := Lib.hid (fun W' => flag_any h.edns 1 W' (by omega))
  rw [hb1] at HF1
  rw [hb2] at HF2
  rw [hb3] at HF3
  rw [hb4] at HF4
  rw [hb5] at HF5
  rw [hb6] at HF6 HHD
  have HB := Lib.hid hB
  have HP := Lib.hid hr0
  have HZV := Lib.hid hzV
  clear hr0 hB hwm hm he hi hs hhd hS2 hS e1 e2 eh hid hb1 hb2 hb3 hb4 hb5 hb6 hsz a0 a1 a2 hzV hzW hqc
  subst hV
  subst hW
  go_enter Try.func34, Try.ntmps34
  go_wp2_with fail
  refine (rnumP HP.out h.id 2 (by simp) hid2).mono ?_
  rintro e w1 ⟨rfl, hpn⟩
  rw [List.nil_append] at hpn
  generalize (w.alloc (.cells #[.int .i64 h.id, .bool h.resp, .int .i64 h.op, .bool h.aa, .bool h.tc, .bool h.rd, .bool h.ra, .int .i64 h.rc, .slice qA qp.length qc, .slice A0 p0.length k0, .slice A1 p1.length k1, .slice A2 p2.length k2, .bool h.edns, .int .i64 h.size] 25)).alloc (.cells #[.slice none 0 0, .slice none 0 0] 94) = V at *
  have HP := Lib.hid hpn
  clear hpn
  obtain ⟨q0, q1, q2, q3, q4, q5, q6, q7, q8, q9, q10, q11, q12, q13⟩ := HC.out w1 (HLOW.out _ _ _ HP.out)
  clear q0 q8 q9 q10 q11 q12 q13
  have r1 : IntKind.i64.wrap (h.op * 2048) = h.op * 2048 := IntWalk.i64_in _ (by omega)
  have r2 : IntKind.i64.wrap ((b1 : Int) + h.op * 2048) = (b1 : Int) + h.op * 2048 := IntWalk.i64_in _ (by omega)
  have r3 : IntKind.i64.wrap ((b1 : Int) + h.op * 2048 + b2) = (b1 : Int) + h.op * 2048 + b2 := IntWalk.i64_in _ (by omega)
  have r4 : IntKind.i64.wrap ((b1 : Int) + h.op * 2048 + b2 + b3) = (b1 : Int) + h.op * 2048 + b2 + b3 := IntWalk.i64_in _ (by omega)
  have r5 : IntKind.i64.wrap ((b1 : Int) + h.op * 2048 + b2 + b3 + b4) = (b1 : Int) + h.op * 2048 + b2 + b3 + b4 := IntWalk.i64_in _ (by omega)
  have r6 : IntKind.i64.wrap ((b1 : Int) + h.op * 2048 + b2 + b3 + b4 + b5) = (b1 : Int) + h.op * 2048 + b2 + b3 + b4 + b5 := IntWalk.i64_in _ (by omega)
  have r7 : IntKind.i64.wrap ((b1 : Int) + h.op * 2048 + b2 + b3 + b4 + b5 + h.rc) = (b1 : Int) + h.op * 2048 + b2 + b3 + b4 + b5 + h.rc := IntWalk.i64_in _ (by omega)
  go_upto_region 3 with fail
  refine wp_region_still_tail 27 (by kernel_rfl) (by kernel_rfl) ?_
  simp only [List.take_succ_cons, List.take_zero, List.drop_succ_cons, List.drop_zero]
  repeat (first | still_step | still_call (HF1.out _) | still_call (HF2.out _) | still_call (HF3.out _) | still_call (HF4.out _) | still_call (HF5.out _))
  refine wpStill_nil ?_
  clear r1 r2 r3 r4 r5 r6 r7 q1 q2 q3 q4 q5 q6 q7
  change wpList _ _ _ _ _ w1.drew
  rw [HBI.out]
  have HP := Lib.hid (HP.out.more (Below.refl _ _).drew)
  go_wp2_with fail
  refine (rnumP HP.out (bitsH h) 2 (by omega) (by omega)).mono ?_
  rintro e w2 ⟨rfl, hpn⟩
  have HP := Lib.hid hpn
  clear hpn
  have l2 := length_putL2 (bitsH h)
  have l3 := length_putL2 qp.length
  have l4 := length_putL2 p0.length
  have l5 := length_putL2 p1.length
  have q8 := (HC.out w2 (HLOW.out _ _ _ HP.out)).2.2.2.2.2.2.2.2.1
  go_wp2_with fail
  refine (rnumP HP.out qp.length 2 (by simp only [List.length_append]; omega) (by omega)).mono ?_
  rintro e w3 ⟨rfl, hpn⟩
  have HP := Lib.hid hpn
  clear hpn q8
  have q9 := (HC.out w3 (HLOW.out _ _ _ HP.out)).2.2.2.2.2.2.2.2.2.1
  go_wp2_with fail
  refine (rnumP HP.out p0.length 2 (by simp only [List.length_append]; omega) (by omega)).mono ?_
  rintro e w4 ⟨rfl, hpn⟩
  have HP := Lib.hid hpn
  clear hpn q9
  have q10 := (HC.out w4 (HLOW.out _ _ _ HP.out)).2.2.2.2.2.2.2.2.2.2.1
  go_wp2_with fail
  refine (rnumP HP.out p1.length 2 (by simp only [List.length_append]; omega) (by omega)).mono ?_
  rintro e w5 ⟨rfl, hpn⟩
  have HP := Lib.hid hpn
  clear hpn q10
  have q11 := (HC.out w5 (HLOW.out _ _ _ HP.out)).2.2.2.2.2.2.2.2.2.2.2.1
  have q12 := (HC.out w5 (HLOW.out _ _ _ HP.out)).2.2.2.2.2.2.2.2.2.2.2.2.1
  have r1 : IntKind.i64.wrap ((p2.length : Int) + b6) = (p2.length : Int) + b6 := IntWalk.i64_in _ (by omega)
  go_upto_region 7 with fail
  refine wp_region_still_tail 8 (by kernel_rfl) (by kernel_rfl) ?_
  simp only [List.take_succ_cons, List.take_zero, List.drop_succ_cons, List.drop_zero]
  repeat (first | still_step | still_call (HF6.out _))
  refine wpStill_nil ?_
  clear r1 q11 q12
  change wpList _ _ _ _ _ w5.drew
  have HP := Lib.hid (HP.out.more (Below.refl _ _).drew)
  rw [show (p2.length : Int) + b6 = ((p2.length + b6 : Nat) : Int) by omega]
  go_wp2_with fail
  refine (rnumP HP.out ((p2.length + b6 : Nat) : Int) 2 (by simp only [List.length_append]; omega) (by omega)).mono ?_
  rintro e w6 ⟨rfl, hpn⟩
  have HP := Lib.hid (show RPenned (w.heap.size + 1) V (fun j => j = w.heap.size + 1) (w.heap.size + 1) S.1 S.2 w6 by
    rw [HHD.out, HS2E.out]
    exact hpn)
  clear hpn l1 l2 l3 l4 l5 HHD HS2E HF1 HF2 HF3 HF4 HF5 HF6 HBI
  clear hbl c1 c2 c3 c4 c5 c6 op0 op1 rc0 rc1 hid2
  go_wp2
  go_loopw [4] (QRawRel (w.heap.size + 1) V (fun j => j = w.heap.size + 1) (w.heap.size + 1) (qsts qp) S) (fun i _ => qp.length - (intOf i).toNat)
  case atStart => exact ⟨0, Nat.zero_le _, rfl, HP.out⟩
  case round =>
  obtain ⟨k, hk, rfl, hp⟩ := hrel
  rw [length_qsts] at hk
  have HP := Lib.hid hp
  clear hp
  have q8 := (HC.out wr (HLOW.out _ _ _ HP.out)).2.2.2.2.2.2.2.2.1
  by_cases hlt : k < qp.length
  · obtain ⟨b, off, rfl, hbH, hqa, x0, x1, x2⟩ := (HQ.out _ (HBV.out _ (HLOW.out _ _ _ HP.out))).at_ hlt
    obtain ⟨y1, y2, y3, y4⟩ := HQI.out _ (List.getElem_mem hlt)
    obtain ⟨hfn, hkp⟩ := HFQ.out k (by omega)
    have hfl := hfn.l
    have hfr := hfn.r
    have HQK := Lib.hid (show putQs ((qsts qp).take (k + 1)) S = putQ (qp[k]).2 (putQs ((qsts qp).take k) S).1 (putQs ((qsts qp).take k) S).2 by
      rw [List.take_succ_eq_append_getElem (by rw [length_qsts]; exact hlt), putQs_snoc]
      simp [qsts])
    have HKP := Lib.hid hkp
    have HXC := Lib.hid (fun W' (hb : Below (w.heap.size + 1) V W') => (show W'.cell? ⟨b, off + k * 3 + 1, none⟩ = some (.int .i64 (qp[k]).2.kind) ∧ W'.cell? ⟨b, off + k * 3 + 2, none⟩ = some (.int .i64 (qp[k]).2.cls) from by
      obtain ⟨b', off', e', _, _, _, x1', x2'⟩ := (HQ.out _ (HBV.out _ hb)).at_ hlt
      cases e'
      exact ⟨x1', x2'⟩))
    have HNM := Lib.hid (fun W' (hb : Below (w.heap.size + 1) V W') => (show Row W' (w.heap.size + 1) (qp[k]).1.1 ((qp[k]).2.name.map sv) from by
      have h1 := (HQ.out _ (HBV.out _ hb)).2 _ (List.getElem_mem hlt)
      exact Row.mono h1 (Nat.le_succ _)))
    clear hqa hfn hkp x1 x2
    revert x0 y1 y2 y3 y4 HQK HNM HXC
    generalize qp[k] = p
    obtain ⟨⟨yA, yc⟩, q⟩ := p
    intro x0 y1 y2 y3 y4 HQK HXC HNM
    dsimp only at *
    have hns := soundN_parts y1
    have hnl := length_nameW_le true q.name (putQs ((qsts qp).take k) S).1 (putQs ((qsts qp).take k) S).2 hns.1
    have hn255 := hns.2
    clear hns
    go_wp2_with fail
    refine (rnameP HP.out yA yc q.name true (HNM.out _ (HLOW.out _ _ _ HP.out)) y4 y1 (by omega) (by omega) HKP.out).mono ?_
    rintro e w7 ⟨rfl, hpn⟩
    have HP := Lib.hid hpn
    clear hpn x0 q8
    have q8 := (HC.out w7 (HLOW.out _ _ _ HP.out)).2.2.2.2.2.2.2.2.1
    have x1 := (HXC.out w7 (HLOW.out _ _ _ HP.out)).1
    go_wp2_with fail
    refine (rnumP HP.out q.kind 2 (by omega) y2).mono ?_
    rintro e w8 ⟨rfl, hpn⟩
    have HP := Lib.hid hpn
    clear hpn x1 q8
    have l1 := length_putL2 q.kind
    have q8 := (HC.out w8 (HLOW.out _ _ _ HP.out)).2.2.2.2.2.2.2.2.1
    have x2 := (HXC.out w8 (HLOW.out _ _ _ HP.out)).2
    go_wp2_with fail
    refine (rnumP HP.out q.cls 2 (by rw [List.length_append]; omega) y3).mono ?_
    rintro e w9 ⟨rfl, hpn⟩
    have HP := Lib.hid hpn
    clear hpn x2 q8 l1
    go_wp2
    refine ⟨⟨k + 1, by rw [length_qsts]; omega, by go_num, ?_⟩, by simp [intOf]; omega⟩
    rw [HQK.out]
    exact HP.out
  · obtain rfl : k = qp.length := by omega
    have HP := Lib.hid (show RPenned (w.heap.size + 1) V (fun j => j = w.heap.size + 1) (w.heap.size + 1) (putQs (qsts qp) S).1 (putQs (qsts qp) S).2 wr from by
      have h1 := HP.out
      rwa [List.take_of_length_le (by rw [length_qsts]; exact Nat.le_refl _)] at h1)
    have HBW := Lib.hid (HBV.out _ (HLOW.out _ _ _ HP.out))
    obtain ⟨Gp, vB, vR, hw1, hg1, hf1⟩ := HP.out
    have HLO := Lib.hid hw1.low
    have HRW := Lib.hid hw1
    have HGR := Lib.hid hg1
    have HFR1 := Lib.hid hf1
    have hgs : w.heap.size + 1 < wr.heap.size := by have := (hw1.low _ hw1.fg).2; exact this
    clear hw1 hg1 hf1 hlt hk
    obtain ⟨_, _, _, _, _, _, _, _, _, q9, q10, q11, q12, q13⟩ := HC.out wr (HLOW.out _ _ _ HP.out)
    have HBD := Lib.hid (Below.refl wr.heap.size wr).drew
    have HBL := Lib.hid (show Below wr.heap.size wr (wr.drew.alloc (.cells #[] 48)) from (Below.refl wr.heap.size wr).drew.alloc (Nat.le_refl _) _)
    have HL := Lib.hid (show (wr.drew.alloc (.cells #[] 48)).ownsRow wr.heap.size 48 9 (.slice (some ⟨wr.heap.size, 0, none⟩) 0 0) 0 [] from own_lit wr.drew 48 9)
    have HCW := Lib.hid (fun (W' : World) (hb : Below wr.heap.size wr W') => (show W'.cell? ⟨w.heap.size, 9, none⟩ = some (.slice A0 p0.length k0) ∧ W'.cell? ⟨w.heap.size, 10, none⟩ = some (.slice A1 p1.length k1) ∧ W'.cell? ⟨w.heap.size, 11, none⟩ = some (.slice A2 p2.length k2) from
      ⟨(hb.cell (by dsimp only; omega)).trans q9, (hb.cell (by dsimp only; omega)).trans q10, (hb.cell (by dsimp only; omega)).trans q11⟩))
    have HT0 := Lib.hid (fun W' (hb : Below wr.heap.size wr W') => HS0.out _ (HBW.out.trans (hb.mono HBW.out.size)))
    have HT1 := Lib.hid (fun W' (hb : Below wr.heap.size wr W') => HS1.out _ (HBW.out.trans (hb.mono HBW.out.size)))
    have HT2 := Lib.hid (fun W' (hb : Below wr.heap.size wr W') => HS2.out _ (HBW.out.trans (hb.mono HBW.out.size)))
    have HQ12 := Lib.hid q12
    have HQ13 := Lib.hid q13
    clear q9 q10 q11 q12 q13
    have hgs2 : w.heap.size < wr.heap.size := by omega
    go_upto_region 14 with fail
    go_cut [5] from 96 to 106 (fun s5 wx => AllRawRel wr (p0 ++ p1 ++ p2) s5 wx)
    case first =>
      go_region_held3 (fun W => W.cell? ⟨w.heap.size, 9, none⟩ = some (.slice A0 p0.length k0) ∧ W.cell? ⟨w.heap.size, 10, none⟩ = some (.slice A1 p1.length k1) ∧ W.cell? ⟨w.heap.size, 11, none⟩ = some (.slice A2 p2.length k2))
        (first | exact HCW.out _ HBD.out | exact HCW.out _ HBL.out | exact HCW.out _ HB1.out | exact HCW.out _ HB2.out | exact HCW.out _ HB3.out)
        ((first
        | (refine step_append_any rfl (.tmp 96) (.tmp 98) _ rfl wr.heap.size 48 i0 _ 9 168 Try.underlying23 hi0 hz0 hz1 hz2 rfl (by omega) (.slice (some ⟨wr.heap.size, 0, none⟩) 0 0) 0 _ rfl HL.out
             A0 p0.length k0 w.heap.size (p0.flatMap cellsR) rfl (length_flat cellsR_len p0) (HT0.out _ HBL.out).1 (cellsR_one p0) (by unfold maxLen; omega) (by omega) HBL.out.size ?_
           intro v1 w1 hown1 hg1
           rw [Nat.zero_add, List.nil_append] at hown1
           have HB1 := Lib.hid (own_below HBL.out (Nat.le_refl _) HBL.out.size HL.out hg1)
           obtain ⟨B1, d1, rfl, _, _⟩ := own_form hown1
           have HO1 := Lib.hid hown1
           clear hown1 hg1)
        | (refine step_append_any rfl (.tmp 99) (.tmp 101) _ rfl wr.heap.size 48 i0 _ 9 168 Try.underlying23 hi0 hz0 hz1 hz2 rfl (by omega) (.slice B1 p0.length d1) p0.length _ rfl HO1.out
             A1 p1.length k1 w.heap.size (p1.flatMap cellsR) rfl (length_flat cellsR_len p1) (HT1.out _ HB1.out).1 (cellsR_one p1) (by unfold maxLen; omega) (by omega) HB1.out.size ?_
           intro v2 w2 hown2 hg2
           have HB2 := Lib.hid (own_below HB1.out (Nat.le_refl _) HB1.out.size HO1.out hg2)
           obtain ⟨B2, d2, rfl, _, _⟩ := own_form hown2
           have HO2 := Lib.hid hown2
           clear hown2 hg2)
        | (refine step_append_any rfl (.tmp 102) (.tmp 104) _ rfl wr.heap.size 48 i0 _ 9 168 Try.underlying23 hi0 hz0 hz1 hz2 rfl (by omega) (.slice B2 (p0.length + p1.length) d2) (p0.length + p1.length) _ rfl HO2.out
             A2 p2.length k2 w.heap.size (p2.flatMap cellsR) rfl (length_flat cellsR_len p2) (HT2.out _ HB2.out).1 (cellsR_one p2) (by unfold maxLen; omega) (by omega) HB2.out.size ?_
           intro v3 w3 hown3 hg3
           have HB3 := Lib.hid (own_below HB2.out (Nat.le_refl _) HB2.out.size HO2.out hg3)
           obtain ⟨B3, d3, rfl, _, _⟩ := own_form hown3
           have HO3 := Lib.hid hown3
           clear hown3 hg3)))
      all_goals
        have HRR := Lib.hid (show AllRawRel wr (p0 ++ p1 ++ p2) (.slice B3 (p0.length + p1.length + p2.length) d3) w3 from
          ⟨B3, d3, by rw [List.length_append, List.length_append], by rw [List.flatMap_append, List.flatMap_append, List.length_append, List.length_append]; exact HO3.out, HB3.out⟩)
        go_wp2
        go_meet
        exact HRR.out
    case rest =>
      obtain ⟨A, c, rfl, hrow, hb⟩ := hcut
      have HPS := Lib.hid (fun (W' : World) (hb2 : Below (w.heap.size + 1) V W') => (show ∀ p ∈ p0 ++ p1 ++ p2, RAt W' (w.heap.size + 1) p.1 p.2 from fun p hp => by
        rcases List.mem_append.1 hp with h1 | h1
        · rcases List.mem_append.1 h1 with h1 | h1
          · exact ((HS0.out _ (HBV.out _ hb2)).2 p h1).mono (Nat.le_succ _)
          · exact ((HS1.out _ (HBV.out _ hb2)).2 p h1).mono (Nat.le_succ _)
        · exact ((HS2.out _ (HBV.out _ hb2)).2 p h1).mono (Nat.le_succ _)))
      have HROW := Lib.hid (fun (W' : World) (hg : Grew Gp wc W') => (show Row W' W'.heap.size A ((p0 ++ p1 ++ p2).flatMap cellsR) from Row.of_own (own_grew hrow hg fun j hj hgp => by
        have h1 := (hrow.lt j hj).1
        have h2 := (HLO.out j hgp).2
        omega)))
      have HG2 := Lib.hid (show Grew (fun j => j = w.heap.size + 1) V wc from HGR.out.then_below hb)
      have HRL := Lib.hid (show ∀ p ∈ p0 ++ p1 ++ p2, SoundR p.2 ∧ RIn p.2 from fun p hp => by
        have h1 := HRL.out p.2 (by rw [HE2.out]; exact List.mem_map.2 ⟨p, hp, rfl⟩)
        exact ⟨h1.1, h1.2.2⟩)
      have HWC := Lib.hid (show RPenned (w.heap.size + 1) wc Gp (w.heap.size + 1) (putQs (qsts qp) S).1 (putQs (qsts qp) S).2 wc from ⟨Gp, vB, vR, HRW.out.below hb, Grew.refl _ _, fun _ hj => .inl hj⟩)
      have HLC := Lib.hid (fun B R W' (hp : RPenned (w.heap.size + 1) wc Gp (w.heap.size + 1) B R W') => (show Below (w.heap.size + 1) wc W' from hp.low (fun j hj => (HLO.out j hj).1) (by have := hb.size; omega)))
      have HBC := Lib.hid hb
      have HRO := Lib.hid hrow
      have HZC := Lib.hid hb.size
      have HXC := Lib.hid (show wc.cell? ⟨w.heap.size, 12, none⟩ = some (.bool h.edns) ∧ wc.cell? ⟨w.heap.size, 13, none⟩ = some (.int .i64 h.size) from
        ⟨(hb.cell (by dsimp only; omega)).trans HQ12.out, (hb.cell (by dsimp only; omega)).trans HQ13.out⟩)
      have HBL2 := Lib.hid (show Below (w.heap.size + 1) V wc from (HLOW.out _ _ _ HP.out).trans (hb.mono (by omega)))
      have hzc := hb.size
      have hpl : (p0 ++ p1 ++ p2).length ≤ 512 := by rw [List.length_append, List.length_append]; omega
      clear hrow hb HS0 HS1 HS2 HT0 HT1 HT2 HL HBL HBD HCW HQ HQI HFQ HC HRO HBC HGR HRW HP HE2 HB HBW hzc hgs hgs2
      obtain ⟨ps, hps⟩ : ∃ ps, ps = p0 ++ p1 ++ p2 := ⟨_, rfl⟩
      rw [← hps] at HPS HROW HRL HFR HEN hpl ⊢
      clear hps hn
      obtain ⟨T, hT⟩ : ∃ T, T = putQs (qsts qp) S := ⟨_, rfl⟩
      rw [← hT] at HWC HFR HEN
      clear hT
      go_wp2
      go_loopw [6] (RRawRel (w.heap.size + 1) wc Gp (w.heap.size + 1) (recs ps) T) (fun i _ => ps.length - (intOf i).toNat)
      case atStart => exact ⟨0, Nat.zero_le _, rfl, HWC.out⟩
      case round =>
      obtain ⟨k, hk, rfl, hp⟩ := hrel
      rw [length_recs] at hk
      have HP := Lib.hid hp
      have HB2 := Lib.hid (HBL2.out.trans (HLC.out _ _ _ hp))
      clear hp
      by_cases hlt : k < ps.length
      · obtain ⟨Gq, vB2, vR2, h1, hg, hf⟩ := HP.out
        obtain ⟨hfn, hkp⟩ := HFR.out k (by omega)
        have hfl := hfn.l
        have hfr := hfn.r
        have HQK := Lib.hid (show putRs ((recs ps).take (k + 1)) T = putRR (ps[k]).2 (putRs ((recs ps).take k) T).1 (putRs ((recs ps).take k) T).2 by
          rw [List.take_succ_eq_append_getElem (by rw [length_recs]; exact hlt), putRs_snoc]
          simp [recs])
        have hra := HPS.out _ HB2.out _ (List.getElem_mem hlt)
        obtain ⟨hsr, hir⟩ := HRL.out _ (List.getElem_mem hlt)
        obtain ⟨b, off, rfl, hbH, _, q0, q1, q2, q3, q4, q5, q6, q7, q8⟩ := (show RsAt wr wr.heap.size A ps from ⟨HROW.out wr hg, fun p hp => (HPS.out _ HB2.out p hp).mono h1.size⟩).at_ hlt
        revert hra hsr hir q0 q1 q2 q3 q4 q5 q6 q7 q8 HQK
        generalize ps[k] = p
        obtain ⟨x, r⟩ := p
        intro HQK hra hsr hir q0 q1 q2 q3 q4 q5 q6 q7 q8
        dsimp only at *
        have HCL := Lib.hid (rputRR_any (w.heap.size + 1) wr Gq (w.heap.size + 1) vB2 vR2 _ _ x r h1 hra hsr hir hfl hfr hkp)
        have HG := Lib.hid hg
        have HF := Lib.hid hf
        clear h1 hg hf hra hsr hir hfn hkp
        go_wp2_with fail
        refine HCL.out.mono ?_
        rintro e w7 ⟨rfl, hpn⟩
        have HP := Lib.hid (RPenned.then HG.out HF.out hpn)
        clear hpn HCL q0 q1 q2 q3 q4 q5 q6 q7 q8
        go_wp2
        refine ⟨⟨k + 1, by rw [length_recs]; omega, by go_num, ?_⟩, by simp [intOf]; omega⟩
        rw [HQK.out]
        exact HP.out
      · obtain rfl : k = ps.length := by omega
        have hfl := (HFR.out ps.length (Nat.le_refl _)).1.l
        have et : (recs ps).take ps.length = recs ps := List.take_of_length_le (by rw [length_recs]; exact Nat.le_refl _)
        rw [et] at HP hfl
        have m12 : wr.cell? ⟨w.heap.size, 12, none⟩ = some (.bool h.edns) := ((HLC.out _ _ _ HP.out).cell (by dsimp only; omega)).trans HXC.out.1
        obtain ⟨U, hU⟩ : ∃ U, U = putRs (recs ps) T := ⟨_, rfl⟩
        rw [← hU] at HP hfl HEN
        clear hU et hlt hk HFR HRL HROW HPS
        cases hed : h.edns with
        | false =>
          rw [hed] at m12 HEN
          have HEB := Lib.hid (show encM m.msg = U.1 from HEN.out)
          obtain ⟨Gq, vB2, vR2, h1, hg, hf⟩ := HP.out
          obtain ⟨A2', c2', rfl, _, _⟩ := own_form h1.row
          have s0 := h1.c0
          have HRO := Lib.hid (own_mono h1.row (Nat.le_succ _))
          have HBF := Lib.hid (HBV.out _ HB2.out)
          clear h1 hg hf HEN
          go_wp2
          go_ret
          rw [HEB.out]
          exact ⟨A2', c2', rfl, HRO.out, HBF.out⟩
        | true =>
          rw [hed] at m12 HEN
          have HEB := Lib.hid (show encM m.msg = ((U.1 ++ [0, 0, 41]) ++ putL [] h.size 2) ++ [0, 0, 0, 0, 0, 0] from by
            rw [HEN.out]
            show (putRR (optR h.size) U.1 U.2).1 = _
            rw [opt_bytes HSZ.out])
          obtain ⟨_, hz2, _, _⟩ := fit2 HSZ.out
          have lz := length_putL2 h.size
          clear HEN
          go_wp2_with fail
          refine (rrawP (HP.out.more ((Below.refl _ _).alloc (Nat.le_refl _) _)) _ 3 3 [0, 0, 41] rfl ((Row.made wr #[.int .u8 0, .int .u8 0, .int .u8 41] 5).mono (by simp)) (by omega)).mono ?_
          rintro e w7 ⟨rfl, hpn⟩
          have HP := Lib.hid hpn
          clear hpn m12
          have m13 : w7.cell? ⟨w.heap.size, 13, none⟩ = some (.int .i64 h.size) := ((HLC.out _ _ _ HP.out).cell (by dsimp only; omega)).trans HXC.out.2
          go_wp2_with fail
          refine (rnumP HP.out h.size 2 (by simp only [List.length_append, List.length_cons, List.length_nil]; omega) (by omega)).mono ?_
          rintro e w8 ⟨rfl, hpn⟩
          have HP := Lib.hid hpn
          clear hpn m13
          go_wp2_with fail
          refine (rrawP (HP.out.more ((Below.refl _ _).alloc (Nat.le_refl _) _)) _ 6 6 [0, 0, 0, 0, 0, 0] rfl ((Row.made w8 #[.int .u8 0, .int .u8 0, .int .u8 0, .int .u8 0, .int .u8 0, .int .u8 0] 5).mono (by simp)) (by simp only [List.length_append, List.length_cons, List.length_nil]; omega)).mono ?_
          rintro e w9 ⟨rfl, hpn⟩
          rw [← HEB.out] at hpn
          have HB9 := Lib.hid (HBV.out _ (HBL2.out.trans (HLC.out _ _ _ hpn)))
          obtain ⟨Gq, vB2, vR2, h1, hg, hf⟩ := hpn
          obtain ⟨A2', c2', rfl, _, _⟩ := own_form h1.row
          have s0 := h1.c0
          have HRO := Lib.hid (own_mono h1.row (Nat.le_succ _))
          clear h1 hg hf lz hz2 hfl
          go_wp2
          go_ret
          exact ⟨A2', c2', rfl, HRO.out, HB9.out⟩
theorem refraw_any (w : World) (m : MV) (hm : MAt w w.heap.size m) (hi : MIn m) (hs : SoundM m.msg) (hqc : ∀ p ∈ m.qp, p.2.name.length ≤ p.1.2) : Calls Try.prog 34 #[m.val] w (RawOut w (encM m.msg)) := by
  obtain ⟨h, qA, qc, qp, ⟨A0, k0, p0⟩, ⟨A1, k1, p1⟩, ⟨A2, k2, p2⟩⟩ := m
  exact refraw_core w _ h qA qc qp A0 A1 A2 k0 k1 k2 p0 p1 p2 rfl hm hi hs hqc

end Go.Proofs.Ytjkjhpaeckkpjaa

namespace Go.Proofs.Ytjkjhpaeckkpjaa
open Go.RowKit

def encL : Except Nat (List UInt8) → List UInt8
  | .ok l => l
  | .error _ => []
def encK : Except Nat (List UInt8) → Nat
  | .ok _ => 0
  | .error k => k
theorem EncOut.form {w w' : World} {r : Except Nat (List UInt8)} {e : Ending} (h : EncOut w r e w') :
    ∃ A c, e = .returned (.tuple #[.slice A (encL r).length c, .int .i64 (encK r : Nat)]) ∧ Row w' w'.heap.size A ((encL r).map bc) ∧ Below w.heap.size w w' := by
  obtain ⟨hb, h⟩ := h
  cases r with
  | ok l =>
    obtain ⟨A, c, rfl, ho⟩ := h
    exact ⟨A, c, rfl, Row.of_own ho, hb⟩
  | error k =>
    exact ⟨none, 0, h, Row.empty _ _ _, hb⟩

set_option maxRecDepth 20000 in
set_option maxHeartbeats 4000000 in
theorem refencode_core (w : World) (m : MV) (h : Hd) (qA : Option Addr) (qc : Nat) (qp : List (QV × Qt)) (A0 A1 A2 : Option Addr) (k0 k1 k2 : Nat) (p0 p1 p2 : List (RV × Rt)) (he : m = ⟨h, qA, qc, qp, ⟨A0, k0, p0⟩, ⟨A1, k1, p1⟩, ⟨A2, k2, p2⟩⟩) (hm : MAt w w.heap.size m) (hi : MIn m) (hqc : ∀ p ∈ m.qp, p.2.name.length ≤ p.1.2) :
    Calls Try.prog 14 #[valM h (.slice qA qp.length qc) (.slice A0 p0.length k0) (.slice A1 p1.length k1) (.slice A2 p2.length k2)] w (EncOut w (encE m.msg)) := by
  obtain ⟨W, hW⟩ : ∃ W, W = w.alloc (.cells #[.int .i64 h.id, .bool h.resp, .int .i64 h.op, .bool h.aa, .bool h.tc, .bool h.rd, .bool h.ra, .int .i64 h.rc, .slice qA qp.length qc, .slice A0 p0.length k0, .slice A1 p1.length k1, .slice A2 p2.length k2, .bool h.edns, .int .i64 h.size] 25) := ⟨_, rfl⟩
  have hB : Below w.heap.size w W := by rw [hW]; exact (Below.refl _ _).alloc (Nat.le_refl _) _
  have hwm : Whole W w.heap.size 25 (cellsM h (.slice qA qp.length qc) (.slice A0 p0.length k0) (.slice A1 p1.length k1) (.slice A2 p2.length k2)) := by rw [hW]; exact Whole.made w [.int .i64 h.id, .bool h.resp, .int .i64 h.op, .bool h.aa, .bool h.tc, .bool h.rd, .bool h.ra, .int .i64 h.rc, .slice qA qp.length qc, .slice A0 p0.length k0, .slice A1 p1.length k1, .slice A2 p2.length k2, .bool h.edns, .int .i64 h.size] _
  have ev : m.val = valM h (.slice qA qp.length qc) (.slice A0 p0.length k0) (.slice A1 p1.length k1) (.slice A2 p2.length k2) := by rw [he]
  have HM := Lib.hid (show Calls Try.prog 16 #[valM h (.slice qA qp.length qc) (.slice A0 p0.length k0) (.slice A1 p1.length k1) (.slice A2 p2.length k2)] W (Gave W (.bool (soundM m.msg))) from by
    have h1 := refmsg_any W m ((hm.below hB).mono hB.size) hi
    rwa [ev] at h1)
  have HR := Lib.hid (fun (W' : World) (hb : Below W.heap.size W W') (hs : SoundM m.msg) => (show Calls Try.prog 34 #[valM h (.slice qA qp.length qc) (.slice A0 p0.length k0) (.slice A1 p1.length k1) (.slice A2 p2.length k2)] W' (RawOut W' (encM m.msg)) from by
    have hb2 := hB.trans (hb.mono hB.size)
    have h1 := refraw_any W' m ((hm.below hb2).mono hb2.size) hi hs hqc
    rwa [ev] at h1))
  have HW := Lib.hid hwm
  have HB := Lib.hid hB
  have HE := Lib.hid (show encE m.msg = (if soundM m.msg = true then (if 65535 < (encM m.msg).length then .error 4 else .ok (encM m.msg)) else .error 2) from rfl)
  clear hB hwm hm hi he ev hqc
  generalize encE m.msg = E at *
  subst hW
  go_enter Try.func14, Try.ntmps14
  go_wp2_with fail
  refine HM.out.mono ?_
  rintro e w1 ⟨rfl, hb1⟩
  generalize w.alloc (.cells #[.int .i64 h.id, .bool h.resp, .int .i64 h.op, .bool h.aa, .bool h.tc, .bool h.rd, .bool h.ra, .int .i64 h.rc, .slice qA qp.length qc, .slice A0 p0.length k0, .slice A1 p1.length k1, .slice A2 p2.length k2, .bool h.edns, .int .i64 h.size] 25) = V at *
  have HB1 := Lib.hid hb1
  have hw1 := HW.out.below hb1 HW.out.lt
  clear hb1
  have m0 : w1.cell? ⟨w.heap.size, 0, none⟩ = some (.int .i64 h.id) := Whole.cell hw1 0
  have m1 : w1.cell? ⟨w.heap.size, 1, none⟩ = some (.bool h.resp) := Whole.cell hw1 1
  have m2 : w1.cell? ⟨w.heap.size, 2, none⟩ = some (.int .i64 h.op) := Whole.cell hw1 2
  have m3 : w1.cell? ⟨w.heap.size, 3, none⟩ = some (.bool h.aa) := Whole.cell hw1 3
  have m4 : w1.cell? ⟨w.heap.size, 4, none⟩ = some (.bool h.tc) := Whole.cell hw1 4
  have m5 : w1.cell? ⟨w.heap.size, 5, none⟩ = some (.bool h.rd) := Whole.cell hw1 5
  have m6 : w1.cell? ⟨w.heap.size, 6, none⟩ = some (.bool h.ra) := Whole.cell hw1 6
  have m7 : w1.cell? ⟨w.heap.size, 7, none⟩ = some (.int .i64 h.rc) := Whole.cell hw1 7
  have m8 : w1.cell? ⟨w.heap.size, 8, none⟩ = some (.slice qA qp.length qc) := Whole.cell hw1 8
  have m9 : w1.cell? ⟨w.heap.size, 9, none⟩ = some (.slice A0 p0.length k0) := Whole.cell hw1 9
  have m10 : w1.cell? ⟨w.heap.size, 10, none⟩ = some (.slice A1 p1.length k1) := Whole.cell hw1 10
  have m11 : w1.cell? ⟨w.heap.size, 11, none⟩ = some (.slice A2 p2.length k2) := Whole.cell hw1 11
  have m12 : w1.cell? ⟨w.heap.size, 12, none⟩ = some (.bool h.edns) := Whole.cell hw1 12
  have m13 : w1.cell? ⟨w.heap.size, 13, none⟩ = some (.int .i64 h.size) := Whole.cell hw1 13
  clear hw1
  cases hs : soundM m.msg with
  | false =>
    rw [hs] at HE
    go_wp2
    refine ⟨rfl, .tuple #[.slice none 0 0, .int .i64 2], by simp [results, Try.results14, go_sem], ?_⟩
    rw [HE.out]
    exact ⟨HB.out.trans (HB1.out.mono HB.out.size), rfl⟩
  | true =>
  rw [hs] at HE
  have HSM := Lib.hid (soundM_iff.1 hs)
  have HL := Lib.hid (show (encM m.msg).length ≤ 90000000 from by
    obtain ⟨h1, h2, h3, h4, h5⟩ := enc_parts (soundM_iff.1 hs)
    have a1 := h1.l
    have a2 := h2.l
    have a3 := h3.l
    have a4 := h4.l
    have a5 := h5.l
    have a6 := length_head (soundM_iff.1 hs)
    have a7 := (soundM_iff.1 hs).n
    have a8 := length_exX m.msg
    have a9 : (if m.msg.h.edns = true then 1 else 0) ≤ 1 := by split <;> omega
    rw [enc_eq]
    dsimp only at a1
    omega)
  clear hs
  go_wp2_with fail
  refine (HR.out _ HB1.out HSM.out).mono ?_
  rintro e w2 ⟨A2', c2', rfl, ho, hb2⟩
  have HO := Lib.hid (own_mono ho (Nat.le_trans HB.out.size HB1.out.size))
  have HB2 := Lib.hid (HB.out.trans ((HB1.out.trans (hb2.mono HB1.out.size)).mono HB.out.size))
  have hl := HL.out
  clear ho hb2 HB1 HR HM HL
  generalize encM m.msg = b at *
  by_cases hg : 65535 < b.length
  · have d1 : decide ((65535 : Int) < (b.length : Int)) = true := by simp; omega
    rw [if_pos hg] at HE
    clear hg
    go_wp2
    refine ⟨rfl, .tuple #[.slice none 0 0, .int .i64 4], by simp [results, Try.results14, go_sem], ?_⟩
    rw [HE.out]
    exact ⟨HB2.out, rfl⟩
  · have d1 : decide ((65535 : Int) < (b.length : Int)) = false := by simp; omega
    rw [if_neg hg] at HE
    clear hg
    go_wp2
    refine ⟨rfl, .tuple #[.slice A2' b.length c2', .int .i64 0], by simp [results, Try.results14, go_sem], ?_⟩
    rw [HE.out]
    exact ⟨HB2.out, A2', c2', rfl, HO.out⟩
theorem refencode_any (w : World) (m : MV) (hm : MAt w w.heap.size m) (hi : MIn m) (hqc : ∀ p ∈ m.qp, p.2.name.length ≤ p.1.2) : Calls Try.prog 14 #[m.val] w (EncOut w (encE m.msg)) := by
  obtain ⟨h, qA, qc, qp, ⟨A0, k0, p0⟩, ⟨A1, k1, p1⟩, ⟨A2, k2, p2⟩⟩ := m
  exact refencode_core w _ h qA qc qp A0 A1 A2 k0 k1 k2 p0 p1 p2 rfl hm hi hqc

end Go.Proofs.Ytjkjhpaeckkpjaa
