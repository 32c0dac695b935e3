/-
  The contract of PutData of the document's Writer; rdata.Put of nothing, and of data that is not sound.
-/
import Derived.Test.YtjkjhpaeckkpjaaMgP2
import Derived.Test.YtjkjhpaeckkpjaaMbP3
import Derived.Test.YtjkjhpaeckkpjaaMbP7
import Derived.Test.YtjkjhpaeckkpjaaMbP8
import Derived.Test.YtjkjhpaeckkpjaaMgP1
import Derived.Deep.CutRange
import Derived.Deep.RegionLaw
import Derived.Deep.RegionHeld3
import Derived.StillTailTactics
namespace Go.Proofs.Ytjkjhpaeckkpjaa
open Go.RowKit

set_option maxHeartbeats 400000 in
theorem put_nil (k : Int) (y : DV) (d : Dt) (w : World) : Calls Try.prog 52 #[.pointer none, .int .i64 k, y.val d] w (Gave w (.int .i64 2)) := by
  go_enter Try.func52, Try.ntmps52
  go_wp2
  go_ret
  exact ⟨rfl, (Below.refl _ _).alloc (Nat.le_refl _) _⟩
set_option maxHeartbeats 400000 in
theorem put_bad (w : World) (g : Nat) (k : Int) (y : DV) (d : Dt) (hy : DataAt w w.heap.size y d) (hs : soundD k d = false) (q1 : szN d.host ≤ maxLen) (q2 : szN d.mail ≤ maxLen) (q3 : d.texts.length ≤ maxLen) (q4 : ∀ k (h : k < d.texts.length), (d.texts[k]).length ≤ maxLen) :
    Calls Try.prog 52 #[.pointer (some ⟨g, 0, none⟩), .int .i64 k, y.val d] w (Gave w (.int .i64 2)) := by
  have HSD := Lib.hid (fun W (h : DataAt W W.heap.size y d) => dsound_any k y d W h q1 q2 q3 q4)
  rw [hs] at HSD
  have HY := Lib.hid ((hy.alloc (Nat.le_refl _) (.cells #[y.vb d, y.vh d, y.vm d, y.vn d, y.vt d] 46)).mono (show w.heap.size ≤ (w.alloc (.cells #[y.vb d, y.vh d, y.vm d, y.vn d, y.vt d] 46)).heap.size by simp))
  clear hs q1 q2 q3 q4 hy
  go_enter Try.func52, Try.ntmps52
  go_wp2_with fail
  refine (HSD.out _ HY.out).mono ?_
  rintro e w1 ⟨rfl, hb⟩
  have HB := Lib.hid (((Below.refl w.heap.size w).alloc (Nat.le_refl _) (.cells #[y.vb d, y.vh d, y.vm d, y.vn d, y.vt d] 46)).trans (hb.mono (by simp)))
  clear hb
  go_wp2
  go_ret
  exact ⟨rfl, HB.out⟩

section
variable {base : Nat} {w W W' : World} {Fp : Nat → Prop} {g : Nat} {B : List UInt8} {R : Rs}
theorem RPenned.more (h : RPenned base w Fp g B R W) (hb : Below W.heap.size W W') : RPenned base w Fp g B R W' := by
  obtain ⟨Gp, vB, vR, h1, hg, hf⟩ := h
  exact ⟨Gp, vB, vR, h1.below hb, hg.then_below hb, hf⟩
theorem rrawP (hp : RPenned base w Fp g B R W) (A : Option Addr) (m c : Nat) (l : List UInt8) (hl : l.length = m) (hr : Row W W.heap.size A (l.map bc)) (hm : B.length + m ≤ 140737488355000) :
    Calls Try.prog 59 #[.pointer (some ⟨g, 0, none⟩), .slice A m c] W (fun e w' => e = .returned (.tuple #[]) ∧ RPenned base w Fp g (B ++ l) R w') := by
  obtain ⟨Gp, vB, vR, h, hg, hf⟩ := hp
  exact (rraw_any base W Gp g vB vR B R A m c l h hl hr hm).mono fun e w' ⟨he, h2⟩ => ⟨he, RPenned.then hg hf h2⟩
theorem rnumP (hp : RPenned base w Fp g B R W) (n s : Int) (hm : B.length ≤ 140737488354000) (hn : n ≤ 9223372036854775807) :
    Calls Try.prog 55 #[.pointer (some ⟨g, 0, none⟩), .int .i64 n, .int .i64 s] W (fun e w' => e = .returned (.tuple #[]) ∧ RPenned base w Fp g (B ++ putL [] n s) R w') := by
  obtain ⟨Gp, vB, vR, h, hg, hf⟩ := hp
  rw [← putL_app]
  exact (rnum_any base W Gp g vB vR B R n s h hm hn).mono fun e w' ⟨he, h2⟩ => ⟨he, RPenned.then hg hf h2⟩
theorem rnameP (hp : RPenned base w Fp g B R W) (A : Option Addr) (c : Nat) (n : List (List UInt8)) (short : Bool) (hA : Row W base A (n.map sv)) (hc : n.length ≤ c) (hs : soundN n = true) (hB : B.length ≤ 1000000000) (hR : R.length ≤ 900000) (hR16 : ∀ r ∈ R, r.2 < 16384 ∧ r.1.length ≤ 1000) :
    Calls Try.prog 57 #[.pointer (some ⟨g, 0, none⟩), .slice A n.length c, .bool short] W (fun e w' => e = .returned (.tuple #[]) ∧ RPenned base w Fp g (nameW short n B R).1 (nameW short n B R).2 w') := by
  obtain ⟨Gp, vB, vR, h, hg, hf⟩ := hp
  exact (rname_any base W Gp g vB vR B R A c base n short h hA (Nat.le_refl _) hc hs hB hR hR16).mono fun e w' ⟨he, h2⟩ => ⟨he, RPenned.then hg hf h2⟩
/-- The box of the data stays. -/
theorem box_stays {x : DV} {d : Dt} (hx : DataAt w base x d) (hlow : ∀ j, Fp j → base ≤ j ∧ j < w.heap.size) (hb : base ≤ w.heap.size)
    (hp : RPenned base (w.alloc (.cells #[x.vb d, x.vh d, x.vm d, x.vn d, x.vt d] 46)) Fp g B R W) : Whole W w.heap.size 46 [x.vb d, x.vh d, x.vm d, x.vn d, x.vt d] ∧ DataAt W base x d := by
  obtain ⟨_, _, _, _, hg, _⟩ := hp
  refine ⟨(Whole.made w [x.vb d, x.vh d, x.vm d, x.vn d, x.vt d] _).keep (hg.block w.heap.size (by simp) fun hj => by have := (hlow _ hj).2; omega), (hx.alloc hb _).below (hg.below (fun j hj => (hlow j hj).1) (by simp; omega))⟩
theorem RPenned.from {o : Obj} (hp : RPenned base (w.alloc o) Fp g B R W) : RPenned base w Fp g B R W :=
  RPenned.then (Grew.all ((Below.refl _ _).alloc (Nat.le_refl _) _)) (fun _ hj => .inl hj) hp
end
theorem putD_none {s : Sh} {d : Dt} (B : List UInt8) (R : Rs) (sp : SoundP s d) (h1 : s.host = false) (h2 : s.mail = false) (h3 : s.ahead = 0) (h4 : s.behind = 0) (h5 : s.texts = true → s.most = 0) : putD s d B R = ((B ++ d.bytes) ++ textsW d.texts, R) := by
  have hn : d.nums = [] := List.eq_nil_of_length_eq_zero (by have := sp.n; omega)
  have hc : d.bytes = [] ∨ d.texts = [] := by
    cases ht : s.texts with
    | false => exact .inr (sp.t0 ht)
    | true => exact .inl (List.eq_nil_of_length_eq_zero (by have := sp.b; rw [h5 ht] at this; omega))
  unfold putD putM putH
  rw [if_neg (by rw [h2]; decide), if_neg (by rw [h1]; decide), hn]
  rcases hc with h | h <;> rw [h] <;> simp [numsW, textsW]
theorem putD_host {s : Sh} {d : Dt} (B : List UInt8) (R : Rs) (sp : SoundP s d) (h1 : s.host = true) (h2 : s.mail = false) (h4 : s.behind = 0) (h5 : s.most = 0) (h6 : s.texts = false) : putD s d B R = nameW s.short d.host (((B ++ d.bytes) ++ textsW d.texts) ++ numsW 2 d.nums) R := by
  have hb : d.bytes = [] := List.eq_nil_of_length_eq_zero (by have := sp.b; omega)
  have ht := sp.t0 h6
  have hn := sp.n
  unfold putD putM putH
  rw [if_neg (by rw [h2]; decide), if_pos h1, hb, ht, List.take_of_length_le (by omega), List.drop_of_length_le (by omega)]
  simp [numsW, textsW]
theorem putD_both {s : Sh} {d : Dt} (B : List UInt8) (R : Rs) (sp : SoundP s d) (h1 : s.host = true) (h2 : s.mail = true) (h3 : s.ahead = 0) (h5 : s.most = 0) (h6 : s.texts = false) :
    putD s d B R = ((nameW s.short d.mail (nameW s.short d.host ((B ++ d.bytes) ++ textsW d.texts) R).1 (nameW s.short d.host ((B ++ d.bytes) ++ textsW d.texts) R).2).1 ++ numsW 4 d.nums, (nameW s.short d.mail (nameW s.short d.host ((B ++ d.bytes) ++ textsW d.texts) R).1 (nameW s.short d.host ((B ++ d.bytes) ++ textsW d.texts) R).2).2) := by
  have hb : d.bytes = [] := List.eq_nil_of_length_eq_zero (by have := sp.b; omega)
  have ht := sp.t0 h6
  unfold putD putM putH
  rw [if_pos h2, if_pos h1, hb, ht, h3]
  simp [numsW, textsW]

def RTRel (base : Nat) (w : World) (Fp : Nat → Prop) (g : Nat) (B : List UInt8) (R : Rs) (l : List (List UInt8)) (i : Value) (wr : World) : Prop :=
  ∃ k : Nat, k ≤ l.length ∧ i = .int .i64 k ∧ RPenned base w Fp g (B ++ textsW (l.take k)) R wr
def RNRel (base : Nat) (w : World) (Fp : Nat → Prop) (g : Nat) (B : List UInt8) (R : Rs) (s : Int) (l : List Int) (i : Value) (wr : World) : Prop :=
  ∃ k : Nat, k ≤ l.length ∧ i = .int .i64 k ∧ RPenned base w Fp g (B ++ numsW s (l.take k)) R wr

set_option maxRecDepth 20000 in
set_option maxHeartbeats 2000000 in
theorem rput_1 (base : Nat) (w : World) (Fp : Nat → Prop) (g : Nat) (vB vR : Value) (B : List UInt8) (R : Rs) (x : DV) (d : Dt) (h : RWr w base Fp g vB vR B R) (hx : DataAt w base x d) (hs : soundD 1 d = true) (hN : ∀ n ∈ d.nums, n ≤ 9223372036854775807)
    (hB : B.length ≤ 100000000) (_ : R.length ≤ 800000) (hR16 : ∀ r ∈ R, r.2 < 16384 ∧ r.1.length ≤ 1000) :
    Calls Try.prog 84 #[.pointer (some ⟨g, 0, none⟩), .int .i64 1, x.val d] w (fun e w' => e = .returned (.tuple #[]) ∧ RPenned base w Fp g (putD (shN 1) d B R).1 (putD (shN 1) d B R).2 w') := by
  have sp := soundP hs
  have hE := putD_none (s := shN 1) B R sp rfl rfl rfl rfl (by decide)
  rw [hE]
  have hbm : d.bytes.length ≤ 65535 := Nat.le_trans sp.b (by skip <;> first | decide | exact Nat.le_refl _)
  have htl := sp.t
  have hnl : d.nums.length ≤ 10 := by have := sp.n; have h1 : (shN 1).ahead + (shN 1).behind ≤ 10 := (by skip <;> decide); omega
  have HT := Lib.hid sp.tl
  have HN := Lib.hid hN
  have HR := Lib.hid hR16
  have HFIN := Lib.hid (fun B' R' W (hp : RPenned base (w.alloc (.cells #[x.vb d, x.vh d, x.vm d, x.vn d, x.vt d] 46)) Fp g B' R' W) => hp.from)
  have HBOX := Lib.hid (fun B' R' W (hp : RPenned base (w.alloc (.cells #[x.vb d, x.vh d, x.vm d, x.vn d, x.vt d] 46)) Fp g B' R' W) => box_stays hx h.low h.size hp)
  have hp0 : RPenned base (w.alloc (.cells #[x.vb d, x.vh d, x.vm d, x.vn d, x.vt d] 46)) Fp g B R (w.alloc (.cells #[x.vb d, x.vh d, x.vm d, x.vn d, x.vt d] 46)) :=
    ⟨Fp, vB, vR, h.below ((Below.refl _ _).alloc (Nat.le_refl _) _), Grew.refl _ _, fun _ hj => .inl hj⟩
  have hrb := (HBOX.out _ _ _ hp0).2.b
  have hch := hx.lh
  have hcm := hx.lm
  have HP0 := Lib.hid hp0
  have HRB := Lib.hid (hrb.mono (show base ≤ (w.alloc (.cells #[x.vb d, x.vh d, x.vm d, x.vn d, x.vt d] 46)).heap.size by have := h.size; simp; omega))
  clear sp hE h hx hs hN hR16 hp0 hrb
  go_enter Try.func84, Try.ntmps84
  go_wp2_with fail
  refine (rrawP HP0.out x.Ab d.bytes.length x.cb d.bytes rfl HRB.out (by omega)).mono ?_
  rintro e W1 ⟨rfl, hp1⟩
  generalize w.alloc (.cells #[x.vb d, x.vh d, x.vm d, x.vn d, x.vt d] 46) = w1 at *
  obtain ⟨B1, hB1⟩ : ∃ B1, B1 = B ++ d.bytes := ⟨_, rfl⟩
  rw [← hB1] at hp1
  have hl1 : B1.length ≤ 101000000 := by rw [hB1, List.length_append]; omega
  have HP1 := Lib.hid hp1
  have HB1 := Lib.hid hB1
  clear hp1 hB1 HP0 HRB
  go_wp2
  go_loopw [6] (RTRel base w1 Fp g B1 R d.texts) (fun i _ => d.texts.length - (intOf i).toNat)
  case atStart => exact ⟨0, Nat.zero_le _, rfl, by simpa [textsW] using HP1.out⟩
  case round =>
    obtain ⟨k0, hk0, rfl, hp⟩ := hrel
    obtain ⟨hbx, hdt⟩ := HBOX.out _ _ _ hp
    have p4 : wr.cell? ⟨w.heap.size, 4, none⟩ = some (.slice x.At d.texts.length x.ct) := hbx.cell 4
    have HP := Lib.hid hp
    have HDT := Lib.hid hdt
    have HBX := Lib.hid hbx
    clear hp hbx hdt HP1
    by_cases hlt : k0 < d.texts.length
    · obtain ⟨b, off, hA, _, hc⟩ := HDT.out.t.name_at hlt
      rw [hA] at p4
      have hlk := HT.out d.texts[k0] (List.getElem_mem hlt)
      have hlen : (B1 ++ textsW (d.texts.take k0)).length + 3000 ≤ 140737488354000 := by
        have := length_textsW 255 (d.texts.take k0) fun t ht => HT.out t (List.mem_of_mem_take ht)
        rw [List.length_append]
        rw [List.length_take] at this
        have h3 : (255 + 7) * min k0 d.texts.length ≤ (255 + 7) * 64 := Nat.mul_le_mul_left _ (by omega)
        omega
      have HLEN := Lib.hid hlen
      have HTS := Lib.hid (show textsW (d.texts.take (k0 + 1)) = textsW (d.texts.take k0) ++ (putL [] (d.texts[k0].length : Int) 1 ++ d.texts[k0]) by rw [List.take_succ_eq_append_getElem hlt, textsW_snoc])
      have HCA := Lib.hid (fun W (h : DataAt W base x d) => (show W.cell? ⟨b, off + k0, none⟩ = some (.string ⟨(d.texts[k0]).toArray⟩) from Row.cell_at (by have := h.t; rw [hA] at this; exact this) hlt))
      have HAA := Lib.hid hA
      obtain ⟨t, htt⟩ : ∃ t, t = d.texts[k0] := ⟨_, rfl⟩
      rw [← htt] at hc hlk HTS HCA
      clear hlen htt hA
      go_wp2_with fail
      refine (rnumP HP.out (t.length : Int) 1 (by have := HLEN.out; omega) (by omega)).mono ?_
      rintro e W2 ⟨rfl, hp2⟩
      obtain ⟨hbx2, hdt2⟩ := HBOX.out _ _ _ hp2
      have p4' : W2.cell? ⟨w.heap.size, 4, none⟩ = some (.slice (some ⟨b, off, none⟩) d.texts.length x.ct) := by rw [← HAA.out]; exact hbx2.cell 4
      have hc' := HCA.out _ hdt2
      have HP2 := Lib.hid hp2
      clear hp2 hbx2 hdt2 p4 hc
      go_wp2_with (refine wpList_bytes rfl (.tmp 33) 9 28 5 rfl Try.underlying9 Try.underlying28 Try.underlying5 t rfl ?_; intro C4 W3 hC4 hM4 hB4 hs4)
      have hr := hM4.row.take t.length
      rw [List.take_left' (by rw [List.length_map])] at hr
      have HR3 := Lib.hid (hr.mono (show _ ≤ W3.heap.size by first | omega | exact Nat.le_refl _ | (simp; omega)))
      have HP3 := Lib.hid (HP2.out.more hB4)
      have hp7 := length_putL (t.length : Int) 1
      clear hr hM4 hB4 hs4 HP2 p4' hc'
      refine (rrawP HP3.out _ t.length C4 t rfl HR3.out (by have := HLEN.out; rw [List.length_append]; omega)).mono ?_
      rintro e W4 ⟨rfl, hp4⟩
      have HP4 := Lib.hid hp4
      clear hp4
      go_wp2
      refine ⟨⟨k0 + 1, hlt, by go_num, ?_⟩, by simp [intOf]; omega⟩
      rw [HTS.out, ← List.append_assoc, ← List.append_assoc]
      exact HP4.out
    · obtain rfl : k0 = d.texts.length := by omega
      have hpe := HP.out
      rw [List.take_length] at hpe
      obtain ⟨B2, hB2⟩ : ∃ B2, B2 = B1 ++ textsW d.texts := ⟨_, rfl⟩
      rw [← hB2] at hpe
      have hl2 : B2.length ≤ 102000000 := by
        have := length_textsW 255 d.texts HT.out
        have h3 : (255 + 7) * d.texts.length ≤ (255 + 7) * 64 := Nat.mul_le_mul_left _ htl
        rw [hB2, List.length_append]
        omega
      have HPE := Lib.hid hpe
      have HB2 := Lib.hid hB2
      clear hpe hB2 HP HDT HBX
      go_wp2
      go_end0
      have hz := HPE.out
      rw [HB2.out, HB1.out] at hz
      exact ⟨rfl, HFIN.out _ _ _ hz⟩

set_option maxRecDepth 20000 in
set_option maxHeartbeats 2000000 in
theorem rput_28 (base : Nat) (w : World) (Fp : Nat → Prop) (g : Nat) (vB vR : Value) (B : List UInt8) (R : Rs) (x : DV) (d : Dt) (h : RWr w base Fp g vB vR B R) (hx : DataAt w base x d) (hs : soundD 28 d = true) (hN : ∀ n ∈ d.nums, n ≤ 9223372036854775807)
    (hB : B.length ≤ 100000000) (_ : R.length ≤ 800000) (hR16 : ∀ r ∈ R, r.2 < 16384 ∧ r.1.length ≤ 1000) :
    Calls Try.prog 84 #[.pointer (some ⟨g, 0, none⟩), .int .i64 28, x.val d] w (fun e w' => e = .returned (.tuple #[]) ∧ RPenned base w Fp g (putD (shN 28) d B R).1 (putD (shN 28) d B R).2 w') := by
  have sp := soundP hs
  have hE := putD_none (s := shN 28) B R sp rfl rfl rfl rfl (by decide)
  rw [hE]
  have hbm : d.bytes.length ≤ 65535 := Nat.le_trans sp.b (by skip <;> first | decide | exact Nat.le_refl _)
  have htl := sp.t
  have hnl : d.nums.length ≤ 10 := by have := sp.n; have h1 : (shN 28).ahead + (shN 28).behind ≤ 10 := (by skip <;> decide); omega
  have HT := Lib.hid sp.tl
  have HN := Lib.hid hN
  have HR := Lib.hid hR16
  have HFIN := Lib.hid (fun B' R' W (hp : RPenned base (w.alloc (.cells #[x.vb d, x.vh d, x.vm d, x.vn d, x.vt d] 46)) Fp g B' R' W) => hp.from)
  have HBOX := Lib.hid (fun B' R' W (hp : RPenned base (w.alloc (.cells #[x.vb d, x.vh d, x.vm d, x.vn d, x.vt d] 46)) Fp g B' R' W) => box_stays hx h.low h.size hp)
  have hp0 : RPenned base (w.alloc (.cells #[x.vb d, x.vh d, x.vm d, x.vn d, x.vt d] 46)) Fp g B R (w.alloc (.cells #[x.vb d, x.vh d, x.vm d, x.vn d, x.vt d] 46)) :=
    ⟨Fp, vB, vR, h.below ((Below.refl _ _).alloc (Nat.le_refl _) _), Grew.refl _ _, fun _ hj => .inl hj⟩
  have hrb := (HBOX.out _ _ _ hp0).2.b
  have hch := hx.lh
  have hcm := hx.lm
  have HP0 := Lib.hid hp0
  have HRB := Lib.hid (hrb.mono (show base ≤ (w.alloc (.cells #[x.vb d, x.vh d, x.vm d, x.vn d, x.vt d] 46)).heap.size by have := h.size; simp; omega))
  clear sp hE h hx hs hN hR16 hp0 hrb
  go_enter Try.func84, Try.ntmps84
  go_wp2_with fail
  refine (rrawP HP0.out x.Ab d.bytes.length x.cb d.bytes rfl HRB.out (by omega)).mono ?_
  rintro e W1 ⟨rfl, hp1⟩
  generalize w.alloc (.cells #[x.vb d, x.vh d, x.vm d, x.vn d, x.vt d] 46) = w1 at *
  obtain ⟨B1, hB1⟩ : ∃ B1, B1 = B ++ d.bytes := ⟨_, rfl⟩
  rw [← hB1] at hp1
  have hl1 : B1.length ≤ 101000000 := by rw [hB1, List.length_append]; omega
  have HP1 := Lib.hid hp1
  have HB1 := Lib.hid hB1
  clear hp1 hB1 HP0 HRB
  go_wp2
  go_loopw [6] (RTRel base w1 Fp g B1 R d.texts) (fun i _ => d.texts.length - (intOf i).toNat)
  case atStart => exact ⟨0, Nat.zero_le _, rfl, by simpa [textsW] using HP1.out⟩
  case round =>
    obtain ⟨k0, hk0, rfl, hp⟩ := hrel
    obtain ⟨hbx, hdt⟩ := HBOX.out _ _ _ hp
    have p4 : wr.cell? ⟨w.heap.size, 4, none⟩ = some (.slice x.At d.texts.length x.ct) := hbx.cell 4
    have HP := Lib.hid hp
    have HDT := Lib.hid hdt
    have HBX := Lib.hid hbx
    clear hp hbx hdt HP1
    by_cases hlt : k0 < d.texts.length
    · obtain ⟨b, off, hA, _, hc⟩ := HDT.out.t.name_at hlt
      rw [hA] at p4
      have hlk := HT.out d.texts[k0] (List.getElem_mem hlt)
      have hlen : (B1 ++ textsW (d.texts.take k0)).length + 3000 ≤ 140737488354000 := by
        have := length_textsW 255 (d.texts.take k0) fun t ht => HT.out t (List.mem_of_mem_take ht)
        rw [List.length_append]
        rw [List.length_take] at this
        have h3 : (255 + 7) * min k0 d.texts.length ≤ (255 + 7) * 64 := Nat.mul_le_mul_left _ (by omega)
        omega
      have HLEN := Lib.hid hlen
      have HTS := Lib.hid (show textsW (d.texts.take (k0 + 1)) = textsW (d.texts.take k0) ++ (putL [] (d.texts[k0].length : Int) 1 ++ d.texts[k0]) by rw [List.take_succ_eq_append_getElem hlt, textsW_snoc])
      have HCA := Lib.hid (fun W (h : DataAt W base x d) => (show W.cell? ⟨b, off + k0, none⟩ = some (.string ⟨(d.texts[k0]).toArray⟩) from Row.cell_at (by have := h.t; rw [hA] at this; exact this) hlt))
      have HAA := Lib.hid hA
      obtain ⟨t, htt⟩ : ∃ t, t = d.texts[k0] := ⟨_, rfl⟩
      rw [← htt] at hc hlk HTS HCA
      clear hlen htt hA
      go_wp2_with fail
      refine (rnumP HP.out (t.length : Int) 1 (by have := HLEN.out; omega) (by omega)).mono ?_
      rintro e W2 ⟨rfl, hp2⟩
      obtain ⟨hbx2, hdt2⟩ := HBOX.out _ _ _ hp2
      have p4' : W2.cell? ⟨w.heap.size, 4, none⟩ = some (.slice (some ⟨b, off, none⟩) d.texts.length x.ct) := by rw [← HAA.out]; exact hbx2.cell 4
      have hc' := HCA.out _ hdt2
      have HP2 := Lib.hid hp2
      clear hp2 hbx2 hdt2 p4 hc
      go_wp2_with (refine wpList_bytes rfl (.tmp 33) 9 28 5 rfl Try.underlying9 Try.underlying28 Try.underlying5 t rfl ?_; intro C4 W3 hC4 hM4 hB4 hs4)
      have hr := hM4.row.take t.length
      rw [List.take_left' (by rw [List.length_map])] at hr
      have HR3 := Lib.hid (hr.mono (show _ ≤ W3.heap.size by first | omega | exact Nat.le_refl _ | (simp; omega)))
      have HP3 := Lib.hid (HP2.out.more hB4)
      have hp7 := length_putL (t.length : Int) 1
      clear hr hM4 hB4 hs4 HP2 p4' hc'
      refine (rrawP HP3.out _ t.length C4 t rfl HR3.out (by have := HLEN.out; rw [List.length_append]; omega)).mono ?_
      rintro e W4 ⟨rfl, hp4⟩
      have HP4 := Lib.hid hp4
      clear hp4
      go_wp2
      refine ⟨⟨k0 + 1, hlt, by go_num, ?_⟩, by simp [intOf]; omega⟩
      rw [HTS.out, ← List.append_assoc, ← List.append_assoc]
      exact HP4.out
    · obtain rfl : k0 = d.texts.length := by omega
      have hpe := HP.out
      rw [List.take_length] at hpe
      obtain ⟨B2, hB2⟩ : ∃ B2, B2 = B1 ++ textsW d.texts := ⟨_, rfl⟩
      rw [← hB2] at hpe
      have hl2 : B2.length ≤ 102000000 := by
        have := length_textsW 255 d.texts HT.out
        have h3 : (255 + 7) * d.texts.length ≤ (255 + 7) * 64 := Nat.mul_le_mul_left _ htl
        rw [hB2, List.length_append]
        omega
      have HPE := Lib.hid hpe
      have HB2 := Lib.hid hB2
      clear hpe hB2 HP HDT HBX
      go_wp2
      go_end0
      have hz := HPE.out
      rw [HB2.out, HB1.out] at hz
      exact ⟨rfl, HFIN.out _ _ _ hz⟩

set_option maxRecDepth 20000 in
set_option maxHeartbeats 2000000 in
theorem rput_16 (base : Nat) (w : World) (Fp : Nat → Prop) (g : Nat) (vB vR : Value) (B : List UInt8) (R : Rs) (x : DV) (d : Dt) (h : RWr w base Fp g vB vR B R) (hx : DataAt w base x d) (hs : soundD 16 d = true) (hN : ∀ n ∈ d.nums, n ≤ 9223372036854775807)
    (hB : B.length ≤ 100000000) (_ : R.length ≤ 800000) (hR16 : ∀ r ∈ R, r.2 < 16384 ∧ r.1.length ≤ 1000) :
    Calls Try.prog 84 #[.pointer (some ⟨g, 0, none⟩), .int .i64 16, x.val d] w (fun e w' => e = .returned (.tuple #[]) ∧ RPenned base w Fp g (putD (shN 16) d B R).1 (putD (shN 16) d B R).2 w') := by
  have sp := soundP hs
  have hE := putD_none (s := shN 16) B R sp rfl rfl rfl rfl (by decide)
  rw [hE]
  have hbm : d.bytes.length ≤ 65535 := Nat.le_trans sp.b (by skip <;> first | decide | exact Nat.le_refl _)
  have htl := sp.t
  have hnl : d.nums.length ≤ 10 := by have := sp.n; have h1 : (shN 16).ahead + (shN 16).behind ≤ 10 := (by skip <;> decide); omega
  have HT := Lib.hid sp.tl
  have HN := Lib.hid hN
  have HR := Lib.hid hR16
  have HFIN := Lib.hid (fun B' R' W (hp : RPenned base (w.alloc (.cells #[x.vb d, x.vh d, x.vm d, x.vn d, x.vt d] 46)) Fp g B' R' W) => hp.from)
  have HBOX := Lib.hid (fun B' R' W (hp : RPenned base (w.alloc (.cells #[x.vb d, x.vh d, x.vm d, x.vn d, x.vt d] 46)) Fp g B' R' W) => box_stays hx h.low h.size hp)
  have hp0 : RPenned base (w.alloc (.cells #[x.vb d, x.vh d, x.vm d, x.vn d, x.vt d] 46)) Fp g B R (w.alloc (.cells #[x.vb d, x.vh d, x.vm d, x.vn d, x.vt d] 46)) :=
    ⟨Fp, vB, vR, h.below ((Below.refl _ _).alloc (Nat.le_refl _) _), Grew.refl _ _, fun _ hj => .inl hj⟩
  have hrb := (HBOX.out _ _ _ hp0).2.b
  have hch := hx.lh
  have hcm := hx.lm
  have HP0 := Lib.hid hp0
  have HRB := Lib.hid (hrb.mono (show base ≤ (w.alloc (.cells #[x.vb d, x.vh d, x.vm d, x.vn d, x.vt d] 46)).heap.size by have := h.size; simp; omega))
  clear sp hE h hx hs hN hR16 hp0 hrb
  go_enter Try.func84, Try.ntmps84
  go_wp2_with fail
  refine (rrawP HP0.out x.Ab d.bytes.length x.cb d.bytes rfl HRB.out (by omega)).mono ?_
  rintro e W1 ⟨rfl, hp1⟩
  generalize w.alloc (.cells #[x.vb d, x.vh d, x.vm d, x.vn d, x.vt d] 46) = w1 at *
  obtain ⟨B1, hB1⟩ : ∃ B1, B1 = B ++ d.bytes := ⟨_, rfl⟩
  rw [← hB1] at hp1
  have hl1 : B1.length ≤ 101000000 := by rw [hB1, List.length_append]; omega
  have HP1 := Lib.hid hp1
  have HB1 := Lib.hid hB1
  clear hp1 hB1 HP0 HRB
  go_wp2
  go_loopw [6] (RTRel base w1 Fp g B1 R d.texts) (fun i _ => d.texts.length - (intOf i).toNat)
  case atStart => exact ⟨0, Nat.zero_le _, rfl, by simpa [textsW] using HP1.out⟩
  case round =>
    obtain ⟨k0, hk0, rfl, hp⟩ := hrel
    obtain ⟨hbx, hdt⟩ := HBOX.out _ _ _ hp
    have p4 : wr.cell? ⟨w.heap.size, 4, none⟩ = some (.slice x.At d.texts.length x.ct) := hbx.cell 4
    have HP := Lib.hid hp
    have HDT := Lib.hid hdt
    have HBX := Lib.hid hbx
    clear hp hbx hdt HP1
    by_cases hlt : k0 < d.texts.length
    · obtain ⟨b, off, hA, _, hc⟩ := HDT.out.t.name_at hlt
      rw [hA] at p4
      have hlk := HT.out d.texts[k0] (List.getElem_mem hlt)
      have hlen : (B1 ++ textsW (d.texts.take k0)).length + 3000 ≤ 140737488354000 := by
        have := length_textsW 255 (d.texts.take k0) fun t ht => HT.out t (List.mem_of_mem_take ht)
        rw [List.length_append]
        rw [List.length_take] at this
        have h3 : (255 + 7) * min k0 d.texts.length ≤ (255 + 7) * 64 := Nat.mul_le_mul_left _ (by omega)
        omega
      have HLEN := Lib.hid hlen
      have HTS := Lib.hid (show textsW (d.texts.take (k0 + 1)) = textsW (d.texts.take k0) ++ (putL [] (d.texts[k0].length : Int) 1 ++ d.texts[k0]) by rw [List.take_succ_eq_append_getElem hlt, textsW_snoc])
      have HCA := Lib.hid (fun W (h : DataAt W base x d) => (show W.cell? ⟨b, off + k0, none⟩ = some (.string ⟨(d.texts[k0]).toArray⟩) from Row.cell_at (by have := h.t; rw [hA] at this; exact this) hlt))
      have HAA := Lib.hid hA
      obtain ⟨t, htt⟩ : ∃ t, t = d.texts[k0] := ⟨_, rfl⟩
      rw [← htt] at hc hlk HTS HCA
      clear hlen htt hA
      go_wp2_with fail
      refine (rnumP HP.out (t.length : Int) 1 (by have := HLEN.out; omega) (by omega)).mono ?_
      rintro e W2 ⟨rfl, hp2⟩
      obtain ⟨hbx2, hdt2⟩ := HBOX.out _ _ _ hp2
      have p4' : W2.cell? ⟨w.heap.size, 4, none⟩ = some (.slice (some ⟨b, off, none⟩) d.texts.length x.ct) := by rw [← HAA.out]; exact hbx2.cell 4
      have hc' := HCA.out _ hdt2
      have HP2 := Lib.hid hp2
      clear hp2 hbx2 hdt2 p4 hc
      go_wp2_with (refine wpList_bytes rfl (.tmp 33) 9 28 5 rfl Try.underlying9 Try.underlying28 Try.underlying5 t rfl ?_; intro C4 W3 hC4 hM4 hB4 hs4)
      have hr := hM4.row.take t.length
      rw [List.take_left' (by rw [List.length_map])] at hr
      have HR3 := Lib.hid (hr.mono (show _ ≤ W3.heap.size by first | omega | exact Nat.le_refl _ | (simp; omega)))
      have HP3 := Lib.hid (HP2.out.more hB4)
      have hp7 := length_putL (t.length : Int) 1
      clear hr hM4 hB4 hs4 HP2 p4' hc'
      refine (rrawP HP3.out _ t.length C4 t rfl HR3.out (by have := HLEN.out; rw [List.length_append]; omega)).mono ?_
      rintro e W4 ⟨rfl, hp4⟩
      have HP4 := Lib.hid hp4
      clear hp4
      go_wp2
      refine ⟨⟨k0 + 1, hlt, by go_num, ?_⟩, by simp [intOf]; omega⟩
      rw [HTS.out, ← List.append_assoc, ← List.append_assoc]
      exact HP4.out
    · obtain rfl : k0 = d.texts.length := by omega
      have hpe := HP.out
      rw [List.take_length] at hpe
      obtain ⟨B2, hB2⟩ : ∃ B2, B2 = B1 ++ textsW d.texts := ⟨_, rfl⟩
      rw [← hB2] at hpe
      have hl2 : B2.length ≤ 102000000 := by
        have := length_textsW 255 d.texts HT.out
        have h3 : (255 + 7) * d.texts.length ≤ (255 + 7) * 64 := Nat.mul_le_mul_left _ htl
        rw [hB2, List.length_append]
        omega
      have HPE := Lib.hid hpe
      have HB2 := Lib.hid hB2
      clear hpe hB2 HP HDT HBX
      go_wp2
      go_end0
      have hz := HPE.out
      rw [HB2.out, HB1.out] at hz
      exact ⟨rfl, HFIN.out _ _ _ hz⟩

set_option maxRecDepth 20000 in
set_option maxHeartbeats 2000000 in
theorem rput_other (base : Nat) (w : World) (Fp : Nat → Prop) (g : Nat) (vB vR : Value) (B : List UInt8) (R : Rs) (k : Int) (hk : (k == 1) = false ∧ (k == 28) = false ∧ (k == 2) = false ∧ (k == 5) = false ∧ (k == 12) = false ∧ (k == 15) = false ∧ (k == 6) = false ∧ (k == 16) = false ∧ (k == 33) = false) (x : DV) (d : Dt) (h : RWr w base Fp g vB vR B R) (hx : DataAt w base x d) (hs : soundD k d = true) (hN : ∀ n ∈ d.nums, n ≤ 9223372036854775807)
    (hB : B.length ≤ 100000000) (_ : R.length ≤ 800000) (hR16 : ∀ r ∈ R, r.2 < 16384 ∧ r.1.length ≤ 1000) :
    Calls Try.prog 84 #[.pointer (some ⟨g, 0, none⟩), .int .i64 k, x.val d] w (fun e w' => e = .returned (.tuple #[]) ∧ RPenned base w Fp g (putD (shN k) d B R).1 (putD (shN k) d B R).2 w') := by
  have sp := soundP hs
  have hE := putD_none (s := shN k) B R sp (by rw [shN_other hk]) (by rw [shN_other hk]) (by rw [shN_other hk]) (by rw [shN_other hk]) (by rw [shN_other hk]; intro h; cases h)
  obtain ⟨k01, k28, k02, k05, k12, k15, k06, k16, k33⟩ := id hk
  rw [hE]
  have hbm : d.bytes.length ≤ 65535 := Nat.le_trans sp.b (by rw [shN_other hk] <;> first | decide | exact Nat.le_refl _)
  have htl := sp.t
  have hnl : d.nums.length ≤ 10 := by have := sp.n; have h1 : (shN k).ahead + (shN k).behind ≤ 10 := (by rw [shN_other hk] <;> decide); omega
  have HT := Lib.hid sp.tl
  have HN := Lib.hid hN
  have HR := Lib.hid hR16
  have HFIN := Lib.hid (fun B' R' W (hp : RPenned base (w.alloc (.cells #[x.vb d, x.vh d, x.vm d, x.vn d, x.vt d] 46)) Fp g B' R' W) => hp.from)
  have HBOX := Lib.hid (fun B' R' W (hp : RPenned base (w.alloc (.cells #[x.vb d, x.vh d, x.vm d, x.vn d, x.vt d] 46)) Fp g B' R' W) => box_stays hx h.low h.size hp)
  have hp0 : RPenned base (w.alloc (.cells #[x.vb d, x.vh d, x.vm d, x.vn d, x.vt d] 46)) Fp g B R (w.alloc (.cells #[x.vb d, x.vh d, x.vm d, x.vn d, x.vt d] 46)) :=
    ⟨Fp, vB, vR, h.below ((Below.refl _ _).alloc (Nat.le_refl _) _), Grew.refl _ _, fun _ hj => .inl hj⟩
  have hrb := (HBOX.out _ _ _ hp0).2.b
  have hch := hx.lh
  have hcm := hx.lm
  have HP0 := Lib.hid hp0
  have HRB := Lib.hid (hrb.mono (show base ≤ (w.alloc (.cells #[x.vb d, x.vh d, x.vm d, x.vn d, x.vt d] 46)).heap.size by have := h.size; simp; omega))
  clear sp hE h hx hs hN hR16 hp0 hrb
  go_enter Try.func84, Try.ntmps84
  go_wp2_with fail
  refine (rrawP HP0.out x.Ab d.bytes.length x.cb d.bytes rfl HRB.out (by omega)).mono ?_
  rintro e W1 ⟨rfl, hp1⟩
  generalize w.alloc (.cells #[x.vb d, x.vh d, x.vm d, x.vn d, x.vt d] 46) = w1 at *
  obtain ⟨B1, hB1⟩ : ∃ B1, B1 = B ++ d.bytes := ⟨_, rfl⟩
  rw [← hB1] at hp1
  have hl1 : B1.length ≤ 101000000 := by rw [hB1, List.length_append]; omega
  have HP1 := Lib.hid hp1
  have HB1 := Lib.hid hB1
  clear hp1 hB1 HP0 HRB
  go_wp2
  go_loopw [6] (RTRel base w1 Fp g B1 R d.texts) (fun i _ => d.texts.length - (intOf i).toNat)
  case atStart => exact ⟨0, Nat.zero_le _, rfl, by simpa [textsW] using HP1.out⟩
  case round =>
    obtain ⟨k0, hk0, rfl, hp⟩ := hrel
    obtain ⟨hbx, hdt⟩ := HBOX.out _ _ _ hp
    have p4 : wr.cell? ⟨w.heap.size, 4, none⟩ = some (.slice x.At d.texts.length x.ct) := hbx.cell 4
    have HP := Lib.hid hp
    have HDT := Lib.hid hdt
    have HBX := Lib.hid hbx
    clear hp hbx hdt HP1
    by_cases hlt : k0 < d.texts.length
    · obtain ⟨b, off, hA, _, hc⟩ := HDT.out.t.name_at hlt
      rw [hA] at p4
      have hlk := HT.out d.texts[k0] (List.getElem_mem hlt)
      have hlen : (B1 ++ textsW (d.texts.take k0)).length + 3000 ≤ 140737488354000 := by
        have := length_textsW 255 (d.texts.take k0) fun t ht => HT.out t (List.mem_of_mem_take ht)
        rw [List.length_append]
        rw [List.length_take] at this
        have h3 : (255 + 7) * min k0 d.texts.length ≤ (255 + 7) * 64 := Nat.mul_le_mul_left _ (by omega)
        omega
      have HLEN := Lib.hid hlen
      have HTS := Lib.hid (show textsW (d.texts.take (k0 + 1)) = textsW (d.texts.take k0) ++ (putL [] (d.texts[k0].length : Int) 1 ++ d.texts[k0]) by rw [List.take_succ_eq_append_getElem hlt, textsW_snoc])
      have HCA := Lib.hid (fun W (h : DataAt W base x d) => (show W.cell? ⟨b, off + k0, none⟩ = some (.string ⟨(d.texts[k0]).toArray⟩) from Row.cell_at (by have := h.t; rw [hA] at this; exact this) hlt))
      have HAA := Lib.hid hA
      obtain ⟨t, htt⟩ : ∃ t, t = d.texts[k0] := ⟨_, rfl⟩
      rw [← htt] at hc hlk HTS HCA
      clear hlen htt hA
      go_wp2_with fail
      refine (rnumP HP.out (t.length : Int) 1 (by have := HLEN.out; omega) (by omega)).mono ?_
      rintro e W2 ⟨rfl, hp2⟩
      obtain ⟨hbx2, hdt2⟩ := HBOX.out _ _ _ hp2
      have p4' : W2.cell? ⟨w.heap.size, 4, none⟩ = some (.slice (some ⟨b, off, none⟩) d.texts.length x.ct) := by rw [← HAA.out]; exact hbx2.cell 4
      have hc' := HCA.out _ hdt2
      have HP2 := Lib.hid hp2
      clear hp2 hbx2 hdt2 p4 hc
      go_wp2_with (refine wpList_bytes rfl (.tmp 33) 9 28 5 rfl Try.underlying9 Try.underlying28 Try.underlying5 t rfl ?_; intro C4 W3 hC4 hM4 hB4 hs4)
      have hr := hM4.row.take t.length
      rw [List.take_left' (by rw [List.length_map])] at hr
      have HR3 := Lib.hid (hr.mono (show _ ≤ W3.heap.size by first | omega | exact Nat.le_refl _ | (simp; omega)))
      have HP3 := Lib.hid (HP2.out.more hB4)
      have hp7 := length_putL (t.length : Int) 1
      clear hr hM4 hB4 hs4 HP2 p4' hc'
      refine (rrawP HP3.out _ t.length C4 t rfl HR3.out (by have := HLEN.out; rw [List.length_append]; omega)).mono ?_
      rintro e W4 ⟨rfl, hp4⟩
      have HP4 := Lib.hid hp4
      clear hp4
      go_wp2
      refine ⟨⟨k0 + 1, hlt, by go_num, ?_⟩, by simp [intOf]; omega⟩
      rw [HTS.out, ← List.append_assoc, ← List.append_assoc]
      exact HP4.out
    · obtain rfl : k0 = d.texts.length := by omega
      have hpe := HP.out
      rw [List.take_length] at hpe
      obtain ⟨B2, hB2⟩ : ∃ B2, B2 = B1 ++ textsW d.texts := ⟨_, rfl⟩
      rw [← hB2] at hpe
      have hl2 : B2.length ≤ 102000000 := by
        have := length_textsW 255 d.texts HT.out
        have h3 : (255 + 7) * d.texts.length ≤ (255 + 7) * 64 := Nat.mul_le_mul_left _ htl
        rw [hB2, List.length_append]
        omega
      have HPE := Lib.hid hpe
      have HB2 := Lib.hid hB2
      clear hpe hB2 HP HDT HBX
      go_wp2
      go_end0
      have hz := HPE.out
      rw [HB2.out, HB1.out] at hz
      exact ⟨rfl, HFIN.out _ _ _ hz⟩

set_option maxRecDepth 20000 in
set_option maxHeartbeats 2000000 in
theorem rput_2 (base : Nat) (w : World) (Fp : Nat → Prop) (g : Nat) (vB vR : Value) (B : List UInt8) (R : Rs) (x : DV) (d : Dt) (h : RWr w base Fp g vB vR B R) (hx : DataAt w base x d) (hs : soundD 2 d = true) (hN : ∀ n ∈ d.nums, n ≤ 9223372036854775807)
    (hB : B.length ≤ 100000000) (hR : R.length ≤ 800000) (hR16 : ∀ r ∈ R, r.2 < 16384 ∧ r.1.length ≤ 1000) :
    Calls Try.prog 84 #[.pointer (some ⟨g, 0, none⟩), .int .i64 2, x.val d] w (fun e w' => e = .returned (.tuple #[]) ∧ RPenned base w Fp g (putD (shN 2) d B R).1 (putD (shN 2) d B R).2 w') := by
  have sp := soundP hs
  have hE := putD_host (s := shN 2) B R sp rfl rfl rfl rfl rfl
  rw [show d.nums = [] from List.eq_nil_of_length_eq_zero (by have := sp.n; exact this), show numsW 2 [] = [] from rfl, List.append_nil, show (shN 2).short = true from rfl] at hE
  rw [hE]
  have hbm : d.bytes.length ≤ 65535 := Nat.le_trans sp.b (by skip <;> first | decide | exact Nat.le_refl _)
  have htl := sp.t
  have hnl : d.nums.length ≤ 10 := by have := sp.n; have h1 : (shN 2).ahead + (shN 2).behind ≤ 10 := (by skip <;> decide); omega
  have HT := Lib.hid sp.tl
  have HN := Lib.hid hN
  have HR := Lib.hid hR16
  have HFIN := Lib.hid (fun B' R' W (hp : RPenned base (w.alloc (.cells #[x.vb d, x.vh d, x.vm d, x.vn d, x.vt d] 46)) Fp g B' R' W) => hp.from)
  have HBOX := Lib.hid (fun B' R' W (hp : RPenned base (w.alloc (.cells #[x.vb d, x.vh d, x.vm d, x.vn d, x.vt d] 46)) Fp g B' R' W) => box_stays hx h.low h.size hp)
  have hp0 : RPenned base (w.alloc (.cells #[x.vb d, x.vh d, x.vm d, x.vn d, x.vt d] 46)) Fp g B R (w.alloc (.cells #[x.vb d, x.vh d, x.vm d, x.vn d, x.vt d] 46)) :=
    ⟨Fp, vB, vR, h.below ((Below.refl _ _).alloc (Nat.le_refl _) _), Grew.refl _ _, fun _ hj => .inl hj⟩
  have hrb := (HBOX.out _ _ _ hp0).2.b
  have hch := hx.lh
  have hcm := hx.lm
  have HP0 := Lib.hid hp0
  have HRB := Lib.hid (hrb.mono (show base ≤ (w.alloc (.cells #[x.vb d, x.vh d, x.vm d, x.vn d, x.vt d] 46)).heap.size by have := h.size; simp; omega))
  have HSH := Lib.hid (sp.h rfl)
  have hnh := soundN_parts (sp.h rfl)
  have hn1 := szN_ge _ hnh.1
  have hn2 := hnh.2
  have HF1 := Lib.hid hnh.1
  clear sp hE h hx hs hN hR16 hp0 hrb hnh
  go_enter Try.func84, Try.ntmps84
  go_wp2_with fail
  refine (rrawP HP0.out x.Ab d.bytes.length x.cb d.bytes rfl HRB.out (by omega)).mono ?_
  rintro e W1 ⟨rfl, hp1⟩
  generalize w.alloc (.cells #[x.vb d, x.vh d, x.vm d, x.vn d, x.vt d] 46) = w1 at *
  obtain ⟨B1, hB1⟩ : ∃ B1, B1 = B ++ d.bytes := ⟨_, rfl⟩
  rw [← hB1] at hp1
  have hl1 : B1.length ≤ 101000000 := by rw [hB1, List.length_append]; omega
  have HP1 := Lib.hid hp1
  have HB1 := Lib.hid hB1
  clear hp1 hB1 HP0 HRB
  go_wp2
  go_loopw [6] (RTRel base w1 Fp g B1 R d.texts) (fun i _ => d.texts.length - (intOf i).toNat)
  case atStart => exact ⟨0, Nat.zero_le _, rfl, by simpa [textsW] using HP1.out⟩
  case round =>
    obtain ⟨k0, hk0, rfl, hp⟩ := hrel
    obtain ⟨hbx, hdt⟩ := HBOX.out _ _ _ hp
    have p4 : wr.cell? ⟨w.heap.size, 4, none⟩ = some (.slice x.At d.texts.length x.ct) := hbx.cell 4
    have HP := Lib.hid hp
    have HDT := Lib.hid hdt
    have HBX := Lib.hid hbx
    clear hp hbx hdt HP1
    by_cases hlt : k0 < d.texts.length
    · obtain ⟨b, off, hA, _, hc⟩ := HDT.out.t.name_at hlt
      rw [hA] at p4
      have hlk := HT.out d.texts[k0] (List.getElem_mem hlt)
      have hlen : (B1 ++ textsW (d.texts.take k0)).length + 3000 ≤ 140737488354000 := by
        have := length_textsW 255 (d.texts.take k0) fun t ht => HT.out t (List.mem_of_mem_take ht)
        rw [List.length_append]
        rw [List.length_take] at this
        have h3 : (255 + 7) * min k0 d.texts.length ≤ (255 + 7) * 64 := Nat.mul_le_mul_left _ (by omega)
        omega
      have HLEN := Lib.hid hlen
      have HTS := Lib.hid (show textsW (d.texts.take (k0 + 1)) = textsW (d.texts.take k0) ++ (putL [] (d.texts[k0].length : Int) 1 ++ d.texts[k0]) by rw [List.take_succ_eq_append_getElem hlt, textsW_snoc])
      have HCA := Lib.hid (fun W (h : DataAt W base x d) => (show W.cell? ⟨b, off + k0, none⟩ = some (.string ⟨(d.texts[k0]).toArray⟩) from Row.cell_at (by have := h.t; rw [hA] at this; exact this) hlt))
      have HAA := Lib.hid hA
      obtain ⟨t, htt⟩ : ∃ t, t = d.texts[k0] := ⟨_, rfl⟩
      rw [← htt] at hc hlk HTS HCA
      clear hlen htt hA
      go_wp2_with fail
      refine (rnumP HP.out (t.length : Int) 1 (by have := HLEN.out; omega) (by omega)).mono ?_
      rintro e W2 ⟨rfl, hp2⟩
      obtain ⟨hbx2, hdt2⟩ := HBOX.out _ _ _ hp2
      have p4' : W2.cell? ⟨w.heap.size, 4, none⟩ = some (.slice (some ⟨b, off, none⟩) d.texts.length x.ct) := by rw [← HAA.out]; exact hbx2.cell 4
      have hc' := HCA.out _ hdt2
      have HP2 := Lib.hid hp2
      clear hp2 hbx2 hdt2 p4 hc
      go_wp2_with (refine wpList_bytes rfl (.tmp 33) 9 28 5 rfl Try.underlying9 Try.underlying28 Try.underlying5 t rfl ?_; intro C4 W3 hC4 hM4 hB4 hs4)
      have hr := hM4.row.take t.length
      rw [List.take_left' (by rw [List.length_map])] at hr
      have HR3 := Lib.hid (hr.mono (show _ ≤ W3.heap.size by first | omega | exact Nat.le_refl _ | (simp; omega)))
      have HP3 := Lib.hid (HP2.out.more hB4)
      have hp7 := length_putL (t.length : Int) 1
      clear hr hM4 hB4 hs4 HP2 p4' hc'
      refine (rrawP HP3.out _ t.length C4 t rfl HR3.out (by have := HLEN.out; rw [List.length_append]; omega)).mono ?_
      rintro e W4 ⟨rfl, hp4⟩
      have HP4 := Lib.hid hp4
      clear hp4
      go_wp2
      refine ⟨⟨k0 + 1, hlt, by go_num, ?_⟩, by simp [intOf]; omega⟩
      rw [HTS.out, ← List.append_assoc, ← List.append_assoc]
      exact HP4.out
    · obtain rfl : k0 = d.texts.length := by omega
      have hpe := HP.out
      rw [List.take_length] at hpe
      obtain ⟨B2, hB2⟩ : ∃ B2, B2 = B1 ++ textsW d.texts := ⟨_, rfl⟩
      rw [← hB2] at hpe
      have hl2 : B2.length ≤ 102000000 := by
        have := length_textsW 255 d.texts HT.out
        have h3 : (255 + 7) * d.texts.length ≤ (255 + 7) * 64 := Nat.mul_le_mul_left _ htl
        rw [hB2, List.length_append]
        omega
      have HPE := Lib.hid hpe
      have HB2 := Lib.hid hB2
      clear hpe hB2 HP HDT HBX

      obtain ⟨hbx1, hdt1⟩ := HBOX.out _ _ _ HPE.out
      have pn1 : wr.cell? ⟨w.heap.size, 1, none⟩ = some (.slice x.Ah d.host.length x.ch) := hbx1.cell 1
      have HD1 := Lib.hid hdt1
      clear hbx1 hdt1
      go_wp2_with fail
      refine (rnameP HPE.out x.Ah x.ch d.host true HD1.out.h hch HSH.out (by omega) (by omega) HR.out).mono ?_
      rintro e WN1 ⟨rfl, hpn1⟩
      have HZ := Lib.hid hpn1
      clear hpn1 pn1
      go_wp2
      go_end0
      have hz := HZ.out
      rw [HB2.out, HB1.out] at hz
      exact ⟨rfl, HFIN.out _ _ _ hz⟩

set_option maxRecDepth 20000 in
set_option maxHeartbeats 2000000 in
theorem rput_5 (base : Nat) (w : World) (Fp : Nat → Prop) (g : Nat) (vB vR : Value) (B : List UInt8) (R : Rs) (x : DV) (d : Dt) (h : RWr w base Fp g vB vR B R) (hx : DataAt w base x d) (hs : soundD 5 d = true) (hN : ∀ n ∈ d.nums, n ≤ 9223372036854775807)
    (hB : B.length ≤ 100000000) (hR : R.length ≤ 800000) (hR16 : ∀ r ∈ R, r.2 < 16384 ∧ r.1.length ≤ 1000) :
    Calls Try.prog 84 #[.pointer (some ⟨g, 0, none⟩), .int .i64 5, x.val d] w (fun e w' => e = .returned (.tuple #[]) ∧ RPenned base w Fp g (putD (shN 5) d B R).1 (putD (shN 5) d B R).2 w') := by
  have sp := soundP hs
  have hE := putD_host (s := shN 5) B R sp rfl rfl rfl rfl rfl
  rw [show d.nums = [] from List.eq_nil_of_length_eq_zero (by have := sp.n; exact this), show numsW 2 [] = [] from rfl, List.append_nil, show (shN 5).short = true from rfl] at hE
  rw [hE]
  have hbm : d.bytes.length ≤ 65535 := Nat.le_trans sp.b (by skip <;> first | decide | exact Nat.le_refl _)
  have htl := sp.t
  have hnl : d.nums.length ≤ 10 := by have := sp.n; have h1 : (shN 5).ahead + (shN 5).behind ≤ 10 := (by skip <;> decide); omega
  have HT := Lib.hid sp.tl
  have HN := Lib.hid hN
  have HR := Lib.hid hR16
  have HFIN := Lib.hid (fun B' R' W (hp : RPenned base (w.alloc (.cells #[x.vb d, x.vh d, x.vm d, x.vn d, x.vt d] 46)) Fp g B' R' W) => hp.from)
  have HBOX := Lib.hid (fun B' R' W (hp : RPenned base (w.alloc (.cells #[x.vb d, x.vh d, x.vm d, x.vn d, x.vt d] 46)) Fp g B' R' W) => box_stays hx h.low h.size hp)
  have hp0 : RPenned base (w.alloc (.cells #[x.vb d, x.vh d, x.vm d, x.vn d, x.vt d] 46)) Fp g B R (w.alloc (.cells #[x.vb d, x.vh d, x.vm d, x.vn d, x.vt d] 46)) :=
    ⟨Fp, vB, vR, h.below ((Below.refl _ _).alloc (Nat.le_refl _) _), Grew.refl _ _, fun _ hj => .inl hj⟩
  have hrb := (HBOX.out _ _ _ hp0).2.b
  have hch := hx.lh
  have hcm := hx.lm
  have HP0 := Lib.hid hp0
  have HRB := Lib.hid (hrb.mono (show base ≤ (w.alloc (.cells #[x.vb d, x.vh d, x.vm d, x.vn d, x.vt d] 46)).heap.size by have := h.size; simp; omega))
  have HSH := Lib.hid (sp.h rfl)
  have hnh := soundN_parts (sp.h rfl)
  have hn1 := szN_ge _ hnh.1
  have hn2 := hnh.2
  have HF1 := Lib.hid hnh.1
  clear sp hE h hx hs hN hR16 hp0 hrb hnh
  go_enter Try.func84, Try.ntmps84
  go_wp2_with fail
  refine (rrawP HP0.out x.Ab d.bytes.length x.cb d.bytes rfl HRB.out (by omega)).mono ?_
  rintro e W1 ⟨rfl, hp1⟩
  generalize w.alloc (.cells #[x.vb d, x.vh d, x.vm d, x.vn d, x.vt d] 46) = w1 at *
  obtain ⟨B1, hB1⟩ : ∃ B1, B1 = B ++ d.bytes := ⟨_, rfl⟩
  rw [← hB1] at hp1
  have hl1 : B1.length ≤ 101000000 := by rw [hB1, List.length_append]; omega
  have HP1 := Lib.hid hp1
  have HB1 := Lib.hid hB1
  clear hp1 hB1 HP0 HRB
  go_wp2
  go_loopw [6] (RTRel base w1 Fp g B1 R d.texts) (fun i _ => d.texts.length - (intOf i).toNat)
  case atStart => exact ⟨0, Nat.zero_le _, rfl, by simpa [textsW] using HP1.out⟩
  case round =>
    obtain ⟨k0, hk0, rfl, hp⟩ := hrel
    obtain ⟨hbx, hdt⟩ := HBOX.out _ _ _ hp
    have p4 : wr.cell? ⟨w.heap.size, 4, none⟩ = some (.slice x.At d.texts.length x.ct) := hbx.cell 4
    have HP := Lib.hid hp
    have HDT := Lib.hid hdt
    have HBX := Lib.hid hbx
    clear hp hbx hdt HP1
    by_cases hlt : k0 < d.texts.length
    · obtain ⟨b, off, hA, _, hc⟩ := HDT.out.t.name_at hlt
      rw [hA] at p4
      have hlk := HT.out d.texts[k0] (List.getElem_mem hlt)
      have hlen : (B1 ++ textsW (d.texts.take k0)).length + 3000 ≤ 140737488354000 := by
        have := length_textsW 255 (d.texts.take k0) fun t ht => HT.out t (List.mem_of_mem_take ht)
        rw [List.length_append]
        rw [List.length_take] at this
        have h3 : (255 + 7) * min k0 d.texts.length ≤ (255 + 7) * 64 := Nat.mul_le_mul_left _ (by omega)
        omega
      have HLEN := Lib.hid hlen
      have HTS := Lib.hid (show textsW (d.texts.take (k0 + 1)) = textsW (d.texts.take k0) ++ (putL [] (d.texts[k0].length : Int) 1 ++ d.texts[k0]) by rw [List.take_succ_eq_append_getElem hlt, textsW_snoc])
      have HCA := Lib.hid (fun W (h : DataAt W base x d) => (show W.cell? ⟨b, off + k0, none⟩ = some (.string ⟨(d.texts[k0]).toArray⟩) from Row.cell_at (by have := h.t; rw [hA] at this; exact this) hlt))
      have HAA := Lib.hid hA
      obtain ⟨t, htt⟩ : ∃ t, t = d.texts[k0] := ⟨_, rfl⟩
      rw [← htt] at hc hlk HTS HCA
      clear hlen htt hA
      go_wp2_with fail
      refine (rnumP HP.out (t.length : Int) 1 (by have := HLEN.out; omega) (by omega)).mono ?_
      rintro e W2 ⟨rfl, hp2⟩
      obtain ⟨hbx2, hdt2⟩ := HBOX.out _ _ _ hp2
      have p4' : W2.cell? ⟨w.heap.size, 4, none⟩ = some (.slice (some ⟨b, off, none⟩) d.texts.length x.ct) := by rw [← HAA.out]; exact hbx2.cell 4
      have hc' := HCA.out _ hdt2
      have HP2 := Lib.hid hp2
      clear hp2 hbx2 hdt2 p4 hc
      go_wp2_with (refine wpList_bytes rfl (.tmp 33) 9 28 5 rfl Try.underlying9 Try.underlying28 Try.underlying5 t rfl ?_; intro C4 W3 hC4 hM4 hB4 hs4)
      have hr := hM4.row.take t.length
      rw [List.take_left' (by rw [List.length_map])] at hr
      have HR3 := Lib.hid (hr.mono (show _ ≤ W3.heap.size by first | omega | exact Nat.le_refl _ | (simp; omega)))
      have HP3 := Lib.hid (HP2.out.more hB4)
      have hp7 := length_putL (t.length : Int) 1
      clear hr hM4 hB4 hs4 HP2 p4' hc'
      refine (rrawP HP3.out _ t.length C4 t rfl HR3.out (by have := HLEN.out; rw [List.length_append]; omega)).mono ?_
      rintro e W4 ⟨rfl, hp4⟩
      have HP4 := Lib.hid hp4
      clear hp4
      go_wp2
      refine ⟨⟨k0 + 1, hlt, by go_num, ?_⟩, by simp [intOf]; omega⟩
      rw [HTS.out, ← List.append_assoc, ← List.append_assoc]
      exact HP4.out
    · obtain rfl : k0 = d.texts.length := by omega
      have hpe := HP.out
      rw [List.take_length] at hpe
      obtain ⟨B2, hB2⟩ : ∃ B2, B2 = B1 ++ textsW d.texts := ⟨_, rfl⟩
      rw [← hB2] at hpe
      have hl2 : B2.length ≤ 102000000 := by
        have := length_textsW 255 d.texts HT.out
        have h3 : (255 + 7) * d.texts.length ≤ (255 + 7) * 64 := Nat.mul_le_mul_left _ htl
        rw [hB2, List.length_append]
        omega
      have HPE := Lib.hid hpe
      have HB2 := Lib.hid hB2
      clear hpe hB2 HP HDT HBX

      obtain ⟨hbx1, hdt1⟩ := HBOX.out _ _ _ HPE.out
      have pn1 : wr.cell? ⟨w.heap.size, 1, none⟩ = some (.slice x.Ah d.host.length x.ch) := hbx1.cell 1
      have HD1 := Lib.hid hdt1
      clear hbx1 hdt1
      go_wp2_with fail
      refine (rnameP HPE.out x.Ah x.ch d.host true HD1.out.h hch HSH.out (by omega) (by omega) HR.out).mono ?_
      rintro e WN1 ⟨rfl, hpn1⟩
      have HZ := Lib.hid hpn1
      clear hpn1 pn1
      go_wp2
      go_end0
      have hz := HZ.out
      rw [HB2.out, HB1.out] at hz
      exact ⟨rfl, HFIN.out _ _ _ hz⟩

set_option maxRecDepth 20000 in
set_option maxHeartbeats 2000000 in
theorem rput_12 (base : Nat) (w : World) (Fp : Nat → Prop) (g : Nat) (vB vR : Value) (B : List UInt8) (R : Rs) (x : DV) (d : Dt) (h : RWr w base Fp g vB vR B R) (hx : DataAt w base x d) (hs : soundD 12 d = true) (hN : ∀ n ∈ d.nums, n ≤ 9223372036854775807)
    (hB : B.length ≤ 100000000) (hR : R.length ≤ 800000) (hR16 : ∀ r ∈ R, r.2 < 16384 ∧ r.1.length ≤ 1000) :
    Calls Try.prog 84 #[.pointer (some ⟨g, 0, none⟩), .int .i64 12, x.val d] w (fun e w' => e = .returned (.tuple #[]) ∧ RPenned base w Fp g (putD (shN 12) d B R).1 (putD (shN 12) d B R).2 w') := by
  have sp := soundP hs
  have hE := putD_host (s := shN 12) B R sp rfl rfl rfl rfl rfl
  rw [show d.nums = [] from List.eq_nil_of_length_eq_zero (by have := sp.n; exact this), show numsW 2 [] = [] from rfl, List.append_nil, show (shN 12).short = true from rfl] at hE
  rw [hE]
  have hbm : d.bytes.length ≤ 65535 := Nat.le_trans sp.b (by skip <;> first | decide | exact Nat.le_refl _)
  have htl := sp.t
  have hnl : d.nums.length ≤ 10 := by have := sp.n; have h1 : (shN 12).ahead + (shN 12).behind ≤ 10 := (by skip <;> decide); omega
  have HT := Lib.hid sp.tl
  have HN := Lib.hid hN
  have HR := Lib.hid hR16
  have HFIN := Lib.hid (fun B' R' W (hp : RPenned base (w.alloc (.cells #[x.vb d, x.vh d, x.vm d, x.vn d, x.vt d] 46)) Fp g B' R' W) => hp.from)
  have HBOX := Lib.hid (fun B' R' W (hp : RPenned base (w.alloc (.cells #[x.vb d, x.vh d, x.vm d, x.vn d, x.vt d] 46)) Fp g B' R' W) => box_stays hx h.low h.size hp)
  have hp0 : RPenned base (w.alloc (.cells #[x.vb d, x.vh d, x.vm d, x.vn d, x.vt d] 46)) Fp g B R (w.alloc (.cells #[x.vb d, x.vh d, x.vm d, x.vn d, x.vt d] 46)) :=
    ⟨Fp, vB, vR, h.below ((Below.refl _ _).alloc (Nat.le_refl _) _), Grew.refl _ _, fun _ hj => .inl hj⟩
  have hrb := (HBOX.out _ _ _ hp0).2.b
  have hch := hx.lh
  have hcm := hx.lm
  have HP0 := Lib.hid hp0
  have HRB := Lib.hid (hrb.mono (show base ≤ (w.alloc (.cells #[x.vb d, x.vh d, x.vm d, x.vn d, x.vt d] 46)).heap.size by have := h.size; simp; omega))
  have HSH := Lib.hid (sp.h rfl)
  have hnh := soundN_parts (sp.h rfl)
  have hn1 := szN_ge _ hnh.1
  have hn2 := hnh.2
  have HF1 := Lib.hid hnh.1
  clear sp hE h hx hs hN hR16 hp0 hrb hnh
  go_enter Try.func84, Try.ntmps84
  go_wp2_with fail
  refine (rrawP HP0.out x.Ab d.bytes.length x.cb d.bytes rfl HRB.out (by omega)).mono ?_
  rintro e W1 ⟨rfl, hp1⟩
  generalize w.alloc (.cells #[x.vb d, x.vh d, x.vm d, x.vn d, x.vt d] 46) = w1 at *
  obtain ⟨B1, hB1⟩ : ∃ B1, B1 = B ++ d.bytes := ⟨_, rfl⟩
  rw [← hB1] at hp1
  have hl1 : B1.length ≤ 101000000 := by rw [hB1, List.length_append]; omega
  have HP1 := Lib.hid hp1
  have HB1 := Lib.hid hB1
  clear hp1 hB1 HP0 HRB
  go_wp2
  go_loopw [6] (RTRel base w1 Fp g B1 R d.texts) (fun i _ => d.texts.length - (intOf i).toNat)
  case atStart => exact ⟨0, Nat.zero_le _, rfl, by simpa [textsW] using HP1.out⟩
  case round =>
    obtain ⟨k0, hk0, rfl, hp⟩ := hrel
    obtain ⟨hbx, hdt⟩ := HBOX.out _ _ _ hp
    have p4 : wr.cell? ⟨w.heap.size, 4, none⟩ = some (.slice x.At d.texts.length x.ct) := hbx.cell 4
    have HP := Lib.hid hp
    have HDT := Lib.hid hdt
    have HBX := Lib.hid hbx
    clear hp hbx hdt HP1
    by_cases hlt : k0 < d.texts.length
    · obtain ⟨b, off, hA, _, hc⟩ := HDT.out.t.name_at hlt
      rw [hA] at p4
      have hlk := HT.out d.texts[k0] (List.getElem_mem hlt)
      have hlen : (B1 ++ textsW (d.texts.take k0)).length + 3000 ≤ 140737488354000 := by
        have := length_textsW 255 (d.texts.take k0) fun t ht => HT.out t (List.mem_of_mem_take ht)
        rw [List.length_append]
        rw [List.length_take] at this
        have h3 : (255 + 7) * min k0 d.texts.length ≤ (255 + 7) * 64 := Nat.mul_le_mul_left _ (by omega)
        omega
      have HLEN := Lib.hid hlen
      have HTS := Lib.hid (show textsW (d.texts.take (k0 + 1)) = textsW (d.texts.take k0) ++ (putL [] (d.texts[k0].length : Int) 1 ++ d.texts[k0]) by rw [List.take_succ_eq_append_getElem hlt, textsW_snoc])
      have HCA := Lib.hid (fun W (h : DataAt W base x d) => (show W.cell? ⟨b, off + k0, none⟩ = some (.string ⟨(d.texts[k0]).toArray⟩) from Row.cell_at (by have := h.t; rw [hA] at this; exact this) hlt))
      have HAA := Lib.hid hA
      obtain ⟨t, htt⟩ : ∃ t, t = d.texts[k0] := ⟨_, rfl⟩
      rw [← htt] at hc hlk HTS HCA
      clear hlen htt hA
      go_wp2_with fail
      refine (rnumP HP.out (t.length : Int) 1 (by have := HLEN.out; omega) (by omega)).mono ?_
      rintro e W2 ⟨rfl, hp2⟩
      obtain ⟨hbx2, hdt2⟩ := HBOX.out _ _ _ hp2
      have p4' : W2.cell? ⟨w.heap.size, 4, none⟩ = some (.slice (some ⟨b, off, none⟩) d.texts.length x.ct) := by rw [← HAA.out]; exact hbx2.cell 4
      have hc' := HCA.out _ hdt2
      have HP2 := Lib.hid hp2
      clear hp2 hbx2 hdt2 p4 hc
      go_wp2_with (refine wpList_bytes rfl (.tmp 33) 9 28 5 rfl Try.underlying9 Try.underlying28 Try.underlying5 t rfl ?_; intro C4 W3 hC4 hM4 hB4 hs4)
      have hr := hM4.row.take t.length
      rw [List.take_left' (by rw [List.length_map])] at hr
      have HR3 := Lib.hid (hr.mono (show _ ≤ W3.heap.size by first | omega | exact Nat.le_refl _ | (simp; omega)))
      have HP3 := Lib.hid (HP2.out.more hB4)
      have hp7 := length_putL (t.length : Int) 1
      clear hr hM4 hB4 hs4 HP2 p4' hc'
      refine (rrawP HP3.out _ t.length C4 t rfl HR3.out (by have := HLEN.out; rw [List.length_append]; omega)).mono ?_
      rintro e W4 ⟨rfl, hp4⟩
      have HP4 := Lib.hid hp4
      clear hp4
      go_wp2
      refine ⟨⟨k0 + 1, hlt, by go_num, ?_⟩, by simp [intOf]; omega⟩
      rw [HTS.out, ← List.append_assoc, ← List.append_assoc]
      exact HP4.out
    · obtain rfl : k0 = d.texts.length := by omega
      have hpe := HP.out
      rw [List.take_length] at hpe
      obtain ⟨B2, hB2⟩ : ∃ B2, B2 = B1 ++ textsW d.texts := ⟨_, rfl⟩
      rw [← hB2] at hpe
      have hl2 : B2.length ≤ 102000000 := by
        have := length_textsW 255 d.texts HT.out
        have h3 : (255 + 7) * d.texts.length ≤ (255 + 7) * 64 := Nat.mul_le_mul_left _ htl
        rw [hB2, List.length_append]
        omega
      have HPE := Lib.hid hpe
      have HB2 := Lib.hid hB2
      clear hpe hB2 HP HDT HBX

      obtain ⟨hbx1, hdt1⟩ := HBOX.out _ _ _ HPE.out
      have pn1 : wr.cell? ⟨w.heap.size, 1, none⟩ = some (.slice x.Ah d.host.length x.ch) := hbx1.cell 1
      have HD1 := Lib.hid hdt1
      clear hbx1 hdt1
      go_wp2_with fail
      refine (rnameP HPE.out x.Ah x.ch d.host true HD1.out.h hch HSH.out (by omega) (by omega) HR.out).mono ?_
      rintro e WN1 ⟨rfl, hpn1⟩
      have HZ := Lib.hid hpn1
      clear hpn1 pn1
      go_wp2
      go_end0
      have hz := HZ.out
      rw [HB2.out, HB1.out] at hz
      exact ⟨rfl, HFIN.out _ _ _ hz⟩

set_option maxRecDepth 20000 in
set_option maxHeartbeats 2000000 in
theorem rput_15 (base : Nat) (w : World) (Fp : Nat → Prop) (g : Nat) (vB vR : Value) (B : List UInt8) (R : Rs) (x : DV) (d : Dt) (h : RWr w base Fp g vB vR B R) (hx : DataAt w base x d) (hs : soundD 15 d = true) (hN : ∀ n ∈ d.nums, n ≤ 9223372036854775807)
    (hB : B.length ≤ 100000000) (hR : R.length ≤ 800000) (hR16 : ∀ r ∈ R, r.2 < 16384 ∧ r.1.length ≤ 1000) :
    Calls Try.prog 84 #[.pointer (some ⟨g, 0, none⟩), .int .i64 15, x.val d] w (fun e w' => e = .returned (.tuple #[]) ∧ RPenned base w Fp g (putD (shN 15) d B R).1 (putD (shN 15) d B R).2 w') := by
  have sp := soundP hs
  have hE := putD_host (s := shN 15) B R sp rfl rfl rfl rfl rfl
  rw [show (shN 15).short = true from rfl] at hE
  rw [hE]
  have hbm : d.bytes.length ≤ 65535 := Nat.le_trans sp.b (by skip <;> first | decide | exact Nat.le_refl _)
  have htl := sp.t
  have hnl : d.nums.length ≤ 10 := by have := sp.n; have h1 : (shN 15).ahead + (shN 15).behind ≤ 10 := (by skip <;> decide); omega
  have HT := Lib.hid sp.tl
  have HN := Lib.hid hN
  have HR := Lib.hid hR16
  have HFIN := Lib.hid (fun B' R' W (hp : RPenned base (w.alloc (.cells #[x.vb d, x.vh d, x.vm d, x.vn d, x.vt d] 46)) Fp g B' R' W) => hp.from)
  have HBOX := Lib.hid (fun B' R' W (hp : RPenned base (w.alloc (.cells #[x.vb d, x.vh d, x.vm d, x.vn d, x.vt d] 46)) Fp g B' R' W) => box_stays hx h.low h.size hp)
  have hp0 : RPenned base (w.alloc (.cells #[x.vb d, x.vh d, x.vm d, x.vn d, x.vt d] 46)) Fp g B R (w.alloc (.cells #[x.vb d, x.vh d, x.vm d, x.vn d, x.vt d] 46)) :=
    ⟨Fp, vB, vR, h.below ((Below.refl _ _).alloc (Nat.le_refl _) _), Grew.refl _ _, fun _ hj => .inl hj⟩
  have hrb := (HBOX.out _ _ _ hp0).2.b
  have hch := hx.lh
  have hcm := hx.lm
  have HP0 := Lib.hid hp0
  have HRB := Lib.hid (hrb.mono (show base ≤ (w.alloc (.cells #[x.vb d, x.vh d, x.vm d, x.vn d, x.vt d] 46)).heap.size by have := h.size; simp; omega))
  have HSH := Lib.hid (sp.h rfl)
  have hnh := soundN_parts (sp.h rfl)
  have hn1 := szN_ge _ hnh.1
  have hn2 := hnh.2
  have HF1 := Lib.hid hnh.1
  clear sp hE h hx hs hN hR16 hp0 hrb hnh
  go_enter Try.func84, Try.ntmps84
  go_wp2_with fail
  refine (rrawP HP0.out x.Ab d.bytes.length x.cb d.bytes rfl HRB.out (by omega)).mono ?_
  rintro e W1 ⟨rfl, hp1⟩
  generalize w.alloc (.cells #[x.vb d, x.vh d, x.vm d, x.vn d, x.vt d] 46) = w1 at *
  obtain ⟨B1, hB1⟩ : ∃ B1, B1 = B ++ d.bytes := ⟨_, rfl⟩
  rw [← hB1] at hp1
  have hl1 : B1.length ≤ 101000000 := by rw [hB1, List.length_append]; omega
  have HP1 := Lib.hid hp1
  have HB1 := Lib.hid hB1
  clear hp1 hB1 HP0 HRB
  go_wp2
  go_loopw [6] (RTRel base w1 Fp g B1 R d.texts) (fun i _ => d.texts.length - (intOf i).toNat)
  case atStart => exact ⟨0, Nat.zero_le _, rfl, by simpa [textsW] using HP1.out⟩
  case round =>
    obtain ⟨k0, hk0, rfl, hp⟩ := hrel
    obtain ⟨hbx, hdt⟩ := HBOX.out _ _ _ hp
    have p4 : wr.cell? ⟨w.heap.size, 4, none⟩ = some (.slice x.At d.texts.length x.ct) := hbx.cell 4
    have HP := Lib.hid hp
    have HDT := Lib.hid hdt
    have HBX := Lib.hid hbx
    clear hp hbx hdt HP1
    by_cases hlt : k0 < d.texts.length
    · obtain ⟨b, off, hA, _, hc⟩ := HDT.out.t.name_at hlt
      rw [hA] at p4
      have hlk := HT.out d.texts[k0] (List.getElem_mem hlt)
      have hlen : (B1 ++ textsW (d.texts.take k0)).length + 3000 ≤ 140737488354000 := by
        have := length_textsW 255 (d.texts.take k0) fun t ht => HT.out t (List.mem_of_mem_take ht)
        rw [List.length_append]
        rw [List.length_take] at this
        have h3 : (255 + 7) * min k0 d.texts.length ≤ (255 + 7) * 64 := Nat.mul_le_mul_left _ (by omega)
        omega
      have HLEN := Lib.hid hlen
      have HTS := Lib.hid (show textsW (d.texts.take (k0 + 1)) = textsW (d.texts.take k0) ++ (putL [] (d.texts[k0].length : Int) 1 ++ d.texts[k0]) by rw [List.take_succ_eq_append_getElem hlt, textsW_snoc])
      have HCA := Lib.hid (fun W (h : DataAt W base x d) => (show W.cell? ⟨b, off + k0, none⟩ = some (.string ⟨(d.texts[k0]).toArray⟩) from Row.cell_at (by have := h.t; rw [hA] at this; exact this) hlt))
      have HAA := Lib.hid hA
      obtain ⟨t, htt⟩ : ∃ t, t = d.texts[k0] := ⟨_, rfl⟩
      rw [← htt] at hc hlk HTS HCA
      clear hlen htt hA
      go_wp2_with fail
      refine (rnumP HP.out (t.length : Int) 1 (by have := HLEN.out; omega) (by omega)).mono ?_
      rintro e W2 ⟨rfl, hp2⟩
      obtain ⟨hbx2, hdt2⟩ := HBOX.out _ _ _ hp2
      have p4' : W2.cell? ⟨w.heap.size, 4, none⟩ = some (.slice (some ⟨b, off, none⟩) d.texts.length x.ct) := by rw [← HAA.out]; exact hbx2.cell 4
      have hc' := HCA.out _ hdt2
      have HP2 := Lib.hid hp2
      clear hp2 hbx2 hdt2 p4 hc
      go_wp2_with (refine wpList_bytes rfl (.tmp 33) 9 28 5 rfl Try.underlying9 Try.underlying28 Try.underlying5 t rfl ?_; intro C4 W3 hC4 hM4 hB4 hs4)
      have hr := hM4.row.take t.length
      rw [List.take_left' (by rw [List.length_map])] at hr
      have HR3 := Lib.hid (hr.mono (show _ ≤ W3.heap.size by first | omega | exact Nat.le_refl _ | (simp; omega)))
      have HP3 := Lib.hid (HP2.out.more hB4)
      have hp7 := length_putL (t.length : Int) 1
      clear hr hM4 hB4 hs4 HP2 p4' hc'
      refine (rrawP HP3.out _ t.length C4 t rfl HR3.out (by have := HLEN.out; rw [List.length_append]; omega)).mono ?_
      rintro e W4 ⟨rfl, hp4⟩
      have HP4 := Lib.hid hp4
      clear hp4
      go_wp2
      refine ⟨⟨k0 + 1, hlt, by go_num, ?_⟩, by simp [intOf]; omega⟩
      rw [HTS.out, ← List.append_assoc, ← List.append_assoc]
      exact HP4.out
    · obtain rfl : k0 = d.texts.length := by omega
      have hpe := HP.out
      rw [List.take_length] at hpe
      obtain ⟨B2, hB2⟩ : ∃ B2, B2 = B1 ++ textsW d.texts := ⟨_, rfl⟩
      rw [← hB2] at hpe
      have hl2 : B2.length ≤ 102000000 := by
        have := length_textsW 255 d.texts HT.out
        have h3 : (255 + 7) * d.texts.length ≤ (255 + 7) * 64 := Nat.mul_le_mul_left _ htl
        rw [hB2, List.length_append]
        omega
      have HPE := Lib.hid hpe
      have HB2 := Lib.hid hB2
      clear hpe hB2 HP HDT HBX
      go_wp2
      go_loopw [7] (RNRel base w1 Fp g B2 R 2 d.nums) (fun i _ => d.nums.length - (intOf i).toNat)
      case atStart => exact ⟨0, Nat.zero_le _, rfl, by simpa [numsW] using HPE.out⟩
      case round =>
        obtain ⟨k1, hk1, rfl, hp⟩ := hrel
        obtain ⟨hbx, hdt⟩ := HBOX.out _ _ _ hp
        have p3 : wr.cell? ⟨w.heap.size, 3, none⟩ = some (.slice x.An d.nums.length x.cn) := hbx.cell 3
        have HQ := Lib.hid hp
        have HDQ := Lib.hid hdt
        have HBQ := Lib.hid hbx
        clear hp hbx hdt HPE
        by_cases hlt : k1 < d.nums.length
        · obtain ⟨b, off, hA, _, hc⟩ := HDQ.out.n.int_at hlt
          rw [hA] at p3
          have hnn := HN.out d.nums[k1] (List.getElem_mem hlt)
          have hlen : (B2 ++ numsW 2 (d.nums.take k1)).length ≤ 140737488354000 := by
            have := length_numsW 2 (d.nums.take k1)
            rw [List.length_append]
            rw [List.length_take] at this
            omega
          have HTS := Lib.hid (show numsW 2 (d.nums.take (k1 + 1)) = numsW 2 (d.nums.take k1) ++ putL [] d.nums[k1] 2 by rw [List.take_succ_eq_append_getElem hlt, numsW_snoc])
          obtain ⟨nn, hnd⟩ : ∃ nn, nn = d.nums[k1] := ⟨_, rfl⟩
          rw [← hnd] at hc hnn HTS
          have HLEN := Lib.hid hlen
          clear hlen hnd hA
          go_wp2_with fail
          refine (rnumP HQ.out nn 2 HLEN.out hnn).mono ?_
          rintro e Wq ⟨rfl, hpq⟩
          have HPQ := Lib.hid hpq
          clear hpq
          go_wp2
          refine ⟨⟨k1 + 1, hlt, by go_num, ?_⟩, by simp [intOf]; omega⟩
          rw [HTS.out, ← List.append_assoc]
          exact HPQ.out
        · obtain rfl : k1 = d.nums.length := by omega
          have hpe := HQ.out
          rw [List.take_length] at hpe
          obtain ⟨B3, hB3⟩ : ∃ B3, B3 = B2 ++ numsW 2 d.nums := ⟨_, rfl⟩
          rw [← hB3] at hpe
          have hl3 : B3.length ≤ 103000000 := by
            have := length_numsW 2 d.nums
            rw [hB3, List.length_append]
            omega
          have HPF := Lib.hid hpe
          have HB3 := Lib.hid hB3
          clear hpe hB3 HQ HDQ HBQ
          obtain ⟨hbx1, hdt1⟩ := HBOX.out _ _ _ HPF.out
          have pn1 : wr.cell? ⟨w.heap.size, 1, none⟩ = some (.slice x.Ah d.host.length x.ch) := hbx1.cell 1
          have HD1 := Lib.hid hdt1
          clear hbx1 hdt1
          go_wp2_with fail
          refine (rnameP HPF.out x.Ah x.ch d.host true HD1.out.h hch HSH.out (by omega) (by omega) HR.out).mono ?_
          rintro e WN1 ⟨rfl, hpn1⟩
          have HZ := Lib.hid hpn1
          clear hpn1 pn1
          go_wp2
          go_end0
          have hz := HZ.out
          rw [HB3.out, HB2.out, HB1.out] at hz
          exact ⟨rfl, HFIN.out _ _ _ hz⟩

set_option maxRecDepth 20000 in
set_option maxHeartbeats 2000000 in
theorem rput_33 (base : Nat) (w : World) (Fp : Nat → Prop) (g : Nat) (vB vR : Value) (B : List UInt8) (R : Rs) (x : DV) (d : Dt) (h : RWr w base Fp g vB vR B R) (hx : DataAt w base x d) (hs : soundD 33 d = true) (hN : ∀ n ∈ d.nums, n ≤ 9223372036854775807)
    (hB : B.length ≤ 100000000) (hR : R.length ≤ 800000) (hR16 : ∀ r ∈ R, r.2 < 16384 ∧ r.1.length ≤ 1000) :
    Calls Try.prog 84 #[.pointer (some ⟨g, 0, none⟩), .int .i64 33, x.val d] w (fun e w' => e = .returned (.tuple #[]) ∧ RPenned base w Fp g (putD (shN 33) d B R).1 (putD (shN 33) d B R).2 w') := by
  have sp := soundP hs
  have hE := putD_host (s := shN 33) B R sp rfl rfl rfl rfl rfl
  rw [show (shN 33).short = false from rfl] at hE
  rw [hE]
  have hbm : d.bytes.length ≤ 65535 := Nat.le_trans sp.b (by skip <;> first | decide | exact Nat.le_refl _)
  have htl := sp.t
  have hnl : d.nums.length ≤ 10 := by have := sp.n; have h1 : (shN 33).ahead + (shN 33).behind ≤ 10 := (by skip <;> decide); omega
  have HT := Lib.hid sp.tl
  have HN := Lib.hid hN
  have HR := Lib.hid hR16
  have HFIN := Lib.hid (fun B' R' W (hp : RPenned base (w.alloc (.cells #[x.vb d, x.vh d, x.vm d, x.vn d, x.vt d] 46)) Fp g B' R' W) => hp.from)
  have HBOX := Lib.hid (fun B' R' W (hp : RPenned base (w.alloc (.cells #[x.vb d, x.vh d, x.vm d, x.vn d, x.vt d] 46)) Fp g B' R' W) => box_stays hx h.low h.size hp)
  have hp0 : RPenned base (w.alloc (.cells #[x.vb d, x.vh d, x.vm d, x.vn d, x.vt d] 46)) Fp g B R (w.alloc (.cells #[x.vb d, x.vh d, x.vm d, x.vn d, x.vt d] 46)) :=
    ⟨Fp, vB, vR, h.below ((Below.refl _ _).alloc (Nat.le_refl _) _), Grew.refl _ _, fun _ hj => .inl hj⟩
  have hrb := (HBOX.out _ _ _ hp0).2.b
  have hch := hx.lh
  have hcm := hx.lm
  have HP0 := Lib.hid hp0
  have HRB := Lib.hid (hrb.mono (show base ≤ (w.alloc (.cells #[x.vb d, x.vh d, x.vm d, x.vn d, x.vt d] 46)).heap.size by have := h.size; simp; omega))
  have HSH := Lib.hid (sp.h rfl)
  have hnh := soundN_parts (sp.h rfl)
  have hn1 := szN_ge _ hnh.1
  have hn2 := hnh.2
  have HF1 := Lib.hid hnh.1
  clear sp hE h hx hs hN hR16 hp0 hrb hnh
  go_enter Try.func84, Try.ntmps84
  go_wp2_with fail
  refine (rrawP HP0.out x.Ab d.bytes.length x.cb d.bytes rfl HRB.out (by omega)).mono ?_
  rintro e W1 ⟨rfl, hp1⟩
  generalize w.alloc (.cells #[x.vb d, x.vh d, x.vm d, x.vn d, x.vt d] 46) = w1 at *
  obtain ⟨B1, hB1⟩ : ∃ B1, B1 = B ++ d.bytes := ⟨_, rfl⟩
  rw [← hB1] at hp1
  have hl1 : B1.length ≤ 101000000 := by rw [hB1, List.length_append]; omega
  have HP1 := Lib.hid hp1
  have HB1 := Lib.hid hB1
  clear hp1 hB1 HP0 HRB
  go_wp2
  go_loopw [6] (RTRel base w1 Fp g B1 R d.texts) (fun i _ => d.texts.length - (intOf i).toNat)
  case atStart => exact ⟨0, Nat.zero_le _, rfl, by simpa [textsW] using HP1.out⟩
  case round =>
    obtain ⟨k0, hk0, rfl, hp⟩ := hrel
    obtain ⟨hbx, hdt⟩ := HBOX.out _ _ _ hp
    have p4 : wr.cell? ⟨w.heap.size, 4, none⟩ = some (.slice x.At d.texts.length x.ct) := hbx.cell 4
    have HP := Lib.hid hp
    have HDT := Lib.hid hdt
    have HBX := Lib.hid hbx
    clear hp hbx hdt HP1
    by_cases hlt : k0 < d.texts.length
    · obtain ⟨b, off, hA, _, hc⟩ := HDT.out.t.name_at hlt
      rw [hA] at p4
      have hlk := HT.out d.texts[k0] (List.getElem_mem hlt)
      have hlen : (B1 ++ textsW (d.texts.take k0)).length + 3000 ≤ 140737488354000 := by
        have := length_textsW 255 (d.texts.take k0) fun t ht => HT.out t (List.mem_of_mem_take ht)
        rw [List.length_append]
        rw [List.length_take] at this
        have h3 : (255 + 7) * min k0 d.texts.length ≤ (255 + 7) * 64 := Nat.mul_le_mul_left _ (by omega)
        omega
      have HLEN := Lib.hid hlen
      have HTS := Lib.hid (show textsW (d.texts.take (k0 + 1)) = textsW (d.texts.take k0) ++ (putL [] (d.texts[k0].length : Int) 1 ++ d.texts[k0]) by rw [List.take_succ_eq_append_getElem hlt, textsW_snoc])
      have HCA := Lib.hid (fun W (h : DataAt W base x d) => (show W.cell? ⟨b, off + k0, none⟩ = some (.string ⟨(d.texts[k0]).toArray⟩) from Row.cell_at (by have := h.t; rw [hA] at this; exact this) hlt))
      have HAA := Lib.hid hA
      obtain ⟨t, htt⟩ : ∃ t, t = d.texts[k0] := ⟨_, rfl⟩
      rw [← htt] at hc hlk HTS HCA
      clear hlen htt hA
      go_wp2_with fail
      refine (rnumP HP.out (t.length : Int) 1 (by have := HLEN.out; omega) (by omega)).mono ?_
      rintro e W2 ⟨rfl, hp2⟩
      obtain ⟨hbx2, hdt2⟩ := HBOX.out _ _ _ hp2
      have p4' : W2.cell? ⟨w.heap.size, 4, none⟩ = some (.slice (some ⟨b, off, none⟩) d.texts.length x.ct) := by rw [← HAA.out]; exact hbx2.cell 4
      have hc' := HCA.out _ hdt2
      have HP2 := Lib.hid hp2
      clear hp2 hbx2 hdt2 p4 hc
      go_wp2_with (refine wpList_bytes rfl (.tmp 33) 9 28 5 rfl Try.underlying9 Try.underlying28 Try.underlying5 t rfl ?_; intro C4 W3 hC4 hM4 hB4 hs4)
      have hr := hM4.row.take t.length
      rw [List.take_left' (by rw [List.length_map])] at hr
      have HR3 := Lib.hid (hr.mono (show _ ≤ W3.heap.size by first | omega | exact Nat.le_refl _ | (simp; omega)))
      have HP3 := Lib.hid (HP2.out.more hB4)
      have hp7 := length_putL (t.length : Int) 1
      clear hr hM4 hB4 hs4 HP2 p4' hc'
      refine (rrawP HP3.out _ t.length C4 t rfl HR3.out (by have := HLEN.out; rw [List.length_append]; omega)).mono ?_
      rintro e W4 ⟨rfl, hp4⟩
      have HP4 := Lib.hid hp4
      clear hp4
      go_wp2
      refine ⟨⟨k0 + 1, hlt, by go_num, ?_⟩, by simp [intOf]; omega⟩
      rw [HTS.out, ← List.append_assoc, ← List.append_assoc]
      exact HP4.out
    · obtain rfl : k0 = d.texts.length := by omega
      have hpe := HP.out
      rw [List.take_length] at hpe
      obtain ⟨B2, hB2⟩ : ∃ B2, B2 = B1 ++ textsW d.texts := ⟨_, rfl⟩
      rw [← hB2] at hpe
      have hl2 : B2.length ≤ 102000000 := by
        have := length_textsW 255 d.texts HT.out
        have h3 : (255 + 7) * d.texts.length ≤ (255 + 7) * 64 := Nat.mul_le_mul_left _ htl
        rw [hB2, List.length_append]
        omega
      have HPE := Lib.hid hpe
      have HB2 := Lib.hid hB2
      clear hpe hB2 HP HDT HBX
      go_wp2
      go_loopw [7] (RNRel base w1 Fp g B2 R 2 d.nums) (fun i _ => d.nums.length - (intOf i).toNat)
      case atStart => exact ⟨0, Nat.zero_le _, rfl, by simpa [numsW] using HPE.out⟩
      case round =>
        obtain ⟨k1, hk1, rfl, hp⟩ := hrel
        obtain ⟨hbx, hdt⟩ := HBOX.out _ _ _ hp
        have p3 : wr.cell? ⟨w.heap.size, 3, none⟩ = some (.slice x.An d.nums.length x.cn) := hbx.cell 3
        have HQ := Lib.hid hp
        have HDQ := Lib.hid hdt
        have HBQ := Lib.hid hbx
        clear hp hbx hdt HPE
        by_cases hlt : k1 < d.nums.length
        · obtain ⟨b, off, hA, _, hc⟩ := HDQ.out.n.int_at hlt
          rw [hA] at p3
          have hnn := HN.out d.nums[k1] (List.getElem_mem hlt)
          have hlen : (B2 ++ numsW 2 (d.nums.take k1)).length ≤ 140737488354000 := by
            have := length_numsW 2 (d.nums.take k1)
            rw [List.length_append]
            rw [List.length_take] at this
            omega
          have HTS := Lib.hid (show numsW 2 (d.nums.take (k1 + 1)) = numsW 2 (d.nums.take k1) ++ putL [] d.nums[k1] 2 by rw [List.take_succ_eq_append_getElem hlt, numsW_snoc])
          obtain ⟨nn, hnd⟩ : ∃ nn, nn = d.nums[k1] := ⟨_, rfl⟩
          rw [← hnd] at hc hnn HTS
          have HLEN := Lib.hid hlen
          clear hlen hnd hA
          go_wp2_with fail
          refine (rnumP HQ.out nn 2 HLEN.out hnn).mono ?_
          rintro e Wq ⟨rfl, hpq⟩
          have HPQ := Lib.hid hpq
          clear hpq
          go_wp2
          refine ⟨⟨k1 + 1, hlt, by go_num, ?_⟩, by simp [intOf]; omega⟩
          rw [HTS.out, ← List.append_assoc]
          exact HPQ.out
        · obtain rfl : k1 = d.nums.length := by omega
          have hpe := HQ.out
          rw [List.take_length] at hpe
          obtain ⟨B3, hB3⟩ : ∃ B3, B3 = B2 ++ numsW 2 d.nums := ⟨_, rfl⟩
          rw [← hB3] at hpe
          have hl3 : B3.length ≤ 103000000 := by
            have := length_numsW 2 d.nums
            rw [hB3, List.length_append]
            omega
          have HPF := Lib.hid hpe
          have HB3 := Lib.hid hB3
          clear hpe hB3 HQ HDQ HBQ
          obtain ⟨hbx1, hdt1⟩ := HBOX.out _ _ _ HPF.out
          have pn1 : wr.cell? ⟨w.heap.size, 1, none⟩ = some (.slice x.Ah d.host.length x.ch) := hbx1.cell 1
          have HD1 := Lib.hid hdt1
          clear hbx1 hdt1
          go_wp2_with fail
          refine (rnameP HPF.out x.Ah x.ch d.host false HD1.out.h hch HSH.out (by omega) (by omega) HR.out).mono ?_
          rintro e WN1 ⟨rfl, hpn1⟩
          have HZ := Lib.hid hpn1
          clear hpn1 pn1
          go_wp2
          go_end0
          have hz := HZ.out
          rw [HB3.out, HB2.out, HB1.out] at hz
          exact ⟨rfl, HFIN.out _ _ _ hz⟩

set_option maxRecDepth 20000 in
set_option maxHeartbeats 2000000 in
theorem rput_6 (base : Nat) (w : World) (Fp : Nat → Prop) (g : Nat) (vB vR : Value) (B : List UInt8) (R : Rs) (x : DV) (d : Dt) (h : RWr w base Fp g vB vR B R) (hx : DataAt w base x d) (hs : soundD 6 d = true) (hN : ∀ n ∈ d.nums, n ≤ 9223372036854775807)
    (hB : B.length ≤ 100000000) (hR : R.length ≤ 800000) (hR16 : ∀ r ∈ R, r.2 < 16384 ∧ r.1.length ≤ 1000) :
    Calls Try.prog 84 #[.pointer (some ⟨g, 0, none⟩), .int .i64 6, x.val d] w (fun e w' => e = .returned (.tuple #[]) ∧ RPenned base w Fp g (putD (shN 6) d B R).1 (putD (shN 6) d B R).2 w') := by
  have sp := soundP hs
  have hE := putD_both (s := shN 6) B R sp rfl rfl rfl rfl rfl
  rw [show (shN 6).short = true from rfl] at hE
  rw [hE]
  have hbm : d.bytes.length ≤ 65535 := Nat.le_trans sp.b (by skip <;> first | decide | exact Nat.le_refl _)
  have htl := sp.t
  have hnl : d.nums.length ≤ 10 := by have := sp.n; have h1 : (shN 6).ahead + (shN 6).behind ≤ 10 := (by skip <;> decide); omega
  have HT := Lib.hid sp.tl
  have HN := Lib.hid hN
  have HR := Lib.hid hR16
  have HFIN := Lib.hid (fun B' R' W (hp : RPenned base (w.alloc (.cells #[x.vb d, x.vh d, x.vm d, x.vn d, x.vt d] 46)) Fp g B' R' W) => hp.from)
  have HBOX := Lib.hid (fun B' R' W (hp : RPenned base (w.alloc (.cells #[x.vb d, x.vh d, x.vm d, x.vn d, x.vt d] 46)) Fp g B' R' W) => box_stays hx h.low h.size hp)
  have hp0 : RPenned base (w.alloc (.cells #[x.vb d, x.vh d, x.vm d, x.vn d, x.vt d] 46)) Fp g B R (w.alloc (.cells #[x.vb d, x.vh d, x.vm d, x.vn d, x.vt d] 46)) :=
    ⟨Fp, vB, vR, h.below ((Below.refl _ _).alloc (Nat.le_refl _) _), Grew.refl _ _, fun _ hj => .inl hj⟩
  have hrb := (HBOX.out _ _ _ hp0).2.b
  have hch := hx.lh
  have hcm := hx.lm
  have HP0 := Lib.hid hp0
  have HRB := Lib.hid (hrb.mono (show base ≤ (w.alloc (.cells #[x.vb d, x.vh d, x.vm d, x.vn d, x.vt d] 46)).heap.size by have := h.size; simp; omega))
  have HSH := Lib.hid (sp.h rfl)
  have hnh := soundN_parts (sp.h rfl)
  have hn1 := szN_ge _ hnh.1
  have hn2 := hnh.2
  have HF1 := Lib.hid hnh.1
  have HSM := Lib.hid (sp.m rfl)
  have hnm := soundN_parts (sp.m rfl)
  have hm1 := szN_ge _ hnm.1
  have hm2 := hnm.2
  have HF2 := Lib.hid hnm.1
  clear sp hE h hx hs hN hR16 hp0 hrb hnh hnm
  go_enter Try.func84, Try.ntmps84
  go_wp2_with fail
  refine (rrawP HP0.out x.Ab d.bytes.length x.cb d.bytes rfl HRB.out (by omega)).mono ?_
  rintro e W1 ⟨rfl, hp1⟩
  generalize w.alloc (.cells #[x.vb d, x.vh d, x.vm d, x.vn d, x.vt d] 46) = w1 at *
  obtain ⟨B1, hB1⟩ : ∃ B1, B1 = B ++ d.bytes := ⟨_, rfl⟩
  rw [← hB1] at hp1
  have hl1 : B1.length ≤ 101000000 := by rw [hB1, List.length_append]; omega
  have HP1 := Lib.hid hp1
  have HB1 := Lib.hid hB1
  clear hp1 hB1 HP0 HRB
  go_wp2
  go_loopw [6] (RTRel base w1 Fp g B1 R d.texts) (fun i _ => d.texts.length - (intOf i).toNat)
  case atStart => exact ⟨0, Nat.zero_le _, rfl, by simpa [textsW] using HP1.out⟩
  case round =>
    obtain ⟨k0, hk0, rfl, hp⟩ := hrel
    obtain ⟨hbx, hdt⟩ := HBOX.out _ _ _ hp
    have p4 : wr.cell? ⟨w.heap.size, 4, none⟩ = some (.slice x.At d.texts.length x.ct) := hbx.cell 4
    have HP := Lib.hid hp
    have HDT := Lib.hid hdt
    have HBX := Lib.hid hbx
    clear hp hbx hdt HP1
    by_cases hlt : k0 < d.texts.length
    · obtain ⟨b, off, hA, _, hc⟩ := HDT.out.t.name_at hlt
      rw [hA] at p4
      have hlk := HT.out d.texts[k0] (List.getElem_mem hlt)
      have hlen : (B1 ++ textsW (d.texts.take k0)).length + 3000 ≤ 140737488354000 := by
        have := length_textsW 255 (d.texts.take k0) fun t ht => HT.out t (List.mem_of_mem_take ht)
        rw [List.length_append]
        rw [List.length_take] at this
        have h3 : (255 + 7) * min k0 d.texts.length ≤ (255 + 7) * 64 := Nat.mul_le_mul_left _ (by omega)
        omega
      have HLEN := Lib.hid hlen
      have HTS := Lib.hid (show textsW (d.texts.take (k0 + 1)) = textsW (d.texts.take k0) ++ (putL [] (d.texts[k0].length : Int) 1 ++ d.texts[k0]) by rw [List.take_succ_eq_append_getElem hlt, textsW_snoc])
      have HCA := Lib.hid (fun W (h : DataAt W base x d) => (show W.cell? ⟨b, off + k0, none⟩ = some (.string ⟨(d.texts[k0]).toArray⟩) from Row.cell_at (by have := h.t; rw [hA] at this; exact this) hlt))
      have HAA := Lib.hid hA
      obtain ⟨t, htt⟩ : ∃ t, t = d.texts[k0] := ⟨_, rfl⟩
      rw [← htt] at hc hlk HTS HCA
      clear hlen htt hA
      go_wp2_with fail
      refine (rnumP HP.out (t.length : Int) 1 (by have := HLEN.out; omega) (by omega)).mono ?_
      rintro e W2 ⟨rfl, hp2⟩
      obtain ⟨hbx2, hdt2⟩ := HBOX.out _ _ _ hp2
      have p4' : W2.cell? ⟨w.heap.size, 4, none⟩ = some (.slice (some ⟨b, off, none⟩) d.texts.length x.ct) := by rw [← HAA.out]; exact hbx2.cell 4
      have hc' := HCA.out _ hdt2
      have HP2 := Lib.hid hp2
      clear hp2 hbx2 hdt2 p4 hc
      go_wp2_with (refine wpList_bytes rfl (.tmp 33) 9 28 5 rfl Try.underlying9 Try.underlying28 Try.underlying5 t rfl ?_; intro C4 W3 hC4 hM4 hB4 hs4)
      have hr := hM4.row.take t.length
      rw [List.take_left' (by rw [List.length_map])] at hr
      have HR3 := Lib.hid (hr.mono (show _ ≤ W3.heap.size by first | omega | exact Nat.le_refl _ | (simp; omega)))
      have HP3 := Lib.hid (HP2.out.more hB4)
      have hp7 := length_putL (t.length : Int) 1
      clear hr hM4 hB4 hs4 HP2 p4' hc'
      refine (rrawP HP3.out _ t.length C4 t rfl HR3.out (by have := HLEN.out; rw [List.length_append]; omega)).mono ?_
      rintro e W4 ⟨rfl, hp4⟩
      have HP4 := Lib.hid hp4
      clear hp4
      go_wp2
      refine ⟨⟨k0 + 1, hlt, by go_num, ?_⟩, by simp [intOf]; omega⟩
      rw [HTS.out, ← List.append_assoc, ← List.append_assoc]
      exact HP4.out
    · obtain rfl : k0 = d.texts.length := by omega
      have hpe := HP.out
      rw [List.take_length] at hpe
      obtain ⟨B2, hB2⟩ : ∃ B2, B2 = B1 ++ textsW d.texts := ⟨_, rfl⟩
      rw [← hB2] at hpe
      have hl2 : B2.length ≤ 102000000 := by
        have := length_textsW 255 d.texts HT.out
        have h3 : (255 + 7) * d.texts.length ≤ (255 + 7) * 64 := Nat.mul_le_mul_left _ htl
        rw [hB2, List.length_append]
        omega
      have HPE := Lib.hid hpe
      have HB2 := Lib.hid hB2
      clear hpe hB2 HP HDT HBX
      obtain ⟨hbx1, hdt1⟩ := HBOX.out _ _ _ HPE.out
      have pn1 : wr.cell? ⟨w.heap.size, 1, none⟩ = some (.slice x.Ah d.host.length x.ch) := hbx1.cell 1
      have HD1 := Lib.hid hdt1
      clear hbx1 hdt1
      go_wp2_with fail
      refine (rnameP HPE.out x.Ah x.ch d.host true HD1.out.h hch HSH.out (by omega) (by omega) HR.out).mono ?_
      rintro e WN1 ⟨rfl, hpn1⟩
      have hlB := length_nameW_le true d.host B2 R HF1.out
      have hlR := length_nameW_rests true d.host B2 R
      have HR2 := Lib.hid (nameW_kept true d.host B2 R HR.out (by omega))
      obtain ⟨B3, hB3⟩ : ∃ B3, B3 = (nameW true d.host B2 R).1 := ⟨_, rfl⟩
      obtain ⟨R3, hR3⟩ : ∃ R3, R3 = (nameW true d.host B2 R).2 := ⟨_, rfl⟩
      rw [← hB3] at hlB
      rw [← hR3] at hlR HR2
      rw [← hB3, ← hR3] at hpn1
      have HB3 := Lib.hid hB3
      have HR3 := Lib.hid hR3
      clear hB3 hR3
      have HPF := Lib.hid hpn1
      clear hpn1 pn1
      obtain ⟨hbx2, hdt2⟩ := HBOX.out _ _ _ HPF.out
      have pn2 : WN1.cell? ⟨w.heap.size, 2, none⟩ = some (.slice x.Am d.mail.length x.cm) := hbx2.cell 2
      have HD2 := Lib.hid hdt2
      clear hbx2 hdt2
      go_wp2_with fail
      refine (rnameP HPF.out x.Am x.cm d.mail true HD2.out.m hcm HSM.out (by omega) (by omega) HR2.out).mono ?_
      rintro e WN2 ⟨rfl, hpn2⟩
      have hlB2 := length_nameW_le true d.mail B3 R3 HF2.out
      obtain ⟨B4, hB4⟩ : ∃ B4, B4 = (nameW true d.mail B3 R3).1 := ⟨_, rfl⟩
      obtain ⟨R4, hR4⟩ : ∃ R4, R4 = (nameW true d.mail B3 R3).2 := ⟨_, rfl⟩
      rw [← hB4] at hlB2
      rw [← hB4, ← hR4] at hpn2
      have HB4 := Lib.hid hB4
      have HR4 := Lib.hid hR4
      clear hB4 hR4
      have HPG := Lib.hid hpn2
      clear hpn2 pn2
      go_wp2
      go_loopw [8] (RNRel base w1 Fp g B4 R4 4 d.nums) (fun i _ => d.nums.length - (intOf i).toNat)
      case atStart => exact ⟨0, Nat.zero_le _, rfl, by simpa [numsW] using HPG.out⟩
      case round =>
        obtain ⟨k1, hk1, rfl, hp⟩ := hrel
        obtain ⟨hbx, hdt⟩ := HBOX.out _ _ _ hp
        have p3 : wr.cell? ⟨w.heap.size, 3, none⟩ = some (.slice x.An d.nums.length x.cn) := hbx.cell 3
        have HQ := Lib.hid hp
        have HDQ := Lib.hid hdt
        have HBQ := Lib.hid hbx
        clear hp hbx hdt HPG
        by_cases hlt : k1 < d.nums.length
        · obtain ⟨b, off, hA, _, hc⟩ := HDQ.out.n.int_at hlt
          rw [hA] at p3
          have hnn := HN.out d.nums[k1] (List.getElem_mem hlt)
          have hlen : (B4 ++ numsW 4 (d.nums.take k1)).length ≤ 140737488354000 := by
            have := length_numsW 4 (d.nums.take k1)
            rw [List.length_append]
            rw [List.length_take] at this
            omega
          have HTS := Lib.hid (show numsW 4 (d.nums.take (k1 + 1)) = numsW 4 (d.nums.take k1) ++ putL [] d.nums[k1] 4 by rw [List.take_succ_eq_append_getElem hlt, numsW_snoc])
          obtain ⟨nn, hnd⟩ : ∃ nn, nn = d.nums[k1] := ⟨_, rfl⟩
          rw [← hnd] at hc hnn HTS
          have HLEN := Lib.hid hlen
          clear hlen hnd hA
          go_wp2_with fail
          refine (rnumP HQ.out nn 4 HLEN.out hnn).mono ?_
          rintro e Wq ⟨rfl, hpq⟩
          have HPQ := Lib.hid hpq
          clear hpq
          go_wp2
          refine ⟨⟨k1 + 1, hlt, by go_num, ?_⟩, by simp [intOf]; omega⟩
          rw [HTS.out, ← List.append_assoc]
          exact HPQ.out
        · obtain rfl : k1 = d.nums.length := by omega
          have hpe := HQ.out
          rw [List.take_length] at hpe
          have HZ := Lib.hid hpe
          clear hpe HQ HDQ HBQ
          go_wp2
          go_end0
          have hz := HZ.out
          rw [HB4.out, HR4.out, HB3.out, HR3.out, HB2.out, HB1.out] at hz
          exact ⟨rfl, HFIN.out _ _ _ hz⟩

theorem rput_any (base : Nat) (w : World) (Fp : Nat → Prop) (g : Nat) (vB vR : Value) (B : List UInt8) (R : Rs) (k : Int) (x : DV) (d : Dt) (h : RWr w base Fp g vB vR B R) (hx : DataAt w base x d) (hs : soundD k d = true) (hN : ∀ n ∈ d.nums, n ≤ 9223372036854775807)
    (hB : B.length ≤ 100000000) (hR : R.length ≤ 800000) (hR16 : ∀ r ∈ R, r.2 < 16384 ∧ r.1.length ≤ 1000) :
    Calls Try.prog 84 #[.pointer (some ⟨g, 0, none⟩), .int .i64 k, x.val d] w (fun e w' => e = .returned (.tuple #[]) ∧ RPenned base w Fp g (putD (shN k) d B R).1 (putD (shN k) d B R).2 w') := by
  rcases shN_cases k with rfl | rfl | rfl | rfl | rfl | rfl | rfl | rfl | rfl | hk
  · exact rput_1 base w Fp g vB vR B R x d h hx hs hN hB hR hR16
  · exact rput_28 base w Fp g vB vR B R x d h hx hs hN hB hR hR16
  · exact rput_2 base w Fp g vB vR B R x d h hx hs hN hB hR hR16
  · exact rput_5 base w Fp g vB vR B R x d h hx hs hN hB hR hR16
  · exact rput_12 base w Fp g vB vR B R x d h hx hs hN hB hR hR16
  · exact rput_15 base w Fp g vB vR B R x d h hx hs hN hB hR hR16
  · exact rput_6 base w Fp g vB vR B R x d h hx hs hN hB hR hR16
  · exact rput_16 base w Fp g vB vR B R x d h hx hs hN hB hR hR16
  · exact rput_33 base w Fp g vB vR B R x d h hx hs hN hB hR hR16
  · exact rput_other base w Fp g vB vR B R k hk x d h hx hs hN hB hR hR16

end Go.Proofs.Ytjkjhpaeckkpjaa

namespace Go.Proofs.Ytjkjhpaeckkpjaa
open Go.RowKit

section
variable {w : World} {base g : Nat} {Fp : Nat → Prop} {vB vR : Value} {B : List UInt8} {R : Rs}
theorem RWr.form (h : RWr w base Fp g vB vR B R) (hB : 0 < B.length) : ∃ b c, vB = .slice (some ⟨b, 0, none⟩) B.length c ∧ B.length ≤ c ∧ c ≤ maxLen := by
  obtain ⟨A, c, hv, h1, h2⟩ := own_form h.row
  subst hv
  rcases h.row.2 with ⟨hv, _⟩ | ⟨b, cap, cur, hv, _⟩
  · exfalso
    injection hv with _ hn _
    omega
  · injection hv with hA hn hc
    subst hA
    subst hc
    exact ⟨b, c, rfl, h1, h2⟩
/-- One byte of what stands there is another now. -/
theorem RWr.store {b c : Nat} (h : RWr w base Fp g (.slice (some ⟨b, 0, none⟩) B.length c) vR B R) {k : Nat} (hk : k < B.length) (u : UInt8) :
    RWr (w.setCell ⟨b, k, none⟩ (bc u)) base Fp g (.slice (some ⟨b, 0, none⟩) B.length c) vR (B.set k u) R := by
  have hne : b ≠ g := fun e => own_not_whole h.row h.blk (by decide) (by rw [← e]; rfl)
  have hk2 : ∀ j, j ≠ b → (w.setCell ⟨b, k, none⟩ (bc u)).heap[j]? = w.heap[j]? := fun j hj => Below.heap_setCell w ⟨b, k, none⟩ (bc u) j hj
  refine ⟨h.blk.keep (hk2 g (Ne.symm hne)), h.fg, ?_, h.frow, ?_, fun j hj => ?_⟩
  · have h1 := own_store h.row hk (bc u)
    rw [← List.map_set] at h1
    rw [List.length_set]
    exact h1
  · obtain ⟨vs, h1, h2, h3, h4⟩ := h.rests
    refine ⟨vs, h1, own_keep h2 fun j hj => hk2 j fun e => own_own_apart h2 h.row (by decide) hj (by rw [e]; rfl), h3, fun i hi => ?_⟩
    obtain ⟨A, c, h5, h6, h7⟩ := h4 i hi
    exact ⟨A, c, h5, own_keep h6 fun j hj => hk2 j fun e => own_own_apart h6 h.row (by decide) hj (by rw [e]; rfl), h7⟩
  · have := h.low j hj
    simp only [World.size_setCell]
    exact this
theorem rec_stays {x : RV} {r : Rt} {W : World} (hx : RAt w base x r) (hlow : ∀ j, Fp j → base ≤ j ∧ j < w.heap.size) (hb : base ≤ w.heap.size)
    (hp : RPenned base (w.alloc (.cells #[.slice x.A r.name.length x.c, .int .i64 r.kind, .int .i64 r.cls, .int .i64 r.ttl, .slice x.d.Ab r.data.bytes.length x.d.cb, .slice x.d.Ah r.data.host.length x.d.ch, .slice x.d.Am r.data.mail.length x.d.cm, .slice x.d.An r.data.nums.length x.d.cn, .slice x.d.At r.data.texts.length x.d.ct] 48)) Fp g B R W) : Whole W w.heap.size 48 [.slice x.A r.name.length x.c, .int .i64 r.kind, .int .i64 r.cls, .int .i64 r.ttl, .slice x.d.Ab r.data.bytes.length x.d.cb, .slice x.d.Ah r.data.host.length x.d.ch, .slice x.d.Am r.data.mail.length x.d.cm, .slice x.d.An r.data.nums.length x.d.cn, .slice x.d.At r.data.texts.length x.d.ct] ∧ RAt W base x r := by
  obtain ⟨_, _, _, _, hg, _⟩ := hp
  refine ⟨(Whole.made w [.slice x.A r.name.length x.c, .int .i64 r.kind, .int .i64 r.cls, .int .i64 r.ttl, .slice x.d.Ab r.data.bytes.length x.d.cb, .slice x.d.Ah r.data.host.length x.d.ch, .slice x.d.Am r.data.mail.length x.d.cm, .slice x.d.An r.data.nums.length x.d.cn, .slice x.d.At r.data.texts.length x.d.ct] _).keep (hg.block w.heap.size (by simp) fun hj => by have := (hlow _ hj).2; omega), (hx.below ((Below.refl _ _).alloc hb _)).below (hg.below (fun j hj => (hlow j hj).1) (by simp; omega))⟩
end
theorem digs_two (n : Nat) : digs n 2 = [UInt8.ofNat (n / 256), UInt8.ofNat n] := by simp [digs, List.range, List.range.loop]
theorem setB_two {B : List UInt8} {p : Nat} (a b : UInt8) (h : p + 2 ≤ B.length) : (B.set p a).set (p + 1) b = setB B p [a, b] := by
  obtain ⟨P, Q, rfl, rfl⟩ : ∃ P Q, B = P ++ Q ∧ P.length = p := ⟨B.take p, B.drop p, (List.take_append_drop p B).symm, by rw [List.length_take]; omega⟩
  match Q, h with
  | [], h => simp at h; omega
  | [_], h => simp at h
  | x :: y :: Q, _ =>
    unfold setB
    rw [List.set_append_right _ _ (Nat.le_refl _), List.set_append_right _ _ (by omega), List.take_left, Nat.sub_self, show P.length + 1 - P.length = 1 by omega, List.drop_append, List.drop_of_length_le (by omega)]
    simp

set_option maxRecDepth 20000 in
set_option maxHeartbeats 4000000 in
theorem rputRR_any (base : Nat) (w : World) (Fp : Nat → Prop) (g : Nat) (vB vR : Value) (B : List UInt8) (R : Rs) (x : RV) (r : Rt) (h : RWr w base Fp g vB vR B R) (hx : RAt w base x r) (hs : SoundR r) (hi : RIn r)
    (hB : B.length ≤ 90000000) (hR : R.length ≤ 700000) (hR16 : ∀ q ∈ R, q.2 < 16384 ∧ q.1.length ≤ 1000) :
    Calls Try.prog 58 #[.pointer (some ⟨g, 0, none⟩), x.val r] w (fun e w' => e = .returned (.bool true) ∧ RPenned base w Fp g (putRR r B R).1 (putRR r B R).2 w') := by
  have hp := soundN_parts hs.n
  have hnl := length_nameW_le true r.name B R hp.1
  have hnr := length_nameW_rests true r.name B R
  have hnz := length_lt_szN r.name
  have hn255 := hp.2
  have HR2 := Lib.hid (nameW_kept true r.name B R hR16 (by omega))
  have HR := Lib.hid hR16
  obtain ⟨WL, hWL, _, _, hD0⟩ := putRR_eq (B := B) (R := R) hs
  have hl0 : (putL [] 0 2).length = 2 := by decide +kernel
  have hl123 : (putL [] r.kind 2).length = 2 ∧ (putL [] r.cls 2).length = 2 ∧ (putL [] r.ttl 4).length = 4 := by
    have hkd : kindB r.kind = true := by have h := hs.d; unfold soundD at h; simp only [Bool.and_eq_true] at h; exact h.1
    simp only [kindB, decide_eq_true_eq] at hkd
    obtain ⟨_, s1, _, es1, _, _, l1⟩ := putL_fit (n := r.kind) (s := 2) (fitB_true (by omega) (by omega) (by omega) (by simp; omega))
    obtain ⟨_, s2, _, es2, _, _, l2⟩ := putL_fit hs.c
    obtain ⟨_, s3, _, es3, _, _, l3⟩ := putL_fit (n := r.ttl) (s := 4) (fitB_true (by omega) (by omega) hs.t0 (by have := hs.t1; simp; omega))
    omega
  obtain ⟨hl1, hl2, hl3⟩ := hl123
  have hHL : (putH8 r B R).length = (nameW true r.name B R).1.length + 8 := by
    unfold putH8
    simp only [List.length_append]
    omega
  have hD0L : (putD0 r B R).1.length = (putH8 r B R).length + 2 + WL.length := by
    rw [hD0]
    simp only [List.length_append, hl0]
  have HD := Lib.hid (show putRR r B R = (((putD0 r B R).1.set (putH8 r B R).length (UInt8.ofNat (WL.length / 256))).set ((putH8 r B R).length + 1) (UInt8.ofNat WL.length), (putD0 r B R).2) by
    unfold putRR
    rw [setB_two _ _ (by omega), show (putD0 r B R).1.length - ((putH8 r B R).length + 2) = WL.length by omega, digs_two])
  have HIK := Lib.hid (i64_top hi.k)
  have HIC := Lib.hid (i64_top hi.c)
  have HIT := Lib.hid (i64_top hi.t)
  have HIN := Lib.hid (fun n hn => i64_top (hi.nm n hn))
  have HS := Lib.hid hs
  have hlc := hx.l
  have HFIN := Lib.hid (fun B' R' W (hp : RPenned base (w.alloc (.cells #[.slice x.A r.name.length x.c, .int .i64 r.kind, .int .i64 r.cls, .int .i64 r.ttl, .slice x.d.Ab r.data.bytes.length x.d.cb, .slice x.d.Ah r.data.host.length x.d.ch, .slice x.d.Am r.data.mail.length x.d.cm, .slice x.d.An r.data.nums.length x.d.cn, .slice x.d.At r.data.texts.length x.d.ct] 48)) Fp g B' R' W) => hp.from)
  have HRC := Lib.hid (fun B' R' W (hp : RPenned base (w.alloc (.cells #[.slice x.A r.name.length x.c, .int .i64 r.kind, .int .i64 r.cls, .int .i64 r.ttl, .slice x.d.Ab r.data.bytes.length x.d.cb, .slice x.d.Ah r.data.host.length x.d.ch, .slice x.d.Am r.data.mail.length x.d.cm, .slice x.d.An r.data.nums.length x.d.cn, .slice x.d.At r.data.texts.length x.d.ct] 48)) Fp g B' R' W) => rec_stays hx h.low h.size hp)
  have HP := Lib.hid (show RPenned base (w.alloc (.cells #[.slice x.A r.name.length x.c, .int .i64 r.kind, .int .i64 r.cls, .int .i64 r.ttl, .slice x.d.Ab r.data.bytes.length x.d.cb, .slice x.d.Ah r.data.host.length x.d.ch, .slice x.d.Am r.data.mail.length x.d.cm, .slice x.d.An r.data.nums.length x.d.cn, .slice x.d.At r.data.texts.length x.d.ct] 48)) Fp g B R (w.alloc (.cells #[.slice x.A r.name.length x.c, .int .i64 r.kind, .int .i64 r.cls, .int .i64 r.ttl, .slice x.d.Ab r.data.bytes.length x.d.cb, .slice x.d.Ah r.data.host.length x.d.ch, .slice x.d.Am r.data.mail.length x.d.cm, .slice x.d.An r.data.nums.length x.d.cn, .slice x.d.At r.data.texts.length x.d.ct] 48)) from ⟨Fp, vB, vR, h.below ((Below.refl _ _).alloc (Nat.le_refl _) _), Grew.refl _ _, fun _ hj => .inl hj⟩)
  clear hp h hx hs hi hR16 hD0
  go_enter Try.func58, Try.ntmps58
  go_wp2_with fail
  refine (rnameP HP.out x.A x.c r.name true (HRC.out _ _ _ HP.out).2.n hlc HS.out.n (by omega) (by omega) HR.out).mono ?_
  rintro e w1 ⟨rfl, hpn⟩
  generalize w.alloc (.cells #[.slice x.A r.name.length x.c, .int .i64 r.kind, .int .i64 r.cls, .int .i64 r.ttl, .slice x.d.Ab r.data.bytes.length x.d.cb, .slice x.d.Ah r.data.host.length x.d.ch, .slice x.d.Am r.data.mail.length x.d.cm, .slice x.d.An r.data.nums.length x.d.cn, .slice x.d.At r.data.texts.length x.d.ct] 48) = w0 at *
  have HP := Lib.hid hpn
  clear hpn
  have p1 : w1.cell? ⟨w.heap.size, 1, none⟩ = some (.int .i64 r.kind) := (HRC.out _ _ _ HP.out).1.cell 1
  go_wp2_with fail
  refine (rnumP HP.out r.kind 2 (by omega) HIK.out).mono ?_
  rintro e w2 ⟨rfl, hpn⟩
  have HP := Lib.hid hpn
  clear hpn p1
  have p2 : w2.cell? ⟨w.heap.size, 2, none⟩ = some (.int .i64 r.cls) := (HRC.out _ _ _ HP.out).1.cell 2
  go_wp2_with fail
  refine (rnumP HP.out r.cls 2 (by rw [List.length_append]; omega) HIC.out).mono ?_
  rintro e w3 ⟨rfl, hpn⟩
  have HP := Lib.hid hpn
  clear hpn p2
  have p3 : w3.cell? ⟨w.heap.size, 3, none⟩ = some (.int .i64 r.ttl) := (HRC.out _ _ _ HP.out).1.cell 3
  go_wp2_with fail
  refine (rnumP HP.out r.ttl 4 (by rw [List.length_append, List.length_append]; omega) HIT.out).mono ?_
  rintro e w4 ⟨rfl, hpn⟩
  have HP := Lib.hid hpn
  clear hpn p3
  rw [show (((nameW true r.name B R).1 ++ putL [] r.kind 2) ++ putL [] r.cls 2) ++ putL [] r.ttl 4 = putH8 r B R from rfl] at HP
  obtain ⟨Gp, vB1, vR1, h1, hg, hf⟩ := HP.out
  obtain ⟨b1, c1, rfl, hc1, hc2⟩ := h1.form (by omega)
  have q0 := h1.c0
  obtain ⟨H, hHH⟩ : ∃ H, H = (putH8 r B R).length := ⟨_, rfl⟩
  rw [← hHH] at q0 HD hD0L hHL
  have hHb : H ≤ B.length + 300 := by omega
  have HH := Lib.hid hHH
  have HL0 := Lib.hid hl0
  clear h1 hg hf hc1 hc2 hHL hl0 hl1 hl2 hl3 hHH hnl
  go_wp2_with fail
  clear q0
  refine (rnumP HP.out 0 2 (by rw [← HH.out]; omega) (by omega)).mono ?_
  rintro e w5 ⟨rfl, hpn⟩
  have HP := Lib.hid hpn
  clear hpn
  have p1 : w5.cell? ⟨w.heap.size, 1, none⟩ = some (.int .i64 r.kind) := (HRC.out _ _ _ HP.out).1.cell 1
  have p4 : w5.cell? ⟨w.heap.size, 4, none⟩ = some (.slice x.d.Ab r.data.bytes.length x.d.cb) := (HRC.out _ _ _ HP.out).1.cell 4
  have p5 : w5.cell? ⟨w.heap.size, 5, none⟩ = some (.slice x.d.Ah r.data.host.length x.d.ch) := (HRC.out _ _ _ HP.out).1.cell 5
  have p6 : w5.cell? ⟨w.heap.size, 6, none⟩ = some (.slice x.d.Am r.data.mail.length x.d.cm) := (HRC.out _ _ _ HP.out).1.cell 6
  have p7 : w5.cell? ⟨w.heap.size, 7, none⟩ = some (.slice x.d.An r.data.nums.length x.d.cn) := (HRC.out _ _ _ HP.out).1.cell 7
  have p8 : w5.cell? ⟨w.heap.size, 8, none⟩ = some (.slice x.d.At r.data.texts.length x.d.ct) := (HRC.out _ _ _ HP.out).1.cell 8
  go_wp2_with fail
  obtain ⟨Gp, vB2, vR2, h1, hg, hf⟩ := HP.out
  refine (rput_any base w5 Gp g vB2 vR2 _ _ r.kind x.d r.data h1 (HRC.out _ _ _ HP.out).2.d HS.out.d HIN.out (by rw [List.length_append, HL0.out, ← HH.out]; omega) (by omega) HR2.out).mono ?_
  rintro e w6 ⟨rfl, hpn⟩
  have HP := Lib.hid (show RPenned base w0 Fp g (putD0 r B R).1 (putD0 r B R).2 w6 from RPenned.then hg hf hpn)
  clear hpn h1 hg hf p1 p4 p5 p6 p7 p8 HRC HR HR2
  obtain ⟨Gp, vB3, vR3, h1, hg, hf⟩ := HP.out
  obtain ⟨b, c, rfl, hc3, hc4⟩ := h1.form (by omega)
  have q0 := h1.c0
  obtain ⟨D, hDD⟩ : ∃ D, D = (putD0 r B R).1 := ⟨_, rfl⟩
  rw [← hDD] at h1 HP q0 hD0L hc3 HD
  have HDD := Lib.hid hDD
  have hbg : b ≠ g := fun e => own_not_whole h1.row h1.blk (by decide) (by rw [← e]; rfl)
  have f0 : w6.frozen? ⟨b, H, none⟩ = false := own_frozen h1.row _
  have k0 : w6.cell? ⟨b, H, none⟩ = some (((D.map bc))[H]'(by rw [List.length_map]; omega)) := own_cell h1.row _
  have f1 : w6.frozen? ⟨b, H + 1, none⟩ = false := own_frozen h1.row _
  have k1 : w6.cell? ⟨b, H + 1, none⟩ = some (((D.map bc))[H + 1]'(by rw [List.length_map]; omega)) := own_cell h1.row _
  have h2 := h1.store (k := H) (by omega) (UInt8.ofNat (WL.length / 256))
  have hx1 : b ≠ g ∧ g ≠ b := ⟨hbg, Ne.symm hbg⟩
  have h3 := RWr.store (B := D.set H (UInt8.ofNat (WL.length / 256))) (c := c) (b := b) (by rw [List.length_set]; exact h2) (k := H + 1) (by rw [List.length_set]; omega) (UInt8.ofNat WL.length)
  have hg3 := (hg.setCell (a := ⟨b, H, none⟩) (hf b (h1.frow b rfl)) (bc (UInt8.ofNat (WL.length / 256)))).setCell (a := ⟨b, H + 1, none⟩) (hf b (h1.frow b rfl)) (bc (UInt8.ofNat WL.length))
  have hz : RPenned base w0 Fp g ((D.set H (UInt8.ofNat (WL.length / 256))).set (H + 1) (UInt8.ofNat WL.length)) (putD0 r B R).2 ((w6.setCell ⟨b, H, none⟩ (bc (UInt8.ofNat (WL.length / 256)))).setCell ⟨b, H + 1, none⟩ (bc (UInt8.ofNat WL.length))) := ⟨Gp, _, _, h3, hg3, hf⟩
  have hz2 := HFIN.out _ _ _ hz
  rw [bc_dig, bc_dig, show (((WL.length / 256 : Nat) : Int) % 256) = (WL.length : Int) / 256 by omega] at hz2
  have hz3 := HD.out
  have HZ := Lib.hid hz2
  clear h1 h2 h3 hg hf hz hz2 hz3 hg3 hDD HFIN
  go_wp2
  go_ret
  rw [HD.out, show (H : Int) + 2 + (WL.length : Int) - (H : Int) - 2 = (WL.length : Int) by omega]
  exact ⟨rfl, HZ.out⟩

set_option maxHeartbeats 400000 in
theorem rrput_nil (w : World) : Calls Try.prog 30 #[.pointer none, .agg #[.slice none 0 0, .int .i64 99, .int .i64 0, .int .i64 0, .slice none 0 0, .slice none 0 0, .slice none 0 0, .slice none 0 0, .slice none 0 0]] w (Gave w (.int .i64 2)) := by
  go_enter Try.func30, Try.ntmps30
  go_wp2
  go_ret
  exact ⟨rfl, (Below.refl _ _).alloc (Nat.le_refl _) _⟩
set_option maxHeartbeats 400000 in
theorem rrput_bad (w : World) (g : Nat) (x : RV) (r : Rt) (hx : RAt w w.heap.size x r) (hs : soundR r = false) (hi : RIn r) (hl : LightR r) :
    Calls Try.prog 30 #[.pointer (some ⟨g, 0, none⟩), x.val r] w (Gave w (.int .i64 2)) := by
  have HB0 := Lib.hid ((Below.refl w.heap.size w).alloc (Nat.le_refl _) (.cells #[.slice x.A r.name.length x.c, .int .i64 r.kind, .int .i64 r.cls, .int .i64 r.ttl, .slice x.d.Ab r.data.bytes.length x.d.cb, .slice x.d.Ah r.data.host.length x.d.ch, .slice x.d.Am r.data.mail.length x.d.cm, .slice x.d.An r.data.nums.length x.d.cn, .slice x.d.At r.data.texts.length x.d.ct] 48))
  have HSD := Lib.hid (rsound_any x r (w.alloc (.cells #[.slice x.A r.name.length x.c, .int .i64 r.kind, .int .i64 r.cls, .int .i64 r.ttl, .slice x.d.Ab r.data.bytes.length x.d.cb, .slice x.d.Ah r.data.host.length x.d.ch, .slice x.d.Am r.data.mail.length x.d.cm, .slice x.d.An r.data.nums.length x.d.cn, .slice x.d.At r.data.texts.length x.d.ct] 48)) ((hx.below HB0.out).mono HB0.out.size) hi hl)
  rw [hs] at HSD
  clear hs hi hl hx
  go_enter Try.func30, Try.ntmps30
  go_wp2_with fail
  refine HSD.out.mono ?_
  rintro e w1 ⟨rfl, hb⟩
  have HB := Lib.hid (HB0.out.trans (hb.mono (by simp)))
  clear hb
  go_wp2
  go_ret
  exact ⟨rfl, HB.out⟩

end Go.Proofs.Ytjkjhpaeckkpjaa

namespace Go.Proofs.Ytjkjhpaeckkpjaa
open Go.RowKit

/-- Rests that may be led to, of few labels. -/
def Kept (R : Rs) : Prop := ∀ q ∈ R, q.2 < 16384 ∧ q.1.length ≤ 1000
theorem Kept.nil : Kept [] := fun _ h => absurd h (List.not_mem_nil)
theorem Kept.putD {s : Sh} {d : Dt} (B : List UInt8) {R : Rs} (h : Kept R) (lh : d.host.length ≤ 1000) (lm : d.mail.length ≤ 1000) : Kept (putD s d B R).2 := by
  have hH : Kept (putH s d B R).2 := by
    unfold putH
    cases hh : s.host
    · simp only [Bool.false_eq_true, if_false]
      exact h
    · simp only [if_true]
      exact nameW_kept _ _ _ _ h lh
  unfold Go.Proofs.Ytjkjhpaeckkpjaa.putD
  dsimp only
  unfold putM
  cases hh : s.mail
  · simp only [Bool.false_eq_true, if_false]
    exact hH
  · simp only [if_true]
    exact nameW_kept _ _ _ _ hH lm
theorem Kept.putRR {r : Rt} (B : List UInt8) {R : Rs} (h : Kept R) (l : LightR r) : Kept (putRR r B R).2 := by
  have l0 := l.l0
  have l1 := l.l1
  have l2 := l.l2
  exact Kept.putD _ (nameW_kept true r.name B R h (by omega)) (by omega) (by omega)
theorem Kept.putQs : ∀ {qs : List Qt} {s : List UInt8 × Rs}, Kept s.2 → (∀ q ∈ qs, q.name.length ≤ 200) → Kept (putQs qs s).2
  | [], _, h, _ => h
  | q :: qs, s, h, hl => Kept.putQs (qs := qs) (s := putQ q s.1 s.2) (nameW_kept true q.name s.1 s.2 h (by have := hl q (List.mem_cons_self); omega)) fun x hx => hl x (List.mem_cons_of_mem _ hx)
theorem Kept.putRs : ∀ {rs : List Rt} {s : List UInt8 × Rs}, Kept s.2 → (∀ r ∈ rs, LightR r) → Kept (putRs rs s).2
  | [], _, h, _ => h
  | r :: rs, s, h, hl => Kept.putRs (rs := rs) (s := Go.Proofs.Ytjkjhpaeckkpjaa.putRR r s.1 s.2) (Kept.putRR s.1 h (hl r (List.mem_cons_self))) fun x hx => hl x (List.mem_cons_of_mem _ hx)

/-- The record that Edns and Size are, as bytes. -/
theorem opt_bytes {n : Int} (h : fitB n 2 = true) (B : List UInt8) (R : Rs) : putRR (optR n) B R = (((B ++ [0, 0, 41]) ++ putL [] n 2) ++ [0, 0, 0, 0, 0, 0], R) := by
  obtain ⟨WL, hWL, _, _, hD0⟩ := putRR_eq (B := B) (R := R) (opt_sound h)
  have e1 : putL [] 41 2 = [0, 41] := by decide +kernel
  have e2 : putL [] 0 4 = [0, 0, 0, 0] := by decide +kernel
  have e3 : putL [] 0 2 = [0, 0] := by decide +kernel
  have h8 : putH8 (optR n) B R = (((B ++ [0]) ++ [0, 41]) ++ putL [] n 2) ++ [0, 0, 0, 0] := by
    unfold putH8
    show (((nameW true [] B R).1 ++ putL [] 41 2) ++ putL [] n 2) ++ putL [] 0 4 = _
    rw [nameW_nil, e1, e2]
  have hd : putD0 (optR n) B R = (putH8 (optR n) B R ++ [0, 0], R) := by
    unfold putD0
    show putD (shN 41) ⟨[], [], [], [], []⟩ (putH8 (optR n) B R ++ putL [] 0 2) (nameW true [] B R).2 = _
    rw [nameW_nil, e3]
    unfold putD putM putH
    simp [show (shN 41).host = false by decide +kernel, show (shN 41).mail = false by decide +kernel, numsW, textsW]
  unfold putRR
  rw [hd]
  dsimp only
  rw [show (putH8 (optR n) B R ++ ([0, 0] : List UInt8)).length - ((putH8 (optR n) B R).length + 2) = 0 by simp, show digs 0 2 = [0, 0] by decide +kernel]
  have hs : ∀ P : List UInt8, setB (P ++ [0, 0]) P.length [0, 0] = P ++ [0, 0] := fun P => by
    unfold setB
    simp
  rw [hs, h8]
  simp

/-- All that is written of a sound message is fine. -/
theorem fine_q {m : Mt} (hs : SoundM m) (k : Nat) (hk : k ≤ m.qs.length) : Fine (putQs (m.qs.take k) (m.head, [])) ∧ (putQs (m.qs.take k) (m.head, [])).1.length ≤ 12 + 70000 * k ∧ (putQs (m.qs.take k) (m.head, [])).2.length ≤ 900 * k := by
  have h := putQs_good (m.qs.take k) (m.head, []) (GoodR.nil _) fun q h => hs.q q (List.mem_of_mem_take h)
  rw [List.length_take, Nat.min_eq_left hk] at h
  have h1 := h.l
  have h2 := h.r
  have h3 := length_head hs
  have h4 := hs.n
  have e1 : ((m.head, []) : List UInt8 × Rs).1.length = m.head.length := rfl
  have e2 : ((m.head, []) : List UInt8 × Rs).2.length = 0 := rfl
  rw [e1, h3] at h1
  rw [e2] at h2
  exact ⟨⟨by omega, by omega, h.g⟩, h1, by omega⟩
theorem fine_r {m : Mt} (hs : SoundM m) (k : Nat) (hk : k ≤ m.all.length) : Fine (putRs (m.all.take k) (putQs m.qs (m.head, []))) := by
  obtain ⟨h0, h1, h2⟩ := fine_q hs m.qs.length (Nat.le_refl _)
  rw [List.take_length] at h0 h1 h2
  have h := putRs_good (m.all.take k) (putQs m.qs (m.head, [])) h0.g fun r h => (soundX_iff.1 (hs.r r (List.mem_of_mem_take h))).2
  rw [List.length_take, Nat.min_eq_left hk] at h
  have h3 := h.l
  have h4 := h.r
  have h5 := hs.n
  have h6 : m.all.length = m.an.length + (m.au.length + m.ex.length) := by unfold Mt.all; rw [List.length_append, List.length_append]
  exact ⟨by omega, by omega, h.g⟩
theorem enc_all {m : Mt} : encM m = (putRs (if m.h.edns = true then [optR m.h.size] else []) (putRs m.all (putQs m.qs (m.head, [])))).1 := by
  rw [← putRs_append]
  unfold encM Mt.all Mt.exX
  simp only [List.append_assoc]

theorem flag_any (b : Bool) (n : Nat) (w : World) (_ : n ≤ 65536) : Calls Try.prog 56 #[.bool b, .int .i64 n] w (fun e w' => e = .returned (.int .i64 (bit b n : Nat)) ∧ w' = w) := by
  cases b <;>
  · go_enter Try.func56, Try.ntmps56
    go_wp2
    go_ret
    exact ⟨rfl, rfl⟩
theorem RPenned.low {base : Nat} {w w' : World} {Fp : Nat → Prop} {g : Nat} {B : List UInt8} {R : Rs} (h : RPenned base w Fp g B R w') (hF : ∀ j, Fp j → base ≤ j) (hb : base ≤ w.heap.size) : Below base w w' := by
  obtain ⟨_, _, _, _, hg, _⟩ := h
  exact hg.below hF hb
theorem RWr.new (w : World) : RWr (w.alloc (.cells #[.slice none 0 0, .slice none 0 0] 94)) w.heap.size (fun j => j = w.heap.size) w.heap.size (.slice none 0 0) (.slice none 0 0) [] [] := by
  refine ⟨heap_alloc_new w _, rfl, World.ownsRow_nil _ _ _ _, fun j hj => by simp [Value.ownBlock] at hj, ⟨[], rfl, World.ownsRow_nil _ _ _ _, fun j hj => by simp [Value.ownBlock] at hj, fun i hi => absurd hi (Nat.not_lt_zero _)⟩, fun j hj => ?_⟩
  subst hj
  exact ⟨Nat.le_refl _, by simp⟩

/-- What Raw answers. -/
def RawOut (w : World) (b : List UInt8) (e : Ending) (w' : World) : Prop :=
  ∃ A c, e = .returned (.slice A b.length c) ∧ w'.ownsRow w.heap.size 5 1 (.slice A b.length c) b.length (b.map bc) ∧ Below w.heap.size w w'
def QRawRel (base : Nat) (W : World) (Fp : Nat → Prop) (g : Nat) (qs : List Qt) (S : List UInt8 × Rs) (i : Value) (wr : World) : Prop :=
  ∃ k : Nat, k ≤ qs.length ∧ i = .int .i64 k ∧ RPenned base W Fp g (putQs (qs.take k) S).1 (putQs (qs.take k) S).2 wr
def RRawRel (base : Nat) (W : World) (Fp : Nat → Prop) (g : Nat) (rs : List Rt) (S : List UInt8 × Rs) (i : Value) (wr : World) : Prop :=
  ∃ k : Nat, k ≤ rs.length ∧ i = .int .i64 k ∧ RPenned base W Fp g (putRs (rs.take k) S).1 (putRs (rs.take k) S).2 wr
def AllRawRel (wq : World) (ps : List (RV × Rt)) (v : Value) (wx : World) : Prop :=
  ∃ (A : Option Addr) (c : Nat), v = .slice A ps.length c ∧ wx.ownsRow wq.heap.size 48 9 v ps.length (ps.flatMap cellsR) ∧ Below wq.heap.size wq wx

end Go.Proofs.Ytjkjhpaeckkpjaa
