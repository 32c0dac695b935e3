/-
  The contract of PutData of the document's Writer; rdata.Put of nothing, and of data that is not sound.
-/
import Derived.Test.YtjjmllbkfbdcnaaRrwritesP3
import Derived.Test.YtjjmllbkfbdcnaaRrwritesP4
namespace Go.Proofs.Ytjjmllbkfbdcnaa
open Go.RowKit

set_option maxHeartbeats 400000 in
theorem put_nil (k : Int) (y : DV) (d : Dt) (w : World) : Calls Try.prog 15 #[.pointer none, .int .i64 k, y.val d] w (Gave w (.int .i64 2)) := by
  go_enter Try.func15, Try.ntmps15
  go_wp2
  go_ret
  exact ⟨rfl, (Below.refl _ _).alloc (Nat.le_refl _) _⟩
set_option maxHeartbeats 400000 in
theorem put_bad (w : World) (g : Nat) (k : Int) (y : DV) (d : Dt) (hy : DataAt w w.heap.size y d) (hs : soundD k d = false) (q1 : szN d.host ≤ maxLen) (q2 : szN d.mail ≤ maxLen) (q3 : d.texts.length ≤ maxLen) (q4 : ∀ k (h : k < d.texts.length), (d.texts[k]).length ≤ maxLen) :
    Calls Try.prog 15 #[.pointer (some ⟨g, 0, none⟩), .int .i64 k, y.val d] w (Gave w (.int .i64 2)) := by
  have HSD := Lib.hid (fun W (h : DataAt W W.heap.size y d) => dsound_any k y d W h q1 q2 q3 q4)
  rw [hs] at HSD
  have HY := Lib.hid ((hy.alloc (Nat.le_refl _) (.cells #[y.vb d, y.vh d, y.vm d, y.vn d, y.vt d] 26)).mono (show w.heap.size ≤ (w.alloc (.cells #[y.vb d, y.vh d, y.vm d, y.vn d, y.vt d] 26)).heap.size by simp))
  clear hs q1 q2 q3 q4 hy
  go_enter Try.func15, Try.ntmps15
  go_wp2_with fail
  refine (HSD.out _ HY.out).mono ?_
  rintro e w1 ⟨rfl, hb⟩
  have HB := Lib.hid (((Below.refl w.heap.size w).alloc (Nat.le_refl _) (.cells #[y.vb d, y.vh d, y.vm d, y.vn d, y.vt d] 26)).trans (hb.mono (by simp)))
  clear hb
  go_wp2
  go_ret
  exact ⟨rfl, HB.out⟩

section
variable {base : Nat} {w W W' : World} {Fp : Nat → Prop} {g : Nat} {B : List UInt8} {R : Rs}
theorem RPenned.more (h : RPenned base w Fp g B R W) (hb : Below W.heap.size W W') : RPenned base w Fp g B R W' := by
  obtain ⟨Gp, vB, vR, h1, hg, hf⟩ := h
  exact ⟨Gp, vB, vR, h1.below hb, hg.then_below hb, hf⟩
theorem rrawP (hp : RPenned base w Fp g B R W) (A : Option Addr) (m c : Nat) (l : List UInt8) (hl : l.length = m) (hr : Row W W.heap.size A (l.map bc)) (hm : B.length + m ≤ 140737488355000) :
    Calls Try.prog 50 #[.pointer (some ⟨g, 0, none⟩), .slice A m c] W (fun e w' => e = .returned (.tuple #[]) ∧ RPenned base w Fp g (B ++ l) R w') := by
  obtain ⟨Gp, vB, vR, h, hg, hf⟩ := hp
  exact (rraw_any base W Gp g vB vR B R A m c l h hl hr hm).mono fun e w' ⟨he, h2⟩ => ⟨he, RPenned.then hg hf h2⟩
theorem rnumP (hp : RPenned base w Fp g B R W) (n s : Int) (hm : B.length ≤ 140737488354000) (hn : n ≤ 9223372036854775807) :
    Calls Try.prog 49 #[.pointer (some ⟨g, 0, none⟩), .int .i64 n, .int .i64 s] W (fun e w' => e = .returned (.tuple #[]) ∧ RPenned base w Fp g (B ++ putL [] n s) R w') := by
  obtain ⟨Gp, vB, vR, h, hg, hf⟩ := hp
  rw [← putL_app]
  exact (rnum_any base W Gp g vB vR B R n s h hm hn).mono fun e w' ⟨he, h2⟩ => ⟨he, RPenned.then hg hf h2⟩
theorem rnameP (hp : RPenned base w Fp g B R W) (A : Option Addr) (c : Nat) (n : List (List UInt8)) (short : Bool) (hA : Row W base A (n.map sv)) (hc : n.length ≤ c) (hs : soundN n = true) (hB : B.length ≤ 1000000000) (hR : R.length ≤ 900000) (hR16 : ∀ r ∈ R, r.2 < 16384 ∧ r.1.length ≤ 1000) :
    Calls Try.prog 14 #[.pointer (some ⟨g, 0, none⟩), .slice A n.length c, .bool short] W (fun e w' => e = .returned (.tuple #[]) ∧ RPenned base w Fp g (nameW short n B R).1 (nameW short n B R).2 w') := by
  obtain ⟨Gp, vB, vR, h, hg, hf⟩ := hp
  exact (rname_any base W Gp g vB vR B R A c base n short h hA (Nat.le_refl _) hc hs hB hR hR16).mono fun e w' ⟨he, h2⟩ => ⟨he, RPenned.then hg hf h2⟩
/-- The box of the data stays. -/
theorem box_stays {x : DV} {d : Dt} (hx : DataAt w base x d) (hlow : ∀ j, Fp j → base ≤ j ∧ j < w.heap.size) (hb : base ≤ w.heap.size)
    (hp : RPenned base (w.alloc (.cells #[x.vb d, x.vh d, x.vm d, x.vn d, x.vt d] 26)) Fp g B R W) : Whole W w.heap.size 26 [x.vb d, x.vh d, x.vm d, x.vn d, x.vt d] ∧ DataAt W base x d := by
  obtain ⟨_, _, _, _, hg, _⟩ := hp
  refine ⟨(Whole.made w [x.vb d, x.vh d, x.vm d, x.vn d, x.vt d] _).keep (hg.block w.heap.size (by simp) fun hj => by have := (hlow _ hj).2; omega), (hx.alloc hb _).below (hg.below (fun j hj => (hlow j hj).1) (by simp; omega))⟩
theorem RPenned.from {o : Obj} (hp : RPenned base (w.alloc o) Fp g B R W) : RPenned base w Fp g B R W :=
  RPenned.then (Grew.all ((Below.refl _ _).alloc (Nat.le_refl _) _)) (fun _ hj => .inl hj) hp
end
theorem putD_none {s : Sh} {d : Dt} (B : List UInt8) (R : Rs) (sp : SoundP s d) (h1 : s.host = false) (h2 : s.mail = false) (h3 : s.ahead = 0) (h4 : s.behind = 0) (h5 : s.texts = true → s.most = 0) : putD s d B R = ((B ++ d.bytes) ++ textsW d.texts, R) := by
  have hn : d.nums = [] := List.eq_nil_of_length_eq_zero (by have := sp.n; omega)
  have hc : d.bytes = [] ∨ d.texts = [] := by
    cases ht : s.texts with
    | false => exact .inr (sp.t0 ht)
    | true => exact .inl (List.eq_nil_of_length_eq_zero (by have := sp.b; rw [h5 ht] at this; omega))
  unfold putD putM putH
  rw [if_neg (by rw [h2]; decide), if_neg (by rw [h1]; decide), hn]
  rcases hc with h | h <;> rw [h] <;> simp [numsW, textsW]
theorem putD_host {s : Sh} {d : Dt} (B : List UInt8) (R : Rs) (sp : SoundP s d) (h1 : s.host = true) (h2 : s.mail = false) (h4 : s.behind = 0) (h5 : s.most = 0) (h6 : s.texts = false) : putD s d B R = nameW s.short d.host (((B ++ d.bytes) ++ textsW d.texts) ++ numsW 2 d.nums) R := by
  have hb : d.bytes = [] := List.eq_nil_of_length_eq_zero (by have := sp.b; omega)
  have ht := sp.t0 h6
  have hn := sp.n
  unfold putD putM putH
  rw [if_neg (by rw [h2]; decide), if_pos h1, hb, ht, List.take_of_length_le (by omega), List.drop_of_length_le (by omega)]
  simp [numsW, textsW]
theorem putD_both {s : Sh} {d : Dt} (B : List UInt8) (R : Rs) (sp : SoundP s d) (h1 : s.host = true) (h2 : s.mail = true) (h3 : s.ahead = 0) (h5 : s.most = 0) (h6 : s.texts = false) :
    putD s d B R = ((nameW s.short d.mail (nameW s.short d.host ((B ++ d.bytes) ++ textsW d.texts) R).1 (nameW s.short d.host ((B ++ d.bytes) ++ textsW d.texts) R).2).1 ++ numsW 4 d.nums, (nameW s.short d.mail (nameW s.short d.host ((B ++ d.bytes) ++ textsW d.texts) R).1 (nameW s.short d.host ((B ++ d.bytes) ++ textsW d.texts) R).2).2) := by
  have hb : d.bytes = [] := List.eq_nil_of_length_eq_zero (by have := sp.b; omega)
  have ht := sp.t0 h6
  unfold putD putM putH
  rw [if_pos h2, if_pos h1, hb, ht, h3]
  simp [numsW, textsW]

def RTRel (base : Nat) (w : World) (Fp : Nat → Prop) (g : Nat) (B : List UInt8) (R : Rs) (l : List (List UInt8)) (i : Value) (wr : World) : Prop :=
  ∃ k : Nat, k ≤ l.length ∧ i = .int .i64 k ∧ RPenned base w Fp g (B ++ textsW (l.take k)) R wr
def RNRel (base : Nat) (w : World) (Fp : Nat → Prop) (g : Nat) (B : List UInt8) (R : Rs) (s : Int) (l : List Int) (i : Value) (wr : World) : Prop :=
  ∃ k : Nat, k ≤ l.length ∧ i = .int .i64 k ∧ RPenned base w Fp g (B ++ numsW s (l.take k)) R wr

set_option maxRecDepth 20000 in
set_option maxHeartbeats 2000000 in
theorem rput_1 (base : Nat) (w : World) (Fp : Nat → Prop) (g : Nat) (vB vR : Value) (B : List UInt8) (R : Rs) (x : DV) (d : Dt) (h : RWr w base Fp g vB vR B R) (hx : DataAt w base x d) (hs : soundD 1 d = true) (hN : ∀ n ∈ d.nums, n ≤ 9223372036854775807)
    (hB : B.length ≤ 100000000) (_ : R.length ≤ 800000) (hR16 : ∀ r ∈ R, r.2 < 16384 ∧ r.1.length ≤ 1000) :
    Calls Try.prog 18 #[.pointer (some ⟨g, 0, none⟩), .int .i64 1, x.val d] w (fun e w' => e = .returned (.tuple #[]) ∧ RPenned base w Fp g (putD (shN 1) d B R).1 (putD (shN 1) d B R).2 w') := by
  have sp := soundP hs
  have hE := putD_none (s := shN 1) B R sp rfl rfl rfl rfl (by decide)
  rw [hE]
  have hbm : d.bytes.length ≤ 65535 := Nat.le_trans sp.b (by skip <;> first | decide | exact Nat.le_refl _)
  have htl := sp.t
  have hnl : d.nums.length ≤ 10 := by have := sp.n; have h1 : (shN 1).ahead + (shN 1).behind ≤ 10 := (by skip <;> decide); omega
  have HT := Lib.hid sp.tl
  have HN := Lib.hid hN
  have HR := Lib.hid hR16
  have HFIN := Lib.hid (fun B' R' W (hp : RPenned base (w.alloc (.cells #[x.vb d, x.vh d, x.vm d, x.vn d, x.vt d] 26)) Fp g B' R' W) => hp.from)
  have HBOX := Lib.hid (fun B' R' W (hp : RPenned base (w.alloc (.cells #[x.vb d, x.vh d, x.vm d, x.vn d, x.vt d] 26)) Fp g B' R' W) => box_stays hx h.low h.size hp)
  have hp0 : RPenned base (w.alloc (.cells #[x.vb d, x.vh d, x.vm d, x.vn d, x.vt d] 26)) Fp g B R (w.alloc (.cells #[x.vb d, x.vh d, x.vm d, x.vn d, x.vt d] 26)) :=
    ⟨Fp, vB, vR, h.below ((Below.refl _ _).alloc (Nat.le_refl _) _), Grew.refl _ _, fun _ hj => .inl hj⟩
  have hrb := (HBOX.out _ _ _ hp0).2.b
  have hch := hx.lh
  have hcm := hx.lm
  have HP0 := Lib.hid hp0
  have HRB := Lib.hid (hrb.mono (show base ≤ (w.alloc (.cells #[x.vb d, x.vh d, x.vm d, x.vn d, x.vt d] 26)).heap.size by have := h.size; simp; omega))
  clear sp hE h hx hs hN hR16 hp0 hrb
  go_enter Try.func18, Try.ntmps18
  go_wp2_with fail
  refine (rrawP HP0.out x.Ab d.bytes.length x.cb d.bytes rfl HRB.out (by omega)).mono ?_
  rintro e W1 ⟨rfl, hp1⟩
  generalize w.alloc (.cells #[x.vb d, x.vh d, x.vm d, x.vn d, x.vt d] 26) = w1 at *
  obtain ⟨B1, hB1⟩ : ∃ B1, B1 = B ++ d.bytes := ⟨_, rfl⟩
  rw [← hB1] at hp1
  have hl1 : B1.length ≤ 101000000 := by rw [hB1, List.length_append]; omega
  have HP1 := Lib.hid hp1
  have HB1 := Lib.hid hB1
  clear hp1 hB1 HP0 HRB
  go_wp2
  go_loopw [6] (RTRel base w1 Fp g B1 R d.texts) (fun i _ => d.texts.length - (intOf i).toNat)
  case atStart => exact ⟨0, Nat.zero_le _, rfl, by simpa [textsW] using HP1.out⟩
  case round =>
    obtain ⟨k0, hk0, rfl, hp⟩ := hrel
    obtain ⟨hbx, hdt⟩ := HBOX.out _ _ _ hp
    have p4 : wr.cell? ⟨w.heap.size, 4, none⟩ = some (.slice x.At d.texts.length x.ct) := hbx.cell 4
    have HP := Lib.hid hp
    have HDT := Lib.hid hdt
    have HBX := Lib.hid hbx
    clear hp hbx hdt HP1
    by_cases hlt : k0 < d.texts.length
    · obtain ⟨b, off, hA, _, hc⟩ := HDT.out.t.name_at hlt
      rw [hA] at p4
      have hlk := HT.out d.texts[k0] (List.getElem_mem hlt)
      have hlen : (B1 ++ textsW (d.texts.take k0)).length + 3000 ≤ 140737488354000 := by
        have := length_textsW 255 (d.texts.take k0) fun t ht => HT.out t (List.mem_of_mem_take ht)
        rw [List.length_append]
        rw [List.length_take] at this
        have h3 : (255 + 7) * min k0 d.texts.length ≤ (255 + 7) * 64 := Nat.mul_le_mul_left _ (by omega)
        omega
      have HLEN := Lib.hid hlen
      have HTS := Lib.hid (show textsW (d.texts.take (k0 + 1)) = textsW (d.texts.take k0) ++ (putL [] (d.texts[k0].length : Int) 1 ++ d.texts[k0]) by rw [List.take_succ_eq_append_getElem hlt, textsW_snoc])
      have HCA := Lib.hid (fun W (h : DataAt W base x d) => (show W.cell? ⟨b, off + k0, none⟩ = some (.string ⟨(d.texts[k0]).toArray⟩) from Row.cell_at (by have := h.t; rw [hA] at this; exact this) hlt))
      have HAA := Lib.hid hA
      obtain ⟨t, htt⟩ : ∃ t, t = d.texts[k0] := ⟨_, rfl⟩
      rw [← htt] at hc hlk HTS HCA
      clear hlen htt hA
      go_wp2_with fail
      refine (rnumP HP.out (t.length : Int) 1 (by have := HLEN.out; omega) (by omega)).mono ?_
      rintro e W2 ⟨rfl, hp2⟩
      obtain ⟨hbx2, hdt2⟩ := HBOX.out _ _ _ hp2
      have p4' : W2.cell? ⟨w.heap.size, 4, none⟩ = some (.slice (some ⟨b, off, none⟩) d.texts.length x.ct) := by rw [← HAA.out]; exact hbx2.cell 4
      have hc' := HCA.out _ hdt2
      have HP2 := Lib.hid hp2
      clear hp2 hbx2 hdt2 p4 hc
      go_wp2_with (refine wpList_bytes rfl (.tmp 33) 9 22 5 rfl Try.underlying9 Try.underlying22 Try.underlying5 t rfl ?_; intro C4 W3 hC4 hM4 hB4 hs4)
      have hr := hM4.row.take t.length
      rw [List.take_left' (by rw [List.length_map])] at hr
      have HR3 := Lib.hid (hr.mono (show _ ≤ W3.heap.size by first | omega | exact Nat.le_refl _ | (simp; omega)))
      have HP3 := Lib.hid (HP2.out.more hB4)
      have hp7 := length_putL (t.length : Int) 1
      clear hr hM4 hB4 hs4 HP2 p4' hc'
      refine (rrawP HP3.out _ t.length C4 t rfl HR3.out (by have := HLEN.out; rw [List.length_append]; omega)).mono ?_
      rintro e W4 ⟨rfl, hp4⟩
      have HP4 := Lib.hid hp4
      clear hp4
      go_wp2
      refine ⟨⟨k0 + 1, hlt, by go_num, ?_⟩, by simp [intOf]; omega⟩
      rw [HTS.out, ← List.append_assoc, ← List.append_assoc]
      exact HP4.out
    · obtain rfl : k0 = d.texts.length := by omega
      have hpe := HP.out
      rw [List.take_length] at hpe
      obtain ⟨B2, hB2⟩ : ∃ B2, B2 = B1 ++ textsW d.texts := ⟨_, rfl⟩
      rw [← hB2] at hpe
      have hl2 : B2.length ≤ 102000000 := by
        have := length_textsW 255 d.texts HT.out
        have h3 : (255 + 7) * d.texts.length ≤ (255 + 7) * 64 := Nat.mul_le_mul_left _ htl
        rw [hB2, List.length_append]
        omega
      have HPE := Lib.hid hpe
      have HB2 := Lib.hid hB2
      clear hpe hB2 HP HDT HBX
      go_wp2
      go_end0
      have hz := HPE.out
      rw [HB2.out, HB1.out] at hz
      exact ⟨rfl, HFIN.out _ _ _ hz⟩

set_option maxRecDepth 20000 in
set_option maxHeartbeats 2000000 in
theorem rput_28 (base : Nat) (w : World) (Fp : Nat → Prop) (g : Nat) (vB vR : Value) (B : List UInt8) (R : Rs) (x : DV) (d : Dt) (h : RWr w base Fp g vB vR B R) (hx : DataAt w base x d) (hs : soundD 28 d = true) (hN : ∀ n ∈ d.nums, n ≤ 9223372036854775807)
    (hB : B.length ≤ 100000000) (_ : R.length ≤ 800000) (hR16 : ∀ r ∈ R, r.2 < 16384 ∧ r.1.length ≤ 1000) :
    Calls Try.prog 18 #[.pointer (some ⟨g, 0, none⟩), .int .i64 28, x.val d] w (fun e w' => e = .returned (.tuple #[]) ∧ RPenned base w Fp g (putD (shN 28) d B R).1 (putD (shN 28) d B R).2 w') := by
  have sp := soundP hs
  have hE := putD_none (s := shN 28) B R sp rfl rfl rfl rfl (by decide)
  rw [hE]
  have hbm : d.bytes.length ≤ 65535 := Nat.le_trans sp.b (by skip <;> first | decide | exact Nat.le_refl _)
  have htl := sp.t
  have hnl : d.nums.length ≤ 10 := by have := sp.n; have h1 : (shN 28).ahead + (shN 28).behind ≤ 10 := (by skip <;> decide); omega
  have HT := Lib.hid sp.tl
  have HN := Lib.hid hN
  have HR := Lib.hid hR16
  have HFIN := Lib.hid (fun B' R' W (hp : RPenned base (w.alloc (.cells #[x.vb d, x.vh d, x.vm d, x.vn d, x.vt d] 26)) Fp g B' R' W) => hp.from)
  have HBOX := Lib.hid (fun B' R' W (hp : RPenned base (w.alloc (.cells #[x.vb d, x.vh d, x.vm d, x.vn d, x.vt d] 26)) Fp g B' R' W) => box_stays hx h.low h.size hp)
  have hp0 : RPenned base (w.alloc (.cells #[x.vb d, x.vh d, x.vm d, x.vn d, x.vt d] 26)) Fp g B R (w.alloc (.cells #[x.vb d, x.vh d, x.vm d, x.vn d, x.vt d] 26)) :=
    ⟨Fp, vB, vR, h.below ((Below.refl _ _).alloc (Nat.le_refl _) _), Grew.refl _ _, fun _ hj => .inl hj⟩
  have hrb := (HBOX.out _ _ _ hp0).2.b
  have hch := hx.lh
  have hcm := hx.lm
  have HP0 := Lib.hid hp0
  have HRB := Lib.hid (hrb.mono (show base ≤ (w.alloc (.cells #[x.vb d, x.vh d, x.vm d, x.vn d, x.vt d] 26)).heap.size by have := h.size; simp; omega))
  clear sp hE h hx hs hN hR16 hp0 hrb
  go_enter Try.func18, Try.ntmps18
  go_wp2_with fail
  refine (rrawP HP0.out x.Ab d.bytes.length x.cb d.bytes rfl HRB.out (by omega)).mono ?_
  rintro e W1 ⟨rfl, hp1⟩
  generalize w.alloc (.cells #[x.vb d, x.vh d, x.vm d, x.vn d, x.vt d] 26) = w1 at *
  obtain ⟨B1, hB1⟩ : ∃ B1, B1 = B ++ d.bytes := ⟨_, rfl⟩
  rw [← hB1] at hp1
  have hl1 : B1.length ≤ 101000000 := by rw [hB1, List.length_append]; omega
  have HP1 := Lib.hid hp1
  have HB1 := Lib.hid hB1
  clear hp1 hB1 HP0 HRB
  go_wp2
  go_loopw [6] (RTRel base w1 Fp g B1 R d.texts) (fun i _ => d.texts.length - (intOf i).toNat)
  case atStart => exact ⟨0, Nat.zero_le _, rfl, by simpa [textsW] using HP1.out⟩
  case round =>
    obtain ⟨k0, hk0, rfl, hp⟩ := hrel
    obtain ⟨hbx, hdt⟩ := HBOX.out _ _ _ hp
    have p4 : wr.cell? ⟨w.heap.size, 4, none⟩ = some (.slice x.At d.texts.length x.ct) := hbx.cell 4
    have HP := Lib.hid hp
    have HDT := Lib.hid hdt
    have HBX := Lib.hid hbx
    clear hp hbx hdt HP1
    by_cases hlt : k0 < d.texts.length
    · obtain ⟨b, off, hA, _, hc⟩ := HDT.out.t.name_at hlt
      rw [hA] at p4
      have hlk := HT.out d.texts[k0] (List.getElem_mem hlt)
      have hlen : (B1 ++ textsW (d.texts.take k0)).length + 3000 ≤ 140737488354000 := by
        have := length_textsW 255 (d.texts.take k0) fun t ht => HT.out t (List.mem_of_mem_take ht)
        rw [List.length_append]
        rw [List.length_take] at this
        have h3 : (255 + 7) * min k0 d.texts.length ≤ (255 + 7) * 64 := Nat.mul_le_mul_left _ (by omega)
        omega
      have HLEN := Lib.hid hlen
      have HTS := Lib.hid (show textsW (d.texts.take (k0 + 1)) = textsW (d.texts.take k0) ++ (putL [] (d.texts[k0].length : Int) 1 ++ d.texts[k0]) by rw [List.take_succ_eq_append_getElem hlt, textsW_snoc])
      have HCA := Lib.hid (fun W (h : DataAt W base x d) => (show W.cell? ⟨b, off + k0, none⟩ = some (.string ⟨(d.texts[k0]).toArray⟩) from Row.cell_at (by have := h.t; rw [hA] at this; exact this) hlt))
      have HAA := Lib.hid hA
      obtain ⟨t, htt⟩ : ∃ t, t = d.texts[k0] := ⟨_, rfl⟩
      rw [← htt] at hc hlk HTS HCA
      clear hlen htt hA
      go_wp2_with fail
      refine (rnumP HP.out (t.length : Int) 1 (by have := HLEN.out; omega) (by omega)).mono ?_
      rintro e W2 ⟨rfl, hp2⟩
      obtain ⟨hbx2, hdt2⟩ := HBOX.out _ _ _ hp2
      have p4' : W2.cell? ⟨w.heap.size, 4, none⟩ = some (.slice (some ⟨b, off, none⟩) d.texts.length x.ct) := by rw [← HAA.out]; exact hbx2.cell 4
      have hc' := HCA.out _ hdt2
      have HP2 := Lib.hid hp2
      clear hp2 hbx2 hdt2 p4 hc
      go_wp2_with (refine wpList_bytes rfl (.tmp 33) 9 22 5 rfl Try.underlying9 Try.underlying22 Try.underlying5 t rfl ?_; intro C4 W3 hC4 hM4 hB4 hs4)
      have hr := hM4.row.take t.length
      rw [List.take_left' (by rw [List.length_map])] at hr
      have HR3 := Lib.hid (hr.mono (show _ ≤ W3.heap.size by first | omega | exact Nat.le_refl _ | (simp; omega)))
      have HP3 := Lib.hid (HP2.out.more hB4)
      have hp7 := length_putL (t.length : Int) 1
      clear hr hM4 hB4 hs4 HP2 p4' hc'
      refine (rrawP HP3.out _ t.length C4 t rfl HR3.out (by have := HLEN.out; rw [List.length_append]; omega)).mono ?_
      rintro e W4 ⟨rfl, hp4⟩
      have HP4 := Lib.hid hp4
      clear hp4
      go_wp2
      refine ⟨⟨k0 + 1, hlt, by go_num, ?_⟩, by simp [intOf]; omega⟩
      rw [HTS.out, ← List.append_assoc, ← List.append_assoc]
      exact HP4.out
    · obtain rfl : k0 = d.texts.length := by omega
      have hpe := HP.out
      rw [List.take_length] at hpe
      obtain ⟨B2, hB2⟩ : ∃ B2, B2 = B1 ++ textsW d.texts := ⟨_, rfl⟩
      rw [← hB2] at hpe
      have hl2 : B2.length ≤ 102000000 := by
        have := length_textsW 255 d.texts HT.out
        have h3 : (255 + 7) * d.texts.length ≤ (255 + 7) * 64 := Nat.mul_le_mul_left _ htl
        rw [hB2, List.length_append]
        omega
      have HPE := Lib.hid hpe
      have HB2 := Lib.hid hB2
      clear hpe hB2 HP HDT HBX
      go_wp2
      go_end0
      have hz := HPE.out
      rw [HB2.out, HB1.out] at hz
      exact ⟨rfl, HFIN.out _ _ _ hz⟩

set_option maxRecDepth 20000 in
set_option maxHeartbeats 2000000 in
theorem rput_16 (base : Nat) (w : World) (Fp : Nat → Prop) (g : Nat) (vB vR : Value) (B : List UInt8) (R : Rs) (x : DV) (d : Dt) (h : RWr w base Fp g vB vR B R) (hx : DataAt w base x d) (hs : soundD 16 d = true) (hN : ∀ n ∈ d.nums, n ≤ 9223372036854775807)
    (hB : B.length ≤ 100000000) (_ : R.length ≤ 800000) (hR16 : ∀ r ∈ R, r.2 < 16384 ∧ r.1.length ≤ 1000) :
    Calls Try.prog 18 #[.pointer (some ⟨g, 0, none⟩), .int .i64 16, x.val d] w (fun e w' => e = .returned (.tuple #[]) ∧ RPenned base w Fp g (putD (shN 16) d B R).1 (putD (shN 16) d B R).2 w') := by
  have sp := soundP hs
  have hE := putD_none (s := shN 16) B R sp rfl rfl rfl rfl (by decide)
  rw [hE]
  have hbm : d.bytes.length ≤ 65535 := Nat.le_trans sp.b (by skip <;> first | decide | exact Nat.le_refl _)
  have htl := sp.t
  have hnl : d.nums.length ≤ 10 := by have := sp.n; have h1 : (shN 16).ahead + (shN 16).behind ≤ 10 := (by skip <;> decide); omega
  have HT := Lib.hid sp.tl
  have HN := Lib.hid hN
  have HR := Lib.hid hR16
  have HFIN := Lib.hid (fun B' R' W (hp : RPenned base (w.alloc (.cells #[x.vb d, x.vh d, x.vm d, x.vn d, x.vt d] 26)) Fp g B' R' W) => hp.from)
  have HBOX := Lib.hid (fun B' R' W (hp : RPenned base (w.alloc (.cells #[x.vb d, x.vh d, x.vm d, x.vn d, x.vt d] 26)) Fp g B' R' W) => box_stays hx h.low h.size hp)
  have hp0 : RPenned base (w.alloc (.cells #[x.vb d, x.vh d, x.vm d, x.vn d, x.vt d] 26)) Fp g B R (w.alloc (.cells #[x.vb d, x.vh d, x.vm d, x.vn d, x.vt d] 26)) :=
    ⟨Fp, vB, vR, h.below ((Below.refl _ _).alloc (Nat.le_refl _) _), Grew.refl _ _, fun _ hj => .inl hj⟩
  have hrb := (HBOX.out _ _ _ hp0).2.b
  have hch := hx.lh
  have hcm := hx.lm
  have HP0 := Lib.hid hp0
  have HRB := Lib.hid (hrb.mono (show base ≤ (w.alloc (.cells #[x.vb d, x.vh d, x.vm d, x.vn d, x.vt d] 26)).heap.size by have := h.size; simp; omega))
  clear sp hE h hx hs hN hR16 hp0 hrb
  go_enter Try.func18, Try.ntmps18
  go_wp2_with fail
  refine (rrawP HP0.out x.Ab d.bytes.length x.cb d.bytes rfl HRB.out (by omega)).mono ?_
  rintro e W1 ⟨rfl, hp1⟩
  generalize w.alloc (.cells #[x.vb d, x.vh d, x.vm d, x.vn d, x.vt d] 26) = w1 at *
  obtain ⟨B1, hB1⟩ : ∃ B1, B1 = B ++ d.bytes := ⟨_, rfl⟩
  rw [← hB1] at hp1
  have hl1 : B1.length ≤ 101000000 := by rw [hB1, List.length_append]; omega
  have HP1 := Lib.hid hp1
  have HB1 := Lib.hid hB1
  clear hp1 hB1 HP0 HRB
  go_wp2
  go_loopw [6] (RTRel base w1 Fp g B1 R d.texts) (fun i _ => d.texts.length - (intOf i).toNat)
  case atStart => exact ⟨0, Nat.zero_le _, rfl, by simpa [textsW] using HP1.out⟩
  case round =>
    obtain ⟨k0, hk0, rfl, hp⟩ := hrel
    obtain ⟨hbx, hdt⟩ := HBOX.out _ _ _ hp
    have p4 : wr.cell? ⟨w.heap.size, 4, none⟩ = some (.slice x.At d.texts.length x.ct) := hbx.cell 4
    have HP := Lib.hid hp
    have HDT := Lib.hid hdt
    have HBX := Lib.hid hbx
    clear hp hbx hdt HP1
    by_cases hlt : k0 < d.texts.length
    · obtain ⟨b, off, hA, _, hc⟩ := HDT.out.t.name_at hlt
      rw [hA] at p4
      have hlk := HT.out d.texts[k0] (List.getElem_mem hlt)
      have hlen : (B1 ++ textsW (d.texts.take k0)).length + 3000 ≤ 140737488354000 := by
        have := length_textsW 255 (d.texts.take k0) fun t ht => HT.out t (List.mem_of_mem_take ht)
        rw [List.length_append]
        rw [List.length_take] at this
        have h3 : (255 + 7) * min k0 d.texts.length ≤ (255 + 7) * 64 := Nat.mul_le_mul_left _ (by omega)
        omega
      have HLEN := Lib.hid hlen
      have HTS := Lib.hid (show textsW (d.texts.take (k0 + 1)) = textsW (d.texts.take k0) ++ (putL [] (d.texts[k0].length : Int) 1 ++ d.texts[k0]) by rw [List.take_succ_eq_append_getElem hlt, textsW_snoc])
      have HCA := Lib.hid (fun W (h : DataAt W base x d) => (show W.cell? ⟨b, off + k0, none⟩ = some (.string ⟨(d.texts[k0]).toArray⟩) from Row.cell_at (by have := h.t; rw [hA] at this; exact this) hlt))
      have HAA := Lib.hid hA
      obtain ⟨t, htt⟩ : ∃ t, t = d.texts[k0] := ⟨_, rfl⟩
      rw [← htt] at hc hlk HTS HCA
      clear hlen htt hA
      go_wp2_with fail
      refine (rnumP HP.out (t.length : Int) 1 (by have := HLEN.out; omega) (by omega)).mono ?_
      rintro e W2 ⟨rfl, hp2⟩
      obtain ⟨hbx2, hdt2⟩ := HBOX.out _ _ _ hp2
      have p4' : W2.cell? ⟨w.heap.size, 4, none⟩ = some (.slice (some ⟨b, off, none⟩) d.texts.length x.ct) := by rw [← HAA.out]; exact hbx2.cell 4
      have hc' := HCA.out _ hdt2
      have HP2 := Lib.hid hp2
      clear hp2 hbx2 hdt2 p4 hc
      go_wp2_with (refine wpList_bytes rfl (.tmp 33) 9 22 5 rfl Try.underlying9 Try.underlying22 Try.underlying5 t rfl ?_; intro C4 W3 hC4 hM4 hB4 hs4)
      have hr := hM4.row.take t.length
      rw [List.take_left' (by rw [List.length_map])] at hr
      have HR3 := Lib.hid (hr.mono (show _ ≤ W3.heap.size by first | omega | exact Nat.le_refl _ | (simp; omega)))
      have HP3 := Lib.hid (HP2.out.more hB4)
      have hp7 := length_putL (t.length : Int) 1
      clear hr hM4 hB4 hs4 HP2 p4' hc'
      refine (rrawP HP3.out _ t.length C4 t rfl HR3.out (by have := HLEN.out; rw [List.length_append]; omega)).mono ?_
      rintro e W4 ⟨rfl, hp4⟩
      have HP4 := Lib.hid hp4
      clear hp4
      go_wp2
      refine ⟨⟨k0 + 1, hlt, by go_num, ?_⟩, by simp [intOf]; omega⟩
      rw [HTS.out, ← List.append_assoc, ← List.append_assoc]
      exact HP4.out
    · obtain rfl : k0 = d.texts.length := by omega
      have hpe := HP.out
      rw [List.take_length] at hpe
      obtain ⟨B2, hB2⟩ : ∃ B2, B2 = B1 ++ textsW d.texts := ⟨_, rfl⟩
      rw [← hB2] at hpe
      have hl2 : B2.length ≤ 102000000 := by
        have := length_textsW 255 d.texts HT.out
        have h3 : (255 + 7) * d.texts.length ≤ (255 + 7) * 64 := Nat.mul_le_mul_left _ htl
        rw [hB2, List.length_append]
        omega
      have HPE := Lib.hid hpe
      have HB2 := Lib.hid hB2
      clear hpe hB2 HP HDT HBX
      go_wp2
      go_end0
      have hz := HPE.out
      rw [HB2.out, HB1.out] at hz
      exact ⟨rfl, HFIN.out _ _ _ hz⟩

set_option maxRecDepth 20000 in
set_option maxHeartbeats 2000000 in
theorem rput_other (base : Nat) (w : World) (Fp : Nat → Prop) (g : Nat) (vB vR : Value) (B : List UInt8) (R : Rs) (k : Int) (hk : (k == 1) = false ∧ (k == 28) = false ∧ (k == 2) = false ∧ (k == 5) = false ∧ (k == 12) = false ∧ (k == 15) = false ∧ (k == 6) = false ∧ (k == 16) = false ∧ (k == 33) = false) (x : DV) (d : Dt) (h : RWr w base Fp g vB vR B R) (hx : DataAt w base x d) (hs : soundD k d = true) (hN : ∀ n ∈ d.nums, n ≤ 9223372036854775807)
    (hB : B.length ≤ 100000000) (_ : R.length ≤ 800000) (hR16 : ∀ r ∈ R, r.2 < 16384 ∧ r.1.length ≤ 1000) :
    Calls Try.prog 18 #[.pointer (some ⟨g, 0, none⟩), .int .i64 k, x.val d] w (fun e w' => e = .returned (.tuple #[]) ∧ RPenned base w Fp g (putD (shN k) d B R).1 (putD (shN k) d B R).2 w') := by
  have sp := soundP hs
  have hE := putD_none (s := shN k) B R sp (by rw [shN_other hk]) (by rw [shN_other hk]) (by rw [shN_other hk]) (by rw [shN_other hk]) (by rw [shN_other hk]; intro h; cases h)
  obtain ⟨k01, k28, k02, k05, k12, k15, k06, k16, k33⟩ := id hk
  rw [hE]
  have hbm : d.bytes.length ≤ 65535 := Nat.le_trans sp.b (by rw [shN_other hk] <;> first | decide | exact Nat.le_refl _)
  have htl := sp.t
  have hnl : d.nums.length ≤ 10 := by have := sp.n; have h1 : (shN k).ahead + (shN k).behind ≤ 10 := (by rw [shN_other hk] <;> decide); omega
  have HT := Lib.hid sp.tl
  have HN := Lib.hid hN
  have HR := Lib.hid hR16
  have HFIN := Lib.hid (fun B' R' W (hp : RPenned base (w.alloc (.cells #[x.vb d, x.vh d, x.vm d, x.vn d, x.vt d] 26)) Fp g B' R' W) => hp.from)
  have HBOX := Lib.hid (fun B' R' W (hp : RPenned base (w.alloc (.cells #[x.vb d, x.vh d, x.vm d, x.vn d, x.vt d] 26)) Fp g B' R' W) => box_stays hx h.low h.size hp)
  have hp0 : RPenned base (w.alloc (.cells #[x.vb d, x.vh d, x.vm d, x.vn d, x.vt d] 26)) Fp g B R (w.alloc (.cells #[x.vb d, x.vh d, x.vm d, x.vn d, x.vt d] 26)) :=
    ⟨Fp, vB, vR, h.below ((Below.refl _ _).alloc (Nat.le_refl _) _), Grew.refl _ _, fun _ hj => .inl hj⟩
  have hrb := (HBOX.out _ _ _ hp0).2.b
  have hch := hx.lh
  have hcm := hx.lm
  have HP0 := Lib.hid hp0
  have HRB := Lib.hid (hrb.mono (show base ≤ (w.alloc (.cells #[x.vb d, x.vh d, x.vm d, x.vn d, x.vt d] 26)).heap.size by have := h.size; simp; omega))
  clear sp hE h hx hs hN hR16 hp0 hrb
  go_enter Try.func18, Try.ntmps18
  go_wp2_with fail
  refine (rrawP HP0.out x.Ab d.bytes.length x.cb d.bytes rfl HRB.out (by omega)).mono ?_
  rintro e W1 ⟨rfl, hp1⟩
  generalize w.alloc (.cells #[x.vb d, x.vh d, x.vm d, x.vn d, x.vt d] 26) = w1 at *
  obtain ⟨B1, hB1⟩ : ∃ B1, B1 = B ++ d.bytes := ⟨_, rfl⟩
  rw [← hB1] at hp1
  have hl1 : B1.length ≤ 101000000 := by rw [hB1, List.length_append]; omega
  have HP1 := Lib.hid hp1
  have HB1 := Lib.hid hB1
  clear hp1 hB1 HP0 HRB
  go_wp2
  go_loopw [6] (RTRel base w1 Fp g B1 R d.texts) (fun i _ => d.texts.length - (intOf i).toNat)
  case atStart => exact ⟨0, Nat.zero_le _, rfl, by simpa [textsW] using HP1.out⟩
  case round =>
    obtain ⟨k0, hk0, rfl, hp⟩ := hrel
    obtain ⟨hbx, hdt⟩ := HBOX.out _ _ _ hp
    have p4 : wr.cell? ⟨w.heap.size, 4, none⟩ = some (.slice x.At d.texts.length x.ct) := hbx.cell 4
    have HP := Lib.hid hp
    have HDT := Lib.hid hdt
    have HBX := Lib.hid hbx
    clear hp hbx hdt HP1
    by_cases hlt : k0 < d.texts.length
    · obtain ⟨b, off, hA, _, hc⟩ := HDT.out.t.name_at hlt
      rw [hA] at p4
      have hlk := HT.out d.texts[k0] (List.getElem_mem hlt)
      have hlen : (B1 ++ textsW (d.texts.take k0)).length + 3000 ≤ 140737488354000 := by
        have := length_textsW 255 (d.texts.take k0) fun t ht => HT.out t (List.mem_of_mem_take ht)
        rw [List.length_append]
        rw [List.length_take] at this
        have h3 : (255 + 7) * min k0 d.texts.length ≤ (255 + 7) * 64 := Nat.mul_le_mul_left _ (by omega)
        omega
      have HLEN := Lib.hid hlen
      have HTS := Lib.hid (show textsW (d.texts.take (k0 + 1)) = textsW (d.texts.take k0) ++ (putL [] (d.texts[k0].length : Int) 1 ++ d.texts[k0]) by rw [List.take_succ_eq_append_getElem hlt, textsW_snoc])
      have HCA := Lib.hid (fun W (h : DataAt W base x d) => (show W.cell? ⟨b, off + k0, none⟩ = some (.string ⟨(d.texts[k0]).toArray⟩) from Row.cell_at (by have := h.t; rw [hA] at this; exact this) hlt))
      have HAA := Lib.hid hA
      obtain ⟨t, htt⟩ : ∃ t, t = d.texts[k0] := ⟨_, rfl⟩
      rw [← htt] at hc hlk HTS HCA
      clear hlen htt hA
      go_wp2_with fail
      refine (rnumP HP.out (t.length : Int) 1 (by have := HLEN.out; omega) (by omega)).mono ?_
      rintro e W2 ⟨rfl, hp2⟩
      obtain ⟨hbx2, hdt2⟩ := HBOX.out _ _ _ hp2
      have p4' : W2.cell? ⟨w.heap.size, 4, none⟩ = some (.slice (some ⟨b, off, none⟩) d.texts.length x.ct) := by rw [← HAA.out]; exact hbx2.cell 4
      have hc' := HCA.out _ hdt2
      have HP2 := Lib.hid hp2
      clear hp2 hbx2 hdt2 p4 hc
      go_wp2_with (refine wpList_bytes rfl (.tmp 33) 9 22 5 rfl Try.underlying9 Try.underlying22 Try.underlying5 t rfl ?_; intro C4 W3 hC4 hM4 hB4 hs4)
      have hr := hM4.row.take t.length
      rw [List.take_left' (by rw [List.length_map])] at hr
      have HR3 := Lib.hid (hr.mono (show _ ≤ W3.heap.size by first | omega | exact Nat.le_refl _ | (simp; omega)))
      have HP3 := Lib.hid (HP2.out.more hB4)
      have hp7 := length_putL (t.length : Int) 1
      clear hr hM4 hB4 hs4 HP2 p4' hc'
      refine (rrawP HP3.out _ t.length C4 t rfl HR3.out (by have := HLEN.out; rw [List.length_append]; omega)).mono ?_
      rintro e W4 ⟨rfl, hp4⟩
      have HP4 := Lib.hid hp4
      clear hp4
      go_wp2
      refine ⟨⟨k0 + 1, hlt, by go_num, ?_⟩, by simp [intOf]; omega⟩
      rw [HTS.out, ← List.append_assoc, ← List.append_assoc]
      exact HP4.out
    · obtain rfl : k0 = d.texts.length := by omega
      have hpe := HP.out
      rw [List.take_length] at hpe
      obtain ⟨B2, hB2⟩ : ∃ B2, B2 = B1 ++ textsW d.texts := ⟨_, rfl⟩
      rw [← hB2] at hpe
      have hl2 : B2.length ≤ 102000000 := by
        have := length_textsW 255 d.texts HT.out
        have h3 : (255 + 7) * d.texts.length ≤ (255 + 7) * 64 := Nat.mul_le_mul_left _ htl
        rw [hB2, List.length_append]
        omega
      have HPE := Lib.hid hpe
      have HB2 := Lib.hid hB2
      clear hpe hB2 HP HDT HBX
      go_wp2
      go_end0
      have hz := HPE.out
      rw [HB2.out, HB1.out] at hz
      exact ⟨rfl, HFIN.out _ _ _ hz⟩

set_option maxRecDepth 20000 in
set_option maxHeartbeats 2000000 in
theorem rput_2 (base : Nat) (w : World) (Fp : Nat → Prop) (g : Nat) (vB vR : Value) (B : List UInt8) (R : Rs) (x : DV) (d : Dt) (h : RWr w base Fp g vB vR B R) (hx : DataAt w base x d) (hs : soundD 2 d = true) (hN : ∀ n ∈ d.nums, n ≤ 9223372036854775807)
    (hB : B.length ≤ 100000000) (hR : R.length ≤ 800000) (hR16 : ∀ r ∈ R, r.2 < 16384 ∧ r.1.length ≤ 1000) :
    Calls Try.prog 18 #[.pointer (some ⟨g, 0, none⟩), .int .i64 2, x.val d] w (fun e w' => e = .returned (.tuple #[]) ∧ RPenned base w Fp g (putD (shN 2) d B R).1 (putD (shN 2) d B R).2 w') := by
  have sp := soundP hs
  have hE := putD_host (s := shN 2) B R sp rfl rfl rfl rfl rfl
  rw [show d.nums = [] from List.eq_nil_of_length_eq_zero (by have := sp.n; exact this), show numsW 2 [] = [] from rfl, List.append_nil, show (shN 2).short = true from rfl] at hE
  rw [hE]
  have hbm : d.bytes.length ≤ 65535 := Nat.le_trans sp.b (by skip <;> first | decide | exact Nat.le_refl _)
  have htl := sp.t
  have hnl : d.nums.length ≤ 10 := by have := sp.n; have h1 : (shN 2).ahead + (shN 2).behind ≤ 10 := (by skip <;> decide); omega
  have HT := Lib.hid sp.tl
  have HN := Lib.hid hN
  have HR := Lib.hid hR16
  have HFIN := Lib.hid (fun B' R' W (hp : RPenned base (w.alloc (.cells #[x.vb d, x.vh d, x.vm d, x.vn d, x.vt d] 26)) Fp g B' R' W) => hp.from)
  have HBOX := Lib.hid (fun B' R' W (hp : RPenned base (w.alloc (.cells #[x.vb d, x.vh d, x.vm d, x.vn d, x.vt d] 26)) Fp g B' R' W) => box_stays hx h.low h.size hp)
  have hp0 : RPenned base (w.alloc (.cells #[x.vb d, x.vh d, x.vm d, x.vn d, x.vt d] 26)) Fp g B R (w.alloc (.cells #[x.vb d, x.vh d, x.vm d, x.vn d, x.vt d] 26)) :=
    ⟨Fp, vB, vR, h.below ((Below.refl _ _).alloc (Nat.le_refl _) _), Grew.refl _ _, fun _ hj => .inl hj⟩
  have hrb := (HBOX.out _ _ _ hp0).2.b
  have hch := hx.lh
  have hcm := hx.lm
  have HP0 := Lib.hid hp0
  have HRB := Lib.hid (hrb.mono (show base ≤ (w.alloc (.cells #[x.vb d, x.vh d, x.vm d, x.vn d, x.vt d] 26)).heap.size by have := h.size; simp; omega))
  have HSH := Lib.hid (sp.h rfl)
  have hnh := soundN_parts (sp.h rfl)
  have hn1 := szN_ge _ hnh.1
  have hn2 := hnh.2
  have HF1 := Lib.hid hnh.1
  clear sp hE h hx hs hN hR16 hp0 hrb hnh
  go_enter Try.func18, Try.ntmps18
  go_wp2_with fail
  refine (rrawP HP0.out x.Ab d.bytes.length x.cb d.bytes rfl HRB.out (by omega)).mono ?_
  rintro e W1 ⟨rfl, hp1⟩
  generalize w.alloc (.cells #[x.vb d, x.vh d, x.vm d, x.vn d, x.vt d] 26) = w1 at *
  obtain ⟨B1, hB1⟩ : ∃ B1, B1 = B ++ d.bytes := ⟨_, rfl⟩
  rw [← hB1] at hp1
  have hl1 : B1.length ≤ 101000000 := by rw [hB1, List.length_append]; omega
  have HP1 := Lib.hid hp1
  have HB1 := Lib.hid hB1
  clear hp1 hB1 HP0 HRB
  go_wp2
  go_loopw [6] (RTRel base w1 Fp g B1 R d.texts) (fun i _ => d.texts.length - (intOf i).toNat)
  case atStart => exact ⟨0, Nat.zero_le _, rfl, by simpa [textsW] using HP1.out⟩
  case round =>
    obtain ⟨k0, hk0, rfl, hp⟩ := hrel
    obtain ⟨hbx, hdt⟩ := HBOX.out _ _ _ hp
    have p4 : wr.cell? ⟨w.heap.size, 4, none⟩ = some (.slice x.At d.texts.length x.ct) := hbx.cell 4
    have HP := Lib.hid hp
    have HDT := Lib.hid hdt
    have HBX := Lib.hid hbx
    clear hp hbx hdt HP1
    by_cases hlt : k0 < d.texts.length
    · obtain ⟨b, off, hA, _, hc⟩ := HDT.out.t.name_at hlt
      rw [hA] at p4
      have hlk := HT.out d.texts[k0] (List.getElem_mem hlt)
      have hlen : (B1 ++ textsW (d.texts.take k0)).length + 3000 ≤ 140737488354000 := by
        have := length_textsW 255 (d.texts.take k0) fun t ht => HT.out t (List.mem_of_mem_take ht)
        rw [List.length_append]
        rw [List.length_take] at this
        have h3 : (255 + 7) * min k0 d.texts.length ≤ (255 + 7) * 64 := Nat.mul_le_mul_left _ (by omega)
        omega
      have HLEN := Lib.hid hlen
      have HTS := Lib.hid (show textsW (d.texts.take (k0 + 1)) = textsW (d.texts.take k0) ++ (putL [] (d.texts[k0].length : Int) 1 ++ d.texts[k0]) by rw [List.take_succ_eq_append_getElem hlt, textsW_snoc])
      have HCA := Lib.hid (fun W (h : DataAt W base x d) => (show W.cell? ⟨b, off + k0, none⟩ = some (.string ⟨(d.texts[k0]).toArray⟩) from Row.cell_at (by have := h.t; rw [hA] at this; exact this) hlt))
      have HAA := Lib.hid hA
      obtain ⟨t, htt⟩ : ∃ t, t = d.texts[k0] := ⟨_, rfl⟩
      rw [← htt] at hc hlk HTS HCA
      clear hlen htt hA
      go_wp2_with fail
      refine (rnumP HP.out (t.length : Int) 1 (by have := HLEN.out; omega) (by omega)).mono ?_
      rintro e W2 ⟨rfl, hp2⟩
      obtain ⟨hbx2, hdt2⟩ := HBOX.out _ _ _ hp2
      have p4' : W2.cell? ⟨w.heap.size, 4, none⟩ = some (.slice (some ⟨b, off, none⟩) d.texts.length x.ct) := by rw [← HAA.out]; exact hbx2.cell 4
      have hc' := HCA.out _ hdt2
      have HP2 := Lib.hid hp2
      clear hp2 hbx2 hdt2 p4 hc
      go_wp2_with (refine wpList_bytes rfl (.tmp 33) 9 22 5 rfl Try.underlying9 Try.underlying22 Try.underlying5 t rfl ?_; intro C4 W3 hC4 hM4 hB4 hs4)
      have hr := hM4.row.take t.length
      rw [List.take_left' (by rw [List.length_map])] at hr
      have HR3 := Lib.hid (hr.mono (show _ ≤ W3.heap.size by first | omega | exact Nat.le_refl _ | (simp; omega)))
      have HP3 := Lib.hid (HP2.out.more hB4)
      have hp7 := length_putL (t.length : Int) 1
      clear hr hM4 hB4 hs4 HP2 p4' hc'
      refine (rrawP HP3.out _ t.length C4 t rfl HR3.out (by have := HLEN.out; rw [List.length_append]; omega)).mono ?_
      rintro e W4 ⟨rfl, hp4⟩
      have HP4 := Lib.hid hp4
      clear hp4
      go_wp2
      refine ⟨⟨k0 + 1, hlt, by go_num, ?_⟩, by simp [intOf]; omega⟩
      rw [HTS.out, ← List.append_assoc, ← List.append_assoc]
      exact HP4.out
    · obtain rfl : k0 = d.texts.length := by omega
      have hpe := HP.out
      rw [List.take_length] at hpe
      obtain ⟨B2, hB2⟩ : ∃ B2, B2 = B1 ++ textsW d.texts := ⟨_, rfl⟩
      rw [← hB2] at hpe
      have hl2 : B2.length ≤ 102000000 := by
        have := length_textsW 255 d.texts HT.out
        have h3 : (255 + 7) * d.texts.length ≤ (255 + 7) * 64 := Nat.mul_le_mul_left _ htl
        rw [hB2, List.length_append]
        omega
      have HPE := Lib.hid hpe
      have HB2 := Lib.hid hB2
      clear hpe hB2 HP HDT HBX

      obtain ⟨hbx1, hdt1⟩ := HBOX.out _ _ _ HPE.out
      have pn1 : wr.cell? ⟨w.heap.size, 1, none⟩ = some (.slice x.Ah d.host.length x.ch) := hbx1.cell 1
      have HD1 := Lib.hid hdt1
      clear hbx1 hdt1
      go_wp2_with fail
      refine (rnameP HPE.out x.Ah x.ch d.host true HD1.out.h hch HSH.out (by omega) (by omega) HR.out).mono ?_
      rintro e WN1 ⟨rfl, hpn1⟩
      have HZ := Lib.hid hpn1
      clear hpn1 pn1
      go_wp2
      go_end0
      have hz := HZ.out
      rw [HB2.out, HB1.out] at hz
      exact ⟨rfl, HFIN.out _ _ _ hz⟩

set_option maxRecDepth 20000 in
set_option maxHeartbeats 2000000 in
theorem rput_5 (base : Nat) (w : World) (Fp : Nat → Prop) (g : Nat) (vB vR : Value) (B : List UInt8) (R : Rs) (x : DV) (d : Dt) (h : RWr w base Fp g vB vR B R) (hx : DataAt w base x d) (hs : soundD 5 d = true) (hN : ∀ n ∈ d.nums, n ≤ 9223372036854775807)
    (hB : B.length ≤ 100000000) (hR : R.length ≤ 800000) (hR16 : ∀ r ∈ R, r.2 < 16384 ∧ r.1.length ≤ 1000) :
    Calls Try.prog 18 #[.pointer (some ⟨g, 0, none⟩), .int .i64 5, x.val d] w (fun e w' => e = .returned (.tuple #[]) ∧ RPenned base w Fp g (putD (shN 5) d B R).1 (putD (shN 5) d B R).2 w') := by
  have sp := soundP hs
  have hE := putD_host (s := shN 5) B R sp rfl rfl rfl rfl rfl
  rw [show d.nums = [] from List.eq_nil_of_length_eq_zero (by have := sp.n; exact this), show numsW 2 [] = [] from rfl, List.append_nil, show (shN 5).short = true from rfl] at hE
  rw [hE]
  have hbm : d.bytes.length ≤ 65535 := Nat.le_trans sp.b (by skip <;> first | decide | exact Nat.le_refl _)
  have htl := sp.t
  have hnl : d.nums.length ≤ 10 := by have := sp.n; have h1 : (shN 5).ahead + (shN 5).behind ≤ 10 := (by skip <;> decide); omega
  have HT := Lib.hid sp.tl
  have HN := Lib.hid hN
  have HR := Lib.hid hR16
  have HFIN := Lib.hid (fun B' R' W (hp : RPenned base (w.alloc (.cells #[x.vb d, x.vh d, x.vm d, x.vn d, x.vt d] 26)) Fp g B' R' W) => hp.from)
  have HBOX := Lib.hid (fun B' R' W (hp : RPenned base (w.alloc (.cells #[x.vb d, x.vh d, x.vm d, x.vn d, x.vt d] 26)) Fp g B' R' W) => box_stays hx h.low h.size hp)
  have hp0 : RPenned base (w.alloc (.cells #[x.vb d, x.vh d, x.vm d, x.vn d, x.vt d] 26)) Fp g B R (w.alloc (.cells #[x.vb d, x.vh d, x.vm d, x.vn d, x.vt d] 26)) :=
    ⟨Fp, vB, vR, h.below ((Below.refl _ _).alloc (Nat.le_refl _) _), Grew.refl _ _, fun _ hj => .inl hj⟩
  have hrb := (HBOX.out _ _ _ hp0).2.b
  have hch := hx.lh
  have hcm := hx.lm
  have HP0 := Lib.hid hp0
  have HRB := Lib.hid (hrb.mono (show base ≤ (w.alloc (.cells #[x.vb d, x.vh d, x.vm d, x.vn d, x.vt d] 26)).heap.size by have := h.size; simp; omega))
  have HSH := Lib.hid (sp.h rfl)
  have hnh := soundN_parts (sp.h rfl)
  have hn1 := szN_ge _ hnh.1
  have hn2 := hnh.2
  have HF1 := Lib.hid hnh.1
  clear sp hE h hx hs hN hR16 hp0 hrb hnh
  go_enter Try.func18, Try.ntmps18
  go_wp2_with fail
  refine (rrawP HP0.out x.Ab d.bytes.length x.cb d.bytes rfl HRB.out (by omega)).mono ?_
  rintro e W1 ⟨rfl, hp1⟩
  generalize w.alloc (.cells #[x.vb d, x.vh d, x.vm d, x.vn d, x.vt d] 26) = w1 at *
  obtain ⟨B1, hB1⟩ : ∃ B1, B1 = B ++ d.bytes := ⟨_, rfl⟩
  rw [← hB1] at hp1
  have hl1 : B1.length ≤ 101000000 := by rw [hB1, List.length_append]; omega
  have HP1 := Lib.hid hp1
  have HB1 := Lib.hid hB1
  clear hp1 hB1 HP0 HRB
  go_wp2
  go_loopw [6] (RTRel base w1 Fp g B1 R d.texts) (fun i _ => d.texts.length - (intOf i).toNat)
  case atStart => exact ⟨0, Nat.zero_le _, rfl, by simpa [textsW] using HP1.out⟩
  case round =>
    obtain ⟨k0, hk0, rfl, hp⟩ := hrel
    obtain ⟨hbx, hdt⟩ := HBOX.out _ _ _ hp
    have p4 : wr.cell? ⟨w.heap.size, 4, none⟩ = some (.slice x.At d.texts.length x.ct) := hbx.cell 4
    have HP := Lib.hid hp
    have HDT := Lib.hid hdt
    have HBX := Lib.hid hbx
    clear hp hbx hdt HP1
    by_cases hlt : k0 < d.texts.length
    · obtain ⟨b, off, hA, _, hc⟩ := HDT.out.t.name_at hlt
      rw [hA] at p4
      have hlk := HT.out d.texts[k0] (List.getElem_mem hlt)
      have hlen : (B1 ++ textsW (d.texts.take k0)).length + 3000 ≤ 140737488354000 := by
        have := length_textsW 255 (d.texts.take k0) fun t ht => HT.out t (List.mem_of_mem_take ht)
        rw [List.length_append]
        rw [List.length_take] at this
        have h3 : (255 + 7) * min k0 d.texts.length ≤ (255 + 7) * 64 := Nat.mul_le_mul_left _ (by omega)
        omega
      have HLEN := Lib.hid hlen
      have HTS := Lib.hid (show textsW (d.texts.take (k0 + 1)) = textsW (d.texts.take k0) ++ (putL [] (d.texts[k0].length : Int) 1 ++ d.texts[k0]) by rw [List.take_succ_eq_append_getElem hlt, textsW_snoc])
      have HCA := Lib.hid (fun W (h : DataAt W base x d) => (show W.cell? ⟨b, off + k0, none⟩ = some (.string ⟨(d.texts[k0]).toArray⟩) from Row.cell_at (by have := h.t; rw [hA] at this; exact this) hlt))
      have HAA := Lib.hid hA
      obtain ⟨t, htt⟩ : ∃ t, t = d.texts[k0] := ⟨_, rfl⟩
      rw [← htt] at hc hlk HTS HCA
      clear hlen htt hA
      go_wp2_with fail
      refine (rnumP HP.out (t.length : Int) 1 (by have := HLEN.out; omega) (by omega)).mono ?_
      rintro e W2 ⟨rfl, hp2⟩
      obtain ⟨hbx2, hdt2⟩ := HBOX.out _ _ _ hp2
      have p4' : W2.cell? ⟨w.heap.size, 4, none⟩ = some (.slice (some ⟨b, off, none⟩) d.texts.length x.ct) := by rw [← HAA.out]; exact hbx2.cell 4
      have hc' := HCA.out _ hdt2
      have HP2 := Lib.hid hp2
      clear hp2 hbx2 hdt2 p4 hc
      go_wp2_with (refine wpList_bytes rfl (.tmp 33) 9 22 5 rfl Try.underlying9 Try.underlying22 Try.underlying5 t rfl ?_; intro C4 W3 hC4 hM4 hB4 hs4)
      have hr := hM4.row.take t.length
      rw [List.take_left' (by rw [List.length_map])] at hr
      have HR3 := Lib.hid (hr.mono (show _ ≤ W3.heap.size by first | omega | exact Nat.le_refl _ | (simp; omega)))
      have HP3 := Lib.hid (HP2.out.more hB4)
      have hp7 := length_putL (t.length : Int) 1
      clear hr hM4 hB4 hs4 HP2 p4' hc'
      refine (rrawP HP3.out _ t.length C4 t rfl HR3.out (by have := HLEN.out; rw [List.length_append]; omega)).mono ?_
      rintro e W4 ⟨rfl, hp4⟩
      have HP4 := Lib.hid hp4
      clear hp4
      go_wp2
      refine ⟨⟨k0 + 1, hlt, by go_num, ?_⟩, by simp [intOf]; omega⟩
      rw [HTS.out, ← List.append_assoc, ← List.append_assoc]
      exact HP4.out
    · obtain rfl : k0 = d.texts.length := by omega
      have hpe := HP.out
      rw [List.take_length] at hpe
      obtain ⟨B2, hB2⟩ : ∃ B2, B2 = B1 ++ textsW d.texts := ⟨_, rfl⟩
      rw [← hB2] at hpe
      have hl2 : B2.length ≤ 102000000 := by
        have := length_textsW 255 d.texts HT.out
        have h3 : (255 + 7) * d.texts.length ≤ (255 + 7) * 64 := Nat.mul_le_mul_left _ htl
        rw [hB2, List.length_append]
        omega
      have HPE := Lib.hid hpe
      have HB2 := Lib.hid hB2
      clear hpe hB2 HP HDT HBX

      obtain ⟨hbx1, hdt1⟩ := HBOX.out _ _ _ HPE.out
      have pn1 : wr.cell? ⟨w.heap.size, 1, none⟩ = some (.slice x.Ah d.host.length x.ch) := hbx1.cell 1
      have HD1 := Lib.hid hdt1
      clear hbx1 hdt1
      go_wp2_with fail
      refine (rnameP HPE.out x.Ah x.ch d.host true HD1.out.h hch HSH.out (by omega) (by omega) HR.out).mono ?_
      rintro e WN1 ⟨rfl, hpn1⟩
      have HZ := Lib.hid hpn1
      clear hpn1 pn1
      go_wp2
      go_end0
      have hz := HZ.out
      rw [HB2.out, HB1.out] at hz
      exact ⟨rfl, HFIN.out _ _ _ hz⟩

set_option maxRecDepth 20000 in
set_option maxHeartbeats 2000000 in
theorem rput_12 (base : Nat) (w : World) (Fp : Nat → Prop) (g : Nat) (vB vR : Value) (B : List UInt8) (R : Rs) (x : DV) (d : Dt) (h : RWr w base Fp g vB vR B R) (hx : DataAt w base x d) (hs : soundD 12 d = true) (hN : ∀ n ∈ d.nums, n ≤ 9223372036854775807)
    (hB : B.length ≤ 100000000) (hR : R.length ≤ 800000) (hR16 : ∀ r ∈ R, r.2 < 16384 ∧ r.1.length ≤ 1000) :
    Calls Try.prog 18 #[.pointer (some ⟨g, 0, none⟩), .int .i64 12, x.val d] w (fun e w' => e = .returned (.tuple #[]) ∧ RPenned base w Fp g (putD (shN 12) d B R).1 (putD (shN 12) d B R).2 w') := by
  have sp := soundP hs
  have hE := putD_host (s := shN 12) B R sp rfl rfl rfl rfl rfl
  rw [show d.nums = [] from List.eq_nil_of_length_eq_zero (by have := sp.n; exact this), show numsW 2 [] = [] from rfl, List.append_nil, show (shN 12).short = true from rfl] at hE
  rw [hE]
  have hbm : d.bytes.length ≤ 65535 := Nat.le_trans sp.b (by skip <;> first | decide | exact Nat.le_refl _)
  have htl := sp.t
  have hnl : d.nums.length ≤ 10 := by have := sp.n; have h1 : (shN 12).ahead + (shN 12).behind ≤ 10 := (by skip <;> decide); omega
  have HT := Lib.hid sp.tl
  have HN := Lib.hid hN
  have HR := Lib.hid hR16
  have HFIN := Lib.hid (fun B' R' W (hp : RPenned base (w.alloc (.cells #[x.vb d, x.vh d, x.vm d, x.vn d, x.vt d] 26)) Fp g B' R' W) => hp.from)
  have HBOX := Lib.hid (fun B' R' W (hp : RPenned base (w.alloc (.cells #[x.vb d, x.vh d, x.vm d, x.vn d, x.vt d] 26)) Fp g B' R' W) => box_stays hx h.low h.size hp)
  have hp0 : RPenned base (w.alloc (.cells #[x.vb d, x.vh d, x.vm d, x.vn d, x.vt d] 26)) Fp g B R (w.alloc (.cells #[x.vb d, x.vh d, x.vm d, x.vn d, x.vt d] 26)) :=
    ⟨Fp, vB, vR, h.below ((Below.refl _ _).alloc (Nat.le_refl _) _), Grew.refl _ _, fun _ hj => .inl hj⟩
  have hrb := (HBOX.out _ _ _ hp0).2.b
  have hch := hx.lh
  have hcm := hx.lm
  have HP0 := Lib.hid hp0
  have HRB := Lib.hid (hrb.mono (show base ≤ (w.alloc (.cells #[x.vb d, x.vh d, x.vm d, x.vn d, x.vt d] 26)).heap.size by have := h.size; simp; omega))
  have HSH := Lib.hid (sp.h rfl)
  have hnh := soundN_parts (sp.h rfl)
  have hn1 := szN_ge _ hnh.1
  have hn2 := hnh.2
  have HF1 := Lib.hid hnh.1
  clear sp hE h hx hs hN hR16 hp0 hrb hnh
  go_enter Try.func18, Try.ntmps18
  go_wp2_with fail
  refine (rrawP HP0.out x.Ab d.bytes.length x.cb d.bytes rfl HRB.out (by omega)).mono ?_
  rintro e W1 ⟨rfl, hp1⟩
  generalize w.alloc (.cells #[x.vb d, x.vh d, x.vm d, x.vn d, x.vt d] 26) = w1 at *
  obtain ⟨B1, hB1⟩ : ∃ B1, B1 = B ++ d.bytes := ⟨_, rfl⟩
  rw [← hB1] at hp1
  have hl1 : B1.length ≤ 101000000 := by rw [hB1, List.length_append]; omega
  have HP1 := Lib.hid hp1
  have HB1 := Lib.hid hB1
  clear hp1 hB1 HP0 HRB
  go_wp2
  go_loopw [6] (RTRel base w1 Fp g B1 R d.texts) (fun i _ => d.texts.length - (intOf i).toNat)
  case atStart => exact ⟨0, Nat.zero_le _, rfl, by simpa [textsW] using HP1.out⟩
  case round =>
    obtain ⟨k0, hk0, rfl, hp⟩ := hrel
    obtain ⟨hbx, hdt⟩ := HBOX.out _ _ _ hp
    have p4 : wr.cell? ⟨w.heap.size, 4, none⟩ = some (.slice x.At d.texts.length x.ct) := hbx.cell 4
    have HP := Lib.hid hp
    have HDT := Lib.hid hdt
    have HBX := Lib.hid hbx
    clear hp hbx hdt HP1
    by_cases hlt : k0 < d.texts.length
    · obtain ⟨b, off, hA, _, hc⟩ := HDT.out.t.name_at hlt
      rw [hA] at p4
      have hlk := HT.out d.texts[k0] (List.getElem_mem hlt)
      have hlen : (B1 ++ textsW (d.texts.take k0)).length + 3000 ≤ 140737488354000 := by
        have := length_textsW 255 (d.texts.take k0) fun t ht => HT.out t (List.mem_of_mem_take ht)
        rw [List.length_append]
        rw [List.length_take] at this
        have h3 : (255 + 7) * min k0 d.texts.length ≤ (255 + 7) * 64 := Nat.mul_le_mul_left _ (by omega)
        omega
      have HLEN := Lib.hid hlen
      have HTS := Lib.hid (show textsW (d.texts.take (k0 + 1)) = textsW (d.texts.take k0) ++ (putL [] (d.texts[k0].length : Int) 1 ++ d.texts[k0]) by rw [List.take_succ_eq_append_getElem hlt, textsW_snoc])
      have HCA := Lib.hid (fun W (h : DataAt W base x d) => (show W.cell? ⟨b, off + k0, none⟩ = some (.string ⟨(d.texts[k0]).toArray⟩) from Row.cell_at (by have := h.t; rw [hA] at this; exact this) hlt))
      have HAA := Lib.hid hA
      obtain ⟨t, htt⟩ : ∃ t, t = d.texts[k0] := ⟨_, rfl⟩
      rw [← htt] at hc hlk HTS HCA
      clear hlen htt hA
      go_wp2_with fail
      refine (rnumP HP.out (t.length : Int) 1 (by have := HLEN.out; omega) (by omega)).mono ?_
      rintro e W2 ⟨rfl, hp2⟩
      obtain ⟨hbx2, hdt2⟩ := HBOX.out _ _ _ hp2
      have p4' : W2.cell? ⟨w.heap.size, 4, none⟩ = some (.slice (some ⟨b, off, none⟩) d.texts.length x.ct) := by rw [← HAA.out]; exact hbx2.cell 4
      have hc' := HCA.out _ hdt2
      have HP2 := Lib.hid hp2
      clear hp2 hbx2 hdt2 p4 hc
      go_wp2_with (refine wpList_bytes rfl (.tmp 33) 9 22 5 rfl Try.underlying9 Try.underlying22 Try.underlying5 t rfl ?_; intro C4 W3 hC4 hM4 hB4 hs4)
      have hr := hM4.row.take t.length
      rw [List.take_left' (by rw [List.length_map])] at hr
      have HR3 := Lib.hid (hr.mono (show _ ≤ W3.heap.size by first | omega | exact Nat.le_refl _ | (simp; omega)))
      have HP3 := Lib.hid (HP2.out.more hB4)
      have hp7 := length_putL (t.length : Int) 1
      clear hr hM4 hB4 hs4 HP2 p4' hc'
      refine (rrawP HP3.out _ t.length C4 t rfl HR3.out (by have := HLEN.out; rw [List.length_append]; omega)).mono ?_
      rintro e W4 ⟨rfl, hp4⟩
      have HP4 := Lib.hid hp4
      clear hp4
      go_wp2
      refine ⟨⟨k0 + 1, hlt, by go_num, ?_⟩, by simp [intOf]; omega⟩
      rw [HTS.out, ← List.append_assoc, ← List.append_assoc]
      exact HP4.out
    · obtain rfl : k0 = d.texts.length := by omega
      have hpe := HP.out
      rw [List.take_length] at hpe
      obtain ⟨B2, hB2⟩ : ∃ B2, B2 = B1 ++ textsW d.texts := ⟨_, rfl⟩
      rw [← hB2] at hpe
      have hl2 : B2.length ≤ 102000000 := by
        have := length_textsW 255 d.texts HT.out
        have h3 : (255 + 7) * d.texts.length ≤ (255 + 7) * 64 := Nat.mul_le_mul_left _ htl
        rw [hB2, List.length_append]
        omega
      have HPE := Lib.hid hpe
      have HB2 := Lib.hid hB2
      clear hpe hB2 HP HDT HBX

      obtain ⟨hbx1, hdt1⟩ := HBOX.out _ _ _ HPE.out
      have pn1 : wr.cell? ⟨w.heap.size, 1, none⟩ = some (.slice x.Ah d.host.length x.ch) := hbx1.cell 1
      have HD1 := Lib.hid hdt1
      clear hbx1 hdt1
      go_wp2_with fail
      refine (rnameP HPE.out x.Ah x.ch d.host true HD1.out.h hch HSH.out (by omega) (by omega) HR.out).mono ?_
      rintro e WN1 ⟨rfl, hpn1⟩
      have HZ := Lib.hid hpn1
      clear hpn1 pn1
      go_wp2
      go_end0
      have hz := HZ.out
      rw [HB2.out, HB1.out] at hz
      exact ⟨rfl, HFIN.out _ _ _ hz⟩

set_option maxRecDepth 20000 in
set_option maxHeartbeats 2000000 in
theorem rput_15 (base : Nat) (w : World) (Fp : Nat → Prop) (g : Nat) (vB vR : Value) (B : List UInt8) (R : Rs) (x : DV) (d : Dt) (h : RWr w base Fp g vB vR B R) (hx : DataAt w base x d) (hs : soundD 15 d = true) (hN : ∀ n ∈ d.nums, n ≤ 9223372036854775807)
    (hB : B.length ≤ 100000000) (hR : R.length ≤ 800000) (hR16 : ∀ r ∈ R, r.2 < 16384 ∧ r.1.length ≤ 1000) :
    Calls Try.prog 18 #[.pointer (some ⟨g, 0, none⟩), .int .i64 15, x.val d] w (fun e w' => e = .returned (.tuple #[]) ∧ RPenned base w Fp g (putD (shN 15) d B R).1 (putD (shN 15) d B R).2 w') := by
  have sp := soundP hs
  have hE := putD_host (s := shN 15) B R sp rfl rfl rfl rfl rfl
  rw [show (shN 15).short = true from rfl] at hE
  rw [hE]
  have hbm : d.bytes.length ≤ 65535 := Nat.le_trans sp.b (by skip <;> first | decide | exact Nat.le_refl _)
  have htl := sp.t
  have hnl : d.nums.length ≤ 10 := by have := sp.n; have h1 : (shN 15).ahead + (shN 15).behind ≤ 10 := (by skip <;> decide); omega
  have HT := Lib.hid sp.tl
  have HN := Lib.hid hN
  have HR := Lib.hid hR16
  have HFIN := Lib.hid (fun B' R' W (hp : RPenned base (w.alloc (.cells #[x.vb d, x.vh d, x.vm d, x.vn d, x.vt d] 26)) Fp g B' R' W) => hp.from)
  have HBOX := Lib.hid (fun B' R' W (hp : RPenned base (w.alloc (.cells #[x.vb d, x.vh d, x.vm d, x.vn d, x.vt d] 26)) Fp g B' R' W) => box_stays hx h.low h.size hp)
  have hp0 : RPenned base (w.alloc (.cells #[x.vb d, x.vh d, x.vm d, x.vn d, x.vt d] 26)) Fp g B R (w.alloc (.cells #[x.vb d, x.vh d, x.vm d, x.vn d, x.vt d] 26)) :=
    ⟨Fp, vB, vR, h.below ((Below.refl _ _).alloc (Nat.le_refl _) _), Grew.refl _ _, fun _ hj => .inl hj⟩
  have hrb := (HBOX.out _ _ _ hp0).2.b
  have hch := hx.lh
  have hcm := hx.lm
  have HP0 := Lib.hid hp0
  have HRB := Lib.hid (hrb.mono (show base ≤ (w.alloc (.cells #[x.vb d, x.vh d, x.vm d, x.vn d, x.vt d] 26)).heap.size by have := h.size; simp; omega))
  have HSH := Lib.hid (sp.h rfl)
  have hnh := soundN_parts (sp.h rfl)
  have hn1 := szN_ge _ hnh.1
  have hn2 := hnh.2
  have HF1 := Lib.hid hnh.1
  clear sp hE h hx hs hN hR16 hp0 hrb hnh
  go_enter Try.func18, Try.ntmps18
  go_wp2_with fail
  refine (rrawP HP0.out x.Ab d.bytes.length x.cb d.bytes rfl HRB.out (by omega)).mono ?_
  rintro e W1 ⟨rfl, hp1⟩
  generalize w.alloc (.cells #[x.vb d, x.vh d, x.vm d, x.vn d, x.vt d] 26) = w1 at *
  obtain ⟨B1, hB1⟩ : ∃ B1, B1 = B ++ d.bytes := ⟨_, rfl⟩
  rw [← hB1] at hp1
  have hl1 : B1.length ≤ 101000000 := by rw [hB1, List.length_append]; omega
  have HP1 := Lib.hid hp1
  have HB1 := Lib.hid hB1
  clear hp1 hB1 HP0 HRB
  go_wp2
  go_loopw [6] (RTRel base w1 Fp g B1 R d.texts) (fun i _ => d.texts.length - (intOf i).toNat)
  case atStart => exact ⟨0, Nat.zero_le _, rfl, by simpa [textsW] using HP1.out⟩
  case round =>
    obtain ⟨k0, hk0, rfl, hp⟩ := hrel
    obtain ⟨hbx, hdt⟩ := HBOX.out _ _ _ hp
    have p4 : wr.cell? ⟨w.heap.size, 4, none⟩ = some (.slice x.At d.texts.length x.ct) := hbx.cell 4
    have HP := Lib.hid hp
    have HDT := Lib.hid hdt
    have HBX := Lib.hid hbx
    clear hp hbx hdt HP1
    by_cases hlt : k0 < d.texts.length
    · obtain ⟨b, off, hA, _, hc⟩ := HDT.out.t.name_at hlt
      rw [hA] at p4
      have hlk := HT.out d.texts[k0] (List.getElem_mem hlt)
      have hlen : (B1 ++ textsW (d.texts.take k0)).length + 3000 ≤ 140737488354000 := by
        have := length_textsW 255 (d.texts.take k0) fun t ht => HT.out t (List.mem_of_mem_take ht)
        rw [List.length_append]
        rw [List.length_take] at this
        have h3 : (255 + 7) * min k0 d.texts.length ≤ (255 + 7) * 64 := Nat.mul_le_mul_left _ (by omega)
        omega
      have HLEN := Lib.hid hlen
      have HTS := Lib.hid (show textsW (d.texts.take (k0 + 1)) = textsW (d.texts.take k0) ++ (putL [] (d.texts[k0].length : Int) 1 ++ d.texts[k0]) by rw [List.take_succ_eq_append_getElem hlt, textsW_snoc])
      have HCA := Lib.hid (fun W (h : DataAt W base x d) => (show W.cell? ⟨b, off + k0, none⟩ = some (.string ⟨(d.texts[k0]).toArray⟩) from Row.cell_at (by have := h.t; rw [hA] at this; exact this) hlt))
      have HAA := Lib.hid hA
      obtain ⟨t, htt⟩ : ∃ t, t = d.texts[k0] := ⟨_, rfl⟩
      rw [← htt] at hc hlk HTS HCA
      clear hlen htt hA
      go_wp2_with fail
      refine (rnumP HP.out (t.length : Int) 1 (by have := HLEN.out; omega) (by omega)).mono ?_
      rintro e W2 ⟨rfl, hp2⟩
      obtain ⟨hbx2, hdt2⟩ := HBOX.out _ _ _ hp2
      have p4' : W2.cell? ⟨w.heap.size, 4, none⟩ = some (.slice (some ⟨b, off, none⟩) d.texts.length x.ct) := by rw [← HAA.out]; exact hbx2.cell 4
      have hc' := HCA.out _ hdt2
      have HP2 := Lib.hid hp2
      clear hp2 hbx2 hdt2 p4 hc
      go_wp2_with (refine wpList_bytes rfl (.tmp 33) 9 22 5 rfl Try.underlying9 Try.underlying22 Try.underlying5 t rfl ?_; intro C4 W3 hC4 hM4 hB4 hs4)
      have hr := hM4.row.take t.length
      rw [List.take_left' (by rw [List.length_map])] at hr
      have HR3 := Lib.hid (hr.mono (show _ ≤ W3.heap.size by first | omega | exact Nat.le_refl _ | (simp; omega)))
      have HP3 := Lib.hid (HP2.out.more hB4)
      have hp7 := length_putL (t.length : Int) 1
      clear hr hM4 hB4 hs4 HP2 p4' hc'
      refine (rrawP HP3.out _ t.length C4 t rfl HR3.out (by have := HLEN.out; rw [List.length_append]; omega)).mono ?_
      rintro e W4 ⟨rfl, hp4⟩
      have HP4 := Lib.hid hp4
      clear hp4
      go_wp2
      refine ⟨⟨k0 + 1, hlt, by go_num, ?_⟩, by simp [intOf]; omega⟩
      rw [HTS.out, ← List.append_assoc, ← List.append_assoc]
      exact HP4.out
    · obtain rfl : k0 = d.texts.length := by omega
      have hpe := HP.out
      rw [List.take_length] at hpe
      obtain ⟨B2, hB2⟩ : ∃ B2, B2 = B1 ++ textsW d.texts := ⟨_, rfl⟩
      rw [← hB2] at hpe
      have hl2 : B2.length ≤ 102000000 := by
        have := length_textsW 255 d.texts HT.out
        have h3 : (255 + 7) * d.texts.length ≤ (255 + 7) * 64 := Nat.mul_le_mul_left _ htl
        rw [hB2, List.length_append]
        omega
      have HPE := Lib.hid hpe
      have HB2 := Lib.hid hB2
      clear hpe hB2 HP HDT HBX
      go_wp2
      go_loopw [7] (RNRel base w1 Fp g B2 R 2 d.nums) (fun i _ => d.nums.length - (intOf i).toNat)
      case atStart => exact ⟨0, Nat.zero_le _, rfl, by simpa [numsW] using HPE.out⟩
      case round =>
        obtain ⟨k1, hk1, rfl, hp⟩ := hrel
        obtain ⟨hbx, hdt⟩ := HBOX.out _ _ _ hp
        have p3 : wr.cell? ⟨w.heap.size, 3, none⟩ = some (.slice x.An d.nums.length x.cn) := hbx.cell 3
        have HQ := Lib.hid hp
        have HDQ := Lib.hid hdt
        have HBQ := Lib.hid hbx
        clear hp hbx hdt HPE
        by_cases hlt : k1 < d.nums.length
        · obtain ⟨b, off, hA, _, hc⟩ := HDQ.out.n.int_at hlt
          rw [hA] at p3
          have hnn := HN.out d.nums[k1] (List.getElem_mem hlt)
          have hlen : (B2 ++ numsW 2 (d.nums.take k1)).length ≤ 140737488354000 := by
            have := length_numsW 2 (d.nums.take k1)
            rw [List.length_append]
            rw [List.length_take] at this
            omega
          have HTS := Lib.hid (show numsW 2 (d.nums.take (k1 + 1)) = numsW 2 (d.nums.take k1) ++ putL [] d.nums[k1] 2 by rw [List.take_succ_eq_append_getElem hlt, numsW_snoc])
          obtain ⟨nn, hnd⟩ : ∃ nn, nn = d.nums[k1] := ⟨_, rfl⟩
          rw [← hnd] at hc hnn HTS
          have HLEN := Lib.hid hlen
          clear hlen hnd hA
          go_wp2_with fail
          refine (rnumP HQ.out nn 2 HLEN.out hnn).mono ?_
          rintro e Wq ⟨rfl, hpq⟩
          have HPQ := Lib.hid hpq
          clear hpq
          go_wp2
          refine ⟨⟨k1 + 1, hlt, by go_num, ?_⟩, by simp [intOf]; omega⟩
          rw [HTS.out, ← List.append_assoc]
          exact HPQ.out
        · obtain rfl : k1 = d.nums.length := by omega
          have hpe := HQ.out
          rw [List.take_length] at hpe
          obtain ⟨B3, hB3⟩ : ∃ B3, B3 = B2 ++ numsW 2 d.nums := ⟨_, rfl⟩
          rw [← hB3] at hpe
          have hl3 : B3.length ≤ 103000000 := by
            have := length_numsW 2 d.nums
            rw [hB3, List.length_append]
            omega
          have HPF := Lib.hid hpe
          have HB3 := Lib.hid hB3
          clear hpe hB3 HQ HDQ HBQ
          obtain ⟨hbx1, hdt1⟩ := HBOX.out _ _ _ HPF.out
          have pn1 : wr.cell? ⟨w.heap.size, 1, none⟩ = some (.slice x.Ah d.host.length x.ch) := hbx1.cell 1
          have HD1 := Lib.hid hdt1
          clear hbx1 hdt1
          go_wp2_with fail
          refine (rnameP HPF.out x.Ah x.ch d.host true HD1.out.h hch HSH.out (by omega) (by omega) HR.out).mono ?_
          rintro e WN1 ⟨rfl, hpn1⟩
          have HZ := Lib.hid hpn1
          clear hpn1 pn1
          go_wp2
          go_end0
          have hz := HZ.out
          rw [HB3.out, HB2.out, HB1.out] at hz
          exact ⟨rfl, HFIN.out _ _ _ hz⟩

set_option maxRecDepth 20000 in
set_option maxHeartbeats 2000000 in
theorem rput_33 (base : Nat) (w : World) (Fp : Nat → Prop) (g : Nat) (vB vR : Value) (B : List UInt8) (R : Rs) (x : DV) (d : Dt) (h : RWr w base Fp g vB vR B R) (hx : DataAt w base x d) (hs : soundD 33 d = true) (hN : ∀ n ∈ d.nums, n ≤ 9223372036854775807)
    (hB : B.length ≤ 100000000) (hR : R.length ≤ 800000) (hR16 : ∀ r ∈ R, r.2 < 16384 ∧ r.1.length ≤ 1000) :
    Calls Try.prog 18 #[.pointer (some ⟨g, 0, none⟩), .int .i64 33, x.val d] w (fun e w' => e = .returned (.tuple #[]) ∧ RPenned base w Fp g (putD (shN 33) d B R).1 (putD (shN 33) d B R).2 w') := by
  have sp := soundP hs
  have hE := putD_host (s := shN 33) B R sp rfl rfl rfl rfl rfl
  rw [show (shN 33).short = false from rfl] at hE
  rw [hE]
  have hbm : d.bytes.length ≤ 65535 := Nat.le_trans sp.b (by skip <;> first | decide | exact Nat.le_refl _)
  have htl := sp.t
  have hnl : d.nums.length ≤ 10 := by have := sp.n; have h1 : (shN 33).ahead + (shN 33).behind ≤ 10 := (by skip <;> decide); omega
  have HT := Lib.hid sp.tl
  have HN := Lib.hid hN
  have HR := Lib.hid hR16
  have HFIN := Lib.hid (fun B' R' W (hp : RPenned base (w.alloc (.cells #[x.vb d, x.vh d, x.vm d, x.vn d, x.vt d] 26)) Fp g B' R' W) => hp.from)
  have HBOX := Lib.hid (fun B' R' W (hp : RPenned base (w.alloc (.cells #[x.vb d, x.vh d, x.vm d, x.vn d, x.vt d] 26)) Fp g B' R' W) => box_stays hx h.low h.size hp)
  have hp0 : RPenned base (w.alloc (.cells #[x.vb d, x.vh d, x.vm d, x.vn d, x.vt d] 26)) Fp g B R (w.alloc (.cells #[x.vb d, x.vh d, x.vm d, x.vn d, x.vt d] 26)) :=
    ⟨Fp, vB, vR, h.below ((Below.refl _ _).alloc (Nat.le_refl _) _), Grew.refl _ _, fun _ hj => .inl hj⟩
  have hrb := (HBOX.out _ _ _ hp0).2.b
  have hch := hx.lh
  have hcm := hx.lm
  have HP0 := Lib.hid hp0
  have HRB := Lib.hid (hrb.mono (show base ≤ (w.alloc (.cells #[x.vb d, x.vh d, x.vm d, x.vn d, x.vt d] 26)).heap.size by have := h.size; simp; omega))
  have HSH := Lib.hid (sp.h rfl)
  have hnh := soundN_parts (sp.h rfl)
  have hn1 := szN_ge _ hnh.1
  have hn2 := hnh.2
  have HF1 := Lib.hid hnh.1
  clear sp hE h hx hs hN hR16 hp0 hrb hnh
  go_enter Try.func18, Try.ntmps18
  go_wp2_with fail
  refine (rrawP HP0.out x.Ab d.bytes.length x.cb d.bytes rfl HRB.out (by omega)).mono ?_
  rintro e W1 ⟨rfl, hp1⟩
  generalize w.alloc (.cells #[x.vb d, x.vh d, x.vm d, x.vn d, x.vt d] 26) = w1 at *
  obtain ⟨B1, hB1⟩ : ∃ B1, B1 = B ++ d.bytes := ⟨_, rfl⟩
  rw [← hB1] at hp1
  have hl1 : B1.length ≤ 101000000 := by rw [hB1, List.length_append]; omega
  have HP1 := Lib.hid hp1
  have HB1 := Lib.hid hB1
  clear hp1 hB1 HP0 HRB
  go_wp2
  go_loopw [6] (RTRel base w1 Fp g B1 R d.texts) (fun i _ => d.texts.length - (intOf i).toNat)
  case atStart => exact ⟨0, Nat.zero_le _, rfl, by simpa [textsW] using HP1.out⟩
  case round =>
    obtain ⟨k0, hk0, rfl, hp⟩ := hrel
    obtain ⟨hbx, hdt⟩ := HBOX.out _ _ _ hp
    have p4 : wr.cell? ⟨w.heap.size, 4, none⟩ = some (.slice x.At d.texts.length x.ct) := hbx.cell 4
    have HP := Lib.hid hp
    have HDT := Lib.hid hdt
    have HBX := Lib.hid hbx
    clear hp hbx hdt HP1
    by_cases hlt : k0 < d.texts.length
    · obtain ⟨b, off, hA, _, hc⟩ := HDT.out.t.name_at hlt
      rw [hA] at p4
      have hlk := HT.out d.texts[k0] (List.getElem_mem hlt)
      have hlen : (B1 ++ textsW (d.texts.take k0)).length + 3000 ≤ 140737488354000 := by
        have := length_textsW 255 (d.texts.take k0) fun t ht => HT.out t (List.mem_of_mem_take ht)
        rw [List.length_append]
        rw [List.length_take] at this
        have h3 : (255 + 7) * min k0 d.texts.length ≤ (255 + 7) * 64 := Nat.mul_le_mul_left _ (by omega)
        omega
      have HLEN := Lib.hid hlen
      have HTS := Lib.hid (show textsW (d.texts.take (k0 + 1)) = textsW (d.texts.take k0) ++ (putL [] (d.texts[k0].length : Int) 1 ++ d.texts[k0]) by rw [List.take_succ_eq_append_getElem hlt, textsW_snoc])
      have HCA := Lib.hid (fun W (h : DataAt W base x d) => (show W.cell? ⟨b, off + k0, none⟩ = some (.string ⟨(d.texts[k0]).toArray⟩) from Row.cell_at (by have := h.t; rw [hA] at this; exact this) hlt))
      have HAA := Lib.hid hA
      obtain ⟨t, htt⟩ : ∃ t, t = d.texts[k0] := ⟨_, rfl⟩
      rw [← htt] at hc hlk HTS HCA
      clear hlen htt hA
      go_wp2_with fail
      refine (rnumP HP.out (t.length : Int) 1 (by have := HLEN.out; omega) (by omega)).mono ?_
      rintro e W2 ⟨rfl, hp2⟩
      obtain ⟨hbx2, hdt2⟩ := HBOX.out _ _ _ hp2
      have p4' : W2.cell? ⟨w.heap.size, 4, none⟩ = some (.slice (some ⟨b, off, none⟩) d.texts.length x.ct) := by rw [← HAA.out]; exact hbx2.cell 4
      have hc' := HCA.out _ hdt2
      have HP2 := Lib.hid hp2
      clear hp2 hbx2 hdt2 p4 hc
      go_wp2_with (refine wpList_bytes rfl (.tmp 33) 9 22 5 rfl Try.underlying9 Try.underlying22 Try.underlying5 t rfl ?_; intro C4 W3 hC4 hM4 hB4 hs4)
      have hr := hM4.row.take t.length
      rw [List.take_left' (by rw [List.length_map])] at hr
      have HR3 := Lib.hid (hr.mono (show _ ≤ W3.heap.size by first | omega | exact Nat.le_refl _ | (simp; omega)))
      have HP3 := Lib.hid (HP2.out.more hB4)
      have hp7 := length_putL (t.length : Int) 1
      clear hr hM4 hB4 hs4 HP2 p4' hc'
      refine (rrawP HP3.out _ t.length C4 t rfl HR3.out (by have := HLEN.out; rw [List.length_append]; omega)).mono ?_
      rintro e W4 ⟨rfl, hp4⟩
      have HP4 := Lib.hid hp4
      clear hp4
      go_wp2
      refine ⟨⟨k0 + 1, hlt, by go_num, ?_⟩, by simp [intOf]; omega⟩
      rw [HTS.out, ← List.append_assoc, ← List.append_assoc]
      exact HP4.out
    · obtain rfl : k0 = d.texts.length := by omega
      have hpe := HP.out
      rw [List.take_length] at hpe
      obtain ⟨B2, hB2⟩ : ∃ B2, B2 = B1 ++ textsW d.texts := ⟨_, rfl⟩
      rw [← hB2] at hpe
      have hl2 : B2.length ≤ 102000000 := by
        have := length_textsW 255 d.texts HT.out
        have h3 : (255 + 7) * d.texts.length ≤ (255 + 7) * 64 := Nat.mul_le_mul_left _ htl
        rw [hB2, List.length_append]
        omega
      have HPE := Lib.hid hpe
      have HB2 := Lib.hid hB2
      clear hpe hB2 HP HDT HBX
      go_wp2
      go_loopw [7] (RNRel base w1 Fp g B2 R 2 d.nums) (fun i _ => d.nums.length - (intOf i).toNat)
      case atStart => exact ⟨0, Nat.zero_le _, rfl, by simpa [numsW] using HPE.out⟩
      case round =>
        obtain ⟨k1, hk1, rfl, hp⟩ := hrel
        obtain ⟨hbx, hdt⟩ := HBOX.out _ _ _ hp
        have p3 : wr.cell? ⟨w.heap.size, 3, none⟩ = some (.slice x.An d.nums.length x.cn) := hbx.cell 3
        have HQ := Lib.hid hp
        have HDQ := Lib.hid hdt
        have HBQ := Lib.hid hbx
        clear hp hbx hdt HPE
        by_cases hlt : k1 < d.nums.length
        · obtain ⟨b, off, hA, _, hc⟩ := HDQ.out.n.int_at hlt
          rw [hA] at p3
          have hnn := HN.out d.nums[k1] (List.getElem_mem hlt)
          have hlen : (B2 ++ numsW 2 (d.nums.take k1)).length ≤ 140737488354000 := by
            have := length_numsW 2 (d.nums.take k1)
            rw [List.length_append]
            rw [List.length_take] at this
            omega
          have HTS := Lib.hid (show numsW 2 (d.nums.take (k1 + 1)) = numsW 2 (d.nums.take k1) ++ putL [] d.nums[k1] 2 by rw [List.take_succ_eq_append_getElem hlt, numsW_snoc])
          obtain ⟨nn, hnd⟩ : ∃ nn, nn = d.nums[k1] := ⟨_, rfl⟩
          rw [← hnd] at hc hnn HTS
          have HLEN := Lib.hid hlen
          clear hlen hnd hA
          go_wp2_with fail
          refine (rnumP HQ.out nn 2 HLEN.out hnn).mono ?_
          rintro e Wq ⟨rfl, hpq⟩
          have HPQ := Lib.hid hpq
          clear hpq
          go_wp2
          refine ⟨⟨k1 + 1, hlt, by go_num, ?_⟩, by simp [intOf]; omega⟩
          rw [HTS.out, ← List.append_assoc]
          exact HPQ.out
        · obtain rfl : k1 = d.nums.length := by omega
          have hpe := HQ.out
          rw [List.take_length] at hpe
          obtain ⟨B3, hB3⟩ : ∃ B3, B3 = B2 ++ numsW 2 d.nums := ⟨_, rfl⟩
          rw [← hB3] at hpe
          have hl3 : B3.length ≤ 103000000 := by
            have := length_numsW 2 d.nums
            rw [hB3, List.length_append]
            omega
          have HPF := Lib.hid hpe
          have HB3 := Lib.hid hB3
          clear hpe hB3 HQ HDQ HBQ
          obtain ⟨hbx1, hdt1⟩ := HBOX.out _ _ _ HPF.out
          have pn1 : wr.cell? ⟨w.heap.size, 1, none⟩ = some (.slice x.Ah d.host.length x.ch) := hbx1.cell 1
          have HD1 := Lib.hid hdt1
          clear hbx1 hdt1
          go_wp2_with fail
          refine (rnameP HPF.out x.Ah x.ch d.host false HD1.out.h hch HSH.out (by omega) (by omega) HR.out).mono ?_
          rintro e WN1 ⟨rfl, hpn1⟩
          have HZ := Lib.hid hpn1
          clear hpn1 pn1
          go_wp2
          go_end0
          have hz := HZ.out
          rw [HB3.out, HB2.out, HB1.out] at hz
          exact ⟨rfl, HFIN.out _ _ _ hz⟩

set_option maxRecDepth 20000 in
set_option maxHeartbeats 2000000 in
theorem rput_6 (base : Nat) (w : World) (Fp : Nat → Prop) (g : Nat) (vB vR : Value) (B : List UInt8) (R : Rs) (x : DV) (d : Dt) (h : RWr w base Fp g vB vR B R) (hx : DataAt w base x d) (hs : soundD 6 d = true) (hN : ∀ n ∈ d.nums, n ≤ 9223372036854775807)
    (hB : B.length ≤ 100000000) (hR : R.length ≤ 800000) (hR16 : ∀ r ∈ R, r.2 < 16384 ∧ r.1.length ≤ 1000) :
    Calls Try.prog 18 #[.pointer (some ⟨g, 0, none⟩), .int .i64 6, x.val d] w (fun e w' => e = .returned (.tuple #[]) ∧ RPenned base w Fp g (putD (shN 6) d B R).1 (putD (shN 6) d B R).2 w') := by
  have sp := soundP hs
  have hE := putD_both (s := shN 6) B R sp rfl rfl rfl rfl rfl
  rw [show (shN 6).short = true from rfl] at hE
  rw [hE]
  have hbm : d.bytes.length ≤ 65535 := Nat.le_trans sp.b (by skip <;> first | decide | exact Nat.le_refl _)
  have htl := sp.t
  have hnl : d.nums.length ≤ 10 := by have := sp.n; have h1 : (shN 6).ahead + (shN 6).behind ≤ 10 := (by skip <;> decide); omega
  have HT := Lib.hid sp.tl
  have HN := Lib.hid hN
  have HR := Lib.hid hR16
  have HFIN := Lib.hid (fun B' R' W (hp : RPenned base (w.alloc (.cells #[x.vb d, x.vh d, x.vm d, x.vn d, x.vt d] 26)) Fp g B' R' W) => hp.from)
  have HBOX := Lib.hid (fun B' R' W (hp : RPenned base (w.alloc (.cells #[x.vb d, x.vh d, x.vm d, x.vn d, x.vt d] 26)) Fp g B' R' W) => box_stays hx h.low h.size hp)
  have hp0 : RPenned base (w.alloc (.cells #[x.vb d, x.vh d, x.vm d, x.vn d, x.vt d] 26)) Fp g B R (w.alloc (.cells #[x.vb d, x.vh d, x.vm d, x.vn d, x.vt d] 26)) :=
    ⟨Fp, vB, vR, h.below ((Below.refl _ _).alloc (Nat.le_refl _) _), Grew.refl _ _, fun _ hj => .inl hj⟩
  have hrb := (HBOX.out _ _ _ hp0).2.b
  have hch := hx.lh
  have hcm := hx.lm
  have HP0 := Lib.hid hp0
  have HRB := Lib.hid (hrb.mono (show base ≤ (w.alloc (.cells #[x.vb d, x.vh d, x.vm d, x.vn d, x.vt d] 26)).heap.size by have := h.size; simp; omega))
  have HSH := Lib.hid (sp.h rfl)
  have hnh := soundN_parts (sp.h rfl)
  have hn1 := szN_ge _ hnh.1
  have hn2 := hnh.2
  have HF1 := Lib.hid hnh.1
  have HSM := Lib.hid (sp.m rfl)
  have hnm := soundN_parts (sp.m rfl)
  have hm1 := szN_ge _ hnm.1
  have hm2 := hnm.2
  have HF2 := Lib.hid hnm.1
  clear sp hE h hx hs hN hR16 hp0 hrb hnh hnm
  go_enter Try.func18, Try.ntmps18
  go_wp2_with fail
  refine (rrawP HP0.out x.Ab d.bytes.length x.cb d.bytes rfl HRB.out (by omega)).mono ?_
  rintro e W1 ⟨rfl, hp1⟩
  generalize w.alloc (.cells #[x.vb d, x.vh d, x.vm d, x.vn d, x.vt d] 26) = w1 at *
  obtain ⟨B1, hB1⟩ : ∃ B1, B1 = B ++ d.bytes := ⟨_, rfl⟩
  rw [← hB1] at hp1
  have hl1 : B1.length ≤ 101000000 := by rw [hB1, List.length_append]; omega
  have HP1 := Lib.hid hp1
  have HB1 := Lib.hid hB1
  clear hp1 hB1 HP0 HRB
  go_wp2
  go_loopw [6] (RTRel base w1 Fp g B1 R d.texts) (fun i _ => d.texts.length - (intOf i).toNat)
  case atStart => exact ⟨0, Nat.zero_le _, rfl, by simpa [textsW] using HP1.out⟩
  case round =>
    obtain ⟨k0, hk0, rfl, hp⟩ := hrel
    obtain ⟨hbx, hdt⟩ := HBOX.out _ _ _ hp
    have p4 : wr.cell? ⟨w.heap.size, 4, none⟩ = some (.slice x.At d.texts.length x.ct) := hbx.cell 4
    have HP := Lib.hid hp
    have HDT := Lib.hid hdt
    have HBX := Lib.hid hbx
    clear hp hbx hdt HP1
    by_cases hlt : k0 < d.texts.length
    · obtain ⟨b, off, hA, _, hc⟩ := HDT.out.t.name_at hlt
      rw [hA] at p4
      have hlk := HT.out d.texts[k0] (List.getElem_mem hlt)
      have hlen : (B1 ++ textsW (d.texts.take k0)).length + 3000 ≤ 140737488354000 := by
        have := length_textsW 255 (d.texts.take k0) fun t ht => HT.out t (List.mem_of_mem_take ht)
        rw [List.length_append]
        rw [List.length_take] at this
        have h3 : (255 + 7) * min k0 d.texts.length ≤ (255 + 7) * 64 := Nat.mul_le_mul_left _ (by omega)
        omega
      have HLEN := Lib.hid hlen
      have HTS := Lib.hid (show textsW (d.texts.take (k0 + 1)) = textsW (d.texts.take k0) ++ (putL [] (d.texts[k0].length : Int) 1 ++ d.texts[k0]) by rw [List.take_succ_eq_append_getElem hlt, textsW_snoc])
      have HCA := Lib.hid (fun W (h : DataAt W base x d) => (show W.cell? ⟨b, off + k0, none⟩ = some (.string ⟨(d.texts[k0]).toArray⟩) from Row.cell_at (by have := h.t; rw [hA] at this; exact this) hlt))
      have HAA := Lib.hid hA
      obtain ⟨t, htt⟩ : ∃ t, t = d.texts[k0] := ⟨_, rfl⟩
      rw [← htt] at hc hlk HTS HCA
      clear hlen htt hA
      go_wp2_with fail
      refine (rnumP HP.out (t.length : Int) 1 (by have := HLEN.out; omega) (by omega)).mono ?_
      rintro e W2 ⟨rfl, hp2⟩
      obtain ⟨hbx2, hdt2⟩ := HBOX.out _ _ _ hp2
      have p4' : W2.cell? ⟨w.heap.size, 4, none⟩ = some (.slice (some ⟨b, off, none⟩) d.texts.length x.ct) := by rw [← HAA.out]; exact hbx2.cell 4
      have hc' := HCA.out _ hdt2
      have HP2 := Lib.hid hp2
      clear hp2 hbx2 hdt2 p4 hc
      go_wp2_with (refine wpList_bytes rfl (.tmp 33) 9 22 5 rfl Try.underlying9 Try.underlying22 Try.underlying5 t rfl ?_; intro C4 W3 hC4 hM4 hB4 hs4)
      have hr := hM4.row.take t.length
      rw [List.take_left' (by rw [List.length_map])] at hr
      have HR3 := Lib.hid (hr.mono (show _ ≤ W3.heap.size by first | omega | exact Nat.le_refl _ | (simp; omega)))
      have HP3 := Lib.hid (HP2.out.more hB4)
      have hp7 := length_putL (t.length : Int) 1
      clear hr hM4 hB4 hs4 HP2 p4' hc'
      refine (rrawP HP3.out _ t.length C4 t rfl HR3.out (by have := HLEN.out; rw [List.length_append]; omega)).mono ?_
      rintro e W4 ⟨rfl, hp4⟩
      have HP4 := Lib.hid hp4
      clear hp4
      go_wp2
      refine ⟨⟨k0 + 1, hlt, by go_num, ?_⟩, by simp [intOf]; omega⟩
      rw [HTS.out, ← List.append_assoc, ← List.append_assoc]
      exact HP4.out
    · obtain rfl : k0 = d.texts.length := by omega
      have hpe := HP.out
      rw [List.take_length] at hpe
      obtain ⟨B2, hB2⟩ : ∃ B2, B2 = B1 ++ textsW d.texts := ⟨_, rfl⟩
      rw [← hB2] at hpe
      have hl2 : B2.length ≤ 102000000 := by
        have := length_textsW 255 d.texts HT.out
        have h3 : (255 + 7) * d.texts.length ≤ (255 + 7) * 64 := Nat.mul_le_mul_left _ htl
        rw [hB2, List.length_append]
        omega
      have HPE := Lib.hid hpe
      have HB2 := Lib.hid hB2
      clear hpe hB2 HP HDT HBX
      obtain ⟨hbx1, hdt1⟩ := HBOX.out _ _ _ HPE.out
      have pn1 : wr.cell? ⟨w.heap.size, 1, none⟩ = some (.slice x.Ah d.host.length x.ch) := hbx1.cell 1
      have HD1 := Lib.hid hdt1
      clear hbx1 hdt1
      go_wp2_with fail
      refine (rnameP HPE.out x.Ah x.ch d.host true HD1.out.h hch HSH.out (by omega) (by omega) HR.out).mono ?_
      rintro e WN1 ⟨rfl, hpn1⟩
      have hlB := length_nameW_le true d.host B2 R HF1.out
      have hlR := length_nameW_rests true d.host B2 R
      have HR2 := Lib.hid (nameW_kept true d.host B2 R HR.out (by omega))
      obtain ⟨B3, hB3⟩ : ∃ B3, B3 = (nameW true d.host B2 R).1 := ⟨_, rfl⟩
      obtain ⟨R3, hR3⟩ : ∃ R3, R3 = (nameW true d.host B2 R).2 := ⟨_, rfl⟩
      rw [← hB3] at hlB
      rw [← hR3] at hlR HR2
      rw [← hB3, ← hR3] at hpn1
      have HB3 := Lib.hid hB3
      have HR3 := Lib.hid hR3
      clear hB3 hR3
      have HPF := Lib.hid hpn1
      clear hpn1 pn1
      obtain ⟨hbx2, hdt2⟩ := HBOX.out _ _ _ HPF.out
      have pn2 : WN1.cell? ⟨w.heap.size, 2, none⟩ = some (.slice x.Am d.mail.length x.cm) := hbx2.cell 2
      have HD2 := Lib.hid hdt2
      clear hbx2 hdt2
      go_wp2_with fail
      refine (rnameP HPF.out x.Am x.cm d.mail true HD2.out.m hcm HSM.out (by omega) (by omega) HR2.out).mono ?_
      rintro e WN2 ⟨rfl, hpn2⟩
      have hlB2 := length_nameW_le true d.mail B3 R3 HF2.out
      obtain ⟨B4, hB4⟩ : ∃ B4, B4 = (nameW true d.mail B3 R3).1 := ⟨_, rfl⟩
      obtain ⟨R4, hR4⟩ : ∃ R4, R4 = (nameW true d.mail B3 R3).2 := ⟨_, rfl⟩
      rw [← hB4] at hlB2
      rw [← hB4, ← hR4] at hpn2
      have HB4 := Lib.hid hB4
      have HR4 := Lib.hid hR4
      clear hB4 hR4
      have HPG := Lib.hid hpn2
      clear hpn2 pn2
      go_wp2
      go_loopw [8] (RNRel base w1 Fp g B4 R4 4 d.nums) (fun i _ => d.nums.length - (intOf i).toNat)
      case atStart => exact ⟨0, Nat.zero_le _, rfl, by simpa [numsW] using HPG.out⟩
      case round =>
        obtain ⟨k1, hk1, rfl, hp⟩ := hrel
        obtain ⟨hbx, hdt⟩ := HBOX.out _ _ _ hp
        have p3 : wr.cell? ⟨w.heap.size, 3, none⟩ = some (.slice x.An d.nums.length x.cn) := hbx.cell 3
        have HQ := Lib.hid hp
        have HDQ := Lib.hid hdt
        have HBQ := Lib.hid hbx
        clear hp hbx hdt HPG
        by_cases hlt : k1 < d.nums.length
        · obtain ⟨b, off, hA, _, hc⟩ := HDQ.out.n.int_at hlt
          rw [hA] at p3
          have hnn := HN.out d.nums[k1] (List.getElem_mem hlt)
          have hlen : (B4 ++ numsW 4 (d.nums.take k1)).length ≤ 140737488354000 := by
            have := length_numsW 4 (d.nums.take k1)
            rw [List.length_append]
            rw [List.length_take] at this
            omega
          have HTS := Lib.hid (show numsW 4 (d.nums.take (k1 + 1)) = numsW 4 (d.nums.take k1) ++ putL [] d.nums[k1] 4 by rw [List.take_succ_eq_append_getElem hlt, numsW_snoc])
          obtain ⟨nn, hnd⟩ : ∃ nn, nn = d.nums[k1] := ⟨_, rfl⟩
          rw [← hnd] at hc hnn HTS
          have HLEN := Lib.hid hlen
          clear hlen hnd hA
          go_wp2_with fail
          refine (rnumP HQ.out nn 4 HLEN.out hnn).mono ?_
          rintro e Wq ⟨rfl, hpq⟩
          have HPQ := Lib.hid hpq
          clear hpq
          go_wp2
          refine ⟨⟨k1 + 1, hlt, by go_num, ?_⟩, by simp [intOf]; omega⟩
          rw [HTS.out, ← List.append_assoc]
          exact HPQ.out
        · obtain rfl : k1 = d.nums.length := by omega
          have hpe := HQ.out
          rw [List.take_length] at hpe
          have HZ := Lib.hid hpe
          clear hpe HQ HDQ HBQ
          go_wp2
          go_end0
          have hz := HZ.out
          rw [HB4.out, HR4.out, HB3.out, HR3.out, HB2.out, HB1.out] at hz
          exact ⟨rfl, HFIN.out _ _ _ hz⟩

theorem rput_any (base : Nat) (w : World) (Fp : Nat → Prop) (g : Nat) (vB vR : Value) (B : List UInt8) (R : Rs) (k : Int) (x : DV) (d : Dt) (h : RWr w base Fp g vB vR B R) (hx : DataAt w base x d) (hs : soundD k d = true) (hN : ∀ n ∈ d.nums, n ≤ 9223372036854775807)
    (hB : B.length ≤ 100000000) (hR : R.length ≤ 800000) (hR16 : ∀ r ∈ R, r.2 < 16384 ∧ r.1.length ≤ 1000) :
    Calls Try.prog 18 #[.pointer (some ⟨g, 0, none⟩), .int .i64 k, x.val d] w (fun e w' => e = .returned (.tuple #[]) ∧ RPenned base w Fp g (putD (shN k) d B R).1 (putD (shN k) d B R).2 w') := by
  rcases shN_cases k with rfl | rfl | rfl | rfl | rfl | rfl | rfl | rfl | rfl | hk
  · exact rput_1 base w Fp g vB vR B R x d h hx hs hN hB hR hR16
  · exact rput_28 base w Fp g vB vR B R x d h hx hs hN hB hR hR16
  · exact rput_2 base w Fp g vB vR B R x d h hx hs hN hB hR hR16
  · exact rput_5 base w Fp g vB vR B R x d h hx hs hN hB hR hR16
  · exact rput_12 base w Fp g vB vR B R x d h hx hs hN hB hR hR16
  · exact rput_15 base w Fp g vB vR B R x d h hx hs hN hB hR hR16
  · exact rput_6 base w Fp g vB vR B R x d h hx hs hN hB hR hR16
  · exact rput_16 base w Fp g vB vR B R x d h hx hs hN hB hR hR16
  · exact rput_33 base w Fp g vB vR B R x d h hx hs hN hB hR hR16
  · exact rput_other base w Fp g vB vR B R k hk x d h hx hs hN hB hR hR16

end Go.Proofs.Ytjjmllbkfbdcnaa

namespace Go.Proofs.Ytjjmllbkfbdcnaa
open Go.RowKit

def fitN (count : Nat) (size : Int) (l : List Int) : Bool := decide (l.length = count) && l.all fun n => fitB n size
theorem all_snocI {l : List Int} {k : Nat} (p : Int → Bool) (h : k < l.length) (ha : (l.take k).all p = true) (hp : p l[k] = true) : (l.take (k + 1)).all p = true := by
  rw [List.take_succ_eq_append_getElem h, List.all_append, ha]
  simp [hp]
theorem all_notI {l : List Int} {k : Nat} (p : Int → Bool) (h : k < l.length) (hp : p l[k] = false) : l.all p = false := by
  rw [List.all_eq_false]
  exact ⟨l[k], List.getElem_mem h, by simp [hp]⟩
def FitRel (l : List Int) (s : Int) (i : Value) : Prop := ∃ k : Nat, k ≤ l.length ∧ i = .int .i64 k ∧ (l.take k).all (fun n => fitB n s) = true

set_option maxRecDepth 4000 in
set_option maxHeartbeats 1000000 in
theorem fit_any (A : Option Addr) (m c H : Nat) (l : List Int) (count : Nat) (s : Int) (w : World) (hl : l.length = m) (hA : Row w H A (l.map zv)) (hm : m ≤ maxLen) (hn : ∀ n ∈ l, n ≤ 9223372036854775807) :
    Calls Try.prog 55 #[.slice A m c, .int .i64 count, .int .i64 s] w (Told w (.bool (fitN count s l))) := by
  unfold maxLen at hm
  have HF := Lib.hid (fun n W hn => ref_fits_any n s W hn)
  have HN := Lib.hid hn
  have HA := Lib.hid hA
  have HL := Lib.hid hl
  clear hn hA
  by_cases hc : m = count
  · have t1 : ((m : Int) != (count : Int)) = false := by rw [bne_eq_false_iff_eq]; omega
    have HS := Lib.hid (show fitN count s l = l.all (fun n => fitB n s) by simp [fitN, hl, hc])
    clear hl hc
    go_enter Try.func55, Try.ntmps55
    go_wp2
    go_loop [7] (FitRel l s) (fun i => m - (intOf i).toNat)
    case atStart => exact ⟨0, Nat.zero_le _, rfl, rfl⟩
    case round =>
      obtain ⟨k, hk, rfl, hok⟩ := hrel
      have HOK := Lib.hid hok
      clear hok
      by_cases hlt : k < m
      · have hkl : k < l.length := by rw [HL.out]; exact hlt
        obtain ⟨b, off, rfl, _, hcl⟩ := HA.out.int_at hkl
        go_wp2_with fail
        refine (HF.out l[k] _ (HN.out _ (List.getElem_mem hkl))).mono ?_
        cases hf : fitB l[k] s
        · have HX := Lib.hid (all_notI (fun n => fitB n s) hkl hf)
          rintro e w' ⟨rfl, rfl⟩
          go_wp2
          go_ret
          exact ⟨by rw [HS.out, HX.out]; rfl, rfl⟩
        · have HX := Lib.hid (all_snocI (fun n => fitB n s) hkl HOK.out hf)
          rintro e w' ⟨rfl, rfl⟩
          go_wp2
          exact ⟨⟨k + 1, hkl, by go_num, HX.out⟩, by simp [intOf]; omega⟩
      · obtain rfl : k = m := by have := HL.out; omega
        have HX := Lib.hid (show l.all (fun n => fitB n s) = true by have h := HOK.out; rw [← HL.out, List.take_length] at h; exact h)
        go_wp2
        go_ret
        exact ⟨by rw [HS.out, HX.out]; rfl, rfl⟩
  · have t1 : ((m : Int) != (count : Int)) = true := by rw [bne_iff_ne]; omega
    have HS := Lib.hid (show fitN count s l = false by simp [fitN, hl, hc])
    clear hl hc
    go_enter Try.func55, Try.ntmps55
    go_wp2
    go_ret
    exact ⟨by rw [HS.out]; rfl, rfl⟩

set_option maxRecDepth 4000 in
set_option maxHeartbeats 1000000 in
theorem empty_a (x : DV) (d : Dt) (w : World) : Calls Try.prog 54 #[x.val d, .bool true, .bool false, .bool false, .bool false, .bool false] w (Gave w (.bool ((decide (d.host.length = 0) && (decide (d.mail.length = 0) && (decide (d.nums.length = 0) && decide (d.texts.length = 0))))))) := by
  have HB := Lib.hid ((Below.refl _ w).alloc (Nat.le_refl _) (.cells #[x.vb d, x.vh d, x.vm d, x.vn d, x.vt d] 26))
  by_cases z0 : d.host.length = 0
  case neg =>
    have t0 : ((d.host.length : Int) == 0) = false := by rw [beq_eq_false_iff_ne]; omega
    have HS := Lib.hid (show ((decide (d.host.length = 0) && (decide (d.mail.length = 0) && (decide (d.nums.length = 0) && decide (d.texts.length = 0))))) = false by simp [z0])
    clear z0
    go_enter Try.func54, Try.ntmps54
    go_wp2
    go_ret
    exact ⟨by rw [HS.out]; rfl, HB.out⟩
  have t0 : ((d.host.length : Int) == 0) = true := by rw [beq_iff_eq]; omega
  by_cases z1 : d.mail.length = 0
  case neg =>
    have t1 : ((d.mail.length : Int) == 0) = false := by rw [beq_eq_false_iff_ne]; omega
    have HS := Lib.hid (show ((decide (d.host.length = 0) && (decide (d.mail.length = 0) && (decide (d.nums.length = 0) && decide (d.texts.length = 0))))) = false by simp [z0, z1])
    clear z0 z1
    go_enter Try.func54, Try.ntmps54
    go_wp2
    go_ret
    exact ⟨by rw [HS.out]; rfl, HB.out⟩
  have t1 : ((d.mail.length : Int) == 0) = true := by rw [beq_iff_eq]; omega
  by_cases z2 : d.nums.length = 0
  case neg =>
    have t2 : ((d.nums.length : Int) == 0) = false := by rw [beq_eq_false_iff_ne]; omega
    have HS := Lib.hid (show ((decide (d.host.length = 0) && (decide (d.mail.length = 0) && (decide (d.nums.length = 0) && decide (d.texts.length = 0))))) = false by simp [z0, z1, z2])
    clear z0 z1 z2
    go_enter Try.func54, Try.ntmps54
    go_wp2
    go_ret
    exact ⟨by rw [HS.out]; rfl, HB.out⟩
  have t2 : ((d.nums.length : Int) == 0) = true := by rw [beq_iff_eq]; omega
  by_cases z3 : d.texts.length = 0
  case neg =>
    have t3 : ((d.texts.length : Int) == 0) = false := by rw [beq_eq_false_iff_ne]; omega
    have HS := Lib.hid (show ((decide (d.host.length = 0) && (decide (d.mail.length = 0) && (decide (d.nums.length = 0) && decide (d.texts.length = 0))))) = false by simp [z0, z1, z2, z3])
    clear z0 z1 z2 z3
    go_enter Try.func54, Try.ntmps54
    go_wp2
    go_ret
    exact ⟨by rw [HS.out]; rfl, HB.out⟩
  have t3 : ((d.texts.length : Int) == 0) = true := by rw [beq_iff_eq]; omega
  have HS := Lib.hid (show ((decide (d.host.length = 0) && (decide (d.mail.length = 0) && (decide (d.nums.length = 0) && decide (d.texts.length = 0))))) = true by simp [z0, z1, z2, z3])
  clear z0 z1 z2 z3
  go_enter Try.func54, Try.ntmps54
  go_wp2
  go_ret
  exact ⟨by rw [HS.out]; rfl, HB.out⟩

set_option maxRecDepth 4000 in
set_option maxHeartbeats 1000000 in
theorem empty_n (x : DV) (d : Dt) (w : World) : Calls Try.prog 54 #[x.val d, .bool false, .bool true, .bool false, .bool false, .bool false] w (Gave w (.bool ((decide (d.bytes.length = 0) && (decide (d.mail.length = 0) && (decide (d.nums.length = 0) && decide (d.texts.length = 0))))))) := by
  have HB := Lib.hid ((Below.refl _ w).alloc (Nat.le_refl _) (.cells #[x.vb d, x.vh d, x.vm d, x.vn d, x.vt d] 26))
  by_cases z0 : d.bytes.length = 0
  case neg =>
    have t0 : ((d.bytes.length : Int) == 0) = false := by rw [beq_eq_false_iff_ne]; omega
    have HS := Lib.hid (show ((decide (d.bytes.length = 0) && (decide (d.mail.length = 0) && (decide (d.nums.length = 0) && decide (d.texts.length = 0))))) = false by simp [z0])
    clear z0
    go_enter Try.func54, Try.ntmps54
    go_wp2
    go_ret
    exact ⟨by rw [HS.out]; rfl, HB.out⟩
  have t0 : ((d.bytes.length : Int) == 0) = true := by rw [beq_iff_eq]; omega
  by_cases z1 : d.mail.length = 0
  case neg =>
    have t1 : ((d.mail.length : Int) == 0) = false := by rw [beq_eq_false_iff_ne]; omega
    have HS := Lib.hid (show ((decide (d.bytes.length = 0) && (decide (d.mail.length = 0) && (decide (d.nums.length = 0) && decide (d.texts.length = 0))))) = false by simp [z0, z1])
    clear z0 z1
    go_enter Try.func54, Try.ntmps54
    go_wp2
    go_ret
    exact ⟨by rw [HS.out]; rfl, HB.out⟩
  have t1 : ((d.mail.length : Int) == 0) = true := by rw [beq_iff_eq]; omega
  by_cases z2 : d.nums.length = 0
  case neg =>
    have t2 : ((d.nums.length : Int) == 0) = false := by rw [beq_eq_false_iff_ne]; omega
    have HS := Lib.hid (show ((decide (d.bytes.length = 0) && (decide (d.mail.length = 0) && (decide (d.nums.length = 0) && decide (d.texts.length = 0))))) = false by simp [z0, z1, z2])
    clear z0 z1 z2
    go_enter Try.func54, Try.ntmps54
    go_wp2
    go_ret
    exact ⟨by rw [HS.out]; rfl, HB.out⟩
  have t2 : ((d.nums.length : Int) == 0) = true := by rw [beq_iff_eq]; omega
  by_cases z3 : d.texts.length = 0
  case neg =>
    have t3 : ((d.texts.length : Int) == 0) = false := by rw [beq_eq_false_iff_ne]; omega
    have HS := Lib.hid (show ((decide (d.bytes.length = 0) && (decide (d.mail.length = 0) && (decide (d.nums.length = 0) && decide (d.texts.length = 0))))) = false by simp [z0, z1, z2, z3])
    clear z0 z1 z2 z3
    go_enter Try.func54, Try.ntmps54
    go_wp2
    go_ret
    exact ⟨by rw [HS.out]; rfl, HB.out⟩
  have t3 : ((d.texts.length : Int) == 0) = true := by rw [beq_iff_eq]; omega
  have HS := Lib.hid (show ((decide (d.bytes.length = 0) && (decide (d.mail.length = 0) && (decide (d.nums.length = 0) && decide (d.texts.length = 0))))) = true by simp [z0, z1, z2, z3])
  clear z0 z1 z2 z3
  go_enter Try.func54, Try.ntmps54
  go_wp2
  go_ret
  exact ⟨by rw [HS.out]; rfl, HB.out⟩

set_option maxRecDepth 4000 in
set_option maxHeartbeats 1000000 in
theorem empty_x (x : DV) (d : Dt) (w : World) : Calls Try.prog 54 #[x.val d, .bool false, .bool true, .bool false, .bool true, .bool false] w (Gave w (.bool ((decide (d.bytes.length = 0) && (decide (d.mail.length = 0) && decide (d.texts.length = 0)))))) := by
  have HB := Lib.hid ((Below.refl _ w).alloc (Nat.le_refl _) (.cells #[x.vb d, x.vh d, x.vm d, x.vn d, x.vt d] 26))
  by_cases z0 : d.bytes.length = 0
  case neg =>
    have t0 : ((d.bytes.length : Int) == 0) = false := by rw [beq_eq_false_iff_ne]; omega
    have HS := Lib.hid (show ((decide (d.bytes.length = 0) && (decide (d.mail.length = 0) && decide (d.texts.length = 0)))) = false by simp [z0])
    clear z0
    go_enter Try.func54, Try.ntmps54
    go_wp2
    go_ret
    exact ⟨by rw [HS.out]; rfl, HB.out⟩
  have t0 : ((d.bytes.length : Int) == 0) = true := by rw [beq_iff_eq]; omega
  by_cases z1 : d.mail.length = 0
  case neg =>
    have t1 : ((d.mail.length : Int) == 0) = false := by rw [beq_eq_false_iff_ne]; omega
    have HS := Lib.hid (show ((decide (d.bytes.length = 0) && (decide (d.mail.length = 0) && decide (d.texts.length = 0)))) = false by simp [z0, z1])
    clear z0 z1
    go_enter Try.func54, Try.ntmps54
    go_wp2
    go_ret
    exact ⟨by rw [HS.out]; rfl, HB.out⟩
  have t1 : ((d.mail.length : Int) == 0) = true := by rw [beq_iff_eq]; omega
  by_cases z2 : d.texts.length = 0
  case neg =>
    have t2 : ((d.texts.length : Int) == 0) = false := by rw [beq_eq_false_iff_ne]; omega
    have HS := Lib.hid (show ((decide (d.bytes.length = 0) && (decide (d.mail.length = 0) && decide (d.texts.length = 0)))) = false by simp [z0, z1, z2])
    clear z0 z1 z2
    go_enter Try.func54, Try.ntmps54
    go_wp2
    go_ret
    exact ⟨by rw [HS.out]; rfl, HB.out⟩
  have t2 : ((d.texts.length : Int) == 0) = true := by rw [beq_iff_eq]; omega
  have HS := Lib.hid (show ((decide (d.bytes.length = 0) && (decide (d.mail.length = 0) && decide (d.texts.length = 0)))) = true by simp [z0, z1, z2])
  clear z0 z1 z2
  go_enter Try.func54, Try.ntmps54
  go_wp2
  go_ret
  exact ⟨by rw [HS.out]; rfl, HB.out⟩

set_option maxRecDepth 4000 in
set_option maxHeartbeats 1000000 in
theorem empty_s (x : DV) (d : Dt) (w : World) : Calls Try.prog 54 #[x.val d, .bool false, .bool true, .bool true, .bool true, .bool false] w (Gave w (.bool ((decide (d.bytes.length = 0) && decide (d.texts.length = 0))))) := by
  have HB := Lib.hid ((Below.refl _ w).alloc (Nat.le_refl _) (.cells #[x.vb d, x.vh d, x.vm d, x.vn d, x.vt d] 26))
  by_cases z0 : d.bytes.length = 0
  case neg =>
    have t0 : ((d.bytes.length : Int) == 0) = false := by rw [beq_eq_false_iff_ne]; omega
    have HS := Lib.hid (show ((decide (d.bytes.length = 0) && decide (d.texts.length = 0))) = false by simp [z0])
    clear z0
    go_enter Try.func54, Try.ntmps54
    go_wp2
    go_ret
    exact ⟨by rw [HS.out]; rfl, HB.out⟩
  have t0 : ((d.bytes.length : Int) == 0) = true := by rw [beq_iff_eq]; omega
  by_cases z1 : d.texts.length = 0
  case neg =>
    have t1 : ((d.texts.length : Int) == 0) = false := by rw [beq_eq_false_iff_ne]; omega
    have HS := Lib.hid (show ((decide (d.bytes.length = 0) && decide (d.texts.length = 0))) = false by simp [z0, z1])
    clear z0 z1
    go_enter Try.func54, Try.ntmps54
    go_wp2
    go_ret
    exact ⟨by rw [HS.out]; rfl, HB.out⟩
  have t1 : ((d.texts.length : Int) == 0) = true := by rw [beq_iff_eq]; omega
  have HS := Lib.hid (show ((decide (d.bytes.length = 0) && decide (d.texts.length = 0))) = true by simp [z0, z1])
  clear z0 z1
  go_enter Try.func54, Try.ntmps54
  go_wp2
  go_ret
  exact ⟨by rw [HS.out]; rfl, HB.out⟩

set_option maxRecDepth 4000 in
set_option maxHeartbeats 1000000 in
theorem empty_t (x : DV) (d : Dt) (w : World) : Calls Try.prog 54 #[x.val d, .bool false, .bool false, .bool false, .bool false, .bool true] w (Gave w (.bool ((decide (d.bytes.length = 0) && (decide (d.host.length = 0) && (decide (d.mail.length = 0) && decide (d.nums.length = 0))))))) := by
  have HB := Lib.hid ((Below.refl _ w).alloc (Nat.le_refl _) (.cells #[x.vb d, x.vh d, x.vm d, x.vn d, x.vt d] 26))
  by_cases z0 : d.bytes.length = 0
  case neg =>
    have t0 : ((d.bytes.length : Int) == 0) = false := by rw [beq_eq_false_iff_ne]; omega
    have HS := Lib.hid (show ((decide (d.bytes.length = 0) && (decide (d.host.length = 0) && (decide (d.mail.length = 0) && decide (d.nums.length = 0))))) = false by simp [z0])
    clear z0
    go_enter Try.func54, Try.ntmps54
    go_wp2
    go_ret
    exact ⟨by rw [HS.out]; rfl, HB.out⟩
  have t0 : ((d.bytes.length : Int) == 0) = true := by rw [beq_iff_eq]; omega
  by_cases z1 : d.host.length = 0
  case neg =>
    have t1 : ((d.host.length : Int) == 0) = false := by rw [beq_eq_false_iff_ne]; omega
    have HS := Lib.hid (show ((decide (d.bytes.length = 0) && (decide (d.host.length = 0) && (decide (d.mail.length = 0) && decide (d.nums.length = 0))))) = false by simp [z0, z1])
    clear z0 z1
    go_enter Try.func54, Try.ntmps54
    go_wp2
    go_ret
    exact ⟨by rw [HS.out]; rfl, HB.out⟩
  have t1 : ((d.host.length : Int) == 0) = true := by rw [beq_iff_eq]; omega
  by_cases z2 : d.mail.length = 0
  case neg =>
    have t2 : ((d.mail.length : Int) == 0) = false := by rw [beq_eq_false_iff_ne]; omega
    have HS := Lib.hid (show ((decide (d.bytes.length = 0) && (decide (d.host.length = 0) && (decide (d.mail.length = 0) && decide (d.nums.length = 0))))) = false by simp [z0, z1, z2])
    clear z0 z1 z2
    go_enter Try.func54, Try.ntmps54
    go_wp2
    go_ret
    exact ⟨by rw [HS.out]; rfl, HB.out⟩
  have t2 : ((d.mail.length : Int) == 0) = true := by rw [beq_iff_eq]; omega
  by_cases z3 : d.nums.length = 0
  case neg =>
    have t3 : ((d.nums.length : Int) == 0) = false := by rw [beq_eq_false_iff_ne]; omega
    have HS := Lib.hid (show ((decide (d.bytes.length = 0) && (decide (d.host.length = 0) && (decide (d.mail.length = 0) && decide (d.nums.length = 0))))) = false by simp [z0, z1, z2, z3])
    clear z0 z1 z2 z3
    go_enter Try.func54, Try.ntmps54
    go_wp2
    go_ret
    exact ⟨by rw [HS.out]; rfl, HB.out⟩
  have t3 : ((d.nums.length : Int) == 0) = true := by rw [beq_iff_eq]; omega
  have HS := Lib.hid (show ((decide (d.bytes.length = 0) && (decide (d.host.length = 0) && (decide (d.mail.length = 0) && decide (d.nums.length = 0))))) = true by simp [z0, z1, z2, z3])
  clear z0 z1 z2 z3
  go_enter Try.func54, Try.ntmps54
  go_wp2
  go_ret
  exact ⟨by rw [HS.out]; rfl, HB.out⟩

theorem numsOk_two {ah : Nat} {l : List Int} (h : l.length ≤ ah) : numsOk ah l = l.all fun n => fitB n 2 := by
  unfold numsOk
  rw [Bool.eq_iff_iff, List.all_eq_true, List.all_eq_true]
  constructor
  · intro hr n hn
    obtain ⟨i, hi, rfl⟩ := List.getElem_of_mem hn
    have := hr i (List.mem_range.2 hi)
    rw [sizeAt, if_pos (by omega)] at this
    simpa [List.getD, hi] using this
  · intro hr i hi
    have hi2 := List.mem_range.1 hi
    rw [sizeAt, if_pos (by omega)]
    simpa [List.getD, hi2] using hr l[i] (List.getElem_mem hi2)
theorem numsOk_four (l : List Int) : numsOk 0 l = l.all fun n => fitB n 4 := by
  unfold numsOk
  rw [Bool.eq_iff_iff, List.all_eq_true, List.all_eq_true]
  constructor
  · intro hr n hn
    obtain ⟨i, hi, rfl⟩ := List.getElem_of_mem hn
    have := hr i (List.mem_range.2 hi)
    rw [sizeAt, if_neg (by omega)] at this
    simpa [List.getD, hi] using this
  · intro hr i hi
    have hi2 := List.mem_range.1 hi
    rw [sizeAt, if_neg (by omega)]
    simpa [List.getD, hi2] using hr l[i] (List.getElem_mem hi2)
theorem soundNm_true (n : List (List UInt8)) : soundNm n true = soundN n := by
  unfold soundNm
  by_cases h : n.length = 0
  · have : n = [] := List.eq_nil_of_length_eq_zero h
    subst this
    decide
  · simp [h]
theorem soundNm_false (n : List (List UInt8)) : soundNm n false = decide (n.length = 0) := by simp [soundNm]
theorem soundNs_two {a : Nat} {l : List Int} {s : Sh} (h1 : s.ahead = a) (h2 : s.behind = 0) : soundNs s l = fitN a 2 l := by
  unfold soundNs fitN
  rw [h1, h2]
  by_cases h : l.length = a
  · rw [numsOk_two (by omega)]; simp
  · simp [h]
theorem soundNs_four {b : Nat} {l : List Int} {s : Sh} (h1 : s.ahead = 0) (h2 : s.behind = b) : soundNs s l = fitN b 4 l := by
  unfold soundNs fitN
  rw [h1, h2, numsOk_four]
  simp
theorem fitN_zero (s : Int) (l : List Int) : fitN 0 s l = decide (l.length = 0) := by
  unfold fitN
  by_cases h : l.length = 0
  · have : l = [] := List.eq_nil_of_length_eq_zero h
    subst this
    rfl
  · simp [h]

theorem soundD_1 (d : Dt) : soundD 1 d = (decide (d.bytes.length = 4) && (decide (d.host.length = 0) && (decide (d.mail.length = 0) && (decide (d.nums.length = 0) && decide (d.texts.length = 0))))) := by
  have hk : kindB 1 = true := by decide
  have hs : shN 1 = ⟨0, false, false, false, 0, false, 4, 4⟩ := by simp [shN]
  unfold soundD
  rw [hk, hs, soundNs_two (s := ⟨0, false, false, false, 0, false, 4, 4⟩) (a := 0) rfl rfl]
  simp only [soundBs, soundTs, soundNm_false, fitN_zero, Bool.true_and]
  rw [Bool.eq_iff_iff]
  simp only [Bool.and_eq_true, decide_eq_true_eq, if_false, Bool.false_eq_true]
  constructor
  · rintro ⟨⟨a1, a2⟩, a3, a4, a5, a6⟩
    skip
    exact ⟨by omega, a3, a4, a5, a6⟩
  · rintro ⟨b1, b2, b3, b4, b5⟩
    exact ⟨⟨by omega, by omega⟩, b2, b3, b4, b5⟩

theorem soundD_28 (d : Dt) : soundD 28 d = (decide (d.bytes.length = 16) && (decide (d.host.length = 0) && (decide (d.mail.length = 0) && (decide (d.nums.length = 0) && decide (d.texts.length = 0))))) := by
  have hk : kindB 28 = true := by decide
  have hs : shN 28 = ⟨0, false, false, false, 0, false, 16, 16⟩ := by simp [shN]
  unfold soundD
  rw [hk, hs, soundNs_two (s := ⟨0, false, false, false, 0, false, 16, 16⟩) (a := 0) rfl rfl]
  simp only [soundBs, soundTs, soundNm_false, fitN_zero, Bool.true_and]
  rw [Bool.eq_iff_iff]
  simp only [Bool.and_eq_true, decide_eq_true_eq, if_false, Bool.false_eq_true]
  constructor
  · rintro ⟨⟨a1, a2⟩, a3, a4, a5, a6⟩
    skip
    exact ⟨by omega, a3, a4, a5, a6⟩
  · rintro ⟨b1, b2, b3, b4, b5⟩
    exact ⟨⟨by omega, by omega⟩, b2, b3, b4, b5⟩

theorem soundD_2 (d : Dt) : soundD 2 d = (soundN d.host && (decide (d.bytes.length = 0) && (decide (d.mail.length = 0) && (decide (d.nums.length = 0) && decide (d.texts.length = 0))))) := by
  have hk : kindB 2 = true := by decide
  have hs : shN 2 = ⟨0, true, false, true, 0, false, 0, 0⟩ := by simp [shN]
  unfold soundD
  rw [hk, hs, soundNs_two (s := ⟨0, true, false, true, 0, false, 0, 0⟩) (a := 0) rfl rfl]
  simp only [soundBs, soundTs, soundNm_true, soundNm_false, fitN_zero, Bool.true_and]
  rw [Bool.eq_iff_iff]
  simp only [Bool.and_eq_true, decide_eq_true_eq, if_false, Bool.false_eq_true]
  constructor
  · rintro ⟨⟨a1, a2⟩, a3, a4, a5, a6⟩
    skip
    exact ⟨a3, by omega, a4, a5, a6⟩
  · rintro ⟨b1, b2, b3, b4, b5⟩
    exact ⟨⟨by omega, by omega⟩, b1, b3, b4, b5⟩

theorem soundD_5 (d : Dt) : soundD 5 d = (soundN d.host && (decide (d.bytes.length = 0) && (decide (d.mail.length = 0) && (decide (d.nums.length = 0) && decide (d.texts.length = 0))))) := by
  have hk : kindB 5 = true := by decide
  have hs : shN 5 = ⟨0, true, false, true, 0, false, 0, 0⟩ := by simp [shN]
  unfold soundD
  rw [hk, hs, soundNs_two (s := ⟨0, true, false, true, 0, false, 0, 0⟩) (a := 0) rfl rfl]
  simp only [soundBs, soundTs, soundNm_true, soundNm_false, fitN_zero, Bool.true_and]
  rw [Bool.eq_iff_iff]
  simp only [Bool.and_eq_true, decide_eq_true_eq, if_false, Bool.false_eq_true]
  constructor
  · rintro ⟨⟨a1, a2⟩, a3, a4, a5, a6⟩
    skip
    exact ⟨a3, by omega, a4, a5, a6⟩
  · rintro ⟨b1, b2, b3, b4, b5⟩
    exact ⟨⟨by omega, by omega⟩, b1, b3, b4, b5⟩

theorem soundD_12 (d : Dt) : soundD 12 d = (soundN d.host && (decide (d.bytes.length = 0) && (decide (d.mail.length = 0) && (decide (d.nums.length = 0) && decide (d.texts.length = 0))))) := by
  have hk : kindB 12 = true := by decide
  have hs : shN 12 = ⟨0, true, false, true, 0, false, 0, 0⟩ := by simp [shN]
  unfold soundD
  rw [hk, hs, soundNs_two (s := ⟨0, true, false, true, 0, false, 0, 0⟩) (a := 0) rfl rfl]
  simp only [soundBs, soundTs, soundNm_true, soundNm_false, fitN_zero, Bool.true_and]
  rw [Bool.eq_iff_iff]
  simp only [Bool.and_eq_true, decide_eq_true_eq, if_false, Bool.false_eq_true]
  constructor
  · rintro ⟨⟨a1, a2⟩, a3, a4, a5, a6⟩
    skip
    exact ⟨a3, by omega, a4, a5, a6⟩
  · rintro ⟨b1, b2, b3, b4, b5⟩
    exact ⟨⟨by omega, by omega⟩, b1, b3, b4, b5⟩

theorem soundD_15 (d : Dt) : soundD 15 d = (soundN d.host && (fitN 1 2 d.nums && (decide (d.bytes.length = 0) && (decide (d.mail.length = 0) && decide (d.texts.length = 0))))) := by
  have hk : kindB 15 = true := by decide
  have hs : shN 15 = ⟨1, true, false, true, 0, false, 0, 0⟩ := by simp [shN]
  unfold soundD
  rw [hk, hs, soundNs_two (s := ⟨1, true, false, true, 0, false, 0, 0⟩) (a := 1) rfl rfl]
  simp only [soundBs, soundTs, soundNm_true, soundNm_false, Bool.true_and]
  rw [Bool.eq_iff_iff]
  simp only [Bool.and_eq_true, decide_eq_true_eq, if_false, Bool.false_eq_true]
  constructor
  · rintro ⟨⟨a1, a2⟩, a3, a4, a5, a6⟩
    skip
    exact ⟨a3, a5, by omega, a4, a6⟩
  · rintro ⟨b1, b2, b3, b4, b5⟩
    exact ⟨⟨by omega, by omega⟩, b1, b4, b2, b5⟩

theorem soundD_33 (d : Dt) : soundD 33 d = (soundN d.host && (fitN 3 2 d.nums && (decide (d.bytes.length = 0) && (decide (d.mail.length = 0) && decide (d.texts.length = 0))))) := by
  have hk : kindB 33 = true := by decide
  have hs : shN 33 = ⟨3, true, false, false, 0, false, 0, 0⟩ := by simp [shN]
  unfold soundD
  rw [hk, hs, soundNs_two (s := ⟨3, true, false, false, 0, false, 0, 0⟩) (a := 3) rfl rfl]
  simp only [soundBs, soundTs, soundNm_true, soundNm_false, Bool.true_and]
  rw [Bool.eq_iff_iff]
  simp only [Bool.and_eq_true, decide_eq_true_eq, if_false, Bool.false_eq_true]
  constructor
  · rintro ⟨⟨a1, a2⟩, a3, a4, a5, a6⟩
    skip
    exact ⟨a3, a5, by omega, a4, a6⟩
  · rintro ⟨b1, b2, b3, b4, b5⟩
    exact ⟨⟨by omega, by omega⟩, b1, b4, b2, b5⟩

theorem soundD_6 (d : Dt) : soundD 6 d = (soundN d.host && (soundN d.mail && (fitN 5 4 d.nums && (decide (d.bytes.length = 0) && decide (d.texts.length = 0))))) := by
  have hk : kindB 6 = true := by decide
  have hs : shN 6 = ⟨0, true, true, true, 5, false, 0, 0⟩ := by simp [shN]
  unfold soundD
  rw [hk, hs, soundNs_four (s := ⟨0, true, true, true, 5, false, 0, 0⟩) (b := 5) rfl rfl]
  simp only [soundBs, soundTs, soundNm_true, Bool.true_and]
  rw [Bool.eq_iff_iff]
  simp only [Bool.and_eq_true, decide_eq_true_eq, if_false, Bool.false_eq_true]
  constructor
  · rintro ⟨⟨a1, a2⟩, a3, a4, a5, a6⟩
    skip
    exact ⟨a3, a4, a5, by omega, a6⟩
  · rintro ⟨b1, b2, b3, b4, b5⟩
    exact ⟨⟨by omega, by omega⟩, b1, b2, b3, b5⟩

theorem soundD_16 (d : Dt) : soundD 16 d = (decide (1 ≤ d.texts.length) && (decide (d.texts.length ≤ 64) && ((decide (d.bytes.length = 0) && (decide (d.host.length = 0) && (decide (d.mail.length = 0) && decide (d.nums.length = 0)))) && d.texts.all (fun t => decide (t.length ≤ 255))))) := by
  have hk : kindB 16 = true := by decide
  have hs : shN 16 = ⟨0, false, false, false, 0, true, 0, 0⟩ := by simp [shN]
  unfold soundD
  rw [hk, hs, soundNs_two (s := ⟨0, false, false, false, 0, true, 0, 0⟩) (a := 0) rfl rfl]
  simp only [soundBs, soundTs, soundNm_false, fitN_zero, Bool.true_and]
  rw [Bool.eq_iff_iff]
  simp only [Bool.and_eq_true, decide_eq_true_eq, if_true]
  constructor
  · rintro ⟨⟨a1, a2⟩, a3, a4, a5, a6⟩
    obtain ⟨a6, a7, a8⟩ := a6
    exact ⟨a7, a8, ⟨by omega, a3, a4, a5⟩, a6⟩
  · rintro ⟨b1, b2, ⟨b3, b4, b5, b6⟩, b7⟩
    exact ⟨⟨by omega, by omega⟩, b4, b5, b6, b7, b1, b2⟩

theorem soundD_other {k : Int} (d : Dt) (hk : kindB k = true) (h : (k == 1) = false ∧ (k == 28) = false ∧ (k == 2) = false ∧ (k == 5) = false ∧ (k == 12) = false ∧ (k == 15) = false ∧ (k == 6) = false ∧ (k == 16) = false ∧ (k == 33) = false) :
    soundD k d = (decide (d.bytes.length ≤ 65535) && (decide (d.host.length = 0) && (decide (d.mail.length = 0) && (decide (d.nums.length = 0) && decide (d.texts.length = 0))))) := by
  unfold soundD
  rw [hk, shN_other h, soundNs_two (s := ⟨0, false, false, false, 0, false, 0, 65535⟩) (a := 0) rfl rfl]
  simp only [soundBs, soundTs, soundNm_false, fitN_zero, Bool.true_and]
  rw [Bool.eq_iff_iff]
  simp only [Bool.and_eq_true, decide_eq_true_eq, if_false, Bool.false_eq_true]
  constructor
  · rintro ⟨⟨a1, a2⟩, a3, a4, a5, a6⟩
    exact ⟨a2, a3, a4, a5, a6⟩
  · rintro ⟨b1, b2, b3, b4, b5⟩
    exact ⟨⟨by omega, b1⟩, b2, b3, b4, b5⟩

end Go.Proofs.Ytjjmllbkfbdcnaa
