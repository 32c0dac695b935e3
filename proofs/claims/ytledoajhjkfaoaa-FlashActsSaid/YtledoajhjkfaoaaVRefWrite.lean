/-
  The contract of the document's Write.
-/
import Derived.Test.YtledoajhjkfaoaaVRefCrash
import Derived.Test.YtledoajhjkfaoaaVUns
namespace Go.Proofs.Ytledoajhjkfaoaa
open Go.RowKit

def padN (b : List UInt8) (j : Nat) : List UInt8 := b.take j ++ List.replicate (512 - j) 0
theorem padN_all (b : List UInt8) : padN b b.length = padB b := by unfold padN padB; rw [List.take_length]
theorem padN_zero (b : List UInt8) : padN b 0 = zero512 := rfl
theorem length_padN {b : List UInt8} {j : Nat} (hj : j ≤ b.length) (hb : b.length ≤ 512) : (padN b j).length = 512 := by simp [padN]; omega
theorem padN_set {b : List UInt8} {j : Nat} (hj : j < b.length) (hb : b.length ≤ 512) : (padN b j).set j b[j] = padN b (j + 1) := by
  unfold padN
  have h1 : (b.take j).length = j := by rw [List.length_take]; omega
  rw [List.set_append_right _ _ (by omega), h1, Nat.sub_self, show 512 - j = (512 - (j + 1)) + 1 by omega, List.replicate_succ, List.set_cons_zero, List.take_succ_eq_append_getElem hj, List.append_assoc]
  rfl
section
variable {w w1 w' wr V w3 : World} {base : Nat} {m : RLies} {x y : Dv}
/-- Bytes that lie outside the block r. -/
def SrcR (w : World) (r : Nat) (A : Option Addr) (b : List UInt8) : Prop := b ≠ [] → ∃ g off, A = some ⟨g, off, none⟩ ∧ g < w.heap.size ∧ g ≠ r ∧ ∀ j u, (b.map bc)[j]? = some u → w.cell? ⟨g, off + j, none⟩ = some u
theorem BytesAt.srcR {A : Option Addr} {b : List UInt8} (h : BytesAt w A b) (hr : RefAt w base m x) : SrcR w m.r A b := fun hb => by
  obtain ⟨g, off, cs, fr, e, h1, h2⟩ := h hb
  refine ⟨g, off, e, ?_, ?_, h2⟩
  · rcases Nat.lt_or_ge g w.heap.size with h3 | h3
    · exact h3
    · rw [Array.getElem?_eq_none h3] at h1; cases h1
  · rintro rfl
    have hb := hr.blk
    unfold Whole at hb
    rw [h1] at hb
    simp at hb
theorem SrcR.grew {r : Nat} {A : Option Addr} {b : List UInt8} (h : SrcR w r A b) (hg : Grew (fun j => j = r) w w') : SrcR w' r A b := fun hb => by
  obtain ⟨g, off, e, h1, hne, h2⟩ := h hb
  exact ⟨g, off, e, Nat.lt_of_lt_of_le h1 hg.size, hne, fun j u hu => (World.cell?_of_block (hg.block g h1 hne)).trans (h2 j u hu)⟩
theorem SrcR.below {r : Nat} {A : Option Addr} {b : List UInt8} (h : SrcR w r A b) (hB : Below w.heap.size w w') : SrcR w' r A b := fun hb => by
  obtain ⟨g, off, e, h1, hne, h2⟩ := h hb
  exact ⟨g, off, e, Nat.lt_of_lt_of_le h1 hB.size, hne, fun j u hu => (World.cell?_of_block (hB.block g h1)).trans (h2 j u hu)⟩
theorem RWent.below (h : RWent base w1 m y w') (hb : Below w.heap.size w w1) : RWent base w m y w' := by
  obtain ⟨m', h1, h2, h3⟩ := h
  exact ⟨m', h1, h2, (Grew.all hb).trans h3 fun _ hj => .inl hj⟩
/-- Behind the append. -/
theorem rwrite_mid {r : Nat} {s u : Value} {vs : List Value} (h : RefAt w base ⟨r, s, u⟩ y) (hvs : UnsAt w base u y.uns vs) (hV : Below w.heap.size w V) (hg : V.grownBy w3 u.ownBlock) :
    (∀ g, g < w.heap.size → u.ownBlock ≠ some g → w3.heap[g]? = w.heap[g]?) ∧ Whole w3 r 40 (refCells ⟨r, s, u⟩ y.limit y.down) := by
  have hk : ∀ g, g < w.heap.size → u.ownBlock ≠ some g → w3.heap[g]? = w.heap[g]? := fun g h1 h2 => (hg.block g (Nat.lt_of_lt_of_le h1 hV.size) fun e => h2 e.symm).trans (hV.block g h1)
  exact ⟨hk, h.blk.keep (hk r h.blk.lt (own_not_whole hvs.row h.blk (by decide)))⟩
theorem rwrite_fin {r : Nat} {s u v' v : Value} {vs : List Value} {uu : Wri} (h : RefAt w base ⟨r, s, u⟩ y) (hvs : UnsAt w base u y.uns vs) (hv : w.ownsRow base 5 1 v 512 (uu.data.map bc)) (hp : uu.place < y.sure.length) (hd : uu.data.length = 512)
    (hV : Below w.heap.size w V) (ho : w3.ownsRow base 48 2 v' (y.uns.length + 1) (wcells y.uns vs ++ [.int .i64 (uu.place : Int), v])) (hg : V.grownBy w3 u.ownBlock) :
    RWent base w ⟨r, s, u⟩ { y with uns := y.uns ++ [uu] } (w3.setCell ⟨r, 1, none⟩ v') := by
  obtain ⟨hk, hW3⟩ := rwrite_mid h hvs hV hg
  have hG : Grew (fun j => j = r) w3 (w3.setCell ⟨r, 1, none⟩ v') := grew_one _ _ _ _
  have hz3 : w.heap.size ≤ w3.heap.size := Nat.le_trans hV.size hg.size
  have hn := UnsAt.next (us := y.uns ++ [uu]) (k := y.uns.length) (w := w) (w1 := w) (w2 := V) (w3 := w3) (v := v) (out := u) (out' := v') (vs := vs) (by simp) (by rw [List.take_left]; exact hvs) (fun _ _ => rfl) (by simpa using hv) (fun g hg' => hV.block g hg') (Nat.le_refl _) hV.size (by simpa using ho) hg
  have hlen : y.uns.length + 1 = (y.uns ++ [uu]).length := by simp
  rw [hlen, List.take_length] at hn
  have hne3 : ∀ g, (∃ t fr cs, w3.heap[g]? = some (.cells cs t fr) ∧ t = 5) → g ≠ r := by
    rintro g ⟨t, fr, cs, h5, h6⟩ rfl
    have hb := hW3
    unfold Whole at hb
    rw [h5] at hb
    simp at hb
    have h2 := hb.2.1
    rw [h6] at h2
    exact absurd h2 (by decide)
  refine ⟨⟨r, s, v'⟩, rfl, ⟨hW3.set_ 1 v', ?_, ⟨vs ++ [v], ?_⟩, h.lr, ⟨h.ok.s, h.ok.u.snoc hp hd, h.ok.few, h.ok.lim⟩⟩, ?_⟩
  · refine (h.sure.keep (w' := w3) fun g h1 hj => ?_).keep fun g h1 hj => hG.block g h1 ?_
    · refine hk g h1 ?_
      rcases hj with hj | hj
      · obtain ⟨P, _, h2, _⟩ := h.sure
        intro e
        exact own_not_own h2 hvs.row (by decide) e hj
      · intro e
        exact u8_block hvs.row (by decide) e hj
    · rcases hj with hj | hj
      · obtain ⟨P, _, h2, _⟩ := h.sure
        rintro rfl
        exact own_not_whole h2 h.blk (by decide) hj
      · exact hne3 g hj
  · refine hn.keep fun g h1 hj => hG.block g h1 ?_
    rcases hj with hj | hj
    · rintro rfl
      exact own_not_whole ho hW3 (by decide) hj
    · exact hne3 g hj
  · refine Grew.setCell ?_ (a := ⟨r, 1, none⟩) (.inl (.inl rfl)) _
    refine Grew.trans (Grew.all hV) (G := RLies.own ⟨r, s, u⟩) ⟨hg.os, hg.tape, hg.output, hg.size, fun j hj2 hn => hg.block j hj2 fun e => hn (.inr (.inr e.symm))⟩ fun j h => .inl h
end
def WrRel (w : World) (b : List UInt8) (i : Value) (wr : World) : Prop :=
  ∃ j : Nat, j ≤ b.length ∧ i = .int .i64 j ∧ Whole wr w.heap.size 5 ((padN b j).map bc) ∧ Below w.heap.size w wr

section
variable (w : World) (base : Nat) (m : RLies) (x : Dv) (k : Int) (A : Option Addr) (c : Nat) (b : List UInt8)
set_option maxHeartbeats 400000 in
theorem rwrite_down (h : RefAt w base m x) (hd : x.down = true) (n : Nat) : Calls Try.prog 11 #[.pointer (some ⟨m.r, 0, none⟩), .int .i64 k, .slice A n c] w (Told w (.int .i64 8)) := by
  have c3 : w.cell? ⟨m.r, 3, none⟩ = some (.bool x.down) := h.blk.cell 3
  rw [hd] at c3
  clear h hd
  go_enter Try.func11, Try.ntmps11
  go_wp2
  go_ret
  exact ⟨rfl, rfl⟩
set_option maxHeartbeats 400000 in
theorem rwrite_arg (h : RefAt w base m x) (hd : x.down = false) (n : Nat) (hn : (n : Int) ≤ 9223372036854775807) (hb : x.has k = false ∨ 512 < n) : Calls Try.prog 11 #[.pointer (some ⟨m.r, 0, none⟩), .int .i64 k, .slice A n c] w (Told w (.int .i64 1)) := by
  obtain ⟨r, s, u⟩ := m
  have c3 : w.cell? ⟨r, 3, none⟩ = some (.bool x.down) := h.blk.cell 3
  obtain ⟨P, hP, hrow, _⟩ := h.sure
  have hPl : P.length = x.sure.length := by rw [← hP, List.length_map]
  rw [hPl] at hrow
  obtain ⟨As, cs, rfl, _, _⟩ := own_form hrow
  have c0 : w.cell? ⟨r, 0, none⟩ = some (.slice As x.sure.length cs) := h.blk.cell 0
  have hfew := h.ok.few
  rw [hd] at c3
  clear hrow hP hPl h hd
  by_cases hk0 : k < 0
  · have d1 : decide (k < 0) = true := by simp; exact hk0
    clear hb hk0
    go_enter Try.func11, Try.ntmps11
    go_wp2
    go_ret
    exact ⟨rfl, rfl⟩
  have d1 : decide (k < 0) = false := by simp; omega
  by_cases hk1 : (x.sure.length : Int) ≤ k
  · have d2 : decide ((x.sure.length : Int) ≤ k) = true := by simp; exact hk1
    clear hb hk0 hk1
    go_enter Try.func11, Try.ntmps11
    go_wp2
    go_ret
    exact ⟨rfl, rfl⟩
  have d2 : decide ((x.sure.length : Int) ≤ k) = false := by simp; omega
  have d3 : decide (512 < (n : Int)) = true := by
    rcases hb with hb | hb
    · simp [Dv.has] at hb; omega
    · simp; omega
  clear hb hk0 hk1
  go_enter Try.func11, Try.ntmps11
  go_wp2
  go_ret
  exact ⟨rfl, rfl⟩
end
set_option maxRecDepth 4000 in
set_option maxHeartbeats 1000000 in
theorem ref_write (w : World) (base : Nat) (m : RLies) (x : Dv) (h : RefAt w base m x) (k : Int) (A : Option Addr) (c : Nat) (b : List UInt8) (hl : b.length ≤ 9223372036854775807) (hs : SrcR w m.r A b) (hu : x.uns.length < 4294967296) :
    Calls Try.prog 11 #[.pointer (some ⟨m.r, 0, none⟩), .int .i64 k, .slice A b.length c] w (RWriteOut base w m (x.write k b) (x.writeE k b)) := by
  by_cases hd : x.down = true
  · have e1 : x.write k b = x := by unfold Dv.write; rw [if_pos (.inl hd)]
    have e2 : x.writeE k b = 8 := by unfold Dv.writeE; rw [if_pos hd]
    rw [e1, e2]
    refine (rwrite_down w base m x k A c h hd _).mono ?_
    rintro e w' ⟨rfl, rfl⟩
    exact ⟨rfl, RWent.refl h⟩
  have hdf : x.down = false := by simpa using hd
  by_cases hb : x.has k = false ∨ 512 < b.length
  · have e1 : x.write k b = x := by unfold Dv.write; rw [if_pos (.inr hb)]
    have e2 : x.writeE k b = 1 := by unfold Dv.writeE; rw [if_neg hd, if_pos hb]
    rw [e1, e2]
    refine (rwrite_arg w base m x k A c h hdf _ (by omega) hb).mono ?_
    rintro e w' ⟨rfl, rfl⟩
    exact ⟨rfl, RWent.refl h⟩
  have hh : x.has k = true := by
    cases e : x.has k with
    | true => rfl
    | false => exact absurd (.inl e) hb
  have hn : b.length ≤ 512 := by
    apply Classical.byContradiction
    intro hc
    exact hb (.inr (by omega))
  have hk : 0 ≤ k ∧ k < (x.sure.length : Int) := by simpa [Dv.has] using hh
  obtain ⟨i, rfl⟩ : ∃ i : Nat, k = i := ⟨k.toNat, by omega⟩
  have hi : i < x.sure.length := by omega
  have hsp := ref_spend w base m x h hdf
  have c3 : w.cell? ⟨m.r, 3, none⟩ = some (.bool x.down) := h.blk.cell 3
  obtain ⟨P, hP, hrow, _⟩ := h.sure
  have hPl : P.length = x.sure.length := by rw [← hP, List.length_map]
  rw [hPl] at hrow
  obtain ⟨As, cs, hms, _, _⟩ := own_form hrow
  have c0 : w.cell? ⟨m.r, 0, none⟩ = some (.slice As x.sure.length cs) := by rw [← hms]; exact h.blk.cell 0
  have hfew := h.ok.few
  have d1 : decide ((i : Int) < 0) = false := by simp
  have d2 : decide ((x.sure.length : Int) ≤ (i : Int)) = false := by simp; omega
  have d3 : decide (512 < (b.length : Int)) = false := by simp; omega
  rw [hdf] at c3
  cases hlast : x.lasts with
  | false =>
    have e1 : x.write i b = x.spent := by unfold Dv.write; rw [if_neg (by simp [hd, hh]; omega), if_pos hlast]
    have e2 : x.writeE i b = 8 := by unfold Dv.writeE; rw [if_neg hd, if_neg hb, if_pos hlast]
    rw [e1, e2]
    have hl2 : Calls Try.prog 28 #[.pointer (some ⟨m.r, 0, none⟩)] w (fun e w' => e = .returned (.bool false) ∧ RWent base w m x.spent w') := hsp.mono fun e w' ⟨h1, h2, h3, h4⟩ => ⟨by rw [h1, hlast], RWent.spent h3 (RWent.refl h2)⟩
    have HL := Lib.hid hl2
    clear h hd hdf hsp hl2 e1 e2 hlast hP hrow hPl hms hk hh hb hs
    go_enter Try.func11, Try.ntmps11
    go_wp2_with fail
    refine HL.out.mono ?_
    rintro e w' ⟨rfl, hw⟩
    have HW := Lib.hid hw
    clear hw
    go_wp2
    go_ret
    exact ⟨rfl, HW.out⟩
  | true =>
    have e1 : x.write i b = { x.spent with uns := x.spent.uns ++ [⟨i, padB b⟩] } := by
      unfold Dv.write
      rw [if_neg (by simp [hd, hh]; omega), if_neg (by rw [hlast]; decide), spent_uns]
      rfl
    have e2 : x.writeE i b = 0 := by unfold Dv.writeE; rw [if_neg hd, if_neg hb, if_neg (by rw [hlast]; decide)]
    rw [e1, e2]
    have hl2 : Calls Try.prog 28 #[.pointer (some ⟨m.r, 0, none⟩)] w (fun e w' => e = .returned (.bool true) ∧ RefAt w' base m x.spent ∧ Grew (fun j => j = m.r) w w' ∧ SrcR w' m.r A b) := hsp.mono fun e w' ⟨h1, h2, h3, h4⟩ => ⟨by rw [h1, hlast], h2, h3, hs.grew h3⟩
    have hu2 : x.spent.uns.length < 4294967296 := by rw [spent_uns]; exact hu
    have hi2 : i < x.spent.sure.length := by rw [spent_sure]; exact hi
    obtain ⟨y, hy⟩ : ∃ y, y = x.spent := ⟨_, rfl⟩
    rw [← hy] at hl2 hu2 hi2 ⊢
    have HL := Lib.hid hl2
    clear h hd hdf hsp hl2 e1 e2 hlast hy hu hP hrow hPl hms hk hh hb hs
    go_enter Try.func11, Try.ntmps11
    go_wp2_with fail
    refine HL.out.mono ?_
    rintro e w1 ⟨rfl, h1, hg, hbs⟩
    have HG := Lib.hid hg
    have H1 := Lib.hid h1
    have HBS := Lib.hid hbs
    clear h1 hg hbs c0 c3
    go_wp2_with fail
    refine (zero_any w1).mono ?_
    rintro e w2 ⟨rfl, hz, hb2⟩
    have HZ := Lib.hid (show Whole w2 w1.heap.size 5 ((padN b 0).map bc) from hz)
    have HB2 := Lib.hid hb2
    clear hz hb2
    go_wp2
    go_loopw [8] (WrRel w1 b) (fun i _ => b.length - (intOf i).toNat)
    case atStart => exact ⟨0, Nat.zero_le _, rfl, HZ.out, HB2.out⟩
    case round =>
      obtain ⟨j, hj, rfl, hz, hbw⟩ := hrel
      have HB := Lib.hid hbw
      by_cases hlt : j < b.length
      · obtain ⟨g, off, rfl, hgb, _, hgc⟩ := HBS.out.below hbw (by intro e; rw [e] at hlt; exact absurd hlt (Nat.not_lt_zero _))
        have cg : wr.cell? ⟨g, off + j, none⟩ = some (.int .u8 (b[j].toNat : Int)) := (hgc j _ (by simp [hlt] : (b.map bc)[j]? = some (bc b[j])) :)
        have cb : wr.cell? ⟨w1.heap.size, j, none⟩ = some (((padN b j).map bc)[j]'(by rw [List.length_map, length_padN hj hn]; omega)) := by
          rw [hz.cell, List.getElem?_eq_getElem]
        have zb : wr.frozen? ⟨w1.heap.size, j, none⟩ = false := hz.frozen j
        have hz2 : Whole (wr.setCell ⟨w1.heap.size, j, none⟩ (.int .u8 (b[j].toNat : Int))) w1.heap.size 5 (((padN b j).map bc).set j (bc b[j])) := hz.set_ j (bc b[j])
        rw [← List.map_set, padN_set hlt hn] at hz2
        have hbw2 : Below w1.heap.size w1 (wr.setCell ⟨w1.heap.size, j, none⟩ (.int .u8 (b[j].toNat : Int))) := (Grew.setCell (F := fun j => j = w1.heap.size) (Grew.all hbw) (a := ⟨w1.heap.size, j, none⟩) (.inl rfl) _).below (fun _ hj => by rw [hj]; exact Nat.le_refl _) (Nat.le_refl _)
        have HZ2 := Lib.hid hz2
        have HBW2 := Lib.hid hbw2
        have hj512 : j < 512 := by omega
        clear hz hz2 hbw hbw2 hgb hgc
        go_wp2
        exact ⟨⟨j + 1, by omega, by go_num, HZ2.out, HBW2.out⟩, by simp [intOf]; omega⟩
      · obtain rfl : j = b.length := by omega
        rw [padN_all] at hz
        obtain ⟨r, s, u⟩ := m
        have hr := H1.out.below hbw
        obtain ⟨vs, huns⟩ := hr.uns
        obtain ⟨Au, cu, rfl, _, _⟩ := own_form huns.row
        have c1 : wr.cell? ⟨r, 1, none⟩ = some (.slice Au y.uns.length cu) := hr.blk.cell 1
        have hv : wr.ownsRow base 5 1 (.slice (some ⟨w1.heap.size, 0, none⟩) 512 512) 512 ((padB b).map bc) := hz.owns (by have h5 := H1.out.blk.lt; have h6 := H1.out.lr; omega) (by rw [List.length_map, length_padB hn]) (by decide)
        have hsz : base ≤ wr.heap.size := by have h5 := hr.blk.lt; have h6 := hr.lr; omega
        have ho2 := fun (o : Obj) => own_keep (w' := wr.alloc o) huns.row fun g hg => Below.heap_alloc wr _ g (huns.row.lt g hg).2
        have hV2 := fun (o : Obj) => (Below.refl wr.heap.size wr).alloc (Nat.le_refl _) o
        have HR := Lib.hid hr
        have HU := Lib.hid huns
        have HV := Lib.hid hv
        have HSZ := Lib.hid hsz
        have HO2 := Lib.hid ho2
        have HV2 := Lib.hid hV2
        obtain ⟨i1, z1, hi1, hz1, hz2, hz3, hz4⟩ := info_row wrt_row
        clear hbw hz hr huns hv hsz ho2 hV2
        go_wp2_with (first
          | (refine wpList_append_at rfl (.tmp 50) (.tmp 54) _ rfl base 48 i1 z1 2 32 Try.underlying38 hi1 hz1 hz2 hz3 hz4 (by decide) _ y.uns.length (wcells y.uns vs) rfl (HO2.out _) (some ⟨wr.heap.size, 0, none⟩) 1 1 (wr.heap.size + 1) [.int .i64 i, .slice (some ⟨w1.heap.size, 0, none⟩) 512 512] rfl rfl (by exact Row.made wr _ _) (wrt_one _ _ _ _) ?c1 ?c2 ?c3 ?_
             case c1 => unfold maxLen; omega
             case c2 => omega
             case c3 => rw [World.size_alloc]; have h5 := HSZ.out; show base ≤ wr.heap.size + 1; omega
             intro v' w3 hown' hg hat
             obtain ⟨hk3, hW3⟩ := rwrite_mid HR.out HU.out (HV2.out _) hg
             have c3 : w3.cell? ⟨r, 1, none⟩ = some (.slice Au y.uns.length cu) := hW3.cell 1
             have z3 : w3.frozen? ⟨r, 1, none⟩ = false := hW3.frozen 1
             have HF := Lib.hid (rwrite_fin (uu := ⟨i, padB b⟩) HR.out HU.out HV.out hi2 (length_padB hn) (HV2.out _) hown' hg)
             obtain ⟨Av, cv, rfl, _, _⟩ := own_form hown'
             clear hown' hg hat hk3 hW3))
        go_ret
        exact ⟨rfl, RWent.spent HG.out (RWent.below HF.out HB.out)⟩

end Go.Proofs.Ytledoajhjkfaoaa
