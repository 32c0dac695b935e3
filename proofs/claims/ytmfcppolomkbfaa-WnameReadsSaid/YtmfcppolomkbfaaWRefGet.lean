/-
  The contract of the document's Get of a name.
-/
import Derived.Test.YtmfcppolomkbfaaWGet
import Derived.Test.YtmfcppolomkbfaaSize
namespace Go.Proofs.Ytmfcppolomkbfaa
open Go.RowKit

/-- How the document's answer keeps the place behind the name. -/
def nxV (x : Nat) : Int := if x = 0 then -1 else x
theorem nxV_zero : nxV 0 = -1 := rfl
theorem nxV_pos {x : Nat} (h : x ≠ 0) : nxV x = x := by rw [nxV, if_neg h]
theorem nextR_pos {x y : Nat} (h : x ≠ 0) : nextR x y = x := by rw [nextR, if_neg h]
theorem nextR_zero (y : Nat) : nextR 0 y = y := rfl

def RefGetRel (w : World) (b : List UInt8) (a : Nat) (p v q x : Value) (wr : World) : Prop :=
  ∃ p' q' x' n, p = .int .i64 (p' : Nat) ∧ q = .int .i64 (q' : Nat) ∧ x = .int .i64 (nxV x') ∧ wr.ownsRow w.heap.size 9 1 v n.length (n.map sv) ∧ Below w.heap.size w wr ∧ w.heap.size ≤ wr.heap.size ∧
    szN n ≤ 255 ∧ q' ≤ p' ∧ (p' ≤ a ∨ p' ≤ b.length) ∧ getR b a a 0 [] = getR b p' q' x' n

theorem left_ptr {q q' p p' L : Nat} (h : q' < q) : q' * (L + 1) + (L - p') < q * (L + 1) + (L - p) := by
  have h1 : (q' + 1) * (L + 1) ≤ q * (L + 1) := Nat.mul_le_mul_right _ h
  rw [Nat.add_mul] at h1
  omega
theorem left_label {q p p' L : Nat} (h : p < p') (hp : p < L) : q * (L + 1) + (L - p') < q * (L + 1) + (L - p) := by omega

def leftV (m : Nat) (p q : Value) : Nat := (intOf q).toNat * (m + 1) + (m - (intOf p).toNat)
theorem leftV_eq (m p q : Nat) : leftV m (.int .i64 p) (.int .i64 q) = q * (m + 1) + (m - p) := rfl
theorem ret_read {v k : Value} {a b : Nat} (h : a = b) : Ending.returned (.tuple #[v, .int .i64 (a : Int), k]) = .returned (.tuple #[v, .int .i64 (b : Int), k]) := by rw [h]

set_option maxRecDepth 100000 in
set_option maxHeartbeats 4000000 in
theorem wref_at (A : Option Addr) (m cap : Nat) (b : List UInt8) (a : Nat) (w : World) (hbl : b.length = m) (hrow : Row w w.heap.size A (b.map bc)) (hcap : cap ≤ maxLen) (hc : m ≤ cap) (ha : a ≤ 9223372036854775807) :
    Calls Try.prog 23 #[.slice A m cap, .int .i64 a] w (Read w (getR b a a 0 [])) := by
  unfold maxLen at hcap
  obtain ⟨i0, hi0, hz0, hz1, hz2⟩ := info_parts str_info
  have HW := Lib.hid hrow
  have HL := Lib.hid hbl
  clear hrow hbl
  go_enter Try.func23, Try.ntmps23
  go_wp2
  go_loopw [1, 7, 8, 9] (RefGetRel w b a) (fun p _ q _ _ => leftV m p q)
  case atStart => exact ⟨a, a, 0, [], rfl, rfl, rfl, World.ownsRow_nil _ _ _ _, Below.refl _ _, Nat.le_refl _, by decide, Nat.le_refl _, .inl (Nat.le_refl _), rfl⟩
  case round =>
    obtain ⟨p, q, x, n, rfl, rfl, rfl, ho, hb, hz, hsz, hqp, hpa, hg⟩ := hrel
    rw [HL.out] at hpa
    obtain ⟨A1, c1, rfl, _, _⟩ := own_form ho
    obtain ⟨v, hv9⟩ : ∃ v, v = Value.slice A1 n.length c1 := ⟨_, rfl⟩
    rw [← hv9] at ho ⊢
    clear hv9
    have HO := Lib.hid ho
    have HB := Lib.hid hb
    have HG := Lib.hid hg
    clear ho hb hg
    by_cases hp : p < m
    · have hpb : p < b.length := by rw [HL.out]; exact hp
      obtain ⟨y, hy⟩ : ∃ y, b[p] = y := ⟨_, rfl⟩
      obtain ⟨bb, off, rfl, hbb, hcs⟩ := (HW.out.below HB.out).some_ (by rw [List.length_map]; omega)
      have hcp : wr.cell? ⟨bb, off + p, none⟩ = some (.int .u8 y.toNat) := hcs p (bc y) (by rw [List.getElem?_map, List.getElem?_eq_getElem hpb, hy]; rfl)
      have HC := Lib.hid hcs
      have HY := Lib.hid hy
      have hlt := y.toNat_lt
      clear hcs hy
      by_cases h0 : y.toNat = 0
      · have HE := Lib.hid (HG.out.trans (getR_zero hpb (by rw [HY.out]; exact h0)))
        rw [h0] at hcp
        clear h0
        by_cases hx : x = 0
        · subst hx
          rw [nxV_zero]
          go_wp2
          go_ret3
          exact ⟨v, by rw [HE.out]; rfl, by rw [HE.out]; exact HO.out, HB.out⟩
        · rw [nxV_pos hx]
          have HX := Lib.hid (nextR_pos (y := p + 1) hx)
          have d1 : decide ((x : Int) < 0) = false := by simp
          clear hx
          go_wp2
          go_ret3
          exact ⟨v, by rw [HE.out]; exact ret_read HX.out.symm, by rw [HE.out]; exact HO.out, HB.out⟩
      · have t0 : ((y.toNat : Int) == 0) = false := by rw [beq_eq_false_iff_ne]; omega
        by_cases h192 : 192 ≤ y.toNat
        · have t1 : decide (192 ≤ (y.toNat : Int)) = true := by simp; omega
          by_cases hp1 : p + 1 < m
          · have hpb1 : p + 1 < b.length := by rw [HL.out]; exact hp1
            have d3 : decide ((m : Int) ≤ (p : Int) + 1) = false := by simp; omega
            obtain ⟨z, hz0'⟩ : ∃ z, b[p + 1] = z := ⟨_, rfl⟩
            have HZ := Lib.hid hz0'
            have hcp1 : wr.cell? ⟨bb, off + (p + 1), none⟩ = some (.int .u8 z.toNat) := HC.out (p + 1) (bc z) (by rw [List.getElem?_map, List.getElem?_eq_getElem hpb1, HZ.out]; rfl)
            clear hz0'
            have hlz := z.toNat_lt
            obtain ⟨t, ht⟩ : ∃ t, t = toR y z := ⟨_, rfl⟩
            have hv : ((y.toNat : Int) - 192) * 256 + (z.toNat : Int) = (t : Int) := by rw [ht]; unfold toR; omega
            by_cases hq : t < q
            · have hgp := getR_ptr (b := b) (p := p) (q := q) (x := x) (n := n) hpb hpb1 (by rw [HY.out]; exact h192) (by rw [HY.out, HZ.out, ← ht]; exact hq)
              rw [HY.out, HZ.out, ← ht] at hgp
              have HE := Lib.hid (HG.out.trans hgp)
              have d4 : decide ((q : Int) ≤ (t : Int)) = false := by simp; omega
              have d5 : decide (q ≤ t) = false := by simp; omega
              have hl := left_ptr (p := p) (p' := t) (L := m) hq
              have HLt := Lib.hid hl
              clear ht hgp hl
              by_cases hx : x = 0
              · subst hx
                rw [nxV_zero]
                go_wp2
                refine ⟨⟨t, t, p + 2, n, rfl, rfl, ?_, HO.out, HB.out, hz, hsz, Nat.le_refl _, .inr (by rw [HL.out]; omega), HE.out⟩, ?_⟩
                · rw [nxV_pos (by omega)]; go_num
                · rw [leftV_eq, leftV_eq]; exact HLt.out
              · rw [nxV_pos hx]
                have HX := Lib.hid (nextR_pos (y := p + 2) hx)
                have HX2 := Lib.hid (nxV_pos hx)
                have d1 : decide ((x : Int) < 0) = false := by simp
                clear hx
                go_wp2
                refine ⟨⟨t, t, x, n, rfl, rfl, by rw [HX2.out], HO.out, HB.out, hz, hsz, Nat.le_refl _, .inr (by rw [HL.out]; omega), by rw [← HX.out]; exact HE.out⟩, ?_⟩
                rw [leftV_eq, leftV_eq]; exact HLt.out
            · have HE := Lib.hid (HG.out.trans (getR_loop hpb hpb1 (by rw [HY.out]; exact h192) (by rw [HY.out, HZ.out, ← ht]; omega)))
              have d4 : decide ((q : Int) ≤ (t : Int)) = true := by simp; omega
              have d5 : decide (q ≤ t) = true := by simp; omega
              clear ht
              by_cases hx : x = 0
              · subst hx
                rw [nxV_zero]
                go_wp2
                go_ret3
                exact ⟨.slice none 0 0, by rw [HE.out]; rfl, by rw [HE.out]; exact World.ownsRow_nil _ _ _ _, HB.out⟩
              · rw [nxV_pos hx]
                have d1 : decide ((x : Int) < 0) = false := by simp
                clear hx
                go_wp2
                go_ret3
                exact ⟨.slice none 0 0, by rw [HE.out]; rfl, by rw [HE.out]; exact World.ownsRow_nil _ _ _ _, HB.out⟩
          · have HE := Lib.hid (HG.out.trans (getR_half hpb (by rw [HY.out]; exact h192) (by rw [HL.out]; omega)))
            have d3 : decide ((m : Int) ≤ (p : Int) + 1) = true := by simp; omega
            go_wp2
            go_ret3
            exact ⟨.slice none 0 0, by rw [HE.out]; rfl, by rw [HE.out]; exact World.ownsRow_nil _ _ _ _, HB.out⟩
        · have t1 : decide (192 ≤ (y.toNat : Int)) = false := by simp; omega
          by_cases h64 : 64 ≤ y.toNat
          · have t2 : decide (64 ≤ (y.toNat : Int)) = true := by simp; omega
            have HE := Lib.hid (HG.out.trans (getR_bad hpb (by rw [HY.out]; exact h64) (by rw [HY.out]; omega)))
            go_wp2
            go_ret3
            exact ⟨.slice none 0 0, by rw [HE.out]; rfl, by rw [HE.out]; exact World.ownsRow_nil _ _ _ _, HB.out⟩
          · have t2 : decide (64 ≤ (y.toNat : Int)) = false := by simp; omega
            by_cases hs : p + 1 + y.toNat ≤ m
            · obtain ⟨f, hf⟩ : ∃ f, f = p + 1 := ⟨_, rfl⟩
              obtain ⟨l, hl⟩ : ∃ l, l = cutL b f y.toNat := ⟨_, rfl⟩
              have hll : l.length = y.toNat := by rw [hl]; exact length_cutL (by rw [HL.out, hf]; exact hs)
              have t3 : decide ((m : Int) - (p : Int) - 1 < (y.toNat : Int)) = false := by simp; omega
              have hcv := convert_row_run (P := Try.prog) wr 26 9 5 Try.underlying26 Try.underlying5 Try.underlying9 (some ⟨bb, off + f, none⟩) y.toNat (cap - f) w.heap.size l hll
                (by have := (((HW.out.below HB.out).drop rfl (k := f)).take y.toNat); rw [← List.map_drop, ← List.map_take] at this; rw [hl]; exact this)
              have HLB := Lib.hid (fun h5 => getR_label (b := b) (p := p) (q := q) (x := x) (n := n) hpb (by rw [HY.out]; exact h0) (by rw [HY.out]; omega) (by rw [HY.out, HL.out]; exact hs) h5)
              have HLG := Lib.hid (fun h5 => getR_long (b := b) (p := p) (q := q) (x := x) (n := n) hpb (by rw [HY.out]; exact h0) (by rw [HY.out]; omega) (by rw [HY.out, HL.out]; exact hs) h5)
              rw [HY.out, ← hf, ← hl] at HLB
              rw [HY.out] at HLG
              have hfi : (p : Int) + 1 = (f : Int) := by omega
              have hfp : f = p + 1 := hf
              have HF := Lib.hid hfp
              have HLL := Lib.hid hll
              have HSN := Lib.hid (show szN (n ++ [l]) = szN n + 1 + y.toNat by rw [szN_snoc, hll]; omega)
              have hfs : f + y.toNat ≤ m := by omega
              have hpf : p < f := by omega
              have e0 : (0 : Int) ≤ f := by omega
              have e1 : (f : Int) ≤ (f : Int) + (y.toNat : Int) := by omega
              have e2 : (f : Int) + (y.toNat : Int) ≤ cap := by omega
              have hcf : (cap = f) = False := by simp; omega
              have htn : ((f : Int) + (y.toNat : Int)).toNat - f = y.toNat := by omega
              have hnl : n.length ≤ 254 := by have := length_lt_szN n; omega
              clear hf hl hll hfp
              have HR1 := Lib.hid (Row.made wr #[.string ⟨l.toArray⟩] 9)
              go_wp2_with (
                at_builtin
                refine wpList_append_row rfl (.tmp 67) (.tmp 77) _ rfl w.heap.size 9 i0 _ 1 16 Try.underlying31 hi0 hz0 hz1 hz2 rfl (by omega) v n.length _ rfl (HO.out.alloc _)
                  (some ⟨wr.heap.size, 0, none⟩) 1 1 (wr.heap.size + 1) [.string ⟨l.toArray⟩] rfl rfl HR1.out (by simp [Value.oneCell']) (by unfold maxLen; omega) (by omega) (by simp; omega) ?_
                intro v2 w2 hown2 hg2
                obtain ⟨A2, c2, rfl, _, _⟩ := own_form hown2
                rw [show n.map sv ++ [.string ⟨l.toArray⟩] = (n ++ [l]).map sv by simp [sv]] at hown2
                have HO2 := Lib.hid hown2
                have hs2 := hg2.size
                have HB2 := Lib.hid (own_below (HB.out.alloc hz (.cells #[.string ⟨l.toArray⟩] 9)) (Nat.le_refl _) (by simp; omega) (HO.out.alloc _) hg2)
                clear hown2 hg2)
              refine (ref_size_any A2 (n.length + 1) c2 w2.heap.size (n ++ [l]) w2 (by simp) (Row.of_own HO2.out) (by rw [HSN.out]; unfold maxLen; omega)).mono ?_
              rintro e w' ⟨rfl, rfl⟩
              rw [HSN.out]
              by_cases h255 : szN n + 1 + y.toNat ≤ 255
              · have HE := Lib.hid (HG.out.trans (HLB.out h255))
                have d8 : decide (255 < ((szN n + 1 + y.toNat : Nat) : Int)) = false := by simp; omega
                go_wp2
                refine ⟨⟨f + y.toNat, q, x, n ++ [l], by go_num, rfl, rfl, by simpa using HO2.out, HB2.out, ?_, by rw [HSN.out]; exact h255, by omega, .inr (by rw [HL.out]; omega), HE.out⟩, ?_⟩
                · simp at hs2; omega
                · show leftV m (.int .i64 ((f + y.toNat : Nat) : Int)) _ < _
                  rw [leftV_eq, leftV_eq]; exact left_label (by omega) hp
              · have HE := Lib.hid (HG.out.trans (HLG.out (by omega)))
                have d8 : decide (255 < ((szN n + 1 + y.toNat : Nat) : Int)) = true := by simp; omega
                go_wp2
                go_ret3
                exact ⟨.slice none 0 0, by rw [HE.out]; rfl, by rw [HE.out]; exact World.ownsRow_nil _ _ _ _, HB2.out⟩
            · have t3 : decide ((m : Int) - (p : Int) - 1 < (y.toNat : Int)) = true := by simp; omega
              have HE := Lib.hid (HG.out.trans (getR_short hpb (by rw [HY.out]; exact h0) (by rw [HY.out]; omega) (by rw [HY.out, HL.out]; omega)))
              go_wp2
              go_ret3
              exact ⟨.slice none 0 0, by rw [HE.out]; rfl, by rw [HE.out]; exact World.ownsRow_nil _ _ _ _, HB.out⟩
    · have hpb : b.length ≤ p := by rw [HL.out]; omega
      have HE := Lib.hid (HG.out.trans (getR_end hpb))
      clear hpb
      go_wp2
      go_ret3
      exact ⟨.slice none 0 0, by rw [HE.out]; rfl, by rw [HE.out]; exact World.ownsRow_nil _ _ _ _, HB.out⟩

set_option maxRecDepth 100000 in
set_option maxHeartbeats 400000 in
theorem wref_neg (A : Option Addr) (m cap : Nat) (a : Int) (w : World) (ha : a < 0) :
    Calls Try.prog 23 #[.slice A m cap, .int .i64 a] w (Read w ([], 0, 1)) := by
  have d1 : decide (a < 0) = true := by simp; omega
  go_enter Try.func23, Try.ntmps23
  go_wp2
  go_ret3
  exact ⟨.slice none 0 0, rfl, World.ownsRow_nil _ _ _ _, Below.refl _ _⟩

theorem wref_any (A : Option Addr) (m cap : Nat) (b : List UInt8) (a : Int) (w : World) (hbl : b.length = m) (hrow : Row w w.heap.size A (b.map bc)) (hcap : cap ≤ maxLen) (hc : m ≤ cap) (ha : a ≤ 9223372036854775807) :
    Calls Try.prog 23 #[.slice A m cap, .int .i64 a] w (Read w (getW b a)) := by
  by_cases h : a < 0
  · rw [getW_neg h]
    exact wref_neg A m cap a w h
  · obtain ⟨n, rfl⟩ : ∃ n : Nat, a = n := ⟨a.toNat, by omega⟩
    rw [getW_at]
    exact wref_at A m cap b n w hbl hrow hcap hc (by omega)

end Go.Proofs.Ytmfcppolomkbfaa
