/-
  MsgCuts in its form for what is not too great: a sound message's bytes without their end are no message, and with bytes more, msg.Decode answers ErrExtra; of messages that take, with what else comes in, at most 1,048,576 values and letters in all. No other condition.
-/
import Derived.Test.YtjkjhpaeckkpjaaMcP1
namespace Go.Proofs.Ytjkjhpaeckkpjaa
open Go.RowKit

/-- An error that Decode answers. -/
theorem DecOut.no {w w' : World} {r : Except Nat Mt} {e : Ending} {k : Nat} (h : DecOut w r e w') (hr : r = .error k) : e = .returned (.tuple #[valM hd0 (.slice none 0 0) (.slice none 0 0) (.slice none 0 0) (.slice none 0 0), .int .i64 k]) ∧ k ≠ 0 ∧ Below w.heap.size w w' := by
  subst hr
  exact ⟨h.2.1, h.2.2, h.1⟩

set_option maxRecDepth 20000 in
set_option maxHeartbeats 8000000 in
theorem mcuts_core (w : World) (m : MV) (h : Hd) (qA : Option Addr) (qc : Nat) (qp : List (QV × Qt)) (A0 A1 A2 : Option Addr) (k0 k1 k2 : Nat) (p0 p1 p2 : List (RV × Rt)) (he : m = ⟨h, qA, qc, qp, ⟨A0, k0, p0⟩, ⟨A1, k1, p1⟩, ⟨A2, k2, p2⟩⟩) (hm : MAt w w.heap.size m) (hs : MSafe m)
    (n : Nat) (hn : n < 65536) (X : Option Addr) (c : Nat) (l : List UInt8) (hX : Row w w.heap.size X (l.map bc)) (hll : l.length ≤ maxLen) (_ : l.length ≤ c) :
    Calls Try.prog 5 #[valM h (.slice qA qp.length qc) (.slice A0 p0.length k0) (.slice A1 p1.length k1) (.slice A2 p2.length k2), .int .u16 n, .slice X l.length c] w (TrueB w) := by
  obtain ⟨i0, hi0, hz0, hz1, hz2⟩ := info_parts u8_info
  have HA := Lib.hid (fun W' => manswers_any W')
  obtain ⟨W, hW⟩ : ∃ W, W = w.alloc (.cells #[.int .i64 h.id, .bool h.resp, .int .i64 h.op, .bool h.aa, .bool h.tc, .bool h.rd, .bool h.ra, .int .i64 h.rc, .slice qA qp.length qc, .slice A0 p0.length k0, .slice A1 p1.length k1, .slice A2 p2.length k2, .bool h.edns, .int .i64 h.size] 25) := ⟨_, rfl⟩
  have hB : Below w.heap.size w W := by rw [hW]; exact (Below.refl _ _).alloc (Nat.le_refl _) _
  have hzW : W.heap.size = w.heap.size + 1 := by rw [hW]; simp
  have hwm : Whole W w.heap.size 25 (cellsM h (.slice qA qp.length qc) (.slice A0 p0.length k0) (.slice A1 p1.length k1) (.slice A2 p2.length k2)) := by rw [hW]; exact Whole.made w [.int .i64 h.id, .bool h.resp, .int .i64 h.op, .bool h.aa, .bool h.tc, .bool h.rd, .bool h.ra, .int .i64 h.rc, .slice qA qp.length qc, .slice A0 p0.length k0, .slice A1 p1.length k1, .slice A2 p2.length k2, .bool h.edns, .int .i64 h.size] _
  have ev : m.val = valM h (.slice qA qp.length qc) (.slice A0 p0.length k0) (.slice A1 p1.length k1) (.slice A2 p2.length k2) := by rw [he]
  have HC := Lib.hid (fun (W' : World) (hb : Below W.heap.size W W') => cells14 (hwm.below hb (by omega)))
  have HMA := Lib.hid (fun (W' : World) (hb : Below W.heap.size W W') => (show MAt W' W'.heap.size m from by
    have hb2 := hB.trans (hb.mono hB.size)
    exact (hm.below hb2).mono hb2.size))
  have HLT := Lib.hid (fun (W' : World) (hb : Below W.heap.size W W') => (show Calls Try.prog 11 #[valM h (.slice qA qp.length qc) (.slice A0 p0.length k0) (.slice A1 p1.length k1) (.slice A2 p2.length k2)] W' (Gave W' (.bool (lightM m.msg))) from by
    have h1 := hs.light W' (HMA.out W' hb)
    rwa [ev] at h1))
  have HIN := Lib.hid (fun (m' : MV) (e : m'.msg = m.msg) (hl : LightM m.msg) => ((hs.small hl).1.same e))
  have HRM := Lib.hid (fun (W' : World) (hb : Below W.heap.size W W') (hl : LightM m.msg) => (show Calls Try.prog 16 #[valM h (.slice qA qp.length qc) (.slice A0 p0.length k0) (.slice A1 p1.length k1) (.slice A2 p2.length k2)] W' (Gave W' (.bool (soundM m.msg))) from by
    have h1 := refmsg_any W' m (HMA.out W' hb) (hs.small hl).1
    rwa [ev] at h1))
  have HOM := Lib.hid (fun (W' : World) (hb : Below W.heap.size W W') (hl : LightM m.msg) => (show Calls Try.prog 13 #[valM h (.slice qA qp.length qc) (.slice A0 p0.length k0) (.slice A1 p1.length k1) (.slice A2 p2.length k2)] W' (OwnMOut W' m.msg) from by
    have h1 := ownMsg_any W' m (HMA.out W' hb) (hs.small hl).1 (hs.small hl).2
    rwa [ev] at h1))
  have HX := Lib.hid (fun (W' : World) (hb : Below W.heap.size W W') => (show Row W' w.heap.size X (l.map bc) from hX.below (hB.trans (hb.mono hB.size))))
  have HB := Lib.hid hB
  have HWB := Lib.hid (Below.refl W.heap.size W)
  unfold maxLen at hll
  clear hB hzW hwm hm hs he ev HMA hX
  generalize m.msg = M at *
  clear m
  subst hW
  go_enter Try.func5, Try.ntmps5
  go_wp2_with fail
  refine (HA.out _).mono ?_
  rintro e w1 ⟨rfl, hb1⟩
  generalize w.alloc (.cells #[.int .i64 h.id, .bool h.resp, .int .i64 h.op, .bool h.aa, .bool h.tc, .bool h.rd, .bool h.ra, .int .i64 h.rc, .slice qA qp.length qc, .slice A0 p0.length k0, .slice A1 p1.length k1, .slice A2 p2.length k2, .bool h.edns, .int .i64 h.size] 25) = V at *
  have HB1 := Lib.hid hb1
  obtain ⟨m0, m1, m2, m3, m4, m5, m6, m7, m8, m9, m10, m11, m12, m13⟩ := HC.out w1 HB1.out
  clear hb1
  go_wp2_with fail
  refine (HLT.out _ HB1.out).mono ?_
  rintro e w2 ⟨rfl, hb2⟩
  have HB2 := Lib.hid (HB1.out.trans (hb2.mono HB1.out.size))
  clear hb2 m0 m1 m2 m3 m4 m5 m6 m7 m8 m9 m10 m11 m12 m13
  cases hl : lightM M with
  | false =>
    go_wp2_with fail
    refine (HA.out _).mono ?_
    rintro e w3 ⟨rfl, hb3⟩
    have HB3 := Lib.hid (HB2.out.trans (hb3.mono HB2.out.size))
    clear hb3
    go_wp2
    go_ret
    exact ⟨rfl, HB.out.trans (HB3.out.mono HB.out.size)⟩
  | true =>
  have HLM := Lib.hid (lightM_iff hl)
  clear hl
  obtain ⟨m0, m1, m2, m3, m4, m5, m6, m7, m8, m9, m10, m11, m12, m13⟩ := HC.out w2 HB2.out
  go_wp2_with fail
  refine (HRM.out _ HB2.out HLM.out).mono ?_
  rintro e w3 ⟨rfl, hb3⟩
  have HB3 := Lib.hid (HB2.out.trans (hb3.mono HB2.out.size))
  clear hb3 m0 m1 m2 m3 m4 m5 m6 m7 m8 m9 m10 m11 m12 m13
  cases hso : soundM M with
  | false =>
    go_wp2_with fail
    refine (HA.out _).mono ?_
    rintro e w4 ⟨rfl, hb4⟩
    have HB4 := Lib.hid (HB3.out.trans (hb4.mono HB3.out.size))
    clear hb4
    go_wp2
    go_ret
    exact ⟨rfl, HB.out.trans (HB4.out.mono HB.out.size)⟩
  | true =>
  have HSM := Lib.hid (soundM_iff.1 hso)
  have HEE := Lib.hid (show encE M = (if 65535 < (encM M).length then .error 4 else .ok (encM M)) from by unfold encE; rw [hso]; rfl)
  clear hso
  obtain ⟨m0, m1, m2, m3, m4, m5, m6, m7, m8, m9, m10, m11, m12, m13⟩ := HC.out w3 HB3.out
  go_wp2_with fail
  refine (HOM.out _ HB3.out HLM.out).mono ?_
  rintro e w4 ⟨m', rfl, hmsg, hown, hb4⟩
  have HB4 := Lib.hid (HB3.out.trans (hb4.mono HB3.out.size))
  have HEC := Lib.hid (encode_any w4 m' hown.at_ (HIN.out m' hmsg HLM.out) hown.owned ⟨own_cap hown.s2.row, own_capM hown.s2.row⟩)
  rw [hmsg] at HEC
  clear hb4 m0 m1 m2 m3 m4 m5 m6 m7 m8 m9 m10 m11 m12 m13 hmsg hown
  obtain ⟨h', qA', qc', qp', s0', s1', s2'⟩ := m'
  go_wp2_with fail
  refine HEC.out.mono ?_
  intro e w5 he5
  rw [HEE.out] at he5
  by_cases hlong : 65535 < (encM M).length
  case pos =>
    rw [if_pos hlong] at he5
    obtain ⟨hb5, rfl⟩ := he5
    have HB5 := Lib.hid (HB4.out.trans (hb5.mono HB4.out.size))
    clear hb5 hlong
    go_wp2
    go_ret
    exact ⟨rfl, HB.out.trans (HB5.out.mono HB.out.size)⟩
  rw [if_neg hlong] at he5
  obtain ⟨hb5, A5, c5, rfl, ho5⟩ := he5
  have HB5 := Lib.hid (HB4.out.trans (hb5.mono HB4.out.size))
  have HO5 := Lib.hid ho5
  have hc5 := own_cap ho5
  have hc5m := own_capM ho5
  have hz45 := hb5.size
  have HDC := Lib.hid (fun k (hk : k < (encM M).length) => dec_cut HSM.out (by omega) hk)
  have HDX := Lib.hid (fun (hx : (encM M ++ l).length ≤ 65535) (hl0 : l ≠ []) => (show decM (encM M ++ l) = .error 7 from by rw [dec_enc HSM.out l hx, if_neg hl0]))
  have h12 : 12 ≤ (encM M).length := by
    have h1 := dec_enc HSM.out [] (by simp; omega)
    simp only [List.append_nil, if_true] at h1
    unfold decM at h1
    rcases Nat.lt_or_ge (encM M).length 12 with h2 | h2
    · rw [if_neg (by omega), if_pos h2] at h1
      cases h1
    · exact h2
  clear hb5 ho5 HEC HEE HLM HSM HLT HIN HRM HOM HC
  generalize encM M = b at *
  unfold maxLen at hc5m
  by_cases e1 : l.length = 0
  · go_wp2
    go_ret
    exact ⟨rfl, HB.out.trans (HB5.out.mono HB.out.size)⟩
  by_cases e2 : l.length ≤ 100
  case neg =>
    go_wp2
    go_ret
    exact ⟨rfl, HB.out.trans (HB5.out.mono HB.out.size)⟩
  by_cases e3 : b.length + l.length ≤ 65535
  case neg =>
    go_wp2
    go_ret
    exact ⟨rfl, HB.out.trans (HB5.out.mono HB.out.size)⟩
  have HL0 := Lib.hid (show l ≠ [] by intro h; rw [h] at e1; exact e1 rfl)
  have HE3 := Lib.hid e3
  have d1 : ((l.length : Int) == 0) = false := by rw [beq_eq_false_iff_ne]; omega
  have d2 : decide ((100 : Int) < (l.length : Int)) = false := decide_eq_false (by omega)
  have d3 : decide ((65535 : Int) < (b.length : Int) + (l.length : Int)) = false := decide_eq_false (by omega)
  obtain ⟨k, hk⟩ : ∃ k, k = n % b.length := ⟨_, rfl⟩
  have hkb : k < b.length := by rw [hk]; exact Nat.mod_lt _ (by omega)
  have hkr : (n : Int) % (b.length : Int) = (k : Int) := by rw [hk]; push_cast; rfl
  have hkt : Int.tmod (n : Int) (b.length : Int) = (k : Int) := by rw [Int.tmod_eq_emod_of_nonneg (by omega)]; exact hkr
  have hbz : ¬ (b.length : Int) = 0 := by omega
  have HR5 := Lib.hid (Row.of_own HO5.out)
  have HKB := Lib.hid hkb
  have hkc : k ≤ c5 := by omega
  have hkl : k ≤ 65535 := by omega
  have HTK := Lib.hid (show (b.take k).length = k by rw [List.length_take]; omega)
  obtain ⟨e6, HE6⟩ := HDC.out k hkb
  have HE6 := Lib.hid HE6
  clear hk e1 e3 hkb hkr HDC
  go_wp2_with (first
    | (at_builtin
       refine wpList_append_row rfl (.tmp 59) (.tmp 66) _ rfl w5.heap.size 5 i0 _ 1 1 Try.underlying28 hi0 hz0 hz1 hz2 rfl (by omega) (.slice (some ⟨w5.heap.size, 0, none⟩) 0 0) 0 [] rfl
         (own_lit _ _ _) A5 k c5 w5.heap.size ((b.take k).map bc) rfl (by rw [List.length_map, HTK.out, Nat.mul_one]) ((by have h1 := HR5.out.take k; rwa [← List.map_take] at h1 : Row w5 w5.heap.size A5 ((b.take k).map bc)).alloc (Nat.le_refl _) _) (bc_one _) (by unfold maxLen; omega) (by omega) (by simp) ?_
       intro v6 w6 hown6 hg6
       simp only [Nat.zero_add, List.nil_append] at hown6
       obtain ⟨A6, c6, rfl, hc6, hc6m⟩ := own_form hown6
       have HO6 := Lib.hid hown6
       have HB6 := Lib.hid (own_below ((Below.refl w5.heap.size w5).alloc (Nat.le_refl _) _) (Nat.le_refl _) (by simp) (own_lit w5 5 1) hg6)
       have HD6 := Lib.hid (decode_any A6 k c6 (b.take k) w6 HTK.out (Row.of_own hown6) hc6 hc6m)
       clear hown6 hg6 hc6 hc6m))
  refine HD6.out.mono ?_
  intro e w7 he7
  obtain ⟨rfl, hne, hb7⟩ := he7.no HE6.out
  have HB7 := Lib.hid (HB6.out.trans (hb7.mono HB6.out.size))
  have d6 : ((e6 : Int) == 0) = false := by rw [beq_eq_false_iff_ne]; omega
  have d7 : ((e6 : Int) != 0) = true := by rw [bne_iff_ne]; omega
  have d8 : ¬ (e6 : Int) = 0 := by omega
  clear he7 hb7 hne HD6 HB6 HO6 hkt hkc hkl
  obtain ⟨W8, hW8⟩ : ∃ W8, W8 = w7.alloc (.cells #[.int .i64 hd0.id, .bool hd0.resp, .int .i64 hd0.op, .bool hd0.aa, .bool hd0.tc, .bool hd0.rd, .bool hd0.ra, .int .i64 hd0.rc, .slice none 0 0, .slice none 0 0, .slice none 0 0, .slice none 0 0, .bool hd0.edns, .int .i64 hd0.size] 25) := ⟨_, rfl⟩
  have hz8 : W8.heap.size = w7.heap.size + 1 := by rw [hW8]; simp
  have hb8 : Below w5.heap.size w5 W8 := by rw [hW8]; exact HB7.out.alloc HB7.out.size _
  have hl8 := own_lit W8 5 1
  have hba := hb8.alloc hb8.size (.cells #[] 5)
  rw [hz8] at hl8
  have HL8 := Lib.hid (own_mono hl8 (show w5.heap.size ≤ w7.heap.size + 1 by have := HB7.out.size; omega))
  have HBA := Lib.hid hba
  have HRB := Lib.hid (HR5.out.below hba)
  have HXX := Lib.hid (fun (W' : World) (hb : Below w5.heap.size w5 W') => HX.out W' (HB5.out.trans (hb.mono HB5.out.size)))
  have hcb : b.length ≤ 65535 := by omega
  clear hz8 hb8 hl8 hba
  subst hW8
  go_wp2_with (first
    | (at_builtin
       refine wpList_append_row rfl (.tmp 72) (.tmp 73) _ rfl w5.heap.size 5 i0 _ 1 1 Try.underlying28 hi0 hz0 hz1 hz2 rfl (by omega) (.slice (some ⟨w7.heap.size + 1, 0, none⟩) 0 0) 0 [] rfl
         HL8.out A5 b.length c5 w5.heap.size (b.map bc) rfl (by rw [List.length_map, Nat.mul_one]) HRB.out (bc_one _) (by unfold maxLen; omega) (by omega) HBA.out.size ?_
       intro v9 w9 hown9 hg9
       simp only [Nat.zero_add, List.nil_append] at hown9
       obtain ⟨A9, c9, rfl, _, _⟩ := own_form hown9
       have HO9 := Lib.hid hown9
       have HB9 := Lib.hid (own_below HBA.out (Nat.le_refl _) HBA.out.size HL8.out hg9)
       clear hown9 hg9)
    | (at_builtin
       refine wpList_append_row rfl (.tmp 74) (.tmp 75) _ rfl w5.heap.size 5 i0 _ 1 1 Try.underlying28 hi0 hz0 hz1 hz2 rfl (by omega) (.slice A9 b.length c9) b.length (b.map bc) rfl
         HO9.out X l.length c w.heap.size (l.map bc) rfl (by rw [List.length_map, Nat.mul_one]) (HXX.out _ HB9.out) (bc_one _) (by unfold maxLen; omega) (by omega) HB9.out.size ?_
       intro v10 w10 hown10 hg10
       rw [← List.map_append] at hown10
       obtain ⟨A10, c10, rfl, hc10, hc10m⟩ := own_form hown10
       have HD10 := Lib.hid (decode_any A10 (b.length + l.length) c10 (b ++ l) w10 (by rw [List.length_append]) (Row.of_own hown10) hc10 hc10m)
       have HB10 := Lib.hid (own_below HB9.out (Nat.le_refl _) HB9.out.size HO9.out hg10)
       clear hown10 hg10 hc10 hc10m))
  refine HD10.out.mono ?_
  intro e w11 he11
  obtain ⟨rfl, hne, hb11⟩ := he11.no (HDX.out (by rw [List.length_append]; exact HE3.out) HL0.out)
  have HB11 := Lib.hid (HB10.out.trans (hb11.mono HB10.out.size))
  clear he11 hb11 hne HD10 HO9 HL8 HRB
  have HBF := Lib.hid (show Below w.heap.size w (w11.alloc (.cells #[.int .i64 hd0.id, .bool hd0.resp, .int .i64 hd0.op, .bool hd0.aa, .bool hd0.tc, .bool hd0.rd, .bool hd0.ra, .int .i64 hd0.rc, .slice none 0 0, .slice none 0 0, .slice none 0 0, .slice none 0 0, .bool hd0.edns, .int .i64 hd0.size] 25)) from
    (HB.out.trans ((HB5.out.trans (HB11.out.mono HB5.out.size)).mono HB.out.size)).alloc (Nat.le_trans HB.out.size (Nat.le_trans HB5.out.size HB11.out.size)) _)
  go_wp2
  go_ret
  exact ⟨rfl, HBF.out⟩
theorem mcuts_any (w : World) (m : MV) (hm : MAt w w.heap.size m) (hs : MSafe m)
    (n : Nat) (hn : n < 65536) (X : Option Addr) (c : Nat) (l : List UInt8) (hX : Row w w.heap.size X (l.map bc)) (hll : l.length ≤ maxLen) (hcl : l.length ≤ c) :
    Calls Try.prog 5 #[m.val, .int .u16 n, .slice X l.length c] w (TrueB w) := by
  obtain ⟨h, qA, qc, qp, ⟨A0, k0, p0⟩, ⟨A1, k1, p1⟩, ⟨A2, k2, p2⟩⟩ := m
  exact mcuts_core w _ h qA qc qp A0 A1 A2 k0 k1 k2 p0 p1 p2 rfl hm hs n hn X c l hX hll hcl

end Go.Proofs.Ytjkjhpaeckkpjaa

namespace Go.Proofs.Ytjkjhpaeckkpjaa
open Go.ChangeShapes Go.WideShapes Go.ChangeAt Go.RowKit

set_option maxRecDepth 100000 in
theorem mcuts_lifted (os : Os) (started : os.Started) (H : Type) (enc : TypeId × Value → H) (F : Stop.Interp) :
    ReturnsInHanded {} Try.checked os 5 .any ((Rows.OpenSpec.upto Rows.msgCutsSpec).pre6 enc Try.prog Try.f5 Rows.msgCutsUptoRow.domain false) (((Rows.OpenSpec.upto Rows.msgCutsSpec).at F).post enc Try.prog Try.f5 false true false false) := by
  refine returnsInHanded_of_cond (C := Try.checked) (s := Rows.OpenSpec.upto Rows.msgCutsSpec) (k := Rows.uptoSmall) rfl Try.own started (by kernel_rfl) Try.func5
    (OpenSpec.witness (enc := enc) (C := Try.checked) (s := Rows.OpenSpec.upto Rows.msgCutsSpec) (k := Rows.uptoSmall) rfl false ⟨#[], #[.agg #[.int .i64 0, .bool false, .int .i64 0, .bool false, .bool false, .bool false, .bool false, .int .i64 0, .slice none 0 0, .slice none 0 0, .slice none 0 0, .slice none 0 0, .bool false, .int .i64 0], .int .u16 0, .slice none 0 0], []⟩ 8 (by kernel_rfl) (by kernel_rfl) (by kernel_rfl)
      (x := ([.agg [.lit (.int .i64 0), .lit (.bool false), .lit (.int .i64 0), .lit (.bool false), .lit (.bool false), .lit (.bool false), .lit (.bool false), .lit (.int .i64 0), .nil, .nil, .nil, .nil, .lit (.bool false), .lit (.int .i64 0)], .lit (.int .u16 0), .nil], [], [])) (by kernel_rfl) rfl (by kernel_rfl)) ?_
  intro W base args ds gs before hval0 hW _ hk0 _
  have hval : ∀ (j : Nat) t v, Try.f5.params[j]? = some t → args[j]? = some v → Value.okWide Try.prog W .any base t v := hval0
  have hW' := hW
  obtain ⟨p, q, hA0, hV, rfl, _, _⟩ := hW
  have hA : DataW.TrodAll enc Try.prog W 0 (fun _ => true) true Try.f5.params.toList args.toList ds p := hA0
  rw [Try.params5] at hA hval
  obtain ⟨v0, v1, v2, d0, d1, d2, p0, p1, p2, rfl, rfl, rfl, h0, h1, h2⟩ := trodAll_three hA
  obtain ⟨rfl, rfl⟩ := trodVars_none hV
  have hk : Rows.uptoBulkAll ([d0, d1, d2] : List (DataW H)) ≤ 1048576 := of_decide_eq_true hk0
  simp only [Rows.uptoBulkAll] at hk
  clear hk0 hA0
  obtain ⟨m0, rfl, hm0, hs0⟩ := open_msg (hval 0 25 v0 rfl rfl) h0 (fun x hx => hW'.lt x (by simp [hx])) (by omega)
  obtain ⟨n1, rfl, rfl, rfl, w1⟩ := open_int Try.underlying38 (hval 1 38 v1 rfl rfl) h1
  obtain ⟨A2, m2, c2, l2, rfl, hl2, hr2, hc2, hm2, hcm2, hd2⟩ := open_row_u8c u8_cells Try.underlying28 (hval 2 28 v2 rfl rfl) h2 (fun x hx => hW'.lt x (by simp [hx]))
  have key : Calls Try.prog 5 #[m0.val, .int .u16 n1, .slice A2 m2 c2] W (TrueB W) := by
    obtain ⟨n, rfl, hn⟩ := u16_nat w1
    subst hl2
    exact mcuts_any W m0 hm0 hs0 n hn A2 c2 l2 hr2 hm2 hc2
  refine key.mono fun e W' ⟨he, hb⟩ => ?_
  subst he
  exact ⟨_, rfl, law_post (P := Try.prog) (tb := 4) Try.laidOut (by kernel_rfl) (by kernel_rfl) (by kernel_rfl) Try.underlying4 rfl hW' rfl rfl rfl hb⟩

theorem mcuts_holds : Rows.MsgCutsUptoSaid :=
  OpenClaim.holds_of_cond 5 Try.f5 rfl rfl rfl rfl rfl rfl rfl ⟨rfl, rfl, rfl, rfl, rfl⟩ rfl rfl rfl rfl rfl (by kernel_rfl) Try.func5 (by kernel_rfl)
    (of_decide_eq_true (by kernel_rfl)) (by unfold Func.isWrapper; first | (rw [if_pos (by decide +kernel)]; kernel_rfl) | (rw [if_neg (by decide +kernel)]; exact ⟨rfl, rfl⟩))
    (fun os started H enc _ F => mcuts_lifted os started H enc F)

end Go.Proofs.Ytjkjhpaeckkpjaa
