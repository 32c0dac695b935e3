/-
  The contract of the document's Parse.
-/
import Derived.Test.YtiegneopolffoaaParse
import Derived.Test.YtiegneopolffoaaRefText
namespace Go.Proofs.Ytiegneopolffoaa
open Go.RowKit

/-- What the document's give answers. -/
def giveV (n : List (List UInt8)) (A : Option Addr) (c : Nat) : Value := if soundN n = true then .tuple #[.slice A n.length c, .bool true] else .tuple #[.slice none 0 0, .bool false]

set_option maxHeartbeats 400000 in
theorem give_any (A : Option Addr) (c H : Nat) (n : List (List UInt8)) (w : World) (hA : Row w H A (n.map sv)) (hs : szN n ≤ maxLen) :
    Calls Try.prog 37 #[.slice A n.length c] w (Told w (giveV n A c)) := by
  have hsn := fun W h => ref_sound_any A n.length c H n W rfl h hs
  have HA := Lib.hid hA
  clear hA
  cases hf : soundN n
  · rw [hf] at hsn
    have HS := Lib.hid hsn
    have HG := Lib.hid (show giveV n A c = .tuple #[.slice none 0 0, .bool false] by unfold giveV; rw [hf]; rfl)
    clear hsn hf
    go_enter Try.func37, Try.ntmps37
    go_wp2_with fail
    refine (HS.out _ HA.out).mono ?_
    rintro e w' ⟨rfl, rfl⟩
    go_wp2
    go_ret2
    exact ⟨by rw [HG.out]; rfl, rfl⟩
  · rw [hf] at hsn
    have HS := Lib.hid hsn
    have HG := Lib.hid (show giveV n A c = .tuple #[.slice A n.length c, .bool true] by unfold giveV; rw [hf]; rfl)
    clear hsn hf
    go_enter Try.func37, Try.ntmps37
    go_wp2_with fail
    refine (HS.out _ HA.out).mono ?_
    rintro e w' ⟨rfl, rfl⟩
    go_wp2
    go_ret2
    exact ⟨by rw [HG.out]; rfl, rfl⟩

/-- Behind give the answer is right. -/
theorem give_of {w wr : World} {n : List (List UInt8)} {A : Option Addr} {c : Nat} {x : Option (List (List UInt8))} (hx : chk (some n) = x) (hown : wr.ownsRow w.heap.size 9 1 (.slice A n.length c) n.length (n.map sv)) (hb : Below w.heap.size w wr) :
    ParseOf w x (.returned (giveV n A c)) wr := by
  unfold giveV
  cases hf : soundN n
  · have : x = none := by rw [← hx]; simp [chk, hf]
    subst this
    exact ⟨none, 0, rfl, World.ownsRow_nil _ _ _ _, hb⟩
  · have : x = some n := by rw [← hx]; simp [chk, hf]
    subst this
    exact ⟨A, c, rfl, hown, hb⟩
theorem none_of {w wr : World} {x : Option (List (List UInt8))} (hx : x = none) (hb : Below w.heap.size w wr) : ParseOf w x (.returned (.tuple #[.slice none 0 0, .bool false])) wr := by
  subst hx
  exact ⟨none, 0, rfl, World.ownsRow_nil _ _ _ _, hb⟩

def RPRel (w : World) (s : List UInt8) (x : Option (List (List UInt8))) (o lb v : Value) (wr : World) : Prop :=
  ∃ (i : Nat) (out : List (List UInt8)) (lab : List UInt8), i ≤ s.length ∧ v = .int .i64 i ∧ lb = .string ⟨lab.toArray⟩ ∧ chk (tot out lab (s.drop i)) = x ∧ szN out + lab.length ≤ 2 * i + 1 ∧
    wr.ownsRow w.heap.size 9 1 o out.length (out.map sv) ∧ Below w.heap.size w wr ∧ w.heap.size ≤ wr.heap.size

theorem bsz (s : List UInt8) : (ByteArray.mk s.toArray).size = s.length := by simp [ByteArray.size]
theorem byte_drop {s l : List UInt8} {i : Nat} (h : s.drop i = l) (j : Nat) (hj : j < l.length) (hb : i + j < (ByteArray.mk s.toArray).size) : (ByteArray.mk s.toArray)[i + j]'hb = l[j] := by
  subst h
  rw [List.getElem_drop]
  rfl

set_option maxRecDepth 100000 in
set_option maxHeartbeats 400000 in
theorem ref_parse_dot (w : World) : Calls Try.prog 20 #[.string ⟨[46].toArray⟩] w (ParseOf w (some [])) := by
  go_enter Try.func20, Try.ntmps20
  go_wp2
  go_ret2
  exact ⟨none, 0, rfl, World.ownsRow_nil _ _ _ _, Below.refl _ _⟩

set_option maxRecDepth 100000 in
set_option maxHeartbeats 8000000 in
theorem ref_parse_else (s : List UInt8) (w : World) (hs : s.length ≤ 100000) (hd : ¬ s = [46]) :
    Calls Try.prog 20 #[.string ⟨s.toArray⟩] w (ParseOf w (parseN s)) := by
  have hx : parseN s = chk (tot [] [] s) := by unfold parseN; rw [if_neg hd]
  generalize parseN s = x at hx
  obtain ⟨i0, hi0, hz0, hz1, hz2⟩ := info_parts str_info
  have t0 : (s == [46]) = false := by rw [beq_eq_false_iff_ne]; exact hd
  have HX := Lib.hid hx
  clear hd hx
  go_enter Try.func20, Try.ntmps20
  go_wp2
  go_loopw [4, 5, 6] (RPRel w s x) (fun _ _ v _ => s.length - (intOf v).toNat)
  case atStart => exact ⟨0, [], [], Nat.zero_le _, rfl, rfl, HX.out.symm, by simp [szN], World.ownsRow_nil _ _ _ _, Below.refl _ _, Nat.le_refl _⟩
  case round =>
    obtain ⟨i, out, lab, hi, rfl, rfl, hchk, hsz, hown, hbw, hz⟩ := hrel
    obtain ⟨A1, c1, rfl, hc1, hc2⟩ := own_form hown
    have hol := length_lt_szN out
    have HO := Lib.hid hown
    have HB := Lib.hid hbw
    have HR1 := Lib.hid (Row.made wr #[.string ⟨lab.toArray⟩] 9)
    clear hown hbw
    by_cases hlt : i < s.length
    · obtain ⟨c, t, hct⟩ : ∃ c t, s.drop i = c :: t := ⟨s[i], s.drop (i + 1), List.drop_eq_getElem_cons hlt⟩
      have hln : s.length = i + 1 + t.length := by
        have := congrArg List.length hct
        rw [List.length_drop, List.length_cons] at this
        omega
      have b0 : (ByteArray.mk s.toArray)[i]'(by rw [bsz]; omega) = c := byte_drop hct 0 (by simp) (by rw [bsz]; omega)
      have hnx : ∀ k, s.drop (i + k) = (c :: t).drop k := fun k => by rw [← hct, List.drop_drop]
      have hstep : ∀ b k, ¬ c.toNat = 46 → readC (c :: t) = some (b, k) → chk (tot out (lab ++ [b]) (s.drop (i + k))) = x := fun b k h1 h2 => by
        rw [hnx k, ← tot_some out lab t h1 h2, ← hct]; exact hchk
      have hnone : ¬ c.toNat = 46 → readC (c :: t) = none → x = none := fun h1 h2 => by
        rw [← hchk, hct, tot_none out lab t h1 h2]; rfl
      have HST := Lib.hid hstep
      have HNO := Lib.hid hnone
      have hc := c.toNat_lt
      clear hstep hnone
      by_cases h46 : c.toNat = 46
      · have e46 : ((c.toNat : Int) == 46) = true := by rw [h46]; rfl
        have hsn : szN (out ++ [lab]) ≤ maxLen := by rw [szN_snoc]; unfold maxLen; omega
        have hsn2 : szN (out ++ [lab]) ≤ 2 * (i + 1) + 1 := by rw [szN_snoc]; omega
        rcases t with _ | ⟨d, t⟩
        · have hfin : chk (some (out ++ [lab])) = x := by rw [← hchk, hct, tot_end out lab h46]
          have HF := Lib.hid hfin
          simp only [List.length_nil, Nat.add_zero] at hln
          have e1 : ((i : Int) + 1 == (s.length : Int)) = true := by rw [beq_iff_eq]; omega
          clear hchk hct hnx hfin h46 hln
          go_wp2_with (
            at_builtin
            refine wpList_append_row rfl (.tmp 21) (.tmp 23) _ rfl w.heap.size 9 i0 _ 1 16 Try.underlying22 hi0 hz0 hz1 hz2 rfl (by omega) (.slice A1 out.length c1) out.length _ rfl (HO.out.alloc _)
              (some ⟨wr.heap.size, 0, none⟩) 1 1 (wr.heap.size + 1) [.string ⟨lab.toArray⟩] rfl rfl HR1.out (by simp [Value.oneCell']) (by unfold maxLen; omega) (by omega) (by simp; omega) ?_
            intro v2 w2 hown2 hg2
            obtain ⟨A2, c2, rfl, _, _⟩ := own_form hown2
            rw [show out.map sv ++ [.string ⟨lab.toArray⟩] = (out ++ [lab]).map sv by simp [sv], show out.length + 1 = (out ++ [lab]).length by simp] at hown2
            have HO2 := Lib.hid hown2
            have HG2 := Lib.hid hg2
            clear hown2 hg2)
          have HB2 := Lib.hid (own_below (HB.out.alloc hz (.cells #[.string ⟨lab.toArray⟩] 9)) (Nat.le_refl _) (by simp; omega) (HO.out.alloc _) HG2.out)
          have hgv := give_any A2 c2 w2.heap.size (out ++ [lab]) w2 (Row.of_own HO2.out) hsn
          rw [show (out ++ [lab]).length = out.length + 1 by simp] at hgv
          have HGV := Lib.hid hgv
          clear hgv
          refine HGV.out.mono ?_
          rintro e w' ⟨rfl, rfl⟩
          have hfin := give_of HF.out HO2.out HB2.out
          clear hsn2
          cases hf : soundN (out ++ [lab])
          · have hg : giveV (out ++ [lab]) A2 c2 = .tuple #[.slice none 0 0, .bool false] := by unfold giveV; rw [hf]; rfl
            rw [hg] at hfin ⊢
            have HFIN := Lib.hid hfin
            clear hfin hf hg
            go_wp2
            go_ret2
            exact HFIN.out
          · have hg : giveV (out ++ [lab]) A2 c2 = .tuple #[.slice A2 (out.length + 1) c2, .bool true] := by unfold giveV; rw [hf, show (out ++ [lab]).length = out.length + 1 by simp]; rfl
            rw [hg] at hfin ⊢
            have HFIN := Lib.hid hfin
            clear hfin hf hg
            go_wp2
            go_ret2
            exact HFIN.out
        · have hfin : chk (tot (out ++ [lab]) [] (s.drop (i + 1))) = x := by rw [hnx 1, List.drop_succ_cons, List.drop_zero, ← tot_dot out lab _ h46 (by simp), ← hct]; exact hchk
          have HF := Lib.hid hfin
          simp only [List.length_cons] at hln
          have hl1 : i + 2 ≤ s.length := by omega
          have e1 : ((i : Int) + 1 == (s.length : Int)) = false := by rw [beq_eq_false_iff_ne]; omega
          clear hchk hct hnx hfin h46 hln hsn
          go_wp2_with (
            at_builtin
            refine wpList_append_row rfl (.tmp 21) (.tmp 23) _ rfl w.heap.size 9 i0 _ 1 16 Try.underlying22 hi0 hz0 hz1 hz2 rfl (by omega) (.slice A1 out.length c1) out.length _ rfl (HO.out.alloc _)
              (some ⟨wr.heap.size, 0, none⟩) 1 1 (wr.heap.size + 1) [.string ⟨lab.toArray⟩] rfl rfl HR1.out (by simp [Value.oneCell']) (by unfold maxLen; omega) (by omega) (by simp; omega) ?_
            intro v2 w2 hown2 hg2
            obtain ⟨A2, c2, rfl, _, _⟩ := own_form hown2
            rw [show out.map sv ++ [.string ⟨lab.toArray⟩] = (out ++ [lab]).map sv by simp [sv], show out.length + 1 = (out ++ [lab]).length by simp] at hown2
            have HO2 := Lib.hid hown2
            have HG2 := Lib.hid hg2
            clear hown2 hg2)
          have HB2 := Lib.hid (own_below (HB.out.alloc hz (.cells #[.string ⟨lab.toArray⟩] 9)) (Nat.le_refl _) (by simp; omega) (HO.out.alloc _) HG2.out)
          have hz2 : w.heap.size ≤ w2.heap.size := by have h := HG2.out.size; simp at h; omega
          refine ⟨⟨i + 1, out ++ [lab], [], by omega, by go_num, rfl, HF.out, by simpa using hsn2, by have h := HO2.out; rw [show (out ++ [lab]).length = out.length + 1 by simp] at h ⊢; exact h, HB2.out, hz2⟩, by simp [intOf]; omega⟩
      · have e46 : ((c.toNat : Int) == 46) = false := by rw [beq_eq_false_iff_ne]; omega
        by_cases hp : 33 ≤ c.toNat ∧ c.toNat ≤ 126
        · obtain ⟨p1, p2⟩ := hp
          have t3 : decide ((c.toNat : Int) < 33) = false := by simp; omega
          have t4 : decide (126 < (c.toNat : Int)) = false := by simp; omega
          by_cases h92 : c.toNat = 92
          · have t5 : ((c.toNat : Int) != 92) = false := by rw [h92]; rfl
            rcases t with _ | ⟨d, t⟩
            · have HN := Lib.hid (HNO.out h46 (by simp [readC, h92]))
              have hl1 : s.length ≤ i + 1 := by simp at hln; omega
              clear h46 h92 hchk hct hnx hln
              go_wp2
              go_ret2
              exact none_of HN.out HB.out
            · simp only [List.length_cons] at hln
              have hl1 : i + 2 + t.length ≤ s.length := by omega
              have hl2 : s.length ≤ i + 2 + t.length := by omega
              clear hln
              have b1 : (ByteArray.mk s.toArray)[i + 1]'(by rw [bsz]; omega) = d := byte_drop hct 1 (by simp) (by rw [bsz]; omega)
              have h1 := d.toNat_lt
              by_cases hdg : 48 ≤ d.toNat ∧ d.toNat ≤ 57
              · obtain ⟨g1, g2⟩ := hdg
                have t6 : decide ((d.toNat : Int) < 48) = false := by simp; omega
                have t7 : decide (57 < (d.toNat : Int)) = false := by simp; omega
                have HRC := Lib.hid (show readC (c :: d :: t) = (readN (d :: t)).map fun b => (b, 4) by simp [readC, h92, digB_yes ⟨g1, g2⟩])
                have hbad : readN (d :: t) = none → x = none := fun h => HNO.out h46 (by rw [HRC.out, h]; rfl)
                have HBAD := Lib.hid hbad
                clear hbad
                by_cases ht2 : t.length < 2
                · have HN := Lib.hid (HBAD.out (by
                    cases hr : readN (d :: t) with
                    | none => rfl
                    | some b => have := readN_len hr; simp at this; omega))
                  have hl3 : s.length ≤ i + 3 := by omega
                  clear h46 h92 hchk hct hnx
                  go_wp2
                  go_ret2
                  exact none_of HN.out HB.out
                · obtain ⟨e, f, t', rfl⟩ : ∃ e f t', t = e :: f :: t' := by
                    match t, ht2 with
                    | [], h => simp at h
                    | [_], h => simp at h
                    | e :: f :: t', _ => exact ⟨e, f, t', rfl⟩
                  simp only [List.length_cons] at hl1 hl2
                  have b2 : (ByteArray.mk s.toArray)[i + 2]'(by rw [bsz]; omega) = e := byte_drop hct 2 (by simp) (by rw [bsz]; omega)
                  have b3 : (ByteArray.mk s.toArray)[i + 3]'(by rw [bsz]; omega) = f := byte_drop hct 3 (by simp) (by rw [bsz]; omega)
                  have he := e.toNat_lt
                  have hf := f.toNat_lt
                  have hl4 : i + 3 < s.length := by omega
                  clear ht2
                  by_cases hde : 48 ≤ e.toNat ∧ e.toNat ≤ 57
                  · by_cases hdf : 48 ≤ f.toNat ∧ f.toNat ≤ 57
                    · obtain ⟨g3, g4⟩ := hde
                      obtain ⟨g5, g6⟩ := hdf
                      have t8 : decide ((e.toNat : Int) < 48) = false := by simp; omega
                      have t9 : decide (57 < (e.toNat : Int)) = false := by simp; omega
                      have t10 : decide ((f.toNat : Int) < 48) = false := by simp; omega
                      have t11 : decide (57 < (f.toNat : Int)) = false := by simp; omega
                      have HV := Lib.hid (show numC d e f = (d.toNat - 48) * 100 + (e.toNat - 48) * 10 + (f.toNat - 48) from rfl)
                      have w1 : IntKind.u8.wrap ((d.toNat : Int) - 48) = (d.toNat : Int) - 48 := by rw [IntKind.wrap_u8]; omega
                      have w2 : IntKind.u8.wrap ((e.toNat : Int) - 48) = (e.toNat : Int) - 48 := by rw [IntKind.wrap_u8]; omega
                      have w3 : IntKind.u8.wrap ((f.toNat : Int) - 48) = (f.toNat : Int) - 48 := by rw [IntKind.wrap_u8]; omega
                      by_cases hv : numC d e f ≤ 255
                      · have HN := Lib.hid (HST.out (UInt8.ofNat (numC d e f)) 4 h46 (by rw [HRC.out]; simp [readN, digB_yes ⟨g1, g2⟩, digB_yes ⟨g3, g4⟩, digB_yes ⟨g5, g6⟩, hv]))
                        have hE : ((d.toNat : Int) - 48) * 100 + ((e.toNat : Int) - 48) * 10 + ((f.toNat : Int) - 48) = ((UInt8.ofNat (numC d e f)).toNat : Int) := by rw [UInt8.toNat_ofNat', HV.out]; rw [HV.out] at hv; omega
                        have hv2 : ((d.toNat : Int) - 48) * 100 + ((e.toNat : Int) - 48) * 10 + ((f.toNat : Int) - 48) ≤ 255 := by rw [HV.out] at hv; omega
                        generalize UInt8.ofNat (numC d e f) = b at HN hE
                        have hrow : ∀ q, Row ((wr.drewN q).alloc (.cells #[.int .u8 (((d.toNat : Int) - 48) * 100 + ((e.toNat : Int) - 48) * 10 + ((f.toNat : Int) - 48))] 5)) (wr.heap.size + 1) (some ⟨wr.heap.size, 0, none⟩) ([b].map bc) := fun q => by
                          rw [hE]
                          exact Row.made (wr.drewN q) #[.int .u8 b.toNat] 5
                        have hcvA := fun q => convert_row_run (P := Try.prog) ((wr.drewN q).alloc (.cells #[.int .u8 (((d.toNat : Int) - 48) * 100 + ((e.toNat : Int) - 48) * 10 + ((f.toNat : Int) - 48))] 5)) 33 9 5 Try.underlying33 Try.underlying5 Try.underlying9 (some ⟨wr.heap.size, 0, none⟩) 1 1 (wr.heap.size + 1) [b] rfl (hrow q)
                        have hcvB := fun q => convert_row_run (P := Try.prog) ((wr.alloc (.cells #[.int .u8 (((d.toNat : Int) - 48) * 100 + ((e.toNat : Int) - 48) * 10 + ((f.toNat : Int) - 48))] 5)).drewN q) 33 9 5 Try.underlying33 Try.underlying5 Try.underlying9 (some ⟨wr.heap.size, 0, none⟩) 1 1 (wr.heap.size + 1) [b] rfl (hrow q)
                        have HBn := Lib.hid (fun q => (below_drewN' HB.out q).alloc hz (.cells #[.int .u8 (((d.toNat : Int) - 48) * 100 + ((e.toNat : Int) - 48) * 10 + ((f.toNat : Int) - 48))] 5))
                        have HOn := Lib.hid (fun q => (show (wr.drewN q).ownsRow w.heap.size 9 1 (.slice A1 out.length c1) out.length (out.map sv) from HO.out).alloc (.cells #[.int .u8 (((d.toNat : Int) - 48) * 100 + ((e.toNat : Int) - 48) * 10 + ((f.toNat : Int) - 48))] 5))
                        clear h46 h92 hchk hct hnx hv hE hrow
                        go_wp2
                        go_quiet (fail)
                        go_wp2
                        refine ⟨⟨i + 4, out, lab ++ [b], by omega, by go_num, mk_app lab [b], HN.out, by simp; omega, HOn.out _, HBn.out _, by simp; omega⟩, by simp [intOf]; omega⟩
                      · have HN := Lib.hid (HBAD.out (by simp [readN, digB_yes ⟨g1, g2⟩, digB_yes ⟨g3, g4⟩, digB_yes ⟨g5, g6⟩]; omega))
                        have hv2 : 255 < ((d.toNat : Int) - 48) * 100 + ((e.toNat : Int) - 48) * 10 + ((f.toNat : Int) - 48) := by rw [HV.out] at hv; omega
                        clear h46 h92 hchk hct hnx hv
                        go_wp2
                        go_quiet (fail)
                        go_wp2
                        go_ret2
                        exact none_of HN.out (below_drewN' HB.out _)
                    · have HN := Lib.hid (HBAD.out (by simp [readN, digB_no hdf]))
                      obtain ⟨g3, g4⟩ := hde
                      have t8 : decide ((e.toNat : Int) < 48) = false := by simp; omega
                      have t9 : decide (57 < (e.toNat : Int)) = false := by simp; omega
                      have hg : f.toNat < 48 ∨ 57 < f.toNat := by omega
                      clear h46 h92 hchk hct hnx hdf
                      rcases hg with g | g
                      · have t10 : decide ((f.toNat : Int) < 48) = true := by simp; omega
                        go_wp2
                        go_ret2
                        exact none_of HN.out HB.out
                      · have t10 : decide ((f.toNat : Int) < 48) = false := by simp; omega
                        have t11 : decide (57 < (f.toNat : Int)) = true := by simp; omega
                        go_wp2
                        go_ret2
                        exact none_of HN.out HB.out
                  · have HN := Lib.hid (HBAD.out (by simp [readN, digB_no hde]))
                    have hg : e.toNat < 48 ∨ 57 < e.toNat := by omega
                    clear h46 h92 hchk hct hnx hde
                    rcases hg with g | g
                    · have t8 : decide ((e.toNat : Int) < 48) = true := by simp; omega
                      go_wp2
                      go_ret2
                      exact none_of HN.out HB.out
                    · have t8 : decide ((e.toNat : Int) < 48) = false := by simp; omega
                      have t9 : decide (57 < (e.toNat : Int)) = true := by simp; omega
                      go_wp2
                      go_ret2
                      exact none_of HN.out HB.out
              · have HN := Lib.hid (HST.out d 2 h46 (by simp [readC, h92, digB_no hdg]))
                have hex : (ByteArray.mk s.toArray).extract (i + 1) (i + 2) = ⟨[d].toArray⟩ := by
                  rw [extract_one (l := s) (j := i + 1) (by omega)]
                  congr 3
                have hg : d.toNat < 48 ∨ 57 < d.toNat := by omega
                clear h46 h92 hchk hct hnx hdg
                rcases hg with g | g
                · have t6 : decide ((d.toNat : Int) < 48) = true := by simp; omega
                  go_wp2
                  refine ⟨⟨i + 2, out, lab ++ [d], by omega, by go_num, mk_app lab [d], HN.out, by simp; omega, HO.out, HB.out, hz⟩, by simp [intOf]; omega⟩
                · have t6 : decide ((d.toNat : Int) < 48) = false := by simp; omega
                  have t7 : decide (57 < (d.toNat : Int)) = true := by simp; omega
                  go_wp2
                  refine ⟨⟨i + 2, out, lab ++ [d], by omega, by go_num, mk_app lab [d], HN.out, by simp; omega, HO.out, HB.out, hz⟩, by simp [intOf]; omega⟩
          · have t5 : ((c.toNat : Int) != 92) = true := by rw [bne_iff_ne]; omega
            have HN := Lib.hid (HST.out c 1 h46 (by rw [readC.eq_def]; simp only; rw [if_neg h92, if_pos (plainC_yes ⟨p1, p2⟩)]))
            have hex : (ByteArray.mk s.toArray).extract i (i + 1) = ⟨[c].toArray⟩ := by
              rw [extract_one hlt]
              congr 3
            clear h46 h92 hchk hct hnx
            go_wp2
            refine ⟨⟨i + 1, out, lab ++ [c], by omega, by go_num, mk_app lab [c], HN.out, by simp; omega, HO.out, HB.out, hz⟩, by simp [intOf]; omega⟩
        · have HN := Lib.hid (HNO.out h46 (by rw [readC.eq_def]; simp only; rw [if_neg (by omega), if_neg (by rw [plainC_no hp]; simp)]))
          have hg : c.toNat < 33 ∨ 126 < c.toNat := by omega
          have HLN := Lib.hid hln
          clear hp h46 hchk hct hnx hln
          rcases hg with g | g
          · have t3 : decide ((c.toNat : Int) < 33) = true := by simp; omega
            go_wp2
            go_ret2
            exact none_of HN.out HB.out
          · have t3 : decide ((c.toNat : Int) < 33) = false := by simp; omega
            have t4 : decide (126 < (c.toNat : Int)) = true := by simp; omega
            go_wp2
            go_ret2
            exact none_of HN.out HB.out
    · obtain rfl : i = s.length := by omega
      have hsn : szN (out ++ [lab]) ≤ maxLen := by rw [szN_snoc]; unfold maxLen; omega
      have hfin : chk (some (out ++ [lab])) = x := by rw [List.drop_length, tot_nil] at hchk; exact hchk
      have HF := Lib.hid hfin
      clear hchk hfin
      go_wp2_with (
        at_builtin
        refine wpList_append_row rfl (.tmp 139) (.tmp 141) _ rfl w.heap.size 9 i0 _ 1 16 Try.underlying22 hi0 hz0 hz1 hz2 rfl (by omega) (.slice A1 out.length c1) out.length _ rfl (HO.out.alloc _)
          (some ⟨wr.heap.size, 0, none⟩) 1 1 (wr.heap.size + 1) [.string ⟨lab.toArray⟩] rfl rfl HR1.out (by simp [Value.oneCell']) (by unfold maxLen; omega) (by omega) (by simp; omega) ?_
        intro v2 w2 hown2 hg2
        obtain ⟨A2, c2, rfl, _, _⟩ := own_form hown2
        rw [show out.map sv ++ [.string ⟨lab.toArray⟩] = (out ++ [lab]).map sv by simp [sv], show out.length + 1 = (out ++ [lab]).length by simp] at hown2
        have HO2 := Lib.hid hown2
        have HG2 := Lib.hid hg2
        clear hown2 hg2)
      have HB2 := Lib.hid (own_below (HB.out.alloc hz (.cells #[.string ⟨lab.toArray⟩] 9)) (Nat.le_refl _) (by simp; omega) (HO.out.alloc _) HG2.out)
      have hgv := give_any A2 c2 w2.heap.size (out ++ [lab]) w2 (Row.of_own HO2.out) hsn
      rw [show (out ++ [lab]).length = out.length + 1 by simp] at hgv
      have HGV := Lib.hid hgv
      clear hgv
      refine HGV.out.mono ?_
      rintro e w' ⟨rfl, rfl⟩
      have hfin := give_of HF.out HO2.out HB2.out
      cases hf : soundN (out ++ [lab])
      · have hg : giveV (out ++ [lab]) A2 c2 = .tuple #[.slice none 0 0, .bool false] := by unfold giveV; rw [hf]; rfl
        rw [hg] at hfin ⊢
        have HFIN := Lib.hid hfin
        clear hfin hf hg
        go_wp2
        go_ret2
        exact HFIN.out
      · have hg : giveV (out ++ [lab]) A2 c2 = .tuple #[.slice A2 (out.length + 1) c2, .bool true] := by unfold giveV; rw [hf, show (out ++ [lab]).length = out.length + 1 by simp]; rfl
        rw [hg] at hfin ⊢
        have HFIN := Lib.hid hfin
        clear hfin hf hg
        go_wp2
        go_ret2
        exact HFIN.out

theorem ref_parse_any (s : List UInt8) (w : World) (hs : s.length ≤ 100000) :
    Calls Try.prog 20 #[.string ⟨s.toArray⟩] w (ParseOf w (parseN s)) := by
  by_cases hd : s = [46]
  · subst hd
    exact ref_parse_dot w
  · exact ref_parse_else s w hs hd

end Go.Proofs.Ytiegneopolffoaa
