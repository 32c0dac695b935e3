/-
  The contract of name.Parse.
-/
import Derived.Test.YtiegneopolffoaaCut
import Derived.Test.YtiegneopolffoaaSound
import Derived.Test.YtiegneopolffoaaExact
namespace Go.Proofs.Ytiegneopolffoaa
open Go.RowKit

/-- The call answers the name x, or none. -/
def ParseOf (w : World) (x : Option (List (List UInt8))) (e : Ending) (w' : World) : Prop :=
  ∃ A c, e = .returned (.tuple #[.slice A (x.getD []).length c, .bool x.isSome]) ∧ w'.ownsRow w.heap.size 9 1 (.slice A (x.getD []).length c) (x.getD []).length ((x.getD []).map sv) ∧ Below w.heap.size w w'

def ParseRel (w : World) (s : List UInt8) (v o : Value) (wr : World) : Prop :=
  ∃ (out : List (List UInt8)) (cur : List UInt8), v = .string ⟨cur.toArray⟩ ∧ pcont out cur = pcont [] s ∧ cur.length ≤ s.length ∧ (out = [] ∨ soundN out = true) ∧
    wr.ownsRow w.heap.size 9 1 o out.length (out.map sv) ∧ Below w.heap.size w wr ∧ w.heap.size ≤ wr.heap.size

theorem sound_szN {out : List (List UInt8)} (h : out = [] ∨ soundN out = true) : szN out ≤ 255 := by
  rcases h with h | h
  · subst h; simp [szN]
  · simp only [soundN, Bool.and_eq_true, decide_eq_true_eq] at h
    exact h.2

set_option maxHeartbeats 400000 in
theorem parse_dot (w : World) : Calls Try.prog 19 #[.string ⟨[46].toArray⟩] w (ParseOf w (some [])) := by
  go_enter Try.func19, Try.ntmps19
  go_wp2
  go_ret2
  exact ⟨none, 0, rfl, World.ownsRow_nil _ _ _ _, Below.refl _ _⟩

set_option maxHeartbeats 2000000 in
theorem parse_else (s : List UInt8) (w : World) (hs : s.length ≤ 1000000) (hd : ¬ s = [46]) :
    Calls Try.prog 19 #[.string ⟨s.toArray⟩] w (ParseOf w (parseN s)) := by
  rw [pcont_start hd]
  obtain ⟨i0, hi0, hz0, hz1, hz2⟩ := info_parts str_info
  have t0 : (s == [46]) = false := by rw [beq_eq_false_iff_ne]; exact hd
  clear hd
  go_enter Try.func19, Try.ntmps19
  go_wp2
  go_loopw [0, 4] (ParseRel w s) (fun v _ _ => strLen v)
  case atStart => exact ⟨[], s, rfl, rfl, Nat.le_refl _, .inl rfl, World.ownsRow_nil _ _ _ _, Below.refl _ _, Nat.le_refl _⟩
  case round =>
    obtain ⟨out, cur, rfl, hpc, hlen, hso, hown, hbw, hz⟩ := hrel
    obtain ⟨A1, c1, rfl, hc1, hc2⟩ := own_form hown
    have hso2 := sound_szN hso
    have hol := length_lt_szN out
    have HO := Lib.hid hown
    have HB := Lib.hid hbw
    have HP := Lib.hid hpc
    have HS := Lib.hid hso
    clear hown hbw hpc hso
    rcases cur with _ | ⟨c, t⟩
    · rcases out with _ | ⟨x, xs⟩
      · have HN := Lib.hid (HP.out.symm.trans (show pcont [] [] = none from rfl))
        go_wp2
        go_ret2
        exact ⟨A1, c1, by rw [HN.out]; rfl, by rw [HN.out]; exact HO.out, HB.out⟩
      · have HN := Lib.hid (HP.out.symm.trans (pcont_end (out := x :: xs) (by simp) (by rcases HS.out with h | h; cases h; exact h)))
        obtain ⟨out, hout⟩ : ∃ out, out = x :: xs := ⟨_, rfl⟩
        have hpos : 0 < out.length := by rw [hout]; simp
        rw [← hout] at HN HO ⊢
        clear hout
        have d1 : decide (0 < out.length) = true := by simp; omega
        have d2 : decide ((0 : Int) < (out.length : Int)) = true := by simp; omega
        go_wp2
        go_ret2
        exact ⟨A1, c1, by rw [HN.out]; rfl, by rw [HN.out]; exact HO.out, HB.out⟩
    · have HC := Lib.hid (cutLabel_any (c :: t) wr (by omega))
      cases hr : cutFrom [] (c :: t) with
      | none =>
        rw [hr] at HC
        have HN := Lib.hid (HP.out.symm.trans (pcont_none (by simp) hr))
        clear hr
        go_wp2_with fail
        refine HC.out.mono ?_
        rintro e w1 ⟨rfl, hb1⟩
        have HB1 := Lib.hid hb1
        clear hb1
        simp only [cutV]
        go_wp2
        go_ret2
        exact ⟨none, 0, by rw [HN.out]; rfl, by rw [HN.out]; exact World.ownsRow_nil _ _ _ _, HB.out.trans (HB1.out.mono hz)⟩
      | some x =>
        obtain ⟨l, rest⟩ := x
        rw [hr] at HC
        have hrl := cutFrom_rest _ [] (c :: t) l rest rfl hr (by simp)
        have HN := Lib.hid ((pcont_step (out := out) (by simp) hr).symm.trans HP.out)
        have hll := cutFrom_len _ [] (c :: t) l rest rfl hr
        simp only [List.length_nil, List.length_cons, Nat.zero_add] at hll hrl hlen
        have hsn : szN (out ++ [l]) ≤ maxLen := by rw [szN_snoc]; unfold maxLen; omega
        clear hr
        go_wp2_with fail
        refine HC.out.mono ?_
        rintro e w1 ⟨rfl, hb1⟩
        have hs1 := hb1.size
        have HB1 := Lib.hid (HB.out.trans (hb1.mono hz))
        have HO1 := Lib.hid (HO.out.kept (row := none) ⟨hb1.os, hb1.tape, hb1.output, hb1.size, fun j hj _ => hb1.block j hj⟩ (by cases hv : (Value.slice A1 out.length c1).ownBlock <;> simp))
        have HR1 := Lib.hid (Row.made w1 #[.string ⟨l.toArray⟩] 9)
        clear hb1
        simp only [cutV]
        go_wp2_with (first
          | (go_at_call 12; fail)
          | (at_builtin
             refine wpList_append_row rfl (.tmp 20) (.tmp 22) _ rfl w.heap.size 9 i0 _ 1 16 Try.underlying22 hi0 hz0 hz1 hz2 rfl (by omega) (.slice A1 out.length c1) out.length _ rfl (HO1.out.alloc _)
               (some ⟨w1.heap.size, 0, none⟩) 1 1 (w1.heap.size + 1) [.string ⟨l.toArray⟩] rfl rfl HR1.out (by simp [Value.oneCell']) (by unfold maxLen; omega) (by omega) (by simp; omega) ?_
             intro v2 w2 hown2 hg2
             obtain ⟨A2, c2, rfl, _, _⟩ := own_form hown2
             rw [show out.map sv ++ [.string ⟨l.toArray⟩] = (out ++ [l]).map sv by simp [sv]] at hown2
             have HO2 := Lib.hid hown2
             have HG2 := Lib.hid hg2
             have hs2 := hg2.size
             clear hown2 hg2))
        have hb2 := own_below (HB1.out.alloc (by omega) (.cells #[.string ⟨l.toArray⟩] 9)) (Nat.le_refl _) (by simp; omega) (HO1.out.alloc _) HG2.out
        have hz2' : w.heap.size ≤ w2.heap.size := by simp at hs2; omega
        have HB2 := Lib.hid hb2
        clear hb2
        have HSN := Lib.hid (sound_any A2 (out.length + 1) c2 w2.heap.size (out ++ [l]) w2 (by simp) (Row.of_own HO2.out) hsn)
        cases hf : soundN (out ++ [l])
        · rw [hf] at HSN
          have HBAD := Lib.hid (HN.out.symm.trans (pcont_bad hf))
          clear hf
          refine HSN.out.mono ?_
          rintro e w' ⟨rfl, rfl⟩
          go_wp2
          go_ret2
          exact ⟨none, 0, by rw [HBAD.out]; rfl, by rw [HBAD.out]; exact World.ownsRow_nil _ _ _ _, HB2.out⟩
        · rw [hf] at HSN
          have HF := Lib.hid hf
          clear hf
          refine HSN.out.mono ?_
          rintro e w' ⟨rfl, rfl⟩
          go_wp2
          refine ⟨⟨out ++ [l], rest, rfl, HN.out, by omega, .inr HF.out, ?_, HB2.out, hz2'⟩, ?_⟩
          · simpa using HO2.out
          · simp only [strLen, ByteArray.size, List.size_toArray, List.length_cons]
            omega

theorem parse_any (s : List UInt8) (w : World) (hs : s.length ≤ 1000000) :
    Calls Try.prog 19 #[.string ⟨s.toArray⟩] w (ParseOf w (parseN s)) := by
  by_cases hd : s = [46]
  · subst hd
    exact parse_dot w
  · exact parse_else s w hs hd

end Go.Proofs.Ytiegneopolffoaa
