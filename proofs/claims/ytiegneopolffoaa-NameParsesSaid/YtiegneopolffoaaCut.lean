/-
  The contract of name.cutLabel.
-/
import Derived.Test.YtiegneopolffoaaRead
namespace Go.Proofs.Ytiegneopolffoaa
open Go.RowKit

/-- What cutLabel answers. -/
def cutV (x : Option (List UInt8 × List UInt8)) : Value := match x with
  | some (l, r) => .tuple #[.string ⟨l.toArray⟩, .string ⟨r.toArray⟩, .bool true]
  | none => .tuple #[.string ⟨[].toArray⟩, .string ⟨[].toArray⟩, .bool false]
def strLen : Value → Nat
  | .string s => s.size
  | _ => 0

theorem extract_from (l : List UInt8) (k m : Nat) (hm : m = l.length) : (ByteArray.mk l.toArray).extract k m = ⟨(l.drop k).toArray⟩ := by
  subst hm
  apply ByteArray.ext
  apply Array.toList_inj.1
  simp [ByteArray.data_extract]
  exact List.take_of_length_le (by simp)

def CutRel (w : World) (s : List UInt8) (v o : Value) (wr : World) : Prop :=
  ∃ acc cur : List UInt8, v = .string ⟨cur.toArray⟩ ∧ cutFrom acc cur = cutFrom [] s ∧ acc.length + cur.length ≤ s.length ∧ wr.ownsRow w.heap.size 5 1 o acc.length (acc.map bc) ∧ Below w.heap.size w wr ∧ w.heap.size ≤ wr.heap.size

set_option maxHeartbeats 2000000 in
theorem cutLabel_any (s : List UInt8) (w : World) (hs : s.length ≤ 1000000) :
    Calls Try.prog 36 #[.string ⟨s.toArray⟩] w (Gave w (cutV (cutFrom [] s))) := by
  obtain ⟨i0, hi0, hz0, hz1, hz2⟩ := info_parts u8_info
  go_enter Try.func36, Try.ntmps36
  go_wp2
  go_loopw [0, 5] (CutRel w s) (fun v _ _ => strLen v)
  case atStart => exact ⟨[], s, rfl, rfl, by simp, World.ownsRow_nil _ _ _ _, Below.refl _ _, Nat.le_refl _⟩
  case round =>
    obtain ⟨acc, cur, rfl, hcut, hlen, hown, hbw, hz⟩ := hrel
    obtain ⟨A1, c1, rfl, hc1, hc2⟩ := own_form hown
    have hcv := fun q => convert_row_run (P := Try.prog) (wr.drewN q) 33 9 5 Try.underlying33 Try.underlying5 Try.underlying9 A1 acc.length c1 wr.heap.size acc rfl ((Row.of_own hown).drewN q)
    have hcv0 := convert_row_run (P := Try.prog) wr 33 9 5 Try.underlying33 Try.underlying5 Try.underlying9 A1 acc.length c1 wr.heap.size acc rfl (Row.of_own hown)
    have HO := Lib.hid hown
    have HB := Lib.hid hbw
    have HCU := Lib.hid hcut
    clear hown hbw hcut
    rcases cur with _ | ⟨c, t⟩
    · rw [cutFrom_nil] at HCU
      clear hcv
      go_wp2
      go_ret3
      exact ⟨by rw [← HCU.out]; rfl, HB.out⟩
    · have b0 : (ByteArray.mk (c :: t).toArray)[0]'(by simp [ByteArray.size]) = c := rfl
      have hc := c.toNat_lt
      simp only [List.length_cons] at hlen
      by_cases h46 : c.toNat = 46
      · have t1 : ((c.toNat : Int) == 46) = true := by rw [h46]; rfl
        have HC := Lib.hid (HCU.out.symm.trans (cutFrom_dot acc t h46))
        have hex := extract_from (c :: t) 1 (t.length + 1) (by simp)
        clear h46 hcv0
        go_wp2
        go_quiet (fail)
        go_wp2
        go_ret3
        exact ⟨by rw [HC.out]; rfl, below_drewN' HB.out _⟩
      · have t1 : ((c.toNat : Int) == 46) = false := by rw [beq_eq_false_iff_ne]; omega
        have HR := Lib.hid (readChar_any c t wr (by omega))
        clear hcv hcv0
        cases hr : readC (c :: t) with
        | none =>
          have HC := Lib.hid (HCU.out.symm.trans (cutFrom_none acc t h46 hr))
          rw [hr] at HR
          clear h46 hr
          go_wp2_with fail
          refine HR.out.mono ?_
          rintro e w' ⟨rfl, q, rfl⟩
          simp only [chr]
          go_wp2
          go_ret3
          exact ⟨by rw [HC.out]; rfl, below_drewN' HB.out _⟩
        | some x =>
          obtain ⟨b, k⟩ := x
          have HC := Lib.hid ((cutFrom_some acc t h46 hr).symm.trans HCU.out)
          have hk := readC_pos hr
          rw [hr] at HR
          obtain ⟨hk1, hk2⟩ := hk
          simp only [List.length_cons] at hk2
          have t2 : ((k : Int) == 0) = false := by rw [beq_eq_false_iff_ne]; omega
          have hex := extract_from (c :: t) k (t.length + 1) (by simp)
          clear h46 hr
          go_wp2_with fail
          refine HR.out.mono ?_
          rintro e w' ⟨rfl, q, rfl⟩
          simp only [chr]
          have HR1 := Lib.hid (Row.made (wr.drewN q) #[.int .u8 b.toNat] 5)
          have HOq := Lib.hid (show (wr.drewN q).ownsRow w.heap.size 5 1 (.slice A1 acc.length c1) acc.length (acc.map bc) from HO.out)
          go_wp2_with (
            at_builtin
            refine wpList_append_row rfl (.tmp 24) (.tmp 26) _ rfl w.heap.size 5 i0 _ 1 1 Try.underlying33 hi0 hz0 hz1 hz2 rfl (by omega) (.slice A1 acc.length c1) acc.length _ rfl (HOq.out.alloc _)
              (some ⟨wr.heap.size, 0, none⟩) 1 1 (wr.heap.size + 1) [.int .u8 b.toNat] rfl rfl HR1.out (by simp [Value.oneCell']) (by unfold maxLen; omega) (by omega) (by simp; omega) ?_
            intro v2 w2 hown2 hg2
            have HO2 := Lib.hid hown2
            have HG2 := Lib.hid hg2
            have hs2 := hg2.size
            clear hown2 hg2)
          refine ⟨⟨acc ++ [b], (c :: t).drop k, rfl, HC.out, ?_, ?_, ?_, ?_⟩, ?_⟩
          · rw [List.length_append, List.length_drop]
            simp only [List.length_cons, List.length_nil]
            omega
          · have h := HO2.out
            rw [show ([.int .u8 b.toNat] : List Value) = [b].map bc from rfl, ← List.map_append] at h
            simpa using h
          · exact own_below ((below_drewN' HB.out q).alloc hz _) (Nat.le_refl _) (by simp; omega) (HOq.out.alloc _) HG2.out
          · simp at hs2; omega
          · simp only [strLen, ByteArray.size, List.size_toArray, List.length_drop, List.length_cons]
            omega

end Go.Proofs.Ytiegneopolffoaa
