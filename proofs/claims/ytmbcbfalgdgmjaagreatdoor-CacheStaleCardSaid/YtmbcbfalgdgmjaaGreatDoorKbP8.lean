/-
  A strings.Builder that the call itself has made: what WriteByte and String do to it.
-/
import Derived.Test.YtmbcbfalgdgmjaaGreatDoorKbP1
import Derived.Lib.Builder
import Derived.Lib.UnsafeStr
import Derived.Laws.Externs
import Derived.RegionTactic
import Derived.Test.YtmbcbfalgdgmjaaGreatDoorKbP2
import Derived.Test.YtmbcbfalgdgmjaaGreatDoorKbP3
import Derived.Test.YtmbcbfalgdgmjaaGreatDoorKbP6
import Derived.Test.YtmbcbfalgdgmjaaGreatDoorKbP7
import Derived.Deep.CutRange
import Derived.Deep.MidRow
import Derived.Test.YtmbcbfalgdgmjaaGreatDoorKbP4
import Derived.BigRegion
namespace Go.Proofs.YtmbcbfalgdgmjaaGreatDoor
open Go.RowKit

theorem bld_info : (Tryz.prog.info? 113).map (·.size) = some 2 := by kernel_rfl
theorem bld_lies : liesAt Tryz.prog Tryz.prog.depth 113 (2 / Tryz.prog.cellsOf 113) 0 113 1 = true := by kernel_rfl

/-- The builder in block b holds the bytes l. -/
def Bld (B b : Nat) (l : List UInt8) (w : World) : Prop := Lib.IsBuilder 113 5 B b (l.map bc) w

theorem Bld.drewN {B b : Nat} {l : List UInt8} {w : World} (h : Bld B b l w) (k : Nat) : Bld B b l (w.drewN k) := h

/-- The call leaves the builder with l; nothing below B has turned. -/
def Wrote (B b : Nat) (l : List UInt8) (w : World) (v : Value) (e : Ending) (w' : World) : Prop := e = .returned v ∧ Bld B b l w' ∧ Below B w w'

set_option maxRecDepth 8000 in
set_option maxHeartbeats 1000000 in
theorem check_used (b : Nat) (w : World) (h0 : w.cell? ⟨b, 0, none⟩ = some (.pointer (some ⟨b, 0, none⟩))) :
    Calls Tryz.prog 121 #[.pointer (some ⟨b, 0, none⟩)] w fun e w' => e = .returned (.tuple #[]) ∧ w' = w := by
  obtain ⟨j, hj, _⟩ := Option.map_eq_some_iff.1 bld_info
  go_enter Tryz.func121, Tryz.ntmps121
  go_wp2
  rw [Lib.run_neq_ptr_same w _ Tryz.underlying111 hj]
  go_wp2
  go_end0
  exact ⟨rfl, rfl⟩

set_option maxRecDepth 8000 in
set_option maxHeartbeats 1000000 in
theorem check_fresh (b : Nat) (w : World) (h0 : w.cell? ⟨b, 0, none⟩ = some (.pointer none)) (hsh : w.shape? b = some (113, 2)) (hfz : w.frozen? ⟨b, 0, none⟩ = false) :
    Calls Tryz.prog 121 #[.pointer (some ⟨b, 0, none⟩)] w fun e w' => e = .returned (.tuple #[]) ∧ w' = w.setCell ⟨b, 0, none⟩ (.pointer (some ⟨b, 0, none⟩)) := by
  obtain ⟨j, hj, hjs⟩ := Option.map_eq_some_iff.1 bld_info
  go_enter Tryz.func121, Tryz.ntmps121
  go_wp2
  rw [Lib.run_to_unsafe w ⟨b, 0, none⟩ Tryz.underlying111 Tryz.underlying155 hj (by rw [hjs]; decide) hsh (Nat.zero_lt_succ 1)]
  simp only [Result.andThen]
  rw [Oper.upon_value]
  go_wp2
  rw [run_callFunc_extern Tryz.func139 (by kernel_rfl) (by kernel_rfl) (by kernel_rfl) (e := Extern.AbiNoEscape.same) (by kernel_rfl)]
  rw [Lib.run_noEscape]
  simp only [Result.andThen]
  rw [Oper.upon_value]
  go_wp2
  rw [Lib.run_from_unsafe w ⟨b, 0, none⟩ Tryz.underlying155 Tryz.underlying111 hj hsh bld_lies]
  simp only [Result.andThen]
  rw [Oper.upon_value]
  go_wp2
  go_end0
  exact ⟨rfl, rfl⟩

theorem check_any (B b : Nat) (l : List UInt8) (w : World) (h : Bld B b l w) :
    Calls Tryz.prog 121 #[.pointer (some ⟨b, 0, none⟩)] w fun e w' => e = .returned (.tuple #[]) ∧
      (Lib.BuilderAt 113 5 B b (.pointer (some ⟨b, 0, none⟩)) (l.map bc) w' ∧ Below B w w') := by
  rcases h with h | h
  · refine (check_fresh b w h.cell0 h.shape h.frozen0).mono ?_
    rintro e w' ⟨rfl, rfl⟩
    exact ⟨rfl, h.used _, (Below.refl B w).setCell (p := ⟨b, 0, none⟩) h.1 _⟩
  · refine (check_used b w h.cell0).mono ?_
    rintro e w' ⟨rfl, rfl⟩
    exact ⟨rfl, h, Below.refl B _⟩

set_option maxHeartbeats 1000000 in
/-- b.WriteByte(c). -/
theorem write_any (B b : Nat) (l : List UInt8) (x : UInt8) (w : World) (h : Bld B b l w) (hlen : l.length + 1 ≤ 140737488355328) (hBw : B ≤ w.heap.size) :
    Calls Tryz.prog 98 #[.pointer (some ⟨b, 0, none⟩), .int .u8 x.toNat] w (Wrote B b (l ++ [x]) w .nilIface) := by
  obtain ⟨i0, hi0, hz0, hz1, hz2⟩ := info_parts u8_info
  have hch := check_any B b l w h
  have HC := Lib.hid hch
  clear hch h
  go_enter Tryz.func98, Tryz.ntmps98
  go_wp2_with fail
  refine HC.out.mono ?_
  rintro e w1 ⟨rfl, h1, hb1⟩
  obtain ⟨hB, v, hbk, hown, hne⟩ := h1
  have hsz := hb1.size
  have HB1 := Lib.hid hb1
  have HO := Lib.hid hown
  have HK := Lib.hid hbk
  have HN := Lib.hid hne
  have c1 : w1.cell? ⟨b, 1, none⟩ = some v := by rw [Lib.cell_of_heap hbk]; rfl
  have hlt : b < w1.heap.size := by
    rcases Nat.lt_or_ge b w1.heap.size with h' | h'
    · exact h'
    · simp [Array.getElem?_eq_none h'] at hbk
  clear hb1 hown hbk hne
  have hr := Row.made w1 #[.int .u8 x.toNat] 5
  have HR := Lib.hid hr
  clear hr
  go_wp2_with (
    at_builtin
    refine wpList_append_row rfl (.tmp 11) (.tmp 13) _ rfl B 5 i0 _ 1 1 Tryz.underlying31 hi0 hz0 hz1 hz2 rfl (by omega) v (l.map bc).length _ rfl (HO.out.alloc _)
      (some ⟨w1.heap.size, 0, none⟩) 1 1 (w1.heap.size + 1) [.int .u8 x.toNat] rfl rfl HR.out (by simp [Value.oneCell']) (by rw [List.length_map]; unfold maxLen; omega) (by rw [List.length_map]; omega) (by simp; omega) ?_
    intro v2 w2 hown2 hg2
    obtain ⟨A2, k2, rfl, hk1, hk2⟩ := own_form hown2
    obtain ⟨g2, rfl⟩ := own_some hown2 (by omega)
    have hb2 : w2.heap[b]? = some (.cells #[.pointer (some ⟨b, 0, none⟩), v] 113 (0, 0)) := by
      rw [hg2.block b (by simp; omega) (fun e => HN.out e.symm), Lib.alloc_old w1 _ b hlt]
      exact HK.out
    have d1 : w2.cell? ⟨b, 1, none⟩ = some v := by rw [Lib.cell_of_heap hb2]; rfl
    have f1 : w2.frozen? ⟨b, 1, none⟩ = false := Lib.frozen_of_heap hb2 1
    have HB2 := Lib.hid hb2
    have HO2 := Lib.hid hown2
    have HG2 := Lib.hid hg2
    clear hb2 hown2 hg2)
  go_ret
  refine ⟨rfl, ?_, ?_⟩
  · refine .inr (Lib.BuilderAt.put hB HB2.out (bs' := (l ++ [x]).map bc) ?_ (by decide))
    simpa [bc] using HO2.out
  · exact ((own_below (HB1.out.alloc (by omega) _) (Nat.le_refl _) (by simp; omega) (HO.out.alloc _) HG2.out)).setCell (p := ⟨b, 1, none⟩) hB _

set_option maxHeartbeats 1000000 in
/-- b.String(), where there is a byte. -/
theorem string_any (B b : Nat) (l : List UInt8) (w : World) (h : Bld B b l w) (h0 : l ≠ []) :
    Calls Tryz.prog 99 #[.pointer (some ⟨b, 0, none⟩)] w fun e w' => e = .returned (.string ⟨l.toArray⟩) ∧ Below B w w' := by
  obtain ⟨p, hB, v, hbk, hown, hne⟩ : ∃ p, Lib.BuilderAt 113 5 B b p (l.map bc) w := by
    rcases h with h | h
    · exact ⟨_, h⟩
    · exact ⟨_, h⟩
  have hl0 : l.length ≠ 0 := by simpa using h0
  rw [List.length_map] at hown
  obtain ⟨g, cap, cur, rfl, hbg, hg, hnc, hcm, hcs, htake⟩ : ∃ g cap cur, v = .slice (some ⟨g, 0, none⟩) l.length cap ∧ B ≤ g ∧ w.heap[g]? = some (.cells cur 5 (0, 0)) ∧ l.length ≤ cap ∧ cap ≤ maxLen ∧ cur.size = cap * 1 ∧ cur.toList.take (l.length * 1) = l.map bc := by
    rcases hown.2 with ⟨_, hz⟩ | ⟨g, cap, cur, hv, r⟩
    · exact absurd hz hl0
    · exact ⟨g, cap, cur, hv, r⟩
  have c1 : w.drew.cell? ⟨b, 1, none⟩ = some (.slice (some ⟨g, 0, none⟩) l.length cap) := by
    have : w.drew.heap[b]? = some (.cells #[p, .slice (some ⟨g, 0, none⟩) l.length cap] 113 (0, 0)) := hbk
    rw [Lib.cell_of_heap this]; rfl
  have hSD : (Builtin.unsafeSliceData_ #[31] 137 #[.slice (some ⟨g, 0, none⟩) l.length cap]).run Tryz.prog w.drew = .ok (.pointer (some ⟨g, 0, none⟩)) w.drew :=
    Lib.run_unsafeSliceData_row _ _ _ _ _ _ (by omega)
  have hUS : (Builtin.unsafeString_ #[137, 3] 9 #[.pointer (some ⟨g, 0, none⟩), .int .i64 l.length]).run Tryz.prog w.drew = .ok (.string ⟨l.toArray⟩) (w.drew.freeze ⟨g, 0, none⟩ l.length) := by
    refine Lib.run_unsafeString_row w.drew 137 3 9 5 Tryz.underlying137 (by kernel_rfl) g cur.size (by have hg' : w.drew.heap[g]? = some (.cells cur 5 (0, 0)) := hg; simp [World.shape?, hg']) l h0 (by omega) (by unfold maxLen at hcm; omega) ?_
    intro j x hx
    exact hown.cells (g := g) rfl j (.int .u8 x.toNat) (by simp [bc, hx])
  clear hown hbk h htake hcs h0 hg
  go_enter Tryz.func99, Tryz.ntmps99
  go_wp2
  go_region
  all_goals (go_wp2; go_ret; exact ⟨rfl, Lib.below_freeze (Below.drew (Below.refl B w)) (p := ⟨g, 0, none⟩) hbg _⟩)

end Go.Proofs.YtmbcbfalgdgmjaaGreatDoor

namespace Go.Proofs.YtmbcbfalgdgmjaaGreatDoor
open Go.RowKit

theorem Wrote.intro {B b : Nat} {l : List UInt8} {w w' : World} {v : Value} (h1 : Bld B b l w') (h2 : Below B w w') : Wrote B b l w v (.returned v) w' := ⟨rfl, h1, h2⟩

set_option maxHeartbeats 400000 in
theorem plain_any (c : UInt8) (w : World) :
    Calls Tryz.prog 120 #[.int .u8 c.toNat] w (Told w (.bool (plainC c))) := by
  have hc := c.toNat_lt
  by_cases h1 : 33 ≤ c.toNat
  · by_cases h2 : c.toNat ≤ 126
    · have d2 : decide ((c.toNat : Int) ≤ 126) = true := by simp; omega
      have HF := Lib.hid (plainC_yes (c := c) (by omega))
      go_enter Tryz.func120, Tryz.ntmps120
      go_wp2
      go_ret
      exact ⟨ret_bool HF.out.symm, rfl⟩
    · have d2 : decide ((c.toNat : Int) ≤ 126) = false := by simp; omega
      have HF := Lib.hid (plainC_no (c := c) (by omega))
      go_enter Tryz.func120, Tryz.ntmps120
      go_wp2
      go_ret
      exact ⟨ret_bool HF.out.symm, rfl⟩
  · have HF := Lib.hid (plainC_no (c := c) (by omega))
    go_enter Tryz.func120, Tryz.ntmps120
    go_wp2
    go_ret
    exact ⟨ret_bool HF.out.symm, rfl⟩

set_option maxHeartbeats 400000 in
theorem writeChar_esc (B b : Nat) (l : List UInt8) (c : UInt8) (w : World) (h : Bld B b l w) (hlen : l.length + 4 ≤ 140737488355328) (hBw : B ≤ w.heap.size) (hc : c.toNat = 46 ∨ c.toNat = 92) :
    Calls Tryz.prog 97 #[.pointer (some ⟨b, 0, none⟩), .int .u8 c.toNat] w (Wrote B b (l ++ textC c) w (.tuple #[])) := by
  rw [textC_esc hc]
  have HW := Lib.hid (write_any B b l 92 w h (by omega) hBw)
  have h1 : ((c.toNat : Int) == 46) = true ∨ (((c.toNat : Int) == 46) = false ∧ ((c.toNat : Int) == 92) = true) := by
    rcases hc with h | h <;> simp [h]
  clear hc h
  rcases h1 with h1 | ⟨h1, h2⟩
  all_goals
    go_enter Tryz.func97, Tryz.ntmps97
    go_wp2_with fail
    refine HW.out.mono ?_
    rintro e w1 ⟨rfl, hb1, hB1⟩
    have hz := hB1.size
    have HB1 := Lib.hid hB1
    have HD1 := Lib.hid hb1
    clear hb1 hB1
    go_wp2_with fail
    refine (write_any B b _ c w1 HD1.out (by simp; omega) (by omega)).mono ?_
    rintro e w2 ⟨rfl, hb2, hB2⟩
    have HB2 := Lib.hid hB2
    have HD2 := Lib.hid hb2
    clear hb2 hB2
    go_wp2
    go_end0
    exact Wrote.intro (by have h := HD2.out; simpa using h) (HB1.out.trans HB2.out)

set_option maxHeartbeats 400000 in
theorem writeChar_as (B b : Nat) (l : List UInt8) (c : UInt8) (w : World) (h : Bld B b l w) (hlen : l.length + 4 ≤ 140737488355328) (hBw : B ≤ w.heap.size) (hc : ¬ (c.toNat = 46 ∨ c.toNat = 92)) (hp : 33 ≤ c.toNat ∧ c.toNat ≤ 126) :
    Calls Tryz.prog 97 #[.pointer (some ⟨b, 0, none⟩), .int .u8 c.toNat] w (Wrote B b (l ++ textC c) w (.tuple #[])) := by
  rw [textC_as hc hp]
  have HW := Lib.hid (write_any B b l c w h (by omega) hBw)
  have hpl := plain_any c w
  rw [plainC_yes hp] at hpl
  have HP := Lib.hid hpl
  have h1 : ((c.toNat : Int) == 46) = false := by rw [beq_eq_false_iff_ne]; omega
  have h2 : ((c.toNat : Int) == 92) = false := by rw [beq_eq_false_iff_ne]; omega
  clear hc h hpl hp
  go_enter Tryz.func97, Tryz.ntmps97
  go_wp2_with fail
  refine HP.out.mono ?_
  rintro e w' ⟨rfl, rfl⟩
  go_wp2_with fail
  refine HW.out.mono ?_
  rintro e w1 ⟨rfl, hb1, hB1⟩
  have HB1 := Lib.hid hB1
  have HD1 := Lib.hid hb1
  clear hb1 hB1
  go_wp2
  go_end0
  exact Wrote.intro HD1.out HB1.out

set_option maxHeartbeats 400000 in
theorem writeChar_num (B b : Nat) (l : List UInt8) (c : UInt8) (w : World) (h : Bld B b l w) (hlen : l.length + 4 ≤ 140737488355328) (hBw : B ≤ w.heap.size) (hp : ¬ (33 ≤ c.toNat ∧ c.toNat ≤ 126)) :
    Calls Tryz.prog 97 #[.pointer (some ⟨b, 0, none⟩), .int .u8 c.toNat] w (Wrote B b (l ++ textC c) w (.tuple #[])) := by
  rw [textC_num hp]
  have HW := Lib.hid (write_any B b l 92 w h (by omega) hBw)
  have hpl := plain_any c w
  rw [plainC_no hp] at hpl
  have HP := Lib.hid hpl
  have h1 : ((c.toNat : Int) == 46) = false := by rw [beq_eq_false_iff_ne]; omega
  have h2 : ((c.toNat : Int) == 92) = false := by rw [beq_eq_false_iff_ne]; omega
  have hc := c.toNat_lt
  clear h hpl hp
  go_enter Tryz.func97, Tryz.ntmps97
  go_wp2_with fail
  refine HP.out.mono ?_
  rintro e w' ⟨rfl, rfl⟩
  go_wp2_with fail
  refine HW.out.mono ?_
  rintro e w1 ⟨rfl, hb1, hB1⟩
  have hz1 := hB1.size
  have HB1 := Lib.hid hB1
  have HD1 := Lib.hid hb1
  clear hb1 hB1
  go_wp2_with fail
  rw [dgH_int]
  refine (write_any B b _ (dgH c) w1 HD1.out (by simp; omega) (by omega)).mono ?_
  rintro e w2 ⟨rfl, hb2, hB2⟩
  have hz2 := hB2.size
  have HB2 := Lib.hid hB2
  have HD2 := Lib.hid hb2
  clear hb2 hB2
  go_wp2_with fail
  rw [dgT_int]
  refine (write_any B b _ (dgT c) w2 HD2.out (by simp; omega) (by omega)).mono ?_
  rintro e w3 ⟨rfl, hb3, hB3⟩
  have hz3 := hB3.size
  have HB3 := Lib.hid hB3
  have HD3 := Lib.hid hb3
  clear hb3 hB3
  go_wp2_with fail
  rw [dgO_int]
  refine (write_any B b _ (dgO c) w3 HD3.out (by simp; omega) (by omega)).mono ?_
  rintro e w4 ⟨rfl, hb4, hB4⟩
  have HB4 := Lib.hid hB4
  have HD4 := Lib.hid hb4
  clear hb4 hB4
  go_wp2
  go_end0
  exact Wrote.intro (by have h := HD4.out; simpa using h) (((HB1.out.trans HB2.out).trans HB3.out).trans HB4.out)

theorem writeChar_any (B b : Nat) (l : List UInt8) (c : UInt8) (w : World) (h : Bld B b l w) (hlen : l.length + 4 ≤ 140737488355328) (hBw : B ≤ w.heap.size) :
    Calls Tryz.prog 97 #[.pointer (some ⟨b, 0, none⟩), .int .u8 c.toNat] w (Wrote B b (l ++ textC c) w (.tuple #[])) := by
  by_cases hc : c.toNat = 46 ∨ c.toNat = 92
  · exact writeChar_esc B b l c w h hlen hBw hc
  · by_cases hp : 33 ≤ c.toNat ∧ c.toNat ≤ 126
    · exact writeChar_as B b l c w h hlen hBw hc hp
    · exact writeChar_num B b l c w h hlen hBw hp

def TextRel (w : World) (n : List (List UInt8)) (i : Value) (wr : World) : Prop :=
  ∃ k : Nat, k ≤ n.length ∧ i = .int .i64 k ∧ Bld w.heap.size w.heap.size (textN (n.take k)) wr ∧ Below w.heap.size w wr
def TextRel2 (w : World) (p l : List UInt8) (i : Value) (wr : World) : Prop :=
  ∃ k : Nat, k ≤ l.length ∧ i = .int .i64 k ∧ Bld w.heap.size w.heap.size (p ++ textL (l.take k)) wr ∧ Below w.heap.size w wr

theorem textA_nil : textA [] = [46] := rfl
theorem textA_ne {n : List (List UInt8)} (h : n ≠ []) : textA n = textN n := by unfold textA; rw [if_neg h]

set_option maxHeartbeats 400000 in
theorem text_nil (A : Option Addr) (c : Nat) (w : World) :
    Calls Tryz.prog 77 #[.slice A 0 c] w (Gave w (.string ⟨(textA []).toArray⟩)) := by
  rw [textA_nil]
  go_enter Tryz.func77, Tryz.ntmps77
  go_wp2
  go_ret
  exact ⟨rfl, Below.refl _ _⟩

set_option maxHeartbeats 400000 in
theorem text_ne (A : Option Addr) (m c H : Nat) (n : List (List UInt8)) (w : World) (hl : n.length = m) (hA : Row w H A (n.map sv)) (hH : H ≤ w.heap.size) (hs : szN n ≤ 17592186000000) (hn : n ≠ []) :
    Calls Tryz.prog 77 #[.slice A m c] w (Gave w (.string ⟨(textA n).toArray⟩)) := by
  subst hl
  rw [textA_ne hn]
  have hlen := length_lt_szN n
  have hnl : 0 < n.length := by
    rcases n with _ | ⟨x, n⟩
    · exact absurd rfl hn
    · simp
  have h0 : ((n.length : Int) == 0) = false := by rw [beq_eq_false_iff_ne]; omega
  have HN := Lib.hid (textN_ne hn)
  have HA := Lib.hid (hA.mono hH)
  clear hA hn hH
  go_enter Tryz.func77, Tryz.ntmps77
  go_wp2
  go_loopw [12] (TextRel w n) (fun i _ => n.length - (intOf i).toNat)
  case atStart => exact ⟨0, Nat.zero_le _, rfl, Lib.fresh_isBuilder _ _ _, (Below.refl _ _).alloc (Nat.le_refl _) _⟩
  case round =>
    obtain ⟨k, hk, rfl, hbk, hwk⟩ := hrel
    have hzk := hwk.size
    have HBK := Lib.hid hbk
    have HWK := Lib.hid hwk
    have HAK := Lib.hid (HA.out.below hwk)
    clear hbk hwk
    by_cases hlt : k < n.length
    · obtain ⟨b, off, rfl, _, hc⟩ := HAK.out.name_at hlt
      have hle := len_le_szN hlt
      have hpl := textN_take_le n k
      have HT := Lib.hid (textN_snoc hlt)
      go_wp2_with fail
      go_loopw [18] (TextRel2 w (textN (n.take k)) n[k]) (fun i _ => (n[k]).length - (intOf i).toNat)
      case atStart => exact ⟨0, Nat.zero_le _, rfl, by simpa [textL] using HBK.out, HWK.out⟩
      case round =>
        obtain ⟨j, hj, rfl, hbj, hwj⟩ := hrel
        have hzj := hwj.size
        have HBJ := Lib.hid hbj
        have HWJ := Lib.hid hwj
        clear hbj hwj
        have hpj := textL_take_le n[k] j
        by_cases hjt : j < (n[k]).length
        · have HL := Lib.hid (textL_snoc hjt)
          go_wp2_with fail
          refine (writeChar_any _ _ _ (n[k])[j] _ HBJ.out (by rw [List.length_append]; omega) hzj).mono ?_
          rintro e w2 ⟨rfl, hb2, hB2⟩
          have HB2 := Lib.hid hb2
          have HW2 := Lib.hid hB2
          clear hb2 hB2
          go_wp2
          refine ⟨⟨j + 1, by omega, by go_num, ?_, HWJ.out.trans HW2.out⟩, by simp [intOf]; omega⟩
          rw [HL.out, ← List.append_assoc]
          exact HB2.out
        · obtain rfl : j = (n[k]).length := by omega
          go_wp2_with fail
          refine (write_any _ _ _ 46 _ HBJ.out (by rw [List.length_append]; omega) hzj).mono ?_
          rintro e w2 ⟨rfl, hb2, hB2⟩
          have HB2 := Lib.hid hb2
          have HW2 := Lib.hid hB2
          clear hb2 hB2
          go_wp2
          refine ⟨⟨k + 1, by omega, by go_num, ?_, HWJ.out.trans HW2.out⟩, by simp [intOf]; omega⟩
          rw [HT.out]
          have h := HB2.out
          rw [List.take_length] at h
          exact h
    · obtain rfl : k = n.length := by omega
      rw [List.take_length] at HBK
      go_wp2_with fail
      refine (string_any _ _ _ _ HBK.out HN.out).mono ?_
      rintro e w2 ⟨rfl, hB2⟩
      have HW2 := Lib.hid hB2
      clear hB2
      go_wp2
      go_ret
      exact ⟨rfl, HWK.out.trans HW2.out⟩

theorem text_any (A : Option Addr) (m c H : Nat) (n : List (List UInt8)) (w : World) (hl : n.length = m) (hA : Row w H A (n.map sv)) (hH : H ≤ w.heap.size) (hs : szN n ≤ 17592186000000) :
    Calls Tryz.prog 77 #[.slice A m c] w (Gave w (.string ⟨(textA n).toArray⟩)) := by
  by_cases hn : n = []
  · subst hn
    subst hl
    exact text_nil A c w
  · exact text_ne A m c H n w hl hA hH hs hn

end Go.Proofs.YtmbcbfalgdgmjaaGreatDoor

namespace Go.Proofs.YtmbcbfalgdgmjaaGreatDoor
open Go.RowKit

theorem cat3 (a b : List UInt8) : (⟨a.toArray⟩ : ByteArray) ++ ⟨#[46]⟩ ++ ⟨b.toArray⟩ = ⟨(a ++ 46 :: b).toArray⟩ := by
  apply ByteArray.ext
  simp [ByteArray.data_append]

set_option maxRecDepth 20000 in
set_option maxHeartbeats 2000000 in
theorem key_any (w : World) (B : Nat) (hp : PowsAt B w) (hB : B ≤ w.heap.size) (x : FV) (hx : Row w w.heap.size x.A (x.name.map sv)) (hs : soundN x.name = true) (ht : (Lit.int .i64 x.h.typ).wf = true) :
    Calls Tryz.prog 51 #[x.val] w (Gave w (.string ⟨(keyF x.fact).toArray⟩)) := by
  have HF := Lib.hid (FBox.made w x)
  have nl := sound_few hs
  have nz := (soundN_parts hs).2
  have HI := Lib.hid (fun W (hb : FBox w x W) => itoa_any x.h.typ ht w.heap.size W ((hp.mono hB).next hb.below))
  have HLW := Lib.hid (fun W (hb : FBox w x W) => lower_any x.A x.name.length x.c w.heap.size x.name W rfl (hx.below hb.below) (by have := hb.size; omega) (by omega) (by unfold maxLen; omega))
  have HTX := Lib.hid (fun (A : Option Addr) (c H : Nat) W (hA : Row W H A ((lowN x.name).map sv)) (hH : H ≤ W.heap.size) => text_any A (lowN x.name).length c H (lowN x.name) W rfl hA hH (by rw [szN_lowN]; omega))
  have HS := Lib.hid (show ∀ W, FBox w x W → (W.cell? ⟨w.heap.size, 0, none⟩ = some (.slice x.A x.name.length x.c) ∧ W.cell? ⟨w.heap.size, 1, none⟩ = some (.int .i64 x.h.typ)) from fun W h => ⟨h.f.cell 0, h.f.cell 1⟩)
  have li := itoa_len ht
  have lt : (textA (lowN x.name)).length ≤ 1020 := by
    unfold textA
    split
    · simp
    · have h1 := length_textN (lowN x.name)
      rw [szN_lowN] at h1
      omega
  have HK := Lib.hid (show keyF x.fact = Lib.itoa x.h.typ ++ 46 :: textA (lowN x.name) from rfl)
  clear hx hs ht hp
  revert HI HTX li lt HK
  generalize Lib.itoa x.h.typ = I
  generalize textA (lowN x.name) = Tx
  intro HI HTX li lt HK
  have b1 : ¬ 9223372036854775807 < I.length + 1 := by omega
  have b2 : ¬ 9223372036854775807 < I.length + 1 + Tx.length := by omega
  go_enter Tryz.func51, Tryz.ntmps51
  go_upto_region 1 with fail
  generalize hW : w.alloc _ = W at HF ⊢
  clear hW
  have HF0 := Lib.hid (HF.out.step (Below.refl _ _).drew)
  refine wp_region_held_drew (S := fun W => (W.cell? ⟨w.heap.size, 0, none⟩ = some (.slice x.A x.name.length x.c) ∧ W.cell? ⟨w.heap.size, 1, none⟩ = some (.int .i64 x.h.typ))) (by kernel_rfl) (by exact HS.out _ HF0.out) (fun hHeld => ?_)
  refine wpAnyH_take (i := 0) (oi := ⟨some 3, _, _, _, _, _⟩) (v := ?_) rfl (by kernel_rfl) (by kernel_rfl) (by kernel_rfl) (fun _ _ _ h => h) (Or.inl ⟨by kernel_rfl, ?_⟩) (by assumption) ?_
  rotate_left
  · intro W hSw
    try dsimp only at hSw
    go_simp
    all_goals (with_reducible rfl)
  try simp only [Act.put, List.setIfInBounds_toArray, List.set_cons_zero, List.set_cons_succ]
  refine wpAnyH_take (i := 1) (oi := ⟨some 4, _, _, _, _, _⟩) (v := ?_) rfl (by kernel_rfl) (by kernel_rfl) (by kernel_rfl) (fun _ _ _ h => h) (Or.inl ⟨by kernel_rfl, ?_⟩) (by assumption) ?_
  rotate_left
  · intro W hSw
    try dsimp only at hSw
    go_simp
    all_goals (with_reducible rfl)
  try simp only [Act.put, List.setIfInBounds_toArray, List.set_cons_zero, List.set_cons_succ]
  refine wpAnyH_take (i := 4) (oi := ⟨some 7, _, _, _, _, _⟩) (v := ?_) rfl (by kernel_rfl) (by kernel_rfl) (by kernel_rfl) (fun _ _ _ h => h) (Or.inl ⟨by kernel_rfl, ?_⟩) (by assumption) ?_
  rotate_left
  · intro W hSw
    try dsimp only at hSw
    go_simp
    all_goals (with_reducible rfl)
  try simp only [Act.put, List.setIfInBounds_toArray, List.set_cons_zero, List.set_cons_succ]
  refine wpAnyH_take (i := 5) (oi := ⟨some 8, _, _, _, _, _⟩) (v := ?_) rfl (by kernel_rfl) (by kernel_rfl) (by kernel_rfl) (fun _ _ _ h => h) (Or.inl ⟨by kernel_rfl, ?_⟩) (by assumption) ?_
  rotate_left
  · intro W hSw
    try dsimp only at hSw
    go_simp
    all_goals (with_reducible rfl)
  try simp only [Act.put, List.setIfInBounds_toArray, List.set_cons_zero, List.set_cons_succ]
  refine wpAnyH_ready (rs := [2]) (by kernel_rfl) (by simp) ?_
  refine AllReadyH.cons (o := { dst := some 5, op := Go.Op.call { callee := Go.Callee.value (Go.Operand.func 76), args := #[Go.Operand.tmp 4], argTypes := #[3] }, type := 9, pos := "fact.go:40", after := #[{ on := 1, ground := Go.Ground.data }], guard := none }) rfl (fun K hK => ?_) AllReadyH.nil
  go_simp
  refine (HI.out _ HF0.out).mono ?_
  rintro e w2 ⟨rfl, hb2⟩
  have HF2 := Lib.hid (HF0.out.step hb2)
  clear hb2
  refine hK.out _ _ (by exact HS.out _ HF2.out) (fun hHeld2 => ?_)
  clear hK K hHeld
  have hHeld := hHeld2
  clear hHeld2
  try simp only [Act.put, List.setIfInBounds_toArray, List.set_cons_zero, List.set_cons_succ]
  refine wpAnyH_take (i := 3) (oi := ⟨some 6, _, _, _, _, _⟩) (v := ?_) rfl (by kernel_rfl) (by kernel_rfl) (by kernel_rfl) (fun _ _ _ h => h) (Or.inl ⟨by kernel_rfl, ?_⟩) (by assumption) ?_
  rotate_left
  · intro W hSw
    try dsimp only at hSw
    go_simp
    all_goals (with_reducible rfl)
  try simp only [Act.put, List.setIfInBounds_toArray, List.set_cons_zero, List.set_cons_succ]
  refine wpAnyH_ready (rs := [6]) (by kernel_rfl) (by simp) ?_
  refine AllReadyH.cons (o := { dst := some 9, op := Go.Op.call { callee := Go.Callee.value (Go.Operand.func 78), args := #[Go.Operand.tmp 8], argTypes := #[29] }, type := 29, pos := "fact.go:40", after := #[{ on := 5, ground := Go.Ground.data }, { on := 2, ground := Go.Ground.chain }], guard := none }) rfl (fun K hK => ?_) AllReadyH.nil
  go_simp
  refine (HLW.out _ HF2.out).mono ?_
  rintro e w6 ⟨A6, c6, rfl, hown, hb6⟩
  have HF6 := Lib.hid (HF2.out.step hb6)
  have HR6 := Lib.hid (Row.of_own hown)
  clear hown hb6
  refine hK.out _ _ (by exact HS.out _ HF6.out) (fun hHeld2 => ?_)
  clear hK K hHeld
  have hHeld := hHeld2
  clear hHeld2
  try simp only [Act.put, List.setIfInBounds_toArray, List.set_cons_zero, List.set_cons_succ]
  refine wpAnyH_ready (rs := [7]) (by kernel_rfl) (by simp) ?_
  refine AllReadyH.cons (o := { dst := some 10, op := Go.Op.call { callee := Go.Callee.value (Go.Operand.func 77), args := #[Go.Operand.tmp 9], argTypes := #[29] }, type := 9, pos := "fact.go:40", after := #[{ on := 6, ground := Go.Ground.data }, { on := 6, ground := Go.Ground.chain }], guard := none }) rfl (fun K hK => ?_) AllReadyH.nil
  go_simp
  refine (HTX.out _ _ _ _ HR6.out (Nat.le_refl _)).mono ?_
  rintro e w7 ⟨rfl, hb7⟩
  have HF7 := Lib.hid (HF6.out.step hb7)
  clear hb7
  refine hK.out _ _ (by exact HS.out _ HF7.out) (fun hHeld2 => ?_)
  clear hK K hHeld
  have hHeld := hHeld2
  clear hHeld2
  try simp only [Act.put, List.setIfInBounds_toArray, List.set_cons_zero, List.set_cons_succ]
  refine wpAnyH_take (i := 8) (oi := ⟨some 11, _, _, _, _, _⟩) (v := ?_) rfl (by kernel_rfl) (by kernel_rfl) (by kernel_rfl) (fun _ _ _ h => h) (Or.inl ⟨by kernel_rfl, ?_⟩) (by assumption) ?_
  rotate_left
  · intro W hSw
    try dsimp only at hSw
    go_simp
    all_goals (with_reducible rfl)
  try simp only [Act.put, List.setIfInBounds_toArray, List.set_cons_zero, List.set_cons_succ]
  refine wpAnyH_take (i := 9) (oi := ⟨some 2, _, _, _, _, _⟩) (v := ?_) rfl (by kernel_rfl) (by kernel_rfl) (by kernel_rfl) (fun _ _ _ h => h) (Or.inl ⟨by kernel_rfl, ?_⟩) (by assumption) ?_
  rotate_left
  · intro W hSw
    try dsimp only at hSw
    go_simp
    all_goals (with_reducible rfl)
  try simp only [Act.put, List.setIfInBounds_toArray, List.set_cons_zero, List.set_cons_succ]
  refine wpAnyH_done (by kernel_rfl) ?_ _
  go_wp2
  go_ret
  exact ⟨by rw [cat3, HK.out]; rfl, HF7.out.below⟩

end Go.Proofs.YtmbcbfalgdgmjaaGreatDoor

namespace Go.Proofs.YtmbcbfalgdgmjaaGreatDoor
open Go.RowKit

theorem Whole.range {w : World} {g : Nat} {t : TypeId} {L : List Value} (h : Whole w g t L) {o : Nat} {cs : List Value} (hc : ∀ j v, cs[j]? = some v → L[o + j]? = some v) : w.rangeAt g o cs := fun j v hv => by
  rw [h.cell]; exact hc j v hv
theorem Whole.there {w : World} {g : Nat} {t : TypeId} {L : List Value} (h : Whole w g t L) {o n : Nat} (hn : o + n ≤ L.length) : w.there g o n := fun j hj => by
  refine ⟨?_, h.frozen _⟩
  rw [h.cell, List.getElem?_eq_getElem (by omega)]
  rfl
theorem splice_nil {α : Type} (L : List α) (o : Nat) : splice L o [] = L := by simp [splice]
theorem splice_cons {L : List Value} {o : Nat} {v : Value} {r : List Value} (h : o < L.length) : splice (L.set o v) (o + 1) r = splice L o (v :: r) := by
  unfold splice
  rw [List.take_succ_eq_append_getElem (by simpa using h)]
  simp only [List.getElem_set_self, List.take_set_of_le (Nat.le_refl o), List.length_cons]
  rw [List.drop_set_of_lt (by omega), show o + 1 + r.length = o + (r.length + 1) by omega]
  simp
theorem Whole.setCells {g : Nat} {t : TypeId} : ∀ (vs : List Value) (o : Nat) {w : World} {L : List Value}, Whole w g t L → o + vs.length ≤ L.length → Whole (w.setCells g o vs) g t (splice L o vs)
  | [], o, w, L, h, _ => by rw [splice_nil]; exact h
  | v :: r, o, w, L, h, hl => by
    simp only [List.length_cons] at hl
    have h1 := Whole.setCells r (o + 1) (h.set_ o v) (by simp; omega)
    rw [splice_cons (by omega)] at h1
    exact h1
theorem grew_setCells {F : Nat → Prop} {g : Nat} {w0 : World} : ∀ (vs : List Value) (o : Nat) {w : World}, Grew F w0 w → (F g ∨ w0.heap.size ≤ g) → Grew F w0 (w.setCells g o vs)
  | [], _, _, h, _ => h
  | v :: r, o, _, h, hg => grew_setCells r (o + 1) (h.setCell (a := ⟨g, o, none⟩) hg v) hg
theorem size_setCells {g : Nat} : ∀ (vs : List Value) (o : Nat) (w : World), (w.setCells g o vs).heap.size = w.heap.size
  | [], _, _ => rfl
  | v :: r, o, w => by rw [World.setCells, size_setCells r (o + 1)]; simp
/-- Many cells are stored in a block that is known whole. -/
theorem wpList_store_at {P : Program} {w : World} {ops : Array Oper} {rest : List Oper} {op : Oper} {a : Act} {Q : Exit → Act → World → Prop} (hgd : op.guard = none) (ty : TypeId) (x y : Operand) (ho : op.op = .store ty x y)
    (b o : Nat) (cells : List Value) (hx : a.eval x = .pointer (some ⟨b, o, none⟩)) (hy : a.eval y = .agg cells.toArray) (t : TypeId) (L : List Value) (hw : Whole w b t L) (hfit : o + cells.length ≤ L.length)
    (hi : (P.info? ty).map (·.size) = some cells.length) (h1 : ∀ v ∈ cells, v.oneCell' = true)
    (h : ∀ V, Whole V b t (splice L o cells) → Grew (fun j => j = b) w V → V.heap.size = w.heap.size → wpList P ops Q rest (a.put op.dst undef) V) : wpList P ops Q (op :: rest) a w :=
  wpList_store_mid hgd ty x y ho b o cells.toArray hx hy (by simpa using hw.there hfit) (by simpa using hi) (all_oneCell_toArray h1)
    (h _ (hw.setCells cells o hfit) (grew_setCells cells o (Grew.refl _ _) (.inl rfl)) (size_setCells _ _ _))
theorem wpList_load_at {P : Program} {w : World} {ops : Array Oper} {rest : List Oper} {op : Oper} {a : Act} {Q : Exit → Act → World → Prop} (hgd : op.guard = none) (ty : TypeId) (x : Operand) (ho : op.op = .load ty x)
    (b o : Nat) (hx : a.eval x = .pointer (some ⟨b, o, none⟩)) (cs : List Value) (d : TypeDesc) (hu : P.underlying ty = some d) (hd : d.isRow = true) (hi : (P.info? ty).map (·.size) = some cs.length)
    (t : TypeId) (L : List Value) (hw : Whole w b t L) (hc : ∀ j v, cs[j]? = some v → L[o + j]? = some v)
    (h : wpList P ops Q rest (a.put op.dst (.agg cs.toArray)) w) : wpList P ops Q (op :: rest) a w :=
  wpList_load_mid hgd ty x ho b o hx cs d (hw.range hc) hu hd hi h

/-- A store into a row of the call's own, whatever its elements' size. -/
theorem own_storeG {w : World} {base g : Nat} {e : TypeId} {size n c : Nat} {xs : List Value} (h : w.ownsRow base e size (.slice (some ⟨g, 0, none⟩) n c) n xs) (k : Nat) (u : Value) :
    (w.setCell ⟨g, k, none⟩ u).ownsRow base e size (.slice (some ⟨g, 0, none⟩) n c) n (xs.set k u) := by
  obtain ⟨h1, h2⟩ := h
  refine ⟨by simpa using h1, ?_⟩
  rcases h2 with ⟨hv, _⟩ | ⟨g', cap, cur, hv, hg, hh, h3, h4, h5, h6⟩
  · cases hv
  · injection hv with hv _ hc
    injection hv with hv
    injection hv with hv
    subst hv
    subst hc
    refine .inr ⟨g, c, cur.setIfInBounds k u, rfl, hg, ?_, h3, h4, by simpa using h5, ?_⟩
    · simp [World.setCell, Array.getElem?_modify, hh]
    · rw [← h6]
      simp [List.take_set]
theorem own_setCells {base g : Nat} {e : TypeId} {size n c : Nat} : ∀ (vs : List Value) (o : Nat) {w : World} {xs : List Value}, w.ownsRow base e size (.slice (some ⟨g, 0, none⟩) n c) n xs → o + vs.length ≤ xs.length →
    (w.setCells g o vs).ownsRow base e size (.slice (some ⟨g, 0, none⟩) n c) n (splice xs o vs)
  | [], o, w, L, h, _ => by rw [splice_nil]; exact h
  | v :: r, o, w, L, h, hl => by
    simp only [List.length_cons] at hl
    have h1 := own_setCells r (o + 1) (own_storeG h o v) (by simp; omega)
    rw [splice_cons (by omega)] at h1
    exact h1
theorem own_range {w : World} {base g : Nat} {e : TypeId} {size n c : Nat} {xs : List Value} (h : w.ownsRow base e size (.slice (some ⟨g, 0, none⟩) n c) n xs) {o : Nat} {cs : List Value} (hc : ∀ j v, cs[j]? = some v → xs[o + j]? = some v) : w.rangeAt g o cs := fun j v hv => by
  obtain ⟨h1, h3⟩ := List.getElem?_eq_some_iff.1 (hc j v hv)
  rw [own_cell h h1, h3]
theorem own_there {w : World} {base g : Nat} {e : TypeId} {size n c : Nat} {xs : List Value} (h : w.ownsRow base e size (.slice (some ⟨g, 0, none⟩) n c) n xs) {o k : Nat} (hn : o + k ≤ xs.length) : w.there g o k := fun j hj => by
  refine ⟨?_, own_frozen h _⟩
  rw [own_cell h (by omega)]
  rfl
/-- Many cells are stored in a row of the call's own. -/
theorem wpList_store_own {P : Program} {w : World} {ops : Array Oper} {rest : List Oper} {op : Oper} {a : Act} {Q : Exit → Act → World → Prop} (hgd : op.guard = none) (ty : TypeId) (x y : Operand) (ho : op.op = .store ty x y)
    (b o : Nat) (cells : List Value) (hx : a.eval x = .pointer (some ⟨b, o, none⟩)) (hy : a.eval y = .agg cells.toArray) (base : Nat) (e : TypeId) (size n c : Nat) (L : List Value) (hw : w.ownsRow base e size (.slice (some ⟨b, 0, none⟩) n c) n L) (hfit : o + cells.length ≤ L.length)
    (hi : (P.info? ty).map (·.size) = some cells.length) (h1 : ∀ v ∈ cells, v.oneCell' = true)
    (h : ∀ V, V.ownsRow base e size (.slice (some ⟨b, 0, none⟩) n c) n (splice L o cells) → Grew (fun j => j = b) w V → V.heap.size = w.heap.size → wpList P ops Q rest (a.put op.dst undef) V) : wpList P ops Q (op :: rest) a w :=
  wpList_store_mid hgd ty x y ho b o cells.toArray hx hy (by simpa using own_there hw hfit) (by simpa using hi) (all_oneCell_toArray h1)
    (h _ (own_setCells cells o hw hfit) (grew_setCells cells o (Grew.refl _ _) (.inl rfl)) (size_setCells _ _ _))
theorem wpList_load_own {P : Program} {w : World} {ops : Array Oper} {rest : List Oper} {op : Oper} {a : Act} {Q : Exit → Act → World → Prop} (hgd : op.guard = none) (ty : TypeId) (x : Operand) (ho : op.op = .load ty x)
    (b o : Nat) (hx : a.eval x = .pointer (some ⟨b, o, none⟩)) (cs : List Value) (d : TypeDesc) (hu : P.underlying ty = some d) (hd : d.isRow = true) (hi : (P.info? ty).map (·.size) = some cs.length)
    (base : Nat) (e : TypeId) (size n c : Nat) (L : List Value) (hw : w.ownsRow base e size (.slice (some ⟨b, 0, none⟩) n c) n L) (hc : ∀ j v, cs[j]? = some v → L[o + j]? = some v)
    (h : wpList P ops Q rest (a.put op.dst (.agg cs.toArray)) w) : wpList P ops Q (op :: rest) a w :=
  wpList_load_mid hgd ty x ho b o hx cs d (own_range hw hc) hu hd hi h
/-- Rows of different elements are different blocks. -/
theorem own_not_own {w : World} {base base' : Nat} {e e' : TypeId} {size size' n n' g : Nat} {v v' : Value} {xs xs' : List Value} (h : w.ownsRow base e size v n xs) (h' : w.ownsRow base' e' size' v' n' xs') (ht : e ≠ e') (hg : v'.ownBlock = some g) : v.ownBlock ≠ some g := by
  intro hv
  rcases h'.2 with ⟨rfl, _⟩ | ⟨g', cap, cur, rfl, _, hh, _⟩
  · cases hg
  · simp [Value.ownBlock] at hg
    subst hg
    rcases h.2 with ⟨rfl, _⟩ | ⟨g', cap, cur, rfl, _, hh', _⟩
    · cases hv
    · simp [Value.ownBlock] at hv
      subst hv
      rw [hh] at hh'
      simp at hh'
      exact ht hh'.2.symm

end Go.Proofs.YtmbcbfalgdgmjaaGreatDoor

namespace Go.Proofs.YtmbcbfalgdgmjaaGreatDoor
open Go.RowKit

theorem wp_store_one {P : Program} {w : World} {op : Oper} {a : Act} {K : Act → World → Prop} {Q : Exit → Act → World → Prop} (ty : TypeId) (x y : Operand) (ho : op.op = .store ty x y)
    (b o : Nat) (v : Value) (hx : a.eval x = .pointer (some ⟨b, o, none⟩)) (hy : a.eval y = v) (hv : v.oneCell' = true) (hi : (P.info? ty).map (·.size) = some 1) (t : TypeId) (L : List Value) (hw : Whole w b t L) (u : Value) (hL : L[o]? = some u)
    (h : ∀ V, Whole V b t (L.set o v) → Grew (fun j => j = b) w V → V.heap.size = w.heap.size → K (a.put op.dst undef) V) : Oper.wp P op a w K Q := by
  have hc : w.cell? ⟨b, o, none⟩ = some u := by rw [hw.cell]; exact hL
  have hf : w.frozen? ⟨b, o, none⟩ = false := hw.frozen o
  obtain ⟨i, hi1, hi2⟩ := Option.map_eq_some_iff.1 hi
  have hvc : v.cells = #[v] := by
    cases v <;> first | rfl | (simp [Value.oneCell'] at hv)
  have hst : (storeVar ty ⟨b, o, none⟩ v).run P w = .ok () (w.setCell ⟨b, o, none⟩ v) := by
    have h1 := run_storeCells_cells (P := P) b o [v] 0 w (fun j hj => by
      have : j = 0 := by simpa using hj
      subst this
      rw [show (⟨b, o + (0 + 0), none⟩ : Addr) = ⟨b, o, none⟩ from rfl, hc]; rfl) (fun j hj => by
      have : j = 0 := by simpa using hj
      subst this
      exact hf) (fun x hx => by rw [List.mem_singleton.1 hx]; exact hv)
    simp only [Nat.add_zero] at h1
    simp [storeVar, sizeOf, typeInfo, hi1, hi2, hvc, h1, World.setCells]
  unfold Oper.wp execOp
  simp only [ho, hx, hy, Instr.storeAt, Instr.sureAddr, Sem.run_bind, Sem.run_pure, Result.andThen_ok, hst]
  exact h _ (hw.set_ o v) (Grew.setCell (F := fun j => j = b) (Grew.refl _ w) (a := ⟨b, o, none⟩) (.inl rfl) v) (by simp)

theorem wpList_store_one {P : Program} {w : World} {ops : Array Oper} {rest : List Oper} {op : Oper} {a : Act} {Q : Exit → Act → World → Prop} (hgd : op.guard = none) (ty : TypeId) (x y : Operand) (ho : op.op = .store ty x y)
    (b o : Nat) (v : Value) (hx : a.eval x = .pointer (some ⟨b, o, none⟩)) (hy : a.eval y = v) (hv : v.oneCell' = true) (hi : (P.info? ty).map (·.size) = some 1) (t : TypeId) (L : List Value) (hw : Whole w b t L) (u : Value) (hL : L[o]? = some u)
    (h : ∀ V, Whole V b t (L.set o v) → Grew (fun j => j = b) w V → V.heap.size = w.heap.size → wpList P ops Q rest (a.put op.dst undef) V) : wpList P ops Q (op :: rest) a w :=
  wpList_plain hgd fun _ hK => wp_store_one ty x y ho b o v hx hy hv hi t L hw u hL fun V h1 h2 h3 => hK _ _ (h V h1 h2 h3)

end Go.Proofs.YtmbcbfalgdgmjaaGreatDoor

namespace Go.Proofs.YtmbcbfalgdgmjaaGreatDoor
open Go.RowKit

/-- A fact of one's own. -/
structure FOwn (w : World) (B : Nat) (x : FV) : Prop where
  n : w.ownsRow B 9 1 (.slice x.A x.name.length x.c) x.name.length (x.name.map sv)
  z : w.ownsRow B 9 1 (.slice x.zA x.zone.length x.zc) x.zone.length (x.zone.map sv)
  d : OwnD w B x.d x.soa
  s : w.ownsRow B 34 5 (.slice x.sA x.sp.length x.sc) x.sp.length (x.sp.flatMap cellsD)
  e : ∀ p ∈ x.sp, OwnD w B p.1 p.2
theorem FOwn.at_ {w : World} {B : Nat} {x : FV} (h : FOwn w B x) : FAt w w.heap.size x :=
  ⟨Row.of_own h.n, ⟨Row.of_own h.s, fun p hp => (h.e p hp).at_⟩, Row.of_own h.z, h.d.at_, own_cap h.n, own_cap h.z, own_cap h.s, own_capZ h.s⟩
theorem FOwn.monoB {w : World} {B B' : Nat} {x : FV} (h : FOwn w B x) (hb : B' ≤ B) : FOwn w B' x := ⟨own_mono h.n hb, own_mono h.z hb, h.d.monoB hb, own_mono h.s hb, fun p hp => (h.e p hp).monoB hb⟩
/-- What holds of blocks from B on is kept where these are. -/
theorem OwnD.keepB {w w' : World} {B : Nat} {x : DV} {d : Dt} (h : OwnD w B x d) (hk : ∀ g, B ≤ g → g < w.heap.size → w'.heap[g]? = w.heap[g]?) : OwnD w' B x d :=
  ⟨own_keep h.b fun g e => hk g (h.b.lt g e).1 (h.b.lt g e).2, own_keep h.h fun g e => hk g (h.h.lt g e).1 (h.h.lt g e).2, own_keep h.m fun g e => hk g (h.m.lt g e).1 (h.m.lt g e).2, own_keep h.n fun g e => hk g (h.n.lt g e).1 (h.n.lt g e).2, own_keep h.t fun g e => hk g (h.t.lt g e).1 (h.t.lt g e).2⟩
theorem FOwn.keepB {w w' : World} {B : Nat} {x : FV} (h : FOwn w B x) (hk : ∀ g, B ≤ g → g < w.heap.size → w'.heap[g]? = w.heap[g]?) : FOwn w' B x :=
  ⟨own_keep h.n fun g e => hk g (h.n.lt g e).1 (h.n.lt g e).2, own_keep h.z fun g e => hk g (h.z.lt g e).1 (h.z.lt g e).2, h.d.keepB hk, own_keep h.s fun g e => hk g (h.s.lt g e).1 (h.s.lt g e).2, fun p hp => (h.e p hp).keepB hk⟩
theorem own_own_ne13 {w : World} {b1 b2 s1 s2 n1 n2 : Nat} {e1 e2 : TypeId} {v1 v2 : Value} {xs1 xs2 : List Value} (h1 : w.ownsRow b1 e1 s1 v1 n1 xs1) (h2 : w.ownsRow b2 e2 s2 v2 n2 xs2) (hne : e1 ≠ e2) : v1.ownBlock = none ∨ v1.ownBlock ≠ v2.ownBlock := by
  rcases h1.2 with ⟨rfl, _⟩ | ⟨g, cap, cur, rfl, _, hh, _⟩
  · exact .inl rfl
  · right
    rcases h2.2 with ⟨rfl, _⟩ | ⟨g', cap', cur', rfl, _, hh', _⟩
    · exact fun h => by cases h
    · intro h
      have e : g = g' := Option.some.inj h
      subst e
      rw [hh] at hh'
      injection hh' with hh'
      injection hh' with _ e2
      exact hne e2
theorem own_grownT {w w' : World} {b1 b2 s1 s2 n1 n2 : Nat} {e1 e2 : TypeId} {v1 v2 : Value} {xs1 xs2 : List Value} (h1 : w.ownsRow b1 e1 s1 v1 n1 xs1) (h2 : w.ownsRow b2 e2 s2 v2 n2 xs2) (hne : e1 ≠ e2) (hg : w.grownBy w' v2.ownBlock) : w'.ownsRow b1 e1 s1 v1 n1 xs1 :=
  own_keep h1 fun g e => hg.block g (h1.lt g e).2 (by
    rcases own_own_ne13 h1 h2 hne with h | h
    · rw [h] at e; cases e
    · rw [← e]; exact h)
theorem OwnD.grownD {w w' : World} {B b2 n2 : Nat} {x : DV} {d : Dt} {v2 : Value} {xs2 : List Value} (h : OwnD w B x d) (h2 : w.ownsRow b2 34 5 v2 n2 xs2) (hg : w.grownBy w' v2.ownBlock) : OwnD w' B x d :=
  ⟨own_grownT h.b h2 (by decide) hg, own_grownT h.h h2 (by decide) hg, own_grownT h.m h2 (by decide) hg, own_grownT h.n h2 (by decide) hg, own_grownT h.t h2 (by decide) hg⟩

theorem dats_step13 {ps : List (DV × Dt)} {k : Nat} (hk : k < ps.length) : dats (ps.take (k + 1)) = dats (ps.take k) ++ [(ps[k]).2] := by
  rw [List.take_succ_eq_append_getElem hk, dats_append]
  rfl
/-- The boxes of OwnFact. -/
structure OwF (w : World) (L : List Value) (W : World) : Prop where
  a : Whole W w.heap.size 36 L
  b : Whole W (w.heap.size + 1) 36 [.slice none 0 0, .int .i64 0, .int .i64 0, .int .i64 0, .int .i64 0, .int .i64 0, .slice none 0 0, .slice none 0 0, .slice none 0 0, .slice none 0 0, .slice none 0 0, .slice none 0 0, .slice none 0 0]
  below : Below w.heap.size w W
  size : w.heap.size + 2 ≤ W.heap.size
theorem OwF.step {w : World} {L : List Value} {W W' : World} (h : OwF w L W) (hb : Below W.heap.size W W') : OwF w L W' :=
  ⟨h.a.below hb h.a.lt, h.b.below hb h.b.lt, h.below.trans (hb.mono (by have := h.size; omega)), Nat.le_trans h.size hb.size⟩
theorem OwF.put {w : World} {L L' : List Value} {W V : World} (h : OwF w L W) (hV : Whole V w.heap.size 36 L') (hG : Grew (fun j => j = w.heap.size) W V) (hz : V.heap.size = W.heap.size) : OwF w L' V := by
  have hb : Below w.heap.size W V := Grew.below (B := w.heap.size) hG (fun j hj => by rw [hj]; exact Nat.le_refl _) (by have := h.size; omega)
  exact ⟨hV, (hG.block _ h.b.lt (by omega)).trans h.b, h.below.trans hb, by rw [hz]; exact h.size⟩
theorem OwF.grown {w : World} {L : List Value} {W V : World} {B n size : Nat} {e : TypeId} {v : Value} {xs : List Value} (h : OwF w L W) (ho : W.ownsRow B e size v n xs) (hB : w.heap.size + 2 ≤ B) (hg : W.grownBy V v.ownBlock) : OwF w L V :=
  ⟨h.a.grown hg (fun e => by have := (ho.lt _ e.symm).1; omega), h.b.grown hg (fun e => by have := (ho.lt _ e.symm).1; omega), own_below h.below (by omega) (by have := h.size; omega) ho hg, Nat.le_trans h.size hg.size⟩
theorem OwF.made (w : World) (x : FV) : OwF w (cellsF x) ((w.alloc (.cells #[.slice x.A x.name.length x.c, .int .i64 x.h.typ, .int .i64 x.h.knd, .int .i64 x.h.rank, .int .i64 x.h.got, .int .i64 x.h.ttl, .slice x.sA x.sp.length x.sc, .slice x.zA x.zone.length x.zc, .slice x.d.Ab x.soa.bytes.length x.d.cb, .slice x.d.Ah x.soa.host.length x.d.ch, .slice x.d.Am x.soa.mail.length x.d.cm, .slice x.d.An x.soa.nums.length x.d.cn, .slice x.d.At x.soa.texts.length x.d.ct] 36)).alloc (.cells #[.slice none 0 0, .int .i64 0, .int .i64 0, .int .i64 0, .int .i64 0, .int .i64 0, .slice none 0 0, .slice none 0 0, .slice none 0 0, .slice none 0 0, .slice none 0 0, .slice none 0 0, .slice none 0 0] 36)) := by
  have hz : (w.alloc (.cells #[.slice x.A x.name.length x.c, .int .i64 x.h.typ, .int .i64 x.h.knd, .int .i64 x.h.rank, .int .i64 x.h.got, .int .i64 x.h.ttl, .slice x.sA x.sp.length x.sc, .slice x.zA x.zone.length x.zc, .slice x.d.Ab x.soa.bytes.length x.d.cb, .slice x.d.Ah x.soa.host.length x.d.ch, .slice x.d.Am x.soa.mail.length x.d.cm, .slice x.d.An x.soa.nums.length x.d.cn, .slice x.d.At x.soa.texts.length x.d.ct] 36)).heap.size = w.heap.size + 1 := by simp
  refine ⟨(Whole.made w (cellsF x) _).alloc _, ?_, ((Below.refl _ _).alloc (Nat.le_refl _) _).alloc (by simp) _, by simp⟩
  have := Whole.made (w.alloc (.cells #[.slice x.A x.name.length x.c, .int .i64 x.h.typ, .int .i64 x.h.knd, .int .i64 x.h.rank, .int .i64 x.h.got, .int .i64 x.h.ttl, .slice x.sA x.sp.length x.sc, .slice x.zA x.zone.length x.zc, .slice x.d.Ab x.soa.bytes.length x.d.cb, .slice x.d.Ah x.soa.host.length x.d.ch, .slice x.d.Am x.soa.mail.length x.d.cm, .slice x.d.An x.soa.nums.length x.d.cn, .slice x.d.At x.soa.texts.length x.d.ct] 36)) [.slice none 0 0, .int .i64 0, .int .i64 0, .int .i64 0, .int .i64 0, .int .i64 0, .slice none 0 0, .slice none 0 0, .slice none 0 0, .slice none 0 0, .slice none 0 0, .slice none 0 0, .slice none 0 0] 36
  rw [hz] at this
  exact this

structure FewF (x : FV) : Prop where
  n : x.name.length ≤ 300
  z : x.zone.length ≤ 300
  s : x.sp.length ≤ 300
  d : FewD x.soa
  e : ∀ p ∈ x.sp, FewD p.2
def OwnFOut (w : World) (f : Fc) (e : Ending) (w' : World) : Prop := ∃ x' : FV, e = .returned x'.val ∧ x'.fact = f ∧ FOwn w' w.heap.size x' ∧ Below w.heap.size w w'
/-- What holds within OwnFact's loop. -/
structure OwL (w : World) (x3 : FV) (v : Value) (qs : List (DV × Dt)) (wr : World) : Prop where
  x : OwF w (cellsF x3) wr
  n : wr.ownsRow (w.heap.size + 2) 9 1 (.slice x3.A x3.name.length x3.c) x3.name.length (x3.name.map sv)
  z : wr.ownsRow (w.heap.size + 2) 9 1 (.slice x3.zA x3.zone.length x3.zc) x3.zone.length (x3.zone.map sv)
  d : OwnD wr (w.heap.size + 2) x3.d x3.soa
  s : wr.ownsRow (w.heap.size + 2) 34 5 v qs.length (qs.flatMap cellsD)
  e : ∀ p ∈ qs, OwnD wr (w.heap.size + 2) p.1 p.2
theorem OwL.step {w : World} {x3 : FV} {v : Value} {qs : List (DV × Dt)} {W W' : World} (h : OwL w x3 v qs W) (hb : Below W.heap.size W W') : OwL w x3 v qs W' :=
  have k : ∀ g, w.heap.size + 2 ≤ g → g < W.heap.size → W'.heap[g]? = W.heap[g]? := fun g _ hg => hb.block g hg
  ⟨h.x.step hb, own_keep h.n fun g e => k g (h.n.lt g e).1 (h.n.lt g e).2, own_keep h.z fun g e => k g (h.z.lt g e).1 (h.z.lt g e).2, h.d.keepB k, own_keep h.s fun g e => k g (h.s.lt g e).1 (h.s.lt g e).2, fun p hp => (h.e p hp).keepB k⟩
theorem OwL.snoc {w : World} {x3 : FV} {v v' : Value} {qs : List (DV × Dt)} {W W' : World} (h : OwL w x3 v qs W) {y : DV} {d : Dt} (hy : OwnD W (w.heap.size + 2) y d)
    (ho : W'.ownsRow (w.heap.size + 2) 34 5 v' (qs.length + 1) (qs.flatMap cellsD ++ cellsD (y, d))) (hg : W.grownBy W' v.ownBlock) : OwL w x3 v' (qs ++ [(y, d)]) W' := by
  refine ⟨h.x.grown h.s (Nat.le_refl _) hg, own_grownT h.n h.s (by decide) hg, own_grownT h.z h.s (by decide) hg, h.d.grownD h.s hg, by rw [List.length_append, List.flatMap_append]; simpa using ho, fun p hp => ?_⟩
  rcases List.mem_append.1 hp with hp | hp
  · exact (h.e p hp).grownD h.s hg
  · rw [List.mem_singleton.1 hp]
    exact hy.grownD h.s hg
def OwRel (w : World) (x x3 : FV) (v i : Value) (wr : World) : Prop := ∃ (j : Nat) (qs : List (DV × Dt)), j ≤ x.sp.length ∧ i = .int .i64 j ∧ dats qs = dats (x.sp.take j) ∧ qs.length = j ∧ OwL w x3 v qs wr

theorem fact_size : (Tryz.prog.info? 36).map (·.size) = some 13 := by kernel_rfl
theorem data_size : (Tryz.prog.info? 34).map (·.size) = some 5 := by kernel_rfl
theorem strs_size : (Tryz.prog.info? 29).map (·.size) = some 1 := by kernel_rfl
theorem dats_size : (Tryz.prog.info? 30).map (·.size) = some 1 := by kernel_rfl

set_option maxRecDepth 20000 in
set_option maxHeartbeats 8000000 in
theorem ownfact_any (w : World) (x : FV) (hx : FAt w w.heap.size x) (hf : FewF x) : Calls Tryz.prog 12 #[x.val] w (OwnFOut w x.fact) := by
  obtain ⟨t0, ht0, hx0, hx1, hx2⟩ := info_parts str_info
  obtain ⟨i0, hi0, hz0, hz1, hz2⟩ := info_parts data_info
  have HX := Lib.hid (fun W' (hb : Below w.heap.size w W') => hx.below hb)
  have HF := Lib.hid hf
  have HB := Lib.hid (OwF.made w x)
  have hn1 := hf.n
  have hn2 := hf.z
  have hn3 := hf.s
  obtain ⟨W, hW⟩ : ∃ W, W = (w.alloc (.cells #[.slice x.A x.name.length x.c, .int .i64 x.h.typ, .int .i64 x.h.knd, .int .i64 x.h.rank, .int .i64 x.h.got, .int .i64 x.h.ttl, .slice x.sA x.sp.length x.sc, .slice x.zA x.zone.length x.zc, .slice x.d.Ab x.soa.bytes.length x.d.cb, .slice x.d.Ah x.soa.host.length x.d.ch, .slice x.d.Am x.soa.mail.length x.d.cm, .slice x.d.An x.soa.nums.length x.d.cn, .slice x.d.At x.soa.texts.length x.d.ct] 36)).alloc (.cells #[.slice none 0 0, .int .i64 0, .int .i64 0, .int .i64 0, .int .i64 0, .int .i64 0, .slice none 0 0, .slice none 0 0, .slice none 0 0, .slice none 0 0, .slice none 0 0, .slice none 0 0, .slice none 0 0] 36) := ⟨_, rfl⟩
  rw [← hW] at HB
  clear hx hf
  go_enter Tryz.func12, Tryz.ntmps12
  go_upto_region 1 with fail
  rw [← hW]
  clear hW
  have HL1 := Lib.hid (own_mono (own_lit W 9 1) HB.out.size)
  have HB1 := Lib.hid (HB.out.step ((Below.refl W.heap.size W).alloc (Nat.le_refl _) (.cells #[] 9)))
  have p0 : (W.alloc (.cells #[] 9)).cell? ⟨w.heap.size, 0, none⟩ = some (.slice x.A x.name.length x.c) := HB1.out.a.cell 0
  go_wp2_with (first
    | (at_builtin
       refine wpList_append_row rfl (.tmp 5) (.tmp 7) _ rfl (w.heap.size + 2) 9 t0 _ 1 16 Tryz.underlying29 ht0 hx0 hx1 hx2 rfl (by omega) (.slice (some ⟨W.heap.size, 0, none⟩) 0 0) 0 [] rfl
         HL1.out x.A x.name.length x.c _ (x.name.map sv) rfl (by rw [List.length_map, Nat.mul_one]) (HX.out _ HB1.out.below).n (sv_one _) (by unfold maxLen; omega) (by omega) HB1.out.size ?_
       intro v2 w2 hown hg
       simp only [Nat.zero_add, List.nil_append] at hown
       have HB2 := Lib.hid (HB1.out.grown HL1.out (Nat.le_refl _) hg)
       obtain ⟨An, cn, rfl, _, _⟩ := own_form hown
       have HN2 := Lib.hid hown
       clear hown hg)
    | (refine wpList_store_one rfl 29 (.tmp 9) (.tmp 8) rfl w.heap.size 0 (.slice An x.name.length cn) rfl rfl rfl strs_size 36 _ HB2.out.a _ rfl ?_
       intro w3 hV hG hZ
       have HB3 := Lib.hid (HB2.out.put hV hG hZ)
       have HN3 := Lib.hid (own_keep HN2.out fun g e => hG.block g (HN2.out.lt g e).2 (by have := (HN2.out.lt g e).1; omega))
       clear hV hG hZ
       have HL4 := Lib.hid (own_mono (own_lit w3 9 1) HB3.out.size)
       have HB4 := Lib.hid (HB3.out.step ((Below.refl w3.heap.size w3).alloc (Nat.le_refl _) (.cells #[] 9)))
       have p7 : (w3.alloc (.cells #[] 9)).cell? ⟨w.heap.size, 7, none⟩ = some (.slice x.zA x.zone.length x.zc) := HB4.out.a.cell 7
       have HN4 := Lib.hid (own_keep (w' := w3.alloc (.cells #[] 9)) HN3.out fun g e => Below.heap_alloc w3 _ g (HN3.out.lt g e).2)
       have HO4 := Lib.hid (own_lit w3 9 1))
    | (at_builtin
       refine wpList_append_row rfl (.tmp 10) (.tmp 12) _ rfl w3.heap.size 9 t0 _ 1 16 Tryz.underlying29 ht0 hx0 hx1 hx2 rfl (by omega) (.slice (some ⟨w3.heap.size, 0, none⟩) 0 0) 0 [] rfl
         HO4.out x.zA x.zone.length x.zc _ (x.zone.map sv) rfl (by rw [List.length_map, Nat.mul_one]) (HX.out _ HB4.out.below).z (sv_one _) (by unfold maxLen; omega) (by omega) (by simp) ?_
       intro v5 w5 hown hg
       simp only [Nat.zero_add, List.nil_append] at hown
       have HB5 := Lib.hid (HB4.out.grown HL4.out (Nat.le_refl _) hg)
       have HN5 := Lib.hid (own_keep HN4.out fun g e => hg.block g (HN4.out.lt g e).2 (fun h => by
         have h1 := (HN3.out.lt g e).2
         have h2 := (HO4.out.lt g h.symm).1
         omega))
       obtain ⟨Az, cz, rfl, _, _⟩ := own_form hown
       have HZ5 := Lib.hid (own_mono hown HB3.out.size)
       clear hown hg)
    | (refine wpList_store_one rfl 29 (.tmp 14) (.tmp 13) rfl w.heap.size 7 (.slice Az x.zone.length cz) rfl rfl rfl strs_size 36 _ HB5.out.a _ rfl ?_
       intro w6 hV hG hZ
       have HB6 := Lib.hid (HB5.out.put hV hG hZ)
       have HN6 := Lib.hid (own_keep HN5.out fun g e => hG.block g (HN5.out.lt g e).2 (by have := (HN5.out.lt g e).1; omega))
       have HZ6 := Lib.hid (own_keep HZ5.out fun g e => hG.block g (HZ5.out.lt g e).2 (by have := (HZ5.out.lt g e).1; omega))
       clear hV hG hZ HB5 HB4 HB3 HB2 HN5 HN4 HN3 HN2 HZ5 HL1 HL4 HO4
       have p8 : w6.cell? ⟨w.heap.size, 8, none⟩ = some (.slice x.d.Ab x.soa.bytes.length x.d.cb) := HB6.out.a.cell 8
       have p9 : w6.cell? ⟨w.heap.size, 9, none⟩ = some (.slice x.d.Ah x.soa.host.length x.d.ch) := HB6.out.a.cell 9
       have p10 : w6.cell? ⟨w.heap.size, 10, none⟩ = some (.slice x.d.Am x.soa.mail.length x.d.cm) := HB6.out.a.cell 10
       have p11 : w6.cell? ⟨w.heap.size, 11, none⟩ = some (.slice x.d.An x.soa.nums.length x.d.cn) := HB6.out.a.cell 11
       have p12 : w6.cell? ⟨w.heap.size, 12, none⟩ = some (.slice x.d.At x.soa.texts.length x.d.ct) := HB6.out.a.cell 12))
  refine (ownData_few x.d x.soa w6 ((HX.out _ HB6.out.below).d.mono HB6.out.below.size) HF.out.d).mono ?_
  rintro e w7 ⟨yd, rfl, hyd, _, _, hb7⟩
  have HB7 := Lib.hid (HB6.out.step hb7)
  have HN7 := Lib.hid (own_keep HN6.out fun g e => hb7.block g (HN6.out.lt g e).2)
  have HZ7 := Lib.hid (own_keep HZ6.out fun g e => hb7.block g (HZ6.out.lt g e).2)
  have HD7 := Lib.hid (hyd.monoB HB6.out.size)
  clear hyd hb7 p8 p9 p10 p11 p12 HB6 HN6 HZ6 HB1 HB p0 p7
  go_wp2_with (
    refine wpList_store_at rfl 34 (.tmp 18) (.tmp 17) rfl w.heap.size 8 (cellsD (yd, x.soa)) rfl rfl 36 _ HB7.out.a (Nat.le_refl 13) data_size (fun u hu => cellsD_one [(yd, x.soa)] u (by simpa using hu)) ?_
    intro w8 hV hG hZ
    have HB8 := Lib.hid (show OwF w (cellsF ({ x with A := An, c := cn, zA := Az, zc := cz, d := yd } : FV)) w8 from HB7.out.put hV hG hZ)
    have HL8 := Lib.hid (show OwL w ({ x with A := An, c := cn, zA := Az, zc := cz, d := yd } : FV) (.slice none 0 0) [] w8 from by
      have k : ∀ g, w.heap.size + 2 ≤ g → g < w7.heap.size → w8.heap[g]? = w7.heap[g]? := fun g h1 h2 => hG.block g h2 (by omega)
      exact ⟨HB8.out, own_keep HN7.out fun g e => k g (HN7.out.lt g e).1 (HN7.out.lt g e).2, own_keep HZ7.out fun g e => k g (HZ7.out.lt g e).1 (HZ7.out.lt g e).2, HD7.out.keepB k, World.ownsRow_nil _ _ _ _, fun _ h => absurd h (List.not_mem_nil)⟩)
    clear hV hG hZ)
  clear HB7 HN7 HZ7 HD7 HB8
  go_loopw [3, 4] (OwRel w x ({ x with A := An, c := cn, zA := Az, zc := cz, d := yd } : FV)) (fun _ i _ => x.sp.length - (intOf i).toNat)
  case atStart => exact ⟨0, [], Nat.zero_le _, rfl, rfl, rfl, HL8.out⟩
  case round =>
  obtain ⟨j, qs, hj, rfl, hq, hqj, hs⟩ := hrel
  have HQ := Lib.hid hq
  have HQJ := Lib.hid hqj
  have HS := Lib.hid hs
  obtain ⟨A1, c1, rfl, _, _⟩ := own_form hs.s
  have hql : qs.length ≤ x.sp.length := by omega
  have p6 : wr.cell? ⟨w.heap.size, 6, none⟩ = some (.slice x.sA x.sp.length x.sc) := hs.x.a.cell 6
  clear hq hqj hs HL8
  by_cases hlt : j < x.sp.length
  · obtain ⟨b, off, hA, hbH, hda, r0, r1, r2, r3, r4⟩ := (HX.out _ HS.out.x.below).s.at_ hlt
    have hfe := HF.out.e _ (List.getElem_mem hlt)
    have HDS := Lib.hid (dats_step13 hlt)
    have p6' : wr.cell? ⟨w.heap.size, 6, none⟩ = some (.slice (some ⟨b, off, none⟩) x.sp.length x.sc) := p6.trans (by rw [hA])
    revert hda r0 r1 r2 r3 r4 hfe HDS
    generalize x.sp[j] = p
    obtain ⟨y, d⟩ := p
    intro hda r0 r1 r2 r3 r4 hfe HDS
    dsimp only at hda r0 r1 r2 r3 r4 hfe HDS
    have HDA := Lib.hid (hda.mono HS.out.x.below.size)
    have HFE := Lib.hid hfe
    clear p6 hA hda hfe
    go_wp2_with fail
    refine (ownData_few y d wr HDA.out HFE.out).mono ?_
    rintro e w9 ⟨y9, rfl, hy9, _, _, hb9⟩
    have HS9 := Lib.hid (HS.out.step hb9)
    have HS10 := Lib.hid (HS9.out.step ((Below.refl w9.heap.size w9).alloc (Nat.le_refl _) (.cells (cellsD (y9, d)).toArray 34)))
    have HY10 := Lib.hid ((hy9.monoB HS.out.x.size).keepB (w' := w9.alloc (.cells (cellsD (y9, d)).toArray 34)) fun g _ hg => Below.heap_alloc w9 _ g hg)
    have HR10 := Lib.hid (Row.made w9 (cellsD (y9, d)).toArray 34)
    clear hy9 hb9 p6' r0 r1 r2 r3 r4
    go_wp2_with (
      at_builtin
      refine wpList_append_row rfl (.tmp 26) (.tmp 33) _ rfl (w.heap.size + 2) 34 i0 _ 5 120 Tryz.underlying30 hi0 hz0 hz1 hz2 rfl (by omega) (.slice A1 qs.length c1) qs.length _ rfl HS10.out.s
        (some ⟨w9.heap.size, 0, none⟩) 1 1 (w9.heap.size + 1) (cellsD (y9, d)) rfl rfl HR10.out (fun u hu => cellsD_one [(y9, d)] u (by simpa using hu)) (by unfold maxLen; omega) (by omega) HS10.out.x.size ?_
      intro v7 w10 hown hg
      have HS11 := Lib.hid (HS10.out.snoc HY10.out hown hg)
      clear hown hg)
    exact ⟨⟨j + 1, qs ++ [(y9, d)], by omega, by go_num, by rw [HDS.out, dats_append, HQ.out]; rfl, by simp [HQJ.out], HS11.out⟩, by simp [intOf]; omega⟩
  · obtain rfl : j = x.sp.length := by omega
    have HQ' := Lib.hid (show dats qs = dats x.sp by have h := HQ.out; rwa [List.take_length] at h)
    go_wp2_with (first
      | (refine wpList_store_one rfl 30 (.tmp 36) (.tmp 35) rfl w.heap.size 6 (.slice A1 qs.length c1) rfl rfl rfl dats_size 36 _ HS.out.x.a _ rfl ?_
         intro w11 hV hG hZ
         have HB11 := Lib.hid (show OwF w (cellsF ({ x with A := An, c := cn, zA := Az, zc := cz, d := yd, sA := A1, sc := c1, sp := qs } : FV)) w11 from HS.out.x.put hV hG hZ)
         have HO11 := Lib.hid (show FOwn w11 (w.heap.size + 2) ({ x with A := An, c := cn, zA := Az, zc := cz, d := yd, sA := A1, sc := c1, sp := qs } : FV) from by
           have k : ∀ g, w.heap.size + 2 ≤ g → g < wr.heap.size → w11.heap[g]? = wr.heap[g]? := fun g h1 h2 => hG.block g h2 (by omega)
           exact ⟨own_keep HS.out.n fun g e => k g (HS.out.n.lt g e).1 (HS.out.n.lt g e).2, own_keep HS.out.z fun g e => k g (HS.out.z.lt g e).1 (HS.out.z.lt g e).2, HS.out.d.keepB k, own_keep HS.out.s fun g e => k g (HS.out.s.lt g e).1 (HS.out.s.lt g e).2, fun p hp => (HS.out.e p hp).keepB k⟩)
         clear hV hG hZ
         have u0 : w11.cell? ⟨w.heap.size, 0, none⟩ = some (.slice An x.name.length cn) := HB11.out.a.cell 0
         have u1 : w11.cell? ⟨w.heap.size, 1, none⟩ = some (.int .i64 x.h.typ) := HB11.out.a.cell 1
         have u2 : w11.cell? ⟨w.heap.size, 2, none⟩ = some (.int .i64 x.h.knd) := HB11.out.a.cell 2
         have u3 : w11.cell? ⟨w.heap.size, 3, none⟩ = some (.int .i64 x.h.rank) := HB11.out.a.cell 3
         have u4 : w11.cell? ⟨w.heap.size, 4, none⟩ = some (.int .i64 x.h.got) := HB11.out.a.cell 4
         have u5 : w11.cell? ⟨w.heap.size, 5, none⟩ = some (.int .i64 x.h.ttl) := HB11.out.a.cell 5
         have u6 : w11.cell? ⟨w.heap.size, 6, none⟩ = some (.slice A1 qs.length c1) := HB11.out.a.cell 6
         have u7 : w11.cell? ⟨w.heap.size, 7, none⟩ = some (.slice Az x.zone.length cz) := HB11.out.a.cell 7
         have u8 : w11.cell? ⟨w.heap.size, 8, none⟩ = some (.slice yd.Ab x.soa.bytes.length yd.cb) := HB11.out.a.cell 8
         have u9 : w11.cell? ⟨w.heap.size, 9, none⟩ = some (.slice yd.Ah x.soa.host.length yd.ch) := HB11.out.a.cell 9
         have u10 : w11.cell? ⟨w.heap.size, 10, none⟩ = some (.slice yd.Am x.soa.mail.length yd.cm) := HB11.out.a.cell 10
         have u11 : w11.cell? ⟨w.heap.size, 11, none⟩ = some (.slice yd.An x.soa.nums.length yd.cn) := HB11.out.a.cell 11
         have u12 : w11.cell? ⟨w.heap.size, 12, none⟩ = some (.slice yd.At x.soa.texts.length yd.ct) := HB11.out.a.cell 12)
      | (refine wpList_store_at rfl 36 (.tmp 2) (.tmp 37) rfl (w.heap.size + 1) 0 (cellsF ({ x with A := An, c := cn, zA := Az, zc := cz, d := yd, sA := A1, sc := c1, sp := qs } : FV)) rfl rfl 36 _ HB11.out.b (Nat.le_refl 13) fact_size (fun u hu => cellsF_one [({ x with A := An, c := cn, zA := Az, zc := cz, d := yd, sA := A1, sc := c1, sp := qs } : FV)] u (by simpa using hu)) ?_
         intro w12 hV hG hZ
         have HV12 := Lib.hid (show Whole w12 (w.heap.size + 1) 36 (cellsF ({ x with A := An, c := cn, zA := Az, zc := cz, d := yd, sA := A1, sc := c1, sp := qs } : FV)) from hV)
         have HB12 := Lib.hid (show Below w.heap.size w w12 from HB11.out.below.trans ((Grew.below (B := w.heap.size + 1) hG (fun j hj => by rw [hj]; exact Nat.le_refl _) (by have := HB11.out.size; omega)).mono (Nat.le_succ _)))
         have HO12 := Lib.hid (FOwn.monoB (B' := w.heap.size) (HO11.out.keepB fun g h1 h2 => hG.block g h2 (by omega)) (by omega))
         clear hV hG hZ
         have v0 : w12.cell? ⟨w.heap.size + 1, 0, none⟩ = some (.slice An x.name.length cn) := HV12.out.cell 0
         have v1 : w12.cell? ⟨w.heap.size + 1, 1, none⟩ = some (.int .i64 x.h.typ) := HV12.out.cell 1
         have v2 : w12.cell? ⟨w.heap.size + 1, 2, none⟩ = some (.int .i64 x.h.knd) := HV12.out.cell 2
         have v3 : w12.cell? ⟨w.heap.size + 1, 3, none⟩ = some (.int .i64 x.h.rank) := HV12.out.cell 3
         have v4 : w12.cell? ⟨w.heap.size + 1, 4, none⟩ = some (.int .i64 x.h.got) := HV12.out.cell 4
         have v5 : w12.cell? ⟨w.heap.size + 1, 5, none⟩ = some (.int .i64 x.h.ttl) := HV12.out.cell 5
         have v6 : w12.cell? ⟨w.heap.size + 1, 6, none⟩ = some (.slice A1 qs.length c1) := HV12.out.cell 6
         have v7 : w12.cell? ⟨w.heap.size + 1, 7, none⟩ = some (.slice Az x.zone.length cz) := HV12.out.cell 7
         have v8 : w12.cell? ⟨w.heap.size + 1, 8, none⟩ = some (.slice yd.Ab x.soa.bytes.length yd.cb) := HV12.out.cell 8
         have v9 : w12.cell? ⟨w.heap.size + 1, 9, none⟩ = some (.slice yd.Ah x.soa.host.length yd.ch) := HV12.out.cell 9
         have v10 : w12.cell? ⟨w.heap.size + 1, 10, none⟩ = some (.slice yd.Am x.soa.mail.length yd.cm) := HV12.out.cell 10
         have v11 : w12.cell? ⟨w.heap.size + 1, 11, none⟩ = some (.slice yd.An x.soa.nums.length yd.cn) := HV12.out.cell 11
         have v12 : w12.cell? ⟨w.heap.size + 1, 12, none⟩ = some (.slice yd.At x.soa.texts.length yd.ct) := HV12.out.cell 12))
    refine ⟨rfl, FV.val ({ x with A := An, c := cn, zA := Az, zc := cz, d := yd, sA := A1, sc := c1, sp := qs } : FV), ?_, ({ x with A := An, c := cn, zA := Az, zc := cz, d := yd, sA := A1, sc := c1, sp := qs } : FV), rfl, ?_, HO12.out, HB12.out⟩
    · simp [results, Tryz.results12, go_sem, v0, v1, v2, v3, v4, v5, v6, v7, v8, v9, v10, v11, v12]
    · show (⟨x.name, x.h, dats qs, x.zone, x.soa⟩ : Fc) = ⟨x.name, x.h, dats x.sp, x.zone, x.soa⟩
      rw [HQ'.out]

end Go.Proofs.YtmbcbfalgdgmjaaGreatDoor
