/-
  The contract of a Writer's Set.
-/
import Derived.Test.YtmfcppolomkbfaaWriter
import Derived.Deep.RegionHeld3
import Derived.Deep.RegionLaw
namespace Go.Proofs.Ytmfcppolomkbfaa
open Go.RowKit

/-- copy into a row that is known whole, as one step of a region that draws: nothing but that row turns. -/
theorem step_copy_at {P : Program} {ops : Array Oper} {o : Oper} {a : Act} {w : World} {K : Act → World → Prop} {Q : Exit → Act → World → Prop} {E : Prop} (hgd : o.guard = none) (d s : Operand) (dT sT : TypeId)
    (ho : o.op = .call { callee := .builtin .copy, args := #[d, s], argTypes := #[dT, sT] }) (elem : TypeId) (hu : P.underlying dT = some (.slice elem)) (hsz : (P.info? elem).map (·.size) = some 1)
    (sp : Option Addr) (dLen dCap sLen sCap : Nat) (g off : Nat) (hd : a.eval d = .slice (some ⟨g, off, none⟩) dLen dCap) (hs : a.eval s = .slice sp sLen sCap)
    (cur : List Value) (t : TypeId) (hg : w.heap[g]? = some (.cells cur.toArray t (0, 0))) (H : Nat) (cs : List Value) (hn : cs.length = Nat.min sLen dLen) (hpos : 0 < cs.length) (hr : Row w H sp cs)
    (hfit : off + cs.length ≤ cur.length) (h1 : ∀ v ∈ cs, v.oneCell' = true)
    (h : ∀ w', Hid (w'.heap[g]? = some (.cells (splice cur off cs).toArray t (0, 0))) → Grew (· = g) w w' → K (a.put o.dst (goInt cs.length)) w') :
    if Region.wanted o (yielded ops a.tmps) = true then Oper.wp P o a w K Q else E := by
  have hw : Region.wanted o (yielded ops a.tmps) = true := by simp [Region.wanted, hgd]
  rw [if_pos hw]
  obtain ⟨ad, rfl, hsrc⟩ := hr.pos hpos
  have hrun := run_copy_row (P := P) w dT sT o.type elem g off dLen dCap ad sLen sCap cur.toArray t cs hu hsz hg hn hsrc (by simpa using hfit) h1
  unfold Oper.wp
  simp [execOp, ho, resolve, invoke, builtin, hd, hs, hrun, Result.andThen]
  refine h _ (show _ = _ by simpa [splice] using setRow_heap w g _ _ t _ hg) ⟨rfl, rfl, rfl, by simp, fun k _ hk => ?_⟩
  exact setRow_other w g k _ hk

/-- B with l in the place of the bytes from p on. -/
def setB (B : List UInt8) (p : Nat) (l : List UInt8) : List UInt8 := B.take p ++ (l ++ B.drop (p + l.length))
theorem length_setB {B : List UInt8} {p : Nat} {l : List UInt8} (h : p + l.length ≤ B.length) : (setB B p l).length = B.length := by
  simp [setB]; omega
theorem take_splice {α : Type} {L M : List α} {p m : Nat} {cs : List α} (hL : L.take m = M) (hm : M.length = m) (hp : p + cs.length ≤ m) : (splice L p cs).take m = M.take p ++ (cs ++ M.drop (p + cs.length)) := by
  have hml : m ≤ L.length := by rw [← hL, List.length_take] at hm; omega
  unfold splice
  rw [← hL, List.take_take, Nat.min_eq_left (by omega), List.take_append, List.take_append]
  simp only [List.length_take, List.drop_take]
  congr 1
  · rw [List.take_take]; congr 1; omega
  · congr 1
    · exact List.take_of_length_le (by omega)
    · congr 1; omega

set_option maxHeartbeats 400000 in
theorem set_misfit (p : Value) (q n s : Int) (w : World) (hf : fitB n s = false) :
    Calls Try.prog 25 #[p, .int .i64 q, .int .i64 n, .int .i64 s] w (Told w (.int .i64 1)) := by
  have HF := Lib.hid (fun W => fits_any n s W)
  rw [hf] at HF
  clear hf
  go_enter Try.func25, Try.ntmps25
  go_wp2_with fail
  refine (HF.out _).mono ?_
  rintro e w' ⟨rfl, rfl⟩
  go_wp2
  go_ret
  exact ⟨rfl, rfl⟩

set_option maxHeartbeats 400000 in
theorem set_neg (p : Value) (q n s : Int) (w : World) (hf : fitB n s = true) (hq : q < 0) :
    Calls Try.prog 25 #[p, .int .i64 q, .int .i64 n, .int .i64 s] w (Told w (.int .i64 1)) := by
  have HF := Lib.hid (fun W => fits_any n s W)
  rw [hf] at HF
  have d1 : decide (q < 0) = true := by simp; omega
  clear hf
  go_enter Try.func25, Try.ntmps25
  go_wp2_with fail
  refine (HF.out _).mono ?_
  rintro e w' ⟨rfl, rfl⟩
  go_wp2
  go_ret
  exact ⟨rfl, rfl⟩

theorem fitB_size {n s : Int} (hf : fitB n s = true) : 1 ≤ s ∧ s ≤ 7 ∧ 0 ≤ n := by
  simp only [fitB, decide_eq_true_eq] at hf
  exact ⟨hf.1, hf.2.1, hf.2.2.1⟩

set_option maxHeartbeats 400000 in
theorem set_far (base : Nat) (w : World) (g : Nat) (vB vM : Value) (B : List UInt8) (R : Rs) (q n s : Int) (h : Wr w base g vB vM B R) (hB : B.length ≤ 1000000000) (hf : fitB n s = true) (hq : 0 ≤ q) (hq2 : (B.length : Int) - s < q) :
    Calls Try.prog 25 #[.pointer (some ⟨g, 0, none⟩), .int .i64 q, .int .i64 n, .int .i64 s] w (Told w (.int .i64 1)) := by
  have HF := Lib.hid (fun W => fits_any n s W)
  rw [hf] at HF
  obtain ⟨hs1, hs2, _⟩ := fitB_size hf
  have HL := Lib.hid (len_any base w g vB vM B R h)
  have d1 : decide (q < 0) = false := by simp; omega
  have d2 : decide ((B.length : Int) - s < q) = true := by simp; omega
  clear hf h
  go_enter Try.func25, Try.ntmps25
  go_wp2_with fail
  refine (HF.out _).mono ?_
  rintro e w' ⟨rfl, rfl⟩
  go_wp2_with fail
  refine HL.out.mono ?_
  rintro e w' ⟨rfl, rfl⟩
  go_wp2
  go_ret
  exact ⟨rfl, rfl⟩

set_option maxHeartbeats 400000 in
theorem set_nil (w : World) : Calls Try.prog 25 #[.pointer none, .int .i64 0, .int .i64 0, .int .i64 1] w (Told w (.int .i64 1)) := by
  have HF := Lib.hid (fun W => fits_any 0 1 W)
  rw [show fitB 0 1 = true by decide +kernel] at HF
  go_enter Try.func25, Try.ntmps25
  go_wp2_with fail
  refine (HF.out _).mono ?_
  rintro e w' ⟨rfl, rfl⟩
  go_wp2_with fail
  refine (len_nil _).mono ?_
  rintro e w' ⟨rfl, rfl⟩
  go_wp2
  go_ret
  exact ⟨rfl, rfl⟩

set_option maxHeartbeats 2000000 in
theorem set_ok (base : Nat) (w : World) (g : Nat) (vB vM : Value) (B : List UInt8) (R : Rs) (q n s : Nat) (h : Wr w base g vB vM B R) (hB : B.length ≤ 1000000000) (hf : fitB n s = true) (hq : q + s ≤ B.length) :
    Calls Try.prog 25 #[.pointer (some ⟨g, 0, none⟩), .int .i64 q, .int .i64 n, .int .i64 s] w (fun e w' => e = .returned (.int .i64 0) ∧ Penned base w g vB vM (setB B q (digs n s)) R w') := by
  have HF := Lib.hid (fun W => fits_any n s W)
  rw [hf] at HF
  obtain ⟨hs1, hs2, _⟩ := fitB_size hf
  have HL := Lib.hid (len_any base w g vB vM B R h)
  have HP := Lib.hid (fun W => put_any none 0 0 0 [] (n : Int) (s : Int) W rfl (Row.empty _ _ _) (by omega) (by omega))
  rw [putL_yes hf, List.nil_append] at HP
  have hdl := length_digs n s
  have hbs := h.size
  have hgl := h.blk.lt
  have hap := h.apart
  rcases h.row.2 with ⟨_, h0⟩ | ⟨gB, cap, cur, rfl, hgB, hcur, hcap, hcm, hcs, htk⟩
  · omega
  have hBl := (h.row.lt gB rfl).2
  have h0 := h.c0
  have hgne : gB ≠ g := fun e => hap.1 (by rw [← e]; rfl)
  have d1 : decide ((q : Int) < 0) = false := by simp
  have d2 : decide ((B.length : Int) - (s : Int) < (q : Int)) = false := by simp; omega
  have e0 : (0 : Int) ≤ q := by omega
  have e1 : (q : Int) ≤ (B.length : Int) := by omega
  have hcf : (cap = q) = False := by simp; omega
  have hw1 : w.heap.size = w.drew.heap.size := rfl
  have HW := Lib.hid h
  have HCUR := Lib.hid hcur
  have HCS := Lib.hid hcs
  have HTK := Lib.hid htk
  have HD := Lib.hid hdl
  have HAP := Lib.hid hap
  clear h hf hcur hcs htk hdl hw1 hap
  go_enter Try.func25, Try.ntmps25
  go_wp2_with fail
  refine (HF.out _).mono ?_
  rintro e w' ⟨rfl, rfl⟩
  go_wp2_with fail
  refine HL.out.mono ?_
  rintro e w' ⟨rfl, rfl⟩
  go_wp2
  go_region_held3 (fun w' => w'.cell? ⟨g, 0, none⟩ = some (.slice (some ⟨gB, 0, none⟩) B.length cap))
    (first | go_keep)
    ((first
      | (go_at_call 29
         refine (HP.out _).mono ?_
         rintro e w1 ⟨A1, c1, rfl, ho1, hb1⟩
         have c0' : w1.cell? ⟨g, 0, none⟩ = some (.slice (some ⟨gB, 0, none⟩) B.length cap) := (hb1.cell (p := ⟨g, 0, none⟩) hgl).trans h0
         have HR1 := Lib.hid (Row.of_own ho1)
         have HB1 := Lib.hid (show Below w.heap.size w w1 from ⟨hb1.os, hb1.tape, hb1.output, hb1.size, hb1.block⟩)
         clear ho1 hb1)
      | (refine step_copy_at rfl (.tmp 30) (.tmp 33) _ _ rfl 5 Try.underlying26 u8_size A1 (B.length - q) (cap - q) (digs n s).length c1 gB q rfl rfl cur.toList 5 ((HB1.out.block gB hBl).trans HCUR.out) w1.heap.size ((digs n s).map bc) (by rw [List.length_map, HD.out]; exact (Nat.min_eq_left (by omega)).symm) (by rw [List.length_map, HD.out]; omega) HR1.out (by rw [List.length_map, HD.out, Array.length_toList, HCS.out]; omega) (bc_one _) ?_
         intro w2 hg2 hgr2
         have c0' : w2.cell? ⟨g, 0, none⟩ = some (.slice (some ⟨gB, 0, none⟩) B.length cap) := (World.cell?_of_block (a := ⟨g, 0, none⟩) (hgr2.block g (Nat.lt_of_lt_of_le hgl HB1.out.size) (Ne.symm hgne))).trans c0'
         have HG2 := Lib.hid hgr2
         clear hgr2)))
  go_wp2
  go_ret
  have hdl := HD.out
  have hBl2 : gB < w1.heap.size := Nat.lt_of_lt_of_le hBl HB1.out.size
  have hset := length_setB (B := B) (p := q) (l := digs n s) (by rw [hdl]; exact hq)
  have hk : ∀ j, j < w.heap.size → j ≠ gB → w2.heap[j]? = w.heap[j]? := fun j hj hne => (HG2.out.block j (Nat.lt_of_lt_of_le hj HB1.out.size) hne).trans (HB1.out.block j hj)
  refine ⟨rfl, .slice (some ⟨gB, 0, none⟩) B.length cap, vM, ⟨HW.out.blk.keep (hk g hgl (Ne.symm hgne)), HW.out.low, ?_, HW.out.map.keep fun j hj => hk j (HW.out.map.lt hj).2 (fun e => HAP.out.2.2 gB rfl (by rw [hj, e]))⟩, ?_, fun j hj => .inl hj⟩
  · rw [hset]
    refine ⟨by simp [hset], .inr ⟨gB, cap, _, rfl, hgB, hg2.out, hcap, hcm, ?_, ?_⟩⟩
    · rw [List.size_toArray, length_splice _ _ _ (by rw [List.length_map, hdl, Array.length_toList, HCS.out]; omega), Array.length_toList, HCS.out]
    · have htk := HTK.out
      rw [Nat.mul_one] at htk ⊢
      rw [List.toList_toArray, take_splice htk (by rw [List.length_map]) (by rw [List.length_map, hdl]; exact hq)]
      simp [setB, hdl]
  · exact (Grew.all HB1.out).trans HG2.out fun j hj => .inl (.inr (.inl (by rw [hj]; rfl)))

end Go.Proofs.Ytmfcppolomkbfaa
