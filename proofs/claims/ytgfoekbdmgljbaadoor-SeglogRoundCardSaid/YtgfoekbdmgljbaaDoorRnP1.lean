/-
  SeglogRound, tied: records of whatever sizes go round and round; the last is read as it was, and the room is never more than the places. The package variables sizes and head hold what the program's text lays (the card ties them). No other condition.
-/
import Derived.Test.YtgfoekbdmgljbaaDoorRows
import Derived.Test.YtgfoekbdmgljbaaDoorSbP1
import Derived.ProofKit
import Derived.SizedLaws
import Derived.Carry
import Derived.Test.YtgfoekbdmgljbaaDoorSbP2
import Derived.Test.YtgfoekbdmgljbaaDoorCards
import Derived.Test.YtgfoekbdmgljbaaDoorTie
import Derived.LaidLaws
import Derived.Lay
import Derived.Handed
import Derived.Lib.LaidTab
import Derived.ChangeArms
import Derived.Deep.Slices
import Derived.Deep.Grids
import Derived.Test.YtgfoekbdmgljbaaDoorSbP4
import Derived.WalkKit
import Derived.Deep.LoopGhost
import Derived.IntWalk
import Derived.Test.YtgfoekbdmgljbaaDoorSbP7
namespace Go.Proofs.YtgfoekbdmgljbaaDoor
open Go.ChangeShapes Go.WideShapes Go.ChangeAt Go.RowKit

theorem Tryd.own : ownKnob Tryd.prog.godebug = none := by kernel_rfl
theorem Tryd.laidOut : laidOutB Tryd.prog = true := by kernel_rfl

theorem bc_of_int (n : Int) (h : (Lit.int .u8 n).wf = true) : Value.int .u8 n = bc (UInt8.ofNat n.toNat) := by
  have h1 : IntKind.u8.min = 0 := rfl
  have h2 : IntKind.u8.max = 255 := rfl
  simp only [Lit.wf, Bool.and_eq_true, decide_eq_true_eq] at h
  unfold bc
  rw [UInt8.toNat_ofNat', Nat.mod_eq_of_lt (by omega)]
  congr 1
  omega

set_option maxRecDepth 20000 in
/-- An argument of bytes: whatever it is, it reads as a list. -/
theorem open_row_u8c {H : Type} {enc : TypeId × Value → H} {W : World} {base : Nat} {t : TypeId} {v : Value} {d : DataW H} {p : List MemPlace} (hc : Tryd.prog.cellsOf 5 = 1) (ht : Tryd.prog.underlying t = some (.slice 5))
    (hval : Value.okWide Tryd.prog W .any base t v) (h : DataW.Trod enc Tryd.prog W 0 (fun _ => true) true t v d p) (hlt : ∀ x ∈ p, x.block < W.heap.size) :
    ∃ (A : Option Addr) (m c : Nat) (l : List UInt8), v = .slice A m c ∧ l.length = m ∧ Row W W.heap.size A (l.map bc) ∧ m ≤ c ∧ m ≤ maxLen ∧ c ≤ maxLen ∧ (m = 0 ∨ ∃ el sp, d = .slice el sp ∧ el.length = m) := by
  obtain ⟨a0, len, cap, rfl⟩ := okWide_slice ht hval
  obtain ⟨fuel, hf⟩ := h
  rcases open_ints ht Tryd.underlying5 hc hf with ⟨hcs, hx⟩ | ⟨a, len', cap', zs, hcs, _, hl, hm, hz, hx, hcell, hwz⟩
  · simp [Value.cells] at hcs
    obtain ⟨rfl, rfl, rfl⟩ := hcs
    exact ⟨none, 0, 0, [], rfl, rfl, Row.empty _ _ _, Nat.le_refl _, Nat.zero_le _, Nat.zero_le _, .inl rfl⟩
  · simp [Value.cells] at hcs
    obtain ⟨rfl, rfl, rfl⟩ := hcs
    simp only [Prod.mk.injEq] at hx
    obtain ⟨rfl, rfl⟩ := hx
    simp only [if_true] at hz
    refine ⟨some a, len, cap, (zs.take len).map fun n => UInt8.ofNat n.toNat, rfl, by simp; omega, fun hne => ?_, hl, Nat.le_trans hl hm, hm, .inr ⟨_, _, rfl, by simp [lits]; omega⟩⟩
    have hpos : 0 < zs.length := by
      rcases zs with _ | ⟨z, zs⟩
      · simp at hne
      · simp
    obtain ⟨b, off, spot⟩ := a
    have hspot : spot = none := by simpa [Addr.add] using World.cell?_spot (hcell 0 hpos)
    subst hspot
    refine ⟨b, off, rfl, hlt (.cell b off) (MemPlace.mem_row.2 ⟨0, hpos, by simp⟩), fun j u hu => ?_⟩
    have hj : j < zs.length := by
      have := (List.getElem?_eq_some_iff.1 hu).1
      simp at this
      omega
    have hjl : j < len := by
      have := (List.getElem?_eq_some_iff.1 hu).1
      simp at this
      omega
    have h1 := hcell j hj
    rw [addr_add] at h1
    rw [h1]
    have e : zs.getD j 0 = zs[j] := by simp [List.getD, List.getElem?_eq_getElem hj]
    rw [List.getElem?_map, List.getElem?_map, List.getElem?_take, if_pos hjl, List.getElem?_eq_getElem hj] at hu
    simp only [Option.map_some] at hu
    rw [← hu, e, bc_of_int _ (hwz _ (List.getElem_mem hj))]

set_option maxRecDepth 20000 in
theorem open_row_u8 {H : Type} {enc : TypeId × Value → H} {W : World} {base : Nat} {t : TypeId} {v : Value} {d : DataW H} {p : List MemPlace} (hc : Tryd.prog.cellsOf 5 = 1) (ht : Tryd.prog.underlying t = some (.slice 5))
    (hval : Value.okWide Tryd.prog W .any base t v) (h : DataW.Trod enc Tryd.prog W 0 (fun _ => true) true t v d p) (hlt : ∀ x ∈ p, x.block < W.heap.size) :
    ∃ (A : Option Addr) (m c : Nat) (l : List UInt8), v = .slice A m c ∧ l.length = m ∧ Row W W.heap.size A (l.map bc) ∧ m ≤ c ∧ m ≤ maxLen ∧ (m = 0 ∨ ∃ el sp, d = .slice el sp ∧ el.length = m) := by
  obtain ⟨A, m, c, l, h1, h2, h3, h4, h5, _, h6⟩ := open_row_u8c hc ht hval h hlt
  exact ⟨A, m, c, l, h1, h2, h3, h4, h5, h6⟩

theorem row_reach {H : Type} {P : Program} {ts : List TypeId} {ds : List (DataW H)} {d : DataW H} {m : Nat} (h : (DataW.weightsEach P ts ds).all (· ≤ reachBytes) = true) {j : Nat} {t e : TypeId} (ht : ts[j]? = some t) (hd : ds[j]? = some d) (hu : P.underlying t = some (.slice e))
    (hb : P.bytesOf e = 1) (hm : m = 0 ∨ ∃ el sp, d = .slice el sp ∧ el.length = m) : m ≤ 140737488351232 := by
  rcases hm with rfl | ⟨el, sp, rfl, hl⟩
  · omega
  · have := sized_slice h ht hd hu
    rw [hb] at this
    simp only [reachBytes] at this
    omega
theorem u8_cells : Tryd.prog.cellsOf 5 = 1 := by kernel_rfl
theorem u8_bytes : Tryd.prog.bytesOf 5 = 1 := by kernel_rfl

theorem below_trodAll {H : Type} {enc : TypeId × Value → H} {P : Program} (hl : laidOutB P = true) {W W' : World} (hb : Below W.heap.size W W') :
    ∀ {ts : List TypeId} {vs : List Value} {ds : List (DataW H)} {ps : List MemPlace}, ts.all (fun t => P.readableRec t && decide (t < P.types.size)) = true →
      DataW.TrodAll enc P W 0 (fun _ => true) true ts vs ds ps → (∀ x ∈ ps, x.block < W.heap.size) → DataW.TrodAll enc P W' 0 (fun b => decide (b < W.heap.size)) true ts vs ds ps
  | [], [], [], _, _, h, _ => h
  | [], [], _ :: _, _, _, h, _ => h.elim
  | [], _ :: _, _, _, _, h, _ => h.elim
  | _ :: _, [], _, _, _, h, _ => h.elim
  | _ :: _, _ :: _, [], _, _, h, _ => h.elim
  | t :: ts, v :: vs, d :: ds, ps, ht, h, hlt => by
    obtain ⟨p, q, h1, h2, rfl⟩ := h
    simp only [List.all_cons, Bool.and_eq_true, decide_eq_true_eq] at ht
    exact ⟨p, q, Below.trod hl ht.1.1 ht.1.2 h1 hb (fun x hx => hlt x (List.mem_append_left _ hx)), below_trodAll hl hb ht.2 h2 (fun x hx => hlt x (List.mem_append_right _ hx)), rfl⟩

/-- The end of a law: it has answered true, and nothing that was there has turned. -/
theorem law_post {H : Type} {enc : TypeId × Value → H} {P : Program} {f : Func} {s : ChangeSpec} {W W' : World} {args : Array Value} {ds gs : List (DataW H)} {before : List MemPlace} {tb : TypeId}
    (hl : laidOutB P = true) (hts : f.params.toList.all (fun t => P.readableRec t && decide (t < P.types.size)) = true) (hrt : f.resultTypes.toList = [tb]) (hsz : f.resultTypes.size = 1) (hbool : P.underlying tb = some .bool) (hsv : s.vars = [])
    (hW : DataW.Whole enc P f.params.toList s.vars false W args.toList ds gs before)
    (hres : (s.fn H (ds ++ gs)).results = [.lit (.bool true)]) (hargs : (s.fn H (ds ++ gs)).args = ds) (hvars : (s.fn H (ds ++ gs)).vars = [])
    (hb : Below W.heap.size W W') : s.post enc P f false true false false W args (.bool true) W' := by
  have hW' := hW
  obtain ⟨p, q, hA, hV, rfl, _, _⟩ := hW
  rw [hsv] at hV
  obtain ⟨rfl, rfl⟩ := trodVars_none hV
  have hlt : ∀ x ∈ p, x.block < W.heap.size := fun x hx => hW'.lt x (List.mem_append_left _ hx)
  refine ⟨ds, [], p ++ [], [], p, [], hW', ?_, ?_, ?_, hb.frame _, fun h => by cases h⟩
  · rw [hrt, hsz, hres]
    exact trodAll_mk1 (shut_bool hbool true)
  · rw [hargs]
    exact below_trodAll hl hb hts hA hlt
  · rw [hsv, hvars]
    rfl

theorem i64_le {n : Int} (h : (Lit.int .i64 n).wf = true) : -9223372036854775808 ≤ n ∧ n ≤ 9223372036854775807 := by
  have h1 : IntKind.i64.min = -9223372036854775808 := rfl
  have h2 : IntKind.i64.max = 9223372036854775807 := rfl
  simp only [Lit.wf, Bool.and_eq_true, decide_eq_true_eq] at h
  omega

end Go.Proofs.YtgfoekbdmgljbaaDoor

namespace Go.Proofs.YtgfoekbdmgljbaaDoor
open Go.ChangeShapes Go.WideShapes Go.ChangeAt Go.RowKit

/-- What the rows list. -/
def laidL : List (String × DataW Unit) := [("gazetteer/sector.sizes", Rows.laid_gazetteer_sector_sizes)]
theorem int_one : Tryd.prog.cellsOf 3 = 1 := by kernel_rfl
theorem int5_five : Tryd.prog.cellsOf 103 = 5 := by kernel_rfl
theorem sizes_global : Tryd.prog.globalNamed "gazetteer/sector.sizes" = some 1 := by kernel_rfl
theorem sizes_type : (Tryd.prog.globals[(1 : Nat)]?).map (·.type) = some 103 := by kernel_rfl
theorem sizes_of_laid {W : World} (h : laidMetH Tryd.prog laidL W) : SizesAt W := by
  have h1 : laidMet Tryd.prog laidL W := by
    have e := MakeChecks.laidMetH_plain Tryd.prog laidL W (by kernel_rfl)
    rwa [e] at h
  have h2 : Lib.TabIs Tryd.prog W "gazetteer/sector.sizes" .i64 szL :=
    Lib.tabIs_of_head sizes_global sizes_type Tryd.underlying103 Tryd.underlying3 int_one int5_five (rest := []) h1
  unfold Lib.TabIs World.var? at h2
  rw [sizes_global, Option.bind_some] at h2
  unfold SizesAt
  split at h2
  · rename_i cs t fr hh
    injection h2 with h2
    subst h2
    exact ⟨t, fr, hh⟩
  · cases h2

theorem head_five : Tryd.prog.cellsOf 79 = 5 := by kernel_rfl
set_option maxRecDepth 20000 in
/-- An argument that is a head: whatever it is, it is five numbers. -/
theorem open_head {H : Type} {enc : TypeId × Value → H} {W : World} {base : Nat} {v : Value} {d : DataW H} {p : List MemPlace}
    (hval : Value.okWide Tryd.prog W .any base 79 v) (h : DataW.Trod enc Tryd.prog W 0 (fun _ => true) true 79 v d p) :
    ∃ x : SH, v = x.val ∧ (Lit.int .i64 x.kind).wf = true ∧ (Lit.int .i64 x.epoch).wf = true ∧ (Lit.int .i64 x.seq).wf = true ∧ (Lit.int .i64 x.part).wf = true ∧ (Lit.int .i64 x.parts).wf = true := by
  obtain ⟨cs, rfl, hsz⟩ := okWide_struct Tryd.underlying79 hval
  obtain ⟨l⟩ := cs
  have hl : l.length = 5 := by simpa using hsz.trans head_five
  match l, hl with
  | [u0, u1, u2, u3, u4], _ =>
    obtain ⟨fuel, hf⟩ := h
    obtain ⟨ys, n, _, hy, _, hyl, hg⟩ := DataW.trod_struct Tryd.underlying79 hf
    have f0 := hg 0 _ rfl
    have f1 := hg 1 _ rfl
    have f2 := hg 2 _ rfl
    have f3 := hg 3 _ rfl
    have f4 := hg 4 _ rfl
    have hyl' : ys.length = 5 := hyl
    match ys, hyl' with
    | [y0, y1, y2, y3, y4], _ =>
      obtain ⟨z0, e0, _, w0⟩ := DataW.trod_int Tryd.underlying3 (show DataW.trod enc Tryd.prog W 0 (fun _ => true) true n 3 [u0] = some y0 from f0)
      obtain ⟨z1, e1, _, w1⟩ := DataW.trod_int Tryd.underlying3 (show DataW.trod enc Tryd.prog W 0 (fun _ => true) true n 3 [u1] = some y1 from f1)
      obtain ⟨z2, e2, _, w2⟩ := DataW.trod_int Tryd.underlying3 (show DataW.trod enc Tryd.prog W 0 (fun _ => true) true n 3 [u2] = some y2 from f2)
      obtain ⟨z3, e3, _, w3⟩ := DataW.trod_int Tryd.underlying3 (show DataW.trod enc Tryd.prog W 0 (fun _ => true) true n 3 [u3] = some y3 from f3)
      obtain ⟨z4, e4, _, w4⟩ := DataW.trod_int Tryd.underlying3 (show DataW.trod enc Tryd.prog W 0 (fun _ => true) true n 3 [u4] = some y4 from f4)
      injection e0 with e0
      injection e1 with e1
      injection e2 with e2
      injection e3 with e3
      injection e4 with e4
      subst e0; subst e1; subst e2; subst e3; subst e4
      exact ⟨⟨z0, z1, z2, z3, z4⟩, rfl, w0, w1, w2, w3, w4⟩

theorem u16_nat {n : Int} (h : (Lit.int .u16 n).wf = true) : ∃ k : Nat, n = k ∧ k < 65536 := by
  have h1 : IntKind.u16.min = 0 := rfl
  have h2 : IntKind.u16.max = 65535 := rfl
  simp only [Lit.wf, Bool.and_eq_true, decide_eq_true_eq] at h
  exact ⟨n.toNat, by omega, by omega⟩

end Go.Proofs.YtgfoekbdmgljbaaDoor

namespace Go.Proofs.YtgfoekbdmgljbaaDoor
open Go.ChangeShapes Go.WideShapes Go.ChangeAt Go.RowKit

theorem u64_le {n : Int} (h : (Lit.int .u64 n).wf = true) : 0 ≤ n ∧ n ≤ 18446744073709551615 := by
  have h1 : IntKind.u64.min = 0 := rfl
  have h2 : IntKind.u64.max = 18446744073709551615 := rfl
  simp only [Lit.wf, Bool.and_eq_true, decide_eq_true_eq] at h
  omega
theorem u64_nat {n : Int} (h : (Lit.int .u64 n).wf = true) : ∃ k : Nat, n = k := ⟨n.toNat, by have := u64_le h; omega⟩
theorem u64_lt {k : Nat} (h : (Lit.int .u64 (k : Int)).wf = true) : k < 18446744073709551616 := by have := u64_le h; omega

end Go.Proofs.YtgfoekbdmgljbaaDoor

namespace Go.Proofs.YtgfoekbdmgljbaaDoor
open Go.ChangeShapes Go.WideShapes Go.ChangeAt Go.RowKit

/-- What the rows list. -/
def laidU : List (String × DataW Unit) := [("gazetteer/sector.sizes", Rows.laid_gazetteer_sector_sizes), ("gazetteer/super.head", Rows.laid_gazetteer_super_head)]
theorem shead_global : Tryd.prog.globalNamed "gazetteer/super.head" = some 0 := by kernel_rfl
theorem shead_type : (Tryd.prog.globals[(0 : Nat)]?).map (·.type) = some 79 := by kernel_rfl
theorem blk_five : Tryd.prog.cellsOf 63 = 5 := by kernel_rfl

set_option maxRecDepth 20000 in
/-- Five whole numbers in a row, as they are read. -/
theorem read_sh {H : Type} {enc : TypeId × Value → H} {W : World} {sp : Nat → Bool} {held : Bool} {fuel : Nat} {cs : List Value} {x : DataW H × List MemPlace}
    (h : DataW.trod enc Tryd.prog W 0 sp held fuel 79 cs = some x) :
    ∃ z0 z1 z2 z3 z4 : Int, cs = [.int .i64 z0, .int .i64 z1, .int .i64 z2, .int .i64 z3, .int .i64 z4] ∧ x.1 = .agg [.lit (.int .i64 z0), .lit (.int .i64 z1), .lit (.int .i64 z2), .lit (.int .i64 z3), .lit (.int .i64 z4)] ∧
      (Lit.int .i64 z0).wf = true ∧ (Lit.int .i64 z1).wf = true ∧ (Lit.int .i64 z2).wf = true ∧ (Lit.int .i64 z3).wf = true ∧ (Lit.int .i64 z4).wf = true := by
  obtain ⟨ys, n, _, hy, hcl, hyl, hg⟩ := DataW.trod_struct Tryd.underlying79 h
  have hl : cs.length = 5 := hcl.trans head_five
  match cs, hl with
  | [u0, u1, u2, u3, u4], _ =>
    have hyl' : ys.length = 5 := hyl
    have f0 := hg 0 _ rfl
    have f1 := hg 1 _ rfl
    have f2 := hg 2 _ rfl
    have f3 := hg 3 _ rfl
    have f4 := hg 4 _ rfl
    match ys, hyl' with
    | [y0, y1, y2, y3, y4], _ =>
      obtain ⟨z0, e0, d0, w0⟩ := DataW.trod_int Tryd.underlying3 (show DataW.trod enc Tryd.prog W 0 sp held n 3 [u0] = some y0 from f0)
      obtain ⟨z1, e1, d1, w1⟩ := DataW.trod_int Tryd.underlying3 (show DataW.trod enc Tryd.prog W 0 sp held n 3 [u1] = some y1 from f1)
      obtain ⟨z2, e2, d2, w2⟩ := DataW.trod_int Tryd.underlying3 (show DataW.trod enc Tryd.prog W 0 sp held n 3 [u2] = some y2 from f2)
      obtain ⟨z3, e3, d3, w3⟩ := DataW.trod_int Tryd.underlying3 (show DataW.trod enc Tryd.prog W 0 sp held n 3 [u3] = some y3 from f3)
      obtain ⟨z4, e4, d4, w4⟩ := DataW.trod_int Tryd.underlying3 (show DataW.trod enc Tryd.prog W 0 sp held n 3 [u4] = some y4 from f4)
      injection e0 with e0
      injection e1 with e1
      injection e2 with e2
      injection e3 with e3
      injection e4 with e4
      subst e0; subst e1; subst e2; subst e3; subst e4
      exact ⟨z0, z1, z2, z3, z4, rfl, by rw [hy]; simp [d0, d1, d2, d3, d4], w0, w1, w2, w3, w4⟩
set_option maxRecDepth 20000 in
theorem read_blk {H : Type} {enc : TypeId × Value → H} {W : World} {sp : Nat → Bool} {held : Bool} {fuel : Nat} {cs : List Value} {x : DataW H × List MemPlace}
    (h : DataW.trod enc Tryd.prog W 0 sp held fuel 63 cs = some x) :
    ∃ z0 z1 z2 z3 z4 : Int, cs = [.int .i64 z0, .int .i64 z1, .int .i64 z2, .int .i64 z3, .int .i64 z4] ∧ x.1 = .agg [.lit (.int .i64 z0), .lit (.int .i64 z1), .lit (.int .i64 z2), .lit (.int .i64 z3), .lit (.int .i64 z4)] ∧
      (Lit.int .i64 z0).wf = true ∧ (Lit.int .i64 z1).wf = true ∧ (Lit.int .i64 z2).wf = true ∧ (Lit.int .i64 z3).wf = true ∧ (Lit.int .i64 z4).wf = true := by
  obtain ⟨ys, n, _, hy, hcl, hyl, hg⟩ := DataW.trod_struct Tryd.underlying63 h
  have hl : cs.length = 5 := hcl.trans blk_five
  match cs, hl with
  | [u0, u1, u2, u3, u4], _ =>
    have hyl' : ys.length = 5 := hyl
    have f0 := hg 0 _ rfl
    have f1 := hg 1 _ rfl
    have f2 := hg 2 _ rfl
    have f3 := hg 3 _ rfl
    have f4 := hg 4 _ rfl
    match ys, hyl' with
    | [y0, y1, y2, y3, y4], _ =>
      obtain ⟨z0, e0, d0, w0⟩ := DataW.trod_int Tryd.underlying3 (show DataW.trod enc Tryd.prog W 0 sp held n 3 [u0] = some y0 from f0)
      obtain ⟨z1, e1, d1, w1⟩ := DataW.trod_int Tryd.underlying3 (show DataW.trod enc Tryd.prog W 0 sp held n 3 [u1] = some y1 from f1)
      obtain ⟨z2, e2, d2, w2⟩ := DataW.trod_int Tryd.underlying3 (show DataW.trod enc Tryd.prog W 0 sp held n 3 [u2] = some y2 from f2)
      obtain ⟨z3, e3, d3, w3⟩ := DataW.trod_int Tryd.underlying3 (show DataW.trod enc Tryd.prog W 0 sp held n 3 [u3] = some y3 from f3)
      obtain ⟨z4, e4, d4, w4⟩ := DataW.trod_int Tryd.underlying3 (show DataW.trod enc Tryd.prog W 0 sp held n 3 [u4] = some y4 from f4)
      injection e0 with e0
      injection e1 with e1
      injection e2 with e2
      injection e3 with e3
      injection e4 with e4
      subst e0; subst e1; subst e2; subst e3; subst e4
      exact ⟨z0, z1, z2, z3, z4, rfl, by rw [hy]; simp [d0, d1, d2, d3, d4], w0, w1, w2, w3, w4⟩

theorem cells_of_var {W : World} {n : String} {g : Nat} {cs : Array Value} (hg : Tryd.prog.globalNamed n = some g) (h : W.var? Tryd.prog n = some cs) : ∃ t fr, W.heap[g]? = some (.cells cs t fr) := by
  unfold World.var? at h
  rw [hg, Option.bind_some] at h
  split at h
  · rename_i cs' t fr hh
    injection h with h
    subst h
    exact ⟨t, fr, hh⟩
  · cases h

theorem vars_of_laid {W : World} (h : laidMetH Tryd.prog laidU W) : VarsAt W := by
  have h1 : laidMet Tryd.prog laidU W := by
    have e := MakeChecks.laidMetH_plain Tryd.prog laidU W (by kernel_rfl)
    rwa [e] at h
  refine ⟨?_, ?_⟩
  · have h2 : Lib.TabIs Tryd.prog W "gazetteer/sector.sizes" .i64 szL :=
      Lib.tabIs_of_head sizes_global sizes_type Tryd.underlying103 Tryd.underlying3 int_one int5_five (rest := [("gazetteer/super.head", Rows.laid_gazetteer_super_head)]) h1
    unfold Lib.TabIs at h2
    exact cells_of_var sizes_global h2
  · obtain ⟨ps, ⟨_, _, _, _, _, _, _, _, _, _, ⟨g, t, cs, fuel, p, q, hg, ht, hv, hd, _, _⟩, _⟩, _⟩ := h1
    obtain rfl := Option.some.inj (shead_global.symm.trans hg)
    obtain rfl := Option.some.inj (shead_type.symm.trans ht)
    obtain ⟨z0, z1, z2, z3, z4, e, ed, _⟩ := read_sh hd
    obtain ⟨ty, fr, hh⟩ := cells_of_var shead_global hv
    refine ⟨ty, fr, ?_⟩
    have e2 : cs = supH.cells.toArray := by
      have ed' : (.agg [.lit (.int .i64 1), .lit (.int .i64 0), .lit (.int .i64 0), .lit (.int .i64 0), .lit (.int .i64 1)] : DataW Unit) = .agg [.lit (.int .i64 z0), .lit (.int .i64 z1), .lit (.int .i64 z2), .lit (.int .i64 z3), .lit (.int .i64 z4)] := ed
      simp only [DataW.agg.injEq, List.cons.injEq, DataW.lit.injEq, Lit.int.injEq, true_and, and_true] at ed'
      obtain ⟨rfl, rfl, rfl, rfl, rfl⟩ := ed'
      exact Array.toList_inj.1 e
    rw [hh, e2]

theorem u8_nat {n : Int} (h : (Lit.int .u8 n).wf = true) : ∃ k : Nat, n = k ∧ k < 256 := by
  have h1 : IntKind.u8.min = 0 := rfl
  have h2 : IntKind.u8.max = 255 := rfl
  simp only [Lit.wf, Bool.and_eq_true, decide_eq_true_eq] at h
  exact ⟨n.toNat, by omega, by omega⟩
/-- A block as an argument has it. -/
structure BlkIn (b : Blk) : Prop where
  gen : (Lit.int .i64 b.gen).wf = true
  epoch : (Lit.int .i64 b.epoch).wf = true
  first : (Lit.int .i64 b.first).wf = true
  begun : (Lit.int .i64 b.begun).wf = true
  count : (Lit.int .i64 b.count).wf = true
set_option maxRecDepth 20000 in
/-- An argument that is a block: whatever it is, it is five numbers. -/
theorem open_blk {H : Type} {enc : TypeId × Value → H} {W : World} {base : Nat} {v : Value} {d : DataW H} {p : List MemPlace}
    (hval : Value.okWide Tryd.prog W .any base 63 v) (h : DataW.Trod enc Tryd.prog W 0 (fun _ => true) true 63 v d p) : ∃ b : Blk, v = b.val ∧ BlkIn b := by
  obtain ⟨cs, rfl, _⟩ := okWide_struct Tryd.underlying63 hval
  obtain ⟨fuel, hf⟩ := h
  obtain ⟨z0, z1, z2, z3, z4, e, _, w0, w1, w2, w3, w4⟩ := read_blk (show DataW.trod enc Tryd.prog W 0 (fun _ => true) true fuel 63 cs.toList = some (d, p) from hf)
  have e2 : cs = #[.int .i64 z0, .int .i64 z1, .int .i64 z2, .int .i64 z3, .int .i64 z4] := Array.toList_inj.1 e
  exact ⟨⟨z0, z1, z2, z3, z4⟩, by rw [e2]; rfl, w0, w1, w2, w3, w4⟩

theorem addr_add_addU (a : Addr) (m n : Nat) : (a.add m).add n = a.add (m + n) := by
  unfold Addr.add
  by_cases h1 : m = 0 <;> by_cases h2 : n = 0 <;> simp [h1, h2] <;> omega
/-- What a statement's argument of blocks is. -/
def BlksIn (w : World) (H : Nat) (A : Option Addr) (bs : List Blk) : Prop :=
  ∀ i (h : i < bs.length), ∃ b off, A = some ⟨b, off, none⟩ ∧ b < H ∧ (∀ j v, (bs[i]).cells[j]? = some v → w.cell? ⟨b, off + (i * 5 + j), none⟩ = some v) ∧ BlkIn bs[i]

set_option maxRecDepth 20000 in
theorem open_row_blks {H : Type} {enc : TypeId × Value → H} {W : World} {base : Nat} {t : TypeId} {v : Value} {d : DataW H} {p : List MemPlace} (ht : Tryd.prog.underlying t = some (.slice 63))
    (hval : Value.okWide Tryd.prog W .any base t v) (h : DataW.Trod enc Tryd.prog W 0 (fun _ => true) true t v d p) (hlt : ∀ x ∈ p, x.block < W.heap.size) :
    ∃ (A : Option Addr) (c : Nat) (bs : List Blk), v = .slice A bs.length c ∧ BlksIn W W.heap.size A bs ∧ bs.length ≤ maxLen := by
  obtain ⟨a0, len, cap, rfl⟩ := okWide_slice ht hval
  obtain ⟨fuel, hf⟩ := h
  rcases Deep.open_slice ht hf with ⟨hcs, hx⟩ | ⟨a, len', cap', m, n, D, Pl, hcs, _, hl, hm, hmm, hx, hy⟩
  · simp [Value.cells] at hcs
    obtain ⟨rfl, rfl, rfl⟩ := hcs
    exact ⟨none, 0, [], rfl, fun i h => absurd h (Nat.not_lt_zero _), Nat.zero_le _⟩
  · simp [Value.cells] at hcs
    obtain ⟨rfl, rfl, rfl⟩ := hcs
    simp only [if_true] at hmm
    subst hmm
    simp only [Prod.mk.injEq] at hx
    obtain ⟨rfl, rfl⟩ := hx
    rw [blk_five] at hy hlt
    have each : ∀ i, i < len → ∃ y : Blk, (∀ j v, y.cells[j]? = some v → W.cell? (a.add (i * 5 + j)) = some v) ∧ BlkIn y := by
      intro i hi
      obtain ⟨cs, hc, hr⟩ := hy i (by omega)
      obtain ⟨_, hc5, hat⟩ := World.cells?_some hc
      obtain ⟨z0, z1, z2, z3, z4, e, _, w0, w1, w2, w3, w4⟩ := read_blk hr
      refine ⟨⟨z0, z1, z2, z3, z4⟩, fun j v hj => ?_, w0, w1, w2, w3, w4⟩
      have hj5 : j < 5 := by simpa [Blk.cells] using (List.getElem?_eq_some_iff.1 hj).1
      have := hat j hj5
      have e2 : cs[j]? = some v := by rw [e]; exact hj
      rw [e2, addr_add_addU] at this
      exact this
    haveI : Inhabited Blk := ⟨bzero⟩
    obtain ⟨Y, hY⟩ := Deep.choose_lt each
    have hnl : ((List.range len).map fun i => Y i).length = len := by simp
    refine ⟨some a, m, (List.range len).map fun i => Y i, by rw [hnl], fun i hi => ?_, by rw [hnl]; omega⟩
    rw [hnl] at hi
    obtain ⟨hcell, hp⟩ := hY i hi
    obtain ⟨b, off, spot⟩ := a
    have hspot : spot = none := by
      obtain ⟨hc0, _⟩ := hY 0 (by omega)
      have h := World.cell?_spot (hc0 0 _ rfl)
      simpa [Addr.add] using h
    subst hspot
    refine ⟨b, off, rfl, hlt (.cell b off) (List.mem_append_left _ (MemPlace.mem_row.2 ⟨0, by omega, by simp⟩)), fun j v hj => ?_, by simpa using hp⟩
    have h1 := hcell j v (by simpa using hj)
    rw [addr_add] at h1
    exact h1

end Go.Proofs.YtgfoekbdmgljbaaDoor

namespace Go.Proofs.YtgfoekbdmgljbaaDoor
open Go.RowKit

theorem parts_any (n : Nat) (h : n ≤ 140737488355328) (w : World) : Calls Tryd.prog 10 #[.int .i64 (n : Int)] w (Told w (.int .i64 (partsN n : Int))) := by
  by_cases h1 : n ≤ 496
  · have d1 : decide ((n : Int) ≤ 496) = true := by simp; omega
    have HP := Lib.hid (show partsN n = 1 from if_pos h1)
    go_enter Tryd.func10, Tryd.ntmps10
    go_wp2
    go_ret
    exact ⟨by rw [HP.out]; rfl, rfl⟩
  · have d1 : decide ((n : Int) ≤ 496) = false := by simp; omega
    have HP := Lib.hid (show ((n : Int) + 495).tdiv 496 = (partsN n : Int) by
      unfold partsN
      rw [if_neg h1, Int.tdiv_eq_ediv_of_nonneg (by omega)]
      omega)
    have r0 : ((n : Int) + 495).tdiv 496 = (partsN n : Int) := HP.out
    have hpb : (partsN n : Int) ≤ 140737488355328 := by unfold partsN; split <;> omega
    go_enter Tryd.func10, Tryd.ntmps10
    go_wp2
    go_ret
    exact ⟨by rfl, rfl⟩

def five1 : List UInt8 := [5]
variable (L : LogSpec)
set_option maxHeartbeats 400000 in
theorem yanswers_any (w : World) (hv : L.Vars w) : Calls Tryd.prog 8 #[] w (TrueB w) := by
  have HN := Lib.hid (h_new w w (Below.refl _ _) 8 (by decide) (by decide))
  have HV := Lib.hid hv
  clear hv
  go_enter Tryd.func8, Tryd.ntmps8
  go_wp2_with fail
  refine HN.out.mono ?_
  rintro e w1 ⟨D, rfl, hh1⟩
  have HO := Lib.hid (L.open_new HV.out hh1 (by decide) (by decide))
  clear hh1
  go_wp2_with fail
  refine HO.out.mono ?_
  rintro e w2 ⟨lv, F, rfl, hat, hb2⟩
  have HAT := Lib.hid (LogSpec.at_below hat ((Below.refl _ _).alloc (Nat.le_refl _) (.cells (five1.map bc).toArray 5)))
  have HR := Lib.hid (Row.made w2 (five1.map bc).toArray 5)
  have HB2 := Lib.hid (hb2.alloc hb2.size (.cells (five1.map bc).toArray 5))
  clear hat hb2
  go_wp2_with fail
  refine (L.append HAT.out (by decide) (some ⟨w2.heap.size, 0, none⟩) 1 1 five1 rfl (HR.out.mono (by simp)) (Nat.le_refl _) (by decide)).mono ?_
  rintro e w3 ⟨z, g, M', F', rfl, ha, hat3, hm3⟩
  have ho := L.at_own HAT.out
  have HB3 := Lib.hid (HB2.out.trans (hm3.below (fun j hj => (ho.2 j hj).1) ho.1))
  have hp : partsN five1.length = 1 := rfl
  rcases ha with ⟨h1, _⟩ | ⟨_, h1, _⟩ | ⟨_, _, rfl, hz, hM⟩ | ⟨_, _, h1, _⟩
  · cases h1
  · exact absurd h1 (by decide)
  · have hz' : z = 0 := hz
    subst hz'
    have hb4 : readGB M' 0 = [5] := by rw [hM]; decide
    have hg4 : readGE M' 0 = 0 := by rw [hM]; decide
    have hrd := L.read hat3 (by rw [hM]) 0 (by decide) (by decide)
    rw [hb4, hg4] at hrd
    have HRD := Lib.hid hrd
    have HO3 := Lib.hid (L.at_own hat3)
    clear hat3 hm3 ho hz hrd hb4 hg4 hM
    go_wp2_with fail
    refine HRD.out.mono ?_
    rintro e w4 ⟨A4, c4, F4, rfl, hown4, hat4, hm4⟩
    obtain ⟨gb, rfl⟩ := own_some hown4 (by decide)
    have k0 : w4.cell? ⟨gb, 0, none⟩ = some (.int .u8 5) := (hown4.cellAt 0 (by decide)).trans rfl
    have HB4 := Lib.hid (HB3.out.trans (hm4.below (fun j hj => (HO3.out.2 j hj).1) HO3.out.1))
    clear hown4 hat4 hm4
    go_wp2
    go_ret
    exact ⟨rfl, HB4.out⟩
  · cases h1

end Go.Proofs.YtgfoekbdmgljbaaDoor

namespace Go.Proofs.YtgfoekbdmgljbaaDoor
open Go.RowKit

def c16 (n : Nat) : Value := .int .u16 (n : Int)

end Go.Proofs.YtgfoekbdmgljbaaDoor

namespace Go.Proofs.YtgfoekbdmgljbaaDoor
open Go.RowKit

/-- The bytes of the k-th record. -/
def fillB (k m : Nat) : List UInt8 := (List.range m).map fun j => UInt8.ofNat (k + j)
/-- As far as they are laid. -/
def fillC (k m j : Nat) : List Value := (List.range m).map fun i => if i < j then bc (UInt8.ofNat (k + i)) else .int .u8 0
theorem length_fillB (k m : Nat) : (fillB k m).length = m := by simp [fillB]
theorem length_fillC (k m j : Nat) : (fillC k m j).length = m := by simp [fillC]
theorem fillC_zero (k m : Nat) : fillC k m 0 = zerosL (.int .u8 0) m := by
  unfold fillC zerosL
  apply List.ext_getElem <;> simp
theorem fillC_all (k m : Nat) : fillC k m m = (fillB k m).map bc := by
  unfold fillC fillB
  rw [List.map_map]
  apply List.map_congr_left
  intro i hi
  rw [if_pos (List.mem_range.1 hi)]
  rfl
theorem fillC_set {k m j : Nat} (_ : j < m) : (fillC k m j).set j (bc (UInt8.ofNat (k + j))) = fillC k m (j + 1) := by
  unfold fillC
  apply List.ext_getElem
  · simp
  · intro i h1 h2
    simp only [List.getElem_set, List.getElem_map, List.getElem_range]
    by_cases hij : j = i
    · subst hij; simp
    · rw [if_neg hij]
      by_cases hlt : i < j
      · rw [if_pos hlt, if_pos (by omega)]
      · rw [if_neg hlt, if_neg (by omega)]
theorem u8_sum (k j : Nat) : Value.int .u8 (IntKind.u8.wrap ((k : Int) + (j : Int))) = bc (UInt8.ofNat (k + j)) := by
  unfold bc
  rw [UInt8.toNat_ofNat']
  congr 1
theorem u8_mod (k j : Nat) : Value.int .u8 (((k : Int) + (j : Int)) % 256) = bc (UInt8.ofNat (k + j)) := by
  unfold bc
  rw [UInt8.toNat_ofNat']
  congr 1
theorem made_any {mm : Nat} (h : mm < 100000) (w : World) : (Instr.makeSlice 35 (.int .i64 (mm : Int)) (.int .i64 (mm : Int))).run Tryd.prog w = .ok (.slice (some ⟨w.heap.size, 0, none⟩) mm mm) (w.alloc (.cells (zerosL (.int .u8 0) mm).toArray 5)) := by
  obtain ⟨i0, hi0, hz0, hz1, hz2⟩ := info_parts u8_info
  have hr := run_make (P := Tryd.prog) w 35 5 i0 _ Tryd.underlying35 hi0 hz0 .i64 .i64 mm mm (by omega) (Int.le_refl _) (by rw [hz2]; omega) (by omega)
  rw [hr, hz1, Int.toNat_natCast, Nat.mul_one]
  have hm : madeCells #[.int .u8 0] mm = (List.replicate mm (.int .u8 0)).toArray := Array.toList_inj.1 (by rw [toList_madeCells_one])
  rw [show (Value.int .u8 0).cells = #[.int .u8 0] from rfl, hm]
  rfl

/-- What is known when a round begins. -/
structure RoundAt (L : LogSpec) (w0 : World) (lv : Value) (D k : Nat) (wr : World) (M : Lg) (F : Nat → Prop) : Prop where
  at_ : L.At wr w0.heap.size lv D M true F
  down : M.down = false
  next : M.next = k
  places : M.places = 10
  below : Below w0.heap.size w0 wr
  used : M.used ≤ M.first + k
def RoundRel (L : LogSpec) (w0 : World) (lv : Value) (D T : Nat) (i : Value) (wr : World) : Prop := ∃ (k : Nat) (M : Lg) (F : Nat → Prop), k ≤ T ∧ i = .int .i64 k ∧ RoundAt L w0 lv D k wr M F
def FillRel (k m g : Nat) (w : World) (i : Value) (wr : World) : Prop := ∃ j : Nat, j ≤ m ∧ i = .int .i64 j ∧ Whole wr g 5 (fillC k m j) ∧ Below g w wr
def DropRel (L : LogSpec) (w0 : World) (lv : Value) (D k m g : Nat) (n : Nat) (wr : World) : Prop := ∃ (M : Lg) (F : Nat → Prop), n = M.recs.length ∧ RoundAt L w0 lv D k wr M F ∧ Whole wr g 5 (fillC k m m) ∧ ¬ F g

theorem read_last {M : Lg} {k : Nat} (h : M.next = k) (l : List UInt8) : readGE { M with recs := M.recs ++ [l], used := M.used + 1 } (k : Int) = 0 ∧ readGB { M with recs := M.recs ++ [l], used := M.used + 1 } (k : Int) = l := by
  unfold Lg.next at h
  have h1 : readGE { M with recs := M.recs ++ [l], used := M.used + 1 } (k : Int) = 0 := by
    unfold readGE Lg.next
    rw [if_neg (by show ¬ (k : Int) < (M.first : Int); omega), if_neg (by show ¬ ((M.first + (M.recs ++ [l]).length : Nat) : Int) ≤ (k : Int); rw [List.length_append, List.length_singleton]; omega)]
  refine ⟨h1, ?_⟩
  unfold readGB
  rw [if_pos h1]
  have e : ((k : Int) - (M.first : Int)).toNat = M.recs.length := by omega
  show (M.recs ++ [l]).getD ((k : Int) - (M.first : Int)).toNat [] = l
  rw [e, List.getD_eq_getElem?_getD, List.getElem?_append_right (Nat.le_refl _), Nat.sub_self]
  rfl
variable (L : LogSpec)
set_option maxHeartbeats 4000000 in
set_option maxRecDepth 8000 in
theorem yround_in (A : Option Addr) (n c : Nat) (ns : List Nat) (q : Nat) (w : World) (hv : L.Vars w) (hn : ns.length = n) (hA : Row w w.heap.size A (ns.map c16)) (hx : ∀ x ∈ ns, x < 65536) (hm : n ≤ maxLen) (hq : q < 256) (h0 : n ≠ 0) :
    Calls Tryd.prog 5 #[.slice A n c, .int .u8 (q : Int)] w (TrueB w) := by
  have HN := Lib.hid (h_new w w (Below.refl _ _) 12 (by decide) (by decide))
  have HV := Lib.hid hv
  obtain ⟨b1, o1, rfl, hb1, hcell⟩ := hA.some_ (by rw [List.length_map]; omega)
  have HC := Lib.hid hcell
  have HX := Lib.hid hx
  have HNS := Lib.hid hn
  have HB1 := Lib.hid hb1
  have d0 : ((n : Int) == 0) = false := by simp; omega
  have h0i : ¬ (n : Int) = 0 := by omega
  have hmx : n ≤ maxLen := hm
  clear hv hA hcell hx hn hb1 hm
  go_enter Tryd.func5, Tryd.ntmps5
  go_wp2_with fail
  refine HN.out.mono ?_
  rintro e w1 ⟨D, rfl, hh1⟩
  have HO := Lib.hid (L.open_new HV.out hh1 (by decide) (by decide))
  clear hh1
  go_wp2_with fail
  refine HO.out.mono ?_
  rintro e w2 ⟨lv, F2, rfl, hat2, hb2⟩
  have HAT2 := Lib.hid hat2
  have HB2 := Lib.hid hb2
  clear hat2 hb2
  go_wp2_with fail
  refine (yanswers_any L _ (L.vars_next HV.out HB2.out)).mono ?_
  rintro e w3 ⟨rfl, hb3⟩
  have HAT3 := Lib.hid (LogSpec.at_below HAT2.out hb3)
  have HB3 := Lib.hid (HB2.out.trans (hb3.mono HB2.out.size))
  clear hb3
  go_wp2
  go_loopw [9] (RoundRel L w lv D (q % 60 + 10)) (fun i _ => q % 60 + 10 - (intOf i).toNat)
  case atStart => exact ⟨0, _, F2, by omega, rfl, HAT3.out, rfl, rfl, rfl, HB3.out, Nat.zero_le _⟩
  case round =>
    obtain ⟨k, M, F, hk, rfl, hr⟩ := hrel
    have HR := Lib.hid hr
    have hkb : k ≤ 69 := by omega
    by_cases hlt : k < q % 60 + 10
    · have d1 : decide ((k : Int) < (q : Int) % 60 + 10) = true := by simp; omega
      obtain ⟨km, hkm⟩ : ∃ km, k % n = km := ⟨_, rfl⟩
      have hkn : km < n := by rw [← hkm]; exact Nat.mod_lt _ (by omega)
      have r1 : (k : Int).tmod (n : Int) = (km : Int) := by rw [Int.tmod_eq_emod_of_nonneg (by omega), ← hkm]; omega
      have r2 : (k : Int) % (n : Int) = (km : Int) := by rw [← hkm]; omega
      have hki : (km : Int) < (n : Int) := by omega
      have hnl : km < ns.length := by rw [HNS.out]; exact hkn
      obtain ⟨x, hx⟩ : ∃ x, ns[km]'hnl = x := ⟨_, rfl⟩
      have hx16 : x < 65536 := by rw [← hx]; exact HX.out _ (List.getElem_mem hnl)
      have hcx : wr.cell? ⟨b1, o1 + km, none⟩ = some (.int .u16 (x : Int)) := by
        rw [hr.below.cell (p := ⟨b1, o1 + km, none⟩) HB1.out, HC.out km (c16 x) (by rw [List.getElem?_map, List.getElem?_eq_getElem hnl, hx]; rfl)]
        rfl
      obtain ⟨m, hm⟩ : ∃ m, x % 1900 = m := ⟨_, rfl⟩
      have hm19 : m < 1900 := by rw [← hm]; exact Nat.mod_lt _ (by decide)
      have r3 : (x : Int).tmod 1900 = (m : Int) := by rw [Int.tmod_eq_emod_of_nonneg (by omega)]; omega
      have r4 : (x : Int) % 1900 = (m : Int) := by omega
      have hmk := fun W => made_any (show m < 100000 by omega) W
      have HKT := Lib.hid hlt
      clear hr hkm hnl hx hm hlt
      go_wp2
      generalize wr = W0 at *
      have HW0 := Lib.hid (show Whole (W0.alloc (.cells (zerosL (.int .u8 0) m).toArray 5)) W0.heap.size 5 (fillC k m 0) by rw [fillC_zero]; exact Whole.made _ _ _)
      clear hmk r1 r2 r3 r4 hcx hkn hki hx16 d1
      go_loopw [11] (FillRel k m W0.heap.size W0) (fun i _ => m - (intOf i).toNat)
      case atStart => exact ⟨0, by omega, rfl, HW0.out, (Below.refl _ _).alloc (Nat.le_refl _) _⟩
      case round =>
        obtain ⟨j, hj, rfl, hwh, hbr⟩ := hrel
        have HWH := Lib.hid hwh
        have HBR := Lib.hid hbr
        by_cases hjm : j < m
        · have d3 : decide ((j : Int) < (m : Int)) = true := by simp; omega
          have hji : (j : Int) < (m : Int) := by omega
          have hcel : wr.cell? ⟨W0.heap.size, j, none⟩ = some ((fillC k m j)[j]'(by rw [length_fillC]; exact hjm)) := by rw [hwh.cell]; exact List.getElem?_eq_getElem _
          have hfr := hwh.frozen j
          clear hwh hbr
          go_wp2
          refine ⟨⟨j + 1, by omega, by go_num, ?_, HBR.out.setCell (Nat.le_refl _) _⟩, by simp [intOf]; omega⟩
          rw [← fillC_set hjm, ← u8_mod]
          exact HWH.out.set_ _ _
        · obtain rfl : j = m := by omega
          go_wp2
          generalize wr = W1 at *
          have HR1 := Lib.hid (show RoundAt L w lv D k W1 M F from ⟨LogSpec.at_below HR.out.at_ HBR.out, HR.out.down, HR.out.next, HR.out.places, HR.out.below.trans (HBR.out.mono HR.out.below.size), HR.out.used⟩)
          have HNF := Lib.hid (LogSpec.at_not HR.out.at_ (Nat.le_refl W0.heap.size))
          clear hwh hbr hj hjm
          go_loopg [] M.recs.length (fun n wr => DropRel L w lv D k j W0.heap.size n wr)
          case atStart => exact ⟨M, F, rfl, HR1.out, HWH.out, HNF.out⟩
          case round =>
            obtain ⟨M1, F1, hg1, hr1, hw1, hf1⟩ := hrel
            have HG1 := Lib.hid hg1
            have HRR := Lib.hid hr1
            have HWW := Lib.hid hw1
            have HFF := Lib.hid hf1
            have HRM := Lib.hid (L.room hr1.at_)
            have HOK := Lib.hid (L.at_ok hr1.at_)
            clear hg1 hr1 hw1 hf1
            go_wp2_with fail
            refine HRM.out.mono ?_
            rintro e w4 ⟨rfl, hb4⟩
            have HAT4 := Lib.hid (LogSpec.at_below HRR.out.at_ hb4)
            have HB4 := Lib.hid (HRR.out.below.trans (hb4.mono HRR.out.below.size))
            have HW4 := Lib.hid (HWW.out.below hb4 HWW.out.lt)
            have HLT4 := Lib.hid (show W0.heap.size < w4.heap.size from HW4.out.lt)
            clear hb4
            obtain ⟨rm, hrm⟩ : ∃ rm, M1.places - M1.taken = rm := ⟨_, rfl⟩
            have HRM1 := Lib.hid hrm
            rw [hrm]
            clear hrm
            go_wp2_with fail
            refine (parts_any j (by omega) _).mono ?_
            rintro e w' ⟨rfl, rfl⟩
            obtain ⟨pj, hpj⟩ : ∃ pj, partsN j = pj := ⟨_, rfl⟩
            have HPJ := Lib.hid hpj
            have hp4 : pj ≤ 4 := by rw [← hpj]; unfold partsN; split <;> omega
            rw [hpj]
            clear hpj
            by_cases hrp : rm < pj
            · have d3 : decide ((rm : Int) < (pj : Int)) = true := by simp; omega
              have d3n : decide (rm < pj) = true := by simp; omega
              have hne : 0 < M1.recs.length := by
                rcases Nat.eq_zero_or_pos M1.recs.length with h0 | h0
                · have h1 : M1.taken = 0 := by unfold Lg.taken; rw [List.eq_nil_of_length_eq_zero h0]; rfl
                  have h2 := HRR.out.places
                  have h3 := HRM1.out
                  omega
                · exact h0
              have hfi := L.first HAT4.out
              have hf69 : M1.first ≤ 69 := by have := HRR.out.next; unfold Lg.next at this; omega
              have HFI := Lib.hid hfi
              have HNE := Lib.hid hne
              clear hrp hfi hne
              go_wp2_with fail
              refine HFI.out.mono ?_
              rintro e w5 ⟨rfl, hb5⟩
              have HDR := Lib.hid (L.drop (LogSpec.at_below HAT4.out hb5) (by have h1 := HRR.out.used; omega) ((M1.first : Int) + 1) (by omega) (by omega))
              have HB5 := Lib.hid (HB4.out.trans (hb5.mono HB4.out.size))
              have HW5 := Lib.hid (HW4.out.below hb5 HW4.out.lt)
              have HO5 := Lib.hid (L.at_own (LogSpec.at_below HAT4.out hb5))
              clear hb5
              obtain ⟨fz, hfz⟩ : ∃ fz, (M1.first : Int) = fz := ⟨_, rfl⟩
              rw [hfz] at HDR ⊢
              have hfzb : 0 ≤ fz ∧ fz ≤ 69 := by omega
              have HFZ := Lib.hid hfz
              clear hfz hf69
              go_wp2_with fail
              refine HDR.out.mono ?_
              rintro e w6 ⟨g6, M6, F6, rfl, hd6, hat6, hm6⟩
              have hz5 : W0.heap.size < w5.heap.size := HW5.out.lt
              have hM6 : g6 = 0 ∧ M6 = { M1 with first := M1.first + 1, recs := M1.recs.drop 1, sure := (M1.recs.drop 1).length, used := M1.used + 1 } := by
                rcases hd6 with ⟨h1, _⟩ | ⟨_, h1, _⟩ | ⟨_, h1, _⟩ | ⟨k', _, hk', hto, ⟨h1, hM⟩ | ⟨h1, _⟩⟩
                · rw [HRR.out.down] at h1; cases h1
                · exfalso; have h2 := HFZ.out; have h3 := HNE.out; unfold Lg.next at h1; omega
                · exfalso; have h2 := HFZ.out; omega
                · have h2 := HFZ.out
                  obtain rfl : k' = 1 := by omega
                  exact ⟨h1, hM⟩
                · cases h1
              obtain ⟨rfl, hM⟩ := hM6
              have hr6 : RoundAt L w lv D k w6 M6 F6 := by
                refine ⟨hat6, by rw [hM]; exact HRR.out.down, ?_, by rw [hM]; exact HRR.out.places, HB5.out.trans (hm6.below (fun i hi => (HO5.out.2 i hi).1) HO5.out.1), by rw [hM]; have h1 := HRR.out.used; show M1.used + 1 ≤ M1.first + 1 + k; omega⟩
                have h1 := HRR.out.next
                have h2 := HNE.out
                rw [hM]
                unfold Lg.next at h1 ⊢
                simp only [List.length_drop]
                omega
              have HR6 := Lib.hid hr6
              have HW6 := Lib.hid (hm6.whole HW5.out HFF.out)
              have HF6 := Lib.hid (hm6.not HFF.out hz5)
              have HL6 := Lib.hid (show M1.recs.length - 1 = M6.recs.length by rw [hM]; simp)
              clear hd6 hat6 hm6 hM hr6 hz5
              go_wp2
              go_roundg (M1.recs.length - 1)
              case rel => exact ⟨M6, F6, HL6.out, HR6.out, HW6.out, HF6.out⟩
              case measure => have h1 := HG1.out; have h2 := HNE.out; omega
            · have d3 : decide ((rm : Int) < (pj : Int)) = false := by simp; omega
              have d3n : decide (rm < pj) = false := by simp; omega
              have HFIT := Lib.hid (show M1.taken + partsN j ≤ M1.places by have h1 := HRM1.out; have h2 := HPJ.out; have h3 := HOK.out.few; omega)
              have hro : Row w4 w4.heap.size (some ⟨W0.heap.size, 0, none⟩) ((fillB k j).map bc) := fun _ => ⟨_, 0, rfl, HW4.out.lt, fun i u hu => by
                rw [Nat.zero_add, HW4.out.cell, fillC_all]; exact hu⟩
              have HAP := Lib.hid (L.append HAT4.out (by have h1 := HRR.out.used; have h2 := HRR.out.next; unfold Lg.next at h2; omega) (some ⟨W0.heap.size, 0, none⟩) j j (fillB k j) (length_fillB k j) hro (Nat.le_refl _) (by omega))
              clear hro hrp
              go_wp2_with fail
              refine HAP.out.mono ?_
              rintro e w5 ⟨z5, g5, M5, F5, rfl, ha5, hat5, hm5⟩
              have hM5 : g5 = 0 ∧ z5 = (k : Int) ∧ M5 = { M1 with recs := M1.recs ++ [fillB k j], used := M1.used + 1 } := by
                rcases ha5 with ⟨h1, _⟩ | ⟨_, h1, _⟩ | ⟨_, _, h1, h2, h3⟩ | ⟨_, _, h1, _⟩
                · rw [HRR.out.down] at h1; cases h1
                · exfalso; have h2 := HFIT.out; rw [length_fillB] at h1; omega
                · exact ⟨h1, by rw [h2, HRR.out.next], h3⟩
                · cases h1
              obtain ⟨rfl, rfl, hM⟩ := hM5
              have hrd := L.read hat5 (by rw [hM]; exact HRR.out.down) (k : Int) (by omega) (by omega)
              have hlast : readGE M5 (k : Int) = 0 ∧ readGB M5 (k : Int) = fillB k j := by
                rw [hM]; exact read_last HRR.out.next _
              rw [hlast.1, hlast.2, length_fillB] at hrd
              have HRD := Lib.hid hrd
              have HO4 := Lib.hid (L.at_own HAT4.out)
              have HB5 := Lib.hid (HB4.out.trans (hm5.below (fun i hi => (HO4.out.2 i hi).1) HO4.out.1))
              have HW5 := Lib.hid (hm5.whole HW4.out HFF.out)
              have HF5 := Lib.hid (hm5.not HFF.out HLT4.out)
              have HO5 := Lib.hid (L.at_own hat5)
              have HM5 := Lib.hid hM
              clear ha5 hat5 hm5 hM hrd hlast
              go_wp2_with fail
              refine HRD.out.mono ?_
              rintro e w6 ⟨A6, c6, F6, rfl, hown6, hat6, hm6⟩
              have HOW := Lib.hid hown6
              have HB6 := Lib.hid (HB5.out.trans (hm6.below (fun i hi => (HO5.out.2 i hi).1) HO5.out.1))
              have HW6 := Lib.hid (hm6.whole HW5.out HF5.out)
              have HAT6 := Lib.hid hat6
              have hro : Row w6 w6.heap.size (some ⟨W0.heap.size, 0, none⟩) ((fillB k j).map bc) := fun _ => ⟨_, 0, rfl, HW6.out.lt, fun i u hu => by
                rw [Nat.zero_add, HW6.out.cell, fillC_all]; exact hu⟩
              have hsm := same_any A6 (some ⟨W0.heap.size, 0, none⟩) j j c6 j w6.heap.size (fillB k j) (fillB k j) w6 (length_fillB k j) (length_fillB k j) (Row.of_own hown6) hro (by unfold maxLen; omega)
              rw [decide_eq_true rfl] at hsm
              have HSM := Lib.hid hsm
              clear hown6 hat6 hm6 hro hsm
              go_wp2_with fail
              refine HSM.out.mono ?_
              rintro e w7 ⟨rfl, k7, rfl⟩
              go_wp2
              have hfin : RoundAt L w lv D (k + 1) (w6.drewN k7) M5 F6 := by
                refine ⟨LogSpec.at_below HAT6.out (below_drewN' (Below.refl _ _) k7), by rw [HM5.out]; exact HRR.out.down, ?_, by rw [HM5.out]; exact HRR.out.places, HB6.out.trans ((below_drewN' (Below.refl _ _) k7).mono HB6.out.size), by rw [HM5.out]; have h1 := HRR.out.used; show M1.used + 1 ≤ M1.first + (k + 1); omega⟩
                have h1 := HRR.out.next
                rw [HM5.out]
                unfold Lg.next at h1 ⊢
                simp only [List.length_append, List.length_singleton]
                omega
              have hkt := HKT.out
              exact ⟨⟨k + 1, M5, F6, by omega, by go_num, hfin⟩, by simp only [intOf]; omega⟩
    · have d1 : decide ((k : Int) < (q : Int) % 60 + 10) = false := by simp; omega
      have HRM := Lib.hid (L.room hr.at_)
      have hok := L.at_ok hr.at_
      have hpl := hr.places
      obtain ⟨rm, hrm⟩ : ∃ rm, M.places - M.taken = rm := ⟨_, rfl⟩
      rw [hrm] at HRM
      have hr10 : (rm : Int) ≤ 10 := by omega
      clear hr hok hpl hrm hlt
      go_wp2_with fail
      refine HRM.out.mono ?_
      rintro e w4 ⟨rfl, hb4⟩
      have hrm2 := L.room (LogSpec.at_below HR.out.at_ hb4)
      have HB4 := Lib.hid (HR.out.below.trans (hb4.mono HR.out.below.size))
      have HRM2 := Lib.hid (show Calls Tryd.prog 22 #[lv] w4 (Gave w4 (.int .i64 ((M.places - M.taken : Nat) : Int))) from hrm2)
      clear hb4 hrm2
      go_wp2_with fail
      refine HRM2.out.mono ?_
      rintro e w5 ⟨rfl, hb5⟩
      have HB5 := Lib.hid (HB4.out.trans (hb5.mono HB4.out.size))
      have HOK := Lib.hid (show ((M.places - M.taken : Nat) : Int) ≤ 10 from by have := HR.out.places; omega)
      have d9 : decide (((M.places - M.taken : Nat) : Int) ≤ 10) = true := decide_eq_true HOK.out
      clear hb5
      generalize M.places - M.taken = rr at *
      go_wp2
      go_ret
      exact ⟨rfl, HB5.out⟩

theorem yround_none (A : Option Addr) (n c q : Nat) (w : World) (hv : L.Vars w) (h0 : n = 0) :
    Calls Tryd.prog 5 #[.slice A n c, .int .u8 (q : Int)] w (TrueB w) := by
  subst h0
  have HN := Lib.hid (h_new w w (Below.refl _ _) 12 (by decide) (by decide))
  have HV := Lib.hid hv
  clear hv
  go_enter Tryd.func5, Tryd.ntmps5
  go_wp2_with fail
  refine HN.out.mono ?_
  rintro e w1 ⟨D, rfl, hh1⟩
  have HO := Lib.hid (L.open_new HV.out hh1 (by decide) (by decide))
  clear hh1
  go_wp2_with fail
  refine HO.out.mono ?_
  rintro e w2 ⟨lv, F2, rfl, _, hb2⟩
  have HB2 := Lib.hid hb2
  clear hb2
  go_wp2_with fail
  refine (yanswers_any L _ (L.vars_next HV.out HB2.out)).mono ?_
  rintro e w3 ⟨rfl, hb3⟩
  have HB3 := Lib.hid (HB2.out.trans (hb3.mono HB2.out.size))
  clear hb3
  go_wp2_with fail
  refine (yanswers_any L _ (L.vars_next HV.out HB3.out)).mono ?_
  rintro e w4 ⟨rfl, hb4⟩
  have HB4 := Lib.hid (HB3.out.trans (hb4.mono HB3.out.size))
  clear hb4
  go_wp2
  go_ret
  exact ⟨rfl, HB4.out⟩

theorem yround_any (A : Option Addr) (n c : Nat) (ns : List Nat) (q : Nat) (w : World) (hv : L.Vars w) (hn : ns.length = n) (hA : Row w w.heap.size A (ns.map c16)) (hx : ∀ x ∈ ns, x < 65536) (hm : n ≤ maxLen) (hq : q < 256) :
    Calls Tryd.prog 5 #[.slice A n c, .int .u8 (q : Int)] w (TrueB w) := by
  by_cases h0 : n = 0
  · exact yround_none L A n c q w hv h0
  · exact yround_in L A n c ns q w hv hn hA hx hm hq h0

end Go.Proofs.YtgfoekbdmgljbaaDoor

namespace Go.Proofs.YtgfoekbdmgljbaaDoor
open Go.ChangeShapes Go.WideShapes Go.ChangeAt Go.RowKit

theorem u16_cells : Tryd.prog.cellsOf 56 = 1 := by kernel_rfl
theorem c16_of_int (n : Int) (h : (Lit.int .u16 n).wf = true) : Value.int .u16 n = c16 n.toNat := by
  have h1 : IntKind.u16.min = 0 := rfl
  simp only [Lit.wf, Bool.and_eq_true, decide_eq_true_eq] at h
  unfold c16
  congr 1
  omega
set_option maxRecDepth 20000 in
theorem open_row_u16 {H : Type} {enc : TypeId × Value → H} {W : World} {base : Nat} {v : Value} {d : DataW H} {p : List MemPlace}
    (hval : Value.okWide Tryd.prog W .any base 55 v) (h : DataW.Trod enc Tryd.prog W 0 (fun _ => true) true 55 v d p) (hlt : ∀ x ∈ p, x.block < W.heap.size) :
    ∃ (A : Option Addr) (m c : Nat) (l : List Nat), v = .slice A m c ∧ l.length = m ∧ Row W W.heap.size A (l.map c16) ∧ m ≤ maxLen ∧ ∀ x ∈ l, x < 65536 := by
  obtain ⟨a0, len, cap, rfl⟩ := okWide_slice Tryd.underlying55 hval
  obtain ⟨fuel, hf⟩ := h
  rcases open_ints Tryd.underlying55 Tryd.underlying56 u16_cells hf with ⟨hcs, hx⟩ | ⟨a, len', cap', zs, hcs, _, hl, hm, hz, hx, hcell, hwz⟩
  · simp [Value.cells] at hcs
    obtain ⟨rfl, rfl, rfl⟩ := hcs
    exact ⟨none, 0, 0, [], rfl, rfl, Row.empty _ _ _, Nat.zero_le _, fun _ h => absurd h List.not_mem_nil⟩
  · simp [Value.cells] at hcs
    obtain ⟨rfl, rfl, rfl⟩ := hcs
    simp only [Prod.mk.injEq] at hx
    obtain ⟨rfl, rfl⟩ := hx
    simp only [if_true] at hz
    refine ⟨some a, len, cap, (zs.take len).map fun n => n.toNat, rfl, by simp; omega, fun hne => ?_, Nat.le_trans hl hm, fun x hx => ?_⟩
    rotate_left
    · obtain ⟨z, hz, rfl⟩ := List.mem_map.1 hx
      have h2 := hwz z (List.mem_of_mem_take hz)
      have h3 : IntKind.u16.max = 65535 := rfl
      simp only [Lit.wf, Bool.and_eq_true, decide_eq_true_eq] at h2
      omega
    have hpos : 0 < zs.length := by
      rcases zs with _ | ⟨z, zs⟩
      · simp at hne
      · simp
    obtain ⟨b, off, spot⟩ := a
    have hspot : spot = none := by simpa [Addr.add] using World.cell?_spot (hcell 0 hpos)
    subst hspot
    refine ⟨b, off, rfl, hlt (.cell b off) (MemPlace.mem_row.2 ⟨0, hpos, by simp⟩), fun j u hu => ?_⟩
    have hjl : j < len := by
      have := (List.getElem?_eq_some_iff.1 hu).1
      simp at this
      omega
    have hj : j < zs.length := by omega
    have h1 := hcell j hj
    rw [addr_add] at h1
    rw [h1]
    have e : zs.getD j 0 = zs[j] := by simp [List.getD, List.getElem?_eq_getElem hj]
    rw [List.getElem?_map, List.getElem?_map, List.getElem?_take, if_pos hjl, List.getElem?_eq_getElem hj] at hu
    simp only [Option.map_some] at hu
    rw [← hu, e, c16_of_int _ (hwz _ (List.getElem_mem hj))]

end Go.Proofs.YtgfoekbdmgljbaaDoor

namespace Go.Proofs.YtgfoekbdmgljbaaDoor
open Go.ChangeShapes Go.WideShapes Go.ChangeAt Go.RowKit

set_option maxRecDepth 100000 in
theorem yround_lifted (os : Os) (started : os.Started) (H : Type) (enc : TypeId × Value → H) :
    ReturnsInHanded {} Tryd.checked os 5 .any (fun w args => (Rows.seglogRoundSpec.pre enc Tryd.prog Tryd.f5 [] false w args ∧ laidMetH Tryd.prog laidU w) ∧ sizedMet enc Tryd.prog Tryd.f5 (OpenSpec.ofChange Rows.seglogRoundSpec) false w args)
      (Rows.seglogRoundSpec.post enc Tryd.prog Tryd.f5 false true false false) := by
  refine returnsInHanded_of_change_and (C := Tryd.checked) (X := fun w _ => laidMetH Tryd.prog laidU w) (fun _ _ _ hh h => h.of_heap hh) Tryd.own started (by kernel_rfl) Tryd.func5
    (ChangeSpec.witness_shaped (enc := enc) (C := Tryd.checked) (os := os) (X := fun w _ => laidMetH Tryd.prog laidU w) false (World.laidAll Tryd.prog os laidU) #[.slice none 0 0, .int .u8 0] 8 (World.laidAll_os _ _ _)
      (World.shaped_of_ZipB (by kernel_rfl) (by kernel_rfl)) (by kernel_rfl) (by kernel_rfl) (by kernel_rfl)
      (by rw [MakeChecks.laidMetH_plain _ _ _ (by kernel_rfl)]; exact laidMet_laidAll _ (by kernel_rfl) (by kernel_rfl))) ?_
  intro W base args ds gs before hval0 hW _ hsz0 hL0 _
  have hL := vars_of_laid hL0
  clear hL0
  have hsz : (DataW.weightsEach Tryd.prog (Tryd.f5.params.toList ++ Rows.seglogRoundSpec.plain.varTypes Tryd.prog) (ds ++ gs)).all (· ≤ reachBytes) = true := hsz0
  clear hsz0
  have hval : ∀ (j : Nat) t v, Tryd.f5.params[j]? = some t → args[j]? = some v → Value.okWide Tryd.prog W .any base t v := hval0
  have hW' := hW
  obtain ⟨p, q, hA0, hV, rfl, _, _⟩ := hW
  have hA : DataW.TrodAll enc Tryd.prog W 0 (fun _ => true) true Tryd.f5.params.toList args.toList ds p := hA0
  rw [Tryd.params5] at hA hval hsz
  obtain ⟨v0, v1, d0, d1, p0, p1, rfl, rfl, rfl, h0, h1⟩ := trodAll_two hA
  obtain ⟨rfl, rfl⟩ := trodVars_none hV
  obtain ⟨A0, m0, c0, l0, rfl, hl0, hr0, hm0, hx0⟩ := open_row_u16 (hval 0 55 v0 rfl rfl) h0 (fun x hx => hW'.lt x (by simp [hx]))
  obtain ⟨z1, rfl, rfl, rfl, w1⟩ := open_int Tryd.underlying5 (hval 1 5 v1 rfl rfl) h1
  obtain ⟨n1, rfl, hn1⟩ := u8_nat w1
  have key : Calls Tryd.prog 5 #[.slice A0 m0 c0, .int .u8 (n1 : Int)] W (TrueB W) := by
    exact yround_any theLog A0 m0 c0 l0 n1 W hL hl0 hr0 hx0 hm0 hn1
  refine key.mono fun e W' ⟨he, hb⟩ => ?_
  subst he
  exact ⟨_, rfl, law_post (P := Tryd.prog) (tb := 4) Tryd.laidOut (by kernel_rfl) (by kernel_rfl) (by kernel_rfl) Tryd.underlying4 rfl hW' rfl rfl rfl hb⟩

theorem yround_holds : Rows.SeglogRoundSaid :=
  OpenClaim.holds_of_wide 5 Tryd.f5 rfl rfl rfl rfl rfl rfl rfl ⟨rfl, rfl, rfl, rfl, rfl⟩ rfl rfl rfl rfl rfl (by kernel_rfl) Tryd.func5 (by kernel_rfl)
    (of_decide_eq_true (by kernel_rfl)) (by unfold Func.isWrapper; first | (rw [if_pos (by decide +kernel)]; kernel_rfl) | (rw [if_neg (by decide +kernel)]; exact ⟨rfl, rfl⟩))
    (fun os started H enc _ => yround_lifted os started H enc)

theorem yround_card : Rows.SeglogRoundCardSaid :=
  Claim7.holds_tied_plain_at .later [] [.data, .data] true Rows.seglogRoundCard.stood.harness false yround_holds (fun _ h => by cases h) (by kernel_rfl) (fun _ h => by cases h) seglogRound_row_tie rfl ⟨rfl, rfl⟩ (by kernel_rfl) rfl
    (fun f fn hf hfn => by
      obtain rfl : f = 5 := Option.some.inj ((show Tryd.prog.funcNamed "gazetteer/gazetteerlaw11.SeglogRound" = some 5 by kernel_rfl).symm.trans hf) |>.symm
      obtain rfl : fn = Tryd.f5 := (Option.some.inj (Tryd.func5.symm.trans hfn)).symm
      exact ⟨by kernel_rfl, fun j t ht => by
        rw [Tryd.params5] at ht
        have hm : t ∈ [55, 5] := by simpa using Array.mem_of_getElem? ht
        have hall : ([55, 5].all fun u => !Tryd.prog.wantsStandIn u) = true := by kernel_rfl
        exact (show Tryd.prog.wantsStandIn t = false by simpa using List.all_eq_true.1 hall t hm)⟩)
    (by kernel_rfl)

end Go.Proofs.YtgfoekbdmgljbaaDoor
