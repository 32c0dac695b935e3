/-
  From a law's contract to its row: opening an argument of bytes; the end of a law.
-/
import Derived.Test.YtgfoekbdmgljbaaDoorRows
import Derived.Test.YtgfoekbdmgljbaaDoorSbP1
import Derived.ProofKit
import Derived.SizedLaws
import Derived.Carry
import Derived.Test.YtgfoekbdmgljbaaDoorSbP2
import Derived.Test.YtgfoekbdmgljbaaDoorCards
import Derived.Test.YtgfoekbdmgljbaaDoorTie
import Derived.LaidLaws
import Derived.Lay
import Derived.Handed
import Derived.Lib.LaidTab
import Derived.ChangeArms
import Derived.Deep.Slices
import Derived.Deep.Grids
import Derived.Test.YtgfoekbdmgljbaaDoorSbP4
import Derived.Outline
import Derived.Deep.CutRange
import Derived.Deep.CutBlock
import Derived.IntWalk
import Derived.Deep.RegionLawGrows
import Derived.Deep.RegionHeld3
namespace Go.Proofs.YtgfoekbdmgljbaaDoor
open Go.ChangeShapes Go.WideShapes Go.ChangeAt Go.RowKit

theorem Tryd.own : ownKnob Tryd.prog.godebug = none := by kernel_rfl
theorem Tryd.laidOut : laidOutB Tryd.prog = true := by kernel_rfl

theorem bc_of_int (n : Int) (h : (Lit.int .u8 n).wf = true) : Value.int .u8 n = bc (UInt8.ofNat n.toNat) := by
  have h1 : IntKind.u8.min = 0 := rfl
  have h2 : IntKind.u8.max = 255 := rfl
  simp only [Lit.wf, Bool.and_eq_true, decide_eq_true_eq] at h
  unfold bc
  rw [UInt8.toNat_ofNat', Nat.mod_eq_of_lt (by omega)]
  congr 1
  omega

set_option maxRecDepth 20000 in
/-- An argument of bytes: whatever it is, it reads as a list. -/
theorem open_row_u8c {H : Type} {enc : TypeId × Value → H} {W : World} {base : Nat} {t : TypeId} {v : Value} {d : DataW H} {p : List MemPlace} (hc : Tryd.prog.cellsOf 5 = 1) (ht : Tryd.prog.underlying t = some (.slice 5))
    (hval : Value.okWide Tryd.prog W .any base t v) (h : DataW.Trod enc Tryd.prog W 0 (fun _ => true) true t v d p) (hlt : ∀ x ∈ p, x.block < W.heap.size) :
    ∃ (A : Option Addr) (m c : Nat) (l : List UInt8), v = .slice A m c ∧ l.length = m ∧ Row W W.heap.size A (l.map bc) ∧ m ≤ c ∧ m ≤ maxLen ∧ c ≤ maxLen ∧ (m = 0 ∨ ∃ el sp, d = .slice el sp ∧ el.length = m) := by
  obtain ⟨a0, len, cap, rfl⟩ := okWide_slice ht hval
  obtain ⟨fuel, hf⟩ := h
  rcases open_ints ht Tryd.underlying5 hc hf with ⟨hcs, hx⟩ | ⟨a, len', cap', zs, hcs, _, hl, hm, hz, hx, hcell, hwz⟩
  · simp [Value.cells] at hcs
    obtain ⟨rfl, rfl, rfl⟩ := hcs
    exact ⟨none, 0, 0, [], rfl, rfl, Row.empty _ _ _, Nat.le_refl _, Nat.zero_le _, Nat.zero_le _, .inl rfl⟩
  · simp [Value.cells] at hcs
    obtain ⟨rfl, rfl, rfl⟩ := hcs
    simp only [Prod.mk.injEq] at hx
    obtain ⟨rfl, rfl⟩ := hx
    simp only [if_true] at hz
    refine ⟨some a, len, cap, (zs.take len).map fun n => UInt8.ofNat n.toNat, rfl, by simp; omega, fun hne => ?_, hl, Nat.le_trans hl hm, hm, .inr ⟨_, _, rfl, by simp [lits]; omega⟩⟩
    have hpos : 0 < zs.length := by
      rcases zs with _ | ⟨z, zs⟩
      · simp at hne
      · simp
    obtain ⟨b, off, spot⟩ := a
    have hspot : spot = none := by simpa [Addr.add] using World.cell?_spot (hcell 0 hpos)
    subst hspot
    refine ⟨b, off, rfl, hlt (.cell b off) (MemPlace.mem_row.2 ⟨0, hpos, by simp⟩), fun j u hu => ?_⟩
    have hj : j < zs.length := by
      have := (List.getElem?_eq_some_iff.1 hu).1
      simp at this
      omega
    have hjl : j < len := by
      have := (List.getElem?_eq_some_iff.1 hu).1
      simp at this
      omega
    have h1 := hcell j hj
    rw [addr_add] at h1
    rw [h1]
    have e : zs.getD j 0 = zs[j] := by simp [List.getD, List.getElem?_eq_getElem hj]
    rw [List.getElem?_map, List.getElem?_map, List.getElem?_take, if_pos hjl, List.getElem?_eq_getElem hj] at hu
    simp only [Option.map_some] at hu
    rw [← hu, e, bc_of_int _ (hwz _ (List.getElem_mem hj))]

set_option maxRecDepth 20000 in
theorem open_row_u8 {H : Type} {enc : TypeId × Value → H} {W : World} {base : Nat} {t : TypeId} {v : Value} {d : DataW H} {p : List MemPlace} (hc : Tryd.prog.cellsOf 5 = 1) (ht : Tryd.prog.underlying t = some (.slice 5))
    (hval : Value.okWide Tryd.prog W .any base t v) (h : DataW.Trod enc Tryd.prog W 0 (fun _ => true) true t v d p) (hlt : ∀ x ∈ p, x.block < W.heap.size) :
    ∃ (A : Option Addr) (m c : Nat) (l : List UInt8), v = .slice A m c ∧ l.length = m ∧ Row W W.heap.size A (l.map bc) ∧ m ≤ c ∧ m ≤ maxLen ∧ (m = 0 ∨ ∃ el sp, d = .slice el sp ∧ el.length = m) := by
  obtain ⟨A, m, c, l, h1, h2, h3, h4, h5, _, h6⟩ := open_row_u8c hc ht hval h hlt
  exact ⟨A, m, c, l, h1, h2, h3, h4, h5, h6⟩

theorem row_reach {H : Type} {P : Program} {ts : List TypeId} {ds : List (DataW H)} {d : DataW H} {m : Nat} (h : (DataW.weightsEach P ts ds).all (· ≤ reachBytes) = true) {j : Nat} {t e : TypeId} (ht : ts[j]? = some t) (hd : ds[j]? = some d) (hu : P.underlying t = some (.slice e))
    (hb : P.bytesOf e = 1) (hm : m = 0 ∨ ∃ el sp, d = .slice el sp ∧ el.length = m) : m ≤ 140737488351232 := by
  rcases hm with rfl | ⟨el, sp, rfl, hl⟩
  · omega
  · have := sized_slice h ht hd hu
    rw [hb] at this
    simp only [reachBytes] at this
    omega
theorem u8_cells : Tryd.prog.cellsOf 5 = 1 := by kernel_rfl
theorem u8_bytes : Tryd.prog.bytesOf 5 = 1 := by kernel_rfl

theorem below_trodAll {H : Type} {enc : TypeId × Value → H} {P : Program} (hl : laidOutB P = true) {W W' : World} (hb : Below W.heap.size W W') :
    ∀ {ts : List TypeId} {vs : List Value} {ds : List (DataW H)} {ps : List MemPlace}, ts.all (fun t => P.readableRec t && decide (t < P.types.size)) = true →
      DataW.TrodAll enc P W 0 (fun _ => true) true ts vs ds ps → (∀ x ∈ ps, x.block < W.heap.size) → DataW.TrodAll enc P W' 0 (fun b => decide (b < W.heap.size)) true ts vs ds ps
  | [], [], [], _, _, h, _ => h
  | [], [], _ :: _, _, _, h, _ => h.elim
  | [], _ :: _, _, _, _, h, _ => h.elim
  | _ :: _, [], _, _, _, h, _ => h.elim
  | _ :: _, _ :: _, [], _, _, h, _ => h.elim
  | t :: ts, v :: vs, d :: ds, ps, ht, h, hlt => by
    obtain ⟨p, q, h1, h2, rfl⟩ := h
    simp only [List.all_cons, Bool.and_eq_true, decide_eq_true_eq] at ht
    exact ⟨p, q, Below.trod hl ht.1.1 ht.1.2 h1 hb (fun x hx => hlt x (List.mem_append_left _ hx)), below_trodAll hl hb ht.2 h2 (fun x hx => hlt x (List.mem_append_right _ hx)), rfl⟩

/-- The end of a law: it has answered true, and nothing that was there has turned. -/
theorem law_post {H : Type} {enc : TypeId × Value → H} {P : Program} {f : Func} {s : ChangeSpec} {W W' : World} {args : Array Value} {ds gs : List (DataW H)} {before : List MemPlace} {tb : TypeId}
    (hl : laidOutB P = true) (hts : f.params.toList.all (fun t => P.readableRec t && decide (t < P.types.size)) = true) (hrt : f.resultTypes.toList = [tb]) (hsz : f.resultTypes.size = 1) (hbool : P.underlying tb = some .bool) (hsv : s.vars = [])
    (hW : DataW.Whole enc P f.params.toList s.vars false W args.toList ds gs before)
    (hres : (s.fn H (ds ++ gs)).results = [.lit (.bool true)]) (hargs : (s.fn H (ds ++ gs)).args = ds) (hvars : (s.fn H (ds ++ gs)).vars = [])
    (hb : Below W.heap.size W W') : s.post enc P f false true false false W args (.bool true) W' := by
  have hW' := hW
  obtain ⟨p, q, hA, hV, rfl, _, _⟩ := hW
  rw [hsv] at hV
  obtain ⟨rfl, rfl⟩ := trodVars_none hV
  have hlt : ∀ x ∈ p, x.block < W.heap.size := fun x hx => hW'.lt x (List.mem_append_left _ hx)
  refine ⟨ds, [], p ++ [], [], p, [], hW', ?_, ?_, ?_, hb.frame _, fun h => by cases h⟩
  · rw [hrt, hsz, hres]
    exact trodAll_mk1 (shut_bool hbool true)
  · rw [hargs]
    exact below_trodAll hl hb hts hA hlt
  · rw [hsv, hvars]
    rfl

theorem i64_le {n : Int} (h : (Lit.int .i64 n).wf = true) : -9223372036854775808 ≤ n ∧ n ≤ 9223372036854775807 := by
  have h1 : IntKind.i64.min = -9223372036854775808 := rfl
  have h2 : IntKind.i64.max = 9223372036854775807 := rfl
  simp only [Lit.wf, Bool.and_eq_true, decide_eq_true_eq] at h
  omega

end Go.Proofs.YtgfoekbdmgljbaaDoor

namespace Go.Proofs.YtgfoekbdmgljbaaDoor
open Go.ChangeShapes Go.WideShapes Go.ChangeAt Go.RowKit

/-- What the rows list. -/
def laidL : List (String × DataW Unit) := [("gazetteer/sector.sizes", Rows.laid_gazetteer_sector_sizes)]
theorem int_one : Tryd.prog.cellsOf 3 = 1 := by kernel_rfl
theorem int5_five : Tryd.prog.cellsOf 103 = 5 := by kernel_rfl
theorem sizes_global : Tryd.prog.globalNamed "gazetteer/sector.sizes" = some 1 := by kernel_rfl
theorem sizes_type : (Tryd.prog.globals[(1 : Nat)]?).map (·.type) = some 103 := by kernel_rfl
theorem sizes_of_laid {W : World} (h : laidMetH Tryd.prog laidL W) : SizesAt W := by
  have h1 : laidMet Tryd.prog laidL W := by
    have e := MakeChecks.laidMetH_plain Tryd.prog laidL W (by kernel_rfl)
    rwa [e] at h
  have h2 : Lib.TabIs Tryd.prog W "gazetteer/sector.sizes" .i64 szL :=
    Lib.tabIs_of_head sizes_global sizes_type Tryd.underlying103 Tryd.underlying3 int_one int5_five (rest := []) h1
  unfold Lib.TabIs World.var? at h2
  rw [sizes_global, Option.bind_some] at h2
  unfold SizesAt
  split at h2
  · rename_i cs t fr hh
    injection h2 with h2
    subst h2
    exact ⟨t, fr, hh⟩
  · cases h2

theorem head_five : Tryd.prog.cellsOf 79 = 5 := by kernel_rfl
set_option maxRecDepth 20000 in
/-- An argument that is a head: whatever it is, it is five numbers. -/
theorem open_head {H : Type} {enc : TypeId × Value → H} {W : World} {base : Nat} {v : Value} {d : DataW H} {p : List MemPlace}
    (hval : Value.okWide Tryd.prog W .any base 79 v) (h : DataW.Trod enc Tryd.prog W 0 (fun _ => true) true 79 v d p) :
    ∃ x : SH, v = x.val ∧ (Lit.int .i64 x.kind).wf = true ∧ (Lit.int .i64 x.epoch).wf = true ∧ (Lit.int .i64 x.seq).wf = true ∧ (Lit.int .i64 x.part).wf = true ∧ (Lit.int .i64 x.parts).wf = true := by
  obtain ⟨cs, rfl, hsz⟩ := okWide_struct Tryd.underlying79 hval
  obtain ⟨l⟩ := cs
  have hl : l.length = 5 := by simpa using hsz.trans head_five
  match l, hl with
  | [u0, u1, u2, u3, u4], _ =>
    obtain ⟨fuel, hf⟩ := h
    obtain ⟨ys, n, _, hy, _, hyl, hg⟩ := DataW.trod_struct Tryd.underlying79 hf
    have f0 := hg 0 _ rfl
    have f1 := hg 1 _ rfl
    have f2 := hg 2 _ rfl
    have f3 := hg 3 _ rfl
    have f4 := hg 4 _ rfl
    have hyl' : ys.length = 5 := hyl
    match ys, hyl' with
    | [y0, y1, y2, y3, y4], _ =>
      obtain ⟨z0, e0, _, w0⟩ := DataW.trod_int Tryd.underlying3 (show DataW.trod enc Tryd.prog W 0 (fun _ => true) true n 3 [u0] = some y0 from f0)
      obtain ⟨z1, e1, _, w1⟩ := DataW.trod_int Tryd.underlying3 (show DataW.trod enc Tryd.prog W 0 (fun _ => true) true n 3 [u1] = some y1 from f1)
      obtain ⟨z2, e2, _, w2⟩ := DataW.trod_int Tryd.underlying3 (show DataW.trod enc Tryd.prog W 0 (fun _ => true) true n 3 [u2] = some y2 from f2)
      obtain ⟨z3, e3, _, w3⟩ := DataW.trod_int Tryd.underlying3 (show DataW.trod enc Tryd.prog W 0 (fun _ => true) true n 3 [u3] = some y3 from f3)
      obtain ⟨z4, e4, _, w4⟩ := DataW.trod_int Tryd.underlying3 (show DataW.trod enc Tryd.prog W 0 (fun _ => true) true n 3 [u4] = some y4 from f4)
      injection e0 with e0
      injection e1 with e1
      injection e2 with e2
      injection e3 with e3
      injection e4 with e4
      subst e0; subst e1; subst e2; subst e3; subst e4
      exact ⟨⟨z0, z1, z2, z3, z4⟩, rfl, w0, w1, w2, w3, w4⟩

theorem u16_nat {n : Int} (h : (Lit.int .u16 n).wf = true) : ∃ k : Nat, n = k ∧ k < 65536 := by
  have h1 : IntKind.u16.min = 0 := rfl
  have h2 : IntKind.u16.max = 65535 := rfl
  simp only [Lit.wf, Bool.and_eq_true, decide_eq_true_eq] at h
  exact ⟨n.toNat, by omega, by omega⟩

end Go.Proofs.YtgfoekbdmgljbaaDoor

namespace Go.Proofs.YtgfoekbdmgljbaaDoor
open Go.ChangeShapes Go.WideShapes Go.ChangeAt Go.RowKit

theorem u64_le {n : Int} (h : (Lit.int .u64 n).wf = true) : 0 ≤ n ∧ n ≤ 18446744073709551615 := by
  have h1 : IntKind.u64.min = 0 := rfl
  have h2 : IntKind.u64.max = 18446744073709551615 := rfl
  simp only [Lit.wf, Bool.and_eq_true, decide_eq_true_eq] at h
  omega
theorem u64_nat {n : Int} (h : (Lit.int .u64 n).wf = true) : ∃ k : Nat, n = k := ⟨n.toNat, by have := u64_le h; omega⟩
theorem u64_lt {k : Nat} (h : (Lit.int .u64 (k : Int)).wf = true) : k < 18446744073709551616 := by have := u64_le h; omega

end Go.Proofs.YtgfoekbdmgljbaaDoor

namespace Go.Proofs.YtgfoekbdmgljbaaDoor
open Go.ChangeShapes Go.WideShapes Go.ChangeAt Go.RowKit

/-- What the rows list. -/
def laidU : List (String × DataW Unit) := [("gazetteer/sector.sizes", Rows.laid_gazetteer_sector_sizes), ("gazetteer/super.head", Rows.laid_gazetteer_super_head)]
theorem shead_global : Tryd.prog.globalNamed "gazetteer/super.head" = some 0 := by kernel_rfl
theorem shead_type : (Tryd.prog.globals[(0 : Nat)]?).map (·.type) = some 79 := by kernel_rfl
theorem blk_five : Tryd.prog.cellsOf 63 = 5 := by kernel_rfl

set_option maxRecDepth 20000 in
/-- Five whole numbers in a row, as they are read. -/
theorem read_sh {H : Type} {enc : TypeId × Value → H} {W : World} {sp : Nat → Bool} {held : Bool} {fuel : Nat} {cs : List Value} {x : DataW H × List MemPlace}
    (h : DataW.trod enc Tryd.prog W 0 sp held fuel 79 cs = some x) :
    ∃ z0 z1 z2 z3 z4 : Int, cs = [.int .i64 z0, .int .i64 z1, .int .i64 z2, .int .i64 z3, .int .i64 z4] ∧ x.1 = .agg [.lit (.int .i64 z0), .lit (.int .i64 z1), .lit (.int .i64 z2), .lit (.int .i64 z3), .lit (.int .i64 z4)] ∧
      (Lit.int .i64 z0).wf = true ∧ (Lit.int .i64 z1).wf = true ∧ (Lit.int .i64 z2).wf = true ∧ (Lit.int .i64 z3).wf = true ∧ (Lit.int .i64 z4).wf = true := by
  obtain ⟨ys, n, _, hy, hcl, hyl, hg⟩ := DataW.trod_struct Tryd.underlying79 h
  have hl : cs.length = 5 := hcl.trans head_five
  match cs, hl with
  | [u0, u1, u2, u3, u4], _ =>
    have hyl' : ys.length = 5 := hyl
    have f0 := hg 0 _ rfl
    have f1 := hg 1 _ rfl
    have f2 := hg 2 _ rfl
    have f3 := hg 3 _ rfl
    have f4 := hg 4 _ rfl
    match ys, hyl' with
    | [y0, y1, y2, y3, y4], _ =>
      obtain ⟨z0, e0, d0, w0⟩ := DataW.trod_int Tryd.underlying3 (show DataW.trod enc Tryd.prog W 0 sp held n 3 [u0] = some y0 from f0)
      obtain ⟨z1, e1, d1, w1⟩ := DataW.trod_int Tryd.underlying3 (show DataW.trod enc Tryd.prog W 0 sp held n 3 [u1] = some y1 from f1)
      obtain ⟨z2, e2, d2, w2⟩ := DataW.trod_int Tryd.underlying3 (show DataW.trod enc Tryd.prog W 0 sp held n 3 [u2] = some y2 from f2)
      obtain ⟨z3, e3, d3, w3⟩ := DataW.trod_int Tryd.underlying3 (show DataW.trod enc Tryd.prog W 0 sp held n 3 [u3] = some y3 from f3)
      obtain ⟨z4, e4, d4, w4⟩ := DataW.trod_int Tryd.underlying3 (show DataW.trod enc Tryd.prog W 0 sp held n 3 [u4] = some y4 from f4)
      injection e0 with e0
      injection e1 with e1
      injection e2 with e2
      injection e3 with e3
      injection e4 with e4
      subst e0; subst e1; subst e2; subst e3; subst e4
      exact ⟨z0, z1, z2, z3, z4, rfl, by rw [hy]; simp [d0, d1, d2, d3, d4], w0, w1, w2, w3, w4⟩
set_option maxRecDepth 20000 in
theorem read_blk {H : Type} {enc : TypeId × Value → H} {W : World} {sp : Nat → Bool} {held : Bool} {fuel : Nat} {cs : List Value} {x : DataW H × List MemPlace}
    (h : DataW.trod enc Tryd.prog W 0 sp held fuel 63 cs = some x) :
    ∃ z0 z1 z2 z3 z4 : Int, cs = [.int .i64 z0, .int .i64 z1, .int .i64 z2, .int .i64 z3, .int .i64 z4] ∧ x.1 = .agg [.lit (.int .i64 z0), .lit (.int .i64 z1), .lit (.int .i64 z2), .lit (.int .i64 z3), .lit (.int .i64 z4)] ∧
      (Lit.int .i64 z0).wf = true ∧ (Lit.int .i64 z1).wf = true ∧ (Lit.int .i64 z2).wf = true ∧ (Lit.int .i64 z3).wf = true ∧ (Lit.int .i64 z4).wf = true := by
  obtain ⟨ys, n, _, hy, hcl, hyl, hg⟩ := DataW.trod_struct Tryd.underlying63 h
  have hl : cs.length = 5 := hcl.trans blk_five
  match cs, hl with
  | [u0, u1, u2, u3, u4], _ =>
    have hyl' : ys.length = 5 := hyl
    have f0 := hg 0 _ rfl
    have f1 := hg 1 _ rfl
    have f2 := hg 2 _ rfl
    have f3 := hg 3 _ rfl
    have f4 := hg 4 _ rfl
    match ys, hyl' with
    | [y0, y1, y2, y3, y4], _ =>
      obtain ⟨z0, e0, d0, w0⟩ := DataW.trod_int Tryd.underlying3 (show DataW.trod enc Tryd.prog W 0 sp held n 3 [u0] = some y0 from f0)
      obtain ⟨z1, e1, d1, w1⟩ := DataW.trod_int Tryd.underlying3 (show DataW.trod enc Tryd.prog W 0 sp held n 3 [u1] = some y1 from f1)
      obtain ⟨z2, e2, d2, w2⟩ := DataW.trod_int Tryd.underlying3 (show DataW.trod enc Tryd.prog W 0 sp held n 3 [u2] = some y2 from f2)
      obtain ⟨z3, e3, d3, w3⟩ := DataW.trod_int Tryd.underlying3 (show DataW.trod enc Tryd.prog W 0 sp held n 3 [u3] = some y3 from f3)
      obtain ⟨z4, e4, d4, w4⟩ := DataW.trod_int Tryd.underlying3 (show DataW.trod enc Tryd.prog W 0 sp held n 3 [u4] = some y4 from f4)
      injection e0 with e0
      injection e1 with e1
      injection e2 with e2
      injection e3 with e3
      injection e4 with e4
      subst e0; subst e1; subst e2; subst e3; subst e4
      exact ⟨z0, z1, z2, z3, z4, rfl, by rw [hy]; simp [d0, d1, d2, d3, d4], w0, w1, w2, w3, w4⟩

theorem cells_of_var {W : World} {n : String} {g : Nat} {cs : Array Value} (hg : Tryd.prog.globalNamed n = some g) (h : W.var? Tryd.prog n = some cs) : ∃ t fr, W.heap[g]? = some (.cells cs t fr) := by
  unfold World.var? at h
  rw [hg, Option.bind_some] at h
  split at h
  · rename_i cs' t fr hh
    injection h with h
    subst h
    exact ⟨t, fr, hh⟩
  · cases h

theorem vars_of_laid {W : World} (h : laidMetH Tryd.prog laidU W) : VarsAt W := by
  have h1 : laidMet Tryd.prog laidU W := by
    have e := MakeChecks.laidMetH_plain Tryd.prog laidU W (by kernel_rfl)
    rwa [e] at h
  refine ⟨?_, ?_⟩
  · have h2 : Lib.TabIs Tryd.prog W "gazetteer/sector.sizes" .i64 szL :=
      Lib.tabIs_of_head sizes_global sizes_type Tryd.underlying103 Tryd.underlying3 int_one int5_five (rest := [("gazetteer/super.head", Rows.laid_gazetteer_super_head)]) h1
    unfold Lib.TabIs at h2
    exact cells_of_var sizes_global h2
  · obtain ⟨ps, ⟨_, _, _, _, _, _, _, _, _, _, ⟨g, t, cs, fuel, p, q, hg, ht, hv, hd, _, _⟩, _⟩, _⟩ := h1
    obtain rfl := Option.some.inj (shead_global.symm.trans hg)
    obtain rfl := Option.some.inj (shead_type.symm.trans ht)
    obtain ⟨z0, z1, z2, z3, z4, e, ed, _⟩ := read_sh hd
    obtain ⟨ty, fr, hh⟩ := cells_of_var shead_global hv
    refine ⟨ty, fr, ?_⟩
    have e2 : cs = supH.cells.toArray := by
      have ed' : (.agg [.lit (.int .i64 1), .lit (.int .i64 0), .lit (.int .i64 0), .lit (.int .i64 0), .lit (.int .i64 1)] : DataW Unit) = .agg [.lit (.int .i64 z0), .lit (.int .i64 z1), .lit (.int .i64 z2), .lit (.int .i64 z3), .lit (.int .i64 z4)] := ed
      simp only [DataW.agg.injEq, List.cons.injEq, DataW.lit.injEq, Lit.int.injEq, true_and, and_true] at ed'
      obtain ⟨rfl, rfl, rfl, rfl, rfl⟩ := ed'
      exact Array.toList_inj.1 e
    rw [hh, e2]

theorem u8_nat {n : Int} (h : (Lit.int .u8 n).wf = true) : ∃ k : Nat, n = k ∧ k < 256 := by
  have h1 : IntKind.u8.min = 0 := rfl
  have h2 : IntKind.u8.max = 255 := rfl
  simp only [Lit.wf, Bool.and_eq_true, decide_eq_true_eq] at h
  exact ⟨n.toNat, by omega, by omega⟩
/-- A block as an argument has it. -/
structure BlkIn (b : Blk) : Prop where
  gen : (Lit.int .i64 b.gen).wf = true
  epoch : (Lit.int .i64 b.epoch).wf = true
  first : (Lit.int .i64 b.first).wf = true
  begun : (Lit.int .i64 b.begun).wf = true
  count : (Lit.int .i64 b.count).wf = true
set_option maxRecDepth 20000 in
/-- An argument that is a block: whatever it is, it is five numbers. -/
theorem open_blk {H : Type} {enc : TypeId × Value → H} {W : World} {base : Nat} {v : Value} {d : DataW H} {p : List MemPlace}
    (hval : Value.okWide Tryd.prog W .any base 63 v) (h : DataW.Trod enc Tryd.prog W 0 (fun _ => true) true 63 v d p) : ∃ b : Blk, v = b.val ∧ BlkIn b := by
  obtain ⟨cs, rfl, _⟩ := okWide_struct Tryd.underlying63 hval
  obtain ⟨fuel, hf⟩ := h
  obtain ⟨z0, z1, z2, z3, z4, e, _, w0, w1, w2, w3, w4⟩ := read_blk (show DataW.trod enc Tryd.prog W 0 (fun _ => true) true fuel 63 cs.toList = some (d, p) from hf)
  have e2 : cs = #[.int .i64 z0, .int .i64 z1, .int .i64 z2, .int .i64 z3, .int .i64 z4] := Array.toList_inj.1 e
  exact ⟨⟨z0, z1, z2, z3, z4⟩, by rw [e2]; rfl, w0, w1, w2, w3, w4⟩

theorem addr_add_addU (a : Addr) (m n : Nat) : (a.add m).add n = a.add (m + n) := by
  unfold Addr.add
  by_cases h1 : m = 0 <;> by_cases h2 : n = 0 <;> simp [h1, h2] <;> omega
/-- What a statement's argument of blocks is. -/
def BlksIn (w : World) (H : Nat) (A : Option Addr) (bs : List Blk) : Prop :=
  ∀ i (h : i < bs.length), ∃ b off, A = some ⟨b, off, none⟩ ∧ b < H ∧ (∀ j v, (bs[i]).cells[j]? = some v → w.cell? ⟨b, off + (i * 5 + j), none⟩ = some v) ∧ BlkIn bs[i]

set_option maxRecDepth 20000 in
theorem open_row_blks {H : Type} {enc : TypeId × Value → H} {W : World} {base : Nat} {t : TypeId} {v : Value} {d : DataW H} {p : List MemPlace} (ht : Tryd.prog.underlying t = some (.slice 63))
    (hval : Value.okWide Tryd.prog W .any base t v) (h : DataW.Trod enc Tryd.prog W 0 (fun _ => true) true t v d p) (hlt : ∀ x ∈ p, x.block < W.heap.size) :
    ∃ (A : Option Addr) (c : Nat) (bs : List Blk), v = .slice A bs.length c ∧ BlksIn W W.heap.size A bs ∧ bs.length ≤ maxLen := by
  obtain ⟨a0, len, cap, rfl⟩ := okWide_slice ht hval
  obtain ⟨fuel, hf⟩ := h
  rcases Deep.open_slice ht hf with ⟨hcs, hx⟩ | ⟨a, len', cap', m, n, D, Pl, hcs, _, hl, hm, hmm, hx, hy⟩
  · simp [Value.cells] at hcs
    obtain ⟨rfl, rfl, rfl⟩ := hcs
    exact ⟨none, 0, [], rfl, fun i h => absurd h (Nat.not_lt_zero _), Nat.zero_le _⟩
  · simp [Value.cells] at hcs
    obtain ⟨rfl, rfl, rfl⟩ := hcs
    simp only [if_true] at hmm
    subst hmm
    simp only [Prod.mk.injEq] at hx
    obtain ⟨rfl, rfl⟩ := hx
    rw [blk_five] at hy hlt
    have each : ∀ i, i < len → ∃ y : Blk, (∀ j v, y.cells[j]? = some v → W.cell? (a.add (i * 5 + j)) = some v) ∧ BlkIn y := by
      intro i hi
      obtain ⟨cs, hc, hr⟩ := hy i (by omega)
      obtain ⟨_, hc5, hat⟩ := World.cells?_some hc
      obtain ⟨z0, z1, z2, z3, z4, e, _, w0, w1, w2, w3, w4⟩ := read_blk hr
      refine ⟨⟨z0, z1, z2, z3, z4⟩, fun j v hj => ?_, w0, w1, w2, w3, w4⟩
      have hj5 : j < 5 := by simpa [Blk.cells] using (List.getElem?_eq_some_iff.1 hj).1
      have := hat j hj5
      have e2 : cs[j]? = some v := by rw [e]; exact hj
      rw [e2, addr_add_addU] at this
      exact this
    haveI : Inhabited Blk := ⟨bzero⟩
    obtain ⟨Y, hY⟩ := Deep.choose_lt each
    have hnl : ((List.range len).map fun i => Y i).length = len := by simp
    refine ⟨some a, m, (List.range len).map fun i => Y i, by rw [hnl], fun i hi => ?_, by rw [hnl]; omega⟩
    rw [hnl] at hi
    obtain ⟨hcell, hp⟩ := hY i hi
    obtain ⟨b, off, spot⟩ := a
    have hspot : spot = none := by
      obtain ⟨hc0, _⟩ := hY 0 (by omega)
      have h := World.cell?_spot (hc0 0 _ rfl)
      simpa [Addr.add] using h
    subst hspot
    refine ⟨b, off, rfl, hlt (.cell b off) (List.mem_append_left _ (MemPlace.mem_row.2 ⟨0, by omega, by simp⟩)), fun j v hj => ?_, by simpa using hp⟩
    have h1 := hcell j v (by simpa using hj)
    rw [addr_add] at h1
    exact h1

end Go.Proofs.YtgfoekbdmgljbaaDoor

namespace Go.Proofs.YtgfoekbdmgljbaaDoor
open Go.RowKit

theorem parts_any (n : Nat) (h : n ≤ 140737488355328) (w : World) : Calls Tryd.prog 10 #[.int .i64 (n : Int)] w (Told w (.int .i64 (partsN n : Int))) := by
  by_cases h1 : n ≤ 496
  · have d1 : decide ((n : Int) ≤ 496) = true := by simp; omega
    have HP := Lib.hid (show partsN n = 1 from if_pos h1)
    go_enter Tryd.func10, Tryd.ntmps10
    go_wp2
    go_ret
    exact ⟨by rw [HP.out]; rfl, rfl⟩
  · have d1 : decide ((n : Int) ≤ 496) = false := by simp; omega
    have HP := Lib.hid (show ((n : Int) + 495).tdiv 496 = (partsN n : Int) by
      unfold partsN
      rw [if_neg h1, Int.tdiv_eq_ediv_of_nonneg (by omega)]
      omega)
    have r0 : ((n : Int) + 495).tdiv 496 = (partsN n : Int) := HP.out
    have hpb : (partsN n : Int) ≤ 140737488355328 := by unfold partsN; split <;> omega
    go_enter Tryd.func10, Tryd.ntmps10
    go_wp2
    go_ret
    exact ⟨by rfl, rfl⟩

def five1 : List UInt8 := [5]
variable (L : LogSpec)
set_option maxHeartbeats 400000 in
theorem yanswers_any (w : World) (hv : L.Vars w) : Calls Tryd.prog 8 #[] w (TrueB w) := by
  have HN := Lib.hid (h_new w w (Below.refl _ _) 8 (by decide) (by decide))
  have HV := Lib.hid hv
  clear hv
  go_enter Tryd.func8, Tryd.ntmps8
  go_wp2_with fail
  refine HN.out.mono ?_
  rintro e w1 ⟨D, rfl, hh1⟩
  have HO := Lib.hid (L.open_new HV.out hh1 (by decide) (by decide))
  clear hh1
  go_wp2_with fail
  refine HO.out.mono ?_
  rintro e w2 ⟨lv, F, rfl, hat, hb2⟩
  have HAT := Lib.hid (LogSpec.at_below hat ((Below.refl _ _).alloc (Nat.le_refl _) (.cells (five1.map bc).toArray 5)))
  have HR := Lib.hid (Row.made w2 (five1.map bc).toArray 5)
  have HB2 := Lib.hid (hb2.alloc hb2.size (.cells (five1.map bc).toArray 5))
  clear hat hb2
  go_wp2_with fail
  refine (L.append HAT.out (by decide) (some ⟨w2.heap.size, 0, none⟩) 1 1 five1 rfl (HR.out.mono (by simp)) (Nat.le_refl _) (by decide)).mono ?_
  rintro e w3 ⟨z, g, M', F', rfl, ha, hat3, hm3⟩
  have ho := L.at_own HAT.out
  have HB3 := Lib.hid (HB2.out.trans (hm3.below (fun j hj => (ho.2 j hj).1) ho.1))
  have hp : partsN five1.length = 1 := rfl
  rcases ha with ⟨h1, _⟩ | ⟨_, h1, _⟩ | ⟨_, _, rfl, hz, hM⟩ | ⟨_, _, h1, _⟩
  · cases h1
  · exact absurd h1 (by decide)
  · have hz' : z = 0 := hz
    subst hz'
    have hb4 : readGB M' 0 = [5] := by rw [hM]; decide
    have hg4 : readGE M' 0 = 0 := by rw [hM]; decide
    have hrd := L.read hat3 (by rw [hM]) 0 (by decide) (by decide)
    rw [hb4, hg4] at hrd
    have HRD := Lib.hid hrd
    have HO3 := Lib.hid (L.at_own hat3)
    clear hat3 hm3 ho hz hrd hb4 hg4 hM
    go_wp2_with fail
    refine HRD.out.mono ?_
    rintro e w4 ⟨A4, c4, F4, rfl, hown4, hat4, hm4⟩
    obtain ⟨gb, rfl⟩ := own_some hown4 (by decide)
    have k0 : w4.cell? ⟨gb, 0, none⟩ = some (.int .u8 5) := (hown4.cellAt 0 (by decide)).trans rfl
    have HB4 := Lib.hid (HB3.out.trans (hm4.below (fun j hj => (HO3.out.2 j hj).1) HO3.out.1))
    clear hown4 hat4 hm4
    go_wp2
    go_ret
    exact ⟨rfl, HB4.out⟩
  · cases h1

end Go.Proofs.YtgfoekbdmgljbaaDoor

namespace Go.Proofs.YtgfoekbdmgljbaaDoor
open Go.ChangeShapes Go.WideShapes Go.ChangeAt Go.RowKit

def BytesIn (w : World) (H : Nat) (A : Option Addr) (vs : List Value) (ls : List (List UInt8)) : Prop :=
  Row w H A vs ∧ vs.length = ls.length ∧ ∀ k, k < ls.length → ∃ Ak ck, vs[k]? = some (.slice Ak (ls.getD k []).length ck) ∧ Row w H Ak ((ls.getD k []).map bc) ∧ (ls.getD k []).length ≤ maxLen
theorem BytesIn.below {w w' : World} {H : Nat} {A : Option Addr} {vs : List Value} {ls : List (List UInt8)} (h : BytesIn w H A vs ls) (hb : Below H w w') : BytesIn w' H A vs ls := by
  obtain ⟨h1, h2, h3⟩ := h
  refine ⟨h1.below hb, h2, fun k hk => ?_⟩
  obtain ⟨Ak, ck, h4, h5, h6⟩ := h3 k hk
  exact ⟨Ak, ck, h4, h5.below hb, h6⟩
theorem BytesIn.at_ {w : World} {H : Nat} {A : Option Addr} {vs : List Value} {ls : List (List UInt8)} (h : BytesIn w H A vs ls) {k : Nat} (hk : k < ls.length) :
    ∃ b off Ak ck, A = some ⟨b, off, none⟩ ∧ b < H ∧ w.cell? ⟨b, off + k, none⟩ = some (.slice Ak (ls.getD k []).length ck) ∧ Row w H Ak ((ls.getD k []).map bc) ∧ (ls.getD k []).length ≤ maxLen := by
  obtain ⟨h1, h2, h3⟩ := h
  obtain ⟨Ak, ck, h4, h5, h6⟩ := h3 k hk
  obtain ⟨b, off, rfl, hb, hc⟩ := h1.some_ (by omega)
  exact ⟨b, off, Ak, ck, rfl, hb, hc k _ h4, h5, h6⟩

theorem bytes_cells : Tryd.prog.cellsOf 35 = 1 := by kernel_rfl
set_option maxRecDepth 20000 in
/-- Bytes as they are read: whatever they are. -/
theorem read_bytes {H : Type} {enc : TypeId × Value → H} {W : World} {fuel : Nat} {v : Value} {x : DataW H × List MemPlace} (hc : Tryd.prog.cellsOf 5 = 1)
    (h : DataW.trod enc Tryd.prog W 0 (fun _ => true) true fuel 35 [v] = some x) (hlt : ∀ y ∈ x.2, y.block < W.heap.size) :
    ∃ (A : Option Addr) (c : Nat) (l : List UInt8), v = .slice A l.length c ∧ Row W W.heap.size A (l.map bc) ∧ l.length ≤ maxLen := by
  rcases open_ints Tryd.underlying35 Tryd.underlying5 hc h with ⟨hcs, hx⟩ | ⟨a, len, cap, zs, hcs, _, hl, hm, hz, hx, hcell, hwz⟩
  · exact ⟨none, 0, [], by simpa using hcs, Row.empty _ _ _, Nat.zero_le _⟩
  · simp only [List.cons.injEq, and_true] at hcs
    subst hcs
    subst hx
    simp only [if_true] at hz
    have hlen : ((zs.take len).map fun n => UInt8.ofNat n.toNat).length = len := by simp; omega
    refine ⟨some a, cap, (zs.take len).map fun n => UInt8.ofNat n.toNat, by rw [hlen], fun hne => ?_, by rw [hlen]; omega⟩
    have hpos : 0 < zs.length := by
      rcases zs with _ | ⟨z, zs⟩
      · simp at hne
      · simp
    obtain ⟨b, off, spot⟩ := a
    have hspot : spot = none := by simpa [Addr.add] using World.cell?_spot (hcell 0 hpos)
    subst hspot
    refine ⟨b, off, rfl, hlt (.cell b off) (MemPlace.mem_row.2 ⟨0, hpos, by simp⟩), fun j u hu => ?_⟩
    have hjl : j < len := by
      have := (List.getElem?_eq_some_iff.1 hu).1
      simp at this
      omega
    have hj : j < zs.length := by omega
    have h1 := hcell j hj
    rw [addr_add] at h1
    rw [h1]
    have e : zs.getD j 0 = zs[j] := by simp [List.getD, List.getElem?_eq_getElem hj]
    rw [List.getElem?_map, List.getElem?_map, List.getElem?_take, if_pos hjl, List.getElem?_eq_getElem hj] at hu
    simp only [Option.map_some] at hu
    rw [← hu, e, bc_of_int _ (hwz _ (List.getElem_mem hj))]
set_option maxRecDepth 20000 in
/-- An argument of slices of bytes: whatever it is, it reads as lists. -/
theorem open_row_bytes {H : Type} {enc : TypeId × Value → H} {W : World} {base : Nat} {t : TypeId} {v : Value} {d : DataW H} {p : List MemPlace} (ht : Tryd.prog.underlying t = some (.slice 35))
    (hval : Value.okWide Tryd.prog W .any base t v) (h : DataW.Trod enc Tryd.prog W 0 (fun _ => true) true t v d p) (hlt : ∀ x ∈ p, x.block < W.heap.size) :
    ∃ (A : Option Addr) (c : Nat) (vs : List Value) (ls : List (List UInt8)), v = .slice A ls.length c ∧ BytesIn W W.heap.size A vs ls ∧ ls.length ≤ maxLen := by
  obtain ⟨a0, len, cap, rfl⟩ := okWide_slice ht hval
  obtain ⟨fuel, hf⟩ := h
  rcases Deep.open_slice1 ht bytes_cells hf with ⟨hcs, hx⟩ | ⟨a, len', cap', m, n, V, D, Pl, hcs, _, hl, hm, hmm, hx, hy⟩
  · simp [Value.cells] at hcs
    obtain ⟨rfl, rfl, rfl⟩ := hcs
    exact ⟨none, 0, [], [], rfl, ⟨Row.empty _ _ _, rfl, fun k h => absurd h (Nat.not_lt_zero _)⟩, Nat.zero_le _⟩
  · simp [Value.cells] at hcs
    obtain ⟨rfl, rfl, rfl⟩ := hcs
    simp only [if_true] at hmm
    subst hmm
    simp only [Prod.mk.injEq] at hx
    obtain ⟨rfl, rfl⟩ := hx
    have each : ∀ i, i < len → ∃ y : Option Addr × Nat × List UInt8, V i = .slice y.1 y.2.2.length y.2.1 ∧ Row W W.heap.size y.1 (y.2.2.map bc) ∧ y.2.2.length ≤ maxLen := by
      intro i hi
      obtain ⟨A, c, n', h1, h2, h3⟩ := read_bytes u8_cells (hy i (by omega)).2 (fun y hy' => hlt y (List.mem_append_right _ (List.mem_flatMap.2 ⟨i, List.mem_range.2 (by omega), hy'⟩)))
      exact ⟨(A, c, n'), h1, h2, h3⟩
    obtain ⟨Y, hY⟩ := Deep.choose_lt each
    have hnl : ((List.range len).map fun i => (Y i).2.2).length = len := by simp
    refine ⟨some a, m, (List.range len).map V, (List.range len).map fun i => (Y i).2.2, by rw [hnl], ⟨fun hne => ?_, by simp, fun k hk => ?_⟩, by rw [hnl]; omega⟩
    · have hpos : 0 < len := by
        rcases len with _ | k
        · simp at hne
        · omega
      obtain ⟨b, off, spot⟩ := a
      have hspot : spot = none := by simpa [Addr.add] using World.cell?_spot (hy 0 (by omega)).1
      subst hspot
      refine ⟨b, off, rfl, hlt (.cell b off) (List.mem_append_left _ (MemPlace.mem_row.2 ⟨0, by omega, by simp⟩)), fun j u hu => ?_⟩
      have hjl : j < len := by
        have := (List.getElem?_eq_some_iff.1 hu).1
        simpa using this
      have h1 := (hy j (by omega)).1
      rw [addr_add] at h1
      rw [h1]
      rw [List.getElem?_map, List.getElem?_range hjl] at hu
      exact hu
    · rw [hnl] at hk
      have hg : ((List.range len).map fun i => (Y i).2.2).getD k [] = (Y k).2.2 := by simp [List.getD, hk]
      rw [hg]
      obtain ⟨h1, h2, h3⟩ := hY k hk
      exact ⟨(Y k).1, (Y k).2.1, by simp [hk, h1], h2, h3⟩

end Go.Proofs.YtgfoekbdmgljbaaDoor

namespace Go.Proofs.YtgfoekbdmgljbaaDoor
open Go.RowKit

def c64 (n : Nat) : Value := .int .u64 (n : Int)
/-- What is behind a Crash: a beginning of the records, k of them at least. -/
structure OpenPre (rs : List (List UInt8)) (k : Nat) (M : Lg) : Prop where
  first : M.first = 0
  drop : M.drop = none
  sure : k ≤ M.sure ∧ M.sure ≤ M.recs.length
  recs : ∃ n, M.recs = rs.take n
theorem OpenPre.again {rs : List (List UInt8)} {k : Nat} {M M' : Lg} (h : OpenPre rs k M) (ha : AgainTo M M') : OpenPre rs k M' ∧ M'.down = false := by
  obtain ⟨gone, n, hg, hn, hs, ep, _, rfl⟩ := ha
  have hg0 : gone = 0 := by
    rcases hg with hg | hg
    · exact hg
    · rw [h.drop] at hg; cases hg
  subst hg0
  obtain ⟨m, hm⟩ := h.recs
  have h1 := h.sure
  refine ⟨⟨by show M.first + 0 = 0; rw [h.first], rfl, ⟨by show k ≤ n; omega, by show n ≤ ((M.recs.drop 0).take n).length; rw [List.drop_zero, List.length_take]; omega⟩, ⟨min n m, ?_⟩⟩, rfl⟩
  show (M.recs.drop 0).take n = rs.take (min n m)
  rw [List.drop_zero, hm, List.take_take]
theorem OpenPre.next {rs : List (List UInt8)} {k : Nat} {M : Lg} (h : OpenPre rs k M) : M.next ≤ rs.length ∧ k ≤ M.next := by
  obtain ⟨n, hn⟩ := h.recs
  have h1 := h.sure
  have h2 := h.first
  unfold Lg.next
  rw [hn, List.length_take] at h1 ⊢
  omega
theorem OpenPre.read {rs : List (List UInt8)} {k : Nat} {M : Lg} (h : OpenPre rs k M) {i : Nat} (hi : i < M.next) : readGE M (i : Int) = 0 ∧ readGB M (i : Int) = rs.getD i [] := by
  have hf := h.first
  have h1 : readGE M (i : Int) = 0 := by
    unfold readGE
    rw [if_neg (by omega), if_neg (by omega)]
  refine ⟨h1, ?_⟩
  obtain ⟨n, hn⟩ := h.recs
  have hl : i < M.recs.length := by unfold Lg.next at hi; omega
  unfold readGB
  rw [if_pos h1, hf]
  have e : ((i : Int) - ((0 : Nat) : Int)).toNat = i := by omega
  rw [e, hn, List.getD_eq_getElem?_getD, List.getD_eq_getElem?_getD, List.getElem?_take]
  rw [hn, List.length_take] at hl
  rw [if_pos (by omega)]
theorem taken_small {rs : List (List UInt8)} (h : ∀ r ∈ rs, r.length ≤ 1400) : takenL rs ≤ 3 * rs.length := by
  induction rs with
  | nil => simp [takenL]
  | cons r rs ih =>
    have h1 := h r List.mem_cons_self
    have h2 := ih fun x hx => h x (List.mem_cons_of_mem _ hx)
    have h3 : partsN r.length ≤ 3 := by unfold partsN; split <;> omega
    rw [takenL_cons, List.length_cons]
    omega
/-- While records are appended. -/
structure AppAt (L : LogSpec) (w0 : World) (lv : Value) (D k : Nat) (rs : List (List UInt8)) (i : Nat) (wr : World) (M : Lg) (F : Nat → Prop) : Prop where
  at_ : L.At wr w0.heap.size lv D M true F
  below : Below w0.heap.size w0 wr
  down : M.down = false
  first : M.first = 0
  drop : M.drop = none
  places : M.places = 38
  recs : M.recs = rs.take i
  sure : k < i → k ≤ M.sure
  small : ∀ r ∈ rs.take i, r.length ≤ 1400
  used : M.used ≤ i
/-- The same, where the k-th is to come: what was ahead of it is sure. -/
def SureFor (k i : Nat) (M : Lg) : Prop := k ≤ i → k ≤ M.sure
def AppRel (L : LogSpec) (w0 : World) (lv : Value) (D k : Nat) (rs : List (List UInt8)) (i : Value) (wr : World) : Prop := ∃ (j : Nat) (M : Lg) (F : Nat → Prop), j ≤ rs.length ∧ i = .int .i64 j ∧ AppAt L w0 lv D k rs j wr M F
def DeadRel (L : LogSpec) (w0 : World) (D k n : Nat) (rs : List (List UInt8)) (i : Value) (wr : World) : Prop := ∃ (j : Nat) (M : Lg) (F : Nat → Prop), j ≤ n ∧ j ≤ 10 ∧ i = .int .i64 j ∧ L.Dead wr w0.heap.size D M true F ∧ OpenPre rs k M ∧ M.used ≤ 12 + j ∧ Below w0.heap.size w0 wr
def ReadRelY (L : LogSpec) (w0 : World) (lv : Value) (D : Nat) (M : Lg) (i : Value) (wr : World) : Prop := ∃ (j : Nat) (F : Nat → Prop), j ≤ M.next ∧ i = .int .i64 j ∧ L.At wr w0.heap.size lv D M true F ∧ Below w0.heap.size w0 wr
theorem AppAt.sync {L : LogSpec} {w0 wr w' : World} {lv : Value} {D k : Nat} {rs : List (List UInt8)} {i : Nat} {M M' : Lg} {F F' : Nat → Prop} {g : Int} (h : AppAt L w0 lv D k rs i wr M F) (hs : SyncTo M true g M') (ha : L.At w' w0.heap.size lv D M' true F') (hm : Moved F wr w' F') :
    g = 0 ∧ AppAt L w0 lv D k rs i w' M' F' ∧ M'.sure = M.recs.length := by
  have ho := L.at_own h.at_
  have hb := h.below.trans (hm.below (fun j hj => (ho.2 j hj).1) ho.1)
  rcases hs with ⟨h1, _⟩ | ⟨_, hg, rfl⟩ | ⟨_, h1, _⟩
  · rw [h.down] at h1; cases h1
  · refine ⟨hg, ⟨ha, hb, h.down, h.first, h.drop, h.places, h.recs, fun hk => ?_, h.small, h.used⟩, rfl⟩
    have h1 := h.sure hk
    have h2 := (L.at_ok h.at_).sure
    show k ≤ M.recs.length
    omega
  · cases h1
theorem AppAt.append {L : LogSpec} {w0 wr w' : World} {lv : Value} {D k : Nat} {rs : List (List UInt8)} {i : Nat} {M M' : Lg} {F F' : Nat → Prop} {z g : Int} (h : AppAt L w0 lv D k rs i wr M F) (hsu : SureFor k i M) (hi : i < rs.length) (h12 : rs.length ≤ 12) (hl : (rs.getD i []).length ≤ 1400)
    (hs : AppendTo M true (rs.getD i []) z g M') (ha : L.At w' w0.heap.size lv D M' true F') (hm : Moved F wr w' F') : g = 0 ∧ AppAt L w0 lv D k rs (i + 1) w' M' F' := by
  have ho := L.at_own h.at_
  have hb := h.below.trans (hm.below (fun j hj => (ho.2 j hj).1) ho.1)
  have ht : M.taken ≤ 3 * i := by
    have h1 := taken_small h.small
    unfold Lg.taken
    rw [h.recs]
    rw [List.length_take] at h1
    omega
  have hp : partsN (rs.getD i []).length ≤ 3 := by unfold partsN; split <;> omega
  have hpl := h.places
  have htk : rs.take (i + 1) = rs.take i ++ [rs.getD i []] := by
    rw [List.take_succ_eq_append_getElem hi, List.getD_eq_getElem?_getD, List.getElem?_eq_getElem hi]
    rfl
  rcases hs with ⟨h1, _⟩ | ⟨_, h1, _⟩ | ⟨_, _, hg, _, rfl⟩ | ⟨_, _, h1, _⟩
  · rw [h.down] at h1; cases h1
  · omega
  · refine ⟨hg, ⟨ha, hb, h.down, h.first, h.drop, h.places, ?_, fun hk => hsu (by omega), ?_, by have := h.used; show M.used + 1 ≤ i + 1; omega⟩⟩
    · show M.recs ++ [rs.getD i []] = rs.take (i + 1)
      rw [h.recs, htk]
    · rw [htk]
      intro r hr
      rcases List.mem_append.1 hr with h1 | h1
      · exact h.small r h1
      · rw [List.mem_singleton.1 h1]; exact hl
  · cases h1

end Go.Proofs.YtgfoekbdmgljbaaDoor

namespace Go.Proofs.YtgfoekbdmgljbaaDoor
open Go.RowKit

variable (L : LogSpec)
set_option maxHeartbeats 4000000 in
set_option maxRecDepth 8000 in
theorem yopens_in (A : Option Addr) (c : Nat) (vs : List Value) (ls : List (List UInt8)) (q : Nat) (B : Option Addr) (nb cb : Nat) (lb : List UInt8) (C : Option Addr) (nc cc : Nat) (ms : List Nat) (w : World) (hv : L.Vars w)
    (hA : BytesIn w w.heap.size A vs ls) (h12 : ¬ 12 < ls.length) (hq : q < 256) (hB : lb.length = nb) (hrB : Row w w.heap.size B (lb.map bc)) (hmB : nb ≤ maxLen) (hC : ms.length = nc) (hrC : Row w w.heap.size C (ms.map c64)) (hmC : nc ≤ maxLen) (hx : ∀ x ∈ ms, x < 18446744073709551616) :
    Calls Tryd.prog 4 #[.slice A ls.length c, .int .u8 (q : Int), .slice B nb cb, .slice C nc cc] w (TrueB w) := by
  have HN := Lib.hid (h_new w w (Below.refl _ _) 40 (by decide) (by decide))
  obtain ⟨i0, hi0, hz0, hz1, hz2⟩ := info_parts u8_info
  have HV := Lib.hid hv
  have HA := Lib.hid hA
  have HX := Lib.hid hx
  have HRB := Lib.hid hrB
  have HRC := Lib.hid hrC
  have HLB := Lib.hid hB
  have HLC := Lib.hid hC
  have HMB := Lib.hid (And.intro hmB hmC)
  obtain ⟨n, hn⟩ : ∃ n, ls.length = n := ⟨_, rfl⟩
  have HLS := Lib.hid hn
  rw [hn] at h12 ⊢
  have hl12 : n ≤ 12 := by omega
  have d12 : decide ((12 : Int) < (n : Int)) = false := by simp; omega
  obtain ⟨k, hk⟩ : ∃ k, q % (n + 1) = k := ⟨_, rfl⟩
  have HK := Lib.hid (show k ≤ n ∧ q % (n + 1) = k from ⟨by rw [← hk]; have := Nat.mod_lt q (show 0 < n + 1 by omega); omega, hk⟩)
  clear hv hA hx hrB hrC hB hC hmB hmC h12 hk hn
  go_enter Tryd.func4, Tryd.ntmps4
  go_wp2_with fail
  refine HN.out.mono ?_
  rintro e w1 ⟨D, rfl, hh1⟩
  have HO := Lib.hid (L.open_new HV.out hh1 (by decide) (by decide))
  clear hh1
  go_wp2_with fail
  refine HO.out.mono ?_
  rintro e w2 ⟨lv, F2, rfl, hat2, hb2⟩
  have HAT2 := Lib.hid hat2
  have HB2 := Lib.hid hb2
  clear hat2 hb2
  go_wp2_with fail
  refine (yanswers_any L _ (L.vars_next HV.out HB2.out)).mono ?_
  rintro e w3 ⟨rfl, hb3⟩
  have HAT3 := Lib.hid (LogSpec.at_below HAT2.out hb3)
  have HB3 := Lib.hid (HB2.out.trans (hb3.mono HB2.out.size))
  clear hb3
  go_upto_if 59 with fail
  go_cut [13] from 60 to 65 (fun v wx => v = .int .i64 (k : Int) ∧ wx = w3)
  case first =>
    by_cases h0 : 0 < n
    · have d0 : decide ((0 : Int) < (n : Int)) = true := by simp; omega
      have d0n : decide (0 < n) = true := by simp; omega
      have d0m : decide (n = 0) = false := by simp; omega
      have d0k : (n == 0) = false := by simp; omega
      have d0p : 0 < n := h0
      have r2 : (q : Int) % ((n : Int) + 1) = (k : Int) := by have h1 := HK.out.2; rw [← h1]; rfl
      have r1 : (q : Int).tmod ((n : Int) + 1) = (k : Int) := by rw [Int.tmod_eq_emod_of_nonneg (by omega)]; exact r2
      have hne : ¬ (n : Int) + 1 = 0 := by omega
      have hnn : ¬ n + 1 = 0 := by omega
      clear h0
      go_wp2
      go_meet
      exact ⟨rfl, rfl⟩
    · have d0 : decide ((0 : Int) < (n : Int)) = false := by simp; omega
      have d0n : decide (0 < n) = false := by simp; omega
      have d0m : decide (n = 0) = true := by simp; omega
      have d0k : (n == 0) = true := by simp; omega
      have hk0 : k = 0 := by have := HK.out.1; omega
      go_wp2
      go_meet
      exact ⟨by rw [hk0]; rfl, rfl⟩
  case rest =>
    obtain ⟨rfl, rfl⟩ := hcut
    have hA0 : AppAt L w lv D k ls 0 wc ⟨0, [], 0, none, 40 - 2, 1, false, 0⟩ F2 := ⟨HAT3.out, HB3.out, rfl, rfl, rfl, rfl, rfl, fun h => absurd h (Nat.not_lt_zero _), fun r hr => (by cases hr), Nat.le_refl _⟩
    have HA0 := Lib.hid hA0
    clear hA0
    go_wp2
    go_loopw [14] (AppRel L w lv D k ls) (fun i _ => n - (intOf i).toNat)
    case atStart => exact ⟨0, _, F2, Nat.zero_le _, rfl, HA0.out⟩
    case round =>
      obtain ⟨i, M, F, hi, rfl, hap⟩ := hrel
      have HAP := Lib.hid hap
      have HI := Lib.hid hi
      rw [HLS.out] at hi
      by_cases hin : i < n
      · have d1 : decide ((i : Int) < (n : Int)) = true := by simp; omega
        obtain ⟨b, off, Ak, ck, rfl, hbH, hcel0, hro0, hle0⟩ := HA.out.at_ (k := i) (by rw [HLS.out]; exact hin)
        obtain ⟨r, hr⟩ : ∃ r, ls.getD i [] = r := ⟨_, rfl⟩
        rw [hr] at hcel0 hro0 hle0
        have hcel : wr.cell? ⟨b, off + i, none⟩ = some (.slice Ak r.length ck) := (hap.below.cell (p := ⟨b, off + i, none⟩) hbH).trans hcel0
        have hini : (i : Int) < (n : Int) := by omega
        have HRR := Lib.hid hr
        have HRO := Lib.hid hro0
        have HBH := Lib.hid hbH
        have HCE := Lib.hid hcel0
        clear hap hcel0 hro0 hr
        by_cases hlong : 1400 < r.length
        · have d2 : decide ((1400 : Int) < (r.length : Int)) = true := by simp; omega
          have d2n : decide (1400 < r.length) = true := by simp; omega
          go_wp2
          go_ret
          exact ⟨rfl, HAP.out.below⟩
        · have d2 : decide ((1400 : Int) < (r.length : Int)) = false := by simp; omega
          have d2n : decide (1400 < r.length) = false := by simp; omega
          go_upto_region 13 with fail
          go_cut [85] from 78 to 85 (fun v wx => v = .bool false ∧ ∃ M F, AppAt L w lv D k ls i wx M F ∧ SureFor k i M)
          case first =>
            by_cases hik : i = k
            · have e1 : ((i : Int) == (k : Int)) = true := by simp; omega
              have e2 : (i == k) = true := by simp; omega
              have e3 : decide (i = k) = true := by simp; omega
              have HIK := Lib.hid hik
              have HSY := Lib.hid (L.sync HAP.out.at_)
              clear hik
              go_wp2_with fail
              refine HSY.out.mono ?_
              rintro e w5 ⟨g5, M5, F5, rfl, hs5, hat5, hm5⟩
              obtain ⟨rfl, ha5, hsu5⟩ := HAP.out.sync hs5 hat5 hm5
              have HA5 := Lib.hid ha5
              have HSF := Lib.hid (show SureFor k i M5 from fun _ => by
                rw [hsu5, HAP.out.recs, List.length_take]
                have h1 := HIK.out
                have h2 := HI.out
                omega)
              clear hs5 hat5 hm5 ha5 hsu5
              go_wp2
              go_meet
              exact ⟨rfl, M5, F5, HA5.out, HSF.out⟩
            · have e1 : ((i : Int) == (k : Int)) = false := by simp; omega
              have e2 : (i == k) = false := by simp; omega
              have e3 : decide (i = k) = false := by simp; omega
              have HSF := Lib.hid (show SureFor k i M from fun h => HAP.out.sure (by omega))
              go_wp2
              go_meet
              exact ⟨rfl, M, F, HAP.out, HSF.out⟩
          case rest =>
            obtain ⟨rfl, M6, F6, ha6, hsf6⟩ := hcut
            have HA6 := Lib.hid ha6
            have HS6 := Lib.hid hsf6
            have hcel : wc.cell? ⟨b, off + i, none⟩ = some (.slice Ak r.length ck) := (ha6.below.cell (p := ⟨b, off + i, none⟩) HBH.out).trans HCE.out
            have hcela : (wc.alloc (.cells #[] 5)).cell? ⟨b, off + i, none⟩ = some (.slice Ak r.length ck) := (World.cell?_alloc_lt wc _ ⟨b, off + i, none⟩ (block_lt_of_cell hcel)).trans hcel
            have hzw := ha6.below.size
            have hr14 : r.length ≤ 1400 := by omega
            clear ha6 hsf6 d2 d2n hlong
            go_wp2_with (
              at_builtin
              refine wpList_append_row rfl (.tmp 88) (.tmp 92) _ rfl wc.heap.size 5 i0 _ 1 1 Tryd.underlying35 hi0 hz0 hz1 hz2 rfl (by omega) (.slice (some ⟨wc.heap.size, 0, none⟩) 0 0) 0 [] rfl
                (own_lit _ _ _) Ak r.length ck w.heap.size (r.map bc) rfl (by rw [List.length_map]; omega) ((HRO.out.below HA6.out.below).alloc hzw (.cells #[] 5)) (bc_one r) (by unfold maxLen; omega) (by omega) (by simp) ?_
              intro v3 w3 hown3 hg3
              simp only [Nat.zero_add, List.nil_append] at hown3
              obtain ⟨A3, c3, rfl, hc31, _⟩ := own_form hown3
              have HO3 := Lib.hid hown3
              have HC3 := Lib.hid hc31
              have hB3 := (own_below ((Below.refl wc.heap.size wc).alloc (Nat.le_refl _) _) (Nat.le_refl _) (by simp) (own_lit wc 5 1) hg3)
              have HA3 := Lib.hid (show AppAt L w lv D k ls i w3 M6 F6 from ⟨LogSpec.at_below HA6.out.at_ hB3, HA6.out.below.trans (hB3.mono hzw), HA6.out.down, HA6.out.first, HA6.out.drop, HA6.out.places, HA6.out.recs, HA6.out.sure, HA6.out.small, HA6.out.used⟩)
              clear hown3 hg3 hB3 hc31)
            refine (L.append HA3.out.at_ (by have h1 := HA3.out.used; omega) A3 c3 r.length r rfl (Row.of_own HO3.out) HC3.out (by omega)).mono ?_
            rintro e w4 ⟨z4, g4, M4, F4, rfl, hs4, hat4, hm4⟩
            have hs4' : AppendTo M6 true (ls.getD i []) z4 g4 M4 := by rw [HRR.out]; exact hs4
            obtain ⟨rfl, ha4⟩ := HA3.out.append HS6.out (by rw [HLS.out]; exact hin) (by rw [HLS.out]; exact hl12) (by rw [HRR.out]; exact hr14) hs4' hat4 hm4
            have HA4 := Lib.hid ha4
            clear hs4 hs4' hat4 hm4 ha4 hcel hcela
            go_wp2
            exact ⟨⟨i + 1, M4, F4, by rw [HLS.out]; omega, by go_num, HA4.out⟩, by simp only [intOf]; omega⟩
      · obtain rfl : i = n := by omega
        have d1 : decide ((i : Int) < (i : Int)) = false := by simp
        clear hap
        go_upto_region 18 with fail
        go_cut [107] from 99 to 107 (fun v wx => v = .bool false ∧ ∃ M F, AppAt L w lv D k ls i wx M F ∧ k ≤ M.sure)
        case first =>
          by_cases hik : k = i
          · have e1 : ((k : Int) == (i : Int)) = true := by simp; omega
            have e2 : (k == i) = true := by simp; omega
            have e3 : decide (k = i) = true := by simp; omega
            have HIK := Lib.hid hik
            have HSY := Lib.hid (L.sync HAP.out.at_)
            clear hik
            go_wp2_with fail
            refine HSY.out.mono ?_
            rintro e w5 ⟨g5, M5, F5, rfl, hs5, hat5, hm5⟩
            obtain ⟨rfl, ha5, hsu5⟩ := HAP.out.sync hs5 hat5 hm5
            have HA5 := Lib.hid ha5
            have HSF := Lib.hid (show k ≤ M5.sure from by
              rw [hsu5, HAP.out.recs, List.length_take]
              have h1 := HIK.out
              have h2 := HI.out
              omega)
            clear hs5 hat5 hm5 ha5 hsu5
            go_wp2
            go_meet
            exact ⟨rfl, M5, F5, HA5.out, HSF.out⟩
          · have e1 : ((k : Int) == (i : Int)) = false := by simp; omega
            have e2 : (k == i) = false := by simp; omega
            have e3 : decide (k = i) = false := by simp; omega
            have HSF := Lib.hid (show k ≤ M.sure from HAP.out.sure (by have := HK.out.1; omega))
            go_wp2
            go_meet
            exact ⟨rfl, M, F, HAP.out, HSF.out⟩
        case rest =>
          obtain ⟨rfl, M6, F6, ha6, hsf6⟩ := hcut
          have HP6 := Lib.hid (show OpenPre ls k M6 from ⟨ha6.first, ha6.drop, ⟨hsf6, (L.at_ok ha6.at_).sure⟩, i, ha6.recs⟩)
          have HU6 := Lib.hid (show M6.used ≤ 12 from by have h1 := ha6.used; omega)
          have HA6 := Lib.hid ha6
          clear ha6 hsf6 HAP HI
          go_upto_if 110 with fail
          go_cut [] from 110 to 117 (fun wx => ∃ F, L.Dead wx w.heap.size D M6 true F ∧ Below w.heap.size w wx)
          case first =>
            by_cases hnc : 0 < nc
            · have e1 : decide ((0 : Int) < (nc : Int)) = true := by simp; omega
              have e2 : decide (0 < nc) = true := by simp; omega
              have hnl : 0 < ms.length := by rw [HLC.out]; exact hnc
              obtain ⟨b1, o1, rfl, hb1, hc1⟩ := HRC.out.some_ (by rw [List.length_map]; exact hnl)
              obtain ⟨x, hx⟩ : ∃ x, ms[0]'hnl = x := ⟨_, rfl⟩
              have hx64 : x < 18446744073709551616 := by rw [← hx]; exact HX.out _ (List.getElem_mem hnl)
              have hcx : wc.cell? ⟨b1, o1, none⟩ = some (.int .u64 (x : Int)) := by
                have h1 := hc1 0 (c64 x) (by rw [List.getElem?_map, List.getElem?_eq_getElem hnl, hx]; rfl)
                rw [Nat.add_zero] at h1
                exact (HA6.out.below.cell (p := ⟨b1, o1, none⟩) hb1).trans h1
              have HCR := Lib.hid (L.crash HA6.out.at_ x 0 hx64 (by decide))
              have hni : (0 : Int) < (nc : Int) := by omega
              clear hnl hb1 hc1 hx hx64
              go_wp2_with fail
              refine HCR.out.mono ?_
              rintro e w5 ⟨F5, rfl, hd5, hm5⟩
              have ho := L.at_own HA6.out.at_
              have HB5 := Lib.hid (HA6.out.below.trans (hm5.below (fun j hj => (ho.2 j hj).1) ho.1))
              have HD5 := Lib.hid hd5
              clear hd5 hm5 ho
              go_wp2
              go_meet
              exact ⟨F5, HD5.out, HB5.out⟩
            · have e1 : decide ((0 : Int) < (nc : Int)) = false := by simp; omega
              have e2 : decide (0 < nc) = false := by simp; omega
              have HCR := Lib.hid (L.crash HA6.out.at_ 0 0 (by decide) (by decide))
              go_wp2_with fail
              refine HCR.out.mono ?_
              rintro e w5 ⟨F5, rfl, hd5, hm5⟩
              have ho := L.at_own HA6.out.at_
              have HB5 := Lib.hid (HA6.out.below.trans (hm5.below (fun j hj => (ho.2 j hj).1) ho.1))
              have HD5 := Lib.hid hd5
              clear hd5 hm5 ho
              go_wp2
              go_meet
              exact ⟨F5, HD5.out, HB5.out⟩
          case rest =>
            obtain ⟨F7, hd7, hb7⟩ := hcut
            have HD7 := Lib.hid hd7
            have HB7 := Lib.hid hb7
            clear hd7 hb7
            go_wp2
            go_loopw [17] (DeadRel L w D k nb ls) (fun i _ => nb - (intOf i).toNat)
            case atStart => exact ⟨0, M6, F7, Nat.zero_le _, Nat.zero_le _, rfl, HD7.out, HP6.out, HU6.out, HB7.out⟩
            case round =>
              obtain ⟨j, M8, F8, hj, hj10', rfl, hd8, hp8, hu8, hb8⟩ := hrel
              have HU8 := Lib.hid (And.intro hu8 hj10')
              clear hu8 hj10'
              have HD8 := Lib.hid hd8
              have HP8 := Lib.hid hp8
              have HB8 := Lib.hid hb8
              clear hd8 hp8 hb8
              by_cases hjn : j < nb ∧ j < 10
              · obtain ⟨hjn, hj10⟩ := hjn
                have e1 : decide ((j : Int) < (nb : Int)) = true := by simp; omega
                have e2 : decide ((j : Int) < 10) = true := by simp; omega
                have e1n : decide (j < nb) = true := by simp; omega
                have e2n : decide (j < 10) = true := by simp; omega
                have hnl : j < lb.length := by rw [HLB.out]; exact hjn
                obtain ⟨b2, o2, rfl, hb2, hc2⟩ := HRB.out.some_ (by rw [List.length_map]; omega)
                obtain ⟨x, hx⟩ : ∃ x, (lb[j]'hnl).toNat = x := ⟨_, rfl⟩
                have hx8 : x < 256 := by rw [← hx]; exact UInt8.toNat_lt _
                have hcx : wr.cell? ⟨b2, o2 + j, none⟩ = some (.int .u8 (x : Int)) := by
                  rw [HB8.out.cell (p := ⟨b2, o2 + j, none⟩) hb2, hc2 j (bc lb[j]) (by rw [List.getElem?_map, List.getElem?_eq_getElem hnl]; rfl), ← hx]
                  rfl
                have hjb : (j : Int) < (nb : Int) := by omega
                have hli := L.limit_dead HD8.out (x % 6) (by omega)
                rw [show ((x % 6 : Nat) : Int) = (x : Int) % 6 from rfl] at hli
                have HLI := Lib.hid hli
                have HJ := Lib.hid (And.intro hjn hj10)
                clear hnl hb2 hc2 hx hli hjn hj10 hj
                go_wp2_with fail
                refine HLI.out.mono ?_
                rintro e w9 ⟨F9, rfl, hd9, hm9⟩
                have ho := L.dead_own HD8.out
                have HB9 := Lib.hid (HB8.out.trans (hm9.below (fun j hj => (ho.2 j hj).1) ho.1))
                have HOD := Lib.hid (L.open_dead hd9 (by have h1 := HU8.out; omega))
                have HO9 := Lib.hid (L.dead_own hd9)
                clear hd9 hm9 ho hcx e1 e2 e1n e2n
                go_wp2_with fail
                refine HOD.out.mono ?_
                rintro e w10 ⟨lv10, g10, F10, rfl, hm10, hcase⟩
                have HB10 := Lib.hid (HB9.out.trans (hm10.below (fun j hj => (HO9.out.2 j hj).1) HO9.out.1))
                have hcr : (g10 = 0 ∨ g10 = 8) ∧ ∀ m t : Nat, m < 18446744073709551616 → t < 18446744073709551616 → Calls Tryd.prog 15 #[.pointer (some ⟨D, 0, none⟩), .int .u64 (m : Int), .int .u64 (t : Int)] w10
                    (fun e w' => ∃ M' F', e = .returned (.int .i64 0) ∧ L.Dead w' w.heap.size D M' true F' ∧ OpenPre ls k M' ∧ M'.used ≤ M8.used + 1 ∧ Below w.heap.size w w') := by
                  rcases hcase with ⟨hg, M', hag, hat⟩ | ⟨_, hg, hbr⟩
                  · refine ⟨.inl hg, fun m t h1 h2 => (L.crash hat m t h1 h2).mono ?_⟩
                    rintro e w' ⟨F', he, hd, hm⟩
                    have ho := L.at_own hat
                    exact ⟨M', F', he, hd, (HP8.out.again hag).1, (by obtain ⟨_, _, _, _, _, _, _, rfl⟩ := hag; exact Nat.le_refl _), HB10.out.trans (hm.below (fun j hj => (ho.2 j hj).1) ho.1)⟩
                  · refine ⟨.inr hg, fun m t h1 h2 => (L.crash_broken hbr m t h1 h2).mono ?_⟩
                    rintro e w' ⟨F', he, hd, hm⟩
                    have ho := L.broken_own hbr
                    exact ⟨{ M8 with used := M8.used + 1 }, F', he, hd, ⟨HP8.out.first, HP8.out.drop, HP8.out.sure, HP8.out.recs⟩, Nat.le_refl _, HB10.out.trans (hm.below (fun j hj => (ho.2 j hj).1) ho.1)⟩
                obtain ⟨hg10, hcr⟩ := hcr
                have HCR := Lib.hid hcr
                have HG10 := Lib.hid hg10
                clear hm10 hcase hcr hg10
                go_upto_region 28 with fail
                go_cut [146] from 141 to 146 (fun v wx => v = .bool false ∧ wx = w10)
                case first =>
                  rcases HG10.out with h8 | h8
                  · have f1 : (g10 != 0) = false := by rw [h8]; rfl
                    clear h8
                    go_wp2
                    go_meet
                    exact ⟨rfl, rfl⟩
                  · have f1 : (g10 != 0) = true := by rw [h8]; rfl
                    have f2 : (g10 != 8) = false := by rw [h8]; rfl
                    clear h8
                    go_wp2
                    go_meet
                    exact ⟨rfl, rfl⟩
                case rest =>
                  obtain ⟨rfl, rfl⟩ := hcut
                  have hjb10 := HJ.out.2
                  go_upto_if 151 with fail
                  go_cut [20] from 147 to 156 (fun v wy => ∃ tn : Nat, v = .int .u64 (tn : Int) ∧ tn < 18446744073709551616 ∧ wy = wc)
                  case first =>
                    by_cases hjc : j + 1 < nc
                    · have f1 : decide ((j : Int) + 1 < (nc : Int)) = true := by simp; omega
                      have f2 : decide (j + 1 < nc) = true := by simp; omega
                      have hnl : j + 1 < ms.length := by rw [HLC.out]; exact hjc
                      obtain ⟨b1, o1, rfl, hb1, hc1⟩ := HRC.out.some_ (by rw [List.length_map]; omega)
                      obtain ⟨y, hy⟩ : ∃ y, ms[j + 1]'hnl = y := ⟨_, rfl⟩
                      have hy64 : y < 18446744073709551616 := by rw [← hy]; exact HX.out _ (List.getElem_mem hnl)
                      have hcy : wc.cell? ⟨b1, o1 + (j + 1), none⟩ = some (.int .u64 (y : Int)) :=
                        (HB10.out.cell (p := ⟨b1, o1 + (j + 1), none⟩) hb1).trans (hc1 (j + 1) (c64 y) (by rw [List.getElem?_map, List.getElem?_eq_getElem hnl, hy]; rfl))
                      have hji : (j : Int) + 1 < (nc : Int) := by omega
                      have HY := Lib.hid hy64
                      clear hnl hb1 hc1 hy hy64
                      go_wp2
                      go_meet
                      exact ⟨y, rfl, HY.out, rfl⟩
                    · have f1 : decide ((j : Int) + 1 < (nc : Int)) = false := by simp; omega
                      have f2 : decide (j + 1 < nc) = false := by simp; omega
                      go_wp2
                      go_meet
                      exact ⟨0, rfl, by decide, rfl⟩
                  case rest =>
                    obtain ⟨tn, rfl, htn, rfl⟩ := hcut
                    have hcc := HCR.out (tn / 128) tn (by omega) htn
                    rw [show ((tn / 128 : Nat) : Int) = (tn : Int) / 128 from rfl] at hcc
                    have HCC := Lib.hid hcc
                    clear hcc
                    go_wp2_with fail
                    refine HCC.out.mono ?_
                    rintro e w11 ⟨M11, F11, rfl, hd11, hp11, hu11, hb11⟩
                    have HU11 := Lib.hid hu11
                    clear hu11
                    have HE := Lib.hid (And.intro hd11 (And.intro hp11 hb11))
                    have hj10 := HJ.out
                    clear hd11 hp11 hb11
                    go_wp2
                    exact ⟨⟨j + 1, M11, F11, by omega, by omega, by go_num, HE.out.1, HE.out.2.1, (by have h1 := HU11.out; have h2 := HU8.out; omega), HE.out.2.2⟩, by simp only [intOf]; omega⟩
              · have HOD := Lib.hid (L.open_dead HD8.out (by have h1 := HU8.out; omega))
                have HO8 := Lib.hid (L.dead_own HD8.out)
                go_upto_region 24 with fail
                go_cut [125] from 118 to 125 (fun v wx => v = .bool false ∧ wx = wr)
                case first =>
                  by_cases hjn2 : j < nb
                  · have e1 : decide ((j : Int) < (nb : Int)) = true := by simp; omega
                    have e1n : decide (j < nb) = true := by simp; omega
                    have e2 : decide ((j : Int) < 10) = false := by simp; omega
                    have e2n : decide (j < 10) = false := by simp; omega
                    clear hjn hjn2 hj
                    go_wp2
                    go_meet
                    exact ⟨rfl, rfl⟩
                  · have e1 : decide ((j : Int) < (nb : Int)) = false := by simp; omega
                    have e1n : decide (j < nb) = false := by simp; omega
                    clear hjn hjn2 hj
                    go_wp2
                    go_meet
                    exact ⟨rfl, rfl⟩
                case rest =>
                  obtain ⟨rfl, rfl⟩ := hcut
                  go_wp2_with fail
                  refine HOD.out.mono ?_
                  rintro e w9 ⟨lv9, g9, F9, rfl, hm9, hcase⟩
                  have hcase2 : g9 = 0 ∧ ∃ M', AgainTo M8 M' ∧ L.At w9 w.heap.size lv9 D M' true F9 := by
                    rcases hcase with h | ⟨h, _⟩
                    · exact h
                    · cases h
                  obtain ⟨rfl, M9, hag, hat9⟩ := hcase2
                  obtain ⟨hp9, hdn9⟩ := HP8.out.again hag
                  have HB9 := Lib.hid (HB8.out.trans (hm9.below (fun j hj => (HO8.out.2 j hj).1) HO8.out.1))
                  have HAT9 := Lib.hid hat9
                  have HP9 := Lib.hid hp9
                  have HDN9 := Lib.hid hdn9
                  have hfi := L.first hat9
                  rw [hp9.first] at hfi
                  have HFI := Lib.hid hfi
                  clear hm9 hcase hag hat9 hp9 hdn9 hfi
                  go_wp2_with fail
                  refine HFI.out.mono ?_
                  rintro e w10 ⟨rfl, hb10⟩
                  have HAT10 := Lib.hid (LogSpec.at_below HAT9.out hb10)
                  have HB10 := Lib.hid (HB9.out.trans (hb10.mono HB9.out.size))
                  clear hb10
                  obtain ⟨nx, hnx⟩ : ∃ nx, M9.next = nx := ⟨_, rfl⟩
                  have HNX := Lib.hid hnx
                  have hnb := HP9.out.next
                  rw [hnx, HLS.out] at hnb
                  have hn10 := L.next HAT10.out
                  rw [hnx] at hn10
                  have HN10 := Lib.hid hn10
                  have f1 : decide ((nx : Int) < (k : Int)) = false := by simp; omega
                  have f1n : decide (nx < k) = false := by simp; omega
                  have f2 : decide ((i : Int) < (nx : Int)) = false := by simp; omega
                  have f2n : decide (i < nx) = false := by simp; omega
                  have HNB := Lib.hid hnb
                  clear hnx hn10 hnb
                  go_wp2_with fail
                  refine HN10.out.mono ?_
                  rintro e w11 ⟨rfl, hb11⟩
                  have HAT11 := Lib.hid (LogSpec.at_below HAT10.out hb11)
                  have HB11 := Lib.hid (HB10.out.trans (hb11.mono HB10.out.size))
                  have hn11 := L.next HAT11.out
                  rw [HNX.out] at hn11
                  have HN11 := Lib.hid hn11
                  clear hb11 hn11
                  go_wp2_with fail
                  refine HN11.out.mono ?_
                  rintro e w12 ⟨rfl, hb12⟩
                  have HAT12 := Lib.hid (LogSpec.at_below HAT11.out hb12)
                  have HB12 := Lib.hid (HB11.out.trans (hb12.mono HB11.out.size))
                  clear hb12
                  go_wp2
                  have hnx12 : nx ≤ 12 := by have := HNB.out.1; omega
                  clear f1 f1n f2 f2n
                  go_loopw [21] (ReadRelY L w lv9 D M9) (fun i _ => 12 - (intOf i).toNat)
                  case atStart => exact ⟨0, F9, Nat.zero_le _, rfl, HAT12.out, HB12.out⟩
                  case round =>
                    obtain ⟨t, F13, ht, rfl, hat13, hb13⟩ := hrel
                    rw [HNX.out] at ht
                    have hn13 := L.next hat13
                    rw [HNX.out] at hn13
                    have HN13 := Lib.hid hn13
                    have HAT13 := Lib.hid hat13
                    have HB13 := Lib.hid hb13
                    clear hn13 hat13 hb13
                    go_wp2_with fail
                    refine HN13.out.mono ?_
                    rintro e w14 ⟨rfl, hb14⟩
                    have HAT14 := Lib.hid (LogSpec.at_below HAT13.out hb14)
                    have HB14 := Lib.hid (HB13.out.trans (hb14.mono HB13.out.size))
                    clear hb14
                    by_cases htn : t < nx
                    · have e1 : decide ((t : Int) < (nx : Int)) = true := by simp; omega
                      have e1n : decide (t < nx) = true := by simp; omega
                      have hti : t < i := by have := HNB.out.1; omega
                      obtain ⟨b, off, Ak, ck, rfl, hbH, hcel0, hro0, hle0⟩ := HA.out.at_ (k := t) (by rw [HLS.out]; exact hti)
                      obtain ⟨r, hr⟩ : ∃ r, ls.getD t [] = r := ⟨_, rfl⟩
                      rw [hr] at hcel0 hro0 hle0
                      have hrd := L.read HAT14.out HDN9.out (t : Int) (by omega) (by omega)
                      have hpr := HP9.out.read (i := t) (by rw [HNX.out]; exact htn)
                      rw [hpr.1, hpr.2, hr] at hrd
                      have HRD := Lib.hid hrd
                      have HRO := Lib.hid hro0
                      have HLE := Lib.hid hle0
                      have HBH := Lib.hid hbH
                      have HCE := Lib.hid hcel0
                      have htii : (t : Int) < (i : Int) := by omega
                      have HO14 := Lib.hid (L.at_own HAT14.out)
                      clear hcel0 hro0 hr hrd hpr hle0 hbH
                      go_wp2_with fail
                      refine HRD.out.mono ?_
                      rintro e w15 ⟨A15, c15, F15, rfl, hown15, hat15, hm15⟩
                      have HB15 := Lib.hid (HB14.out.trans (hm15.below (fun j hj => (HO14.out.2 j hj).1) HO14.out.1))
                      have HAT15 := Lib.hid hat15
                      have hcel : w15.cell? ⟨b, off + t, none⟩ = some (.slice Ak r.length ck) := (HB15.out.cell (p := ⟨b, off + t, none⟩) HBH.out).trans HCE.out
                      have hsm := same_any A15 Ak r.length r.length c15 ck w15.heap.size r r w15 rfl rfl (Row.of_own hown15) ((HRO.out.below HB15.out).mono HB15.out.size) HLE.out
                      rw [decide_eq_true rfl] at hsm
                      have HSM := Lib.hid hsm
                      clear hown15 hat15 hm15 hsm
                      go_wp2_with fail
                      refine HSM.out.mono ?_
                      rintro e w16 ⟨rfl, k16, rfl⟩
                      have HAT16 := Lib.hid (LogSpec.at_below HAT15.out (below_drewN' (Below.refl _ _) k16))
                      have HB16 := Lib.hid (HB15.out.trans ((below_drewN' (Below.refl _ _) k16).mono HB15.out.size))
                      go_wp2
                      exact ⟨⟨t + 1, F15, by rw [HNX.out]; omega, by go_num, HAT16.out, HB16.out⟩, by simp only [intOf]; omega⟩
                    · have e1 : decide ((t : Int) < (nx : Int)) = false := by simp; omega
                      have e1n : decide (t < nx) = false := by simp; omega
                      clear htn
                      go_wp2
                      go_ret
                      exact ⟨rfl, HB14.out⟩

set_option maxHeartbeats 1000000 in
set_option maxRecDepth 4000 in
theorem yopens_out (A : Option Addr) (c n q : Nat) (B : Option Addr) (nb cb : Nat) (C : Option Addr) (nc cc : Nat) (w : World) (hv : L.Vars w) (h12 : 12 < n) :
    Calls Tryd.prog 4 #[.slice A n c, .int .u8 (q : Int), .slice B nb cb, .slice C nc cc] w (TrueB w) := by
  have HN := Lib.hid (h_new w w (Below.refl _ _) 40 (by decide) (by decide))
  have HV := Lib.hid hv
  have d12 : decide ((12 : Int) < (n : Int)) = true := by simp; omega
  clear hv h12
  go_enter Tryd.func4, Tryd.ntmps4
  go_wp2_with fail
  refine HN.out.mono ?_
  rintro e w1 ⟨D, rfl, hh1⟩
  have HO := Lib.hid (L.open_new HV.out hh1 (by decide) (by decide))
  clear hh1
  go_wp2_with fail
  refine HO.out.mono ?_
  rintro e w2 ⟨lv, F2, rfl, _, hb2⟩
  have HB2 := Lib.hid hb2
  clear hb2
  go_wp2_with fail
  refine (yanswers_any L _ (L.vars_next HV.out HB2.out)).mono ?_
  rintro e w3 ⟨rfl, hb3⟩
  have HB3 := Lib.hid (HB2.out.trans (hb3.mono HB2.out.size))
  clear hb3
  go_wp2_with fail
  refine (yanswers_any L _ (L.vars_next HV.out HB3.out)).mono ?_
  rintro e w4 ⟨rfl, hb4⟩
  have HB4 := Lib.hid (HB3.out.trans (hb4.mono HB3.out.size))
  clear hb4
  go_wp2
  go_ret
  exact ⟨rfl, HB4.out⟩

theorem yopens_any (A : Option Addr) (c : Nat) (vs : List Value) (ls : List (List UInt8)) (q : Nat) (B : Option Addr) (nb cb : Nat) (lb : List UInt8) (C : Option Addr) (nc cc : Nat) (ms : List Nat) (w : World) (hv : L.Vars w)
    (hA : BytesIn w w.heap.size A vs ls) (hq : q < 256) (hB : lb.length = nb) (hrB : Row w w.heap.size B (lb.map bc)) (hmB : nb ≤ maxLen) (hC : ms.length = nc) (hrC : Row w w.heap.size C (ms.map c64)) (hmC : nc ≤ maxLen) (hx : ∀ x ∈ ms, x < 18446744073709551616) :
    Calls Tryd.prog 4 #[.slice A ls.length c, .int .u8 (q : Int), .slice B nb cb, .slice C nc cc] w (TrueB w) := by
  by_cases h12 : 12 < ls.length
  · exact yopens_out L A c ls.length q B nb cb C nc cc w hv h12
  · exact yopens_in L A c vs ls q B nb cb lb C nc cc ms w hv hA h12 hq hB hrB hmB hC hrC hmC hx

end Go.Proofs.YtgfoekbdmgljbaaDoor

namespace Go.Proofs.YtgfoekbdmgljbaaDoor
open Go.RowKit

def ownA (A : Option Addr) (g : Nat) : Prop := ∃ off, A = some ⟨g, off, none⟩
/-- The model's list: slices of the argument's bytes, in a row of the statement's own. -/
structure ListAt (w0 w : World) (A : Option Addr) (c : Nat) (rs : List (List UInt8)) : Prop where
  vals : ∃ vs : List Value, vs.length = rs.length ∧ (∀ k, k < rs.length → ∃ Ak ck, vs[k]? = some (.slice Ak (rs.getD k []).length ck) ∧ Row w0 w0.heap.size Ak ((rs.getD k []).map bc)) ∧
    ((A = none ∧ c = 0 ∧ rs = []) ∨ ∃ g off cur, A = some ⟨g, off, none⟩ ∧ w0.heap.size ≤ g ∧ w.heap[g]? = some (.cells cur 35 (0, 0)) ∧ off + c ≤ cur.size ∧ ∀ j u, vs[j]? = some u → cur[off + j]? = some u)
  small : ∀ r ∈ rs, r.length ≤ 16384
  cap : rs.length ≤ c ∧ c ≤ maxLen
section
variable {w0 w w' : World} {A : Option Addr} {c : Nat} {rs : List (List UInt8)}
theorem ListAt.nil (w0 w : World) : ListAt w0 w none 0 [] := ⟨⟨[], rfl, fun k h => absurd h (Nat.not_lt_zero _), .inl ⟨rfl, rfl, rfl⟩⟩, fun r h => by (cases h), ⟨Nat.le_refl _, Nat.zero_le _⟩⟩
theorem ListAt.keep (h : ListAt w0 w A c rs) (hk : ∀ g, ownA A g → w'.heap[g]? = w.heap[g]?) : ListAt w0 w' A c rs := by
  obtain ⟨⟨vs, h1, h2, h3⟩, hs, hc⟩ := h
  refine ⟨⟨vs, h1, h2, ?_⟩, hs, hc⟩
  rcases h3 with h3 | ⟨g, off, cur, rfl, hg, hh, h4, h5⟩
  · exact .inl h3
  · exact .inr ⟨g, off, cur, rfl, hg, (hk g ⟨off, rfl⟩).trans hh, h4, h5⟩
theorem ListAt.lt (h : ListAt w0 w A c rs) {g : Nat} (hg : ownA A g) : w0.heap.size ≤ g ∧ g < w.heap.size := by
  obtain ⟨⟨vs, h1, h2, h3⟩, hs, hc⟩ := h
  obtain ⟨o, rfl⟩ := hg
  rcases h3 with ⟨h3, _⟩ | ⟨g', off, cur, e, hg, hh, h4, h5⟩
  · cases h3
  · injection e with e
    injection e with e
    subst e
    refine ⟨hg, ?_⟩
    rcases Nat.lt_or_ge g w.heap.size with h0 | h0
    · exact h0
    · rw [Array.getElem?_eq_none h0] at hh; cases hh
theorem ListAt.below (h : ListAt w0 w A c rs) (hb : Below w.heap.size w w') : ListAt w0 w' A c rs := h.keep fun g hg => hb.block g (h.lt hg).2
/-- A block of other cells is not the list's. -/
theorem ListAt.not (h : ListAt w0 w A c rs) {g : Nat} {t : TypeId} {X : List Value} (hw : Whole w g t X) (ht : t ≠ 35) : ¬ ownA A g := by
  rintro ⟨o, rfl⟩
  obtain ⟨⟨vs, h1, h2, h3⟩, hs, hc⟩ := h
  rcases h3 with ⟨h3, _⟩ | ⟨g', off, cur, e, hg, hh, h4, h5⟩
  · cases h3
  · injection e with e
    injection e with e
    subst e
    unfold Whole at hw
    rw [hh] at hw
    injection hw with hw
    injection hw with _ hw _
    exact ht hw.symm
theorem ListAt.get (h : ListAt w0 w A c rs) {k : Nat} (hk : k < rs.length) :
    ∃ g off Ak ck, A = some ⟨g, off, none⟩ ∧ w.cell? ⟨g, off + k, none⟩ = some (.slice Ak (rs.getD k []).length ck) ∧ Row w0 w0.heap.size Ak ((rs.getD k []).map bc) := by
  obtain ⟨⟨vs, h1, h2, h3⟩, hs, hc⟩ := h
  obtain ⟨Ak, ck, hv, hr⟩ := h2 k hk
  rcases h3 with ⟨_, _, h3⟩ | ⟨g, off, cur, rfl, hg, hh, h4, h5⟩
  · rw [h3] at hk; exact absurd hk (Nat.not_lt_zero _)
  · exact ⟨g, off, Ak, ck, rfl, by simp only [World.cell?, hh]; exact h5 k _ hv, hr⟩
theorem getD_mem {k : Nat} (hk : k < rs.length) : rs.getD k [] ∈ rs := by
  rw [List.getD_eq_getElem?_getD, List.getElem?_eq_getElem hk]
  exact List.getElem_mem hk
/-- A part of the list. -/
theorem ListAt.part (h : ListAt w0 w A c rs) {k n : Nat} (hk : k + n ≤ rs.length) {A' : Option Addr} (hA : (k = c ∧ A' = A) ∨ (k ≠ c ∧ A' = A.map fun a => ⟨a.block, a.off + k, a.spot⟩)) : ListAt w0 w A' (c - k) ((rs.drop k).take n) := by
  obtain ⟨⟨vs, h1, h2, h3⟩, hs, hc⟩ := h
  have hl : ((rs.drop k).take n).length = n := by rw [List.length_take, List.length_drop]; omega
  refine ⟨⟨(vs.drop k).take n, by rw [hl, List.length_take, List.length_drop]; omega, fun j hj => ?_, ?_⟩, fun r hr => hs r (List.mem_of_mem_drop (List.mem_of_mem_take hr)), by rw [hl]; omega⟩
  · rw [hl] at hj
    obtain ⟨Ak, ck, hv, hr⟩ := h2 (k + j) (by omega)
    have e : ((rs.drop k).take n).getD j [] = rs.getD (k + j) [] := by
      rw [List.getD_eq_getElem?_getD, List.getD_eq_getElem?_getD, List.getElem?_take, if_pos hj, List.getElem?_drop]
    exact ⟨Ak, ck, by rw [List.getElem?_take, if_pos hj, List.getElem?_drop, e]; exact hv, by rw [e]; exact hr⟩
  · rcases h3 with ⟨rfl, h4, h5⟩ | ⟨g, off, cur, rfl, hg, hh, h4, h5⟩
    · left
      subst h5
      refine ⟨?_, by omega, by simp⟩
      rcases hA with ⟨_, h6⟩ | ⟨_, h6⟩ <;> rw [h6] <;> rfl
    · right
      rcases hA with ⟨h6, rfl⟩ | ⟨h6, rfl⟩
      · refine ⟨g, off, cur, rfl, hg, hh, by omega, fun j u hu => ?_⟩
        rw [List.getElem?_take] at hu
        split at hu
        · omega
        · cases hu
      · refine ⟨g, off + k, cur, rfl, hg, hh, by omega, fun j u hu => ?_⟩
        rw [List.getElem?_take] at hu
        split at hu
        · rw [List.getElem?_drop] at hu
          rw [Nat.add_assoc]
          exact h5 _ _ hu
        · cases hu
end

def dropI : Option Nat → Int
  | none => -1
  | some d => d
def moCells (M : Lg) (A : Option Addr) (c : Nat) : List Value := [.int .i64 M.first, .slice A M.recs.length c, .int .i64 M.sure, .int .i64 (dropI M.drop), .int .i64 M.places, .int .i64 M.epoch, .bool M.down]
/-- The model lies in block g. -/
structure MoAt (w0 w : World) (g : Nat) (M : Lg) (A : Option Addr) (c : Nat) : Prop where
  blk : Whole w g 34 (moCells M A c)
  list : ListAt w0 w A c M.recs
  base : w0.heap.size ≤ g
section
variable {w0 w w' : World} {g : Nat} {M : Lg} {A : Option Addr} {c : Nat}
theorem MoAt.notOwn (h : MoAt w0 w g M A c) : ¬ ownA A g := h.list.not h.blk (by decide)
theorem MoAt.keep (h : MoAt w0 w g M A c) (hk : ∀ j, (j = g ∨ ownA A j) → w'.heap[j]? = w.heap[j]?) : MoAt w0 w' g M A c := ⟨h.blk.keep (hk g (.inl rfl)), h.list.keep fun j hj => hk j (.inr hj), h.base⟩
theorem MoAt.below (h : MoAt w0 w g M A c) (hb : Below w.heap.size w w') : MoAt w0 w' g M A c := ⟨h.blk.below hb h.blk.lt, h.list.below hb, h.base⟩
/-- None of its blocks is the log's. -/
def MoAt.far (_ : MoAt w0 w g M A c) (F : Nat → Prop) : Prop := ¬ F g ∧ ∀ j, ownA A j → ¬ F j
theorem MoAt.moved (h : MoAt w0 w g M A c) {F F' : Nat → Prop} (hf : ¬ F g ∧ ∀ j, ownA A j → ¬ F j) (hm : Moved F w w' F') : MoAt w0 w' g M A c ∧ (¬ F' g ∧ ∀ j, ownA A j → ¬ F' j) := by
  refine ⟨h.keep fun j hj => ?_, hm.not hf.1 h.blk.lt, fun j hj => hm.not (hf.2 j hj) (h.list.lt hj).2⟩
  rcases hj with rfl | hj
  · exact hm.1.block _ h.blk.lt hf.1
  · exact hm.1.block _ (h.list.lt hj).2 (hf.2 j hj)
end

def TakenRel (rs : List (List UInt8)) (n i : Value) : Prop := ∃ k : Nat, k ≤ rs.length ∧ i = .int .i64 k ∧ n = .int .i64 (takenL (rs.take k) : Int)
set_option maxHeartbeats 1000000 in
theorem taken_any {w0 w : World} {g : Nat} {M : Lg} {A : Option Addr} {c : Nat} (h : MoAt w0 w g M A c) (ht : takenL M.recs ≤ 5000) : Calls Tryd.prog 11 #[.pointer (some ⟨g, 0, none⟩)] w (Told w (.int .i64 (M.taken : Int))) := by
  have c1 : w.cell? ⟨g, 1, none⟩ = some (.slice A M.recs.length c) := h.blk.cell 1
  have HL := Lib.hid h.list
  have HT := Lib.hid (show M.taken = takenL M.recs from rfl)
  have HTL := Lib.hid ht
  have hlt := length_le_taken M.recs
  generalize M.recs = rs at *
  obtain ⟨n, hn⟩ : ∃ n, rs.length = n := ⟨_, rfl⟩
  have HN := Lib.hid hn
  rw [hn] at c1
  have hn5 : n ≤ 5000 := by omega
  clear h ht hlt hn
  go_enter Tryd.func11, Tryd.ntmps11
  go_wp2
  go_loop [3, 4] (TakenRel rs) (fun _ i => n - (intOf i).toNat)
  case atStart => exact ⟨0, Nat.zero_le _, rfl, rfl⟩
  case round =>
    obtain ⟨k, hk, rfl, rfl⟩ := hrel
    rw [HN.out] at hk
    by_cases hkn : k < n
    · have d1 : decide ((k : Int) < (n : Int)) = true := by simp; omega
      have d1n : decide (k < n) = true := by simp; omega
      have hki : (k : Int) < (n : Int) := by omega
      obtain ⟨gl, off, Ak, ck, rfl, hcel, _⟩ := HL.out.get (k := k) (by rw [HN.out]; exact hkn)
      have hsm := HL.out.small _ (getD_mem (rs := rs) (k := k) (by rw [HN.out]; exact hkn))
      have hpb := partsN_le hsm
      have htk : takenL (rs.take (k + 1)) = takenL (rs.take k) + partsN (rs.getD k []).length := by
        rw [List.take_succ_eq_append_getElem (by rw [HN.out]; exact hkn), takenL_append, takenL_one, List.getD_eq_getElem?_getD, List.getElem?_eq_getElem (by rw [HN.out]; exact hkn)]
        rfl
      have htt := takenL_take rs k
      have hb5 : takenL (rs.take k) ≤ 5000 := by have := HTL.out; omega
      have HTK := Lib.hid htk
      have HP := Lib.hid (parts_any (rs.getD k []).length (by omega) w)
      obtain ⟨r, hr⟩ : ∃ r, rs.getD k [] = r := ⟨_, rfl⟩
      obtain ⟨tk, htkd⟩ : ∃ tk, takenL (rs.take k) = tk := ⟨_, rfl⟩
      rw [hr] at hcel HP HTK hpb hsm
      rw [htkd] at HTK hb5 ⊢
      clear htk htt hr htkd hsm
      go_wp2_with fail
      refine HP.out.mono ?_
      rintro e w' ⟨rfl, rfl⟩
      obtain ⟨pr, hpr⟩ : ∃ pr, partsN r.length = pr := ⟨_, rfl⟩
      rw [hpr] at HTK hpb ⊢
      clear hpr
      go_wp2
      refine ⟨⟨k + 1, by rw [HN.out]; omega, by go_num, ?_⟩, by simp only [intOf]; omega⟩
      rw [HTK.out]
      go_num
    · obtain rfl : k = n := by omega
      have hfin : takenL (rs.take k) = M.taken := by rw [HT.out, List.take_of_length_le (by rw [HN.out]; exact Nat.le_refl _)]
      rw [hfin]
      have d1 : decide ((k : Int) < (k : Int)) = false := by simp
      clear hfin
      go_wp2
      go_ret
      exact ⟨rfl, rfl⟩

end Go.Proofs.YtgfoekbdmgljbaaDoor

namespace Go.Proofs.YtgfoekbdmgljbaaDoor
open Go.RowKit

/-- A log, and the model of it, beside each other. -/
structure BothAt (L : LogSpec) (w0 w : World) (lv : Value) (D g : Nat) (M : Lg) (fr : Bool) (A : Option Addr) (c : Nat) (F : Nat → Prop) : Prop where
  at_ : L.At w w0.heap.size lv D M fr F
  mo : MoAt w0 w g M A c
  far : ¬ F g ∧ ∀ j, ownA A j → ¬ F j
  below : Below w0.heap.size w0 w
section
variable {L : LogSpec} {w0 w w' : World} {lv : Value} {D g : Nat} {M M' : Lg} {fr fr' : Bool} {A : Option Addr} {c : Nat} {F F' : Nat → Prop}
theorem BothAt.next (h : BothAt L w0 w lv D g M fr A c F) (hb : Below w.heap.size w w') : BothAt L w0 w' lv D g M fr A c F :=
  ⟨LogSpec.at_below h.at_ hb, h.mo.below hb, h.far, h.below.trans (hb.mono h.below.size)⟩
theorem BothAt.moved (h : BothAt L w0 w lv D g M fr A c F) (ha : L.At w' w0.heap.size lv D M fr' F') (hm : Moved F w w' F') : BothAt L w0 w' lv D g M fr' A c F' := by
  obtain ⟨h1, h2⟩ := h.mo.moved h.far hm
  have ho := L.at_own h.at_
  exact ⟨ha, h1, h2, h.below.trans (hm.below (fun j hj => (ho.2 j hj).1) ho.1)⟩
theorem BothAt.cells (h : BothAt L w0 w lv D g M fr A c F) : w.cell? ⟨g, 0, none⟩ = some (.int .i64 M.first) ∧ w.cell? ⟨g, 1, none⟩ = some (.slice A M.recs.length c) ∧ w.cell? ⟨g, 4, none⟩ = some (.int .i64 M.places) ∧ w.cell? ⟨g, 5, none⟩ = some (.int .i64 M.epoch) :=
  ⟨h.mo.blk.cell 0, h.mo.blk.cell 1, h.mo.blk.cell 4, h.mo.blk.cell 5⟩
theorem taken_few (h : M.ok) : takenL M.recs ≤ 5000 := by
  have h1 := h.few
  have h2 := h.places
  unfold Lg.taken at h1
  omega
end
def HoldsRel (L : LogSpec) (w0 : World) (lv : Value) (D g : Nat) (M : Lg) (fr : Bool) (A : Option Addr) (c : Nat) (i : Value) (wr : World) : Prop := ∃ (k : Nat) (F : Nat → Prop), k ≤ M.recs.length ∧ i = .int .i64 k ∧ BothAt L w0 wr lv D g M fr A c F
theorem read_at {M : Lg} {k : Nat} (h : k < M.recs.length) : readGE M ((M.first : Int) + (k : Int)) = 0 ∧ readGB M ((M.first : Int) + (k : Int)) = M.recs.getD k [] := by
  have h1 : readGE M ((M.first : Int) + (k : Int)) = 0 := by
    unfold readGE Lg.next
    rw [if_neg (by omega), if_neg (by omega)]
  refine ⟨h1, ?_⟩
  unfold readGB
  rw [if_pos h1]
  have e : ((M.first : Int) + (k : Int) - (M.first : Int)).toNat = k := by omega
  rw [e]
theorem read_end (M : Lg) : readGE M ((M.first : Int) + (M.recs.length : Int)) = 11 ∧ readGB M ((M.first : Int) + (M.recs.length : Int)) = [] := by
  have h1 : readGE M ((M.first : Int) + (M.recs.length : Int)) = 11 := by
    unfold readGE Lg.next
    rw [if_neg (by omega), if_pos (by omega)]
  exact ⟨h1, by unfold readGB; rw [h1]; rfl⟩
theorem read_old (M : Lg) : readGE M ((M.first : Int) - 1) = 12 ∧ readGB M ((M.first : Int) - 1) = [] := by
  have h1 : readGE M ((M.first : Int) - 1) = 12 := by
    unfold readGE
    rw [if_pos (by omega)]
  exact ⟨h1, by unfold readGB; rw [h1]; rfl⟩

variable (L : LogSpec)
set_option maxHeartbeats 2000000 in
set_option maxRecDepth 8000 in
theorem holds_any {w0 w : World} {lv : Value} {D g : Nat} {M : Lg} {fr : Bool} {A : Option Addr} {c : Nat} {F : Nat → Prop} (h : BothAt L w0 w lv D g M fr A c F) (hd : M.down = false) :
    Calls Tryd.prog 17 #[lv, .pointer (some ⟨g, 0, none⟩)] w (fun e w' => e = .returned (.bool true) ∧ ∃ F', BothAt L w0 w' lv D g M fr A c F') := by
  have HH := Lib.hid h
  have hok := L.at_ok h.at_
  have HD := Lib.hid hd
  have HFI := Lib.hid (fun W (hb : Below w.heap.size w W) => L.first (h.next hb).at_)
  have HEP := Lib.hid (fun W (hb : Below w.heap.size w W) => L.epoch (h.next hb).at_)
  have HTK := Lib.hid (fun W (hb : Below w.heap.size w W) => taken_any (h.next hb).mo (taken_few hok))
  obtain ⟨n, hn⟩ : ∃ n, M.recs.length = n := ⟨_, rfl⟩
  obtain ⟨f, hf⟩ : ∃ f, M.first = f := ⟨_, rfl⟩
  obtain ⟨ep, hep⟩ : ∃ ep, M.epoch = ep := ⟨_, rfl⟩
  obtain ⟨pl, hpl⟩ : ∃ pl, M.places = pl := ⟨_, rfl⟩
  obtain ⟨tk, htk⟩ : ∃ tk, M.taken = tk := ⟨_, rfl⟩
  have hnx : ((M.next : Nat) : Int) = (f : Int) + (n : Int) := by unfold Lg.next; rw [hf, hn]; omega
  have hrm : ((M.places - M.taken : Nat) : Int) = (pl : Int) - (tk : Int) := by have := hok.few; omega
  have HNX := Lib.hid (show ∀ W, Below w.heap.size w W → Calls Tryd.prog 19 #[lv] W (Gave W (.int .i64 ((f : Int) + (n : Int)))) from fun W hb => by have := L.next (h.next hb).at_; rwa [hnx] at this)
  have HRM := Lib.hid (show ∀ W, Below w.heap.size w W → Calls Tryd.prog 22 #[lv] W (Gave W (.int .i64 ((pl : Int) - (tk : Int)))) from fun W hb => by have := L.room (h.next hb).at_; rwa [hrm] at this)
  rw [hf] at HFI
  rw [hep] at HEP
  rw [htk] at HTK
  have hcs := fun W (hb : Below w.heap.size w W) => (h.next hb).cells
  rw [hf, hn, hep, hpl] at hcs
  have HCS := Lib.hid hcs
  have hb1 : (f : Int) + (n : Int) ≤ 36028797018963968 := by have := hok.high; omega
  have hb2 : (pl : Int) ≤ 4094 := by have := hok.places; omega
  have hb3 : (tk : Int) ≤ 4094 := by have := hok.places; have := hok.few; omega
  have q1 : ((f : Int) + (n : Int) != (f : Int) + (n : Int)) = false := by simp
  have q2 : ((pl : Int) - (tk : Int) != (pl : Int) - (tk : Int)) = false := by simp
  have r1 : IntKind.i64.wrap ((f : Int) + (n : Int)) = (f : Int) + (n : Int) := IntWalk.i64_in _ (by omega)
  have r2 : IntKind.i64.wrap ((pl : Int) - (tk : Int)) = (pl : Int) - (tk : Int) := IntWalk.i64_in _ (by omega)
  obtain ⟨c0, c1, c4, c5⟩ := hcs w (Below.refl _ _)
  have HN := Lib.hid hn
  have HF := Lib.hid hf
  clear h hok hd hn hf hep hpl htk hnx hrm hcs
  go_enter Tryd.func17, Tryd.ntmps17
  go_wp2
  go_region_held3 (fun X => X.cell? ⟨g, 0, none⟩ = some (.int .i64 (f : Int)) ∧ X.cell? ⟨g, 1, none⟩ = some (.slice A n c) ∧ X.cell? ⟨g, 4, none⟩ = some (.int .i64 (pl : Int)) ∧ X.cell? ⟨g, 5, none⟩ = some (.int .i64 (ep : Int)))
    (go_keep)
    ((first
      | (go_at_call 18
         refine (HFI.out _ (Below.refl w.heap.size w).drew).mono ?_
         rintro e w1 ⟨rfl, hb1'⟩
         have HB1 := Lib.hid ((Below.refl w.heap.size w).drew.trans hb1')
         obtain ⟨c0, c1, c4, c5⟩ := HCS.out w1 HB1.out
         clear hb1')
      | (go_at_call 19
         refine (HNX.out _ HB1.out).mono ?_
         rintro e w2 ⟨rfl, hb2'⟩
         have HB2 := Lib.hid (HB1.out.trans (hb2'.mono HB1.out.size))
         obtain ⟨c0, c1, c4, c5⟩ := HCS.out w2 HB2.out
         clear hb2')
      | (go_at_call 36
         refine (HEP.out _ HB2.out).mono ?_
         rintro e w3 ⟨rfl, hb3'⟩
         have HB3 := Lib.hid (HB2.out.trans (hb3'.mono HB2.out.size))
         obtain ⟨c0, c1, c4, c5⟩ := HCS.out w3 HB3.out
         clear hb3')
      | (go_at_call 22
         refine (HRM.out _ HB3.out).mono ?_
         rintro e w4 ⟨rfl, hb4'⟩
         have HB4 := Lib.hid (HB3.out.trans (hb4'.mono HB3.out.size))
         obtain ⟨c0, c1, c4, c5⟩ := HCS.out w4 HB4.out
         clear hb4')
      | (go_at_call 11
         with_reducible refine (HTK.out _ HB3.out).mono ?_
         rintro e w' ⟨rfl, rfl⟩)
      | (go_at_call 11
         with_reducible refine (HTK.out _ HB4.out).mono ?_
         rintro e w' ⟨rfl, rfl⟩)))
  have HH4 := Lib.hid (HH.out.next HB4.out)
  clear q1 q2 r1 r2 HFI HEP HTK HNX HRM HCS c0 c1 c4 c5 hb2 hb3
  go_wp2
  go_loopw [5] (HoldsRel L w0 lv D g M fr A c) (fun i _ => n - (intOf i).toNat)
  case atStart => exact ⟨0, F, Nat.zero_le _, rfl, HH4.out⟩
  case round =>
    obtain ⟨k, F5, hk, rfl, hb5⟩ := hrel
    have HH5 := Lib.hid hb5
    rw [HN.out] at hk
    obtain ⟨c0, c1, _, _⟩ := hb5.cells
    rw [HF.out] at c0
    rw [HN.out] at c1
    by_cases hkn : k < n
    · have d1 : decide ((k : Int) < (n : Int)) = true := by simp; omega
      have d1n : decide (k < n) = true := by simp; omega
      have hki : (k : Int) < (n : Int) := by omega
      have r3 : IntKind.i64.wrap ((f : Int) + (k : Int)) = (f : Int) + (k : Int) := IntWalk.i64_in _ (by omega)
      have hrd := L.read hb5.at_ HD.out ((f : Int) + (k : Int)) (by omega) (by omega)
      have hra := read_at (M := M) (k := k) (by rw [HN.out]; exact hkn)
      rw [HF.out] at hra
      obtain ⟨gl, off, Ak, ck, rfl, hcel0, hro⟩ := hb5.mo.list.get (k := k) (by rw [HN.out]; exact hkn)
      have hsm := hb5.mo.list.small _ (getD_mem (rs := M.recs) (k := k) (by rw [HN.out]; exact hkn))
      obtain ⟨r, hr⟩ : ∃ r, M.recs.getD k [] = r := ⟨_, rfl⟩
      rw [hr] at hcel0 hro hsm
      rw [hra.1, hra.2, hr] at hrd
      have HRD := Lib.hid hrd
      have HRO := Lib.hid hro
      have HSM := Lib.hid hsm
      have HRR := Lib.hid hr
      clear hrd hra hro hsm hcel0 hr hb5
      go_wp2_with fail
      refine HRD.out.mono ?_
      rintro e w6 ⟨A6, c6, F6, rfl, hown6, hat6, hm6⟩
      have hb6 := HH5.out.moved hat6 hm6
      have HH6 := Lib.hid hb6
      obtain ⟨c0, c1, _, _⟩ := hb6.cells
      rw [HF.out] at c0
      rw [HN.out] at c1
      obtain ⟨gl2, off2, Ak2, ck2, e2, hcel, hro2⟩ := hb6.mo.list.get (k := k) (by rw [HN.out]; exact hkn)
      obtain ⟨rfl, rfl⟩ : gl2 = gl ∧ off2 = off := by injection e2 with e2; injection e2 with e3 e4; exact ⟨e3.symm, e4.symm⟩
      rw [HRR.out] at hcel hro2
      have hsame := same_any A6 Ak2 r.length r.length c6 ck2 w6.heap.size r r w6 rfl rfl (Row.of_own hown6) ((hro2.below hb6.below).mono hb6.below.size) (by unfold maxLen; have := HSM.out; omega)
      rw [decide_eq_true rfl] at hsame
      have HSA := Lib.hid hsame
      clear hown6 hat6 hm6 hb6 e2 hro2 hsame
      go_wp2_with fail
      refine HSA.out.mono ?_
      rintro e w7 ⟨rfl, k7, rfl⟩
      have HH7 := Lib.hid (HH6.out.next (below_drewN' (Below.refl _ _) k7))
      go_wp2
      exact ⟨⟨k + 1, F6, by rw [HN.out]; omega, by go_num, HH7.out⟩, by simp only [intOf]; omega⟩
    · obtain rfl : k = n := by omega
      have d1 : decide ((k : Int) < (k : Int)) = false := by simp
      have r1 : IntKind.i64.wrap ((f : Int) + (k : Int)) = (f : Int) + (k : Int) := IntWalk.i64_in _ (by omega)
      have r3 : IntKind.i64.wrap ((f : Int) - 1) = (f : Int) - 1 := IntWalk.i64_in _ (by omega)
      have hra := read_end M
      rw [HF.out, HN.out] at hra
      have hrd : ∀ W, Below wr.heap.size wr W → Calls Tryd.prog 20 #[lv, .int .i64 ((f : Int) + (k : Int))] W
          (fun e w' => ∃ A' c' F', e = .returned (.tuple #[.slice A' 0 c', .int .i64 11]) ∧ BothAt L w0 w' lv D g M fr A c F') := fun W hW => by
        have h1 := HH5.out.next hW
        have h2 := L.read h1.at_ HD.out ((f : Int) + (k : Int)) (by omega) (by omega)
        rw [hra.1, hra.2] at h2
        refine h2.mono ?_
        rintro e w' ⟨A', c', F', he, _, ha, hm⟩
        exact ⟨A', c', F', he, h1.moved ha hm⟩
      have HRD := Lib.hid hrd
      clear hrd hra hb5
      go_wp2
      go_region_held3 (fun X => X.cell? ⟨g, 0, none⟩ = some (.int .i64 (f : Int)) ∧ X.cell? ⟨g, 1, none⟩ = some (.slice A k c))
        (go_keep)
        ((go_at_call 20
          refine (HRD.out _ (Below.refl wr.heap.size wr).drew).mono ?_
          rintro e w6 ⟨A6, c6, F6, rfl, hb6⟩
          have HH6 := Lib.hid hb6
          obtain ⟨c0, c1, _, _⟩ := hb6.cells
          rw [HF.out] at c0
          rw [HN.out] at c1
          clear hb6))
      have hrb := read_old M
      rw [HF.out] at hrb
      have hrd2 := L.read HH6.out.at_ HD.out ((f : Int) - 1) (by omega) (by omega)
      rw [hrb.1, hrb.2] at hrd2
      have HRD2 := Lib.hid hrd2
      clear hrb hrd2
      go_wp2_with fail
      refine HRD2.out.mono ?_
      rintro e w7 ⟨A7, c7, F7, rfl, _, hat7, hm7⟩
      have HH7 := Lib.hid (HH6.out.moved hat7 hm7)
      clear hat7 hm7
      go_wp2
      go_ret
      exact ⟨rfl, F7, HH7.out⟩

end Go.Proofs.YtgfoekbdmgljbaaDoor

namespace Go.Proofs.YtgfoekbdmgljbaaDoor
open Go.RowKit

def cutA (A : Option Addr) (c k : Nat) : Option Addr := if c = k then A else Option.map (fun x => x.add k) A
theorem ListAt.cut {w0 w : World} {A : Option Addr} {c : Nat} {rs : List (List UInt8)} (h : ListAt w0 w A c rs) {k n : Nat} (hk : k + n ≤ rs.length) : ListAt w0 w (cutA A c k) (c - k) ((rs.drop k).take n) := by
  by_cases hc : c = k
  · exact h.part hk (.inl ⟨hc.symm, if_pos hc⟩)
  · refine h.part hk (.inr ⟨fun e => hc e.symm, ?_⟩)
    unfold cutA
    rw [if_neg hc]
    cases hA : A with
    | none => rfl
    | some a =>
      obtain ⟨b, o, sp⟩ := a
      have hsp : sp = none := by
        obtain ⟨vs, _, _, h3⟩ := h.vals
        rcases h3 with ⟨h3, _⟩ | ⟨g, off, cur, e, _⟩
        · rw [hA] at h3; cases h3
        · rw [hA] at e; injection e with e; injection e
      subst hsp
      show some ((⟨b, o, none⟩ : Addr).add k) = some ⟨b, o + k, none⟩
      rw [addr_add]
theorem ListAt.own_cut {w0 w : World} {A : Option Addr} {c : Nat} {rs : List (List UInt8)} (hl : ListAt w0 w A c rs) {k j : Nat} (h : ownA (cutA A c k) j) : ownA A j := by
  unfold cutA at h
  split at h
  · exact h
  · obtain ⟨vs, _, _, h3⟩ := hl.vals
    rcases h3 with ⟨h3, _⟩ | ⟨g, off, cur, e, _⟩
    · rw [h3] at h; obtain ⟨o, h⟩ := h; cases h
    · rw [e] at h
      obtain ⟨o, h⟩ := h
      have h' : (⟨g, off, none⟩ : Addr).add k = ⟨j, o, none⟩ := Option.some.inj h
      rw [addr_add] at h'
      injection h' with h1
      exact ⟨off, by rw [e, h1]⟩
variable (L : LogSpec)
set_option maxHeartbeats 4000000 in
set_option maxRecDepth 8000 in
theorem again_any {w0 w : World} {lv : Value} {D g : Nat} {M M' : Lg} {fr : Bool} {A : Option Addr} {c : Nat} {F : Nat → Prop} (op : Bool) (ha : L.At w w0.heap.size lv D M' fr F) (hm : MoAt w0 w g M A c) (hf : ¬ F g ∧ ∀ j, ownA A j → ¬ F j) (hb : Below w0.heap.size w0 w) (hok : M.ok) (hag : AgainTo M M') :
    Calls Tryd.prog 16 #[lv, .pointer (some ⟨g, 0, none⟩), .bool op] w (fun e w' => e = .returned (.bool true) ∧ ∃ A' c' F', BothAt L w0 w' lv D g M' fr A' c' F') := by
  obtain ⟨gone, n, hg, hgn, hsu, ep', hep', rfl⟩ := hag
  have hok' := L.at_ok ha
  have hhi := hok.high
  have hfi := L.first ha
  have hcell : ∀ W, Below w.heap.size w W → W.cell? ⟨g, 0, none⟩ = some (.int .i64 M.first) ∧ W.cell? ⟨g, 1, none⟩ = some (.slice A M.recs.length c) ∧ W.cell? ⟨g, 2, none⟩ = some (.int .i64 M.sure) ∧ W.cell? ⟨g, 3, none⟩ = some (.int .i64 (dropI M.drop)) ∧ W.cell? ⟨g, 5, none⟩ = some (.int .i64 M.epoch) := fun W hW => by
    have h := (hm.below hW).blk
    exact ⟨h.cell 0, h.cell 1, h.cell 2, h.cell 3, h.cell 5⟩
  have hnx : ∀ W, Below w.heap.size w W → Calls Tryd.prog 19 #[lv] W (Gave W (.int .i64 ((M.first : Int) + (gone : Int) + (n : Int)))) := fun W hW => by
    have h := L.next (LogSpec.at_below ha hW)
    have e : (((⟨M.first + gone, (M.recs.drop gone).take n, n, none, M.places, ep', false, M.used + 1⟩ : Lg).next : Nat) : Int) = (M.first : Int) + (gone : Int) + (n : Int) := by
      unfold Lg.next
      have : ((M.recs.drop gone).take n).length = n := by rw [List.length_take, List.length_drop]; omega
      show ((M.first + gone + ((M.recs.drop gone).take n).length : Nat) : Int) = _
      rw [this]; omega
    rwa [e] at h
  have HM := Lib.hid hm
  have HA := Lib.hid ha
  have HB := Lib.hid hb
  have HF := Lib.hid hf
  have HFI := Lib.hid (show Calls Tryd.prog 18 #[lv] w (Gave w (.int .i64 ((M.first : Int) + (gone : Int)))) from by
    have e : (((⟨M.first + gone, (M.recs.drop gone).take n, n, none, M.places, ep', false, M.used + 1⟩ : Lg).first : Nat) : Int) = (M.first : Int) + (gone : Int) := by
      show ((M.first + gone : Nat) : Int) = _
      omega
    rwa [e] at hfi)
  have HNX := Lib.hid hnx
  have hage := hok'.age
  have hage' : (ep' : Int) ≤ 36028797018963968 := by
    have : ep' ≤ 36028797018963968 := hage
    omega
  obtain ⟨nn, hnn⟩ : ∃ nn, M.recs.length = nn := ⟨_, rfl⟩
  obtain ⟨fi, hfd⟩ : ∃ fi, M.first = fi := ⟨_, rfl⟩
  obtain ⟨su, hsd⟩ : ∃ su, M.sure = su := ⟨_, rfl⟩
  obtain ⟨dr, hdd⟩ : ∃ dr, dropI M.drop = dr := ⟨_, rfl⟩
  obtain ⟨ep, hed⟩ : ∃ ep, M.epoch = ep := ⟨_, rfl⟩
  have hdr : gone = 0 ∨ dr = (fi : Int) + (gone : Int) := by
    rcases hg with h | h
    · exact .inl h
    · right; rw [← hdd, h, ← hfd]; show ((M.first + gone : Nat) : Int) = _; omega
  rw [hnn, hfd, hsd, hdd, hed] at hcell
  rw [hfd] at HFI HNX
  have HCL := Lib.hid hcell
  have HNN := Lib.hid hnn
  have HFD := Lib.hid hfd
  have HED := Lib.hid hed
  rw [hnn] at hgn hhi
  rw [hfd] at hhi
  rw [hsd] at hsu
  rw [hed] at hep'
  have HG := Lib.hid (And.intro hgn (And.intro hsu hep'))
  clear hm ha hb hf hok hok' hg hfi hnx hcell hage hnn hfd hsd hdd hed
  have hb1 : (fi : Int) + (nn : Int) ≤ 36028797018963968 := by omega
  have hgi : (gone : Int) + (n : Int) ≤ (nn : Int) := by omega
  go_enter Tryd.func16, Tryd.ntmps16
  go_wp2_with fail
  refine HFI.out.mono ?_
  rintro e w1 ⟨rfl, hb1'⟩
  have HB1 := Lib.hid hb1'
  obtain ⟨c0, c1, c2, c3, c5⟩ := HCL.out w1 hb1'
  clear hb1'
  go_upto_region 2 with fail
  go_cut [33] from 12 to 33 (fun v wx => v = .bool false ∧ wx = w1)
  case first =>
    rcases Nat.eq_zero_or_pos gone with h0 | h0
    · subst h0
      have t1 : ((fi : Int) + ((0 : Nat) : Int) != (fi : Int)) = false := by simp
      have t2 : decide ((fi : Int) + ((0 : Nat) : Int) < (fi : Int)) = false := by simp
      go_wp2
      go_meet
      exact ⟨rfl, rfl⟩
    · have hd : dr = (fi : Int) + (gone : Int) := by
        rcases hdr with h | h
        · omega
        · exact h
      have t1 : ((fi : Int) + (gone : Int) != (fi : Int)) = true := by rw [bne_iff_ne]; omega
      have t3 : ((fi : Int) + (gone : Int) != dr) = false := by rw [hd]; simp
      have t2 : decide ((fi : Int) + (gone : Int) < (fi : Int)) = false := by simp; omega
      clear hd hdr
      go_wp2
      go_meet
      exact ⟨rfl, rfl⟩
  case rest =>
    obtain ⟨rfl, rfl⟩ := hcut
    have rg1 : (fi : Int) + (gone : Int) - (fi : Int) = (gone : Int) := by omega
    have rg2 : (fi : Int) + (gone : Int) + (n : Int) - ((fi : Int) + (gone : Int)) = (n : Int) := by omega
    have HN1 := Lib.hid (HNX.out wc HB1.out)
    have HDR := Lib.hid hdr
    clear hdr
    go_wp2_with fail
    refine HN1.out.mono ?_
    rintro e w2 ⟨rfl, hb2⟩
    have HB2 := Lib.hid (HB1.out.trans (hb2.mono HB1.out.size))
    obtain ⟨c0, c1, c2, c3, c5⟩ := HCL.out w2 HB2.out
    have hgn := HG.out.1
    have hsu := HG.out.2.1
    have t1 : decide ((nn : Int) < (gone : Int)) = false := by simp; omega
    have t1n : decide (nn < gone) = false := by simp; omega
    have t2 : decide ((n : Int) < 0) = false := by simp
    have t3 : decide ((nn : Int) < (gone : Int) + (n : Int)) = false := by simp; omega
    have t3n : decide (nn < gone + n) = false := by simp; omega
    have t4 : decide ((gone : Int) + (n : Int) < (su : Int)) = false := by simp; omega
    have t4n : decide (gone + n < su) = false := by simp; omega
    clear hb2
    have HM2 := Lib.hid (HM.out.below HB2.out)
    have z0 := HM2.out.blk.frozen 0
    have z1 := HM2.out.blk.frozen 1
    have z2 := HM2.out.blk.frozen 2
    have z3 := HM2.out.blk.frozen 3
    have z6 := HM2.out.blk.frozen 6
    have c6 : w2.cell? ⟨g, 6, none⟩ = some (.bool M.down) := HM2.out.blk.cell 6
    have hcap : nn ≤ c := by have := HM2.out.list.cap.1; rw [HNN.out] at this; exact this
    have hcapi : (gone : Int) + (n : Int) ≤ (c : Int) := by omega
    have hcapg : (gone : Int) ≤ (gone : Int) + (n : Int) := by omega
    go_upto_region 13 with fail
    have hA' : ∃ A', (if c = gone then A else Option.map (fun x => x.add gone) A) = A' := ⟨_, rfl⟩
    obtain ⟨A', hA'⟩ := hA'
    rw [hA']
    generalize hW3 : ((((w2.setCell ⟨g, 0, none⟩ (.int .i64 ((fi : Int) + (gone : Int)))).setCell ⟨g, 1, none⟩ (.slice A' n (c - gone))).setCell ⟨g, 2, none⟩ (.int .i64 (n : Int))).setCell ⟨g, 3, none⟩ (.int .i64 (-1))).setCell ⟨g, 6, none⟩ (.bool false) = W3
    have hgr : Grew (fun j => j = g) w2 W3 := by
      rw [← hW3]
      exact ((((Grew.setCell (Grew.refl (fun j => j = g) w2) (a := ⟨g, 0, none⟩) (.inl rfl) _).setCell (a := ⟨g, 1, none⟩) (.inl rfl) _).setCell (a := ⟨g, 2, none⟩) (.inl rfl) _).setCell (a := ⟨g, 3, none⟩) (.inl rfl) _).setCell (a := ⟨g, 6, none⟩) (.inl rfl) _
    have hwh : Whole W3 g 34 [.int .i64 ((fi : Int) + (gone : Int)), .slice A' n (c - gone), .int .i64 (n : Int), .int .i64 (-1), .int .i64 M.places, .int .i64 M.epoch, .bool false] := by
      rw [← hW3]
      exact ((((HM2.out.blk.set_ 0 _).set_ 1 _).set_ 2 _).set_ 3 _).set_ 6 _
    have hli : ListAt w0 W3 A' (c - gone) ((M.recs.drop gone).take n) := by
      have h1 := HM2.out.list.cut (k := gone) (n := n) (by rw [HNN.out]; exact hgn)
      rw [show cutA A c gone = A' from hA'] at h1
      refine h1.keep fun j hj => hgr.block j (h1.lt hj).2 fun e => ?_
      subst e
      rw [← hA'] at hj
      exact HM2.out.notOwn (HM2.out.list.own_cut hj)
    have hat3 : L.At W3 w0.heap.size lv D _ fr F := LogSpec.at_far (LogSpec.at_below HA.out HB2.out) hgr HM.out.base HF.out.1
    have hb3 : Below w0.heap.size w0 W3 := (HB.out.trans (HB2.out.mono HB.out.size)).trans (hgr.below (B := w0.heap.size) (fun j hj => by have := HM.out.base; omega) (HB.out.trans (HB2.out.mono HB.out.size)).size)
    have hnf : ∀ j, ownA A' j → ¬ F j := fun j hj => by
      rw [← hA'] at hj
      exact HF.out.2 j (HM2.out.list.own_cut hj)
    have c5 : W3.cell? ⟨g, 5, none⟩ = some (.int .i64 (ep : Int)) := by rw [← HED.out]; exact hwh.cell 5
    have HWH := Lib.hid hwh
    have HLI := Lib.hid hli
    have HAT3 := Lib.hid hat3
    have HB3 := Lib.hid hb3
    have HNF := Lib.hid hnf
    have HEP := Lib.hid (show ∀ W, Below W3.heap.size W3 W → Calls Tryd.prog 36 #[lv] W (Gave W (.int .i64 (ep' : Int))) from fun W hW => L.epoch (LogSpec.at_below hat3 hW))
    have hep5 := HG.out.2.2
    have t5 : decide ((ep' : Int) ≤ (ep : Int)) = false := by simp; omega
    have t5n : decide (ep' ≤ ep) = false := by simp; omega
    clear hA' hW3 hgr hwh hli hat3 hb3 hnf z0 z1 z2 z3 z6 c0 c1 c2 c3 c6 t1 t1n t2 t3 t3n t4 t4n hcapi hcapg hep5
    go_region_held3 (fun X => X.cell? ⟨g, 5, none⟩ = some (.int .i64 (ep : Int)))
      (go_keep)
      ((go_at_call 36
        refine (HEP.out _ (Below.refl W3.heap.size W3).drew).mono ?_
        rintro e w4 ⟨rfl, hb4⟩
        have HB4 := Lib.hid ((Below.refl W3.heap.size W3).drew.trans hb4)
        have c5 : w4.cell? ⟨g, 5, none⟩ = some (.int .i64 (ep : Int)) := by
          have h := (HWH.out.below HB4.out HWH.out.lt).cell 5
          rw [h, ← HED.out]; rfl
        clear hb4))
    have HM4 := Lib.hid (HWH.out.below HB4.out HWH.out.lt)
    have z5 := HM4.out.frozen 5
    have HB5 := Lib.hid (HB4.out)
    go_wp2_with fail
    refine (HEP.out _ HB4.out).mono ?_
    rintro e w5 ⟨rfl, hb5⟩
    have HM5 := Lib.hid (HM4.out.below hb5 HM4.out.lt)
    have HBB5 := Lib.hid (HB4.out.trans (hb5.mono HB4.out.size))
    have z5 := HM5.out.frozen 5
    have c5 : w5.cell? ⟨g, 5, none⟩ = some (.int .i64 (ep : Int)) := by
      have h := HM5.out.cell 5
      rw [h, ← HED.out]; rfl
    clear hb5
    have hgr6 : Grew (fun j => j = g) w5 (w5.setCell ⟨g, 5, none⟩ (.int .i64 (ep' : Int))) := Grew.setCell (Grew.refl (fun j => j = g) w5) (a := ⟨g, 5, none⟩) (.inl rfl) _
    have hb5 : Below w0.heap.size w0 w5 := HB3.out.trans (HBB5.out.mono HB3.out.size)
    have hl5 := HLI.out.below HBB5.out
    have hboth : BothAt L w0 (w5.setCell ⟨g, 5, none⟩ (.int .i64 (ep' : Int))) lv D g ⟨M.first + gone, (M.recs.drop gone).take n, n, none, M.places, ep', false, M.used + 1⟩ fr A' (c - gone) F := by
      refine ⟨LogSpec.at_far (LogSpec.at_below HAT3.out HBB5.out) hgr6 HM.out.base HF.out.1, ⟨?_, ?_, HM.out.base⟩, ⟨HF.out.1, HNF.out⟩, hb5.trans (hgr6.below (B := w0.heap.size) (fun j hj => by have := HM.out.base; omega) hb5.size)⟩
      · have h6 := HM5.out.set_ 5 (.int .i64 (ep' : Int))
        have hl : ((M.recs.drop gone).take n).length = n := by rw [List.length_take, List.length_drop, HNN.out]; have := HG.out.1; omega
        have e : moCells ⟨M.first + gone, (M.recs.drop gone).take n, n, none, M.places, ep', false, M.used + 1⟩ A' (c - gone) = [.int .i64 ((fi : Int) + (gone : Int)), .slice A' n (c - gone), .int .i64 (n : Int), .int .i64 (-1), .int .i64 M.places, .int .i64 ep', .bool false] := by
          unfold moCells
          simp only [hl, HFD.out, dropI, Int.natCast_add]
        rw [e]
        exact h6
      · refine hl5.keep fun j hj => hgr6.block j (hl5.lt hj).2 fun e => ?_
        subst e
        exact hl5.not HM5.out (by decide) hj
    have HBO := Lib.hid hboth
    clear hgr6 hb5 hl5 hboth
    go_wp2_with fail
    refine (holds_any L HBO.out rfl).mono ?_
    rintro e w7 ⟨rfl, F7, hb7⟩
    have HE := Lib.hid hb7
    clear hb7
    go_wp2
    go_ret
    exact ⟨rfl, A', c - gone, F7, HE.out⟩

end Go.Proofs.YtgfoekbdmgljbaaDoor

namespace Go.Proofs.YtgfoekbdmgljbaaDoor
open Go.RowKit

theorem bsy_info : (Tryd.prog.info? 35).map (fun i => (i.zero, i.size, i.bytes)) = some (some (.slice none 0 0), 1, 24) := by kernel_rfl
/-- What the list's values are, with one more. -/
theorem snoc_vals {w0 : World} {rs : List (List UInt8)} {vs : List Value} (h1 : vs.length = rs.length) (h2 : ∀ k, k < rs.length → ∃ Ak ck, vs[k]? = some (.slice Ak (rs.getD k []).length ck) ∧ Row w0 w0.heap.size Ak ((rs.getD k []).map bc))
    {Ak : Option Addr} {ck : Nat} {r : List UInt8} (hr : Row w0 w0.heap.size Ak (r.map bc)) :
    (vs ++ [Value.slice Ak r.length ck]).length = (rs ++ [r]).length ∧ ∀ k, k < (rs ++ [r]).length → ∃ A' c', (vs ++ [Value.slice Ak r.length ck])[k]? = some (.slice A' ((rs ++ [r]).getD k []).length c') ∧ Row w0 w0.heap.size A' (((rs ++ [r]).getD k []).map bc) := by
  refine ⟨by simp [h1], fun k hk => ?_⟩
  rw [List.length_append, List.length_singleton] at hk
  rcases Nat.lt_or_ge k rs.length with h | h
  · obtain ⟨A', c', h3, h4⟩ := h2 k h
    have e : (rs ++ [r]).getD k [] = rs.getD k [] := by
      rw [List.getD_eq_getElem?_getD, List.getElem?_append_left h, List.getD_eq_getElem?_getD]
    exact ⟨A', c', by rw [List.getElem?_append_left (by omega), e]; exact h3, by rw [e]; exact h4⟩
  · obtain rfl : k = rs.length := by omega
    have e : (rs ++ [r]).getD rs.length [] = r := by
      rw [List.getD_eq_getElem?_getD, List.getElem?_append_right (Nat.le_refl _), Nat.sub_self]
      rfl
    exact ⟨Ak, ck, by rw [List.getElem?_append_right (by omega), h1, Nat.sub_self, e]; rfl, by rw [e]; exact hr⟩
theorem small_snoc {rs : List (List UInt8)} {r : List UInt8} (h : ∀ x ∈ rs, x.length ≤ 16384) (hr : r.length ≤ 16384) : ∀ x ∈ rs ++ [r], x.length ≤ 16384 := by
  intro x hx
  rcases List.mem_append.1 hx with h1 | h1
  · exact h x h1
  · rw [List.mem_singleton.1 h1]; exact hr

/-- append, within a region that draws its order. -/
theorem step_append_list {ops : Array Oper} {o : Oper} {a : Act} {w : World} {K : Act → World → Prop} {Q : Exit → Act → World → Prop} {E : Prop} (hg : o.guard = none) (s x : Operand)
    (hop : o.op = Op.call { callee := Callee.builtin Builtin.append, args := #[s, x], argTypes := #[32, 32] })
    {w0 : World} {A : Option Addr} {c n : Nat} {rs : List (List UInt8)} (h : ListAt w0 w A c rs) (hn : rs.length = n) (hs : a.eval s = .slice A n c) (ad : Addr) (cc : Nat) (hx : a.eval x = .slice (some ad) 1 cc)
    (Ak : Option Addr) (ck : Nat) (r : List UInt8) (hcell : w.cell? (ad.add 0) = some (.slice Ak r.length ck)) (hr : Row w0 w0.heap.size Ak (r.map bc)) (hsm : r.length ≤ 16384) (hlen : n < 100000) (hb0 : w0.heap.size ≤ w.heap.size)
    (hK : ∀ A' c' w', ListAt w0 w' A' c' (rs ++ [r]) → Grew (ownA A) w w' → (∀ j, ownA A' j → ownA A j ∨ w.heap.size ≤ j) → K (a.put o.dst (.slice A' (n + 1) c')) w') :
    if Region.wanted o (yielded ops a.tmps) = true then Oper.wp Tryd.prog o a w K Q else E := by
  obtain ⟨i1, hi1, hy0, hy1, hy2⟩ := info_parts bsy_info
  obtain ⟨⟨vs, h1, h2, h3⟩, hsmall, hcap⟩ := h
  obtain ⟨e1, e2⟩ := snoc_vals (ck := ck) h1 h2 hr
  have hnew : ∀ j u, ([Value.slice Ak r.length ck] : List Value)[j]? = some u → w.cell? (ad.add j) = some u := by
    intro j u hu
    match j, hu with
    | 0, hu => simp at hu; rw [← hu]; exact hcell
    | j + 1, hu => simp at hu
  have hone : ∀ u ∈ ([Value.slice Ak r.length ck] : List Value), u.oneCell' = true := by intro u hu; rw [List.mem_singleton.1 hu]; rfl
  by_cases hroom : n + 1 ≤ c
  · rcases h3 with ⟨_, h3, _⟩ | ⟨g, off, cur, rfl, hg0, hh, h4, h5⟩
    · omega
    · have hwh : Whole w g 35 cur.toList := by unfold Whole; simpa using hh
      have hin : off + n < cur.size := by omega
      refine step_append_room hg s x 32 hop 35 i1 1 Tryd.underlying32 hi1 hy1 g off n c hs ad 1 cc [.slice Ak r.length ck] hx rfl hnew hone hroom (fun j hj => ?_) ?_
      · have hj0 : j = 0 := by simpa using hj
        subst hj0
        refine ⟨?_, hwh.frozen _⟩
        rw [hwh.cell]
        rw [List.getElem?_eq_getElem (by simp; omega)]
        rfl
      · refine hK (some ⟨g, off, none⟩) c _ ⟨⟨vs ++ [Value.slice Ak r.length ck], e1, e2, .inr ⟨g, off, (cur.toList.set (off + n) (.slice Ak r.length ck)).toArray, rfl, hg0, ?_, by simp; omega, fun j u hu => ?_⟩⟩, small_snoc hsmall hsm, ⟨by rw [List.length_append, List.length_singleton, hn]; exact hroom, hcap.2⟩⟩ ?_ (fun j hj => .inl hj)
        · have := hwh.set_ (off + n) (.slice Ak r.length ck)
          unfold Whole at this
          rw [Nat.mul_one]
          exact this
        · simp only [List.getElem?_toArray]
          rcases Nat.lt_or_ge j vs.length with hj | hj
          · rw [List.getElem?_append_left hj] at hu
            rw [List.getElem?_set_ne (by omega), Array.getElem?_toList]
            exact h5 j u hu
          · rw [List.getElem?_append_right hj] at hu
            have hj0 : j - vs.length = 0 := by
              rcases Nat.eq_zero_or_pos (j - vs.length) with h0 | h0
              · exact h0
              · rw [List.getElem?_eq_none (by simp; omega)] at hu; cases hu
            rw [hj0] at hu
            have ej : off + j = off + n := by omega
            rw [ej, List.getElem?_set_self (by simp; omega)]
            simpa using hu
        · rw [Nat.mul_one]
          exact Grew.setCell (Grew.refl _ w) (a := ⟨g, off + n, none⟩) (.inl ⟨off, rfl⟩) _
  · refine step_append_grows hg s x 32 hop 35 i1 (.slice none 0 0) 1 24 Tryd.underlying32 hi1 hy0 hy1 hy2 rfl (by omega) A n c vs hs (fun he => ?_) (by omega) (fun b hb j u hu => ?_) ad 1 cc [.slice Ak r.length ck] hx rfl hnew hone (by omega) (by unfold maxLen; omega) (by omega) ?_
    · rcases h3 with ⟨_, h4, h5⟩ | ⟨g, off, cur, e, _⟩
      · exact ⟨by rw [← hn, h5]; rfl, h4⟩
      · rw [he] at e; cases e
    · rcases h3 with ⟨h3, _⟩ | ⟨g, off, cur, e, _, hh, _, h5⟩
      · rw [h3] at hb; cases hb
      · obtain rfl : b = ⟨g, off, none⟩ := Option.some.inj (hb.symm.trans e)
        rw [addr_add]
        simp only [World.cell?, hh]
        exact h5 j u hu
    · intro v' w' hown hgb
      obtain ⟨A', c', rfl, hc1, hc2⟩ := own_form hown
      obtain ⟨g', rfl⟩ := own_some hown (by omega)
      refine hK _ c' w' ⟨⟨vs ++ [Value.slice Ak r.length ck], e1, e2, .inr ?_⟩, small_snoc hsmall hsm, ⟨by rw [List.length_append, List.length_singleton, hn]; exact hc1, hc2⟩⟩ (Grew.of_grown hgb (fun j hj => by cases hj)) (fun j hj => ?_)
      · rcases hown.2 with ⟨h0, _⟩ | ⟨g2, cap, cur, hv, hbg, hh, hnc, hcm, hcs, htake⟩
        · cases h0
        · injection hv with hv hv2 hv3
          injection hv with hv
          injection hv with hv
          subst hv
          subst hv3
          refine ⟨g', 0, cur, rfl, by omega, hh, by omega, fun j u hu => ?_⟩
          rw [Nat.zero_add, ← Array.getElem?_toList]
          rw [← htake, List.getElem?_take] at hu
          split at hu
          · exact hu
          · cases hu
      · obtain ⟨o', ho'⟩ := hj
        injection ho' with ho'
        injection ho' with ho'
        subst ho'
        exact .inr (hown.lt _ rfl).1

end Go.Proofs.YtgfoekbdmgljbaaDoor

namespace Go.Proofs.YtgfoekbdmgljbaaDoor
open Go.RowKit

structure Ay where
  what : Int
  n : Int
  data : List UInt8
  mask : Nat
  torn : Nat
def ayCells (p : Ay) (A : Option Addr) (c : Nat) : List Value := [.int .i64 p.what, .int .i64 p.n, .slice A p.data.length c, .int .u64 (p.mask : Int), .int .u64 (p.torn : Int)]
def AyOf (w : World) (H : Nat) (cs : List Value) (p : Ay) : Prop :=
  ∃ A c, cs = ayCells p A c ∧ Row w H A (p.data.map bc) ∧ p.data.length ≤ maxLen ∧ p.mask < 18446744073709551616 ∧ p.torn < 18446744073709551616
def AysIn (w : World) (H : Nat) (A : Option Addr) (ps : List Ay) : Prop :=
  ∀ i (h : i < ps.length), ∃ b off cs, A = some ⟨b, off, none⟩ ∧ b < H ∧ (∀ j v, cs[j]? = some v → w.cell? ⟨b, off + (i * 5 + j), none⟩ = some v) ∧ AyOf w H cs ps[i]
theorem ay_size : (Tryd.prog.info? 38).map (·.size) = some 5 := by kernel_rfl
/-- The call in its own block. -/
structure AyAt (w : World) (a : Nat) (p : Ay) (Ak : Option Addr) (ck : Nat) (F : Nat → Prop) : Prop where
  blk : Whole w a 38 (ayCells p Ak ck)
  far : ¬ F a
section
variable {L : LogSpec} {w0 w w' : World} {lv : Value} {D g a : Nat} {M : Lg} {fr : Bool} {A Ak : Option Addr} {c ck : Nat} {F F' : Nat → Prop} {p : Ay}
theorem AyAt.below (h : AyAt w a p Ak ck F) (hb : Below w.heap.size w w') : AyAt w' a p Ak ck F := ⟨h.blk.below hb h.blk.lt, h.far⟩
theorem AyAt.moved (h : AyAt w a p Ak ck F) (hm : Moved F w w' F') : AyAt w' a p Ak ck F' := ⟨hm.whole h.blk h.far, hm.not h.far h.blk.lt⟩
theorem AyAt.cells (h : AyAt w a p Ak ck F) : w.cell? ⟨a, 0, none⟩ = some (.int .i64 p.what) ∧ w.cell? ⟨a, 1, none⟩ = some (.int .i64 p.n) ∧ w.cell? ⟨a, 2, none⟩ = some (.slice Ak p.data.length ck) ∧ w.cell? ⟨a, 3, none⟩ = some (.int .u64 (p.mask : Int)) ∧ w.cell? ⟨a, 4, none⟩ = some (.int .u64 (p.torn : Int)) :=
  ⟨h.blk.cell 0, h.blk.cell 1, h.blk.cell 2, h.blk.cell 3, h.blk.cell 4⟩
theorem AyAt.ne (h : AyAt w a p Ak ck F) (hm : MoAt w0 w g M A c) : a ≠ g := Whole.ne h.blk hm.blk (by decide)
theorem BothAt.all (h : BothAt L w0 w lv D g M fr A c F) : w.cell? ⟨g, 0, none⟩ = some (.int .i64 M.first) ∧ w.cell? ⟨g, 1, none⟩ = some (.slice A M.recs.length c) ∧ w.cell? ⟨g, 2, none⟩ = some (.int .i64 M.sure) ∧ w.cell? ⟨g, 3, none⟩ = some (.int .i64 (dropI M.drop)) ∧ w.cell? ⟨g, 4, none⟩ = some (.int .i64 M.places) ∧ w.cell? ⟨g, 6, none⟩ = some (.bool M.down) :=
  ⟨h.mo.blk.cell 0, h.mo.blk.cell 1, h.mo.blk.cell 2, h.mo.blk.cell 3, h.mo.blk.cell 4, h.mo.blk.cell 6⟩
/-- The log is another one, and the model's block is stored to. -/
theorem BothAt.stored (h : BothAt L w0 w lv D g M fr A c F) {M' : Lg} {fr' : Bool} {lv' : Value} {A' : Option Addr} {c' : Nat} (ha : L.At w w0.heap.size lv' D M' fr' F) {X : List Value} (hw : Whole w' g 34 X) (hX : X = moCells M' A' c') (hg : Grew (fun j => j = g) w w')
    (hl : ListAt w0 w A' c' M'.recs) (hA : ∀ j, ownA A' j → ownA A j) : BothAt L w0 w' lv' D g M' fr' A' c' F := by
  subst hX
  refine ⟨LogSpec.at_far ha hg h.mo.base h.far.1, ⟨hw, ?_, h.mo.base⟩, ⟨h.far.1, fun j hj => h.far.2 j (hA j hj)⟩, h.below.trans (hg.below (B := w0.heap.size) (fun j hj => by have := h.mo.base; omega) h.below.size)⟩
  refine hl.keep fun j hj => hg.block j (hl.lt hj).2 fun e => ?_
  subst e
  exact h.mo.notOwn (hA _ hj)
theorem AyAt.stored (h : AyAt w a p Ak ck F) (hg : Grew (fun j => j = g) w w') (hne : a ≠ g) : AyAt w' a p Ak ck F := ⟨h.blk.grew hg hne, h.far⟩
end
def YRel (L : LogSpec) (w0 : World) (D g n : Nat) (lv i : Value) (wr : World) : Prop := ∃ (k : Nat) (M : Lg) (fr : Bool) (A : Option Addr) (c : Nat) (F : Nat → Prop), k ≤ n ∧ k ≤ 60 ∧ M.used ≤ k ∧ i = .int .i64 k ∧ BothAt L w0 wr lv D g M fr A c F
def YCut (L : LogSpec) (w0 : World) (D g u : Nat) (lv : Value) (wr : World) : Prop := ∃ (M : Lg) (fr : Bool) (A : Option Addr) (c : Nat) (F : Nat → Prop), M.used ≤ u ∧ BothAt L w0 wr lv D g M fr A c F

end Go.Proofs.YtgfoekbdmgljbaaDoor
