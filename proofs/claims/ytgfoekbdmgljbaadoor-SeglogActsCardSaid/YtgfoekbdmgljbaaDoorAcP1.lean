/-
  From a law's contract to its row: opening an argument of bytes; the end of a law.
-/
import Derived.Test.YtgfoekbdmgljbaaDoorRows
import Derived.Test.YtgfoekbdmgljbaaDoorSbP1
import Derived.ProofKit
import Derived.SizedLaws
import Derived.Carry
import Derived.Test.YtgfoekbdmgljbaaDoorSbP2
import Derived.Test.YtgfoekbdmgljbaaDoorCards
import Derived.Test.YtgfoekbdmgljbaaDoorTie
import Derived.LaidLaws
import Derived.Lay
import Derived.Handed
import Derived.Lib.LaidTab
import Derived.ChangeArms
import Derived.Deep.Slices
import Derived.Deep.Grids
import Derived.Test.YtgfoekbdmgljbaaDoorSbP4
import Derived.Deep.RegionLawGrows
import Derived.Deep.RegionHeld3
import Derived.IntWalk
import Derived.Deep.CutRange
import Derived.Deep.CutBlock
import Derived.Outline
import Derived.Deep.RegionLaw
import Derived.BigQuiet
import Derived.BigRegion
import Derived.Deep.QuietTactic
namespace Go.Proofs.YtgfoekbdmgljbaaDoor
open Go.ChangeShapes Go.WideShapes Go.ChangeAt Go.RowKit

theorem Tryd.own : ownKnob Tryd.prog.godebug = none := by kernel_rfl
theorem Tryd.laidOut : laidOutB Tryd.prog = true := by kernel_rfl

theorem bc_of_int (n : Int) (h : (Lit.int .u8 n).wf = true) : Value.int .u8 n = bc (UInt8.ofNat n.toNat) := by
  have h1 : IntKind.u8.min = 0 := rfl
  have h2 : IntKind.u8.max = 255 := rfl
  simp only [Lit.wf, Bool.and_eq_true, decide_eq_true_eq] at h
  unfold bc
  rw [UInt8.toNat_ofNat', Nat.mod_eq_of_lt (by omega)]
  congr 1
  omega

set_option maxRecDepth 20000 in
/-- An argument of bytes: whatever it is, it reads as a list. -/
theorem open_row_u8c {H : Type} {enc : TypeId × Value → H} {W : World} {base : Nat} {t : TypeId} {v : Value} {d : DataW H} {p : List MemPlace} (hc : Tryd.prog.cellsOf 5 = 1) (ht : Tryd.prog.underlying t = some (.slice 5))
    (hval : Value.okWide Tryd.prog W .any base t v) (h : DataW.Trod enc Tryd.prog W 0 (fun _ => true) true t v d p) (hlt : ∀ x ∈ p, x.block < W.heap.size) :
    ∃ (A : Option Addr) (m c : Nat) (l : List UInt8), v = .slice A m c ∧ l.length = m ∧ Row W W.heap.size A (l.map bc) ∧ m ≤ c ∧ m ≤ maxLen ∧ c ≤ maxLen ∧ (m = 0 ∨ ∃ el sp, d = .slice el sp ∧ el.length = m) := by
  obtain ⟨a0, len, cap, rfl⟩ := okWide_slice ht hval
  obtain ⟨fuel, hf⟩ := h
  rcases open_ints ht Tryd.underlying5 hc hf with ⟨hcs, hx⟩ | ⟨a, len', cap', zs, hcs, _, hl, hm, hz, hx, hcell, hwz⟩
  · simp [Value.cells] at hcs
    obtain ⟨rfl, rfl, rfl⟩ := hcs
    exact ⟨none, 0, 0, [], rfl, rfl, Row.empty _ _ _, Nat.le_refl _, Nat.zero_le _, Nat.zero_le _, .inl rfl⟩
  · simp [Value.cells] at hcs
    obtain ⟨rfl, rfl, rfl⟩ := hcs
    simp only [Prod.mk.injEq] at hx
    obtain ⟨rfl, rfl⟩ := hx
    simp only [if_true] at hz
    refine ⟨some a, len, cap, (zs.take len).map fun n => UInt8.ofNat n.toNat, rfl, by simp; omega, fun hne => ?_, hl, Nat.le_trans hl hm, hm, .inr ⟨_, _, rfl, by simp [lits]; omega⟩⟩
    have hpos : 0 < zs.length := by
      rcases zs with _ | ⟨z, zs⟩
      · simp at hne
      · simp
    obtain ⟨b, off, spot⟩ := a
    have hspot : spot = none := by simpa [Addr.add] using World.cell?_spot (hcell 0 hpos)
    subst hspot
    refine ⟨b, off, rfl, hlt (.cell b off) (MemPlace.mem_row.2 ⟨0, hpos, by simp⟩), fun j u hu => ?_⟩
    have hj : j < zs.length := by
      have := (List.getElem?_eq_some_iff.1 hu).1
      simp at this
      omega
    have hjl : j < len := by
      have := (List.getElem?_eq_some_iff.1 hu).1
      simp at this
      omega
    have h1 := hcell j hj
    rw [addr_add] at h1
    rw [h1]
    have e : zs.getD j 0 = zs[j] := by simp [List.getD, List.getElem?_eq_getElem hj]
    rw [List.getElem?_map, List.getElem?_map, List.getElem?_take, if_pos hjl, List.getElem?_eq_getElem hj] at hu
    simp only [Option.map_some] at hu
    rw [← hu, e, bc_of_int _ (hwz _ (List.getElem_mem hj))]

set_option maxRecDepth 20000 in
theorem open_row_u8 {H : Type} {enc : TypeId × Value → H} {W : World} {base : Nat} {t : TypeId} {v : Value} {d : DataW H} {p : List MemPlace} (hc : Tryd.prog.cellsOf 5 = 1) (ht : Tryd.prog.underlying t = some (.slice 5))
    (hval : Value.okWide Tryd.prog W .any base t v) (h : DataW.Trod enc Tryd.prog W 0 (fun _ => true) true t v d p) (hlt : ∀ x ∈ p, x.block < W.heap.size) :
    ∃ (A : Option Addr) (m c : Nat) (l : List UInt8), v = .slice A m c ∧ l.length = m ∧ Row W W.heap.size A (l.map bc) ∧ m ≤ c ∧ m ≤ maxLen ∧ (m = 0 ∨ ∃ el sp, d = .slice el sp ∧ el.length = m) := by
  obtain ⟨A, m, c, l, h1, h2, h3, h4, h5, _, h6⟩ := open_row_u8c hc ht hval h hlt
  exact ⟨A, m, c, l, h1, h2, h3, h4, h5, h6⟩

theorem row_reach {H : Type} {P : Program} {ts : List TypeId} {ds : List (DataW H)} {d : DataW H} {m : Nat} (h : (DataW.weightsEach P ts ds).all (· ≤ reachBytes) = true) {j : Nat} {t e : TypeId} (ht : ts[j]? = some t) (hd : ds[j]? = some d) (hu : P.underlying t = some (.slice e))
    (hb : P.bytesOf e = 1) (hm : m = 0 ∨ ∃ el sp, d = .slice el sp ∧ el.length = m) : m ≤ 140737488351232 := by
  rcases hm with rfl | ⟨el, sp, rfl, hl⟩
  · omega
  · have := sized_slice h ht hd hu
    rw [hb] at this
    simp only [reachBytes] at this
    omega
theorem u8_cells : Tryd.prog.cellsOf 5 = 1 := by kernel_rfl
theorem u8_bytes : Tryd.prog.bytesOf 5 = 1 := by kernel_rfl

theorem below_trodAll {H : Type} {enc : TypeId × Value → H} {P : Program} (hl : laidOutB P = true) {W W' : World} (hb : Below W.heap.size W W') :
    ∀ {ts : List TypeId} {vs : List Value} {ds : List (DataW H)} {ps : List MemPlace}, ts.all (fun t => P.readableRec t && decide (t < P.types.size)) = true →
      DataW.TrodAll enc P W 0 (fun _ => true) true ts vs ds ps → (∀ x ∈ ps, x.block < W.heap.size) → DataW.TrodAll enc P W' 0 (fun b => decide (b < W.heap.size)) true ts vs ds ps
  | [], [], [], _, _, h, _ => h
  | [], [], _ :: _, _, _, h, _ => h.elim
  | [], _ :: _, _, _, _, h, _ => h.elim
  | _ :: _, [], _, _, _, h, _ => h.elim
  | _ :: _, _ :: _, [], _, _, h, _ => h.elim
  | t :: ts, v :: vs, d :: ds, ps, ht, h, hlt => by
    obtain ⟨p, q, h1, h2, rfl⟩ := h
    simp only [List.all_cons, Bool.and_eq_true, decide_eq_true_eq] at ht
    exact ⟨p, q, Below.trod hl ht.1.1 ht.1.2 h1 hb (fun x hx => hlt x (List.mem_append_left _ hx)), below_trodAll hl hb ht.2 h2 (fun x hx => hlt x (List.mem_append_right _ hx)), rfl⟩

/-- The end of a law: it has answered true, and nothing that was there has turned. -/
theorem law_post {H : Type} {enc : TypeId × Value → H} {P : Program} {f : Func} {s : ChangeSpec} {W W' : World} {args : Array Value} {ds gs : List (DataW H)} {before : List MemPlace} {tb : TypeId}
    (hl : laidOutB P = true) (hts : f.params.toList.all (fun t => P.readableRec t && decide (t < P.types.size)) = true) (hrt : f.resultTypes.toList = [tb]) (hsz : f.resultTypes.size = 1) (hbool : P.underlying tb = some .bool) (hsv : s.vars = [])
    (hW : DataW.Whole enc P f.params.toList s.vars false W args.toList ds gs before)
    (hres : (s.fn H (ds ++ gs)).results = [.lit (.bool true)]) (hargs : (s.fn H (ds ++ gs)).args = ds) (hvars : (s.fn H (ds ++ gs)).vars = [])
    (hb : Below W.heap.size W W') : s.post enc P f false true false false W args (.bool true) W' := by
  have hW' := hW
  obtain ⟨p, q, hA, hV, rfl, _, _⟩ := hW
  rw [hsv] at hV
  obtain ⟨rfl, rfl⟩ := trodVars_none hV
  have hlt : ∀ x ∈ p, x.block < W.heap.size := fun x hx => hW'.lt x (List.mem_append_left _ hx)
  refine ⟨ds, [], p ++ [], [], p, [], hW', ?_, ?_, ?_, hb.frame _, fun h => by cases h⟩
  · rw [hrt, hsz, hres]
    exact trodAll_mk1 (shut_bool hbool true)
  · rw [hargs]
    exact below_trodAll hl hb hts hA hlt
  · rw [hsv, hvars]
    rfl

theorem i64_le {n : Int} (h : (Lit.int .i64 n).wf = true) : -9223372036854775808 ≤ n ∧ n ≤ 9223372036854775807 := by
  have h1 : IntKind.i64.min = -9223372036854775808 := rfl
  have h2 : IntKind.i64.max = 9223372036854775807 := rfl
  simp only [Lit.wf, Bool.and_eq_true, decide_eq_true_eq] at h
  omega

end Go.Proofs.YtgfoekbdmgljbaaDoor

namespace Go.Proofs.YtgfoekbdmgljbaaDoor
open Go.ChangeShapes Go.WideShapes Go.ChangeAt Go.RowKit

/-- What the rows list. -/
def laidL : List (String × DataW Unit) := [("gazetteer/sector.sizes", Rows.laid_gazetteer_sector_sizes)]
theorem int_one : Tryd.prog.cellsOf 3 = 1 := by kernel_rfl
theorem int5_five : Tryd.prog.cellsOf 103 = 5 := by kernel_rfl
theorem sizes_global : Tryd.prog.globalNamed "gazetteer/sector.sizes" = some 1 := by kernel_rfl
theorem sizes_type : (Tryd.prog.globals[(1 : Nat)]?).map (·.type) = some 103 := by kernel_rfl
theorem sizes_of_laid {W : World} (h : laidMetH Tryd.prog laidL W) : SizesAt W := by
  have h1 : laidMet Tryd.prog laidL W := by
    have e := MakeChecks.laidMetH_plain Tryd.prog laidL W (by kernel_rfl)
    rwa [e] at h
  have h2 : Lib.TabIs Tryd.prog W "gazetteer/sector.sizes" .i64 szL :=
    Lib.tabIs_of_head sizes_global sizes_type Tryd.underlying103 Tryd.underlying3 int_one int5_five (rest := []) h1
  unfold Lib.TabIs World.var? at h2
  rw [sizes_global, Option.bind_some] at h2
  unfold SizesAt
  split at h2
  · rename_i cs t fr hh
    injection h2 with h2
    subst h2
    exact ⟨t, fr, hh⟩
  · cases h2

theorem head_five : Tryd.prog.cellsOf 79 = 5 := by kernel_rfl
set_option maxRecDepth 20000 in
/-- An argument that is a head: whatever it is, it is five numbers. -/
theorem open_head {H : Type} {enc : TypeId × Value → H} {W : World} {base : Nat} {v : Value} {d : DataW H} {p : List MemPlace}
    (hval : Value.okWide Tryd.prog W .any base 79 v) (h : DataW.Trod enc Tryd.prog W 0 (fun _ => true) true 79 v d p) :
    ∃ x : SH, v = x.val ∧ (Lit.int .i64 x.kind).wf = true ∧ (Lit.int .i64 x.epoch).wf = true ∧ (Lit.int .i64 x.seq).wf = true ∧ (Lit.int .i64 x.part).wf = true ∧ (Lit.int .i64 x.parts).wf = true := by
  obtain ⟨cs, rfl, hsz⟩ := okWide_struct Tryd.underlying79 hval
  obtain ⟨l⟩ := cs
  have hl : l.length = 5 := by simpa using hsz.trans head_five
  match l, hl with
  | [u0, u1, u2, u3, u4], _ =>
    obtain ⟨fuel, hf⟩ := h
    obtain ⟨ys, n, _, hy, _, hyl, hg⟩ := DataW.trod_struct Tryd.underlying79 hf
    have f0 := hg 0 _ rfl
    have f1 := hg 1 _ rfl
    have f2 := hg 2 _ rfl
    have f3 := hg 3 _ rfl
    have f4 := hg 4 _ rfl
    have hyl' : ys.length = 5 := hyl
    match ys, hyl' with
    | [y0, y1, y2, y3, y4], _ =>
      obtain ⟨z0, e0, _, w0⟩ := DataW.trod_int Tryd.underlying3 (show DataW.trod enc Tryd.prog W 0 (fun _ => true) true n 3 [u0] = some y0 from f0)
      obtain ⟨z1, e1, _, w1⟩ := DataW.trod_int Tryd.underlying3 (show DataW.trod enc Tryd.prog W 0 (fun _ => true) true n 3 [u1] = some y1 from f1)
      obtain ⟨z2, e2, _, w2⟩ := DataW.trod_int Tryd.underlying3 (show DataW.trod enc Tryd.prog W 0 (fun _ => true) true n 3 [u2] = some y2 from f2)
      obtain ⟨z3, e3, _, w3⟩ := DataW.trod_int Tryd.underlying3 (show DataW.trod enc Tryd.prog W 0 (fun _ => true) true n 3 [u3] = some y3 from f3)
      obtain ⟨z4, e4, _, w4⟩ := DataW.trod_int Tryd.underlying3 (show DataW.trod enc Tryd.prog W 0 (fun _ => true) true n 3 [u4] = some y4 from f4)
      injection e0 with e0
      injection e1 with e1
      injection e2 with e2
      injection e3 with e3
      injection e4 with e4
      subst e0; subst e1; subst e2; subst e3; subst e4
      exact ⟨⟨z0, z1, z2, z3, z4⟩, rfl, w0, w1, w2, w3, w4⟩

theorem u16_nat {n : Int} (h : (Lit.int .u16 n).wf = true) : ∃ k : Nat, n = k ∧ k < 65536 := by
  have h1 : IntKind.u16.min = 0 := rfl
  have h2 : IntKind.u16.max = 65535 := rfl
  simp only [Lit.wf, Bool.and_eq_true, decide_eq_true_eq] at h
  exact ⟨n.toNat, by omega, by omega⟩

end Go.Proofs.YtgfoekbdmgljbaaDoor

namespace Go.Proofs.YtgfoekbdmgljbaaDoor
open Go.ChangeShapes Go.WideShapes Go.ChangeAt Go.RowKit

theorem u64_le {n : Int} (h : (Lit.int .u64 n).wf = true) : 0 ≤ n ∧ n ≤ 18446744073709551615 := by
  have h1 : IntKind.u64.min = 0 := rfl
  have h2 : IntKind.u64.max = 18446744073709551615 := rfl
  simp only [Lit.wf, Bool.and_eq_true, decide_eq_true_eq] at h
  omega
theorem u64_nat {n : Int} (h : (Lit.int .u64 n).wf = true) : ∃ k : Nat, n = k := ⟨n.toNat, by have := u64_le h; omega⟩
theorem u64_lt {k : Nat} (h : (Lit.int .u64 (k : Int)).wf = true) : k < 18446744073709551616 := by have := u64_le h; omega

end Go.Proofs.YtgfoekbdmgljbaaDoor

namespace Go.Proofs.YtgfoekbdmgljbaaDoor
open Go.ChangeShapes Go.WideShapes Go.ChangeAt Go.RowKit

/-- What the rows list. -/
def laidU : List (String × DataW Unit) := [("gazetteer/sector.sizes", Rows.laid_gazetteer_sector_sizes), ("gazetteer/super.head", Rows.laid_gazetteer_super_head)]
theorem shead_global : Tryd.prog.globalNamed "gazetteer/super.head" = some 0 := by kernel_rfl
theorem shead_type : (Tryd.prog.globals[(0 : Nat)]?).map (·.type) = some 79 := by kernel_rfl
theorem blk_five : Tryd.prog.cellsOf 63 = 5 := by kernel_rfl

set_option maxRecDepth 20000 in
/-- Five whole numbers in a row, as they are read. -/
theorem read_sh {H : Type} {enc : TypeId × Value → H} {W : World} {sp : Nat → Bool} {held : Bool} {fuel : Nat} {cs : List Value} {x : DataW H × List MemPlace}
    (h : DataW.trod enc Tryd.prog W 0 sp held fuel 79 cs = some x) :
    ∃ z0 z1 z2 z3 z4 : Int, cs = [.int .i64 z0, .int .i64 z1, .int .i64 z2, .int .i64 z3, .int .i64 z4] ∧ x.1 = .agg [.lit (.int .i64 z0), .lit (.int .i64 z1), .lit (.int .i64 z2), .lit (.int .i64 z3), .lit (.int .i64 z4)] ∧
      (Lit.int .i64 z0).wf = true ∧ (Lit.int .i64 z1).wf = true ∧ (Lit.int .i64 z2).wf = true ∧ (Lit.int .i64 z3).wf = true ∧ (Lit.int .i64 z4).wf = true := by
  obtain ⟨ys, n, _, hy, hcl, hyl, hg⟩ := DataW.trod_struct Tryd.underlying79 h
  have hl : cs.length = 5 := hcl.trans head_five
  match cs, hl with
  | [u0, u1, u2, u3, u4], _ =>
    have hyl' : ys.length = 5 := hyl
    have f0 := hg 0 _ rfl
    have f1 := hg 1 _ rfl
    have f2 := hg 2 _ rfl
    have f3 := hg 3 _ rfl
    have f4 := hg 4 _ rfl
    match ys, hyl' with
    | [y0, y1, y2, y3, y4], _ =>
      obtain ⟨z0, e0, d0, w0⟩ := DataW.trod_int Tryd.underlying3 (show DataW.trod enc Tryd.prog W 0 sp held n 3 [u0] = some y0 from f0)
      obtain ⟨z1, e1, d1, w1⟩ := DataW.trod_int Tryd.underlying3 (show DataW.trod enc Tryd.prog W 0 sp held n 3 [u1] = some y1 from f1)
      obtain ⟨z2, e2, d2, w2⟩ := DataW.trod_int Tryd.underlying3 (show DataW.trod enc Tryd.prog W 0 sp held n 3 [u2] = some y2 from f2)
      obtain ⟨z3, e3, d3, w3⟩ := DataW.trod_int Tryd.underlying3 (show DataW.trod enc Tryd.prog W 0 sp held n 3 [u3] = some y3 from f3)
      obtain ⟨z4, e4, d4, w4⟩ := DataW.trod_int Tryd.underlying3 (show DataW.trod enc Tryd.prog W 0 sp held n 3 [u4] = some y4 from f4)
      injection e0 with e0
      injection e1 with e1
      injection e2 with e2
      injection e3 with e3
      injection e4 with e4
      subst e0; subst e1; subst e2; subst e3; subst e4
      exact ⟨z0, z1, z2, z3, z4, rfl, by rw [hy]; simp [d0, d1, d2, d3, d4], w0, w1, w2, w3, w4⟩
set_option maxRecDepth 20000 in
theorem read_blk {H : Type} {enc : TypeId × Value → H} {W : World} {sp : Nat → Bool} {held : Bool} {fuel : Nat} {cs : List Value} {x : DataW H × List MemPlace}
    (h : DataW.trod enc Tryd.prog W 0 sp held fuel 63 cs = some x) :
    ∃ z0 z1 z2 z3 z4 : Int, cs = [.int .i64 z0, .int .i64 z1, .int .i64 z2, .int .i64 z3, .int .i64 z4] ∧ x.1 = .agg [.lit (.int .i64 z0), .lit (.int .i64 z1), .lit (.int .i64 z2), .lit (.int .i64 z3), .lit (.int .i64 z4)] ∧
      (Lit.int .i64 z0).wf = true ∧ (Lit.int .i64 z1).wf = true ∧ (Lit.int .i64 z2).wf = true ∧ (Lit.int .i64 z3).wf = true ∧ (Lit.int .i64 z4).wf = true := by
  obtain ⟨ys, n, _, hy, hcl, hyl, hg⟩ := DataW.trod_struct Tryd.underlying63 h
  have hl : cs.length = 5 := hcl.trans blk_five
  match cs, hl with
  | [u0, u1, u2, u3, u4], _ =>
    have hyl' : ys.length = 5 := hyl
    have f0 := hg 0 _ rfl
    have f1 := hg 1 _ rfl
    have f2 := hg 2 _ rfl
    have f3 := hg 3 _ rfl
    have f4 := hg 4 _ rfl
    match ys, hyl' with
    | [y0, y1, y2, y3, y4], _ =>
      obtain ⟨z0, e0, d0, w0⟩ := DataW.trod_int Tryd.underlying3 (show DataW.trod enc Tryd.prog W 0 sp held n 3 [u0] = some y0 from f0)
      obtain ⟨z1, e1, d1, w1⟩ := DataW.trod_int Tryd.underlying3 (show DataW.trod enc Tryd.prog W 0 sp held n 3 [u1] = some y1 from f1)
      obtain ⟨z2, e2, d2, w2⟩ := DataW.trod_int Tryd.underlying3 (show DataW.trod enc Tryd.prog W 0 sp held n 3 [u2] = some y2 from f2)
      obtain ⟨z3, e3, d3, w3⟩ := DataW.trod_int Tryd.underlying3 (show DataW.trod enc Tryd.prog W 0 sp held n 3 [u3] = some y3 from f3)
      obtain ⟨z4, e4, d4, w4⟩ := DataW.trod_int Tryd.underlying3 (show DataW.trod enc Tryd.prog W 0 sp held n 3 [u4] = some y4 from f4)
      injection e0 with e0
      injection e1 with e1
      injection e2 with e2
      injection e3 with e3
      injection e4 with e4
      subst e0; subst e1; subst e2; subst e3; subst e4
      exact ⟨z0, z1, z2, z3, z4, rfl, by rw [hy]; simp [d0, d1, d2, d3, d4], w0, w1, w2, w3, w4⟩

theorem cells_of_var {W : World} {n : String} {g : Nat} {cs : Array Value} (hg : Tryd.prog.globalNamed n = some g) (h : W.var? Tryd.prog n = some cs) : ∃ t fr, W.heap[g]? = some (.cells cs t fr) := by
  unfold World.var? at h
  rw [hg, Option.bind_some] at h
  split at h
  · rename_i cs' t fr hh
    injection h with h
    subst h
    exact ⟨t, fr, hh⟩
  · cases h

theorem vars_of_laid {W : World} (h : laidMetH Tryd.prog laidU W) : VarsAt W := by
  have h1 : laidMet Tryd.prog laidU W := by
    have e := MakeChecks.laidMetH_plain Tryd.prog laidU W (by kernel_rfl)
    rwa [e] at h
  refine ⟨?_, ?_⟩
  · have h2 : Lib.TabIs Tryd.prog W "gazetteer/sector.sizes" .i64 szL :=
      Lib.tabIs_of_head sizes_global sizes_type Tryd.underlying103 Tryd.underlying3 int_one int5_five (rest := [("gazetteer/super.head", Rows.laid_gazetteer_super_head)]) h1
    unfold Lib.TabIs at h2
    exact cells_of_var sizes_global h2
  · obtain ⟨ps, ⟨_, _, _, _, _, _, _, _, _, _, ⟨g, t, cs, fuel, p, q, hg, ht, hv, hd, _, _⟩, _⟩, _⟩ := h1
    obtain rfl := Option.some.inj (shead_global.symm.trans hg)
    obtain rfl := Option.some.inj (shead_type.symm.trans ht)
    obtain ⟨z0, z1, z2, z3, z4, e, ed, _⟩ := read_sh hd
    obtain ⟨ty, fr, hh⟩ := cells_of_var shead_global hv
    refine ⟨ty, fr, ?_⟩
    have e2 : cs = supH.cells.toArray := by
      have ed' : (.agg [.lit (.int .i64 1), .lit (.int .i64 0), .lit (.int .i64 0), .lit (.int .i64 0), .lit (.int .i64 1)] : DataW Unit) = .agg [.lit (.int .i64 z0), .lit (.int .i64 z1), .lit (.int .i64 z2), .lit (.int .i64 z3), .lit (.int .i64 z4)] := ed
      simp only [DataW.agg.injEq, List.cons.injEq, DataW.lit.injEq, Lit.int.injEq, true_and, and_true] at ed'
      obtain ⟨rfl, rfl, rfl, rfl, rfl⟩ := ed'
      exact Array.toList_inj.1 e
    rw [hh, e2]

theorem u8_nat {n : Int} (h : (Lit.int .u8 n).wf = true) : ∃ k : Nat, n = k ∧ k < 256 := by
  have h1 : IntKind.u8.min = 0 := rfl
  have h2 : IntKind.u8.max = 255 := rfl
  simp only [Lit.wf, Bool.and_eq_true, decide_eq_true_eq] at h
  exact ⟨n.toNat, by omega, by omega⟩
/-- A block as an argument has it. -/
structure BlkIn (b : Blk) : Prop where
  gen : (Lit.int .i64 b.gen).wf = true
  epoch : (Lit.int .i64 b.epoch).wf = true
  first : (Lit.int .i64 b.first).wf = true
  begun : (Lit.int .i64 b.begun).wf = true
  count : (Lit.int .i64 b.count).wf = true
set_option maxRecDepth 20000 in
/-- An argument that is a block: whatever it is, it is five numbers. -/
theorem open_blk {H : Type} {enc : TypeId × Value → H} {W : World} {base : Nat} {v : Value} {d : DataW H} {p : List MemPlace}
    (hval : Value.okWide Tryd.prog W .any base 63 v) (h : DataW.Trod enc Tryd.prog W 0 (fun _ => true) true 63 v d p) : ∃ b : Blk, v = b.val ∧ BlkIn b := by
  obtain ⟨cs, rfl, _⟩ := okWide_struct Tryd.underlying63 hval
  obtain ⟨fuel, hf⟩ := h
  obtain ⟨z0, z1, z2, z3, z4, e, _, w0, w1, w2, w3, w4⟩ := read_blk (show DataW.trod enc Tryd.prog W 0 (fun _ => true) true fuel 63 cs.toList = some (d, p) from hf)
  have e2 : cs = #[.int .i64 z0, .int .i64 z1, .int .i64 z2, .int .i64 z3, .int .i64 z4] := Array.toList_inj.1 e
  exact ⟨⟨z0, z1, z2, z3, z4⟩, by rw [e2]; rfl, w0, w1, w2, w3, w4⟩

theorem addr_add_addU (a : Addr) (m n : Nat) : (a.add m).add n = a.add (m + n) := by
  unfold Addr.add
  by_cases h1 : m = 0 <;> by_cases h2 : n = 0 <;> simp [h1, h2] <;> omega
/-- What a statement's argument of blocks is. -/
def BlksIn (w : World) (H : Nat) (A : Option Addr) (bs : List Blk) : Prop :=
  ∀ i (h : i < bs.length), ∃ b off, A = some ⟨b, off, none⟩ ∧ b < H ∧ (∀ j v, (bs[i]).cells[j]? = some v → w.cell? ⟨b, off + (i * 5 + j), none⟩ = some v) ∧ BlkIn bs[i]

set_option maxRecDepth 20000 in
theorem open_row_blks {H : Type} {enc : TypeId × Value → H} {W : World} {base : Nat} {t : TypeId} {v : Value} {d : DataW H} {p : List MemPlace} (ht : Tryd.prog.underlying t = some (.slice 63))
    (hval : Value.okWide Tryd.prog W .any base t v) (h : DataW.Trod enc Tryd.prog W 0 (fun _ => true) true t v d p) (hlt : ∀ x ∈ p, x.block < W.heap.size) :
    ∃ (A : Option Addr) (c : Nat) (bs : List Blk), v = .slice A bs.length c ∧ BlksIn W W.heap.size A bs ∧ bs.length ≤ maxLen := by
  obtain ⟨a0, len, cap, rfl⟩ := okWide_slice ht hval
  obtain ⟨fuel, hf⟩ := h
  rcases Deep.open_slice ht hf with ⟨hcs, hx⟩ | ⟨a, len', cap', m, n, D, Pl, hcs, _, hl, hm, hmm, hx, hy⟩
  · simp [Value.cells] at hcs
    obtain ⟨rfl, rfl, rfl⟩ := hcs
    exact ⟨none, 0, [], rfl, fun i h => absurd h (Nat.not_lt_zero _), Nat.zero_le _⟩
  · simp [Value.cells] at hcs
    obtain ⟨rfl, rfl, rfl⟩ := hcs
    simp only [if_true] at hmm
    subst hmm
    simp only [Prod.mk.injEq] at hx
    obtain ⟨rfl, rfl⟩ := hx
    rw [blk_five] at hy hlt
    have each : ∀ i, i < len → ∃ y : Blk, (∀ j v, y.cells[j]? = some v → W.cell? (a.add (i * 5 + j)) = some v) ∧ BlkIn y := by
      intro i hi
      obtain ⟨cs, hc, hr⟩ := hy i (by omega)
      obtain ⟨_, hc5, hat⟩ := World.cells?_some hc
      obtain ⟨z0, z1, z2, z3, z4, e, _, w0, w1, w2, w3, w4⟩ := read_blk hr
      refine ⟨⟨z0, z1, z2, z3, z4⟩, fun j v hj => ?_, w0, w1, w2, w3, w4⟩
      have hj5 : j < 5 := by simpa [Blk.cells] using (List.getElem?_eq_some_iff.1 hj).1
      have := hat j hj5
      have e2 : cs[j]? = some v := by rw [e]; exact hj
      rw [e2, addr_add_addU] at this
      exact this
    haveI : Inhabited Blk := ⟨bzero⟩
    obtain ⟨Y, hY⟩ := Deep.choose_lt each
    have hnl : ((List.range len).map fun i => Y i).length = len := by simp
    refine ⟨some a, m, (List.range len).map fun i => Y i, by rw [hnl], fun i hi => ?_, by rw [hnl]; omega⟩
    rw [hnl] at hi
    obtain ⟨hcell, hp⟩ := hY i hi
    obtain ⟨b, off, spot⟩ := a
    have hspot : spot = none := by
      obtain ⟨hc0, _⟩ := hY 0 (by omega)
      have h := World.cell?_spot (hc0 0 _ rfl)
      simpa [Addr.add] using h
    subst hspot
    refine ⟨b, off, rfl, hlt (.cell b off) (List.mem_append_left _ (MemPlace.mem_row.2 ⟨0, by omega, by simp⟩)), fun j v hj => ?_, by simpa using hp⟩
    have h1 := hcell j v (by simpa using hj)
    rw [addr_add] at h1
    exact h1

end Go.Proofs.YtgfoekbdmgljbaaDoor

namespace Go.Proofs.YtgfoekbdmgljbaaDoor
open Go.RowKit

theorem parts_any (n : Nat) (h : n ≤ 140737488355328) (w : World) : Calls Tryd.prog 10 #[.int .i64 (n : Int)] w (Told w (.int .i64 (partsN n : Int))) := by
  by_cases h1 : n ≤ 496
  · have d1 : decide ((n : Int) ≤ 496) = true := by simp; omega
    have HP := Lib.hid (show partsN n = 1 from if_pos h1)
    go_enter Tryd.func10, Tryd.ntmps10
    go_wp2
    go_ret
    exact ⟨by rw [HP.out]; rfl, rfl⟩
  · have d1 : decide ((n : Int) ≤ 496) = false := by simp; omega
    have HP := Lib.hid (show ((n : Int) + 495).tdiv 496 = (partsN n : Int) by
      unfold partsN
      rw [if_neg h1, Int.tdiv_eq_ediv_of_nonneg (by omega)]
      omega)
    have r0 : ((n : Int) + 495).tdiv 496 = (partsN n : Int) := HP.out
    have hpb : (partsN n : Int) ≤ 140737488355328 := by unfold partsN; split <;> omega
    go_enter Tryd.func10, Tryd.ntmps10
    go_wp2
    go_ret
    exact ⟨by rfl, rfl⟩

def five1 : List UInt8 := [5]
variable (L : LogSpec)
set_option maxHeartbeats 400000 in
theorem yanswers_any (w : World) (hv : L.Vars w) : Calls Tryd.prog 8 #[] w (TrueB w) := by
  have HN := Lib.hid (h_new w w (Below.refl _ _) 8 (by decide) (by decide))
  have HV := Lib.hid hv
  clear hv
  go_enter Tryd.func8, Tryd.ntmps8
  go_wp2_with fail
  refine HN.out.mono ?_
  rintro e w1 ⟨D, rfl, hh1⟩
  have HO := Lib.hid (L.open_new HV.out hh1 (by decide) (by decide))
  clear hh1
  go_wp2_with fail
  refine HO.out.mono ?_
  rintro e w2 ⟨lv, F, rfl, hat, hb2⟩
  have HAT := Lib.hid (LogSpec.at_below hat ((Below.refl _ _).alloc (Nat.le_refl _) (.cells (five1.map bc).toArray 5)))
  have HR := Lib.hid (Row.made w2 (five1.map bc).toArray 5)
  have HB2 := Lib.hid (hb2.alloc hb2.size (.cells (five1.map bc).toArray 5))
  clear hat hb2
  go_wp2_with fail
  refine (L.append HAT.out (by decide) (some ⟨w2.heap.size, 0, none⟩) 1 1 five1 rfl (HR.out.mono (by simp)) (Nat.le_refl _) (by decide)).mono ?_
  rintro e w3 ⟨z, g, M', F', rfl, ha, hat3, hm3⟩
  have ho := L.at_own HAT.out
  have HB3 := Lib.hid (HB2.out.trans (hm3.below (fun j hj => (ho.2 j hj).1) ho.1))
  have hp : partsN five1.length = 1 := rfl
  rcases ha with ⟨h1, _⟩ | ⟨_, h1, _⟩ | ⟨_, _, rfl, hz, hM⟩ | ⟨_, _, h1, _⟩
  · cases h1
  · exact absurd h1 (by decide)
  · have hz' : z = 0 := hz
    subst hz'
    have hb4 : readGB M' 0 = [5] := by rw [hM]; decide
    have hg4 : readGE M' 0 = 0 := by rw [hM]; decide
    have hrd := L.read hat3 (by rw [hM]) 0 (by decide) (by decide)
    rw [hb4, hg4] at hrd
    have HRD := Lib.hid hrd
    have HO3 := Lib.hid (L.at_own hat3)
    clear hat3 hm3 ho hz hrd hb4 hg4 hM
    go_wp2_with fail
    refine HRD.out.mono ?_
    rintro e w4 ⟨A4, c4, F4, rfl, hown4, hat4, hm4⟩
    obtain ⟨gb, rfl⟩ := own_some hown4 (by decide)
    have k0 : w4.cell? ⟨gb, 0, none⟩ = some (.int .u8 5) := (hown4.cellAt 0 (by decide)).trans rfl
    have HB4 := Lib.hid (HB3.out.trans (hm4.below (fun j hj => (HO3.out.2 j hj).1) HO3.out.1))
    clear hown4 hat4 hm4
    go_wp2
    go_ret
    exact ⟨rfl, HB4.out⟩
  · cases h1

end Go.Proofs.YtgfoekbdmgljbaaDoor

namespace Go.Proofs.YtgfoekbdmgljbaaDoor
open Go.RowKit

def ownA (A : Option Addr) (g : Nat) : Prop := ∃ off, A = some ⟨g, off, none⟩
/-- The model's list: slices of the argument's bytes, in a row of the statement's own. -/
structure ListAt (w0 w : World) (A : Option Addr) (c : Nat) (rs : List (List UInt8)) : Prop where
  vals : ∃ vs : List Value, vs.length = rs.length ∧ (∀ k, k < rs.length → ∃ Ak ck, vs[k]? = some (.slice Ak (rs.getD k []).length ck) ∧ Row w0 w0.heap.size Ak ((rs.getD k []).map bc)) ∧
    ((A = none ∧ c = 0 ∧ rs = []) ∨ ∃ g off cur, A = some ⟨g, off, none⟩ ∧ w0.heap.size ≤ g ∧ w.heap[g]? = some (.cells cur 35 (0, 0)) ∧ off + c ≤ cur.size ∧ ∀ j u, vs[j]? = some u → cur[off + j]? = some u)
  small : ∀ r ∈ rs, r.length ≤ 16384
  cap : rs.length ≤ c ∧ c ≤ maxLen
section
variable {w0 w w' : World} {A : Option Addr} {c : Nat} {rs : List (List UInt8)}
theorem ListAt.nil (w0 w : World) : ListAt w0 w none 0 [] := ⟨⟨[], rfl, fun k h => absurd h (Nat.not_lt_zero _), .inl ⟨rfl, rfl, rfl⟩⟩, fun r h => by (cases h), ⟨Nat.le_refl _, Nat.zero_le _⟩⟩
theorem ListAt.keep (h : ListAt w0 w A c rs) (hk : ∀ g, ownA A g → w'.heap[g]? = w.heap[g]?) : ListAt w0 w' A c rs := by
  obtain ⟨⟨vs, h1, h2, h3⟩, hs, hc⟩ := h
  refine ⟨⟨vs, h1, h2, ?_⟩, hs, hc⟩
  rcases h3 with h3 | ⟨g, off, cur, rfl, hg, hh, h4, h5⟩
  · exact .inl h3
  · exact .inr ⟨g, off, cur, rfl, hg, (hk g ⟨off, rfl⟩).trans hh, h4, h5⟩
theorem ListAt.lt (h : ListAt w0 w A c rs) {g : Nat} (hg : ownA A g) : w0.heap.size ≤ g ∧ g < w.heap.size := by
  obtain ⟨⟨vs, h1, h2, h3⟩, hs, hc⟩ := h
  obtain ⟨o, rfl⟩ := hg
  rcases h3 with ⟨h3, _⟩ | ⟨g', off, cur, e, hg, hh, h4, h5⟩
  · cases h3
  · injection e with e
    injection e with e
    subst e
    refine ⟨hg, ?_⟩
    rcases Nat.lt_or_ge g w.heap.size with h0 | h0
    · exact h0
    · rw [Array.getElem?_eq_none h0] at hh; cases hh
theorem ListAt.below (h : ListAt w0 w A c rs) (hb : Below w.heap.size w w') : ListAt w0 w' A c rs := h.keep fun g hg => hb.block g (h.lt hg).2
/-- A block of other cells is not the list's. -/
theorem ListAt.not (h : ListAt w0 w A c rs) {g : Nat} {t : TypeId} {X : List Value} (hw : Whole w g t X) (ht : t ≠ 35) : ¬ ownA A g := by
  rintro ⟨o, rfl⟩
  obtain ⟨⟨vs, h1, h2, h3⟩, hs, hc⟩ := h
  rcases h3 with ⟨h3, _⟩ | ⟨g', off, cur, e, hg, hh, h4, h5⟩
  · cases h3
  · injection e with e
    injection e with e
    subst e
    unfold Whole at hw
    rw [hh] at hw
    injection hw with hw
    injection hw with _ hw _
    exact ht hw.symm
theorem ListAt.get (h : ListAt w0 w A c rs) {k : Nat} (hk : k < rs.length) :
    ∃ g off Ak ck, A = some ⟨g, off, none⟩ ∧ w.cell? ⟨g, off + k, none⟩ = some (.slice Ak (rs.getD k []).length ck) ∧ Row w0 w0.heap.size Ak ((rs.getD k []).map bc) := by
  obtain ⟨⟨vs, h1, h2, h3⟩, hs, hc⟩ := h
  obtain ⟨Ak, ck, hv, hr⟩ := h2 k hk
  rcases h3 with ⟨_, _, h3⟩ | ⟨g, off, cur, rfl, hg, hh, h4, h5⟩
  · rw [h3] at hk; exact absurd hk (Nat.not_lt_zero _)
  · exact ⟨g, off, Ak, ck, rfl, by simp only [World.cell?, hh]; exact h5 k _ hv, hr⟩
theorem getD_mem {k : Nat} (hk : k < rs.length) : rs.getD k [] ∈ rs := by
  rw [List.getD_eq_getElem?_getD, List.getElem?_eq_getElem hk]
  exact List.getElem_mem hk
/-- A part of the list. -/
theorem ListAt.part (h : ListAt w0 w A c rs) {k n : Nat} (hk : k + n ≤ rs.length) {A' : Option Addr} (hA : (k = c ∧ A' = A) ∨ (k ≠ c ∧ A' = A.map fun a => ⟨a.block, a.off + k, a.spot⟩)) : ListAt w0 w A' (c - k) ((rs.drop k).take n) := by
  obtain ⟨⟨vs, h1, h2, h3⟩, hs, hc⟩ := h
  have hl : ((rs.drop k).take n).length = n := by rw [List.length_take, List.length_drop]; omega
  refine ⟨⟨(vs.drop k).take n, by rw [hl, List.length_take, List.length_drop]; omega, fun j hj => ?_, ?_⟩, fun r hr => hs r (List.mem_of_mem_drop (List.mem_of_mem_take hr)), by rw [hl]; omega⟩
  · rw [hl] at hj
    obtain ⟨Ak, ck, hv, hr⟩ := h2 (k + j) (by omega)
    have e : ((rs.drop k).take n).getD j [] = rs.getD (k + j) [] := by
      rw [List.getD_eq_getElem?_getD, List.getD_eq_getElem?_getD, List.getElem?_take, if_pos hj, List.getElem?_drop]
    exact ⟨Ak, ck, by rw [List.getElem?_take, if_pos hj, List.getElem?_drop, e]; exact hv, by rw [e]; exact hr⟩
  · rcases h3 with ⟨rfl, h4, h5⟩ | ⟨g, off, cur, rfl, hg, hh, h4, h5⟩
    · left
      subst h5
      refine ⟨?_, by omega, by simp⟩
      rcases hA with ⟨_, h6⟩ | ⟨_, h6⟩ <;> rw [h6] <;> rfl
    · right
      rcases hA with ⟨h6, rfl⟩ | ⟨h6, rfl⟩
      · refine ⟨g, off, cur, rfl, hg, hh, by omega, fun j u hu => ?_⟩
        rw [List.getElem?_take] at hu
        split at hu
        · omega
        · cases hu
      · refine ⟨g, off + k, cur, rfl, hg, hh, by omega, fun j u hu => ?_⟩
        rw [List.getElem?_take] at hu
        split at hu
        · rw [List.getElem?_drop] at hu
          rw [Nat.add_assoc]
          exact h5 _ _ hu
        · cases hu
end

def dropI : Option Nat → Int
  | none => -1
  | some d => d
def moCells (M : Lg) (A : Option Addr) (c : Nat) : List Value := [.int .i64 M.first, .slice A M.recs.length c, .int .i64 M.sure, .int .i64 (dropI M.drop), .int .i64 M.places, .int .i64 M.epoch, .bool M.down]
/-- The model lies in block g. -/
structure MoAt (w0 w : World) (g : Nat) (M : Lg) (A : Option Addr) (c : Nat) : Prop where
  blk : Whole w g 34 (moCells M A c)
  list : ListAt w0 w A c M.recs
  base : w0.heap.size ≤ g
section
variable {w0 w w' : World} {g : Nat} {M : Lg} {A : Option Addr} {c : Nat}
theorem MoAt.notOwn (h : MoAt w0 w g M A c) : ¬ ownA A g := h.list.not h.blk (by decide)
theorem MoAt.keep (h : MoAt w0 w g M A c) (hk : ∀ j, (j = g ∨ ownA A j) → w'.heap[j]? = w.heap[j]?) : MoAt w0 w' g M A c := ⟨h.blk.keep (hk g (.inl rfl)), h.list.keep fun j hj => hk j (.inr hj), h.base⟩
theorem MoAt.below (h : MoAt w0 w g M A c) (hb : Below w.heap.size w w') : MoAt w0 w' g M A c := ⟨h.blk.below hb h.blk.lt, h.list.below hb, h.base⟩
/-- None of its blocks is the log's. -/
def MoAt.far (_ : MoAt w0 w g M A c) (F : Nat → Prop) : Prop := ¬ F g ∧ ∀ j, ownA A j → ¬ F j
theorem MoAt.moved (h : MoAt w0 w g M A c) {F F' : Nat → Prop} (hf : ¬ F g ∧ ∀ j, ownA A j → ¬ F j) (hm : Moved F w w' F') : MoAt w0 w' g M A c ∧ (¬ F' g ∧ ∀ j, ownA A j → ¬ F' j) := by
  refine ⟨h.keep fun j hj => ?_, hm.not hf.1 h.blk.lt, fun j hj => hm.not (hf.2 j hj) (h.list.lt hj).2⟩
  rcases hj with rfl | hj
  · exact hm.1.block _ h.blk.lt hf.1
  · exact hm.1.block _ (h.list.lt hj).2 (hf.2 j hj)
end

def TakenRel (rs : List (List UInt8)) (n i : Value) : Prop := ∃ k : Nat, k ≤ rs.length ∧ i = .int .i64 k ∧ n = .int .i64 (takenL (rs.take k) : Int)
set_option maxHeartbeats 1000000 in
theorem taken_any {w0 w : World} {g : Nat} {M : Lg} {A : Option Addr} {c : Nat} (h : MoAt w0 w g M A c) (ht : takenL M.recs ≤ 5000) : Calls Tryd.prog 11 #[.pointer (some ⟨g, 0, none⟩)] w (Told w (.int .i64 (M.taken : Int))) := by
  have c1 : w.cell? ⟨g, 1, none⟩ = some (.slice A M.recs.length c) := h.blk.cell 1
  have HL := Lib.hid h.list
  have HT := Lib.hid (show M.taken = takenL M.recs from rfl)
  have HTL := Lib.hid ht
  have hlt := length_le_taken M.recs
  generalize M.recs = rs at *
  obtain ⟨n, hn⟩ : ∃ n, rs.length = n := ⟨_, rfl⟩
  have HN := Lib.hid hn
  rw [hn] at c1
  have hn5 : n ≤ 5000 := by omega
  clear h ht hlt hn
  go_enter Tryd.func11, Tryd.ntmps11
  go_wp2
  go_loop [3, 4] (TakenRel rs) (fun _ i => n - (intOf i).toNat)
  case atStart => exact ⟨0, Nat.zero_le _, rfl, rfl⟩
  case round =>
    obtain ⟨k, hk, rfl, rfl⟩ := hrel
    rw [HN.out] at hk
    by_cases hkn : k < n
    · have d1 : decide ((k : Int) < (n : Int)) = true := by simp; omega
      have d1n : decide (k < n) = true := by simp; omega
      have hki : (k : Int) < (n : Int) := by omega
      obtain ⟨gl, off, Ak, ck, rfl, hcel, _⟩ := HL.out.get (k := k) (by rw [HN.out]; exact hkn)
      have hsm := HL.out.small _ (getD_mem (rs := rs) (k := k) (by rw [HN.out]; exact hkn))
      have hpb := partsN_le hsm
      have htk : takenL (rs.take (k + 1)) = takenL (rs.take k) + partsN (rs.getD k []).length := by
        rw [List.take_succ_eq_append_getElem (by rw [HN.out]; exact hkn), takenL_append, takenL_one, List.getD_eq_getElem?_getD, List.getElem?_eq_getElem (by rw [HN.out]; exact hkn)]
        rfl
      have htt := takenL_take rs k
      have hb5 : takenL (rs.take k) ≤ 5000 := by have := HTL.out; omega
      have HTK := Lib.hid htk
      have HP := Lib.hid (parts_any (rs.getD k []).length (by omega) w)
      obtain ⟨r, hr⟩ : ∃ r, rs.getD k [] = r := ⟨_, rfl⟩
      obtain ⟨tk, htkd⟩ : ∃ tk, takenL (rs.take k) = tk := ⟨_, rfl⟩
      rw [hr] at hcel HP HTK hpb hsm
      rw [htkd] at HTK hb5 ⊢
      clear htk htt hr htkd hsm
      go_wp2_with fail
      refine HP.out.mono ?_
      rintro e w' ⟨rfl, rfl⟩
      obtain ⟨pr, hpr⟩ : ∃ pr, partsN r.length = pr := ⟨_, rfl⟩
      rw [hpr] at HTK hpb ⊢
      clear hpr
      go_wp2
      refine ⟨⟨k + 1, by rw [HN.out]; omega, by go_num, ?_⟩, by simp only [intOf]; omega⟩
      rw [HTK.out]
      go_num
    · obtain rfl : k = n := by omega
      have hfin : takenL (rs.take k) = M.taken := by rw [HT.out, List.take_of_length_le (by rw [HN.out]; exact Nat.le_refl _)]
      rw [hfin]
      have d1 : decide ((k : Int) < (k : Int)) = false := by simp
      clear hfin
      go_wp2
      go_ret
      exact ⟨rfl, rfl⟩

end Go.Proofs.YtgfoekbdmgljbaaDoor

namespace Go.Proofs.YtgfoekbdmgljbaaDoor
open Go.RowKit

/-- A log, and the model of it, beside each other. -/
structure BothAt (L : LogSpec) (w0 w : World) (lv : Value) (D g : Nat) (M : Lg) (fr : Bool) (A : Option Addr) (c : Nat) (F : Nat → Prop) : Prop where
  at_ : L.At w w0.heap.size lv D M fr F
  mo : MoAt w0 w g M A c
  far : ¬ F g ∧ ∀ j, ownA A j → ¬ F j
  below : Below w0.heap.size w0 w
section
variable {L : LogSpec} {w0 w w' : World} {lv : Value} {D g : Nat} {M M' : Lg} {fr fr' : Bool} {A : Option Addr} {c : Nat} {F F' : Nat → Prop}
theorem BothAt.next (h : BothAt L w0 w lv D g M fr A c F) (hb : Below w.heap.size w w') : BothAt L w0 w' lv D g M fr A c F :=
  ⟨LogSpec.at_below h.at_ hb, h.mo.below hb, h.far, h.below.trans (hb.mono h.below.size)⟩
theorem BothAt.moved (h : BothAt L w0 w lv D g M fr A c F) (ha : L.At w' w0.heap.size lv D M fr' F') (hm : Moved F w w' F') : BothAt L w0 w' lv D g M fr' A c F' := by
  obtain ⟨h1, h2⟩ := h.mo.moved h.far hm
  have ho := L.at_own h.at_
  exact ⟨ha, h1, h2, h.below.trans (hm.below (fun j hj => (ho.2 j hj).1) ho.1)⟩
theorem BothAt.cells (h : BothAt L w0 w lv D g M fr A c F) : w.cell? ⟨g, 0, none⟩ = some (.int .i64 M.first) ∧ w.cell? ⟨g, 1, none⟩ = some (.slice A M.recs.length c) ∧ w.cell? ⟨g, 4, none⟩ = some (.int .i64 M.places) ∧ w.cell? ⟨g, 5, none⟩ = some (.int .i64 M.epoch) :=
  ⟨h.mo.blk.cell 0, h.mo.blk.cell 1, h.mo.blk.cell 4, h.mo.blk.cell 5⟩
theorem taken_few (h : M.ok) : takenL M.recs ≤ 5000 := by
  have h1 := h.few
  have h2 := h.places
  unfold Lg.taken at h1
  omega
end
def HoldsRel (L : LogSpec) (w0 : World) (lv : Value) (D g : Nat) (M : Lg) (fr : Bool) (A : Option Addr) (c : Nat) (i : Value) (wr : World) : Prop := ∃ (k : Nat) (F : Nat → Prop), k ≤ M.recs.length ∧ i = .int .i64 k ∧ BothAt L w0 wr lv D g M fr A c F
theorem read_at {M : Lg} {k : Nat} (h : k < M.recs.length) : readGE M ((M.first : Int) + (k : Int)) = 0 ∧ readGB M ((M.first : Int) + (k : Int)) = M.recs.getD k [] := by
  have h1 : readGE M ((M.first : Int) + (k : Int)) = 0 := by
    unfold readGE Lg.next
    rw [if_neg (by omega), if_neg (by omega)]
  refine ⟨h1, ?_⟩
  unfold readGB
  rw [if_pos h1]
  have e : ((M.first : Int) + (k : Int) - (M.first : Int)).toNat = k := by omega
  rw [e]
theorem read_end (M : Lg) : readGE M ((M.first : Int) + (M.recs.length : Int)) = 11 ∧ readGB M ((M.first : Int) + (M.recs.length : Int)) = [] := by
  have h1 : readGE M ((M.first : Int) + (M.recs.length : Int)) = 11 := by
    unfold readGE Lg.next
    rw [if_neg (by omega), if_pos (by omega)]
  exact ⟨h1, by unfold readGB; rw [h1]; rfl⟩
theorem read_old (M : Lg) : readGE M ((M.first : Int) - 1) = 12 ∧ readGB M ((M.first : Int) - 1) = [] := by
  have h1 : readGE M ((M.first : Int) - 1) = 12 := by
    unfold readGE
    rw [if_pos (by omega)]
  exact ⟨h1, by unfold readGB; rw [h1]; rfl⟩

variable (L : LogSpec)
set_option maxHeartbeats 2000000 in
set_option maxRecDepth 8000 in
theorem holds_any {w0 w : World} {lv : Value} {D g : Nat} {M : Lg} {fr : Bool} {A : Option Addr} {c : Nat} {F : Nat → Prop} (h : BothAt L w0 w lv D g M fr A c F) (hd : M.down = false) :
    Calls Tryd.prog 17 #[lv, .pointer (some ⟨g, 0, none⟩)] w (fun e w' => e = .returned (.bool true) ∧ ∃ F', BothAt L w0 w' lv D g M fr A c F') := by
  have HH := Lib.hid h
  have hok := L.at_ok h.at_
  have HD := Lib.hid hd
  have HFI := Lib.hid (fun W (hb : Below w.heap.size w W) => L.first (h.next hb).at_)
  have HEP := Lib.hid (fun W (hb : Below w.heap.size w W) => L.epoch (h.next hb).at_)
  have HTK := Lib.hid (fun W (hb : Below w.heap.size w W) => taken_any (h.next hb).mo (taken_few hok))
  obtain ⟨n, hn⟩ : ∃ n, M.recs.length = n := ⟨_, rfl⟩
  obtain ⟨f, hf⟩ : ∃ f, M.first = f := ⟨_, rfl⟩
  obtain ⟨ep, hep⟩ : ∃ ep, M.epoch = ep := ⟨_, rfl⟩
  obtain ⟨pl, hpl⟩ : ∃ pl, M.places = pl := ⟨_, rfl⟩
  obtain ⟨tk, htk⟩ : ∃ tk, M.taken = tk := ⟨_, rfl⟩
  have hnx : ((M.next : Nat) : Int) = (f : Int) + (n : Int) := by unfold Lg.next; rw [hf, hn]; omega
  have hrm : ((M.places - M.taken : Nat) : Int) = (pl : Int) - (tk : Int) := by have := hok.few; omega
  have HNX := Lib.hid (show ∀ W, Below w.heap.size w W → Calls Tryd.prog 19 #[lv] W (Gave W (.int .i64 ((f : Int) + (n : Int)))) from fun W hb => by have := L.next (h.next hb).at_; rwa [hnx] at this)
  have HRM := Lib.hid (show ∀ W, Below w.heap.size w W → Calls Tryd.prog 22 #[lv] W (Gave W (.int .i64 ((pl : Int) - (tk : Int)))) from fun W hb => by have := L.room (h.next hb).at_; rwa [hrm] at this)
  rw [hf] at HFI
  rw [hep] at HEP
  rw [htk] at HTK
  have hcs := fun W (hb : Below w.heap.size w W) => (h.next hb).cells
  rw [hf, hn, hep, hpl] at hcs
  have HCS := Lib.hid hcs
  have hb1 : (f : Int) + (n : Int) ≤ 36028797018963968 := by have := hok.high; omega
  have hb2 : (pl : Int) ≤ 4094 := by have := hok.places; omega
  have hb3 : (tk : Int) ≤ 4094 := by have := hok.places; have := hok.few; omega
  have q1 : ((f : Int) + (n : Int) != (f : Int) + (n : Int)) = false := by simp
  have q2 : ((pl : Int) - (tk : Int) != (pl : Int) - (tk : Int)) = false := by simp
  have r1 : IntKind.i64.wrap ((f : Int) + (n : Int)) = (f : Int) + (n : Int) := IntWalk.i64_in _ (by omega)
  have r2 : IntKind.i64.wrap ((pl : Int) - (tk : Int)) = (pl : Int) - (tk : Int) := IntWalk.i64_in _ (by omega)
  obtain ⟨c0, c1, c4, c5⟩ := hcs w (Below.refl _ _)
  have HN := Lib.hid hn
  have HF := Lib.hid hf
  clear h hok hd hn hf hep hpl htk hnx hrm hcs
  go_enter Tryd.func17, Tryd.ntmps17
  go_wp2
  go_region_held3 (fun X => X.cell? ⟨g, 0, none⟩ = some (.int .i64 (f : Int)) ∧ X.cell? ⟨g, 1, none⟩ = some (.slice A n c) ∧ X.cell? ⟨g, 4, none⟩ = some (.int .i64 (pl : Int)) ∧ X.cell? ⟨g, 5, none⟩ = some (.int .i64 (ep : Int)))
    (go_keep)
    ((first
      | (go_at_call 18
         refine (HFI.out _ (Below.refl w.heap.size w).drew).mono ?_
         rintro e w1 ⟨rfl, hb1'⟩
         have HB1 := Lib.hid ((Below.refl w.heap.size w).drew.trans hb1')
         obtain ⟨c0, c1, c4, c5⟩ := HCS.out w1 HB1.out
         clear hb1')
      | (go_at_call 19
         refine (HNX.out _ HB1.out).mono ?_
         rintro e w2 ⟨rfl, hb2'⟩
         have HB2 := Lib.hid (HB1.out.trans (hb2'.mono HB1.out.size))
         obtain ⟨c0, c1, c4, c5⟩ := HCS.out w2 HB2.out
         clear hb2')
      | (go_at_call 36
         refine (HEP.out _ HB2.out).mono ?_
         rintro e w3 ⟨rfl, hb3'⟩
         have HB3 := Lib.hid (HB2.out.trans (hb3'.mono HB2.out.size))
         obtain ⟨c0, c1, c4, c5⟩ := HCS.out w3 HB3.out
         clear hb3')
      | (go_at_call 22
         refine (HRM.out _ HB3.out).mono ?_
         rintro e w4 ⟨rfl, hb4'⟩
         have HB4 := Lib.hid (HB3.out.trans (hb4'.mono HB3.out.size))
         obtain ⟨c0, c1, c4, c5⟩ := HCS.out w4 HB4.out
         clear hb4')
      | (go_at_call 11
         with_reducible refine (HTK.out _ HB3.out).mono ?_
         rintro e w' ⟨rfl, rfl⟩)
      | (go_at_call 11
         with_reducible refine (HTK.out _ HB4.out).mono ?_
         rintro e w' ⟨rfl, rfl⟩)))
  have HH4 := Lib.hid (HH.out.next HB4.out)
  clear q1 q2 r1 r2 HFI HEP HTK HNX HRM HCS c0 c1 c4 c5 hb2 hb3
  go_wp2
  go_loopw [5] (HoldsRel L w0 lv D g M fr A c) (fun i _ => n - (intOf i).toNat)
  case atStart => exact ⟨0, F, Nat.zero_le _, rfl, HH4.out⟩
  case round =>
    obtain ⟨k, F5, hk, rfl, hb5⟩ := hrel
    have HH5 := Lib.hid hb5
    rw [HN.out] at hk
    obtain ⟨c0, c1, _, _⟩ := hb5.cells
    rw [HF.out] at c0
    rw [HN.out] at c1
    by_cases hkn : k < n
    · have d1 : decide ((k : Int) < (n : Int)) = true := by simp; omega
      have d1n : decide (k < n) = true := by simp; omega
      have hki : (k : Int) < (n : Int) := by omega
      have r3 : IntKind.i64.wrap ((f : Int) + (k : Int)) = (f : Int) + (k : Int) := IntWalk.i64_in _ (by omega)
      have hrd := L.read hb5.at_ HD.out ((f : Int) + (k : Int)) (by omega) (by omega)
      have hra := read_at (M := M) (k := k) (by rw [HN.out]; exact hkn)
      rw [HF.out] at hra
      obtain ⟨gl, off, Ak, ck, rfl, hcel0, hro⟩ := hb5.mo.list.get (k := k) (by rw [HN.out]; exact hkn)
      have hsm := hb5.mo.list.small _ (getD_mem (rs := M.recs) (k := k) (by rw [HN.out]; exact hkn))
      obtain ⟨r, hr⟩ : ∃ r, M.recs.getD k [] = r := ⟨_, rfl⟩
      rw [hr] at hcel0 hro hsm
      rw [hra.1, hra.2, hr] at hrd
      have HRD := Lib.hid hrd
      have HRO := Lib.hid hro
      have HSM := Lib.hid hsm
      have HRR := Lib.hid hr
      clear hrd hra hro hsm hcel0 hr hb5
      go_wp2_with fail
      refine HRD.out.mono ?_
      rintro e w6 ⟨A6, c6, F6, rfl, hown6, hat6, hm6⟩
      have hb6 := HH5.out.moved hat6 hm6
      have HH6 := Lib.hid hb6
      obtain ⟨c0, c1, _, _⟩ := hb6.cells
      rw [HF.out] at c0
      rw [HN.out] at c1
      obtain ⟨gl2, off2, Ak2, ck2, e2, hcel, hro2⟩ := hb6.mo.list.get (k := k) (by rw [HN.out]; exact hkn)
      obtain ⟨rfl, rfl⟩ : gl2 = gl ∧ off2 = off := by injection e2 with e2; injection e2 with e3 e4; exact ⟨e3.symm, e4.symm⟩
      rw [HRR.out] at hcel hro2
      have hsame := same_any A6 Ak2 r.length r.length c6 ck2 w6.heap.size r r w6 rfl rfl (Row.of_own hown6) ((hro2.below hb6.below).mono hb6.below.size) (by unfold maxLen; have := HSM.out; omega)
      rw [decide_eq_true rfl] at hsame
      have HSA := Lib.hid hsame
      clear hown6 hat6 hm6 hb6 e2 hro2 hsame
      go_wp2_with fail
      refine HSA.out.mono ?_
      rintro e w7 ⟨rfl, k7, rfl⟩
      have HH7 := Lib.hid (HH6.out.next (below_drewN' (Below.refl _ _) k7))
      go_wp2
      exact ⟨⟨k + 1, F6, by rw [HN.out]; omega, by go_num, HH7.out⟩, by simp only [intOf]; omega⟩
    · obtain rfl : k = n := by omega
      have d1 : decide ((k : Int) < (k : Int)) = false := by simp
      have r1 : IntKind.i64.wrap ((f : Int) + (k : Int)) = (f : Int) + (k : Int) := IntWalk.i64_in _ (by omega)
      have r3 : IntKind.i64.wrap ((f : Int) - 1) = (f : Int) - 1 := IntWalk.i64_in _ (by omega)
      have hra := read_end M
      rw [HF.out, HN.out] at hra
      have hrd : ∀ W, Below wr.heap.size wr W → Calls Tryd.prog 20 #[lv, .int .i64 ((f : Int) + (k : Int))] W
          (fun e w' => ∃ A' c' F', e = .returned (.tuple #[.slice A' 0 c', .int .i64 11]) ∧ BothAt L w0 w' lv D g M fr A c F') := fun W hW => by
        have h1 := HH5.out.next hW
        have h2 := L.read h1.at_ HD.out ((f : Int) + (k : Int)) (by omega) (by omega)
        rw [hra.1, hra.2] at h2
        refine h2.mono ?_
        rintro e w' ⟨A', c', F', he, _, ha, hm⟩
        exact ⟨A', c', F', he, h1.moved ha hm⟩
      have HRD := Lib.hid hrd
      clear hrd hra hb5
      go_wp2
      go_region_held3 (fun X => X.cell? ⟨g, 0, none⟩ = some (.int .i64 (f : Int)) ∧ X.cell? ⟨g, 1, none⟩ = some (.slice A k c))
        (go_keep)
        ((go_at_call 20
          refine (HRD.out _ (Below.refl wr.heap.size wr).drew).mono ?_
          rintro e w6 ⟨A6, c6, F6, rfl, hb6⟩
          have HH6 := Lib.hid hb6
          obtain ⟨c0, c1, _, _⟩ := hb6.cells
          rw [HF.out] at c0
          rw [HN.out] at c1
          clear hb6))
      have hrb := read_old M
      rw [HF.out] at hrb
      have hrd2 := L.read HH6.out.at_ HD.out ((f : Int) - 1) (by omega) (by omega)
      rw [hrb.1, hrb.2] at hrd2
      have HRD2 := Lib.hid hrd2
      clear hrb hrd2
      go_wp2_with fail
      refine HRD2.out.mono ?_
      rintro e w7 ⟨A7, c7, F7, rfl, _, hat7, hm7⟩
      have HH7 := Lib.hid (HH6.out.moved hat7 hm7)
      clear hat7 hm7
      go_wp2
      go_ret
      exact ⟨rfl, F7, HH7.out⟩

end Go.Proofs.YtgfoekbdmgljbaaDoor

namespace Go.Proofs.YtgfoekbdmgljbaaDoor
open Go.RowKit

def cutA (A : Option Addr) (c k : Nat) : Option Addr := if c = k then A else Option.map (fun x => x.add k) A
theorem ListAt.cut {w0 w : World} {A : Option Addr} {c : Nat} {rs : List (List UInt8)} (h : ListAt w0 w A c rs) {k n : Nat} (hk : k + n ≤ rs.length) : ListAt w0 w (cutA A c k) (c - k) ((rs.drop k).take n) := by
  by_cases hc : c = k
  · exact h.part hk (.inl ⟨hc.symm, if_pos hc⟩)
  · refine h.part hk (.inr ⟨fun e => hc e.symm, ?_⟩)
    unfold cutA
    rw [if_neg hc]
    cases hA : A with
    | none => rfl
    | some a =>
      obtain ⟨b, o, sp⟩ := a
      have hsp : sp = none := by
        obtain ⟨vs, _, _, h3⟩ := h.vals
        rcases h3 with ⟨h3, _⟩ | ⟨g, off, cur, e, _⟩
        · rw [hA] at h3; cases h3
        · rw [hA] at e; injection e with e; injection e
      subst hsp
      show some ((⟨b, o, none⟩ : Addr).add k) = some ⟨b, o + k, none⟩
      rw [addr_add]
theorem ListAt.own_cut {w0 w : World} {A : Option Addr} {c : Nat} {rs : List (List UInt8)} (hl : ListAt w0 w A c rs) {k j : Nat} (h : ownA (cutA A c k) j) : ownA A j := by
  unfold cutA at h
  split at h
  · exact h
  · obtain ⟨vs, _, _, h3⟩ := hl.vals
    rcases h3 with ⟨h3, _⟩ | ⟨g, off, cur, e, _⟩
    · rw [h3] at h; obtain ⟨o, h⟩ := h; cases h
    · rw [e] at h
      obtain ⟨o, h⟩ := h
      have h' : (⟨g, off, none⟩ : Addr).add k = ⟨j, o, none⟩ := Option.some.inj h
      rw [addr_add] at h'
      injection h' with h1
      exact ⟨off, by rw [e, h1]⟩
variable (L : LogSpec)
set_option maxHeartbeats 4000000 in
set_option maxRecDepth 8000 in
theorem again_any {w0 w : World} {lv : Value} {D g : Nat} {M M' : Lg} {fr : Bool} {A : Option Addr} {c : Nat} {F : Nat → Prop} (op : Bool) (ha : L.At w w0.heap.size lv D M' fr F) (hm : MoAt w0 w g M A c) (hf : ¬ F g ∧ ∀ j, ownA A j → ¬ F j) (hb : Below w0.heap.size w0 w) (hok : M.ok) (hag : AgainTo M M') :
    Calls Tryd.prog 16 #[lv, .pointer (some ⟨g, 0, none⟩), .bool op] w (fun e w' => e = .returned (.bool true) ∧ ∃ A' c' F', BothAt L w0 w' lv D g M' fr A' c' F') := by
  obtain ⟨gone, n, hg, hgn, hsu, ep', hep', rfl⟩ := hag
  have hok' := L.at_ok ha
  have hhi := hok.high
  have hfi := L.first ha
  have hcell : ∀ W, Below w.heap.size w W → W.cell? ⟨g, 0, none⟩ = some (.int .i64 M.first) ∧ W.cell? ⟨g, 1, none⟩ = some (.slice A M.recs.length c) ∧ W.cell? ⟨g, 2, none⟩ = some (.int .i64 M.sure) ∧ W.cell? ⟨g, 3, none⟩ = some (.int .i64 (dropI M.drop)) ∧ W.cell? ⟨g, 5, none⟩ = some (.int .i64 M.epoch) := fun W hW => by
    have h := (hm.below hW).blk
    exact ⟨h.cell 0, h.cell 1, h.cell 2, h.cell 3, h.cell 5⟩
  have hnx : ∀ W, Below w.heap.size w W → Calls Tryd.prog 19 #[lv] W (Gave W (.int .i64 ((M.first : Int) + (gone : Int) + (n : Int)))) := fun W hW => by
    have h := L.next (LogSpec.at_below ha hW)
    have e : (((⟨M.first + gone, (M.recs.drop gone).take n, n, none, M.places, ep', false, M.used + 1⟩ : Lg).next : Nat) : Int) = (M.first : Int) + (gone : Int) + (n : Int) := by
      unfold Lg.next
      have : ((M.recs.drop gone).take n).length = n := by rw [List.length_take, List.length_drop]; omega
      show ((M.first + gone + ((M.recs.drop gone).take n).length : Nat) : Int) = _
      rw [this]; omega
    rwa [e] at h
  have HM := Lib.hid hm
  have HA := Lib.hid ha
  have HB := Lib.hid hb
  have HF := Lib.hid hf
  have HFI := Lib.hid (show Calls Tryd.prog 18 #[lv] w (Gave w (.int .i64 ((M.first : Int) + (gone : Int)))) from by
    have e : (((⟨M.first + gone, (M.recs.drop gone).take n, n, none, M.places, ep', false, M.used + 1⟩ : Lg).first : Nat) : Int) = (M.first : Int) + (gone : Int) := by
      show ((M.first + gone : Nat) : Int) = _
      omega
    rwa [e] at hfi)
  have HNX := Lib.hid hnx
  have hage := hok'.age
  have hage' : (ep' : Int) ≤ 36028797018963968 := by
    have : ep' ≤ 36028797018963968 := hage
    omega
  obtain ⟨nn, hnn⟩ : ∃ nn, M.recs.length = nn := ⟨_, rfl⟩
  obtain ⟨fi, hfd⟩ : ∃ fi, M.first = fi := ⟨_, rfl⟩
  obtain ⟨su, hsd⟩ : ∃ su, M.sure = su := ⟨_, rfl⟩
  obtain ⟨dr, hdd⟩ : ∃ dr, dropI M.drop = dr := ⟨_, rfl⟩
  obtain ⟨ep, hed⟩ : ∃ ep, M.epoch = ep := ⟨_, rfl⟩
  have hdr : gone = 0 ∨ dr = (fi : Int) + (gone : Int) := by
    rcases hg with h | h
    · exact .inl h
    · right; rw [← hdd, h, ← hfd]; show ((M.first + gone : Nat) : Int) = _; omega
  rw [hnn, hfd, hsd, hdd, hed] at hcell
  rw [hfd] at HFI HNX
  have HCL := Lib.hid hcell
  have HNN := Lib.hid hnn
  have HFD := Lib.hid hfd
  have HED := Lib.hid hed
  rw [hnn] at hgn hhi
  rw [hfd] at hhi
  rw [hsd] at hsu
  rw [hed] at hep'
  have HG := Lib.hid (And.intro hgn (And.intro hsu hep'))
  clear hm ha hb hf hok hok' hg hfi hnx hcell hage hnn hfd hsd hdd hed
  have hb1 : (fi : Int) + (nn : Int) ≤ 36028797018963968 := by omega
  have hgi : (gone : Int) + (n : Int) ≤ (nn : Int) := by omega
  go_enter Tryd.func16, Tryd.ntmps16
  go_wp2_with fail
  refine HFI.out.mono ?_
  rintro e w1 ⟨rfl, hb1'⟩
  have HB1 := Lib.hid hb1'
  obtain ⟨c0, c1, c2, c3, c5⟩ := HCL.out w1 hb1'
  clear hb1'
  go_upto_region 2 with fail
  go_cut [33] from 12 to 33 (fun v wx => v = .bool false ∧ wx = w1)
  case first =>
    rcases Nat.eq_zero_or_pos gone with h0 | h0
    · subst h0
      have t1 : ((fi : Int) + ((0 : Nat) : Int) != (fi : Int)) = false := by simp
      have t2 : decide ((fi : Int) + ((0 : Nat) : Int) < (fi : Int)) = false := by simp
      go_wp2
      go_meet
      exact ⟨rfl, rfl⟩
    · have hd : dr = (fi : Int) + (gone : Int) := by
        rcases hdr with h | h
        · omega
        · exact h
      have t1 : ((fi : Int) + (gone : Int) != (fi : Int)) = true := by rw [bne_iff_ne]; omega
      have t3 : ((fi : Int) + (gone : Int) != dr) = false := by rw [hd]; simp
      have t2 : decide ((fi : Int) + (gone : Int) < (fi : Int)) = false := by simp; omega
      clear hd hdr
      go_wp2
      go_meet
      exact ⟨rfl, rfl⟩
  case rest =>
    obtain ⟨rfl, rfl⟩ := hcut
    have rg1 : (fi : Int) + (gone : Int) - (fi : Int) = (gone : Int) := by omega
    have rg2 : (fi : Int) + (gone : Int) + (n : Int) - ((fi : Int) + (gone : Int)) = (n : Int) := by omega
    have HN1 := Lib.hid (HNX.out wc HB1.out)
    have HDR := Lib.hid hdr
    clear hdr
    go_wp2_with fail
    refine HN1.out.mono ?_
    rintro e w2 ⟨rfl, hb2⟩
    have HB2 := Lib.hid (HB1.out.trans (hb2.mono HB1.out.size))
    obtain ⟨c0, c1, c2, c3, c5⟩ := HCL.out w2 HB2.out
    have hgn := HG.out.1
    have hsu := HG.out.2.1
    have t1 : decide ((nn : Int) < (gone : Int)) = false := by simp; omega
    have t1n : decide (nn < gone) = false := by simp; omega
    have t2 : decide ((n : Int) < 0) = false := by simp
    have t3 : decide ((nn : Int) < (gone : Int) + (n : Int)) = false := by simp; omega
    have t3n : decide (nn < gone + n) = false := by simp; omega
    have t4 : decide ((gone : Int) + (n : Int) < (su : Int)) = false := by simp; omega
    have t4n : decide (gone + n < su) = false := by simp; omega
    clear hb2
    have HM2 := Lib.hid (HM.out.below HB2.out)
    have z0 := HM2.out.blk.frozen 0
    have z1 := HM2.out.blk.frozen 1
    have z2 := HM2.out.blk.frozen 2
    have z3 := HM2.out.blk.frozen 3
    have z6 := HM2.out.blk.frozen 6
    have c6 : w2.cell? ⟨g, 6, none⟩ = some (.bool M.down) := HM2.out.blk.cell 6
    have hcap : nn ≤ c := by have := HM2.out.list.cap.1; rw [HNN.out] at this; exact this
    have hcapi : (gone : Int) + (n : Int) ≤ (c : Int) := by omega
    have hcapg : (gone : Int) ≤ (gone : Int) + (n : Int) := by omega
    go_upto_region 13 with fail
    have hA' : ∃ A', (if c = gone then A else Option.map (fun x => x.add gone) A) = A' := ⟨_, rfl⟩
    obtain ⟨A', hA'⟩ := hA'
    rw [hA']
    generalize hW3 : ((((w2.setCell ⟨g, 0, none⟩ (.int .i64 ((fi : Int) + (gone : Int)))).setCell ⟨g, 1, none⟩ (.slice A' n (c - gone))).setCell ⟨g, 2, none⟩ (.int .i64 (n : Int))).setCell ⟨g, 3, none⟩ (.int .i64 (-1))).setCell ⟨g, 6, none⟩ (.bool false) = W3
    have hgr : Grew (fun j => j = g) w2 W3 := by
      rw [← hW3]
      exact ((((Grew.setCell (Grew.refl (fun j => j = g) w2) (a := ⟨g, 0, none⟩) (.inl rfl) _).setCell (a := ⟨g, 1, none⟩) (.inl rfl) _).setCell (a := ⟨g, 2, none⟩) (.inl rfl) _).setCell (a := ⟨g, 3, none⟩) (.inl rfl) _).setCell (a := ⟨g, 6, none⟩) (.inl rfl) _
    have hwh : Whole W3 g 34 [.int .i64 ((fi : Int) + (gone : Int)), .slice A' n (c - gone), .int .i64 (n : Int), .int .i64 (-1), .int .i64 M.places, .int .i64 M.epoch, .bool false] := by
      rw [← hW3]
      exact ((((HM2.out.blk.set_ 0 _).set_ 1 _).set_ 2 _).set_ 3 _).set_ 6 _
    have hli : ListAt w0 W3 A' (c - gone) ((M.recs.drop gone).take n) := by
      have h1 := HM2.out.list.cut (k := gone) (n := n) (by rw [HNN.out]; exact hgn)
      rw [show cutA A c gone = A' from hA'] at h1
      refine h1.keep fun j hj => hgr.block j (h1.lt hj).2 fun e => ?_
      subst e
      rw [← hA'] at hj
      exact HM2.out.notOwn (HM2.out.list.own_cut hj)
    have hat3 : L.At W3 w0.heap.size lv D _ fr F := LogSpec.at_far (LogSpec.at_below HA.out HB2.out) hgr HM.out.base HF.out.1
    have hb3 : Below w0.heap.size w0 W3 := (HB.out.trans (HB2.out.mono HB.out.size)).trans (hgr.below (B := w0.heap.size) (fun j hj => by have := HM.out.base; omega) (HB.out.trans (HB2.out.mono HB.out.size)).size)
    have hnf : ∀ j, ownA A' j → ¬ F j := fun j hj => by
      rw [← hA'] at hj
      exact HF.out.2 j (HM2.out.list.own_cut hj)
    have c5 : W3.cell? ⟨g, 5, none⟩ = some (.int .i64 (ep : Int)) := by rw [← HED.out]; exact hwh.cell 5
    have HWH := Lib.hid hwh
    have HLI := Lib.hid hli
    have HAT3 := Lib.hid hat3
    have HB3 := Lib.hid hb3
    have HNF := Lib.hid hnf
    have HEP := Lib.hid (show ∀ W, Below W3.heap.size W3 W → Calls Tryd.prog 36 #[lv] W (Gave W (.int .i64 (ep' : Int))) from fun W hW => L.epoch (LogSpec.at_below hat3 hW))
    have hep5 := HG.out.2.2
    have t5 : decide ((ep' : Int) ≤ (ep : Int)) = false := by simp; omega
    have t5n : decide (ep' ≤ ep) = false := by simp; omega
    clear hA' hW3 hgr hwh hli hat3 hb3 hnf z0 z1 z2 z3 z6 c0 c1 c2 c3 c6 t1 t1n t2 t3 t3n t4 t4n hcapi hcapg hep5
    go_region_held3 (fun X => X.cell? ⟨g, 5, none⟩ = some (.int .i64 (ep : Int)))
      (go_keep)
      ((go_at_call 36
        refine (HEP.out _ (Below.refl W3.heap.size W3).drew).mono ?_
        rintro e w4 ⟨rfl, hb4⟩
        have HB4 := Lib.hid ((Below.refl W3.heap.size W3).drew.trans hb4)
        have c5 : w4.cell? ⟨g, 5, none⟩ = some (.int .i64 (ep : Int)) := by
          have h := (HWH.out.below HB4.out HWH.out.lt).cell 5
          rw [h, ← HED.out]; rfl
        clear hb4))
    have HM4 := Lib.hid (HWH.out.below HB4.out HWH.out.lt)
    have z5 := HM4.out.frozen 5
    have HB5 := Lib.hid (HB4.out)
    go_wp2_with fail
    refine (HEP.out _ HB4.out).mono ?_
    rintro e w5 ⟨rfl, hb5⟩
    have HM5 := Lib.hid (HM4.out.below hb5 HM4.out.lt)
    have HBB5 := Lib.hid (HB4.out.trans (hb5.mono HB4.out.size))
    have z5 := HM5.out.frozen 5
    have c5 : w5.cell? ⟨g, 5, none⟩ = some (.int .i64 (ep : Int)) := by
      have h := HM5.out.cell 5
      rw [h, ← HED.out]; rfl
    clear hb5
    have hgr6 : Grew (fun j => j = g) w5 (w5.setCell ⟨g, 5, none⟩ (.int .i64 (ep' : Int))) := Grew.setCell (Grew.refl (fun j => j = g) w5) (a := ⟨g, 5, none⟩) (.inl rfl) _
    have hb5 : Below w0.heap.size w0 w5 := HB3.out.trans (HBB5.out.mono HB3.out.size)
    have hl5 := HLI.out.below HBB5.out
    have hboth : BothAt L w0 (w5.setCell ⟨g, 5, none⟩ (.int .i64 (ep' : Int))) lv D g ⟨M.first + gone, (M.recs.drop gone).take n, n, none, M.places, ep', false, M.used + 1⟩ fr A' (c - gone) F := by
      refine ⟨LogSpec.at_far (LogSpec.at_below HAT3.out HBB5.out) hgr6 HM.out.base HF.out.1, ⟨?_, ?_, HM.out.base⟩, ⟨HF.out.1, HNF.out⟩, hb5.trans (hgr6.below (B := w0.heap.size) (fun j hj => by have := HM.out.base; omega) hb5.size)⟩
      · have h6 := HM5.out.set_ 5 (.int .i64 (ep' : Int))
        have hl : ((M.recs.drop gone).take n).length = n := by rw [List.length_take, List.length_drop, HNN.out]; have := HG.out.1; omega
        have e : moCells ⟨M.first + gone, (M.recs.drop gone).take n, n, none, M.places, ep', false, M.used + 1⟩ A' (c - gone) = [.int .i64 ((fi : Int) + (gone : Int)), .slice A' n (c - gone), .int .i64 (n : Int), .int .i64 (-1), .int .i64 M.places, .int .i64 ep', .bool false] := by
          unfold moCells
          simp only [hl, HFD.out, dropI, Int.natCast_add]
        rw [e]
        exact h6
      · refine hl5.keep fun j hj => hgr6.block j (hl5.lt hj).2 fun e => ?_
        subst e
        exact hl5.not HM5.out (by decide) hj
    have HBO := Lib.hid hboth
    clear hgr6 hb5 hl5 hboth
    go_wp2_with fail
    refine (holds_any L HBO.out rfl).mono ?_
    rintro e w7 ⟨rfl, F7, hb7⟩
    have HE := Lib.hid hb7
    clear hb7
    go_wp2
    go_ret
    exact ⟨rfl, A', c - gone, F7, HE.out⟩

end Go.Proofs.YtgfoekbdmgljbaaDoor

namespace Go.Proofs.YtgfoekbdmgljbaaDoor
open Go.RowKit

theorem bsy_info : (Tryd.prog.info? 35).map (fun i => (i.zero, i.size, i.bytes)) = some (some (.slice none 0 0), 1, 24) := by kernel_rfl
/-- What the list's values are, with one more. -/
theorem snoc_vals {w0 : World} {rs : List (List UInt8)} {vs : List Value} (h1 : vs.length = rs.length) (h2 : ∀ k, k < rs.length → ∃ Ak ck, vs[k]? = some (.slice Ak (rs.getD k []).length ck) ∧ Row w0 w0.heap.size Ak ((rs.getD k []).map bc))
    {Ak : Option Addr} {ck : Nat} {r : List UInt8} (hr : Row w0 w0.heap.size Ak (r.map bc)) :
    (vs ++ [Value.slice Ak r.length ck]).length = (rs ++ [r]).length ∧ ∀ k, k < (rs ++ [r]).length → ∃ A' c', (vs ++ [Value.slice Ak r.length ck])[k]? = some (.slice A' ((rs ++ [r]).getD k []).length c') ∧ Row w0 w0.heap.size A' (((rs ++ [r]).getD k []).map bc) := by
  refine ⟨by simp [h1], fun k hk => ?_⟩
  rw [List.length_append, List.length_singleton] at hk
  rcases Nat.lt_or_ge k rs.length with h | h
  · obtain ⟨A', c', h3, h4⟩ := h2 k h
    have e : (rs ++ [r]).getD k [] = rs.getD k [] := by
      rw [List.getD_eq_getElem?_getD, List.getElem?_append_left h, List.getD_eq_getElem?_getD]
    exact ⟨A', c', by rw [List.getElem?_append_left (by omega), e]; exact h3, by rw [e]; exact h4⟩
  · obtain rfl : k = rs.length := by omega
    have e : (rs ++ [r]).getD rs.length [] = r := by
      rw [List.getD_eq_getElem?_getD, List.getElem?_append_right (Nat.le_refl _), Nat.sub_self]
      rfl
    exact ⟨Ak, ck, by rw [List.getElem?_append_right (by omega), h1, Nat.sub_self, e]; rfl, by rw [e]; exact hr⟩
theorem small_snoc {rs : List (List UInt8)} {r : List UInt8} (h : ∀ x ∈ rs, x.length ≤ 16384) (hr : r.length ≤ 16384) : ∀ x ∈ rs ++ [r], x.length ≤ 16384 := by
  intro x hx
  rcases List.mem_append.1 hx with h1 | h1
  · exact h x h1
  · rw [List.mem_singleton.1 h1]; exact hr

/-- append, within a region that draws its order. -/
theorem step_append_list {ops : Array Oper} {o : Oper} {a : Act} {w : World} {K : Act → World → Prop} {Q : Exit → Act → World → Prop} {E : Prop} (hg : o.guard = none) (s x : Operand)
    (hop : o.op = Op.call { callee := Callee.builtin Builtin.append, args := #[s, x], argTypes := #[32, 32] })
    {w0 : World} {A : Option Addr} {c n : Nat} {rs : List (List UInt8)} (h : ListAt w0 w A c rs) (hn : rs.length = n) (hs : a.eval s = .slice A n c) (ad : Addr) (cc : Nat) (hx : a.eval x = .slice (some ad) 1 cc)
    (Ak : Option Addr) (ck : Nat) (r : List UInt8) (hcell : w.cell? (ad.add 0) = some (.slice Ak r.length ck)) (hr : Row w0 w0.heap.size Ak (r.map bc)) (hsm : r.length ≤ 16384) (hlen : n < 100000) (hb0 : w0.heap.size ≤ w.heap.size)
    (hK : ∀ A' c' w', ListAt w0 w' A' c' (rs ++ [r]) → Grew (ownA A) w w' → (∀ j, ownA A' j → ownA A j ∨ w.heap.size ≤ j) → K (a.put o.dst (.slice A' (n + 1) c')) w') :
    if Region.wanted o (yielded ops a.tmps) = true then Oper.wp Tryd.prog o a w K Q else E := by
  obtain ⟨i1, hi1, hy0, hy1, hy2⟩ := info_parts bsy_info
  obtain ⟨⟨vs, h1, h2, h3⟩, hsmall, hcap⟩ := h
  obtain ⟨e1, e2⟩ := snoc_vals (ck := ck) h1 h2 hr
  have hnew : ∀ j u, ([Value.slice Ak r.length ck] : List Value)[j]? = some u → w.cell? (ad.add j) = some u := by
    intro j u hu
    match j, hu with
    | 0, hu => simp at hu; rw [← hu]; exact hcell
    | j + 1, hu => simp at hu
  have hone : ∀ u ∈ ([Value.slice Ak r.length ck] : List Value), u.oneCell' = true := by intro u hu; rw [List.mem_singleton.1 hu]; rfl
  by_cases hroom : n + 1 ≤ c
  · rcases h3 with ⟨_, h3, _⟩ | ⟨g, off, cur, rfl, hg0, hh, h4, h5⟩
    · omega
    · have hwh : Whole w g 35 cur.toList := by unfold Whole; simpa using hh
      have hin : off + n < cur.size := by omega
      refine step_append_room hg s x 32 hop 35 i1 1 Tryd.underlying32 hi1 hy1 g off n c hs ad 1 cc [.slice Ak r.length ck] hx rfl hnew hone hroom (fun j hj => ?_) ?_
      · have hj0 : j = 0 := by simpa using hj
        subst hj0
        refine ⟨?_, hwh.frozen _⟩
        rw [hwh.cell]
        rw [List.getElem?_eq_getElem (by simp; omega)]
        rfl
      · refine hK (some ⟨g, off, none⟩) c _ ⟨⟨vs ++ [Value.slice Ak r.length ck], e1, e2, .inr ⟨g, off, (cur.toList.set (off + n) (.slice Ak r.length ck)).toArray, rfl, hg0, ?_, by simp; omega, fun j u hu => ?_⟩⟩, small_snoc hsmall hsm, ⟨by rw [List.length_append, List.length_singleton, hn]; exact hroom, hcap.2⟩⟩ ?_ (fun j hj => .inl hj)
        · have := hwh.set_ (off + n) (.slice Ak r.length ck)
          unfold Whole at this
          rw [Nat.mul_one]
          exact this
        · simp only [List.getElem?_toArray]
          rcases Nat.lt_or_ge j vs.length with hj | hj
          · rw [List.getElem?_append_left hj] at hu
            rw [List.getElem?_set_ne (by omega), Array.getElem?_toList]
            exact h5 j u hu
          · rw [List.getElem?_append_right hj] at hu
            have hj0 : j - vs.length = 0 := by
              rcases Nat.eq_zero_or_pos (j - vs.length) with h0 | h0
              · exact h0
              · rw [List.getElem?_eq_none (by simp; omega)] at hu; cases hu
            rw [hj0] at hu
            have ej : off + j = off + n := by omega
            rw [ej, List.getElem?_set_self (by simp; omega)]
            simpa using hu
        · rw [Nat.mul_one]
          exact Grew.setCell (Grew.refl _ w) (a := ⟨g, off + n, none⟩) (.inl ⟨off, rfl⟩) _
  · refine step_append_grows hg s x 32 hop 35 i1 (.slice none 0 0) 1 24 Tryd.underlying32 hi1 hy0 hy1 hy2 rfl (by omega) A n c vs hs (fun he => ?_) (by omega) (fun b hb j u hu => ?_) ad 1 cc [.slice Ak r.length ck] hx rfl hnew hone (by omega) (by unfold maxLen; omega) (by omega) ?_
    · rcases h3 with ⟨_, h4, h5⟩ | ⟨g, off, cur, e, _⟩
      · exact ⟨by rw [← hn, h5]; rfl, h4⟩
      · rw [he] at e; cases e
    · rcases h3 with ⟨h3, _⟩ | ⟨g, off, cur, e, _, hh, _, h5⟩
      · rw [h3] at hb; cases hb
      · obtain rfl : b = ⟨g, off, none⟩ := Option.some.inj (hb.symm.trans e)
        rw [addr_add]
        simp only [World.cell?, hh]
        exact h5 j u hu
    · intro v' w' hown hgb
      obtain ⟨A', c', rfl, hc1, hc2⟩ := own_form hown
      obtain ⟨g', rfl⟩ := own_some hown (by omega)
      refine hK _ c' w' ⟨⟨vs ++ [Value.slice Ak r.length ck], e1, e2, .inr ?_⟩, small_snoc hsmall hsm, ⟨by rw [List.length_append, List.length_singleton, hn]; exact hc1, hc2⟩⟩ (Grew.of_grown hgb (fun j hj => by cases hj)) (fun j hj => ?_)
      · rcases hown.2 with ⟨h0, _⟩ | ⟨g2, cap, cur, hv, hbg, hh, hnc, hcm, hcs, htake⟩
        · cases h0
        · injection hv with hv hv2 hv3
          injection hv with hv
          injection hv with hv
          subst hv
          subst hv3
          refine ⟨g', 0, cur, rfl, by omega, hh, by omega, fun j u hu => ?_⟩
          rw [Nat.zero_add, ← Array.getElem?_toList]
          rw [← htake, List.getElem?_take] at hu
          split at hu
          · exact hu
          · cases hu
      · obtain ⟨o', ho'⟩ := hj
        injection ho' with ho'
        injection ho' with ho'
        subst ho'
        exact .inr (hown.lt _ rfl).1

end Go.Proofs.YtgfoekbdmgljbaaDoor

namespace Go.Proofs.YtgfoekbdmgljbaaDoor
open Go.RowKit

structure Ay where
  what : Int
  n : Int
  data : List UInt8
  mask : Nat
  torn : Nat
def ayCells (p : Ay) (A : Option Addr) (c : Nat) : List Value := [.int .i64 p.what, .int .i64 p.n, .slice A p.data.length c, .int .u64 (p.mask : Int), .int .u64 (p.torn : Int)]
def AyOf (w : World) (H : Nat) (cs : List Value) (p : Ay) : Prop :=
  ∃ A c, cs = ayCells p A c ∧ Row w H A (p.data.map bc) ∧ p.data.length ≤ maxLen ∧ p.mask < 18446744073709551616 ∧ p.torn < 18446744073709551616
def AysIn (w : World) (H : Nat) (A : Option Addr) (ps : List Ay) : Prop :=
  ∀ i (h : i < ps.length), ∃ b off cs, A = some ⟨b, off, none⟩ ∧ b < H ∧ (∀ j v, cs[j]? = some v → w.cell? ⟨b, off + (i * 5 + j), none⟩ = some v) ∧ AyOf w H cs ps[i]
theorem ay_size : (Tryd.prog.info? 38).map (·.size) = some 5 := by kernel_rfl
/-- The call in its own block. -/
structure AyAt (w : World) (a : Nat) (p : Ay) (Ak : Option Addr) (ck : Nat) (F : Nat → Prop) : Prop where
  blk : Whole w a 38 (ayCells p Ak ck)
  far : ¬ F a
section
variable {L : LogSpec} {w0 w w' : World} {lv : Value} {D g a : Nat} {M : Lg} {fr : Bool} {A Ak : Option Addr} {c ck : Nat} {F F' : Nat → Prop} {p : Ay}
theorem AyAt.below (h : AyAt w a p Ak ck F) (hb : Below w.heap.size w w') : AyAt w' a p Ak ck F := ⟨h.blk.below hb h.blk.lt, h.far⟩
theorem AyAt.moved (h : AyAt w a p Ak ck F) (hm : Moved F w w' F') : AyAt w' a p Ak ck F' := ⟨hm.whole h.blk h.far, hm.not h.far h.blk.lt⟩
theorem AyAt.cells (h : AyAt w a p Ak ck F) : w.cell? ⟨a, 0, none⟩ = some (.int .i64 p.what) ∧ w.cell? ⟨a, 1, none⟩ = some (.int .i64 p.n) ∧ w.cell? ⟨a, 2, none⟩ = some (.slice Ak p.data.length ck) ∧ w.cell? ⟨a, 3, none⟩ = some (.int .u64 (p.mask : Int)) ∧ w.cell? ⟨a, 4, none⟩ = some (.int .u64 (p.torn : Int)) :=
  ⟨h.blk.cell 0, h.blk.cell 1, h.blk.cell 2, h.blk.cell 3, h.blk.cell 4⟩
theorem AyAt.ne (h : AyAt w a p Ak ck F) (hm : MoAt w0 w g M A c) : a ≠ g := Whole.ne h.blk hm.blk (by decide)
theorem BothAt.all (h : BothAt L w0 w lv D g M fr A c F) : w.cell? ⟨g, 0, none⟩ = some (.int .i64 M.first) ∧ w.cell? ⟨g, 1, none⟩ = some (.slice A M.recs.length c) ∧ w.cell? ⟨g, 2, none⟩ = some (.int .i64 M.sure) ∧ w.cell? ⟨g, 3, none⟩ = some (.int .i64 (dropI M.drop)) ∧ w.cell? ⟨g, 4, none⟩ = some (.int .i64 M.places) ∧ w.cell? ⟨g, 6, none⟩ = some (.bool M.down) :=
  ⟨h.mo.blk.cell 0, h.mo.blk.cell 1, h.mo.blk.cell 2, h.mo.blk.cell 3, h.mo.blk.cell 4, h.mo.blk.cell 6⟩
/-- The log is another one, and the model's block is stored to. -/
theorem BothAt.stored (h : BothAt L w0 w lv D g M fr A c F) {M' : Lg} {fr' : Bool} {lv' : Value} {A' : Option Addr} {c' : Nat} (ha : L.At w w0.heap.size lv' D M' fr' F) {X : List Value} (hw : Whole w' g 34 X) (hX : X = moCells M' A' c') (hg : Grew (fun j => j = g) w w')
    (hl : ListAt w0 w A' c' M'.recs) (hA : ∀ j, ownA A' j → ownA A j) : BothAt L w0 w' lv' D g M' fr' A' c' F := by
  subst hX
  refine ⟨LogSpec.at_far ha hg h.mo.base h.far.1, ⟨hw, ?_, h.mo.base⟩, ⟨h.far.1, fun j hj => h.far.2 j (hA j hj)⟩, h.below.trans (hg.below (B := w0.heap.size) (fun j hj => by have := h.mo.base; omega) h.below.size)⟩
  refine hl.keep fun j hj => hg.block j (hl.lt hj).2 fun e => ?_
  subst e
  exact h.mo.notOwn (hA _ hj)
theorem AyAt.stored (h : AyAt w a p Ak ck F) (hg : Grew (fun j => j = g) w w') (hne : a ≠ g) : AyAt w' a p Ak ck F := ⟨h.blk.grew hg hne, h.far⟩
end
def YRel (L : LogSpec) (w0 : World) (D g n : Nat) (lv i : Value) (wr : World) : Prop := ∃ (k : Nat) (M : Lg) (fr : Bool) (A : Option Addr) (c : Nat) (F : Nat → Prop), k ≤ n ∧ k ≤ 60 ∧ M.used ≤ k ∧ i = .int .i64 k ∧ BothAt L w0 wr lv D g M fr A c F
def YCut (L : LogSpec) (w0 : World) (D g u : Nat) (lv : Value) (wr : World) : Prop := ∃ (M : Lg) (fr : Bool) (A : Option Addr) (c : Nat) (F : Nat → Prop), M.used ≤ u ∧ BothAt L w0 wr lv D g M fr A c F

end Go.Proofs.YtgfoekbdmgljbaaDoor

namespace Go.Proofs.YtgfoekbdmgljbaaDoor
open Go.RowKit

def blockOf (n : Nat) : Code → Option Code
  | .block m c => if m = n then some (.block m c) else blockOf n c
  | .seq a b => match blockOf n a with
    | some c => some c
    | none => blockOf n b
  | .scope c => blockOf n c
  | .loop c => blockOf n c
  | .cond _ a b => match blockOf n a with
    | some c => some c
    | none => blockOf n b
  | _ => none
noncomputable def yswitch : Code := ((Tryd.f3.body.bind (blockOf 2)).getD .skip)
/-- The same, and no panic: a region that draws asks that an end by panic does not look at the slots. -/
def noPanic (Q : Exit → Act → World → Prop) : Exit → Act → World → Prop := fun e a w => match e with
  | .panic _ => False
  | e => Q e a w
theorem noPanic_le (Q : Exit → Act → World → Prop) : ∀ e a w, noPanic Q e a w → Q e a w := by
  intro e a w h
  cases e with
  | panic _ => exact h.elim
  | _ => exact h
/-- Whatever the slots hold that the switch writes: it may end so. -/
def YOut (L : LogSpec) (w0 : World) (D g u ab : Nat) (p : Ay) (Q : Exit → Act → World → Prop) (x : Exit) (c0 c1 c2 c3 c4 c5 c7 c9 c11 c20 c21 c22 c23 c24 c25 c26 c27 c28 c29 c30 c31 c32 c33 c34 c35 c36 c37 c38 c39 c40 c41 c42 c43 c44 c45 c46 c47 c48 c49 c50 c51 c52 c53 c54 c55 c56 c57 c58 c59 c60 c61 c62 c63 c64 c65 c66 c327 c328 c329 c330 c331 c332 c333 c334 c335 c336 c337 : Value) : Prop :=
  ∀ (lv' v13 v14 v15 v16 v17 v18 v19 v68 v69 v70 v71 v72 v73 v74 v75 v76 v77 v78 v79 v80 v81 v82 v83 v84 v85 v86 v87 v88 v89 v90 v91 v92 v93 v94 v95 v96 v97 v98 v99 v100 v101 v102 v103 v104 v105 v106 v107 v108 v109 v110 v111 v112 v113 v114 v115 v116 v117 v118 v119 v120 v121 v122 v123 v124 v125 v126 v127 v128 v129 v130 v131 v132 v133 v134 v135 v136 v137 v138 v139 v140 v141 v142 v143 v144 v145 v146 v147 v148 v149 v150 v151 v152 v153 v154 v155 v156 v157 v158 v159 v160 v161 v162 v163 v164 v165 v166 v167 v168 v169 v170 v171 v172 v173 v174 v175 v176 v177 v178 v179 v180 v181 v182 v183 v184 v185 v186 v187 v188 v189 v190 v191 v192 v193 v194 v195 v196 v197 v198 v199 v200 v201 v202 v203 v204 v205 v206 v207 v208 v209 v210 v211 v212 v213 v214 v215 v216 v217 v218 v219 v220 v221 v222 v223 v224 v225 v226 v227 v228 v229 v230 v231 v232 v233 v234 v235 v236 v237 v238 v239 v240 v241 v242 v243 v244 v245 v246 v247 v248 v249 v250 v251 v252 v253 v254 v255 v256 v257 v258 v259 v260 v261 v262 v263 v264 v265 v266 v267 v268 v269 v270 v271 v272 v273 v274 v275 v276 v277 v278 v279 v280 v281 v282 v283 v284 v285 v286 v287 v288 v289 v290 v291 v292 v293 v294 v295 v296 v297 v298 v299 v300 v301 v302 v303 v304 v305 v306 v307 v308 v309 v310 v311 v312 v313 v314 v315 v316 v317 v318 v319 v320 v321 v322 v323 v324 v325 v326 : Value) (wx : World), YCut L w0 D g u lv' wx → Q x ⟨#[c0, c1, c2, c3, c4, c5, .pointer (some ⟨D, 0, none⟩), c7, lv', c9, .pointer (some ⟨g, 0, none⟩), c11, .pointer (some ⟨ab, 0, none⟩), v13, v14, v15, v16, v17, v18, v19, c20, c21, c22, c23, c24, c25, c26, c27, c28, c29, c30, c31, c32, c33, c34, c35, c36, c37, c38, c39, c40, c41, c42, c43, c44, c45, c46, c47, c48, c49, c50, c51, c52, c53, c54, c55, c56, c57, c58, c59, c60, c61, c62, c63, c64, c65, c66, .int .i64 p.what, v68, v69, v70, v71, v72, v73, v74, v75, v76, v77, v78, v79, v80, v81, v82, v83, v84, v85, v86, v87, v88, v89, v90, v91, v92, v93, v94, v95, v96, v97, v98, v99, v100, v101, v102, v103, v104, v105, v106, v107, v108, v109, v110, v111, v112, v113, v114, v115, v116, v117, v118, v119, v120, v121, v122, v123, v124, v125, v126, v127, v128, v129, v130, v131, v132, v133, v134, v135, v136, v137, v138, v139, v140, v141, v142, v143, v144, v145, v146, v147, v148, v149, v150, v151, v152, v153, v154, v155, v156, v157, v158, v159, v160, v161, v162, v163, v164, v165, v166, v167, v168, v169, v170, v171, v172, v173, v174, v175, v176, v177, v178, v179, v180, v181, v182, v183, v184, v185, v186, v187, v188, v189, v190, v191, v192, v193, v194, v195, v196, v197, v198, v199, v200, v201, v202, v203, v204, v205, v206, v207, v208, v209, v210, v211, v212, v213, v214, v215, v216, v217, v218, v219, v220, v221, v222, v223, v224, v225, v226, v227, v228, v229, v230, v231, v232, v233, v234, v235, v236, v237, v238, v239, v240, v241, v242, v243, v244, v245, v246, v247, v248, v249, v250, v251, v252, v253, v254, v255, v256, v257, v258, v259, v260, v261, v262, v263, v264, v265, v266, v267, v268, v269, v270, v271, v272, v273, v274, v275, v276, v277, v278, v279, v280, v281, v282, v283, v284, v285, v286, v287, v288, v289, v290, v291, v292, v293, v294, v295, v296, v297, v298, v299, v300, v301, v302, v303, v304, v305, v306, v307, v308, v309, v310, v311, v312, v313, v314, v315, v316, v317, v318, v319, v320, v321, v322, v323, v324, v325, v326, c327, c328, c329, c330, c331, c332, c333, c334, c335, c336, c337], []⟩ wx

section
variable {L : LogSpec} {w0 w w' : World} {lv : Value} {D g : Nat} {M M' : Lg} {fr fr' : Bool} {A A' : Option Addr} {c c' : Nat} {F F' : Nat → Prop}
/-- What a call leaves of the model. -/
theorem BothAt.call (h : BothAt L w0 w lv D g M fr A c F) (hm : Moved F w w' F') : MoAt w0 w' g M A c ∧ (¬ F' g ∧ ∀ j, ownA A j → ¬ F' j) ∧ Below w0.heap.size w0 w' := by
  obtain ⟨h1, h2⟩ := h.mo.moved h.far hm
  have ho := L.at_own h.at_
  exact ⟨h1, h2, h.below.trans (hm.below (fun j hj => (ho.2 j hj).1) ho.1)⟩
/-- The model follows the log. -/
theorem both_set {w1 : World} (ha : L.At w1 w0.heap.size lv D M' fr F) (hm : MoAt w0 w1 g M A c) (hf : ¬ F g ∧ ∀ j, ownA A j → ¬ F j) (hb : Below w0.heap.size w0 w1) {X : List Value} (hw : Whole w' g 34 X) (hX : X = moCells M' A' c') (hg : Grew (fun j => j = g) w1 w')
    (hl : ListAt w0 w1 A' c' M'.recs) (hA : ∀ j, ownA A' j → ownA A j) : BothAt L w0 w' lv D g M' fr A' c' F := by
  subst hX
  refine ⟨LogSpec.at_far ha hg hm.base hf.1, ⟨hw, ?_, hm.base⟩, ⟨hf.1, fun j hj => hf.2 j (hA j hj)⟩, hb.trans (hg.below (B := w0.heap.size) (fun j hj => by have := hm.base; omega) hb.size)⟩
  refine hl.keep fun j hj => hg.block j (hl.lt hj).2 fun e => ?_
  subst e
  exact hm.notOwn (hA _ hj)
/-- .. and so when a record was put behind its list. -/
theorem both_app {w1 w2 w3 : World} (ha : L.At w1 w0.heap.size lv D M' fr F) (hm : MoAt w0 w1 g M A c) (hf : ¬ F g ∧ ∀ j, ownA A j → ¬ F j) (hb : Below w0.heap.size w0 w1) (h2 : Below w1.heap.size w1 w2) (h3 : Grew (ownA A) w2 w3)
    (ho : ∀ j, ownA A' j → ownA A j ∨ w2.heap.size ≤ j) (hl : ListAt w0 w3 A' c' M'.recs) {X : List Value} (hw : Whole w' g 34 X) (hX : X = moCells M' A' c') (hg : Grew (fun j => j = g) w3 w') : BothAt L w0 w' lv D g M' fr A' c' F := by
  subst hX
  have hgl := hm.blk.lt
  have hs2 := h2.size
  have hs1 := hb.size
  have a2 := LogSpec.at_below ha h2
  have b3 : Below w0.heap.size w2 w3 := h3.below (fun j hj => (hm.list.lt hj).1) (by omega)
  have a3 := L.at_keep a2 b3 fun j hj => h3.block j ((L.at_own a2).2 j hj).2 fun e => hf.2 j e hj
  have hs3 := b3.size
  refine ⟨LogSpec.at_far a3 hg hm.base hf.1, ⟨hw, ?_, hm.base⟩, ⟨hf.1, fun j hj => ?_⟩, ((hb.trans (h2.mono (by omega))).trans b3).trans (hg.below (B := w0.heap.size) (fun j hj => by have := hm.base; omega) (by omega))⟩
  · refine hl.keep fun j hj => hg.block j (hl.lt hj).2 fun e => ?_
    subst e
    rcases ho _ hj with h | h
    · exact hm.notOwn h
    · omega
  · rcases ho j hj with h | h
    · exact hf.2 j h
    · exact LogSpec.at_not a2 h
theorem grew1 (w : World) (g k : Nat) (u : Value) : Grew (fun j => j = g) w (w.setCell ⟨g, k, none⟩ u) := Grew.setCell (Grew.refl (fun j => j = g) w) (a := ⟨g, k, none⟩) (.inl rfl) u
theorem grew2 (w : World) (g k l : Nat) (u v : Value) : Grew (fun j => j = g) w ((w.setCell ⟨g, k, none⟩ u).setCell ⟨g, l, none⟩ v) := Grew.setCell (grew1 w g k u) (a := ⟨g, l, none⟩) (.inl rfl) v
theorem grew3 (w : World) (g k l m : Nat) (u v x : Value) : Grew (fun j => j = g) w (((w.setCell ⟨g, k, none⟩ u).setCell ⟨g, l, none⟩ v).setCell ⟨g, m, none⟩ x) := Grew.setCell (grew2 w g k l u v) (a := ⟨g, m, none⟩) (.inl rfl) x
end

end Go.Proofs.YtgfoekbdmgljbaaDoor

namespace Go.Proofs.YtgfoekbdmgljbaaDoor
open Go.RowKit

set_option maxHeartbeats 4000000 in
set_option maxRecDepth 100000 in
theorem ysw_other (L : LogSpec) {w0 V : World} {lv : Value} {D g u ab : Nat} {M : Lg} {fr : Bool} {A Ak : Option Addr} {c ck : Nat} {F : Nat → Prop} {p : Ay} {Q : Exit → Act → World → Prop} (c0 c1 c2 c3 c4 c5 c7 c9 c11 c13 c14 c15 c16 c17 c18 c19 c20 c21 c22 c23 c24 c25 c26 c27 c28 c29 c30 c31 c32 c33 c34 c35 c36 c37 c38 c39 c40 c41 c42 c43 c44 c45 c46 c47 c48 c49 c50 c51 c52 c53 c54 c55 c56 c57 c58 c59 c60 c61 c62 c63 c64 c65 c66 c68 c69 c70 c71 c72 c73 c74 c75 c76 c77 c78 c79 c80 c81 c82 c83 c84 c85 c86 c87 c88 c89 c90 c91 c92 c93 c94 c95 c96 c97 c98 c99 c100 c101 c102 c103 c104 c105 c106 c107 c108 c109 c110 c111 c112 c113 c114 c115 c116 c117 c118 c119 c120 c121 c122 c123 c124 c125 c126 c127 c128 c129 c130 c131 c132 c133 c134 c135 c136 c137 c138 c139 c140 c141 c142 c143 c144 c145 c146 c147 c148 c149 c150 c151 c152 c153 c154 c155 c156 c157 c158 c159 c160 c161 c162 c163 c164 c165 c166 c167 c168 c169 c170 c171 c172 c173 c174 c175 c176 c177 c178 c179 c180 c181 c182 c183 c184 c185 c186 c187 c188 c189 c190 c191 c192 c193 c194 c195 c196 c197 c198 c199 c200 c201 c202 c203 c204 c205 c206 c207 c208 c209 c210 c211 c212 c213 c214 c215 c216 c217 c218 c219 c220 c221 c222 c223 c224 c225 c226 c227 c228 c229 c230 c231 c232 c233 c234 c235 c236 c237 c238 c239 c240 c241 c242 c243 c244 c245 c246 c247 c248 c249 c250 c251 c252 c253 c254 c255 c256 c257 c258 c259 c260 c261 c262 c263 c264 c265 c266 c267 c268 c269 c270 c271 c272 c273 c274 c275 c276 c277 c278 c279 c280 c281 c282 c283 c284 c285 c286 c287 c288 c289 c290 c291 c292 c293 c294 c295 c296 c297 c298 c299 c300 c301 c302 c303 c304 c305 c306 c307 c308 c309 c310 c311 c312 c313 c314 c315 c316 c317 c318 c319 c320 c321 c322 c323 c324 c325 c326 c327 c328 c329 c330 c331 c332 c333 c334 c335 c336 c337 : Value)
    (h : BothAt L w0 V lv D g M fr A c F) (hu : M.used + 1 ≤ u ∧ u ≤ 1000) (_ : AyAt V ab p Ak ck F) (_ : Row w0 w0.heap.size Ak (p.data.map bc)) (_ : p.data.length ≤ 3000) (_ : p.mask < 18446744073709551616 ∧ p.torn < 18446744073709551616)
    (hN : YOut L w0 D g u ab p Q .normal c0 c1 c2 c3 c4 c5 c7 c9 c11 c20 c21 c22 c23 c24 c25 c26 c27 c28 c29 c30 c31 c32 c33 c34 c35 c36 c37 c38 c39 c40 c41 c42 c43 c44 c45 c46 c47 c48 c49 c50 c51 c52 c53 c54 c55 c56 c57 c58 c59 c60 c61 c62 c63 c64 c65 c66 c327 c328 c329 c330 c331 c332 c333 c334 c335 c336 c337) (_ : YOut L w0 D g u ab p Q (.exit 1) c0 c1 c2 c3 c4 c5 c7 c9 c11 c20 c21 c22 c23 c24 c25 c26 c27 c28 c29 c30 c31 c32 c33 c34 c35 c36 c37 c38 c39 c40 c41 c42 c43 c44 c45 c46 c47 c48 c49 c50 c51 c52 c53 c54 c55 c56 c57 c58 c59 c60 c61 c62 c63 c64 c65 c66 c327 c328 c329 c330 c331 c332 c333 c334 c335 c336 c337)
    (e1 : (p.what == 1) = false) (e2 : (p.what == 2) = false) (e3 : (p.what == 3) = false) (e4 : (p.what == 4) = false) (e5 : (p.what == 5) = false) (e6 : (p.what == 6) = false) : Code.wp Tryd.prog yswitch Q ⟨#[c0, c1, c2, c3, c4, c5, .pointer (some ⟨D, 0, none⟩), c7, lv, c9, .pointer (some ⟨g, 0, none⟩), c11, .pointer (some ⟨ab, 0, none⟩), c13, c14, c15, c16, c17, c18, c19, c20, c21, c22, c23, c24, c25, c26, c27, c28, c29, c30, c31, c32, c33, c34, c35, c36, c37, c38, c39, c40, c41, c42, c43, c44, c45, c46, c47, c48, c49, c50, c51, c52, c53, c54, c55, c56, c57, c58, c59, c60, c61, c62, c63, c64, c65, c66, .int .i64 p.what, c68, c69, c70, c71, c72, c73, c74, c75, c76, c77, c78, c79, c80, c81, c82, c83, c84, c85, c86, c87, c88, c89, c90, c91, c92, c93, c94, c95, c96, c97, c98, c99, c100, c101, c102, c103, c104, c105, c106, c107, c108, c109, c110, c111, c112, c113, c114, c115, c116, c117, c118, c119, c120, c121, c122, c123, c124, c125, c126, c127, c128, c129, c130, c131, c132, c133, c134, c135, c136, c137, c138, c139, c140, c141, c142, c143, c144, c145, c146, c147, c148, c149, c150, c151, c152, c153, c154, c155, c156, c157, c158, c159, c160, c161, c162, c163, c164, c165, c166, c167, c168, c169, c170, c171, c172, c173, c174, c175, c176, c177, c178, c179, c180, c181, c182, c183, c184, c185, c186, c187, c188, c189, c190, c191, c192, c193, c194, c195, c196, c197, c198, c199, c200, c201, c202, c203, c204, c205, c206, c207, c208, c209, c210, c211, c212, c213, c214, c215, c216, c217, c218, c219, c220, c221, c222, c223, c224, c225, c226, c227, c228, c229, c230, c231, c232, c233, c234, c235, c236, c237, c238, c239, c240, c241, c242, c243, c244, c245, c246, c247, c248, c249, c250, c251, c252, c253, c254, c255, c256, c257, c258, c259, c260, c261, c262, c263, c264, c265, c266, c267, c268, c269, c270, c271, c272, c273, c274, c275, c276, c277, c278, c279, c280, c281, c282, c283, c284, c285, c286, c287, c288, c289, c290, c291, c292, c293, c294, c295, c296, c297, c298, c299, c300, c301, c302, c303, c304, c305, c306, c307, c308, c309, c310, c311, c312, c313, c314, c315, c316, c317, c318, c319, c320, c321, c322, c323, c324, c325, c326, c327, c328, c329, c330, c331, c332, c333, c334, c335, c336, c337], []⟩ V := by
  conv => arg 2; whnf
  have HUB := Lib.hid hu
  clear hu
  go_wp2
  exact hN _ _ _ _ _ _ _ _ _ _ _ _ _ _ _ _ _ _ _ _ _ _ _ _ _ _ _ _ _ _ _ _ _ _ _ _ _ _ _ _ _ _ _ _ _ _ _ _ _ _ _ _ _ _ _ _ _ _ _ _ _ _ _ _ _ _ _ _ _ _ _ _ _ _ _ _ _ _ _ _ _ _ _ _ _ _ _ _ _ _ _ _ _ _ _ _ _ _ _ _ _ _ _ _ _ _ _ _ _ _ _ _ _ _ _ _ _ _ _ _ _ _ _ _ _ _ _ _ _ _ _ _ _ _ _ _ _ _ _ _ _ _ _ _ _ _ _ _ _ _ _ _ _ _ _ _ _ _ _ _ _ _ _ _ _ _ _ _ _ _ _ _ _ _ _ _ _ _ _ _ _ _ _ _ _ _ _ _ _ _ _ _ _ _ _ _ _ _ _ _ _ _ _ _ _ _ _ _ _ _ _ _ _ _ _ _ _ _ _ _ _ _ _ _ _ _ _ _ _ _ _ _ _ _ _ _ _ _ _ _ _ _ _ _ _ _ _ _ _ _ _ _ _ _ _ _ _ _ _ _ _ _ _ _ _ _ _ _ ⟨M, fr, A, c, F, (by first | exact HUB.out.1 | exact Nat.le_of_succ_le HUB.out.1), h⟩

end Go.Proofs.YtgfoekbdmgljbaaDoor

namespace Go.Proofs.YtgfoekbdmgljbaaDoor
open Go.RowKit

set_option maxHeartbeats 4000000 in
set_option maxRecDepth 100000 in
theorem ysw_1 (L : LogSpec) {w0 V : World} {lv : Value} {D g u ab : Nat} {M : Lg} {fr : Bool} {A Ak : Option Addr} {c ck : Nat} {F : Nat → Prop} {p : Ay} {Q : Exit → Act → World → Prop} (c0 c1 c2 c3 c4 c5 c7 c9 c11 c13 c14 c15 c16 c17 c18 c19 c20 c21 c22 c23 c24 c25 c26 c27 c28 c29 c30 c31 c32 c33 c34 c35 c36 c37 c38 c39 c40 c41 c42 c43 c44 c45 c46 c47 c48 c49 c50 c51 c52 c53 c54 c55 c56 c57 c58 c59 c60 c61 c62 c63 c64 c65 c66 c68 c69 c70 c71 c72 c73 c74 c75 c76 c77 c78 c79 c80 c81 c82 c83 c84 c85 c86 c87 c88 c89 c90 c91 c92 c93 c94 c95 c96 c97 c98 c99 c100 c101 c102 c103 c104 c105 c106 c107 c108 c109 c110 c111 c112 c113 c114 c115 c116 c117 c118 c119 c120 c121 c122 c123 c124 c125 c126 c127 c128 c129 c130 c131 c132 c133 c134 c135 c136 c137 c138 c139 c140 c141 c142 c143 c144 c145 c146 c147 c148 c149 c150 c151 c152 c153 c154 c155 c156 c157 c158 c159 c160 c161 c162 c163 c164 c165 c166 c167 c168 c169 c170 c171 c172 c173 c174 c175 c176 c177 c178 c179 c180 c181 c182 c183 c184 c185 c186 c187 c188 c189 c190 c191 c192 c193 c194 c195 c196 c197 c198 c199 c200 c201 c202 c203 c204 c205 c206 c207 c208 c209 c210 c211 c212 c213 c214 c215 c216 c217 c218 c219 c220 c221 c222 c223 c224 c225 c226 c227 c228 c229 c230 c231 c232 c233 c234 c235 c236 c237 c238 c239 c240 c241 c242 c243 c244 c245 c246 c247 c248 c249 c250 c251 c252 c253 c254 c255 c256 c257 c258 c259 c260 c261 c262 c263 c264 c265 c266 c267 c268 c269 c270 c271 c272 c273 c274 c275 c276 c277 c278 c279 c280 c281 c282 c283 c284 c285 c286 c287 c288 c289 c290 c291 c292 c293 c294 c295 c296 c297 c298 c299 c300 c301 c302 c303 c304 c305 c306 c307 c308 c309 c310 c311 c312 c313 c314 c315 c316 c317 c318 c319 c320 c321 c322 c323 c324 c325 c326 c327 c328 c329 c330 c331 c332 c333 c334 c335 c336 c337 : Value)
    (h : BothAt L w0 V lv D g M fr A c F) (hu : M.used + 1 ≤ u ∧ u ≤ 1000) (ha : AyAt V ab p Ak ck F) (hr : Row w0 w0.heap.size Ak (p.data.map bc)) (hd : p.data.length ≤ 3000) (_ : p.mask < 18446744073709551616 ∧ p.torn < 18446744073709551616)
    (hN : YOut L w0 D g u ab p Q .normal c0 c1 c2 c3 c4 c5 c7 c9 c11 c20 c21 c22 c23 c24 c25 c26 c27 c28 c29 c30 c31 c32 c33 c34 c35 c36 c37 c38 c39 c40 c41 c42 c43 c44 c45 c46 c47 c48 c49 c50 c51 c52 c53 c54 c55 c56 c57 c58 c59 c60 c61 c62 c63 c64 c65 c66 c327 c328 c329 c330 c331 c332 c333 c334 c335 c336 c337) (_ : YOut L w0 D g u ab p Q (.exit 1) c0 c1 c2 c3 c4 c5 c7 c9 c11 c20 c21 c22 c23 c24 c25 c26 c27 c28 c29 c30 c31 c32 c33 c34 c35 c36 c37 c38 c39 c40 c41 c42 c43 c44 c45 c46 c47 c48 c49 c50 c51 c52 c53 c54 c55 c56 c57 c58 c59 c60 c61 c62 c63 c64 c65 c66 c327 c328 c329 c330 c331 c332 c333 c334 c335 c336 c337)
    (e1 : (p.what == 1) = true) : Code.wp Tryd.prog yswitch Q ⟨#[c0, c1, c2, c3, c4, c5, .pointer (some ⟨D, 0, none⟩), c7, lv, c9, .pointer (some ⟨g, 0, none⟩), c11, .pointer (some ⟨ab, 0, none⟩), c13, c14, c15, c16, c17, c18, c19, c20, c21, c22, c23, c24, c25, c26, c27, c28, c29, c30, c31, c32, c33, c34, c35, c36, c37, c38, c39, c40, c41, c42, c43, c44, c45, c46, c47, c48, c49, c50, c51, c52, c53, c54, c55, c56, c57, c58, c59, c60, c61, c62, c63, c64, c65, c66, .int .i64 p.what, c68, c69, c70, c71, c72, c73, c74, c75, c76, c77, c78, c79, c80, c81, c82, c83, c84, c85, c86, c87, c88, c89, c90, c91, c92, c93, c94, c95, c96, c97, c98, c99, c100, c101, c102, c103, c104, c105, c106, c107, c108, c109, c110, c111, c112, c113, c114, c115, c116, c117, c118, c119, c120, c121, c122, c123, c124, c125, c126, c127, c128, c129, c130, c131, c132, c133, c134, c135, c136, c137, c138, c139, c140, c141, c142, c143, c144, c145, c146, c147, c148, c149, c150, c151, c152, c153, c154, c155, c156, c157, c158, c159, c160, c161, c162, c163, c164, c165, c166, c167, c168, c169, c170, c171, c172, c173, c174, c175, c176, c177, c178, c179, c180, c181, c182, c183, c184, c185, c186, c187, c188, c189, c190, c191, c192, c193, c194, c195, c196, c197, c198, c199, c200, c201, c202, c203, c204, c205, c206, c207, c208, c209, c210, c211, c212, c213, c214, c215, c216, c217, c218, c219, c220, c221, c222, c223, c224, c225, c226, c227, c228, c229, c230, c231, c232, c233, c234, c235, c236, c237, c238, c239, c240, c241, c242, c243, c244, c245, c246, c247, c248, c249, c250, c251, c252, c253, c254, c255, c256, c257, c258, c259, c260, c261, c262, c263, c264, c265, c266, c267, c268, c269, c270, c271, c272, c273, c274, c275, c276, c277, c278, c279, c280, c281, c282, c283, c284, c285, c286, c287, c288, c289, c290, c291, c292, c293, c294, c295, c296, c297, c298, c299, c300, c301, c302, c303, c304, c305, c306, c307, c308, c309, c310, c311, c312, c313, c314, c315, c316, c317, c318, c319, c320, c321, c322, c323, c324, c325, c326, c327, c328, c329, c330, c331, c332, c333, c334, c335, c336, c337], []⟩ V := by
  conv => arg 2; whnf
  have HUB := Lib.hid hu
  clear hu
  refine Code.wp_mono (noPanic_le Q) ?_
  obtain ⟨i0, hi0, hz0, hz1, hz2⟩ := info_parts u8_info
  obtain ⟨_, _, q2, _, _⟩ := ha.cells
  have q2a : (V.alloc (.cells #[] 5)).cell? ⟨ab, 2, none⟩ = some (.slice Ak p.data.length ck) := (World.cell?_alloc_lt V _ ⟨ab, 2, none⟩ ha.blk.lt).trans q2
  have HH := Lib.hid h
  have HAY := Lib.hid ha
  have HRO := Lib.hid hr
  have HSM := Lib.hid (show p.data.length ≤ 16384 by omega)
  have hvz := h.below.size
  clear h ha hr
  go_wp2_with (
    at_builtin
    refine wpList_append_row rfl (.tmp 72) (.tmp 74) _ rfl V.heap.size 5 i0 _ 1 1 Tryd.underlying35 hi0 hz0 hz1 hz2 rfl (by omega) (.slice (some ⟨V.heap.size, 0, none⟩) 0 0) 0 [] rfl
      (own_lit _ _ _) Ak p.data.length ck w0.heap.size (p.data.map bc) rfl (by rw [List.length_map]; omega) ((HRO.out.below HH.out.below).alloc hvz (.cells #[] 5)) (bc_one p.data) (by unfold maxLen; omega) (by omega) (by simp) ?_
    intro v3 w3 hown3 hg3
    simp only [Nat.zero_add, List.nil_append] at hown3
    obtain ⟨A3, c3, rfl, hc31, _⟩ := own_form hown3
    have HO3 := Lib.hid hown3
    have HC3 := Lib.hid hc31
    have hB3 := (own_below ((Below.refl V.heap.size V).alloc (Nat.le_refl _) _) (Nat.le_refl _) (by simp) (own_lit V 5 1) hg3)
    have HH3 := Lib.hid (HH.out.next hB3)
    have HAY3 := Lib.hid (HAY.out.below hB3)
    clear hown3 hg3 hB3 hc31)
  refine (L.append HH3.out.at_ (by have := HUB.out; omega) A3 c3 p.data.length p.data rfl (Row.of_own HO3.out) HC3.out (by omega)).mono ?_
  rintro e w1 ⟨zz, g1, M1, F1, rfl, hap, hat, hm1⟩
  obtain ⟨hmo, hfar, hbel⟩ := HH3.out.call hm1
  have hay := HAY3.out.moved hm1
  have hok := L.at_ok HH3.out.at_
  have HMO := Lib.hid hmo
  have HFA := Lib.hid hfar
  have HBE := Lib.hid hbel
  have HAT := Lib.hid hat
  have HNO := Lib.hid hmo.notOwn
  have HLN := Lib.hid (show M.recs.length < 100000 by have h1 := length_le_taken M.recs; have h2 := taken_few hok; omega)
  have HTK := Lib.hid (fun W (hb : Below w1.heap.size w1 W) => taken_any (hmo.below hb) (taken_few hok))
  obtain ⟨_, _, q2, _, _⟩ := hay.cells
  have p0 : w1.cell? ⟨g, 0, none⟩ = some (.int .i64 M.first) := hmo.blk.cell 0
  have p1 : w1.cell? ⟨g, 1, none⟩ = some (.slice A M.recs.length c) := hmo.blk.cell 1
  have p4 : w1.cell? ⟨g, 4, none⟩ = some (.int .i64 M.places) := hmo.blk.cell 4
  have p6 : w1.cell? ⟨g, 6, none⟩ = some (.bool M.down) := hmo.blk.cell 6
  have z1 := hmo.blk.frozen 1
  have z6 := hmo.blk.frozen 6
  have hpl : M.places ≤ 4094 := hok.places
  have htk : M.taken ≤ M.places := hok.few
  have hpp : partsN p.data.length ≤ 34 := partsN_le (by omega)
  have hhi : (M.first : Int) + (M.recs.length : Int) ≤ 36028797018963968 := by have := hok.high; omega
  have HPA := Lib.hid (fun W => parts_any p.data.length (by omega) W)
  obtain ⟨pa, hpa⟩ : ∃ pa, partsN p.data.length = pa := ⟨_, rfl⟩
  obtain ⟨tk, htkd⟩ : ∃ tk, M.taken = tk := ⟨_, rfl⟩
  obtain ⟨pl, hpld⟩ : ∃ pl, M.places = pl := ⟨_, rfl⟩
  rw [hpa] at HPA hpp
  rw [htkd] at HTK htk
  rw [hpld] at htk hpl p4
  have HMB := Lib.hid (fun W (hb : Below w1.heap.size w1 W) => (show ListAt w0 W A c M.recs ∧ Whole W g 34 (moCells M A c) ∧ w0.heap.size ≤ W.heap.size from by have h := hmo.below hb; have h1 := hbel.size; have h2 := hb.size; exact ⟨h.list, h.blk, by omega⟩))
  have p1a : (w1.alloc (.cells #[Value.slice Ak p.data.length ck] 35)).cell? ⟨g, 1, none⟩ = some (.slice A M.recs.length c) := (World.cell?_alloc_lt w1 _ ⟨g, 1, none⟩ hmo.blk.lt).trans p1
  clear hmo hfar hbel hat hm1 hay hok q2a
  rcases hap with ⟨h1, rfl, rfl⟩ | ⟨h1, h2, rfl, rfl⟩ | ⟨h1, h2, rfl, hz, rfl⟩ | ⟨h1, h2, _, rfl, rfl⟩
  · rw [h1] at p6
    have HB := Lib.hid (show BothAt L w0 w1 lv D g M1 fr A c F1 from ⟨HAT.out, HMO.out, HFA.out, HBE.out⟩)
    clear h1
    go_wp2
    exact hN _ _ _ _ _ _ _ _ _ _ _ _ _ _ _ _ _ _ _ _ _ _ _ _ _ _ _ _ _ _ _ _ _ _ _ _ _ _ _ _ _ _ _ _ _ _ _ _ _ _ _ _ _ _ _ _ _ _ _ _ _ _ _ _ _ _ _ _ _ _ _ _ _ _ _ _ _ _ _ _ _ _ _ _ _ _ _ _ _ _ _ _ _ _ _ _ _ _ _ _ _ _ _ _ _ _ _ _ _ _ _ _ _ _ _ _ _ _ _ _ _ _ _ _ _ _ _ _ _ _ _ _ _ _ _ _ _ _ _ _ _ _ _ _ _ _ _ _ _ _ _ _ _ _ _ _ _ _ _ _ _ _ _ _ _ _ _ _ _ _ _ _ _ _ _ _ _ _ _ _ _ _ _ _ _ _ _ _ _ _ _ _ _ _ _ _ _ _ _ _ _ _ _ _ _ _ _ _ _ _ _ _ _ _ _ _ _ _ _ _ _ _ _ _ _ _ _ _ _ _ _ _ _ _ _ _ _ _ _ _ _ _ _ _ _ _ _ _ _ _ _ _ _ _ _ _ _ _ _ _ _ _ _ _ _ _ _ _ ⟨M1, fr, A, c, F1, (by first | exact HUB.out.1 | exact Nat.le_of_succ_le HUB.out.1), HB.out⟩
  · rw [h1] at p6
    have HB := Lib.hid (show BothAt L w0 w1 lv D g M1 fr A c F1 from ⟨HAT.out, HMO.out, HFA.out, HBE.out⟩)
    rw [hpa, htkd, hpld] at h2
    have r1 : IntKind.i64.wrap ((pl : Int) - (tk : Int)) = (pl : Int) - (tk : Int) := IntWalk.i64_in _ (by omega)
    have d1 : decide (IntKind.i64.wrap ((pl : Int) - (tk : Int)) < (pa : Int)) = true := by rw [r1]; simp; omega
    clear r1
    clear h1 h2 hpa htkd hpld
    go_wp2
    go_region_held3 (fun X => X.cell? ⟨g, 4, none⟩ = some (.int .i64 (pl : Int)) ∧ X.cell? ⟨ab, 2, none⟩ = some (.slice Ak p.data.length ck))
      (go_keep)
      ((first
        | (go_at_call 10
           refine (HPA.out _).mono ?_
           rintro e w' ⟨rfl, rfl⟩)
        | (go_at_call 11
           refine (HTK.out _ (Below.refl w1.heap.size w1).drew).mono ?_
           rintro e w' ⟨rfl, rfl⟩)))
    go_wp2
    exact hN _ _ _ _ _ _ _ _ _ _ _ _ _ _ _ _ _ _ _ _ _ _ _ _ _ _ _ _ _ _ _ _ _ _ _ _ _ _ _ _ _ _ _ _ _ _ _ _ _ _ _ _ _ _ _ _ _ _ _ _ _ _ _ _ _ _ _ _ _ _ _ _ _ _ _ _ _ _ _ _ _ _ _ _ _ _ _ _ _ _ _ _ _ _ _ _ _ _ _ _ _ _ _ _ _ _ _ _ _ _ _ _ _ _ _ _ _ _ _ _ _ _ _ _ _ _ _ _ _ _ _ _ _ _ _ _ _ _ _ _ _ _ _ _ _ _ _ _ _ _ _ _ _ _ _ _ _ _ _ _ _ _ _ _ _ _ _ _ _ _ _ _ _ _ _ _ _ _ _ _ _ _ _ _ _ _ _ _ _ _ _ _ _ _ _ _ _ _ _ _ _ _ _ _ _ _ _ _ _ _ _ _ _ _ _ _ _ _ _ _ _ _ _ _ _ _ _ _ _ _ _ _ _ _ _ _ _ _ _ _ _ _ _ _ _ _ _ _ _ _ _ _ _ _ _ _ _ _ _ _ _ _ _ _ _ _ _ _ ⟨M1, fr, A, c, F1, (by first | exact HUB.out.1 | exact Nat.le_of_succ_le HUB.out.1), HB.out.next (Below.refl _ _).drew⟩
  · rw [h1] at p6
    have HD := Lib.hid h1
    rw [hpa, htkd, hpld] at h2
    have hzz : zz = (M.first : Int) + (M.recs.length : Int) := by rw [hz]; unfold Lg.next; omega
    subst hzz
    have r2 : IntKind.i64.wrap ((pl : Int) - (tk : Int)) = (pl : Int) - (tk : Int) := IntWalk.i64_in _ (by omega)
    have d1 : decide (IntKind.i64.wrap ((pl : Int) - (tk : Int)) < (pa : Int)) = false := by rw [r2]; simp; omega
    clear r2
    have s1 : ((M.first : Int) + (M.recs.length : Int) != (M.first : Int) + (M.recs.length : Int)) = false := by simp
    have r1 : IntKind.i64.wrap ((M.first : Int) + (M.recs.length : Int)) = (M.first : Int) + (M.recs.length : Int) := IntWalk.i64_in _ (by omega)
    clear h1 h2 hz hpa htkd hpld
    go_wp2
    go_region_held3 (fun X => X.cell? ⟨g, 4, none⟩ = some (.int .i64 (pl : Int)) ∧ X.cell? ⟨ab, 2, none⟩ = some (.slice Ak p.data.length ck))
      (go_keep)
      ((first
        | (go_at_call 10
           refine (HPA.out _).mono ?_
           rintro e w' ⟨rfl, rfl⟩)
        | (go_at_call 11
           refine (HTK.out _ (Below.refl w1.heap.size w1).drew).mono ?_
           rintro e w' ⟨rfl, rfl⟩)))
    go_wp2
    go_region_held3 (fun X => X.cell? ⟨g, 0, none⟩ = some (.int .i64 M.first) ∧ X.cell? ⟨g, 1, none⟩ = some (.slice A M.recs.length c))
      (go_keep)
      (skip)
    go_wp2
    go_region_law (first
      | (refine step_append_list (w0 := w0) (A := A) (c := c) (n := M.recs.length) (rs := M.recs) (by rfl) (.tmp 120) (.tmp 123) (by rfl) (by exact (HMB.out _ (by first | exact ((Below.refl _ _).alloc (Nat.le_refl _) _).drew.drew.drew | exact (Below.refl _ _).drew.drew.drew.alloc (Nat.le_refl _) _ | exact ((Below.refl _ _).drew.drew.alloc (Nat.le_refl _) _).drew | exact (Below.refl _ _).drew.drew.alloc (Nat.le_refl _) _)).1) (by rfl) (by rfl) ⟨w1.heap.size, 0, none⟩ 1 (by rfl) Ak ck p.data
           (by exact (Whole.made _ [.slice Ak p.data.length ck] 35).cell 0) HRO.out HSM.out HLN.out
           (by exact (HMB.out _ (by first | exact ((Below.refl _ _).alloc (Nat.le_refl _) _).drew.drew.drew | exact (Below.refl _ _).drew.drew.drew.alloc (Nat.le_refl _) _ | exact ((Below.refl _ _).drew.drew.alloc (Nat.le_refl _) _).drew | exact (Below.refl _ _).drew.drew.alloc (Nat.le_refl _) _)).2.2) ?_
         intro A' c' w' hl hg hown
         have hwg := (HMB.out _ (by first | exact ((Below.refl _ _).alloc (Nat.le_refl _) _).drew.drew.drew | exact (Below.refl _ _).drew.drew.drew.alloc (Nat.le_refl _) _ | exact ((Below.refl _ _).drew.drew.alloc (Nat.le_refl _) _).drew | exact (Below.refl _ _).drew.drew.alloc (Nat.le_refl _) _)).2.1.grew hg HNO.out
         have t1 : w'.cell? ⟨g, 1, none⟩ = some (.slice A M.recs.length c) := hwg.cell 1
         have y1 := hwg.frozen 1
         have t6 : w'.cell? ⟨g, 6, none⟩ = some (.bool M.down) := hwg.cell 6
         have y6 := hwg.frozen 6
         rw [HD.out] at t6
         have HWG := Lib.hid hwg
         have HLG := Lib.hid hl
         have HGG := Lib.hid hg
         have HOG := Lib.hid hown
         clear hl hg hown hwg))
    all_goals
      go_wp2
      have hall := both_app HAT.out HMO.out HFA.out HBE.out (by first | exact ((Below.refl _ _).alloc (Nat.le_refl _) _).drew.drew.drew | exact ((Below.refl _ _).alloc (Nat.le_refl _) _).drew.drew | exact (Below.refl _ _).drew.drew.drew.alloc (Nat.le_refl _) _) HGG.out HOG.out HLG.out (HWG.out.set_ 1 _) (by simp only [moCells, List.length_append, List.length_singleton]; rfl) (grew1 _ _ _ _)
      exact hN _ _ _ _ _ _ _ _ _ _ _ _ _ _ _ _ _ _ _ _ _ _ _ _ _ _ _ _ _ _ _ _ _ _ _ _ _ _ _ _ _ _ _ _ _ _ _ _ _ _ _ _ _ _ _ _ _ _ _ _ _ _ _ _ _ _ _ _ _ _ _ _ _ _ _ _ _ _ _ _ _ _ _ _ _ _ _ _ _ _ _ _ _ _ _ _ _ _ _ _ _ _ _ _ _ _ _ _ _ _ _ _ _ _ _ _ _ _ _ _ _ _ _ _ _ _ _ _ _ _ _ _ _ _ _ _ _ _ _ _ _ _ _ _ _ _ _ _ _ _ _ _ _ _ _ _ _ _ _ _ _ _ _ _ _ _ _ _ _ _ _ _ _ _ _ _ _ _ _ _ _ _ _ _ _ _ _ _ _ _ _ _ _ _ _ _ _ _ _ _ _ _ _ _ _ _ _ _ _ _ _ _ _ _ _ _ _ _ _ _ _ _ _ _ _ _ _ _ _ _ _ _ _ _ _ _ _ _ _ _ _ _ _ _ _ _ _ _ _ _ _ _ _ _ _ _ _ _ _ _ _ _ _ _ _ _ _ _ ⟨_, fr, _, _, F1, (by first | exact HUB.out.1 | exact Nat.le_of_succ_le HUB.out.1), hall⟩
  · rw [h1] at p6
    have HD := Lib.hid h1
    rw [hpa, htkd, hpld] at h2
    have r2 : IntKind.i64.wrap ((pl : Int) - (tk : Int)) = (pl : Int) - (tk : Int) := IntWalk.i64_in _ (by omega)
    have d1 : decide (IntKind.i64.wrap ((pl : Int) - (tk : Int)) < (pa : Int)) = false := by rw [r2]; simp; omega
    clear r2
    clear h1 h2 hpa htkd hpld
    go_wp2
    go_region_held3 (fun X => X.cell? ⟨g, 4, none⟩ = some (.int .i64 (pl : Int)) ∧ X.cell? ⟨ab, 2, none⟩ = some (.slice Ak p.data.length ck))
      (go_keep)
      ((first
        | (go_at_call 10
           refine (HPA.out _).mono ?_
           rintro e w' ⟨rfl, rfl⟩)
        | (go_at_call 11
           refine (HTK.out _ (Below.refl w1.heap.size w1).drew).mono ?_
           rintro e w' ⟨rfl, rfl⟩)))
    go_wp2
    go_region_law (first
      | (refine step_append_list (w0 := w0) (A := A) (c := c) (n := M.recs.length) (rs := M.recs) (by rfl) (.tmp 134) (.tmp 137) (by rfl) (by exact (HMB.out _ (by first | exact ((Below.refl _ _).alloc (Nat.le_refl _) _).drew.drew.drew | exact (Below.refl _ _).drew.drew.drew.alloc (Nat.le_refl _) _ | exact ((Below.refl _ _).drew.drew.alloc (Nat.le_refl _) _).drew | exact (Below.refl _ _).drew.drew.alloc (Nat.le_refl _) _)).1) (by rfl) (by rfl) ⟨w1.heap.size, 0, none⟩ 1 (by rfl) Ak ck p.data
           (by exact (Whole.made _ [.slice Ak p.data.length ck] 35).cell 0) HRO.out HSM.out HLN.out
           (by exact (HMB.out _ (by first | exact ((Below.refl _ _).alloc (Nat.le_refl _) _).drew.drew.drew | exact (Below.refl _ _).drew.drew.drew.alloc (Nat.le_refl _) _ | exact ((Below.refl _ _).drew.drew.alloc (Nat.le_refl _) _).drew | exact (Below.refl _ _).drew.drew.alloc (Nat.le_refl _) _)).2.2) ?_
         intro A' c' w' hl hg hown
         have hwg := (HMB.out _ (by first | exact ((Below.refl _ _).alloc (Nat.le_refl _) _).drew.drew.drew | exact (Below.refl _ _).drew.drew.drew.alloc (Nat.le_refl _) _ | exact ((Below.refl _ _).drew.drew.alloc (Nat.le_refl _) _).drew | exact (Below.refl _ _).drew.drew.alloc (Nat.le_refl _) _)).2.1.grew hg HNO.out
         have t1 : w'.cell? ⟨g, 1, none⟩ = some (.slice A M.recs.length c) := hwg.cell 1
         have y1 := hwg.frozen 1
         have t6 : w'.cell? ⟨g, 6, none⟩ = some (.bool M.down) := hwg.cell 6
         have y6 := hwg.frozen 6
         rw [HD.out] at t6
         have HWG := Lib.hid hwg
         have HLG := Lib.hid hl
         have HGG := Lib.hid hg
         have HOG := Lib.hid hown
         clear hl hg hown hwg))
    all_goals
      go_wp2
      have hall := both_app HAT.out HMO.out HFA.out HBE.out (by first | exact ((Below.refl _ _).alloc (Nat.le_refl _) _).drew.drew.drew | exact ((Below.refl _ _).alloc (Nat.le_refl _) _).drew.drew | exact (Below.refl _ _).drew.drew.drew.alloc (Nat.le_refl _) _) HGG.out HOG.out HLG.out ((HWG.out.set_ 1 _).set_ 6 (.bool true)) (by simp only [moCells, List.length_append, List.length_singleton]; rfl) (grew2 _ _ _ _ _ _)
      exact hN _ _ _ _ _ _ _ _ _ _ _ _ _ _ _ _ _ _ _ _ _ _ _ _ _ _ _ _ _ _ _ _ _ _ _ _ _ _ _ _ _ _ _ _ _ _ _ _ _ _ _ _ _ _ _ _ _ _ _ _ _ _ _ _ _ _ _ _ _ _ _ _ _ _ _ _ _ _ _ _ _ _ _ _ _ _ _ _ _ _ _ _ _ _ _ _ _ _ _ _ _ _ _ _ _ _ _ _ _ _ _ _ _ _ _ _ _ _ _ _ _ _ _ _ _ _ _ _ _ _ _ _ _ _ _ _ _ _ _ _ _ _ _ _ _ _ _ _ _ _ _ _ _ _ _ _ _ _ _ _ _ _ _ _ _ _ _ _ _ _ _ _ _ _ _ _ _ _ _ _ _ _ _ _ _ _ _ _ _ _ _ _ _ _ _ _ _ _ _ _ _ _ _ _ _ _ _ _ _ _ _ _ _ _ _ _ _ _ _ _ _ _ _ _ _ _ _ _ _ _ _ _ _ _ _ _ _ _ _ _ _ _ _ _ _ _ _ _ _ _ _ _ _ _ _ _ _ _ _ _ _ _ _ _ _ _ _ _ ⟨_, fr, _, _, F1, (by first | exact HUB.out.1 | exact Nat.le_of_succ_le HUB.out.1), hall⟩

end Go.Proofs.YtgfoekbdmgljbaaDoor

namespace Go.Proofs.YtgfoekbdmgljbaaDoor
open Go.RowKit

set_option maxHeartbeats 4000000 in
set_option maxRecDepth 100000 in
theorem ysw_2 (L : LogSpec) {w0 V : World} {lv : Value} {D g u ab : Nat} {M : Lg} {fr : Bool} {A Ak : Option Addr} {c ck : Nat} {F : Nat → Prop} {p : Ay} {Q : Exit → Act → World → Prop} (c0 c1 c2 c3 c4 c5 c7 c9 c11 c13 c14 c15 c16 c17 c18 c19 c20 c21 c22 c23 c24 c25 c26 c27 c28 c29 c30 c31 c32 c33 c34 c35 c36 c37 c38 c39 c40 c41 c42 c43 c44 c45 c46 c47 c48 c49 c50 c51 c52 c53 c54 c55 c56 c57 c58 c59 c60 c61 c62 c63 c64 c65 c66 c68 c69 c70 c71 c72 c73 c74 c75 c76 c77 c78 c79 c80 c81 c82 c83 c84 c85 c86 c87 c88 c89 c90 c91 c92 c93 c94 c95 c96 c97 c98 c99 c100 c101 c102 c103 c104 c105 c106 c107 c108 c109 c110 c111 c112 c113 c114 c115 c116 c117 c118 c119 c120 c121 c122 c123 c124 c125 c126 c127 c128 c129 c130 c131 c132 c133 c134 c135 c136 c137 c138 c139 c140 c141 c142 c143 c144 c145 c146 c147 c148 c149 c150 c151 c152 c153 c154 c155 c156 c157 c158 c159 c160 c161 c162 c163 c164 c165 c166 c167 c168 c169 c170 c171 c172 c173 c174 c175 c176 c177 c178 c179 c180 c181 c182 c183 c184 c185 c186 c187 c188 c189 c190 c191 c192 c193 c194 c195 c196 c197 c198 c199 c200 c201 c202 c203 c204 c205 c206 c207 c208 c209 c210 c211 c212 c213 c214 c215 c216 c217 c218 c219 c220 c221 c222 c223 c224 c225 c226 c227 c228 c229 c230 c231 c232 c233 c234 c235 c236 c237 c238 c239 c240 c241 c242 c243 c244 c245 c246 c247 c248 c249 c250 c251 c252 c253 c254 c255 c256 c257 c258 c259 c260 c261 c262 c263 c264 c265 c266 c267 c268 c269 c270 c271 c272 c273 c274 c275 c276 c277 c278 c279 c280 c281 c282 c283 c284 c285 c286 c287 c288 c289 c290 c291 c292 c293 c294 c295 c296 c297 c298 c299 c300 c301 c302 c303 c304 c305 c306 c307 c308 c309 c310 c311 c312 c313 c314 c315 c316 c317 c318 c319 c320 c321 c322 c323 c324 c325 c326 c327 c328 c329 c330 c331 c332 c333 c334 c335 c336 c337 : Value)
    (h : BothAt L w0 V lv D g M fr A c F) (hu : M.used + 1 ≤ u ∧ u ≤ 1000) (_ : AyAt V ab p Ak ck F) (_ : Row w0 w0.heap.size Ak (p.data.map bc)) (_ : p.data.length ≤ 3000) (_ : p.mask < 18446744073709551616 ∧ p.torn < 18446744073709551616)
    (hN : YOut L w0 D g u ab p Q .normal c0 c1 c2 c3 c4 c5 c7 c9 c11 c20 c21 c22 c23 c24 c25 c26 c27 c28 c29 c30 c31 c32 c33 c34 c35 c36 c37 c38 c39 c40 c41 c42 c43 c44 c45 c46 c47 c48 c49 c50 c51 c52 c53 c54 c55 c56 c57 c58 c59 c60 c61 c62 c63 c64 c65 c66 c327 c328 c329 c330 c331 c332 c333 c334 c335 c336 c337) (_ : YOut L w0 D g u ab p Q (.exit 1) c0 c1 c2 c3 c4 c5 c7 c9 c11 c20 c21 c22 c23 c24 c25 c26 c27 c28 c29 c30 c31 c32 c33 c34 c35 c36 c37 c38 c39 c40 c41 c42 c43 c44 c45 c46 c47 c48 c49 c50 c51 c52 c53 c54 c55 c56 c57 c58 c59 c60 c61 c62 c63 c64 c65 c66 c327 c328 c329 c330 c331 c332 c333 c334 c335 c336 c337)
    (e1 : (p.what == 1) = false) (e2 : (p.what == 2) = true) : Code.wp Tryd.prog yswitch Q ⟨#[c0, c1, c2, c3, c4, c5, .pointer (some ⟨D, 0, none⟩), c7, lv, c9, .pointer (some ⟨g, 0, none⟩), c11, .pointer (some ⟨ab, 0, none⟩), c13, c14, c15, c16, c17, c18, c19, c20, c21, c22, c23, c24, c25, c26, c27, c28, c29, c30, c31, c32, c33, c34, c35, c36, c37, c38, c39, c40, c41, c42, c43, c44, c45, c46, c47, c48, c49, c50, c51, c52, c53, c54, c55, c56, c57, c58, c59, c60, c61, c62, c63, c64, c65, c66, .int .i64 p.what, c68, c69, c70, c71, c72, c73, c74, c75, c76, c77, c78, c79, c80, c81, c82, c83, c84, c85, c86, c87, c88, c89, c90, c91, c92, c93, c94, c95, c96, c97, c98, c99, c100, c101, c102, c103, c104, c105, c106, c107, c108, c109, c110, c111, c112, c113, c114, c115, c116, c117, c118, c119, c120, c121, c122, c123, c124, c125, c126, c127, c128, c129, c130, c131, c132, c133, c134, c135, c136, c137, c138, c139, c140, c141, c142, c143, c144, c145, c146, c147, c148, c149, c150, c151, c152, c153, c154, c155, c156, c157, c158, c159, c160, c161, c162, c163, c164, c165, c166, c167, c168, c169, c170, c171, c172, c173, c174, c175, c176, c177, c178, c179, c180, c181, c182, c183, c184, c185, c186, c187, c188, c189, c190, c191, c192, c193, c194, c195, c196, c197, c198, c199, c200, c201, c202, c203, c204, c205, c206, c207, c208, c209, c210, c211, c212, c213, c214, c215, c216, c217, c218, c219, c220, c221, c222, c223, c224, c225, c226, c227, c228, c229, c230, c231, c232, c233, c234, c235, c236, c237, c238, c239, c240, c241, c242, c243, c244, c245, c246, c247, c248, c249, c250, c251, c252, c253, c254, c255, c256, c257, c258, c259, c260, c261, c262, c263, c264, c265, c266, c267, c268, c269, c270, c271, c272, c273, c274, c275, c276, c277, c278, c279, c280, c281, c282, c283, c284, c285, c286, c287, c288, c289, c290, c291, c292, c293, c294, c295, c296, c297, c298, c299, c300, c301, c302, c303, c304, c305, c306, c307, c308, c309, c310, c311, c312, c313, c314, c315, c316, c317, c318, c319, c320, c321, c322, c323, c324, c325, c326, c327, c328, c329, c330, c331, c332, c333, c334, c335, c336, c337], []⟩ V := by
  conv => arg 2; whnf
  have HUB := Lib.hid hu
  clear hu
  have HSY := Lib.hid (L.sync h.at_)
  have HH := Lib.hid h
  clear h
  go_wp2_with fail
  refine HSY.out.mono ?_
  rintro e w1 ⟨g1, M1, F1, rfl, hs, hat, hm⟩
  obtain ⟨hmo, hfar, hbel⟩ := HH.out.call hm
  have HMO := Lib.hid hmo
  have HFA := Lib.hid hfar
  have HBE := Lib.hid hbel
  have HAT := Lib.hid hat
  have q6 : w1.cell? ⟨g, 6, none⟩ = some (.bool M.down) := hmo.blk.cell 6
  have z6 := hmo.blk.frozen 6
  have q1 : w1.cell? ⟨g, 1, none⟩ = some (.slice A M.recs.length c) := hmo.blk.cell 1
  have q2 : w1.cell? ⟨g, 2, none⟩ = some (.int .i64 M.sure) := hmo.blk.cell 2
  have z2 := hmo.blk.frozen 2
  clear hmo hfar hbel hat hm
  rcases hs with ⟨h1, rfl, rfl⟩ | ⟨h1, rfl, rfl⟩ | ⟨h1, _, rfl, rfl⟩
  · rw [h1] at q6
    have HD := Lib.hid h1
    clear h1
    go_wp2
    refine hN _ _ _ _ _ _ _ _ _ _ _ _ _ _ _ _ _ _ _ _ _ _ _ _ _ _ _ _ _ _ _ _ _ _ _ _ _ _ _ _ _ _ _ _ _ _ _ _ _ _ _ _ _ _ _ _ _ _ _ _ _ _ _ _ _ _ _ _ _ _ _ _ _ _ _ _ _ _ _ _ _ _ _ _ _ _ _ _ _ _ _ _ _ _ _ _ _ _ _ _ _ _ _ _ _ _ _ _ _ _ _ _ _ _ _ _ _ _ _ _ _ _ _ _ _ _ _ _ _ _ _ _ _ _ _ _ _ _ _ _ _ _ _ _ _ _ _ _ _ _ _ _ _ _ _ _ _ _ _ _ _ _ _ _ _ _ _ _ _ _ _ _ _ _ _ _ _ _ _ _ _ _ _ _ _ _ _ _ _ _ _ _ _ _ _ _ _ _ _ _ _ _ _ _ _ _ _ _ _ _ _ _ _ _ _ _ _ _ _ _ _ _ _ _ _ _ _ _ _ _ _ _ _ _ _ _ _ _ _ _ _ _ _ _ _ _ _ _ _ _ _ _ _ _ _ _ _ _ _ _ _ _ _ _ _ _ _ _ ⟨M1, fr, A, c, F1, (by first | exact HUB.out.1 | exact Nat.le_of_succ_le HUB.out.1), both_set HAT.out HMO.out HFA.out HBE.out (HMO.out.blk.set_ 6 (.bool true)) ?_ (grew1 _ _ _ _) HMO.out.list (fun j hj => hj)⟩
    unfold moCells; rw [HD.out]; rfl
  · rw [h1] at q6
    have HD := Lib.hid h1
    clear h1
    go_wp2
    refine hN _ _ _ _ _ _ _ _ _ _ _ _ _ _ _ _ _ _ _ _ _ _ _ _ _ _ _ _ _ _ _ _ _ _ _ _ _ _ _ _ _ _ _ _ _ _ _ _ _ _ _ _ _ _ _ _ _ _ _ _ _ _ _ _ _ _ _ _ _ _ _ _ _ _ _ _ _ _ _ _ _ _ _ _ _ _ _ _ _ _ _ _ _ _ _ _ _ _ _ _ _ _ _ _ _ _ _ _ _ _ _ _ _ _ _ _ _ _ _ _ _ _ _ _ _ _ _ _ _ _ _ _ _ _ _ _ _ _ _ _ _ _ _ _ _ _ _ _ _ _ _ _ _ _ _ _ _ _ _ _ _ _ _ _ _ _ _ _ _ _ _ _ _ _ _ _ _ _ _ _ _ _ _ _ _ _ _ _ _ _ _ _ _ _ _ _ _ _ _ _ _ _ _ _ _ _ _ _ _ _ _ _ _ _ _ _ _ _ _ _ _ _ _ _ _ _ _ _ _ _ _ _ _ _ _ _ _ _ _ _ _ _ _ _ _ _ _ _ _ _ _ _ _ _ _ _ _ _ _ _ _ _ _ _ _ _ _ _ ⟨_, fr, A, c, F1, (by first | exact HUB.out.1 | exact Nat.le_of_succ_le HUB.out.1), both_set HAT.out HMO.out HFA.out HBE.out (HMO.out.blk.set_ 2 (.int .i64 M.recs.length)) ?_ (grew1 _ _ _ _) HMO.out.list (fun j hj => hj)⟩
    unfold moCells; rfl
  · rw [h1] at q6
    have HD := Lib.hid h1
    clear h1
    go_wp2
    refine hN _ _ _ _ _ _ _ _ _ _ _ _ _ _ _ _ _ _ _ _ _ _ _ _ _ _ _ _ _ _ _ _ _ _ _ _ _ _ _ _ _ _ _ _ _ _ _ _ _ _ _ _ _ _ _ _ _ _ _ _ _ _ _ _ _ _ _ _ _ _ _ _ _ _ _ _ _ _ _ _ _ _ _ _ _ _ _ _ _ _ _ _ _ _ _ _ _ _ _ _ _ _ _ _ _ _ _ _ _ _ _ _ _ _ _ _ _ _ _ _ _ _ _ _ _ _ _ _ _ _ _ _ _ _ _ _ _ _ _ _ _ _ _ _ _ _ _ _ _ _ _ _ _ _ _ _ _ _ _ _ _ _ _ _ _ _ _ _ _ _ _ _ _ _ _ _ _ _ _ _ _ _ _ _ _ _ _ _ _ _ _ _ _ _ _ _ _ _ _ _ _ _ _ _ _ _ _ _ _ _ _ _ _ _ _ _ _ _ _ _ _ _ _ _ _ _ _ _ _ _ _ _ _ _ _ _ _ _ _ _ _ _ _ _ _ _ _ _ _ _ _ _ _ _ _ _ _ _ _ _ _ _ _ _ _ _ _ _ ⟨_, fr, A, c, F1, (by first | exact HUB.out.1 | exact Nat.le_of_succ_le HUB.out.1), both_set HAT.out HMO.out HFA.out HBE.out (HMO.out.blk.set_ 6 (.bool true)) ?_ (grew1 _ _ _ _) HMO.out.list (fun j hj => hj)⟩
    unfold moCells; rfl

end Go.Proofs.YtgfoekbdmgljbaaDoor
