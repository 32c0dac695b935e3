/-
  From a tied row to a law's contract: what the listed variables hold; opening an argument that is a block, and one that is a slice of blocks.
-/
import Derived.Test.YthjcpficpiddaaaDoorJEnd
import Derived.Test.YthjcpficpiddaaaDoorVEndU
import Derived.Test.YthjcpficpiddaaaDoorUNum
import Derived.Deep.Slices
import Derived.Deep.Grids
namespace Go.Proofs.YthjcpficpiddaaaDoor
open Go.ChangeShapes Go.WideShapes Go.ChangeAt Go.RowKit

/-- What the rows list. -/
def laidU : List (String × DataW Unit) := [("gazetteer/sector.sizes", Rows.laid_gazetteer_sector_sizes), ("gazetteer/super.head", Rows.laid_gazetteer_super_head)]
theorem shead_global : Tryd.prog.globalNamed "gazetteer/super.head" = some 0 := by kernel_rfl
theorem shead_type : (Tryd.prog.globals[(0 : Nat)]?).map (·.type) = some 49 := by kernel_rfl
theorem blk_five : Tryd.prog.cellsOf 30 = 5 := by kernel_rfl

/-- Five whole numbers in a row, as they are read. -/
theorem read_sh {H : Type} {enc : TypeId × Value → H} {W : World} {sp : Nat → Bool} {held : Bool} {fuel : Nat} {cs : List Value} {x : DataW H × List MemPlace}
    (h : DataW.trod enc Tryd.prog W 0 sp held fuel 49 cs = some x) :
    ∃ z0 z1 z2 z3 z4 : Int, cs = [.int .i64 z0, .int .i64 z1, .int .i64 z2, .int .i64 z3, .int .i64 z4] ∧ x.1 = .agg [.lit (.int .i64 z0), .lit (.int .i64 z1), .lit (.int .i64 z2), .lit (.int .i64 z3), .lit (.int .i64 z4)] ∧
      (Lit.int .i64 z0).wf = true ∧ (Lit.int .i64 z1).wf = true ∧ (Lit.int .i64 z2).wf = true ∧ (Lit.int .i64 z3).wf = true ∧ (Lit.int .i64 z4).wf = true := by
  obtain ⟨ys, n, _, hy, hcl, hyl, hg⟩ := DataW.trod_struct Tryd.underlying49 h
  have hl : cs.length = 5 := hcl.trans head_five
  match cs, hl with
  | [u0, u1, u2, u3, u4], _ =>
    have hyl' : ys.length = 5 := hyl
    have f0 := hg 0 _ rfl
    have f1 := hg 1 _ rfl
    have f2 := hg 2 _ rfl
    have f3 := hg 3 _ rfl
    have f4 := hg 4 _ rfl
    match ys, hyl' with
    | [y0, y1, y2, y3, y4], _ =>
      obtain ⟨z0, e0, d0, w0⟩ := DataW.trod_int Tryd.underlying3 (show DataW.trod enc Tryd.prog W 0 sp held n 3 [u0] = some y0 from f0)
      obtain ⟨z1, e1, d1, w1⟩ := DataW.trod_int Tryd.underlying3 (show DataW.trod enc Tryd.prog W 0 sp held n 3 [u1] = some y1 from f1)
      obtain ⟨z2, e2, d2, w2⟩ := DataW.trod_int Tryd.underlying3 (show DataW.trod enc Tryd.prog W 0 sp held n 3 [u2] = some y2 from f2)
      obtain ⟨z3, e3, d3, w3⟩ := DataW.trod_int Tryd.underlying3 (show DataW.trod enc Tryd.prog W 0 sp held n 3 [u3] = some y3 from f3)
      obtain ⟨z4, e4, d4, w4⟩ := DataW.trod_int Tryd.underlying3 (show DataW.trod enc Tryd.prog W 0 sp held n 3 [u4] = some y4 from f4)
      injection e0 with e0
      injection e1 with e1
      injection e2 with e2
      injection e3 with e3
      injection e4 with e4
      subst e0; subst e1; subst e2; subst e3; subst e4
      exact ⟨z0, z1, z2, z3, z4, rfl, by rw [hy]; simp [d0, d1, d2, d3, d4], w0, w1, w2, w3, w4⟩
theorem read_blk {H : Type} {enc : TypeId × Value → H} {W : World} {sp : Nat → Bool} {held : Bool} {fuel : Nat} {cs : List Value} {x : DataW H × List MemPlace}
    (h : DataW.trod enc Tryd.prog W 0 sp held fuel 30 cs = some x) :
    ∃ z0 z1 z2 z3 z4 : Int, cs = [.int .i64 z0, .int .i64 z1, .int .i64 z2, .int .i64 z3, .int .i64 z4] ∧ x.1 = .agg [.lit (.int .i64 z0), .lit (.int .i64 z1), .lit (.int .i64 z2), .lit (.int .i64 z3), .lit (.int .i64 z4)] ∧
      (Lit.int .i64 z0).wf = true ∧ (Lit.int .i64 z1).wf = true ∧ (Lit.int .i64 z2).wf = true ∧ (Lit.int .i64 z3).wf = true ∧ (Lit.int .i64 z4).wf = true := by
  obtain ⟨ys, n, _, hy, hcl, hyl, hg⟩ := DataW.trod_struct Tryd.underlying30 h
  have hl : cs.length = 5 := hcl.trans blk_five
  match cs, hl with
  | [u0, u1, u2, u3, u4], _ =>
    have hyl' : ys.length = 5 := hyl
    have f0 := hg 0 _ rfl
    have f1 := hg 1 _ rfl
    have f2 := hg 2 _ rfl
    have f3 := hg 3 _ rfl
    have f4 := hg 4 _ rfl
    match ys, hyl' with
    | [y0, y1, y2, y3, y4], _ =>
      obtain ⟨z0, e0, d0, w0⟩ := DataW.trod_int Tryd.underlying3 (show DataW.trod enc Tryd.prog W 0 sp held n 3 [u0] = some y0 from f0)
      obtain ⟨z1, e1, d1, w1⟩ := DataW.trod_int Tryd.underlying3 (show DataW.trod enc Tryd.prog W 0 sp held n 3 [u1] = some y1 from f1)
      obtain ⟨z2, e2, d2, w2⟩ := DataW.trod_int Tryd.underlying3 (show DataW.trod enc Tryd.prog W 0 sp held n 3 [u2] = some y2 from f2)
      obtain ⟨z3, e3, d3, w3⟩ := DataW.trod_int Tryd.underlying3 (show DataW.trod enc Tryd.prog W 0 sp held n 3 [u3] = some y3 from f3)
      obtain ⟨z4, e4, d4, w4⟩ := DataW.trod_int Tryd.underlying3 (show DataW.trod enc Tryd.prog W 0 sp held n 3 [u4] = some y4 from f4)
      injection e0 with e0
      injection e1 with e1
      injection e2 with e2
      injection e3 with e3
      injection e4 with e4
      subst e0; subst e1; subst e2; subst e3; subst e4
      exact ⟨z0, z1, z2, z3, z4, rfl, by rw [hy]; simp [d0, d1, d2, d3, d4], w0, w1, w2, w3, w4⟩

theorem cells_of_var {W : World} {n : String} {g : Nat} {cs : Array Value} (hg : Tryd.prog.globalNamed n = some g) (h : W.var? Tryd.prog n = some cs) : ∃ t fr, W.heap[g]? = some (.cells cs t fr) := by
  unfold World.var? at h
  rw [hg, Option.bind_some] at h
  split at h
  · rename_i cs' t fr hh
    injection h with h
    subst h
    exact ⟨t, fr, hh⟩
  · cases h

theorem vars_of_laid {W : World} (h : laidMetH Tryd.prog laidU W) : VarsAt W := by
  have h1 : laidMet Tryd.prog laidU W := by
    have e := MakeChecks.laidMetH_plain Tryd.prog laidU W (by kernel_rfl)
    rwa [e] at h
  refine ⟨?_, ?_⟩
  · have h2 : Lib.TabIs Tryd.prog W "gazetteer/sector.sizes" .i64 szL :=
      Lib.tabIs_of_head sizes_global sizes_type Tryd.underlying62 Tryd.underlying3 int_one int5_five (rest := [("gazetteer/super.head", Rows.laid_gazetteer_super_head)]) h1
    unfold Lib.TabIs at h2
    exact cells_of_var sizes_global h2
  · obtain ⟨ps, ⟨_, _, _, _, _, _, _, _, _, _, ⟨g, t, cs, fuel, p, q, hg, ht, hv, hd, _, _⟩, _⟩, _⟩ := h1
    obtain rfl := Option.some.inj (shead_global.symm.trans hg)
    obtain rfl := Option.some.inj (shead_type.symm.trans ht)
    obtain ⟨z0, z1, z2, z3, z4, e, ed, _⟩ := read_sh hd
    obtain ⟨ty, fr, hh⟩ := cells_of_var shead_global hv
    refine ⟨ty, fr, ?_⟩
    have e2 : cs = supH.cells.toArray := by
      have ed' : (.agg [.lit (.int .i64 1), .lit (.int .i64 0), .lit (.int .i64 0), .lit (.int .i64 0), .lit (.int .i64 1)] : DataW Unit) = .agg [.lit (.int .i64 z0), .lit (.int .i64 z1), .lit (.int .i64 z2), .lit (.int .i64 z3), .lit (.int .i64 z4)] := ed
      simp only [DataW.agg.injEq, List.cons.injEq, DataW.lit.injEq, Lit.int.injEq, true_and, and_true] at ed'
      obtain ⟨rfl, rfl, rfl, rfl, rfl⟩ := ed'
      exact Array.toList_inj.1 e
    rw [hh, e2]

theorem u8_nat {n : Int} (h : (Lit.int .u8 n).wf = true) : ∃ k : Nat, n = k ∧ k < 256 := by
  have h1 : IntKind.u8.min = 0 := rfl
  have h2 : IntKind.u8.max = 255 := rfl
  simp only [Lit.wf, Bool.and_eq_true, decide_eq_true_eq] at h
  exact ⟨n.toNat, by omega, by omega⟩
/-- A block as an argument has it. -/
structure BlkIn (b : Blk) : Prop where
  gen : (Lit.int .i64 b.gen).wf = true
  epoch : (Lit.int .i64 b.epoch).wf = true
  first : (Lit.int .i64 b.first).wf = true
  begun : (Lit.int .i64 b.begun).wf = true
  count : (Lit.int .i64 b.count).wf = true
/-- An argument that is a block: whatever it is, it is five numbers. -/
theorem open_blk {H : Type} {enc : TypeId × Value → H} {W : World} {base : Nat} {v : Value} {d : DataW H} {p : List MemPlace}
    (hval : Value.okWide Tryd.prog W .any base 30 v) (h : DataW.Trod enc Tryd.prog W 0 (fun _ => true) true 30 v d p) : ∃ b : Blk, v = b.val ∧ BlkIn b := by
  obtain ⟨cs, rfl, _⟩ := okWide_struct Tryd.underlying30 hval
  obtain ⟨fuel, hf⟩ := h
  obtain ⟨z0, z1, z2, z3, z4, e, _, w0, w1, w2, w3, w4⟩ := read_blk (show DataW.trod enc Tryd.prog W 0 (fun _ => true) true fuel 30 cs.toList = some (d, p) from hf)
  have e2 : cs = #[.int .i64 z0, .int .i64 z1, .int .i64 z2, .int .i64 z3, .int .i64 z4] := Array.toList_inj.1 e
  exact ⟨⟨z0, z1, z2, z3, z4⟩, by rw [e2]; rfl, w0, w1, w2, w3, w4⟩

theorem addr_add_addU (a : Addr) (m n : Nat) : (a.add m).add n = a.add (m + n) := by
  unfold Addr.add
  by_cases h1 : m = 0 <;> by_cases h2 : n = 0 <;> simp [h1, h2] <;> omega
/-- What a statement's argument of blocks is. -/
def BlksIn (w : World) (H : Nat) (A : Option Addr) (bs : List Blk) : Prop :=
  ∀ i (h : i < bs.length), ∃ b off, A = some ⟨b, off, none⟩ ∧ b < H ∧ (∀ j v, (bs[i]).cells[j]? = some v → w.cell? ⟨b, off + (i * 5 + j), none⟩ = some v) ∧ BlkIn bs[i]

theorem open_row_blks {H : Type} {enc : TypeId × Value → H} {W : World} {base : Nat} {t : TypeId} {v : Value} {d : DataW H} {p : List MemPlace} (ht : Tryd.prog.underlying t = some (.slice 30))
    (hval : Value.okWide Tryd.prog W .any base t v) (h : DataW.Trod enc Tryd.prog W 0 (fun _ => true) true t v d p) (hlt : ∀ x ∈ p, x.block < W.heap.size) :
    ∃ (A : Option Addr) (c : Nat) (bs : List Blk), v = .slice A bs.length c ∧ BlksIn W W.heap.size A bs ∧ bs.length ≤ maxLen := by
  obtain ⟨a0, len, cap, rfl⟩ := okWide_slice ht hval
  obtain ⟨fuel, hf⟩ := h
  rcases Deep.open_slice ht hf with ⟨hcs, hx⟩ | ⟨a, len', cap', m, n, D, Pl, hcs, _, hl, hm, hmm, hx, hy⟩
  · simp [Value.cells] at hcs
    obtain ⟨rfl, rfl, rfl⟩ := hcs
    exact ⟨none, 0, [], rfl, fun i h => absurd h (Nat.not_lt_zero _), Nat.zero_le _⟩
  · simp [Value.cells] at hcs
    obtain ⟨rfl, rfl, rfl⟩ := hcs
    simp only [if_true] at hmm
    subst hmm
    simp only [Prod.mk.injEq] at hx
    obtain ⟨rfl, rfl⟩ := hx
    rw [blk_five] at hy hlt
    have each : ∀ i, i < len → ∃ y : Blk, (∀ j v, y.cells[j]? = some v → W.cell? (a.add (i * 5 + j)) = some v) ∧ BlkIn y := by
      intro i hi
      obtain ⟨cs, hc, hr⟩ := hy i (by omega)
      obtain ⟨_, hc5, hat⟩ := World.cells?_some hc
      obtain ⟨z0, z1, z2, z3, z4, e, _, w0, w1, w2, w3, w4⟩ := read_blk hr
      refine ⟨⟨z0, z1, z2, z3, z4⟩, fun j v hj => ?_, w0, w1, w2, w3, w4⟩
      have hj5 : j < 5 := by simpa [Blk.cells] using (List.getElem?_eq_some_iff.1 hj).1
      have := hat j hj5
      have e2 : cs[j]? = some v := by rw [e]; exact hj
      rw [e2, addr_add_addU] at this
      exact this
    haveI : Inhabited Blk := ⟨bzero⟩
    obtain ⟨Y, hY⟩ := Deep.choose_lt each
    have hnl : ((List.range len).map fun i => Y i).length = len := by simp
    refine ⟨some a, m, (List.range len).map fun i => Y i, by rw [hnl], fun i hi => ?_, by rw [hnl]; omega⟩
    rw [hnl] at hi
    obtain ⟨hcell, hp⟩ := hY i hi
    obtain ⟨b, off, spot⟩ := a
    have hspot : spot = none := by
      obtain ⟨hc0, _⟩ := hY 0 (by omega)
      have h := World.cell?_spot (hc0 0 _ rfl)
      simpa [Addr.add] using h
    subst hspot
    refine ⟨b, off, rfl, hlt (.cell b off) (List.mem_append_left _ (MemPlace.mem_row.2 ⟨0, by omega, by simp⟩)), fun j v hj => ?_, by simpa using hp⟩
    have h1 := hcell j v (by simpa using hj)
    rw [addr_add] at h1
    exact h1

end Go.Proofs.YthjcpficpiddaaaDoor
