/-
  Opening an argument that is a slice of calls.
-/
import Derived.Test.YtledoajhjkfaoaaVActs
import Derived.Test.YtledoajhjkfaoaaVEndU
import Derived.Test.YtledoajhjkfaoaaBytesIn
import Derived.ChangeArms
namespace Go.Proofs.Ytledoajhjkfaoaa
open Go.ChangeShapes Go.WideShapes Go.ChangeAt Go.RowKit

/-- Bytes as they are read: whatever they are. -/
theorem read_bytesA {H : Type} {enc : TypeId × Value → H} {W : World} {fuel : Nat} {v : Value} {x : DataW H × List MemPlace}
    (h : DataW.trod enc Try.prog W 0 (fun _ => true) true fuel 30 [v] = some x) (hlt : ∀ y ∈ x.2, y.block < W.heap.size) :
    ∃ (A : Option Addr) (c : Nat) (l : List UInt8), v = .slice A l.length c ∧ Row W W.heap.size A (l.map bc) ∧ l.length ≤ maxLen ∧ l.length ≤ c := by
  rcases open_ints Try.underlying30 Try.underlying5 u8_cells h with ⟨hcs, hx⟩ | ⟨a, len, cap, zs, hcs, _, hl, hm, hz, hx, hcell, hwz⟩
  · exact ⟨none, 0, [], by simpa using hcs, Row.empty _ _ _, Nat.zero_le _, Nat.le_refl _⟩
  · simp only [List.cons.injEq, and_true] at hcs
    subst hcs
    subst hx
    simp only [if_true] at hz
    have hlen : ((zs.take len).map fun n => UInt8.ofNat n.toNat).length = len := by simp; omega
    refine ⟨some a, cap, (zs.take len).map fun n => UInt8.ofNat n.toNat, by rw [hlen], fun hne => ?_, by rw [hlen]; omega, by rw [hlen]; exact hl⟩
    have hpos : 0 < zs.length := by
      rcases zs with _ | ⟨z, zs⟩
      · simp at hne
      · simp
    obtain ⟨b, off, spot⟩ := a
    have hspot : spot = none := by simpa [Addr.add] using World.cell?_spot (hcell 0 hpos)
    subst hspot
    refine ⟨b, off, rfl, hlt (.cell b off) (MemPlace.mem_row.2 ⟨0, hpos, by simp⟩), fun j u hu => ?_⟩
    have hjl : j < len := by
      have := (List.getElem?_eq_some_iff.1 hu).1
      simp at this
      omega
    have hj : j < zs.length := by omega
    have h1 := hcell j hj
    rw [addr_add] at h1
    rw [h1]
    have e : zs.getD j 0 = zs[j] := by simp [List.getD, List.getElem?_eq_getElem hj]
    rw [List.getElem?_map, List.getElem?_map, List.getElem?_take, if_pos hjl, List.getElem?_eq_getElem hj] at hu
    simp only [Option.map_some] at hu
    rw [← hu, e, bc_of_int _ (hwz _ (List.getElem_mem hj))]

theorem addr_add_addA (a : Addr) (m n : Nat) : (a.add m).add n = a.add (m + n) := by
  unfold Addr.add
  by_cases h1 : m = 0 <;> by_cases h2 : n = 0 <;> simp [h1, h2] <;> omega
theorem byts_cellsA : Try.prog.cellsOf 30 = 1 := by kernel_rfl
theorem int_cellsA : Try.prog.cellsOf 3 = 1 := by kernel_rfl
theorem u64_cellsA : Try.prog.cellsOf 31 = 1 := by kernel_rfl
theorem act_cells : Try.prog.cellsOf 33 = 5 := by kernel_rfl

theorem open_row_acts {H : Type} {enc : TypeId × Value → H} {W : World} {base : Nat} {t : TypeId} {v : Value} {d : DataW H} {p : List MemPlace} (ht : Try.prog.underlying t = some (.slice 33))
    (hval : Value.okWide Try.prog W .any base t v) (h : DataW.Trod enc Try.prog W 0 (fun _ => true) true t v d p) (hlt : ∀ x ∈ p, x.block < W.heap.size) :
    ∃ (A : Option Addr) (c : Nat) (ps : List Ac), v = .slice A ps.length c ∧ ActsIn W W.heap.size A ps ∧ ps.length ≤ maxLen := by
  obtain ⟨a0, len, cap, rfl⟩ := okWide_slice ht hval
  obtain ⟨fuel, hf⟩ := h
  rcases Deep.open_slice ht hf with ⟨hcs, hx⟩ | ⟨a, len', cap', m, n, D, Pl, hcs, _, hl, hm, hmm, hx, hy⟩
  · simp [Value.cells] at hcs
    obtain ⟨rfl, rfl, rfl⟩ := hcs
    exact ⟨none, 0, [], rfl, fun i h => absurd h (Nat.not_lt_zero _), Nat.zero_le _⟩
  · simp [Value.cells] at hcs
    obtain ⟨rfl, rfl, rfl⟩ := hcs
    simp only [if_true] at hmm
    subst hmm
    simp only [Prod.mk.injEq] at hx
    obtain ⟨rfl, rfl⟩ := hx
    rw [act_cells] at hy hlt
    have each : ∀ i, i < len → ∃ y : List Value × Ac, (∀ j v, y.1[j]? = some v → W.cell? (a.add (i * 5 + j)) = some v) ∧ ActOf W W.heap.size y.1 y.2 := by
      intro i hi
      obtain ⟨cs, hc, hr⟩ := hy i (by omega)
      obtain ⟨xs, k, _, hx, _, hxl, hfs⟩ := DataW.trod_struct Try.underlying33 hr
      obtain ⟨_, hc5, hat⟩ := World.cells?_some hc
      have hpl : Pl i = xs.flatMap (·.2) := by simpa using congrArg Prod.snd hx
      have hin : ∀ z ∈ xs, ∀ y ∈ z.2, y.block < W.heap.size := fun z hz y hyz =>
        hlt y (List.mem_append_right _ (List.mem_flatMap.2 ⟨i, List.mem_range.2 (by omega), by rw [hpl]; exact List.mem_flatMap.2 ⟨z, hz, hyz⟩⟩))
      have hxl5 : xs.length = 5 := hxl
      clear hx hr hc hpl
      match cs, hc5, xs, hxl5, hfs, hin, hat with
      | [c0, c1, c2, c3, c4], _, [y0, y1, y2, y3, y4], _, hfs, hin, hat =>
        have g0 := hfs 0 _ rfl
        have g1 := hfs 1 _ rfl
        have g2 := hfs 2 _ rfl
        have g3 := hfs 3 _ rfl
        have g4 := hfs 4 _ rfl
        simp only [List.getElem?_cons_zero, List.getElem?_cons_succ] at g0 g1 g2 g3 g4
        obtain ⟨z0, e0, _, w0⟩ := DataW.trod_int Try.underlying3 g0
        obtain ⟨z1, e1, _, w1⟩ := DataW.trod_int Try.underlying3 g1
        obtain ⟨Ar, cr, l, e2, hRr, hl1, _⟩ := read_bytesA g2 (hin y2 (by simp))
        obtain ⟨z3, e3, _, w3⟩ := DataW.trod_int Try.underlying31 g3
        obtain ⟨z4, e4, _, w4⟩ := DataW.trod_int Try.underlying31 g4
        cases e0; cases e1; cases e3; cases e4
        subst e2
        obtain ⟨k3, rfl⟩ := u64_nat w3
        obtain ⟨k4, rfl⟩ := u64_nat w4
        refine ⟨([.int .i64 z0, .int .i64 z1, .slice Ar l.length cr, .int .u64 (k3 : Int), .int .u64 (k4 : Int)], ⟨z0, z1, l, k3, k4⟩), fun j v hj => ?_, Ar, cr, rfl, hRr, hl1, (i64_le w1).2, u64_lt w3, u64_lt w4⟩
        have hj5 : j < 5 := by simpa using (List.getElem?_eq_some_iff.1 hj).1
        have := hat j hj5
        rw [hj, addr_add_addA] at this
        exact this
    haveI : Inhabited (List Value × Ac) := ⟨([], ⟨0, 0, [], 0, 0⟩)⟩
    obtain ⟨Y, hY⟩ := Deep.choose_lt each
    have hnl : ((List.range len).map fun i => (Y i).2).length = len := by simp
    refine ⟨some a, m, (List.range len).map fun i => (Y i).2, by rw [hnl], fun i hi => ?_, by rw [hnl]; omega⟩
    rw [hnl] at hi
    obtain ⟨hcell, hp⟩ := hY i hi
    obtain ⟨b, off, spot⟩ := a
    have hspot : spot = none := by
      obtain ⟨hc0, A0, n0, hcs0, _⟩ := hY 0 (by omega)
      have h := World.cell?_spot (hc0 0 _ (by rw [hcs0]; rfl))
      simpa [Addr.add] using h
    subst hspot
    refine ⟨b, off, (Y i).1, rfl, hlt (.cell b off) (List.mem_append_left _ (MemPlace.mem_row.2 ⟨0, by omega, by simp⟩)), fun j v hj => ?_, by simpa using hp⟩
    have h1 := hcell j v hj
    rw [addr_add] at h1
    exact h1

end Go.Proofs.Ytledoajhjkfaoaa
