/-
  Opening an argument that is a slice of pieces.
-/
import Derived.Test.YtmfcppolomkbfaaEndN
import Derived.ChangeArms
namespace Go.Proofs.Ytmfcppolomkbfaa
open Go.ChangeShapes Go.WideShapes Go.ChangeAt Go.RowKit

/-- Bytes as they are read: whatever they are. -/
theorem read_bytes {H : Type} {enc : TypeId × Value → H} {W : World} {fuel : Nat} {v : Value} {x : DataW H × List MemPlace}
    (h : DataW.trod enc Try.prog W 0 (fun _ => true) true fuel 26 [v] = some x) (hlt : ∀ y ∈ x.2, y.block < W.heap.size) :
    ∃ (A : Option Addr) (c : Nat) (l : List UInt8), v = .slice A l.length c ∧ Row W W.heap.size A (l.map bc) ∧ l.length ≤ maxLen ∧ l.length ≤ c := by
  rcases open_ints Try.underlying26 Try.underlying5 u8_cells h with ⟨hcs, hx⟩ | ⟨a, len, cap, zs, hcs, _, hl, hm, hz, hx, hcell, hwz⟩
  · exact ⟨none, 0, [], by simpa using hcs, Row.empty _ _ _, Nat.zero_le _, Nat.le_refl _⟩
  · simp only [List.cons.injEq, and_true] at hcs
    subst hcs
    subst hx
    simp only [if_true] at hz
    have hlen : ((zs.take len).map fun n => UInt8.ofNat n.toNat).length = len := by simp; omega
    refine ⟨some a, cap, (zs.take len).map fun n => UInt8.ofNat n.toNat, by rw [hlen], fun hne => ?_, by rw [hlen]; omega, by rw [hlen]; exact hl⟩
    have hpos : 0 < zs.length := by
      rcases zs with _ | ⟨z, zs⟩
      · simp at hne
      · simp
    obtain ⟨b, off, spot⟩ := a
    have hspot : spot = none := by simpa [Addr.add] using World.cell?_spot (hcell 0 hpos)
    subst hspot
    refine ⟨b, off, rfl, hlt (.cell b off) (MemPlace.mem_row.2 ⟨0, hpos, by simp⟩), fun j u hu => ?_⟩
    have hjl : j < len := by
      have := (List.getElem?_eq_some_iff.1 hu).1
      simp at this
      omega
    have hj : j < zs.length := by omega
    have h1 := hcell j hj
    rw [addr_add] at h1
    rw [h1]
    have e : zs.getD j 0 = zs[j] := by simp [List.getD, List.getElem?_eq_getElem hj]
    rw [List.getElem?_map, List.getElem?_map, List.getElem?_take, if_pos hjl, List.getElem?_eq_getElem hj] at hu
    simp only [Option.map_some] at hu
    rw [← hu, e, bc_of_int _ (hwz _ (List.getElem_mem hj))]

/-- A piece, as a statement has it. -/
structure Pc where
  name : List (List UInt8)
  short : Bool
  raw : List UInt8
  num : Int
  size : Int
  kind : Int
/-- The cells cs are the piece p. -/
def PieceOf (w : World) (H : Nat) (cs : List Value) (p : Pc) : Prop :=
  ∃ An cn Ar cr, cs = [.slice An p.name.length cn, .bool p.short, .slice Ar p.raw.length cr, .int .i64 p.num, .int .i64 p.size, .int .i64 p.kind] ∧ Row w H An (p.name.map sv) ∧ p.name.length ≤ cn ∧ p.name.length ≤ maxLen ∧
    (∀ k (h : k < p.name.length), (p.name[k]).length ≤ maxLen) ∧ Row w H Ar (p.raw.map bc) ∧ p.raw.length ≤ maxLen ∧ (Lit.int .i64 p.num).wf = true ∧ (Lit.int .i64 p.size).wf = true ∧ (Lit.int .i64 p.kind).wf = true
/-- What a statement's argument of pieces is. -/
def PiecesIn (w : World) (H : Nat) (A : Option Addr) (ps : List Pc) : Prop :=
  ∀ i (h : i < ps.length), ∃ b off cs, A = some ⟨b, off, none⟩ ∧ b < H ∧ (∀ j v, cs[j]? = some v → w.cell? ⟨b, off + (i * 6 + j), none⟩ = some v) ∧ PieceOf w H cs ps[i]

theorem addr_add_add (a : Addr) (m n : Nat) : (a.add m).add n = a.add (m + n) := by
  unfold Addr.add
  by_cases h1 : m = 0 <;> by_cases h2 : n = 0 <;> simp [h1, h2] <;> omega
theorem strs_cells : Try.prog.cellsOf 31 = 1 := by kernel_rfl
theorem byts_cells : Try.prog.cellsOf 26 = 1 := by kernel_rfl
theorem int_cells : Try.prog.cellsOf 3 = 1 := by kernel_rfl
theorem piece_cells : Try.prog.cellsOf 33 = 6 := by kernel_rfl

theorem open_row_pieces {H : Type} {enc : TypeId × Value → H} {W : World} {base : Nat} {t : TypeId} {v : Value} {d : DataW H} {p : List MemPlace} (ht : Try.prog.underlying t = some (.slice 33))
    (hval : Value.okWide Try.prog W .any base t v) (h : DataW.Trod enc Try.prog W 0 (fun _ => true) true t v d p) (hlt : ∀ x ∈ p, x.block < W.heap.size) :
    ∃ (A : Option Addr) (c : Nat) (ps : List Pc), v = .slice A ps.length c ∧ PiecesIn W W.heap.size A ps ∧ ps.length ≤ maxLen := by
  obtain ⟨a0, len, cap, rfl⟩ := okWide_slice ht hval
  obtain ⟨fuel, hf⟩ := h
  rcases Deep.open_slice ht hf with ⟨hcs, hx⟩ | ⟨a, len', cap', m, n, D, Pl, hcs, _, hl, hm, hmm, hx, hy⟩
  · simp [Value.cells] at hcs
    obtain ⟨rfl, rfl, rfl⟩ := hcs
    exact ⟨none, 0, [], rfl, fun i h => absurd h (Nat.not_lt_zero _), Nat.zero_le _⟩
  · simp [Value.cells] at hcs
    obtain ⟨rfl, rfl, rfl⟩ := hcs
    simp only [if_true] at hmm
    subst hmm
    simp only [Prod.mk.injEq] at hx
    obtain ⟨rfl, rfl⟩ := hx
    rw [piece_cells] at hy hlt
    have each : ∀ i, i < len → ∃ y : List Value × Pc, (∀ j v, y.1[j]? = some v → W.cell? (a.add (i * 6 + j)) = some v) ∧ PieceOf W W.heap.size y.1 y.2 := by
      intro i hi
      obtain ⟨cs, hc, hr⟩ := hy i (by omega)
      obtain ⟨xs, k, _, hx, _, hxl, hfs⟩ := DataW.trod_struct Try.underlying33 hr
      obtain ⟨_, hc6, hat⟩ := World.cells?_some hc
      have hpl : Pl i = xs.flatMap (·.2) := by simpa using congrArg Prod.snd hx
      have hin : ∀ z ∈ xs, ∀ y ∈ z.2, y.block < W.heap.size := fun z hz y hyz =>
        hlt y (List.mem_append_right _ (List.mem_flatMap.2 ⟨i, List.mem_range.2 (by omega), by rw [hpl]; exact List.mem_flatMap.2 ⟨z, hz, hyz⟩⟩))
      have hxl6 : xs.length = 6 := hxl
      clear hx hr hc hpl
      match cs, hc6, xs, hxl6, hfs, hin, hat with
      | [c0, c1, c2, c3, c4, c5], _, [y0, y1, y2, y3, y4, y5], _, hfs, hin, hat =>
        have g0 := hfs 0 _ rfl
        have g1 := hfs 1 _ rfl
        have g2 := hfs 2 _ rfl
        have g3 := hfs 3 _ rfl
        have g4 := hfs 4 _ rfl
        have g5 := hfs 5 _ rfl
        simp only [names_cells, strs_cells, bool_cells, byts_cells, int_cells, List.drop_zero, List.drop_succ_cons, List.take_succ_cons, List.take_zero, List.getElem?_cons_zero, List.getElem?_cons_succ] at g0 g1 g2 g3 g4 g5
        obtain ⟨An, cn, n, e0, hRn, hn1, hn2, hn3⟩ := read_name str_cells g0 (hin y0 (by simp))
        obtain ⟨bq, e1, _⟩ := DataW.trod_bool Try.underlying4 g1
        obtain ⟨Ar, cr, l, e2, hRr, hl1, _⟩ := read_bytes g2 (hin y2 (by simp))
        obtain ⟨z3, e3, _, w3⟩ := DataW.trod_int Try.underlying3 g3
        obtain ⟨z4, e4, _, w4⟩ := DataW.trod_int Try.underlying3 g4
        obtain ⟨z5, e5, _, w5⟩ := DataW.trod_int Try.underlying3 g5
        cases e1; cases e3; cases e4; cases e5
        subst e0 e2
        refine ⟨([.slice An n.length cn, .bool bq, .slice Ar l.length cr, .int .i64 z3, .int .i64 z4, .int .i64 z5], ⟨n, bq, l, z3, z4, z5⟩), fun j v hj => ?_, An, cn, Ar, cr, rfl, hRn, hn3, hn1, hn2, hRr, hl1, w3, w4, w5⟩
        have hj6 : j < 6 := by simpa using (List.getElem?_eq_some_iff.1 hj).1
        have := hat j hj6
        rw [hj, addr_add_add] at this
        exact this
    haveI : Inhabited (List Value × Pc) := ⟨([], ⟨[], false, [], 0, 0, 0⟩)⟩
    obtain ⟨Y, hY⟩ := Deep.choose_lt each
    have hnl : ((List.range len).map fun i => (Y i).2).length = len := by simp
    refine ⟨some a, m, (List.range len).map fun i => (Y i).2, by rw [hnl], fun i hi => ?_, by rw [hnl]; omega⟩
    rw [hnl] at hi
    obtain ⟨hcell, hp⟩ := hY i hi
    have hp' := hp
    obtain ⟨An, cn, Ar, cr, hcs, _⟩ := hp'
    obtain ⟨b, off, spot⟩ := a
    have hspot : spot = none := by
      obtain ⟨hc0, A0, n0, A1, n1, hcs0, _⟩ := hY 0 (by omega)
      have h := World.cell?_spot (hc0 0 _ (by rw [hcs0]; rfl))
      simpa [Addr.add] using h
    subst hspot
    refine ⟨b, off, (Y i).1, rfl, hlt (.cell b off) (List.mem_append_left _ (MemPlace.mem_row.2 ⟨0, by omega, by simp⟩)), fun j v hj => ?_, by simpa using hp⟩
    have h1 := hcell j v hj
    rw [addr_add] at h1
    exact h1

end Go.Proofs.Ytmfcppolomkbfaa
