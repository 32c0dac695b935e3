/-
  Opening an argument that is a slice of names.
-/
import Derived.Test.YtjjmllbkfbdcnaaEndS
import Derived.Test.YtjjmllbkfbdcnaaNamesIn
import Derived.Deep.Slices
import Derived.Deep.Grids
namespace Go.Proofs.Ytjjmllbkfbdcnaa
open Go.ChangeShapes Go.WideShapes Go.ChangeAt Go.RowKit

set_option maxRecDepth 20000 in
/-- A name as it is read: whatever it is. -/
theorem read_name {H : Type} {enc : TypeId × Value → H} {W : World} {fuel : Nat} {v : Value} {x : DataW H × List MemPlace} (hc : Try.prog.cellsOf 9 = 1)
    (h : DataW.trod enc Try.prog W 0 (fun _ => true) true fuel 23 [v] = some x) (hlt : ∀ y ∈ x.2, y.block < W.heap.size) :
    ∃ (A : Option Addr) (c : Nat) (n : List (List UInt8)), v = .slice A n.length c ∧ Row W W.heap.size A (n.map sv) ∧ n.length ≤ maxLen ∧ (∀ k (h : k < n.length), (n[k]).length ≤ maxLen) ∧ n.length ≤ c := by
  rcases open_strings Try.underlying23 Try.underlying9 hc h with ⟨hcs, hx⟩ | ⟨a, len, cap, ss, hcs, _, hl, hm, hz, hx, hcell, hwz⟩
  · exact ⟨none, 0, [], by simpa using hcs, Row.empty _ _ _, Nat.zero_le _, fun k h => absurd h (Nat.not_lt_zero _), Nat.le_refl _⟩
  · simp only [List.cons.injEq, and_true] at hcs
    subst hcs
    subst hx
    simp only [if_true] at hz
    have hlen : ((ss.take len).map fun s => s.data.toList).length = len := by simp; omega
    refine ⟨some a, cap, (ss.take len).map fun s => s.data.toList, by rw [hlen], fun hne => ?_, by rw [hlen]; omega, ?_, by rw [hlen]; exact hl⟩
    · have hpos : 0 < ss.length := by
        rcases ss with _ | ⟨z, zs⟩
        · simp at hne
        · simp
      obtain ⟨b, off, spot⟩ := a
      have hspot : spot = none := by simpa [Addr.add] using World.cell?_spot (hcell 0 hpos)
      subst hspot
      refine ⟨b, off, rfl, hlt (.cell b off) (MemPlace.mem_row.2 ⟨0, hpos, by simp⟩), fun j u hu => ?_⟩
      have hjl : j < len := by
        have := (List.getElem?_eq_some_iff.1 hu).1
        simp at this
        omega
      have hj : j < ss.length := by omega
      have h1 := hcell j hj
      rw [addr_add] at h1
      rw [h1]
      have e : ss.getD j ByteArray.empty = ss[j] := by simp [List.getD, List.getElem?_eq_getElem hj]
      rw [List.getElem?_map, List.getElem?_map, List.getElem?_take, if_pos hjl, List.getElem?_eq_getElem hj] at hu
      simp only [Option.map_some] at hu
      rw [← hu, e, string_sv]
    · intro k hk
      have hk' : k < ss.length := by rw [hlen] at hk; omega
      have h2 := hwz ss[k] (List.getElem_mem hk')
      simpa using h2

theorem names_cells : Try.prog.cellsOf 23 = 1 := by kernel_rfl

set_option maxRecDepth 20000 in
/-- An argument of names: whatever it is, it reads as names; and no slice is longer than its room. -/
theorem open_row_namesC {H : Type} {enc : TypeId × Value → H} {W : World} {base : Nat} {t : TypeId} {v : Value} {d : DataW H} {p : List MemPlace} (ht : Try.prog.underlying t = some (.slice 23))
    (hval : Value.okWide Try.prog W .any base t v) (h : DataW.Trod enc Try.prog W 0 (fun _ => true) true t v d p) (hlt : ∀ x ∈ p, x.block < W.heap.size) :
    ∃ (A : Option Addr) (c : Nat) (vs : List Value) (ns : List (List (List UInt8))), v = .slice A ns.length c ∧ NamesIn W W.heap.size A vs ns ∧ ns.length ≤ c ∧ c ≤ maxLen ∧ ∀ (k : Nat) (A' : Option Addr) (m' c' : Nat), vs[k]? = some (Value.slice A' m' c') → m' ≤ c' := by
  obtain ⟨a0, len, cap, rfl⟩ := okWide_slice ht hval
  obtain ⟨fuel, hf⟩ := h
  rcases Deep.open_slice1 ht names_cells hf with ⟨hcs, hx⟩ | ⟨a, len', cap', m, n, V, D, Pl, hcs, _, hl, hm, hmm, hx, hy⟩
  · simp [Value.cells] at hcs
    obtain ⟨rfl, rfl, rfl⟩ := hcs
    exact ⟨none, 0, [], [], rfl, ⟨Row.empty _ _ _, rfl, fun k h => absurd h (Nat.not_lt_zero _)⟩, Nat.le_refl _, Nat.zero_le _, fun k A' m' c' h => by simp at h⟩
  · simp [Value.cells] at hcs
    obtain ⟨rfl, rfl, rfl⟩ := hcs
    simp only [if_true] at hmm
    subst hmm
    simp only [Prod.mk.injEq] at hx
    obtain ⟨rfl, rfl⟩ := hx
    have each : ∀ i, i < len → ∃ y : Option Addr × Nat × List (List UInt8), V i = .slice y.1 y.2.2.length y.2.1 ∧ Row W W.heap.size y.1 (y.2.2.map sv) ∧ y.2.2.length ≤ maxLen ∧ (∀ k (h : k < y.2.2.length), (y.2.2[k]).length ≤ maxLen) ∧ y.2.2.length ≤ y.2.1 := by
      intro i hi
      obtain ⟨A, c, n', h1, h2, h3, h4, h5⟩ := read_name str_cells (hy i (by omega)).2 (fun y hy' => hlt y (List.mem_append_right _ (List.mem_flatMap.2 ⟨i, List.mem_range.2 (by omega), hy'⟩)))
      exact ⟨(A, c, n'), h1, h2, h3, h4, h5⟩
    obtain ⟨Y, hY⟩ := Deep.choose_lt each
    have hnl : ((List.range len).map fun i => (Y i).2.2).length = len := by simp
    refine ⟨some a, m, (List.range len).map V, (List.range len).map fun i => (Y i).2.2, by rw [hnl], ⟨fun hne => ?_, by simp, fun k hk => ?_⟩, by rw [hnl]; exact hl, hm, fun k A' m' c' hv => ?_⟩
    · have hpos : 0 < len := by
        rcases len with _ | k
        · simp at hne
        · omega
      obtain ⟨b, off, spot⟩ := a
      have hspot : spot = none := by simpa [Addr.add] using World.cell?_spot (hy 0 (by omega)).1
      subst hspot
      refine ⟨b, off, rfl, hlt (.cell b off) (List.mem_append_left _ (MemPlace.mem_row.2 ⟨0, by omega, by simp⟩)), fun j u hu => ?_⟩
      have hjl : j < len := by
        have := (List.getElem?_eq_some_iff.1 hu).1
        simpa using this
      have h1 := (hy j (by omega)).1
      rw [addr_add] at h1
      rw [h1]
      rw [List.getElem?_map, List.getElem?_range hjl] at hu
      exact hu
    · rw [hnl] at hk
      have hg : ((List.range len).map fun i => (Y i).2.2).getD k [] = (Y k).2.2 := by simp [List.getD, hk]
      rw [hg]
      obtain ⟨h1, h2, h3, h4, _⟩ := hY k hk
      exact ⟨(Y k).1, (Y k).2.1, by simp [hk, h1], h2, h3, h4⟩
    · by_cases hk : k < len
      · rw [List.getElem?_map, List.getElem?_range hk] at hv
        obtain ⟨h1, _, _, _, h5⟩ := hY k hk
        simp only [Option.map_some, Option.some.injEq] at hv
        rw [h1] at hv
        injection hv with e1 e2 e3
        omega
      · rw [List.getElem?_eq_none (by simp; omega)] at hv
        cases hv
set_option maxRecDepth 20000 in
/-- An argument of names: whatever it is, it reads as names. -/
theorem open_row_names {H : Type} {enc : TypeId × Value → H} {W : World} {base : Nat} {t : TypeId} {v : Value} {d : DataW H} {p : List MemPlace} (ht : Try.prog.underlying t = some (.slice 23))
    (hval : Value.okWide Try.prog W .any base t v) (h : DataW.Trod enc Try.prog W 0 (fun _ => true) true t v d p) (hlt : ∀ x ∈ p, x.block < W.heap.size) :
    ∃ (A : Option Addr) (c : Nat) (vs : List Value) (ns : List (List (List UInt8))), v = .slice A ns.length c ∧ NamesIn W W.heap.size A vs ns ∧ ns.length ≤ c ∧ c ≤ maxLen := by
  obtain ⟨A, c, vs, ns, h1, h2, h3, h4, _⟩ := open_row_namesC ht hval h hlt
  exact ⟨A, c, vs, ns, h1, h2, h3, h4⟩

end Go.Proofs.Ytjjmllbkfbdcnaa
