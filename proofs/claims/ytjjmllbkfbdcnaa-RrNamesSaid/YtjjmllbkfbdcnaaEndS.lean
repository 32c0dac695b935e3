/-
  Opening an argument that is a slice of strings, or a string.
-/
import Derived.Test.YtjjmllbkfbdcnaaEnd
import Derived.Test.YtjjmllbkfbdcnaaOwn
import Derived.SliceStrings
namespace Go.Proofs.Ytjjmllbkfbdcnaa
open Go.ChangeShapes Go.WideShapes Go.ChangeAt Go.RowKit

theorem string_sv (s : ByteArray) : Value.string s = sv s.data.toList := by
  unfold sv
  rw [Array.toArray_toList]

theorem str_cells : Try.prog.cellsOf 9 = 1 := by kernel_rfl
theorem str_bytes : Try.prog.bytesOf 9 = 16 := by kernel_rfl

set_option maxRecDepth 20000 in
/-- An argument of strings: whatever it is, it reads as a name. -/
theorem open_row_str {H : Type} {enc : TypeId × Value → H} {W : World} {base : Nat} {t : TypeId} {v : Value} {d : DataW H} {p : List MemPlace} (hc : Try.prog.cellsOf 9 = 1) (ht : Try.prog.underlying t = some (.slice 9))
    (hval : Value.okWide Try.prog W .any base t v) (h : DataW.Trod enc Try.prog W 0 (fun _ => true) true t v d p) (hlt : ∀ x ∈ p, x.block < W.heap.size)
    {ts : List TypeId} {ds : List (DataW H)} (hsz : (DataW.weightsEach Try.prog ts ds).all (· ≤ reachBytes) = true) {j : Nat} (htj : ts[j]? = some t) (hdj : ds[j]? = some d) :
    ∃ (A : Option Addr) (c : Nat) (n : List (List UInt8)), v = .slice A n.length c ∧ NameIn W A n ∧ n.length ≤ c := by
  obtain ⟨a0, len, cap, rfl⟩ := okWide_slice ht hval
  obtain ⟨fuel, hf⟩ := h
  rcases open_strings ht Try.underlying9 hc hf with ⟨hcs, hx⟩ | ⟨a, len', cap', ss, hcs, _, hl, hm, hz, hx, hcell, hwz⟩
  · simp [Value.cells] at hcs
    obtain ⟨rfl, rfl, rfl⟩ := hcs
    exact ⟨none, 0, [], rfl, ⟨Row.empty _ _ _, Nat.zero_le _, fun k h => absurd h (Nat.not_lt_zero _)⟩, Nat.le_refl _⟩
  · simp [Value.cells] at hcs
    obtain ⟨rfl, rfl, rfl⟩ := hcs
    simp only [Prod.mk.injEq] at hx
    obtain ⟨rfl, rfl⟩ := hx
    simp only [if_true] at hz
    have hlen : ((ss.take len).map fun s => s.data.toList).length = len := by simp; omega
    have hw := sized_slice hsz htj hdj ht
    rw [str_bytes] at hw
    simp only [reachBytes] at hw
    refine ⟨some a, cap, (ss.take len).map fun s => s.data.toList, by rw [hlen], ⟨fun hne => ?_, ?_, ?_⟩, by rw [hlen]; exact hl⟩
    · have hpos : 0 < ss.length := by
        rcases ss with _ | ⟨z, zs⟩
        · simp at hne
        · simp
      obtain ⟨b, off, spot⟩ := a
      have hspot : spot = none := by simpa [Addr.add] using World.cell?_spot (hcell 0 hpos)
      subst hspot
      refine ⟨b, off, rfl, hlt (.cell b off) (MemPlace.mem_row.2 ⟨0, hpos, by simp⟩), fun j u hu => ?_⟩
      have hjl : j < len := by
        have := (List.getElem?_eq_some_iff.1 hu).1
        simp at this
        omega
      have hj : j < ss.length := by omega
      have h1 := hcell j hj
      rw [addr_add] at h1
      rw [h1]
      have e : ss.getD j ByteArray.empty = ss[j] := by simp [List.getD, List.getElem?_eq_getElem hj]
      rw [List.getElem?_map, List.getElem?_map, List.getElem?_take, if_pos hjl, List.getElem?_eq_getElem hj] at hu
      simp only [Option.map_some] at hu
      rw [← hu, e, string_sv]
    · rw [hlen]
      simp [strs] at hw
      omega
    · intro k hk
      have hk' : k < ss.length := by rw [hlen] at hk; omega
      have h2 := hwz ss[k] (List.getElem_mem hk')
      simpa using h2

end Go.Proofs.Ytjjmllbkfbdcnaa
