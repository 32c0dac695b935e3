/-
  Opening an argument that is data.
-/
import Derived.Test.YtjjmllbkfbdcnaaEndM
import Derived.Test.YtjjmllbkfbdcnaaData
import Derived.ChangeArms
namespace Go.Proofs.Ytjjmllbkfbdcnaa
open Go.ChangeShapes Go.WideShapes Go.ChangeAt Go.RowKit

set_option maxRecDepth 20000 in
/-- Bytes as they are read: whatever they are. -/
theorem read_bytes_c {H : Type} {enc : TypeId × Value → H} {W : World} {fuel : Nat} {v : Value} {x : DataW H × List MemPlace}
    (h : DataW.trod enc Try.prog W 0 (fun _ => true) true fuel 22 [v] = some x) (hlt : ∀ y ∈ x.2, y.block < W.heap.size) :
    ∃ (A : Option Addr) (c : Nat) (l : List UInt8), v = .slice A l.length c ∧ Row W W.heap.size A (l.map bc) ∧ l.length ≤ c ∧ c ≤ maxLen := by
  rcases open_ints Try.underlying22 Try.underlying5 u8_cells h with ⟨hcs, hx⟩ | ⟨a, len, cap, zs, hcs, _, hl, hm, hz, hx, hcell, hwz⟩
  · exact ⟨none, 0, [], by simpa using hcs, Row.empty _ _ _, Nat.le_refl _, Nat.zero_le _⟩
  · simp only [List.cons.injEq, and_true] at hcs
    subst hcs
    subst hx
    simp only [if_true] at hz
    have hlen : ((zs.take len).map fun n => UInt8.ofNat n.toNat).length = len := by simp; omega
    refine ⟨some a, cap, (zs.take len).map fun n => UInt8.ofNat n.toNat, by rw [hlen], fun hne => ?_, by rw [hlen]; exact hl, hm⟩
    have hpos : 0 < zs.length := by
      rcases zs with _ | ⟨z, zs⟩
      · simp at hne
      · simp
    obtain ⟨b, off, spot⟩ := a
    have hspot : spot = none := by simpa [Addr.add] using World.cell?_spot (hcell 0 hpos)
    subst hspot
    refine ⟨b, off, rfl, hlt (.cell b off) (MemPlace.mem_row.2 ⟨0, hpos, by simp⟩), fun j u hu => ?_⟩
    have hjl : j < len := by
      have := (List.getElem?_eq_some_iff.1 hu).1
      simp at this
      omega
    have hj : j < zs.length := by omega
    have h1 := hcell j hj
    rw [addr_add] at h1
    rw [h1]
    have e : zs.getD j 0 = zs[j] := by simp [List.getD, List.getElem?_eq_getElem hj]
    rw [List.getElem?_map, List.getElem?_map, List.getElem?_take, if_pos hjl, List.getElem?_eq_getElem hj] at hu
    simp only [Option.map_some] at hu
    rw [← hu, e, bc_of_int _ (hwz _ (List.getElem_mem hj))]

theorem int_cells : Try.prog.cellsOf 3 = 1 := by kernel_rfl
set_option maxRecDepth 20000 in
/-- Numbers as they are read: whatever they are. -/
theorem read_ints {H : Type} {enc : TypeId × Value → H} {W : World} {fuel : Nat} {v : Value} {x : DataW H × List MemPlace}
    (h : DataW.trod enc Try.prog W 0 (fun _ => true) true fuel 24 [v] = some x) (hlt : ∀ y ∈ x.2, y.block < W.heap.size) :
    ∃ (A : Option Addr) (c : Nat) (l : List Int), v = .slice A l.length c ∧ Row W W.heap.size A (l.map zv) ∧ l.length ≤ c ∧ c ≤ maxLen ∧ ∀ n ∈ l, (Lit.int .i64 n).wf = true := by
  rcases open_ints Try.underlying24 Try.underlying3 int_cells h with ⟨hcs, hx⟩ | ⟨a, len, cap, zs, hcs, _, hl, hm, hz, hx, hcell, hwz⟩
  · exact ⟨none, 0, [], by simpa using hcs, Row.empty _ _ _, Nat.le_refl _, Nat.zero_le _, fun n hn => absurd hn (List.not_mem_nil)⟩
  · simp only [List.cons.injEq, and_true] at hcs
    subst hcs
    subst hx
    simp only [if_true] at hz
    have hlen : (zs.take len).length = len := by simp; omega
    refine ⟨some a, cap, zs.take len, by rw [hlen], fun hne => ?_, by rw [hlen]; exact hl, hm, fun n hn => hwz n (List.mem_of_mem_take hn)⟩
    have hpos : 0 < zs.length := by
      rcases zs with _ | ⟨z, zs⟩
      · simp at hne
      · simp
    obtain ⟨b, off, spot⟩ := a
    have hspot : spot = none := by simpa [Addr.add] using World.cell?_spot (hcell 0 hpos)
    subst hspot
    refine ⟨b, off, rfl, hlt (.cell b off) (MemPlace.mem_row.2 ⟨0, hpos, by simp⟩), fun j u hu => ?_⟩
    have hjl : j < len := by
      have := (List.getElem?_eq_some_iff.1 hu).1
      simp at this
      omega
    have hj : j < zs.length := by omega
    have h1 := hcell j hj
    rw [addr_add] at h1
    rw [h1]
    have e : zs.getD j 0 = zs[j] := by simp [List.getD, List.getElem?_eq_getElem hj]
    rw [List.getElem?_map, List.getElem?_take, if_pos hjl, List.getElem?_eq_getElem hj] at hu
    simp only [Option.map_some] at hu
    rw [← hu, e, zv]

/-- What a statement's data is. -/
structure DIn (d : Dt) : Prop where
  h : d.host.length ≤ maxLen
  m : d.mail.length ≤ maxLen
  t : d.texts.length ≤ maxLen
  lh : ∀ k (h : k < d.host.length), (d.host[k]).length ≤ maxLen
  lm : ∀ k (h : k < d.mail.length), (d.mail[k]).length ≤ maxLen
  lt : ∀ k (h : k < d.texts.length), (d.texts[k]).length ≤ maxLen
  n : ∀ n ∈ d.nums, (Lit.int .i64 n).wf = true

theorem byts_cells : Try.prog.cellsOf 22 = 1 := by kernel_rfl
theorem inss_cells : Try.prog.cellsOf 24 = 1 := by kernel_rfl
theorem data_cells : Try.prog.cellsOf 26 = 5 := by kernel_rfl

set_option maxRecDepth 20000 in
theorem open_data {H : Type} {enc : TypeId × Value → H} {W : World} {base : Nat} {v : Value} {d : DataW H} {p : List MemPlace}
    (hval : Value.okWide Try.prog W .any base 26 v) (h : DataW.Trod enc Try.prog W 0 (fun _ => true) true 26 v d p) (hlt : ∀ x ∈ p, x.block < W.heap.size) :
    ∃ (x : DV) (dd : Dt), v = x.val dd ∧ DataAt W W.heap.size x dd ∧ DIn dd := by
  unfold Value.okWide at hval
  rw [Try.underlying26] at hval
  obtain ⟨cs0, rfl, hsz, _⟩ := hval
  obtain ⟨fuel, hf⟩ := h
  obtain ⟨xs, k, _, hx, hcl, hxl, hfs⟩ := DataW.trod_struct Try.underlying26 hf
  obtain ⟨cs⟩ := cs0
  simp only [Value.cells] at hf hcl hfs
  have hp : p = xs.flatMap (·.2) := by simpa using congrArg Prod.snd hx
  have hin : ∀ z ∈ xs, ∀ y ∈ z.2, y.block < W.heap.size := fun z hz y hyz => hlt y (by rw [hp]; exact List.mem_flatMap.2 ⟨z, hz, hyz⟩)
  have hxl5 : xs.length = 5 := hxl
  have hc5 : cs.length = 5 := by rw [data_cells] at hcl; simpa using hcl
  clear hx hp hf hcl hsz
  match cs, hc5, xs, hxl5, hfs, hin with
  | [c0, c1, c2, c3, c4], _, [y0, y1, y2, y3, y4], _, hfs, hin =>
    have g0 := hfs 0 _ rfl
    have g1 := hfs 1 _ rfl
    have g2 := hfs 2 _ rfl
    have g3 := hfs 3 _ rfl
    have g4 := hfs 4 _ rfl
    simp only [List.getElem?_cons_zero, List.getElem?_cons_succ] at g0 g1 g2 g3 g4
    obtain ⟨Ab, cb, l0, e0, r0, a0, b0⟩ := read_bytes_c g0 (hin y0 (by simp))
    obtain ⟨Ah, ch, l1, e1, r1, a1, b1, d1⟩ := read_name str_cells g1 (hin y1 (by simp))
    obtain ⟨Am, cm, l2, e2, r2, a2, b2, d2⟩ := read_name str_cells g2 (hin y2 (by simp))
    obtain ⟨An, cn, l3, e3, r3, a3, b3, d3⟩ := read_ints g3 (hin y3 (by simp))
    obtain ⟨At, ct, l4, e4, r4, a4, b4, d4⟩ := read_name str_cells g4 (hin y4 (by simp))
    subst e0 e1 e2 e3 e4
    exact ⟨⟨Ab, Ah, Am, An, At, cb, ch, cm, cn, ct⟩, ⟨l0, l1, l2, l3, l4⟩, rfl, ⟨r0, r1, r2, r3, r4, a0, d1, d2, a3, d4, b0, b3⟩, ⟨a1, a2, a4, b1, b2, b4, d3⟩⟩

end Go.Proofs.Ytjjmllbkfbdcnaa
