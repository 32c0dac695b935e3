/-
  Opening an argument that is a list of records, or of data.
-/
import Derived.Test.YtjjmllbkfbdcnaaEndD
import Derived.Test.YtjjmllbkfbdcnaaRecs
namespace Go.Proofs.Ytjjmllbkfbdcnaa
open Go.ChangeShapes Go.WideShapes Go.ChangeAt Go.RowKit

set_option maxRecDepth 20000 in
theorem read_data {H : Type} {enc : TypeId × Value → H} {W : World} {fuel : Nat} {cs : List Value} {z : DataW H × List MemPlace}
    (h : DataW.trod enc Try.prog W 0 (fun _ => true) true fuel 26 cs = some z) (hlt : ∀ y ∈ z.2, y.block < W.heap.size) :
    ∃ (x : DV) (dd : Dt), cs = cellsD (x, dd) ∧ DataAt W W.heap.size x dd ∧ DIn dd := by
  obtain ⟨xs, k, _, hx, hcl, hxl, hfs⟩ := DataW.trod_struct Try.underlying26 h
  have hp : z.2 = xs.flatMap (·.2) := by simpa using congrArg Prod.snd hx
  have hin : ∀ z ∈ xs, ∀ y ∈ z.2, y.block < W.heap.size := fun z hz y hyz => hlt y (by rw [hp]; exact List.mem_flatMap.2 ⟨z, hz, hyz⟩)
  have hxl5 : xs.length = 5 := hxl
  have hc5 : cs.length = 5 := by rw [data_cells] at hcl; exact hcl
  clear hx hp h hcl
  match cs, hc5, xs, hxl5, hfs, hin with
  | [c0, c1, c2, c3, c4], _, [y0, y1, y2, y3, y4], _, hfs, hin =>
    have g0 := hfs 0 _ rfl
    have g1 := hfs 1 _ rfl
    have g2 := hfs 2 _ rfl
    have g3 := hfs 3 _ rfl
    have g4 := hfs 4 _ rfl
    simp only [List.getElem?_cons_zero, List.getElem?_cons_succ] at g0 g1 g2 g3 g4
    obtain ⟨Ab, cb, l0, e0, r0, a0, b0⟩ := read_bytes_c g0 (hin y0 (by simp))
    obtain ⟨Ah, ch, l1, e1, r1, a1, b1, d1⟩ := read_name str_cells g1 (hin y1 (by simp))
    obtain ⟨Am, cm, l2, e2, r2, a2, b2, d2⟩ := read_name str_cells g2 (hin y2 (by simp))
    obtain ⟨An, cn, l3, e3, r3, a3, b3, d3⟩ := read_ints g3 (hin y3 (by simp))
    obtain ⟨At, ct, l4, e4, r4, a4, b4, d4⟩ := read_name str_cells g4 (hin y4 (by simp))
    subst e0 e1 e2 e3 e4
    exact ⟨⟨Ab, Ah, Am, An, At, cb, ch, cm, cn, ct⟩, ⟨l0, l1, l2, l3, l4⟩, rfl, ⟨r0, r1, r2, r3, r4, a0, d1, d2, a3, d4, b0, b3⟩, ⟨a1, a2, a4, b1, b2, b4, d3⟩⟩
theorem DIn.wide {d : Dt} (h : DIn d) : Wide d := ⟨⟨h.h, h.lh⟩, ⟨h.m, h.lm⟩, h.t⟩

set_option maxRecDepth 20000 in
theorem read_rr {H : Type} {enc : TypeId × Value → H} {W : World} {fuel : Nat} {cs : List Value} {z : DataW H × List MemPlace}
    (h : DataW.trod enc Try.prog W 0 (fun _ => true) true fuel 51 cs = some z) (hlt : ∀ y ∈ z.2, y.block < W.heap.size) :
    ∃ (x : RV) (r : Rt), cs = cellsR (x, r) ∧ RAt W W.heap.size x r ∧ RIn r := by
  obtain ⟨xs, k, _, hx, hcl, hxl, hfs⟩ := DataW.trod_struct Try.underlying51 h
  have hp : z.2 = xs.flatMap (·.2) := by simpa using congrArg Prod.snd hx
  have hin : ∀ z ∈ xs, ∀ y ∈ z.2, y.block < W.heap.size := fun z hz y hyz => hlt y (by rw [hp]; exact List.mem_flatMap.2 ⟨z, hz, hyz⟩)
  have hxl5 : xs.length = 5 := hxl
  have hc9 : cs.length = 9 := by rw [rr_cells] at hcl; exact hcl
  clear hx hp h hcl
  match cs, hc9, xs, hxl5, hfs, hin with
  | [c0, c1, c2, c3, c4, c5, c6, c7, c8], _, [y0, y1, y2, y3, y4], _, hfs, hin =>
    have g0 := hfs 0 _ rfl
    have g1 := hfs 1 _ rfl
    have g2 := hfs 2 _ rfl
    have g3 := hfs 3 _ rfl
    have g4 := hfs 4 _ rfl
    simp only [List.getElem?_cons_zero, List.getElem?_cons_succ] at g0 g1 g2 g3 g4
    obtain ⟨An, cn, n, e0, hRn, hn1, hn2, hn3⟩ := read_name str_cells g0 (hin y0 (by simp))
    obtain ⟨z1, e1, _, w1⟩ := DataW.trod_int Try.underlying3 g1
    obtain ⟨z2, e2, _, w2⟩ := DataW.trod_int Try.underlying3 g2
    obtain ⟨z3, e3, _, w3⟩ := DataW.trod_int Try.underlying3 g3
    obtain ⟨x, dd, e4, hd, hi⟩ := read_data g4 (hin y4 (by simp))
    cases e1; cases e2; cases e3
    subst e0
    unfold cellsD at e4
    injection e4 with f0 e4
    injection e4 with f1 e4
    injection e4 with f2 e4
    injection e4 with f3 e4
    injection e4 with f4 _
    subst f0 f1 f2 f3 f4
    exact ⟨⟨An, cn, x⟩, ⟨n, z1, z2, z3, dd⟩, rfl, ⟨hRn, hn3, hd⟩, ⟨⟨hn1, hn2⟩, w1, w2, w3, hi.wide, hi.lt, hi.n⟩⟩

theorem addr_add_add (a : Addr) (m n : Nat) : (a.add m).add n = a.add (m + n) := by
  unfold Addr.add
  by_cases h1 : m = 0 <;> by_cases h2 : n = 0 <;> simp [h1, h2] <;> omega
set_option maxRecDepth 20000 in
/-- A slice of things that take k cells each, as it is read. -/
theorem open_parts {α : Type} (f : α → List Value) (k : Nat) (hf : ∀ p, (f p).length = k) (hk : 0 < k) (Q : World → Nat → α → Prop) {H : Type} {enc : TypeId × Value → H} {W : World} {base : Nat} {t e : TypeId} {v : Value} {d : DataW H} {p : List MemPlace}
    (ht : Try.prog.underlying t = some (.slice e)) (hce : Try.prog.cellsOf e = k) (hs : ∀ p : α, ∃ u, (f p)[0]? = some u)
    (hr : ∀ (fuel : Nat) (cs : List Value) (z : DataW H × List MemPlace), DataW.trod enc Try.prog W 0 (fun _ => true) true fuel e cs = some z → (∀ y ∈ z.2, y.block < W.heap.size) → ∃ p, cs = f p ∧ Q W W.heap.size p)
    (hval : Value.okWide Try.prog W .any base t v) (h : DataW.Trod enc Try.prog W 0 (fun _ => true) true t v d p) (hlt : ∀ x ∈ p, x.block < W.heap.size) :
    ∃ (A : Option Addr) (c : Nat) (ps : List α), v = .slice A ps.length c ∧ Row W W.heap.size A (ps.flatMap f) ∧ (∀ p ∈ ps, Q W W.heap.size p) ∧ ps.length ≤ c ∧ c ≤ maxLen := by
  obtain ⟨a0, len, cap, rfl⟩ := okWide_slice ht hval
  obtain ⟨fuel, hf1⟩ := h
  rcases Deep.open_slice ht hf1 with ⟨hcs, hx⟩ | ⟨a, len', cap', m, n, D, Pl, hcs, _, hl, hm, hmm, hx, hy⟩
  · simp [Value.cells] at hcs
    obtain ⟨rfl, rfl, rfl⟩ := hcs
    exact ⟨none, 0, [], rfl, Row.empty _ _ _, fun p h => absurd h (List.not_mem_nil), Nat.zero_le _, Nat.zero_le _⟩
  · simp [Value.cells] at hcs
    obtain ⟨rfl, rfl, rfl⟩ := hcs
    simp only [if_true] at hmm
    subst hmm
    simp only [Prod.mk.injEq] at hx
    obtain ⟨rfl, rfl⟩ := hx
    rw [hce] at hy hlt
    rcases Nat.eq_zero_or_pos len with rfl | hpos
    · exact ⟨some a, m, [], rfl, Row.empty _ _ _, fun p h => absurd h (List.not_mem_nil), Nat.zero_le _, hm⟩
    have each : ∀ i, i < len → ∃ y : α, (∀ j v, (f y)[j]? = some v → W.cell? (a.add (i * k + j)) = some v) ∧ Q W W.heap.size y := by
      intro i hi
      obtain ⟨cs, hc, hr1⟩ := hy i (by omega)
      obtain ⟨y, rfl, hq⟩ := hr _ _ _ hr1 fun y hyz => hlt y (List.mem_append_right _ (List.mem_flatMap.2 ⟨i, List.mem_range.2 (by omega), hyz⟩))
      obtain ⟨_, _, hat⟩ := World.cells?_some hc
      refine ⟨y, fun j v hj => ?_, hq⟩
      have hjk : j < k := by
        have := (List.getElem?_eq_some_iff.1 hj).1
        rwa [hf] at this
      have := hat j hjk
      rw [hj, addr_add_add] at this
      exact this
    obtain ⟨y0, hy0, _⟩ := each 0 hpos
    obtain ⟨u0, hu0⟩ := hs y0
    obtain ⟨b, off, spot⟩ := a
    have hspot : spot = none := by
      have h := World.cell?_spot (hy0 0 _ hu0)
      simpa [Addr.add] using h
    subst hspot
    haveI : Inhabited α := ⟨y0⟩
    obtain ⟨Y, hY⟩ := Deep.choose_lt each
    have hnl : ((List.range len).map Y).length = len := by simp
    refine ⟨some ⟨b, off, none⟩, m, (List.range len).map Y, by rw [hnl], fun _ => ⟨b, off, rfl, hlt (.cell b off) (List.mem_append_left _ (MemPlace.mem_row.2 ⟨0, Nat.mul_pos (by omega) hk, by simp⟩)), fun j u hu => ?_⟩, fun p hp => ?_, by rw [hnl]; exact hl, hm⟩
    · have hj := (List.getElem?_eq_some_iff.1 hu).1
      rw [length_flat hf, hnl] at hj
      have hq : j / k < len := (Nat.div_lt_iff_lt_mul hk).2 hj
      have hr := Nat.mod_lt j hk
      have e : j = j / k * k + j % k := by rw [Nat.mul_comm]; exact (Nat.div_add_mod j k).symm
      have h1 := (hY (j / k) hq).1 (j % k) u
      rw [e, flat_get hf _ _ _ (by rw [hnl]; exact hq) hr] at hu
      rw [← e, addr_add] at h1
      exact h1 (by simpa using hu)
    · obtain ⟨i, hi, rfl⟩ := List.mem_map.1 hp
      exact (hY i (List.mem_range.1 hi)).2

set_option maxRecDepth 20000 in
theorem open_rrs {H : Type} {enc : TypeId × Value → H} {W : World} {base : Nat} {t : TypeId} {v : Value} {d : DataW H} {p : List MemPlace} (ht : Try.prog.underlying t = some (.slice 51))
    (hval : Value.okWide Try.prog W .any base t v) (h : DataW.Trod enc Try.prog W 0 (fun _ => true) true t v d p) (hlt : ∀ x ∈ p, x.block < W.heap.size) :
    ∃ (A : Option Addr) (c : Nat) (ps : List (RV × Rt)), v = .slice A ps.length c ∧ RsAt W W.heap.size A ps ∧ (∀ p ∈ ps, RIn p.2) ∧ ps.length ≤ c ∧ c ≤ maxLen := by
  obtain ⟨A, c, ps, hv, hR, hQ, h1, h2⟩ := open_parts cellsR 9 cellsR_len (by omega) (fun W H p => RAt W H p.1 p.2 ∧ RIn p.2) ht rr_cells (fun p => ⟨_, rfl⟩)
    (fun fuel cs z hz hlz => by
      obtain ⟨x, r, e, h1, h2⟩ := read_rr hz hlz
      exact ⟨(x, r), e, h1, h2⟩) hval h hlt
  exact ⟨A, c, ps, hv, ⟨hR, fun p hp => (hQ p hp).1⟩, fun p hp => (hQ p hp).2, h1, h2⟩
set_option maxRecDepth 20000 in
theorem open_dats {H : Type} {enc : TypeId × Value → H} {W : World} {base : Nat} {t : TypeId} {v : Value} {d : DataW H} {p : List MemPlace} (ht : Try.prog.underlying t = some (.slice 26))
    (hval : Value.okWide Try.prog W .any base t v) (h : DataW.Trod enc Try.prog W 0 (fun _ => true) true t v d p) (hlt : ∀ x ∈ p, x.block < W.heap.size) :
    ∃ (A : Option Addr) (c : Nat) (ps : List (DV × Dt)), v = .slice A ps.length c ∧ DsAt W W.heap.size A ps ∧ (∀ p ∈ ps, DIn p.2) ∧ ps.length ≤ c ∧ c ≤ maxLen := by
  obtain ⟨A, c, ps, hv, hR, hQ, h1, h2⟩ := open_parts cellsD 5 cellsD_len (by omega) (fun W H p => DataAt W H p.1 p.2 ∧ DIn p.2) ht data_cells (fun p => ⟨_, rfl⟩)
    (fun fuel cs z hz hlz => by
      obtain ⟨x, r, e, h1, h2⟩ := read_data hz hlz
      exact ⟨(x, r), e, h1, h2⟩) hval h hlt
  exact ⟨A, c, ps, hv, ⟨hR, fun p hp => (hQ p hp).1⟩, fun p hp => (hQ p hp).2, h1, h2⟩

end Go.Proofs.Ytjjmllbkfbdcnaa
