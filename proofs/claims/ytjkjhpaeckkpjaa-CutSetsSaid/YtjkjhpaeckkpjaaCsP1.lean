/-
  From a law's contract to its row: opening an argument of bytes; the end of a law.
-/
import Derived.Test.YtjkjhpaeckkpjaaRows
import Derived.Test.YtjkjhpaeckkpjaaMbP1
import Derived.ProofKit
import Derived.SizedLaws
import Derived.Carry
import Derived.SliceStrings
import Derived.Deep.Slices
import Derived.Deep.Grids
import Derived.ChangeArms
import Derived.Test.YtjkjhpaeckkpjaaMbP8
import Derived.Test.YtjkjhpaeckkpjaaMbP9
import Derived.OpenShut
import Derived.JoinedCond
import Derived.Deep.CondSized
import Derived.Test.YtjkjhpaeckkpjaaMbP7
namespace Go.Proofs.Ytjkjhpaeckkpjaa
open Go.ChangeShapes Go.WideShapes Go.ChangeAt Go.RowKit

theorem Try.own : ownKnob Try.prog.godebug = none := by kernel_rfl
theorem Try.laidOut : laidOutB Try.prog = true := by kernel_rfl

theorem bc_of_int (n : Int) (h : (Lit.int .u8 n).wf = true) : Value.int .u8 n = bc (UInt8.ofNat n.toNat) := by
  have h1 : IntKind.u8.min = 0 := rfl
  have h2 : IntKind.u8.max = 255 := rfl
  simp only [Lit.wf, Bool.and_eq_true, decide_eq_true_eq] at h
  unfold bc
  rw [UInt8.toNat_ofNat', Nat.mod_eq_of_lt (by omega)]
  congr 1
  omega

set_option maxRecDepth 20000 in
/-- An argument of bytes: whatever it is, it reads as a list. -/
theorem open_row_u8c {H : Type} {enc : TypeId × Value → H} {W : World} {base : Nat} {t : TypeId} {v : Value} {d : DataW H} {p : List MemPlace} (hc : Try.prog.cellsOf 5 = 1) (ht : Try.prog.underlying t = some (.slice 5))
    (hval : Value.okWide Try.prog W .any base t v) (h : DataW.Trod enc Try.prog W 0 (fun _ => true) true t v d p) (hlt : ∀ x ∈ p, x.block < W.heap.size) :
    ∃ (A : Option Addr) (m c : Nat) (l : List UInt8), v = .slice A m c ∧ l.length = m ∧ Row W W.heap.size A (l.map bc) ∧ m ≤ c ∧ m ≤ maxLen ∧ c ≤ maxLen ∧ (m = 0 ∨ ∃ el sp, d = .slice el sp ∧ el.length = m) := by
  obtain ⟨a0, len, cap, rfl⟩ := okWide_slice ht hval
  obtain ⟨fuel, hf⟩ := h
  rcases open_ints ht Try.underlying5 hc hf with ⟨hcs, hx⟩ | ⟨a, len', cap', zs, hcs, _, hl, hm, hz, hx, hcell, hwz⟩
  · simp [Value.cells] at hcs
    obtain ⟨rfl, rfl, rfl⟩ := hcs
    exact ⟨none, 0, 0, [], rfl, rfl, Row.empty _ _ _, Nat.le_refl _, Nat.zero_le _, Nat.zero_le _, .inl rfl⟩
  · simp [Value.cells] at hcs
    obtain ⟨rfl, rfl, rfl⟩ := hcs
    simp only [Prod.mk.injEq] at hx
    obtain ⟨rfl, rfl⟩ := hx
    simp only [if_true] at hz
    refine ⟨some a, len, cap, (zs.take len).map fun n => UInt8.ofNat n.toNat, rfl, by simp; omega, fun hne => ?_, hl, Nat.le_trans hl hm, hm, .inr ⟨_, _, rfl, by simp [lits]; omega⟩⟩
    have hpos : 0 < zs.length := by
      rcases zs with _ | ⟨z, zs⟩
      · simp at hne
      · simp
    obtain ⟨b, off, spot⟩ := a
    have hspot : spot = none := by simpa [Addr.add] using World.cell?_spot (hcell 0 hpos)
    subst hspot
    refine ⟨b, off, rfl, hlt (.cell b off) (MemPlace.mem_row.2 ⟨0, hpos, by simp⟩), fun j u hu => ?_⟩
    have hj : j < zs.length := by
      have := (List.getElem?_eq_some_iff.1 hu).1
      simp at this
      omega
    have hjl : j < len := by
      have := (List.getElem?_eq_some_iff.1 hu).1
      simp at this
      omega
    have h1 := hcell j hj
    rw [addr_add] at h1
    rw [h1]
    have e : zs.getD j 0 = zs[j] := by simp [List.getD, List.getElem?_eq_getElem hj]
    rw [List.getElem?_map, List.getElem?_map, List.getElem?_take, if_pos hjl, List.getElem?_eq_getElem hj] at hu
    simp only [Option.map_some] at hu
    rw [← hu, e, bc_of_int _ (hwz _ (List.getElem_mem hj))]

set_option maxRecDepth 20000 in
theorem open_row_u8 {H : Type} {enc : TypeId × Value → H} {W : World} {base : Nat} {t : TypeId} {v : Value} {d : DataW H} {p : List MemPlace} (hc : Try.prog.cellsOf 5 = 1) (ht : Try.prog.underlying t = some (.slice 5))
    (hval : Value.okWide Try.prog W .any base t v) (h : DataW.Trod enc Try.prog W 0 (fun _ => true) true t v d p) (hlt : ∀ x ∈ p, x.block < W.heap.size) :
    ∃ (A : Option Addr) (m c : Nat) (l : List UInt8), v = .slice A m c ∧ l.length = m ∧ Row W W.heap.size A (l.map bc) ∧ m ≤ c ∧ m ≤ maxLen ∧ (m = 0 ∨ ∃ el sp, d = .slice el sp ∧ el.length = m) := by
  obtain ⟨A, m, c, l, h1, h2, h3, h4, h5, _, h6⟩ := open_row_u8c hc ht hval h hlt
  exact ⟨A, m, c, l, h1, h2, h3, h4, h5, h6⟩

theorem row_reach {H : Type} {P : Program} {ts : List TypeId} {ds : List (DataW H)} {d : DataW H} {m : Nat} (h : (DataW.weightsEach P ts ds).all (· ≤ reachBytes) = true) {j : Nat} {t e : TypeId} (ht : ts[j]? = some t) (hd : ds[j]? = some d) (hu : P.underlying t = some (.slice e))
    (hb : P.bytesOf e = 1) (hm : m = 0 ∨ ∃ el sp, d = .slice el sp ∧ el.length = m) : m ≤ 140737488351232 := by
  rcases hm with rfl | ⟨el, sp, rfl, hl⟩
  · omega
  · have := sized_slice h ht hd hu
    rw [hb] at this
    simp only [reachBytes] at this
    omega
theorem u8_cells : Try.prog.cellsOf 5 = 1 := by kernel_rfl
theorem u8_bytes : Try.prog.bytesOf 5 = 1 := by kernel_rfl

theorem below_trodAll {H : Type} {enc : TypeId × Value → H} {P : Program} (hl : laidOutB P = true) {W W' : World} (hb : Below W.heap.size W W') :
    ∀ {ts : List TypeId} {vs : List Value} {ds : List (DataW H)} {ps : List MemPlace}, ts.all (fun t => P.readableRec t && decide (t < P.types.size)) = true →
      DataW.TrodAll enc P W 0 (fun _ => true) true ts vs ds ps → (∀ x ∈ ps, x.block < W.heap.size) → DataW.TrodAll enc P W' 0 (fun b => decide (b < W.heap.size)) true ts vs ds ps
  | [], [], [], _, _, h, _ => h
  | [], [], _ :: _, _, _, h, _ => h.elim
  | [], _ :: _, _, _, _, h, _ => h.elim
  | _ :: _, [], _, _, _, h, _ => h.elim
  | _ :: _, _ :: _, [], _, _, h, _ => h.elim
  | t :: ts, v :: vs, d :: ds, ps, ht, h, hlt => by
    obtain ⟨p, q, h1, h2, rfl⟩ := h
    simp only [List.all_cons, Bool.and_eq_true, decide_eq_true_eq] at ht
    exact ⟨p, q, Below.trod hl ht.1.1 ht.1.2 h1 hb (fun x hx => hlt x (List.mem_append_left _ hx)), below_trodAll hl hb ht.2 h2 (fun x hx => hlt x (List.mem_append_right _ hx)), rfl⟩

/-- The end of a law: it has answered true, and nothing that was there has turned. -/
theorem law_post {H : Type} {enc : TypeId × Value → H} {P : Program} {f : Func} {s : ChangeSpec} {W W' : World} {args : Array Value} {ds gs : List (DataW H)} {before : List MemPlace} {tb : TypeId}
    (hl : laidOutB P = true) (hts : f.params.toList.all (fun t => P.readableRec t && decide (t < P.types.size)) = true) (hrt : f.resultTypes.toList = [tb]) (hsz : f.resultTypes.size = 1) (hbool : P.underlying tb = some .bool) (hsv : s.vars = [])
    (hW : DataW.Whole enc P f.params.toList s.vars false W args.toList ds gs before)
    (hres : (s.fn H (ds ++ gs)).results = [.lit (.bool true)]) (hargs : (s.fn H (ds ++ gs)).args = ds) (hvars : (s.fn H (ds ++ gs)).vars = [])
    (hb : Below W.heap.size W W') : s.post enc P f false true false false W args (.bool true) W' := by
  have hW' := hW
  obtain ⟨p, q, hA, hV, rfl, _, _⟩ := hW
  rw [hsv] at hV
  obtain ⟨rfl, rfl⟩ := trodVars_none hV
  have hlt : ∀ x ∈ p, x.block < W.heap.size := fun x hx => hW'.lt x (List.mem_append_left _ hx)
  refine ⟨ds, [], p ++ [], [], p, [], hW', ?_, ?_, ?_, hb.frame _, fun h => by cases h⟩
  · rw [hrt, hsz, hres]
    exact trodAll_mk1 (shut_bool hbool true)
  · rw [hargs]
    exact below_trodAll hl hb hts hA hlt
  · rw [hsv, hvars]
    rfl

theorem i64_le {n : Int} (h : (Lit.int .i64 n).wf = true) : -9223372036854775808 ≤ n ∧ n ≤ 9223372036854775807 := by
  have h1 : IntKind.i64.min = -9223372036854775808 := rfl
  have h2 : IntKind.i64.max = 9223372036854775807 := rfl
  simp only [Lit.wf, Bool.and_eq_true, decide_eq_true_eq] at h
  omega

end Go.Proofs.Ytjkjhpaeckkpjaa

namespace Go.Proofs.Ytjkjhpaeckkpjaa
open Go.ChangeShapes Go.WideShapes Go.ChangeAt Go.RowKit

theorem string_sv (s : ByteArray) : Value.string s = sv s.data.toList := by
  unfold sv
  rw [Array.toArray_toList]

theorem str_cells : Try.prog.cellsOf 9 = 1 := by kernel_rfl
theorem str_bytes : Try.prog.bytesOf 9 = 16 := by kernel_rfl

set_option maxRecDepth 20000 in
/-- An argument of strings: whatever it is, it reads as a name. -/
theorem open_row_str {H : Type} {enc : TypeId × Value → H} {W : World} {base : Nat} {t : TypeId} {v : Value} {d : DataW H} {p : List MemPlace} (hc : Try.prog.cellsOf 9 = 1) (ht : Try.prog.underlying t = some (.slice 9))
    (hval : Value.okWide Try.prog W .any base t v) (h : DataW.Trod enc Try.prog W 0 (fun _ => true) true t v d p) (hlt : ∀ x ∈ p, x.block < W.heap.size)
    {ts : List TypeId} {ds : List (DataW H)} (hsz : (DataW.weightsEach Try.prog ts ds).all (· ≤ reachBytes) = true) {j : Nat} (htj : ts[j]? = some t) (hdj : ds[j]? = some d) :
    ∃ (A : Option Addr) (c : Nat) (n : List (List UInt8)), v = .slice A n.length c ∧ NameIn W A n ∧ n.length ≤ c := by
  obtain ⟨a0, len, cap, rfl⟩ := okWide_slice ht hval
  obtain ⟨fuel, hf⟩ := h
  rcases open_strings ht Try.underlying9 hc hf with ⟨hcs, hx⟩ | ⟨a, len', cap', ss, hcs, _, hl, hm, hz, hx, hcell, hwz⟩
  · simp [Value.cells] at hcs
    obtain ⟨rfl, rfl, rfl⟩ := hcs
    exact ⟨none, 0, [], rfl, ⟨Row.empty _ _ _, Nat.zero_le _, fun k h => absurd h (Nat.not_lt_zero _)⟩, Nat.le_refl _⟩
  · simp [Value.cells] at hcs
    obtain ⟨rfl, rfl, rfl⟩ := hcs
    simp only [Prod.mk.injEq] at hx
    obtain ⟨rfl, rfl⟩ := hx
    simp only [if_true] at hz
    have hlen : ((ss.take len).map fun s => s.data.toList).length = len := by simp; omega
    have hw := sized_slice hsz htj hdj ht
    rw [str_bytes] at hw
    simp only [reachBytes] at hw
    refine ⟨some a, cap, (ss.take len).map fun s => s.data.toList, by rw [hlen], ⟨fun hne => ?_, ?_, ?_⟩, by rw [hlen]; exact hl⟩
    · have hpos : 0 < ss.length := by
        rcases ss with _ | ⟨z, zs⟩
        · simp at hne
        · simp
      obtain ⟨b, off, spot⟩ := a
      have hspot : spot = none := by simpa [Addr.add] using World.cell?_spot (hcell 0 hpos)
      subst hspot
      refine ⟨b, off, rfl, hlt (.cell b off) (MemPlace.mem_row.2 ⟨0, hpos, by simp⟩), fun j u hu => ?_⟩
      have hjl : j < len := by
        have := (List.getElem?_eq_some_iff.1 hu).1
        simp at this
        omega
      have hj : j < ss.length := by omega
      have h1 := hcell j hj
      rw [addr_add] at h1
      rw [h1]
      have e : ss.getD j ByteArray.empty = ss[j] := by simp [List.getD, List.getElem?_eq_getElem hj]
      rw [List.getElem?_map, List.getElem?_map, List.getElem?_take, if_pos hjl, List.getElem?_eq_getElem hj] at hu
      simp only [Option.map_some] at hu
      rw [← hu, e, string_sv]
    · rw [hlen]
      simp [strs] at hw
      omega
    · intro k hk
      have hk' : k < ss.length := by rw [hlen] at hk; omega
      have h2 := hwz ss[k] (List.getElem_mem hk')
      simpa using h2

end Go.Proofs.Ytjkjhpaeckkpjaa

namespace Go.Proofs.Ytjkjhpaeckkpjaa
open Go.RowKit

/-- What a statement's argument of names is. -/
def NamesIn (w : World) (H : Nat) (A : Option Addr) (vs : List Value) (ns : List (List (List UInt8))) : Prop :=
  Row w H A vs ∧ vs.length = ns.length ∧ ∀ k, k < ns.length → ∃ Ak ck, vs[k]? = some (.slice Ak (ns.getD k []).length ck) ∧ Row w H Ak ((ns.getD k []).map sv) ∧ (ns.getD k []).length ≤ maxLen ∧ ∀ i (h : i < (ns.getD k []).length), ((ns.getD k [])[i]).length ≤ maxLen
theorem NamesIn.below {w w' : World} {H : Nat} {A : Option Addr} {vs : List Value} {ns : List (List (List UInt8))} (h : NamesIn w H A vs ns) (hb : Below H w w') : NamesIn w' H A vs ns := by
  obtain ⟨h1, h2, h3⟩ := h
  refine ⟨h1.below hb, h2, fun k hk => ?_⟩
  obtain ⟨Ak, ck, h4, h5, h6⟩ := h3 k hk
  exact ⟨Ak, ck, h4, h5.below hb, h6⟩
/-- The k-th name's cell, and what it leads to. -/
theorem NamesIn.at_ {w : World} {H : Nat} {A : Option Addr} {vs : List Value} {ns : List (List (List UInt8))} (h : NamesIn w H A vs ns) {k : Nat} (hk : k < ns.length) :
    ∃ b off Ak ck, A = some ⟨b, off, none⟩ ∧ b < H ∧ w.cell? ⟨b, off + k, none⟩ = some (.slice Ak (ns.getD k []).length ck) ∧ Row w H Ak ((ns.getD k []).map sv) ∧ (ns.getD k []).length ≤ maxLen ∧ ∀ i (h : i < (ns.getD k []).length), ((ns.getD k [])[i]).length ≤ maxLen := by
  obtain ⟨h1, h2, h3⟩ := h
  obtain ⟨Ak, ck, h4, h5, h6⟩ := h3 k hk
  obtain ⟨b, off, rfl, hb, hc⟩ := h1.some_ (by omega)
  exact ⟨b, off, Ak, ck, rfl, hb, hc k _ h4, h5, h6⟩

end Go.Proofs.Ytjkjhpaeckkpjaa

namespace Go.Proofs.Ytjkjhpaeckkpjaa
open Go.ChangeShapes Go.WideShapes Go.ChangeAt Go.RowKit

set_option maxRecDepth 20000 in
/-- A name as it is read: whatever it is. -/
theorem read_name {H : Type} {enc : TypeId × Value → H} {W : World} {fuel : Nat} {v : Value} {x : DataW H × List MemPlace} (hc : Try.prog.cellsOf 9 = 1)
    (h : DataW.trod enc Try.prog W 0 (fun _ => true) true fuel 40 [v] = some x) (hlt : ∀ y ∈ x.2, y.block < W.heap.size) :
    ∃ (A : Option Addr) (c : Nat) (n : List (List UInt8)), v = .slice A n.length c ∧ Row W W.heap.size A (n.map sv) ∧ n.length ≤ maxLen ∧ (∀ k (h : k < n.length), (n[k]).length ≤ maxLen) ∧ n.length ≤ c := by
  rcases open_strings Try.underlying40 Try.underlying9 hc h with ⟨hcs, hx⟩ | ⟨a, len, cap, ss, hcs, _, hl, hm, hz, hx, hcell, hwz⟩
  · exact ⟨none, 0, [], by simpa using hcs, Row.empty _ _ _, Nat.zero_le _, fun k h => absurd h (Nat.not_lt_zero _), Nat.le_refl _⟩
  · simp only [List.cons.injEq, and_true] at hcs
    subst hcs
    subst hx
    simp only [if_true] at hz
    have hlen : ((ss.take len).map fun s => s.data.toList).length = len := by simp; omega
    refine ⟨some a, cap, (ss.take len).map fun s => s.data.toList, by rw [hlen], fun hne => ?_, by rw [hlen]; omega, ?_, by rw [hlen]; exact hl⟩
    · have hpos : 0 < ss.length := by
        rcases ss with _ | ⟨z, zs⟩
        · simp at hne
        · simp
      obtain ⟨b, off, spot⟩ := a
      have hspot : spot = none := by simpa [Addr.add] using World.cell?_spot (hcell 0 hpos)
      subst hspot
      refine ⟨b, off, rfl, hlt (.cell b off) (MemPlace.mem_row.2 ⟨0, hpos, by simp⟩), fun j u hu => ?_⟩
      have hjl : j < len := by
        have := (List.getElem?_eq_some_iff.1 hu).1
        simp at this
        omega
      have hj : j < ss.length := by omega
      have h1 := hcell j hj
      rw [addr_add] at h1
      rw [h1]
      have e : ss.getD j ByteArray.empty = ss[j] := by simp [List.getD, List.getElem?_eq_getElem hj]
      rw [List.getElem?_map, List.getElem?_map, List.getElem?_take, if_pos hjl, List.getElem?_eq_getElem hj] at hu
      simp only [Option.map_some] at hu
      rw [← hu, e, string_sv]
    · intro k hk
      have hk' : k < ss.length := by rw [hlen] at hk; omega
      have h2 := hwz ss[k] (List.getElem_mem hk')
      simpa using h2

theorem names_cells : Try.prog.cellsOf 40 = 1 := by kernel_rfl

set_option maxRecDepth 20000 in
/-- An argument of names: whatever it is, it reads as names; and no slice is longer than its room. -/
theorem open_row_namesC {H : Type} {enc : TypeId × Value → H} {W : World} {base : Nat} {t : TypeId} {v : Value} {d : DataW H} {p : List MemPlace} (ht : Try.prog.underlying t = some (.slice 40))
    (hval : Value.okWide Try.prog W .any base t v) (h : DataW.Trod enc Try.prog W 0 (fun _ => true) true t v d p) (hlt : ∀ x ∈ p, x.block < W.heap.size) :
    ∃ (A : Option Addr) (c : Nat) (vs : List Value) (ns : List (List (List UInt8))), v = .slice A ns.length c ∧ NamesIn W W.heap.size A vs ns ∧ ns.length ≤ c ∧ c ≤ maxLen ∧ ∀ (k : Nat) (A' : Option Addr) (m' c' : Nat), vs[k]? = some (Value.slice A' m' c') → m' ≤ c' := by
  obtain ⟨a0, len, cap, rfl⟩ := okWide_slice ht hval
  obtain ⟨fuel, hf⟩ := h
  rcases Deep.open_slice1 ht names_cells hf with ⟨hcs, hx⟩ | ⟨a, len', cap', m, n, V, D, Pl, hcs, _, hl, hm, hmm, hx, hy⟩
  · simp [Value.cells] at hcs
    obtain ⟨rfl, rfl, rfl⟩ := hcs
    exact ⟨none, 0, [], [], rfl, ⟨Row.empty _ _ _, rfl, fun k h => absurd h (Nat.not_lt_zero _)⟩, Nat.le_refl _, Nat.zero_le _, fun k A' m' c' h => by simp at h⟩
  · simp [Value.cells] at hcs
    obtain ⟨rfl, rfl, rfl⟩ := hcs
    simp only [if_true] at hmm
    subst hmm
    simp only [Prod.mk.injEq] at hx
    obtain ⟨rfl, rfl⟩ := hx
    have each : ∀ i, i < len → ∃ y : Option Addr × Nat × List (List UInt8), V i = .slice y.1 y.2.2.length y.2.1 ∧ Row W W.heap.size y.1 (y.2.2.map sv) ∧ y.2.2.length ≤ maxLen ∧ (∀ k (h : k < y.2.2.length), (y.2.2[k]).length ≤ maxLen) ∧ y.2.2.length ≤ y.2.1 := by
      intro i hi
      obtain ⟨A, c, n', h1, h2, h3, h4, h5⟩ := read_name str_cells (hy i (by omega)).2 (fun y hy' => hlt y (List.mem_append_right _ (List.mem_flatMap.2 ⟨i, List.mem_range.2 (by omega), hy'⟩)))
      exact ⟨(A, c, n'), h1, h2, h3, h4, h5⟩
    obtain ⟨Y, hY⟩ := Deep.choose_lt each
    have hnl : ((List.range len).map fun i => (Y i).2.2).length = len := by simp
    refine ⟨some a, m, (List.range len).map V, (List.range len).map fun i => (Y i).2.2, by rw [hnl], ⟨fun hne => ?_, by simp, fun k hk => ?_⟩, by rw [hnl]; exact hl, hm, fun k A' m' c' hv => ?_⟩
    · have hpos : 0 < len := by
        rcases len with _ | k
        · simp at hne
        · omega
      obtain ⟨b, off, spot⟩ := a
      have hspot : spot = none := by simpa [Addr.add] using World.cell?_spot (hy 0 (by omega)).1
      subst hspot
      refine ⟨b, off, rfl, hlt (.cell b off) (List.mem_append_left _ (MemPlace.mem_row.2 ⟨0, by omega, by simp⟩)), fun j u hu => ?_⟩
      have hjl : j < len := by
        have := (List.getElem?_eq_some_iff.1 hu).1
        simpa using this
      have h1 := (hy j (by omega)).1
      rw [addr_add] at h1
      rw [h1]
      rw [List.getElem?_map, List.getElem?_range hjl] at hu
      exact hu
    · rw [hnl] at hk
      have hg : ((List.range len).map fun i => (Y i).2.2).getD k [] = (Y k).2.2 := by simp [List.getD, hk]
      rw [hg]
      obtain ⟨h1, h2, h3, h4, _⟩ := hY k hk
      exact ⟨(Y k).1, (Y k).2.1, by simp [hk, h1], h2, h3, h4⟩
    · by_cases hk : k < len
      · rw [List.getElem?_map, List.getElem?_range hk] at hv
        obtain ⟨h1, _, _, _, h5⟩ := hY k hk
        simp only [Option.map_some, Option.some.injEq] at hv
        rw [h1] at hv
        injection hv with e1 e2 e3
        omega
      · rw [List.getElem?_eq_none (by simp; omega)] at hv
        cases hv
set_option maxRecDepth 20000 in
/-- An argument of names: whatever it is, it reads as names. -/
theorem open_row_names {H : Type} {enc : TypeId × Value → H} {W : World} {base : Nat} {t : TypeId} {v : Value} {d : DataW H} {p : List MemPlace} (ht : Try.prog.underlying t = some (.slice 40))
    (hval : Value.okWide Try.prog W .any base t v) (h : DataW.Trod enc Try.prog W 0 (fun _ => true) true t v d p) (hlt : ∀ x ∈ p, x.block < W.heap.size) :
    ∃ (A : Option Addr) (c : Nat) (vs : List Value) (ns : List (List (List UInt8))), v = .slice A ns.length c ∧ NamesIn W W.heap.size A vs ns ∧ ns.length ≤ c ∧ c ≤ maxLen := by
  obtain ⟨A, c, vs, ns, h1, h2, h3, h4, _⟩ := open_row_namesC ht hval h hlt
  exact ⟨A, c, vs, ns, h1, h2, h3, h4⟩

end Go.Proofs.Ytjkjhpaeckkpjaa

namespace Go.Proofs.Ytjkjhpaeckkpjaa
open Go.ChangeShapes Go.WideShapes Go.ChangeAt Go.RowKit

set_option maxRecDepth 20000 in
/-- Bytes as they are read: whatever they are. -/
theorem read_bytes_c {H : Type} {enc : TypeId × Value → H} {W : World} {fuel : Nat} {v : Value} {x : DataW H × List MemPlace}
    (h : DataW.trod enc Try.prog W 0 (fun _ => true) true fuel 28 [v] = some x) (hlt : ∀ y ∈ x.2, y.block < W.heap.size) :
    ∃ (A : Option Addr) (c : Nat) (l : List UInt8), v = .slice A l.length c ∧ Row W W.heap.size A (l.map bc) ∧ l.length ≤ c ∧ c ≤ maxLen := by
  rcases open_ints Try.underlying28 Try.underlying5 u8_cells h with ⟨hcs, hx⟩ | ⟨a, len, cap, zs, hcs, _, hl, hm, hz, hx, hcell, hwz⟩
  · exact ⟨none, 0, [], by simpa using hcs, Row.empty _ _ _, Nat.le_refl _, Nat.zero_le _⟩
  · simp only [List.cons.injEq, and_true] at hcs
    subst hcs
    subst hx
    simp only [if_true] at hz
    have hlen : ((zs.take len).map fun n => UInt8.ofNat n.toNat).length = len := by simp; omega
    refine ⟨some a, cap, (zs.take len).map fun n => UInt8.ofNat n.toNat, by rw [hlen], fun hne => ?_, by rw [hlen]; exact hl, hm⟩
    have hpos : 0 < zs.length := by
      rcases zs with _ | ⟨z, zs⟩
      · simp at hne
      · simp
    obtain ⟨b, off, spot⟩ := a
    have hspot : spot = none := by simpa [Addr.add] using World.cell?_spot (hcell 0 hpos)
    subst hspot
    refine ⟨b, off, rfl, hlt (.cell b off) (MemPlace.mem_row.2 ⟨0, hpos, by simp⟩), fun j u hu => ?_⟩
    have hjl : j < len := by
      have := (List.getElem?_eq_some_iff.1 hu).1
      simp at this
      omega
    have hj : j < zs.length := by omega
    have h1 := hcell j hj
    rw [addr_add] at h1
    rw [h1]
    have e : zs.getD j 0 = zs[j] := by simp [List.getD, List.getElem?_eq_getElem hj]
    rw [List.getElem?_map, List.getElem?_map, List.getElem?_take, if_pos hjl, List.getElem?_eq_getElem hj] at hu
    simp only [Option.map_some] at hu
    rw [← hu, e, bc_of_int _ (hwz _ (List.getElem_mem hj))]

theorem int_cells : Try.prog.cellsOf 3 = 1 := by kernel_rfl
set_option maxRecDepth 20000 in
/-- Numbers as they are read: whatever they are. -/
theorem read_ints {H : Type} {enc : TypeId × Value → H} {W : World} {fuel : Nat} {v : Value} {x : DataW H × List MemPlace}
    (h : DataW.trod enc Try.prog W 0 (fun _ => true) true fuel 44 [v] = some x) (hlt : ∀ y ∈ x.2, y.block < W.heap.size) :
    ∃ (A : Option Addr) (c : Nat) (l : List Int), v = .slice A l.length c ∧ Row W W.heap.size A (l.map zv) ∧ l.length ≤ c ∧ c ≤ maxLen ∧ ∀ n ∈ l, (Lit.int .i64 n).wf = true := by
  rcases open_ints Try.underlying44 Try.underlying3 int_cells h with ⟨hcs, hx⟩ | ⟨a, len, cap, zs, hcs, _, hl, hm, hz, hx, hcell, hwz⟩
  · exact ⟨none, 0, [], by simpa using hcs, Row.empty _ _ _, Nat.le_refl _, Nat.zero_le _, fun n hn => absurd hn (List.not_mem_nil)⟩
  · simp only [List.cons.injEq, and_true] at hcs
    subst hcs
    subst hx
    simp only [if_true] at hz
    have hlen : (zs.take len).length = len := by simp; omega
    refine ⟨some a, cap, zs.take len, by rw [hlen], fun hne => ?_, by rw [hlen]; exact hl, hm, fun n hn => hwz n (List.mem_of_mem_take hn)⟩
    have hpos : 0 < zs.length := by
      rcases zs with _ | ⟨z, zs⟩
      · simp at hne
      · simp
    obtain ⟨b, off, spot⟩ := a
    have hspot : spot = none := by simpa [Addr.add] using World.cell?_spot (hcell 0 hpos)
    subst hspot
    refine ⟨b, off, rfl, hlt (.cell b off) (MemPlace.mem_row.2 ⟨0, hpos, by simp⟩), fun j u hu => ?_⟩
    have hjl : j < len := by
      have := (List.getElem?_eq_some_iff.1 hu).1
      simp at this
      omega
    have hj : j < zs.length := by omega
    have h1 := hcell j hj
    rw [addr_add] at h1
    rw [h1]
    have e : zs.getD j 0 = zs[j] := by simp [List.getD, List.getElem?_eq_getElem hj]
    rw [List.getElem?_map, List.getElem?_take, if_pos hjl, List.getElem?_eq_getElem hj] at hu
    simp only [Option.map_some] at hu
    rw [← hu, e, zv]

/-- What a statement's data is. -/
structure DIn (d : Dt) : Prop where
  h : d.host.length ≤ maxLen
  m : d.mail.length ≤ maxLen
  t : d.texts.length ≤ maxLen
  lh : ∀ k (h : k < d.host.length), (d.host[k]).length ≤ maxLen
  lm : ∀ k (h : k < d.mail.length), (d.mail[k]).length ≤ maxLen
  lt : ∀ k (h : k < d.texts.length), (d.texts[k]).length ≤ maxLen
  n : ∀ n ∈ d.nums, (Lit.int .i64 n).wf = true

theorem byts_cells : Try.prog.cellsOf 28 = 1 := by kernel_rfl
theorem inss_cells : Try.prog.cellsOf 44 = 1 := by kernel_rfl
theorem data_cells : Try.prog.cellsOf 46 = 5 := by kernel_rfl

set_option maxRecDepth 20000 in
theorem open_data {H : Type} {enc : TypeId × Value → H} {W : World} {base : Nat} {v : Value} {d : DataW H} {p : List MemPlace}
    (hval : Value.okWide Try.prog W .any base 46 v) (h : DataW.Trod enc Try.prog W 0 (fun _ => true) true 46 v d p) (hlt : ∀ x ∈ p, x.block < W.heap.size) :
    ∃ (x : DV) (dd : Dt), v = x.val dd ∧ DataAt W W.heap.size x dd ∧ DIn dd := by
  unfold Value.okWide at hval
  rw [Try.underlying46] at hval
  obtain ⟨cs0, rfl, hsz, _⟩ := hval
  obtain ⟨fuel, hf⟩ := h
  obtain ⟨xs, k, _, hx, hcl, hxl, hfs⟩ := DataW.trod_struct Try.underlying46 hf
  obtain ⟨cs⟩ := cs0
  simp only [Value.cells] at hf hcl hfs
  have hp : p = xs.flatMap (·.2) := by simpa using congrArg Prod.snd hx
  have hin : ∀ z ∈ xs, ∀ y ∈ z.2, y.block < W.heap.size := fun z hz y hyz => hlt y (by rw [hp]; exact List.mem_flatMap.2 ⟨z, hz, hyz⟩)
  have hxl5 : xs.length = 5 := hxl
  have hc5 : cs.length = 5 := by rw [data_cells] at hcl; simpa using hcl
  clear hx hp hf hcl hsz
  match cs, hc5, xs, hxl5, hfs, hin with
  | [c0, c1, c2, c3, c4], _, [y0, y1, y2, y3, y4], _, hfs, hin =>
    have g0 := hfs 0 _ rfl
    have g1 := hfs 1 _ rfl
    have g2 := hfs 2 _ rfl
    have g3 := hfs 3 _ rfl
    have g4 := hfs 4 _ rfl
    simp only [List.getElem?_cons_zero, List.getElem?_cons_succ] at g0 g1 g2 g3 g4
    obtain ⟨Ab, cb, l0, e0, r0, a0, b0⟩ := read_bytes_c g0 (hin y0 (by simp))
    obtain ⟨Ah, ch, l1, e1, r1, a1, b1, d1⟩ := read_name str_cells g1 (hin y1 (by simp))
    obtain ⟨Am, cm, l2, e2, r2, a2, b2, d2⟩ := read_name str_cells g2 (hin y2 (by simp))
    obtain ⟨An, cn, l3, e3, r3, a3, b3, d3⟩ := read_ints g3 (hin y3 (by simp))
    obtain ⟨At, ct, l4, e4, r4, a4, b4, d4⟩ := read_name str_cells g4 (hin y4 (by simp))
    subst e0 e1 e2 e3 e4
    exact ⟨⟨Ab, Ah, Am, An, At, cb, ch, cm, cn, ct⟩, ⟨l0, l1, l2, l3, l4⟩, rfl, ⟨r0, r1, r2, r3, r4, a0, d1, d2, a3, d4, b0, b3⟩, ⟨a1, a2, a4, b1, b2, b4, d3⟩⟩

end Go.Proofs.Ytjkjhpaeckkpjaa

namespace Go.Proofs.Ytjkjhpaeckkpjaa
open Go.ChangeShapes Go.WideShapes Go.ChangeAt Go.RowKit

set_option maxRecDepth 20000 in
theorem read_data {H : Type} {enc : TypeId × Value → H} {W : World} {fuel : Nat} {cs : List Value} {z : DataW H × List MemPlace}
    (h : DataW.trod enc Try.prog W 0 (fun _ => true) true fuel 46 cs = some z) (hlt : ∀ y ∈ z.2, y.block < W.heap.size) :
    ∃ (x : DV) (dd : Dt), cs = cellsD (x, dd) ∧ DataAt W W.heap.size x dd ∧ DIn dd := by
  obtain ⟨xs, k, _, hx, hcl, hxl, hfs⟩ := DataW.trod_struct Try.underlying46 h
  have hp : z.2 = xs.flatMap (·.2) := by simpa using congrArg Prod.snd hx
  have hin : ∀ z ∈ xs, ∀ y ∈ z.2, y.block < W.heap.size := fun z hz y hyz => hlt y (by rw [hp]; exact List.mem_flatMap.2 ⟨z, hz, hyz⟩)
  have hxl5 : xs.length = 5 := hxl
  have hc5 : cs.length = 5 := by rw [data_cells] at hcl; exact hcl
  clear hx hp h hcl
  match cs, hc5, xs, hxl5, hfs, hin with
  | [c0, c1, c2, c3, c4], _, [y0, y1, y2, y3, y4], _, hfs, hin =>
    have g0 := hfs 0 _ rfl
    have g1 := hfs 1 _ rfl
    have g2 := hfs 2 _ rfl
    have g3 := hfs 3 _ rfl
    have g4 := hfs 4 _ rfl
    simp only [List.getElem?_cons_zero, List.getElem?_cons_succ] at g0 g1 g2 g3 g4
    obtain ⟨Ab, cb, l0, e0, r0, a0, b0⟩ := read_bytes_c g0 (hin y0 (by simp))
    obtain ⟨Ah, ch, l1, e1, r1, a1, b1, d1⟩ := read_name str_cells g1 (hin y1 (by simp))
    obtain ⟨Am, cm, l2, e2, r2, a2, b2, d2⟩ := read_name str_cells g2 (hin y2 (by simp))
    obtain ⟨An, cn, l3, e3, r3, a3, b3, d3⟩ := read_ints g3 (hin y3 (by simp))
    obtain ⟨At, ct, l4, e4, r4, a4, b4, d4⟩ := read_name str_cells g4 (hin y4 (by simp))
    subst e0 e1 e2 e3 e4
    exact ⟨⟨Ab, Ah, Am, An, At, cb, ch, cm, cn, ct⟩, ⟨l0, l1, l2, l3, l4⟩, rfl, ⟨r0, r1, r2, r3, r4, a0, d1, d2, a3, d4, b0, b3⟩, ⟨a1, a2, a4, b1, b2, b4, d3⟩⟩
theorem DIn.wide {d : Dt} (h : DIn d) : Wide d := ⟨⟨h.h, h.lh⟩, ⟨h.m, h.lm⟩, h.t⟩

set_option maxRecDepth 20000 in
theorem read_rr {H : Type} {enc : TypeId × Value → H} {W : World} {fuel : Nat} {cs : List Value} {z : DataW H × List MemPlace}
    (h : DataW.trod enc Try.prog W 0 (fun _ => true) true fuel 48 cs = some z) (hlt : ∀ y ∈ z.2, y.block < W.heap.size) :
    ∃ (x : RV) (r : Rt), cs = cellsR (x, r) ∧ RAt W W.heap.size x r ∧ RIn r := by
  obtain ⟨xs, k, _, hx, hcl, hxl, hfs⟩ := DataW.trod_struct Try.underlying48 h
  have hp : z.2 = xs.flatMap (·.2) := by simpa using congrArg Prod.snd hx
  have hin : ∀ z ∈ xs, ∀ y ∈ z.2, y.block < W.heap.size := fun z hz y hyz => hlt y (by rw [hp]; exact List.mem_flatMap.2 ⟨z, hz, hyz⟩)
  have hxl5 : xs.length = 5 := hxl
  have hc9 : cs.length = 9 := by rw [rr_cells] at hcl; exact hcl
  clear hx hp h hcl
  match cs, hc9, xs, hxl5, hfs, hin with
  | [c0, c1, c2, c3, c4, c5, c6, c7, c8], _, [y0, y1, y2, y3, y4], _, hfs, hin =>
    have g0 := hfs 0 _ rfl
    have g1 := hfs 1 _ rfl
    have g2 := hfs 2 _ rfl
    have g3 := hfs 3 _ rfl
    have g4 := hfs 4 _ rfl
    simp only [List.getElem?_cons_zero, List.getElem?_cons_succ] at g0 g1 g2 g3 g4
    obtain ⟨An, cn, n, e0, hRn, hn1, hn2, hn3⟩ := read_name str_cells g0 (hin y0 (by simp))
    obtain ⟨z1, e1, _, w1⟩ := DataW.trod_int Try.underlying3 g1
    obtain ⟨z2, e2, _, w2⟩ := DataW.trod_int Try.underlying3 g2
    obtain ⟨z3, e3, _, w3⟩ := DataW.trod_int Try.underlying3 g3
    obtain ⟨x, dd, e4, hd, hi⟩ := read_data g4 (hin y4 (by simp))
    cases e1; cases e2; cases e3
    subst e0
    unfold cellsD at e4
    injection e4 with f0 e4
    injection e4 with f1 e4
    injection e4 with f2 e4
    injection e4 with f3 e4
    injection e4 with f4 _
    subst f0 f1 f2 f3 f4
    exact ⟨⟨An, cn, x⟩, ⟨n, z1, z2, z3, dd⟩, rfl, ⟨hRn, hn3, hd⟩, ⟨⟨hn1, hn2⟩, w1, w2, w3, hi.wide, hi.lt, hi.n⟩⟩

theorem addr_add_add (a : Addr) (m n : Nat) : (a.add m).add n = a.add (m + n) := by
  unfold Addr.add
  by_cases h1 : m = 0 <;> by_cases h2 : n = 0 <;> simp [h1, h2] <;> omega
set_option maxRecDepth 20000 in
/-- A slice of things that take k cells each, as it is read. -/
theorem open_parts {α : Type} (f : α → List Value) (k : Nat) (hf : ∀ p, (f p).length = k) (hk : 0 < k) (Q : World → Nat → α → Prop) {H : Type} {enc : TypeId × Value → H} {W : World} {base : Nat} {t e : TypeId} {v : Value} {d : DataW H} {p : List MemPlace}
    (ht : Try.prog.underlying t = some (.slice e)) (hce : Try.prog.cellsOf e = k) (hs : ∀ p : α, ∃ u, (f p)[0]? = some u)
    (hr : ∀ (fuel : Nat) (cs : List Value) (z : DataW H × List MemPlace), DataW.trod enc Try.prog W 0 (fun _ => true) true fuel e cs = some z → (∀ y ∈ z.2, y.block < W.heap.size) → ∃ p, cs = f p ∧ Q W W.heap.size p)
    (hval : Value.okWide Try.prog W .any base t v) (h : DataW.Trod enc Try.prog W 0 (fun _ => true) true t v d p) (hlt : ∀ x ∈ p, x.block < W.heap.size) :
    ∃ (A : Option Addr) (c : Nat) (ps : List α), v = .slice A ps.length c ∧ Row W W.heap.size A (ps.flatMap f) ∧ (∀ p ∈ ps, Q W W.heap.size p) ∧ ps.length ≤ c ∧ c ≤ maxLen := by
  obtain ⟨a0, len, cap, rfl⟩ := okWide_slice ht hval
  obtain ⟨fuel, hf1⟩ := h
  rcases Deep.open_slice ht hf1 with ⟨hcs, hx⟩ | ⟨a, len', cap', m, n, D, Pl, hcs, _, hl, hm, hmm, hx, hy⟩
  · simp [Value.cells] at hcs
    obtain ⟨rfl, rfl, rfl⟩ := hcs
    exact ⟨none, 0, [], rfl, Row.empty _ _ _, fun p h => absurd h (List.not_mem_nil), Nat.zero_le _, Nat.zero_le _⟩
  · simp [Value.cells] at hcs
    obtain ⟨rfl, rfl, rfl⟩ := hcs
    simp only [if_true] at hmm
    subst hmm
    simp only [Prod.mk.injEq] at hx
    obtain ⟨rfl, rfl⟩ := hx
    rw [hce] at hy hlt
    rcases Nat.eq_zero_or_pos len with rfl | hpos
    · exact ⟨some a, m, [], rfl, Row.empty _ _ _, fun p h => absurd h (List.not_mem_nil), Nat.zero_le _, hm⟩
    have each : ∀ i, i < len → ∃ y : α, (∀ j v, (f y)[j]? = some v → W.cell? (a.add (i * k + j)) = some v) ∧ Q W W.heap.size y := by
      intro i hi
      obtain ⟨cs, hc, hr1⟩ := hy i (by omega)
      obtain ⟨y, rfl, hq⟩ := hr _ _ _ hr1 fun y hyz => hlt y (List.mem_append_right _ (List.mem_flatMap.2 ⟨i, List.mem_range.2 (by omega), hyz⟩))
      obtain ⟨_, _, hat⟩ := World.cells?_some hc
      refine ⟨y, fun j v hj => ?_, hq⟩
      have hjk : j < k := by
        have := (List.getElem?_eq_some_iff.1 hj).1
        rwa [hf] at this
      have := hat j hjk
      rw [hj, addr_add_add] at this
      exact this
    obtain ⟨y0, hy0, _⟩ := each 0 hpos
    obtain ⟨u0, hu0⟩ := hs y0
    obtain ⟨b, off, spot⟩ := a
    have hspot : spot = none := by
      have h := World.cell?_spot (hy0 0 _ hu0)
      simpa [Addr.add] using h
    subst hspot
    haveI : Inhabited α := ⟨y0⟩
    obtain ⟨Y, hY⟩ := Deep.choose_lt each
    have hnl : ((List.range len).map Y).length = len := by simp
    refine ⟨some ⟨b, off, none⟩, m, (List.range len).map Y, by rw [hnl], fun _ => ⟨b, off, rfl, hlt (.cell b off) (List.mem_append_left _ (MemPlace.mem_row.2 ⟨0, Nat.mul_pos (by omega) hk, by simp⟩)), fun j u hu => ?_⟩, fun p hp => ?_, by rw [hnl]; exact hl, hm⟩
    · have hj := (List.getElem?_eq_some_iff.1 hu).1
      rw [length_flat hf, hnl] at hj
      have hq : j / k < len := (Nat.div_lt_iff_lt_mul hk).2 hj
      have hr := Nat.mod_lt j hk
      have e : j = j / k * k + j % k := by rw [Nat.mul_comm]; exact (Nat.div_add_mod j k).symm
      have h1 := (hY (j / k) hq).1 (j % k) u
      rw [e, flat_get hf _ _ _ (by rw [hnl]; exact hq) hr] at hu
      rw [← e, addr_add] at h1
      exact h1 (by simpa using hu)
    · obtain ⟨i, hi, rfl⟩ := List.mem_map.1 hp
      exact (hY i (List.mem_range.1 hi)).2

set_option maxRecDepth 20000 in
theorem open_rrs {H : Type} {enc : TypeId × Value → H} {W : World} {base : Nat} {t : TypeId} {v : Value} {d : DataW H} {p : List MemPlace} (ht : Try.prog.underlying t = some (.slice 48))
    (hval : Value.okWide Try.prog W .any base t v) (h : DataW.Trod enc Try.prog W 0 (fun _ => true) true t v d p) (hlt : ∀ x ∈ p, x.block < W.heap.size) :
    ∃ (A : Option Addr) (c : Nat) (ps : List (RV × Rt)), v = .slice A ps.length c ∧ RsAt W W.heap.size A ps ∧ (∀ p ∈ ps, RIn p.2) ∧ ps.length ≤ c ∧ c ≤ maxLen := by
  obtain ⟨A, c, ps, hv, hR, hQ, h1, h2⟩ := open_parts cellsR 9 cellsR_len (by omega) (fun W H p => RAt W H p.1 p.2 ∧ RIn p.2) ht rr_cells (fun p => ⟨_, rfl⟩)
    (fun fuel cs z hz hlz => by
      obtain ⟨x, r, e, h1, h2⟩ := read_rr hz hlz
      exact ⟨(x, r), e, h1, h2⟩) hval h hlt
  exact ⟨A, c, ps, hv, ⟨hR, fun p hp => (hQ p hp).1⟩, fun p hp => (hQ p hp).2, h1, h2⟩
set_option maxRecDepth 20000 in
theorem open_dats {H : Type} {enc : TypeId × Value → H} {W : World} {base : Nat} {t : TypeId} {v : Value} {d : DataW H} {p : List MemPlace} (ht : Try.prog.underlying t = some (.slice 46))
    (hval : Value.okWide Try.prog W .any base t v) (h : DataW.Trod enc Try.prog W 0 (fun _ => true) true t v d p) (hlt : ∀ x ∈ p, x.block < W.heap.size) :
    ∃ (A : Option Addr) (c : Nat) (ps : List (DV × Dt)), v = .slice A ps.length c ∧ DsAt W W.heap.size A ps ∧ (∀ p ∈ ps, DIn p.2) ∧ ps.length ≤ c ∧ c ≤ maxLen := by
  obtain ⟨A, c, ps, hv, hR, hQ, h1, h2⟩ := open_parts cellsD 5 cellsD_len (by omega) (fun W H p => DataAt W H p.1 p.2 ∧ DIn p.2) ht data_cells (fun p => ⟨_, rfl⟩)
    (fun fuel cs z hz hlz => by
      obtain ⟨x, r, e, h1, h2⟩ := read_data hz hlz
      exact ⟨(x, r), e, h1, h2⟩) hval h hlt
  exact ⟨A, c, ps, hv, ⟨hR, fun p hp => (hQ p hp).1⟩, fun p hp => (hQ p hp).2, h1, h2⟩

end Go.Proofs.Ytjkjhpaeckkpjaa

namespace Go.Proofs.Ytjkjhpaeckkpjaa
open Go.ChangeShapes Go.WideShapes Go.ChangeAt Go.RowKit

theorem quest_cells : Try.prog.cellsOf 42 = 3 := by kernel_rfl

set_option maxRecDepth 20000 in
theorem open_question {H : Type} {enc : TypeId × Value → H} {W : World} {base : Nat} {v : Value} {d : DataW H} {p : List MemPlace}
    (hval : Value.okWide Try.prog W .any base 42 v) (h : DataW.Trod enc Try.prog W 0 (fun _ => true) true 42 v d p) (hlt : ∀ x ∈ p, x.block < W.heap.size) :
    ∃ (y : QV) (q : Qt), v = .agg #[.slice y.1 q.name.length y.2, .int .i64 q.kind, .int .i64 q.cls] ∧ QAt W W.heap.size y q ∧ WideN q.name ∧ (Lit.int .i64 q.kind).wf = true ∧ (Lit.int .i64 q.cls).wf = true := by
  unfold Value.okWide at hval
  rw [Try.underlying42] at hval
  obtain ⟨cs0, rfl, hsz, _⟩ := hval
  obtain ⟨fuel, hf⟩ := h
  obtain ⟨xs, k, _, hx, hcl, hxl, hfs⟩ := DataW.trod_struct Try.underlying42 hf
  obtain ⟨cs⟩ := cs0
  simp only [Value.cells] at hf hcl hfs
  have hp : p = xs.flatMap (·.2) := by simpa using congrArg Prod.snd hx
  have hin : ∀ z ∈ xs, ∀ y ∈ z.2, y.block < W.heap.size := fun z hz y hyz => hlt y (by rw [hp]; exact List.mem_flatMap.2 ⟨z, hz, hyz⟩)
  have hxl3 : xs.length = 3 := hxl
  have hc3 : cs.length = 3 := by rw [quest_cells] at hcl; simpa using hcl
  clear hx hp hf hcl hsz
  match cs, hc3, xs, hxl3, hfs, hin with
  | [c0, c1, c2], _, [y0, y1, y2], _, hfs, hin =>
    have g0 := hfs 0 _ rfl
    have g1 := hfs 1 _ rfl
    have g2 := hfs 2 _ rfl
    simp only [List.getElem?_cons_zero, List.getElem?_cons_succ] at g0 g1 g2
    obtain ⟨An, cn, n, e0, hRn, hn1, hn2, _⟩ := read_name str_cells g0 (hin y0 (by simp))
    obtain ⟨z1, e1, _, w1⟩ := DataW.trod_int Try.underlying3 g1
    obtain ⟨z2, e2, _, w2⟩ := DataW.trod_int Try.underlying3 g2
    cases e1
    cases e2
    subst e0
    exact ⟨(An, cn), ⟨n, z1, z2⟩, rfl, hRn, ⟨hn1, hn2⟩, w1, w2⟩

end Go.Proofs.Ytjkjhpaeckkpjaa

namespace Go.Proofs.Ytjkjhpaeckkpjaa
open Go.RowKit

/-- Has a record few parts, its bytes apart? -/
def fewR (r : Rt) : Bool := decide (r.name.length ≤ 200) && (decide (r.data.host.length ≤ 200) && (decide (r.data.mail.length ≤ 200) && (decide (r.data.texts.length ≤ 100) && decide (r.data.nums.length ≤ 100))))
def sumB (rs : List Rt) : Nat := (rs.map fun r => r.data.bytes.length).sum
def fewQ (q : Qt) : Bool := decide (q.name.length ≤ 200)
def lightM (m : Mt) : Bool := decide (m.all.length ≤ 600) && (decide (m.qs.length ≤ 600) && (m.all.all fewR && (m.qs.all fewQ && decide (sumB m.all < 200000))))
theorem sumB_append (a b : List Rt) : sumB (a ++ b) = sumB a + sumB b := by simp [sumB]
theorem len_le_sumB {rs : List Rt} {r : Rt} (h : r ∈ rs) : r.data.bytes.length ≤ sumB rs := by
  induction rs with
  | nil => exact absurd h (List.not_mem_nil)
  | cons x rs ih =>
    have e : sumB (x :: rs) = x.data.bytes.length + sumB rs := by simp [sumB]
    rcases List.mem_cons.1 h with rfl | h
    · omega
    · have := ih h
      omega
/-- What a light message is. -/
structure LightM (m : Mt) : Prop where
  n : m.all.length ≤ 600
  q : m.qs.length ≤ 600
  r : ∀ r ∈ m.all, LightR r
  k : ∀ q ∈ m.qs, q.name.length ≤ 200
theorem lightM_iff {m : Mt} (h : lightM m = true) : LightM m := by
  unfold lightM at h
  simp only [Bool.and_eq_true, decide_eq_true_eq, List.all_eq_true] at h
  obtain ⟨h0, h1, h2, h3, h4⟩ := h
  refine ⟨h0, h1, fun r hr => ?_, fun q hq => by have := h3 q hq; unfold fewQ at this; simpa using this⟩
  have h5 := h2 r hr
  unfold fewR at h5
  simp only [Bool.and_eq_true, decide_eq_true_eq] at h5
  obtain ⟨e0, e1, e2, e3, e4⟩ := h5
  exact ⟨e0, e1, e2, e3, e4, by have := len_le_sumB hr; omega⟩

theorem sumB_le {M : Nat} : ∀ {rs : List Rt}, (∀ r ∈ rs, r.data.bytes.length ≤ M) → sumB rs ≤ rs.length * M
  | [], _ => Nat.zero_le _
  | r :: rs, h => by
    have h1 := sumB_le (rs := rs) fun x hx => h x (List.mem_cons_of_mem _ hx)
    have h2 := h r (List.mem_cons_self)
    have e : sumB (r :: rs) = r.data.bytes.length + sumB rs := by simp [sumB]
    rw [e, List.length_cons, Nat.succ_mul]
    omega
theorem qsts_step {ps : List (QV × Qt)} {k : Nat} (hk : k < ps.length) : qsts (ps.take (k + 1)) = qsts (ps.take k) ++ [(ps[k]).2] := by
  rw [List.take_succ_eq_append_getElem hk, qsts_append]
  rfl
def SumRelL (W : World) (ps : List (RV × Rt)) (s i : Value) (wr : World) : Prop := ∃ k : Nat, k ≤ ps.length ∧ i = .int .i64 k ∧ s = .int .i64 (sumB (recs (ps.take k)) : Nat) ∧ (recs (ps.take k)).all fewR = true ∧ Below W.heap.size W wr
def FewQRel (w : World) (L : List Value) (qp : List (QV × Qt)) (i : Value) (wr : World) : Prop := ∃ k : Nat, k ≤ qp.length ∧ i = .int .i64 k ∧ (qsts (qp.take k)).all fewQ = true ∧ Whole wr w.heap.size 25 L ∧ Below w.heap.size w wr
def AllRel (w : World) (L : List Value) (ps : List (RV × Rt)) (v : Value) (wx : World) : Prop :=
  ∃ (A : Option Addr) (c : Nat), v = .slice A ps.length c ∧ Row wx wx.heap.size A (ps.flatMap cellsR) ∧ Whole wx w.heap.size 25 L ∧ Below w.heap.size w wx
set_option maxRecDepth 20000 in
set_option maxHeartbeats 8000000 in
theorem light_core (w : World) (m : MV) (h : Hd) (qA : Option Addr) (qc : Nat) (qp : List (QV × Qt)) (A0 A1 A2 : Option Addr) (k0 k1 k2 : Nat) (p0 p1 p2 : List (RV × Rt)) (he : m = ⟨h, qA, qc, qp, ⟨A0, k0, p0⟩, ⟨A1, k1, p1⟩, ⟨A2, k2, p2⟩⟩) (hm : MAt w w.heap.size m)
    (hn : (p0.length + p1.length + p2.length) * 168 ≤ 140737488355328) (hq : qp.length ≤ maxLen) (hql : ∀ p ∈ qp, p.2.name.length ≤ maxLen) (hb : ∀ r ∈ m.msg.all, r.data.bytes.length ≤ 140737488355328) :
    Calls Try.prog 11 #[valM h (.slice qA qp.length qc) (.slice A0 p0.length k0) (.slice A1 p1.length k1) (.slice A2 p2.length k2)] w (Gave w (.bool (lightM m.msg))) := by
  obtain ⟨i0, hi0, hz0, hz1, hz2⟩ := info_parts rr_info
  obtain ⟨W, hW⟩ : ∃ W, W = w.alloc (.cells #[.int .i64 h.id, .bool h.resp, .int .i64 h.op, .bool h.aa, .bool h.tc, .bool h.rd, .bool h.ra, .int .i64 h.rc, .slice qA qp.length qc, .slice A0 p0.length k0, .slice A1 p1.length k1, .slice A2 p2.length k2, .bool h.edns, .int .i64 h.size] 25) := ⟨_, rfl⟩
  have hB : Below w.heap.size w W := by rw [hW]; exact (Below.refl _ _).alloc (Nat.le_refl _) _
  have hzW : W.heap.size = w.heap.size + 1 := by rw [hW]; simp
  have hwm : Whole W w.heap.size 25 (cellsM h (.slice qA qp.length qc) (.slice A0 p0.length k0) (.slice A1 p1.length k1) (.slice A2 p2.length k2)) := by rw [hW]; exact Whole.made w [.int .i64 h.id, .bool h.resp, .int .i64 h.op, .bool h.aa, .bool h.tc, .bool h.rd, .bool h.ra, .int .i64 h.rc, .slice qA qp.length qc, .slice A0 p0.length k0, .slice A1 p1.length k1, .slice A2 p2.length k2, .bool h.edns, .int .i64 h.size] _
  have hbl : Below W.heap.size W (W.alloc (.cells #[] 48)).drew := ((Below.refl _ _).alloc (Nat.le_refl _) _).drew
  have HL := Lib.hid (show (W.alloc (.cells #[] 48)).drew.ownsRow (w.heap.size + 1) 48 9 (.slice (some ⟨w.heap.size + 1, 0, none⟩) 0 0) 0 [] from by
    have h1 := own_lit W 48 9
    rw [hzW] at h1
    exact own_keep h1 fun _ _ => rfl)
  have HBL := Lib.hid (hB.trans (hbl.mono hB.size))
  have HWL := Lib.hid (hwm.below hbl hwm.lt)
  have hzl : w.heap.size + 1 ≤ (W.alloc (.cells #[] 48)).drew.heap.size := by have := hbl.size; omega
  have HZL := Lib.hid hzl
  have HS0 := Lib.hid (fun W' (hb : Below w.heap.size w W') => (show RsAt W' w.heap.size A0 p0 by have h2 := hm.s0.below hb; rw [he] at h2; exact h2))
  have HS1 := Lib.hid (fun W' (hb : Below w.heap.size w W') => (show RsAt W' w.heap.size A1 p1 by have h2 := hm.s1.below hb; rw [he] at h2; exact h2))
  have HS2 := Lib.hid (fun W' (hb : Below w.heap.size w W') => (show RsAt W' w.heap.size A2 p2 by have h2 := hm.s2.below hb; rw [he] at h2; exact h2))
  have HQ := Lib.hid (fun W' (hb : Below w.heap.size w W') => (show QsAt W' w.heap.size qA qp by have h2 := hm.q.below hb; rw [he] at h2; exact h2))
  have HE := Lib.hid he
  have HBY := Lib.hid (show ∀ r ∈ recs (p0 ++ p1 ++ p2), r.data.bytes.length ≤ 140737488355328 by intro r hr; refine hb r ?_; rw [he]; show r ∈ recs p0 ++ (recs p1 ++ recs p2); simpa [recs_append] using hr)
  have c9 : (W.alloc (.cells #[] 48)).drew.cell? ⟨w.heap.size, 9, none⟩ = some (.slice A0 p0.length k0) := HWL.out.cell 9
  have c10 : (W.alloc (.cells #[] 48)).drew.cell? ⟨w.heap.size, 10, none⟩ = some (.slice A1 p1.length k1) := HWL.out.cell 10
  have c11 : (W.alloc (.cells #[] 48)).drew.cell? ⟨w.heap.size, 11, none⟩ = some (.slice A2 p2.length k2) := HWL.out.cell 11
  clear hB hwm hbl hm he hb hzl hzW
  subst hW
  go_enter Try.func11, Try.ntmps11
  go_upto_region 1 with fail
  go_cut [3] from 8 to 17 (fun s3 wx => AllRel w (cellsM h (.slice qA qp.length qc) (.slice A0 p0.length k0) (.slice A1 p1.length k1) (.slice A2 p2.length k2)) (p0 ++ p1 ++ p2) s3 wx)
  case first =>
   go_region_law (first
     | (refine step_append_any rfl (.tmp 8) (.tmp 10) _ rfl (w.heap.size + 1) 48 i0 _ 9 168 Try.underlying23 hi0 hz0 hz1 hz2 rfl (by omega) (.slice (some ⟨w.heap.size + 1, 0, none⟩) 0 0) 0 _ rfl HL.out
          A0 p0.length k0 w.heap.size (p0.flatMap cellsR) rfl (length_flat cellsR_len p0) (HS0.out _ HBL.out).1 (cellsR_one p0) (by unfold maxLen; omega) (by omega) HZL.out ?_
        intro v1 w1 hown1 hg1
        rw [Nat.zero_add, List.nil_append] at hown1
        have HB1 := Lib.hid (own_below HBL.out (Nat.le_succ _) HBL.out.size HL.out hg1)
        have HW1 := Lib.hid (HWL.out.grown hg1 (by simp [Value.ownBlock]))
        have HZ1 := Lib.hid (Nat.le_trans HZL.out hg1.size)
        obtain ⟨B1, d1, rfl, _, _⟩ := own_form hown1
        have HO1 := Lib.hid hown1
        have c10 : w1.cell? ⟨w.heap.size, 10, none⟩ = some (.slice A1 p1.length k1) := HW1.out.cell 10
        have c11 : w1.cell? ⟨w.heap.size, 11, none⟩ = some (.slice A2 p2.length k2) := HW1.out.cell 11
        clear hown1 hg1)
     | (refine step_append_any rfl (.tmp 11) (.tmp 13) _ rfl (w.heap.size + 1) 48 i0 _ 9 168 Try.underlying23 hi0 hz0 hz1 hz2 rfl (by omega) (.slice B1 p0.length d1) p0.length _ rfl HO1.out
          A1 p1.length k1 w.heap.size (p1.flatMap cellsR) rfl (length_flat cellsR_len p1) (HS1.out _ HB1.out).1 (cellsR_one p1) (by unfold maxLen; omega) (by omega) HZ1.out ?_
        intro v2 w2 hown2 hg2
        have HB2 := Lib.hid (own_below HB1.out (Nat.le_succ _) HB1.out.size HO1.out hg2)
        have HW2 := Lib.hid (HW1.out.grown hg2 (fun h => by have := (HO1.out.lt _ h.symm).1; omega))
        have HZ2 := Lib.hid (Nat.le_trans HZ1.out hg2.size)
        obtain ⟨B2, d2, rfl, _, _⟩ := own_form hown2
        have HO2 := Lib.hid hown2
        have c11 : w2.cell? ⟨w.heap.size, 11, none⟩ = some (.slice A2 p2.length k2) := HW2.out.cell 11
        clear hown2 hg2)
     | (refine step_append_any rfl (.tmp 14) (.tmp 16) _ rfl (w.heap.size + 1) 48 i0 _ 9 168 Try.underlying23 hi0 hz0 hz1 hz2 rfl (by omega) (.slice B2 (p0.length + p1.length) d2) (p0.length + p1.length) _ rfl HO2.out
          A2 p2.length k2 w.heap.size (p2.flatMap cellsR) rfl (length_flat cellsR_len p2) (HS2.out _ HB2.out).1 (cellsR_one p2) (by unfold maxLen; omega) (by omega) HZ2.out ?_
        intro v3 w3 hown3 hg3
        have HB3 := Lib.hid (own_below HB2.out (Nat.le_succ _) HB2.out.size HO2.out hg3)
        have HW3 := Lib.hid (HW2.out.grown hg3 (fun h => by have := (HO2.out.lt _ h.symm).1; omega))
        obtain ⟨B3, d3, rfl, _, _⟩ := own_form hown3
        have HO3 := Lib.hid hown3
        clear hown3 hg3))
   all_goals
    have HRR := Lib.hid (show AllRel w (cellsM h (.slice qA qp.length qc) (.slice A0 p0.length k0) (.slice A1 p1.length k1) (.slice A2 p2.length k2)) (p0 ++ p1 ++ p2) (.slice B3 (p0.length + p1.length + p2.length) d3) w3 from
      ⟨B3, d3, by rw [List.length_append, List.length_append], by rw [List.flatMap_append, List.flatMap_append]; exact Row.of_own HO3.out, HW3.out, HB3.out⟩)
    go_wp2
    go_meet
    exact HRR.out
  case rest =>
    obtain ⟨A, c, rfl, hrow, hw, hb⟩ := hcut
    have HB := Lib.hid hb
    have HW := Lib.hid hw
    have HPS := Lib.hid (show RsAt wc wc.heap.size A (p0 ++ p1 ++ p2) from ⟨hrow, fun p hp => by
      rcases List.mem_append.1 hp with h1 | h1
      · rcases List.mem_append.1 h1 with h1 | h1
        · exact ((HS0.out _ hb).2 p h1).mono hb.size
        · exact ((HS1.out _ hb).2 p h1).mono hb.size
      · exact ((HS2.out _ hb).2 p h1).mono hb.size⟩)
    have HLM := Lib.hid (show lightM m.msg = (decide ((p0 ++ p1 ++ p2).length ≤ 600) && (decide (qp.length ≤ 600) && ((recs (p0 ++ p1 ++ p2)).all fewR && ((qsts qp).all fewQ && decide (sumB (recs (p0 ++ p1 ++ p2)) < 200000))))) from by
      have e1 : m.msg.all = recs (p0 ++ p1 ++ p2) := by rw [HE.out]; show recs p0 ++ (recs p1 ++ recs p2) = _; simp [recs_append]
      have e2 : m.msg.qs = qsts qp := by rw [HE.out]; rfl
      unfold lightM
      rw [e1, e2, length_recs, length_qsts])
    have c8 : wc.cell? ⟨w.heap.size, 8, none⟩ = some (.slice qA qp.length qc) := Whole.cell hw 8
    have hlp : (p0 ++ p1 ++ p2).length * 168 ≤ 140737488355328 := by rw [List.length_append, List.length_append]; exact hn
    clear hrow hw hb HS0 HS1 HS2 HBL HWL HZL HL hn
    revert HBY HPS HLM hlp
    generalize p0 ++ p1 ++ p2 = ps
    intro HBY HPS HLM hlp
    unfold maxLen at hq
    by_cases e0 : ps.length ≤ 600
    case neg =>
      have d0 : decide ((600 : Int) < (ps.length : Int)) = true := by rw [decide_eq_true_eq]; omega
      rw [decide_eq_false e0] at HLM
      go_wp2
      go_ret
      exact ⟨by rw [HLM.out]; rfl, HB.out⟩
    have d0 : decide ((600 : Int) < (ps.length : Int)) = false := decide_eq_false (by omega)
    rw [decide_eq_true e0] at HLM
    by_cases e1 : qp.length ≤ 600
    case neg =>
      have d1 : decide ((600 : Int) < (qp.length : Int)) = true := by rw [decide_eq_true_eq]; omega
      rw [decide_eq_false e1] at HLM
      go_wp2
      go_ret
      exact ⟨by rw [HLM.out]; rfl, HB.out⟩
    have d1 : decide ((600 : Int) < (qp.length : Int)) = false := decide_eq_false (by omega)
    rw [decide_eq_true e1] at HLM
    go_wp2
    clear d0 d1 c8
    go_loopw [4, 5] (SumRelL wc ps) (fun _ i _ => ps.length - (intOf i).toNat)
    case atStart => exact ⟨0, Nat.zero_le _, rfl, rfl, rfl, Below.refl _ _⟩
    case round =>
    obtain ⟨k, hk, rfl, rfl, hal, hbr⟩ := hrel
    have HAL := Lib.hid hal
    have HBR := Lib.hid hbr
    have HB1 := Lib.hid (HB.out.trans (hbr.mono HB.out.size))
    have hz := hbr.size
    have hzz := HB.out.size
    have hsum : sumB (recs (ps.take k)) ≤ 600 * 140737488355328 := by
      have h1 := sumB_le (rs := recs (ps.take k)) (M := 140737488355328) fun r hr => HBY.out r (by
        obtain ⟨p, hp, rfl⟩ := List.mem_map.1 hr
        exact List.mem_map.2 ⟨p, List.mem_of_mem_take hp, rfl⟩)
      have h2 : (recs (ps.take k)).length ≤ 600 := by rw [length_recs, List.length_take]; omega
      exact Nat.le_trans h1 (Nat.mul_le_mul_right _ h2)
    clear hal hbr
    by_cases hlt : k < ps.length
    · obtain ⟨b, off, rfl, hbH, hra, q0, q1, q2, q3, q4, q5, q6, q7, q8⟩ := (show RsAt wr wc.heap.size A ps from HPS.out.below HBR.out).at_ hlt
      have hby := HBY.out _ (List.mem_map.2 ⟨ps[k], List.getElem_mem hlt, rfl⟩)
      have HF := Lib.hid (show fewR (ps[k]).2 = false → (recs ps).all fewR = false by
        intro h
        rw [List.all_eq_false]
        exact ⟨(ps[k]).2, List.mem_map.2 ⟨ps[k], List.getElem_mem hlt, rfl⟩, by rw [h]; decide⟩)
      have HT := Lib.hid (show fewR (ps[k]).2 = true → (recs (ps.take (k + 1))).all fewR = true by
        intro h
        rw [recs_at hlt, List.all_append, HAL.out]
        simp [h])
      have HSU := Lib.hid (show sumB (recs (ps.take (k + 1))) = sumB (recs (ps.take k)) + (ps[k]).2.data.bytes.length by
        rw [recs_at hlt, sumB_append]
        simp [sumB])
      clear hra
      revert hby q0 q1 q2 q3 q4 q5 q6 q7 q8 HF HT HSU
      generalize ps[k] = p
      obtain ⟨x, r⟩ := p
      intro q0 q1 q2 q3 q4 q5 q6 q7 q8 hby HF HT HSU
      dsimp only at *
      have r0 : (wr.alloc (.cells #[.slice x.d.Ab r.data.bytes.length x.d.cb, .slice x.d.Ah r.data.host.length x.d.ch, .slice x.d.Am r.data.mail.length x.d.cm, .slice x.d.An r.data.nums.length x.d.cn, .slice x.d.At r.data.texts.length x.d.ct] 46)).cell? ⟨b, off + k * 9, none⟩ = some (.slice x.A r.name.length x.c) := (World.cell?_alloc_lt wr _ ⟨b, off + k * 9, none⟩ (by dsimp only; omega)).trans q0
      have HB2 := Lib.hid (HB1.out.alloc (by omega) (.cells #[.slice x.d.Ab r.data.bytes.length x.d.cb, .slice x.d.Ah r.data.host.length x.d.ch, .slice x.d.Am r.data.mail.length x.d.cm, .slice x.d.An r.data.nums.length x.d.cn, .slice x.d.At r.data.texts.length x.d.ct] 46))
      have HBR2 := Lib.hid (HBR.out.alloc hz (.cells #[.slice x.d.Ab r.data.bytes.length x.d.cb, .slice x.d.Ah r.data.host.length x.d.ch, .slice x.d.Am r.data.mail.length x.d.cm, .slice x.d.An r.data.nums.length x.d.cn, .slice x.d.At r.data.texts.length x.d.ct] 46))
      by_cases e2 : r.name.length ≤ 200
      case neg =>
        have d2 : decide ((200 : Int) < (r.name.length : Int)) = true := by simp; omega
        have HX := Lib.hid (HF.out (by unfold fewR; rw [show decide (r.name.length ≤ 200) = false by simp; omega]; simp))
        go_wp2
        go_ret
        exact ⟨by rw [HLM.out, HX.out]; rfl, HB2.out⟩
      have d2 : decide ((200 : Int) < (r.name.length : Int)) = false := by simp; omega
      by_cases e3 : r.data.host.length ≤ 200
      case neg =>
        have d3 : decide ((200 : Int) < (r.data.host.length : Int)) = true := by simp; omega
        have HX := Lib.hid (HF.out (by unfold fewR; rw [show decide (r.data.host.length ≤ 200) = false by simp; omega]; simp))
        go_wp2
        go_ret
        exact ⟨by rw [HLM.out, HX.out]; rfl, HB2.out⟩
      have d3 : decide ((200 : Int) < (r.data.host.length : Int)) = false := by simp; omega
      by_cases e4 : r.data.mail.length ≤ 200
      case neg =>
        have d4 : decide ((200 : Int) < (r.data.mail.length : Int)) = true := by simp; omega
        have HX := Lib.hid (HF.out (by unfold fewR; rw [show decide (r.data.mail.length ≤ 200) = false by simp; omega]; simp))
        go_wp2
        go_ret
        exact ⟨by rw [HLM.out, HX.out]; rfl, HB2.out⟩
      have d4 : decide ((200 : Int) < (r.data.mail.length : Int)) = false := by simp; omega
      by_cases e5 : r.data.texts.length ≤ 100
      case neg =>
        have d5 : decide ((100 : Int) < (r.data.texts.length : Int)) = true := by simp; omega
        have HX := Lib.hid (HF.out (by unfold fewR; rw [show decide (r.data.texts.length ≤ 100) = false by simp; omega]; simp))
        go_wp2
        go_ret
        exact ⟨by rw [HLM.out, HX.out]; rfl, HB2.out⟩
      have d5 : decide ((100 : Int) < (r.data.texts.length : Int)) = false := by simp; omega
      by_cases e6 : r.data.nums.length ≤ 100
      case neg =>
        have d6 : decide ((100 : Int) < (r.data.nums.length : Int)) = true := by simp; omega
        have HX := Lib.hid (HF.out (by unfold fewR; rw [show decide (r.data.nums.length ≤ 100) = false by simp; omega]; simp))
        go_wp2
        go_ret
        exact ⟨by rw [HLM.out, HX.out]; rfl, HB2.out⟩
      have d6 : decide ((100 : Int) < (r.data.nums.length : Int)) = false := by simp; omega
      have HX := Lib.hid (HT.out (by unfold fewR; simp [e2, e3, e4, e5, e6]))
      go_wp2
      exact ⟨⟨k + 1, by omega, by go_num, by rw [HSU.out]; go_num, HX.out, HBR2.out⟩, by simp [intOf]; omega⟩
    · obtain rfl : k = ps.length := by omega
      have hal := HAL.out
      rw [List.take_length] at hsum hal ⊢
      rw [hal] at HLM
      have hwr : Whole wr w.heap.size 25 (cellsM h (.slice qA qp.length qc) (.slice A0 p0.length k0) (.slice A1 p1.length k1) (.slice A2 p2.length k2)) := HW.out.below HBR.out HW.out.lt
      have HWR := Lib.hid hwr
      have c8 : wr.cell? ⟨w.heap.size, 8, none⟩ = some (.slice qA qp.length qc) := Whole.cell hwr 8
      have HSS := Lib.hid hsum
      clear hal hwr HAL HBY HPS hlt
      revert HLM HSS hsum
      generalize sumB (recs ps) = S
      intro HLM hsum HSS
      go_wp2
      clear c8
      go_loopw [7] (FewQRel w (cellsM h (.slice qA qp.length qc) (.slice A0 p0.length k0) (.slice A1 p1.length k1) (.slice A2 p2.length k2)) qp) (fun i _ => qp.length - (intOf i).toNat)
      case atStart => exact ⟨0, Nat.zero_le _, rfl, rfl, HWR.out, HB1.out⟩
      case round =>
      obtain ⟨j, hj, rfl, haq, hwq, hbq⟩ := hrel
      have HAQ := Lib.hid haq
      have HBQ := Lib.hid hbq
      have HWQ := Lib.hid hwq
      have c8 : wr.cell? ⟨w.heap.size, 8, none⟩ = some (.slice qA qp.length qc) := Whole.cell hwq 8
      clear haq hwq hbq
      by_cases hlt : j < qp.length
      · obtain ⟨b, off, rfl, hbH, hqa, q0, q1, q2⟩ := (HQ.out _ HBQ.out).at_ hlt
        have hnl := hql _ (List.getElem_mem hlt)
        have HF := Lib.hid (show fewQ (qp[j]).2 = false → (qsts qp).all fewQ = false by
          intro h
          rw [List.all_eq_false]
          exact ⟨(qp[j]).2, List.mem_map.2 ⟨qp[j], List.getElem_mem hlt, rfl⟩, by rw [h]; decide⟩)
        have HT := Lib.hid (show fewQ (qp[j]).2 = true → (qsts (qp.take (j + 1))).all fewQ = true by
          intro h
          rw [qsts_step hlt, List.all_append, HAQ.out]
          simp [h])
        clear hqa
        revert hnl q0 q1 q2 HF HT
        generalize qp[j] = p
        obtain ⟨x, q⟩ := p
        intro q0 q1 q2 hnl HF HT
        dsimp only at *
        unfold maxLen at hnl
        by_cases e2 : q.name.length ≤ 200
        case neg =>
          have d2 : decide ((200 : Int) < (q.name.length : Int)) = true := by simp; omega
          have HX := Lib.hid (HF.out (by unfold fewQ; exact decide_eq_false e2))
          go_wp2
          go_ret
          exact ⟨by rw [HLM.out, HX.out]; rfl, HBQ.out⟩
        have d2 : decide ((200 : Int) < (q.name.length : Int)) = false := by simp; omega
        have HX := Lib.hid (HT.out (by unfold fewQ; exact decide_eq_true e2))
        go_wp2
        exact ⟨⟨j + 1, by omega, by go_num, HX.out, HWQ.out, HBQ.out⟩, by simp [intOf]; omega⟩
      · obtain rfl : j = qp.length := by omega
        have haq := HAQ.out
        rw [List.take_length] at haq
        rw [haq] at HLM
        go_wp2
        go_ret
        refine ⟨?_, HBQ.out⟩
        rw [HLM.out]
        simp
        omega
theorem light_any (w : World) (m : MV) (hm : MAt w w.heap.size m) (hn : (m.s0.ps.length + m.s1.ps.length + m.s2.ps.length) * 168 ≤ 140737488355328) (hq : m.qp.length ≤ maxLen) (hql : ∀ p ∈ m.qp, p.2.name.length ≤ maxLen)
    (hb : ∀ r ∈ m.msg.all, r.data.bytes.length ≤ 140737488355328) : Calls Try.prog 11 #[m.val] w (Gave w (.bool (lightM m.msg))) := by
  obtain ⟨h, qA, qc, qp, ⟨A0, k0, p0⟩, ⟨A1, k1, p1⟩, ⟨A2, k2, p2⟩⟩ := m
  exact light_core w _ h qA qc qp A0 A1 A2 k0 k1 k2 p0 p1 p2 rfl hm hn hq hql hb

end Go.Proofs.Ytjkjhpaeckkpjaa

namespace Go.Proofs.Ytjkjhpaeckkpjaa
open Go.ChangeShapes Go.WideShapes Go.ChangeAt Go.RowKit

theorem bulk_pos {H : Type} (d : DataW H) : 1 ≤ Rows.uptoBulk d := by
  cases d with
  | lit l => cases l <;> simp [Rows.uptoBulk]
  | _ => simp [Rows.uptoBulk]
theorem bulk_len {H : Type} : ∀ l : List (DataW H), l.length ≤ Rows.uptoBulkAll l
  | [] => by simp [Rows.uptoBulkAll]
  | d :: l => by
    have h1 := bulk_len l
    have h2 := bulk_pos d
    simp only [Rows.uptoBulkAll, List.length_cons]
    omega
theorem bulk_in {H : Type} {d : DataW H} : ∀ {l : List (DataW H)}, d ∈ l → Rows.uptoBulk d ≤ Rows.uptoBulkAll l
  | x :: l, h => by
    simp only [Rows.uptoBulkAll]
    rcases List.mem_cons.1 h with rfl | h
    · omega
    · have := bulk_in h
      omega

theorem bytes_bulk {H : Type} {enc : TypeId × Value → H} {W : World} {fuel : Nat} {A : Option Addr} {n c : Nat} {x : DataW H × List MemPlace}
    (h : DataW.trod enc Try.prog W 0 (fun _ => true) true fuel 28 [.slice A n c] = some x) : n ≤ Rows.uptoBulk x.1 := by
  rcases Deep.open_slice Try.underlying28 h with ⟨hcs, hx⟩ | ⟨a, len', cap', m, k, D, Pl, hcs, _, hl, hm, hmm, hx, hy⟩
  · simp at hcs
    obtain ⟨rfl, rfl, rfl⟩ := hcs
    exact Nat.zero_le _
  · simp at hcs
    obtain ⟨rfl, rfl, rfl⟩ := hcs
    subst hx
    have := bulk_len ((List.range n).map D)
    simp only [Rows.uptoBulk]
    simp only [List.length_map, List.length_range] at this
    omega

set_option maxRecDepth 20000 in
theorem data_bulk {H : Type} {enc : TypeId × Value → H} {W : World} {fuel : Nat} {x : DV} {dd : Dt} {z : DataW H × List MemPlace}
    (h : DataW.trod enc Try.prog W 0 (fun _ => true) true fuel 46 (cellsD (x, dd)) = some z) : dd.bytes.length ≤ Rows.uptoBulk z.1 := by
  obtain ⟨xs, k, _, hx, hcl, hxl, hfs⟩ := DataW.trod_struct Try.underlying46 h
  have hxl5 : xs.length = 5 := hxl
  subst hx
  match xs, hxl5, hfs with
  | [y0, y1, y2, y3, y4], _, hfs =>
    have g0 := hfs 0 _ rfl
    simp only [List.getElem?_cons_zero] at g0
    have h1 : dd.bytes.length ≤ Rows.uptoBulk y0.1 := bytes_bulk g0
    simp only [Rows.uptoBulk, List.map_cons, Rows.uptoBulkAll]
    omega

set_option maxRecDepth 20000 in
theorem rr_bulk {H : Type} {enc : TypeId × Value → H} {W : World} {fuel : Nat} {x : RV} {r : Rt} {z : DataW H × List MemPlace}
    (h : DataW.trod enc Try.prog W 0 (fun _ => true) true fuel 48 (cellsR (x, r)) = some z) : r.data.bytes.length ≤ Rows.uptoBulk z.1 := by
  obtain ⟨xs, k, _, hx, hcl, hxl, hfs⟩ := DataW.trod_struct Try.underlying48 h
  have hxl5 : xs.length = 5 := hxl
  subst hx
  match xs, hxl5, hfs with
  | [y0, y1, y2, y3, y4], _, hfs =>
    have g4 := hfs 4 _ rfl
    simp only [List.getElem?_cons_zero, List.getElem?_cons_succ] at g4
    have h1 : r.data.bytes.length ≤ Rows.uptoBulk y4.1 := data_bulk (x := x.d) (dd := r.data) g4
    simp only [Rows.uptoBulk, List.map_cons, Rows.uptoBulkAll]
    omega

set_option maxRecDepth 20000 in
theorem read_question {H : Type} {enc : TypeId × Value → H} {W : World} {fuel : Nat} {cs : List Value} {z : DataW H × List MemPlace}
    (h : DataW.trod enc Try.prog W 0 (fun _ => true) true fuel 42 cs = some z) (hlt : ∀ y ∈ z.2, y.block < W.heap.size) :
    ∃ (y : QV) (q : Qt), cs = cellsQ (y, q) ∧ QAt W W.heap.size y q ∧ WideN q.name ∧ (Lit.int .i64 q.kind).wf = true ∧ (Lit.int .i64 q.cls).wf = true ∧ q.name.length ≤ y.2 := by
  obtain ⟨xs, k, _, hx, hcl, hxl, hfs⟩ := DataW.trod_struct Try.underlying42 h
  have hp : z.2 = xs.flatMap (·.2) := by simpa using congrArg Prod.snd hx
  have hin : ∀ z ∈ xs, ∀ y ∈ z.2, y.block < W.heap.size := fun z hz y hyz => hlt y (by rw [hp]; exact List.mem_flatMap.2 ⟨z, hz, hyz⟩)
  have hxl3 : xs.length = 3 := hxl
  have hc3 : cs.length = 3 := by rw [quest_cells] at hcl; exact hcl
  clear hx hp h hcl
  match cs, hc3, xs, hxl3, hfs, hin with
  | [c0, c1, c2], _, [y0, y1, y2], _, hfs, hin =>
    have g0 := hfs 0 _ rfl
    have g1 := hfs 1 _ rfl
    have g2 := hfs 2 _ rfl
    simp only [List.getElem?_cons_zero, List.getElem?_cons_succ] at g0 g1 g2
    obtain ⟨An, cn, n, e0, hRn, hn1, hn2, hn3⟩ := read_name str_cells g0 (hin y0 (by simp))
    obtain ⟨z1, e1, _, w1⟩ := DataW.trod_int Try.underlying3 g1
    obtain ⟨z2, e2, _, w2⟩ := DataW.trod_int Try.underlying3 g2
    cases e1
    cases e2
    subst e0
    exact ⟨(An, cn), ⟨n, z1, z2⟩, rfl, hRn, ⟨hn1, hn2⟩, w1, w2, hn3⟩

set_option maxRecDepth 20000 in
/-- A slice of things that take k cells each, as it is read, with its bulk. -/
theorem read_partsB {α : Type} (f : α → List Value) (k : Nat) (hf : ∀ p, (f p).length = k) (hk : 0 < k) (Q : World → Nat → α → Prop) {H : Type} {enc : TypeId × Value → H} {W : World} {fuel : Nat} {t e : TypeId} {cs0 : List Value} {z : DataW H × List MemPlace} {N : Nat}
    (ht : Try.prog.underlying t = some (.slice e)) (hce : Try.prog.cellsOf e = k) (hs : ∀ p : α, ∃ u, (f p)[0]? = some u)
    (hr : ∀ (fuel : Nat) (cs : List Value) (z : DataW H × List MemPlace), DataW.trod enc Try.prog W 0 (fun _ => true) true fuel e cs = some z → (∀ y ∈ z.2, y.block < W.heap.size) → Rows.uptoBulk z.1 ≤ N → ∃ p, cs = f p ∧ Q W W.heap.size p)
    (hf1 : DataW.trod enc Try.prog W 0 (fun _ => true) true fuel t cs0 = some z) (hlt : ∀ x ∈ z.2, x.block < W.heap.size) (hw : Rows.uptoBulk z.1 ≤ N) :
    ∃ (A : Option Addr) (c : Nat) (ps : List α), cs0 = [.slice A ps.length c] ∧ Row W W.heap.size A (ps.flatMap f) ∧ (∀ p ∈ ps, Q W W.heap.size p) ∧ ps.length ≤ c ∧ c ≤ maxLen ∧ ps.length ≤ N := by
  rcases Deep.open_slice ht hf1 with ⟨hcs, hx⟩ | ⟨a, len, cap, m, n, D, Pl, hcs, _, hl, hm, hmm, hx, hy⟩
  · exact ⟨none, 0, [], hcs, Row.empty _ _ _, fun p h => absurd h (List.not_mem_nil), Nat.zero_le _, Nat.zero_le _, Nat.zero_le _⟩
  · simp only [if_true] at hmm
    subst hmm
    subst hx
    subst hcs
    have hwl := bulk_len ((List.range len).map D)
    simp only [Rows.uptoBulk] at hw
    simp only [List.length_map, List.length_range] at hwl
    rw [hce] at hy hlt
    rcases Nat.eq_zero_or_pos len with rfl | hpos
    · exact ⟨some a, m, [], rfl, Row.empty _ _ _, fun p h => absurd h (List.not_mem_nil), Nat.zero_le _, hm, Nat.zero_le _⟩
    have each : ∀ i, i < len → ∃ y : α, (∀ j v, (f y)[j]? = some v → W.cell? (a.add (i * k + j)) = some v) ∧ Q W W.heap.size y := by
      intro i hi
      obtain ⟨cs, hc, hr1⟩ := hy i (by omega)
      obtain ⟨y, rfl, hq⟩ := hr _ _ _ hr1 (fun y hyz => hlt y (List.mem_append_right _ (List.mem_flatMap.2 ⟨i, List.mem_range.2 (by omega), hyz⟩)))
        (by
          have := bulk_in (List.mem_map.2 ⟨i, List.mem_range.2 hi, rfl⟩ : D i ∈ (List.range len).map D)
          show Rows.uptoBulk (D i) ≤ N
          omega)
      obtain ⟨_, _, hat⟩ := World.cells?_some hc
      refine ⟨y, fun j v hj => ?_, hq⟩
      have hjk : j < k := by
        have := (List.getElem?_eq_some_iff.1 hj).1
        rwa [hf] at this
      have := hat j hjk
      rw [hj, addr_add_add] at this
      exact this
    obtain ⟨y0, hy0, _⟩ := each 0 hpos
    obtain ⟨u0, hu0⟩ := hs y0
    obtain ⟨b, off, spot⟩ := a
    have hspot : spot = none := by
      have h := World.cell?_spot (hy0 0 _ hu0)
      simpa [Addr.add] using h
    subst hspot
    haveI : Inhabited α := ⟨y0⟩
    obtain ⟨Y, hY⟩ := Deep.choose_lt each
    have hnl : ((List.range len).map Y).length = len := by simp
    refine ⟨some ⟨b, off, none⟩, m, (List.range len).map Y, by rw [hnl], fun _ => ⟨b, off, rfl, hlt (.cell b off) (List.mem_append_left _ (MemPlace.mem_row.2 ⟨0, Nat.mul_pos (by omega) hk, by simp⟩)), fun j u hu => ?_⟩, fun p hp => ?_, by rw [hnl]; exact hl, hm, by rw [hnl]; omega⟩
    · have hj := (List.getElem?_eq_some_iff.1 hu).1
      rw [length_flat hf, hnl] at hj
      have hq : j / k < len := (Nat.div_lt_iff_lt_mul hk).2 hj
      have hr := Nat.mod_lt j hk
      have e : j = j / k * k + j % k := by rw [Nat.mul_comm]; exact (Nat.div_add_mod j k).symm
      have h1 := (hY (j / k) hq).1 (j % k) u
      rw [e, flat_get hf _ _ _ (by rw [hnl]; exact hq) hr] at hu
      rw [← e, addr_add] at h1
      exact h1 (by simpa using hu)
    · obtain ⟨i, hi, rfl⟩ := List.mem_map.1 hp
      exact (hY i (List.mem_range.1 hi)).2

/-- What is known of a message that came in. -/
structure MSafe (m : MV) : Prop where
  h : HIn m.h
  q : ∀ p ∈ m.qp, WideN p.2.name ∧ (Lit.int .i64 p.2.kind).wf = true ∧ (Lit.int .i64 p.2.cls).wf = true ∧ p.2.name.length ≤ p.1.2
  r : ∀ i, ∀ p ∈ (m.sec i).ps, RIn p.2 ∧ p.2.data.bytes.length ≤ 1048576
  n : m.qp.length ≤ 1048576 ∧ ∀ i, (m.sec i).ps.length ≤ 1048576
  c : m.qp.length ≤ m.qc ∧ m.qc ≤ maxLen ∧ ∀ i, (m.sec i).ps.length ≤ (m.sec i).c ∧ (m.sec i).c ≤ maxLen
theorem sec_all {m : MV} {P : Sec → Prop} (h0 : P m.s0) (h1 : P m.s1) (h2 : P m.s2) (i : Nat) : P (m.sec i) := by
  unfold MV.sec
  split
  · exact h0
  · split
    · exact h1
    · exact h2
theorem mem_all {m : MV} {r : Rt} (h : r ∈ m.msg.all) : ∃ i, ∃ p ∈ (m.sec i).ps, p.2 = r := by
  unfold Mt.all at h
  rcases List.mem_append.1 h with h4 | h4
  · obtain ⟨p, hp, e⟩ := List.mem_map.1 h4
    exact ⟨0, p, hp, e⟩
  · rcases List.mem_append.1 h4 with h4 | h4
    · obtain ⟨p, hp, e⟩ := List.mem_map.1 h4
      exact ⟨1, p, hp, e⟩
    · obtain ⟨p, hp, e⟩ := List.mem_map.1 h4
      exact ⟨2, p, hp, e⟩
theorem in_all {m : MV} {i : Nat} {p : RV × Rt} (h : p ∈ (m.sec i).ps) : p.2 ∈ m.msg.all := by
  unfold MV.sec at h
  unfold Mt.all
  split at h
  · exact List.mem_append_left _ (List.mem_map.2 ⟨p, h, rfl⟩)
  · split at h
    · exact List.mem_append_right _ (List.mem_append_left _ (List.mem_map.2 ⟨p, h, rfl⟩))
    · exact List.mem_append_right _ (List.mem_append_right _ (List.mem_map.2 ⟨p, h, rfl⟩))
theorem all_len (m : MV) : m.msg.all.length = m.s0.ps.length + (m.s1.ps.length + m.s2.ps.length) := by
  show (recs m.s0.ps ++ (recs m.s1.ps ++ recs m.s2.ps)).length = _
  rw [List.length_append, List.length_append, length_recs, length_recs, length_recs]
/-- A light one is small throughout. -/
theorem MSafe.small {m : MV} (h : MSafe m) (hl : LightM m.msg) : MIn m ∧ ∀ i, (m.sec i).ps.length ≤ 700 := by
  have h1 := all_len m
  have h2 := hl.n
  have h3 : ∀ i, (m.sec i).ps.length ≤ 700 := fun i => sec_all (P := fun s => s.ps.length ≤ 700) (by omega) (by omega) (by omega) i
  refine ⟨⟨h.h, fun p hp => ?_, fun i p hp => ⟨(h.r i p hp).1, hl.r _ (in_all hp)⟩, ?_, fun i => by have := h3 i; omega⟩, h3⟩
  · obtain ⟨a, b, c, _⟩ := h.q p hp
    exact ⟨a, b, c, hl.k _ (List.mem_map.2 ⟨p, hp, rfl⟩)⟩
  · have h4 := hl.q
    have h5 : m.msg.qs.length = m.qp.length := length_qsts _
    omega
theorem MSafe.light {m : MV} (h : MSafe m) (w : World) (hm : MAt w w.heap.size m) : Calls Try.prog 11 #[m.val] w (Gave w (.bool (lightM m.msg))) := by
  have h0 : m.s0.ps.length ≤ 1048576 := h.n.2 0
  have h1 : m.s1.ps.length ≤ 1048576 := h.n.2 1
  have h2 : m.s2.ps.length ≤ 1048576 := h.n.2 2
  have hq := h.n.1
  refine light_any w m hm (by omega) (by unfold maxLen; omega) (fun p hp => (h.q p hp).1.1) fun r hr => ?_
  obtain ⟨i, p, hp, rfl⟩ := mem_all hr
  have := (h.r i p hp).2
  omega

theorem MIn.same {m m' : MV} (h : m'.msg = m.msg) (hi : MIn m) : MIn m' := by
  unfold MV.msg at h
  injection h with h0 h1 h2 h3 h4
  have hs : ∀ i, recs (m'.sec i).ps = recs (m.sec i).ps := fun i => by
    unfold MV.sec
    split
    · exact h2
    · split
      · exact h3
      · exact h4
  refine ⟨by rw [h0]; exact hi.h, fun p hp => ?_, fun i p hp => ?_, ?_, fun i => ?_⟩
  · have h5 : p.2 ∈ qsts m.qp := by rw [← h1]; exact List.mem_map.2 ⟨p, hp, rfl⟩
    obtain ⟨p', hp', e⟩ := List.mem_map.1 h5
    rw [← e]
    exact hi.q p' hp'
  · have h5 : p.2 ∈ recs (m.sec i).ps := by rw [← hs i]; exact List.mem_map.2 ⟨p, hp, rfl⟩
    obtain ⟨p', hp', e⟩ := List.mem_map.1 h5
    rw [← e]
    exact hi.r i p' hp'
  · rw [← length_qsts, h1, length_qsts]
    exact hi.ql
  · rw [← length_recs, hs i, length_recs]
    exact hi.rl i
/-- A message's cells, one by one. -/
def Cells14 (W : World) (g : Nat) (h : Hd) (vq va vu vx : Value) : Prop :=
  W.cell? ⟨g, 0, none⟩ = some (.int .i64 h.id) ∧ W.cell? ⟨g, 1, none⟩ = some (.bool h.resp) ∧ W.cell? ⟨g, 2, none⟩ = some (.int .i64 h.op) ∧ W.cell? ⟨g, 3, none⟩ = some (.bool h.aa) ∧ W.cell? ⟨g, 4, none⟩ = some (.bool h.tc) ∧ W.cell? ⟨g, 5, none⟩ = some (.bool h.rd) ∧ W.cell? ⟨g, 6, none⟩ = some (.bool h.ra) ∧
    W.cell? ⟨g, 7, none⟩ = some (.int .i64 h.rc) ∧ W.cell? ⟨g, 8, none⟩ = some vq ∧ W.cell? ⟨g, 9, none⟩ = some va ∧ W.cell? ⟨g, 10, none⟩ = some vu ∧ W.cell? ⟨g, 11, none⟩ = some vx ∧ W.cell? ⟨g, 12, none⟩ = some (.bool h.edns) ∧ W.cell? ⟨g, 13, none⟩ = some (.int .i64 h.size)
theorem cells14 {W : World} {g : Nat} {h : Hd} {vq va vu vx : Value} (hw : Whole W g 25 (cellsM h vq va vu vx)) : Cells14 W g h vq va vu vx :=
  ⟨hw.cell 0, hw.cell 1, hw.cell 2, hw.cell 3, hw.cell 4, hw.cell 5, hw.cell 6, hw.cell 7, hw.cell 8, hw.cell 9, hw.cell 10, hw.cell 11, hw.cell 12, hw.cell 13⟩

theorem u16_nat {n : Int} (h : (Lit.int .u16 n).wf = true) : ∃ m : Nat, n = m ∧ m < 65536 := by
  have h1 : IntKind.u16.min = 0 := rfl
  have h2 : IntKind.u16.max = 65535 := rfl
  simp only [Lit.wf, Bool.and_eq_true, decide_eq_true_eq] at h
  exact ⟨n.toNat, by omega, by omega⟩
theorem msg_size : Try.prog.cellsOf 25 = 14 := by kernel_rfl

set_option maxRecDepth 20000 in
set_option maxHeartbeats 1000000 in
theorem open_msg {H : Type} {enc : TypeId × Value → H} {W : World} {base : Nat} {v : Value} {d : DataW H} {p : List MemPlace}
    (hval : Value.okWide Try.prog W .any base 25 v) (h : DataW.Trod enc Try.prog W 0 (fun _ => true) true 25 v d p) (hlt : ∀ x ∈ p, x.block < W.heap.size) (hk : Rows.uptoBulk d ≤ 1048576) :
    ∃ m : MV, v = m.val ∧ MAt W W.heap.size m ∧ MSafe m := by
  unfold Value.okWide at hval
  rw [Try.underlying25] at hval
  obtain ⟨cs0, rfl, hsz, _⟩ := hval
  obtain ⟨fuel, hf⟩ := h
  obtain ⟨xs, k, _, hx, hcl, hxl, hfs⟩ := DataW.trod_struct Try.underlying25 hf
  obtain ⟨cs⟩ := cs0
  simp only [Value.cells] at hf hcl hfs
  have hp : p = xs.flatMap (·.2) := by simpa using congrArg Prod.snd hx
  have hd : d = .agg (xs.map (·.1)) := by simpa using congrArg Prod.fst hx
  have hin : ∀ z ∈ xs, ∀ y ∈ z.2, y.block < W.heap.size := fun z hz y hyz => hlt y (by rw [hp]; exact List.mem_flatMap.2 ⟨z, hz, hyz⟩)
  have hbk : ∀ z ∈ xs, Rows.uptoBulk z.1 ≤ 1048576 := fun z hz => by
    have h1 := bulk_in (List.mem_map.2 ⟨z, hz, rfl⟩ : z.1 ∈ xs.map (·.1))
    rw [hd] at hk
    simp only [Rows.uptoBulk] at hk
    omega
  have hxl14 : xs.length = 14 := hxl
  have hc14 : cs.length = 14 := by rw [msg_size] at hcl; simpa using hcl
  clear hx hp hf hcl hsz hd hk hlt
  match cs, hc14, xs, hxl14, hfs, hin, hbk with
  | [c0, c1, c2, c3, c4, c5, c6, c7, c8, c9, c10, c11, c12, c13], _, [y0, y1, y2, y3, y4, y5, y6, y7, y8, y9, y10, y11, y12, y13], _, hfs, hin, hbk =>
    have g0 := hfs 0 _ rfl
    have g1 := hfs 1 _ rfl
    have g2 := hfs 2 _ rfl
    have g3 := hfs 3 _ rfl
    have g4 := hfs 4 _ rfl
    have g5 := hfs 5 _ rfl
    have g6 := hfs 6 _ rfl
    have g7 := hfs 7 _ rfl
    have g8 := hfs 8 _ rfl
    have g9 := hfs 9 _ rfl
    have g10 := hfs 10 _ rfl
    have g11 := hfs 11 _ rfl
    have g12 := hfs 12 _ rfl
    have g13 := hfs 13 _ rfl
    simp only [List.getElem?_cons_zero, List.getElem?_cons_succ] at g0 g1 g2 g3 g4 g5 g6 g7 g8 g9 g10 g11 g12 g13
    obtain ⟨z0, e0, _, w0⟩ := DataW.trod_int Try.underlying3 g0
    obtain ⟨z1, e1, _⟩ := DataW.trod_bool Try.underlying4 g1
    obtain ⟨z2, e2, _, w2⟩ := DataW.trod_int Try.underlying3 g2
    obtain ⟨z3, e3, _⟩ := DataW.trod_bool Try.underlying4 g3
    obtain ⟨z4, e4, _⟩ := DataW.trod_bool Try.underlying4 g4
    obtain ⟨z5, e5, _⟩ := DataW.trod_bool Try.underlying4 g5
    obtain ⟨z6, e6, _⟩ := DataW.trod_bool Try.underlying4 g6
    obtain ⟨z7, e7, _, w7⟩ := DataW.trod_int Try.underlying3 g7
    obtain ⟨z12, e12, _⟩ := DataW.trod_bool Try.underlying4 g12
    obtain ⟨z13, e13, _, w13⟩ := DataW.trod_int Try.underlying3 g13
    obtain ⟨qA, qc, qp, e8, hq1, hq2, hq3, hq4, hq5⟩ := read_partsB cellsQ 3 cellsQ_len (by omega) (fun W H p => QAt W H p.1 p.2 ∧ WideN p.2.name ∧ (Lit.int .i64 p.2.kind).wf = true ∧ (Lit.int .i64 p.2.cls).wf = true ∧ p.2.name.length ≤ p.1.2) Try.underlying22 quest_cells (fun p => ⟨_, rfl⟩)
      (fun fuel cs z hz hlz _ => by
        obtain ⟨x, r, e, h1⟩ := read_question hz hlz
        exact ⟨(x, r), e, h1⟩) g8 (hin y8 (by simp)) (hbk y8 (by simp))
    have hrd : ∀ (fuel : Nat) (cs : List Value) (z : DataW H × List MemPlace), DataW.trod enc Try.prog W 0 (fun _ => true) true fuel 48 cs = some z → (∀ y ∈ z.2, y.block < W.heap.size) → Rows.uptoBulk z.1 ≤ 1048576 → ∃ p : RV × Rt, cs = cellsR p ∧ (RAt W W.heap.size p.1 p.2 ∧ RIn p.2 ∧ p.2.data.bytes.length ≤ 1048576) := fun fuel cs z hz hlz hb => by
      obtain ⟨x, r, e, h1, h2⟩ := read_rr hz hlz
      subst e
      exact ⟨(x, r), rfl, h1, h2, Nat.le_trans (rr_bulk hz) hb⟩
    obtain ⟨A0, a0, p0, e9, r01, r02, r03, r04, r05⟩ := read_partsB cellsR 9 cellsR_len (by omega) (fun W H p => RAt W H p.1 p.2 ∧ RIn p.2 ∧ p.2.data.bytes.length ≤ 1048576) Try.underlying23 rr_cells (fun p => ⟨_, rfl⟩) hrd g9 (hin y9 (by simp)) (hbk y9 (by simp))
    obtain ⟨A1, a1, p1, e10, r11, r12, r13, r14, r15⟩ := read_partsB cellsR 9 cellsR_len (by omega) (fun W H p => RAt W H p.1 p.2 ∧ RIn p.2 ∧ p.2.data.bytes.length ≤ 1048576) Try.underlying23 rr_cells (fun p => ⟨_, rfl⟩) hrd g10 (hin y10 (by simp)) (hbk y10 (by simp))
    obtain ⟨A2, a2, p2, e11, r21, r22, r23, r24, r25⟩ := read_partsB cellsR 9 cellsR_len (by omega) (fun W H p => RAt W H p.1 p.2 ∧ RIn p.2 ∧ p.2.data.bytes.length ≤ 1048576) Try.underlying23 rr_cells (fun p => ⟨_, rfl⟩) hrd g11 (hin y11 (by simp)) (hbk y11 (by simp))
    cases e0; cases e1; cases e2; cases e3; cases e4; cases e5; cases e6; cases e7; cases e8; cases e9; cases e10; cases e11; cases e12; cases e13
    refine ⟨⟨⟨z0, z1, z2, z3, z4, z5, z6, z7, z12, z13⟩, qA, qc, qp, ⟨A0, a0, p0⟩, ⟨A1, a1, p1⟩, ⟨A2, a2, p2⟩⟩, rfl, ⟨⟨hq1, fun p hp => (hq2 p hp).1⟩, ⟨r01, fun p hp => (r02 p hp).1⟩, ⟨r11, fun p hp => (r12 p hp).1⟩, ⟨r21, fun p hp => (r22 p hp).1⟩⟩, ⟨⟨w0, w2, w7, w13⟩, fun p hp => (hq2 p hp).2, fun i => ?_, ⟨hq5, fun i => ?_⟩, ⟨hq3, hq4, fun i => ?_⟩⟩⟩
    · exact sec_all (P := fun s => ∀ p ∈ s.ps, RIn p.2 ∧ p.2.data.bytes.length ≤ 1048576) (fun p hp => (r02 p hp).2) (fun p hp => (r12 p hp).2) (fun p hp => (r22 p hp).2) i
    · exact sec_all (P := fun s => s.ps.length ≤ 1048576) r05 r15 r25 i
    · exact sec_all (P := fun s => s.ps.length ≤ s.c ∧ s.c ≤ maxLen) ⟨r03, r04⟩ ⟨r13, r14⟩ ⟨r23, r24⟩ i

end Go.Proofs.Ytjkjhpaeckkpjaa

namespace Go.Proofs.Ytjkjhpaeckkpjaa
open Go.RowKit

def Sec.upto (s : Sec) (k : Nat) : Sec := ⟨s.A, min k s.ps.length, s.ps.take k⟩
/-- The message with the first n of its records alone. -/
def MV.first (m : MV) (n : Nat) : MV :=
  ⟨{ m.h with tc := m.h.tc || decide (n < m.s0.ps.length + m.s1.ps.length) }, m.qA, m.qc, m.qp, m.s0.upto n, m.s1.upto (n - m.s0.ps.length), m.s2.upto (n - m.s0.ps.length - m.s1.ps.length)⟩
theorem Sec.upto_v (s : Sec) (k : Nat) : (s.upto k).v = .slice s.A (min k s.ps.length) (min k s.ps.length) := by
  show Value.slice s.A (s.ps.take k).length (min k s.ps.length) = _
  rw [List.length_take]
theorem upto_at {w : World} {H : Nat} {s : Sec} (h : RsAt w H s.A s.ps) (k : Nat) : RsAt w H (s.upto k).A (s.upto k).ps := by
  refine ⟨?_, fun p hp => h.2 p (List.mem_of_mem_take hp)⟩
  have h1 := h.1.take (k * 9)
  have e : (s.ps.flatMap cellsR).take (k * 9) = (s.ps.take k).flatMap cellsR := by
    have hsplit : s.ps.flatMap cellsR = (s.ps.take k).flatMap cellsR ++ (s.ps.drop k).flatMap cellsR := by
      rw [← List.flatMap_append, List.take_append_drop]
    rcases Nat.le_total k s.ps.length with h2 | h2
    · have h3 : ((s.ps.take k).flatMap cellsR).length = k * 9 := by rw [length_flat cellsR_len, List.length_take, Nat.min_eq_left h2]
      rw [hsplit, ← h3, List.take_left]
    · rw [List.take_of_length_le h2, List.take_of_length_le (by rw [length_flat cellsR_len]; omega)]
  rwa [e] at h1
theorem first_at {w : World} {H : Nat} {m : MV} (h : MAt w H m) (n : Nat) : MAt w H (m.first n) := ⟨h.q, upto_at h.s0 _, upto_at h.s1 _, upto_at h.s2 _⟩
/-- What is left of n behind j lists. -/
def leftN (n a0 a1 a2 : Nat) : Nat → Nat
  | 0 => n
  | 1 => n - a0
  | 2 => n - a0 - a1
  | _ => n - a0 - a1 - a2
theorem if_min (r l : Nat) : (if l < r then (l : Int) else (r : Int)) = ((min r l : Nat) : Int) := by
  rcases Nat.lt_or_ge l r with h | h
  · rw [if_pos h, Nat.min_eq_right (Nat.le_of_lt h)]
  · rw [if_neg (by omega), Nat.min_eq_left h]
def cutV (A : Option Addr) (len c k : Nat) (done : Bool) : Value := if done = true then .slice A (min k len) (min k len) else .slice A len c
def FirstRel (w : World) (h : Hd) (vq : Value) (A0 A1 A2 : Option Addr) (a0 a1 a2 k0 k1 k2 n : Nat) (vn vi : Value) (wr : World) : Prop :=
  ∃ j : Nat, j ≤ 3 ∧ vi = .int .i64 j ∧ vn = .int .i64 (leftN n a0 a1 a2 j : Nat) ∧
    Whole wr w.heap.size 25 (cellsM h vq (cutV A0 a0 k0 n (decide (0 < j))) (cutV A1 a1 k1 (n - a0) (decide (1 < j))) (cutV A2 a2 k2 (n - a0 - a1) (decide (2 < j)))) ∧
    Whole wr (w.heap.size + 1) 25 [.int .i64 0, .bool false, .int .i64 0, .bool false, .bool false, .bool false, .bool false, .int .i64 0, .slice none 0 0, .slice none 0 0, .slice none 0 0, .slice none 0 0, .bool false, .int .i64 0] ∧
    Whole wr (w.heap.size + 1 + 1) 62 [.pointer (some ⟨w.heap.size, 9, none⟩), .pointer (some ⟨w.heap.size, 10, none⟩), .pointer (some ⟨w.heap.size, 11, none⟩)] ∧ Below w.heap.size w wr

set_option maxRecDepth 20000 in
set_option maxHeartbeats 4000000 in
theorem first_core (w : World) (n : Nat) (h : Hd) (qA : Option Addr) (qc : Nat) (qp : List (QV × Qt)) (A0 A1 A2 : Option Addr) (k0 k1 k2 : Nat) (p0 p1 p2 : List (RV × Rt)) (hn : n ≤ 100000) (l0 : p0.length ≤ 1000) (l1 : p1.length ≤ 1000) (l2 : p2.length ≤ 1000) (c0 : p0.length ≤ k0) (c1 : p1.length ≤ k1) (c2 : p2.length ≤ k2) :
    Calls Try.prog 47 #[valM h (.slice qA qp.length qc) (.slice A0 p0.length k0) (.slice A1 p1.length k1) (.slice A2 p2.length k2), .int .i64 n] w
      (Gave w (valM { h with tc := h.tc || decide (n < p0.length + p1.length) } (.slice qA qp.length qc) (.slice A0 (min n p0.length) (min n p0.length)) (.slice A1 (min (n - p0.length) p1.length) (min (n - p0.length) p1.length)) (.slice A2 (min (n - p0.length - p1.length) p2.length) (min (n - p0.length - p1.length) p2.length)))) := by
  obtain ⟨tb, htb⟩ : ∃ tb, decide (n < p0.length + p1.length) = tb := ⟨_, rfl⟩
  have d0 : decide ((n : Int) < (p0.length : Int) + (p1.length : Int)) = tb := by
    rw [← htb]
    by_cases ht : n < p0.length + p1.length
    · rw [decide_eq_true ht, decide_eq_true (by omega)]
    · rw [decide_eq_false ht, decide_eq_false (by omega)]
  rw [htb]
  go_enter Try.func47, Try.ntmps47
  go_upto_if 16 with fail
  go_cut [] from 17 to 17 (fun wx => wx = (w.alloc (.cells #[.int .i64 h.id, .bool h.resp, .int .i64 h.op, .bool h.aa, .bool (h.tc || tb), .bool h.rd, .bool h.ra, .int .i64 h.rc, .slice qA qp.length qc, .slice A0 p0.length k0, .slice A1 p1.length k1, .slice A2 p2.length k2, .bool h.edns, .int .i64 h.size] 25)).alloc (.cells #[.int .i64 0, .bool false, .int .i64 0, .bool false, .bool false, .bool false, .bool false, .int .i64 0, .slice none 0 0, .slice none 0 0, .slice none 0 0, .slice none 0 0, .bool false, .int .i64 0] 25))
  case first =>
    clear d0 htb
    cases tb with
    | true =>
      go_wp2
      go_meet
      rw [Bool.or_true]
    | false =>
      go_wp2
      go_meet
      rw [Bool.or_false]
  case rest =>
    subst hcut
    clear htb d0
    go_wp2
    go_loopw [1, 23] (FirstRel w { h with tc := h.tc || tb } (.slice qA qp.length qc) A0 A1 A2 p0.length p1.length p2.length k0 k1 k2 n) (fun _ i _ => 3 - (intOf i).toNat)
    case atStart =>
      refine ⟨0, by omega, rfl, rfl, ?_, ?_, ?_, (((Below.refl _ _).alloc (Nat.le_refl _) _).alloc (by simp) _).alloc (by simp; omega) _⟩
      · exact ((Whole.made w (cellsM { h with tc := h.tc || tb } (.slice qA qp.length qc) (.slice A0 p0.length k0) (.slice A1 p1.length k1) (.slice A2 p2.length k2)) _).alloc _).alloc _
      · have h1 := Whole.made (w.alloc (.cells (cellsM { h with tc := h.tc || tb } (.slice qA qp.length qc) (.slice A0 p0.length k0) (.slice A1 p1.length k1) (.slice A2 p2.length k2)).toArray 25)) [.int .i64 0, .bool false, .int .i64 0, .bool false, .bool false, .bool false, .bool false, .int .i64 0, .slice none 0 0, .slice none 0 0, .slice none 0 0, .slice none 0 0, .bool false, .int .i64 0] 25
        rw [show (w.alloc (.cells (cellsM { h with tc := h.tc || tb } (.slice qA qp.length qc) (.slice A0 p0.length k0) (.slice A1 p1.length k1) (.slice A2 p2.length k2)).toArray 25)).heap.size = w.heap.size + 1 by simp] at h1
        exact h1.alloc _
      · have h1 := Whole.made ((w.alloc (.cells (cellsM { h with tc := h.tc || tb } (.slice qA qp.length qc) (.slice A0 p0.length k0) (.slice A1 p1.length k1) (.slice A2 p2.length k2)).toArray 25)).alloc (.cells [.int .i64 0, .bool false, .int .i64 0, .bool false, .bool false, .bool false, .bool false, .int .i64 0, .slice none 0 0, .slice none 0 0, .slice none 0 0, .slice none 0 0, .bool false, .int .i64 0].toArray 25)) [.pointer (some ⟨w.heap.size, 9, none⟩), .pointer (some ⟨w.heap.size, 10, none⟩), .pointer (some ⟨w.heap.size, 11, none⟩)] 62
        rw [show ((w.alloc (.cells (cellsM { h with tc := h.tc || tb } (.slice qA qp.length qc) (.slice A0 p0.length k0) (.slice A1 p1.length k1) (.slice A2 p2.length k2)).toArray 25)).alloc (.cells [.int .i64 0, .bool false, .int .i64 0, .bool false, .bool false, .bool false, .bool false, .int .i64 0, .slice none 0 0, .slice none 0 0, .slice none 0 0, .slice none 0 0, .bool false, .int .i64 0].toArray 25)).heap.size = w.heap.size + 1 + 1 by simp] at h1
        exact h1
    case round =>
    obtain ⟨j, hj, rfl, rfl, hw, hz, hp, hb⟩ := hrel
    have HW := Lib.hid hw
    have HZ := Lib.hid hz
    have HPP := Lib.hid hp
    have HB := Lib.hid hb
    rcases (show j = 0 ∨ j = 1 ∨ j = 2 ∨ j = 3 by omega) with rfl | rfl | rfl | rfl
    case inl =>
      obtain ⟨r, hr⟩ : ∃ r : Nat, r = n := ⟨_, rfl⟩
      rw [show leftN n p0.length p1.length p2.length 0 = r from hr.symm]
      have hrn : r ≤ 100000 := by omega
      have HR := Lib.hid hr
      have q0 : wr.cell? ⟨w.heap.size, 9, none⟩ = some (.slice A0 p0.length k0) := hw.cell 9
      have f0 : wr.frozen? ⟨w.heap.size, 9, none⟩ = false := hw.frozen 9
      have z0 : wr.cell? ⟨w.heap.size + 1 + 1, 0, none⟩ = some (.pointer (some ⟨w.heap.size, 9, none⟩)) := hp.cell 0
      clear hw hz hp hb hr
      go_wp2
      rw [if_min, Int.toNat_natCast]
      refine ⟨⟨1, by omega, rfl, ?_, ?_, ?_, ?_, HB.out.setCell (p := ⟨w.heap.size, 9, none⟩) (Nat.le_refl _) _⟩, by simp [intOf]⟩
      · rw [show leftN n p0.length p1.length p2.length 1 = r - p0.length by rw [HR.out]; rfl]
        congr 1
        omega
      · have h1 := HW.out.set_ 9 (.slice A0 (min r p0.length) (min r p0.length))
        rw [HR.out] at h1 ⊢
        exact h1
      · exact HZ.out.keep (Below.heap_setCell wr ⟨w.heap.size, 9, none⟩ _ _ (by dsimp only; omega))
      · exact HPP.out.keep (Below.heap_setCell wr ⟨w.heap.size, 9, none⟩ _ _ (by dsimp only; omega))
    case inr.inl =>
      obtain ⟨r, hr⟩ : ∃ r : Nat, r = n - p0.length := ⟨_, rfl⟩
      rw [show leftN n p0.length p1.length p2.length 1 = r from hr.symm]
      have hrn : r ≤ 100000 := by omega
      have HR := Lib.hid hr
      have q0 : wr.cell? ⟨w.heap.size, 10, none⟩ = some (.slice A1 p1.length k1) := hw.cell 10
      have f0 : wr.frozen? ⟨w.heap.size, 10, none⟩ = false := hw.frozen 10
      have z0 : wr.cell? ⟨w.heap.size + 1 + 1, 1, none⟩ = some (.pointer (some ⟨w.heap.size, 10, none⟩)) := hp.cell 1
      clear hw hz hp hb hr
      go_wp2
      rw [if_min, Int.toNat_natCast]
      refine ⟨⟨2, by omega, rfl, ?_, ?_, ?_, ?_, HB.out.setCell (p := ⟨w.heap.size, 10, none⟩) (Nat.le_refl _) _⟩, by simp [intOf]⟩
      · rw [show leftN n p0.length p1.length p2.length 2 = r - p1.length by rw [HR.out]; rfl]
        congr 1
        omega
      · have h1 := HW.out.set_ 10 (.slice A1 (min r p1.length) (min r p1.length))
        rw [HR.out] at h1 ⊢
        exact h1
      · exact HZ.out.keep (Below.heap_setCell wr ⟨w.heap.size, 10, none⟩ _ _ (by dsimp only; omega))
      · exact HPP.out.keep (Below.heap_setCell wr ⟨w.heap.size, 10, none⟩ _ _ (by dsimp only; omega))
    case inr.inr.inl =>
      obtain ⟨r, hr⟩ : ∃ r : Nat, r = n - p0.length - p1.length := ⟨_, rfl⟩
      rw [show leftN n p0.length p1.length p2.length 2 = r from hr.symm]
      have hrn : r ≤ 100000 := by omega
      have HR := Lib.hid hr
      have q0 : wr.cell? ⟨w.heap.size, 11, none⟩ = some (.slice A2 p2.length k2) := hw.cell 11
      have f0 : wr.frozen? ⟨w.heap.size, 11, none⟩ = false := hw.frozen 11
      have z0 : wr.cell? ⟨w.heap.size + 1 + 1, 2, none⟩ = some (.pointer (some ⟨w.heap.size, 11, none⟩)) := hp.cell 2
      clear hw hz hp hb hr
      go_wp2
      rw [if_min, Int.toNat_natCast]
      refine ⟨⟨3, by omega, rfl, ?_, ?_, ?_, ?_, HB.out.setCell (p := ⟨w.heap.size, 11, none⟩) (Nat.le_refl _) _⟩, by simp [intOf]⟩
      · rw [show leftN n p0.length p1.length p2.length 3 = r - p2.length by rw [HR.out]; rfl]
        congr 1
        omega
      · have h1 := HW.out.set_ 11 (.slice A2 (min r p2.length) (min r p2.length))
        rw [HR.out] at h1 ⊢
        exact h1
      · exact HZ.out.keep (Below.heap_setCell wr ⟨w.heap.size, 11, none⟩ _ _ (by dsimp only; omega))
      · exact HPP.out.keep (Below.heap_setCell wr ⟨w.heap.size, 11, none⟩ _ _ (by dsimp only; omega))
    case inr.inr.inr =>
      have q0 : wr.cell? ⟨w.heap.size, 0, none⟩ = some (.int .i64 h.id) := hw.cell 0
      have q1 : wr.cell? ⟨w.heap.size, 1, none⟩ = some (.bool h.resp) := hw.cell 1
      have q2 : wr.cell? ⟨w.heap.size, 2, none⟩ = some (.int .i64 h.op) := hw.cell 2
      have q3 : wr.cell? ⟨w.heap.size, 3, none⟩ = some (.bool h.aa) := hw.cell 3
      have q4 : wr.cell? ⟨w.heap.size, 4, none⟩ = some (.bool (h.tc || tb)) := hw.cell 4
      have q5 : wr.cell? ⟨w.heap.size, 5, none⟩ = some (.bool h.rd) := hw.cell 5
      have q6 : wr.cell? ⟨w.heap.size, 6, none⟩ = some (.bool h.ra) := hw.cell 6
      have q7 : wr.cell? ⟨w.heap.size, 7, none⟩ = some (.int .i64 h.rc) := hw.cell 7
      have q8 : wr.cell? ⟨w.heap.size, 8, none⟩ = some (.slice qA qp.length qc) := hw.cell 8
      have q9 : wr.cell? ⟨w.heap.size, 9, none⟩ = some (.slice A0 (min n p0.length) (min n p0.length)) := hw.cell 9
      have q10 : wr.cell? ⟨w.heap.size, 10, none⟩ = some (.slice A1 (min (n - p0.length) p1.length) (min (n - p0.length) p1.length)) := hw.cell 10
      have q11 : wr.cell? ⟨w.heap.size, 11, none⟩ = some (.slice A2 (min (n - p0.length - p1.length) p2.length) (min (n - p0.length - p1.length) p2.length)) := hw.cell 11
      have q12 : wr.cell? ⟨w.heap.size, 12, none⟩ = some (.bool h.edns) := hw.cell 12
      have q13 : wr.cell? ⟨w.heap.size, 13, none⟩ = some (.int .i64 h.size) := hw.cell 13
      clear hw hz hp hb
      go_wp2_with (
        refine wpList_storeM (w.heap.size + 1) 4 45 { h with tc := h.tc || tb } qA A0 A1 A2 qp.length qc (min n p0.length) (min n p0.length) (min (n - p0.length) p1.length) (min (n - p0.length) p1.length) (min (n - p0.length - p1.length) p2.length) (min (n - p0.length - p1.length) p2.length) _ rfl rfl rfl rfl HZ.out rfl ?_
        intro V hWV hbv hhv hvs
        have v0 : V.cell? ⟨w.heap.size + 1, 0, none⟩ = some (.int .i64 h.id) := Whole.cell hWV 0
        have v1 : V.cell? ⟨w.heap.size + 1, 1, none⟩ = some (.bool h.resp) := Whole.cell hWV 1
        have v2 : V.cell? ⟨w.heap.size + 1, 2, none⟩ = some (.int .i64 h.op) := Whole.cell hWV 2
        have v3 : V.cell? ⟨w.heap.size + 1, 3, none⟩ = some (.bool h.aa) := Whole.cell hWV 3
        have v4 : V.cell? ⟨w.heap.size + 1, 4, none⟩ = some (.bool (h.tc || tb)) := Whole.cell hWV 4
        have v5 : V.cell? ⟨w.heap.size + 1, 5, none⟩ = some (.bool h.rd) := Whole.cell hWV 5
        have v6 : V.cell? ⟨w.heap.size + 1, 6, none⟩ = some (.bool h.ra) := Whole.cell hWV 6
        have v7 : V.cell? ⟨w.heap.size + 1, 7, none⟩ = some (.int .i64 h.rc) := Whole.cell hWV 7
        have v8 : V.cell? ⟨w.heap.size + 1, 8, none⟩ = some (.slice qA qp.length qc) := Whole.cell hWV 8
        have v9 : V.cell? ⟨w.heap.size + 1, 9, none⟩ = some (.slice A0 (min n p0.length) (min n p0.length)) := Whole.cell hWV 9
        have v10 : V.cell? ⟨w.heap.size + 1, 10, none⟩ = some (.slice A1 (min (n - p0.length) p1.length) (min (n - p0.length) p1.length)) := Whole.cell hWV 10
        have v11 : V.cell? ⟨w.heap.size + 1, 11, none⟩ = some (.slice A2 (min (n - p0.length - p1.length) p2.length) (min (n - p0.length - p1.length) p2.length)) := Whole.cell hWV 11
        have v12 : V.cell? ⟨w.heap.size + 1, 12, none⟩ = some (.bool h.edns) := Whole.cell hWV 12
        have v13 : V.cell? ⟨w.heap.size + 1, 13, none⟩ = some (.int .i64 h.size) := Whole.cell hWV 13
        have HBV := Lib.hid (HB.out.trans (hbv.mono (Nat.le_succ _)))
        clear hWV hbv hhv hvs)
      refine ⟨rfl, valM { h with tc := h.tc || tb } (.slice qA qp.length qc) (.slice A0 (min n p0.length) (min n p0.length)) (.slice A1 (min (n - p0.length) p1.length) (min (n - p0.length) p1.length)) (.slice A2 (min (n - p0.length - p1.length) p2.length) (min (n - p0.length - p1.length) p2.length)), ?_, rfl, HBV.out⟩
      simp [results, Try.results47, go_sem, v0, v1, v2, v3, v4, v5, v6, v7, v8, v9, v10, v11, v12, v13]
theorem first_any (w : World) (m : MV) (n : Nat) (hn : n ≤ 100000) (hl : ∀ i, (m.sec i).ps.length ≤ 1000) (hc : ∀ i, (m.sec i).ps.length ≤ (m.sec i).c) :
    Calls Try.prog 47 #[m.val, .int .i64 n] w (Gave w (m.first n).val) := by
  obtain ⟨h, qA, qc, qp, ⟨A0, k0, p0⟩, ⟨A1, k1, p1⟩, ⟨A2, k2, p2⟩⟩ := m
  have h1 := first_core w n h qA qc qp A0 A1 A2 k0 k1 k2 p0 p1 p2 hn (hl 0) (hl 1) (hl 2) (hc 0) (hc 1) (hc 2)
  have e0 := Sec.upto_v ⟨A0, k0, p0⟩ n
  have e1 := Sec.upto_v ⟨A1, k1, p1⟩ (n - p0.length)
  have e2 := Sec.upto_v ⟨A2, k2, p2⟩ (n - p0.length - p1.length)
  unfold MV.first
  dsimp only at e0 e1 e2 ⊢
  unfold MV.val
  dsimp only
  rw [e0, e1, e2]
  exact h1

end Go.Proofs.Ytjkjhpaeckkpjaa

namespace Go.Proofs.Ytjkjhpaeckkpjaa
open Go.RowKit

/-- r is the first of n places at which f says yes; n, if there is none. -/
structure FirstYes (f : Nat → Bool) (n r : Nat) : Prop where
  le : r ≤ n
  no : ∀ i, i < r → f i = false
  yes : r < n → f r = true
def SearchRel (w : World) (f : Nat → Bool) (n : Nat) (vi vj : Value) (wr : World) : Prop :=
  ∃ i j : Nat, i ≤ j ∧ j ≤ n ∧ vi = .int .i64 i ∧ vj = .int .i64 j ∧ (∀ x, x < i → f x = false) ∧ (j < n → f j = true) ∧ Below w.heap.size w wr

set_option maxRecDepth 20000 in
set_option maxHeartbeats 4000000 in
theorem search_any (w : World) (v1 v2 : Value) (f : Nat → Bool) (n : Nat) (hn : n ≤ 100000) (hf : ∀ (i : Nat) (W' : World), i < n → Below w.heap.size w W' → Calls Try.prog 72 #[.int .i64 i, v1, v2] W' (Gave W' (.bool (f i))))
    (hmono : ∀ a b, a ≤ b → b < n → f a = true → f b = true) :
    Calls Try.prog 71 #[.int .i64 n, .func (.func 72) #[] #[v1, v2]] w (fun e w' => Below w.heap.size w w' ∧ ∃ r : Nat, e = .returned (.int .i64 r) ∧ FirstYes f n r) := by
  have HF := Lib.hid hf
  have HM := Lib.hid hmono
  clear hf hmono
  go_enter Try.func71, Try.ntmps71
  go_wp2
  go_loopw [5, 6] (SearchRel w f n) (fun i j _ => (intOf j).toNat - (intOf i).toNat)
  case atStart => exact ⟨0, n, Nat.zero_le _, Nat.le_refl _, rfl, rfl, fun x h => absurd h (Nat.not_lt_zero _), fun h => absurd h (Nat.lt_irrefl _), Below.refl _ _⟩
  case round =>
  obtain ⟨i, j, hij, hjn, rfl, rfl, hno, hyes, hb⟩ := hrel
  have HNO := Lib.hid hno
  have HYES := Lib.hid hyes
  have HB := Lib.hid hb
  clear hno hyes hb
  by_cases hlt : i < j
  · obtain ⟨h, hh⟩ : ∃ h : Nat, h = (i + j) / 2 := ⟨_, rfl⟩
    have hi : i ≤ h := by omega
    have hj : h < j := by omega
    have hc : ((i : Int) + (j : Int)) / 2 = ((h : Nat) : Int) := by omega
    have HH := Lib.hid hh
    clear hh
    go_wp2_with fail
    refine (HF.out h _ (by omega) HB.out).mono ?_
    rintro e w1 ⟨rfl, hb1⟩
    have HB1 := Lib.hid (HB.out.trans (hb1.mono HB.out.size))
    clear hb1 hc
    cases hfh : f h with
    | false =>
      have HN1 := Lib.hid (show ∀ x, x < h + 1 → f x = false from fun x hx => by
        cases hfx : f x with
        | false => rfl
        | true =>
          have h1 := HM.out x h (by omega) (by omega) hfx
          rw [hfh] at h1
          cases h1)
      clear hfh
      go_wp2
      exact ⟨⟨h + 1, j, by omega, hjn, by go_num, rfl, HN1.out, HYES.out, HB1.out⟩, by simp [intOf]; omega⟩
    | true =>
      have HY1 := Lib.hid (show h < n → f h = true from fun _ => hfh)
      clear hfh
      go_wp2
      exact ⟨⟨i, h, hi, by omega, rfl, rfl, HNO.out, HY1.out, HB1.out⟩, by simp [intOf]; omega⟩
  · obtain rfl : i = j := by omega
    go_wp2
    go_ret
    exact ⟨HB.out, i, rfl, hjn, HNO.out, HYES.out⟩

end Go.Proofs.Ytjkjhpaeckkpjaa

namespace Go.Proofs.Ytjkjhpaeckkpjaa
open Go.RowKit

theorem getR_grow (Y b : List UInt8) (p q x : Nat) (n : List (List UInt8)) : ∀ {m : List (List UInt8)} {e : Nat}, getR b p q x n = (m, e, 0) → getR (b ++ Y) p q x n = (m, e, 0) := by
  induction p, q, x, n using getR.induct (b := b) with
  | case1 p q x n h0 h1 =>
    intro m e h
    rw [getR, dif_pos h0, if_pos h1] at h
    rw [getR, dif_pos (by simp; omega), if_pos (by rw [List.getElem_append_left h0]; exact h1)]
    exact h
  | case2 p q x n h0 h1 h2 h3 h4 ih =>
    intro m e h
    rw [getR, dif_pos h0, if_neg h1, if_pos h2, dif_pos h3, if_pos h4] at h
    have g := ih h
    rw [getR, dif_pos (by simp; omega)]
    simp only [List.getElem_append_left h0]
    rw [if_neg h1, if_pos h2, dif_pos (by simp; omega)]
    simp only [List.getElem_append_left h3]
    rw [if_pos h4]
    exact g
  | case3 p q x n h0 h1 h2 h3 h4 =>
    intro m e h
    rw [getR, dif_pos h0, if_neg h1, if_pos h2, dif_pos h3, if_neg h4] at h
    simp at h
  | case4 p q x n h0 h1 h2 h3 =>
    intro m e h
    rw [getR, dif_pos h0, if_neg h1, if_pos h2, dif_neg h3] at h
    simp at h
  | case5 p q x n h0 h1 h2 h3 =>
    intro m e h
    rw [getR, dif_pos h0, if_neg h1, if_neg h2, if_pos h3] at h
    simp at h
  | case6 p q x n h0 h1 h2 h3 h4 h5 ih =>
    intro m e h
    rw [getR, dif_pos h0, if_neg h1, if_neg h2, if_neg h3, if_pos h4, if_pos h5] at h
    have g := ih h
    rw [getR, dif_pos (by simp; omega)]
    simp only [List.getElem_append_left h0]
    rw [if_neg h1, if_neg h2, if_neg h3, if_pos (by simp; omega), cutL_more h4, if_pos h5]
    exact g
  | case7 p q x n h0 h1 h2 h3 h4 h5 =>
    intro m e h
    rw [getR, dif_pos h0, if_neg h1, if_neg h2, if_neg h3, if_pos h4, if_neg h5] at h
    simp at h
  | case8 p q x n h0 h1 h2 h3 h4 =>
    intro m e h
    rw [getR, dif_pos h0, if_neg h1, if_neg h2, if_neg h3, if_neg h4] at h
    simp at h
  | case9 p q x n h0 =>
    intro m e h
    rw [getR, dif_neg h0] at h
    simp at h

theorem getW_grow (Y : List UInt8) {b : List UInt8} {a : Int} {m : List (List UInt8)} {e : Nat} (h : getW b a = (m, e, 0)) : getW (b ++ Y) a = (m, e, 0) := by
  unfold getW at h ⊢
  split at h
  · simp at h
  · rw [if_neg (by assumption)]
    exact getR_grow Y b _ _ _ _ h
theorem numAt_more {b Y : List UInt8} {p s : Nat} (h : p + s ≤ b.length) : numAt (b ++ Y) p s = numAt b p s := by
  unfold numAt
  rw [cutL_more h]
theorem numsL_more {b Y : List UInt8} {p s : Nat} : ∀ {k : Nat}, p + k * s ≤ b.length → numsL (b ++ Y) p s k = numsL b p s k
  | 0, _ => rfl
  | k + 1, h => by
    rw [Nat.succ_mul] at h
    unfold numsL
    rw [numsL_more (by omega), cutL_more (by omega)]
theorem numsR_more {b Y : List UInt8} {p en s k : Nat} (h : en ≤ b.length) : numsR (b ++ Y) p en s k = numsR b p en s k := by
  unfold numsR
  split
  · rw [numsL_more (by omega)]
  · rfl
theorem nameR_more (Y : List UInt8) {b : List UInt8} {p en : Nat} {r : List (List UInt8) × Nat} (h : nameR b p en = .ok r) : nameR (b ++ Y) p en = .ok r := by
  unfold nameR at h ⊢
  rcases hr : getR b p p 0 [] with ⟨n, e, k⟩
  rw [hr] at h
  unfold nameF at h
  dsimp only at h
  split at h
  · cases h
  · rename_i hk
    have hk0 : k = 0 := by omega
    subst hk0
    rw [getR_grow Y b p p 0 [] hr]
    unfold nameF
    exact h
theorem textsR_more {b Y : List UInt8} {en : Nat} (hen : en ≤ b.length) : ∀ (d p : Nat) (acc : List (List UInt8)), en - p ≤ d → textsR (b ++ Y) p en acc = textsR b p en acc
  | d, p, acc, hd => by
    by_cases hp : p < en
    · by_cases ha : acc.length = 64
      · rw [textsR_large (b := b ++ Y) hp ha, textsR_large (b := b) hp ha]
      · have e1 : cutL (b ++ Y) p 1 = cutL b p 1 := cutL_more (by omega)
        by_cases hs : en < p + 1 + numN (cutL b p 1)
        · rw [textsR_short (b := b ++ Y) hp ha (by rw [e1]; exact hs), textsR_short (b := b) hp ha hs]
        · rw [textsR_next (b := b ++ Y) hp ha (by rw [e1]; omega), textsR_next (b := b) hp ha (by omega), e1, cutL_more (by omega)]
          match d, hd with
          | 0, hd => omega
          | d + 1, hd => exact textsR_more hen d _ _ (by omega)
    · rw [textsR.eq_def, textsR.eq_def b, dif_neg hp, dif_neg hp]
theorem bytesR_more {b Y : List UInt8} {p en l m : Nat} (h : en ≤ b.length) : bytesR (b ++ Y) p en l m = bytesR b p en l m := by
  unfold bytesR
  split
  · rfl
  · rw [cutL_more (by omega)]
theorem bind_ok {α β : Type} {x : Except Nat α} {f : α → Except Nat β} {y : β} (h : (x >>= f) = .ok y) : ∃ a, x = .ok a ∧ f a = .ok y := by
  cases x with
  | error k => cases h
  | ok a => exact ⟨a, rfl, h⟩
theorem ok_bind {α β : Type} {x : Except Nat α} {f : α → Except Nat β} {a : α} (h : x = .ok a) : (x >>= f) = f a := by
  subst h
  rfl
theorem readD_more (Y : List UInt8) {b : List UInt8} {p en : Nat} {s : Sh} {d : Dt} (hen : en ≤ b.length) (h : readD b p en s = .ok d) : readD (b ++ Y) p en s = .ok d := by
  unfold readD at h ⊢
  obtain ⟨n1, e1, h⟩ := bind_ok h
  obtain ⟨h1, e2, h⟩ := bind_ok h
  obtain ⟨m1, e3, h⟩ := bind_ok h
  obtain ⟨n2, e4, h⟩ := bind_ok h
  obtain ⟨t1, e5, h⟩ := bind_ok h
  obtain ⟨y1, e6, h⟩ := bind_ok h
  have f2 : (if s.host = true then nameR (b ++ Y) n1.2 en else .ok ([], n1.2)) = .ok h1 := by
    split at e2
    · rw [if_pos (by assumption)]
      exact nameR_more Y e2
    · rw [if_neg (by assumption)]
      exact e2
  have f3 : (if s.mail = true then nameR (b ++ Y) h1.2 en else .ok ([], h1.2)) = .ok m1 := by
    split at e3
    · rw [if_pos (by assumption)]
      exact nameR_more Y e3
    · rw [if_neg (by assumption)]
      exact e3
  have f5 : (if s.texts = true then textsR (b ++ Y) n2.2 en [] else .ok ([], n2.2)) = .ok t1 := by
    split at e5
    · rw [if_pos (by assumption), textsR_more hen _ _ _ (Nat.le_refl _)]
      exact e5
    · rw [if_neg (by assumption)]
      exact e5
  rw [numsR_more hen, ok_bind e1, ok_bind f2, ok_bind f3, numsR_more hen, ok_bind e4, ok_bind f5, bytesR_more hen, ok_bind e6]
  exact h
theorem bind_err {α β : Type} {x : Except Nat α} {f : α → Except Nat β} {k : Nat} (h : (x >>= f) = .error k) : x = .error k ∨ ∃ a, x = .ok a ∧ f a = .error k := by
  cases x with
  | error j =>
    injection h with h
    exact .inl (by rw [h])
  | ok a => exact .inr ⟨a, rfl, h⟩
theorem numsR_err {b : List UInt8} {p en s k : Nat} : numsR b p en s k ≠ .error 0 := by
  unfold numsR
  split <;> simp
theorem nameR_err {b : List UInt8} {p en : Nat} : nameR b p en ≠ .error 0 := by
  unfold nameR nameF
  split
  · simp; assumption
  · split <;> simp
theorem textsR_err {b : List UInt8} {en : Nat} : ∀ (d p : Nat) (acc : List (List UInt8)), en - p ≤ d → textsR b p en acc ≠ .error 0
  | d, p, acc, hd => by
    by_cases hp : p < en
    · by_cases ha : acc.length = 64
      · rw [textsR_large hp ha]
        simp
      · by_cases hs : en < p + 1 + numN (cutL b p 1)
        · rw [textsR_short hp ha hs]
          simp
        · rw [textsR_next hp ha (by omega)]
          match d, hd with
          | 0, hd => omega
          | d + 1, hd => exact textsR_err d _ _ (by omega)
    · rw [textsR, dif_neg hp]
      split <;> simp
theorem bytesR_err {b : List UInt8} {p en l m : Nat} : bytesR b p en l m ≠ .error 0 := by
  unfold bytesR
  split <;> simp
theorem readD_err (b : List UInt8) (p en : Nat) (s : Sh) : readD b p en s ≠ .error 0 := by
  intro h
  unfold readD at h
  rcases bind_err h with h | ⟨_, _, h⟩
  · exact numsR_err h
  rcases bind_err h with h | ⟨_, _, h⟩
  · split at h
    · exact nameR_err h
    · cases h
  rcases bind_err h with h | ⟨_, _, h⟩
  · split at h
    · exact nameR_err h
    · cases h
  rcases bind_err h with h | ⟨_, _, h⟩
  · exact numsR_err h
  rcases bind_err h with h | ⟨_, _, h⟩
  · split at h
    · exact textsR_err _ _ _ (Nat.le_refl _) h
    · cases h
  rcases bind_err h with h | ⟨_, _, h⟩
  · exact bytesR_err h
  · split at h <;> cases h
theorem getD_more (Y : List UInt8) {b : List UInt8} {a z k : Int} {d : Dt} (h : getD b a z k = (d, 0)) : getD (b ++ Y) a z k = (d, 0) := by
  unfold getD at h ⊢
  split at h
  · simp at h
  · rename_i h1
    split at h
    · simp at h
    · rename_i h2
      rw [if_neg h1, if_neg (by rw [List.length_append]; omega)]
      cases hr : readD b a.toNat (a + z).toNat (shN k) with
      | ok d' =>
        rw [hr] at h
        rw [readD_more Y (by omega) hr]
        exact h
      | error j =>
        rw [hr] at h
        dsimp only at h
        have hj : j = 0 := by injection h
        subst hj
        exact absurd hr (readD_err _ _ _ _)
theorem getQ_more (Y : List UInt8) {b : List UInt8} {p nx : Nat} {q : Qt} (h : getQ b p = (q, nx, 0)) : getQ (b ++ Y) p = (q, nx, 0) := by
  rcases hw : getW b (p : Int) with ⟨n, e, k⟩
  unfold getQ at h ⊢
  rw [hw] at h
  dsimp only at h
  by_cases hk : k = 0
  · subst hk
    rw [if_neg (by simp)] at h
    rw [getW_grow Y hw]
    dsimp only
    rw [if_neg (by simp)]
    split at h
    · simp at h
    · rename_i h2
      rw [if_neg (by rw [List.length_append]; omega), numAt_more (by omega), numAt_more (by omega)]
      exact h
  · rw [if_pos hk] at h
    simp at h
    exact absurd h.2.2 hk
theorem getRR_more (Y : List UInt8) {b : List UInt8} {p : Int} {nx : Nat} {r : Rt} (h : getRR b p = (r, nx, 0)) : getRR (b ++ Y) p = (r, nx, 0) := by
  rcases hw : getW b p with ⟨n, e, k⟩
  unfold getRR at h ⊢
  rw [hw] at h
  dsimp only at h
  by_cases hk : k = 0
  · subst hk
    rw [if_neg (by simp)] at h
    rw [getW_grow Y hw]
    dsimp only
    rw [if_neg (by simp)]
    split at h
    · simp at h
    · rename_i h2
      rw [if_neg (by rw [List.length_append]; omega), numAt_more (by omega), numAt_more (by omega), numAt_more (by omega)]
      have e4 : ttlAt (b ++ Y) (e + 4) = ttlAt b (e + 4) := by unfold ttlAt; rw [numAt_more (by omega)]
      rw [e4]
      split at h
      · simp at h
      · rw [if_neg (by assumption)]
        rcases hd : getD b ((e : Int) + 10) (numAt b (e + 8) 2) (numAt b e 2) with ⟨d, z⟩
        rw [hd] at h
        dsimp only at h
        by_cases hz : z = 0
        · subst hz
          rw [if_neg (by simp)] at h
          rw [getD_more Y hd]
          dsimp only
          rw [if_neg (by simp)]
          exact h
        · rw [if_pos hz] at h
          simp at h
          exact absurd h.2.2 hz
  · rw [if_pos hk] at h
    simp at h
    exact absurd h.2.2 hk
theorem getQs_grow (Y : List UInt8) {b : List UInt8} : ∀ (k p : Nat) (l : List Qt) {r : List Qt × Nat}, getQs b k p l = .ok r → getQs (b ++ Y) k p l = .ok r
  | 0, p, l, r, h => h
  | k + 1, p, l, r, h => by
    unfold getQs at h ⊢
    rcases hq : getQ b p with ⟨q, nx, e⟩
    rw [hq] at h
    dsimp only at h
    split at h
    · cases h
    · rename_i he
      have he0 : e = 0 := by omega
      subst he0
      rw [getQ_more Y hq]
      dsimp only
      rw [if_neg (by simp)]
      exact getQs_grow Y k _ _ h
theorem getRs_grow (Y : List UInt8) {b : List UInt8} (last : Bool) : ∀ (k : Nat) (s : Rd) {r : Rd}, getRs b last k s = .ok r → getRs (b ++ Y) last k s = .ok r
  | 0, s, r, h => h
  | k + 1, s, r, h => by
    unfold getRs at h ⊢
    obtain ⟨t, ht, h⟩ := bind_ok h
    have ht2 : stepR (b ++ Y) last s = .ok t := by
      unfold stepR at ht ⊢
      rcases hq : getRR b (s.p : Int) with ⟨q, nx, e⟩
      rw [hq] at ht
      dsimp only at ht
      split at ht
      · cases ht
      · rename_i he
        have he0 : e = 0 := by omega
        subst he0
        rw [getRR_more Y hq]
        dsimp only
        rw [if_neg (by simp)]
        exact ht
    rw [ok_bind ht2]
    exact getRs_grow Y last k _ h
theorem getQ_end {b : List UInt8} {p : Nat} (_ : (getQ b p).2.2 = 0) : (getQ b p).2.1 ≤ b.length := by
  unfold getQ
  split
  · exact Nat.zero_le _
  split
  · exact Nat.zero_le _
  split
  · exact Nat.zero_le _
  · dsimp only
    omega
theorem getRR_end {b : List UInt8} {p : Int} (_ : (getRR b p).2.2 = 0) : (getRR b p).2.1 ≤ b.length := by
  unfold getRR
  split
  · exact Nat.zero_le _
  rename_i h0
  split
  · exact Nat.zero_le _
  rename_i h1
  split
  · exact Nat.zero_le _
  rename_i h2
  split
  · exact Nat.zero_le _
  rename_i h3
  dsimp only
  have h4 : (getD b (((getW b p).2.1 : Int) + 10) (numAt b ((getW b p).2.1 + 8) 2) (numAt b (getW b p).2.1 2)).2 = 0 := by omega
  unfold getD at h4
  split at h4
  · simp at h4
  split at h4
  · simp at h4
  omega
theorem getQs_end {b : List UInt8} : ∀ (k p : Nat) (l : List Qt) {r : List Qt × Nat}, p ≤ b.length → getQs b k p l = .ok r → r.2 ≤ b.length
  | 0, p, l, r, hp, h => by
    unfold getQs at h
    injection h with h
    subst h
    exact hp
  | k + 1, p, l, r, hp, h => by
    unfold getQs at h
    split at h
    · cases h
    · exact getQs_end k _ _ (getQ_end (by omega)) h
theorem getRs_end {b : List UInt8} {last : Bool} : ∀ (k : Nat) (s : Rd) {r : Rd}, s.p ≤ b.length → getRs b last k s = .ok r → r.p ≤ b.length
  | 0, s, r, hp, h => by
    unfold getRs at h
    injection h with h
    subst h
    exact hp
  | k + 1, s, r, hp, h => by
    unfold getRs at h
    obtain ⟨t, ht, h⟩ := bind_ok h
    refine getRs_end k t ?_ h
    unfold stepR at ht
    split at ht
    · cases ht
    · have h1 := getRR_end (b := b) (p := (s.p : Int)) (by omega)
      unfold addR at ht
      split at ht
      · split at ht
        · cases ht
        · injection ht with ht
          subst ht
          exact h1
      · injection ht with ht
        subst ht
        exact h1
/-- What is read stays read, but for the bytes behind. -/
theorem decM_grow {b Y : List UInt8} {m : Mt} (h : decM b = .ok m) (hl : (b ++ Y).length ≤ 65535) (hY : Y ≠ []) : decM (b ++ Y) = .error 7 := by
  unfold decM at h ⊢
  rw [List.length_append] at hl
  split at h
  · cases h
  split at h
  · cases h
  rename_i h1 h2
  have hy : 0 < Y.length := List.length_pos_iff.2 hY
  rw [if_neg (by rw [List.length_append]; omega), if_neg (by rw [List.length_append]; omega), numAt_more (by omega), numAt_more (by omega), numAt_more (by omega), numAt_more (by omega), numAt_more (by omega), numAt_more (by omega)]
  split at h
  · cases h
  rename_i h3
  rw [if_neg h3]
  obtain ⟨q, e1, h⟩ := bind_ok h
  obtain ⟨x, e2, h⟩ := bind_ok h
  obtain ⟨y, e3, h⟩ := bind_ok h
  obtain ⟨z, e4, h⟩ := bind_ok h
  rw [ok_bind (getQs_grow Y _ _ _ e1), ok_bind (getRs_grow Y _ _ _ e2), ok_bind (getRs_grow Y _ _ _ e3), ok_bind (getRs_grow Y _ _ _ e4)]
  split at h
  · cases h
  · rename_i h4
    have hz : z.p ≤ b.length := by
      have g1 := getQs_end _ _ _ (by omega) e1
      have g2 := getRs_end _ ⟨[], q.2, false, 0⟩ g1 e2
      have g3 := getRs_end _ ⟨[], x.p, x.e, x.s⟩ g2 e3
      exact getRs_end _ ⟨[], y.p, y.e, y.s⟩ g3 e4
    rw [if_pos (by rw [List.length_append]; omega)]
/-- A message without its end is none. -/
theorem dec_cut {m : Mt} (hs : SoundM m) (hl : (encM m).length ≤ 65535) {k : Nat} (hk : k < (encM m).length) : ∃ e, decM ((encM m).take k) = .error e := by
  cases h : decM ((encM m).take k) with
  | error e => exact ⟨e, rfl⟩
  | ok x =>
    have h1 := decM_grow (Y := (encM m).drop k) h (by rw [List.take_append_drop]; exact hl) (by simp; omega)
    rw [List.take_append_drop] at h1
    have h2 := dec_enc hs [] (by simpa using hl)
    simp only [List.append_nil, if_true] at h2
    rw [h1] at h2
    cases h2

/-- No message is refused without an error. -/
theorem getQs_err {b : List UInt8} : ∀ (k p : Nat) (l : List Qt), getQs b k p l ≠ .error 0
  | 0, p, l => by simp [getQs]
  | k + 1, p, l => by
    unfold getQs
    split
    · simp; assumption
    · exact getQs_err k _ _
theorem getRs_err {b : List UInt8} {last : Bool} : ∀ (k : Nat) (s : Rd), getRs b last k s ≠ .error 0
  | 0, s => by simp [getRs]
  | k + 1, s => by
    unfold getRs
    intro h
    rcases bind_err h with h | ⟨t, _, h⟩
    · unfold stepR at h
      split at h
      · injection h with h
        omega
      · unfold addR at h
        split at h
        · split at h <;> cases h
        · cases h
    · exact getRs_err k t h
theorem decM_err {b : List UInt8} : decM b ≠ .error 0 := by
  intro h
  unfold decM at h
  split at h
  · cases h
  split at h
  · cases h
  split at h
  · cases h
  rcases bind_err h with h | ⟨_, _, h⟩
  · exact getQs_err _ _ _ h
  rcases bind_err h with h | ⟨_, _, h⟩
  · exact getRs_err _ _ h
  rcases bind_err h with h | ⟨_, _, h⟩
  · exact getRs_err _ _ h
  rcases bind_err h with h | ⟨_, _, h⟩
  · exact getRs_err _ _ h
  · split at h <;> cases h

end Go.Proofs.Ytjkjhpaeckkpjaa
