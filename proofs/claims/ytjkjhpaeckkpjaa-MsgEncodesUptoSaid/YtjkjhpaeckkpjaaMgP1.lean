/-
  From a law's contract to its row: opening an argument of bytes; the end of a law.
-/
import Derived.Test.YtjkjhpaeckkpjaaRows
import Derived.Test.YtjkjhpaeckkpjaaMbP1
import Derived.ProofKit
import Derived.SizedLaws
import Derived.Carry
import Derived.SliceStrings
import Derived.Deep.Slices
import Derived.Deep.Grids
import Derived.ChangeArms
import Derived.Test.YtjkjhpaeckkpjaaMbP8
import Derived.Test.YtjkjhpaeckkpjaaMbP9
import Derived.OpenShut
import Derived.JoinedCond
import Derived.Deep.CondSized
import Derived.Test.YtjkjhpaeckkpjaaMbP7
import Derived.Test.YtjkjhpaeckkpjaaMbP3
namespace Go.Proofs.Ytjkjhpaeckkpjaa
open Go.ChangeShapes Go.WideShapes Go.ChangeAt Go.RowKit

theorem Try.own : ownKnob Try.prog.godebug = none := by kernel_rfl
theorem Try.laidOut : laidOutB Try.prog = true := by kernel_rfl

theorem bc_of_int (n : Int) (h : (Lit.int .u8 n).wf = true) : Value.int .u8 n = bc (UInt8.ofNat n.toNat) := by
  have h1 : IntKind.u8.min = 0 := rfl
  have h2 : IntKind.u8.max = 255 := rfl
  simp only [Lit.wf, Bool.and_eq_true, decide_eq_true_eq] at h
  unfold bc
  rw [UInt8.toNat_ofNat', Nat.mod_eq_of_lt (by omega)]
  congr 1
  omega

set_option maxRecDepth 20000 in
/-- An argument of bytes: whatever it is, it reads as a list. -/
theorem open_row_u8c {H : Type} {enc : TypeId × Value → H} {W : World} {base : Nat} {t : TypeId} {v : Value} {d : DataW H} {p : List MemPlace} (hc : Try.prog.cellsOf 5 = 1) (ht : Try.prog.underlying t = some (.slice 5))
    (hval : Value.okWide Try.prog W .any base t v) (h : DataW.Trod enc Try.prog W 0 (fun _ => true) true t v d p) (hlt : ∀ x ∈ p, x.block < W.heap.size) :
    ∃ (A : Option Addr) (m c : Nat) (l : List UInt8), v = .slice A m c ∧ l.length = m ∧ Row W W.heap.size A (l.map bc) ∧ m ≤ c ∧ m ≤ maxLen ∧ c ≤ maxLen ∧ (m = 0 ∨ ∃ el sp, d = .slice el sp ∧ el.length = m) := by
  obtain ⟨a0, len, cap, rfl⟩ := okWide_slice ht hval
  obtain ⟨fuel, hf⟩ := h
  rcases open_ints ht Try.underlying5 hc hf with ⟨hcs, hx⟩ | ⟨a, len', cap', zs, hcs, _, hl, hm, hz, hx, hcell, hwz⟩
  · simp [Value.cells] at hcs
    obtain ⟨rfl, rfl, rfl⟩ := hcs
    exact ⟨none, 0, 0, [], rfl, rfl, Row.empty _ _ _, Nat.le_refl _, Nat.zero_le _, Nat.zero_le _, .inl rfl⟩
  · simp [Value.cells] at hcs
    obtain ⟨rfl, rfl, rfl⟩ := hcs
    simp only [Prod.mk.injEq] at hx
    obtain ⟨rfl, rfl⟩ := hx
    simp only [if_true] at hz
    refine ⟨some a, len, cap, (zs.take len).map fun n => UInt8.ofNat n.toNat, rfl, by simp; omega, fun hne => ?_, hl, Nat.le_trans hl hm, hm, .inr ⟨_, _, rfl, by simp [lits]; omega⟩⟩
    have hpos : 0 < zs.length := by
      rcases zs with _ | ⟨z, zs⟩
      · simp at hne
      · simp
    obtain ⟨b, off, spot⟩ := a
    have hspot : spot = none := by simpa [Addr.add] using World.cell?_spot (hcell 0 hpos)
    subst hspot
    refine ⟨b, off, rfl, hlt (.cell b off) (MemPlace.mem_row.2 ⟨0, hpos, by simp⟩), fun j u hu => ?_⟩
    have hj : j < zs.length := by
      have := (List.getElem?_eq_some_iff.1 hu).1
      simp at this
      omega
    have hjl : j < len := by
      have := (List.getElem?_eq_some_iff.1 hu).1
      simp at this
      omega
    have h1 := hcell j hj
    rw [addr_add] at h1
    rw [h1]
    have e : zs.getD j 0 = zs[j] := by simp [List.getD, List.getElem?_eq_getElem hj]
    rw [List.getElem?_map, List.getElem?_map, List.getElem?_take, if_pos hjl, List.getElem?_eq_getElem hj] at hu
    simp only [Option.map_some] at hu
    rw [← hu, e, bc_of_int _ (hwz _ (List.getElem_mem hj))]

set_option maxRecDepth 20000 in
theorem open_row_u8 {H : Type} {enc : TypeId × Value → H} {W : World} {base : Nat} {t : TypeId} {v : Value} {d : DataW H} {p : List MemPlace} (hc : Try.prog.cellsOf 5 = 1) (ht : Try.prog.underlying t = some (.slice 5))
    (hval : Value.okWide Try.prog W .any base t v) (h : DataW.Trod enc Try.prog W 0 (fun _ => true) true t v d p) (hlt : ∀ x ∈ p, x.block < W.heap.size) :
    ∃ (A : Option Addr) (m c : Nat) (l : List UInt8), v = .slice A m c ∧ l.length = m ∧ Row W W.heap.size A (l.map bc) ∧ m ≤ c ∧ m ≤ maxLen ∧ (m = 0 ∨ ∃ el sp, d = .slice el sp ∧ el.length = m) := by
  obtain ⟨A, m, c, l, h1, h2, h3, h4, h5, _, h6⟩ := open_row_u8c hc ht hval h hlt
  exact ⟨A, m, c, l, h1, h2, h3, h4, h5, h6⟩

theorem row_reach {H : Type} {P : Program} {ts : List TypeId} {ds : List (DataW H)} {d : DataW H} {m : Nat} (h : (DataW.weightsEach P ts ds).all (· ≤ reachBytes) = true) {j : Nat} {t e : TypeId} (ht : ts[j]? = some t) (hd : ds[j]? = some d) (hu : P.underlying t = some (.slice e))
    (hb : P.bytesOf e = 1) (hm : m = 0 ∨ ∃ el sp, d = .slice el sp ∧ el.length = m) : m ≤ 140737488351232 := by
  rcases hm with rfl | ⟨el, sp, rfl, hl⟩
  · omega
  · have := sized_slice h ht hd hu
    rw [hb] at this
    simp only [reachBytes] at this
    omega
theorem u8_cells : Try.prog.cellsOf 5 = 1 := by kernel_rfl
theorem u8_bytes : Try.prog.bytesOf 5 = 1 := by kernel_rfl

theorem below_trodAll {H : Type} {enc : TypeId × Value → H} {P : Program} (hl : laidOutB P = true) {W W' : World} (hb : Below W.heap.size W W') :
    ∀ {ts : List TypeId} {vs : List Value} {ds : List (DataW H)} {ps : List MemPlace}, ts.all (fun t => P.readableRec t && decide (t < P.types.size)) = true →
      DataW.TrodAll enc P W 0 (fun _ => true) true ts vs ds ps → (∀ x ∈ ps, x.block < W.heap.size) → DataW.TrodAll enc P W' 0 (fun b => decide (b < W.heap.size)) true ts vs ds ps
  | [], [], [], _, _, h, _ => h
  | [], [], _ :: _, _, _, h, _ => h.elim
  | [], _ :: _, _, _, _, h, _ => h.elim
  | _ :: _, [], _, _, _, h, _ => h.elim
  | _ :: _, _ :: _, [], _, _, h, _ => h.elim
  | t :: ts, v :: vs, d :: ds, ps, ht, h, hlt => by
    obtain ⟨p, q, h1, h2, rfl⟩ := h
    simp only [List.all_cons, Bool.and_eq_true, decide_eq_true_eq] at ht
    exact ⟨p, q, Below.trod hl ht.1.1 ht.1.2 h1 hb (fun x hx => hlt x (List.mem_append_left _ hx)), below_trodAll hl hb ht.2 h2 (fun x hx => hlt x (List.mem_append_right _ hx)), rfl⟩

/-- The end of a law: it has answered true, and nothing that was there has turned. -/
theorem law_post {H : Type} {enc : TypeId × Value → H} {P : Program} {f : Func} {s : ChangeSpec} {W W' : World} {args : Array Value} {ds gs : List (DataW H)} {before : List MemPlace} {tb : TypeId}
    (hl : laidOutB P = true) (hts : f.params.toList.all (fun t => P.readableRec t && decide (t < P.types.size)) = true) (hrt : f.resultTypes.toList = [tb]) (hsz : f.resultTypes.size = 1) (hbool : P.underlying tb = some .bool) (hsv : s.vars = [])
    (hW : DataW.Whole enc P f.params.toList s.vars false W args.toList ds gs before)
    (hres : (s.fn H (ds ++ gs)).results = [.lit (.bool true)]) (hargs : (s.fn H (ds ++ gs)).args = ds) (hvars : (s.fn H (ds ++ gs)).vars = [])
    (hb : Below W.heap.size W W') : s.post enc P f false true false false W args (.bool true) W' := by
  have hW' := hW
  obtain ⟨p, q, hA, hV, rfl, _, _⟩ := hW
  rw [hsv] at hV
  obtain ⟨rfl, rfl⟩ := trodVars_none hV
  have hlt : ∀ x ∈ p, x.block < W.heap.size := fun x hx => hW'.lt x (List.mem_append_left _ hx)
  refine ⟨ds, [], p ++ [], [], p, [], hW', ?_, ?_, ?_, hb.frame _, fun h => by cases h⟩
  · rw [hrt, hsz, hres]
    exact trodAll_mk1 (shut_bool hbool true)
  · rw [hargs]
    exact below_trodAll hl hb hts hA hlt
  · rw [hsv, hvars]
    rfl

theorem i64_le {n : Int} (h : (Lit.int .i64 n).wf = true) : -9223372036854775808 ≤ n ∧ n ≤ 9223372036854775807 := by
  have h1 : IntKind.i64.min = -9223372036854775808 := rfl
  have h2 : IntKind.i64.max = 9223372036854775807 := rfl
  simp only [Lit.wf, Bool.and_eq_true, decide_eq_true_eq] at h
  omega

end Go.Proofs.Ytjkjhpaeckkpjaa

namespace Go.Proofs.Ytjkjhpaeckkpjaa
open Go.ChangeShapes Go.WideShapes Go.ChangeAt Go.RowKit

theorem string_sv (s : ByteArray) : Value.string s = sv s.data.toList := by
  unfold sv
  rw [Array.toArray_toList]

theorem str_cells : Try.prog.cellsOf 9 = 1 := by kernel_rfl
theorem str_bytes : Try.prog.bytesOf 9 = 16 := by kernel_rfl

set_option maxRecDepth 20000 in
/-- An argument of strings: whatever it is, it reads as a name. -/
theorem open_row_str {H : Type} {enc : TypeId × Value → H} {W : World} {base : Nat} {t : TypeId} {v : Value} {d : DataW H} {p : List MemPlace} (hc : Try.prog.cellsOf 9 = 1) (ht : Try.prog.underlying t = some (.slice 9))
    (hval : Value.okWide Try.prog W .any base t v) (h : DataW.Trod enc Try.prog W 0 (fun _ => true) true t v d p) (hlt : ∀ x ∈ p, x.block < W.heap.size)
    {ts : List TypeId} {ds : List (DataW H)} (hsz : (DataW.weightsEach Try.prog ts ds).all (· ≤ reachBytes) = true) {j : Nat} (htj : ts[j]? = some t) (hdj : ds[j]? = some d) :
    ∃ (A : Option Addr) (c : Nat) (n : List (List UInt8)), v = .slice A n.length c ∧ NameIn W A n ∧ n.length ≤ c := by
  obtain ⟨a0, len, cap, rfl⟩ := okWide_slice ht hval
  obtain ⟨fuel, hf⟩ := h
  rcases open_strings ht Try.underlying9 hc hf with ⟨hcs, hx⟩ | ⟨a, len', cap', ss, hcs, _, hl, hm, hz, hx, hcell, hwz⟩
  · simp [Value.cells] at hcs
    obtain ⟨rfl, rfl, rfl⟩ := hcs
    exact ⟨none, 0, [], rfl, ⟨Row.empty _ _ _, Nat.zero_le _, fun k h => absurd h (Nat.not_lt_zero _)⟩, Nat.le_refl _⟩
  · simp [Value.cells] at hcs
    obtain ⟨rfl, rfl, rfl⟩ := hcs
    simp only [Prod.mk.injEq] at hx
    obtain ⟨rfl, rfl⟩ := hx
    simp only [if_true] at hz
    have hlen : ((ss.take len).map fun s => s.data.toList).length = len := by simp; omega
    have hw := sized_slice hsz htj hdj ht
    rw [str_bytes] at hw
    simp only [reachBytes] at hw
    refine ⟨some a, cap, (ss.take len).map fun s => s.data.toList, by rw [hlen], ⟨fun hne => ?_, ?_, ?_⟩, by rw [hlen]; exact hl⟩
    · have hpos : 0 < ss.length := by
        rcases ss with _ | ⟨z, zs⟩
        · simp at hne
        · simp
      obtain ⟨b, off, spot⟩ := a
      have hspot : spot = none := by simpa [Addr.add] using World.cell?_spot (hcell 0 hpos)
      subst hspot
      refine ⟨b, off, rfl, hlt (.cell b off) (MemPlace.mem_row.2 ⟨0, hpos, by simp⟩), fun j u hu => ?_⟩
      have hjl : j < len := by
        have := (List.getElem?_eq_some_iff.1 hu).1
        simp at this
        omega
      have hj : j < ss.length := by omega
      have h1 := hcell j hj
      rw [addr_add] at h1
      rw [h1]
      have e : ss.getD j ByteArray.empty = ss[j] := by simp [List.getD, List.getElem?_eq_getElem hj]
      rw [List.getElem?_map, List.getElem?_map, List.getElem?_take, if_pos hjl, List.getElem?_eq_getElem hj] at hu
      simp only [Option.map_some] at hu
      rw [← hu, e, string_sv]
    · rw [hlen]
      simp [strs] at hw
      omega
    · intro k hk
      have hk' : k < ss.length := by rw [hlen] at hk; omega
      have h2 := hwz ss[k] (List.getElem_mem hk')
      simpa using h2

end Go.Proofs.Ytjkjhpaeckkpjaa

namespace Go.Proofs.Ytjkjhpaeckkpjaa
open Go.RowKit

/-- What a statement's argument of names is. -/
def NamesIn (w : World) (H : Nat) (A : Option Addr) (vs : List Value) (ns : List (List (List UInt8))) : Prop :=
  Row w H A vs ∧ vs.length = ns.length ∧ ∀ k, k < ns.length → ∃ Ak ck, vs[k]? = some (.slice Ak (ns.getD k []).length ck) ∧ Row w H Ak ((ns.getD k []).map sv) ∧ (ns.getD k []).length ≤ maxLen ∧ ∀ i (h : i < (ns.getD k []).length), ((ns.getD k [])[i]).length ≤ maxLen
theorem NamesIn.below {w w' : World} {H : Nat} {A : Option Addr} {vs : List Value} {ns : List (List (List UInt8))} (h : NamesIn w H A vs ns) (hb : Below H w w') : NamesIn w' H A vs ns := by
  obtain ⟨h1, h2, h3⟩ := h
  refine ⟨h1.below hb, h2, fun k hk => ?_⟩
  obtain ⟨Ak, ck, h4, h5, h6⟩ := h3 k hk
  exact ⟨Ak, ck, h4, h5.below hb, h6⟩
/-- The k-th name's cell, and what it leads to. -/
theorem NamesIn.at_ {w : World} {H : Nat} {A : Option Addr} {vs : List Value} {ns : List (List (List UInt8))} (h : NamesIn w H A vs ns) {k : Nat} (hk : k < ns.length) :
    ∃ b off Ak ck, A = some ⟨b, off, none⟩ ∧ b < H ∧ w.cell? ⟨b, off + k, none⟩ = some (.slice Ak (ns.getD k []).length ck) ∧ Row w H Ak ((ns.getD k []).map sv) ∧ (ns.getD k []).length ≤ maxLen ∧ ∀ i (h : i < (ns.getD k []).length), ((ns.getD k [])[i]).length ≤ maxLen := by
  obtain ⟨h1, h2, h3⟩ := h
  obtain ⟨Ak, ck, h4, h5, h6⟩ := h3 k hk
  obtain ⟨b, off, rfl, hb, hc⟩ := h1.some_ (by omega)
  exact ⟨b, off, Ak, ck, rfl, hb, hc k _ h4, h5, h6⟩

end Go.Proofs.Ytjkjhpaeckkpjaa

namespace Go.Proofs.Ytjkjhpaeckkpjaa
open Go.ChangeShapes Go.WideShapes Go.ChangeAt Go.RowKit

set_option maxRecDepth 20000 in
/-- A name as it is read: whatever it is. -/
theorem read_name {H : Type} {enc : TypeId × Value → H} {W : World} {fuel : Nat} {v : Value} {x : DataW H × List MemPlace} (hc : Try.prog.cellsOf 9 = 1)
    (h : DataW.trod enc Try.prog W 0 (fun _ => true) true fuel 40 [v] = some x) (hlt : ∀ y ∈ x.2, y.block < W.heap.size) :
    ∃ (A : Option Addr) (c : Nat) (n : List (List UInt8)), v = .slice A n.length c ∧ Row W W.heap.size A (n.map sv) ∧ n.length ≤ maxLen ∧ (∀ k (h : k < n.length), (n[k]).length ≤ maxLen) ∧ n.length ≤ c := by
  rcases open_strings Try.underlying40 Try.underlying9 hc h with ⟨hcs, hx⟩ | ⟨a, len, cap, ss, hcs, _, hl, hm, hz, hx, hcell, hwz⟩
  · exact ⟨none, 0, [], by simpa using hcs, Row.empty _ _ _, Nat.zero_le _, fun k h => absurd h (Nat.not_lt_zero _), Nat.le_refl _⟩
  · simp only [List.cons.injEq, and_true] at hcs
    subst hcs
    subst hx
    simp only [if_true] at hz
    have hlen : ((ss.take len).map fun s => s.data.toList).length = len := by simp; omega
    refine ⟨some a, cap, (ss.take len).map fun s => s.data.toList, by rw [hlen], fun hne => ?_, by rw [hlen]; omega, ?_, by rw [hlen]; exact hl⟩
    · have hpos : 0 < ss.length := by
        rcases ss with _ | ⟨z, zs⟩
        · simp at hne
        · simp
      obtain ⟨b, off, spot⟩ := a
      have hspot : spot = none := by simpa [Addr.add] using World.cell?_spot (hcell 0 hpos)
      subst hspot
      refine ⟨b, off, rfl, hlt (.cell b off) (MemPlace.mem_row.2 ⟨0, hpos, by simp⟩), fun j u hu => ?_⟩
      have hjl : j < len := by
        have := (List.getElem?_eq_some_iff.1 hu).1
        simp at this
        omega
      have hj : j < ss.length := by omega
      have h1 := hcell j hj
      rw [addr_add] at h1
      rw [h1]
      have e : ss.getD j ByteArray.empty = ss[j] := by simp [List.getD, List.getElem?_eq_getElem hj]
      rw [List.getElem?_map, List.getElem?_map, List.getElem?_take, if_pos hjl, List.getElem?_eq_getElem hj] at hu
      simp only [Option.map_some] at hu
      rw [← hu, e, string_sv]
    · intro k hk
      have hk' : k < ss.length := by rw [hlen] at hk; omega
      have h2 := hwz ss[k] (List.getElem_mem hk')
      simpa using h2

theorem names_cells : Try.prog.cellsOf 40 = 1 := by kernel_rfl

set_option maxRecDepth 20000 in
/-- An argument of names: whatever it is, it reads as names; and no slice is longer than its room. -/
theorem open_row_namesC {H : Type} {enc : TypeId × Value → H} {W : World} {base : Nat} {t : TypeId} {v : Value} {d : DataW H} {p : List MemPlace} (ht : Try.prog.underlying t = some (.slice 40))
    (hval : Value.okWide Try.prog W .any base t v) (h : DataW.Trod enc Try.prog W 0 (fun _ => true) true t v d p) (hlt : ∀ x ∈ p, x.block < W.heap.size) :
    ∃ (A : Option Addr) (c : Nat) (vs : List Value) (ns : List (List (List UInt8))), v = .slice A ns.length c ∧ NamesIn W W.heap.size A vs ns ∧ ns.length ≤ c ∧ c ≤ maxLen ∧ ∀ (k : Nat) (A' : Option Addr) (m' c' : Nat), vs[k]? = some (Value.slice A' m' c') → m' ≤ c' := by
  obtain ⟨a0, len, cap, rfl⟩ := okWide_slice ht hval
  obtain ⟨fuel, hf⟩ := h
  rcases Deep.open_slice1 ht names_cells hf with ⟨hcs, hx⟩ | ⟨a, len', cap', m, n, V, D, Pl, hcs, _, hl, hm, hmm, hx, hy⟩
  · simp [Value.cells] at hcs
    obtain ⟨rfl, rfl, rfl⟩ := hcs
    exact ⟨none, 0, [], [], rfl, ⟨Row.empty _ _ _, rfl, fun k h => absurd h (Nat.not_lt_zero _)⟩, Nat.le_refl _, Nat.zero_le _, fun k A' m' c' h => by simp at h⟩
  · simp [Value.cells] at hcs
    obtain ⟨rfl, rfl, rfl⟩ := hcs
    simp only [if_true] at hmm
    subst hmm
    simp only [Prod.mk.injEq] at hx
    obtain ⟨rfl, rfl⟩ := hx
    have each : ∀ i, i < len → ∃ y : Option Addr × Nat × List (List UInt8), V i = .slice y.1 y.2.2.length y.2.1 ∧ Row W W.heap.size y.1 (y.2.2.map sv) ∧ y.2.2.length ≤ maxLen ∧ (∀ k (h : k < y.2.2.length), (y.2.2[k]).length ≤ maxLen) ∧ y.2.2.length ≤ y.2.1 := by
      intro i hi
      obtain ⟨A, c, n', h1, h2, h3, h4, h5⟩ := read_name str_cells (hy i (by omega)).2 (fun y hy' => hlt y (List.mem_append_right _ (List.mem_flatMap.2 ⟨i, List.mem_range.2 (by omega), hy'⟩)))
      exact ⟨(A, c, n'), h1, h2, h3, h4, h5⟩
    obtain ⟨Y, hY⟩ := Deep.choose_lt each
    have hnl : ((List.range len).map fun i => (Y i).2.2).length = len := by simp
    refine ⟨some a, m, (List.range len).map V, (List.range len).map fun i => (Y i).2.2, by rw [hnl], ⟨fun hne => ?_, by simp, fun k hk => ?_⟩, by rw [hnl]; exact hl, hm, fun k A' m' c' hv => ?_⟩
    · have hpos : 0 < len := by
        rcases len with _ | k
        · simp at hne
        · omega
      obtain ⟨b, off, spot⟩ := a
      have hspot : spot = none := by simpa [Addr.add] using World.cell?_spot (hy 0 (by omega)).1
      subst hspot
      refine ⟨b, off, rfl, hlt (.cell b off) (List.mem_append_left _ (MemPlace.mem_row.2 ⟨0, by omega, by simp⟩)), fun j u hu => ?_⟩
      have hjl : j < len := by
        have := (List.getElem?_eq_some_iff.1 hu).1
        simpa using this
      have h1 := (hy j (by omega)).1
      rw [addr_add] at h1
      rw [h1]
      rw [List.getElem?_map, List.getElem?_range hjl] at hu
      exact hu
    · rw [hnl] at hk
      have hg : ((List.range len).map fun i => (Y i).2.2).getD k [] = (Y k).2.2 := by simp [List.getD, hk]
      rw [hg]
      obtain ⟨h1, h2, h3, h4, _⟩ := hY k hk
      exact ⟨(Y k).1, (Y k).2.1, by simp [hk, h1], h2, h3, h4⟩
    · by_cases hk : k < len
      · rw [List.getElem?_map, List.getElem?_range hk] at hv
        obtain ⟨h1, _, _, _, h5⟩ := hY k hk
        simp only [Option.map_some, Option.some.injEq] at hv
        rw [h1] at hv
        injection hv with e1 e2 e3
        omega
      · rw [List.getElem?_eq_none (by simp; omega)] at hv
        cases hv
set_option maxRecDepth 20000 in
/-- An argument of names: whatever it is, it reads as names. -/
theorem open_row_names {H : Type} {enc : TypeId × Value → H} {W : World} {base : Nat} {t : TypeId} {v : Value} {d : DataW H} {p : List MemPlace} (ht : Try.prog.underlying t = some (.slice 40))
    (hval : Value.okWide Try.prog W .any base t v) (h : DataW.Trod enc Try.prog W 0 (fun _ => true) true t v d p) (hlt : ∀ x ∈ p, x.block < W.heap.size) :
    ∃ (A : Option Addr) (c : Nat) (vs : List Value) (ns : List (List (List UInt8))), v = .slice A ns.length c ∧ NamesIn W W.heap.size A vs ns ∧ ns.length ≤ c ∧ c ≤ maxLen := by
  obtain ⟨A, c, vs, ns, h1, h2, h3, h4, _⟩ := open_row_namesC ht hval h hlt
  exact ⟨A, c, vs, ns, h1, h2, h3, h4⟩

end Go.Proofs.Ytjkjhpaeckkpjaa

namespace Go.Proofs.Ytjkjhpaeckkpjaa
open Go.ChangeShapes Go.WideShapes Go.ChangeAt Go.RowKit

set_option maxRecDepth 20000 in
/-- Bytes as they are read: whatever they are. -/
theorem read_bytes_c {H : Type} {enc : TypeId × Value → H} {W : World} {fuel : Nat} {v : Value} {x : DataW H × List MemPlace}
    (h : DataW.trod enc Try.prog W 0 (fun _ => true) true fuel 28 [v] = some x) (hlt : ∀ y ∈ x.2, y.block < W.heap.size) :
    ∃ (A : Option Addr) (c : Nat) (l : List UInt8), v = .slice A l.length c ∧ Row W W.heap.size A (l.map bc) ∧ l.length ≤ c ∧ c ≤ maxLen := by
  rcases open_ints Try.underlying28 Try.underlying5 u8_cells h with ⟨hcs, hx⟩ | ⟨a, len, cap, zs, hcs, _, hl, hm, hz, hx, hcell, hwz⟩
  · exact ⟨none, 0, [], by simpa using hcs, Row.empty _ _ _, Nat.le_refl _, Nat.zero_le _⟩
  · simp only [List.cons.injEq, and_true] at hcs
    subst hcs
    subst hx
    simp only [if_true] at hz
    have hlen : ((zs.take len).map fun n => UInt8.ofNat n.toNat).length = len := by simp; omega
    refine ⟨some a, cap, (zs.take len).map fun n => UInt8.ofNat n.toNat, by rw [hlen], fun hne => ?_, by rw [hlen]; exact hl, hm⟩
    have hpos : 0 < zs.length := by
      rcases zs with _ | ⟨z, zs⟩
      · simp at hne
      · simp
    obtain ⟨b, off, spot⟩ := a
    have hspot : spot = none := by simpa [Addr.add] using World.cell?_spot (hcell 0 hpos)
    subst hspot
    refine ⟨b, off, rfl, hlt (.cell b off) (MemPlace.mem_row.2 ⟨0, hpos, by simp⟩), fun j u hu => ?_⟩
    have hjl : j < len := by
      have := (List.getElem?_eq_some_iff.1 hu).1
      simp at this
      omega
    have hj : j < zs.length := by omega
    have h1 := hcell j hj
    rw [addr_add] at h1
    rw [h1]
    have e : zs.getD j 0 = zs[j] := by simp [List.getD, List.getElem?_eq_getElem hj]
    rw [List.getElem?_map, List.getElem?_map, List.getElem?_take, if_pos hjl, List.getElem?_eq_getElem hj] at hu
    simp only [Option.map_some] at hu
    rw [← hu, e, bc_of_int _ (hwz _ (List.getElem_mem hj))]

theorem int_cells : Try.prog.cellsOf 3 = 1 := by kernel_rfl
set_option maxRecDepth 20000 in
/-- Numbers as they are read: whatever they are. -/
theorem read_ints {H : Type} {enc : TypeId × Value → H} {W : World} {fuel : Nat} {v : Value} {x : DataW H × List MemPlace}
    (h : DataW.trod enc Try.prog W 0 (fun _ => true) true fuel 44 [v] = some x) (hlt : ∀ y ∈ x.2, y.block < W.heap.size) :
    ∃ (A : Option Addr) (c : Nat) (l : List Int), v = .slice A l.length c ∧ Row W W.heap.size A (l.map zv) ∧ l.length ≤ c ∧ c ≤ maxLen ∧ ∀ n ∈ l, (Lit.int .i64 n).wf = true := by
  rcases open_ints Try.underlying44 Try.underlying3 int_cells h with ⟨hcs, hx⟩ | ⟨a, len, cap, zs, hcs, _, hl, hm, hz, hx, hcell, hwz⟩
  · exact ⟨none, 0, [], by simpa using hcs, Row.empty _ _ _, Nat.le_refl _, Nat.zero_le _, fun n hn => absurd hn (List.not_mem_nil)⟩
  · simp only [List.cons.injEq, and_true] at hcs
    subst hcs
    subst hx
    simp only [if_true] at hz
    have hlen : (zs.take len).length = len := by simp; omega
    refine ⟨some a, cap, zs.take len, by rw [hlen], fun hne => ?_, by rw [hlen]; exact hl, hm, fun n hn => hwz n (List.mem_of_mem_take hn)⟩
    have hpos : 0 < zs.length := by
      rcases zs with _ | ⟨z, zs⟩
      · simp at hne
      · simp
    obtain ⟨b, off, spot⟩ := a
    have hspot : spot = none := by simpa [Addr.add] using World.cell?_spot (hcell 0 hpos)
    subst hspot
    refine ⟨b, off, rfl, hlt (.cell b off) (MemPlace.mem_row.2 ⟨0, hpos, by simp⟩), fun j u hu => ?_⟩
    have hjl : j < len := by
      have := (List.getElem?_eq_some_iff.1 hu).1
      simp at this
      omega
    have hj : j < zs.length := by omega
    have h1 := hcell j hj
    rw [addr_add] at h1
    rw [h1]
    have e : zs.getD j 0 = zs[j] := by simp [List.getD, List.getElem?_eq_getElem hj]
    rw [List.getElem?_map, List.getElem?_take, if_pos hjl, List.getElem?_eq_getElem hj] at hu
    simp only [Option.map_some] at hu
    rw [← hu, e, zv]

/-- What a statement's data is. -/
structure DIn (d : Dt) : Prop where
  h : d.host.length ≤ maxLen
  m : d.mail.length ≤ maxLen
  t : d.texts.length ≤ maxLen
  lh : ∀ k (h : k < d.host.length), (d.host[k]).length ≤ maxLen
  lm : ∀ k (h : k < d.mail.length), (d.mail[k]).length ≤ maxLen
  lt : ∀ k (h : k < d.texts.length), (d.texts[k]).length ≤ maxLen
  n : ∀ n ∈ d.nums, (Lit.int .i64 n).wf = true

theorem byts_cells : Try.prog.cellsOf 28 = 1 := by kernel_rfl
theorem inss_cells : Try.prog.cellsOf 44 = 1 := by kernel_rfl
theorem data_cells : Try.prog.cellsOf 46 = 5 := by kernel_rfl

set_option maxRecDepth 20000 in
theorem open_data {H : Type} {enc : TypeId × Value → H} {W : World} {base : Nat} {v : Value} {d : DataW H} {p : List MemPlace}
    (hval : Value.okWide Try.prog W .any base 46 v) (h : DataW.Trod enc Try.prog W 0 (fun _ => true) true 46 v d p) (hlt : ∀ x ∈ p, x.block < W.heap.size) :
    ∃ (x : DV) (dd : Dt), v = x.val dd ∧ DataAt W W.heap.size x dd ∧ DIn dd := by
  unfold Value.okWide at hval
  rw [Try.underlying46] at hval
  obtain ⟨cs0, rfl, hsz, _⟩ := hval
  obtain ⟨fuel, hf⟩ := h
  obtain ⟨xs, k, _, hx, hcl, hxl, hfs⟩ := DataW.trod_struct Try.underlying46 hf
  obtain ⟨cs⟩ := cs0
  simp only [Value.cells] at hf hcl hfs
  have hp : p = xs.flatMap (·.2) := by simpa using congrArg Prod.snd hx
  have hin : ∀ z ∈ xs, ∀ y ∈ z.2, y.block < W.heap.size := fun z hz y hyz => hlt y (by rw [hp]; exact List.mem_flatMap.2 ⟨z, hz, hyz⟩)
  have hxl5 : xs.length = 5 := hxl
  have hc5 : cs.length = 5 := by rw [data_cells] at hcl; simpa using hcl
  clear hx hp hf hcl hsz
  match cs, hc5, xs, hxl5, hfs, hin with
  | [c0, c1, c2, c3, c4], _, [y0, y1, y2, y3, y4], _, hfs, hin =>
    have g0 := hfs 0 _ rfl
    have g1 := hfs 1 _ rfl
    have g2 := hfs 2 _ rfl
    have g3 := hfs 3 _ rfl
    have g4 := hfs 4 _ rfl
    simp only [List.getElem?_cons_zero, List.getElem?_cons_succ] at g0 g1 g2 g3 g4
    obtain ⟨Ab, cb, l0, e0, r0, a0, b0⟩ := read_bytes_c g0 (hin y0 (by simp))
    obtain ⟨Ah, ch, l1, e1, r1, a1, b1, d1⟩ := read_name str_cells g1 (hin y1 (by simp))
    obtain ⟨Am, cm, l2, e2, r2, a2, b2, d2⟩ := read_name str_cells g2 (hin y2 (by simp))
    obtain ⟨An, cn, l3, e3, r3, a3, b3, d3⟩ := read_ints g3 (hin y3 (by simp))
    obtain ⟨At, ct, l4, e4, r4, a4, b4, d4⟩ := read_name str_cells g4 (hin y4 (by simp))
    subst e0 e1 e2 e3 e4
    exact ⟨⟨Ab, Ah, Am, An, At, cb, ch, cm, cn, ct⟩, ⟨l0, l1, l2, l3, l4⟩, rfl, ⟨r0, r1, r2, r3, r4, a0, d1, d2, a3, d4, b0, b3⟩, ⟨a1, a2, a4, b1, b2, b4, d3⟩⟩

end Go.Proofs.Ytjkjhpaeckkpjaa

namespace Go.Proofs.Ytjkjhpaeckkpjaa
open Go.ChangeShapes Go.WideShapes Go.ChangeAt Go.RowKit

set_option maxRecDepth 20000 in
theorem read_data {H : Type} {enc : TypeId × Value → H} {W : World} {fuel : Nat} {cs : List Value} {z : DataW H × List MemPlace}
    (h : DataW.trod enc Try.prog W 0 (fun _ => true) true fuel 46 cs = some z) (hlt : ∀ y ∈ z.2, y.block < W.heap.size) :
    ∃ (x : DV) (dd : Dt), cs = cellsD (x, dd) ∧ DataAt W W.heap.size x dd ∧ DIn dd := by
  obtain ⟨xs, k, _, hx, hcl, hxl, hfs⟩ := DataW.trod_struct Try.underlying46 h
  have hp : z.2 = xs.flatMap (·.2) := by simpa using congrArg Prod.snd hx
  have hin : ∀ z ∈ xs, ∀ y ∈ z.2, y.block < W.heap.size := fun z hz y hyz => hlt y (by rw [hp]; exact List.mem_flatMap.2 ⟨z, hz, hyz⟩)
  have hxl5 : xs.length = 5 := hxl
  have hc5 : cs.length = 5 := by rw [data_cells] at hcl; exact hcl
  clear hx hp h hcl
  match cs, hc5, xs, hxl5, hfs, hin with
  | [c0, c1, c2, c3, c4], _, [y0, y1, y2, y3, y4], _, hfs, hin =>
    have g0 := hfs 0 _ rfl
    have g1 := hfs 1 _ rfl
    have g2 := hfs 2 _ rfl
    have g3 := hfs 3 _ rfl
    have g4 := hfs 4 _ rfl
    simp only [List.getElem?_cons_zero, List.getElem?_cons_succ] at g0 g1 g2 g3 g4
    obtain ⟨Ab, cb, l0, e0, r0, a0, b0⟩ := read_bytes_c g0 (hin y0 (by simp))
    obtain ⟨Ah, ch, l1, e1, r1, a1, b1, d1⟩ := read_name str_cells g1 (hin y1 (by simp))
    obtain ⟨Am, cm, l2, e2, r2, a2, b2, d2⟩ := read_name str_cells g2 (hin y2 (by simp))
    obtain ⟨An, cn, l3, e3, r3, a3, b3, d3⟩ := read_ints g3 (hin y3 (by simp))
    obtain ⟨At, ct, l4, e4, r4, a4, b4, d4⟩ := read_name str_cells g4 (hin y4 (by simp))
    subst e0 e1 e2 e3 e4
    exact ⟨⟨Ab, Ah, Am, An, At, cb, ch, cm, cn, ct⟩, ⟨l0, l1, l2, l3, l4⟩, rfl, ⟨r0, r1, r2, r3, r4, a0, d1, d2, a3, d4, b0, b3⟩, ⟨a1, a2, a4, b1, b2, b4, d3⟩⟩
theorem DIn.wide {d : Dt} (h : DIn d) : Wide d := ⟨⟨h.h, h.lh⟩, ⟨h.m, h.lm⟩, h.t⟩

set_option maxRecDepth 20000 in
theorem read_rr {H : Type} {enc : TypeId × Value → H} {W : World} {fuel : Nat} {cs : List Value} {z : DataW H × List MemPlace}
    (h : DataW.trod enc Try.prog W 0 (fun _ => true) true fuel 48 cs = some z) (hlt : ∀ y ∈ z.2, y.block < W.heap.size) :
    ∃ (x : RV) (r : Rt), cs = cellsR (x, r) ∧ RAt W W.heap.size x r ∧ RIn r := by
  obtain ⟨xs, k, _, hx, hcl, hxl, hfs⟩ := DataW.trod_struct Try.underlying48 h
  have hp : z.2 = xs.flatMap (·.2) := by simpa using congrArg Prod.snd hx
  have hin : ∀ z ∈ xs, ∀ y ∈ z.2, y.block < W.heap.size := fun z hz y hyz => hlt y (by rw [hp]; exact List.mem_flatMap.2 ⟨z, hz, hyz⟩)
  have hxl5 : xs.length = 5 := hxl
  have hc9 : cs.length = 9 := by rw [rr_cells] at hcl; exact hcl
  clear hx hp h hcl
  match cs, hc9, xs, hxl5, hfs, hin with
  | [c0, c1, c2, c3, c4, c5, c6, c7, c8], _, [y0, y1, y2, y3, y4], _, hfs, hin =>
    have g0 := hfs 0 _ rfl
    have g1 := hfs 1 _ rfl
    have g2 := hfs 2 _ rfl
    have g3 := hfs 3 _ rfl
    have g4 := hfs 4 _ rfl
    simp only [List.getElem?_cons_zero, List.getElem?_cons_succ] at g0 g1 g2 g3 g4
    obtain ⟨An, cn, n, e0, hRn, hn1, hn2, hn3⟩ := read_name str_cells g0 (hin y0 (by simp))
    obtain ⟨z1, e1, _, w1⟩ := DataW.trod_int Try.underlying3 g1
    obtain ⟨z2, e2, _, w2⟩ := DataW.trod_int Try.underlying3 g2
    obtain ⟨z3, e3, _, w3⟩ := DataW.trod_int Try.underlying3 g3
    obtain ⟨x, dd, e4, hd, hi⟩ := read_data g4 (hin y4 (by simp))
    cases e1; cases e2; cases e3
    subst e0
    unfold cellsD at e4
    injection e4 with f0 e4
    injection e4 with f1 e4
    injection e4 with f2 e4
    injection e4 with f3 e4
    injection e4 with f4 _
    subst f0 f1 f2 f3 f4
    exact ⟨⟨An, cn, x⟩, ⟨n, z1, z2, z3, dd⟩, rfl, ⟨hRn, hn3, hd⟩, ⟨⟨hn1, hn2⟩, w1, w2, w3, hi.wide, hi.lt, hi.n⟩⟩

theorem addr_add_add (a : Addr) (m n : Nat) : (a.add m).add n = a.add (m + n) := by
  unfold Addr.add
  by_cases h1 : m = 0 <;> by_cases h2 : n = 0 <;> simp [h1, h2] <;> omega
set_option maxRecDepth 20000 in
/-- A slice of things that take k cells each, as it is read. -/
theorem open_parts {α : Type} (f : α → List Value) (k : Nat) (hf : ∀ p, (f p).length = k) (hk : 0 < k) (Q : World → Nat → α → Prop) {H : Type} {enc : TypeId × Value → H} {W : World} {base : Nat} {t e : TypeId} {v : Value} {d : DataW H} {p : List MemPlace}
    (ht : Try.prog.underlying t = some (.slice e)) (hce : Try.prog.cellsOf e = k) (hs : ∀ p : α, ∃ u, (f p)[0]? = some u)
    (hr : ∀ (fuel : Nat) (cs : List Value) (z : DataW H × List MemPlace), DataW.trod enc Try.prog W 0 (fun _ => true) true fuel e cs = some z → (∀ y ∈ z.2, y.block < W.heap.size) → ∃ p, cs = f p ∧ Q W W.heap.size p)
    (hval : Value.okWide Try.prog W .any base t v) (h : DataW.Trod enc Try.prog W 0 (fun _ => true) true t v d p) (hlt : ∀ x ∈ p, x.block < W.heap.size) :
    ∃ (A : Option Addr) (c : Nat) (ps : List α), v = .slice A ps.length c ∧ Row W W.heap.size A (ps.flatMap f) ∧ (∀ p ∈ ps, Q W W.heap.size p) ∧ ps.length ≤ c ∧ c ≤ maxLen := by
  obtain ⟨a0, len, cap, rfl⟩ := okWide_slice ht hval
  obtain ⟨fuel, hf1⟩ := h
  rcases Deep.open_slice ht hf1 with ⟨hcs, hx⟩ | ⟨a, len', cap', m, n, D, Pl, hcs, _, hl, hm, hmm, hx, hy⟩
  · simp [Value.cells] at hcs
    obtain ⟨rfl, rfl, rfl⟩ := hcs
    exact ⟨none, 0, [], rfl, Row.empty _ _ _, fun p h => absurd h (List.not_mem_nil), Nat.zero_le _, Nat.zero_le _⟩
  · simp [Value.cells] at hcs
    obtain ⟨rfl, rfl, rfl⟩ := hcs
    simp only [if_true] at hmm
    subst hmm
    simp only [Prod.mk.injEq] at hx
    obtain ⟨rfl, rfl⟩ := hx
    rw [hce] at hy hlt
    rcases Nat.eq_zero_or_pos len with rfl | hpos
    · exact ⟨some a, m, [], rfl, Row.empty _ _ _, fun p h => absurd h (List.not_mem_nil), Nat.zero_le _, hm⟩
    have each : ∀ i, i < len → ∃ y : α, (∀ j v, (f y)[j]? = some v → W.cell? (a.add (i * k + j)) = some v) ∧ Q W W.heap.size y := by
      intro i hi
      obtain ⟨cs, hc, hr1⟩ := hy i (by omega)
      obtain ⟨y, rfl, hq⟩ := hr _ _ _ hr1 fun y hyz => hlt y (List.mem_append_right _ (List.mem_flatMap.2 ⟨i, List.mem_range.2 (by omega), hyz⟩))
      obtain ⟨_, _, hat⟩ := World.cells?_some hc
      refine ⟨y, fun j v hj => ?_, hq⟩
      have hjk : j < k := by
        have := (List.getElem?_eq_some_iff.1 hj).1
        rwa [hf] at this
      have := hat j hjk
      rw [hj, addr_add_add] at this
      exact this
    obtain ⟨y0, hy0, _⟩ := each 0 hpos
    obtain ⟨u0, hu0⟩ := hs y0
    obtain ⟨b, off, spot⟩ := a
    have hspot : spot = none := by
      have h := World.cell?_spot (hy0 0 _ hu0)
      simpa [Addr.add] using h
    subst hspot
    haveI : Inhabited α := ⟨y0⟩
    obtain ⟨Y, hY⟩ := Deep.choose_lt each
    have hnl : ((List.range len).map Y).length = len := by simp
    refine ⟨some ⟨b, off, none⟩, m, (List.range len).map Y, by rw [hnl], fun _ => ⟨b, off, rfl, hlt (.cell b off) (List.mem_append_left _ (MemPlace.mem_row.2 ⟨0, Nat.mul_pos (by omega) hk, by simp⟩)), fun j u hu => ?_⟩, fun p hp => ?_, by rw [hnl]; exact hl, hm⟩
    · have hj := (List.getElem?_eq_some_iff.1 hu).1
      rw [length_flat hf, hnl] at hj
      have hq : j / k < len := (Nat.div_lt_iff_lt_mul hk).2 hj
      have hr := Nat.mod_lt j hk
      have e : j = j / k * k + j % k := by rw [Nat.mul_comm]; exact (Nat.div_add_mod j k).symm
      have h1 := (hY (j / k) hq).1 (j % k) u
      rw [e, flat_get hf _ _ _ (by rw [hnl]; exact hq) hr] at hu
      rw [← e, addr_add] at h1
      exact h1 (by simpa using hu)
    · obtain ⟨i, hi, rfl⟩ := List.mem_map.1 hp
      exact (hY i (List.mem_range.1 hi)).2

set_option maxRecDepth 20000 in
theorem open_rrs {H : Type} {enc : TypeId × Value → H} {W : World} {base : Nat} {t : TypeId} {v : Value} {d : DataW H} {p : List MemPlace} (ht : Try.prog.underlying t = some (.slice 48))
    (hval : Value.okWide Try.prog W .any base t v) (h : DataW.Trod enc Try.prog W 0 (fun _ => true) true t v d p) (hlt : ∀ x ∈ p, x.block < W.heap.size) :
    ∃ (A : Option Addr) (c : Nat) (ps : List (RV × Rt)), v = .slice A ps.length c ∧ RsAt W W.heap.size A ps ∧ (∀ p ∈ ps, RIn p.2) ∧ ps.length ≤ c ∧ c ≤ maxLen := by
  obtain ⟨A, c, ps, hv, hR, hQ, h1, h2⟩ := open_parts cellsR 9 cellsR_len (by omega) (fun W H p => RAt W H p.1 p.2 ∧ RIn p.2) ht rr_cells (fun p => ⟨_, rfl⟩)
    (fun fuel cs z hz hlz => by
      obtain ⟨x, r, e, h1, h2⟩ := read_rr hz hlz
      exact ⟨(x, r), e, h1, h2⟩) hval h hlt
  exact ⟨A, c, ps, hv, ⟨hR, fun p hp => (hQ p hp).1⟩, fun p hp => (hQ p hp).2, h1, h2⟩
set_option maxRecDepth 20000 in
theorem open_dats {H : Type} {enc : TypeId × Value → H} {W : World} {base : Nat} {t : TypeId} {v : Value} {d : DataW H} {p : List MemPlace} (ht : Try.prog.underlying t = some (.slice 46))
    (hval : Value.okWide Try.prog W .any base t v) (h : DataW.Trod enc Try.prog W 0 (fun _ => true) true t v d p) (hlt : ∀ x ∈ p, x.block < W.heap.size) :
    ∃ (A : Option Addr) (c : Nat) (ps : List (DV × Dt)), v = .slice A ps.length c ∧ DsAt W W.heap.size A ps ∧ (∀ p ∈ ps, DIn p.2) ∧ ps.length ≤ c ∧ c ≤ maxLen := by
  obtain ⟨A, c, ps, hv, hR, hQ, h1, h2⟩ := open_parts cellsD 5 cellsD_len (by omega) (fun W H p => DataAt W H p.1 p.2 ∧ DIn p.2) ht data_cells (fun p => ⟨_, rfl⟩)
    (fun fuel cs z hz hlz => by
      obtain ⟨x, r, e, h1, h2⟩ := read_data hz hlz
      exact ⟨(x, r), e, h1, h2⟩) hval h hlt
  exact ⟨A, c, ps, hv, ⟨hR, fun p hp => (hQ p hp).1⟩, fun p hp => (hQ p hp).2, h1, h2⟩

end Go.Proofs.Ytjkjhpaeckkpjaa

namespace Go.Proofs.Ytjkjhpaeckkpjaa
open Go.ChangeShapes Go.WideShapes Go.ChangeAt Go.RowKit

theorem quest_cells : Try.prog.cellsOf 42 = 3 := by kernel_rfl

set_option maxRecDepth 20000 in
theorem open_question {H : Type} {enc : TypeId × Value → H} {W : World} {base : Nat} {v : Value} {d : DataW H} {p : List MemPlace}
    (hval : Value.okWide Try.prog W .any base 42 v) (h : DataW.Trod enc Try.prog W 0 (fun _ => true) true 42 v d p) (hlt : ∀ x ∈ p, x.block < W.heap.size) :
    ∃ (y : QV) (q : Qt), v = .agg #[.slice y.1 q.name.length y.2, .int .i64 q.kind, .int .i64 q.cls] ∧ QAt W W.heap.size y q ∧ WideN q.name ∧ (Lit.int .i64 q.kind).wf = true ∧ (Lit.int .i64 q.cls).wf = true := by
  unfold Value.okWide at hval
  rw [Try.underlying42] at hval
  obtain ⟨cs0, rfl, hsz, _⟩ := hval
  obtain ⟨fuel, hf⟩ := h
  obtain ⟨xs, k, _, hx, hcl, hxl, hfs⟩ := DataW.trod_struct Try.underlying42 hf
  obtain ⟨cs⟩ := cs0
  simp only [Value.cells] at hf hcl hfs
  have hp : p = xs.flatMap (·.2) := by simpa using congrArg Prod.snd hx
  have hin : ∀ z ∈ xs, ∀ y ∈ z.2, y.block < W.heap.size := fun z hz y hyz => hlt y (by rw [hp]; exact List.mem_flatMap.2 ⟨z, hz, hyz⟩)
  have hxl3 : xs.length = 3 := hxl
  have hc3 : cs.length = 3 := by rw [quest_cells] at hcl; simpa using hcl
  clear hx hp hf hcl hsz
  match cs, hc3, xs, hxl3, hfs, hin with
  | [c0, c1, c2], _, [y0, y1, y2], _, hfs, hin =>
    have g0 := hfs 0 _ rfl
    have g1 := hfs 1 _ rfl
    have g2 := hfs 2 _ rfl
    simp only [List.getElem?_cons_zero, List.getElem?_cons_succ] at g0 g1 g2
    obtain ⟨An, cn, n, e0, hRn, hn1, hn2, _⟩ := read_name str_cells g0 (hin y0 (by simp))
    obtain ⟨z1, e1, _, w1⟩ := DataW.trod_int Try.underlying3 g1
    obtain ⟨z2, e2, _, w2⟩ := DataW.trod_int Try.underlying3 g2
    cases e1
    cases e2
    subst e0
    exact ⟨(An, cn), ⟨n, z1, z2⟩, rfl, hRn, ⟨hn1, hn2⟩, w1, w2⟩

end Go.Proofs.Ytjkjhpaeckkpjaa

namespace Go.Proofs.Ytjkjhpaeckkpjaa
open Go.RowKit

/-- Has a record few parts, its bytes apart? -/
def fewR (r : Rt) : Bool := decide (r.name.length ≤ 200) && (decide (r.data.host.length ≤ 200) && (decide (r.data.mail.length ≤ 200) && (decide (r.data.texts.length ≤ 100) && decide (r.data.nums.length ≤ 100))))
def sumB (rs : List Rt) : Nat := (rs.map fun r => r.data.bytes.length).sum
def fewQ (q : Qt) : Bool := decide (q.name.length ≤ 200)
def lightM (m : Mt) : Bool := decide (m.all.length ≤ 600) && (decide (m.qs.length ≤ 600) && (m.all.all fewR && (m.qs.all fewQ && decide (sumB m.all < 200000))))
theorem sumB_append (a b : List Rt) : sumB (a ++ b) = sumB a + sumB b := by simp [sumB]
theorem len_le_sumB {rs : List Rt} {r : Rt} (h : r ∈ rs) : r.data.bytes.length ≤ sumB rs := by
  induction rs with
  | nil => exact absurd h (List.not_mem_nil)
  | cons x rs ih =>
    have e : sumB (x :: rs) = x.data.bytes.length + sumB rs := by simp [sumB]
    rcases List.mem_cons.1 h with rfl | h
    · omega
    · have := ih h
      omega
/-- What a light message is. -/
structure LightM (m : Mt) : Prop where
  n : m.all.length ≤ 600
  q : m.qs.length ≤ 600
  r : ∀ r ∈ m.all, LightR r
  k : ∀ q ∈ m.qs, q.name.length ≤ 200
theorem lightM_iff {m : Mt} (h : lightM m = true) : LightM m := by
  unfold lightM at h
  simp only [Bool.and_eq_true, decide_eq_true_eq, List.all_eq_true] at h
  obtain ⟨h0, h1, h2, h3, h4⟩ := h
  refine ⟨h0, h1, fun r hr => ?_, fun q hq => by have := h3 q hq; unfold fewQ at this; simpa using this⟩
  have h5 := h2 r hr
  unfold fewR at h5
  simp only [Bool.and_eq_true, decide_eq_true_eq] at h5
  obtain ⟨e0, e1, e2, e3, e4⟩ := h5
  exact ⟨e0, e1, e2, e3, e4, by have := len_le_sumB hr; omega⟩

theorem sumB_le {M : Nat} : ∀ {rs : List Rt}, (∀ r ∈ rs, r.data.bytes.length ≤ M) → sumB rs ≤ rs.length * M
  | [], _ => Nat.zero_le _
  | r :: rs, h => by
    have h1 := sumB_le (rs := rs) fun x hx => h x (List.mem_cons_of_mem _ hx)
    have h2 := h r (List.mem_cons_self)
    have e : sumB (r :: rs) = r.data.bytes.length + sumB rs := by simp [sumB]
    rw [e, List.length_cons, Nat.succ_mul]
    omega
theorem qsts_step {ps : List (QV × Qt)} {k : Nat} (hk : k < ps.length) : qsts (ps.take (k + 1)) = qsts (ps.take k) ++ [(ps[k]).2] := by
  rw [List.take_succ_eq_append_getElem hk, qsts_append]
  rfl
def SumRelL (W : World) (ps : List (RV × Rt)) (s i : Value) (wr : World) : Prop := ∃ k : Nat, k ≤ ps.length ∧ i = .int .i64 k ∧ s = .int .i64 (sumB (recs (ps.take k)) : Nat) ∧ (recs (ps.take k)).all fewR = true ∧ Below W.heap.size W wr
def FewQRel (w : World) (L : List Value) (qp : List (QV × Qt)) (i : Value) (wr : World) : Prop := ∃ k : Nat, k ≤ qp.length ∧ i = .int .i64 k ∧ (qsts (qp.take k)).all fewQ = true ∧ Whole wr w.heap.size 25 L ∧ Below w.heap.size w wr
def AllRel (w : World) (L : List Value) (ps : List (RV × Rt)) (v : Value) (wx : World) : Prop :=
  ∃ (A : Option Addr) (c : Nat), v = .slice A ps.length c ∧ Row wx wx.heap.size A (ps.flatMap cellsR) ∧ Whole wx w.heap.size 25 L ∧ Below w.heap.size w wx
set_option maxRecDepth 20000 in
set_option maxHeartbeats 8000000 in
theorem light_core (w : World) (m : MV) (h : Hd) (qA : Option Addr) (qc : Nat) (qp : List (QV × Qt)) (A0 A1 A2 : Option Addr) (k0 k1 k2 : Nat) (p0 p1 p2 : List (RV × Rt)) (he : m = ⟨h, qA, qc, qp, ⟨A0, k0, p0⟩, ⟨A1, k1, p1⟩, ⟨A2, k2, p2⟩⟩) (hm : MAt w w.heap.size m)
    (hn : (p0.length + p1.length + p2.length) * 168 ≤ 140737488355328) (hq : qp.length ≤ maxLen) (hql : ∀ p ∈ qp, p.2.name.length ≤ maxLen) (hb : ∀ r ∈ m.msg.all, r.data.bytes.length ≤ 140737488355328) :
    Calls Try.prog 11 #[valM h (.slice qA qp.length qc) (.slice A0 p0.length k0) (.slice A1 p1.length k1) (.slice A2 p2.length k2)] w (Gave w (.bool (lightM m.msg))) := by
  obtain ⟨i0, hi0, hz0, hz1, hz2⟩ := info_parts rr_info
  obtain ⟨W, hW⟩ : ∃ W, W = w.alloc (.cells #[.int .i64 h.id, .bool h.resp, .int .i64 h.op, .bool h.aa, .bool h.tc, .bool h.rd, .bool h.ra, .int .i64 h.rc, .slice qA qp.length qc, .slice A0 p0.length k0, .slice A1 p1.length k1, .slice A2 p2.length k2, .bool h.edns, .int .i64 h.size] 25) := ⟨_, rfl⟩
  have hB : Below w.heap.size w W := by rw [hW]; exact (Below.refl _ _).alloc (Nat.le_refl _) _
  have hzW : W.heap.size = w.heap.size + 1 := by rw [hW]; simp
  have hwm : Whole W w.heap.size 25 (cellsM h (.slice qA qp.length qc) (.slice A0 p0.length k0) (.slice A1 p1.length k1) (.slice A2 p2.length k2)) := by rw [hW]; exact Whole.made w [.int .i64 h.id, .bool h.resp, .int .i64 h.op, .bool h.aa, .bool h.tc, .bool h.rd, .bool h.ra, .int .i64 h.rc, .slice qA qp.length qc, .slice A0 p0.length k0, .slice A1 p1.length k1, .slice A2 p2.length k2, .bool h.edns, .int .i64 h.size] _
  have hbl : Below W.heap.size W (W.alloc (.cells #[] 48)).drew := ((Below.refl _ _).alloc (Nat.le_refl _) _).drew
  have HL := Lib.hid (show (W.alloc (.cells #[] 48)).drew.ownsRow (w.heap.size + 1) 48 9 (.slice (some ⟨w.heap.size + 1, 0, none⟩) 0 0) 0 [] from by
    have h1 := own_lit W 48 9
    rw [hzW] at h1
    exact own_keep h1 fun _ _ => rfl)
  have HBL := Lib.hid (hB.trans (hbl.mono hB.size))
  have HWL := Lib.hid (hwm.below hbl hwm.lt)
  have hzl : w.heap.size + 1 ≤ (W.alloc (.cells #[] 48)).drew.heap.size := by have := hbl.size; omega
  have HZL := Lib.hid hzl
  have HS0 := Lib.hid (fun W' (hb : Below w.heap.size w W') => (show RsAt W' w.heap.size A0 p0 by have h2 := hm.s0.below hb; rw [he] at h2; exact h2))
  have HS1 := Lib.hid (fun W' (hb : Below w.heap.size w W') => (show RsAt W' w.heap.size A1 p1 by have h2 := hm.s1.below hb; rw [he] at h2; exact h2))
  have HS2 := Lib.hid (fun W' (hb : Below w.heap.size w W') => (show RsAt W' w.heap.size A2 p2 by have h2 := hm.s2.below hb; rw [he] at h2; exact h2))
  have HQ := Lib.hid (fun W' (hb : Below w.heap.size w W') => (show QsAt W' w.heap.size qA qp by have h2 := hm.q.below hb; rw [he] at h2; exact h2))
  have HE := Lib.hid he
  have HBY := Lib.hid (show ∀ r ∈ recs (p0 ++ p1 ++ p2), r.data.bytes.length ≤ 140737488355328 by intro r hr; refine hb r ?_; rw [he]; show r ∈ recs p0 ++ (recs p1 ++ recs p2); simpa [recs_append] using hr)
  have c9 : (W.alloc (.cells #[] 48)).drew.cell? ⟨w.heap.size, 9, none⟩ = some (.slice A0 p0.length k0) := HWL.out.cell 9
  have c10 : (W.alloc (.cells #[] 48)).drew.cell? ⟨w.heap.size, 10, none⟩ = some (.slice A1 p1.length k1) := HWL.out.cell 10
  have c11 : (W.alloc (.cells #[] 48)).drew.cell? ⟨w.heap.size, 11, none⟩ = some (.slice A2 p2.length k2) := HWL.out.cell 11
  clear hB hwm hbl hm he hb hzl hzW
  subst hW
  go_enter Try.func11, Try.ntmps11
  go_upto_region 1 with fail
  go_cut [3] from 8 to 17 (fun s3 wx => AllRel w (cellsM h (.slice qA qp.length qc) (.slice A0 p0.length k0) (.slice A1 p1.length k1) (.slice A2 p2.length k2)) (p0 ++ p1 ++ p2) s3 wx)
  case first =>
   go_region_law (first
     | (refine step_append_any rfl (.tmp 8) (.tmp 10) _ rfl (w.heap.size + 1) 48 i0 _ 9 168 Try.underlying23 hi0 hz0 hz1 hz2 rfl (by omega) (.slice (some ⟨w.heap.size + 1, 0, none⟩) 0 0) 0 _ rfl HL.out
          A0 p0.length k0 w.heap.size (p0.flatMap cellsR) rfl (length_flat cellsR_len p0) (HS0.out _ HBL.out).1 (cellsR_one p0) (by unfold maxLen; omega) (by omega) HZL.out ?_
        intro v1 w1 hown1 hg1
        rw [Nat.zero_add, List.nil_append] at hown1
        have HB1 := Lib.hid (own_below HBL.out (Nat.le_succ _) HBL.out.size HL.out hg1)
        have HW1 := Lib.hid (HWL.out.grown hg1 (by simp [Value.ownBlock]))
        have HZ1 := Lib.hid (Nat.le_trans HZL.out hg1.size)
        obtain ⟨B1, d1, rfl, _, _⟩ := own_form hown1
        have HO1 := Lib.hid hown1
        have c10 : w1.cell? ⟨w.heap.size, 10, none⟩ = some (.slice A1 p1.length k1) := HW1.out.cell 10
        have c11 : w1.cell? ⟨w.heap.size, 11, none⟩ = some (.slice A2 p2.length k2) := HW1.out.cell 11
        clear hown1 hg1)
     | (refine step_append_any rfl (.tmp 11) (.tmp 13) _ rfl (w.heap.size + 1) 48 i0 _ 9 168 Try.underlying23 hi0 hz0 hz1 hz2 rfl (by omega) (.slice B1 p0.length d1) p0.length _ rfl HO1.out
          A1 p1.length k1 w.heap.size (p1.flatMap cellsR) rfl (length_flat cellsR_len p1) (HS1.out _ HB1.out).1 (cellsR_one p1) (by unfold maxLen; omega) (by omega) HZ1.out ?_
        intro v2 w2 hown2 hg2
        have HB2 := Lib.hid (own_below HB1.out (Nat.le_succ _) HB1.out.size HO1.out hg2)
        have HW2 := Lib.hid (HW1.out.grown hg2 (fun h => by have := (HO1.out.lt _ h.symm).1; omega))
        have HZ2 := Lib.hid (Nat.le_trans HZ1.out hg2.size)
        obtain ⟨B2, d2, rfl, _, _⟩ := own_form hown2
        have HO2 := Lib.hid hown2
        have c11 : w2.cell? ⟨w.heap.size, 11, none⟩ = some (.slice A2 p2.length k2) := HW2.out.cell 11
        clear hown2 hg2)
     | (refine step_append_any rfl (.tmp 14) (.tmp 16) _ rfl (w.heap.size + 1) 48 i0 _ 9 168 Try.underlying23 hi0 hz0 hz1 hz2 rfl (by omega) (.slice B2 (p0.length + p1.length) d2) (p0.length + p1.length) _ rfl HO2.out
          A2 p2.length k2 w.heap.size (p2.flatMap cellsR) rfl (length_flat cellsR_len p2) (HS2.out _ HB2.out).1 (cellsR_one p2) (by unfold maxLen; omega) (by omega) HZ2.out ?_
        intro v3 w3 hown3 hg3
        have HB3 := Lib.hid (own_below HB2.out (Nat.le_succ _) HB2.out.size HO2.out hg3)
        have HW3 := Lib.hid (HW2.out.grown hg3 (fun h => by have := (HO2.out.lt _ h.symm).1; omega))
        obtain ⟨B3, d3, rfl, _, _⟩ := own_form hown3
        have HO3 := Lib.hid hown3
        clear hown3 hg3))
   all_goals
    have HRR := Lib.hid (show AllRel w (cellsM h (.slice qA qp.length qc) (.slice A0 p0.length k0) (.slice A1 p1.length k1) (.slice A2 p2.length k2)) (p0 ++ p1 ++ p2) (.slice B3 (p0.length + p1.length + p2.length) d3) w3 from
      ⟨B3, d3, by rw [List.length_append, List.length_append], by rw [List.flatMap_append, List.flatMap_append]; exact Row.of_own HO3.out, HW3.out, HB3.out⟩)
    go_wp2
    go_meet
    exact HRR.out
  case rest =>
    obtain ⟨A, c, rfl, hrow, hw, hb⟩ := hcut
    have HB := Lib.hid hb
    have HW := Lib.hid hw
    have HPS := Lib.hid (show RsAt wc wc.heap.size A (p0 ++ p1 ++ p2) from ⟨hrow, fun p hp => by
      rcases List.mem_append.1 hp with h1 | h1
      · rcases List.mem_append.1 h1 with h1 | h1
        · exact ((HS0.out _ hb).2 p h1).mono hb.size
        · exact ((HS1.out _ hb).2 p h1).mono hb.size
      · exact ((HS2.out _ hb).2 p h1).mono hb.size⟩)
    have HLM := Lib.hid (show lightM m.msg = (decide ((p0 ++ p1 ++ p2).length ≤ 600) && (decide (qp.length ≤ 600) && ((recs (p0 ++ p1 ++ p2)).all fewR && ((qsts qp).all fewQ && decide (sumB (recs (p0 ++ p1 ++ p2)) < 200000))))) from by
      have e1 : m.msg.all = recs (p0 ++ p1 ++ p2) := by rw [HE.out]; show recs p0 ++ (recs p1 ++ recs p2) = _; simp [recs_append]
      have e2 : m.msg.qs = qsts qp := by rw [HE.out]; rfl
      unfold lightM
      rw [e1, e2, length_recs, length_qsts])
    have c8 : wc.cell? ⟨w.heap.size, 8, none⟩ = some (.slice qA qp.length qc) := Whole.cell hw 8
    have hlp : (p0 ++ p1 ++ p2).length * 168 ≤ 140737488355328 := by rw [List.length_append, List.length_append]; exact hn
    clear hrow hw hb HS0 HS1 HS2 HBL HWL HZL HL hn
    revert HBY HPS HLM hlp
    generalize p0 ++ p1 ++ p2 = ps
    intro HBY HPS HLM hlp
    unfold maxLen at hq
    by_cases e0 : ps.length ≤ 600
    case neg =>
      have d0 : decide ((600 : Int) < (ps.length : Int)) = true := by rw [decide_eq_true_eq]; omega
      rw [decide_eq_false e0] at HLM
      go_wp2
      go_ret
      exact ⟨by rw [HLM.out]; rfl, HB.out⟩
    have d0 : decide ((600 : Int) < (ps.length : Int)) = false := decide_eq_false (by omega)
    rw [decide_eq_true e0] at HLM
    by_cases e1 : qp.length ≤ 600
    case neg =>
      have d1 : decide ((600 : Int) < (qp.length : Int)) = true := by rw [decide_eq_true_eq]; omega
      rw [decide_eq_false e1] at HLM
      go_wp2
      go_ret
      exact ⟨by rw [HLM.out]; rfl, HB.out⟩
    have d1 : decide ((600 : Int) < (qp.length : Int)) = false := decide_eq_false (by omega)
    rw [decide_eq_true e1] at HLM
    go_wp2
    clear d0 d1 c8
    go_loopw [4, 5] (SumRelL wc ps) (fun _ i _ => ps.length - (intOf i).toNat)
    case atStart => exact ⟨0, Nat.zero_le _, rfl, rfl, rfl, Below.refl _ _⟩
    case round =>
    obtain ⟨k, hk, rfl, rfl, hal, hbr⟩ := hrel
    have HAL := Lib.hid hal
    have HBR := Lib.hid hbr
    have HB1 := Lib.hid (HB.out.trans (hbr.mono HB.out.size))
    have hz := hbr.size
    have hzz := HB.out.size
    have hsum : sumB (recs (ps.take k)) ≤ 600 * 140737488355328 := by
      have h1 := sumB_le (rs := recs (ps.take k)) (M := 140737488355328) fun r hr => HBY.out r (by
        obtain ⟨p, hp, rfl⟩ := List.mem_map.1 hr
        exact List.mem_map.2 ⟨p, List.mem_of_mem_take hp, rfl⟩)
      have h2 : (recs (ps.take k)).length ≤ 600 := by rw [length_recs, List.length_take]; omega
      exact Nat.le_trans h1 (Nat.mul_le_mul_right _ h2)
    clear hal hbr
    by_cases hlt : k < ps.length
    · obtain ⟨b, off, rfl, hbH, hra, q0, q1, q2, q3, q4, q5, q6, q7, q8⟩ := (show RsAt wr wc.heap.size A ps from HPS.out.below HBR.out).at_ hlt
      have hby := HBY.out _ (List.mem_map.2 ⟨ps[k], List.getElem_mem hlt, rfl⟩)
      have HF := Lib.hid (show fewR (ps[k]).2 = false → (recs ps).all fewR = false by
        intro h
        rw [List.all_eq_false]
        exact ⟨(ps[k]).2, List.mem_map.2 ⟨ps[k], List.getElem_mem hlt, rfl⟩, by rw [h]; decide⟩)
      have HT := Lib.hid (show fewR (ps[k]).2 = true → (recs (ps.take (k + 1))).all fewR = true by
        intro h
        rw [recs_at hlt, List.all_append, HAL.out]
        simp [h])
      have HSU := Lib.hid (show sumB (recs (ps.take (k + 1))) = sumB (recs (ps.take k)) + (ps[k]).2.data.bytes.length by
        rw [recs_at hlt, sumB_append]
        simp [sumB])
      clear hra
      revert hby q0 q1 q2 q3 q4 q5 q6 q7 q8 HF HT HSU
      generalize ps[k] = p
      obtain ⟨x, r⟩ := p
      intro q0 q1 q2 q3 q4 q5 q6 q7 q8 hby HF HT HSU
      dsimp only at *
      have r0 : (wr.alloc (.cells #[.slice x.d.Ab r.data.bytes.length x.d.cb, .slice x.d.Ah r.data.host.length x.d.ch, .slice x.d.Am r.data.mail.length x.d.cm, .slice x.d.An r.data.nums.length x.d.cn, .slice x.d.At r.data.texts.length x.d.ct] 46)).cell? ⟨b, off + k * 9, none⟩ = some (.slice x.A r.name.length x.c) := (World.cell?_alloc_lt wr _ ⟨b, off + k * 9, none⟩ (by dsimp only; omega)).trans q0
      have HB2 := Lib.hid (HB1.out.alloc (by omega) (.cells #[.slice x.d.Ab r.data.bytes.length x.d.cb, .slice x.d.Ah r.data.host.length x.d.ch, .slice x.d.Am r.data.mail.length x.d.cm, .slice x.d.An r.data.nums.length x.d.cn, .slice x.d.At r.data.texts.length x.d.ct] 46))
      have HBR2 := Lib.hid (HBR.out.alloc hz (.cells #[.slice x.d.Ab r.data.bytes.length x.d.cb, .slice x.d.Ah r.data.host.length x.d.ch, .slice x.d.Am r.data.mail.length x.d.cm, .slice x.d.An r.data.nums.length x.d.cn, .slice x.d.At r.data.texts.length x.d.ct] 46))
      by_cases e2 : r.name.length ≤ 200
      case neg =>
        have d2 : decide ((200 : Int) < (r.name.length : Int)) = true := by simp; omega
        have HX := Lib.hid (HF.out (by unfold fewR; rw [show decide (r.name.length ≤ 200) = false by simp; omega]; simp))
        go_wp2
        go_ret
        exact ⟨by rw [HLM.out, HX.out]; rfl, HB2.out⟩
      have d2 : decide ((200 : Int) < (r.name.length : Int)) = false := by simp; omega
      by_cases e3 : r.data.host.length ≤ 200
      case neg =>
        have d3 : decide ((200 : Int) < (r.data.host.length : Int)) = true := by simp; omega
        have HX := Lib.hid (HF.out (by unfold fewR; rw [show decide (r.data.host.length ≤ 200) = false by simp; omega]; simp))
        go_wp2
        go_ret
        exact ⟨by rw [HLM.out, HX.out]; rfl, HB2.out⟩
      have d3 : decide ((200 : Int) < (r.data.host.length : Int)) = false := by simp; omega
      by_cases e4 : r.data.mail.length ≤ 200
      case neg =>
        have d4 : decide ((200 : Int) < (r.data.mail.length : Int)) = true := by simp; omega
        have HX := Lib.hid (HF.out (by unfold fewR; rw [show decide (r.data.mail.length ≤ 200) = false by simp; omega]; simp))
        go_wp2
        go_ret
        exact ⟨by rw [HLM.out, HX.out]; rfl, HB2.out⟩
      have d4 : decide ((200 : Int) < (r.data.mail.length : Int)) = false := by simp; omega
      by_cases e5 : r.data.texts.length ≤ 100
      case neg =>
        have d5 : decide ((100 : Int) < (r.data.texts.length : Int)) = true := by simp; omega
        have HX := Lib.hid (HF.out (by unfold fewR; rw [show decide (r.data.texts.length ≤ 100) = false by simp; omega]; simp))
        go_wp2
        go_ret
        exact ⟨by rw [HLM.out, HX.out]; rfl, HB2.out⟩
      have d5 : decide ((100 : Int) < (r.data.texts.length : Int)) = false := by simp; omega
      by_cases e6 : r.data.nums.length ≤ 100
      case neg =>
        have d6 : decide ((100 : Int) < (r.data.nums.length : Int)) = true := by simp; omega
        have HX := Lib.hid (HF.out (by unfold fewR; rw [show decide (r.data.nums.length ≤ 100) = false by simp; omega]; simp))
        go_wp2
        go_ret
        exact ⟨by rw [HLM.out, HX.out]; rfl, HB2.out⟩
      have d6 : decide ((100 : Int) < (r.data.nums.length : Int)) = false := by simp; omega
      have HX := Lib.hid (HT.out (by unfold fewR; simp [e2, e3, e4, e5, e6]))
      go_wp2
      exact ⟨⟨k + 1, by omega, by go_num, by rw [HSU.out]; go_num, HX.out, HBR2.out⟩, by simp [intOf]; omega⟩
    · obtain rfl : k = ps.length := by omega
      have hal := HAL.out
      rw [List.take_length] at hsum hal ⊢
      rw [hal] at HLM
      have hwr : Whole wr w.heap.size 25 (cellsM h (.slice qA qp.length qc) (.slice A0 p0.length k0) (.slice A1 p1.length k1) (.slice A2 p2.length k2)) := HW.out.below HBR.out HW.out.lt
      have HWR := Lib.hid hwr
      have c8 : wr.cell? ⟨w.heap.size, 8, none⟩ = some (.slice qA qp.length qc) := Whole.cell hwr 8
      have HSS := Lib.hid hsum
      clear hal hwr HAL HBY HPS hlt
      revert HLM HSS hsum
      generalize sumB (recs ps) = S
      intro HLM hsum HSS
      go_wp2
      clear c8
      go_loopw [7] (FewQRel w (cellsM h (.slice qA qp.length qc) (.slice A0 p0.length k0) (.slice A1 p1.length k1) (.slice A2 p2.length k2)) qp) (fun i _ => qp.length - (intOf i).toNat)
      case atStart => exact ⟨0, Nat.zero_le _, rfl, rfl, HWR.out, HB1.out⟩
      case round =>
      obtain ⟨j, hj, rfl, haq, hwq, hbq⟩ := hrel
      have HAQ := Lib.hid haq
      have HBQ := Lib.hid hbq
      have HWQ := Lib.hid hwq
      have c8 : wr.cell? ⟨w.heap.size, 8, none⟩ = some (.slice qA qp.length qc) := Whole.cell hwq 8
      clear haq hwq hbq
      by_cases hlt : j < qp.length
      · obtain ⟨b, off, rfl, hbH, hqa, q0, q1, q2⟩ := (HQ.out _ HBQ.out).at_ hlt
        have hnl := hql _ (List.getElem_mem hlt)
        have HF := Lib.hid (show fewQ (qp[j]).2 = false → (qsts qp).all fewQ = false by
          intro h
          rw [List.all_eq_false]
          exact ⟨(qp[j]).2, List.mem_map.2 ⟨qp[j], List.getElem_mem hlt, rfl⟩, by rw [h]; decide⟩)
        have HT := Lib.hid (show fewQ (qp[j]).2 = true → (qsts (qp.take (j + 1))).all fewQ = true by
          intro h
          rw [qsts_step hlt, List.all_append, HAQ.out]
          simp [h])
        clear hqa
        revert hnl q0 q1 q2 HF HT
        generalize qp[j] = p
        obtain ⟨x, q⟩ := p
        intro q0 q1 q2 hnl HF HT
        dsimp only at *
        unfold maxLen at hnl
        by_cases e2 : q.name.length ≤ 200
        case neg =>
          have d2 : decide ((200 : Int) < (q.name.length : Int)) = true := by simp; omega
          have HX := Lib.hid (HF.out (by unfold fewQ; exact decide_eq_false e2))
          go_wp2
          go_ret
          exact ⟨by rw [HLM.out, HX.out]; rfl, HBQ.out⟩
        have d2 : decide ((200 : Int) < (q.name.length : Int)) = false := by simp; omega
        have HX := Lib.hid (HT.out (by unfold fewQ; exact decide_eq_true e2))
        go_wp2
        exact ⟨⟨j + 1, by omega, by go_num, HX.out, HWQ.out, HBQ.out⟩, by simp [intOf]; omega⟩
      · obtain rfl : j = qp.length := by omega
        have haq := HAQ.out
        rw [List.take_length] at haq
        rw [haq] at HLM
        go_wp2
        go_ret
        refine ⟨?_, HBQ.out⟩
        rw [HLM.out]
        simp
        omega
theorem light_any (w : World) (m : MV) (hm : MAt w w.heap.size m) (hn : (m.s0.ps.length + m.s1.ps.length + m.s2.ps.length) * 168 ≤ 140737488355328) (hq : m.qp.length ≤ maxLen) (hql : ∀ p ∈ m.qp, p.2.name.length ≤ maxLen)
    (hb : ∀ r ∈ m.msg.all, r.data.bytes.length ≤ 140737488355328) : Calls Try.prog 11 #[m.val] w (Gave w (.bool (lightM m.msg))) := by
  obtain ⟨h, qA, qc, qp, ⟨A0, k0, p0⟩, ⟨A1, k1, p1⟩, ⟨A2, k2, p2⟩⟩ := m
  exact light_core w _ h qA qc qp A0 A1 A2 k0 k1 k2 p0 p1 p2 rfl hm hn hq hql hb

end Go.Proofs.Ytjkjhpaeckkpjaa

namespace Go.Proofs.Ytjkjhpaeckkpjaa
open Go.ChangeShapes Go.WideShapes Go.ChangeAt Go.RowKit

theorem bulk_pos {H : Type} (d : DataW H) : 1 ≤ Rows.uptoBulk d := by
  cases d with
  | lit l => cases l <;> simp [Rows.uptoBulk]
  | _ => simp [Rows.uptoBulk]
theorem bulk_len {H : Type} : ∀ l : List (DataW H), l.length ≤ Rows.uptoBulkAll l
  | [] => by simp [Rows.uptoBulkAll]
  | d :: l => by
    have h1 := bulk_len l
    have h2 := bulk_pos d
    simp only [Rows.uptoBulkAll, List.length_cons]
    omega
theorem bulk_in {H : Type} {d : DataW H} : ∀ {l : List (DataW H)}, d ∈ l → Rows.uptoBulk d ≤ Rows.uptoBulkAll l
  | x :: l, h => by
    simp only [Rows.uptoBulkAll]
    rcases List.mem_cons.1 h with rfl | h
    · omega
    · have := bulk_in h
      omega

theorem bytes_bulk {H : Type} {enc : TypeId × Value → H} {W : World} {fuel : Nat} {A : Option Addr} {n c : Nat} {x : DataW H × List MemPlace}
    (h : DataW.trod enc Try.prog W 0 (fun _ => true) true fuel 28 [.slice A n c] = some x) : n ≤ Rows.uptoBulk x.1 := by
  rcases Deep.open_slice Try.underlying28 h with ⟨hcs, hx⟩ | ⟨a, len', cap', m, k, D, Pl, hcs, _, hl, hm, hmm, hx, hy⟩
  · simp at hcs
    obtain ⟨rfl, rfl, rfl⟩ := hcs
    exact Nat.zero_le _
  · simp at hcs
    obtain ⟨rfl, rfl, rfl⟩ := hcs
    subst hx
    have := bulk_len ((List.range n).map D)
    simp only [Rows.uptoBulk]
    simp only [List.length_map, List.length_range] at this
    omega

set_option maxRecDepth 20000 in
theorem data_bulk {H : Type} {enc : TypeId × Value → H} {W : World} {fuel : Nat} {x : DV} {dd : Dt} {z : DataW H × List MemPlace}
    (h : DataW.trod enc Try.prog W 0 (fun _ => true) true fuel 46 (cellsD (x, dd)) = some z) : dd.bytes.length ≤ Rows.uptoBulk z.1 := by
  obtain ⟨xs, k, _, hx, hcl, hxl, hfs⟩ := DataW.trod_struct Try.underlying46 h
  have hxl5 : xs.length = 5 := hxl
  subst hx
  match xs, hxl5, hfs with
  | [y0, y1, y2, y3, y4], _, hfs =>
    have g0 := hfs 0 _ rfl
    simp only [List.getElem?_cons_zero] at g0
    have h1 : dd.bytes.length ≤ Rows.uptoBulk y0.1 := bytes_bulk g0
    simp only [Rows.uptoBulk, List.map_cons, Rows.uptoBulkAll]
    omega

set_option maxRecDepth 20000 in
theorem rr_bulk {H : Type} {enc : TypeId × Value → H} {W : World} {fuel : Nat} {x : RV} {r : Rt} {z : DataW H × List MemPlace}
    (h : DataW.trod enc Try.prog W 0 (fun _ => true) true fuel 48 (cellsR (x, r)) = some z) : r.data.bytes.length ≤ Rows.uptoBulk z.1 := by
  obtain ⟨xs, k, _, hx, hcl, hxl, hfs⟩ := DataW.trod_struct Try.underlying48 h
  have hxl5 : xs.length = 5 := hxl
  subst hx
  match xs, hxl5, hfs with
  | [y0, y1, y2, y3, y4], _, hfs =>
    have g4 := hfs 4 _ rfl
    simp only [List.getElem?_cons_zero, List.getElem?_cons_succ] at g4
    have h1 : r.data.bytes.length ≤ Rows.uptoBulk y4.1 := data_bulk (x := x.d) (dd := r.data) g4
    simp only [Rows.uptoBulk, List.map_cons, Rows.uptoBulkAll]
    omega

set_option maxRecDepth 20000 in
theorem read_question {H : Type} {enc : TypeId × Value → H} {W : World} {fuel : Nat} {cs : List Value} {z : DataW H × List MemPlace}
    (h : DataW.trod enc Try.prog W 0 (fun _ => true) true fuel 42 cs = some z) (hlt : ∀ y ∈ z.2, y.block < W.heap.size) :
    ∃ (y : QV) (q : Qt), cs = cellsQ (y, q) ∧ QAt W W.heap.size y q ∧ WideN q.name ∧ (Lit.int .i64 q.kind).wf = true ∧ (Lit.int .i64 q.cls).wf = true ∧ q.name.length ≤ y.2 := by
  obtain ⟨xs, k, _, hx, hcl, hxl, hfs⟩ := DataW.trod_struct Try.underlying42 h
  have hp : z.2 = xs.flatMap (·.2) := by simpa using congrArg Prod.snd hx
  have hin : ∀ z ∈ xs, ∀ y ∈ z.2, y.block < W.heap.size := fun z hz y hyz => hlt y (by rw [hp]; exact List.mem_flatMap.2 ⟨z, hz, hyz⟩)
  have hxl3 : xs.length = 3 := hxl
  have hc3 : cs.length = 3 := by rw [quest_cells] at hcl; exact hcl
  clear hx hp h hcl
  match cs, hc3, xs, hxl3, hfs, hin with
  | [c0, c1, c2], _, [y0, y1, y2], _, hfs, hin =>
    have g0 := hfs 0 _ rfl
    have g1 := hfs 1 _ rfl
    have g2 := hfs 2 _ rfl
    simp only [List.getElem?_cons_zero, List.getElem?_cons_succ] at g0 g1 g2
    obtain ⟨An, cn, n, e0, hRn, hn1, hn2, hn3⟩ := read_name str_cells g0 (hin y0 (by simp))
    obtain ⟨z1, e1, _, w1⟩ := DataW.trod_int Try.underlying3 g1
    obtain ⟨z2, e2, _, w2⟩ := DataW.trod_int Try.underlying3 g2
    cases e1
    cases e2
    subst e0
    exact ⟨(An, cn), ⟨n, z1, z2⟩, rfl, hRn, ⟨hn1, hn2⟩, w1, w2, hn3⟩

set_option maxRecDepth 20000 in
/-- A slice of things that take k cells each, as it is read, with its bulk. -/
theorem read_partsB {α : Type} (f : α → List Value) (k : Nat) (hf : ∀ p, (f p).length = k) (hk : 0 < k) (Q : World → Nat → α → Prop) {H : Type} {enc : TypeId × Value → H} {W : World} {fuel : Nat} {t e : TypeId} {cs0 : List Value} {z : DataW H × List MemPlace} {N : Nat}
    (ht : Try.prog.underlying t = some (.slice e)) (hce : Try.prog.cellsOf e = k) (hs : ∀ p : α, ∃ u, (f p)[0]? = some u)
    (hr : ∀ (fuel : Nat) (cs : List Value) (z : DataW H × List MemPlace), DataW.trod enc Try.prog W 0 (fun _ => true) true fuel e cs = some z → (∀ y ∈ z.2, y.block < W.heap.size) → Rows.uptoBulk z.1 ≤ N → ∃ p, cs = f p ∧ Q W W.heap.size p)
    (hf1 : DataW.trod enc Try.prog W 0 (fun _ => true) true fuel t cs0 = some z) (hlt : ∀ x ∈ z.2, x.block < W.heap.size) (hw : Rows.uptoBulk z.1 ≤ N) :
    ∃ (A : Option Addr) (c : Nat) (ps : List α), cs0 = [.slice A ps.length c] ∧ Row W W.heap.size A (ps.flatMap f) ∧ (∀ p ∈ ps, Q W W.heap.size p) ∧ ps.length ≤ c ∧ c ≤ maxLen ∧ ps.length ≤ N := by
  rcases Deep.open_slice ht hf1 with ⟨hcs, hx⟩ | ⟨a, len, cap, m, n, D, Pl, hcs, _, hl, hm, hmm, hx, hy⟩
  · exact ⟨none, 0, [], hcs, Row.empty _ _ _, fun p h => absurd h (List.not_mem_nil), Nat.zero_le _, Nat.zero_le _, Nat.zero_le _⟩
  · simp only [if_true] at hmm
    subst hmm
    subst hx
    subst hcs
    have hwl := bulk_len ((List.range len).map D)
    simp only [Rows.uptoBulk] at hw
    simp only [List.length_map, List.length_range] at hwl
    rw [hce] at hy hlt
    rcases Nat.eq_zero_or_pos len with rfl | hpos
    · exact ⟨some a, m, [], rfl, Row.empty _ _ _, fun p h => absurd h (List.not_mem_nil), Nat.zero_le _, hm, Nat.zero_le _⟩
    have each : ∀ i, i < len → ∃ y : α, (∀ j v, (f y)[j]? = some v → W.cell? (a.add (i * k + j)) = some v) ∧ Q W W.heap.size y := by
      intro i hi
      obtain ⟨cs, hc, hr1⟩ := hy i (by omega)
      obtain ⟨y, rfl, hq⟩ := hr _ _ _ hr1 (fun y hyz => hlt y (List.mem_append_right _ (List.mem_flatMap.2 ⟨i, List.mem_range.2 (by omega), hyz⟩)))
        (by
          have := bulk_in (List.mem_map.2 ⟨i, List.mem_range.2 hi, rfl⟩ : D i ∈ (List.range len).map D)
          show Rows.uptoBulk (D i) ≤ N
          omega)
      obtain ⟨_, _, hat⟩ := World.cells?_some hc
      refine ⟨y, fun j v hj => ?_, hq⟩
      have hjk : j < k := by
        have := (List.getElem?_eq_some_iff.1 hj).1
        rwa [hf] at this
      have := hat j hjk
      rw [hj, addr_add_add] at this
      exact this
    obtain ⟨y0, hy0, _⟩ := each 0 hpos
    obtain ⟨u0, hu0⟩ := hs y0
    obtain ⟨b, off, spot⟩ := a
    have hspot : spot = none := by
      have h := World.cell?_spot (hy0 0 _ hu0)
      simpa [Addr.add] using h
    subst hspot
    haveI : Inhabited α := ⟨y0⟩
    obtain ⟨Y, hY⟩ := Deep.choose_lt each
    have hnl : ((List.range len).map Y).length = len := by simp
    refine ⟨some ⟨b, off, none⟩, m, (List.range len).map Y, by rw [hnl], fun _ => ⟨b, off, rfl, hlt (.cell b off) (List.mem_append_left _ (MemPlace.mem_row.2 ⟨0, Nat.mul_pos (by omega) hk, by simp⟩)), fun j u hu => ?_⟩, fun p hp => ?_, by rw [hnl]; exact hl, hm, by rw [hnl]; omega⟩
    · have hj := (List.getElem?_eq_some_iff.1 hu).1
      rw [length_flat hf, hnl] at hj
      have hq : j / k < len := (Nat.div_lt_iff_lt_mul hk).2 hj
      have hr := Nat.mod_lt j hk
      have e : j = j / k * k + j % k := by rw [Nat.mul_comm]; exact (Nat.div_add_mod j k).symm
      have h1 := (hY (j / k) hq).1 (j % k) u
      rw [e, flat_get hf _ _ _ (by rw [hnl]; exact hq) hr] at hu
      rw [← e, addr_add] at h1
      exact h1 (by simpa using hu)
    · obtain ⟨i, hi, rfl⟩ := List.mem_map.1 hp
      exact (hY i (List.mem_range.1 hi)).2

/-- What is known of a message that came in. -/
structure MSafe (m : MV) : Prop where
  h : HIn m.h
  q : ∀ p ∈ m.qp, WideN p.2.name ∧ (Lit.int .i64 p.2.kind).wf = true ∧ (Lit.int .i64 p.2.cls).wf = true ∧ p.2.name.length ≤ p.1.2
  r : ∀ i, ∀ p ∈ (m.sec i).ps, RIn p.2 ∧ p.2.data.bytes.length ≤ 1048576
  n : m.qp.length ≤ 1048576 ∧ ∀ i, (m.sec i).ps.length ≤ 1048576
  c : m.qp.length ≤ m.qc ∧ m.qc ≤ maxLen ∧ ∀ i, (m.sec i).ps.length ≤ (m.sec i).c ∧ (m.sec i).c ≤ maxLen
theorem sec_all {m : MV} {P : Sec → Prop} (h0 : P m.s0) (h1 : P m.s1) (h2 : P m.s2) (i : Nat) : P (m.sec i) := by
  unfold MV.sec
  split
  · exact h0
  · split
    · exact h1
    · exact h2
theorem mem_all {m : MV} {r : Rt} (h : r ∈ m.msg.all) : ∃ i, ∃ p ∈ (m.sec i).ps, p.2 = r := by
  unfold Mt.all at h
  rcases List.mem_append.1 h with h4 | h4
  · obtain ⟨p, hp, e⟩ := List.mem_map.1 h4
    exact ⟨0, p, hp, e⟩
  · rcases List.mem_append.1 h4 with h4 | h4
    · obtain ⟨p, hp, e⟩ := List.mem_map.1 h4
      exact ⟨1, p, hp, e⟩
    · obtain ⟨p, hp, e⟩ := List.mem_map.1 h4
      exact ⟨2, p, hp, e⟩
theorem in_all {m : MV} {i : Nat} {p : RV × Rt} (h : p ∈ (m.sec i).ps) : p.2 ∈ m.msg.all := by
  unfold MV.sec at h
  unfold Mt.all
  split at h
  · exact List.mem_append_left _ (List.mem_map.2 ⟨p, h, rfl⟩)
  · split at h
    · exact List.mem_append_right _ (List.mem_append_left _ (List.mem_map.2 ⟨p, h, rfl⟩))
    · exact List.mem_append_right _ (List.mem_append_right _ (List.mem_map.2 ⟨p, h, rfl⟩))
theorem all_len (m : MV) : m.msg.all.length = m.s0.ps.length + (m.s1.ps.length + m.s2.ps.length) := by
  show (recs m.s0.ps ++ (recs m.s1.ps ++ recs m.s2.ps)).length = _
  rw [List.length_append, List.length_append, length_recs, length_recs, length_recs]
/-- A light one is small throughout. -/
theorem MSafe.small {m : MV} (h : MSafe m) (hl : LightM m.msg) : MIn m ∧ ∀ i, (m.sec i).ps.length ≤ 700 := by
  have h1 := all_len m
  have h2 := hl.n
  have h3 : ∀ i, (m.sec i).ps.length ≤ 700 := fun i => sec_all (P := fun s => s.ps.length ≤ 700) (by omega) (by omega) (by omega) i
  refine ⟨⟨h.h, fun p hp => ?_, fun i p hp => ⟨(h.r i p hp).1, hl.r _ (in_all hp)⟩, ?_, fun i => by have := h3 i; omega⟩, h3⟩
  · obtain ⟨a, b, c, _⟩ := h.q p hp
    exact ⟨a, b, c, hl.k _ (List.mem_map.2 ⟨p, hp, rfl⟩)⟩
  · have h4 := hl.q
    have h5 : m.msg.qs.length = m.qp.length := length_qsts _
    omega
theorem MSafe.light {m : MV} (h : MSafe m) (w : World) (hm : MAt w w.heap.size m) : Calls Try.prog 11 #[m.val] w (Gave w (.bool (lightM m.msg))) := by
  have h0 : m.s0.ps.length ≤ 1048576 := h.n.2 0
  have h1 : m.s1.ps.length ≤ 1048576 := h.n.2 1
  have h2 : m.s2.ps.length ≤ 1048576 := h.n.2 2
  have hq := h.n.1
  refine light_any w m hm (by omega) (by unfold maxLen; omega) (fun p hp => (h.q p hp).1.1) fun r hr => ?_
  obtain ⟨i, p, hp, rfl⟩ := mem_all hr
  have := (h.r i p hp).2
  omega

theorem MIn.same {m m' : MV} (h : m'.msg = m.msg) (hi : MIn m) : MIn m' := by
  unfold MV.msg at h
  injection h with h0 h1 h2 h3 h4
  have hs : ∀ i, recs (m'.sec i).ps = recs (m.sec i).ps := fun i => by
    unfold MV.sec
    split
    · exact h2
    · split
      · exact h3
      · exact h4
  refine ⟨by rw [h0]; exact hi.h, fun p hp => ?_, fun i p hp => ?_, ?_, fun i => ?_⟩
  · have h5 : p.2 ∈ qsts m.qp := by rw [← h1]; exact List.mem_map.2 ⟨p, hp, rfl⟩
    obtain ⟨p', hp', e⟩ := List.mem_map.1 h5
    rw [← e]
    exact hi.q p' hp'
  · have h5 : p.2 ∈ recs (m.sec i).ps := by rw [← hs i]; exact List.mem_map.2 ⟨p, hp, rfl⟩
    obtain ⟨p', hp', e⟩ := List.mem_map.1 h5
    rw [← e]
    exact hi.r i p' hp'
  · rw [← length_qsts, h1, length_qsts]
    exact hi.ql
  · rw [← length_recs, hs i, length_recs]
    exact hi.rl i
/-- A message's cells, one by one. -/
def Cells14 (W : World) (g : Nat) (h : Hd) (vq va vu vx : Value) : Prop :=
  W.cell? ⟨g, 0, none⟩ = some (.int .i64 h.id) ∧ W.cell? ⟨g, 1, none⟩ = some (.bool h.resp) ∧ W.cell? ⟨g, 2, none⟩ = some (.int .i64 h.op) ∧ W.cell? ⟨g, 3, none⟩ = some (.bool h.aa) ∧ W.cell? ⟨g, 4, none⟩ = some (.bool h.tc) ∧ W.cell? ⟨g, 5, none⟩ = some (.bool h.rd) ∧ W.cell? ⟨g, 6, none⟩ = some (.bool h.ra) ∧
    W.cell? ⟨g, 7, none⟩ = some (.int .i64 h.rc) ∧ W.cell? ⟨g, 8, none⟩ = some vq ∧ W.cell? ⟨g, 9, none⟩ = some va ∧ W.cell? ⟨g, 10, none⟩ = some vu ∧ W.cell? ⟨g, 11, none⟩ = some vx ∧ W.cell? ⟨g, 12, none⟩ = some (.bool h.edns) ∧ W.cell? ⟨g, 13, none⟩ = some (.int .i64 h.size)
theorem cells14 {W : World} {g : Nat} {h : Hd} {vq va vu vx : Value} (hw : Whole W g 25 (cellsM h vq va vu vx)) : Cells14 W g h vq va vu vx :=
  ⟨hw.cell 0, hw.cell 1, hw.cell 2, hw.cell 3, hw.cell 4, hw.cell 5, hw.cell 6, hw.cell 7, hw.cell 8, hw.cell 9, hw.cell 10, hw.cell 11, hw.cell 12, hw.cell 13⟩

theorem u16_nat {n : Int} (h : (Lit.int .u16 n).wf = true) : ∃ m : Nat, n = m ∧ m < 65536 := by
  have h1 : IntKind.u16.min = 0 := rfl
  have h2 : IntKind.u16.max = 65535 := rfl
  simp only [Lit.wf, Bool.and_eq_true, decide_eq_true_eq] at h
  exact ⟨n.toNat, by omega, by omega⟩
theorem msg_size : Try.prog.cellsOf 25 = 14 := by kernel_rfl

set_option maxRecDepth 20000 in
set_option maxHeartbeats 1000000 in
theorem open_msg {H : Type} {enc : TypeId × Value → H} {W : World} {base : Nat} {v : Value} {d : DataW H} {p : List MemPlace}
    (hval : Value.okWide Try.prog W .any base 25 v) (h : DataW.Trod enc Try.prog W 0 (fun _ => true) true 25 v d p) (hlt : ∀ x ∈ p, x.block < W.heap.size) (hk : Rows.uptoBulk d ≤ 1048576) :
    ∃ m : MV, v = m.val ∧ MAt W W.heap.size m ∧ MSafe m := by
  unfold Value.okWide at hval
  rw [Try.underlying25] at hval
  obtain ⟨cs0, rfl, hsz, _⟩ := hval
  obtain ⟨fuel, hf⟩ := h
  obtain ⟨xs, k, _, hx, hcl, hxl, hfs⟩ := DataW.trod_struct Try.underlying25 hf
  obtain ⟨cs⟩ := cs0
  simp only [Value.cells] at hf hcl hfs
  have hp : p = xs.flatMap (·.2) := by simpa using congrArg Prod.snd hx
  have hd : d = .agg (xs.map (·.1)) := by simpa using congrArg Prod.fst hx
  have hin : ∀ z ∈ xs, ∀ y ∈ z.2, y.block < W.heap.size := fun z hz y hyz => hlt y (by rw [hp]; exact List.mem_flatMap.2 ⟨z, hz, hyz⟩)
  have hbk : ∀ z ∈ xs, Rows.uptoBulk z.1 ≤ 1048576 := fun z hz => by
    have h1 := bulk_in (List.mem_map.2 ⟨z, hz, rfl⟩ : z.1 ∈ xs.map (·.1))
    rw [hd] at hk
    simp only [Rows.uptoBulk] at hk
    omega
  have hxl14 : xs.length = 14 := hxl
  have hc14 : cs.length = 14 := by rw [msg_size] at hcl; simpa using hcl
  clear hx hp hf hcl hsz hd hk hlt
  match cs, hc14, xs, hxl14, hfs, hin, hbk with
  | [c0, c1, c2, c3, c4, c5, c6, c7, c8, c9, c10, c11, c12, c13], _, [y0, y1, y2, y3, y4, y5, y6, y7, y8, y9, y10, y11, y12, y13], _, hfs, hin, hbk =>
    have g0 := hfs 0 _ rfl
    have g1 := hfs 1 _ rfl
    have g2 := hfs 2 _ rfl
    have g3 := hfs 3 _ rfl
    have g4 := hfs 4 _ rfl
    have g5 := hfs 5 _ rfl
    have g6 := hfs 6 _ rfl
    have g7 := hfs 7 _ rfl
    have g8 := hfs 8 _ rfl
    have g9 := hfs 9 _ rfl
    have g10 := hfs 10 _ rfl
    have g11 := hfs 11 _ rfl
    have g12 := hfs 12 _ rfl
    have g13 := hfs 13 _ rfl
    simp only [List.getElem?_cons_zero, List.getElem?_cons_succ] at g0 g1 g2 g3 g4 g5 g6 g7 g8 g9 g10 g11 g12 g13
    obtain ⟨z0, e0, _, w0⟩ := DataW.trod_int Try.underlying3 g0
    obtain ⟨z1, e1, _⟩ := DataW.trod_bool Try.underlying4 g1
    obtain ⟨z2, e2, _, w2⟩ := DataW.trod_int Try.underlying3 g2
    obtain ⟨z3, e3, _⟩ := DataW.trod_bool Try.underlying4 g3
    obtain ⟨z4, e4, _⟩ := DataW.trod_bool Try.underlying4 g4
    obtain ⟨z5, e5, _⟩ := DataW.trod_bool Try.underlying4 g5
    obtain ⟨z6, e6, _⟩ := DataW.trod_bool Try.underlying4 g6
    obtain ⟨z7, e7, _, w7⟩ := DataW.trod_int Try.underlying3 g7
    obtain ⟨z12, e12, _⟩ := DataW.trod_bool Try.underlying4 g12
    obtain ⟨z13, e13, _, w13⟩ := DataW.trod_int Try.underlying3 g13
    obtain ⟨qA, qc, qp, e8, hq1, hq2, hq3, hq4, hq5⟩ := read_partsB cellsQ 3 cellsQ_len (by omega) (fun W H p => QAt W H p.1 p.2 ∧ WideN p.2.name ∧ (Lit.int .i64 p.2.kind).wf = true ∧ (Lit.int .i64 p.2.cls).wf = true ∧ p.2.name.length ≤ p.1.2) Try.underlying22 quest_cells (fun p => ⟨_, rfl⟩)
      (fun fuel cs z hz hlz _ => by
        obtain ⟨x, r, e, h1⟩ := read_question hz hlz
        exact ⟨(x, r), e, h1⟩) g8 (hin y8 (by simp)) (hbk y8 (by simp))
    have hrd : ∀ (fuel : Nat) (cs : List Value) (z : DataW H × List MemPlace), DataW.trod enc Try.prog W 0 (fun _ => true) true fuel 48 cs = some z → (∀ y ∈ z.2, y.block < W.heap.size) → Rows.uptoBulk z.1 ≤ 1048576 → ∃ p : RV × Rt, cs = cellsR p ∧ (RAt W W.heap.size p.1 p.2 ∧ RIn p.2 ∧ p.2.data.bytes.length ≤ 1048576) := fun fuel cs z hz hlz hb => by
      obtain ⟨x, r, e, h1, h2⟩ := read_rr hz hlz
      subst e
      exact ⟨(x, r), rfl, h1, h2, Nat.le_trans (rr_bulk hz) hb⟩
    obtain ⟨A0, a0, p0, e9, r01, r02, r03, r04, r05⟩ := read_partsB cellsR 9 cellsR_len (by omega) (fun W H p => RAt W H p.1 p.2 ∧ RIn p.2 ∧ p.2.data.bytes.length ≤ 1048576) Try.underlying23 rr_cells (fun p => ⟨_, rfl⟩) hrd g9 (hin y9 (by simp)) (hbk y9 (by simp))
    obtain ⟨A1, a1, p1, e10, r11, r12, r13, r14, r15⟩ := read_partsB cellsR 9 cellsR_len (by omega) (fun W H p => RAt W H p.1 p.2 ∧ RIn p.2 ∧ p.2.data.bytes.length ≤ 1048576) Try.underlying23 rr_cells (fun p => ⟨_, rfl⟩) hrd g10 (hin y10 (by simp)) (hbk y10 (by simp))
    obtain ⟨A2, a2, p2, e11, r21, r22, r23, r24, r25⟩ := read_partsB cellsR 9 cellsR_len (by omega) (fun W H p => RAt W H p.1 p.2 ∧ RIn p.2 ∧ p.2.data.bytes.length ≤ 1048576) Try.underlying23 rr_cells (fun p => ⟨_, rfl⟩) hrd g11 (hin y11 (by simp)) (hbk y11 (by simp))
    cases e0; cases e1; cases e2; cases e3; cases e4; cases e5; cases e6; cases e7; cases e8; cases e9; cases e10; cases e11; cases e12; cases e13
    refine ⟨⟨⟨z0, z1, z2, z3, z4, z5, z6, z7, z12, z13⟩, qA, qc, qp, ⟨A0, a0, p0⟩, ⟨A1, a1, p1⟩, ⟨A2, a2, p2⟩⟩, rfl, ⟨⟨hq1, fun p hp => (hq2 p hp).1⟩, ⟨r01, fun p hp => (r02 p hp).1⟩, ⟨r11, fun p hp => (r12 p hp).1⟩, ⟨r21, fun p hp => (r22 p hp).1⟩⟩, ⟨⟨w0, w2, w7, w13⟩, fun p hp => (hq2 p hp).2, fun i => ?_, ⟨hq5, fun i => ?_⟩, ⟨hq3, hq4, fun i => ?_⟩⟩⟩
    · exact sec_all (P := fun s => ∀ p ∈ s.ps, RIn p.2 ∧ p.2.data.bytes.length ≤ 1048576) (fun p hp => (r02 p hp).2) (fun p hp => (r12 p hp).2) (fun p hp => (r22 p hp).2) i
    · exact sec_all (P := fun s => s.ps.length ≤ 1048576) r05 r15 r25 i
    · exact sec_all (P := fun s => s.ps.length ≤ s.c ∧ s.c ≤ maxLen) ⟨r03, r04⟩ ⟨r13, r14⟩ ⟨r23, r24⟩ i

end Go.Proofs.Ytjkjhpaeckkpjaa

namespace Go.Proofs.Ytjkjhpaeckkpjaa
open Go.RowKit

theorem fitB2 (n : Int) : fitB n 2 = (decide (0 ≤ n) && decide (n < 65536)) := by
  unfold fitB
  rw [← Bool.decide_and]
  exact decide_eq_decide.2 (by simp)
theorem soundQ_low {q : Qt} (h : q.kind < 1) : soundQ q = false := by
  unfold soundQ
  by_cases h0 : q.kind = 0
  · rw [show decide (q.kind ≠ 0) = false by simp [h0]]
    simp
  · rw [show fitB q.kind 2 = false from fitB_neg (by omega)]
    simp
theorem soundQ_high {q : Qt} (h : 65535 < q.kind) : soundQ q = false := by
  unfold soundQ
  rw [fitB2 q.kind, decide_eq_false (show ¬ q.kind < 65536 by omega)]
  simp
theorem soundQ_mid {q : Qt} (h1 : ¬ q.kind < 1) (h2 : ¬ 65535 < q.kind) : soundQ q = (soundN q.name && fitB q.cls 2) := by
  unfold soundQ
  rw [fitB2 q.kind, decide_eq_true (show 0 ≤ q.kind by omega), decide_eq_true (show q.kind < 65536 by omega), show decide (q.kind ≠ 0) = true by rw [decide_eq_true_eq]; omega]
  simp
def RecsRel (w : World) (ps : List (RV × Rt)) (i : Value) (wr : World) : Prop := ∃ k : Nat, k ≤ ps.length ∧ i = .int .i64 k ∧ (recs (ps.take k)).all soundX = true ∧ Below w.heap.size w wr

set_option maxRecDepth 20000 in
set_option maxHeartbeats 8000000 in
theorem refrecords_any (w : World) (A : Option Addr) (c : Nat) (ps : List (RV × Rt)) (hp : RsAt w w.heap.size A ps) (hi : ∀ p ∈ ps, RIn p.2 ∧ LightR p.2) (hl : ps.length ≤ 1000) :
    Calls Try.prog 40 #[.slice A ps.length c] w (Gave w (.bool ((recs ps).all soundX))) := by
  have HP := Lib.hid hp
  have HI := Lib.hid hi
  clear hp hi
  go_enter Try.func40, Try.ntmps40
  go_wp2
  go_loopw [3] (RecsRel w ps) (fun i _ => ps.length - (intOf i).toNat)
  case atStart => exact ⟨0, Nat.zero_le _, rfl, rfl, Below.refl _ _⟩
  case round =>
    obtain ⟨k, hk, rfl, ha, hb⟩ := hrel
    have HA := Lib.hid ha
    have HB := Lib.hid hb
    clear ha hb
    by_cases hlt : k < ps.length
    · obtain ⟨b, off, rfl, hbH, hra, q0, q1, q2, q3, q4, q5, q6, q7, q8⟩ := (HP.out.below HB.out).at_ hlt
      have HRI := Lib.hid (HI.out _ (List.getElem_mem hlt))
      have HF := Lib.hid (show soundX (ps[k]).2 = false → (recs ps).all soundX = false from all_fails (List.mem_map.2 ⟨ps[k], List.getElem_mem hlt, rfl⟩))
      have HTS := Lib.hid (recs_at hlt)
      revert hra q0 q1 q2 q3 q4 q5 q6 q7 q8 HRI HF HTS
      generalize ps[k] = p
      obtain ⟨x, r⟩ := p
      intro hra q0 q1 q2 q3 q4 q5 q6 q7 q8 HRI HF HTS
      dsimp only at *
      have HSX := Lib.hid (show soundX r = (decide (r.kind ≠ 41) && soundR r) from rfl)
      have HC := Lib.hid (ref_rsound_any x r wr (hra.mono HB.out.size) HRI.out.1 HRI.out.2)
      clear hra
      by_cases h41 : r.kind = 41
      · have t : (r.kind == 41) = true := by rw [beq_iff_eq]; exact h41
        rw [show decide (r.kind ≠ 41) = false from decide_eq_false (by omega)] at HSX
        have HFX := Lib.hid (HF.out HSX.out)
        clear h41 HF HTS
        go_wp2
        go_ret
        exact ⟨by rw [HFX.out]; rfl, HB.out⟩
      have t : (r.kind == 41) = false := by rw [beq_eq_false_iff_ne]; exact h41
      rw [show decide (r.kind ≠ 41) = true from decide_eq_true h41, Bool.true_and] at HSX
      clear h41
      go_wp2_with fail
      refine HC.out.mono ?_
      rintro e w8 ⟨rfl, hb8⟩
      have HB8 := Lib.hid (HB.out.trans (hb8.mono HB.out.size))
      clear hb8 HC
      cases hv : soundR r with
      | false =>
        have HFX := Lib.hid (HF.out (HSX.out.trans hv))
        clear HF HTS
        go_wp2
        go_ret
        exact ⟨by rw [HFX.out]; rfl, HB8.out⟩
      | true =>
        have HT := Lib.hid (show (recs (ps.take (k + 1))).all soundX = true by rw [HTS.out, List.all_append, HA.out]; simp [HSX.out, hv])
        clear HF HTS hv HSX
        go_wp2
        exact ⟨⟨k + 1, by omega, by go_num, HT.out, HB8.out⟩, by simp [intOf]; omega⟩
    · obtain rfl : k = ps.length := by omega
      have HT := Lib.hid (show (recs ps).all soundX = true by have h := HA.out; rwa [List.take_length] at h)
      go_wp2
      go_ret
      exact ⟨by rw [HT.out]; rfl, HB.out⟩

def RefQRel (w : World) (L : List Value) (qp : List (QV × Qt)) (i : Value) (wr : World) : Prop := ∃ k : Nat, k ≤ qp.length ∧ i = .int .i64 k ∧ (qsts (qp.take k)).all soundQ = true ∧ Whole wr w.heap.size 25 L ∧ Below w.heap.size w wr
set_option maxRecDepth 20000 in
set_option maxHeartbeats 8000000 in
theorem refmsg_core (w : World) (m : MV) (h : Hd) (qA : Option Addr) (qc : Nat) (qp : List (QV × Qt)) (A0 A1 A2 : Option Addr) (k0 k1 k2 : Nat) (p0 p1 p2 : List (RV × Rt)) (he : m = ⟨h, qA, qc, qp, ⟨A0, k0, p0⟩, ⟨A1, k1, p1⟩, ⟨A2, k2, p2⟩⟩) (hm : MAt w w.heap.size m) (hi : MIn m) :
    Calls Try.prog 16 #[valM h (.slice qA qp.length qc) (.slice A0 p0.length k0) (.slice A1 p1.length k1) (.slice A2 p2.length k2)] w (Gave w (.bool (soundM m.msg))) := by
  obtain ⟨W, hW⟩ : ∃ W, W = w.alloc (.cells #[.int .i64 h.id, .bool h.resp, .int .i64 h.op, .bool h.aa, .bool h.tc, .bool h.rd, .bool h.ra, .int .i64 h.rc, .slice qA qp.length qc, .slice A0 p0.length k0, .slice A1 p1.length k1, .slice A2 p2.length k2, .bool h.edns, .int .i64 h.size] 25) := ⟨_, rfl⟩
  have hB : Below w.heap.size w W := by rw [hW]; exact (Below.refl _ _).alloc (Nat.le_refl _) _
  have hwm : Whole W w.heap.size 25 (cellsM h (.slice qA qp.length qc) (.slice A0 p0.length k0) (.slice A1 p1.length k1) (.slice A2 p2.length k2)) := by rw [hW]; exact Whole.made w [.int .i64 h.id, .bool h.resp, .int .i64 h.op, .bool h.aa, .bool h.tc, .bool h.rd, .bool h.ra, .int .i64 h.rc, .slice qA qp.length qc, .slice A0 p0.length k0, .slice A1 p1.length k1, .slice A2 p2.length k2, .bool h.edns, .int .i64 h.size] _
  have HB := Lib.hid hB
  have HW := Lib.hid hwm
  have HS := Lib.hid (show soundM m.msg = (soundH h && (decide (qp.length + p0.length + p1.length + p2.length ≤ 512) && ((qsts qp).all soundQ && ((recs p0).all soundX && ((recs p1).all soundX && (recs p2).all soundX))))) from by
    rw [he]
    unfold soundM MV.msg Mt.all
    dsimp only
    rw [length_qsts, length_recs, length_recs, length_recs, List.all_append, List.all_append])
  have HFH := Lib.hid (show soundH h = false → soundM m.msg = false from fun h1 => by rw [HS.out, h1]; rfl)
  have HFT := Lib.hid (show ¬ qp.length + p0.length + p1.length + p2.length ≤ 512 → soundM m.msg = false from fun h1 => by rw [HS.out, decide_eq_false h1]; simp)
  have HFQ := Lib.hid (show (qsts qp).all soundQ = false → soundM m.msg = false from fun h1 => by rw [HS.out, h1]; simp)
  have HF0 := Lib.hid (show (recs p0).all soundX = false → soundM m.msg = false from fun h1 => by rw [HS.out, h1]; simp)
  have HF1 := Lib.hid (show (recs p1).all soundX = false → soundM m.msg = false from fun h1 => by rw [HS.out, h1]; simp)
  have HF2 := Lib.hid (show (recs p2).all soundX = false → soundM m.msg = false from fun h1 => by rw [HS.out, h1]; simp)
  have hl0 : p0.length ≤ 1000 := by have h2 := hi.rl 0; rw [he] at h2; exact h2
  have hl1 : p1.length ≤ 1000 := by have h2 := hi.rl 1; rw [he] at h2; exact h2
  have hl2 : p2.length ≤ 1000 := by have h2 := hi.rl 2; rw [he] at h2; exact h2
  have hql : qp.length ≤ 1000 := by have h2 := hi.ql; rw [he] at h2; exact h2
  have HQA := Lib.hid (fun (W' : World) (hb : Below w.heap.size w W') => (show QsAt W' w.heap.size qA qp by have h := hm.q.below hb; rw [he] at h; exact h))
  have HQI := Lib.hid (show ∀ p ∈ qp, QIn p.2 by have h := hi.q; rw [he] at h; exact h)
  have HR0 := Lib.hid (fun (W' : World) (hb : Below w.heap.size w W') => refrecords_any W' A0 k0 p0 (by have h2 := (hm.s0.below hb).mono hb.size; rw [he] at h2; exact h2) (fun p hp => hi.r 0 p (by rw [he]; exact hp)) hl0)
  have HR1 := Lib.hid (fun (W' : World) (hb : Below w.heap.size w W') => refrecords_any W' A1 k1 p1 (by have h2 := (hm.s1.below hb).mono hb.size; rw [he] at h2; exact h2) (fun p hp => hi.r 1 p (by rw [he]; exact hp)) hl1)
  have HR2 := Lib.hid (fun (W' : World) (hb : Below w.heap.size w W') => refrecords_any W' A2 k2 p2 (by have h2 := (hm.s2.below hb).mono hb.size; rw [he] at h2; exact h2) (fun p hp => hi.r 2 p (by rw [he]; exact hp)) hl2)
  have HH := Lib.hid (show HIn h by have h2 := hi.h; rw [he] at h2; exact h2)
  clear hB hwm hm hi he
  subst hW
  go_enter Try.func16, Try.ntmps16
  by_cases a0 : qp.length ≤ 512
  case neg =>
    have d0 : decide ((512 : Int) < (qp.length : Int)) = true := by rw [decide_eq_true_eq]; omega
    have HX := Lib.hid (HFT.out (by omega))
    go_wp2
    go_ret
    exact ⟨by rw [HX.out]; rfl, HB.out⟩
  have d0 : decide ((512 : Int) < (qp.length : Int)) = false := decide_eq_false (by omega)
  by_cases a1 : p0.length ≤ 512
  case neg =>
    have d1 : decide ((512 : Int) < (p0.length : Int)) = true := by rw [decide_eq_true_eq]; omega
    have HX := Lib.hid (HFT.out (by omega))
    go_wp2
    go_ret
    exact ⟨by rw [HX.out]; rfl, HB.out⟩
  have d1 : decide ((512 : Int) < (p0.length : Int)) = false := decide_eq_false (by omega)
  by_cases a2 : p1.length ≤ 512
  case neg =>
    have d2 : decide ((512 : Int) < (p1.length : Int)) = true := by rw [decide_eq_true_eq]; omega
    have HX := Lib.hid (HFT.out (by omega))
    go_wp2
    go_ret
    exact ⟨by rw [HX.out]; rfl, HB.out⟩
  have d2 : decide ((512 : Int) < (p1.length : Int)) = false := decide_eq_false (by omega)
  by_cases a3 : p2.length ≤ 512
  case neg =>
    have d3 : decide ((512 : Int) < (p2.length : Int)) = true := by rw [decide_eq_true_eq]; omega
    have HX := Lib.hid (HFT.out (by omega))
    go_wp2
    go_ret
    exact ⟨by rw [HX.out]; rfl, HB.out⟩
  have d3 : decide ((512 : Int) < (p2.length : Int)) = false := decide_eq_false (by omega)
  by_cases a4 : qp.length + p0.length + p1.length + p2.length ≤ 512
  case neg =>
    have d4 : decide ((512 : Int) < (qp.length : Int) + (p0.length : Int) + (p1.length : Int) + (p2.length : Int)) = true := by rw [decide_eq_true_eq]; omega
    have HX := Lib.hid (HFT.out a4)
    go_wp2
    go_ret
    exact ⟨by rw [HX.out]; rfl, HB.out⟩
  have d4 : decide ((512 : Int) < (qp.length : Int) + (p0.length : Int) + (p1.length : Int) + (p2.length : Int)) = false := decide_eq_false (by omega)
  go_wp2
  clear d0 d1 d2 d3 d4
  go_loopw [3] (RefQRel w (cellsM h (.slice qA qp.length qc) (.slice A0 p0.length k0) (.slice A1 p1.length k1) (.slice A2 p2.length k2)) qp) (fun i _ => qp.length - (intOf i).toNat)
  case atStart => exact ⟨0, Nat.zero_le _, rfl, rfl, HW.out, HB.out⟩
  case round =>
    obtain ⟨j, hj, rfl, ha, hw, hb⟩ := hrel
    have HA := Lib.hid ha
    have HBR := Lib.hid hb
    have HWR := Lib.hid hw
    have c8 : wr.cell? ⟨w.heap.size, 8, none⟩ = some (.slice qA qp.length qc) := Whole.cell hw 8
    have hgl : w.heap.size < wr.heap.size := hw.lt
    clear ha hw hb
    by_cases hlt : j < qp.length
    · obtain ⟨b, off, rfl, hbH, hqa, q0, q1, q2⟩ := (HQA.out _ HBR.out).at_ hlt
      have HI := Lib.hid (HQI.out _ (List.getElem_mem hlt))
      have HF := Lib.hid (show soundQ (qp[j]).2 = false → (qsts qp).all soundQ = false from all_fails (List.mem_map.2 ⟨qp[j], List.getElem_mem hlt, rfl⟩))
      have HT := Lib.hid (show soundQ (qp[j]).2 = true → (qsts (qp.take (j + 1))).all soundQ = true by
        intro h
        rw [qsts_at hlt, List.all_append, HA.out]
        simp [h])
      revert hqa q0 q1 q2 HI HF HT
      generalize qp[j] = p
      obtain ⟨y, q⟩ := p
      intro hqa q0 q1 q2 HI HF HT
      dsimp only at *
      have hba : Below wr.heap.size wr (wr.alloc (.cells #[.slice y.1 q.name.length y.2, .int .i64 q.kind, .int .i64 q.cls] 42)) := (Below.refl _ _).alloc (Nat.le_refl _) _
      have HBA := Lib.hid (HBR.out.trans (hba.mono HBR.out.size))
      have HWA := Lib.hid (HWR.out.below hba hgl)
      have HC := Lib.hid (ref_sound_wide y.1 y.2 w.heap.size q.name (wr.alloc (.cells #[.slice y.1 q.name.length y.2, .int .i64 q.kind, .int .i64 q.cls] 42)) (Row.below hqa (hba.mono HBR.out.size)) HI.out.n.1 HI.out.n.2)
      have HSQ := Lib.hid (show soundQ q = (soundN q.name && (decide (q.kind ≠ 0) && (fitB q.kind 2 && fitB q.cls 2))) from rfl)
      clear hqa hba
      go_wp2_with fail
      refine HC.out.mono ?_
      rintro e w2 ⟨rfl, rfl⟩
      have HZ := Lib.hid (show soundN q.name = false → soundQ q = false from fun h1 => by unfold soundQ; rw [h1]; rfl)
      have HCF := Lib.hid (fun W' => ref_fits_any q.cls 2 W' (i64_top HI.out.c))
      clear c8 q0 q1 q2 hbH
      cases hv : soundN q.name with
      | false =>
        have HX := Lib.hid (HFQ.out (HF.out (HZ.out hv)))
        clear HSQ HT HF HZ
        go_wp2
        go_ret
        exact ⟨by rw [HX.out]; rfl, HBA.out⟩
      | true =>
      by_cases e1 : q.kind < 1
      · have d1 : decide (q.kind < 1) = true := decide_eq_true e1
        have HX := Lib.hid (HFQ.out (HF.out (soundQ_low e1)))
        clear HSQ HT HF HZ
        go_wp2
        go_ret
        exact ⟨by rw [HX.out]; rfl, HBA.out⟩
      have d1 : decide (q.kind < 1) = false := decide_eq_false e1
      by_cases e2 : 65535 < q.kind
      · have d2 : decide (65535 < q.kind) = true := decide_eq_true e2
        have HX := Lib.hid (HFQ.out (HF.out (soundQ_high e2)))
        clear HSQ HT HF HZ
        go_wp2
        go_ret
        exact ⟨by rw [HX.out]; rfl, HBA.out⟩
      have d2 : decide (65535 < q.kind) = false := decide_eq_false e2
      have HM := Lib.hid (show soundQ q = fitB q.cls 2 by rw [soundQ_mid e1 e2, hv]; rfl)
      clear e1 e2 HSQ HZ
      go_wp2_with fail
      refine (HCF.out _).mono ?_
      rintro e w3 ⟨rfl, rfl⟩
      cases hc : fitB q.cls 2 with
      | false =>
        have HX := Lib.hid (HFQ.out (HF.out (HM.out.trans hc)))
        clear HT HF HM
        go_wp2
        go_ret
        exact ⟨by rw [HX.out]; rfl, HBA.out⟩
      | true =>
        have HX := Lib.hid (HT.out (HM.out.trans hc))
        clear HT HF HM
        go_wp2
        exact ⟨⟨j + 1, by omega, by go_num, HX.out, HWA.out, HBA.out⟩, by simp [intOf]; omega⟩
    · obtain rfl : j = qp.length := by omega
      have HAQ := Lib.hid (show (qsts qp).all soundQ = true by have h := HA.out; rwa [List.take_length] at h)
      have HTT := Lib.hid (show soundH h = true → (recs p0).all soundX = true → (recs p1).all soundX = true → (recs p2).all soundX = true → soundM m.msg = true from fun h1 h2 h3 h4 => by
        rw [HS.out, h1, h2, h3, h4, HAQ.out, decide_eq_true a4]
        rfl)
      have g0 : wr.cell? ⟨w.heap.size, 0, none⟩ = some (.int .i64 h.id) := Whole.cell HWR.out 0
      have g2 : wr.cell? ⟨w.heap.size, 2, none⟩ = some (.int .i64 h.op) := Whole.cell HWR.out 2
      have g7 : wr.cell? ⟨w.heap.size, 7, none⟩ = some (.int .i64 h.rc) := Whole.cell HWR.out 7
      have g9 : wr.cell? ⟨w.heap.size, 9, none⟩ = some (.slice A0 p0.length k0) := Whole.cell HWR.out 9
      have g12 : wr.cell? ⟨w.heap.size, 12, none⟩ = some (.bool h.edns) := Whole.cell HWR.out 12
      have g13 : wr.cell? ⟨w.heap.size, 13, none⟩ = some (.int .i64 h.size) := Whole.cell HWR.out 13
      have HCI := Lib.hid (fun W' => ref_fits_any h.id 2 W' (i64_top HH.out.i))
      have HCS := Lib.hid (fun W' => ref_fits_any h.size 2 W' (i64_top HH.out.s))
      have HSH := Lib.hid (show soundH h = (fitB h.id 2 && (codeB h.op && (codeB h.rc && (fitB h.size 2 && (h.edns || decide (h.size = 0)))))) from rfl)
      have HCO := Lib.hid (show codeB h.op = (decide (0 ≤ h.op) && decide (h.op ≤ 15)) from rfl)
      have HCR := Lib.hid (show codeB h.rc = (decide (0 ≤ h.rc) && decide (h.rc ≤ 15)) from rfl)
      clear HFQ HFT HQA HQI HA HAQ hlt hj a0 a1 a2 a3
      go_wp2_with fail
      refine (HCI.out _).mono ?_
      rintro e w2 ⟨rfl, rfl⟩
      cases hi1 : fitB h.id 2 with
      | false =>
        have HX := Lib.hid (HFH.out (by rw [HSH.out, hi1]; rfl))
        clear HTT HSH HCO HCR
        go_wp2
        go_ret
        exact ⟨by rw [HX.out]; rfl, HBR.out⟩
      | true =>
      by_cases o1 : 0 ≤ h.op
      case neg =>
        have do1 : decide (0 ≤ h.op) = false := decide_eq_false o1
        have HX := Lib.hid (HFH.out (by rw [HSH.out, HCO.out, decide_eq_false o1]; simp))
        clear HTT HSH HCO HCR
        go_wp2
        go_ret
        exact ⟨by rw [HX.out]; rfl, HBR.out⟩
      have do1 : decide (0 ≤ h.op) = true := decide_eq_true o1
      by_cases o2 : h.op ≤ 15
      case neg =>
        have do2 : decide (h.op ≤ 15) = false := decide_eq_false o2
        have HX := Lib.hid (HFH.out (by rw [HSH.out, HCO.out, decide_eq_false o2]; simp))
        clear HTT HSH HCO HCR
        go_wp2
        go_ret
        exact ⟨by rw [HX.out]; rfl, HBR.out⟩
      have do2 : decide (h.op ≤ 15) = true := decide_eq_true o2
      by_cases o3 : 0 ≤ h.rc
      case neg =>
        have do3 : decide (0 ≤ h.rc) = false := decide_eq_false o3
        have HX := Lib.hid (HFH.out (by rw [HSH.out, HCR.out, decide_eq_false o3]; simp))
        clear HTT HSH HCO HCR
        go_wp2
        go_ret
        exact ⟨by rw [HX.out]; rfl, HBR.out⟩
      have do3 : decide (0 ≤ h.rc) = true := decide_eq_true o3
      by_cases o4 : h.rc ≤ 15
      case neg =>
        have do4 : decide (h.rc ≤ 15) = false := decide_eq_false o4
        have HX := Lib.hid (HFH.out (by rw [HSH.out, HCR.out, decide_eq_false o4]; simp))
        clear HTT HSH HCO HCR
        go_wp2
        go_ret
        exact ⟨by rw [HX.out]; rfl, HBR.out⟩
      have do4 : decide (h.rc ≤ 15) = true := decide_eq_true o4
      go_wp2_with fail
      refine (HCS.out _).mono ?_
      rintro e w2 ⟨rfl, rfl⟩
      cases hs1 : fitB h.size 2 with
      | false =>
        have HX := Lib.hid (HFH.out (by rw [HSH.out, hs1]; simp))
        clear HTT HSH HCO HCR
        go_wp2
        go_ret
        exact ⟨by rw [HX.out]; rfl, HBR.out⟩
      | true =>
      by_cases hx : h.edns = false ∧ h.size ≠ 0
      · obtain ⟨hx1, hx2⟩ := hx
        have t : (h.size == 0) = false := by rw [beq_eq_false_iff_ne]; exact hx2
        rw [hx1] at g12
        have HX := Lib.hid (HFH.out (by rw [HSH.out, hx1, decide_eq_false hx2]; simp))
        clear HTT HSH HCO HCR
        go_wp2
        go_ret
        exact ⟨by rw [HX.out]; rfl, HBR.out⟩
      have HHT := Lib.hid (show soundH h = true from by
        rw [HSH.out, HCO.out, HCR.out, hi1, hs1, decide_eq_true o1, decide_eq_true o2, decide_eq_true o3, decide_eq_true o4]
        cases h1 : h.edns with
        | true => rfl
        | false =>
          by_cases h2 : h.size = 0
          · rw [decide_eq_true h2]; rfl
          · exact absurd ⟨h1, h2⟩ hx)
      have HZ := Lib.hid (show h.edns = false → (h.size == 0) = true from fun h1 => by
        by_cases h2 : h.size = 0
        · rw [beq_iff_eq]; exact h2
        · exact absurd ⟨h1, h2⟩ hx)
      have HRC := Lib.hid (HR0.out _ HBR.out)
      clear HSH HCO HCR HR0 HCI HCS hx hi1 hs1 o1 o2 o3 o4
      cases hed : h.edns with
      | false =>
        have t := HZ.out hed
        rw [hed] at g12
        go_wp2_with fail
        refine HRC.out.mono ?_
        rintro e w3 ⟨rfl, hb3⟩
        have hw3 := HWR.out.below hb3 hgl
        have g10 : w3.cell? ⟨w.heap.size, 10, none⟩ = some (.slice A1 p1.length k1) := Whole.cell hw3 10
        have hgl3 : w.heap.size < w3.heap.size := hw3.lt
        have HW3 := Lib.hid hw3
        have HB3 := Lib.hid (HBR.out.trans (hb3.mono HBR.out.size))
        clear hb3 hw3 HRC g0 g2 g7 g9 g12 g13
        cases hr0 : (recs p0).all soundX with
        | false =>
          have HX := Lib.hid (HF0.out hr0)
          clear HTT
          go_wp2
          go_ret
          exact ⟨by rw [HX.out]; rfl, HB3.out⟩
        | true =>
        have HRC := Lib.hid (HR1.out _ HB3.out)
        go_wp2_with fail
        refine HRC.out.mono ?_
        rintro e w4 ⟨rfl, hb4⟩
        have hw4 := HW3.out.below hb4 hgl3
        have g11 : w4.cell? ⟨w.heap.size, 11, none⟩ = some (.slice A2 p2.length k2) := Whole.cell hw4 11
        have HB4 := Lib.hid (HB3.out.trans (hb4.mono HB3.out.size))
        clear hb4 hw4 HRC g10
        cases hr1 : (recs p1).all soundX with
        | false =>
          have HX := Lib.hid (HF1.out hr1)
          clear HTT
          go_wp2
          go_ret
          exact ⟨by rw [HX.out]; rfl, HB4.out⟩
        | true =>
        have HRC := Lib.hid (HR2.out _ HB4.out)
        go_wp2_with fail
        refine HRC.out.mono ?_
        rintro e w5 ⟨rfl, hb5⟩
        have HB5 := Lib.hid (HB4.out.trans (hb5.mono HB4.out.size))
        clear hb5 HRC g11
        cases hr2 : (recs p2).all soundX with
        | false =>
          have HX := Lib.hid (HF2.out hr2)
          clear HTT
          go_wp2
          go_ret
          exact ⟨by rw [HX.out]; rfl, HB5.out⟩
        | true =>
        have HX := Lib.hid (HTT.out HHT.out hr0 hr1 hr2)
        clear HTT
        go_wp2
        go_ret
        exact ⟨by rw [HX.out]; rfl, HB5.out⟩
      | true =>
        rw [hed] at g12
        go_wp2_with fail
        refine HRC.out.mono ?_
        rintro e w3 ⟨rfl, hb3⟩
        have hw3 := HWR.out.below hb3 hgl
        have g10 : w3.cell? ⟨w.heap.size, 10, none⟩ = some (.slice A1 p1.length k1) := Whole.cell hw3 10
        have hgl3 : w.heap.size < w3.heap.size := hw3.lt
        have HW3 := Lib.hid hw3
        have HB3 := Lib.hid (HBR.out.trans (hb3.mono HBR.out.size))
        clear hb3 hw3 HRC g0 g2 g7 g9 g12 g13
        cases hr0 : (recs p0).all soundX with
        | false =>
          have HX := Lib.hid (HF0.out hr0)
          clear HTT
          go_wp2
          go_ret
          exact ⟨by rw [HX.out]; rfl, HB3.out⟩
        | true =>
        have HRC := Lib.hid (HR1.out _ HB3.out)
        go_wp2_with fail
        refine HRC.out.mono ?_
        rintro e w4 ⟨rfl, hb4⟩
        have hw4 := HW3.out.below hb4 hgl3
        have g11 : w4.cell? ⟨w.heap.size, 11, none⟩ = some (.slice A2 p2.length k2) := Whole.cell hw4 11
        have HB4 := Lib.hid (HB3.out.trans (hb4.mono HB3.out.size))
        clear hb4 hw4 HRC g10
        cases hr1 : (recs p1).all soundX with
        | false =>
          have HX := Lib.hid (HF1.out hr1)
          clear HTT
          go_wp2
          go_ret
          exact ⟨by rw [HX.out]; rfl, HB4.out⟩
        | true =>
        have HRC := Lib.hid (HR2.out _ HB4.out)
        go_wp2_with fail
        refine HRC.out.mono ?_
        rintro e w5 ⟨rfl, hb5⟩
        have HB5 := Lib.hid (HB4.out.trans (hb5.mono HB4.out.size))
        clear hb5 HRC g11
        cases hr2 : (recs p2).all soundX with
        | false =>
          have HX := Lib.hid (HF2.out hr2)
          clear HTT
          go_wp2
          go_ret
          exact ⟨by rw [HX.out]; rfl, HB5.out⟩
        | true =>
        have HX := Lib.hid (HTT.out HHT.out hr0 hr1 hr2)
        clear HTT
        go_wp2
        go_ret
        exact ⟨by rw [HX.out]; rfl, HB5.out⟩
theorem refmsg_any (w : World) (m : MV) (hm : MAt w w.heap.size m) (hi : MIn m) : Calls Try.prog 16 #[m.val] w (Gave w (.bool (soundM m.msg))) := by
  obtain ⟨h, qA, qc, qp, ⟨A0, k0, p0⟩, ⟨A1, k1, p1⟩, ⟨A2, k2, p2⟩⟩ := m
  exact refmsg_core w _ h qA qc qp A0 A1 A2 k0 k1 k2 p0 p1 p2 rfl hm hi

end Go.Proofs.Ytjkjhpaeckkpjaa

namespace Go.Proofs.Ytjkjhpaeckkpjaa
open Go.RowKit

def RefPutRel (B g m n s : Nat) (w : World) (l : List UInt8) (v1 : Value) (N i : Value) (wr : World) : Prop :=
  ∃ k : Nat, k ≤ s ∧ i = .int .i64 ((s : Int) - 1 - k) ∧ N = .int .i64 ((n : Int) / 2 ^ (8 * k)) ∧ Whole wr g 5 (laid n s k) ∧ wr.ownsRow B 5 1 v1 m (l.map bc) ∧ Below B w wr

set_option maxHeartbeats 400000 in
theorem ref_put_no (A : Option Addr) (k c H : Nat) (l : List UInt8) (n s : Int) (w : World) (hl : l.length = k) (hA : Row w H A (l.map bc)) (hH : H ≤ w.heap.size) (hb : k ≤ 140737488355328) (hn : n ≤ 9223372036854775807) (hf : fitB n s = false) :
    Calls Try.prog 82 #[.slice A k c, .int .i64 n, .int .i64 s] w (Owned w l) := by
  have hf2 := fun W => ref_fits_any n s W hn
  rw [hf] at hf2
  obtain ⟨i0, hi0, hz0, hz1, hz2⟩ := info_parts u8_info
  have HF := Lib.hid hf2
  have HL := Lib.hid hl
  have HA := Lib.hid (hA.alloc hH (.cells #[] 5))
  clear hf hf2 hl hA hH
  go_enter Try.func82, Try.ntmps82
  go_wp2_with (first
    | (go_at_call 39; refine (HF.out _).mono ?_; rintro e w' ⟨rfl, rfl⟩)
    | (at_builtin
       refine wpList_append_row rfl (.tmp 10) (.tmp 11) _ rfl w.heap.size 5 i0 _ 1 1 Try.underlying28 hi0 hz0 hz1 hz2 rfl (by omega) (.slice (some ⟨w.heap.size, 0, none⟩) 0 0) 0 [] rfl
         (own_lit _ _ _) A k c H (l.map bc) rfl (by rw [List.length_map, HL.out]; omega) HA.out (bc_one l) (by unfold maxLen; omega) (by omega) (by simp) ?_
       intro v1 w1 hown1 hg1
       simp only [Nat.zero_add, List.nil_append] at hown1
       obtain ⟨A1, c1, rfl, hc1, hc2⟩ := own_form hown1
       have HO1 := Lib.hid hown1
       have HB1 := Lib.hid (own_below ((Below.refl w.heap.size w).alloc (Nat.le_refl _) _) (Nat.le_refl _) (by simp) (own_lit w 5 1) hg1)
       clear hown1 hg1))
  go_ret
  have hL := HL.out
  have ho := HO1.out
  rw [← hL] at ho
  exact ⟨A1, c1, by rw [hL]; rfl, ho, HB1.out⟩

set_option maxRecDepth 4000 in
set_option maxHeartbeats 400000 in
theorem ref_put_yes (A : Option Addr) (m c H : Nat) (l : List UInt8) (n s : Nat) (w : World) (hl : l.length = m) (hA : Row w H A (l.map bc)) (hH : H ≤ w.heap.size) (hb : m ≤ 140737488355000) (hf : fitB n s = true) :
    Calls Try.prog 82 #[.slice A m c, .int .i64 n, .int .i64 s] w (Owned w (l ++ digs n s)) := by
  obtain ⟨h1, h2, h3, h4⟩ : (1 : Int) ≤ s ∧ (s : Int) ≤ 7 ∧ (0 : Int) ≤ n ∧ (n : Int) < 2 ^ (8 * (s : Int).toNat) := by simpa [fitB] using hf
  have hn : (n : Int) ≤ 9223372036854775807 := by
    have : (2 : Int) ^ (8 * (s : Int).toNat) ≤ 2 ^ 56 := by
      have := Nat.pow_le_pow_right (n := 2) (by omega) (show 8 * (s : Int).toNat ≤ 56 by omega)
      exact_mod_cast this
    omega
  have hf2 := fun W => ref_fits_any n s W hn
  rw [hf] at hf2
  obtain ⟨i0, hi0, hz0, hz1, hz2⟩ := info_parts u8_info
  have HF := Lib.hid hf2
  have HL := Lib.hid hl
  have HA := Lib.hid (hA.alloc hH (.cells #[] 5))
  have H4 := Lib.hid h4
  clear hf hf2 hl hA h4 hH
  go_enter Try.func82, Try.ntmps82
  go_wp2_with (first
    | (go_at_call 39; refine (HF.out _).mono ?_; rintro e w' ⟨rfl, rfl⟩)
    | (at_builtin
       refine wpList_append_row rfl (.tmp 10) (.tmp 11) _ rfl w.heap.size 5 i0 _ 1 1 Try.underlying28 hi0 hz0 hz1 hz2 rfl (by omega) (.slice (some ⟨w.heap.size, 0, none⟩) 0 0) 0 [] rfl
         (own_lit _ _ _) A m c H (l.map bc) rfl (by rw [List.length_map, HL.out]; omega) HA.out (bc_one l) (by unfold maxLen; omega) (by omega) (by simp) ?_
       intro v1 w1 hown1 hg1
       simp only [Nat.zero_add, List.nil_append] at hown1
       obtain ⟨A1, c1, rfl, hc1, hc2⟩ := own_form hown1
       have HO1 := Lib.hid hown1
       have HB1 := Lib.hid (own_below ((Below.refl w.heap.size w).alloc (Nat.le_refl _) _) (Nat.le_refl _) (by simp) (own_lit w 5 1) hg1)
       have hw1 := HB1.out.size
       clear hown1 hg1)
    | (refine wpList_make_zeros rfl (.tmp 18) (.tmp 18) _ rfl 5 i0 _ 1 Try.underlying28 hi0 hz0 hz1 hz2 rfl .i64 .i64 _ _ s s rfl rfl rfl rfl (by omega) (by omega) (by unfold maxLen; omega) ?_))
  have hown2 := HO1.out.alloc (.cells (zerosL (.int .u8 0) s).toArray 5)
  have hwh := Whole.made w1 (zerosL (.int .u8 0) s) 5
  rw [show zerosL (.int .u8 0) s = laid n s 0 from by simp [laid, zerosL, List.drop_of_length_le (Nat.le_of_eq (length_digs n s))]] at hwh hown2 ⊢
  have HO2 := Lib.hid hown2
  have HW := Lib.hid hwh
  have HB2 := Lib.hid (HB1.out.alloc hw1 (.cells (laid n s 0).toArray 5))
  clear hown2 hwh
  go_loopw [1, 9] (RefPutRel w.heap.size w1.heap.size m n s w l (.slice A1 m c1)) (fun _ i _ => (intOf i + 1).toNat)
  case atStart => exact ⟨0, by omega, by simp, by simp, HW.out, HO2.out, HB2.out⟩
  case round =>
    obtain ⟨k, hk, rfl, rfl, hwh, hown, hbw⟩ := hrel
    have hlt9 := hwh.lt
    have HW1 := Lib.hid hwh
    have HO3 := Lib.hid hown
    have HB3 := Lib.hid hbw
    clear hown hbw
    have g1 := div_nonneg' h3 k
    have g2 := div_le' h3 k
    by_cases hlt : k < s
    · have hd : decide ((k : Int) ≤ (s : Int) - 1) = true := by simp; omega
      have hcel : wr.cell? ⟨w1.heap.size, s - 1 - k, none⟩ = some ((laid n s k)[s - 1 - k]'(by rw [length_laid]; omega)) := by
        rw [hwh.cell]; exact List.getElem?_eq_getElem _
      have hfr := hwh.frozen (s - 1 - k)
      clear hwh
      go_wp2
      refine ⟨⟨k + 1, by omega, by go_num, by rw [div_step], ?_, ?_, ?_⟩, by simp [intOf]; omega⟩
      · rw [← laid_set hlt]; exact HW1.out.set_ _ _
      · refine own_set_far HO3.out (fun e => ?_) _
        have := (HO1.out.lt _ e).2
        exact absurd this (Nat.lt_irrefl _)
      · exact HB3.out.setCell hw1 _
    · obtain rfl : k = s := by omega
      have hd : decide ((0 : Int) ≤ (k : Int) - 1 - k) = false := by simp; omega
      have hrow := hwh.row
      rw [laid_all] at hrow
      have HR := Lib.hid hrow
      clear hwh hrow
      go_wp2_with (
        at_builtin
        refine wpList_append_row rfl (.tmp 34) (.tmp 35) _ rfl w.heap.size 5 i0 _ 1 1 Try.underlying28 hi0 hz0 hz1 hz2 rfl (by omega) (.slice A1 m c1) m _ rfl HO3.out
          (some ⟨w1.heap.size, 0, none⟩) k k wr.heap.size ((digs n k).map bc) rfl (by rw [List.length_map, length_digs]; omega) HR.out (bc_one _) (by unfold maxLen; omega) (by omega) (by omega) ?_
        intro v2 w2 hown2 hg2
        obtain ⟨A2, c2, rfl, hc3, hc4⟩ := own_form hown2
        have HO4 := Lib.hid hown2
        have HB4 := Lib.hid (own_below HB3.out (Nat.le_refl _) (by omega) HO3.out hg2)
        clear hown2 hg2)
      go_ret
      have hL : m + k = (l ++ digs n k).length := by simp [length_digs, HL.out]
      have ho := HO4.out
      rw [← List.map_append, hL] at ho
      exact ⟨A2, c2, by rw [← hL]; rfl, ho, HB4.out⟩

theorem ref_put_any (A : Option Addr) (m c H : Nat) (l : List UInt8) (n s : Int) (w : World) (hl : l.length = m) (hA : Row w H A (l.map bc)) (hH : H ≤ w.heap.size) (hb : m ≤ 140737488355000) (hn : n ≤ 9223372036854775807) :
    Calls Try.prog 82 #[.slice A m c, .int .i64 n, .int .i64 s] w (Owned w (putL l n s)) := by
  cases hf : fitB n s with
  | false => rw [putL_no hf]; exact ref_put_no A m c H l n s w hl hA hH (by omega) hn hf
  | true =>
    have h := hf
    simp only [fitB, decide_eq_true_eq] at h
    obtain ⟨n', rfl⟩ : ∃ k : Nat, n = k := ⟨n.toNat, by omega⟩
    obtain ⟨s', rfl⟩ : ∃ k : Nat, s = k := ⟨s.toNat, by omega⟩
    rw [putL_yes hf]
    exact ref_put_yes A m c H l n' s' w hl hA hH hb hf

end Go.Proofs.Ytjkjhpaeckkpjaa
