/-
  Laws: a variable of many cells is laid; a struct, or a slice of one element, is built of such.
-/
import Derived.Test.YthjcpficpiddaaaDoorVRead
import Derived.Great.Walk
namespace Go.Proofs.YthjcpficpiddaaaDoor
open Go.RowKit

/-- One part goes in from its place on. -/
theorem fill_one {place : Nat → Option (Nat × Nat)} {cells : Array Value} {i off : Nat} {v : Value} {cs : List Value} (hv : v.cells = cs.toArray) (hp : place i = some (off, cs.length)) (hfit : off + cs.length ≤ cells.size) :
    Instr.fill place cells [(i, v)] = some (splice cells.toList off cs).toArray := by
  simp only [Instr.fill, hp, hv, List.size_toArray, ne_eq, not_true, decide_false, Bool.false_or]
  rw [if_neg (by simp; omega)]
  congr 1
  apply Array.ext_getElem?
  intro k
  have h := Great.foldl_set off cs 0 cells
  have e : (cs.toArray.zipIdx.foldl (fun cs (x : Value × Nat) => cs.setIfInBounds (off + x.2) x.1) cells) = ((cs.zipIdx 0).foldl (fun cs (x : Value × Nat) => cs.setIfInBounds (off + x.2) x.1) cells) := by simp
  show (cs.toArray.zipIdx.foldl (fun cs (x : Value × Nat) => cs.setIfInBounds (off + x.2) x.1) cells)[k]? = _
  rw [e, h.2 k]
  simp only [List.getElem?_toArray, splice]
  have hT : (cells.toList.take off).length = off := by simp; omega
  by_cases h1 : k < off
  · rw [if_neg (by omega), List.getElem?_append_left (by omega), List.getElem?_take, if_pos h1]
    simp
  · rw [List.getElem?_append_right (by omega), hT]
    by_cases h2 : k < off + cs.length
    · rw [if_pos ⟨by omega, by omega, by omega⟩, List.getElem?_append_left (by omega)]
      simp
    · rw [if_neg (by omega), List.getElem?_append_right (by omega), List.getElem?_drop, show off + cs.length + (k - off - cs.length) = k by omega]
      simp

/-- A new variable: its zero's cells. -/
theorem wpList_alloc_zero {P : Program} {ops : Array Oper} {rest : List Oper} {o : Oper} {a : Act} {w : World} {Q : Exit → Act → World → Prop} (hg : o.guard = none) (t : TypeId) (ho : o.op = .alloc t) (cs : List Value) (hz : (P.info? t).map (·.zero) = some (some (.agg cs.toArray)))
    (h : wpList P ops Q rest (a.put o.dst (.pointer (some ⟨w.heap.size, 0, none⟩))) (w.alloc (.cells cs.toArray t))) : wpList P ops Q (o :: rest) a w := by
  cases hi : P.info? t with
  | none => simp [hi] at hz
  | some i =>
    simp only [hi, Option.map_some, Option.some.injEq] at hz
    refine wpList_plain hg fun _ hK => ?_
    have hrun : (Instr.alloc t true (.tuple #[])).run P w = .ok (.pointer (some ⟨w.heap.size, 0, none⟩)) (w.alloc (.cells cs.toArray t)) := by
      simp [Instr.alloc, zeroValue, typeInfo, hi, hz, newVar, newRow, Value.cells]
    unfold Oper.wp execOp
    simp only [ho, Sem.run_bind, hrun, Result.andThen_ok]
    exact hK _ _ h
theorem run_buildSlice1 {P : Program} (w : World) (t e : TypeId) (cs : List Value) (hu : P.underlying t = some (.slice e)) (hr : (P.info? e).map (fun i => (i.zero.map (·.cells.size), i.size)) = some (some cs.length, cs.length)) (hpos : 0 < cs.length) (hsmall : cs.length ≤ 2 ^ 24) :
    (Instr.buildSlice t 1 #[(0, .agg cs.toArray)]).run P w = .ok (.slice (some ⟨w.heap.size, 0, none⟩) 1 1) (w.alloc (.cells cs.toArray e)) := by
  cases hi : P.info? e with
  | none => simp [hi] at hr
  | some i =>
    simp only [hi, Option.map_some, Option.some.injEq, Prod.mk.injEq] at hr
    obtain ⟨hz, hs⟩ := hr
    cases hzz : i.zero with
    | none => simp [hzz] at hz
    | some z =>
      refine run_buildSlice w t e 1 _ _ i z hu hi hzz (by omega) (by omega) ?_
      have hf := fill_one (place := fun k => some (k * i.size, i.size)) (cells := (Array.range (1 * i.size)).map (z.cells[· % z.cells.size]!)) (i := 0) (off := 0) (v := .agg cs.toArray) (cs := cs) rfl (by simp [hs]) (by simp [hs])
      have hl : ((Array.range (1 * i.size)).map (z.cells[· % z.cells.size]!)).toList.length = cs.length := by simp [hs]
      have e1 : splice ((Array.range (1 * i.size)).map (z.cells[· % z.cells.size]!)).toList 0 cs = cs := by
        unfold splice
        rw [List.drop_eq_nil_of_le (by omega)]
        simp
      rw [e1] at hf
      exact hf
/-- '[]T{x}' of one element of many cells. -/
theorem wpList_buildSlice1 {P : Program} {ops : Array Oper} {rest : List Oper} {o : Oper} {a : Act} {w : World} {Q : Exit → Act → World → Prop} (hg : o.guard = none) (t e : TypeId) (x : Operand) (ho : o.op = .buildSlice t 1 #[(0, x)]) (cs : List Value) (hx : a.eval x = .agg cs.toArray)
    (hu : P.underlying t = some (.slice e)) (hr : (P.info? e).map (fun i => (i.zero.map (·.cells.size), i.size)) = some (some cs.length, cs.length)) (hpos : 0 < cs.length) (hsmall : cs.length ≤ 2 ^ 24)
    (h : wpList P ops Q rest (a.put o.dst (.slice (some ⟨w.heap.size, 0, none⟩) 1 1)) (w.alloc (.cells cs.toArray e))) : wpList P ops Q (o :: rest) a w := by
  refine wpList_plain hg fun _ hK => ?_
  unfold Oper.wp execOp
  have hm : (#[(0, x)] : Array (Nat × Operand)).map (fun (i, x) => (i, a.eval x)) = #[(0, .agg cs.toArray)] := by simp [hx]
  simp only [ho, Sem.run_bind, hm, run_buildSlice1 w t e cs hu hr hpos hsmall, Result.andThen_ok]
  exact hK _ _ h
/-- The same as one step of a region that draws. -/
theorem step_buildSlice1 {P : Program} {ops : Array Oper} {o : Oper} {a : Act} {w : World} {K : Act → World → Prop} {Q : Exit → Act → World → Prop} {E : Prop} (hg : o.guard = none) (t e : TypeId) (x : Operand) (ho : o.op = .buildSlice t 1 #[(0, x)]) (cs : List Value) (hx : a.eval x = .agg cs.toArray)
    (hu : P.underlying t = some (.slice e)) (hr : (P.info? e).map (fun i => (i.zero.map (·.cells.size), i.size)) = some (some cs.length, cs.length)) (hpos : 0 < cs.length) (hsmall : cs.length ≤ 2 ^ 24)
    (h : K (a.put o.dst (.slice (some ⟨w.heap.size, 0, none⟩) 1 1)) (w.alloc (.cells cs.toArray e))) : if Region.wanted o (yielded ops a.tmps) = true then Oper.wp P o a w K Q else E := by
  have hw : Region.wanted o (yielded ops a.tmps) = true := by simp [Region.wanted, hg]
  rw [if_pos hw]
  unfold Oper.wp execOp
  have hm : (#[(0, x)] : Array (Nat × Operand)).map (fun (i, x) => (i, a.eval x)) = #[(0, .agg cs.toArray)] := by simp [hx]
  simp only [ho, Sem.run_bind, hm, run_buildSlice1 w t e cs hu hr hpos hsmall, Result.andThen_ok]
  exact h

/-- append onto a row of the call's own, as one step of a region that draws; it says where the new row lies. -/
theorem step_append_at {P : Program} {w : World} {ops : Array Oper} {o : Oper} {a : Act} {K : Act → World → Prop} {Q : Exit → Act → World → Prop} {E : Prop} (hgd : Region.wanted o (yielded ops a.tmps) = true) (s x : Operand) (t : TypeId)
    (ho : o.op = .call { callee := .builtin .append, args := #[s, x], argTypes := #[t, t] })
    (base : Nat) (e : TypeId) (i : TypeInfo) (z : Value) (size bytes : Nat) (ht : P.underlying t = some (.slice e)) (hi : P.info? e = some i) (hz : i.zero = some z)
    (hsize : i.size = size) (hby : i.bytes = bytes) (hzs : z.cells.size = size) (hsz : 0 < size)
    (v : Value) (n : Nat) (xs : List Value) (hs : a.eval s = v) (hown : w.ownsRow base e size v n xs)
    (A : Option Addr) (m c H : Nat) (news : List Value) (hx : a.eval x = .slice A m c) (hl : news.length = m * size) (hr : Row w H A news) (h1 : ∀ u ∈ news, u.oneCell' = true)
    (h63 : n + m ≤ maxLen) (hbytes : (n + m) * bytes ≤ 140737488355328) (hbase : base ≤ w.heap.size)
    (h : ∀ v' w', w'.ownsRow base e size v' (n + m) (xs ++ news) → w.grownBy w' v.ownBlock → (v'.ownBlock = v.ownBlock ∨ v'.ownBlock = some w.heap.size) → K (a.put o.dst v') w') : if Region.wanted o (yielded ops a.tmps) = true then Oper.wp P o a w K Q else E := by
  have key : ∃ v' w', (Builtin.append_ #[t, t] o.type #[v, .slice A m c]).run P w = .ok v' w' ∧ w'.ownsRow base e size v' (n + m) (xs ++ news) ∧ w.grownBy w' v.ownBlock ∧ (v'.ownBlock = v.ownBlock ∨ v'.ownBlock = some w.heap.size) := by
    rcases A with _ | ad
    · have hn : news = [] := by
        rcases news with _ | ⟨u, us⟩
        · rfl
        · obtain ⟨_, _, h, _⟩ := hr (by simp)
          cases h
      have hm : m = 0 := by
        subst hn
        rcases Nat.eq_zero_or_pos m with h0 | h0
        · exact h0
        · have := Nat.mul_pos h0 hsz
          simp at hl; omega
      subst hn; subst hm
      exact ⟨v, w, append_nil_run (P := P) w base t o.type e i size ht hi v n xs hown c, by simpa using hown, World.grownBy.refl w _, .inl rfl⟩
    · have hc : ∀ j u, news[j]? = some u → w.cell? (ad.add j) = some u := by
        intro j u hu
        obtain ⟨b, off, e, _, hc⟩ := hr (fun e => by rw [e] at hu; simp at hu)
        injection e with e
        subst e
        rw [addr_add]
        exact hc j u hu
      obtain ⟨v', w', h2, h3, h4, _, h6⟩ := run_append_own_at (P := P) w base t o.type e i z size bytes ht hi hz hsize hby hzs hsz v n xs hown ad m c news hl hc h1 h63 hbytes hbase
      exact ⟨v', w', h2, h3, h4, h6⟩
  obtain ⟨v', w', hrun, h2, h3, h4⟩ := key
  rw [if_pos hgd]
  unfold Oper.wp
  simp [execOp, ho, resolve, invoke, builtin, hs, hx, hrun, Result.andThen]
  exact h v' w' h2 h3 h4

/-- 'T{f: x}': one field is given. -/
theorem wpList_build1 {P : Program} {ops : Array Oper} {rest : List Oper} {o : Oper} {a : Act} {w : World} {Q : Exit → Act → World → Prop} (hg : o.guard = none) (t : TypeId) (k : Nat) (x : Operand) (ho : o.op = .build t #[(k, x)]) (v : Value) (hx : a.eval x = v)
    (cells : Array Value) (hf : P.built t [(k, v)] = some cells) (h : wpList P ops Q rest (a.put o.dst (.agg cells)) w) : wpList P ops Q (o :: rest) a w :=
  wpList_buildTo hg t #[(k, x)] ho _ rfl cells (by simp [hx, hf]) h

theorem wri_zero : (Tryd.prog.info? 70).map (·.zero) = some (some (.agg (Wri.cells ⟨0, zero512⟩).toArray)) := by kernel_rfl
theorem sec_zero : (Tryd.prog.info? 68).map (·.zero) = some (some (.agg secZero.cells.toArray)) := by kernel_rfl
theorem wri_row2 : (Tryd.prog.info? 70).map (fun i => (i.zero.map (·.cells.size), i.size)) = some (some 514, 514) := by kernel_rfl
theorem built_wri (k : Int) : Tryd.prog.built 70 [(0, .int .i64 k)] = some ((.int .i64 k :: secZero.cells) : List Value).toArray := by kernel_rfl
theorem built_torn : Tryd.prog.built 68 [(1, .bool true)] = some secTorn.cells.toArray := by kernel_rfl

end Go.Proofs.YthjcpficpiddaaaDoor
