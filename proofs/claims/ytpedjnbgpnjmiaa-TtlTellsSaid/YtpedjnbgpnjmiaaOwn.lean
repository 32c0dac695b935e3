/-
  Words that the contracts share: bytes and strings as elements of the call's own rows; the answer 'true'.
-/
import Derived.Test.YtpedjnbgpnjmiaaProg
import Derived.Test.YtpedjnbgpnjmiaaPlain
import Derived.Test.YtpedjnbgpnjmiaaWords
import Derived.Laws.IdiomStrings
namespace Go.Proofs.Ytpedjnbgpnjmiaa
open Go.RowKit

theorem u8_info : (Try.prog.info? 5).map (fun i => (i.zero, i.size, i.bytes)) = some (some (.int .u8 0), 1, 1) := by kernel_rfl
theorem u8_size : (Try.prog.info? 5).map (·.size) = some 1 := by kernel_rfl

theorem own_form {w : World} {base : Nat} {t : TypeId} {v : Value} {n : Nat} {xs : List Value} {size : Nat} (h : w.ownsRow base t size v n xs) : ∃ A c, v = .slice A n c ∧ n ≤ c ∧ c ≤ maxLen := by
  rcases h.2 with ⟨rfl, rfl⟩ | ⟨g, cap, cur, rfl, _, _, hn, hc, _⟩
  · exact ⟨none, 0, rfl, Nat.le_refl _, by unfold maxLen; omega⟩
  · exact ⟨_, cap, rfl, hn, hc⟩
theorem own_cap {w : World} {base : Nat} {t : TypeId} {A : Option Addr} {n c : Nat} {xs : List Value} {size : Nat} (h : w.ownsRow base t size (.slice A n c) n xs) : n ≤ c := by
  obtain ⟨A', c', e, h1, _⟩ := own_form h
  injection e with _ _ e
  omega
theorem bc_one (l : List UInt8) : ∀ u ∈ l.map bc, u.oneCell' = true := by
  intro u hu
  obtain ⟨x, _, rfl⟩ := List.mem_map.1 hu
  rfl

/-- The call answers a slice of its own, which reads as l; nothing that was there has turned. -/
def Owned (w : World) (l : List UInt8) (e : Ending) (w' : World) : Prop :=
  ∃ A c, e = .returned (.slice A l.length c) ∧ w'.ownsRow w.heap.size 5 1 (.slice A l.length c) l.length (l.map bc) ∧ Below w.heap.size w w'

def TrueB (w : World) (e : Ending) (w' : World) : Prop := e = .returned (.bool true) ∧ Below w.heap.size w w'
/-- The call answers v; it may have drawn. -/
def Drewn (w : World) (v : Value) (e : Ending) (w' : World) : Prop := e = .returned v ∧ ∃ k, w' = w.drewN k
/-- The call answers v; nothing that was there has turned. -/
def Gave (w : World) (v : Value) (e : Ending) (w' : World) : Prop := e = .returned v ∧ Below w.heap.size w w'
/-- The call answers v; the world is as it was. -/
def Told (w : World) (v : Value) (e : Ending) (w' : World) : Prop := e = .returned v ∧ w = w'

theorem ret_bool {a b : Bool} (h : a = b) : Ending.returned (.bool a) = .returned (.bool b) := by rw [h]
theorem ret_int {k : IntKind} {a b : Int} (h : a = b) : Ending.returned (.int k a) = .returned (.int k b) := by rw [h]

theorem below_cells {W w1 : World} (hb : Below W.heap.size W w1) : ∀ b o, b < W.heap.size → w1.cell? ⟨b, o, none⟩ = W.cell? ⟨b, o, none⟩ := fun b o h => hb.cell (p := ⟨b, o, none⟩) h

/-- Block g is known whole; the mark that a conversion laid stands behind its last cell. -/
def Marked (w : World) (g : Nat) (t : TypeId) (L : List Value) : Prop := ∃ m, L.length ≤ m ∧ w.heap[g]? = some (.cells L.toArray t (m, m + 1))
section
variable {w w' : World} {g : Nat} {t : TypeId} {L : List Value}
theorem Marked.lt (h : Marked w g t L) : g < w.heap.size := by
  obtain ⟨m, _, h⟩ := h
  rcases Nat.lt_or_ge g w.heap.size with hl | hl
  · exact hl
  · rw [Array.getElem?_eq_none hl] at h; cases h
theorem Marked.cell (h : Marked w g t L) (i : Nat) : w.cell? ⟨g, i, none⟩ = L[i]? := by
  obtain ⟨m, _, h⟩ := h
  simp [World.cell?, h]
theorem Marked.frozen (h : Marked w g t L) {i : Nat} (hi : i < L.length) : w.frozen? ⟨g, i, none⟩ = false := by
  obtain ⟨m, hm, h⟩ := h
  simp [World.frozen?, h]
  omega
theorem Marked.drewN (h : Marked w g t L) (n : Nat) : Marked (w.drewN n) g t L := h
theorem Marked.alloc (h : Marked w g t L) (o : Obj) : Marked (w.alloc o) g t L := by
  have hl := h.lt
  obtain ⟨m, hm, h⟩ := h
  exact ⟨m, hm, (Below.heap_alloc w o g hl).trans h⟩
theorem Marked.set_ (h : Marked w g t L) (i : Nat) (u : Value) : Marked (w.setCell ⟨g, i, none⟩ u) g t (L.set i u) := by
  obtain ⟨m, hm, h⟩ := h
  refine ⟨m, by simpa using hm, ?_⟩
  simp [World.setCell, Array.getElem?_modify, h]
theorem Marked.below {B : Nat} (h : Marked w g t L) (hb : Below B w w') (hg : g < B) : Marked w' g t L := by
  obtain ⟨m, hm, h⟩ := h
  exact ⟨m, hm, (hb.block g hg).trans h⟩
theorem Marked.row (h : Marked w g t L) : Row w w.heap.size (some ⟨g, 0, none⟩) L := Row.of_cells h.lt fun j u hu => by rw [Nat.zero_add, h.cell]; exact hu
end

/-- A string as a cell. -/
def sv (l : List UInt8) : Value := .string ⟨l.toArray⟩

theorem sv_one (n : List (List UInt8)) : ∀ u ∈ n.map sv, u.oneCell' = true := by
  intro u hu
  obtain ⟨x, _, rfl⟩ := List.mem_map.1 hu
  rfl
theorem Row.name_at {w : World} {H : Nat} {A : Option Addr} {n : List (List UInt8)} (h : Row w H A (n.map sv)) {k : Nat} (hk : k < n.length) :
    ∃ b off, A = some ⟨b, off, none⟩ ∧ b < H ∧ w.cell? ⟨b, off + k, none⟩ = some (.string ⟨(n[k]).toArray⟩) := by
  obtain ⟨b, off, e, hb, hc⟩ := h.at_ (k := k) (by rw [List.length_map]; exact hk)
  exact ⟨b, off, e, hb, by rw [hc]; simp [sv]⟩

/-- What a statement's argument is: a name, read in the world w. -/
def NameIn (w : World) (A : Option Addr) (n : List (List UInt8)) : Prop := Row w w.heap.size A (n.map sv) ∧ n.length ≤ 140737488351232 ∧ ∀ k (h : k < n.length), (n[k]).length ≤ maxLen

theorem bytesRow_list (l : List UInt8) (cap : Nat) : bytesRow ⟨l.toArray⟩ cap = (l.map bc ++ zerosL (.int .u8 0) (cap - l.length)).toArray := by
  unfold bytesRow zerosL
  simp
  rfl

/-- '[]byte(s)': a block of the call's own, the bytes and zeros behind them. -/
theorem wpList_bytes {P : Program} {w : World} {ops : Array Oper} {rest : List Oper} {o : Oper} {a : Act} {Q : Exit → Act → World → Prop} (hgd : o.guard = none) (x : Operand) (src dst e : TypeId) (hop : o.op = Op.convert src dst x)
    (hs : P.underlying src = some .string) (hd : P.underlying dst = some (.slice e)) (he : P.underlying e = some (.int .u8)) (l : List UInt8) (hx : a.eval x = .string ⟨l.toArray⟩)
    (h : ∀ C w', l.length ≤ C → Marked w' w.heap.size e (l.map bc ++ zerosL (.int .u8 0) (C - l.length)) → Below w.heap.size w w' → w'.heap.size = w.heap.size + 1 →
      wpList P ops Q rest (a.put o.dst (.slice (some ⟨w.heap.size, 0, none⟩) l.length C)) w') : wpList P ops Q (o :: rest) a w := by
  refine wpList_plain hgd fun K hK => ?_
  have hr := run_bytes_of_string (P := P) w src dst e ⟨l.toArray⟩ hs hd he
  have hsz : (ByteArray.mk l.toArray).size = l.length := by simp [ByteArray.size]
  rw [hsz] at hr
  unfold Oper.wp
  simp [execOp, hop, hx, hr, Result.andThen]
  refine hK _ _ (h _ _ (grownCap_ge w l.length 0 e) ?_ ?_ ?_)
  · refine ⟨(bytesRow ⟨l.toArray⟩ (grownCap w l.length 0 e)).size, ?_, ?_⟩
    · rw [bytesRow_list]; simp
    · rw [bytesRow_list]
      exact heap_alloc_new w.drew _
  · exact ((Below.refl _ w).drew).alloc (Nat.le_refl _) _
  · simp

end Go.Proofs.Ytpedjnbgpnjmiaa
