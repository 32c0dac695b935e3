/-
  Plain mathematics: a device of sectors that forgets and tears what is not sure. No program is imported.
-/
import Derived.Test.YthjcpficpiddaaaDoorPlain
import Derived.Laws.CopyOwn
namespace Go.Proofs.YthjcpficpiddaaaDoor
open Go.RowKit

/-- A sector: its bytes; is it torn? -/
structure Sec where
  data : List UInt8
  torn : Bool
/-- An unsure write. -/
structure Wri where
  place : Nat
  data : List UInt8
def Wri.sec (u : Wri) : Sec := ⟨u.data, false⟩
def zero512 : List UInt8 := List.replicate 512 0
theorem length_zero512 : zero512.length = 512 := List.length_replicate ..
def secZero : Sec := ⟨zero512, false⟩
def secTorn : Sec := ⟨zero512, true⟩
/-- b, and noughts behind it. -/
def padB (b : List UInt8) : List UInt8 := b ++ List.replicate (512 - b.length) 0
theorem length_padB {b : List UInt8} (h : b.length ≤ 512) : (padB b).length = 512 := by simp [padB]; omega

def Sec.cells (s : Sec) : List Value := s.data.map bc ++ [.bool s.torn]
def Wri.cells (u : Wri) : List Value := .int .i64 (u.place : Int) :: u.sec.cells
theorem Sec.length_cells {s : Sec} (h : s.data.length = 512) : s.cells.length = 513 := by simp [Sec.cells, h]
theorem Wri.length_cells {u : Wri} (h : u.data.length = 512) : u.cells.length = 514 := by
  have : u.sec.cells.length = 513 := Sec.length_cells h
  simp [Wri.cells, this]
theorem Sec.one (s : Sec) : ∀ v ∈ s.cells, v.oneCell' = true := by
  intro v hv
  simp only [Sec.cells, List.mem_append, List.mem_map, List.mem_singleton] at hv
  rcases hv with ⟨x, _, rfl⟩ | rfl <;> rfl
theorem Wri.one (u : Wri) : ∀ v ∈ u.cells, v.oneCell' = true := by
  intro v hv
  simp only [Wri.cells, List.mem_cons] at hv
  rcases hv with rfl | hv
  · rfl
  · exact Sec.one _ v hv
def cellsS (l : List Sec) : List Value := l.flatMap Sec.cells
def cellsU (l : List Wri) : List Value := l.flatMap Wri.cells
theorem cellsS_one (l : List Sec) : ∀ v ∈ cellsS l, v.oneCell' = true := by
  intro v hv
  obtain ⟨s, _, h⟩ := List.mem_flatMap.1 hv
  exact Sec.one s v h
theorem cellsU_one (l : List Wri) : ∀ v ∈ cellsU l, v.oneCell' = true := by
  intro v hv
  obtain ⟨s, _, h⟩ := List.mem_flatMap.1 hv
  exact Wri.one s v h

section
variable {α β : Type} {f : α → List β} {s : Nat}
theorem flat_length : ∀ {l : List α}, (∀ a ∈ l, (f a).length = s) → (l.flatMap f).length = l.length * s
  | [], _ => by simp
  | a :: l, h => by
    have h1 := h a (by simp)
    have h2 := flat_length (l := l) fun b hb => h b (List.mem_cons_of_mem _ hb)
    simp only [List.flatMap_cons, List.length_append, List.length_cons, h1, h2, Nat.succ_mul]
    omega
theorem flat_drop : ∀ {l : List α} (k : Nat), (∀ a ∈ l, (f a).length = s) → (l.flatMap f).drop (k * s) = (l.drop k).flatMap f
  | [], k, _ => by simp
  | a :: l, 0, _ => by simp
  | a :: l, k + 1, h => by
    have h1 := h a (by simp)
    have h2 := flat_drop (l := l) k fun b hb => h b (List.mem_cons_of_mem _ hb)
    simp only [List.flatMap_cons, List.drop_succ_cons, Nat.succ_mul]
    rw [List.drop_append, List.drop_eq_nil_of_le (by omega), h1, show k * s + s - s = k * s by omega, h2]
    simp
theorem flat_take : ∀ {l : List α} (k : Nat), (∀ a ∈ l, (f a).length = s) → (l.flatMap f).take (k * s) = (l.take k).flatMap f
  | [], k, _ => by simp
  | a :: l, 0, _ => by simp
  | a :: l, k + 1, h => by
    have h1 := h a (by simp)
    have h2 := flat_take (l := l) k fun b hb => h b (List.mem_cons_of_mem _ hb)
    simp only [List.flatMap_cons, List.take_succ_cons, Nat.succ_mul]
    rw [List.take_append, List.take_of_length_le (by omega), h1, show k * s + s - s = k * s by omega, h2]
/-- Element k's cells. -/
theorem flat_get {l : List α} (h : ∀ a ∈ l, (f a).length = s) {k : Nat} (hk : k < l.length) {j : Nat} {v : β} (hj : (f l[k])[j]? = some v) : (l.flatMap f)[k * s + j]? = some v := by
  have h1 := flat_drop k h
  have e : l.drop k = l[k] :: l.drop (k + 1) := List.drop_eq_getElem_cons hk
  rw [e] at h1
  have : ((l.flatMap f).drop (k * s))[j]? = some v := by
    rw [h1, List.flatMap_cons, List.getElem?_append_left (List.getElem?_eq_some_iff.1 hj).1, hj]
  rwa [List.getElem?_drop] at this
/-- Element k is another one now. -/
theorem flat_set {l : List α} (h : ∀ a ∈ l, (f a).length = s) {k : Nat} (hk : k < l.length) {a : α} (ha : (f a).length = s) : splice (l.flatMap f) (k * s) (f a) = (l.set k a).flatMap f := by
  unfold splice
  rw [ha, show k * s + s = (k + 1) * s by rw [Nat.succ_mul], flat_take k h, flat_drop (k + 1) h, List.set_eq_take_append_cons_drop, if_pos hk]
  simp
end
theorem splice_length {α : Type} {L cs : List α} {o : Nat} (h : o + cs.length ≤ L.length) : (splice L o cs).length = L.length := length_splice L o cs h

/-- Every sector has its 512 bytes. -/
def okS (l : List Sec) : Prop := ∀ s ∈ l, s.data.length = 512
def okU (n : Nat) (l : List Wri) : Prop := ∀ u ∈ l, u.place < n ∧ u.data.length = 512
theorem okS.cells {l : List Sec} (h : okS l) : ∀ s ∈ l, s.cells.length = 513 := fun s hs => Sec.length_cells (h s hs)
theorem okU.cells {n : Nat} {l : List Wri} (h : okU n l) : ∀ u ∈ l, u.cells.length = 514 := fun u hu => Wri.length_cells (h u hu).2
theorem okS.set_ {l : List Sec} (h : okS l) (k : Nat) {s : Sec} (hs : s.data.length = 512) : okS (l.set k s) := fun x hx => by
  rcases List.mem_or_eq_of_mem_set hx with h1 | rfl
  · exact h x h1
  · exact hs
theorem okS.length {l : List Sec} (h : okS l) : (cellsS l).length = l.length * 513 := flat_length h.cells
theorem okU.length {n : Nat} {l : List Wri} (h : okU n l) : (cellsU l).length = l.length * 514 := flat_length h.cells
theorem okU.snoc {n : Nat} {l : List Wri} (h : okU n l) {u : Wri} (h1 : u.place < n) (h2 : u.data.length = 512) : okU n (l ++ [u]) := fun x hx => by
  rcases List.mem_append.1 hx with h3 | h3
  · exact h x h3
  · obtain rfl := List.mem_singleton.1 h3; exact ⟨h1, h2⟩

/-- Bit k modulo 64. -/
def bitAt (m k : Nat) : Bool := m.testBit (k % 64)
/-- What becomes of the sectors by the k-th unsure write. -/
def stepC (m t : Nat) (l : List Sec) (k : Nat) (u : Wri) : List Sec :=
  if bitAt t k = true then l.set u.place secTorn else if bitAt m k = true then l.set u.place u.sec else l
/-- By the first k of them. -/
def crashN (m t : Nat) (us : List Wri) (l : List Sec) : Nat → List Sec
  | 0 => l
  | k + 1 => match us[k]? with
    | some u => stepC m t (crashN m t us l k) k u
    | none => crashN m t us l k
/-- As they are read, behind the first k. -/
def nowN (us : List Wri) (l : List Sec) : Nat → List Sec
  | 0 => l
  | k + 1 => match us[k]? with
    | some u => (nowN us l k).set u.place u.sec
    | none => nowN us l k
/-- The first k places are taken over from S. -/
def copyN (us : List Wri) (S l : List Sec) : Nat → List Sec
  | 0 => l
  | k + 1 => match us[k]? with
    | some u => (copyN us S l k).set u.place (S.getD u.place secZero)
    | none => copyN us S l k
section
variable {m t : Nat} {us : List Wri} {l S : List Sec}
theorem crashN_succ {k : Nat} (h : k < us.length) : crashN m t us l (k + 1) = stepC m t (crashN m t us l k) k us[k] := by
  rw [crashN, List.getElem?_eq_getElem h]
theorem nowN_succ {k : Nat} (h : k < us.length) : nowN us l (k + 1) = (nowN us l k).set us[k].place us[k].sec := by
  rw [nowN, List.getElem?_eq_getElem h]
theorem copyN_succ {k : Nat} (h : k < us.length) : copyN us S l (k + 1) = (copyN us S l k).set us[k].place (S.getD us[k].place secZero) := by
  rw [copyN, List.getElem?_eq_getElem h]
theorem length_stepC (l : List Sec) (k : Nat) (u : Wri) : (stepC m t l k u).length = l.length := by
  unfold stepC; split
  · simp
  · split <;> simp
theorem length_crashN : ∀ k, (crashN m t us l k).length = l.length
  | 0 => rfl
  | k + 1 => by
    rw [crashN]
    split
    · rw [length_stepC, length_crashN k]
    · exact length_crashN k
theorem length_nowN : ∀ k, (nowN us l k).length = l.length
  | 0 => rfl
  | k + 1 => by
    rw [nowN]
    split
    · rw [List.length_set, length_nowN k]
    · exact length_nowN k
theorem length_copyN : ∀ k, (copyN us S l k).length = l.length
  | 0 => rfl
  | k + 1 => by
    rw [copyN]
    split
    · rw [List.length_set, length_copyN k]
    · exact length_copyN k
theorem ok_stepC {n : Nat} {l : List Sec} (h : okS l) (k : Nat) {u : Wri} (hu : u.place < n ∧ u.data.length = 512) : okS (stepC m t l k u) := by
  unfold stepC; split
  · exact h.set_ _ length_zero512
  · split
    · exact h.set_ _ hu.2
    · exact h
theorem ok_crashN {n : Nat} (h : okS l) (hu : okU n us) : ∀ k, okS (crashN m t us l k)
  | 0 => h
  | k + 1 => by
    rw [crashN]
    split
    · rename_i u e
      exact ok_stepC (ok_crashN h hu k) k (hu u (List.mem_of_getElem? e))
    · exact ok_crashN h hu k
theorem ok_nowN {n : Nat} (h : okS l) (hu : okU n us) : ∀ k, okS (nowN us l k)
  | 0 => h
  | k + 1 => by
    rw [nowN]
    split
    · rename_i u e
      exact (ok_nowN h hu k).set_ _ (hu u (List.mem_of_getElem? e)).2
    · exact ok_nowN h hu k
theorem ok_getD (h : okS S) (i : Nat) : (S.getD i secZero).data.length = 512 := by
  rw [List.getD_eq_getElem?_getD]
  cases e : S[i]? with
  | none => exact length_zero512
  | some s => exact h s (List.mem_of_getElem? e)
theorem ok_copyN (hS : okS S) (h : okS l) : ∀ k, okS (copyN us S l k)
  | 0 => h
  | k + 1 => by
    rw [copyN]
    split
    · exact (ok_copyN hS h k).set_ _ (ok_getD hS _)
    · exact ok_copyN hS h k
/-- A place that none of the first k names. -/
theorem crashN_far {i : Nat} : ∀ k, (∀ j u, j < k → us[j]? = some u → u.place ≠ i) → (crashN m t us l k)[i]? = l[i]?
  | 0, _ => rfl
  | k + 1, h => by
    have ih := crashN_far (i := i) k fun j u hj => h j u (by omega)
    rw [crashN]
    split
    · rename_i u e
      have hne := h k u (by omega) e
      unfold stepC
      split
      · rw [List.getElem?_set_ne hne]; exact ih
      · split
        · rw [List.getElem?_set_ne hne]; exact ih
        · exact ih
    · exact ih
theorem nowN_far {i : Nat} : ∀ k, (∀ j u, j < k → us[j]? = some u → u.place ≠ i) → (nowN us l k)[i]? = l[i]?
  | 0, _ => rfl
  | k + 1, h => by
    have ih := nowN_far (i := i) k fun j u hj => h j u (by omega)
    rw [nowN]
    split
    · rename_i u e
      rw [List.getElem?_set_ne (h k u (by omega) e)]; exact ih
    · exact ih
theorem copyN_far {i : Nat} : ∀ k, (∀ j u, j < k → us[j]? = some u → u.place ≠ i) → (copyN us S l k)[i]? = l[i]?
  | 0, _ => rfl
  | k + 1, h => by
    have ih := copyN_far (i := i) k fun j u hj => h j u (by omega)
    rw [copyN]
    split
    · rename_i u e
      rw [List.getElem?_set_ne (h k u (by omega) e)]; exact ih
    · exact ih
theorem copyN_at {i : Nat} (hi : i < l.length) : ∀ k, (∃ j u, j < k ∧ us[j]? = some u ∧ u.place = i) → (copyN us S l k)[i]? = some (S.getD i secZero)
  | 0, ⟨_, _, h, _⟩ => absurd h (Nat.not_lt_zero _)
  | k + 1, ⟨j, u', h1, h2, h3⟩ => by
    rw [copyN]
    split
    · rename_i u e
      by_cases hp : u.place = i
      · rw [hp, List.getElem?_set_self (by rw [length_copyN]; exact hi)]
      · rw [List.getElem?_set_ne hp]
        refine copyN_at hi k ⟨j, u', ?_, h2, h3⟩
        by_cases hjk : j = k
        · subst hjk; rw [e] at h2; injection h2 with h2; subst h2; exact absurd h3 hp
        · omega
    · rename_i e
      refine copyN_at hi k ⟨j, u', ?_, h2, h3⟩
      by_cases hjk : j = k
      · subst hjk; rw [e] at h2; cases h2
      · omega
/-- Behind both of settle's loops what is read is what is sure. -/
theorem settled : copyN us (crashN m t us l us.length) (nowN us l us.length) us.length = crashN m t us l us.length := by
  apply List.ext_getElem?
  intro i
  by_cases hi : i < l.length
  · by_cases h : ∃ j u, j < us.length ∧ us[j]? = some u ∧ u.place = i
    · rw [copyN_at (by rw [length_nowN]; exact hi) _ h, List.getD_eq_getElem?_getD, List.getElem?_eq_getElem (by rw [length_crashN]; exact hi)]
      rfl
    · have hf : ∀ j u, j < us.length → us[j]? = some u → u.place ≠ i := fun j u hj hu hp => h ⟨j, u, hj, hu, hp⟩
      rw [copyN_far _ hf, nowN_far _ hf, crashN_far _ hf]
  · rw [List.getElem?_eq_none (by rw [length_copyN, length_nowN]; omega), List.getElem?_eq_none (by rw [length_crashN]; omega)]
theorem nowN_left {vs : List Wri} : ∀ k, k ≤ us.length → nowN (us ++ vs) l k = nowN us l k
  | 0, _ => rfl
  | k + 1, h => by
    rw [nowN, nowN, nowN_left k (by omega), List.getElem?_append_left (by omega)]
theorem nowN_snoc (u : Wri) : nowN (us ++ [u]) l (us ++ [u]).length = (nowN us l us.length).set u.place u.sec := by
  rw [List.length_append, List.length_singleton, nowN_succ (by simp), nowN_left _ (Nat.le_refl _)]
  simp
end

/-- A device: what is sure, what is not, how many writes and syncs there are till the power goes, and whether it is gone. -/
structure Dv where
  sure : List Sec
  uns : List Wri
  limit : Nat
  down : Bool
def Dv.now (x : Dv) : List Sec := nowN x.uns x.sure x.uns.length
def Dv.len (x : Dv) : Nat := x.sure.length
structure Dv.ok (x : Dv) : Prop where
  s : okS x.sure
  u : okU x.sure.length x.uns
  few : x.sure.length ≤ 4096
  lim : x.limit ≤ 9223372036854775807
theorem Dv.length_now (x : Dv) : x.now.length = x.sure.length := length_nowN _
theorem Dv.ok.now {x : Dv} (h : x.ok) : okS x.now := ok_nowN h.s h.u _
def newDv (n : Nat) : Dv := ⟨List.replicate n secZero, [], 0, false⟩
/-- A write or a sync is counted; is it done? -/
def Dv.spent (x : Dv) : Dv := if x.limit = 0 then x else { x with limit := x.limit - 1, down := decide (x.limit = 1) }
def Dv.lasts (x : Dv) : Bool := decide (x.limit ≠ 1)
/-- All is sure, as the bits say. -/
def Dv.settled (x : Dv) (m t : Nat) : Dv := { x with sure := crashN m t x.uns x.sure x.uns.length, uns := [] }
def Dv.has (x : Dv) (n : Int) : Bool := decide (0 ≤ n ∧ n < (x.sure.length : Int))
/-- Why a sector can't be read (0: it can). -/
def Dv.readE (x : Dv) (n : Int) : Int := if x.down = true then 8 else if x.has n = false then 1 else if (x.now.getD n.toNat secZero).torn = true then 9 else 0
def Dv.readB (x : Dv) (n : Int) : List UInt8 := if x.readE n = 0 then (x.now.getD n.toNat secZero).data else []
def Dv.write (x : Dv) (n : Int) (b : List UInt8) : Dv :=
  if x.down = true ∨ x.has n = false ∨ 512 < b.length then x else if x.lasts = false then x.spent else { x.spent with uns := x.uns ++ [⟨n.toNat, padB b⟩] }
def Dv.writeE (x : Dv) (n : Int) (b : List UInt8) : Int :=
  if x.down = true then 8 else if x.has n = false ∨ 512 < b.length then 1 else if x.lasts = false then 8 else 0
def allOnes : Nat := 18446744073709551615
def Dv.sync (x : Dv) : Dv := if x.down = true then x else if x.lasts = false then x.spent else x.spent.settled allOnes 0
def Dv.syncE (x : Dv) : Int := if x.down = true ∨ x.lasts = false then 8 else 0
def Dv.crash (x : Dv) (m t : Nat) : Dv := { x.settled m t with limit := 0, down := false }
def Dv.limited (x : Dv) (n : Int) : Dv := if n < 0 then x else { x with limit := n.toNat }

section
variable {x : Dv}
theorem spent_sure : x.spent.sure = x.sure := by unfold Dv.spent; split <;> rfl
theorem spent_uns : x.spent.uns = x.uns := by unfold Dv.spent; split <;> rfl
theorem spent_now : x.spent.now = x.now := by unfold Dv.now; rw [spent_sure, spent_uns]
theorem Dv.ok.spent (h : x.ok) : x.spent.ok := ⟨by rw [spent_sure]; exact h.s, by rw [spent_sure, spent_uns]; exact h.u, by rw [spent_sure]; exact h.few, by
  have := h.lim
  unfold Dv.spent
  split
  · exact this
  · show x.limit - 1 ≤ _; omega⟩
theorem Dv.ok.settled (h : x.ok) (m t : Nat) : (x.settled m t).ok :=
  ⟨ok_crashN h.s h.u _, fun u hu => (by cases hu), by show (crashN m t x.uns x.sure x.uns.length).length ≤ 4096; rw [length_crashN]; exact h.few, h.lim⟩
theorem settled_now (m t : Nat) : (x.settled m t).now = (x.settled m t).sure := rfl
theorem Dv.ok.crash (h : x.ok) (m t : Nat) : (x.crash m t).ok := ⟨(h.settled m t).s, (h.settled m t).u, (h.settled m t).few, Nat.zero_le _⟩
theorem Dv.ok.wrote (h : x.ok) {n : Int} {b : List UInt8} (h1 : x.has n = true) (h2 : b.length ≤ 512) : Dv.ok { x.spent with uns := x.uns ++ [⟨n.toNat, padB b⟩] } := by
  simp only [Dv.has, decide_eq_true_eq] at h1
  exact ⟨h.spent.s, okU.snoc (by show okU x.spent.sure.length x.uns; rw [spent_sure]; exact h.u) (by show n.toNat < x.spent.sure.length; rw [spent_sure]; omega) (length_padB h2), h.spent.few, h.spent.lim⟩
end

end Go.Proofs.YthjcpficpiddaaaDoor
