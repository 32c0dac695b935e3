/-
  FlashSure's words: what is wanted of each sector, plain and in memory.
-/
import Derived.Test.YtledoajhjkfaoaaVAns
namespace Go.Proofs.Ytledoajhjkfaoaa
open Go.RowKit

/-- What is wanted of a sector: is it broken? else these bytes, and 0 behind them. -/
def toSec (p : Bool × List UInt8) : Sec := if p.1 = true then secTorn else ⟨padB p.2, false⟩
/-- Behind the first k writes. -/
def vl1 (data : List (List UInt8)) : Nat → List (Bool × List UInt8)
  | 0 => List.replicate 8 (false, [])
  | k + 1 => (vl1 data k).set k (false, data.getD k [])
def us1 (data : List (List UInt8)) (k : Nat) : List Wri := (List.range k).map fun j => ⟨j, padB (data.getD j [])⟩
def vl2 (m t : Nat) (ov : List UInt8) (V : List (Bool × List UInt8)) : Nat → List (Bool × List UInt8)
  | 0 => V
  | k + 1 => match ov[k]? with
    | some b => if bitAt t k = true then (vl2 m t ov V k).set (b.toNat % 8) (true, []) else if bitAt m k = true then (vl2 m t ov V k).set (b.toNat % 8) (false, [b, 1]) else vl2 m t ov V k
    | none => vl2 m t ov V k
def us2 (ov : List UInt8) (k : Nat) : List Wri := (ov.take k).map fun b => ⟨b.toNat % 8, padB [b, 1]⟩

theorem length_vl1 (data : List (List UInt8)) : ∀ k, (vl1 data k).length = 8
  | 0 => List.length_replicate ..
  | k + 1 => by rw [vl1, List.length_set, length_vl1 data k]
theorem length_vl2 (m t : Nat) (ov : List UInt8) {V : List (Bool × List UInt8)} (h : V.length = 8) : ∀ k, (vl2 m t ov V k).length = 8
  | 0 => h
  | k + 1 => by
    rw [vl2]
    split
    · split
      · rw [List.length_set, length_vl2 m t ov h k]
      · split
        · rw [List.length_set, length_vl2 m t ov h k]
        · exact length_vl2 m t ov h k
    · exact length_vl2 m t ov h k
theorem length_us1 (data : List (List UInt8)) (k : Nat) : (us1 data k).length = k := by simp [us1]
theorem us1_succ (data : List (List UInt8)) (k : Nat) : us1 data (k + 1) = us1 data k ++ [⟨k, padB (data.getD k [])⟩] := by simp [us1, List.range_succ]
theorem us2_succ {ov : List UInt8} {k : Nat} (h : k < ov.length) : us2 ov (k + 1) = us2 ov k ++ [⟨(ov[k]).toNat % 8, padB [ov[k], 1]⟩] := by
  unfold us2
  rw [List.take_succ_eq_append_getElem h, List.map_append]
  rfl
theorem length_us2 {ov : List UInt8} {k : Nat} (h : k ≤ ov.length) : (us2 ov k).length = k := by simp [us2]; omega
theorem pad_nil : (⟨padB [], false⟩ : Sec) = secZero := rfl
theorem vl1_fst (data : List (List UInt8)) : ∀ k, (vl1 data k).map Prod.fst = List.replicate 8 false
  | 0 => by simp [vl1]
  | k + 1 => by
    rw [vl1, List.map_set, vl1_fst data k]
    apply List.ext_getElem?
    intro i
    by_cases h : k = i
    · subst h
      by_cases h8 : k < 8
      · rw [List.getElem?_set_self (by rw [List.length_replicate]; exact h8), List.getElem?_replicate, if_pos h8]
      · rw [List.getElem?_eq_none (by rw [List.length_set, List.length_replicate]; omega), List.getElem?_eq_none (by rw [List.length_replicate]; omega)]
    · rw [List.getElem?_set_ne h]
/-- No wanted bytes are too many. -/
def smallV (V : List (Bool × List UInt8)) : Prop := ∀ p ∈ V, p.2.length ≤ 512
theorem smallV.set_ {V : List (Bool × List UInt8)} (h : smallV V) (i : Nat) {p : Bool × List UInt8} (hp : p.2.length ≤ 512) : smallV (V.set i p) := fun q hq => by
  rcases List.mem_or_eq_of_mem_set hq with h1 | rfl
  · exact h q h1
  · exact hp
theorem small_vl2 (m t : Nat) (ov : List UInt8) {V : List (Bool × List UInt8)} (h : smallV V) : ∀ k, smallV (vl2 m t ov V k)
  | 0 => h
  | k + 1 => by
    rw [vl2]
    split
    · split
      · exact (small_vl2 m t ov h k).set_ _ (Nat.zero_le _)
      · split
        · exact (small_vl2 m t ov h k).set_ _ (by show 2 ≤ 512; decide)
        · exact small_vl2 m t ov h k
    · exact small_vl2 m t ov h k
theorem ones_bit (k : Nat) : bitAt allOnes k = true := by
  unfold bitAt allOnes
  have h : k % 64 < 64 := Nat.mod_lt _ (by decide)
  rw [show (18446744073709551615 : Nat) = 2 ^ 64 - 1 from rfl, Nat.testBit_two_pow_sub_one]
  simp [h]
theorem zero_bit (k : Nat) : bitAt 0 k = false := by simp [bitAt]
theorem crash_vl1 (data : List (List UInt8)) (K : Nat) : ∀ k, k ≤ K → crashN allOnes 0 (us1 data K) (List.replicate 8 secZero) k = (vl1 data k).map toSec
  | 0, _ => by
    show List.replicate 8 secZero = _
    rw [vl1, List.map_replicate]
    rfl
  | k + 1, h => by
    have hk : k < (us1 data K).length := by rw [length_us1]; omega
    have e : (us1 data K)[k] = ⟨k, padB (data.getD k [])⟩ := by simp [us1]
    rw [crashN_succ hk, e, stepC, if_neg (by rw [zero_bit]; decide), if_pos (ones_bit k), crash_vl1 data K k (by omega), vl1, List.map_set]
    rfl
theorem crash_vl2 (m t : Nat) (ov : List UInt8) (V : List (Bool × List UInt8)) {K : Nat} (hK : K ≤ ov.length) : ∀ k, k ≤ K → crashN m t (us2 ov K) (V.map toSec) k = (vl2 m t ov V k).map toSec
  | 0, _ => rfl
  | k + 1, h => by
    have hk : k < (us2 ov K).length := by rw [length_us2 hK]; omega
    have hko : k < ov.length := by omega
    have e : (us2 ov K)[k] = ⟨(ov[k]).toNat % 8, padB [ov[k], 1]⟩ := by simp [us2]
    rw [crashN_succ hk, e, stepC, crash_vl2 m t ov V hK k (by omega), vl2, List.getElem?_eq_getElem hko]
    simp only
    split
    · rw [List.map_set]; rfl
    · split
      · rw [List.map_set]; rfl
      · rfl

/-- What is read of a device that is all sure. -/
theorem read_want {V : List (Bool × List UInt8)} {i : Nat} (hi : i < V.length) : Dv.readE ⟨V.map toSec, [], 0, false⟩ i = (if (V[i]).1 = true then 9 else 0) ∧ Dv.readB ⟨V.map toSec, [], 0, false⟩ i = (if (V[i]).1 = true then [] else padB (V[i]).2) := by
  have hh : Dv.has ⟨V.map toSec, [], 0, false⟩ i = true := by simp [Dv.has]; omega
  have hn : (Dv.now ⟨V.map toSec, [], 0, false⟩).getD (i : Int).toNat secZero = toSec V[i] := by
    show (V.map toSec).getD (i : Int).toNat secZero = _
    rw [List.getD_eq_getElem?_getD, Int.toNat_natCast, List.getElem?_map, List.getElem?_eq_getElem hi]
    rfl
  have he : Dv.readE ⟨V.map toSec, [], 0, false⟩ i = (if (V[i]).1 = true then 9 else 0) := by
    unfold Dv.readE
    rw [if_neg (show ¬ (false = true) by decide), if_neg (by rw [hh]; decide), hn]
    unfold toSec
    cases (V[i]).1 <;> rfl
  refine ⟨he, ?_⟩
  unfold Dv.readB
  rw [he, hn]
  unfold toSec
  cases (V[i]).1 <;> rfl

theorem pad_zero8 (l : List UInt8) : splice (zero512.map bc) 0 (l.map bc) = (padB l).map bc := by
  unfold splice padB zero512
  rw [List.length_map, List.take_zero, List.nil_append, Nat.zero_add, List.map_append, List.map_replicate, List.map_replicate, List.drop_replicate]

/-- A slice that is an argument's, or a block of bytes of the law's own. -/
def Sl (w0 wr : World) (v : Value) (l : List UInt8) : Prop := ∃ A c, v = .slice A l.length c ∧ (Row w0 w0.heap.size A (l.map bc) ∨ ∃ g, A = some ⟨g, 0, none⟩ ∧ w0.heap.size ≤ g ∧ Whole wr g 5 (l.map bc))
theorem Sl.nil (w0 wr : World) : Sl w0 wr (.slice none 0 0) [] := ⟨none, 0, rfl, .inl (Row.empty _ _ _)⟩
theorem Sl.keep {w0 wr wr' : World} {v : Value} {l : List UInt8} (h : Sl w0 wr v l) (hk : Kept wr wr') : Sl w0 wr' v l := by
  obtain ⟨A, c, e, h1 | ⟨g, e1, h1, h2⟩⟩ := h
  · exact ⟨A, c, e, .inl h1⟩
  · exact ⟨A, c, e, .inr ⟨g, e1, h1, hk.whole h2 u8_not⟩⟩
theorem Sl.row {w0 wr : World} {v : Value} {l : List UInt8} (h : Sl w0 wr v l) (hb : Below w0.heap.size w0 wr) : ∃ A c, v = .slice A l.length c ∧ Row wr wr.heap.size A (l.map bc) := by
  obtain ⟨A, c, e, h1 | ⟨g, e1, h1, h2⟩⟩ := h
  · exact ⟨A, c, e, (h1.below hb).mono hb.size⟩
  · exact ⟨A, c, e, by rw [e1]; exact h2.row⟩
/-- The list of what is wanted, in a block of its own. -/
def WantAt (w0 wr : World) (gw : Nat) (ls : List (List UInt8)) : Prop := ∃ vs, Whole wr gw 30 vs ∧ vs.length = ls.length ∧ ∀ p (h : p < ls.length) (h' : p < vs.length), Sl w0 wr vs[p] ls[p]
theorem bs_not : ¬ devT 30 := by unfold devT; decide
theorem bool_not : ¬ devT 4 := by unfold devT; decide
theorem WantAt.keep {w0 wr wr' : World} {gw : Nat} {ls : List (List UInt8)} (h : WantAt w0 wr gw ls) (hk : Kept wr wr') : WantAt w0 wr' gw ls := by
  obtain ⟨vs, h1, h2, h3⟩ := h
  exact ⟨vs, hk.whole h1 bs_not, h2, fun p hp hp' => (h3 p hp hp').keep hk⟩
theorem WantAt.lt {w0 wr : World} {gw : Nat} {ls : List (List UInt8)} (h : WantAt w0 wr gw ls) : gw < wr.heap.size := by
  obtain ⟨vs, h1, _⟩ := h; exact h1.lt
theorem WantAt.set_ {w0 wr : World} {gw : Nat} {ls : List (List UInt8)} (h : WantAt w0 wr gw ls) (p : Nat) {v : Value} {l : List UInt8} (hv : Sl w0 wr v l) : WantAt w0 (wr.setCell ⟨gw, p, none⟩ v) gw (ls.set p l) := by
  obtain ⟨vs, h1, h2, h3⟩ := h
  have keep : ∀ {u : Value} {k : List UInt8}, Sl w0 wr u k → Sl w0 (wr.setCell ⟨gw, p, none⟩ v) u k := fun {u k} hu => by
    obtain ⟨A, c, e, h4 | ⟨g, e1, h4, h5⟩⟩ := hu
    · exact ⟨A, c, e, .inl h4⟩
    · refine ⟨A, c, e, .inr ⟨g, e1, h4, ?_⟩⟩
      have hne : gw ≠ g := h1.ne h5 (by decide)
      exact (Below.heap_setCell wr _ _ _ (fun e => hne e.symm)).trans h5
  refine ⟨vs.set p v, h1.set_ p v, by simp [h2], fun q hq hq' => ?_⟩
  by_cases e : p = q
  · subst e
    rw [List.getElem_set_self, List.getElem_set_self]
    exact keep hv
  · rw [List.getElem_set_ne e, List.getElem_set_ne e]
    exact keep (h3 q (by simpa using hq) (by simpa using hq'))
/-- The cell of a place, and that it may be written. -/
theorem WantAt.cell {w0 wr : World} {gw : Nat} {ls : List (List UInt8)} (h : WantAt w0 wr gw ls) {p : Nat} (hp : p < ls.length) : ∃ v, wr.cell? ⟨gw, p, none⟩ = some v ∧ Sl w0 wr v ls[p] ∧ wr.frozen? ⟨gw, p, none⟩ = false := by
  obtain ⟨vs, h1, h2, h3⟩ := h
  have hp' : p < vs.length := by omega
  exact ⟨vs[p], by rw [h1.cell, List.getElem?_eq_getElem hp'], h3 p hp hp', h1.frozen p⟩
theorem Kept.set_ {w : World} {g : Nat} {t : TypeId} {L : List Value} (h : Whole w g t L) {g' : Nat} {t' : TypeId} {L' : List Value} (h' : Whole w g' t' L') (ht : t ≠ t') (i : Nat) (u : Value) : Whole (w.setCell ⟨g, i, none⟩ u) g' t' L' :=
  (Below.heap_setCell w _ _ _ (fun e => h.ne h' ht e.symm)).trans h'
/-- A store into a block that is no device's. -/
theorem Holds.put {w0 w : World} {D : Nat} {x : Dv} (h : Holds w0 w D x) {g : Nat} {t : TypeId} {L : List Value} (hg : Whole w g t L) (ht : ¬ devT t) (hb : w0.heap.size ≤ g) (i : Nat) (u : Value) : Holds w0 (w.setCell ⟨g, i, none⟩ u) D x := by
  obtain ⟨m, e, h1, h2⟩ := h
  refine ⟨m, e, h1.keep fun j hj => Below.heap_setCell w _ _ _ ?_, h2.setCell hb u⟩
  intro e2
  have e3 : j = g := e2
  rw [e3] at hj
  have hrow : ∀ {e : TypeId} {size n base : Nat} {v : Value} {xs : List Value}, w.ownsRow base e size v n xs → v.ownBlock = some g → devT e → False := fun {e size n base v xs} hr hv he => by
    rcases hr.2 with ⟨rfl, _⟩ | ⟨g', cap, cur, rfl, _, hh, _⟩
    · cases hv
    · simp [Value.ownBlock] at hv
      subst hv
      unfold Whole at hg
      rw [hg] at hh
      simp at hh
      exact ht (hh.2 ▸ he)
  rcases hj with hj | hj | hj | hj
  · have hblk := h1.blk
    rw [← hj] at hblk
    unfold Whole at hblk hg
    rw [hg] at hblk
    simp at hblk
    exact ht (.inl hblk.2)
  · exact hrow h1.now (by rw [hj]; rfl) (.inr (.inl rfl))
  · exact hrow h1.sure (by rw [hj]; rfl) (.inr (.inl rfl))
  · exact hrow h1.uns hj (.inr (.inr rfl))
/-- .. while a block of bools is written. -/
theorem WantAt.beside {w0 wr : World} {gw gb : Nat} {ls : List (List UInt8)} {L : List Value} (h : WantAt w0 wr gw ls) (hb : Whole wr gb 4 L) (i : Nat) (u : Value) : WantAt w0 (wr.setCell ⟨gb, i, none⟩ u) gw ls := by
  obtain ⟨vs, h1, h2, h3⟩ := h
  refine ⟨vs, Kept.set_ hb h1 (by decide) i u, h2, fun p hp hp' => ?_⟩
  obtain ⟨A, c, e, h4 | ⟨g, e1, h4, h5⟩⟩ := h3 p hp hp'
  · exact ⟨A, c, e, .inl h4⟩
  · exact ⟨A, c, e, .inr ⟨g, e1, h4, Kept.set_ hb h5 (by decide) i u⟩⟩
/-- 'a >> k % 2 == 1'. -/
theorem shr_fact (a k : Nat) (hk : k < 64) : (((a : Int) / 2 ^ k).tmod 2 == 1) = bitAt a k := by
  have e : (a : Int) / 2 ^ k = ((a / 2 ^ k : Nat) : Int) := by
    rw [Int.natCast_ediv, Int.natCast_pow]
    rfl
  have e2 : ∀ n : Nat, (n : Int).tmod 2 = ((n % 2 : Nat) : Int) := fun n => by
    rw [Int.tmod_eq_emod_of_nonneg (Int.natCast_nonneg n)]
    omega
  rw [e, e2]
  unfold bitAt
  rw [Nat.mod_eq_of_lt hk, Nat.testBit_eq_decide_div_mod_eq]
  by_cases h : a / 2 ^ k % 2 = 1
  · rw [h]; rfl
  · have h0 : a / 2 ^ k % 2 = 0 := by omega
    rw [h0]; rfl
/-- A write into a device that has power. -/
theorem write_plain {x : Dv} (hd : x.down = false) (hl : x.limit = 0) {k : Nat} (hk : k < x.sure.length) {b : List UInt8} (hb : b.length ≤ 512) : x.write k b = { x with uns := x.uns ++ [⟨k, padB b⟩] } := by
  have hh : x.has k = true := by simp [Dv.has]; omega
  unfold Dv.write
  rw [if_neg (by rintro (h1 | h1 | h1); rw [hd] at h1; cases h1; rw [hh] at h1; cases h1; omega), if_neg (by simp [Dv.lasts, hl]), show x.spent = x from by unfold Dv.spent; rw [if_pos hl]]
  rfl

end Go.Proofs.Ytledoajhjkfaoaa
