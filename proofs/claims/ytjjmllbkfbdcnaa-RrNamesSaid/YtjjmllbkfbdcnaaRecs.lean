/-
  Records, and lists of them and of data, as they lie in memory.
-/
import Derived.Test.YtjjmllbkfbdcnaaDSame
namespace Go.Proofs.Ytjjmllbkfbdcnaa
open Go.RowKit

/-- A record. -/
structure Rt where
  name : List (List UInt8)
  kind : Int
  cls : Int
  ttl : Int
  data : Dt
/-- Where its slices lie, and what room they have. -/
structure RV where
  A : Option Addr
  c : Nat
  d : DV
abbrev RV.vn (x : RV) (r : Rt) : Value := .slice x.A r.name.length x.c
/-- Its cells. -/
def cellsR (p : RV × Rt) : List Value := [.slice p.1.A p.2.name.length p.1.c, .int .i64 p.2.kind, .int .i64 p.2.cls, .int .i64 p.2.ttl, .slice p.1.d.Ab p.2.data.bytes.length p.1.d.cb, .slice p.1.d.Ah p.2.data.host.length p.1.d.ch, .slice p.1.d.Am p.2.data.mail.length p.1.d.cm, .slice p.1.d.An p.2.data.nums.length p.1.d.cn, .slice p.1.d.At p.2.data.texts.length p.1.d.ct]
def cellsD (p : DV × Dt) : List Value := [.slice p.1.Ab p.2.bytes.length p.1.cb, .slice p.1.Ah p.2.host.length p.1.ch, .slice p.1.Am p.2.mail.length p.1.cm, .slice p.1.An p.2.nums.length p.1.cn, .slice p.1.At p.2.texts.length p.1.ct]
/-- The value. -/
abbrev RV.val (x : RV) (r : Rt) : Value := .agg #[.slice x.A r.name.length x.c, .int .i64 r.kind, .int .i64 r.cls, .int .i64 r.ttl, .slice x.d.Ab r.data.bytes.length x.d.cb, .slice x.d.Ah r.data.host.length x.d.ch, .slice x.d.Am r.data.mail.length x.d.cm, .slice x.d.An r.data.nums.length x.d.cn, .slice x.d.At r.data.texts.length x.d.ct]

theorem rr_cells : Try.prog.cellsOf 51 = 9 := by kernel_rfl

/-- In the world w the slices x read as r, below H. -/
structure RAt (w : World) (H : Nat) (x : RV) (r : Rt) : Prop where
  n : Row w H x.A (r.name.map sv)
  l : r.name.length ≤ x.c
  d : DataAt w H x.d r.data
section
variable {w w' : World} {H H' : Nat} {x : RV} {r : Rt}
theorem RAt.below (h : RAt w H x r) (hb : Below H w w') : RAt w' H x r := ⟨h.n.below hb, h.l, h.d.below hb⟩
theorem RAt.mono (h : RAt w H x r) (hb : H ≤ H') : RAt w H' x r := ⟨h.n.mono hb, h.l, h.d.mono hb⟩
end

/-- From A on the world holds records; each of their slices reads. -/
def RsAt (w : World) (H : Nat) (A : Option Addr) (ps : List (RV × Rt)) : Prop := Row w H A (ps.flatMap cellsR) ∧ ∀ p ∈ ps, RAt w H p.1 p.2
/-- The same of data. -/
def DsAt (w : World) (H : Nat) (A : Option Addr) (ps : List (DV × Dt)) : Prop := Row w H A (ps.flatMap cellsD) ∧ ∀ p ∈ ps, DataAt w H p.1 p.2
section
variable {w w' : World} {H H' : Nat} {A : Option Addr}
theorem RsAt.below {ps : List (RV × Rt)} (h : RsAt w H A ps) (hb : Below H w w') : RsAt w' H A ps := ⟨h.1.below hb, fun p hp => (h.2 p hp).below hb⟩
theorem RsAt.mono {ps : List (RV × Rt)} (h : RsAt w H A ps) (hb : H ≤ H') : RsAt w H' A ps := ⟨h.1.mono hb, fun p hp => (h.2 p hp).mono hb⟩
theorem DsAt.below {ps : List (DV × Dt)} (h : DsAt w H A ps) (hb : Below H w w') : DsAt w' H A ps := ⟨h.1.below hb, fun p hp => (h.2 p hp).below hb⟩
theorem DsAt.mono {ps : List (DV × Dt)} (h : DsAt w H A ps) (hb : H ≤ H') : DsAt w H' A ps := ⟨h.1.mono hb, fun p hp => (h.2 p hp).mono hb⟩
theorem DsAt.nil (w : World) (H : Nat) (A : Option Addr) : DsAt w H A [] := ⟨Row.empty _ _ _, fun _ h => absurd h (List.not_mem_nil)⟩
end

theorem flat_get {α : Type} {f : α → List Value} {k : Nat} (hf : ∀ p, (f p).length = k) : ∀ (ps : List α) (i j : Nat) (hi : i < ps.length), j < k → (ps.flatMap f)[i * k + j]? = (f ps[i])[j]?
  | [], i, j, hi, _ => absurd hi (Nat.not_lt_zero _)
  | p :: ps, 0, j, _, hj => by
    rw [List.flatMap_cons, Nat.zero_mul, Nat.zero_add, List.getElem?_append_left (by rw [hf]; exact hj)]
    rfl
  | p :: ps, i + 1, j, hi, hj => by
    rw [List.flatMap_cons, List.getElem?_append_right (by rw [hf, Nat.succ_mul]; omega), hf]
    have h := flat_get hf ps i j (by simpa using hi) hj
    rw [show (i + 1) * k + j - k = i * k + j by rw [Nat.succ_mul]; omega]
    simpa using h
theorem length_flat {α : Type} {f : α → List Value} {k : Nat} (hf : ∀ p, (f p).length = k) : ∀ ps : List α, (ps.flatMap f).length = ps.length * k
  | [] => by simp
  | p :: ps => by rw [List.flatMap_cons, List.length_append, hf, length_flat hf ps, List.length_cons, Nat.succ_mul, Nat.add_comm]
theorem Row.part {α : Type} {f : α → List Value} {k : Nat} (hf : ∀ p, (f p).length = k) (hk : 0 < k) {w : World} {H : Nat} {A : Option Addr} {ps : List α} (h : Row w H A (ps.flatMap f)) {i : Nat} (hi : i < ps.length) :
    ∃ b off, A = some ⟨b, off, none⟩ ∧ b < H ∧ ∀ j v, (f ps[i])[j]? = some v → w.cell? ⟨b, off + i * k + j, none⟩ = some v := by
  obtain ⟨b, off, e, hb, hc⟩ := h.some_ (by
    rw [length_flat hf]
    exact Nat.mul_pos (by omega) hk)
  refine ⟨b, off, e, hb, fun j v hv => ?_⟩
  have hj : j < k := by
    have := (List.getElem?_eq_some_iff.1 hv).1
    rwa [hf] at this
  have h1 := hc (i * k + j) v (by rw [flat_get hf ps i j hi hj]; exact hv)
  rwa [← Nat.add_assoc] at h1
theorem cellsR_len (p : RV × Rt) : (cellsR p).length = 9 := rfl
theorem cellsD_len (p : DV × Dt) : (cellsD p).length = 5 := rfl
theorem cellsR_one (ps : List (RV × Rt)) : ∀ u ∈ ps.flatMap cellsR, u.oneCell' = true := by
  intro u hu
  obtain ⟨p, _, hp⟩ := List.mem_flatMap.1 hu
  simp only [cellsR, List.mem_cons, List.not_mem_nil, or_false] at hp
  rcases hp with rfl | rfl | rfl | rfl | rfl | rfl | rfl | rfl | rfl <;> rfl
theorem cellsD_one (ps : List (DV × Dt)) : ∀ u ∈ ps.flatMap cellsD, u.oneCell' = true := by
  intro u hu
  obtain ⟨p, _, hp⟩ := List.mem_flatMap.1 hu
  simp only [cellsD, List.mem_cons, List.not_mem_nil, or_false] at hp
  rcases hp with rfl | rfl | rfl | rfl | rfl <;> rfl

/-- The data number i of a list. -/
theorem DsAt.at_ {w : World} {H : Nat} {A : Option Addr} {ps : List (DV × Dt)} (h : DsAt w H A ps) {i : Nat} (hi : i < ps.length) :
    ∃ b off, A = some ⟨b, off, none⟩ ∧ b < H ∧ DataAt w H (ps[i]).1 (ps[i]).2 ∧ w.cell? ⟨b, off + i * 5, none⟩ = some ((ps[i]).1.vb (ps[i]).2) ∧ w.cell? ⟨b, off + i * 5 + 1, none⟩ = some ((ps[i]).1.vh (ps[i]).2) ∧
      w.cell? ⟨b, off + i * 5 + 2, none⟩ = some ((ps[i]).1.vm (ps[i]).2) ∧ w.cell? ⟨b, off + i * 5 + 3, none⟩ = some ((ps[i]).1.vn (ps[i]).2) ∧ w.cell? ⟨b, off + i * 5 + 4, none⟩ = some ((ps[i]).1.vt (ps[i]).2) := by
  obtain ⟨b, off, e, hb, hc⟩ := h.1.part cellsD_len (by omega) hi
  exact ⟨b, off, e, hb, h.2 _ (List.getElem_mem hi), hc 0 _ rfl, hc 1 _ rfl, hc 2 _ rfl, hc 3 _ rfl, hc 4 _ rfl⟩
/-- The record number i of a list. -/
theorem RsAt.at_ {w : World} {H : Nat} {A : Option Addr} {ps : List (RV × Rt)} (h : RsAt w H A ps) {i : Nat} (hi : i < ps.length) :
    ∃ b off, A = some ⟨b, off, none⟩ ∧ b < H ∧ RAt w H (ps[i]).1 (ps[i]).2 ∧ w.cell? ⟨b, off + i * 9, none⟩ = some ((ps[i]).1.vn (ps[i]).2) ∧ w.cell? ⟨b, off + i * 9 + 1, none⟩ = some (.int .i64 (ps[i]).2.kind) ∧
      w.cell? ⟨b, off + i * 9 + 2, none⟩ = some (.int .i64 (ps[i]).2.cls) ∧ w.cell? ⟨b, off + i * 9 + 3, none⟩ = some (.int .i64 (ps[i]).2.ttl) ∧
      w.cell? ⟨b, off + i * 9 + 4, none⟩ = some ((ps[i]).1.d.vb (ps[i]).2.data) ∧ w.cell? ⟨b, off + i * 9 + 5, none⟩ = some ((ps[i]).1.d.vh (ps[i]).2.data) ∧
      w.cell? ⟨b, off + i * 9 + 6, none⟩ = some ((ps[i]).1.d.vm (ps[i]).2.data) ∧ w.cell? ⟨b, off + i * 9 + 7, none⟩ = some ((ps[i]).1.d.vn (ps[i]).2.data) ∧ w.cell? ⟨b, off + i * 9 + 8, none⟩ = some ((ps[i]).1.d.vt (ps[i]).2.data) := by
  obtain ⟨b, off, e, hb, hc⟩ := h.1.part cellsR_len (by omega) hi
  exact ⟨b, off, e, hb, h.2 _ (List.getElem_mem hi), hc 0 _ rfl, hc 1 _ rfl, hc 2 _ rfl, hc 3 _ rfl, hc 4 _ rfl, hc 5 _ rfl, hc 6 _ rfl, hc 7 _ rfl, hc 8 _ rfl⟩

/-- The records as lists. -/
def recs (ps : List (RV × Rt)) : List Rt := ps.map (·.2)
def dats (ps : List (DV × Dt)) : List Dt := ps.map (·.2)
theorem length_recs (ps : List (RV × Rt)) : (recs ps).length = ps.length := by simp [recs]
theorem length_dats (ps : List (DV × Dt)) : (dats ps).length = ps.length := by simp [dats]
theorem recs_append (ps qs : List (RV × Rt)) : recs (ps ++ qs) = recs ps ++ recs qs := by simp [recs]
theorem dats_append (ps qs : List (DV × Dt)) : dats (ps ++ qs) = dats ps ++ dats qs := by simp [dats]
theorem take_recs (ps : List (RV × Rt)) (k : Nat) : (recs ps).take k = recs (ps.take k) := by simp [recs]

/-- Numbers that a variable holds, lengths that memory holds. -/
structure RIn (r : Rt) : Prop where
  n : WideN r.name
  k : (Lit.int .i64 r.kind).wf = true
  c : (Lit.int .i64 r.cls).wf = true
  t : (Lit.int .i64 r.ttl).wf = true
  d : Wide r.data
  lt : ∀ k (h : k < r.data.texts.length), (r.data.texts[k]).length ≤ maxLen
  nm : ∀ n ∈ r.data.nums, (Lit.int .i64 n).wf = true

end Go.Proofs.Ytjjmllbkfbdcnaa
