/-
  Sets hang on no order: what is told of a set is the same, in whatever order the records stand.
-/
import Derived.Test.YtjjmllbkfbdcnaaRSet
namespace Go.Proofs.Ytjjmllbkfbdcnaa
open Go.RowKit

/-- What data says, letters small. -/
def normD (d : Dt) : List UInt8 × List Int × List (List UInt8) × List (List UInt8) × List (List UInt8) := (d.bytes, d.nums, d.texts, lowN d.host, lowN d.mail)
theorem sameD_iff {a b : Dt} : sameD a b = true ↔ normD a = normD b := by
  unfold sameD normD eqN
  simp
theorem hasD_iff {l : List Dt} {d : Dt} : hasD l d = true ↔ normD d ∈ l.map normD := by
  unfold hasD
  rw [List.any_eq_true, List.mem_map]
  exact ⟨fun ⟨e, h1, h2⟩ => ⟨e, h1, (sameD_iff.1 h2).symm⟩, fun ⟨e, h1, h2⟩ => ⟨e, h1, sameD_iff.2 h2.symm⟩⟩

/-- What is known of a set when the records S have been seen. -/
structure SetInv (S : List Rt) (x : List Dt × Int) : Prop where
  nd : (x.1.map normD).Nodup
  mem : ∀ z, z ∈ x.1.map normD ↔ z ∈ S.map fun r => normD r.data
  ttl : (S = [] ∧ x = ([], 0)) ∨ (x.1 ≠ [] ∧ (∃ r ∈ S, r.ttl = x.2) ∧ ∀ r ∈ S, x.2 ≤ r.ttl)
theorem SetInv.step {S : List Rt} {x : List Dt × Int} (h : SetInv S x) (r : Rt) : SetInv (S ++ [r]) (stepS x r) := by
  obtain ⟨s, t⟩ := x
  obtain ⟨hnd, hmem, httl⟩ := h
  dsimp only at *
  refine ⟨?_, fun z => ?_, .inr ⟨?_, ?_⟩⟩
  · unfold stepS
    dsimp only
    split
    · exact hnd
    · rename_i hh
      rw [List.map_append, List.nodup_append]
      refine ⟨hnd, by simp, fun a ha b hb e => hh (hasD_iff.2 ?_)⟩
      simp only [List.map_cons, List.map_nil, List.mem_singleton] at hb
      rw [← hb, ← e]
      exact ha
  · unfold stepS
    dsimp only
    rw [List.map_append, List.mem_append]
    split
    · rename_i hh
      rw [hmem]
      refine ⟨.inl, fun h => h.elim id fun h => ?_⟩
      simp only [List.map_cons, List.map_nil, List.mem_singleton] at h
      rw [h, ← hmem]
      exact hasD_iff.1 hh
    · rw [List.map_append, List.mem_append, hmem]
      simp
  · unfold stepS
    dsimp only
    split
    · rename_i hh
      intro e
      rw [e] at hh
      simp [hasD] at hh
    · simp
  · unfold stepS
    dsimp only
    rcases httl with ⟨rfl, e⟩ | ⟨h1, ⟨q, hq, hqt⟩, h3⟩
    · injection e with e1 e2
      subst e1
      rw [if_pos (.inl rfl)]
      exact ⟨⟨r, by simp, rfl⟩, fun u hu => by simp at hu; subst hu; exact Int.le_refl _⟩
    · by_cases hlt : r.ttl < t
      · rw [if_pos (.inr hlt)]
        refine ⟨⟨r, by simp, rfl⟩, fun u hu => ?_⟩
        rcases List.mem_append.1 hu with hu | hu
        · have := h3 u hu; omega
        · rw [List.mem_singleton.1 hu]; exact Int.le_refl _
      · rw [if_neg (by rintro (h | h); exact h1 h; exact hlt h)]
        refine ⟨⟨q, List.mem_append_left _ hq, hqt⟩, fun u hu => ?_⟩
        rcases List.mem_append.1 hu with hu | hu
        · exact h3 u hu
        · rw [List.mem_singleton.1 hu]; omega
theorem setInv_fold : ∀ (L S : List Rt) (x : List Dt × Int), SetInv S x → SetInv (S ++ L) (L.foldl stepS x)
  | [], S, x, h => by simpa using h
  | r :: L, S, x, h => by
    have := setInv_fold L (S ++ [r]) (stepS x r) (h.step r)
    simpa using this
theorem setInv (rs : List Rt) (n : List (List UInt8)) (k : Int) : SetInv (rs.filter (selR n k)) (setF rs n k) := by
  have := setInv_fold (rs.filter (selR n k)) [] ([], 0) ⟨by simp, fun z => by simp, .inl ⟨rfl, rfl⟩⟩
  simpa [setF] using this

theorem withinD_of {a b : List Dt} (h : ∀ z ∈ a.map normD, z ∈ b.map normD) : withinD a b = true := by
  unfold withinD
  rw [List.all_eq_true]
  exact fun x hx => hasD_iff.2 (h _ (List.mem_map.2 ⟨x, hx, rfl⟩))
/-- The order does not matter, nor how often a record stands there. -/
theorem setF_order {rs ts : List Rt} (h : ∀ r, r ∈ ts ↔ r ∈ rs) (n : List (List UInt8)) (k : Int) :
    sameS (setF rs n k).1 (setF ts n k).1 = true ∧ (setF rs n k).1.length = (setF ts n k).1.length ∧ (setF rs n k).2 = (setF ts n k).2 := by
  have h1 := setInv rs n k
  have h2 := setInv ts n k
  have hf : ∀ r, r ∈ ts.filter (selR n k) ↔ r ∈ rs.filter (selR n k) := fun r => by rw [List.mem_filter, List.mem_filter, h]
  have hm : ∀ z, z ∈ (setF rs n k).1.map normD ↔ z ∈ (setF ts n k).1.map normD := fun z => by
    rw [h1.mem, h2.mem, List.mem_map, List.mem_map]
    exact ⟨fun ⟨r, hr, e⟩ => ⟨r, (hf r).2 hr, e⟩, fun ⟨r, hr, e⟩ => ⟨r, (hf r).1 hr, e⟩⟩
  refine ⟨?_, ?_, ?_⟩
  · unfold sameS
    rw [withinD_of fun z hz => (hm z).1 hz, withinD_of fun z hz => (hm z).2 hz]
    rfl
  · have a1 := List.Nodup.length_le_of_subset h1.nd fun z hz => (hm z).1 hz
    have a2 := List.Nodup.length_le_of_subset h2.nd fun z hz => (hm z).2 hz
    simp only [List.length_map] at a1 a2
    omega
  · rcases h1.ttl with ⟨e1, x1⟩ | ⟨_, ⟨r1, m1, t1⟩, l1⟩
    · rcases h2.ttl with ⟨e2, x2⟩ | ⟨_, ⟨r2, m2, t2⟩, l2⟩
      · rw [x1, x2]
      · exact absurd ((hf r2).1 m2) (by rw [e1]; exact List.not_mem_nil)
    · rcases h2.ttl with ⟨e2, x2⟩ | ⟨_, ⟨r2, m2, t2⟩, l2⟩
      · exact absurd ((hf r1).2 m1) (by rw [e2]; exact List.not_mem_nil)
      · have a1 := l1 r2 ((hf r2).1 m2)
        have a2 := l2 r1 ((hf r1).2 m1)
        omega
theorem mem_turned {rs : List Rt} {k : Nat} (hk : k < rs.length) (r : Rt) : r ∈ rs.reverse ++ [rs[k]] ↔ r ∈ rs := by
  rw [List.mem_append, List.mem_reverse, List.mem_singleton]
  exact ⟨fun h => h.elim id fun e => e ▸ List.getElem_mem hk, .inl⟩

end Go.Proofs.Ytjjmllbkfbdcnaa
