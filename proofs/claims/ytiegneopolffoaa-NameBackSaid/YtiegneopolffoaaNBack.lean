/-
  Plain mathematics: a sound name's text is read as it.
-/
import Derived.Test.YtiegneopolffoaaNParse
namespace Go.Proofs.Ytiegneopolffoaa
open Go.RowKit

theorem tot_textC (out : List (List UInt8)) (lab t : List UInt8) (c : UInt8) : tot out lab (textC c ++ t) = tot out (lab ++ [c]) t := by
  have hc := c.toNat_lt
  by_cases h1 : c.toNat = 46 ∨ c.toNat = 92
  · rw [textC_esc h1]
    have hd : digB c = false := digB_no (by omega)
    have hr : readC (92 :: c :: t) = some (c, 2) := by simp [readC, hd]
    exact tot_some out lab (c :: t) (by decide) hr
  · by_cases h2 : 33 ≤ c.toNat ∧ c.toNat ≤ 126
    · rw [textC_as h1 h2]
      have hr : readC (c :: t) = some (c, 1) := by
        rw [readC.eq_def]
        simp only
        rw [if_neg (by omega), if_pos (plainC_yes h2)]
      exact tot_some out lab t (by omega) hr
    · rw [textC_num h2]
      have e1 := dgH_nat c
      have e2 := dgT_nat c
      have e3 := dgO_nat c
      have d1 : digB (dgH c) = true := digB_yes (by omega)
      have d2 : digB (dgT c) = true := digB_yes (by omega)
      have d3 : digB (dgO c) = true := digB_yes (by omega)
      have hv : numC (dgH c) (dgT c) (dgO c) = c.toNat := by unfold numC; omega
      have hr : readC (92 :: dgH c :: dgT c :: dgO c :: t) = some (c, 4) := by
        rw [readC.eq_def]
        simp only
        rw [if_pos (by decide), if_pos d1]
        have hn : readN (dgH c :: dgT c :: dgO c :: t) = some c := by
          rw [readN, if_pos ⟨d1, d2, d3, by rw [hv]; omega⟩, hv]
          congr 1
          apply UInt8.toNat.inj
          rw [UInt8.toNat_ofNat']
          omega
        rw [hn]
        rfl
      exact tot_some out lab (dgH c :: dgT c :: dgO c :: t) (by decide) hr
theorem tot_textL (out : List (List UInt8)) (t : List UInt8) : ∀ (l lab : List UInt8), tot out lab (textL l ++ t) = tot out (lab ++ l) t
  | [], lab => by simp [textL]
  | c :: l, lab => by
    have h : textL (c :: l) ++ t = textC c ++ (textL l ++ t) := by simp [textL]
    rw [h, tot_textC, tot_textL out t l (lab ++ [c])]
    simp
theorem textN_cons (l : List UInt8) (n : List (List UInt8)) : textN (l :: n) = textL l ++ 46 :: textN n := by simp [textN]
theorem tot_textN : ∀ (n out : List (List UInt8)), n ≠ [] → tot out [] (textN n) = some (out ++ n)
  | [], _, h => absurd rfl h
  | [l], out, _ => by
    rw [textN_cons, show textN [] = [] from rfl, tot_textL, List.nil_append]
    exact tot_end out l (by decide)
  | l :: m :: n, out, _ => by
    have h := tot_textN (m :: n) (out ++ [l]) (by simp)
    rw [textN_cons, tot_textL, List.nil_append, tot_dot out l _ (by decide) (textN_ne (by simp)), h]
    simp
theorem textN_two {n : List (List UInt8)} (hn : n ≠ []) (h : ∀ l ∈ n, l ≠ []) : 2 ≤ (textN n).length := by
  match n, hn with
  | l :: n, _ =>
    have hl := h l (List.mem_cons_self ..)
    match l, hl with
    | c :: l, _ =>
      have : 1 ≤ (textC c).length := by
        unfold textC
        split
        · simp
        · split <;> simp
      rw [textN_cons]
      simp only [textL, List.flatMap_cons, List.length_append, List.length_cons]
      omega
theorem tot_dropped : ∀ (n out : List (List UInt8)), n ≠ [] → (∀ l ∈ n, l ≠ []) → tot out [] (textN n).dropLast = some (out ++ n)
  | [], _, h, _ => absurd rfl h
  | [l], out, _, _ => by
    rw [textN_cons, show textN [] = [] from rfl, List.dropLast_concat]
    have h := tot_textL out [] l []
    rw [List.append_nil, List.nil_append] at h
    rw [h, tot_nil]
  | l :: m :: n, out, _, hl => by
    have hl2 : ∀ x ∈ m :: n, x ≠ [] := fun x hx => hl x (List.mem_cons_of_mem _ hx)
    have h := tot_dropped (m :: n) (out ++ [l]) (by simp) hl2
    have h2 := textN_two (n := m :: n) (by simp) hl2
    have hne : textN (m :: n) ≠ [] := textN_ne (by simp)
    have hd : (textN (m :: n)).dropLast ≠ [] := by
      intro e
      have := congrArg List.length e
      rw [List.length_dropLast] at this
      simp only [List.length_nil] at this
      omega
    have e : (textN (l :: m :: n)).dropLast = textL l ++ 46 :: (textN (m :: n)).dropLast := by
      rw [textN_cons, List.dropLast_append_of_ne_nil (by simp)]
      congr 1
      rw [List.dropLast_cons_of_ne_nil hne]
    rw [e, tot_textL, List.nil_append, tot_dot out l _ (by decide) hd, h]
    simp
theorem sound_ne {n : List (List UInt8)} (h : soundN n = true) : ∀ l ∈ n, l ≠ [] := by
  intro l hl e
  simp only [soundN, Bool.and_eq_true, List.all_eq_true] at h
  have := h.1 l hl
  subst e
  simp [fitL] at this
theorem not_dot {n : List (List UInt8)} {s : List UInt8} (h : soundN n = true) (ht : tot [] [] s = some n) : ¬ s = [46] := by
  rintro rfl
  rw [tot_end [] [] (by decide)] at ht
  injection ht with ht
  rw [← ht] at h
  exact absurd h (by decide)
/-- A sound name's text is read as it. -/
theorem parse_text {n : List (List UInt8)} (h : soundN n = true) : parseN (textA n) = some n := by
  by_cases hn : n = []
  · subst hn; rfl
  · have ht := tot_textN n [] hn
    rw [List.nil_append] at ht
    unfold textA parseN
    rw [if_neg hn, if_neg (not_dot h ht), ht]
    simp [chk, h]
/-- .. and without the last point. -/
theorem parse_dropped {n : List (List UInt8)} (h : soundN n = true) (hn : n ≠ []) : parseN (textA n).dropLast = some n := by
  have ht := tot_dropped n [] hn (sound_ne h)
  rw [List.nil_append] at ht
  unfold textA parseN
  rw [if_neg hn, if_neg (not_dot h ht), ht]
  simp [chk, h]

end Go.Proofs.Ytiegneopolffoaa
