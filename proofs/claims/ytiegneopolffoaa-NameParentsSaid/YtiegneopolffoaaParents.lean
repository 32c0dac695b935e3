/-
  The contract of name.Parents.
-/
import Derived.Test.YtiegneopolffoaaOwn
import Derived.Test.YtiegneopolffoaaNames
import Derived.Test.YtiegneopolffoaaExact
namespace Go.Proofs.Ytiegneopolffoaa
open Go.RowKit

theorem strs_info : (Try.prog.info? 22).map (fun i => (i.zero, i.size, i.bytes)) = some (some (.slice none 0 0), 1, 24) := by kernel_rfl

/-- Two rows of different elements lie in different blocks. -/
theorem own_own_ne {w : World} {b1 b2 s1 s2 n1 n2 : Nat} {e1 e2 : TypeId} {v1 v2 : Value} {xs1 xs2 : List Value} (h1 : w.ownsRow b1 e1 s1 v1 n1 xs1) (h2 : w.ownsRow b2 e2 s2 v2 n2 xs2) (hne : e1 ≠ e2) : v1.ownBlock = none ∨ v1.ownBlock ≠ v2.ownBlock := by
  rcases h1.2 with ⟨rfl, _⟩ | ⟨g, cap, cur, rfl, _, hh, _⟩
  · exact .inl rfl
  · right
    rcases h2.2 with ⟨rfl, _⟩ | ⟨g', cap', cur', rfl, _, hh', _⟩
    · simp [Value.ownBlock]
    · intro e
      have : g = g' := by simpa [Value.ownBlock] using e
      subst this
      rw [hh] at hh'
      injection hh' with hh'
      injection hh' with _ ht
      exact hne ht

/-- Each of the lists us is one of the call's own, and reads as what is behind the first of n's labels. -/
def Tails (B : Nat) (n : List (List UInt8)) (us : List Value) (w : World) : Prop := ∀ j u, us[j]? = some u → w.ownsRow B 9 1 u (n.length - j) ((n.drop j).map sv)
theorem Tails.alloc {B : Nat} {n : List (List UInt8)} {us : List Value} {w : World} (h : Tails B n us w) (o : Obj) : Tails B n us (w.alloc o) := fun j u hu => (h j u hu).alloc o
theorem Tails.grown {B s k : Nat} {n : List (List UInt8)} {us xs : List Value} {w w' : World} {v : Value} {e : TypeId} (h : Tails B n us w) (hv : w.ownsRow B e s v k xs) (hne : 9 ≠ e) (hg : w.grownBy w' v.ownBlock) : Tails B n us w' :=
  fun j u hu => (h j u hu).kept hg (own_own_ne (h j u hu) hv hne)
theorem Tails.snoc {B : Nat} {n : List (List UInt8)} {us : List Value} {w : World} (h : Tails B n us w) {u : Value} (hu : w.ownsRow B 9 1 u (n.length - us.length) ((n.drop us.length).map sv)) : Tails B n (us ++ [u]) w := by
  intro j x hx
  rw [List.getElem?_append] at hx
  split at hx
  · exact h j x hx
  · rename_i hj
    have : j - us.length = 0 := by
      have := (List.getElem?_eq_some_iff.1 hx).1
      simp at this; omega
    rw [this] at hx
    simp at hx
    subst hx
    have e : j = us.length := by omega
    rw [e]
    exact hu
theorem grown_nil_tails {B : Nat} {n : List (List UInt8)} {us : List Value} {w w' : World} (h : Tails B n us w) (hg : w.grownBy w' none) : Tails B n us w' := fun j u hu => (h j u hu).kept hg (by cases hv : u.ownBlock <;> simp)

def ParRel (B : Nat) (w : World) (n : List (List UInt8)) (v i : Value) (wr : World) : Prop :=
  ∃ us : List Value, us.length ≤ n.length + 1 ∧ i = .int .i64 us.length ∧ (∀ u ∈ us, u.oneCell' = true) ∧ wr.ownsRow B 22 1 v us.length us ∧ Tails B n us wr ∧ Below B w wr ∧ B ≤ wr.heap.size

/-- What the call answers: new lists, one for each of n's tails. -/
def ParentsOf (w : World) (n : List (List UInt8)) (e : Ending) (w' : World) : Prop :=
  ∃ A c us, e = .returned (.slice A (n.length + 1) c) ∧ us.length = n.length + 1 ∧ w'.ownsRow w.heap.size 22 1 (.slice A (n.length + 1) c) (n.length + 1) us ∧ Tails w.heap.size n us w' ∧ Below w.heap.size w w'

theorem own_one {w : World} {base : Nat} {t : TypeId} {v : Value} {n : Nat} {xs : List Value} {size : Nat} (h : w.ownsRow base t size v n xs) : v.oneCell' = true := by
  obtain ⟨A, c, rfl, _⟩ := own_form h
  rfl

set_option maxHeartbeats 2000000 in
theorem parents_any (A : Option Addr) (m c H : Nat) (n : List (List UInt8)) (w : World) (hl : n.length = m) (hA : Row w H A (n.map sv)) (hH : H ≤ w.heap.size) (hm : m ≤ 1000000) (hc : m ≤ c) :
    Calls Try.prog 29 #[.slice A m c] w (ParentsOf w n) := by
  subst hl
  obtain ⟨i0, hi0, hz0, hz1, hz2⟩ := info_parts str_info
  obtain ⟨i1, hi1, hy0, hy1, hy2⟩ := info_parts strs_info
  have HA := Lib.hid (hA.mono hH)
  clear hA
  go_enter Try.func29, Try.ntmps29
  go_wp2_with (
    refine wpList_make_zeros rfl (.const (.int .i64 0)) (.tmp 7) _ rfl 22 i1 _ 24 Try.underlying36 hi1 hy0 hy1 hy2 rfl .i64 .i64 _ _ 0 (n.length + 1) rfl rfl rfl (by omega) (by omega) (by omega) (by unfold maxLen; omega) ?_)
  go_loopw [3, 12] (ParRel w.heap.size w n) (fun _ i _ => n.length + 1 - (intOf i).toNat)
  case atStart =>
    exact ⟨[], by simp, rfl, by simp, own_of_block (heap_alloc_new w _) (Nat.le_refl _) (length_zerosL _ _) (by omega) (by unfold maxLen; omega) (by simp), fun j u hu => by simp at hu, (Below.refl _ _).alloc (Nat.le_refl _) _, by simp⟩
  case round =>
    obtain ⟨us, hul, rfl, hone0, hown, htl, hbw, hz⟩ := hrel
    obtain ⟨A1, c1, rfl, hc1, hc2⟩ := own_form hown
    have HO := Lib.hid hown
    have HT := Lib.hid htl
    have HB := Lib.hid hbw
    have HN := Lib.hid hone0
    have HAW := Lib.hid (HA.out.below hbw)
    clear hown htl hbw hone0
    by_cases hlt : us.length < n.length
    · obtain ⟨b, off, rfl, _, _⟩ := HAW.out.some_ (by rw [List.length_map]; omega)
      have HD := Lib.hid (by have h := HAW.out.drop (k := us.length) rfl; rw [← List.map_drop] at h; exact h)
      go_wp2_with (first
        | (at_builtin
           refine wpList_append_row rfl (.const (.slice none 0 0)) (.tmp 18) _ rfl w.heap.size 9 i0 _ 1 16 Try.underlying22 hi0 hz0 hz1 hz2 rfl (by omega) (.slice none 0 0) 0 [] rfl
             (World.ownsRow_nil _ _ _ _) _ (n.length - us.length) _ _ ((n.drop us.length).map sv) rfl (by rw [List.length_map, List.length_drop, Nat.mul_one]) HD.out (sv_one _) (by unfold maxLen; omega) (by omega) hz ?_
           intro v1 w1 hown1 hg1
           simp only [Nat.zero_add, List.nil_append] at hown1
           have hs1 := hg1.size
           have hone := own_one hown1
           obtain ⟨A3, k3, rfl, _, _⟩ := own_form hown1
           have HV1 := Lib.hid hown1
           have HG1 := Lib.hid hg1
           have HO1 := Lib.hid (HO.out.kept hg1 (by cases hv : (Value.slice A1 us.length c1).ownBlock <;> simp [Value.ownBlock]))
           have HR1 := Lib.hid (Row.made w1 #[.slice A3 (n.length - us.length) k3] 22)
           clear hown1 hg1)
        | (at_builtin
           refine wpList_append_row rfl (.tmp 15) (.tmp 20) _ rfl w.heap.size 22 i1 _ 1 24 Try.underlying36 hi1 hy0 hy1 hy2 rfl (by omega) (.slice A1 us.length c1) us.length us rfl
             (HO1.out.alloc _) (some ⟨w1.heap.size, 0, none⟩) 1 1 (w1.heap.size + 1) [.slice A3 (n.length - us.length) k3] rfl rfl HR1.out (by simpa using hone) (by unfold maxLen; omega) (by omega) (by simp; omega) ?_
           intro v2 w2 hown2 hg2
           have HO2 := Lib.hid hown2
           have HG2 := Lib.hid hg2
           have hs2 := hg2.size
           clear hown2 hg2))
      refine ⟨⟨us ++ [.slice A3 (n.length - us.length) k3], by simp; omega, by simp, ?_, by simpa using HO2.out, ?_, ?_, ?_⟩, by simp [intOf]; omega⟩
      · intro u hu
        rcases List.mem_append.1 hu with hu | hu
        · exact HN.out u hu
        · rw [List.mem_singleton] at hu; rw [hu]; exact hone
      · exact (((grown_nil_tails HT.out HG1.out).snoc HV1.out).alloc _).grown (HO1.out.alloc _) (by decide) HG2.out
      · exact own_below ((own_below HB.out (Nat.le_refl _) hz (World.ownsRow_nil _ _ 9 1) HG1.out).alloc (by omega) _) (Nat.le_refl _) (by simp; omega) (HO1.out.alloc _) HG2.out
      · simp at hs2; omega
    · by_cases hle : us.length = n.length
      · have hle1 : us.length ≤ n.length := by omega
        have hle2 : n.length ≤ us.length := by omega
        have hkc : us.length ≤ c := by omega
        have d1 : decide ((us.length : Int) < (n.length : Int) + 1) = true := by simp; omega
        clear hle hlt
        rcases A with _ | ⟨b, off, sp⟩
        all_goals
          rcases Nat.lt_or_ge us.length c with hcc | hcc
          all_goals
            go_wp2_with (first
              | (at_builtin
                 refine wpList_append_row rfl (.const (.slice none 0 0)) (.tmp 18) _ rfl w.heap.size 9 i0 _ 1 16 Try.underlying22 hi0 hz0 hz1 hz2 rfl (by omega) (.slice none 0 0) 0 [] rfl
                   (World.ownsRow_nil _ _ _ _) _ 0 _ 0 [] rfl rfl (Row.empty _ _ _) (by simp) (by unfold maxLen; omega) (by omega) hz ?_
                 intro v1 w1 hown1 hg1
                 simp only [Nat.zero_add, List.nil_append] at hown1
                 have hs1 := hg1.size
                 have hone := own_one hown1
                 obtain ⟨A3, k3, rfl, _, _⟩ := own_form hown1
                 have HV1 := Lib.hid hown1
                 have HG1 := Lib.hid hg1
                 have HO1 := Lib.hid (HO.out.kept hg1 (by cases hv : (Value.slice A1 us.length c1).ownBlock <;> simp [Value.ownBlock]))
                 have HR1 := Lib.hid (Row.made w1 #[.slice A3 0 k3] 22)
                 clear hown1 hg1)
              | (at_builtin
                 refine wpList_append_row rfl (.tmp 15) (.tmp 20) _ rfl w.heap.size 22 i1 _ 1 24 Try.underlying36 hi1 hy0 hy1 hy2 rfl (by omega) (.slice A1 us.length c1) us.length us rfl
                   (HO1.out.alloc _) (some ⟨w1.heap.size, 0, none⟩) 1 1 (w1.heap.size + 1) [.slice A3 0 k3] rfl rfl HR1.out (by simpa using hone) (by unfold maxLen; omega) (by omega) (by simp; omega) ?_
                 intro v2 w2 hown2 hg2
                 have HO2 := Lib.hid hown2
                 have HG2 := Lib.hid hg2
                 have hs2 := hg2.size
                 clear hown2 hg2))
            refine ⟨⟨us ++ [.slice A3 0 k3], by simp; omega, by simp, ?_, by simpa using HO2.out, ?_, ?_, ?_⟩, by simp [intOf]; omega⟩
            · intro u hu
              rcases List.mem_append.1 hu with hu | hu
              · exact HN.out u hu
              · rw [List.mem_singleton] at hu; rw [hu]; exact hone
            · exact (((grown_nil_tails HT.out HG1.out).snoc (by have h := HV1.out; rw [show n.length - us.length = 0 from by omega, List.drop_eq_nil_of_le (by omega)]; exact h)).alloc _).grown (HO1.out.alloc _) (by decide) HG2.out
            · exact own_below ((own_below HB.out (Nat.le_refl _) hz (World.ownsRow_nil _ _ 9 1) HG1.out).alloc (by omega) _) (Nat.le_refl _) (by simp; omega) (HO1.out.alloc _) HG2.out
            · simp at hs2; omega
      · have hu1 : us.length = n.length + 1 := by omega
        have d1 : decide ((us.length : Int) < (n.length : Int) + 1) = false := by simp; omega
        have HU1 := Lib.hid hu1
        clear hu1 hle
        go_wp2
        go_ret
        refine ⟨A1, c1, us, by rw [← HU1.out]; rfl, HU1.out, ?_, HT.out, HB.out⟩
        rw [← HU1.out]
        exact HO.out

end Go.Proofs.Ytiegneopolffoaa
