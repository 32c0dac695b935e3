/-
  A Writer as the contracts see it; the contracts of New, Len, Bytes, Raw and Num.
-/
import Derived.Test.YtjjmllbkfbdcnaaFrame
import Derived.Test.YtjjmllbkfbdcnaaNPut
import Derived.Test.YtjjmllbkfbdcnaaPut
import Derived.Lib.AppendStr
import Derived.Maps.OwnOps
namespace Go.Proofs.Ytjjmllbkfbdcnaa
open Go.RowKit

/-- The key under which a rest is kept. -/
def keyR (n : List (List UInt8)) : Lit := .string (encN n)
/-- A map's entries say what the rests R are. -/
def SaysR (D : DataW Unit) (R : Rs) : Prop :=
  Maps.IsMap D ∧ ∀ n, n.all fitL = true → Maps.has D (keyR n) = (findR R n).isSome ∧ D.atKey (keyR n) (.lit (.int .i64 0)) = .lit (.int .i64 ((findR R n).getD 0 : Nat))
def MapOf (w : World) (base : Nat) (v : Value) (R : Rs) : Prop :=
  (v = .map none ∧ R = []) ∨ ∃ b D, v = .map (some b) ∧ base ≤ b ∧ w.ownsMap (H := Unit) Try.prog 9 (plainElem Try.prog 3) b R.length D ∧ SaysR D R

/-- A Writer: its block is g; vB reads as B, and vM says the rests R. -/
structure Wr (w : World) (base g : Nat) (vB vM : Value) (B : List UInt8) (R : Rs) : Prop where
  blk : Whole w g 75 [vB, vM]
  low : base ≤ g
  row : w.ownsRow base 5 1 vB B.length (B.map bc)
  map : MapOf w base vM R
/-- Which blocks are a Writer's own. -/
def ownF (g : Nat) (vB vM : Value) (j : Nat) : Prop := j = g ∨ vB.ownBlock = some j ∨ vM = .map (some j)

section
variable {w w' : World} {base g : Nat} {vB vM : Value} {B : List UInt8} {R : Rs}
theorem Wr.c0 (h : Wr w base g vB vM B R) : w.cell? ⟨g, 0, none⟩ = some vB := h.blk.cell 0
theorem Wr.c1 (h : Wr w base g vB vM B R) : w.cell? ⟨g, 1, none⟩ = some vM := h.blk.cell 1
theorem Wr.f0 (h : Wr w base g vB vM B R) : w.frozen? ⟨g, 0, none⟩ = false := h.blk.frozen 0
theorem Wr.f1 (h : Wr w base g vB vM B R) : w.frozen? ⟨g, 1, none⟩ = false := h.blk.frozen 1
theorem Wr.size (h : Wr w base g vB vM B R) : base ≤ w.heap.size := Nat.le_of_lt (Nat.lt_of_le_of_lt h.low h.blk.lt)
theorem MapOf.lt (h : MapOf w base vM R) {j : Nat} (hj : vM = .map (some j)) : base ≤ j ∧ j < w.heap.size := by
  rcases h with ⟨rfl, _⟩ | ⟨b, D, rfl, hb, ho, _⟩
  · cases hj
  · injection hj with hj
    injection hj with hj
    subst hj
    exact ⟨hb, ho.lt⟩
theorem Wr.own (h : Wr w base g vB vM B R) {j : Nat} (hj : ownF g vB vM j) : base ≤ j ∧ j < w.heap.size := by
  rcases hj with rfl | hj | hj
  · exact ⟨h.low, h.blk.lt⟩
  · exact h.row.lt j hj
  · exact h.map.lt hj
theorem ownsMap_keep {P : Program} {k : TypeId} {E : Value → Option (DataW Unit × List MemPlace)} {b n : Nat} {D : DataW Unit} (h : w.ownsMap P k E b n D) (hk : w'.heap[b]? = w.heap[b]?) : w'.ownsMap P k E b n D := by
  obtain ⟨es, clock, hb, r⟩ := h
  exact ⟨es, clock, hk.trans hb, r⟩
theorem MapOf.keep (h : MapOf w base vM R) (hk : ∀ j, vM = .map (some j) → w'.heap[j]? = w.heap[j]?) : MapOf w' base vM R := by
  rcases h with h | ⟨b, D, rfl, hb, ho, hs⟩
  · exact .inl h
  · exact .inr ⟨b, D, rfl, hb, ownsMap_keep ho (hk b rfl), hs⟩
theorem Wr.keep (h : Wr w base g vB vM B R) (hk : ∀ j, ownF g vB vM j → w'.heap[j]? = w.heap[j]?) : Wr w' base g vB vM B R :=
  ⟨h.blk.keep (hk g (.inl rfl)), h.low, own_keep h.row fun j hj => hk j (.inr (.inl hj)), h.map.keep fun j hj => hk j (.inr (.inr hj))⟩
theorem Wr.grew {F : Nat → Prop} (h : Wr w base g vB vM B R) (hg : Grew F w w') (hf : ∀ j, ownF g vB vM j → ¬ F j) : Wr w' base g vB vM B R :=
  h.keep fun j hj => hg.block j (h.own hj).2 (hf j hj)
theorem Wr.below (h : Wr w base g vB vM B R) (hb : Below w.heap.size w w') : Wr w' base g vB vM B R :=
  h.keep fun j hj => hb.block j (h.own hj).2
theorem Wr.alloc (h : Wr w base g vB vM B R) (o : Obj) : Wr (w.alloc o) base g vB vM B R := h.below ((Below.refl _ _).alloc (Nat.le_refl _) o)
theorem Wr.drewN (h : Wr w base g vB vM B R) (n : Nat) : Wr (w.drewN n) base g vB vM B R := h.keep fun _ _ => rfl
theorem Wr.mono (h : Wr w base g vB vM B R) {base' : Nat} (hb : base' ≤ base) : Wr w base' g vB vM B R :=
  ⟨h.blk, Nat.le_trans hb h.low, own_mono h.row hb, h.map.elim .inl fun ⟨b, D, e, h1, h2⟩ => .inr ⟨b, D, e, Nat.le_trans hb h1, h2⟩⟩
/-- The three blocks are three. -/
theorem Wr.apart (h : Wr w base g vB vM B R) : vB.ownBlock ≠ some g ∧ vM ≠ .map (some g) ∧ ∀ j, vB.ownBlock = some j → vM ≠ .map (some j) := by
  refine ⟨own_not_whole h.row h.blk (by decide), fun hm => ?_, fun j hj hm => ?_⟩
  · rcases h.map with ⟨e, _⟩ | ⟨b, D, e, _, ho, _⟩
    · rw [e] at hm; cases hm
    · rw [e] at hm
      injection hm with hm
      injection hm with hm
      subst hm
      obtain ⟨es, clock, hb, _⟩ := ho
      have := h.blk
      unfold Whole at this
      rw [hb] at this
      cases this
  · rcases h.map with ⟨e, _⟩ | ⟨b, D, e, _, ho, _⟩
    · rw [e] at hm; cases hm
    · rw [e] at hm
      injection hm with hm
      injection hm with hm
      subst hm
      obtain ⟨es, clock, hb, _⟩ := ho
      rcases h.row.2 with ⟨e2, _⟩ | ⟨g', cap, cur, e2, _, hh, _⟩
      · rw [e2] at hj; cases hj
      · rw [e2] at hj
        simp [Value.ownBlock] at hj
        subst hj
        rw [hb] at hh
        cases hh
end

/-- The Writer has B and R now; nothing but its own has turned. -/
def Penned (base : Nat) (w : World) (g : Nat) (vB vM : Value) (B : List UInt8) (R : Rs) (w' : World) : Prop :=
  ∃ vB' vM', Wr w' base g vB' vM' B R ∧ Grew (ownF g vB vM) w w' ∧ ∀ j, ownF g vB' vM' j → ownF g vB vM j ∨ w.heap.size ≤ j
theorem Penned.refl {base : Nat} {w : World} {g : Nat} {vB vM : Value} {B : List UInt8} {R : Rs} (h : Wr w base g vB vM B R) : Penned base w g vB vM B R w := ⟨vB, vM, h, Grew.refl _ _, fun _ h => .inl h⟩
/-- One call behind another. -/
theorem Penned.then {base : Nat} {w w1 w2 : World} {g : Nat} {vB vM vB1 vM1 : Value} {B : List UInt8} {R : Rs} (hg : Grew (ownF g vB vM) w w1) (hf : ∀ j, ownF g vB1 vM1 j → ownF g vB vM j ∨ w.heap.size ≤ j)
    (h : Penned base w1 g vB1 vM1 B R w2) : Penned base w g vB vM B R w2 := by
  obtain ⟨vB2, vM2, h1, h2, h3⟩ := h
  refine ⟨vB2, vM2, h1, hg.trans h2 hf, fun j hj => ?_⟩
  rcases h3 j hj with h4 | h4
  · exact hf j h4
  · exact .inr (Nat.le_trans hg.size h4)

set_option maxHeartbeats 400000 in
theorem new_any (w : World) : Calls Try.prog 11 #[] w (fun e w' => e = .returned (.pointer (some ⟨w.heap.size, 0, none⟩)) ∧ Wr w' w.heap.size w.heap.size (.slice none 0 0) (.map none) [] [] ∧ Below w.heap.size w w') := by
  go_enter Try.func11, Try.ntmps11
  go_wp2
  go_ret
  exact ⟨rfl, ⟨heap_alloc_new w _, Nat.le_refl _, World.ownsRow_nil _ _ _ _, .inl ⟨rfl, rfl⟩⟩, (Below.refl _ _).alloc (Nat.le_refl _) _⟩

set_option maxHeartbeats 400000 in
theorem len_any (base : Nat) (w : World) (g : Nat) (vB vM : Value) (B : List UInt8) (R : Rs) (h : Wr w base g vB vM B R) :
    Calls Try.prog 29 #[.pointer (some ⟨g, 0, none⟩)] w (Told w (.int .i64 B.length)) := by
  obtain ⟨A1, c1, rfl, _, _⟩ := own_form h.row
  have h0 := h.c0
  clear h
  go_enter Try.func29, Try.ntmps29
  go_wp2
  go_ret
  exact ⟨rfl, rfl⟩

set_option maxHeartbeats 400000 in
theorem len_nil (w : World) : Calls Try.prog 29 #[.pointer none] w (Told w (.int .i64 0)) := by
  go_enter Try.func29, Try.ntmps29
  go_wp2
  go_ret
  exact ⟨rfl, rfl⟩

set_option maxHeartbeats 400000 in
theorem bytes_any (base : Nat) (w : World) (g : Nat) (vB vM : Value) (B : List UInt8) (R : Rs) (h : Wr w base g vB vM B R) (hm : B.length ≤ 140737488355000) :
    Calls Try.prog 21 #[.pointer (some ⟨g, 0, none⟩)] w (Owned w B) := by
  obtain ⟨i0, hi0, hz0, hz1, hz2⟩ := info_parts u8_info
  obtain ⟨A1, c1, rfl, _, _⟩ := own_form h.row
  have h0 := h.c0
  have HR := Lib.hid (Row.of_own h.row)
  clear h
  go_enter Try.func21, Try.ntmps21
  go_wp2_with (
    at_builtin
    refine wpList_append_row rfl (.const (.slice none 0 0)) (.tmp 8) _ rfl w.heap.size 5 i0 _ 1 1 Try.underlying22 hi0 hz0 hz1 hz2 rfl (by omega) (.slice none 0 0) 0 [] rfl
      (World.ownsRow_nil _ _ _ _) A1 B.length c1 w.heap.size (B.map bc) rfl (by rw [List.length_map]; omega) HR.out (bc_one B) (by unfold maxLen; omega) (by omega) (Nat.le_refl _) ?_
    intro v1 w1 hown1 hg1)
  go_ret
  obtain ⟨A', c', rfl, _, _⟩ := own_form hown1
  rw [Nat.zero_add] at *
  exact ⟨A', c', rfl, by simpa using hown1, own_below (Below.refl _ _) (Nat.le_refl _) (Nat.le_refl _) (World.ownsRow_nil _ w.heap.size 5 1) hg1⟩

set_option maxHeartbeats 400000 in
theorem bytes_nil (w : World) : Calls Try.prog 21 #[.pointer none] w (Told w (.slice none 0 0)) := by
  go_enter Try.func21, Try.ntmps21
  go_wp2
  go_ret
  exact ⟨rfl, rfl⟩

set_option maxHeartbeats 400000 in
theorem raw_nil (v : Value) (w : World) : Calls Try.prog 47 #[.pointer none, v] w (Told w (.tuple #[])) := by
  go_enter Try.func47, Try.ntmps47
  go_wp2
  go_end0
  exact ⟨rfl, rfl⟩

set_option maxHeartbeats 1000000 in
theorem raw_any (base : Nat) (w : World) (g : Nat) (vB vM : Value) (B : List UInt8) (R : Rs) (A : Option Addr) (m c H : Nat) (l : List UInt8) (h : Wr w base g vB vM B R) (hl : l.length = m) (hr : Row w H A (l.map bc)) (hm : B.length + m ≤ 140737488355000) :
    Calls Try.prog 47 #[.pointer (some ⟨g, 0, none⟩), .slice A m c] w (fun e w' => e = .returned (.tuple #[]) ∧ Penned base w g vB vM (B ++ l) R w') := by
  obtain ⟨i0, hi0, hz0, hz1, hz2⟩ := info_parts u8_info
  have h0 := h.c0
  have hbs := h.size
  have HR := Lib.hid hr
  have HL := Lib.hid hl
  have HW := Lib.hid h
  clear h hl hr
  go_enter Try.func47, Try.ntmps47
  go_wp2_with (
    at_builtin
    refine wpList_append_at rfl (.tmp 10) (.tmp 11) _ rfl base 5 i0 _ 1 1 Try.underlying22 hi0 hz0 hz1 hz2 rfl (by omega) vB B.length (B.map bc) rfl HW.out.row
      A m c H (l.map bc) rfl (by rw [List.length_map, HL.out]; omega) HR.out (bc_one l) (by unfold maxLen; omega) (by omega) hbs ?_
    intro v1 w1 hown1 hg1 hat
    obtain ⟨A1, c1, rfl, _, _⟩ := own_form hown1
    have hk1 := HW.out.blk.keep (hg1.block g HW.out.blk.lt (Ne.symm HW.out.apart.1))
    have c0' : w1.cell? ⟨g, 0, none⟩ = some vB := hk1.cell 0
    have f0' : w1.frozen? ⟨g, 0, none⟩ = false := hk1.frozen 0
    have HK1 := Lib.hid hk1
    have HO1 := Lib.hid hown1
    have HG1 := Lib.hid hg1
    have HA1 := Lib.hid hat
    clear hk1 hown1 hg1 hat)
  go_end0
  obtain ⟨v1, hv1⟩ : ∃ v1, v1 = Value.slice A1 (B.length + m) c1 := ⟨_, rfl⟩
  rw [← hv1] at HO1 HA1 ⊢
  have hne : v1.ownBlock ≠ some g := own_not_whole HO1.out HK1.out (by decide)
  have hl2 : B.length + m = (B ++ l).length := by rw [List.length_append, HL.out]
  have hm1 : MapOf w1 base vM R := HW.out.map.keep fun j hj => HG1.out.block j (HW.out.map.lt hj).2 (fun e => HW.out.apart.2.2 j e.symm hj)
  refine ⟨rfl, v1, vM, ⟨HK1.out.set_ 0 v1, HW.out.low, ?_, ?_⟩, ?_, ?_⟩
  · have ho := own_set_far HO1.out (a := ⟨g, 0, none⟩) hne v1
    rw [← List.map_append, hl2] at ho
    exact ho
  · refine hm1.keep fun j hj => Below.heap_setCell _ _ _ _ (fun e => ?_)
    exact HW.out.apart.2.1 (by rw [hj, e])
  · refine (Grew.of_grown HG1.out fun j hj => .inl (.inr (.inl hj))).setCell (.inl (.inl rfl)) _
  · intro j hj
    rcases hj with h | h | h
    · exact .inl (.inl h)
    · rcases HA1.out with e | e
      · exact .inl (.inr (.inl (by rw [← e]; exact h)))
      · rw [e] at h
        injection h with h
        exact .inr (by omega)
    · exact .inl (.inr (.inr h))

set_option maxHeartbeats 1000000 in
theorem num_any (base : Nat) (w : World) (g : Nat) (vB vM : Value) (B : List UInt8) (R : Rs) (n s : Int) (h : Wr w base g vB vM B R) (hm : B.length ≤ 140737488354000) :
    Calls Try.prog 45 #[.pointer (some ⟨g, 0, none⟩), .int .i64 n, .int .i64 s] w (fun e w' => e = .returned (.tuple #[]) ∧ Penned base w g vB vM (B ++ putL [] n s) R w') := by
  have HP := Lib.hid (put_any none 0 0 0 [] n s w rfl (Row.empty _ _ _) (by omega) (by omega))
  have hpl : (putL [] n s).length ≤ 7 := by
    unfold putL
    split
    · rename_i hf
      simp only [fitB, decide_eq_true_eq] at hf
      simp [length_digs]
      omega
    · simp
  generalize putL [] n s = l at *
  have HW := Lib.hid h
  clear h
  go_enter Try.func45, Try.ntmps45
  go_wp2_with fail
  refine HP.out.mono ?_
  rintro e w1 ⟨A1, c1, rfl, ho, hb⟩
  have HR := Lib.hid (Row.of_own ho)
  have HB := Lib.hid hb
  clear ho hb
  go_wp2_with fail
  refine (raw_any base w1 g vB vM B R A1 l.length c1 w1.heap.size l (HW.out.below HB.out) rfl HR.out (by omega)).mono ?_
  rintro e w2 ⟨rfl, hp⟩
  have HPN := Lib.hid (Penned.then (Grew.all HB.out) (fun j h => .inl h) hp)
  clear hp
  go_wp2
  go_end0
  exact ⟨rfl, HPN.out⟩

end Go.Proofs.Ytjjmllbkfbdcnaa
