/-
  The contracts of slices.Clone at bytes, sectors and writes.
-/
import Derived.Test.YthjcpficpiddaaaDoorVDev
namespace Go.Proofs.YthjcpficpiddaaaDoor
open Go.RowKit

theorem info_row {P : Program} {e : TypeId} {s b : Nat} (h : (P.info? e).map (fun i => (i.zero.map (·.cells.size), i.size, i.bytes)) = some (some s, s, b)) : ∃ i z, P.info? e = some i ∧ i.zero = some z ∧ i.size = s ∧ i.bytes = b ∧ z.cells.size = s := by
  cases hi : P.info? e with
  | none => simp [hi] at h
  | some i =>
    simp only [hi, Option.map_some, Option.some.injEq, Prod.mk.injEq] at h
    obtain ⟨hz, h2, h3⟩ := h
    cases hzz : i.zero with
    | none => simp [hzz] at hz
    | some z =>
      simp only [hzz, Option.map_some, Option.some.injEq] at hz
      exact ⟨i, z, rfl, hzz, h2, h3, hz⟩
theorem u8_row : (Tryd.prog.info? 5).map (fun i => (i.zero.map (·.cells.size), i.size, i.bytes)) = some (some 1, 1, 1) := by kernel_rfl
theorem sec_row : (Tryd.prog.info? 68).map (fun i => (i.zero.map (·.cells.size), i.size, i.bytes)) = some (some 513, 513, 513) := by kernel_rfl
theorem wri_row : (Tryd.prog.info? 70).map (fun i => (i.zero.map (·.cells.size), i.size, i.bytes)) = some (some 514, 514, 528) := by kernel_rfl

/-- The call answers a slice of its own, of n elements, which reads as xs. -/
def Cloned (w : World) (T : TypeId) (s n : Nat) (xs : List Value) (e : Ending) (w' : World) : Prop :=
  ∃ v, e = .returned v ∧ w'.ownsRow w.heap.size T s v n xs ∧ Below w.heap.size w w'

set_option maxHeartbeats 400000 in
theorem clone_u8 (A : Option Addr) (n c H : Nat) (xs : List Value) (w : World) (hl : xs.length = n * 1) (hA : Row w H A xs) (h1 : ∀ u ∈ xs, u.oneCell' = true) (hn : n ≤ maxLen) (hb : n * 1 ≤ 140737488355328) :
    Calls Tryd.prog 35 #[.slice A n c] w (Cloned w 5 1 n xs) := by
  obtain ⟨i0, z0, hi0, hz0, hz1, hz2, hz3⟩ := info_row u8_row
  have HL := Lib.hid hl
  have HA := Lib.hid hA
  have H1 := Lib.hid h1
  have HB := Lib.hid hb
  clear hl hA h1 hb
  rcases A with _ | ad
  · have h0 : xs = [] := by
      rcases xs with _ | ⟨u, us⟩
      · rfl
      · obtain ⟨_, _, h, _⟩ := HA.out (by simp)
        cases h
    have hn0 : n = 0 := by
      have := HL.out
      rw [h0] at this
      simp at this
      omega
    have H0 := Lib.hid h0
    have HN := Lib.hid hn0
    clear h0 hn0
    have hq := fun (w : World) (a : Option Addr) (n c n' c' : Nat) => Lib.run_eql_slice_nil (P := Tryd.prog) w 45 5 a n c n' c' Tryd.underlying45
    go_enter Tryd.func35, Tryd.ntmps35
    go_wp2
    go_ret
    rw [H0.out, HN.out]
    exact ⟨_, rfl, World.ownsRow_nil _ _ _ _, Below.refl _ _⟩
  · have HW := Lib.hid (own_lit w 5 1)
    have hq := fun (w : World) (a : Option Addr) (n c n' c' : Nat) => Lib.run_eql_slice_nil (P := Tryd.prog) w 45 5 a n c n' c' Tryd.underlying45
    go_enter Tryd.func35, Tryd.ntmps35
    go_wp2_with (
      at_builtin
      refine wpList_append_row rfl (.tmp 5) (.tmp 6) _ rfl w.heap.size 5 i0 z0 1 1 Tryd.underlying45 hi0 hz0 hz1 hz2 hz3 (by decide) _ 0 [] rfl HW.out (some ad) n c H xs rfl HL.out ?c1 H1.out ?c2 ?c3 ?c4 ?_
      case c1 =>
        intro hx
        obtain ⟨b, off, e, hb, hc⟩ := HA.out hx
        exact ⟨b, off, e, hb, fun j u hu => by rw [World.cell?_alloc_lt _ _ _ (World.block_lt_of_cell? w _ (hc j u hu))]; exact hc j u hu⟩
      case c2 => omega
      case c3 => rw [Nat.zero_add]; exact HB.out
      case c4 => simp
      intro v1 w1 hown1 hg1)
    go_ret
    refine ⟨v1, rfl, by simpa using hown1, own_below ((Below.refl _ _).alloc (Nat.le_refl _) _) (Nat.le_refl _) (by simp) HW.out hg1⟩





























































































end Go.Proofs.YthjcpficpiddaaaDoor
