/-
  A row of numbers, one by one.
-/
import Derived.Test.YtjjmllbkfbdcnaaData
namespace Go.Proofs.Ytjjmllbkfbdcnaa
open Go.RowKit

theorem Row.int_at {w : World} {H : Nat} {A : Option Addr} {n : List Int} (h : Row w H A (n.map zv)) {k : Nat} (hk : k < n.length) :
    ∃ b off, A = some ⟨b, off, none⟩ ∧ b < H ∧ w.cell? ⟨b, off + k, none⟩ = some (.int .i64 n[k]) := by
  obtain ⟨b, off, e, hb, hc⟩ := h.at_ (k := k) (by rw [List.length_map]; exact hk)
  exact ⟨b, off, e, hb, by rw [hc]; simp [zv]⟩

end Go.Proofs.Ytjjmllbkfbdcnaa
