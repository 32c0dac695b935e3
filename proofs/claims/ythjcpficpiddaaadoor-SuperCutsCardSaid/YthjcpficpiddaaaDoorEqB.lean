/-
  The contract of bytes.Equal.
-/
import Derived.Test.YthjcpficpiddaaaDoorOwn
namespace Go.Proofs.YthjcpficpiddaaaDoor
open Go.RowKit

set_option maxHeartbeats 400000 in
theorem eqbytes_any (A B : Option Addr) (n m c d H : Nat) (xs ys : List UInt8) (w : World) (hx : xs.length = n) (hy : ys.length = m) (hA : Row w H A (xs.map bc)) (hB : Row w H B (ys.map bc)) :
    Calls Tryd.prog 37 #[.slice A n c, .slice B m d] w (Told w (.bool (decide (xs = ys)))) := by
  have h1 := convert_row_run (P := Tryd.prog) w 45 9 5 Tryd.underlying45 Tryd.underlying5 Tryd.underlying9 A n c H xs hx hA
  have h2 := convert_row_run (P := Tryd.prog) w 45 9 5 Tryd.underlying45 Tryd.underlying5 Tryd.underlying9 B m d H ys hy hB
  by_cases he : xs = ys
  · have hne : (xs == ys) = true := by rw [beq_iff_eq]; exact he
    have HF := Lib.hid (show decide (xs = ys) = true by rw [decide_eq_true_eq]; exact he)
    clear he hA hB hx hy
    go_enter Tryd.func37, Tryd.ntmps37
    go_wp2
    go_ret
    exact ⟨by rw [HF.out]; rfl, rfl⟩
  · have hne : (xs == ys) = false := by rw [beq_eq_false_iff_ne]; exact he
    have HF := Lib.hid (show decide (xs = ys) = false by rw [decide_eq_false_iff_not]; exact he)
    clear he hA hB hx hy
    go_enter Tryd.func37, Tryd.ntmps37
    go_wp2
    go_ret
    exact ⟨by rw [HF.out]; rfl, rfl⟩

end Go.Proofs.YthjcpficpiddaaaDoor
