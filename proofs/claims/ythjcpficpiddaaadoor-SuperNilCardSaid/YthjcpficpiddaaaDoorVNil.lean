/-
  What a nil device answers.
-/
import Derived.Test.YthjcpficpiddaaaDoorVSync
namespace Go.Proofs.YthjcpficpiddaaaDoor
open Go.RowKit

section
variable (w : World)
set_option maxHeartbeats 400000 in
theorem nil_ready : Calls Tryd.prog 28 #[.pointer none] w (Told w (.int .i64 1)) := by
  go_enter Tryd.func28, Tryd.ntmps28
  go_wp2
  go_ret
  exact ⟨rfl, rfl⟩
set_option maxHeartbeats 400000 in
theorem nil_read (k : Int) : Calls Tryd.prog 32 #[.pointer none, .int .i64 k] w (Told w (.tuple #[.slice none 0 0, .int .i64 1])) := by
  have HR := Lib.hid (nil_ready w)
  go_enter Tryd.func32, Tryd.ntmps32
  go_wp2_with fail
  refine HR.out.mono ?_
  rintro e w' ⟨rfl, rfl⟩
  go_wp2
  go_ret2
  exact ⟨rfl, rfl⟩
set_option maxHeartbeats 400000 in
theorem nil_write (k : Int) (v : Value) : Calls Tryd.prog 18 #[.pointer none, .int .i64 k, v] w (Told w (.int .i64 1)) := by
  have HR := Lib.hid (nil_ready w)
  go_enter Tryd.func18, Tryd.ntmps18
  go_wp2_with fail
  refine HR.out.mono ?_
  rintro e w' ⟨rfl, rfl⟩
  go_wp2
  go_ret
  exact ⟨rfl, rfl⟩
set_option maxHeartbeats 400000 in
theorem nil_sync : Calls Tryd.prog 17 #[.pointer none] w (Told w (.int .i64 1)) := by
  have HR := Lib.hid (nil_ready w)
  go_enter Tryd.func17, Tryd.ntmps17
  go_wp2_with fail
  refine HR.out.mono ?_
  rintro e w' ⟨rfl, rfl⟩
  go_wp2
  go_ret
  exact ⟨rfl, rfl⟩
set_option maxHeartbeats 400000 in
theorem nil_limit (k : Int) : Calls Tryd.prog 9 #[.pointer none, .int .i64 k] w (Told w (.int .i64 1)) := by
  go_enter Tryd.func9, Tryd.ntmps9
  go_wp2
  go_ret
  exact ⟨rfl, rfl⟩
set_option maxHeartbeats 400000 in
theorem nil_crash (a b : Int) : Calls Tryd.prog 10 #[.pointer none, .int .u64 a, .int .u64 b] w (Told w (.int .i64 1)) := by
  go_enter Tryd.func10, Tryd.ntmps10
  go_wp2
  go_ret
  exact ⟨rfl, rfl⟩
set_option maxHeartbeats 400000 in
theorem nil_len : Calls Tryd.prog 20 #[.pointer none] w (Told w (.int .i64 0)) := by
  go_enter Tryd.func20, Tryd.ntmps20
  go_wp2
  go_ret
  exact ⟨rfl, rfl⟩
set_option maxHeartbeats 400000 in
theorem nil_down : Calls Tryd.prog 21 #[.pointer none] w (Told w (.bool true)) := by
  go_enter Tryd.func21, Tryd.ntmps21
  go_wp2
  go_ret
  exact ⟨rfl, rfl⟩












end

end Go.Proofs.YthjcpficpiddaaaDoor
