/-
  What a nil device answers.
-/
import Derived.Test.YtledoajhjkfaoaaVSync
namespace Go.Proofs.Ytledoajhjkfaoaa
open Go.RowKit

section
variable (w : World)
set_option maxHeartbeats 400000 in
theorem nil_ready : Calls Try.prog 25 #[.pointer none] w (Told w (.int .i64 1)) := by
  go_enter Try.func25, Try.ntmps25
  go_wp2
  go_ret
  exact ⟨rfl, rfl⟩
set_option maxHeartbeats 400000 in
theorem nil_read (k : Int) : Calls Try.prog 23 #[.pointer none, .int .i64 k] w (Told w (.tuple #[.slice none 0 0, .int .i64 1])) := by
  have HR := Lib.hid (nil_ready w)
  go_enter Try.func23, Try.ntmps23
  go_wp2_with fail
  refine HR.out.mono ?_
  rintro e w' ⟨rfl, rfl⟩
  go_wp2
  go_ret2
  exact ⟨rfl, rfl⟩
set_option maxHeartbeats 400000 in
theorem nil_write (k : Int) (v : Value) : Calls Try.prog 10 #[.pointer none, .int .i64 k, v] w (Told w (.int .i64 1)) := by
  have HR := Lib.hid (nil_ready w)
  go_enter Try.func10, Try.ntmps10
  go_wp2_with fail
  refine HR.out.mono ?_
  rintro e w' ⟨rfl, rfl⟩
  go_wp2
  go_ret
  exact ⟨rfl, rfl⟩
set_option maxHeartbeats 400000 in
theorem nil_sync : Calls Try.prog 12 #[.pointer none] w (Told w (.int .i64 1)) := by
  have HR := Lib.hid (nil_ready w)
  go_enter Try.func12, Try.ntmps12
  go_wp2_with fail
  refine HR.out.mono ?_
  rintro e w' ⟨rfl, rfl⟩
  go_wp2
  go_ret
  exact ⟨rfl, rfl⟩
set_option maxHeartbeats 400000 in
theorem nil_limit (k : Int) : Calls Try.prog 14 #[.pointer none, .int .i64 k] w (Told w (.int .i64 1)) := by
  go_enter Try.func14, Try.ntmps14
  go_wp2
  go_ret
  exact ⟨rfl, rfl⟩
set_option maxHeartbeats 400000 in
theorem nil_crash (a b : Int) : Calls Try.prog 15 #[.pointer none, .int .u64 a, .int .u64 b] w (Told w (.int .i64 1)) := by
  go_enter Try.func15, Try.ntmps15
  go_wp2
  go_ret
  exact ⟨rfl, rfl⟩
set_option maxHeartbeats 400000 in
theorem nil_len : Calls Try.prog 19 #[.pointer none] w (Told w (.int .i64 0)) := by
  go_enter Try.func19, Try.ntmps19
  go_wp2
  go_ret
  exact ⟨rfl, rfl⟩
set_option maxHeartbeats 400000 in
theorem nil_down : Calls Try.prog 18 #[.pointer none] w (Told w (.bool true)) := by
  go_enter Try.func18, Try.ntmps18
  go_wp2
  go_ret
  exact ⟨rfl, rfl⟩
set_option maxHeartbeats 400000 in
theorem nil_unsure : Calls Try.prog 21 #[.pointer none] w (Told w (.slice none 0 0)) := by
  go_enter Try.func21, Try.ntmps21
  go_wp2
  go_ret
  exact ⟨rfl, rfl⟩
set_option maxHeartbeats 400000 in
theorem nil_copy : Calls Try.prog 17 #[.pointer none] w (Told w (.pointer none)) := by
  go_enter Try.func17, Try.ntmps17
  go_wp2
  go_ret
  exact ⟨rfl, rfl⟩
end

end Go.Proofs.Ytledoajhjkfaoaa
