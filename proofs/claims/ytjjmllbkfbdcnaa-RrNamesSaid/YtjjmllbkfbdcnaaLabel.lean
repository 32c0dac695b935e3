/-
  The contract of name.byLabel and of what it calls.
-/
import Derived.Test.YtjjmllbkfbdcnaaSmall
import Derived.Test.YtjjmllbkfbdcnaaNOrd
import Derived.Laws.Externs
import Derived.StillTailTactics
import Derived.IntWalk
namespace Go.Proofs.Ytjjmllbkfbdcnaa
open Go.RowKit

set_option maxRecDepth 8000 in
set_option maxHeartbeats 1000000 in
theorem compareString_any (a b : List UInt8) (w : World) :
    Calls Try.prog 117 #[.string ⟨a.toArray⟩, .string ⟨b.toArray⟩] w (Told w (.int .i64 (cmpB a b))) := by
  have hr := Lib.run_compareString (P := Try.prog) ⟨a.toArray⟩ ⟨b.toArray⟩
  simp only [compareBytes_lex] at hr
  go_enter Try.func117, Try.ntmps117
  go_wp2
  rw [run_callFunc_extern Try.func118 (by kernel_rfl) (by kernel_rfl) (by kernel_rfl) (e := Extern.BytealgCompare.compare) (by kernel_rfl), hr]
  simp only [Result.andThen]
  rw [Oper.upon_value]
  go_wp2
  go_ret
  exact ⟨rfl, rfl⟩

set_option maxHeartbeats 400000 in
theorem compare_any (a b : List UInt8) (w : World) :
    Calls Try.prog 115 #[.string ⟨a.toArray⟩, .string ⟨b.toArray⟩] w (Told w (.int .i64 (cmpB a b))) := by
  go_enter Try.func115, Try.ntmps115
  go_wp2_with fail
  refine (compareString_any _ _ _).mono ?_
  rintro e w' ⟨rfl, rfl⟩
  go_wp2
  go_ret
  exact ⟨rfl, rfl⟩

set_option maxHeartbeats 400000 in
theorem byLabel_any (a b : List UInt8) (w : World) (ha : a.length ≤ maxLen) (hb : b.length ≤ maxLen) :
    Calls Try.prog 110 #[.string ⟨a.toArray⟩, .string ⟨b.toArray⟩] w (Gave w (.int .i64 (cmpB (lowL a) (lowL b)))) := by
  go_enter Try.func110, Try.ntmps110
  go_wp2_with fail
  refine (small_any a w ha).mono ?_
  rintro e w1 ⟨rfl, hb1⟩
  have hz := hb1.size
  have HB1 := Lib.hid hb1
  clear hb1
  go_wp2_with fail
  refine (small_any b w1 hb).mono ?_
  rintro e w2 ⟨rfl, hb2⟩
  have HB2 := Lib.hid hb2
  clear hb2
  go_wp2_with fail
  refine (compare_any _ _ _).mono ?_
  rintro e w' ⟨rfl, rfl⟩
  go_wp2
  go_ret
  exact ⟨rfl, HB1.out.trans (HB2.out.mono hz)⟩

end Go.Proofs.Ytjjmllbkfbdcnaa
