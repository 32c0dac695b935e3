/-
  The contract of the statements' own 'answers'.
-/
import Derived.Test.YtbojdhhgholgjaaDoorJSeal
namespace Go.Proofs.YtbojdhhgholgjaaDoor
open Go.RowKit

theorem ans_length : (sealB ⟨1, 0, 0, 0, 1⟩ [9]).length = 512 := length_sealB (by decide +kernel) (by decide)
theorem ans_error : sealE ⟨1, 0, 0, 0, 1⟩ 1 = 0 := by decide +kernel
theorem ans_first : ((sealB ⟨1, 0, 0, 0, 1⟩ [9]).map bc)[0]? = some (.int .u8 1) := by
  have h : (sealB ⟨1, 0, 0, 0, 1⟩ [9])[0]? = some 1 := by decide +kernel
  rw [List.getElem?_map, h]; rfl
theorem ans_data : ((sealB ⟨1, 0, 0, 0, 1⟩ [9]).map bc)[16]? = some (.int .u8 9) := by
  have h : (sealB ⟨1, 0, 0, 0, 1⟩ [9])[16]? = some 9 := by decide +kernel
  rw [List.getElem?_map, h]; rfl

set_option maxHeartbeats 400000 in
theorem answers_any (w : World) (hs : SizesAt w) : Calls Tryd.prog 7 #[] w (TrueB w) := by
  have HS := Lib.hid (hs.alloc (.cells #[.int .u8 9] 5))
  have HR := Lib.hid (Row.made w (([9] : List UInt8).map bc).toArray 5)
  clear hs
  go_enter Tryd.func7, Tryd.ntmps7
  go_wp2_with fail
  refine (seal_any (some ⟨w.heap.size, 0, none⟩) 1 1 ⟨1, 0, 0, 0, 1⟩ [9] _ rfl (HR.out.mono (by simp)) HS.out (Nat.le_refl _) (by decide)).mono ?_
  rintro e w1 ⟨v, rfl, hown, hb⟩
  rw [ans_length] at hown
  obtain ⟨A1, c1, rfl, hc1, hc2⟩ := own_form hown
  obtain ⟨g, rfl⟩ := own_some hown (by decide)
  have k0 : w1.cell? ⟨g, 0, none⟩ = some (.int .u8 1) := (hown.cellAt 0 (by decide)).trans ans_first
  have k16 : w1.cell? ⟨g, 16, none⟩ = some (.int .u8 9) := (hown.cellAt 16 (by decide)).trans ans_data
  have HB := Lib.hid (((Below.refl w.heap.size w).alloc (Nat.le_refl _) (.cells #[.int .u8 9] 5)).trans (hb.mono (by simp)))
  clear hown hb
  rw [show ([9] : List UInt8).length = 1 from rfl, ans_error]
  go_wp2
  go_ret
  exact ⟨rfl, HB.out⟩

end Go.Proofs.YtbojdhhgholgjaaDoor
