/-
  The law's own answers: a device answers something.
-/
import Derived.Test.YtledoajhjkfaoaaVHold
namespace Go.Proofs.Ytledoajhjkfaoaa
open Go.RowKit

/-- A device of two sectors, written once. -/
def ans1 : Dv := { newDv 2 with uns := [⟨1, padB [7]⟩] }
theorem ans1_write : (newDv 2).write 1 [7] = ans1 := by
  unfold Dv.write
  rw [if_neg (by decide), if_neg (by decide)]
  rfl
theorem ans1_now : ans1.now.getD 1 secZero = ⟨padB [7], false⟩ := rfl
theorem ans1_read : ans1.readE 1 = 0 ∧ ans1.readB 1 = padB [7] := by
  have h : ans1.readE 1 = 0 := by
    unfold Dv.readE
    rw [if_neg (by decide), if_neg (by decide), if_neg (by show ¬ (ans1.now.getD 1 secZero).torn = true; rw [ans1_now]; decide)]
  refine ⟨h, ?_⟩
  unfold Dv.readB
  rw [h, if_pos rfl]
  show (ans1.now.getD 1 secZero).data = _
  rw [ans1_now]

set_option maxRecDepth 4000 in
set_option maxHeartbeats 400000 in
theorem flash_answers (w : World) : Calls Try.prog 8 #[] w (TrueB w) := by
  have HN := Lib.hid (h_new w w (Below.refl _ _) 2 (by decide) (by decide))
  have hlen : (padB [7]).length = 512 := length_padB (by decide)
  have HLEN := Lib.hid hlen
  clear hlen
  go_enter Try.func8, Try.ntmps8
  go_wp2_with fail
  refine HN.out.mono ?_
  rintro e w1 ⟨D, rfl, h1⟩
  have H1 := Lib.hid h1
  clear h1
  go_wp2_with fail
  refine (h_write (H1.out.alloc _) 1 _ _ [7] (by decide) (BytesAt.lit w1 [7]) (by decide)).mono ?_
  rintro e w2 ⟨rfl, h2, _⟩
  rw [ans1_write] at h2
  have H2 := Lib.hid h2
  have e2 : (newDv 2).writeE 1 [7] = 0 := by decide
  rw [e2]
  clear h2 e2
  go_wp2_with fail
  refine (h_read H2.out 1).mono ?_
  rw [ans1_read.1, ans1_read.2, HLEN.out]
  rintro e w3 ⟨A3, c3, rfl, ho3, hb3, h3⟩
  obtain ⟨g, rfl⟩ := own_some ho3 (by decide)
  have hc : w3.cell? ⟨g, 0, none⟩ = some (.int .u8 7) := by
    have hl : 0 < ((padB [7]).map bc).length := by rw [List.length_map, HLEN.out]; decide
    have := own_cell ho3 hl
    rw [this]
    rfl
  have H3 := Lib.hid h3
  clear ho3 hb3 h3
  go_wp2
  go_ret
  exact ⟨rfl, H3.out.below⟩

end Go.Proofs.Ytledoajhjkfaoaa
