/-
  The document's device, held; the contract of alike.
-/
import Derived.Test.YtledoajhjkfaoaaVRefNew
import Derived.Test.YtledoajhjkfaoaaSame
namespace Go.Proofs.Ytledoajhjkfaoaa
open Go.RowKit

section
variable {w0 w w' : World} {R D : Nat} {x y : Dv}
theorem RHolds.ofWent {m : RLies} (hr : m.r = R) (h : RefAt w w0.heap.size m x) (hb : Below w0.heap.size w0 w) (hw : RWent w0.heap.size w m y w') : RHolds w0 w' R y ∧ KeptR w w' := by
  obtain ⟨m', h1, h2, h3⟩ := hw
  exact RHolds.went hr h hb h1 h2 h3
theorem rh_write (h : RHolds w0 w R x) (k : Int) (A : Option Addr) (c : Nat) (b : List UInt8) (hl : b.length ≤ 9223372036854775807) (hs : SrcR w R A b) (hu : x.uns.length < 4294967296) :
    Calls Try.prog 11 #[.pointer (some ⟨R, 0, none⟩), .int .i64 k, .slice A b.length c] w (fun e w' => e = .returned (.int .i64 (x.writeE k b)) ∧ RHolds w0 w' R (x.write k b) ∧ KeptR w w') := by
  obtain ⟨m, rfl, h1, h2⟩ := h
  exact (ref_write w _ m x h1 k A c b hl hs hu).mono fun e w' ⟨he, hw⟩ => ⟨he, RHolds.ofWent rfl h1 h2 hw⟩
theorem rh_sync (h : RHolds w0 w R x) (hn : 0 < x.sure.length) (hu : x.uns.length < 4294967296) : Calls Try.prog 13 #[.pointer (some ⟨R, 0, none⟩)] w (fun e w' => e = .returned (.int .i64 x.syncE) ∧ RHolds w0 w' R x.sync ∧ KeptR w w') := by
  obtain ⟨m, rfl, h1, h2⟩ := h
  exact (ref_sync w _ m x h1 hn hu).mono fun e w' ⟨he, hw⟩ => ⟨he, RHolds.ofWent rfl h1 h2 hw⟩
theorem rh_crash (h : RHolds w0 w R x) (hn : 0 < x.sure.length) (mk t : Nat) (hm : mk < 18446744073709551616) (ht : t < 18446744073709551616) (hu : x.uns.length < 4294967296) :
    Calls Try.prog 16 #[.pointer (some ⟨R, 0, none⟩), .int .u64 mk, .int .u64 t] w (fun e w' => e = .returned (.tuple #[]) ∧ RHolds w0 w' R (x.crash mk t) ∧ KeptR w w') := by
  obtain ⟨m, rfl, h1, h2⟩ := h
  exact (ref_crash w _ m x h1 hn mk t hm ht hu).mono fun e w' ⟨he, hw⟩ => ⟨he, RHolds.ofWent rfl h1 h2 hw⟩
theorem rh_read (h : RHolds w0 w R x) (k : Int) (hu : x.uns.length < 4294967296) : Calls Try.prog 32 #[.pointer (some ⟨R, 0, none⟩), .int .i64 k] w
    (fun e w' => ∃ A c, e = .returned (.tuple #[.slice A (x.readB k).length c, .int .i64 (x.readE k)]) ∧ w'.ownsRow w.heap.size 5 1 (.slice A (x.readB k).length c) (x.readB k).length ((x.readB k).map bc) ∧ Below w.heap.size w w' ∧ RHolds w0 w' R x) := by
  obtain ⟨m, rfl, h1, h2⟩ := h
  refine (ref_read w _ m x h1 k hu).mono fun e w' ⟨v, he, hv, hb⟩ => ?_
  obtain ⟨A, c, rfl, _, _⟩ := own_form hv
  exact ⟨A, c, he, hv, hb, ⟨m, rfl, h1.below hb, h2.trans (hb.mono h2.size)⟩⟩
end
theorem ok_readB {x : Dv} (h : x.ok) (k : Int) : (x.readB k).length ≤ 512 := by
  unfold Dv.readB
  split
  · exact Nat.le_of_eq (ok_getD h.now _)
  · exact Nat.zero_le _

set_option maxHeartbeats 400000 in
theorem alike_ok (w0 w : World) (D R : Nat) (x : Dv) (hd : Holds w0 w D x) (hr : RHolds w0 w R x) (k : Int) (hu : x.uns.length < 4294967296) :
    Calls Try.prog 20 #[.pointer (some ⟨D, 0, none⟩), .pointer (some ⟨R, 0, none⟩), .int .i64 k] w (Gave w (.bool true)) := by
  have hl := ok_readB hd.ok k
  have h1 := h_read hd k
  have h2 := fun w1 (hb : Below w.heap.size w w1) => rh_read (hr.next hb) k hu
  have hb0 := hd.below
  obtain ⟨b, hb⟩ : ∃ b, b = x.readB k := ⟨_, rfl⟩
  obtain ⟨c, hc⟩ : ∃ c, c = x.readE k := ⟨_, rfl⟩
  simp only [← hb, ← hc] at h1 h2
  rw [← hb] at hl
  have dc : (c == c) = true := by simp
  have H1 := Lib.hid h1
  have H2 := Lib.hid h2
  clear hd hr h1 h2 hb hc
  go_enter Try.func20, Try.ntmps20
  go_wp2_with fail
  refine H1.out.mono ?_
  rintro e w1 ⟨A, ca, rfl, hA, hb1, _⟩
  have HA := Lib.hid hA
  have HB1 := Lib.hid hb1
  clear hA hb1
  go_wp2_with fail
  refine (H2.out w1 HB1.out).mono ?_
  rintro e w2 ⟨B, cb, rfl, hB, hb2, _⟩
  have hA2 : w2.ownsRow w.heap.size 5 1 (.slice A b.length ca) b.length (b.map bc) := own_keep HA.out fun g e => hb2.block g (HA.out.lt g e).2
  have HS := Lib.hid (same_yes A B b.length b.length ca cb w2.heap.size b w2 rfl rfl (Row.of_own hA2) (Row.of_own hB) (by unfold maxLen; omega))
  have HB := Lib.hid (HB1.out.trans (hb2.mono HB1.out.size))
  clear hA2 hB hb2
  go_wp2_with fail
  refine HS.out.mono ?_
  rintro e w3 ⟨rfl, k3, rfl⟩
  go_wp2
  go_ret
  exact ⟨rfl, below_drewN' HB.out k3⟩

end Go.Proofs.Ytledoajhjkfaoaa
