/-
  From a tied row to a law's contract: what the listed variable holds; opening an argument that is a head.
-/
import Derived.Test.YthjcpficpiddaaaDoorEnd
import Derived.Test.YthjcpficpiddaaaDoorJNum
import Derived.Test.YthjcpficpiddaaaDoorCards
import Derived.Test.YthjcpficpiddaaaDoorTie
import Derived.LaidLaws
import Derived.Lay
import Derived.Handed
import Derived.Lib.LaidTab
import Derived.ChangeArms
namespace Go.Proofs.YthjcpficpiddaaaDoor
open Go.ChangeShapes Go.WideShapes Go.ChangeAt Go.RowKit

/-- What the rows list. -/
def laidL : List (String × DataW Unit) := [("gazetteer/sector.sizes", Rows.laid_gazetteer_sector_sizes)]
theorem int_one : Tryd.prog.cellsOf 3 = 1 := by kernel_rfl
theorem int5_five : Tryd.prog.cellsOf 62 = 5 := by kernel_rfl
theorem sizes_global : Tryd.prog.globalNamed "gazetteer/sector.sizes" = some 1 := by kernel_rfl
theorem sizes_type : (Tryd.prog.globals[(1 : Nat)]?).map (·.type) = some 62 := by kernel_rfl
theorem sizes_of_laid {W : World} (h : laidMetH Tryd.prog laidL W) : SizesAt W := by
  have h1 : laidMet Tryd.prog laidL W := by
    have e := MakeChecks.laidMetH_plain Tryd.prog laidL W (by kernel_rfl)
    rwa [e] at h
  have h2 : Lib.TabIs Tryd.prog W "gazetteer/sector.sizes" .i64 szL :=
    Lib.tabIs_of_head sizes_global sizes_type Tryd.underlying62 Tryd.underlying3 int_one int5_five (rest := []) h1
  unfold Lib.TabIs World.var? at h2
  rw [sizes_global, Option.bind_some] at h2
  unfold SizesAt
  split at h2
  · rename_i cs t fr hh
    injection h2 with h2
    subst h2
    exact ⟨t, fr, hh⟩
  · cases h2

theorem head_five : Tryd.prog.cellsOf 49 = 5 := by kernel_rfl
/-- An argument that is a head: whatever it is, it is five numbers. -/
theorem open_head {H : Type} {enc : TypeId × Value → H} {W : World} {base : Nat} {v : Value} {d : DataW H} {p : List MemPlace}
    (hval : Value.okWide Tryd.prog W .any base 49 v) (h : DataW.Trod enc Tryd.prog W 0 (fun _ => true) true 49 v d p) :
    ∃ x : SH, v = x.val ∧ (Lit.int .i64 x.kind).wf = true ∧ (Lit.int .i64 x.epoch).wf = true ∧ (Lit.int .i64 x.seq).wf = true ∧ (Lit.int .i64 x.part).wf = true ∧ (Lit.int .i64 x.parts).wf = true := by
  obtain ⟨cs, rfl, hsz⟩ := okWide_struct Tryd.underlying49 hval
  obtain ⟨l⟩ := cs
  have hl : l.length = 5 := by simpa using hsz.trans head_five
  match l, hl with
  | [u0, u1, u2, u3, u4], _ =>
    obtain ⟨fuel, hf⟩ := h
    obtain ⟨ys, n, _, hy, _, hyl, hg⟩ := DataW.trod_struct Tryd.underlying49 hf
    have f0 := hg 0 _ rfl
    have f1 := hg 1 _ rfl
    have f2 := hg 2 _ rfl
    have f3 := hg 3 _ rfl
    have f4 := hg 4 _ rfl
    have hyl' : ys.length = 5 := hyl
    match ys, hyl' with
    | [y0, y1, y2, y3, y4], _ =>
      obtain ⟨z0, e0, _, w0⟩ := DataW.trod_int Tryd.underlying3 (show DataW.trod enc Tryd.prog W 0 (fun _ => true) true n 3 [u0] = some y0 from f0)
      obtain ⟨z1, e1, _, w1⟩ := DataW.trod_int Tryd.underlying3 (show DataW.trod enc Tryd.prog W 0 (fun _ => true) true n 3 [u1] = some y1 from f1)
      obtain ⟨z2, e2, _, w2⟩ := DataW.trod_int Tryd.underlying3 (show DataW.trod enc Tryd.prog W 0 (fun _ => true) true n 3 [u2] = some y2 from f2)
      obtain ⟨z3, e3, _, w3⟩ := DataW.trod_int Tryd.underlying3 (show DataW.trod enc Tryd.prog W 0 (fun _ => true) true n 3 [u3] = some y3 from f3)
      obtain ⟨z4, e4, _, w4⟩ := DataW.trod_int Tryd.underlying3 (show DataW.trod enc Tryd.prog W 0 (fun _ => true) true n 3 [u4] = some y4 from f4)
      injection e0 with e0
      injection e1 with e1
      injection e2 with e2
      injection e3 with e3
      injection e4 with e4
      subst e0; subst e1; subst e2; subst e3; subst e4
      exact ⟨⟨z0, z1, z2, z3, z4⟩, rfl, w0, w1, w2, w3, w4⟩

theorem u16_nat {n : Int} (h : (Lit.int .u16 n).wf = true) : ∃ k : Nat, n = k ∧ k < 65536 := by
  have h1 : IntKind.u16.min = 0 := rfl
  have h2 : IntKind.u16.max = 65535 := rfl
  simp only [Lit.wf, Bool.and_eq_true, decide_eq_true_eq] at h
  exact ⟨n.toNat, by omega, by omega⟩

end Go.Proofs.YthjcpficpiddaaaDoor
