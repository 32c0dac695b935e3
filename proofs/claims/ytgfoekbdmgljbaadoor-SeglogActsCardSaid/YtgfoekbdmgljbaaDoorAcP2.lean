/-
  SeglogActs, tied: whatever calls a log is given (60 at most: the statement looks at no more), it and its model answer alike, whatever power cuts and crashes lie between. The package variables sizes and head hold what the program's text lays (the card ties them). No other condition.
-/
import Derived.Test.YtgfoekbdmgljbaaDoorAcP1
import Derived.Deep.MidRow
import Derived.Test.YtgfoekbdmgljbaaDoorSbP2
import Derived.Deep.Slices
import Derived.Deep.Grids
import Derived.Test.YtgfoekbdmgljbaaDoorSbP4
import Derived.ChangeArms
import Derived.Test.YtgfoekbdmgljbaaDoorSbP7
namespace Go.Proofs.YtgfoekbdmgljbaaDoor
open Go.RowKit

set_option maxHeartbeats 4000000 in
set_option maxRecDepth 100000 in
theorem ysw_3 (L : LogSpec) {w0 V : World} {lv : Value} {D g u ab : Nat} {M : Lg} {fr : Bool} {A Ak : Option Addr} {c ck : Nat} {F : Nat → Prop} {p : Ay} {Q : Exit → Act → World → Prop} (c0 c1 c2 c3 c4 c5 c7 c9 c11 c13 c14 c15 c16 c17 c18 c19 c20 c21 c22 c23 c24 c25 c26 c27 c28 c29 c30 c31 c32 c33 c34 c35 c36 c37 c38 c39 c40 c41 c42 c43 c44 c45 c46 c47 c48 c49 c50 c51 c52 c53 c54 c55 c56 c57 c58 c59 c60 c61 c62 c63 c64 c65 c66 c68 c69 c70 c71 c72 c73 c74 c75 c76 c77 c78 c79 c80 c81 c82 c83 c84 c85 c86 c87 c88 c89 c90 c91 c92 c93 c94 c95 c96 c97 c98 c99 c100 c101 c102 c103 c104 c105 c106 c107 c108 c109 c110 c111 c112 c113 c114 c115 c116 c117 c118 c119 c120 c121 c122 c123 c124 c125 c126 c127 c128 c129 c130 c131 c132 c133 c134 c135 c136 c137 c138 c139 c140 c141 c142 c143 c144 c145 c146 c147 c148 c149 c150 c151 c152 c153 c154 c155 c156 c157 c158 c159 c160 c161 c162 c163 c164 c165 c166 c167 c168 c169 c170 c171 c172 c173 c174 c175 c176 c177 c178 c179 c180 c181 c182 c183 c184 c185 c186 c187 c188 c189 c190 c191 c192 c193 c194 c195 c196 c197 c198 c199 c200 c201 c202 c203 c204 c205 c206 c207 c208 c209 c210 c211 c212 c213 c214 c215 c216 c217 c218 c219 c220 c221 c222 c223 c224 c225 c226 c227 c228 c229 c230 c231 c232 c233 c234 c235 c236 c237 c238 c239 c240 c241 c242 c243 c244 c245 c246 c247 c248 c249 c250 c251 c252 c253 c254 c255 c256 c257 c258 c259 c260 c261 c262 c263 c264 c265 c266 c267 c268 c269 c270 c271 c272 c273 c274 c275 c276 c277 c278 c279 c280 c281 c282 c283 c284 c285 c286 c287 c288 c289 c290 c291 c292 c293 c294 c295 c296 c297 c298 c299 c300 c301 c302 c303 c304 c305 c306 c307 c308 c309 c310 c311 c312 c313 c314 c315 c316 c317 c318 c319 c320 c321 c322 c323 c324 c325 c326 c327 c328 c329 c330 c331 c332 c333 c334 c335 c336 c337 : Value)
    (h : BothAt L w0 V lv D g M fr A c F) (hu : M.used + 1 ≤ u ∧ u ≤ 1000) (ha : AyAt V ab p Ak ck F) (_ : Row w0 w0.heap.size Ak (p.data.map bc)) (_ : p.data.length ≤ 3000) (_ : p.mask < 18446744073709551616 ∧ p.torn < 18446744073709551616)
    (hN : YOut L w0 D g u ab p Q .normal c0 c1 c2 c3 c4 c5 c7 c9 c11 c20 c21 c22 c23 c24 c25 c26 c27 c28 c29 c30 c31 c32 c33 c34 c35 c36 c37 c38 c39 c40 c41 c42 c43 c44 c45 c46 c47 c48 c49 c50 c51 c52 c53 c54 c55 c56 c57 c58 c59 c60 c61 c62 c63 c64 c65 c66 c327 c328 c329 c330 c331 c332 c333 c334 c335 c336 c337) (hE : YOut L w0 D g u ab p Q (.exit 1) c0 c1 c2 c3 c4 c5 c7 c9 c11 c20 c21 c22 c23 c24 c25 c26 c27 c28 c29 c30 c31 c32 c33 c34 c35 c36 c37 c38 c39 c40 c41 c42 c43 c44 c45 c46 c47 c48 c49 c50 c51 c52 c53 c54 c55 c56 c57 c58 c59 c60 c61 c62 c63 c64 c65 c66 c327 c328 c329 c330 c331 c332 c333 c334 c335 c336 c337)
    (e1 : (p.what == 1) = false) (e2 : (p.what == 2) = false) (e3 : (p.what == 3) = true) : Code.wp Tryd.prog yswitch Q ⟨#[c0, c1, c2, c3, c4, c5, .pointer (some ⟨D, 0, none⟩), c7, lv, c9, .pointer (some ⟨g, 0, none⟩), c11, .pointer (some ⟨ab, 0, none⟩), c13, c14, c15, c16, c17, c18, c19, c20, c21, c22, c23, c24, c25, c26, c27, c28, c29, c30, c31, c32, c33, c34, c35, c36, c37, c38, c39, c40, c41, c42, c43, c44, c45, c46, c47, c48, c49, c50, c51, c52, c53, c54, c55, c56, c57, c58, c59, c60, c61, c62, c63, c64, c65, c66, .int .i64 p.what, c68, c69, c70, c71, c72, c73, c74, c75, c76, c77, c78, c79, c80, c81, c82, c83, c84, c85, c86, c87, c88, c89, c90, c91, c92, c93, c94, c95, c96, c97, c98, c99, c100, c101, c102, c103, c104, c105, c106, c107, c108, c109, c110, c111, c112, c113, c114, c115, c116, c117, c118, c119, c120, c121, c122, c123, c124, c125, c126, c127, c128, c129, c130, c131, c132, c133, c134, c135, c136, c137, c138, c139, c140, c141, c142, c143, c144, c145, c146, c147, c148, c149, c150, c151, c152, c153, c154, c155, c156, c157, c158, c159, c160, c161, c162, c163, c164, c165, c166, c167, c168, c169, c170, c171, c172, c173, c174, c175, c176, c177, c178, c179, c180, c181, c182, c183, c184, c185, c186, c187, c188, c189, c190, c191, c192, c193, c194, c195, c196, c197, c198, c199, c200, c201, c202, c203, c204, c205, c206, c207, c208, c209, c210, c211, c212, c213, c214, c215, c216, c217, c218, c219, c220, c221, c222, c223, c224, c225, c226, c227, c228, c229, c230, c231, c232, c233, c234, c235, c236, c237, c238, c239, c240, c241, c242, c243, c244, c245, c246, c247, c248, c249, c250, c251, c252, c253, c254, c255, c256, c257, c258, c259, c260, c261, c262, c263, c264, c265, c266, c267, c268, c269, c270, c271, c272, c273, c274, c275, c276, c277, c278, c279, c280, c281, c282, c283, c284, c285, c286, c287, c288, c289, c290, c291, c292, c293, c294, c295, c296, c297, c298, c299, c300, c301, c302, c303, c304, c305, c306, c307, c308, c309, c310, c311, c312, c313, c314, c315, c316, c317, c318, c319, c320, c321, c322, c323, c324, c325, c326, c327, c328, c329, c330, c331, c332, c333, c334, c335, c336, c337], []⟩ V := by
  conv => arg 2; whnf
  have HUB := Lib.hid hu
  clear hu
  obtain ⟨_, q1, _, _, _⟩ := ha.cells
  by_cases h0 : p.n < -1000
  · have f1 : decide (p.n < -1000) = true := by simp; omega
    clear h0
    go_wp2
    exact hE _ _ _ _ _ _ _ _ _ _ _ _ _ _ _ _ _ _ _ _ _ _ _ _ _ _ _ _ _ _ _ _ _ _ _ _ _ _ _ _ _ _ _ _ _ _ _ _ _ _ _ _ _ _ _ _ _ _ _ _ _ _ _ _ _ _ _ _ _ _ _ _ _ _ _ _ _ _ _ _ _ _ _ _ _ _ _ _ _ _ _ _ _ _ _ _ _ _ _ _ _ _ _ _ _ _ _ _ _ _ _ _ _ _ _ _ _ _ _ _ _ _ _ _ _ _ _ _ _ _ _ _ _ _ _ _ _ _ _ _ _ _ _ _ _ _ _ _ _ _ _ _ _ _ _ _ _ _ _ _ _ _ _ _ _ _ _ _ _ _ _ _ _ _ _ _ _ _ _ _ _ _ _ _ _ _ _ _ _ _ _ _ _ _ _ _ _ _ _ _ _ _ _ _ _ _ _ _ _ _ _ _ _ _ _ _ _ _ _ _ _ _ _ _ _ _ _ _ _ _ _ _ _ _ _ _ _ _ _ _ _ _ _ _ _ _ _ _ _ _ _ _ _ _ _ _ _ _ _ _ _ _ _ _ _ _ _ _ ⟨M, fr, A, c, F, (by first | exact HUB.out.1 | exact Nat.le_of_succ_le HUB.out.1), h⟩
  by_cases h1 : 1000 < p.n
  · have f1 : decide (p.n < -1000) = false := by simp; omega
    have f2 : decide (1000 < p.n) = true := by simp; omega
    clear h0 h1
    go_wp2
    exact hE _ _ _ _ _ _ _ _ _ _ _ _ _ _ _ _ _ _ _ _ _ _ _ _ _ _ _ _ _ _ _ _ _ _ _ _ _ _ _ _ _ _ _ _ _ _ _ _ _ _ _ _ _ _ _ _ _ _ _ _ _ _ _ _ _ _ _ _ _ _ _ _ _ _ _ _ _ _ _ _ _ _ _ _ _ _ _ _ _ _ _ _ _ _ _ _ _ _ _ _ _ _ _ _ _ _ _ _ _ _ _ _ _ _ _ _ _ _ _ _ _ _ _ _ _ _ _ _ _ _ _ _ _ _ _ _ _ _ _ _ _ _ _ _ _ _ _ _ _ _ _ _ _ _ _ _ _ _ _ _ _ _ _ _ _ _ _ _ _ _ _ _ _ _ _ _ _ _ _ _ _ _ _ _ _ _ _ _ _ _ _ _ _ _ _ _ _ _ _ _ _ _ _ _ _ _ _ _ _ _ _ _ _ _ _ _ _ _ _ _ _ _ _ _ _ _ _ _ _ _ _ _ _ _ _ _ _ _ _ _ _ _ _ _ _ _ _ _ _ _ _ _ _ _ _ _ _ _ _ _ _ _ _ _ _ _ _ _ ⟨M, fr, A, c, F, (by first | exact HUB.out.1 | exact Nat.le_of_succ_le HUB.out.1), h⟩
  have f1 : decide (p.n < -1000) = false := by simp; omega
  have f2 : decide (1000 < p.n) = false := by simp; omega
  have hok := L.at_ok h.at_
  have hfb : M.first ≤ 36028797018963968 := by have := hok.high; omega
  have HDR := Lib.hid (fun W (hb : Below V.heap.size V W) => L.drop (h.next hb).at_ (by have := HUB.out; omega) ((M.first : Int) + p.n) (by omega) (by omega))
  have q0 : V.cell? ⟨g, 0, none⟩ = some (.int .i64 M.first) := h.mo.blk.cell 0
  have r0 : IntKind.i64.wrap ((M.first : Int) + p.n) = (M.first : Int) + p.n := IntWalk.i64_in _ (by omega)
  have HH := Lib.hid h
  have HAY := Lib.hid ha
  have HNB := Lib.hid (show -1000 ≤ p.n ∧ p.n ≤ 1000 from by omega)
  have HHI := Lib.hid hok.high
  clear h0 h1 hok h ha
  go_wp2
  go_region_held3 (fun X => X.cell? ⟨g, 0, none⟩ = some (.int .i64 M.first) ∧ X.cell? ⟨ab, 1, none⟩ = some (.int .i64 p.n))
    (go_keep)
    (skip)
  go_wp2_with fail
  refine (HDR.out _ (Below.refl V.heap.size V).drew).mono ?_
  rintro e w1 ⟨g1, M1, F1, rfl, hd, hat, hm⟩
  obtain ⟨hmo, hfar, hbel⟩ := (HH.out.next (Below.refl V.heap.size V).drew).call hm
  have hay := (HAY.out.below (Below.refl V.heap.size V).drew).moved hm
  have HMO := Lib.hid hmo
  have HFA := Lib.hid hfar
  have HBE := Lib.hid hbel
  have HAT := Lib.hid hat
  have HAY1 := Lib.hid hay
  have HNE := Lib.hid (hay.ne hmo)
  obtain ⟨_, q1, _, _, _⟩ := hay.cells
  have p0 : w1.cell? ⟨g, 0, none⟩ = some (.int .i64 M.first) := hmo.blk.cell 0
  have p1 : w1.cell? ⟨g, 1, none⟩ = some (.slice A M.recs.length c) := hmo.blk.cell 1
  have p2 : w1.cell? ⟨g, 2, none⟩ = some (.int .i64 M.sure) := hmo.blk.cell 2
  have p3 : w1.cell? ⟨g, 3, none⟩ = some (.int .i64 (dropI M.drop)) := hmo.blk.cell 3
  have p6 : w1.cell? ⟨g, 6, none⟩ = some (.bool M.down) := hmo.blk.cell 6
  have z0 := hmo.blk.frozen 0
  have z1 := hmo.blk.frozen 1
  have z2 := hmo.blk.frozen 2
  have z3 := hmo.blk.frozen 3
  have z6 := hmo.blk.frozen 6
  clear hmo hfar hbel hat hm hay q0
  rcases hd with ⟨h1, rfl, rfl⟩ | ⟨h1, h2, rfl, rfl⟩ | ⟨h1, h2, rfl, rfl⟩ | ⟨k, h1, hk, hto, ⟨rfl, rfl⟩ | ⟨_, rfl, rfl⟩⟩
  · rw [h1] at p6
    have HB := Lib.hid (show BothAt L w0 w1 lv D g M1 fr A c F1 from ⟨HAT.out, HMO.out, HFA.out, HBE.out⟩)
    clear h1
    go_wp2
    exact hN _ _ _ _ _ _ _ _ _ _ _ _ _ _ _ _ _ _ _ _ _ _ _ _ _ _ _ _ _ _ _ _ _ _ _ _ _ _ _ _ _ _ _ _ _ _ _ _ _ _ _ _ _ _ _ _ _ _ _ _ _ _ _ _ _ _ _ _ _ _ _ _ _ _ _ _ _ _ _ _ _ _ _ _ _ _ _ _ _ _ _ _ _ _ _ _ _ _ _ _ _ _ _ _ _ _ _ _ _ _ _ _ _ _ _ _ _ _ _ _ _ _ _ _ _ _ _ _ _ _ _ _ _ _ _ _ _ _ _ _ _ _ _ _ _ _ _ _ _ _ _ _ _ _ _ _ _ _ _ _ _ _ _ _ _ _ _ _ _ _ _ _ _ _ _ _ _ _ _ _ _ _ _ _ _ _ _ _ _ _ _ _ _ _ _ _ _ _ _ _ _ _ _ _ _ _ _ _ _ _ _ _ _ _ _ _ _ _ _ _ _ _ _ _ _ _ _ _ _ _ _ _ _ _ _ _ _ _ _ _ _ _ _ _ _ _ _ _ _ _ _ _ _ _ _ _ _ _ _ _ _ _ _ _ _ _ _ _ ⟨M1, fr, A, c, F1, (by first | exact HUB.out.1 | exact Nat.le_of_succ_le HUB.out.1), HB.out⟩
  · rw [h1] at p6
    have HB := Lib.hid (show BothAt L w0 w1 lv D g M1 fr A c F1 from ⟨HAT.out, HMO.out, HFA.out, HBE.out⟩)
    have d1 : decide (p.n < 0) = false := by unfold Lg.next at h2; simp; omega
    have d2 : decide ((M1.recs.length : Int) < p.n) = true := by unfold Lg.next at h2; simp; omega
    clear h1 h2
    go_wp2
    go_region_held3 (fun X => X.cell? ⟨g, 1, none⟩ = some (.slice A M1.recs.length c) ∧ X.cell? ⟨ab, 1, none⟩ = some (.int .i64 p.n))
      (go_keep)
      (skip)
    go_wp2
    exact hN _ _ _ _ _ _ _ _ _ _ _ _ _ _ _ _ _ _ _ _ _ _ _ _ _ _ _ _ _ _ _ _ _ _ _ _ _ _ _ _ _ _ _ _ _ _ _ _ _ _ _ _ _ _ _ _ _ _ _ _ _ _ _ _ _ _ _ _ _ _ _ _ _ _ _ _ _ _ _ _ _ _ _ _ _ _ _ _ _ _ _ _ _ _ _ _ _ _ _ _ _ _ _ _ _ _ _ _ _ _ _ _ _ _ _ _ _ _ _ _ _ _ _ _ _ _ _ _ _ _ _ _ _ _ _ _ _ _ _ _ _ _ _ _ _ _ _ _ _ _ _ _ _ _ _ _ _ _ _ _ _ _ _ _ _ _ _ _ _ _ _ _ _ _ _ _ _ _ _ _ _ _ _ _ _ _ _ _ _ _ _ _ _ _ _ _ _ _ _ _ _ _ _ _ _ _ _ _ _ _ _ _ _ _ _ _ _ _ _ _ _ _ _ _ _ _ _ _ _ _ _ _ _ _ _ _ _ _ _ _ _ _ _ _ _ _ _ _ _ _ _ _ _ _ _ _ _ _ _ _ _ _ _ _ _ _ _ _ ⟨M1, fr, A, c, F1, (by first | exact HUB.out.1 | exact Nat.le_of_succ_le HUB.out.1), HB.out.next (Below.refl _ _).drew⟩
  · rw [h1] at p6
    have HB := Lib.hid (show BothAt L w0 w1 lv D g M1 fr A c F1 from ⟨HAT.out, HMO.out, HFA.out, HBE.out⟩)
    have d1 : decide (p.n < 0) = true := by simp; omega
    clear h1 h2
    go_wp2
    exact hN _ _ _ _ _ _ _ _ _ _ _ _ _ _ _ _ _ _ _ _ _ _ _ _ _ _ _ _ _ _ _ _ _ _ _ _ _ _ _ _ _ _ _ _ _ _ _ _ _ _ _ _ _ _ _ _ _ _ _ _ _ _ _ _ _ _ _ _ _ _ _ _ _ _ _ _ _ _ _ _ _ _ _ _ _ _ _ _ _ _ _ _ _ _ _ _ _ _ _ _ _ _ _ _ _ _ _ _ _ _ _ _ _ _ _ _ _ _ _ _ _ _ _ _ _ _ _ _ _ _ _ _ _ _ _ _ _ _ _ _ _ _ _ _ _ _ _ _ _ _ _ _ _ _ _ _ _ _ _ _ _ _ _ _ _ _ _ _ _ _ _ _ _ _ _ _ _ _ _ _ _ _ _ _ _ _ _ _ _ _ _ _ _ _ _ _ _ _ _ _ _ _ _ _ _ _ _ _ _ _ _ _ _ _ _ _ _ _ _ _ _ _ _ _ _ _ _ _ _ _ _ _ _ _ _ _ _ _ _ _ _ _ _ _ _ _ _ _ _ _ _ _ _ _ _ _ _ _ _ _ _ _ _ _ _ _ _ _ ⟨M1, fr, A, c, F1, (by first | exact HUB.out.1 | exact Nat.le_of_succ_le HUB.out.1), HB.out⟩
  · rw [h1] at p6
    have HD := Lib.hid h1
    have hpn : p.n = (k : Int) := by omega
    have d1 : decide ((k : Int) < 0) = false := by simp
    have d2 : decide ((M.recs.length : Int) < (k : Int)) = false := by simp; omega
    have d2n : decide (M.recs.length < k) = false := by simp; omega
    have HK := Lib.hid hk
    rw [hpn] at q1
    have HPN := Lib.hid hpn
    clear h1 hto hpn hk
    go_wp2
    go_region_held3 (fun X => X.cell? ⟨g, 1, none⟩ = some (.slice A M.recs.length c) ∧ X.cell? ⟨ab, 1, none⟩ = some (.int .i64 (k : Int)))
      (go_keep)
      (skip)
    go_wp2
    have hk := HK.out
    have hki : (k : Int) ≤ (M.recs.length : Int) := by omega
    have hlc := HMO.out.list.cap.1
    have HL := Lib.hid (show ListAt w0 w1 (cutA A c k) (c - k) (M.recs.drop k) from by
      have h := HMO.out.list.cut (k := k) (n := M.recs.length - k) (by omega)
      rwa [List.take_of_length_le (by rw [List.length_drop]; exact Nat.le_refl _)] at h)
    have HCU := Lib.hid (fun j (hj : ownA (cutA A c k) j) => HMO.out.list.own_cut hj)
    go_region
    all_goals go_wp2
    · have e1 : cutA A c k = A := if_pos h
      have e2 : c - k = 0 := by omega
      have hl := HL.out
      rw [e1, e2] at hl
      have hall := both_set HAT.out HMO.out HFA.out HBE.out (((HMO.out.blk.set_ 0 (.int .i64 ((M.first : Int) + p.n))).set_ 1 (.slice A (M.recs.length - k) 0)).set_ 2 (.int .i64 ((M.recs.length - k : Nat) : Int))) (A' := A) (c' := 0) (by unfold moCells; rw [HPN.out]; simp only [List.length_drop, Int.natCast_add]; rfl) (grew3 _ _ _ _ _ _ _ _) hl (fun j hj => hj)
      exact hN _ _ _ _ _ _ _ _ _ _ _ _ _ _ _ _ _ _ _ _ _ _ _ _ _ _ _ _ _ _ _ _ _ _ _ _ _ _ _ _ _ _ _ _ _ _ _ _ _ _ _ _ _ _ _ _ _ _ _ _ _ _ _ _ _ _ _ _ _ _ _ _ _ _ _ _ _ _ _ _ _ _ _ _ _ _ _ _ _ _ _ _ _ _ _ _ _ _ _ _ _ _ _ _ _ _ _ _ _ _ _ _ _ _ _ _ _ _ _ _ _ _ _ _ _ _ _ _ _ _ _ _ _ _ _ _ _ _ _ _ _ _ _ _ _ _ _ _ _ _ _ _ _ _ _ _ _ _ _ _ _ _ _ _ _ _ _ _ _ _ _ _ _ _ _ _ _ _ _ _ _ _ _ _ _ _ _ _ _ _ _ _ _ _ _ _ _ _ _ _ _ _ _ _ _ _ _ _ _ _ _ _ _ _ _ _ _ _ _ _ _ _ _ _ _ _ _ _ _ _ _ _ _ _ _ _ _ _ _ _ _ _ _ _ _ _ _ _ _ _ _ _ _ _ _ _ _ _ _ _ _ _ _ _ _ _ _ _ ⟨_, fr, A, 0, F1, (by first | exact HUB.out.1 | exact Nat.le_of_succ_le HUB.out.1), (hall.next (Below.refl _ _).drew).next (Below.refl _ _).drew⟩
    · have e1 : cutA A c k = Option.map (fun x => x.add k) A := if_neg h
      have hl := HL.out
      rw [e1] at hl
      have hall := both_set HAT.out HMO.out HFA.out HBE.out (((HMO.out.blk.set_ 0 (.int .i64 ((M.first : Int) + p.n))).set_ 1 (.slice (Option.map (fun x => x.add k) A) (M.recs.length - k) (c - k))).set_ 2 (.int .i64 ((M.recs.length - k : Nat) : Int))) (A' := Option.map (fun x => x.add k) A) (c' := c - k) (by unfold moCells; rw [HPN.out]; simp only [List.length_drop, Int.natCast_add]; rfl) (grew3 _ _ _ _ _ _ _ _) hl (fun j hj => HCU.out j (by rw [e1]; exact hj))
      exact hN _ _ _ _ _ _ _ _ _ _ _ _ _ _ _ _ _ _ _ _ _ _ _ _ _ _ _ _ _ _ _ _ _ _ _ _ _ _ _ _ _ _ _ _ _ _ _ _ _ _ _ _ _ _ _ _ _ _ _ _ _ _ _ _ _ _ _ _ _ _ _ _ _ _ _ _ _ _ _ _ _ _ _ _ _ _ _ _ _ _ _ _ _ _ _ _ _ _ _ _ _ _ _ _ _ _ _ _ _ _ _ _ _ _ _ _ _ _ _ _ _ _ _ _ _ _ _ _ _ _ _ _ _ _ _ _ _ _ _ _ _ _ _ _ _ _ _ _ _ _ _ _ _ _ _ _ _ _ _ _ _ _ _ _ _ _ _ _ _ _ _ _ _ _ _ _ _ _ _ _ _ _ _ _ _ _ _ _ _ _ _ _ _ _ _ _ _ _ _ _ _ _ _ _ _ _ _ _ _ _ _ _ _ _ _ _ _ _ _ _ _ _ _ _ _ _ _ _ _ _ _ _ _ _ _ _ _ _ _ _ _ _ _ _ _ _ _ _ _ _ _ _ _ _ _ _ _ _ _ _ _ _ _ _ _ _ _ _ ⟨_, fr, _, c - k, F1, (by first | exact HUB.out.1 | exact Nat.le_of_succ_le HUB.out.1), (hall.next (Below.refl _ _).drew).next (Below.refl _ _).drew⟩
  · rw [h1] at p6
    have HD := Lib.hid h1
    have hpn : p.n = (k : Int) := by omega
    have d1 : decide ((k : Int) < 0) = false := by simp
    have d2 : decide ((M.recs.length : Int) < (k : Int)) = false := by simp; omega
    have d2n : decide (M.recs.length < k) = false := by simp; omega
    rw [hpn] at q1
    have HPN := Lib.hid hpn
    have HTO := Lib.hid (show (M.first : Int) + p.n = ((M.first + k : Nat) : Int) from hto)
    clear h1 hto hpn hk
    go_wp2
    go_region_held3 (fun X => X.cell? ⟨g, 1, none⟩ = some (.slice A M.recs.length c) ∧ X.cell? ⟨ab, 1, none⟩ = some (.int .i64 (k : Int)))
      (go_keep)
      (skip)
    go_wp2
    have hall := both_set HAT.out HMO.out HFA.out HBE.out ((HMO.out.blk.set_ 3 (.int .i64 ((M.first : Int) + p.n))).set_ 6 (.bool true)) (A' := A) (c' := c) (by unfold moCells; rw [HTO.out]; rfl) (grew2 _ _ _ _ _ _) HMO.out.list (fun j hj => hj)
    first
      | exact hN _ _ _ _ _ _ _ _ _ _ _ _ _ _ _ _ _ _ _ _ _ _ _ _ _ _ _ _ _ _ _ _ _ _ _ _ _ _ _ _ _ _ _ _ _ _ _ _ _ _ _ _ _ _ _ _ _ _ _ _ _ _ _ _ _ _ _ _ _ _ _ _ _ _ _ _ _ _ _ _ _ _ _ _ _ _ _ _ _ _ _ _ _ _ _ _ _ _ _ _ _ _ _ _ _ _ _ _ _ _ _ _ _ _ _ _ _ _ _ _ _ _ _ _ _ _ _ _ _ _ _ _ _ _ _ _ _ _ _ _ _ _ _ _ _ _ _ _ _ _ _ _ _ _ _ _ _ _ _ _ _ _ _ _ _ _ _ _ _ _ _ _ _ _ _ _ _ _ _ _ _ _ _ _ _ _ _ _ _ _ _ _ _ _ _ _ _ _ _ _ _ _ _ _ _ _ _ _ _ _ _ _ _ _ _ _ _ _ _ _ _ _ _ _ _ _ _ _ _ _ _ _ _ _ _ _ _ _ _ _ _ _ _ _ _ _ _ _ _ _ _ _ _ _ _ _ _ _ _ _ _ _ _ _ _ _ _ _ ⟨_, fr, A, c, F1, (by first | exact HUB.out.1 | exact Nat.le_of_succ_le HUB.out.1), hall.next (Below.refl _ _).drew⟩
      | exact hN _ _ _ _ _ _ _ _ _ _ _ _ _ _ _ _ _ _ _ _ _ _ _ _ _ _ _ _ _ _ _ _ _ _ _ _ _ _ _ _ _ _ _ _ _ _ _ _ _ _ _ _ _ _ _ _ _ _ _ _ _ _ _ _ _ _ _ _ _ _ _ _ _ _ _ _ _ _ _ _ _ _ _ _ _ _ _ _ _ _ _ _ _ _ _ _ _ _ _ _ _ _ _ _ _ _ _ _ _ _ _ _ _ _ _ _ _ _ _ _ _ _ _ _ _ _ _ _ _ _ _ _ _ _ _ _ _ _ _ _ _ _ _ _ _ _ _ _ _ _ _ _ _ _ _ _ _ _ _ _ _ _ _ _ _ _ _ _ _ _ _ _ _ _ _ _ _ _ _ _ _ _ _ _ _ _ _ _ _ _ _ _ _ _ _ _ _ _ _ _ _ _ _ _ _ _ _ _ _ _ _ _ _ _ _ _ _ _ _ _ _ _ _ _ _ _ _ _ _ _ _ _ _ _ _ _ _ _ _ _ _ _ _ _ _ _ _ _ _ _ _ _ _ _ _ _ _ _ _ _ _ _ _ _ _ _ _ _ ⟨_, fr, A, c, F1, (by first | exact HUB.out.1 | exact Nat.le_of_succ_le HUB.out.1), hall⟩

end Go.Proofs.YtgfoekbdmgljbaaDoor

namespace Go.Proofs.YtgfoekbdmgljbaaDoor
open Go.RowKit

set_option maxHeartbeats 4000000 in
set_option maxRecDepth 100000 in
theorem ysw_4 (L : LogSpec) {w0 V : World} {lv : Value} {D g u ab : Nat} {M : Lg} {fr : Bool} {A Ak : Option Addr} {c ck : Nat} {F : Nat → Prop} {p : Ay} {Q : Exit → Act → World → Prop} (c0 c1 c2 c3 c4 c5 c7 c9 c11 c13 c14 c15 c16 c17 c18 c19 c20 c21 c22 c23 c24 c25 c26 c27 c28 c29 c30 c31 c32 c33 c34 c35 c36 c37 c38 c39 c40 c41 c42 c43 c44 c45 c46 c47 c48 c49 c50 c51 c52 c53 c54 c55 c56 c57 c58 c59 c60 c61 c62 c63 c64 c65 c66 c68 c69 c70 c71 c72 c73 c74 c75 c76 c77 c78 c79 c80 c81 c82 c83 c84 c85 c86 c87 c88 c89 c90 c91 c92 c93 c94 c95 c96 c97 c98 c99 c100 c101 c102 c103 c104 c105 c106 c107 c108 c109 c110 c111 c112 c113 c114 c115 c116 c117 c118 c119 c120 c121 c122 c123 c124 c125 c126 c127 c128 c129 c130 c131 c132 c133 c134 c135 c136 c137 c138 c139 c140 c141 c142 c143 c144 c145 c146 c147 c148 c149 c150 c151 c152 c153 c154 c155 c156 c157 c158 c159 c160 c161 c162 c163 c164 c165 c166 c167 c168 c169 c170 c171 c172 c173 c174 c175 c176 c177 c178 c179 c180 c181 c182 c183 c184 c185 c186 c187 c188 c189 c190 c191 c192 c193 c194 c195 c196 c197 c198 c199 c200 c201 c202 c203 c204 c205 c206 c207 c208 c209 c210 c211 c212 c213 c214 c215 c216 c217 c218 c219 c220 c221 c222 c223 c224 c225 c226 c227 c228 c229 c230 c231 c232 c233 c234 c235 c236 c237 c238 c239 c240 c241 c242 c243 c244 c245 c246 c247 c248 c249 c250 c251 c252 c253 c254 c255 c256 c257 c258 c259 c260 c261 c262 c263 c264 c265 c266 c267 c268 c269 c270 c271 c272 c273 c274 c275 c276 c277 c278 c279 c280 c281 c282 c283 c284 c285 c286 c287 c288 c289 c290 c291 c292 c293 c294 c295 c296 c297 c298 c299 c300 c301 c302 c303 c304 c305 c306 c307 c308 c309 c310 c311 c312 c313 c314 c315 c316 c317 c318 c319 c320 c321 c322 c323 c324 c325 c326 c327 c328 c329 c330 c331 c332 c333 c334 c335 c336 c337 : Value)
    (h : BothAt L w0 V lv D g M fr A c F) (hu : M.used + 1 ≤ u ∧ u ≤ 1000) (ha : AyAt V ab p Ak ck F) (_ : Row w0 w0.heap.size Ak (p.data.map bc)) (_ : p.data.length ≤ 3000) (_ : p.mask < 18446744073709551616 ∧ p.torn < 18446744073709551616)
    (hN : YOut L w0 D g u ab p Q .normal c0 c1 c2 c3 c4 c5 c7 c9 c11 c20 c21 c22 c23 c24 c25 c26 c27 c28 c29 c30 c31 c32 c33 c34 c35 c36 c37 c38 c39 c40 c41 c42 c43 c44 c45 c46 c47 c48 c49 c50 c51 c52 c53 c54 c55 c56 c57 c58 c59 c60 c61 c62 c63 c64 c65 c66 c327 c328 c329 c330 c331 c332 c333 c334 c335 c336 c337) (_ : YOut L w0 D g u ab p Q (.exit 1) c0 c1 c2 c3 c4 c5 c7 c9 c11 c20 c21 c22 c23 c24 c25 c26 c27 c28 c29 c30 c31 c32 c33 c34 c35 c36 c37 c38 c39 c40 c41 c42 c43 c44 c45 c46 c47 c48 c49 c50 c51 c52 c53 c54 c55 c56 c57 c58 c59 c60 c61 c62 c63 c64 c65 c66 c327 c328 c329 c330 c331 c332 c333 c334 c335 c336 c337)
    (e1 : (p.what == 1) = false) (e2 : (p.what == 2) = false) (e3 : (p.what == 3) = false) (e4 : (p.what == 4) = true) : Code.wp Tryd.prog yswitch Q ⟨#[c0, c1, c2, c3, c4, c5, .pointer (some ⟨D, 0, none⟩), c7, lv, c9, .pointer (some ⟨g, 0, none⟩), c11, .pointer (some ⟨ab, 0, none⟩), c13, c14, c15, c16, c17, c18, c19, c20, c21, c22, c23, c24, c25, c26, c27, c28, c29, c30, c31, c32, c33, c34, c35, c36, c37, c38, c39, c40, c41, c42, c43, c44, c45, c46, c47, c48, c49, c50, c51, c52, c53, c54, c55, c56, c57, c58, c59, c60, c61, c62, c63, c64, c65, c66, .int .i64 p.what, c68, c69, c70, c71, c72, c73, c74, c75, c76, c77, c78, c79, c80, c81, c82, c83, c84, c85, c86, c87, c88, c89, c90, c91, c92, c93, c94, c95, c96, c97, c98, c99, c100, c101, c102, c103, c104, c105, c106, c107, c108, c109, c110, c111, c112, c113, c114, c115, c116, c117, c118, c119, c120, c121, c122, c123, c124, c125, c126, c127, c128, c129, c130, c131, c132, c133, c134, c135, c136, c137, c138, c139, c140, c141, c142, c143, c144, c145, c146, c147, c148, c149, c150, c151, c152, c153, c154, c155, c156, c157, c158, c159, c160, c161, c162, c163, c164, c165, c166, c167, c168, c169, c170, c171, c172, c173, c174, c175, c176, c177, c178, c179, c180, c181, c182, c183, c184, c185, c186, c187, c188, c189, c190, c191, c192, c193, c194, c195, c196, c197, c198, c199, c200, c201, c202, c203, c204, c205, c206, c207, c208, c209, c210, c211, c212, c213, c214, c215, c216, c217, c218, c219, c220, c221, c222, c223, c224, c225, c226, c227, c228, c229, c230, c231, c232, c233, c234, c235, c236, c237, c238, c239, c240, c241, c242, c243, c244, c245, c246, c247, c248, c249, c250, c251, c252, c253, c254, c255, c256, c257, c258, c259, c260, c261, c262, c263, c264, c265, c266, c267, c268, c269, c270, c271, c272, c273, c274, c275, c276, c277, c278, c279, c280, c281, c282, c283, c284, c285, c286, c287, c288, c289, c290, c291, c292, c293, c294, c295, c296, c297, c298, c299, c300, c301, c302, c303, c304, c305, c306, c307, c308, c309, c310, c311, c312, c313, c314, c315, c316, c317, c318, c319, c320, c321, c322, c323, c324, c325, c326, c327, c328, c329, c330, c331, c332, c333, c334, c335, c336, c337], []⟩ V := by
  conv => arg 2; whnf
  have HUB := Lib.hid hu
  clear hu
  obtain ⟨_, q1, _, _, _⟩ := ha.cells
  by_cases h0 : 0 ≤ p.n
  · by_cases h5 : p.n < 50
    · have f1 : decide ((0 : Int) ≤ p.n) = true := by simp; omega
      have f2 : decide (p.n < 50) = true := by simp; omega
      have hli := L.limit h.at_ p.n.toNat (by omega)
      rw [Int.toNat_of_nonneg h0] at hli
      have HLI := Lib.hid hli
      have HH := Lib.hid h
      clear h0 h5 hli h ha
      go_wp2_with fail
      refine HLI.out.mono ?_
      rintro e w1 ⟨F1, rfl, hat, hm⟩
      have HB := Lib.hid (HH.out.moved hat hm)
      clear hat hm
      go_wp2
      exact hN _ _ _ _ _ _ _ _ _ _ _ _ _ _ _ _ _ _ _ _ _ _ _ _ _ _ _ _ _ _ _ _ _ _ _ _ _ _ _ _ _ _ _ _ _ _ _ _ _ _ _ _ _ _ _ _ _ _ _ _ _ _ _ _ _ _ _ _ _ _ _ _ _ _ _ _ _ _ _ _ _ _ _ _ _ _ _ _ _ _ _ _ _ _ _ _ _ _ _ _ _ _ _ _ _ _ _ _ _ _ _ _ _ _ _ _ _ _ _ _ _ _ _ _ _ _ _ _ _ _ _ _ _ _ _ _ _ _ _ _ _ _ _ _ _ _ _ _ _ _ _ _ _ _ _ _ _ _ _ _ _ _ _ _ _ _ _ _ _ _ _ _ _ _ _ _ _ _ _ _ _ _ _ _ _ _ _ _ _ _ _ _ _ _ _ _ _ _ _ _ _ _ _ _ _ _ _ _ _ _ _ _ _ _ _ _ _ _ _ _ _ _ _ _ _ _ _ _ _ _ _ _ _ _ _ _ _ _ _ _ _ _ _ _ _ _ _ _ _ _ _ _ _ _ _ _ _ _ _ _ _ _ _ _ _ _ _ _ ⟨M, _, A, c, F1, (by first | exact HUB.out.1 | exact Nat.le_of_succ_le HUB.out.1), HB.out⟩
    · have f1 : decide ((0 : Int) ≤ p.n) = true := by simp; omega
      have f2 : decide (p.n < 50) = false := by simp; omega
      clear h0 h5
      go_wp2
      exact hN _ _ _ _ _ _ _ _ _ _ _ _ _ _ _ _ _ _ _ _ _ _ _ _ _ _ _ _ _ _ _ _ _ _ _ _ _ _ _ _ _ _ _ _ _ _ _ _ _ _ _ _ _ _ _ _ _ _ _ _ _ _ _ _ _ _ _ _ _ _ _ _ _ _ _ _ _ _ _ _ _ _ _ _ _ _ _ _ _ _ _ _ _ _ _ _ _ _ _ _ _ _ _ _ _ _ _ _ _ _ _ _ _ _ _ _ _ _ _ _ _ _ _ _ _ _ _ _ _ _ _ _ _ _ _ _ _ _ _ _ _ _ _ _ _ _ _ _ _ _ _ _ _ _ _ _ _ _ _ _ _ _ _ _ _ _ _ _ _ _ _ _ _ _ _ _ _ _ _ _ _ _ _ _ _ _ _ _ _ _ _ _ _ _ _ _ _ _ _ _ _ _ _ _ _ _ _ _ _ _ _ _ _ _ _ _ _ _ _ _ _ _ _ _ _ _ _ _ _ _ _ _ _ _ _ _ _ _ _ _ _ _ _ _ _ _ _ _ _ _ _ _ _ _ _ _ _ _ _ _ _ _ _ _ _ _ _ _ ⟨M, fr, A, c, F, (by first | exact HUB.out.1 | exact Nat.le_of_succ_le HUB.out.1), h⟩
  · have f1 : decide ((0 : Int) ≤ p.n) = false := by simp; omega
    clear h0
    go_wp2
    exact hN _ _ _ _ _ _ _ _ _ _ _ _ _ _ _ _ _ _ _ _ _ _ _ _ _ _ _ _ _ _ _ _ _ _ _ _ _ _ _ _ _ _ _ _ _ _ _ _ _ _ _ _ _ _ _ _ _ _ _ _ _ _ _ _ _ _ _ _ _ _ _ _ _ _ _ _ _ _ _ _ _ _ _ _ _ _ _ _ _ _ _ _ _ _ _ _ _ _ _ _ _ _ _ _ _ _ _ _ _ _ _ _ _ _ _ _ _ _ _ _ _ _ _ _ _ _ _ _ _ _ _ _ _ _ _ _ _ _ _ _ _ _ _ _ _ _ _ _ _ _ _ _ _ _ _ _ _ _ _ _ _ _ _ _ _ _ _ _ _ _ _ _ _ _ _ _ _ _ _ _ _ _ _ _ _ _ _ _ _ _ _ _ _ _ _ _ _ _ _ _ _ _ _ _ _ _ _ _ _ _ _ _ _ _ _ _ _ _ _ _ _ _ _ _ _ _ _ _ _ _ _ _ _ _ _ _ _ _ _ _ _ _ _ _ _ _ _ _ _ _ _ _ _ _ _ _ _ _ _ _ _ _ _ _ _ _ _ _ ⟨M, fr, A, c, F, (by first | exact HUB.out.1 | exact Nat.le_of_succ_le HUB.out.1), h⟩

end Go.Proofs.YtgfoekbdmgljbaaDoor

namespace Go.Proofs.YtgfoekbdmgljbaaDoor
open Go.RowKit

section
variable {L : LogSpec} {w0 w : World} {lv : Value} {D g u : Nat} {M : Lg} {fr : Bool} {A Ak : Option Addr} {c ck ab : Nat} {F : Nat → Prop} {p : Ay}
/-- What again gives, in whatever world behind. -/
def AgainIn (L : LogSpec) (w0 : World) (D g u : Nat) (lv' : Value) (w2 : World) : Prop := ∀ (op : Bool) (W : World), Below w2.heap.size w2 W →
  Calls Tryd.prog 16 #[lv', .pointer (some ⟨g, 0, none⟩), .bool op] W (fun e w' => e = .returned (.bool true) ∧ YCut L w0 D g u lv' w')
theorem open_again (h : BothAt L w0 w lv D g M fr A c F) (ha : AyAt w ab p Ak ck F) {w1 : World} {F1 : Nat → Prop} (hm1 : Moved F w w1 F1) (hd : L.Dead w1 w0.heap.size D M true F1) (hu : M.used + 1 ≤ u ∧ u ≤ 1000) :
    Calls Tryd.prog 7 #[.pointer (some ⟨D, 0, none⟩)] w1 (fun e w2 => ∃ lv', e = .returned (.tuple #[lv', .int .i64 0]) ∧ w2.cell? ⟨ab, 0, none⟩ = some (.int .i64 p.what) ∧ AgainIn L w0 D g u lv' w2) := by
  refine (L.open_dead hd (by omega)).mono ?_
  rintro e w2 ⟨lv', gg, F2, rfl, hm2, ⟨rfl, M', hag, hat⟩ | ⟨hx, _⟩⟩
  · obtain ⟨hmo1, hfar1⟩ := h.mo.moved h.far hm1
    obtain ⟨hmo2, hfar2⟩ := hmo1.moved hfar1 hm2
    have hb2 : Below w0.heap.size w0 w2 := (h.below.trans (hm1.below (fun j hj => ((L.at_own h.at_).2 j hj).1) (L.at_own h.at_).1)).trans (hm2.below (fun j hj => ((L.dead_own hd).2 j hj).1) (L.dead_own hd).1)
    refine ⟨lv', rfl, ((ha.moved hm1).moved hm2).cells.1, fun op W hb => (again_any L op (LogSpec.at_below hat hb) (hmo2.below hb) hfar2 (hb2.trans (hb.mono hb2.size)) (L.at_ok h.at_) hag).mono ?_⟩
    rintro e w' ⟨rfl, A', c', F', hB⟩
    exact ⟨rfl, M', true, A', c', F', (by obtain ⟨_, _, _, _, _, _, _, rfl⟩ := hag; exact hu.1), hB⟩
  · cases hx
theorem reopen_again (h : BothAt L w0 w lv D g M true A c F) (ha : AyAt w ab p Ak ck F) (h1 : M.down = false) (h2 : M.sure = M.recs.length) (hu : M.used + 1 ≤ u ∧ u ≤ 1000) :
    Calls Tryd.prog 7 #[.pointer (some ⟨D, 0, none⟩)] w (fun e w2 => ∃ lv', e = .returned (.tuple #[lv', .int .i64 0]) ∧ w2.cell? ⟨ab, 0, none⟩ = some (.int .i64 p.what) ∧ AgainIn L w0 D g u lv' w2) := by
  refine (L.reopen h.at_ h1 h2 (by omega)).mono ?_
  rintro e w2 ⟨lv', M', F2, rfl, hm2, hag, hat⟩
  obtain ⟨hmo2, hfar2⟩ := h.mo.moved h.far hm2
  have hb2 : Below w0.heap.size w0 w2 := h.below.trans (hm2.below (fun j hj => ((L.at_own h.at_).2 j hj).1) (L.at_own h.at_).1)
  refine ⟨lv', rfl, (ha.moved hm2).cells.1, fun op W hb => (again_any L op (LogSpec.at_below hat hb) (hmo2.below hb) hfar2 (hb2.trans (hb.mono hb2.size)) (L.at_ok h.at_) hag).mono ?_⟩
  rintro e w' ⟨rfl, A', c', F', hB⟩
  exact ⟨rfl, M', true, A', c', F', (by obtain ⟨_, _, _, _, _, _, _, rfl⟩ := hag; exact hu.1), hB⟩
end

end Go.Proofs.YtgfoekbdmgljbaaDoor

namespace Go.Proofs.YtgfoekbdmgljbaaDoor
open Go.RowKit

set_option maxHeartbeats 4000000 in
set_option maxRecDepth 100000 in
theorem ysw_5 (L : LogSpec) {w0 V : World} {lv : Value} {D g u ab : Nat} {M : Lg} {fr : Bool} {A Ak : Option Addr} {c ck : Nat} {F : Nat → Prop} {p : Ay} {Q : Exit → Act → World → Prop} (c0 c1 c2 c3 c4 c5 c7 c9 c11 c13 c14 c15 c16 c17 c18 c19 c20 c21 c22 c23 c24 c25 c26 c27 c28 c29 c30 c31 c32 c33 c34 c35 c36 c37 c38 c39 c40 c41 c42 c43 c44 c45 c46 c47 c48 c49 c50 c51 c52 c53 c54 c55 c56 c57 c58 c59 c60 c61 c62 c63 c64 c65 c66 c68 c69 c70 c71 c72 c73 c74 c75 c76 c77 c78 c79 c80 c81 c82 c83 c84 c85 c86 c87 c88 c89 c90 c91 c92 c93 c94 c95 c96 c97 c98 c99 c100 c101 c102 c103 c104 c105 c106 c107 c108 c109 c110 c111 c112 c113 c114 c115 c116 c117 c118 c119 c120 c121 c122 c123 c124 c125 c126 c127 c128 c129 c130 c131 c132 c133 c134 c135 c136 c137 c138 c139 c140 c141 c142 c143 c144 c145 c146 c147 c148 c149 c150 c151 c152 c153 c154 c155 c156 c157 c158 c159 c160 c161 c162 c163 c164 c165 c166 c167 c168 c169 c170 c171 c172 c173 c174 c175 c176 c177 c178 c179 c180 c181 c182 c183 c184 c185 c186 c187 c188 c189 c190 c191 c192 c193 c194 c195 c196 c197 c198 c199 c200 c201 c202 c203 c204 c205 c206 c207 c208 c209 c210 c211 c212 c213 c214 c215 c216 c217 c218 c219 c220 c221 c222 c223 c224 c225 c226 c227 c228 c229 c230 c231 c232 c233 c234 c235 c236 c237 c238 c239 c240 c241 c242 c243 c244 c245 c246 c247 c248 c249 c250 c251 c252 c253 c254 c255 c256 c257 c258 c259 c260 c261 c262 c263 c264 c265 c266 c267 c268 c269 c270 c271 c272 c273 c274 c275 c276 c277 c278 c279 c280 c281 c282 c283 c284 c285 c286 c287 c288 c289 c290 c291 c292 c293 c294 c295 c296 c297 c298 c299 c300 c301 c302 c303 c304 c305 c306 c307 c308 c309 c310 c311 c312 c313 c314 c315 c316 c317 c318 c319 c320 c321 c322 c323 c324 c325 c326 c327 c328 c329 c330 c331 c332 c333 c334 c335 c336 c337 : Value)
    (h : BothAt L w0 V lv D g M fr A c F) (hu : M.used + 1 ≤ u ∧ u ≤ 1000) (ha : AyAt V ab p Ak ck F) (_ : Row w0 w0.heap.size Ak (p.data.map bc)) (_ : p.data.length ≤ 3000) (hm : p.mask < 18446744073709551616 ∧ p.torn < 18446744073709551616)
    (hN : YOut L w0 D g u ab p Q .normal c0 c1 c2 c3 c4 c5 c7 c9 c11 c20 c21 c22 c23 c24 c25 c26 c27 c28 c29 c30 c31 c32 c33 c34 c35 c36 c37 c38 c39 c40 c41 c42 c43 c44 c45 c46 c47 c48 c49 c50 c51 c52 c53 c54 c55 c56 c57 c58 c59 c60 c61 c62 c63 c64 c65 c66 c327 c328 c329 c330 c331 c332 c333 c334 c335 c336 c337) (_ : YOut L w0 D g u ab p Q (.exit 1) c0 c1 c2 c3 c4 c5 c7 c9 c11 c20 c21 c22 c23 c24 c25 c26 c27 c28 c29 c30 c31 c32 c33 c34 c35 c36 c37 c38 c39 c40 c41 c42 c43 c44 c45 c46 c47 c48 c49 c50 c51 c52 c53 c54 c55 c56 c57 c58 c59 c60 c61 c62 c63 c64 c65 c66 c327 c328 c329 c330 c331 c332 c333 c334 c335 c336 c337)
    (e1 : (p.what == 1) = false) (e2 : (p.what == 2) = false) (e3 : (p.what == 3) = false) (e4 : (p.what == 4) = false) (e5 : (p.what == 5) = true) (e6 : (p.what == 6) = false) : Code.wp Tryd.prog yswitch Q ⟨#[c0, c1, c2, c3, c4, c5, .pointer (some ⟨D, 0, none⟩), c7, lv, c9, .pointer (some ⟨g, 0, none⟩), c11, .pointer (some ⟨ab, 0, none⟩), c13, c14, c15, c16, c17, c18, c19, c20, c21, c22, c23, c24, c25, c26, c27, c28, c29, c30, c31, c32, c33, c34, c35, c36, c37, c38, c39, c40, c41, c42, c43, c44, c45, c46, c47, c48, c49, c50, c51, c52, c53, c54, c55, c56, c57, c58, c59, c60, c61, c62, c63, c64, c65, c66, .int .i64 p.what, c68, c69, c70, c71, c72, c73, c74, c75, c76, c77, c78, c79, c80, c81, c82, c83, c84, c85, c86, c87, c88, c89, c90, c91, c92, c93, c94, c95, c96, c97, c98, c99, c100, c101, c102, c103, c104, c105, c106, c107, c108, c109, c110, c111, c112, c113, c114, c115, c116, c117, c118, c119, c120, c121, c122, c123, c124, c125, c126, c127, c128, c129, c130, c131, c132, c133, c134, c135, c136, c137, c138, c139, c140, c141, c142, c143, c144, c145, c146, c147, c148, c149, c150, c151, c152, c153, c154, c155, c156, c157, c158, c159, c160, c161, c162, c163, c164, c165, c166, c167, c168, c169, c170, c171, c172, c173, c174, c175, c176, c177, c178, c179, c180, c181, c182, c183, c184, c185, c186, c187, c188, c189, c190, c191, c192, c193, c194, c195, c196, c197, c198, c199, c200, c201, c202, c203, c204, c205, c206, c207, c208, c209, c210, c211, c212, c213, c214, c215, c216, c217, c218, c219, c220, c221, c222, c223, c224, c225, c226, c227, c228, c229, c230, c231, c232, c233, c234, c235, c236, c237, c238, c239, c240, c241, c242, c243, c244, c245, c246, c247, c248, c249, c250, c251, c252, c253, c254, c255, c256, c257, c258, c259, c260, c261, c262, c263, c264, c265, c266, c267, c268, c269, c270, c271, c272, c273, c274, c275, c276, c277, c278, c279, c280, c281, c282, c283, c284, c285, c286, c287, c288, c289, c290, c291, c292, c293, c294, c295, c296, c297, c298, c299, c300, c301, c302, c303, c304, c305, c306, c307, c308, c309, c310, c311, c312, c313, c314, c315, c316, c317, c318, c319, c320, c321, c322, c323, c324, c325, c326, c327, c328, c329, c330, c331, c332, c333, c334, c335, c336, c337], []⟩ V := by
  conv => arg 2; whnf
  have HUB := Lib.hid hu
  clear hu
  obtain ⟨_, _, _, q3, q4⟩ := ha.cells
  have HCR := Lib.hid (fun W (hb : Below V.heap.size V W) => L.crash (h.next hb).at_ p.mask p.torn hm.1 hm.2)
  have HH := Lib.hid h
  have HAY := Lib.hid ha
  clear h ha
  go_wp2_with fail
  refine (HCR.out _ (Below.refl V.heap.size V)).mono ?_
  rintro e w1 ⟨F1, rfl, hd, hm1⟩
  have HOP := Lib.hid (open_again HH.out HAY.out hm1 hd HUB.out)
  clear hd hm1
  go_wp2_with fail
  refine HOP.out.mono ?_
  rintro e w2 ⟨lv', rfl, qa, hag⟩
  have HAG := Lib.hid (hag false)
  clear hag
  go_wp2_with fail
  refine (HAG.out _ (Below.refl _ _)).mono ?_
  rintro e w3 ⟨rfl, hcut⟩
  have HCU := Lib.hid hcut
  clear hcut
  go_wp2
  exact hN _ _ _ _ _ _ _ _ _ _ _ _ _ _ _ _ _ _ _ _ _ _ _ _ _ _ _ _ _ _ _ _ _ _ _ _ _ _ _ _ _ _ _ _ _ _ _ _ _ _ _ _ _ _ _ _ _ _ _ _ _ _ _ _ _ _ _ _ _ _ _ _ _ _ _ _ _ _ _ _ _ _ _ _ _ _ _ _ _ _ _ _ _ _ _ _ _ _ _ _ _ _ _ _ _ _ _ _ _ _ _ _ _ _ _ _ _ _ _ _ _ _ _ _ _ _ _ _ _ _ _ _ _ _ _ _ _ _ _ _ _ _ _ _ _ _ _ _ _ _ _ _ _ _ _ _ _ _ _ _ _ _ _ _ _ _ _ _ _ _ _ _ _ _ _ _ _ _ _ _ _ _ _ _ _ _ _ _ _ _ _ _ _ _ _ _ _ _ _ _ _ _ _ _ _ _ _ _ _ _ _ _ _ _ _ _ _ _ _ _ _ _ _ _ _ _ _ _ _ _ _ _ _ _ _ _ _ _ _ _ _ _ _ _ _ _ _ _ _ _ _ _ _ _ _ _ _ _ _ _ _ _ _ _ _ _ _ _ HCU.out

end Go.Proofs.YtgfoekbdmgljbaaDoor

namespace Go.Proofs.YtgfoekbdmgljbaaDoor
open Go.RowKit

set_option maxHeartbeats 4000000 in
set_option maxRecDepth 100000 in
theorem ysw_6 (L : LogSpec) {w0 V : World} {lv : Value} {D g u ab : Nat} {M : Lg} {fr : Bool} {A Ak : Option Addr} {c ck : Nat} {F : Nat → Prop} {p : Ay} {Q : Exit → Act → World → Prop} (c0 c1 c2 c3 c4 c5 c7 c9 c11 c13 c14 c15 c16 c17 c18 c19 c20 c21 c22 c23 c24 c25 c26 c27 c28 c29 c30 c31 c32 c33 c34 c35 c36 c37 c38 c39 c40 c41 c42 c43 c44 c45 c46 c47 c48 c49 c50 c51 c52 c53 c54 c55 c56 c57 c58 c59 c60 c61 c62 c63 c64 c65 c66 c68 c69 c70 c71 c72 c73 c74 c75 c76 c77 c78 c79 c80 c81 c82 c83 c84 c85 c86 c87 c88 c89 c90 c91 c92 c93 c94 c95 c96 c97 c98 c99 c100 c101 c102 c103 c104 c105 c106 c107 c108 c109 c110 c111 c112 c113 c114 c115 c116 c117 c118 c119 c120 c121 c122 c123 c124 c125 c126 c127 c128 c129 c130 c131 c132 c133 c134 c135 c136 c137 c138 c139 c140 c141 c142 c143 c144 c145 c146 c147 c148 c149 c150 c151 c152 c153 c154 c155 c156 c157 c158 c159 c160 c161 c162 c163 c164 c165 c166 c167 c168 c169 c170 c171 c172 c173 c174 c175 c176 c177 c178 c179 c180 c181 c182 c183 c184 c185 c186 c187 c188 c189 c190 c191 c192 c193 c194 c195 c196 c197 c198 c199 c200 c201 c202 c203 c204 c205 c206 c207 c208 c209 c210 c211 c212 c213 c214 c215 c216 c217 c218 c219 c220 c221 c222 c223 c224 c225 c226 c227 c228 c229 c230 c231 c232 c233 c234 c235 c236 c237 c238 c239 c240 c241 c242 c243 c244 c245 c246 c247 c248 c249 c250 c251 c252 c253 c254 c255 c256 c257 c258 c259 c260 c261 c262 c263 c264 c265 c266 c267 c268 c269 c270 c271 c272 c273 c274 c275 c276 c277 c278 c279 c280 c281 c282 c283 c284 c285 c286 c287 c288 c289 c290 c291 c292 c293 c294 c295 c296 c297 c298 c299 c300 c301 c302 c303 c304 c305 c306 c307 c308 c309 c310 c311 c312 c313 c314 c315 c316 c317 c318 c319 c320 c321 c322 c323 c324 c325 c326 c327 c328 c329 c330 c331 c332 c333 c334 c335 c336 c337 : Value)
    (h : BothAt L w0 V lv D g M fr A c F) (hu : M.used + 1 ≤ u ∧ u ≤ 1000) (ha : AyAt V ab p Ak ck F) (_ : Row w0 w0.heap.size Ak (p.data.map bc)) (_ : p.data.length ≤ 3000) (_ : p.mask < 18446744073709551616 ∧ p.torn < 18446744073709551616)
    (hN : YOut L w0 D g u ab p Q .normal c0 c1 c2 c3 c4 c5 c7 c9 c11 c20 c21 c22 c23 c24 c25 c26 c27 c28 c29 c30 c31 c32 c33 c34 c35 c36 c37 c38 c39 c40 c41 c42 c43 c44 c45 c46 c47 c48 c49 c50 c51 c52 c53 c54 c55 c56 c57 c58 c59 c60 c61 c62 c63 c64 c65 c66 c327 c328 c329 c330 c331 c332 c333 c334 c335 c336 c337) (hE : YOut L w0 D g u ab p Q (.exit 1) c0 c1 c2 c3 c4 c5 c7 c9 c11 c20 c21 c22 c23 c24 c25 c26 c27 c28 c29 c30 c31 c32 c33 c34 c35 c36 c37 c38 c39 c40 c41 c42 c43 c44 c45 c46 c47 c48 c49 c50 c51 c52 c53 c54 c55 c56 c57 c58 c59 c60 c61 c62 c63 c64 c65 c66 c327 c328 c329 c330 c331 c332 c333 c334 c335 c336 c337)
    (e1 : (p.what == 1) = false) (e2 : (p.what == 2) = false) (e3 : (p.what == 3) = false) (e4 : (p.what == 4) = false) (e5 : (p.what == 5) = false) (e6 : (p.what == 6) = true) : Code.wp Tryd.prog yswitch Q ⟨#[c0, c1, c2, c3, c4, c5, .pointer (some ⟨D, 0, none⟩), c7, lv, c9, .pointer (some ⟨g, 0, none⟩), c11, .pointer (some ⟨ab, 0, none⟩), c13, c14, c15, c16, c17, c18, c19, c20, c21, c22, c23, c24, c25, c26, c27, c28, c29, c30, c31, c32, c33, c34, c35, c36, c37, c38, c39, c40, c41, c42, c43, c44, c45, c46, c47, c48, c49, c50, c51, c52, c53, c54, c55, c56, c57, c58, c59, c60, c61, c62, c63, c64, c65, c66, .int .i64 p.what, c68, c69, c70, c71, c72, c73, c74, c75, c76, c77, c78, c79, c80, c81, c82, c83, c84, c85, c86, c87, c88, c89, c90, c91, c92, c93, c94, c95, c96, c97, c98, c99, c100, c101, c102, c103, c104, c105, c106, c107, c108, c109, c110, c111, c112, c113, c114, c115, c116, c117, c118, c119, c120, c121, c122, c123, c124, c125, c126, c127, c128, c129, c130, c131, c132, c133, c134, c135, c136, c137, c138, c139, c140, c141, c142, c143, c144, c145, c146, c147, c148, c149, c150, c151, c152, c153, c154, c155, c156, c157, c158, c159, c160, c161, c162, c163, c164, c165, c166, c167, c168, c169, c170, c171, c172, c173, c174, c175, c176, c177, c178, c179, c180, c181, c182, c183, c184, c185, c186, c187, c188, c189, c190, c191, c192, c193, c194, c195, c196, c197, c198, c199, c200, c201, c202, c203, c204, c205, c206, c207, c208, c209, c210, c211, c212, c213, c214, c215, c216, c217, c218, c219, c220, c221, c222, c223, c224, c225, c226, c227, c228, c229, c230, c231, c232, c233, c234, c235, c236, c237, c238, c239, c240, c241, c242, c243, c244, c245, c246, c247, c248, c249, c250, c251, c252, c253, c254, c255, c256, c257, c258, c259, c260, c261, c262, c263, c264, c265, c266, c267, c268, c269, c270, c271, c272, c273, c274, c275, c276, c277, c278, c279, c280, c281, c282, c283, c284, c285, c286, c287, c288, c289, c290, c291, c292, c293, c294, c295, c296, c297, c298, c299, c300, c301, c302, c303, c304, c305, c306, c307, c308, c309, c310, c311, c312, c313, c314, c315, c316, c317, c318, c319, c320, c321, c322, c323, c324, c325, c326, c327, c328, c329, c330, c331, c332, c333, c334, c335, c336, c337], []⟩ V := by
  conv => arg 2; whnf
  have HUB := Lib.hid hu
  clear hu
  obtain ⟨q0, _, _, _, _⟩ := ha.cells
  have q6 : V.cell? ⟨g, 6, none⟩ = some (.bool M.down) := h.mo.blk.cell 6
  have z6 := h.mo.blk.frozen 6
  by_cases hdn : M.down = true
  · rw [hdn] at q6
    have hall := both_set h.at_ h.mo h.far h.below (h.mo.blk.set_ 6 (.bool true)) (A' := A) (c' := c) (by unfold moCells; rw [hdn]; rfl) (grew1 _ _ _ _) h.mo.list (fun j hj => hj)
    have HA := Lib.hid hall
    clear h ha hall hdn
    go_wp2
    exact hE _ _ _ _ _ _ _ _ _ _ _ _ _ _ _ _ _ _ _ _ _ _ _ _ _ _ _ _ _ _ _ _ _ _ _ _ _ _ _ _ _ _ _ _ _ _ _ _ _ _ _ _ _ _ _ _ _ _ _ _ _ _ _ _ _ _ _ _ _ _ _ _ _ _ _ _ _ _ _ _ _ _ _ _ _ _ _ _ _ _ _ _ _ _ _ _ _ _ _ _ _ _ _ _ _ _ _ _ _ _ _ _ _ _ _ _ _ _ _ _ _ _ _ _ _ _ _ _ _ _ _ _ _ _ _ _ _ _ _ _ _ _ _ _ _ _ _ _ _ _ _ _ _ _ _ _ _ _ _ _ _ _ _ _ _ _ _ _ _ _ _ _ _ _ _ _ _ _ _ _ _ _ _ _ _ _ _ _ _ _ _ _ _ _ _ _ _ _ _ _ _ _ _ _ _ _ _ _ _ _ _ _ _ _ _ _ _ _ _ _ _ _ _ _ _ _ _ _ _ _ _ _ _ _ _ _ _ _ _ _ _ _ _ _ _ _ _ _ _ _ _ _ _ _ _ _ _ _ _ _ _ _ _ _ _ _ _ _ ⟨M, fr, A, c, F, (by first | exact HUB.out.1 | exact Nat.le_of_succ_le HUB.out.1), HA.out⟩
  have hdf : M.down = false := by simpa using hdn
  rw [hdf] at q6
  have HSY := Lib.hid (L.sync h.at_)
  have HH := Lib.hid h
  have HAY := Lib.hid ha
  have HD := Lib.hid hdf
  clear h ha hdn hdf
  go_wp2_with fail
  refine HSY.out.mono ?_
  rintro e w1 ⟨g1, M1, F1, rfl, hs, hat, hm⟩
  obtain ⟨hmo, hfar, hbel⟩ := HH.out.call hm
  have hay := HAY.out.moved hm
  have HNE := Lib.hid (hay.ne hmo)
  have HAY1 := Lib.hid hay
  obtain ⟨qa, _, _, _, _⟩ := hay.cells
  have HMO := Lib.hid hmo
  have HFA := Lib.hid hfar
  have HBE := Lib.hid hbel
  have HAT := Lib.hid hat
  have q1 : w1.cell? ⟨g, 1, none⟩ = some (.slice A M.recs.length c) := hmo.blk.cell 1
  have z2 := hmo.blk.frozen 2
  have z6 := hmo.blk.frozen 6
  have k2 : w1.cell? ⟨g, 2, none⟩ = some (.int .i64 M.sure) := hmo.blk.cell 2
  have k6 : w1.cell? ⟨g, 6, none⟩ = some (.bool M.down) := hmo.blk.cell 6
  clear hmo hfar hbel hat hm hay
  rcases hs with ⟨h1, _⟩ | ⟨_, rfl, rfl⟩ | ⟨_, _, rfl, rfl⟩
  · rw [HD.out] at h1; cases h1
  · have HB := Lib.hid (both_set HAT.out HMO.out HFA.out HBE.out (HMO.out.blk.set_ 2 (.int .i64 M.recs.length)) (A' := A) (c' := c) (by unfold moCells; rfl) (grew1 _ _ _ _) HMO.out.list (fun j hj => hj))
    have HLI := Lib.hid (fun W (hb : Below (w1.setCell ⟨g, 2, none⟩ (.int .i64 M.recs.length)).heap.size (w1.setCell ⟨g, 2, none⟩ (.int .i64 M.recs.length)) W) => L.limit (HB.out.next hb).at_ 0 (by omega))
    go_wp2_with fail
    refine (HLI.out _ (by first | exact Below.refl _ _ | exact (Below.refl _ _).drew)).mono ?_
    rintro e w2 ⟨F2, rfl, hat2, hm2⟩
    have HOP := Lib.hid (reopen_again ((HB.out.next (by first | exact Below.refl _ _ | exact (Below.refl _ _).drew)).moved hat2 hm2) (((HAY1.out.stored (grew1 _ _ _ _) HNE.out).below (by first | exact Below.refl _ _ | exact (Below.refl _ _).drew)).moved hm2) HD.out rfl HUB.out)
    clear hat2 hm2
    go_wp2_with fail
    refine HOP.out.mono ?_
    rintro e w3 ⟨lv', rfl, qa, hag⟩
    have HAG := Lib.hid (hag true)
    clear hag
    go_wp2_with fail
    refine (HAG.out _ (Below.refl _ _)).mono ?_
    rintro e w4 ⟨rfl, hcut⟩
    have HCU := Lib.hid hcut
    clear hcut
    go_wp2
    exact hN _ _ _ _ _ _ _ _ _ _ _ _ _ _ _ _ _ _ _ _ _ _ _ _ _ _ _ _ _ _ _ _ _ _ _ _ _ _ _ _ _ _ _ _ _ _ _ _ _ _ _ _ _ _ _ _ _ _ _ _ _ _ _ _ _ _ _ _ _ _ _ _ _ _ _ _ _ _ _ _ _ _ _ _ _ _ _ _ _ _ _ _ _ _ _ _ _ _ _ _ _ _ _ _ _ _ _ _ _ _ _ _ _ _ _ _ _ _ _ _ _ _ _ _ _ _ _ _ _ _ _ _ _ _ _ _ _ _ _ _ _ _ _ _ _ _ _ _ _ _ _ _ _ _ _ _ _ _ _ _ _ _ _ _ _ _ _ _ _ _ _ _ _ _ _ _ _ _ _ _ _ _ _ _ _ _ _ _ _ _ _ _ _ _ _ _ _ _ _ _ _ _ _ _ _ _ _ _ _ _ _ _ _ _ _ _ _ _ _ _ _ _ _ _ _ _ _ _ _ _ _ _ _ _ _ _ _ _ _ _ _ _ _ _ _ _ _ _ _ _ _ _ _ _ _ _ _ _ _ _ _ _ _ _ _ _ _ _ HCU.out
  · have hall := both_set HAT.out HMO.out HFA.out HBE.out (HMO.out.blk.set_ 6 (.bool true)) (A' := A) (c' := c) (by unfold moCells; rfl) (grew1 _ _ _ _) HMO.out.list (fun j hj => hj)
    have HA := Lib.hid hall
    clear hall
    go_wp2
    exact hE _ _ _ _ _ _ _ _ _ _ _ _ _ _ _ _ _ _ _ _ _ _ _ _ _ _ _ _ _ _ _ _ _ _ _ _ _ _ _ _ _ _ _ _ _ _ _ _ _ _ _ _ _ _ _ _ _ _ _ _ _ _ _ _ _ _ _ _ _ _ _ _ _ _ _ _ _ _ _ _ _ _ _ _ _ _ _ _ _ _ _ _ _ _ _ _ _ _ _ _ _ _ _ _ _ _ _ _ _ _ _ _ _ _ _ _ _ _ _ _ _ _ _ _ _ _ _ _ _ _ _ _ _ _ _ _ _ _ _ _ _ _ _ _ _ _ _ _ _ _ _ _ _ _ _ _ _ _ _ _ _ _ _ _ _ _ _ _ _ _ _ _ _ _ _ _ _ _ _ _ _ _ _ _ _ _ _ _ _ _ _ _ _ _ _ _ _ _ _ _ _ _ _ _ _ _ _ _ _ _ _ _ _ _ _ _ _ _ _ _ _ _ _ _ _ _ _ _ _ _ _ _ _ _ _ _ _ _ _ _ _ _ _ _ _ _ _ _ _ _ _ _ _ _ _ _ _ _ _ _ _ _ _ _ _ _ _ _ ⟨_, fr, A, c, F1, (by first | exact HUB.out.1 | exact Nat.le_of_succ_le HUB.out.1), HA.out⟩

end Go.Proofs.YtgfoekbdmgljbaaDoor

namespace Go.Proofs.YtgfoekbdmgljbaaDoor
open Go.RowKit

set_option maxRecDepth 100000 in
theorem ysw_any (L : LogSpec) {w0 V : World} {lv : Value} {D g u ab : Nat} {M : Lg} {fr : Bool} {A Ak : Option Addr} {c ck : Nat} {F : Nat → Prop} {p : Ay} {Q : Exit → Act → World → Prop} (c0 c1 c2 c3 c4 c5 c7 c9 c11 c13 c14 c15 c16 c17 c18 c19 c20 c21 c22 c23 c24 c25 c26 c27 c28 c29 c30 c31 c32 c33 c34 c35 c36 c37 c38 c39 c40 c41 c42 c43 c44 c45 c46 c47 c48 c49 c50 c51 c52 c53 c54 c55 c56 c57 c58 c59 c60 c61 c62 c63 c64 c65 c66 c68 c69 c70 c71 c72 c73 c74 c75 c76 c77 c78 c79 c80 c81 c82 c83 c84 c85 c86 c87 c88 c89 c90 c91 c92 c93 c94 c95 c96 c97 c98 c99 c100 c101 c102 c103 c104 c105 c106 c107 c108 c109 c110 c111 c112 c113 c114 c115 c116 c117 c118 c119 c120 c121 c122 c123 c124 c125 c126 c127 c128 c129 c130 c131 c132 c133 c134 c135 c136 c137 c138 c139 c140 c141 c142 c143 c144 c145 c146 c147 c148 c149 c150 c151 c152 c153 c154 c155 c156 c157 c158 c159 c160 c161 c162 c163 c164 c165 c166 c167 c168 c169 c170 c171 c172 c173 c174 c175 c176 c177 c178 c179 c180 c181 c182 c183 c184 c185 c186 c187 c188 c189 c190 c191 c192 c193 c194 c195 c196 c197 c198 c199 c200 c201 c202 c203 c204 c205 c206 c207 c208 c209 c210 c211 c212 c213 c214 c215 c216 c217 c218 c219 c220 c221 c222 c223 c224 c225 c226 c227 c228 c229 c230 c231 c232 c233 c234 c235 c236 c237 c238 c239 c240 c241 c242 c243 c244 c245 c246 c247 c248 c249 c250 c251 c252 c253 c254 c255 c256 c257 c258 c259 c260 c261 c262 c263 c264 c265 c266 c267 c268 c269 c270 c271 c272 c273 c274 c275 c276 c277 c278 c279 c280 c281 c282 c283 c284 c285 c286 c287 c288 c289 c290 c291 c292 c293 c294 c295 c296 c297 c298 c299 c300 c301 c302 c303 c304 c305 c306 c307 c308 c309 c310 c311 c312 c313 c314 c315 c316 c317 c318 c319 c320 c321 c322 c323 c324 c325 c326 c327 c328 c329 c330 c331 c332 c333 c334 c335 c336 c337 : Value)
    (h : BothAt L w0 V lv D g M fr A c F) (hu : M.used + 1 ≤ u ∧ u ≤ 1000) (ha : AyAt V ab p Ak ck F) (hr : Row w0 w0.heap.size Ak (p.data.map bc)) (hd : p.data.length ≤ 3000) (hm : p.mask < 18446744073709551616 ∧ p.torn < 18446744073709551616)
    (hN : YOut L w0 D g u ab p Q .normal c0 c1 c2 c3 c4 c5 c7 c9 c11 c20 c21 c22 c23 c24 c25 c26 c27 c28 c29 c30 c31 c32 c33 c34 c35 c36 c37 c38 c39 c40 c41 c42 c43 c44 c45 c46 c47 c48 c49 c50 c51 c52 c53 c54 c55 c56 c57 c58 c59 c60 c61 c62 c63 c64 c65 c66 c327 c328 c329 c330 c331 c332 c333 c334 c335 c336 c337) (hE : YOut L w0 D g u ab p Q (.exit 1) c0 c1 c2 c3 c4 c5 c7 c9 c11 c20 c21 c22 c23 c24 c25 c26 c27 c28 c29 c30 c31 c32 c33 c34 c35 c36 c37 c38 c39 c40 c41 c42 c43 c44 c45 c46 c47 c48 c49 c50 c51 c52 c53 c54 c55 c56 c57 c58 c59 c60 c61 c62 c63 c64 c65 c66 c327 c328 c329 c330 c331 c332 c333 c334 c335 c336 c337)
     : Code.wp Tryd.prog yswitch Q ⟨#[c0, c1, c2, c3, c4, c5, .pointer (some ⟨D, 0, none⟩), c7, lv, c9, .pointer (some ⟨g, 0, none⟩), c11, .pointer (some ⟨ab, 0, none⟩), c13, c14, c15, c16, c17, c18, c19, c20, c21, c22, c23, c24, c25, c26, c27, c28, c29, c30, c31, c32, c33, c34, c35, c36, c37, c38, c39, c40, c41, c42, c43, c44, c45, c46, c47, c48, c49, c50, c51, c52, c53, c54, c55, c56, c57, c58, c59, c60, c61, c62, c63, c64, c65, c66, .int .i64 p.what, c68, c69, c70, c71, c72, c73, c74, c75, c76, c77, c78, c79, c80, c81, c82, c83, c84, c85, c86, c87, c88, c89, c90, c91, c92, c93, c94, c95, c96, c97, c98, c99, c100, c101, c102, c103, c104, c105, c106, c107, c108, c109, c110, c111, c112, c113, c114, c115, c116, c117, c118, c119, c120, c121, c122, c123, c124, c125, c126, c127, c128, c129, c130, c131, c132, c133, c134, c135, c136, c137, c138, c139, c140, c141, c142, c143, c144, c145, c146, c147, c148, c149, c150, c151, c152, c153, c154, c155, c156, c157, c158, c159, c160, c161, c162, c163, c164, c165, c166, c167, c168, c169, c170, c171, c172, c173, c174, c175, c176, c177, c178, c179, c180, c181, c182, c183, c184, c185, c186, c187, c188, c189, c190, c191, c192, c193, c194, c195, c196, c197, c198, c199, c200, c201, c202, c203, c204, c205, c206, c207, c208, c209, c210, c211, c212, c213, c214, c215, c216, c217, c218, c219, c220, c221, c222, c223, c224, c225, c226, c227, c228, c229, c230, c231, c232, c233, c234, c235, c236, c237, c238, c239, c240, c241, c242, c243, c244, c245, c246, c247, c248, c249, c250, c251, c252, c253, c254, c255, c256, c257, c258, c259, c260, c261, c262, c263, c264, c265, c266, c267, c268, c269, c270, c271, c272, c273, c274, c275, c276, c277, c278, c279, c280, c281, c282, c283, c284, c285, c286, c287, c288, c289, c290, c291, c292, c293, c294, c295, c296, c297, c298, c299, c300, c301, c302, c303, c304, c305, c306, c307, c308, c309, c310, c311, c312, c313, c314, c315, c316, c317, c318, c319, c320, c321, c322, c323, c324, c325, c326, c327, c328, c329, c330, c331, c332, c333, c334, c335, c336, c337], []⟩ V := by
  by_cases h1 : p.what = 1
  · have e1 : (p.what == 1) = true := by rw [h1]; rfl
    have e2 : (p.what == 2) = false := by rw [h1]; rfl
    have e3 : (p.what == 3) = false := by rw [h1]; rfl
    have e4 : (p.what == 4) = false := by rw [h1]; rfl
    have e5 : (p.what == 5) = false := by rw [h1]; rfl
    have e6 : (p.what == 6) = false := by rw [h1]; rfl
    exact ysw_1 L _ _ _ _ _ _ _ _ _ _ _ _ _ _ _ _ _ _ _ _ _ _ _ _ _ _ _ _ _ _ _ _ _ _ _ _ _ _ _ _ _ _ _ _ _ _ _ _ _ _ _ _ _ _ _ _ _ _ _ _ _ _ _ _ _ _ _ _ _ _ _ _ _ _ _ _ _ _ _ _ _ _ _ _ _ _ _ _ _ _ _ _ _ _ _ _ _ _ _ _ _ _ _ _ _ _ _ _ _ _ _ _ _ _ _ _ _ _ _ _ _ _ _ _ _ _ _ _ _ _ _ _ _ _ _ _ _ _ _ _ _ _ _ _ _ _ _ _ _ _ _ _ _ _ _ _ _ _ _ _ _ _ _ _ _ _ _ _ _ _ _ _ _ _ _ _ _ _ _ _ _ _ _ _ _ _ _ _ _ _ _ _ _ _ _ _ _ _ _ _ _ _ _ _ _ _ _ _ _ _ _ _ _ _ _ _ _ _ _ _ _ _ _ _ _ _ _ _ _ _ _ _ _ _ _ _ _ _ _ _ _ _ _ _ _ _ _ _ _ _ _ _ _ _ _ _ _ _ _ _ _ _ _ _ _ _ _ _ _ _ _ _ _ _ _ _ _ _ _ _ _ _ _ _ _ _ _ _ _ _ _ _ _ _ _ _ _ _ _ _ _ _ _ _ _ _ _ _ _ _ _ _ _ _ _ _ _ _ _ _ _ _ _ _ _ _ _ _ _ _ _ _ _ h hu ha hr hd hm hN hE e1
  by_cases h2 : p.what = 2
  · have e2 : (p.what == 2) = true := by rw [h2]; rfl
    have e1 : (p.what == 1) = false := by rw [h2]; rfl
    have e3 : (p.what == 3) = false := by rw [h2]; rfl
    have e4 : (p.what == 4) = false := by rw [h2]; rfl
    have e5 : (p.what == 5) = false := by rw [h2]; rfl
    have e6 : (p.what == 6) = false := by rw [h2]; rfl
    exact ysw_2 L _ _ _ _ _ _ _ _ _ _ _ _ _ _ _ _ _ _ _ _ _ _ _ _ _ _ _ _ _ _ _ _ _ _ _ _ _ _ _ _ _ _ _ _ _ _ _ _ _ _ _ _ _ _ _ _ _ _ _ _ _ _ _ _ _ _ _ _ _ _ _ _ _ _ _ _ _ _ _ _ _ _ _ _ _ _ _ _ _ _ _ _ _ _ _ _ _ _ _ _ _ _ _ _ _ _ _ _ _ _ _ _ _ _ _ _ _ _ _ _ _ _ _ _ _ _ _ _ _ _ _ _ _ _ _ _ _ _ _ _ _ _ _ _ _ _ _ _ _ _ _ _ _ _ _ _ _ _ _ _ _ _ _ _ _ _ _ _ _ _ _ _ _ _ _ _ _ _ _ _ _ _ _ _ _ _ _ _ _ _ _ _ _ _ _ _ _ _ _ _ _ _ _ _ _ _ _ _ _ _ _ _ _ _ _ _ _ _ _ _ _ _ _ _ _ _ _ _ _ _ _ _ _ _ _ _ _ _ _ _ _ _ _ _ _ _ _ _ _ _ _ _ _ _ _ _ _ _ _ _ _ _ _ _ _ _ _ _ _ _ _ _ _ _ _ _ _ _ _ _ _ _ _ _ _ _ _ _ _ _ _ _ _ _ _ _ _ _ _ _ _ _ _ _ _ _ _ _ _ _ _ _ _ _ _ _ _ _ _ _ _ _ _ _ _ _ _ _ _ _ _ _ _ h hu ha hr hd hm hN hE e1 e2
  by_cases h3 : p.what = 3
  · have e3 : (p.what == 3) = true := by rw [h3]; rfl
    have e1 : (p.what == 1) = false := by rw [h3]; rfl
    have e2 : (p.what == 2) = false := by rw [h3]; rfl
    have e4 : (p.what == 4) = false := by rw [h3]; rfl
    have e5 : (p.what == 5) = false := by rw [h3]; rfl
    have e6 : (p.what == 6) = false := by rw [h3]; rfl
    exact ysw_3 L _ _ _ _ _ _ _ _ _ _ _ _ _ _ _ _ _ _ _ _ _ _ _ _ _ _ _ _ _ _ _ _ _ _ _ _ _ _ _ _ _ _ _ _ _ _ _ _ _ _ _ _ _ _ _ _ _ _ _ _ _ _ _ _ _ _ _ _ _ _ _ _ _ _ _ _ _ _ _ _ _ _ _ _ _ _ _ _ _ _ _ _ _ _ _ _ _ _ _ _ _ _ _ _ _ _ _ _ _ _ _ _ _ _ _ _ _ _ _ _ _ _ _ _ _ _ _ _ _ _ _ _ _ _ _ _ _ _ _ _ _ _ _ _ _ _ _ _ _ _ _ _ _ _ _ _ _ _ _ _ _ _ _ _ _ _ _ _ _ _ _ _ _ _ _ _ _ _ _ _ _ _ _ _ _ _ _ _ _ _ _ _ _ _ _ _ _ _ _ _ _ _ _ _ _ _ _ _ _ _ _ _ _ _ _ _ _ _ _ _ _ _ _ _ _ _ _ _ _ _ _ _ _ _ _ _ _ _ _ _ _ _ _ _ _ _ _ _ _ _ _ _ _ _ _ _ _ _ _ _ _ _ _ _ _ _ _ _ _ _ _ _ _ _ _ _ _ _ _ _ _ _ _ _ _ _ _ _ _ _ _ _ _ _ _ _ _ _ _ _ _ _ _ _ _ _ _ _ _ _ _ _ _ _ _ _ _ _ _ _ _ _ _ _ _ _ _ _ _ _ _ _ _ h hu ha hr hd hm hN hE e1 e2 e3
  by_cases h4 : p.what = 4
  · have e4 : (p.what == 4) = true := by rw [h4]; rfl
    have e1 : (p.what == 1) = false := by rw [h4]; rfl
    have e2 : (p.what == 2) = false := by rw [h4]; rfl
    have e3 : (p.what == 3) = false := by rw [h4]; rfl
    have e5 : (p.what == 5) = false := by rw [h4]; rfl
    have e6 : (p.what == 6) = false := by rw [h4]; rfl
    exact ysw_4 L _ _ _ _ _ _ _ _ _ _ _ _ _ _ _ _ _ _ _ _ _ _ _ _ _ _ _ _ _ _ _ _ _ _ _ _ _ _ _ _ _ _ _ _ _ _ _ _ _ _ _ _ _ _ _ _ _ _ _ _ _ _ _ _ _ _ _ _ _ _ _ _ _ _ _ _ _ _ _ _ _ _ _ _ _ _ _ _ _ _ _ _ _ _ _ _ _ _ _ _ _ _ _ _ _ _ _ _ _ _ _ _ _ _ _ _ _ _ _ _ _ _ _ _ _ _ _ _ _ _ _ _ _ _ _ _ _ _ _ _ _ _ _ _ _ _ _ _ _ _ _ _ _ _ _ _ _ _ _ _ _ _ _ _ _ _ _ _ _ _ _ _ _ _ _ _ _ _ _ _ _ _ _ _ _ _ _ _ _ _ _ _ _ _ _ _ _ _ _ _ _ _ _ _ _ _ _ _ _ _ _ _ _ _ _ _ _ _ _ _ _ _ _ _ _ _ _ _ _ _ _ _ _ _ _ _ _ _ _ _ _ _ _ _ _ _ _ _ _ _ _ _ _ _ _ _ _ _ _ _ _ _ _ _ _ _ _ _ _ _ _ _ _ _ _ _ _ _ _ _ _ _ _ _ _ _ _ _ _ _ _ _ _ _ _ _ _ _ _ _ _ _ _ _ _ _ _ _ _ _ _ _ _ _ _ _ _ _ _ _ _ _ _ _ _ _ _ _ _ _ _ _ _ h hu ha hr hd hm hN hE e1 e2 e3 e4
  by_cases h5 : p.what = 5
  · have e5 : (p.what == 5) = true := by rw [h5]; rfl
    have e1 : (p.what == 1) = false := by rw [h5]; rfl
    have e2 : (p.what == 2) = false := by rw [h5]; rfl
    have e3 : (p.what == 3) = false := by rw [h5]; rfl
    have e4 : (p.what == 4) = false := by rw [h5]; rfl
    have e6 : (p.what == 6) = false := by rw [h5]; rfl
    exact ysw_5 L _ _ _ _ _ _ _ _ _ _ _ _ _ _ _ _ _ _ _ _ _ _ _ _ _ _ _ _ _ _ _ _ _ _ _ _ _ _ _ _ _ _ _ _ _ _ _ _ _ _ _ _ _ _ _ _ _ _ _ _ _ _ _ _ _ _ _ _ _ _ _ _ _ _ _ _ _ _ _ _ _ _ _ _ _ _ _ _ _ _ _ _ _ _ _ _ _ _ _ _ _ _ _ _ _ _ _ _ _ _ _ _ _ _ _ _ _ _ _ _ _ _ _ _ _ _ _ _ _ _ _ _ _ _ _ _ _ _ _ _ _ _ _ _ _ _ _ _ _ _ _ _ _ _ _ _ _ _ _ _ _ _ _ _ _ _ _ _ _ _ _ _ _ _ _ _ _ _ _ _ _ _ _ _ _ _ _ _ _ _ _ _ _ _ _ _ _ _ _ _ _ _ _ _ _ _ _ _ _ _ _ _ _ _ _ _ _ _ _ _ _ _ _ _ _ _ _ _ _ _ _ _ _ _ _ _ _ _ _ _ _ _ _ _ _ _ _ _ _ _ _ _ _ _ _ _ _ _ _ _ _ _ _ _ _ _ _ _ _ _ _ _ _ _ _ _ _ _ _ _ _ _ _ _ _ _ _ _ _ _ _ _ _ _ _ _ _ _ _ _ _ _ _ _ _ _ _ _ _ _ _ _ _ _ _ _ _ _ _ _ _ _ _ _ _ _ _ _ _ _ _ _ _ h hu ha hr hd hm hN hE e1 e2 e3 e4 e5 e6
  by_cases h6 : p.what = 6
  · have e6 : (p.what == 6) = true := by rw [h6]; rfl
    have e1 : (p.what == 1) = false := by rw [h6]; rfl
    have e2 : (p.what == 2) = false := by rw [h6]; rfl
    have e3 : (p.what == 3) = false := by rw [h6]; rfl
    have e4 : (p.what == 4) = false := by rw [h6]; rfl
    have e5 : (p.what == 5) = false := by rw [h6]; rfl
    exact ysw_6 L _ _ _ _ _ _ _ _ _ _ _ _ _ _ _ _ _ _ _ _ _ _ _ _ _ _ _ _ _ _ _ _ _ _ _ _ _ _ _ _ _ _ _ _ _ _ _ _ _ _ _ _ _ _ _ _ _ _ _ _ _ _ _ _ _ _ _ _ _ _ _ _ _ _ _ _ _ _ _ _ _ _ _ _ _ _ _ _ _ _ _ _ _ _ _ _ _ _ _ _ _ _ _ _ _ _ _ _ _ _ _ _ _ _ _ _ _ _ _ _ _ _ _ _ _ _ _ _ _ _ _ _ _ _ _ _ _ _ _ _ _ _ _ _ _ _ _ _ _ _ _ _ _ _ _ _ _ _ _ _ _ _ _ _ _ _ _ _ _ _ _ _ _ _ _ _ _ _ _ _ _ _ _ _ _ _ _ _ _ _ _ _ _ _ _ _ _ _ _ _ _ _ _ _ _ _ _ _ _ _ _ _ _ _ _ _ _ _ _ _ _ _ _ _ _ _ _ _ _ _ _ _ _ _ _ _ _ _ _ _ _ _ _ _ _ _ _ _ _ _ _ _ _ _ _ _ _ _ _ _ _ _ _ _ _ _ _ _ _ _ _ _ _ _ _ _ _ _ _ _ _ _ _ _ _ _ _ _ _ _ _ _ _ _ _ _ _ _ _ _ _ _ _ _ _ _ _ _ _ _ _ _ _ _ _ _ _ _ _ _ _ _ _ _ _ _ _ _ _ _ _ _ _ h hu ha hr hd hm hN hE e1 e2 e3 e4 e5 e6
  have e1 : (p.what == 1) = false := beq_eq_false_iff_ne.2 h1
  have e2 : (p.what == 2) = false := beq_eq_false_iff_ne.2 h2
  have e3 : (p.what == 3) = false := beq_eq_false_iff_ne.2 h3
  have e4 : (p.what == 4) = false := beq_eq_false_iff_ne.2 h4
  have e5 : (p.what == 5) = false := beq_eq_false_iff_ne.2 h5
  have e6 : (p.what == 6) = false := beq_eq_false_iff_ne.2 h6
  exact ysw_other L _ _ _ _ _ _ _ _ _ _ _ _ _ _ _ _ _ _ _ _ _ _ _ _ _ _ _ _ _ _ _ _ _ _ _ _ _ _ _ _ _ _ _ _ _ _ _ _ _ _ _ _ _ _ _ _ _ _ _ _ _ _ _ _ _ _ _ _ _ _ _ _ _ _ _ _ _ _ _ _ _ _ _ _ _ _ _ _ _ _ _ _ _ _ _ _ _ _ _ _ _ _ _ _ _ _ _ _ _ _ _ _ _ _ _ _ _ _ _ _ _ _ _ _ _ _ _ _ _ _ _ _ _ _ _ _ _ _ _ _ _ _ _ _ _ _ _ _ _ _ _ _ _ _ _ _ _ _ _ _ _ _ _ _ _ _ _ _ _ _ _ _ _ _ _ _ _ _ _ _ _ _ _ _ _ _ _ _ _ _ _ _ _ _ _ _ _ _ _ _ _ _ _ _ _ _ _ _ _ _ _ _ _ _ _ _ _ _ _ _ _ _ _ _ _ _ _ _ _ _ _ _ _ _ _ _ _ _ _ _ _ _ _ _ _ _ _ _ _ _ _ _ _ _ _ _ _ _ _ _ _ _ _ _ _ _ _ _ _ _ _ _ _ _ _ _ _ _ _ _ _ _ _ _ _ _ _ _ _ _ _ _ _ _ _ _ _ _ _ _ _ _ _ _ _ _ _ _ _ _ _ _ _ _ _ _ _ _ _ _ _ _ _ _ _ _ _ _ _ _ _ _ _ h hu ha hr hd hm hN hE e1 e2 e3 e4 e5 e6

end Go.Proofs.YtgfoekbdmgljbaaDoor

namespace Go.Proofs.YtgfoekbdmgljbaaDoor
open Go.RowKit

noncomputable def yround : Code := ((Tryd.f3.body.bind (blockOf 1)).getD .skip)
/-- Whatever the slots hold that a round writes. -/
def YEnd (L : LogSpec) (w0 : World) (D g nn k : Nat) (Aa : Option Addr) (ca : Nat) (Q : Exit → Act → World → Prop) (c0 c2 c3 c4 c5 c7 c9 c20 c21 c22 c23 c24 c25 c26 c27 c28 c29 c30 c31 c32 c33 c34 c35 c36 c37 c38 c39 c40 c41 c42 c43 c44 c45 c46 c47 c48 c49 c50 c51 c52 c53 c54 c55 : Value) : Prop :=
  ∀ (lv' v12 v13 v14 v15 v16 v17 v18 v19 v56 v57 v58 v59 v60 v61 v62 v63 v64 v65 v66 v67 v68 v69 v70 v71 v72 v73 v74 v75 v76 v77 v78 v79 v80 v81 v82 v83 v84 v85 v86 v87 v88 v89 v90 v91 v92 v93 v94 v95 v96 v97 v98 v99 v100 v101 v102 v103 v104 v105 v106 v107 v108 v109 v110 v111 v112 v113 v114 v115 v116 v117 v118 v119 v120 v121 v122 v123 v124 v125 v126 v127 v128 v129 v130 v131 v132 v133 v134 v135 v136 v137 v138 v139 v140 v141 v142 v143 v144 v145 v146 v147 v148 v149 v150 v151 v152 v153 v154 v155 v156 v157 v158 v159 v160 v161 v162 v163 v164 v165 v166 v167 v168 v169 v170 v171 v172 v173 v174 v175 v176 v177 v178 v179 v180 v181 v182 v183 v184 v185 v186 v187 v188 v189 v190 v191 v192 v193 v194 v195 v196 v197 v198 v199 v200 v201 v202 v203 v204 v205 v206 v207 v208 v209 v210 v211 v212 v213 v214 v215 v216 v217 v218 v219 v220 v221 v222 v223 v224 v225 v226 v227 v228 v229 v230 v231 v232 v233 v234 v235 v236 v237 v238 v239 v240 v241 v242 v243 v244 v245 v246 v247 v248 v249 v250 v251 v252 v253 v254 v255 v256 v257 v258 v259 v260 v261 v262 v263 v264 v265 v266 v267 v268 v269 v270 v271 v272 v273 v274 v275 v276 v277 v278 v279 v280 v281 v282 v283 v284 v285 v286 v287 v288 v289 v290 v291 v292 v293 v294 v295 v296 v297 v298 v299 v300 v301 v302 v303 v304 v305 v306 v307 v308 v309 v310 v311 v312 v313 v314 v315 v316 v317 v318 v319 v320 v321 v322 v323 v324 v325 v326 v327 v328 v329 v330 v331 v332 v333 v334 v335 v336 v337 : Value) (wx : World), YCut L w0 D g (k + 1) lv' wx → Q .normal ⟨#[c0, .slice Aa nn ca, c2, c3, c4, c5, .pointer (some ⟨D, 0, none⟩), c7, lv', c9, .pointer (some ⟨g, 0, none⟩), .int .i64 k, v12, v13, v14, v15, v16, v17, v18, v19, c20, c21, c22, c23, c24, c25, c26, c27, c28, c29, c30, c31, c32, c33, c34, c35, c36, c37, c38, c39, c40, c41, c42, c43, c44, c45, c46, c47, c48, c49, c50, c51, c52, c53, c54, c55, v56, v57, v58, v59, v60, v61, v62, v63, v64, v65, v66, v67, v68, v69, v70, v71, v72, v73, v74, v75, v76, v77, v78, v79, v80, v81, v82, v83, v84, v85, v86, v87, v88, v89, v90, v91, v92, v93, v94, v95, v96, v97, v98, v99, v100, v101, v102, v103, v104, v105, v106, v107, v108, v109, v110, v111, v112, v113, v114, v115, v116, v117, v118, v119, v120, v121, v122, v123, v124, v125, v126, v127, v128, v129, v130, v131, v132, v133, v134, v135, v136, v137, v138, v139, v140, v141, v142, v143, v144, v145, v146, v147, v148, v149, v150, v151, v152, v153, v154, v155, v156, v157, v158, v159, v160, v161, v162, v163, v164, v165, v166, v167, v168, v169, v170, v171, v172, v173, v174, v175, v176, v177, v178, v179, v180, v181, v182, v183, v184, v185, v186, v187, v188, v189, v190, v191, v192, v193, v194, v195, v196, v197, v198, v199, v200, v201, v202, v203, v204, v205, v206, v207, v208, v209, v210, v211, v212, v213, v214, v215, v216, v217, v218, v219, v220, v221, v222, v223, v224, v225, v226, v227, v228, v229, v230, v231, v232, v233, v234, v235, v236, v237, v238, v239, v240, v241, v242, v243, v244, v245, v246, v247, v248, v249, v250, v251, v252, v253, v254, v255, v256, v257, v258, v259, v260, v261, v262, v263, v264, v265, v266, v267, v268, v269, v270, v271, v272, v273, v274, v275, v276, v277, v278, v279, v280, v281, v282, v283, v284, v285, v286, v287, v288, v289, v290, v291, v292, v293, v294, v295, v296, v297, v298, v299, v300, v301, v302, v303, v304, v305, v306, v307, v308, v309, v310, v311, v312, v313, v314, v315, v316, v317, v318, v319, v320, v321, v322, v323, v324, v325, v326, v327, v328, v329, v330, v331, v332, v333, v334, v335, v336, v337], []⟩ wx
set_option maxHeartbeats 4000000 in
set_option maxRecDepth 100000 in
theorem yturn_any (L : LogSpec) {w0 wr : World} {lv : Value} {D g nn k : Nat} {M : Lg} {fr : Bool} {A Aa : Option Addr} {c ca : Nat} {F : Nat → Prop} {acts : List Ay} {Q : Exit → Act → World → Prop} (c0 c2 c3 c4 c5 c7 c9 c12 c13 c14 c15 c16 c17 c18 c19 c20 c21 c22 c23 c24 c25 c26 c27 c28 c29 c30 c31 c32 c33 c34 c35 c36 c37 c38 c39 c40 c41 c42 c43 c44 c45 c46 c47 c48 c49 c50 c51 c52 c53 c54 c55 c56 c57 c58 c59 c60 c61 c62 c63 c64 c65 c66 c67 c68 c69 c70 c71 c72 c73 c74 c75 c76 c77 c78 c79 c80 c81 c82 c83 c84 c85 c86 c87 c88 c89 c90 c91 c92 c93 c94 c95 c96 c97 c98 c99 c100 c101 c102 c103 c104 c105 c106 c107 c108 c109 c110 c111 c112 c113 c114 c115 c116 c117 c118 c119 c120 c121 c122 c123 c124 c125 c126 c127 c128 c129 c130 c131 c132 c133 c134 c135 c136 c137 c138 c139 c140 c141 c142 c143 c144 c145 c146 c147 c148 c149 c150 c151 c152 c153 c154 c155 c156 c157 c158 c159 c160 c161 c162 c163 c164 c165 c166 c167 c168 c169 c170 c171 c172 c173 c174 c175 c176 c177 c178 c179 c180 c181 c182 c183 c184 c185 c186 c187 c188 c189 c190 c191 c192 c193 c194 c195 c196 c197 c198 c199 c200 c201 c202 c203 c204 c205 c206 c207 c208 c209 c210 c211 c212 c213 c214 c215 c216 c217 c218 c219 c220 c221 c222 c223 c224 c225 c226 c227 c228 c229 c230 c231 c232 c233 c234 c235 c236 c237 c238 c239 c240 c241 c242 c243 c244 c245 c246 c247 c248 c249 c250 c251 c252 c253 c254 c255 c256 c257 c258 c259 c260 c261 c262 c263 c264 c265 c266 c267 c268 c269 c270 c271 c272 c273 c274 c275 c276 c277 c278 c279 c280 c281 c282 c283 c284 c285 c286 c287 c288 c289 c290 c291 c292 c293 c294 c295 c296 c297 c298 c299 c300 c301 c302 c303 c304 c305 c306 c307 c308 c309 c310 c311 c312 c313 c314 c315 c316 c317 c318 c319 c320 c321 c322 c323 c324 c325 c326 c327 c328 c329 c330 c331 c332 c333 c334 c335 c336 c337 : Value)
    (h : BothAt L w0 wr lv D g M fr A c F) (ha : AysIn w0 w0.heap.size Aa acts) (hl : acts.length = nn) (_ : nn ≤ maxLen) (hk : k < nn) (h60 : k < 60)
    (hmu : M.used ≤ k) (hQ : YEnd L w0 D g nn k Aa ca Q c0 c2 c3 c4 c5 c7 c9 c20 c21 c22 c23 c24 c25 c26 c27 c28 c29 c30 c31 c32 c33 c34 c35 c36 c37 c38 c39 c40 c41 c42 c43 c44 c45 c46 c47 c48 c49 c50 c51 c52 c53 c54 c55) : Code.wp Tryd.prog yround Q ⟨#[c0, .slice Aa nn ca, c2, c3, c4, c5, .pointer (some ⟨D, 0, none⟩), c7, lv, c9, .pointer (some ⟨g, 0, none⟩), .int .i64 k, c12, c13, c14, c15, c16, c17, c18, c19, c20, c21, c22, c23, c24, c25, c26, c27, c28, c29, c30, c31, c32, c33, c34, c35, c36, c37, c38, c39, c40, c41, c42, c43, c44, c45, c46, c47, c48, c49, c50, c51, c52, c53, c54, c55, c56, c57, c58, c59, c60, c61, c62, c63, c64, c65, c66, c67, c68, c69, c70, c71, c72, c73, c74, c75, c76, c77, c78, c79, c80, c81, c82, c83, c84, c85, c86, c87, c88, c89, c90, c91, c92, c93, c94, c95, c96, c97, c98, c99, c100, c101, c102, c103, c104, c105, c106, c107, c108, c109, c110, c111, c112, c113, c114, c115, c116, c117, c118, c119, c120, c121, c122, c123, c124, c125, c126, c127, c128, c129, c130, c131, c132, c133, c134, c135, c136, c137, c138, c139, c140, c141, c142, c143, c144, c145, c146, c147, c148, c149, c150, c151, c152, c153, c154, c155, c156, c157, c158, c159, c160, c161, c162, c163, c164, c165, c166, c167, c168, c169, c170, c171, c172, c173, c174, c175, c176, c177, c178, c179, c180, c181, c182, c183, c184, c185, c186, c187, c188, c189, c190, c191, c192, c193, c194, c195, c196, c197, c198, c199, c200, c201, c202, c203, c204, c205, c206, c207, c208, c209, c210, c211, c212, c213, c214, c215, c216, c217, c218, c219, c220, c221, c222, c223, c224, c225, c226, c227, c228, c229, c230, c231, c232, c233, c234, c235, c236, c237, c238, c239, c240, c241, c242, c243, c244, c245, c246, c247, c248, c249, c250, c251, c252, c253, c254, c255, c256, c257, c258, c259, c260, c261, c262, c263, c264, c265, c266, c267, c268, c269, c270, c271, c272, c273, c274, c275, c276, c277, c278, c279, c280, c281, c282, c283, c284, c285, c286, c287, c288, c289, c290, c291, c292, c293, c294, c295, c296, c297, c298, c299, c300, c301, c302, c303, c304, c305, c306, c307, c308, c309, c310, c311, c312, c313, c314, c315, c316, c317, c318, c319, c320, c321, c322, c323, c324, c325, c326, c327, c328, c329, c330, c331, c332, c333, c334, c335, c336, c337], []⟩ wr := by
  conv => arg 2; whnf
  have HH := Lib.hid h
  have HMU := Lib.hid hmu
  have HK6 := Lib.hid h60
  clear hmu h60
  have hki : (k : Int) < (nn : Int) := by omega
  obtain ⟨b, off, cs, rfl, hb, hc, hof⟩ := ha k (by rw [hl]; exact hk)
  obtain ⟨p, hp⟩ : ∃ p, p = acts[k]'(by rw [hl]; exact hk) := ⟨_, rfl⟩
  rw [← hp] at hof
  obtain ⟨Ak, ck, rfl, hrow, hml, hmk, htn⟩ := hof
  have hrange : wr.rangeAt b (off + k * 5) [.int .i64 p.what, .int .i64 p.n, .slice Ak p.data.length ck, .int .u64 (p.mask : Int), .int .u64 (p.torn : Int)] := fun j v hv => by
    rw [Nat.add_assoc, h.below.cell (p := ⟨b, off + (k * 5 + j), none⟩) hb]
    exact hc j v hv
  have HROW := Lib.hid hrow
  have HMT := Lib.hid (And.intro hmk htn)
  clear hp hrow hmk htn hc h
  by_cases h3 : 3000 < p.data.length
  · have d3 : decide ((3000 : Int) < (p.data.length : Int)) = true := by simp; omega
    have d3n : decide (3000 < p.data.length) = true := by simp; omega
    clear h3
    go_wp2_with (
      refine wpList_load_mid rfl 38 (.tmp 60) rfl b (off + k * 5) rfl [.int .i64 p.what, .int .i64 p.n, .slice Ak p.data.length ck, .int .u64 (p.mask : Int), .int .u64 (p.torn : Int)] _ hrange Tryd.underlying38 rfl ay_size ?_)
    exact hQ _ _ _ _ _ _ _ _ _ _ _ _ _ _ _ _ _ _ _ _ _ _ _ _ _ _ _ _ _ _ _ _ _ _ _ _ _ _ _ _ _ _ _ _ _ _ _ _ _ _ _ _ _ _ _ _ _ _ _ _ _ _ _ _ _ _ _ _ _ _ _ _ _ _ _ _ _ _ _ _ _ _ _ _ _ _ _ _ _ _ _ _ _ _ _ _ _ _ _ _ _ _ _ _ _ _ _ _ _ _ _ _ _ _ _ _ _ _ _ _ _ _ _ _ _ _ _ _ _ _ _ _ _ _ _ _ _ _ _ _ _ _ _ _ _ _ _ _ _ _ _ _ _ _ _ _ _ _ _ _ _ _ _ _ _ _ _ _ _ _ _ _ _ _ _ _ _ _ _ _ _ _ _ _ _ _ _ _ _ _ _ _ _ _ _ _ _ _ _ _ _ _ _ _ _ _ _ _ _ _ _ _ _ _ _ _ _ _ _ _ _ _ _ _ _ _ _ _ _ _ _ _ _ _ _ _ _ _ _ _ _ _ _ _ _ _ _ _ _ _ _ _ _ _ _ _ _ _ _ _ _ _ _ _ _ _ _ _ _ _ _ _ _ _ _ _ _ _ _ _ _ _ _ _ _ _ _ _ _ _ _ _ ⟨M, fr, A, c, F, (by have := HMU.out; omega), HH.out.next ((Below.refl _ _).alloc (Nat.le_refl _) _)⟩
  · have d3 : decide ((3000 : Int) < (p.data.length : Int)) = false := by simp; omega
    have d3n : decide (3000 < p.data.length) = false := by simp; omega
    have hd3 : p.data.length ≤ 3000 := by omega
    clear h3
    go_upto_block 2 with (
      refine wpList_load_mid rfl 38 (.tmp 60) rfl b (off + k * 5) rfl [.int .i64 p.what, .int .i64 p.n, .slice Ak p.data.length ck, .int .u64 (p.mask : Int), .int .u64 (p.torn : Int)] _ hrange Tryd.underlying38 rfl ay_size ?_)
    generalize hV : wr.alloc (Obj.cells #[.int .i64 p.what, .int .i64 p.n, .slice Ak p.data.length ck, .int .u64 (p.mask : Int), .int .u64 (p.torn : Int)] 38) = V
    have HHV := Lib.hid (show BothAt L w0 V lv D g M fr A c F by rw [← hV]; exact HH.out.next ((Below.refl _ _).alloc (Nat.le_refl _) _))
    have HAY := Lib.hid (show AyAt V wr.heap.size p Ak ck F from ⟨by rw [← hV]; exact Whole.made _ _ _, LogSpec.at_not HH.out.at_ (Nat.le_refl _)⟩)
    obtain ⟨ab, hab⟩ : ∃ ab, wr.heap.size = ab := ⟨_, rfl⟩
    rw [hab] at HAY ⊢
    clear hV hrange d3 d3n hki hab hb hml
    refine ysw_any L (u := k + 1) _ _ _ _ _ _ _ _ _ _ _ _ _ _ _ _ _ _ _ _ _ _ _ _ _ _ _ _ _ _ _ _ _ _ _ _ _ _ _ _ _ _ _ _ _ _ _ _ _ _ _ _ _ _ _ _ _ _ _ _ _ _ _ _ _ _ _ _ _ _ _ _ _ _ _ _ _ _ _ _ _ _ _ _ _ _ _ _ _ _ _ _ _ _ _ _ _ _ _ _ _ _ _ _ _ _ _ _ _ _ _ _ _ _ _ _ _ _ _ _ _ _ _ _ _ _ _ _ _ _ _ _ _ _ _ _ _ _ _ _ _ _ _ _ _ _ _ _ _ _ _ _ _ _ _ _ _ _ _ _ _ _ _ _ _ _ _ _ _ _ _ _ _ _ _ _ _ _ _ _ _ _ _ _ _ _ _ _ _ _ _ _ _ _ _ _ _ _ _ _ _ _ _ _ _ _ _ _ _ _ _ _ _ _ _ _ _ _ _ _ _ _ _ _ _ _ _ _ _ _ _ _ _ _ _ _ _ _ _ _ _ _ _ _ _ _ _ _ _ _ _ _ _ _ _ _ _ _ _ _ _ _ _ _ _ _ _ _ _ _ _ _ _ _ _ _ _ _ _ _ _ _ _ _ _ _ _ _ _ _ _ _ _ _ _ _ _ _ _ _ _ _ _ _ _ _ _ _ _ _ _ _ _ _ _ _ _ _ _ _ _ _ _ _ _ _ _ _ _ _ _ _ _ HHV.out (by have h1 := HMU.out; have h2 := HK6.out; omega) HAY.out HROW.out hd3 HMT.out ?_ ?_
    · intro lv' v13 v14 v15 v16 v17 v18 v19 v68 v69 v70 v71 v72 v73 v74 v75 v76 v77 v78 v79 v80 v81 v82 v83 v84 v85 v86 v87 v88 v89 v90 v91 v92 v93 v94 v95 v96 v97 v98 v99 v100 v101 v102 v103 v104 v105 v106 v107 v108 v109 v110 v111 v112 v113 v114 v115 v116 v117 v118 v119 v120 v121 v122 v123 v124 v125 v126 v127 v128 v129 v130 v131 v132 v133 v134 v135 v136 v137 v138 v139 v140 v141 v142 v143 v144 v145 v146 v147 v148 v149 v150 v151 v152 v153 v154 v155 v156 v157 v158 v159 v160 v161 v162 v163 v164 v165 v166 v167 v168 v169 v170 v171 v172 v173 v174 v175 v176 v177 v178 v179 v180 v181 v182 v183 v184 v185 v186 v187 v188 v189 v190 v191 v192 v193 v194 v195 v196 v197 v198 v199 v200 v201 v202 v203 v204 v205 v206 v207 v208 v209 v210 v211 v212 v213 v214 v215 v216 v217 v218 v219 v220 v221 v222 v223 v224 v225 v226 v227 v228 v229 v230 v231 v232 v233 v234 v235 v236 v237 v238 v239 v240 v241 v242 v243 v244 v245 v246 v247 v248 v249 v250 v251 v252 v253 v254 v255 v256 v257 v258 v259 v260 v261 v262 v263 v264 v265 v266 v267 v268 v269 v270 v271 v272 v273 v274 v275 v276 v277 v278 v279 v280 v281 v282 v283 v284 v285 v286 v287 v288 v289 v290 v291 v292 v293 v294 v295 v296 v297 v298 v299 v300 v301 v302 v303 v304 v305 v306 v307 v308 v309 v310 v311 v312 v313 v314 v315 v316 v317 v318 v319 v320 v321 v322 v323 v324 v325 v326 wx hcut
      obtain ⟨M5, fr5, A5, c5, F5, hu5, hb5⟩ := hcut
      have HU5 := Lib.hid hu5
      clear hu5
      have H5 := Lib.hid hb5
      obtain ⟨_, _, _, _, _, q6⟩ := hb5.all
      clear hb5
      cases hdn : M5.down with
      | true =>
        rw [hdn] at q6
        clear hdn
        go_wp2
        exact hQ _ _ _ _ _ _ _ _ _ _ _ _ _ _ _ _ _ _ _ _ _ _ _ _ _ _ _ _ _ _ _ _ _ _ _ _ _ _ _ _ _ _ _ _ _ _ _ _ _ _ _ _ _ _ _ _ _ _ _ _ _ _ _ _ _ _ _ _ _ _ _ _ _ _ _ _ _ _ _ _ _ _ _ _ _ _ _ _ _ _ _ _ _ _ _ _ _ _ _ _ _ _ _ _ _ _ _ _ _ _ _ _ _ _ _ _ _ _ _ _ _ _ _ _ _ _ _ _ _ _ _ _ _ _ _ _ _ _ _ _ _ _ _ _ _ _ _ _ _ _ _ _ _ _ _ _ _ _ _ _ _ _ _ _ _ _ _ _ _ _ _ _ _ _ _ _ _ _ _ _ _ _ _ _ _ _ _ _ _ _ _ _ _ _ _ _ _ _ _ _ _ _ _ _ _ _ _ _ _ _ _ _ _ _ _ _ _ _ _ _ _ _ _ _ _ _ _ _ _ _ _ _ _ _ _ _ _ _ _ _ _ _ _ _ _ _ _ _ _ _ _ _ _ _ _ _ _ _ _ _ _ _ _ _ _ _ _ _ _ _ _ _ _ _ _ _ _ _ _ _ _ _ _ _ _ _ _ _ _ _ _ _ ⟨M5, fr5, A5, c5, F5, HU5.out, H5.out⟩
      | false =>
        rw [hdn] at q6
        have HDN := Lib.hid hdn
        clear hdn
        go_wp2_with fail
        refine (holds_any L H5.out HDN.out).mono ?_
        rintro e w6 ⟨rfl, F6, hb6⟩
        have H6 := Lib.hid hb6
        clear hb6
        go_wp2
        exact hQ _ _ _ _ _ _ _ _ _ _ _ _ _ _ _ _ _ _ _ _ _ _ _ _ _ _ _ _ _ _ _ _ _ _ _ _ _ _ _ _ _ _ _ _ _ _ _ _ _ _ _ _ _ _ _ _ _ _ _ _ _ _ _ _ _ _ _ _ _ _ _ _ _ _ _ _ _ _ _ _ _ _ _ _ _ _ _ _ _ _ _ _ _ _ _ _ _ _ _ _ _ _ _ _ _ _ _ _ _ _ _ _ _ _ _ _ _ _ _ _ _ _ _ _ _ _ _ _ _ _ _ _ _ _ _ _ _ _ _ _ _ _ _ _ _ _ _ _ _ _ _ _ _ _ _ _ _ _ _ _ _ _ _ _ _ _ _ _ _ _ _ _ _ _ _ _ _ _ _ _ _ _ _ _ _ _ _ _ _ _ _ _ _ _ _ _ _ _ _ _ _ _ _ _ _ _ _ _ _ _ _ _ _ _ _ _ _ _ _ _ _ _ _ _ _ _ _ _ _ _ _ _ _ _ _ _ _ _ _ _ _ _ _ _ _ _ _ _ _ _ _ _ _ _ _ _ _ _ _ _ _ _ _ _ _ _ _ _ _ _ _ _ _ _ _ _ _ _ _ _ _ _ _ _ _ _ _ _ _ _ _ _ ⟨M5, fr5, A5, c5, F6, HU5.out, H6.out⟩
    · intro lv' v13 v14 v15 v16 v17 v18 v19 v68 v69 v70 v71 v72 v73 v74 v75 v76 v77 v78 v79 v80 v81 v82 v83 v84 v85 v86 v87 v88 v89 v90 v91 v92 v93 v94 v95 v96 v97 v98 v99 v100 v101 v102 v103 v104 v105 v106 v107 v108 v109 v110 v111 v112 v113 v114 v115 v116 v117 v118 v119 v120 v121 v122 v123 v124 v125 v126 v127 v128 v129 v130 v131 v132 v133 v134 v135 v136 v137 v138 v139 v140 v141 v142 v143 v144 v145 v146 v147 v148 v149 v150 v151 v152 v153 v154 v155 v156 v157 v158 v159 v160 v161 v162 v163 v164 v165 v166 v167 v168 v169 v170 v171 v172 v173 v174 v175 v176 v177 v178 v179 v180 v181 v182 v183 v184 v185 v186 v187 v188 v189 v190 v191 v192 v193 v194 v195 v196 v197 v198 v199 v200 v201 v202 v203 v204 v205 v206 v207 v208 v209 v210 v211 v212 v213 v214 v215 v216 v217 v218 v219 v220 v221 v222 v223 v224 v225 v226 v227 v228 v229 v230 v231 v232 v233 v234 v235 v236 v237 v238 v239 v240 v241 v242 v243 v244 v245 v246 v247 v248 v249 v250 v251 v252 v253 v254 v255 v256 v257 v258 v259 v260 v261 v262 v263 v264 v265 v266 v267 v268 v269 v270 v271 v272 v273 v274 v275 v276 v277 v278 v279 v280 v281 v282 v283 v284 v285 v286 v287 v288 v289 v290 v291 v292 v293 v294 v295 v296 v297 v298 v299 v300 v301 v302 v303 v304 v305 v306 v307 v308 v309 v310 v311 v312 v313 v314 v315 v316 v317 v318 v319 v320 v321 v322 v323 v324 v325 v326 wx hcut
      exact hQ _ _ _ _ _ _ _ _ _ _ _ _ _ _ _ _ _ _ _ _ _ _ _ _ _ _ _ _ _ _ _ _ _ _ _ _ _ _ _ _ _ _ _ _ _ _ _ _ _ _ _ _ _ _ _ _ _ _ _ _ _ _ _ _ _ _ _ _ _ _ _ _ _ _ _ _ _ _ _ _ _ _ _ _ _ _ _ _ _ _ _ _ _ _ _ _ _ _ _ _ _ _ _ _ _ _ _ _ _ _ _ _ _ _ _ _ _ _ _ _ _ _ _ _ _ _ _ _ _ _ _ _ _ _ _ _ _ _ _ _ _ _ _ _ _ _ _ _ _ _ _ _ _ _ _ _ _ _ _ _ _ _ _ _ _ _ _ _ _ _ _ _ _ _ _ _ _ _ _ _ _ _ _ _ _ _ _ _ _ _ _ _ _ _ _ _ _ _ _ _ _ _ _ _ _ _ _ _ _ _ _ _ _ _ _ _ _ _ _ _ _ _ _ _ _ _ _ _ _ _ _ _ _ _ _ _ _ _ _ _ _ _ _ _ _ _ _ _ _ _ _ _ _ _ _ _ _ _ _ _ _ _ _ _ _ _ _ _ _ _ _ _ _ _ _ _ _ _ _ _ _ _ _ _ _ _ _ _ _ _ _ _ hcut

end Go.Proofs.YtgfoekbdmgljbaaDoor

namespace Go.Proofs.YtgfoekbdmgljbaaDoor
open Go.RowKit

noncomputable def yloop : Code := ((Tryd.f3.body.bind (blockOf 0)).getD .skip)
/-- Whatever the slots hold that the loop writes. -/
def YDone (w0 : World) (D g nn : Nat) (Aa : Option Addr) (ca : Nat) (Q : Exit → Act → World → Prop) (c0 c2 c3 c5 c7 c9 c20 c21 c22 c23 c24 c25 c26 c27 c28 c29 c30 c31 c32 c33 c34 c35 c36 c37 c38 c39 c40 c41 c42 c43 c44 c45 c46 c47 : Value) : Prop :=
  ∀ (lv' i' v4 v12 v13 v14 v15 v16 v17 v18 v19 v48 v49 v50 v51 v52 v53 v54 v55 v56 v57 v58 v59 v60 v61 v62 v63 v64 v65 v66 v67 v68 v69 v70 v71 v72 v73 v74 v75 v76 v77 v78 v79 v80 v81 v82 v83 v84 v85 v86 v87 v88 v89 v90 v91 v92 v93 v94 v95 v96 v97 v98 v99 v100 v101 v102 v103 v104 v105 v106 v107 v108 v109 v110 v111 v112 v113 v114 v115 v116 v117 v118 v119 v120 v121 v122 v123 v124 v125 v126 v127 v128 v129 v130 v131 v132 v133 v134 v135 v136 v137 v138 v139 v140 v141 v142 v143 v144 v145 v146 v147 v148 v149 v150 v151 v152 v153 v154 v155 v156 v157 v158 v159 v160 v161 v162 v163 v164 v165 v166 v167 v168 v169 v170 v171 v172 v173 v174 v175 v176 v177 v178 v179 v180 v181 v182 v183 v184 v185 v186 v187 v188 v189 v190 v191 v192 v193 v194 v195 v196 v197 v198 v199 v200 v201 v202 v203 v204 v205 v206 v207 v208 v209 v210 v211 v212 v213 v214 v215 v216 v217 v218 v219 v220 v221 v222 v223 v224 v225 v226 v227 v228 v229 v230 v231 v232 v233 v234 v235 v236 v237 v238 v239 v240 v241 v242 v243 v244 v245 v246 v247 v248 v249 v250 v251 v252 v253 v254 v255 v256 v257 v258 v259 v260 v261 v262 v263 v264 v265 v266 v267 v268 v269 v270 v271 v272 v273 v274 v275 v276 v277 v278 v279 v280 v281 v282 v283 v284 v285 v286 v287 v288 v289 v290 v291 v292 v293 v294 v295 v296 v297 v298 v299 v300 v301 v302 v303 v304 v305 v306 v307 v308 v309 v310 v311 v312 v313 v314 v315 v316 v317 v318 v319 v320 v321 v322 v323 v324 v325 v326 v327 v328 v329 v330 v331 v332 v333 v334 v335 v336 v337 : Value) (wx : World), Below w0.heap.size w0 wx → Q .normal ⟨#[c0, .slice Aa nn ca, c2, c3, v4, c5, .pointer (some ⟨D, 0, none⟩), c7, lv', c9, .pointer (some ⟨g, 0, none⟩), i', v12, v13, v14, v15, v16, v17, v18, v19, c20, c21, c22, c23, c24, c25, c26, c27, c28, c29, c30, c31, c32, c33, c34, c35, c36, c37, c38, c39, c40, c41, c42, c43, c44, c45, c46, c47, v48, v49, v50, v51, v52, v53, v54, v55, v56, v57, v58, v59, v60, v61, v62, v63, v64, v65, v66, v67, v68, v69, v70, v71, v72, v73, v74, v75, v76, v77, v78, v79, v80, v81, v82, v83, v84, v85, v86, v87, v88, v89, v90, v91, v92, v93, v94, v95, v96, v97, v98, v99, v100, v101, v102, v103, v104, v105, v106, v107, v108, v109, v110, v111, v112, v113, v114, v115, v116, v117, v118, v119, v120, v121, v122, v123, v124, v125, v126, v127, v128, v129, v130, v131, v132, v133, v134, v135, v136, v137, v138, v139, v140, v141, v142, v143, v144, v145, v146, v147, v148, v149, v150, v151, v152, v153, v154, v155, v156, v157, v158, v159, v160, v161, v162, v163, v164, v165, v166, v167, v168, v169, v170, v171, v172, v173, v174, v175, v176, v177, v178, v179, v180, v181, v182, v183, v184, v185, v186, v187, v188, v189, v190, v191, v192, v193, v194, v195, v196, v197, v198, v199, v200, v201, v202, v203, v204, v205, v206, v207, v208, v209, v210, v211, v212, v213, v214, v215, v216, v217, v218, v219, v220, v221, v222, v223, v224, v225, v226, v227, v228, v229, v230, v231, v232, v233, v234, v235, v236, v237, v238, v239, v240, v241, v242, v243, v244, v245, v246, v247, v248, v249, v250, v251, v252, v253, v254, v255, v256, v257, v258, v259, v260, v261, v262, v263, v264, v265, v266, v267, v268, v269, v270, v271, v272, v273, v274, v275, v276, v277, v278, v279, v280, v281, v282, v283, v284, v285, v286, v287, v288, v289, v290, v291, v292, v293, v294, v295, v296, v297, v298, v299, v300, v301, v302, v303, v304, v305, v306, v307, v308, v309, v310, v311, v312, v313, v314, v315, v316, v317, v318, v319, v320, v321, v322, v323, v324, v325, v326, v327, v328, v329, v330, v331, v332, v333, v334, v335, v336, v337], []⟩ wx
set_option maxHeartbeats 4000000 in
set_option maxRecDepth 100000 in
theorem yloop_any (L : LogSpec) {w0 V : World} {lv : Value} {D g nn : Nat} {M : Lg} {fr : Bool} {A Aa : Option Addr} {c ca : Nat} {F : Nat → Prop} {acts : List Ay} {Q : Exit → Act → World → Prop} (c0 c2 c3 c4 c5 c7 c9 c12 c13 c14 c15 c16 c17 c18 c19 c20 c21 c22 c23 c24 c25 c26 c27 c28 c29 c30 c31 c32 c33 c34 c35 c36 c37 c38 c39 c40 c41 c42 c43 c44 c45 c46 c47 c48 c49 c50 c51 c52 c53 c54 c55 c56 c57 c58 c59 c60 c61 c62 c63 c64 c65 c66 c67 c68 c69 c70 c71 c72 c73 c74 c75 c76 c77 c78 c79 c80 c81 c82 c83 c84 c85 c86 c87 c88 c89 c90 c91 c92 c93 c94 c95 c96 c97 c98 c99 c100 c101 c102 c103 c104 c105 c106 c107 c108 c109 c110 c111 c112 c113 c114 c115 c116 c117 c118 c119 c120 c121 c122 c123 c124 c125 c126 c127 c128 c129 c130 c131 c132 c133 c134 c135 c136 c137 c138 c139 c140 c141 c142 c143 c144 c145 c146 c147 c148 c149 c150 c151 c152 c153 c154 c155 c156 c157 c158 c159 c160 c161 c162 c163 c164 c165 c166 c167 c168 c169 c170 c171 c172 c173 c174 c175 c176 c177 c178 c179 c180 c181 c182 c183 c184 c185 c186 c187 c188 c189 c190 c191 c192 c193 c194 c195 c196 c197 c198 c199 c200 c201 c202 c203 c204 c205 c206 c207 c208 c209 c210 c211 c212 c213 c214 c215 c216 c217 c218 c219 c220 c221 c222 c223 c224 c225 c226 c227 c228 c229 c230 c231 c232 c233 c234 c235 c236 c237 c238 c239 c240 c241 c242 c243 c244 c245 c246 c247 c248 c249 c250 c251 c252 c253 c254 c255 c256 c257 c258 c259 c260 c261 c262 c263 c264 c265 c266 c267 c268 c269 c270 c271 c272 c273 c274 c275 c276 c277 c278 c279 c280 c281 c282 c283 c284 c285 c286 c287 c288 c289 c290 c291 c292 c293 c294 c295 c296 c297 c298 c299 c300 c301 c302 c303 c304 c305 c306 c307 c308 c309 c310 c311 c312 c313 c314 c315 c316 c317 c318 c319 c320 c321 c322 c323 c324 c325 c326 c327 c328 c329 c330 c331 c332 c333 c334 c335 c336 c337 : Value)
    (h : BothAt L w0 V lv D g M fr A c F) (ha : AysIn w0 w0.heap.size Aa acts) (hl : acts.length = nn) (hm : nn ≤ maxLen)
    (hM0 : M.used = 0) (hQ : YDone w0 D g nn Aa ca Q c0 c2 c3 c5 c7 c9 c20 c21 c22 c23 c24 c25 c26 c27 c28 c29 c30 c31 c32 c33 c34 c35 c36 c37 c38 c39 c40 c41 c42 c43 c44 c45 c46 c47) : Code.wp Tryd.prog yloop Q ⟨#[c0, .slice Aa nn ca, c2, c3, c4, c5, .pointer (some ⟨D, 0, none⟩), c7, lv, c9, .pointer (some ⟨g, 0, none⟩), .int .i64 0, c12, c13, c14, c15, c16, c17, c18, c19, c20, c21, c22, c23, c24, c25, c26, c27, c28, c29, c30, c31, c32, c33, c34, c35, c36, c37, c38, c39, c40, c41, c42, c43, c44, c45, c46, c47, c48, c49, c50, c51, c52, c53, c54, c55, c56, c57, c58, c59, c60, c61, c62, c63, c64, c65, c66, c67, c68, c69, c70, c71, c72, c73, c74, c75, c76, c77, c78, c79, c80, c81, c82, c83, c84, c85, c86, c87, c88, c89, c90, c91, c92, c93, c94, c95, c96, c97, c98, c99, c100, c101, c102, c103, c104, c105, c106, c107, c108, c109, c110, c111, c112, c113, c114, c115, c116, c117, c118, c119, c120, c121, c122, c123, c124, c125, c126, c127, c128, c129, c130, c131, c132, c133, c134, c135, c136, c137, c138, c139, c140, c141, c142, c143, c144, c145, c146, c147, c148, c149, c150, c151, c152, c153, c154, c155, c156, c157, c158, c159, c160, c161, c162, c163, c164, c165, c166, c167, c168, c169, c170, c171, c172, c173, c174, c175, c176, c177, c178, c179, c180, c181, c182, c183, c184, c185, c186, c187, c188, c189, c190, c191, c192, c193, c194, c195, c196, c197, c198, c199, c200, c201, c202, c203, c204, c205, c206, c207, c208, c209, c210, c211, c212, c213, c214, c215, c216, c217, c218, c219, c220, c221, c222, c223, c224, c225, c226, c227, c228, c229, c230, c231, c232, c233, c234, c235, c236, c237, c238, c239, c240, c241, c242, c243, c244, c245, c246, c247, c248, c249, c250, c251, c252, c253, c254, c255, c256, c257, c258, c259, c260, c261, c262, c263, c264, c265, c266, c267, c268, c269, c270, c271, c272, c273, c274, c275, c276, c277, c278, c279, c280, c281, c282, c283, c284, c285, c286, c287, c288, c289, c290, c291, c292, c293, c294, c295, c296, c297, c298, c299, c300, c301, c302, c303, c304, c305, c306, c307, c308, c309, c310, c311, c312, c313, c314, c315, c316, c317, c318, c319, c320, c321, c322, c323, c324, c325, c326, c327, c328, c329, c330, c331, c332, c333, c334, c335, c336, c337], []⟩ V := by
  conv => arg 2; whnf
  have HBO := Lib.hid h
  have HM0 := Lib.hid hM0
  clear hM0
  have HA := Lib.hid ha
  have HL := Lib.hid hl
  clear h ha hl
  go_wp2
  go_loopw [8, 11] (YRel L w0 D g nn) (fun _ i _ => nn - (intOf i).toNat)
  case atStart => exact ⟨0, M, fr, A, c, F, Nat.zero_le _, Nat.zero_le _, Nat.le_of_eq HM0.out, rfl, HBO.out⟩
  case round =>
    obtain ⟨k, M, fr, A2, c2, F, hk, hk60, hmu, rfl, hbt⟩ := hrel
    have HMU := Lib.hid hmu
    clear hmu
    have HH := Lib.hid hbt
    by_cases hlt : k < nn ∧ k < 60
    · obtain ⟨hlt, h60⟩ := hlt
      have d1 : decide ((k : Int) < (nn : Int)) = true := by simp; omega
      have d1n : decide (k < nn) = true := by simp; omega
      have d2 : decide ((k : Int) < 60) = true := by simp; omega
      have d2n : decide (k < 60) = true := by simp; omega
      have hki : (k : Int) < (nn : Int) := by omega
      have HKK := Lib.hid (And.intro hlt h60)
      clear hbt hlt h60 hk hk60
      have hk6 : k < 60 := HKK.out.2
      go_upto_block 1 with fail
      refine yturn_any L _ _ _ _ _ _ _ _ _ _ _ _ _ _ _ _ _ _ _ _ _ _ _ _ _ _ _ _ _ _ _ _ _ _ _ _ _ _ _ _ _ _ _ _ _ _ _ _ _ _ _ _ _ _ _ _ _ _ _ _ _ _ _ _ _ _ _ _ _ _ _ _ _ _ _ _ _ _ _ _ _ _ _ _ _ _ _ _ _ _ _ _ _ _ _ _ _ _ _ _ _ _ _ _ _ _ _ _ _ _ _ _ _ _ _ _ _ _ _ _ _ _ _ _ _ _ _ _ _ _ _ _ _ _ _ _ _ _ _ _ _ _ _ _ _ _ _ _ _ _ _ _ _ _ _ _ _ _ _ _ _ _ _ _ _ _ _ _ _ _ _ _ _ _ _ _ _ _ _ _ _ _ _ _ _ _ _ _ _ _ _ _ _ _ _ _ _ _ _ _ _ _ _ _ _ _ _ _ _ _ _ _ _ _ _ _ _ _ _ _ _ _ _ _ _ _ _ _ _ _ _ _ _ _ _ _ _ _ _ _ _ _ _ _ _ _ _ _ _ _ _ _ _ _ _ _ _ _ _ _ _ _ _ _ _ _ _ _ _ _ _ _ _ _ _ _ _ _ _ _ _ _ _ _ _ _ _ _ _ _ _ _ _ _ _ _ _ _ _ _ _ _ _ _ _ _ _ _ _ _ _ _ _ _ _ _ _ _ _ _ _ _ _ _ _ _ _ _ _ _ _ _ _ HH.out HA.out HL.out hm HKK.out.1 HKK.out.2 HMU.out ?_
      intro lv' v12 v13 v14 v15 v16 v17 v18 v19 v56 v57 v58 v59 v60 v61 v62 v63 v64 v65 v66 v67 v68 v69 v70 v71 v72 v73 v74 v75 v76 v77 v78 v79 v80 v81 v82 v83 v84 v85 v86 v87 v88 v89 v90 v91 v92 v93 v94 v95 v96 v97 v98 v99 v100 v101 v102 v103 v104 v105 v106 v107 v108 v109 v110 v111 v112 v113 v114 v115 v116 v117 v118 v119 v120 v121 v122 v123 v124 v125 v126 v127 v128 v129 v130 v131 v132 v133 v134 v135 v136 v137 v138 v139 v140 v141 v142 v143 v144 v145 v146 v147 v148 v149 v150 v151 v152 v153 v154 v155 v156 v157 v158 v159 v160 v161 v162 v163 v164 v165 v166 v167 v168 v169 v170 v171 v172 v173 v174 v175 v176 v177 v178 v179 v180 v181 v182 v183 v184 v185 v186 v187 v188 v189 v190 v191 v192 v193 v194 v195 v196 v197 v198 v199 v200 v201 v202 v203 v204 v205 v206 v207 v208 v209 v210 v211 v212 v213 v214 v215 v216 v217 v218 v219 v220 v221 v222 v223 v224 v225 v226 v227 v228 v229 v230 v231 v232 v233 v234 v235 v236 v237 v238 v239 v240 v241 v242 v243 v244 v245 v246 v247 v248 v249 v250 v251 v252 v253 v254 v255 v256 v257 v258 v259 v260 v261 v262 v263 v264 v265 v266 v267 v268 v269 v270 v271 v272 v273 v274 v275 v276 v277 v278 v279 v280 v281 v282 v283 v284 v285 v286 v287 v288 v289 v290 v291 v292 v293 v294 v295 v296 v297 v298 v299 v300 v301 v302 v303 v304 v305 v306 v307 v308 v309 v310 v311 v312 v313 v314 v315 v316 v317 v318 v319 v320 v321 v322 v323 v324 v325 v326 v327 v328 v329 v330 v331 v332 v333 v334 v335 v336 v337 wx hcut
      obtain ⟨M5, fr5, A5, c5, F5, hu5, hb5⟩ := hcut
      have HU5 := Lib.hid hu5
      clear hu5
      have H5 := Lib.hid hb5
      clear hb5
      have hkk := HKK.out
      go_wp2
      exact ⟨⟨k + 1, M5, fr5, A5, c5, F5, by omega, by omega, HU5.out, by go_num, H5.out⟩, by simp only [intOf]; omega⟩
    · have HBB := Lib.hid hbt.below
      clear hbt
      by_cases hl2 : k < nn
      · have d1 : decide ((k : Int) < (nn : Int)) = true := by simp; omega
        have d1n : decide (k < nn) = true := by simp; omega
        have d2 : decide ((k : Int) < 60) = false := by simp; omega
        have d2n : decide (k < 60) = false := by simp; omega
        clear hlt hl2
        go_wp2
        exact hQ _ _ _ _ _ _ _ _ _ _ _ _ _ _ _ _ _ _ _ _ _ _ _ _ _ _ _ _ _ _ _ _ _ _ _ _ _ _ _ _ _ _ _ _ _ _ _ _ _ _ _ _ _ _ _ _ _ _ _ _ _ _ _ _ _ _ _ _ _ _ _ _ _ _ _ _ _ _ _ _ _ _ _ _ _ _ _ _ _ _ _ _ _ _ _ _ _ _ _ _ _ _ _ _ _ _ _ _ _ _ _ _ _ _ _ _ _ _ _ _ _ _ _ _ _ _ _ _ _ _ _ _ _ _ _ _ _ _ _ _ _ _ _ _ _ _ _ _ _ _ _ _ _ _ _ _ _ _ _ _ _ _ _ _ _ _ _ _ _ _ _ _ _ _ _ _ _ _ _ _ _ _ _ _ _ _ _ _ _ _ _ _ _ _ _ _ _ _ _ _ _ _ _ _ _ _ _ _ _ _ _ _ _ _ _ _ _ _ _ _ _ _ _ _ _ _ _ _ _ _ _ _ _ _ _ _ _ _ _ _ _ _ _ _ _ _ _ _ _ _ _ _ _ _ _ _ _ _ _ _ _ _ _ _ _ _ _ _ _ _ _ _ _ _ _ _ _ _ _ _ _ _ _ _ _ _ _ _ _ _ _ _ _ _ _ _ _ _ _ _ _ _ HBB.out
      · have d1 : decide ((k : Int) < (nn : Int)) = false := by simp; omega
        have d1n : decide (k < nn) = false := by simp; omega
        clear hlt hl2
        go_wp2
        exact hQ _ _ _ _ _ _ _ _ _ _ _ _ _ _ _ _ _ _ _ _ _ _ _ _ _ _ _ _ _ _ _ _ _ _ _ _ _ _ _ _ _ _ _ _ _ _ _ _ _ _ _ _ _ _ _ _ _ _ _ _ _ _ _ _ _ _ _ _ _ _ _ _ _ _ _ _ _ _ _ _ _ _ _ _ _ _ _ _ _ _ _ _ _ _ _ _ _ _ _ _ _ _ _ _ _ _ _ _ _ _ _ _ _ _ _ _ _ _ _ _ _ _ _ _ _ _ _ _ _ _ _ _ _ _ _ _ _ _ _ _ _ _ _ _ _ _ _ _ _ _ _ _ _ _ _ _ _ _ _ _ _ _ _ _ _ _ _ _ _ _ _ _ _ _ _ _ _ _ _ _ _ _ _ _ _ _ _ _ _ _ _ _ _ _ _ _ _ _ _ _ _ _ _ _ _ _ _ _ _ _ _ _ _ _ _ _ _ _ _ _ _ _ _ _ _ _ _ _ _ _ _ _ _ _ _ _ _ _ _ _ _ _ _ _ _ _ _ _ _ _ _ _ _ _ _ _ _ _ _ _ _ _ _ _ _ _ _ _ _ _ _ _ _ _ _ _ _ _ _ _ _ _ _ _ _ _ _ _ _ _ _ _ _ _ _ _ _ _ _ _ _ _ HBB.out

end Go.Proofs.YtgfoekbdmgljbaaDoor

namespace Go.Proofs.YtgfoekbdmgljbaaDoor
open Go.RowKit

variable (L : LogSpec)
set_option maxHeartbeats 8000000 in
set_option maxRecDepth 100000 in
theorem yacts_any (q : Nat) (A : Option Addr) (c : Nat) (acts : List Ay) (w : World) (hv : L.Vars w) (hA : AysIn w w.heap.size A acts) (hm : acts.length ≤ maxLen) (hq : q < 256) :
    Calls Tryd.prog 3 #[.int .u8 (q : Int), .slice A acts.length c] w (TrueB w) := by
  have HV := Lib.hid hv
  have HA := Lib.hid hA
  obtain ⟨nn, hnn⟩ : ∃ nn, acts.length = nn := ⟨_, rfl⟩
  have HNN := Lib.hid hnn
  rw [hnn] at hm ⊢
  obtain ⟨n, hn⟩ : ∃ n, q % 30 + 4 = n := ⟨_, rfl⟩
  have hni : (q : Int) % 30 + 4 = (n : Int) := by omega
  have hn4 : 4 ≤ n := by omega
  have hn33 : n ≤ 33 := by omega
  have HN := Lib.hid (h_new w w (Below.refl _ _) n (by omega) (by omega))
  clear hv hA hnn
  go_enter Tryd.func3, Tryd.ntmps3
  go_wp2_with fail
  refine HN.out.mono ?_
  rintro e w1 ⟨D, rfl, hh1⟩
  have HO := Lib.hid (L.open_new HV.out hh1 (by omega) (by omega))
  clear hh1
  go_wp2_with fail
  refine HO.out.mono ?_
  rintro e w2 ⟨lv, F2, rfl, hat2, hb2⟩
  have HAT2 := Lib.hid hat2
  have HB2 := Lib.hid hb2
  clear hat2 hb2
  go_wp2_with fail
  refine (yanswers_any L _ (L.vars_next HV.out HB2.out)).mono ?_
  rintro e w3 ⟨rfl, hb3⟩
  have HAT3 := Lib.hid (LogSpec.at_below HAT2.out hb3)
  have HB3 := Lib.hid (HB2.out.trans (hb3.mono HB2.out.size))
  clear hb3
  have hn2 : (n : Int) - 2 = ((n - 2 : Nat) : Int) := by omega
  go_upto_block 0 with fail
  have hb4 := (Below.refl w3.heap.size w3).alloc (Nat.le_refl _) (.cells (moCells ⟨0, [], 0, none, n - 2, 1, false, 0⟩ none 0).toArray 34)
  have hbo : BothAt L w (w3.alloc (.cells (moCells ⟨0, [], 0, none, n - 2, 1, false, 0⟩ none 0).toArray 34)) lv D w3.heap.size ⟨0, [], 0, none, n - 2, 1, false, 0⟩ true none 0 F2 :=
    ⟨LogSpec.at_below HAT3.out hb4, ⟨Whole.made _ _ _, ListAt.nil _ _, HB3.out.size⟩, ⟨LogSpec.at_not HAT3.out (Nat.le_refl _), fun j hj => by obtain ⟨o, hj⟩ := hj; cases hj⟩, HB3.out.trans (hb4.mono HB3.out.size)⟩
  have HBO := Lib.hid hbo
  clear hb4 hbo hn33 hn4 hni
  refine yloop_any L _ _ _ _ _ _ _ _ _ _ _ _ _ _ _ _ _ _ _ _ _ _ _ _ _ _ _ _ _ _ _ _ _ _ _ _ _ _ _ _ _ _ _ _ _ _ _ _ _ _ _ _ _ _ _ _ _ _ _ _ _ _ _ _ _ _ _ _ _ _ _ _ _ _ _ _ _ _ _ _ _ _ _ _ _ _ _ _ _ _ _ _ _ _ _ _ _ _ _ _ _ _ _ _ _ _ _ _ _ _ _ _ _ _ _ _ _ _ _ _ _ _ _ _ _ _ _ _ _ _ _ _ _ _ _ _ _ _ _ _ _ _ _ _ _ _ _ _ _ _ _ _ _ _ _ _ _ _ _ _ _ _ _ _ _ _ _ _ _ _ _ _ _ _ _ _ _ _ _ _ _ _ _ _ _ _ _ _ _ _ _ _ _ _ _ _ _ _ _ _ _ _ _ _ _ _ _ _ _ _ _ _ _ _ _ _ _ _ _ _ _ _ _ _ _ _ _ _ _ _ _ _ _ _ _ _ _ _ _ _ _ _ _ _ _ _ _ _ _ _ _ _ _ _ _ _ _ _ _ _ _ _ _ _ _ _ _ _ _ _ _ _ _ _ _ _ _ _ _ _ _ _ _ _ _ _ _ _ _ _ _ _ _ _ _ _ _ _ _ _ _ _ _ _ _ _ _ _ _ _ _ _ _ _ _ _ _ _ _ _ _ _ _ _ _ _ _ _ _ _ _ _ _ HBO.out HA.out HNN.out hm rfl ?_
  intro lv' i' v4 v12 v13 v14 v15 v16 v17 v18 v19 v48 v49 v50 v51 v52 v53 v54 v55 v56 v57 v58 v59 v60 v61 v62 v63 v64 v65 v66 v67 v68 v69 v70 v71 v72 v73 v74 v75 v76 v77 v78 v79 v80 v81 v82 v83 v84 v85 v86 v87 v88 v89 v90 v91 v92 v93 v94 v95 v96 v97 v98 v99 v100 v101 v102 v103 v104 v105 v106 v107 v108 v109 v110 v111 v112 v113 v114 v115 v116 v117 v118 v119 v120 v121 v122 v123 v124 v125 v126 v127 v128 v129 v130 v131 v132 v133 v134 v135 v136 v137 v138 v139 v140 v141 v142 v143 v144 v145 v146 v147 v148 v149 v150 v151 v152 v153 v154 v155 v156 v157 v158 v159 v160 v161 v162 v163 v164 v165 v166 v167 v168 v169 v170 v171 v172 v173 v174 v175 v176 v177 v178 v179 v180 v181 v182 v183 v184 v185 v186 v187 v188 v189 v190 v191 v192 v193 v194 v195 v196 v197 v198 v199 v200 v201 v202 v203 v204 v205 v206 v207 v208 v209 v210 v211 v212 v213 v214 v215 v216 v217 v218 v219 v220 v221 v222 v223 v224 v225 v226 v227 v228 v229 v230 v231 v232 v233 v234 v235 v236 v237 v238 v239 v240 v241 v242 v243 v244 v245 v246 v247 v248 v249 v250 v251 v252 v253 v254 v255 v256 v257 v258 v259 v260 v261 v262 v263 v264 v265 v266 v267 v268 v269 v270 v271 v272 v273 v274 v275 v276 v277 v278 v279 v280 v281 v282 v283 v284 v285 v286 v287 v288 v289 v290 v291 v292 v293 v294 v295 v296 v297 v298 v299 v300 v301 v302 v303 v304 v305 v306 v307 v308 v309 v310 v311 v312 v313 v314 v315 v316 v317 v318 v319 v320 v321 v322 v323 v324 v325 v326 v327 v328 v329 v330 v331 v332 v333 v334 v335 v336 v337 wx hbx
  go_wp2
  go_ret
  exact ⟨rfl, hbx⟩

end Go.Proofs.YtgfoekbdmgljbaaDoor

namespace Go.Proofs.YtgfoekbdmgljbaaDoor
open Go.ChangeShapes Go.WideShapes Go.ChangeAt Go.RowKit

def BytesIn (w : World) (H : Nat) (A : Option Addr) (vs : List Value) (ls : List (List UInt8)) : Prop :=
  Row w H A vs ∧ vs.length = ls.length ∧ ∀ k, k < ls.length → ∃ Ak ck, vs[k]? = some (.slice Ak (ls.getD k []).length ck) ∧ Row w H Ak ((ls.getD k []).map bc) ∧ (ls.getD k []).length ≤ maxLen
theorem BytesIn.below {w w' : World} {H : Nat} {A : Option Addr} {vs : List Value} {ls : List (List UInt8)} (h : BytesIn w H A vs ls) (hb : Below H w w') : BytesIn w' H A vs ls := by
  obtain ⟨h1, h2, h3⟩ := h
  refine ⟨h1.below hb, h2, fun k hk => ?_⟩
  obtain ⟨Ak, ck, h4, h5, h6⟩ := h3 k hk
  exact ⟨Ak, ck, h4, h5.below hb, h6⟩
theorem BytesIn.at_ {w : World} {H : Nat} {A : Option Addr} {vs : List Value} {ls : List (List UInt8)} (h : BytesIn w H A vs ls) {k : Nat} (hk : k < ls.length) :
    ∃ b off Ak ck, A = some ⟨b, off, none⟩ ∧ b < H ∧ w.cell? ⟨b, off + k, none⟩ = some (.slice Ak (ls.getD k []).length ck) ∧ Row w H Ak ((ls.getD k []).map bc) ∧ (ls.getD k []).length ≤ maxLen := by
  obtain ⟨h1, h2, h3⟩ := h
  obtain ⟨Ak, ck, h4, h5, h6⟩ := h3 k hk
  obtain ⟨b, off, rfl, hb, hc⟩ := h1.some_ (by omega)
  exact ⟨b, off, Ak, ck, rfl, hb, hc k _ h4, h5, h6⟩

theorem bytes_cells : Tryd.prog.cellsOf 35 = 1 := by kernel_rfl
set_option maxRecDepth 20000 in
/-- Bytes as they are read: whatever they are. -/
theorem read_bytes {H : Type} {enc : TypeId × Value → H} {W : World} {fuel : Nat} {v : Value} {x : DataW H × List MemPlace} (hc : Tryd.prog.cellsOf 5 = 1)
    (h : DataW.trod enc Tryd.prog W 0 (fun _ => true) true fuel 35 [v] = some x) (hlt : ∀ y ∈ x.2, y.block < W.heap.size) :
    ∃ (A : Option Addr) (c : Nat) (l : List UInt8), v = .slice A l.length c ∧ Row W W.heap.size A (l.map bc) ∧ l.length ≤ maxLen := by
  rcases open_ints Tryd.underlying35 Tryd.underlying5 hc h with ⟨hcs, hx⟩ | ⟨a, len, cap, zs, hcs, _, hl, hm, hz, hx, hcell, hwz⟩
  · exact ⟨none, 0, [], by simpa using hcs, Row.empty _ _ _, Nat.zero_le _⟩
  · simp only [List.cons.injEq, and_true] at hcs
    subst hcs
    subst hx
    simp only [if_true] at hz
    have hlen : ((zs.take len).map fun n => UInt8.ofNat n.toNat).length = len := by simp; omega
    refine ⟨some a, cap, (zs.take len).map fun n => UInt8.ofNat n.toNat, by rw [hlen], fun hne => ?_, by rw [hlen]; omega⟩
    have hpos : 0 < zs.length := by
      rcases zs with _ | ⟨z, zs⟩
      · simp at hne
      · simp
    obtain ⟨b, off, spot⟩ := a
    have hspot : spot = none := by simpa [Addr.add] using World.cell?_spot (hcell 0 hpos)
    subst hspot
    refine ⟨b, off, rfl, hlt (.cell b off) (MemPlace.mem_row.2 ⟨0, hpos, by simp⟩), fun j u hu => ?_⟩
    have hjl : j < len := by
      have := (List.getElem?_eq_some_iff.1 hu).1
      simp at this
      omega
    have hj : j < zs.length := by omega
    have h1 := hcell j hj
    rw [addr_add] at h1
    rw [h1]
    have e : zs.getD j 0 = zs[j] := by simp [List.getD, List.getElem?_eq_getElem hj]
    rw [List.getElem?_map, List.getElem?_map, List.getElem?_take, if_pos hjl, List.getElem?_eq_getElem hj] at hu
    simp only [Option.map_some] at hu
    rw [← hu, e, bc_of_int _ (hwz _ (List.getElem_mem hj))]
set_option maxRecDepth 20000 in
/-- An argument of slices of bytes: whatever it is, it reads as lists. -/
theorem open_row_bytes {H : Type} {enc : TypeId × Value → H} {W : World} {base : Nat} {t : TypeId} {v : Value} {d : DataW H} {p : List MemPlace} (ht : Tryd.prog.underlying t = some (.slice 35))
    (hval : Value.okWide Tryd.prog W .any base t v) (h : DataW.Trod enc Tryd.prog W 0 (fun _ => true) true t v d p) (hlt : ∀ x ∈ p, x.block < W.heap.size) :
    ∃ (A : Option Addr) (c : Nat) (vs : List Value) (ls : List (List UInt8)), v = .slice A ls.length c ∧ BytesIn W W.heap.size A vs ls ∧ ls.length ≤ maxLen := by
  obtain ⟨a0, len, cap, rfl⟩ := okWide_slice ht hval
  obtain ⟨fuel, hf⟩ := h
  rcases Deep.open_slice1 ht bytes_cells hf with ⟨hcs, hx⟩ | ⟨a, len', cap', m, n, V, D, Pl, hcs, _, hl, hm, hmm, hx, hy⟩
  · simp [Value.cells] at hcs
    obtain ⟨rfl, rfl, rfl⟩ := hcs
    exact ⟨none, 0, [], [], rfl, ⟨Row.empty _ _ _, rfl, fun k h => absurd h (Nat.not_lt_zero _)⟩, Nat.zero_le _⟩
  · simp [Value.cells] at hcs
    obtain ⟨rfl, rfl, rfl⟩ := hcs
    simp only [if_true] at hmm
    subst hmm
    simp only [Prod.mk.injEq] at hx
    obtain ⟨rfl, rfl⟩ := hx
    have each : ∀ i, i < len → ∃ y : Option Addr × Nat × List UInt8, V i = .slice y.1 y.2.2.length y.2.1 ∧ Row W W.heap.size y.1 (y.2.2.map bc) ∧ y.2.2.length ≤ maxLen := by
      intro i hi
      obtain ⟨A, c, n', h1, h2, h3⟩ := read_bytes u8_cells (hy i (by omega)).2 (fun y hy' => hlt y (List.mem_append_right _ (List.mem_flatMap.2 ⟨i, List.mem_range.2 (by omega), hy'⟩)))
      exact ⟨(A, c, n'), h1, h2, h3⟩
    obtain ⟨Y, hY⟩ := Deep.choose_lt each
    have hnl : ((List.range len).map fun i => (Y i).2.2).length = len := by simp
    refine ⟨some a, m, (List.range len).map V, (List.range len).map fun i => (Y i).2.2, by rw [hnl], ⟨fun hne => ?_, by simp, fun k hk => ?_⟩, by rw [hnl]; omega⟩
    · have hpos : 0 < len := by
        rcases len with _ | k
        · simp at hne
        · omega
      obtain ⟨b, off, spot⟩ := a
      have hspot : spot = none := by simpa [Addr.add] using World.cell?_spot (hy 0 (by omega)).1
      subst hspot
      refine ⟨b, off, rfl, hlt (.cell b off) (List.mem_append_left _ (MemPlace.mem_row.2 ⟨0, by omega, by simp⟩)), fun j u hu => ?_⟩
      have hjl : j < len := by
        have := (List.getElem?_eq_some_iff.1 hu).1
        simpa using this
      have h1 := (hy j (by omega)).1
      rw [addr_add] at h1
      rw [h1]
      rw [List.getElem?_map, List.getElem?_range hjl] at hu
      exact hu
    · rw [hnl] at hk
      have hg : ((List.range len).map fun i => (Y i).2.2).getD k [] = (Y k).2.2 := by simp [List.getD, hk]
      rw [hg]
      obtain ⟨h1, h2, h3⟩ := hY k hk
      exact ⟨(Y k).1, (Y k).2.1, by simp [hk, h1], h2, h3⟩

end Go.Proofs.YtgfoekbdmgljbaaDoor

namespace Go.Proofs.YtgfoekbdmgljbaaDoor
open Go.RowKit

def c64 (n : Nat) : Value := .int .u64 (n : Int)
/-- What is behind a Crash: a beginning of the records, k of them at least. -/
structure OpenPre (rs : List (List UInt8)) (k : Nat) (M : Lg) : Prop where
  first : M.first = 0
  drop : M.drop = none
  sure : k ≤ M.sure ∧ M.sure ≤ M.recs.length
  recs : ∃ n, M.recs = rs.take n
theorem OpenPre.again {rs : List (List UInt8)} {k : Nat} {M M' : Lg} (h : OpenPre rs k M) (ha : AgainTo M M') : OpenPre rs k M' ∧ M'.down = false := by
  obtain ⟨gone, n, hg, hn, hs, ep, _, rfl⟩ := ha
  have hg0 : gone = 0 := by
    rcases hg with hg | hg
    · exact hg
    · rw [h.drop] at hg; cases hg
  subst hg0
  obtain ⟨m, hm⟩ := h.recs
  have h1 := h.sure
  refine ⟨⟨by show M.first + 0 = 0; rw [h.first], rfl, ⟨by show k ≤ n; omega, by show n ≤ ((M.recs.drop 0).take n).length; rw [List.drop_zero, List.length_take]; omega⟩, ⟨min n m, ?_⟩⟩, rfl⟩
  show (M.recs.drop 0).take n = rs.take (min n m)
  rw [List.drop_zero, hm, List.take_take]
theorem OpenPre.next {rs : List (List UInt8)} {k : Nat} {M : Lg} (h : OpenPre rs k M) : M.next ≤ rs.length ∧ k ≤ M.next := by
  obtain ⟨n, hn⟩ := h.recs
  have h1 := h.sure
  have h2 := h.first
  unfold Lg.next
  rw [hn, List.length_take] at h1 ⊢
  omega
theorem OpenPre.read {rs : List (List UInt8)} {k : Nat} {M : Lg} (h : OpenPre rs k M) {i : Nat} (hi : i < M.next) : readGE M (i : Int) = 0 ∧ readGB M (i : Int) = rs.getD i [] := by
  have hf := h.first
  have h1 : readGE M (i : Int) = 0 := by
    unfold readGE
    rw [if_neg (by omega), if_neg (by omega)]
  refine ⟨h1, ?_⟩
  obtain ⟨n, hn⟩ := h.recs
  have hl : i < M.recs.length := by unfold Lg.next at hi; omega
  unfold readGB
  rw [if_pos h1, hf]
  have e : ((i : Int) - ((0 : Nat) : Int)).toNat = i := by omega
  rw [e, hn, List.getD_eq_getElem?_getD, List.getD_eq_getElem?_getD, List.getElem?_take]
  rw [hn, List.length_take] at hl
  rw [if_pos (by omega)]
theorem taken_small {rs : List (List UInt8)} (h : ∀ r ∈ rs, r.length ≤ 1400) : takenL rs ≤ 3 * rs.length := by
  induction rs with
  | nil => simp [takenL]
  | cons r rs ih =>
    have h1 := h r List.mem_cons_self
    have h2 := ih fun x hx => h x (List.mem_cons_of_mem _ hx)
    have h3 : partsN r.length ≤ 3 := by unfold partsN; split <;> omega
    rw [takenL_cons, List.length_cons]
    omega
/-- While records are appended. -/
structure AppAt (L : LogSpec) (w0 : World) (lv : Value) (D k : Nat) (rs : List (List UInt8)) (i : Nat) (wr : World) (M : Lg) (F : Nat → Prop) : Prop where
  at_ : L.At wr w0.heap.size lv D M true F
  below : Below w0.heap.size w0 wr
  down : M.down = false
  first : M.first = 0
  drop : M.drop = none
  places : M.places = 38
  recs : M.recs = rs.take i
  sure : k < i → k ≤ M.sure
  small : ∀ r ∈ rs.take i, r.length ≤ 1400
  used : M.used ≤ i
/-- The same, where the k-th is to come: what was ahead of it is sure. -/
def SureFor (k i : Nat) (M : Lg) : Prop := k ≤ i → k ≤ M.sure
def AppRel (L : LogSpec) (w0 : World) (lv : Value) (D k : Nat) (rs : List (List UInt8)) (i : Value) (wr : World) : Prop := ∃ (j : Nat) (M : Lg) (F : Nat → Prop), j ≤ rs.length ∧ i = .int .i64 j ∧ AppAt L w0 lv D k rs j wr M F
def DeadRel (L : LogSpec) (w0 : World) (D k n : Nat) (rs : List (List UInt8)) (i : Value) (wr : World) : Prop := ∃ (j : Nat) (M : Lg) (F : Nat → Prop), j ≤ n ∧ j ≤ 10 ∧ i = .int .i64 j ∧ L.Dead wr w0.heap.size D M true F ∧ OpenPre rs k M ∧ M.used ≤ 12 + j ∧ Below w0.heap.size w0 wr
def ReadRelY (L : LogSpec) (w0 : World) (lv : Value) (D : Nat) (M : Lg) (i : Value) (wr : World) : Prop := ∃ (j : Nat) (F : Nat → Prop), j ≤ M.next ∧ i = .int .i64 j ∧ L.At wr w0.heap.size lv D M true F ∧ Below w0.heap.size w0 wr
theorem AppAt.sync {L : LogSpec} {w0 wr w' : World} {lv : Value} {D k : Nat} {rs : List (List UInt8)} {i : Nat} {M M' : Lg} {F F' : Nat → Prop} {g : Int} (h : AppAt L w0 lv D k rs i wr M F) (hs : SyncTo M true g M') (ha : L.At w' w0.heap.size lv D M' true F') (hm : Moved F wr w' F') :
    g = 0 ∧ AppAt L w0 lv D k rs i w' M' F' ∧ M'.sure = M.recs.length := by
  have ho := L.at_own h.at_
  have hb := h.below.trans (hm.below (fun j hj => (ho.2 j hj).1) ho.1)
  rcases hs with ⟨h1, _⟩ | ⟨_, hg, rfl⟩ | ⟨_, h1, _⟩
  · rw [h.down] at h1; cases h1
  · refine ⟨hg, ⟨ha, hb, h.down, h.first, h.drop, h.places, h.recs, fun hk => ?_, h.small, h.used⟩, rfl⟩
    have h1 := h.sure hk
    have h2 := (L.at_ok h.at_).sure
    show k ≤ M.recs.length
    omega
  · cases h1
theorem AppAt.append {L : LogSpec} {w0 wr w' : World} {lv : Value} {D k : Nat} {rs : List (List UInt8)} {i : Nat} {M M' : Lg} {F F' : Nat → Prop} {z g : Int} (h : AppAt L w0 lv D k rs i wr M F) (hsu : SureFor k i M) (hi : i < rs.length) (h12 : rs.length ≤ 12) (hl : (rs.getD i []).length ≤ 1400)
    (hs : AppendTo M true (rs.getD i []) z g M') (ha : L.At w' w0.heap.size lv D M' true F') (hm : Moved F wr w' F') : g = 0 ∧ AppAt L w0 lv D k rs (i + 1) w' M' F' := by
  have ho := L.at_own h.at_
  have hb := h.below.trans (hm.below (fun j hj => (ho.2 j hj).1) ho.1)
  have ht : M.taken ≤ 3 * i := by
    have h1 := taken_small h.small
    unfold Lg.taken
    rw [h.recs]
    rw [List.length_take] at h1
    omega
  have hp : partsN (rs.getD i []).length ≤ 3 := by unfold partsN; split <;> omega
  have hpl := h.places
  have htk : rs.take (i + 1) = rs.take i ++ [rs.getD i []] := by
    rw [List.take_succ_eq_append_getElem hi, List.getD_eq_getElem?_getD, List.getElem?_eq_getElem hi]
    rfl
  rcases hs with ⟨h1, _⟩ | ⟨_, h1, _⟩ | ⟨_, _, hg, _, rfl⟩ | ⟨_, _, h1, _⟩
  · rw [h.down] at h1; cases h1
  · omega
  · refine ⟨hg, ⟨ha, hb, h.down, h.first, h.drop, h.places, ?_, fun hk => hsu (by omega), ?_, by have := h.used; show M.used + 1 ≤ i + 1; omega⟩⟩
    · show M.recs ++ [rs.getD i []] = rs.take (i + 1)
      rw [h.recs, htk]
    · rw [htk]
      intro r hr
      rcases List.mem_append.1 hr with h1 | h1
      · exact h.small r h1
      · rw [List.mem_singleton.1 h1]; exact hl
  · cases h1

end Go.Proofs.YtgfoekbdmgljbaaDoor

namespace Go.Proofs.YtgfoekbdmgljbaaDoor
open Go.ChangeShapes Go.WideShapes Go.ChangeAt Go.RowKit

/-- Bytes as they are read: whatever they are. -/
theorem read_bytesY {H : Type} {enc : TypeId × Value → H} {W : World} {fuel : Nat} {v : Value} {x : DataW H × List MemPlace}
    (h : DataW.trod enc Tryd.prog W 0 (fun _ => true) true fuel 35 [v] = some x) (hlt : ∀ y ∈ x.2, y.block < W.heap.size) :
    ∃ (A : Option Addr) (c : Nat) (l : List UInt8), v = .slice A l.length c ∧ Row W W.heap.size A (l.map bc) ∧ l.length ≤ maxLen ∧ l.length ≤ c := by
  rcases open_ints Tryd.underlying35 Tryd.underlying5 u8_cells h with ⟨hcs, hx⟩ | ⟨a, len, cap, zs, hcs, _, hl, hm, hz, hx, hcell, hwz⟩
  · exact ⟨none, 0, [], by simpa using hcs, Row.empty _ _ _, Nat.zero_le _, Nat.le_refl _⟩
  · simp only [List.cons.injEq, and_true] at hcs
    subst hcs
    subst hx
    simp only [if_true] at hz
    have hlen : ((zs.take len).map fun n => UInt8.ofNat n.toNat).length = len := by simp; omega
    refine ⟨some a, cap, (zs.take len).map fun n => UInt8.ofNat n.toNat, by rw [hlen], fun hne => ?_, by rw [hlen]; omega, by rw [hlen]; exact hl⟩
    have hpos : 0 < zs.length := by
      rcases zs with _ | ⟨z, zs⟩
      · simp at hne
      · simp
    obtain ⟨b, off, spot⟩ := a
    have hspot : spot = none := by simpa [Addr.add] using World.cell?_spot (hcell 0 hpos)
    subst hspot
    refine ⟨b, off, rfl, hlt (.cell b off) (MemPlace.mem_row.2 ⟨0, hpos, by simp⟩), fun j u hu => ?_⟩
    have hjl : j < len := by
      have := (List.getElem?_eq_some_iff.1 hu).1
      simp at this
      omega
    have hj : j < zs.length := by omega
    have h1 := hcell j hj
    rw [addr_add] at h1
    rw [h1]
    have e : zs.getD j 0 = zs[j] := by simp [List.getD, List.getElem?_eq_getElem hj]
    rw [List.getElem?_map, List.getElem?_map, List.getElem?_take, if_pos hjl, List.getElem?_eq_getElem hj] at hu
    simp only [Option.map_some] at hu
    rw [← hu, e, bc_of_int _ (hwz _ (List.getElem_mem hj))]

theorem addr_add_addY (a : Addr) (m n : Nat) : (a.add m).add n = a.add (m + n) := by
  unfold Addr.add
  by_cases h1 : m = 0 <;> by_cases h2 : n = 0 <;> simp [h1, h2] <;> omega
theorem byts_cellsY : Tryd.prog.cellsOf 35 = 1 := by kernel_rfl
theorem int_cellsY : Tryd.prog.cellsOf 3 = 1 := by kernel_rfl
theorem u64_cellsY : Tryd.prog.cellsOf 36 = 1 := by kernel_rfl
theorem ay_cells : Tryd.prog.cellsOf 38 = 5 := by kernel_rfl

set_option maxRecDepth 20000 in
theorem open_row_ays {H : Type} {enc : TypeId × Value → H} {W : World} {base : Nat} {t : TypeId} {v : Value} {d : DataW H} {p : List MemPlace} (ht : Tryd.prog.underlying t = some (.slice 38))
    (hval : Value.okWide Tryd.prog W .any base t v) (h : DataW.Trod enc Tryd.prog W 0 (fun _ => true) true t v d p) (hlt : ∀ x ∈ p, x.block < W.heap.size) :
    ∃ (A : Option Addr) (c : Nat) (ps : List Ay), v = .slice A ps.length c ∧ AysIn W W.heap.size A ps ∧ ps.length ≤ maxLen := by
  obtain ⟨a0, len, cap, rfl⟩ := okWide_slice ht hval
  obtain ⟨fuel, hf⟩ := h
  rcases Deep.open_slice ht hf with ⟨hcs, hx⟩ | ⟨a, len', cap', m, n, D, Pl, hcs, _, hl, hm, hmm, hx, hy⟩
  · simp [Value.cells] at hcs
    obtain ⟨rfl, rfl, rfl⟩ := hcs
    exact ⟨none, 0, [], rfl, fun i h => absurd h (Nat.not_lt_zero _), Nat.zero_le _⟩
  · simp [Value.cells] at hcs
    obtain ⟨rfl, rfl, rfl⟩ := hcs
    simp only [if_true] at hmm
    subst hmm
    simp only [Prod.mk.injEq] at hx
    obtain ⟨rfl, rfl⟩ := hx
    rw [ay_cells] at hy hlt
    have each : ∀ i, i < len → ∃ y : List Value × Ay, (∀ j v, y.1[j]? = some v → W.cell? (a.add (i * 5 + j)) = some v) ∧ AyOf W W.heap.size y.1 y.2 := by
      intro i hi
      obtain ⟨cs, hc, hr⟩ := hy i (by omega)
      obtain ⟨xs, k, _, hx, _, hxl, hfs⟩ := DataW.trod_struct Tryd.underlying38 hr
      obtain ⟨_, hc5, hat⟩ := World.cells?_some hc
      have hpl : Pl i = xs.flatMap (·.2) := by simpa using congrArg Prod.snd hx
      have hin : ∀ z ∈ xs, ∀ y ∈ z.2, y.block < W.heap.size := fun z hz y hyz =>
        hlt y (List.mem_append_right _ (List.mem_flatMap.2 ⟨i, List.mem_range.2 (by omega), by rw [hpl]; exact List.mem_flatMap.2 ⟨z, hz, hyz⟩⟩))
      have hxl5 : xs.length = 5 := hxl
      clear hx hr hc hpl
      match cs, hc5, xs, hxl5, hfs, hin, hat with
      | [c0, c1, c2, c3, c4], _, [y0, y1, y2, y3, y4], _, hfs, hin, hat =>
        have g0 := hfs 0 _ rfl
        have g1 := hfs 1 _ rfl
        have g2 := hfs 2 _ rfl
        have g3 := hfs 3 _ rfl
        have g4 := hfs 4 _ rfl
        simp only [List.getElem?_cons_zero, List.getElem?_cons_succ] at g0 g1 g2 g3 g4
        obtain ⟨z0, e0, _, w0⟩ := DataW.trod_int Tryd.underlying3 g0
        obtain ⟨z1, e1, _, w1⟩ := DataW.trod_int Tryd.underlying3 g1
        obtain ⟨Ar, cr, l, e2, hRr, hl1, _⟩ := read_bytesY g2 (hin y2 (by simp))
        obtain ⟨z3, e3, _, w3⟩ := DataW.trod_int Tryd.underlying36 g3
        obtain ⟨z4, e4, _, w4⟩ := DataW.trod_int Tryd.underlying36 g4
        cases e0; cases e1; cases e3; cases e4
        subst e2
        obtain ⟨k3, rfl⟩ := u64_nat w3
        obtain ⟨k4, rfl⟩ := u64_nat w4
        refine ⟨([.int .i64 z0, .int .i64 z1, .slice Ar l.length cr, .int .u64 (k3 : Int), .int .u64 (k4 : Int)], ⟨z0, z1, l, k3, k4⟩), fun j v hj => ?_, Ar, cr, rfl, hRr, hl1, u64_lt w3, u64_lt w4⟩
        have hj5 : j < 5 := by simpa using (List.getElem?_eq_some_iff.1 hj).1
        have := hat j hj5
        rw [hj, addr_add_addY] at this
        exact this
    haveI : Inhabited (List Value × Ay) := ⟨([], ⟨0, 0, [], 0, 0⟩)⟩
    obtain ⟨Y, hY⟩ := Deep.choose_lt each
    have hnl : ((List.range len).map fun i => (Y i).2).length = len := by simp
    refine ⟨some a, m, (List.range len).map fun i => (Y i).2, by rw [hnl], fun i hi => ?_, by rw [hnl]; omega⟩
    rw [hnl] at hi
    obtain ⟨hcell, hp⟩ := hY i hi
    obtain ⟨b, off, spot⟩ := a
    have hspot : spot = none := by
      obtain ⟨hc0, A0, n0, hcs0, _⟩ := hY 0 (by omega)
      have h := World.cell?_spot (hc0 0 _ (by rw [hcs0]; rfl))
      simpa [Addr.add] using h
    subst hspot
    refine ⟨b, off, (Y i).1, rfl, hlt (.cell b off) (List.mem_append_left _ (MemPlace.mem_row.2 ⟨0, by omega, by simp⟩)), fun j v hj => ?_, by simpa using hp⟩
    have h1 := hcell j v hj
    rw [addr_add] at h1
    exact h1

theorem c64_of_int (n : Int) (h : (Lit.int .u64 n).wf = true) : Value.int .u64 n = c64 n.toNat := by
  have h1 : IntKind.u64.min = 0 := rfl
  simp only [Lit.wf, Bool.and_eq_true, decide_eq_true_eq] at h
  unfold c64
  congr 1
  omega
set_option maxRecDepth 20000 in
theorem open_row_u64 {H : Type} {enc : TypeId × Value → H} {W : World} {base : Nat} {v : Value} {d : DataW H} {p : List MemPlace}
    (hval : Value.okWide Tryd.prog W .any base 49 v) (h : DataW.Trod enc Tryd.prog W 0 (fun _ => true) true 49 v d p) (hlt : ∀ x ∈ p, x.block < W.heap.size) :
    ∃ (A : Option Addr) (m c : Nat) (l : List Nat), v = .slice A m c ∧ l.length = m ∧ Row W W.heap.size A (l.map c64) ∧ m ≤ maxLen ∧ ∀ x ∈ l, x < 18446744073709551616 := by
  obtain ⟨a0, len, cap, rfl⟩ := okWide_slice Tryd.underlying49 hval
  obtain ⟨fuel, hf⟩ := h
  rcases open_ints Tryd.underlying49 Tryd.underlying36 u64_cellsY hf with ⟨hcs, hx⟩ | ⟨a, len', cap', zs, hcs, _, hl, hm, hz, hx, hcell, hwz⟩
  · simp [Value.cells] at hcs
    obtain ⟨rfl, rfl, rfl⟩ := hcs
    exact ⟨none, 0, 0, [], rfl, rfl, Row.empty _ _ _, Nat.zero_le _, fun _ h => absurd h List.not_mem_nil⟩
  · simp [Value.cells] at hcs
    obtain ⟨rfl, rfl, rfl⟩ := hcs
    simp only [Prod.mk.injEq] at hx
    obtain ⟨rfl, rfl⟩ := hx
    simp only [if_true] at hz
    refine ⟨some a, len, cap, (zs.take len).map fun n => n.toNat, rfl, by simp; omega, fun hne => ?_, Nat.le_trans hl hm, fun x hx => ?_⟩
    rotate_left
    · obtain ⟨z, hz, rfl⟩ := List.mem_map.1 hx
      have h2 := hwz z (List.mem_of_mem_take hz)
      have h3 : IntKind.u64.max = 18446744073709551615 := rfl
      simp only [Lit.wf, Bool.and_eq_true, decide_eq_true_eq] at h2
      omega
    have hpos : 0 < zs.length := by
      rcases zs with _ | ⟨z, zs⟩
      · simp at hne
      · simp
    obtain ⟨b, off, spot⟩ := a
    have hspot : spot = none := by simpa [Addr.add] using World.cell?_spot (hcell 0 hpos)
    subst hspot
    refine ⟨b, off, rfl, hlt (.cell b off) (MemPlace.mem_row.2 ⟨0, hpos, by simp⟩), fun j u hu => ?_⟩
    have hjl : j < len := by
      have := (List.getElem?_eq_some_iff.1 hu).1
      simp at this
      omega
    have hj : j < zs.length := by omega
    have h1 := hcell j hj
    rw [addr_add] at h1
    rw [h1]
    have e : zs.getD j 0 = zs[j] := by simp [List.getD, List.getElem?_eq_getElem hj]
    rw [List.getElem?_map, List.getElem?_map, List.getElem?_take, if_pos hjl, List.getElem?_eq_getElem hj] at hu
    simp only [Option.map_some] at hu
    rw [← hu, e, c64_of_int _ (hwz _ (List.getElem_mem hj))]

end Go.Proofs.YtgfoekbdmgljbaaDoor

namespace Go.Proofs.YtgfoekbdmgljbaaDoor
open Go.ChangeShapes Go.WideShapes Go.ChangeAt Go.RowKit

set_option maxRecDepth 100000 in
theorem yacts_lifted (os : Os) (started : os.Started) (H : Type) (enc : TypeId × Value → H) :
    ReturnsInHanded {} Tryd.checked os 3 .any (fun w args => (Rows.seglogActsSpec.pre enc Tryd.prog Tryd.f3 [] false w args ∧ laidMetH Tryd.prog laidU w) ∧ sizedMet enc Tryd.prog Tryd.f3 (OpenSpec.ofChange Rows.seglogActsSpec) false w args)
      (Rows.seglogActsSpec.post enc Tryd.prog Tryd.f3 false true false false) := by
  refine returnsInHanded_of_change_and (C := Tryd.checked) (X := fun w _ => laidMetH Tryd.prog laidU w) (fun _ _ _ hh h => h.of_heap hh) Tryd.own started (by kernel_rfl) Tryd.func3
    (ChangeSpec.witness_shaped (enc := enc) (C := Tryd.checked) (os := os) (X := fun w _ => laidMetH Tryd.prog laidU w) false (World.laidAll Tryd.prog os laidU) #[.int .u8 0, .slice none 0 0] 8 (World.laidAll_os _ _ _)
      (World.shaped_of_ZipB (by kernel_rfl) (by kernel_rfl)) (by kernel_rfl) (by kernel_rfl) (by kernel_rfl)
      (by rw [MakeChecks.laidMetH_plain _ _ _ (by kernel_rfl)]; exact laidMet_laidAll _ (by kernel_rfl) (by kernel_rfl))) ?_
  intro W base args ds gs before hval0 hW _ hsz0 hL0 _
  have hL := vars_of_laid hL0
  clear hL0
  have hsz : (DataW.weightsEach Tryd.prog (Tryd.f3.params.toList ++ Rows.seglogActsSpec.plain.varTypes Tryd.prog) (ds ++ gs)).all (· ≤ reachBytes) = true := hsz0
  clear hsz0
  have hval : ∀ (j : Nat) t v, Tryd.f3.params[j]? = some t → args[j]? = some v → Value.okWide Tryd.prog W .any base t v := hval0
  have hW' := hW
  obtain ⟨p, q, hA0, hV, rfl, _, _⟩ := hW
  have hA : DataW.TrodAll enc Tryd.prog W 0 (fun _ => true) true Tryd.f3.params.toList args.toList ds p := hA0
  rw [Tryd.params3] at hA hval hsz
  obtain ⟨v0, v1, d0, d1, p0, p1, rfl, rfl, rfl, h0, h1⟩ := trodAll_two hA
  obtain ⟨rfl, rfl⟩ := trodVars_none hV
  obtain ⟨z0, rfl, rfl, rfl, w0⟩ := open_int Tryd.underlying5 (hval 0 5 v0 rfl rfl) h0
  obtain ⟨n0, rfl, hn0⟩ := u8_nat w0
  obtain ⟨A1, c1, l1, rfl, hr1, hm1⟩ := open_row_ays Tryd.underlying22 (hval 1 22 v1 rfl rfl) h1 (fun x hx => hW'.lt x (by simp [hx]))
  have key : Calls Tryd.prog 3 #[.int .u8 (n0 : Int), .slice A1 l1.length c1] W (TrueB W) := by
    exact yacts_any theLog n0 A1 c1 l1 W hL hr1 hm1 hn0
  refine key.mono fun e W' ⟨he, hb⟩ => ?_
  subst he
  exact ⟨_, rfl, law_post (P := Tryd.prog) (tb := 4) Tryd.laidOut (by kernel_rfl) (by kernel_rfl) (by kernel_rfl) Tryd.underlying4 rfl hW' rfl rfl rfl hb⟩

theorem yacts_holds : Rows.SeglogActsSaid :=
  OpenClaim.holds_of_wide 3 Tryd.f3 rfl rfl rfl rfl rfl rfl rfl ⟨rfl, rfl, rfl, rfl, rfl⟩ rfl rfl rfl rfl rfl (by kernel_rfl) Tryd.func3 (by kernel_rfl)
    (of_decide_eq_true (by kernel_rfl)) (by unfold Func.isWrapper; first | (rw [if_pos (by decide +kernel)]; kernel_rfl) | (rw [if_neg (by decide +kernel)]; exact ⟨rfl, rfl⟩))
    (fun os started H enc _ => yacts_lifted os started H enc)

theorem yacts_card : Rows.SeglogActsCardSaid :=
  Claim7.holds_tied_plain_at .later [] [.data, .data] true Rows.seglogActsCard.stood.harness false yacts_holds (fun _ h => by cases h) (by kernel_rfl) (fun _ h => by cases h) seglogActs_row_tie rfl ⟨rfl, rfl⟩ (by kernel_rfl) rfl
    (fun f fn hf hfn => by
      obtain rfl : f = 3 := Option.some.inj ((show Tryd.prog.funcNamed "gazetteer/gazetteerlaw11.SeglogActs" = some 3 by kernel_rfl).symm.trans hf) |>.symm
      obtain rfl : fn = Tryd.f3 := (Option.some.inj (Tryd.func3.symm.trans hfn)).symm
      exact ⟨by kernel_rfl, fun j t ht => by
        rw [Tryd.params3] at ht
        have hm : t ∈ [5, 22] := by simpa using Array.mem_of_getElem? ht
        have hall : ([5, 22].all fun u => !Tryd.prog.wantsStandIn u) = true := by kernel_rfl
        exact (show Tryd.prog.wantsStandIn t = false by simpa using List.all_eq_true.1 hall t hm)⟩)
    (by kernel_rfl)

end Go.Proofs.YtgfoekbdmgljbaaDoor
