/-
  The contract of settle.
-/
import Derived.Test.YthjcpficpiddaaaDoorVWriteA
import Derived.Laws.Bits64b
namespace Go.Proofs.YthjcpficpiddaaaDoor
open Go.RowKit

theorem wrap_pow (k : Nat) : IntKind.u64.wrap (2 ^ (k % 64)) = ((2 ^ (k % 64) : Nat) : Int) := by
  have h1 : k % 64 < 64 := Nat.mod_lt _ (by decide)
  have h2 : 2 ^ (k % 64) < 2 ^ 64 := Nat.pow_lt_pow_right (by decide) h1
  have e : (2 : Int) ^ (k % 64) = ((2 ^ (k % 64) : Nat) : Int) := by rw [Int.natCast_pow]; rfl
  have hw : ∀ n : Nat, n < 2 ^ 64 → IntKind.u64.wrap (n : Int) = (n : Int) := fun n hn => by
    show ((n : Int) % 18446744073709551616) = n
    omega
  rw [e]
  exact hw _ h2
theorem and_pow (a j : Nat) : a &&& 2 ^ j = if a.testBit j = true then 2 ^ j else 0 := by
  apply Nat.eq_of_testBit_eq
  intro i
  rw [Nat.testBit_and, Nat.testBit_two_pow]
  by_cases h : j = i
  · subst h
    cases e : a.testBit j <;> simp
  · cases e : a.testBit j <;> simp [h]
theorem bit_fact (a k : Nat) (ha : a < 18446744073709551616) : (bits .and .u64 (a : Int) (IntKind.u64.wrap (2 ^ (k % 64))) != 0) = bitAt a k := by
  have h1 : k % 64 < 64 := Nat.mod_lt _ (by decide)
  have h2 : 2 ^ (k % 64) < 2 ^ 64 := Nat.pow_lt_pow_right (by decide) h1
  rw [wrap_pow, bits_and_u64_nat a _ ha (by simpa using h2), and_pow]
  unfold bitAt
  cases a.testBit (k % 64) with
  | false => rfl
  | true =>
    have : (0 : Nat) < 2 ^ (k % 64) := Nat.pow_pos (by decide)
    rw [if_pos rfl]
    exact bne_iff_ne.2 (by omega)
theorem wpStill_build1 {P : Program} {ops : Array Oper} {rest : List Oper} {o : Oper} {a : Act} {w : World} {Q : Act → Prop} (hgd : o.guard = none) (t : TypeId) (k : Nat) (x : Operand) (ho : o.op = .build t #[(k, x)]) (v : Value) (hx : a.eval x = v)
    (cells : Array Value) (hf : P.built t [(k, v)] = some cells) (h : wpStill P ops w Q rest (a.put o.dst (.agg cells))) : wpStill P ops w Q (o :: rest) a := by
  refine wpStill_step fun K hK => ?_
  rw [if_pos (by simp [Region.wanted, hgd])]
  have hm : (#[(k, x)] : Array (Nat × Operand)).map (fun (i, x) => (i, a.eval x)) = #[(k, v)] := by simp [hx]
  unfold Oper.still execOp
  simp only [ho, hm, Sem.run_bind, run_build w t _ cells hf, Result.andThen_ok]
  exact ⟨rfl, hK _ h⟩

/-- What is known within settle's loops. -/
structure Set1 (w : World) (base : Nat) (d bn cn bs cs : Nat) (u : Value) (x : Dv) (S N : List Sec) (wr : World) : Prop where
  blk : Whole wr d 42 (devCells ⟨d, bn, cn, bs, cs, u⟩ x.sure.length x.limit x.down)
  now : wr.ownsRow base 68 513 (.slice (some ⟨bn, 0, none⟩) x.sure.length cn) x.sure.length (cellsS N)
  sure : wr.ownsRow base 68 513 (.slice (some ⟨bs, 0, none⟩) x.sure.length cs) x.sure.length (cellsS S)
  uns : wr.ownsRow base 70 514 u x.uns.length (cellsU x.uns)
  grew : Grew (Lies.own ⟨d, bn, cn, bs, cs, u⟩) w wr
section
variable {w : World} {base d bn cn bs cs : Nat} {u : Value} {x : Dv} {S N S' N' : List Sec} {wr V : World}
theorem Set1.keep (h : Set1 w base d bn cn bs cs u x S N wr) (hb : Below wr.heap.size wr V) : Set1 w base d bn cn bs cs u x S N V :=
  ⟨h.blk.keep (hb.block _ h.blk.lt), own_keep h.now fun g e => hb.block g (h.now.lt g e).2, own_keep h.sure fun g e => hb.block g (h.sure.lt g e).2, own_keep h.uns fun g e => hb.block g (h.uns.lt g e).2, h.grew.then_below hb⟩
theorem Set1.far (_ : Set1 w base d bn cn bs cs u x S N wr) (hd : DevAt w base ⟨d, bn, cn, bs, cs, u⟩ x) : (∀ g, u.ownBlock = some g → g ≠ bn ∧ g ≠ bs) ∧ d ≠ bn ∧ d ≠ bs :=
  ⟨fun g e => ⟨fun e2 => hd.un (by rw [← e2]; exact e), fun e2 => hd.us (by rw [← e2]; exact e)⟩, hd.dn, hd.ds⟩
/-- One sector of what is sure is another one. -/
theorem Set1.sure_ (h : Set1 w base d bn cn bs cs u x S N wr) (hd : DevAt w base ⟨d, bn, cn, bs, cs, u⟩ x) (hS : okS S) (hl : S.length = x.sure.length) {p : Nat} {s : Sec} (hp : p < x.sure.length) (hs : s.data.length = 512)
    (hV : V.ownsRow base 68 513 (.slice (some ⟨bs, 0, none⟩) x.sure.length cs) x.sure.length (splice (cellsS S) (p * 513) s.cells)) (hg : Grew (fun j => j = bs) wr V) : Set1 w base d bn cn bs cs u x (S.set p s) N V := by
  obtain ⟨h1, h2, h3⟩ := h.far hd
  have e : splice (cellsS S) (p * 513) s.cells = cellsS (S.set p s) := flat_set (f := Sec.cells) hS.cells (by omega) (Sec.length_cells hs)
  rw [e] at hV
  exact ⟨h.blk.grew hg h3, own_grew h.now hg (fun g e e2 => hd.ne (by simp [Value.ownBlock] at e; rw [← e2]; exact e)), hV, own_grew h.uns hg (fun g e e2 => (h1 g e).2 e2), h.grew.trans hg fun j hj => .inl (.inr (.inr (.inl hj)))⟩
theorem Set1.now_ (h : Set1 w base d bn cn bs cs u x S N wr) (hd : DevAt w base ⟨d, bn, cn, bs, cs, u⟩ x) (hS : okS N) (hl : N.length = x.sure.length) {p : Nat} {s : Sec} (hp : p < x.sure.length) (hs : s.data.length = 512)
    (hV : V.ownsRow base 68 513 (.slice (some ⟨bn, 0, none⟩) x.sure.length cn) x.sure.length (splice (cellsS N) (p * 513) s.cells)) (hg : Grew (fun j => j = bn) wr V) : Set1 w base d bn cn bs cs u x S (N.set p s) V := by
  obtain ⟨h1, h2, h3⟩ := h.far hd
  have e : splice (cellsS N) (p * 513) s.cells = cellsS (N.set p s) := flat_set (f := Sec.cells) hS.cells (by omega) (Sec.length_cells hs)
  rw [e] at hV
  exact ⟨h.blk.grew hg h2, hV, own_grew h.sure hg (fun g e e2 => hd.ne (by simp [Value.ownBlock] at e; rw [e]; exact e2.symm)), own_grew h.uns hg (fun g e e2 => (h1 g e).1 e2), h.grew.trans hg fun j hj => .inl (.inr (.inl hj))⟩
end
def Rel1 (w : World) (base : Nat) (d bn cn bs cs : Nat) (u : Value) (x : Dv) (mk t : Nat) (i : Value) (wr : World) : Prop :=
  ∃ k : Nat, k ≤ x.uns.length ∧ i = .int .i64 k ∧ Set1 w base d bn cn bs cs u x (crashN mk t x.uns x.sure k) x.now wr
def Rel2 (w : World) (base : Nat) (d bn cn bs cs : Nat) (u : Value) (x : Dv) (S : List Sec) (i : Value) (wr : World) : Prop :=
  ∃ k : Nat, k ≤ x.uns.length ∧ i = .int .i64 k ∧ Set1 w base d bn cn bs cs u x S (copyN x.uns S x.now k) wr
theorem grew_rec {F : Nat → Prop} {w V : World} (h : Grew F { w with drawn := w.drawn + 1 } V) : Grew F w V := ⟨h.os, h.tape, h.output, h.size, h.block⟩
/-- The end of settle. -/
theorem settle_fin {w : World} {base d bn cn bs cs : Nat} {u : Value} {x : Dv} {mk t : Nat} {wr V : World} (hd : DevAt w base ⟨d, bn, cn, bs, cs, u⟩ x)
    (h : Set1 w base d bn cn bs cs u x (crashN mk t x.uns x.sure x.uns.length) (crashN mk t x.uns x.sure x.uns.length) wr) (hV : V = wr.setCell ⟨d, 2, none⟩ (.slice none 0 0)) : Went base w ⟨d, bn, cn, bs, cs, u⟩ (x.settled mk t) V := by
  subst hV
  have hg : Grew (fun j => j = d) wr (wr.setCell ⟨d, 2, none⟩ (.slice none 0 0)) := grew_one _ _ _ _
  have el : (x.settled mk t).sure.length = x.sure.length := length_crashN _
  refine ⟨⟨d, bn, cn, bs, cs, .slice none 0 0⟩, rfl, ⟨?_, ?_, ?_, World.ownsRow_nil _ _ _ _, hd.ne, hd.ld, hd.ok.settled mk t⟩, ?_, fun j hj => ?_⟩
  · rw [el]; exact h.blk.set_ 2 _
  · rw [el]; exact own_grew h.now hg fun g e e2 => hd.dn (e2.symm.trans (Lies.own_vn e))
  · rw [el]; exact own_grew h.sure hg fun g e e2 => hd.ds (e2.symm.trans (Lies.own_vs e))
  · exact h.grew.trans hg fun j hj => .inl (.inl hj)
  · rcases hj with hj | hj | hj | hj
    · exact .inl (.inl hj)
    · exact .inl (.inr (.inl hj))
    · exact .inl (.inr (.inr (.inl hj)))
    · cases hj

set_option maxRecDepth 4000 in
set_option maxHeartbeats 1000000 in
theorem dev_settle (w : World) (base : Nat) (m : Lies) (x : Dv) (h : DevAt w base m x) (mk t : Nat) (hm : mk < 18446744073709551616) (ht : t < 18446744073709551616) (hu : x.uns.length < 4294967296) :
    Calls Tryd.prog 19 #[.pointer (some ⟨m.d, 0, none⟩), .int .u64 mk, .int .u64 t] w (fun e w' => e = .returned (.tuple #[]) ∧ Went base w m (x.settled mk t) w') := by
  obtain ⟨d, bn, cn, bs, cs, u⟩ := m
  obtain ⟨Au, cu, rfl, _, _⟩ := own_form h.uns
  have H := Lib.hid h
  have c2 : w.cell? ⟨d, 2, none⟩ = some (.slice Au x.uns.length cu) := h.blk.cell 2
  have hs1 : Set1 w base d bn cn bs cs (.slice Au x.uns.length cu) x x.sure x.now w := ⟨h.blk, h.now, h.sure, h.uns, Grew.refl _ _⟩
  have HS1 := Lib.hid hs1
  have hfew := h.ok.few
  clear h hs1
  go_enter Tryd.func19, Tryd.ntmps19
  go_wp2
  go_loopw [16] (Rel1 w base d bn cn bs cs (.slice Au x.uns.length cu) x mk t) (fun i _ => x.uns.length - (intOf i).toNat)
  case atStart => exact ⟨0, Nat.zero_le _, rfl, HS1.out⟩
  case round =>
    obtain ⟨k, hk, rfl, hs⟩ := hrel
    have HS := Lib.hid hs
    by_cases hlt : k < x.uns.length
    · obtain ⟨g, rfl⟩ := own_some hs.uns (by omega)
      have HKD := Lib.hid (show okS (crashN mk t x.uns x.sure k) ∧ (crashN mk t x.uns x.sure k).length = x.sure.length from ⟨ok_crashN H.out.ok.s H.out.ok.u k, length_crashN k⟩)
      have huw : x.uns[k].place < x.sure.length ∧ x.uns[k].data.length = 512 := H.out.ok.u _ (List.getElem_mem hlt)
      have HSTEP := Lib.hid (crashN_succ (m := mk) (t := t) (us := x.uns) (l := x.sure) hlt)
      obtain ⟨uk, huk⟩ : ∃ uk, uk = x.uns[k] := ⟨_, rfl⟩
      have HSTEP2 := Lib.hid (show crashN mk t x.uns x.sure (k + 1) = stepC mk t (crashN mk t x.uns x.sure k) k uk from by rw [huk]; exact HSTEP.out)
      rw [← huk] at huw
      have HUK := Lib.hid huk
      have hp := huw.1
      have HUW := Lib.hid huw
      have hbt := bit_fact t k ht
      have hbm := bit_fact mk k hm
      clear huw huk hs HSTEP
      cases htb : bitAt t k with
      | true =>
        rw [htb] at hbt
        have HB := Lib.hid htb
        clear htb hbm
        have hplace : ∀ V : World, Whole V wr.heap.size 70 uk.cells → V.cell? ⟨wr.heap.size, 0, none⟩ = some (.int .i64 uk.place) := fun V h => h.cell 0
        have HPL := Lib.hid hplace
        clear hplace
        go_wp2_with (first
          | (refine wpList_load_own rfl 70 (.tmp 19) rfl g (k * 514) rfl uk.cells _ Tryd.underlying70 rfl ?c1 base 70 514 _ cu (cellsU x.uns) HS.out.uns ?c2 ?_
             case c1 => rw [Wri.length_cells HUW.out.2]; exact wri_size
             case c2 => intro j v hv; rw [HUK.out] at hv; exact cellsU_get H.out.ok.u hlt hv)
          | (refine wpList_alloc_zero rfl 70 rfl _ wri_zero ?_)
          | (refine wpList_store_at rfl 70 (.tmp 7) (.tmp 20) rfl wr.heap.size 0 uk.cells rfl rfl _ _ (Whole.made _ _ _) ?c1 ?c2 (Wri.one _) ?_
             case c1 => rw [Wri.length_cells HUW.out.2, Wri.length_cells length_zero512]; decide
             case c2 => rw [Wri.length_cells HUW.out.2]; exact wri_size
             intro V hWV hGV hVS
             rw [splice_full (by rw [Wri.length_cells HUW.out.2, Wri.length_cells length_zero512])] at hWV
             have HWV := Lib.hid hWV
             have hbv : Below wr.heap.size wr V := (Grew.below (B := wr.heap.size) hGV (fun j hj => by rw [hj]; exact Nat.le_refl _) (by simp)).of_alloc
             have HSV := Lib.hid (HS.out.keep hbv)
             clear hWV hGV hVS hbv))
        have cp : V.cell? ⟨wr.heap.size, 0, none⟩ = some (.int .i64 uk.place) := HPL.out V HWV.out
        have cs1 : V.cell? ⟨d, 1, none⟩ = some (.slice (some ⟨bs, 0, none⟩) x.sure.length cs) := HSV.out.blk.cell 1
        refine wp_region_still_tail 8 (by kernel_rfl) (by kernel_rfl) ?_
        simp only [List.take_succ_cons, List.take_zero, List.drop_succ_cons, List.drop_zero]
        repeat (first
          | (refine wpStill_build1 rfl 68 1 (.const (.bool true)) rfl _ rfl _ built_torn ?_)
          | still_step)
        refine wpStill_nil ?_
        refine wpList_store_own rfl 68 (.tmp 35) (.tmp 34) rfl bs (uk.place * 513) _ rfl rfl base 68 513 x.sure.length cs _ (own_keep HSV.out.sure fun _ _ => rfl) ?d1 ?d2 (Sec.one _) ?_
        case d1 => rw [HKD.out.1.length, HKD.out.2, Sec.length_cells (s := secTorn) length_zero512]; omega
        case d2 => rw [Sec.length_cells (s := secTorn) length_zero512]; exact sec_size
        intro V4 hV4 hG4 hS4
        have HSV4 := Lib.hid (HSV.out.sure_ H.out HKD.out.1 HKD.out.2 hp length_zero512 hV4 (grew_rec hG4))
        clear hV4 hG4 hS4 cp cs1
        go_wp2
        refine ⟨⟨k + 1, by omega, by go_num, ?_⟩, by simp [intOf]; omega⟩
        rw [HSTEP2.out]
        unfold stepC
        rw [if_pos HB.out]
        exact HSV4.out
      | false =>
        rw [htb] at hbt
        have HB := Lib.hid htb
        clear htb
        cases hmb : bitAt mk k with
        | true =>
          rw [hmb] at hbm
          have HM := Lib.hid hmb
          clear hmb
          have hplace : ∀ V : World, Whole V wr.heap.size 70 uk.cells → V.cell? ⟨wr.heap.size, 0, none⟩ = some (.int .i64 uk.place) := fun V h => h.cell 0
          have HPL := Lib.hid hplace
          clear hplace
          go_wp2_with (first
            | (refine wpList_load_own rfl 70 (.tmp 19) rfl g (k * 514) rfl uk.cells _ Tryd.underlying70 rfl ?c1 base 70 514 _ cu (cellsU x.uns) HS.out.uns ?c2 ?_
               case c1 => rw [Wri.length_cells HUW.out.2]; exact wri_size
               case c2 => intro j v hv; rw [HUK.out] at hv; exact cellsU_get H.out.ok.u hlt hv)
            | (refine wpList_alloc_zero rfl 70 rfl _ wri_zero ?_)
            | (refine wpList_store_at rfl 70 (.tmp 7) (.tmp 20) rfl wr.heap.size 0 uk.cells rfl rfl _ _ (Whole.made _ _ _) ?c1 ?c2 (Wri.one _) ?_
               case c1 => rw [Wri.length_cells HUW.out.2, Wri.length_cells length_zero512]; decide
               case c2 => rw [Wri.length_cells HUW.out.2]; exact wri_size
               intro V hWV hGV hVS
               rw [splice_full (by rw [Wri.length_cells HUW.out.2, Wri.length_cells length_zero512])] at hWV
               have HWV := Lib.hid hWV
               have hbv : Below wr.heap.size wr V := (Grew.below (B := wr.heap.size) hGV (fun j hj => by rw [hj]; exact Nat.le_refl _) (by simp)).of_alloc
               have HSV := Lib.hid (HS.out.keep hbv)
               clear hWV hGV hVS hbv))
          have cp : V.cell? ⟨wr.heap.size, 0, none⟩ = some (.int .i64 uk.place) := HPL.out V HWV.out
          have cs1 : V.cell? ⟨d, 1, none⟩ = some (.slice (some ⟨bs, 0, none⟩) x.sure.length cs) := HSV.out.blk.cell 1
          have HRG := Lib.hid (show V.rangeAt wr.heap.size 1 uk.sec.cells from HWV.out.range fun j v hv => by rw [Nat.add_comm]; simpa [Wri.cells] using hv)
          refine wp_region_still_tail 9 (by kernel_rfl) (by kernel_rfl) ?_
          simp only [List.take_succ_cons, List.take_zero, List.drop_succ_cons, List.drop_zero]
          repeat (first
            | (refine wpStill_load_mid rfl 68 (.tmp 46) rfl wr.heap.size 1 rfl uk.sec.cells _ (fun j v h => HRG.out j v h) Tryd.underlying68 rfl (by rw [Sec.length_cells (s := uk.sec) HUW.out.2]; exact sec_size) ?_)
            | still_step)
          refine wpStill_nil ?_
          refine wpList_store_own rfl 68 (.tmp 48) (.tmp 47) rfl bs (uk.place * 513) _ rfl rfl base 68 513 x.sure.length cs _ (own_keep HSV.out.sure fun _ _ => rfl) ?d1 ?d2 (Sec.one _) ?_
          case d1 => rw [HKD.out.1.length, HKD.out.2, Sec.length_cells (s := uk.sec) HUW.out.2]; omega
          case d2 => rw [Sec.length_cells (s := uk.sec) HUW.out.2]; exact sec_size
          intro V4 hV4 hG4 hS4
          have HSV4 := Lib.hid (HSV.out.sure_ H.out HKD.out.1 HKD.out.2 hp HUW.out.2 hV4 (grew_rec hG4))
          clear hV4 hG4 hS4 cp cs1
          go_wp2
          refine ⟨⟨k + 1, by omega, by go_num, ?_⟩, by simp [intOf]; omega⟩
          rw [HSTEP2.out]
          unfold stepC
          rw [if_neg (by rw [HB.out]; decide), if_pos HM.out]
          exact HSV4.out
        | false =>
          rw [hmb] at hbm
          have HM := Lib.hid hmb
          clear hmb
          have hplace : ∀ V : World, Whole V wr.heap.size 70 uk.cells → V.cell? ⟨wr.heap.size, 0, none⟩ = some (.int .i64 uk.place) := fun V h => h.cell 0
          have HPL := Lib.hid hplace
          clear hplace
          go_wp2_with (first
            | (refine wpList_load_own rfl 70 (.tmp 19) rfl g (k * 514) rfl uk.cells _ Tryd.underlying70 rfl ?c1 base 70 514 _ cu (cellsU x.uns) HS.out.uns ?c2 ?_
               case c1 => rw [Wri.length_cells HUW.out.2]; exact wri_size
               case c2 => intro j v hv; rw [HUK.out] at hv; exact cellsU_get H.out.ok.u hlt hv)
            | (refine wpList_alloc_zero rfl 70 rfl _ wri_zero ?_)
            | (refine wpList_store_at rfl 70 (.tmp 7) (.tmp 20) rfl wr.heap.size 0 uk.cells rfl rfl _ _ (Whole.made _ _ _) ?c1 ?c2 (Wri.one _) ?_
               case c1 => rw [Wri.length_cells HUW.out.2, Wri.length_cells length_zero512]; decide
               case c2 => rw [Wri.length_cells HUW.out.2]; exact wri_size
               intro V hWV hGV hVS
               rw [splice_full (by rw [Wri.length_cells HUW.out.2, Wri.length_cells length_zero512])] at hWV
               have HWV := Lib.hid hWV
               have hbv : Below wr.heap.size wr V := (Grew.below (B := wr.heap.size) hGV (fun j hj => by rw [hj]; exact Nat.le_refl _) (by simp)).of_alloc
               have HSV := Lib.hid (HS.out.keep hbv)
               clear hWV hGV hVS hbv))
          refine ⟨⟨k + 1, by omega, by go_num, ?_⟩, by simp [intOf]; omega⟩
          rw [HSTEP2.out]
          unfold stepC
          rw [if_neg (by rw [HB.out]; decide), if_neg (by rw [HM.out]; decide)]
          exact HSV.out
    · obtain rfl : k = x.uns.length := by omega
      have c2r : wr.cell? ⟨d, 2, none⟩ = some (.slice Au x.uns.length cu) := hs.blk.cell 2
      clear hs
      obtain ⟨S, hS⟩ : ∃ S, S = crashN mk t x.uns x.sure x.uns.length := ⟨_, rfl⟩
      have hfin := settled (m := mk) (t := t) (us := x.uns) (l := x.sure)
      have hks : okS S ∧ S.length = x.sure.length := by rw [hS]; exact ⟨ok_crashN H.out.ok.s H.out.ok.u _, length_crashN _⟩
      rw [← hS] at hfin
      have HSE := Lib.hid hS
      have HFIN := Lib.hid (show copyN x.uns S x.now x.uns.length = S from hfin)
      have HKS := Lib.hid hks
      have HS := Lib.hid (show Set1 w base d bn cn bs cs (.slice Au x.uns.length cu) x S x.now wr by rw [hS]; exact HS.out)
      clear hS hfin hks
      go_wp2
      obtain ⟨wo, rfl⟩ : ∃ wo : World, wo = wr := ⟨_, rfl⟩
      go_loopw [55] (Rel2 w base d bn cn bs cs (.slice Au x.uns.length cu) x S) (fun i _ => x.uns.length - (intOf i).toNat)
      case atStart => exact ⟨0, Nat.zero_le _, rfl, HS.out⟩
      case round =>
        obtain ⟨k, hk2, rfl, hs⟩ := hrel
        have HS := Lib.hid hs
        by_cases hlt : k < x.uns.length
        · obtain ⟨g, rfl⟩ := own_some hs.uns (by omega)
          have HKD := Lib.hid (show okS (copyN x.uns S x.now k) ∧ (copyN x.uns S x.now k).length = x.sure.length from ⟨ok_copyN HKS.out.1 H.out.ok.now k, by rw [length_copyN]; exact x.length_now⟩)
          have huw : x.uns[k].place < x.sure.length ∧ x.uns[k].data.length = 512 := H.out.ok.u _ (List.getElem_mem hlt)
          have HSTEP := Lib.hid (copyN_succ (us := x.uns) (S := S) (l := x.now) hlt)
          obtain ⟨uk, huk⟩ : ∃ uk, uk = x.uns[k] := ⟨_, rfl⟩
          have HSTEP2 := Lib.hid (show copyN x.uns S x.now (k + 1) = (copyN x.uns S x.now k).set uk.place (S.getD uk.place secZero) from by rw [huk]; exact HSTEP.out)
          rw [← huk] at huw
          have HUK := Lib.hid huk
          have hp := huw.1
          have HUW := Lib.hid huw
          clear huw huk hs HSTEP
          have hplace : ∀ V : World, Whole V wr.heap.size 70 uk.cells → V.cell? ⟨wr.heap.size, 0, none⟩ = some (.int .i64 uk.place) := fun V h => h.cell 0
          have HPL := Lib.hid hplace
          clear hplace
          go_wp2_with (first
            | (refine wpList_load_own rfl 70 (.tmp 57) rfl g (k * 514) rfl uk.cells _ Tryd.underlying70 rfl ?c1 base 70 514 _ cu (cellsU x.uns) HS.out.uns ?c2 ?_
               case c1 => rw [Wri.length_cells HUW.out.2]; exact wri_size
               case c2 => intro j v hv; rw [HUK.out] at hv; exact cellsU_get H.out.ok.u hlt hv)
            | (refine wpList_alloc_zero rfl 70 rfl _ wri_zero ?_)
            | (refine wpList_store_at rfl 70 (.tmp 10) (.tmp 58) rfl wr.heap.size 0 uk.cells rfl rfl _ _ (Whole.made _ _ _) ?c1 ?c2 (Wri.one _) ?_
               case c1 => rw [Wri.length_cells HUW.out.2, Wri.length_cells length_zero512]; decide
               case c2 => rw [Wri.length_cells HUW.out.2]; exact wri_size
               intro V hWV hGV hVS
               rw [splice_full (by rw [Wri.length_cells HUW.out.2, Wri.length_cells length_zero512])] at hWV
               have HWV := Lib.hid hWV
               have hbv : Below wr.heap.size wr V := (Grew.below (B := wr.heap.size) hGV (fun j hj => by rw [hj]; exact Nat.le_refl _) (by simp)).of_alloc
               have HSV := Lib.hid (HS.out.keep hbv)
               clear hWV hGV hVS hbv))
          have cp : V.cell? ⟨wr.heap.size, 0, none⟩ = some (.int .i64 uk.place) := HPL.out V HWV.out
          have cs0 : V.cell? ⟨d, 0, none⟩ = some (.slice (some ⟨bn, 0, none⟩) x.sure.length cn) := HSV.out.blk.cell 0
          have cs1 : V.cell? ⟨d, 1, none⟩ = some (.slice (some ⟨bs, 0, none⟩) x.sure.length cs) := HSV.out.blk.cell 1
          obtain ⟨sk, hsk⟩ : ∃ sk, sk = S.getD uk.place secZero := ⟨_, rfl⟩
          have hlen : sk.data.length = 512 := by rw [hsk]; exact ok_getD HKS.out.1 _
          have HSK := Lib.hid hsk
          have HLEN := Lib.hid hlen
          have HRG := Lib.hid (show V.rangeAt bs (uk.place * 513) sk.cells from own_range HSV.out.sure fun j v hv => by
            have hpl : uk.place < S.length := by rw [HKS.out.2]; exact hp
            have e : S.getD uk.place secZero = S[uk.place] := by rw [List.getD_eq_getElem?_getD, List.getElem?_eq_getElem hpl]; rfl
            rw [HSK.out, e] at hv
            exact cellsS_get HKS.out.1 hpl hv)
          clear hlen hsk
          refine wp_region_still_tail 15 (by kernel_rfl) (by kernel_rfl) ?_
          simp only [List.take_succ_cons, List.take_zero, List.drop_succ_cons, List.drop_zero]
          repeat (first
            | (refine wpStill_load_mid rfl 68 (.tmp 71) rfl bs (uk.place * 513) rfl sk.cells _ (fun j v h => HRG.out j v h) Tryd.underlying68 rfl (by rw [Sec.length_cells HLEN.out]; exact sec_size) ?_)
            | still_step)
          refine wpStill_nil ?_
          refine wpList_store_own rfl 68 (.tmp 73) (.tmp 72) rfl bn (uk.place * 513) _ rfl rfl base 68 513 x.sure.length cn _ (own_keep HSV.out.now fun _ _ => rfl) ?d1 ?d2 (Sec.one _) ?_
          case d1 => rw [HKD.out.1.length, HKD.out.2, Sec.length_cells HLEN.out]; omega
          case d2 => rw [Sec.length_cells HLEN.out]; exact sec_size
          intro V4 hV4 hG4 hS4
          have HSV4 := Lib.hid (HSV.out.now_ H.out HKD.out.1 HKD.out.2 hp HLEN.out hV4 (grew_rec hG4))
          clear hV4 hG4 hS4 cp cs0 cs1
          go_wp2
          refine ⟨⟨k + 1, by omega, by go_num, ?_⟩, by simp [intOf]; omega⟩
          rw [HSTEP2.out, ← HSK.out]
          exact HSV4.out
        · obtain rfl : k = x.uns.length := by omega
          have c2e : wr.cell? ⟨d, 2, none⟩ = some (.slice Au x.uns.length cu) := hs.blk.cell 2
          have z2e : wr.frozen? ⟨d, 2, none⟩ = false := hs.blk.frozen 2
          clear hs
          go_wp2
          refine Great.bodyPost_end0 rfl rfl ⟨rfl, settle_fin H.out ?_ rfl⟩
          have h := HS.out
          rw [HFIN.out] at h
          rw [← HSE.out]
          exact h

end Go.Proofs.YthjcpficpiddaaaDoor
