/-
  WnameWrites: which bytes names, numbers and others are, one behind the other.
-/
import Derived.Test.YtmfcppolomkbfaaPair
import Derived.Test.YtmfcppolomkbfaaWAnswers
import Derived.Test.YtmfcppolomkbfaaSetsBad
namespace Go.Proofs.Ytmfcppolomkbfaa
open Go.RowKit

set_option maxRecDepth 100000 in
set_option maxHeartbeats 4000000 in
theorem writes_true (A : Option Addr) (c : Nat) (ps : List Pc) (w : World) (hP : PiecesIn w w.heap.size A ps) (hm : ps.length ≤ maxLen) :
    Calls Try.prog 3 #[.slice A ps.length c] w (TrueB w) := by
  unfold maxLen at hm
  obtain ⟨i0, hi0, hz0, hz1, hz2⟩ := info_parts u8_info
  obtain ⟨s0, hs0, hx0, hx1, hx2⟩ := info_parts str_info
  have HP := Lib.hid hP
  clear hP
  go_enter Try.func3, Try.ntmps3
  go_wp2_with fail
  refine (new_any _).mono ?_
  rintro e w1 ⟨rfl, hw1, hb1⟩
  have HPR := Lib.hid (Pair.new hw1)
  have HB1 := Lib.hid (hb1.alloc hb1.size (.cells #[.slice none 0 0, .slice none 0 0] 29))
  have hz1 : w.heap.size ≤ w1.heap.size := hb1.size
  clear hb1 hw1
  go_wp2_with fail
  refine (wanswers_any _).mono ?_
  rintro e w2 ⟨rfl, hb⟩
  have HPR2 := Lib.hid (HPR.out.below hb)
  have HB2 := Lib.hid (HB1.out.trans (hb.mono HB1.out.size))
  clear hb HPR HB1
  obtain ⟨g2, hg2⟩ : ∃ g2, g2 = w1.heap.size := ⟨_, rfl⟩
  rw [← hg2] at HPR2
  go_wp2_with fail
  rw [← hg2]
  clear hg2 hz1
  go_loopw [5] (WritesRel w ps w.heap.size g2) (fun i _ => ps.length - (intOf i).toNat)
  case atStart => exact ⟨0, _, _, [], [], _, _, _, Nat.zero_le _, Nat.zero_le _, rfl, HPR2.out, HB2.out, by simp, by simp, fun x hx => absurd hx (List.not_mem_nil)⟩
  case round =>
    obtain ⟨k, vB1, vM1, B, R, Fp, vB2, vR2, hk, hk60, rfl, hpr, hb, hB, hR, hR16⟩ := hrel
    have HPR := Lib.hid hpr
    have HB := Lib.hid hb
    have HR16 := Lib.hid hR16
    have hz : w.heap.size ≤ wr.heap.size := hb.size
    clear hpr hb hR16 HPR2 HB2
    by_cases hlt : k < ps.length
    · by_cases h60 : k < 60
      · obtain ⟨b, off, cs, rfl, hbH, hcells, hpc⟩ := HP.out k hlt
        have hpc' := hpc
        obtain ⟨An, cn, Ar, cr, hcs, hRn, hcn, _, _, hRr, hrm, wf3, _, _⟩ := hpc'
        generalize ps[k] = p at *
        subst hcs
        have HPC := Lib.hid hpc
        have HRN := Lib.hid hRn
        have HRR := Lib.hid hRr
        have hnn := (i64_le wf3).2
        have q0 : wr.cell? ⟨b, off + k * 6, none⟩ = some (.slice An p.name.length cn) := (HB.out.cell (p := ⟨b, off + k * 6, none⟩) hbH).trans (hcells 0 _ rfl)
        have q1 : wr.cell? ⟨b, off + k * 6 + 1, none⟩ = some (.bool p.short) := (HB.out.cell (p := ⟨b, off + k * 6 + 1, none⟩) hbH).trans (hcells 1 _ rfl)
        have q2 : wr.cell? ⟨b, off + k * 6 + 2, none⟩ = some (.slice Ar p.raw.length cr) := (HB.out.cell (p := ⟨b, off + k * 6 + 2, none⟩) hbH).trans (hcells 2 _ rfl)
        have q3 : wr.cell? ⟨b, off + k * 6 + 3, none⟩ = some (.int .i64 p.num) := (HB.out.cell (p := ⟨b, off + k * 6 + 3, none⟩) hbH).trans (hcells 3 _ rfl)
        have q4 : wr.cell? ⟨b, off + k * 6 + 4, none⟩ = some (.int .i64 p.size) := (HB.out.cell (p := ⟨b, off + k * 6 + 4, none⟩) hbH).trans (hcells 4 _ rfl)
        have q5 : wr.cell? ⟨b, off + k * 6 + 5, none⟩ = some (.int .i64 p.kind) := (HB.out.cell (p := ⟨b, off + k * 6 + 5, none⟩) hbH).trans (hcells 5 _ rfl)
        clear hcells hpc hRn hRr wf3
        obtain ⟨cs, hcs⟩ : ∃ cs : List Value, cs = [.slice An p.name.length cn, .bool p.short, .slice Ar p.raw.length cr, .int .i64 p.num, .int .i64 p.size, .int .i64 p.kind] := ⟨_, rfl⟩
        have hnew := (Below.refl wr.heap.size wr).alloc (Nat.le_refl _) (.cells cs.toArray 33)
        have HPRA := Lib.hid (HPR.out.below hnew)
        have HBA := Lib.hid (HB.out.trans (hnew.mono hz))
        have HWP := Lib.hid (heap_alloc_new wr (.cells cs.toArray 33))
        have hza : wr.heap.size ≤ (wr.alloc (.cells cs.toArray 33)).heap.size := by simp
        have HLI := Lib.hid (pc_light w.heap.size cs p (wr.alloc (.cells cs.toArray 33)) (by omega) (by have h := HPC.out.below HBA.out; rw [← hcs] at h; exact h))
        rw [hcs] at HPRA HBA HWP HLI
        clear hcs hza
        go_wp2_with fail
        refine HLI.out.mono ?_
        rintro e w3 ⟨rfl, hb3⟩
        have HPR3 := Lib.hid (HPRA.out.below hb3)
        have HB3 := Lib.hid (HBA.out.trans (hb3.mono (by simp; omega)))
        have HW3 := Lib.hid ((hb3.block wr.heap.size (by simp)).trans HWP.out)
        cases hli : p.light
        · go_wp2
          exact ⟨⟨k + 1, vB1, vM1, B, R, Fp, vB2, vR2, by omega, by omega, by go_num, HPR3.out, HB3.out, hB, by omega, HR16.out⟩, by simp [intOf]; omega⟩
        · obtain ⟨A2, c2, rfl, _, _⟩ := own_form HPR3.out.w2.row
          have m0 : w3.cell? ⟨g2, 0, none⟩ = some (.slice A2 B.length c2) := HPR3.out.w2.c0
          by_cases hbl : 60000 < B.length
          · have d3 : decide (60000 < (B.length : Int)) = true := by simp; omega
            go_wp2
            exact ⟨⟨k + 1, vB1, vM1, B, R, Fp, _, vR2, by omega, by omega, by go_num, HPR3.out, HB3.out, hB, by omega, HR16.out⟩, by simp [intOf]; omega⟩
          · have d3 : decide (60000 < (B.length : Int)) = false := by simp; omega
            have p0 : w3.cell? ⟨wr.heap.size, 0, none⟩ = some (.slice An p.name.length cn) := Whole.cell (L := [.slice An p.name.length cn, .bool p.short, .slice Ar p.raw.length cr, .int .i64 p.num, .int .i64 p.size, .int .i64 p.kind]) HW3.out 0
            have p1 : w3.cell? ⟨wr.heap.size, 1, none⟩ = some (.bool p.short) := Whole.cell (L := [.slice An p.name.length cn, .bool p.short, .slice Ar p.raw.length cr, .int .i64 p.num, .int .i64 p.size, .int .i64 p.kind]) HW3.out 1
            have p2 : w3.cell? ⟨wr.heap.size, 2, none⟩ = some (.slice Ar p.raw.length cr) := Whole.cell (L := [.slice An p.name.length cn, .bool p.short, .slice Ar p.raw.length cr, .int .i64 p.num, .int .i64 p.size, .int .i64 p.kind]) HW3.out 2
            have p3 : w3.cell? ⟨wr.heap.size, 3, none⟩ = some (.int .i64 p.num) := Whole.cell (L := [.slice An p.name.length cn, .bool p.short, .slice Ar p.raw.length cr, .int .i64 p.num, .int .i64 p.size, .int .i64 p.kind]) HW3.out 3
            have p4 : w3.cell? ⟨wr.heap.size, 4, none⟩ = some (.int .i64 p.size) := Whole.cell (L := [.slice An p.name.length cn, .bool p.short, .slice Ar p.raw.length cr, .int .i64 p.num, .int .i64 p.size, .int .i64 p.kind]) HW3.out 4
            have p5 : w3.cell? ⟨wr.heap.size, 5, none⟩ = some (.int .i64 p.kind) := Whole.cell (L := [.slice An p.name.length cn, .bool p.short, .slice Ar p.raw.length cr, .int .i64 p.num, .int .i64 p.size, .int .i64 p.kind]) HW3.out 5
            have hgp : ∀ j, ownF w.heap.size vB1 vM1 j → j ≠ wr.heap.size := fun j hj e => by have := (HPR.out.w1.own hj).2; omega
            have hgq : ∀ j, Fp j → j ≠ wr.heap.size := fun j hj e => by have := (HPR.out.w2.low j hj).2; omega
            have hz3 : wr.heap.size < w3.heap.size := by have h := hb3.size; simp at h; omega
            have HGP := Lib.hid hgp
            have HGQ := Lib.hid hgq
            have hB6 : B.length ≤ 60000 := by omega
            clear hgp hgq hb3 HPR HB HPRA HBA HWP
            by_cases k1 : p.kind = 1
            · have b1 : (p.kind == 1) = true := by rw [beq_iff_eq]; exact k1
              have hrl : p.raw.length ≤ 20000 := by
                simp only [Pc.light, Bool.and_eq_true, decide_eq_true_eq] at hli
                exact hli.1.2
              have hzw : w.heap.size ≤ w3.heap.size := by omega
              have HA := Lib.hid ((HRR.out.below HB3.out).alloc hzw (.cells #[] 5))
              go_wp2_with (
                at_builtin
                refine wpList_append_row rfl (.tmp 77) (.tmp 79) _ rfl w3.heap.size 5 i0 _ 1 1 Try.underlying26 hi0 hz0 hz1 hz2 rfl (by omega) (.slice (some ⟨w3.heap.size, 0, none⟩) 0 0) 0 [] rfl
                  (own_lit _ _ _) Ar p.raw.length cr w.heap.size (p.raw.map bc) rfl (by rw [List.length_map, Nat.mul_one]) HA.out (bc_one p.raw) (by unfold maxLen; omega) (by omega) (by simp) ?_
                intro va wa howna hga
                simp only [Nat.zero_add, List.nil_append] at howna
                obtain ⟨Aa, ca, rfl, _, _⟩ := own_form howna
                have HRa := Lib.hid (Row.of_own howna)
                have hba := own_below ((Below.refl w3.heap.size w3).alloc (Nat.le_refl _) _) (Nat.le_refl _) (by simp) (own_lit w3 5 1) hga
                have HPRa := Lib.hid (HPR3.out.below hba)
                have HBa := Lib.hid (HB3.out.trans (hba.mono hzw))
                have HWa := Lib.hid ((hba.block wr.heap.size hz3).trans HW3.out)
                have hza : wr.heap.size < wa.heap.size := Nat.lt_of_lt_of_le hz3 hba.size
                clear howna hga hba)
              refine (raw_any w.heap.size wa w.heap.size vB1 vM1 B R Aa p.raw.length ca wa.heap.size p.raw HPRa.out.w1 rfl HRa.out (by omega)).mono ?_
              rintro e w4 ⟨rfl, hp4⟩
              obtain ⟨_, _, _, hg4, _⟩ := id hp4
              have HW4 := Lib.hid ((hg4.block wr.heap.size hza (fun h => HGP.out _ h rfl)).trans HWa.out)
              have hz4 : wr.heap.size < w4.heap.size := Nat.lt_of_lt_of_le hza hg4.size
              obtain ⟨vB5, vM5, hpr4, hb4⟩ := HPRa.out.pen1 hp4
              have HPR4 := Lib.hid hpr4
              have HB4 := Lib.hid (HBa.out.trans hb4)
              have p2 : w4.cell? ⟨wr.heap.size, 2, none⟩ = some (.slice Ar p.raw.length cr) := Whole.cell (L := [.slice An p.name.length cn, .bool p.short, .slice Ar p.raw.length cr, .int .i64 p.num, .int .i64 p.size, .int .i64 p.kind]) HW4.out 2
              clear hp4 hg4 hpr4 hb4
              go_wp2_with fail
              refine (rraw_any w.heap.size w4 Fp g2 _ vR2 B R Ar p.raw.length cr p.raw HPR4.out.w2 rfl ((HRR.out.below HB4.out).mono (by omega)) (by omega)).mono ?_
              rintro e w5 ⟨rfl, hp5⟩
              obtain ⟨Gp, vB6, vR6, hpr5, hb5⟩ := HPR4.out.pen2 hp5
              have HPR5 := Lib.hid hpr5
              have HB5 := Lib.hid (HB4.out.trans hb5)
              clear hp5 hpr5 hb5
              obtain ⟨A5, c5, rfl, _, _⟩ := own_form HPR5.out.w2.row
              have HPRd := Lib.hid (HPR5.out.below (Below.refl _ _).drew)
              have m5 : w5.cell? ⟨g2, 0, none⟩ = some (.slice A5 (B ++ p.raw).length c5) := HPR5.out.w2.c0
              have HBd := Lib.hid HB5.out.drew
              clear HPR5 HB5
              go_wp2
              go_region_held3 (fun w' => w'.cell? ⟨g2, 0, none⟩ = some (.slice A5 (B ++ p.raw).length c5))
                (first | go_keep)
                ((go_at_call 19
                  refine (len_any w.heap.size _ w.heap.size vB5 vM5 (B ++ p.raw) R HPRd.out.w1).mono ?_
                  rintro e w6 ⟨rfl, rfl⟩))
              go_wp2
              exact ⟨⟨k + 1, vB5, vM5, B ++ p.raw, R, Gp, _, vR6, by omega, by omega, by go_num, HPRd.out, HBd.out, by simp; omega, by omega, HR16.out⟩, by simp [intOf]; omega⟩
            · by_cases k2 : p.kind = 2
              · have b1 : (p.kind == 1) = false := by rw [beq_eq_false_iff_ne]; exact k1
                have b2 : (p.kind == 2) = true := by rw [beq_iff_eq]; exact k2
                go_wp2_with fail
                refine (num_any w.heap.size w3 w.heap.size vB1 vM1 B R p.num p.size HPR3.out.w1 (by omega)).mono ?_
                rintro e w4 ⟨rfl, hp4⟩
                obtain ⟨_, _, _, hg4, _⟩ := id hp4
                have HW4 := Lib.hid ((hg4.block wr.heap.size hz3 (fun h => HGP.out _ h rfl)).trans HW3.out)
                have hz4 : wr.heap.size < w4.heap.size := Nat.lt_of_lt_of_le hz3 hg4.size
                obtain ⟨vB5, vM5, hpr4, hb4⟩ := HPR3.out.pen1 hp4
                have HPR4 := Lib.hid hpr4
                have HB4 := Lib.hid (HB3.out.trans hb4)
                have p3 : w4.cell? ⟨wr.heap.size, 3, none⟩ = some (.int .i64 p.num) := Whole.cell (L := [.slice An p.name.length cn, .bool p.short, .slice Ar p.raw.length cr, .int .i64 p.num, .int .i64 p.size, .int .i64 p.kind]) HW4.out 3
                have p4 : w4.cell? ⟨wr.heap.size, 4, none⟩ = some (.int .i64 p.size) := Whole.cell (L := [.slice An p.name.length cn, .bool p.short, .slice Ar p.raw.length cr, .int .i64 p.num, .int .i64 p.size, .int .i64 p.kind]) HW4.out 4
                clear hp4 hg4 hpr4 hb4
                go_wp2_with fail
                refine (rnum_any w.heap.size w4 Fp g2 _ vR2 B R p.num p.size HPR4.out.w2 (by omega) hnn).mono ?_
                rintro e w5 ⟨rfl, hp5⟩
                rw [putL_app] at hp5
                have h7 := putL_le7 p.num p.size
                generalize putL [] p.num p.size = l7 at *
                obtain ⟨Gp, vB6, vR6, hpr5, hb5⟩ := HPR4.out.pen2 hp5
                have HPR5 := Lib.hid hpr5
                have HB5 := Lib.hid (HB4.out.trans hb5)
                clear hp5 hpr5 hb5
                obtain ⟨A5, c5, rfl, _, _⟩ := own_form HPR5.out.w2.row
                have HPRd := Lib.hid (HPR5.out.below (Below.refl _ _).drew)
                have m5 : w5.cell? ⟨g2, 0, none⟩ = some (.slice A5 (B ++ l7).length c5) := HPR5.out.w2.c0
                have HBd := Lib.hid HB5.out.drew
                clear HPR5 HB5
                go_wp2
                go_region_held3 (fun w' => w'.cell? ⟨g2, 0, none⟩ = some (.slice A5 (B ++ l7).length c5))
                  (first | go_keep)
                  ((go_at_call 19
                    refine (len_any w.heap.size _ w.heap.size vB5 vM5 (B ++ l7) R HPRd.out.w1).mono ?_
                    rintro e w6 ⟨rfl, rfl⟩))
                go_wp2
                exact ⟨⟨k + 1, vB5, vM5, B ++ l7, R, Gp, _, vR6, by omega, by omega, by go_num, HPRd.out, HBd.out, by simp; omega, by omega, HR16.out⟩, by simp [intOf]; omega⟩
              · have b1 : (p.kind == 1) = false := by rw [beq_eq_false_iff_ne]; exact k1
                have b2 : (p.kind == 2) = false := by rw [beq_eq_false_iff_ne]; exact k2
                obtain ⟨hnl, hls⟩ : p.name.length ≤ 200 ∧ ∀ l ∈ p.name, l.length ≤ 300 := by
                  simp only [Pc.light, Bool.and_eq_true, decide_eq_true_eq, List.all_eq_true] at hli
                  exact ⟨hli.1.1, hli.2⟩
                have hsz : szN p.name ≤ p.name.length * (300 + 1) + 1 := szN_le 300 p.name hls
                have hzw : w.heap.size ≤ w3.heap.size := by omega
                have HAd := Lib.hid (show Row (w3.drew.alloc (.cells #[] 9)) w.heap.size An (p.name.map sv) from Row.alloc (Row.drew (HRN.out.below HB3.out)) hzw _)
                have HSO := Lib.hid (fun (W : World) hr => ref_sound_free An cn w.heap.size p.name W hr (by unfold maxLen; omega) (fun k h => by have := hls _ (List.getElem_mem h); unfold maxLen; omega))
                clear hls
                cases hs : soundN p.name
                · rw [hs] at HSO
                  have HSN := Lib.hid hs
                  clear hs
                  go_wp2
                  go_region_held3 (fun w' => w'.cell? ⟨wr.heap.size, 0, none⟩ = some (.slice An p.name.length cn) ∧ w'.cell? ⟨wr.heap.size, 1, none⟩ = some (.bool p.short))
                    (first | go_keep)
                    ((first
                      | (refine step_append_any rfl (.tmp 45) (.tmp 47) _ rfl w3.heap.size 9 s0 _ 1 16 Try.underlying31 hs0 hx0 hx1 hx2 rfl (by omega) (.slice (some ⟨w3.heap.size, 0, none⟩) 0 0) 0 [] rfl (own_lit w3.drew _ _) An p.name.length cn w.heap.size (p.name.map sv) rfl (by rw [List.length_map, Nat.mul_one]) HAd.out (sv_one _) (by unfold maxLen; omega) (by omega) (by simp) ?_
                         intro va wa howna hga
                         simp only [Nat.zero_add, List.nil_append] at howna
                         obtain ⟨Aa, ca, rfl, _, _⟩ := own_form howna
                         have HRa := Lib.hid (Row.of_own howna)
                         have hba : Below w3.heap.size w3 wa := own_below (((Below.refl w3.heap.size w3).drew).alloc (Nat.le_refl _) _) (Nat.le_refl _) (by simp) (own_lit w3.drew 9 1) hga
                         have HPRa := Lib.hid (HPR3.out.below hba)
                         have HBa := Lib.hid (HB3.out.trans (hba.mono hzw))
                         have HWa := Lib.hid ((hba.block wr.heap.size hz3).trans HW3.out)
                         have hza : wr.heap.size < wa.heap.size := Nat.lt_of_lt_of_le hz3 hba.size
                         have p0 : wa.cell? ⟨wr.heap.size, 0, none⟩ = some (.slice An p.name.length cn) := Whole.cell (L := [.slice An p.name.length cn, .bool p.short, .slice Ar p.raw.length cr, .int .i64 p.num, .int .i64 p.size, .int .i64 p.kind]) HWa.out 0
                         have p1 : wa.cell? ⟨wr.heap.size, 1, none⟩ = some (.bool p.short) := Whole.cell (L := [.slice An p.name.length cn, .bool p.short, .slice Ar p.raw.length cr, .int .i64 p.num, .int .i64 p.size, .int .i64 p.kind]) HWa.out 1
                         clear howna hga hba)
                      | (go_at_call 16
                         refine (name_bad wa w.heap.size Aa p.name.length ca wa.heap.size p.name p.short rfl HRa.out (by unfold maxLen; omega) HSN.out).mono ?_
                         rintro e w4 ⟨rfl, rfl⟩)))
                  go_wp2_with fail
                  refine (HSO.out _ (HRN.out.below HBa.out)).mono ?_
                  rintro e w5 ⟨rfl, rfl⟩
                  have HPRd := Lib.hid (HPRa.out.below (Below.refl _ _).drew)
                  have m5 : wa.cell? ⟨g2, 0, none⟩ = some (.slice A2 B.length c2) := HPRa.out.w2.c0
                  have HBd := Lib.hid HBa.out.drew
                  go_wp2
                  go_region_held3 (fun w' => w'.cell? ⟨g2, 0, none⟩ = some (.slice A2 B.length c2))
                    (first | go_keep)
                    ((go_at_call 19
                      refine (len_any w.heap.size _ w.heap.size vB1 vM1 B R HPRd.out.w1).mono ?_
                      rintro e w6 ⟨rfl, rfl⟩))
                  go_wp2
                  exact ⟨⟨k + 1, vB1, vM1, B, R, Fp, _, vR2, by omega, by omega, by go_num, HPRd.out, HBd.out, hB, by omega, HR16.out⟩, by simp [intOf]; omega⟩
                · rw [hs] at HSO
                  have HSN := Lib.hid hs
                  have hsz2 : szN p.name ≤ 255 := by
                    simp only [soundN, Bool.and_eq_true, decide_eq_true_eq] at hs
                    exact hs.2
                  clear hs
                  go_wp2
                  go_region_held3 (fun w' => w'.cell? ⟨wr.heap.size, 0, none⟩ = some (.slice An p.name.length cn) ∧ w'.cell? ⟨wr.heap.size, 1, none⟩ = some (.bool p.short))
                    (first | go_keep)
                    ((first
                      | (refine step_append_any rfl (.tmp 45) (.tmp 47) _ rfl w3.heap.size 9 s0 _ 1 16 Try.underlying31 hs0 hx0 hx1 hx2 rfl (by omega) (.slice (some ⟨w3.heap.size, 0, none⟩) 0 0) 0 [] rfl (own_lit w3.drew _ _) An p.name.length cn w.heap.size (p.name.map sv) rfl (by rw [List.length_map, Nat.mul_one]) HAd.out (sv_one _) (by unfold maxLen; omega) (by omega) (by simp) ?_
                         intro va wa howna hga
                         simp only [Nat.zero_add, List.nil_append] at howna
                         obtain ⟨Aa, ca, rfl, _, _⟩ := own_form howna
                         have HRa := Lib.hid (Row.of_own howna)
                         have hba : Below w3.heap.size w3 wa := own_below (((Below.refl w3.heap.size w3).drew).alloc (Nat.le_refl _) _) (Nat.le_refl _) (by simp) (own_lit w3.drew 9 1) hga
                         have HPRa := Lib.hid (HPR3.out.below hba)
                         have HBa := Lib.hid (HB3.out.trans (hba.mono hzw))
                         have HWa := Lib.hid ((hba.block wr.heap.size hz3).trans HW3.out)
                         have hza : wr.heap.size < wa.heap.size := Nat.lt_of_lt_of_le hz3 hba.size
                         have p0 : wa.cell? ⟨wr.heap.size, 0, none⟩ = some (.slice An p.name.length cn) := Whole.cell (L := [.slice An p.name.length cn, .bool p.short, .slice Ar p.raw.length cr, .int .i64 p.num, .int .i64 p.size, .int .i64 p.kind]) HWa.out 0
                         have p1 : wa.cell? ⟨wr.heap.size, 1, none⟩ = some (.bool p.short) := Whole.cell (L := [.slice An p.name.length cn, .bool p.short, .slice Ar p.raw.length cr, .int .i64 p.num, .int .i64 p.size, .int .i64 p.kind]) HWa.out 1
                         clear howna hga hba)
                      | (go_at_call 16
                         refine (name_sound w.heap.size wa w.heap.size vB1 vM1 B R Aa p.name.length ca wa.heap.size p.name p.short HPRa.out.w1 rfl HRa.out (Nat.le_refl _) HSN.out (by omega) (by omega) (fun r hr => (HR16.out r hr).1)).mono ?_
                         rintro e w4 ⟨rfl, hp4⟩
                         obtain ⟨_, _, _, hg4, _⟩ := id hp4
                         have HW4 := Lib.hid ((hg4.block wr.heap.size hza (fun h => HGP.out _ h rfl)).trans HWa.out)
                         have hz4 : wr.heap.size < w4.heap.size := Nat.lt_of_lt_of_le hza hg4.size
                         obtain ⟨vB5, vM5, hpr4, hb4⟩ := HPRa.out.pen1 hp4
                         have HPR4 := Lib.hid hpr4
                         have HB4 := Lib.hid (HBa.out.trans hb4)
                         have p0 : w4.cell? ⟨wr.heap.size, 0, none⟩ = some (.slice An p.name.length cn) := Whole.cell (L := [.slice An p.name.length cn, .bool p.short, .slice Ar p.raw.length cr, .int .i64 p.num, .int .i64 p.size, .int .i64 p.kind]) HW4.out 0
                         have p1 : w4.cell? ⟨wr.heap.size, 1, none⟩ = some (.bool p.short) := Whole.cell (L := [.slice An p.name.length cn, .bool p.short, .slice Ar p.raw.length cr, .int .i64 p.num, .int .i64 p.size, .int .i64 p.kind]) HW4.out 1
                         clear hp4 hg4 hpr4 hb4)))
                  go_wp2_with fail
                  refine (HSO.out _ (HRN.out.below HB4.out)).mono ?_
                  rintro e w' ⟨rfl, rfl⟩
                  go_wp2_with fail
                  refine (rname_any w.heap.size w4 Fp g2 _ vR2 B R An cn w.heap.size p.name p.short HPR4.out.w2 (HRN.out.below HB4.out) (Nat.le_refl _) hcn HSN.out (by omega) (by omega) HR16.out).mono ?_
                  rintro e w5 ⟨rfl, hp5⟩
                  obtain ⟨Gp, vB6, vR6, hpr5, hb5⟩ := HPR4.out.pen2 hp5
                  have HPR5 := Lib.hid hpr5
                  have HB5 := Lib.hid (HB4.out.trans hb5)
                  clear hp5 hpr5 hb5
                  have hlB := length_nameW_le p.short p.name B R (by have h := HSN.out; simp only [soundN, Bool.and_eq_true] at h; exact h.1)
                  have hlR := length_nameW_rests p.short p.name B R
                  have HKR := Lib.hid (nameW_kept p.short p.name B R HR16.out (by omega))
                  generalize (nameW p.short p.name B R).1 = B6 at *
                  generalize (nameW p.short p.name B R).2 = R6 at *
                  obtain ⟨A5, c5, rfl, _, _⟩ := own_form HPR5.out.w2.row
                  have HPRd := Lib.hid (HPR5.out.below (Below.refl _ _).drew)
                  have m5 : w5.cell? ⟨g2, 0, none⟩ = some (.slice A5 B6.length c5) := HPR5.out.w2.c0
                  have HBd := Lib.hid HB5.out.drew
                  clear HPR5 HB5
                  have hnl2 : p.name.length ≤ 255 := by omega
                  go_wp2
                  go_region_held3 (fun w' => w'.cell? ⟨g2, 0, none⟩ = some (.slice A5 B6.length c5))
                    (first | go_keep)
                    ((go_at_call 19
                      refine (len_any w.heap.size _ w.heap.size vB5 vM5 B6 R6 HPRd.out.w1).mono ?_
                      rintro e w6 ⟨rfl, rfl⟩))
                  go_wp2
                  exact ⟨⟨k + 1, vB5, vM5, B6, R6, Gp, _, vR6, by omega, by omega, by go_num, HPRd.out, HBd.out, by omega, by omega, HKR.out⟩, by simp [intOf]; omega⟩
      · obtain ⟨A2, c2, rfl, _, _⟩ := own_form HPR.out.w2.row
        have HPRd := Lib.hid (HPR.out.below (Below.refl _ _).drew)
        have HBd := Lib.hid HB.out.drew
        have hzd : w.heap.size ≤ wr.drew.heap.size := hz
        have m0 : wr.cell? ⟨g2, 0, none⟩ = some (.slice A2 B.length c2) := HPR.out.w2.c0
        clear HPR HB
        go_wp2
        go_region_held3 (fun w' => w'.cell? ⟨g2, 0, none⟩ = some (.slice A2 B.length c2))
          (first | go_keep)
          ((first
            | (go_at_call 21
               refine (bytes_any w.heap.size _ w.heap.size vB1 vM1 B R HPRd.out.w1 (by omega)).mono ?_
               rintro e w7 ⟨A7, c7, rfl, ho7, hb7⟩
               have HR7 := Lib.hid (Row.of_own ho7)
               have HR27 := Lib.hid (Row.of_own (HPRd.out.below hb7).w2.row)
               have m7 : w7.cell? ⟨g2, 0, none⟩ = some (.slice A2 B.length c2) := (HPRd.out.below hb7).w2.c0
               have HB7 := Lib.hid (HBd.out.trans (hb7.mono hzd))
               clear ho7 hb7)
            | (go_at_call 20
               refine (same_yes _ A2 B.length B.length _ c2 _ B _ rfl rfl HR7.out HR27.out (by unfold maxLen; omega)).mono ?_
               rintro e w8 ⟨rfl, k8, rfl⟩
               have HB8 := Lib.hid (below_drewN' HB7.out k8))))
        go_wp2
        go_ret
        exact ⟨rfl, HB8.out⟩
    · obtain rfl : k = ps.length := by omega
      obtain ⟨A2, c2, rfl, _, _⟩ := own_form HPR.out.w2.row
      have HPRd := Lib.hid (HPR.out.below (Below.refl _ _).drew)
      have HBd := Lib.hid HB.out.drew
      have hzd : w.heap.size ≤ wr.drew.heap.size := hz
      have m0 : wr.cell? ⟨g2, 0, none⟩ = some (.slice A2 B.length c2) := HPR.out.w2.c0
      clear HPR HB
      go_wp2
      go_region_held3 (fun w' => w'.cell? ⟨g2, 0, none⟩ = some (.slice A2 B.length c2))
        (first | go_keep)
        ((first
          | (go_at_call 21
             refine (bytes_any w.heap.size _ w.heap.size vB1 vM1 B R HPRd.out.w1 (by omega)).mono ?_
             rintro e w7 ⟨A7, c7, rfl, ho7, hb7⟩
             have HR7 := Lib.hid (Row.of_own ho7)
             have HR27 := Lib.hid (Row.of_own (HPRd.out.below hb7).w2.row)
             have m7 : w7.cell? ⟨g2, 0, none⟩ = some (.slice A2 B.length c2) := (HPRd.out.below hb7).w2.c0
             have HB7 := Lib.hid (HBd.out.trans (hb7.mono hzd))
             clear ho7 hb7)
          | (go_at_call 20
             refine (same_yes _ A2 B.length B.length _ c2 _ B _ rfl rfl HR7.out HR27.out (by unfold maxLen; omega)).mono ?_
             rintro e w8 ⟨rfl, k8, rfl⟩
             have HB8 := Lib.hid (below_drewN' HB7.out k8))))
      go_wp2
      go_ret
      exact ⟨rfl, HB8.out⟩

end Go.Proofs.Ytmfcppolomkbfaa
