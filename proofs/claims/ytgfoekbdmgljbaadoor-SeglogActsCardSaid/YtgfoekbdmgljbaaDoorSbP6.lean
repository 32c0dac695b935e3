/-
  Plain mathematics of how a record is read part by part. No program is walked.
-/
import Derived.Test.YtgfoekbdmgljbaaDoorSbP1
import Derived.Test.YtgfoekbdmgljbaaDoorSbP5
import Derived.Deep.RegionHeld3
import Derived.Test.YtgfoekbdmgljbaaDoorSbP3
import Derived.Deep.LoopGhost
import Derived.Outline
import Derived.Deep.CutRange
import Derived.Deep.CutBlock
import Derived.Deep.RegionLaw
namespace Go.Proofs.YtgfoekbdmgljbaaDoor
open Go.RowKit

/-- What is seen are heads of whole numbers, with few bytes. -/
def ViewOk (V : View) : Prop := ∀ i h b, V i = some (h, b) → (∃ k e s p n : Nat, h = ⟨k, e, s, p, n⟩ ∧ n < 256 ∧ p < n ∧ e < 4294967296) ∧ b.length ≤ 496
theorem openV_ok {l : List UInt8} {h : SH} {b : List UInt8} (he : openV l = some (h, b)) : (∃ k e s p n : Nat, h = ⟨k, e, s, p, n⟩ ∧ n < 256 ∧ p < n ∧ e < 4294967296) ∧ b.length ≤ 496 := by
  unfold openV at he
  split at he
  · rename_i h0
    have e := Option.some.inj he
    have e1 : openH l = h := congrArg Prod.fst e
    have e2 : openB l = b := congrArg Prod.snd e
    have hm : madeB l = true := by
      unfold openE at h0
      split at h0
      · cases h0
      · split at h0
        · assumption
        · cases h0
    have hH : openH l = readH l := by unfold openH; rw [if_pos h0]
    have hB : openB l = (l.drop 16).take (readC l) := by unfold openB; rw [if_pos h0]
    unfold madeB at hm
    simp only [Bool.and_eq_true, decide_eq_true_eq] at hm
    obtain ⟨⟨⟨⟨h1, _⟩, _⟩, h4⟩, _⟩ := hm
    have lt : ∀ a k, numN (cutL l a k) < 256 ^ k := fun a k => by
      have h2 := numN_lt (cutL l a k)
      have h3 : (cutL l a k).length ≤ k := by unfold cutL; rw [List.length_take]; omega
      exact Nat.lt_of_lt_of_le h2 (Nat.pow_le_pow_right (by decide) h3)
    refine ⟨⟨_, _, _, _, _, by rw [← e1, hH]; rfl, lt 13 1, ?_, lt 1 4⟩, by rw [← e2, hB, List.length_take]; omega⟩
    have h5 : ((numN (cutL l 12 1) : Nat) : Int) < ((numN (cutL l 13 1) : Nat) : Int) := h4
    omega
  · cases he
theorem viewS_ok (S : List Sec) : ViewOk (viewS S) := fun i h b e => by
  unfold viewS secV at e
  split at e
  · cases e
  · exact openV_ok e
theorem viewU_ok {V : View} (hV : ViewOk V) (us : List Wri) : ViewOk (viewU us V) := fun i h b e => by
  unfold viewU at e
  split at e
  · exact openV_ok e
  · exact hV i h b e

section
variable {V : View} {P a seq e n : Nat}
/-- So far i parts were read, L. -/
structure LoadInv (V : View) (P a seq e n i : Nat) (L : List UInt8) : Prop where
  parts : ∀ j, j < i → V (arN P (a + j)) = some (recH e seq j n, chunk L j)
  hi : L.length ≤ i * 496
  lo : (i - 1) * 496 ≤ L.length
theorem LoadInv.zero : LoadInv V P a seq e n 0 [] := ⟨fun _ h => absurd h (Nat.not_lt_zero _), Nat.zero_le _, Nat.zero_le _⟩
theorem chunk_left {L b : List UInt8} {j : Nat} (h : j * 496 + 496 ≤ L.length) : chunk (L ++ b) j = chunk L j := by
  have h1 : j * 496 ≤ L.length := Nat.le_of_add_right_le h
  have h2 : 496 ≤ (L.drop (j * 496)).length := by rw [List.length_drop]; exact Nat.le_sub_of_add_le' h
  unfold chunk
  rw [List.drop_append_of_le_length h1, List.take_append_of_le_length h2]
theorem chunk_right {L b : List UInt8} {j : Nat} (h : L.length = j * 496) (hb : b.length ≤ 496) : chunk (L ++ b) j = b := by
  unfold chunk
  rw [← h, List.drop_left, List.take_of_length_le hb]
theorem LoadInv.next {i : Nat} {L b : List UInt8} (h : LoadInv V P a seq e n i L) (hv : V (arN P (a + i)) = some (recH e seq i n, b)) (hb : b.length ≤ 496) (hl : L.length = i * 496) : LoadInv V P a seq e n (i + 1) (L ++ b) := by
  refine ⟨fun j hj => ?_, by rw [List.length_append]; omega, by rw [List.length_append]; omega⟩
  rcases Nat.lt_or_ge j i with h1 | h1
  · rw [chunk_left (j := j) (by omega)]
    exact h.parts j h1
  · obtain rfl : j = i := by omega
    rw [chunk_right hl hb]
    exact hv
theorem LoadInv.yes {L : List UInt8} (h : LoadInv V P a seq e n n L) (h1 : L.length ≤ 16384) (h2 : partsN L.length = n) : RecIn V P a seq e L := by
  subst h2
  exact ⟨h1, fun i hi => h.parts i hi⟩
/-- What stands first, is of this epoch, and of so many parts. -/
def FirstAt (V : View) (P a e n : Nat) : Prop := ∃ (k s p : Nat) (b : List UInt8), V (arN P a) = some (⟨k, e, s, p, n⟩, b)
theorem FirstAt.rec_ {ep : Nat} {r : List UInt8} (h : FirstAt V P a e n) (hr : RecIn V P a seq ep r) : ep = e ∧ partsN r.length = n := by
  obtain ⟨k, s, p, b, hv⟩ := h
  have h0 := (hr.all 0 (partsN_pos _)).symm.trans hv
  have h1 : recH ep seq 0 (partsN r.length) = ⟨k, e, s, p, n⟩ := congrArg Prod.fst (Option.some.inj h0)
  unfold recH at h1
  injection h1 with _ h2 _ _ h3
  omega
theorem FirstAt.no1 (h : FirstAt V P a e n) {i : Nat} (hi : i < n) (hv : V (arN P (a + i)) = none) (ep : Nat) (r : List UInt8) : ¬ RecIn V P a seq ep r := fun hr => by
  obtain ⟨rfl, rfl⟩ := h.rec_ hr
  have := hr.all i hi
  rw [hv] at this
  cases this
theorem FirstAt.no2 (h : FirstAt V P a e n) {i : Nat} (hi : i < n) {x : SH} {b : List UInt8} (hv : V (arN P (a + i)) = some (x, b)) (hx : x ≠ recH e seq i n) (ep : Nat) (r : List UInt8) : ¬ RecIn V P a seq ep r := fun hr => by
  obtain ⟨rfl, rfl⟩ := h.rec_ hr
  have := hr.all i hi
  rw [hv] at this
  exact hx (congrArg Prod.fst (Option.some.inj this))
theorem FirstAt.no3 (h : FirstAt V P a e n) {i : Nat} (hi : i < n) {L : List UInt8} (hv : LoadInv V P a seq e n i L) (hl : L.length ≠ i * 496) (ep : Nat) (r : List UInt8) : ¬ RecIn V P a seq ep r := fun hr => by
  obtain ⟨rfl, rfl⟩ := h.rec_ hr
  have h1 := hv.hi
  have h2 := hv.lo
  rcases Nat.eq_zero_or_pos i with rfl | h0
  · omega
  · have h3 := (hv.parts (i - 1) (by omega)).symm.trans (hr.all (i - 1) (by omega))
    have h4 : chunk L (i - 1) = chunk r (i - 1) := congrArg Prod.snd (Option.some.inj h3)
    have h5 := chunk_full (r := r) (i := i - 1) (by omega)
    rw [← h4] at h5
    unfold chunk at h5
    rw [List.length_take, List.length_drop] at h5
    omega
theorem FirstAt.no4 (h : FirstAt V P a e n) {L : List UInt8} (hv : LoadInv V P a seq e n n L) (hl : ¬ (L.length ≤ 16384 ∧ partsN L.length = n)) (ep : Nat) (r : List UInt8) : ¬ RecIn V P a seq ep r := fun hr => by
  obtain ⟨rfl, rfl⟩ := h.rec_ hr
  have e1 : L = r := by
    apply List.ext_getElem?
    intro j
    by_cases hj : j / 496 < partsN r.length
    · have h3 := (hv.parts (j / 496) hj).symm.trans (hr.all (j / 496) hj)
      have h4 : chunk L (j / 496) = chunk r (j / 496) := congrArg Prod.snd (Option.some.inj h3)
      rw [chunk_get, chunk_get r, h4]
    · have h1 := hv.hi
      have h2 := length_parts r
      rw [List.getElem?_eq_none (by omega), List.getElem?_eq_none (by omega)]
  subst e1
  exact hl ⟨hr.len, rfl⟩
end

end Go.Proofs.YtgfoekbdmgljbaaDoor

namespace Go.Proofs.YtgfoekbdmgljbaaDoor
open Go.RowKit

def LoadOut (w : World) (V : View) (P a seq : Nat) (e : Ending) (w' : World) : Prop :=
  ∃ hh v E, e = .returned (.tuple #[SH.val hh, v, .int .i64 E]) ∧ Below w.heap.size w w' ∧
    ((∃ ep r, RecIn V P a seq ep r ∧ E = 0 ∧ hh = recH ep seq 0 (partsN r.length) ∧ w'.ownsRow w.heap.size 5 1 v r.length (r.map bc)) ∨ ((∀ ep r, ¬ RecIn V P a seq ep r) ∧ E ≠ 0))
theorem told_still {P : Program} {f : FuncId} {args : Array Value} {w : World} {v : Value} {k : Nat} (h : Calls P f args (w.drewN k) (Told (w.drewN k) v)) : Calls P f args (w.drewN k) fun e w' => e = .returned v ∧ ∃ m, w' = w.drewN m :=
  h.mono fun _ _ ⟨he, hw⟩ => ⟨he, k, hw.symm⟩
def wantCells (e seq q n : Nat) : List Value := [.int .i64 2, .int .i64 (e : Int), .int .i64 (seq : Int), .int .i64 (q : Int), .int .i64 (n : Int)]
theorem recH_same {x : SH} {e seq i n : Nat} : x.same (recH e seq i n) = false ↔ x ≠ recH e seq i n := by
  rw [← Bool.not_eq_true, SH.same_iff]
/-- What is known at the beginning of a round. -/
def LoadRel (V : View) (P a seq e n : Nat) (w : World) (B1 : Nat) (first : SH) (out i : Value) (wr : World) : Prop :=
  ∃ (k q : Nat) (L : List UInt8), k ≤ n ∧ i = .int .i64 k ∧ LoadInv V P a seq e n k L ∧ wr.ownsRow w.heap.size 5 1 out L.length (L.map bc) ∧
    Whole wr w.heap.size 79 hzero.cells ∧ Whole wr B1 79 first.cells ∧ Whole wr (B1 + 1) 79 (wantCells e seq q n) ∧ Below w.heap.size w wr

section
variable {w0 w : World} {D : Nat} {x : Dv} {o : Lo} {g : Lm} {F : Nat → Prop}
set_option maxHeartbeats 2000000 in
set_option maxRecDepth 4000 in
theorem load_rec (h : LmAt w0 w D x o g F) (hd : x.down = false) (hus : g.us.length ≤ 4094) (hP : 0 < g.places) (hP2 : g.places ≤ 4094) (hx : x.sure.length = g.places + 2) (a : Nat) (ha : 2 ≤ a) (ha2 : a < g.places + 2) (seq : Nat) (_ : seq ≤ 36028797018963968) :
    Calls Tryd.prog 37 #[lptr o, .int .i64 (seq : Int), .int .i64 (a : Int)] w (LoadOut w (seeL g x) g.places a seq) := by
  have HH := Lib.hid h
  have hV : ViewOk (seeL g x) := viewU_ok (viewS_ok _) _
  obtain ⟨V, hVe⟩ : ∃ V, seeL g x = V := ⟨_, rfl⟩
  obtain ⟨P, hPe⟩ : ∃ P, g.places = P := ⟨_, rfl⟩
  rw [hVe] at hV
  rw [hPe] at hP hP2 hx ha2 ⊢
  have HPE := Lib.hid hPe
  have ho : ∀ W, Below w.heap.size w W → ∀ b, b < P + 2 → Calls Tryd.prog 48 #[.pointer (some ⟨o.l, 0, none⟩), .int .i64 (b : Int)] W (SeenOut W (V b)) := fun W hb b hl => by
    have := opened_any (HH.out.below hb) hd hus b (by rw [hx]; exact hl)
    rw [hVe] at this
    exact this
  have har : ∀ W, Below w.heap.size w W → ∀ b : Nat, 2 ≤ b → b ≤ 10000 → Calls Tryd.prog 43 #[.pointer (some ⟨o.l, 0, none⟩), .int .i64 (b : Int)] W (Told W (.int .i64 (arN P b : Int))) := fun W hb b h2 hl => by
    have := around_any (HH.out.below hb) b h2 (by omega) (by rw [hPe]; exact hP) (by rw [hPe]; exact hP2)
    rw [hPe] at this
    exact this
  have hbe : arN P a = a := arN_small ha ha2
  rw [hVe]
  have HO := Lib.hid ho
  have HAR := Lib.hid har
  have HV := Lib.hid hV
  have HA2 := Lib.hid (And.intro ha ha2)
  have HPP := Lib.hid (And.intro hP hP2)
  have HBE := Lib.hid hbe
  have HLT := Lib.hid h.lt
  have hab : a ≤ 4096 := by omega
  clear h hd hus hP hP2 hx hV hVe hPe ho har hbe ha ha2
  unfold lptr
  go_enter Tryd.func37, Tryd.ntmps37
  go_wp2_with fail
  refine (HO.out _ ((Below.refl _ _).alloc (Nat.le_refl _) _) a (by have := HA2.out; omega)).mono ?_
  rintro e w1 ⟨va, E, rfl, hE, hown1, hb1⟩
  have HW1 := Lib.hid ((Whole.made w hzero.cells 79).below hb1 (Whole.made w hzero.cells 79).lt)
  have HB1 := Lib.hid (((Below.refl w.heap.size w).alloc (Nat.le_refl _) (.cells hzero.cells.toArray 79)).trans (hb1.mono (by simp)))
  have HE := Lib.hid hE
  clear hE hb1 hown1
  cases hva : V a with
  | none =>
    rw [hva] at HE
    have hE0 : E ≠ 0 := fun e => by have := HE.out.1 e; cases this
    have d1 : (E != 0) = true := by rw [bne_iff_ne]; exact hE0
    have HNO := Lib.hid (show ∀ ep r, ¬ RecIn V P a seq ep r from fun ep r hr => by
      have := hr.all 0 (partsN_pos _)
      rw [Nat.add_zero, HBE.out, hva] at this
      cases this)
    have HE0 := Lib.hid hE0
    have HW2 := Lib.hid (HW1.out.alloc (.cells #[.int .i64 0, .int .i64 0, .int .i64 0, .int .i64 0, .int .i64 0] 79))
    have HB2 := Lib.hid (HB1.out.alloc HB1.out.size (.cells #[.int .i64 0, .int .i64 0, .int .i64 0, .int .i64 0, .int .i64 0] 79))
    clear hva hE0
    unfold hOf SH.val hzero
    go_wp2_with (
      refine wpList_store_at rfl 79 (.tmp 6) (.tmp 27) rfl w.heap.size 0 hzero.cells rfl rfl 79 _ HW2.out (SH.fit _ _) head_info hzero.one ?_
      intro V' hv1 hv2 hv3
      rw [SH.splice] at hv1
      have v0 : V'.cell? ⟨w.heap.size, 0, none⟩ = some (.int .i64 0) := hv1.cell 0
      have v1 : V'.cell? ⟨w.heap.size, 1, none⟩ = some (.int .i64 0) := hv1.cell 1
      have v2 : V'.cell? ⟨w.heap.size, 2, none⟩ = some (.int .i64 0) := hv1.cell 2
      have v3 : V'.cell? ⟨w.heap.size, 3, none⟩ = some (.int .i64 0) := hv1.cell 3
      have v4 : V'.cell? ⟨w.heap.size, 4, none⟩ = some (.int .i64 0) := hv1.cell 4
      have HBV := Lib.hid (HB2.out.trans (hv2.below (B := w.heap.size) (fun j hj => by omega) HB2.out.size))
      clear hv1 hv2 hv3)
    exact bodyPost_ret (v := .tuple #[hzero.val, .slice none 0 0, .int .i64 E]) (by simp [results, Tryd.results37, go_sem, SH.val, hzero, v0, v1, v2, v3, v4]) rfl
      ⟨hzero, .slice none 0 0, E, rfl, HBV.out, .inr ⟨HNO.out, HE0.out⟩⟩
  | some hb =>
    obtain ⟨h1, b1⟩ := hb
    rw [hva] at HE
    have hE0 : E = 0 := HE.out.2 rfl
    subst hE0
    obtain ⟨⟨kk, e, s, p, n, rfl, hn, hpn, he⟩, _⟩ := HV.out a _ _ hva
    have HFI := Lib.hid (show FirstAt V P a e n from ⟨kk, s, p, b1, by rw [HBE.out]; exact hva⟩)
    have HFV := Lib.hid (show V a = some (⟨kk, e, s, p, n⟩, b1) from hva)
    clear hva HE
    have HW2 := Lib.hid ((HW1.out.alloc (.cells #[.int .i64 kk, .int .i64 e, .int .i64 s, .int .i64 p, .int .i64 n] 79)).alloc (.cells (wantCells e seq 0 n).toArray 79))
    have HF2 := Lib.hid ((Whole.made w1 (SH.cells ⟨kk, e, s, p, n⟩) 79).alloc (.cells (wantCells e seq 0 n).toArray 79))
    have hwm := Whole.made (w1.alloc (.cells (SH.cells ⟨kk, e, s, p, n⟩).toArray 79)) (wantCells e seq 0 n) 79
    rw [World.size_alloc] at hwm
    have HT2 := Lib.hid hwm
    have HB2 := Lib.hid ((HB1.out.alloc HB1.out.size (.cells (SH.cells ⟨kk, e, s, p, n⟩).toArray 79)).alloc (by rw [World.size_alloc]; exact Nat.le_succ_of_le HB1.out.size) (.cells (wantCells e seq 0 n).toArray 79))
    have HZ1 := Lib.hid HB1.out.size
    have HZ0 := Lib.hid HW1.out.lt
    clear hwm
    obtain ⟨i0, hi0, hz0, hz1, hz2⟩ := info_parts u8_info
    unfold hOf SH.val
    go_wp2
    go_loopw [13, 37] (LoadRel V P a seq e n w w1.heap.size ⟨kk, e, s, p, n⟩) (fun _ i _ => n - (intOf i).toNat)
    case atStart => exact ⟨0, 0, [], Nat.zero_le _, rfl, LoadInv.zero, World.ownsRow_nil _ _ _ _, HW2.out, HF2.out, HT2.out, HB2.out⟩
    case round =>
      obtain ⟨k, q, L, hk, rfl, hinv, hown, hw0, hw1, hw2, hb⟩ := hrel
      obtain ⟨A, c, rfl, hcA, _⟩ := own_form hown
      have HIN := Lib.hid hinv
      have HOW := Lib.hid hown
      have HW0 := Lib.hid hw0
      have HF0 := Lib.hid hw1
      have HT0 := Lib.hid hw2
      have HB := Lib.hid hb
      have hL1 := hinv.hi
      have hLn : L.length ≤ 126480 := by omega
      have HLN := Lib.hid hLn
      by_cases hlt : k < n
      · have d1 : decide (k < n) = true := by simp; omega
        have hki : (k : Int) < (n : Int) := by omega
        have har := HAR.out wr hb (a + k) (by have := HA2.out; omega) (by omega)
        rw [show ((a + k : Nat) : Int) = (a : Int) + (k : Int) by omega] at har
        have HARK := Lib.hid har
        obtain ⟨ak, hak⟩ : ∃ ak, arN P (a + k) = ak := ⟨_, rfl⟩
        rw [hak] at HARK
        have HAK := Lib.hid hak
        have ho := HO.out wr hb ak (by rw [← hak]; exact arN_lt HPP.out.1 _)
        have HOK := Lib.hid ho
        have t4 : wr.cell? ⟨w1.heap.size + 1, 4, none⟩ = some (.int .i64 (n : Int)) := hw2.cell 4
        clear hinv hown hw0 hw1 hw2 hb hL1 har hak ho
        go_wp2_with fail
        refine HARK.out.mono ?_
        rintro e' w' ⟨rfl, rfl⟩
        go_wp2_with fail
        refine HOK.out.mono ?_
        rintro e' w2 ⟨v2, E2, rfl, hE2, hown2, hb2⟩
        have hbb := HB.out
        have HBB := Lib.hid (HB.out.trans (hb2.mono HB.out.size))
        have hA2 := HW0.out.below hb2 HW0.out.lt
        have hF2 := HF0.out.below hb2 HF0.out.lt
        have hT2 := HT0.out.below hb2 HT0.out.lt
        have hO2 := own_keep HOW.out (w' := w2) fun j ej => hb2.block j (HOW.out.lt j ej).2
        cases hvk : V ak with
        | none =>
          rw [hvk] at hE2
          have hE0 : E2 ≠ 0 := fun e => by have := hE2.1 e; cases this
          have d2 : (E2 != 0) = true := by rw [bne_iff_ne]; exact hE0
          have HE0 := Lib.hid hE0
          have HNO := Lib.hid (show ∀ ep r, ¬ RecIn V P a seq ep r from HFI.out.no1 hlt (by rw [HAK.out]; exact hvk))
          have HAA := Lib.hid (hA2.alloc (.cells #[.int .i64 0, .int .i64 0, .int .i64 0, .int .i64 0, .int .i64 0] 79))
          have HAB := Lib.hid (HBB.out.alloc HBB.out.size (.cells #[.int .i64 0, .int .i64 0, .int .i64 0, .int .i64 0, .int .i64 0] 79))
          clear hE2 hown2 hb2 hA2 hF2 hT2 hO2 hvk hE0 hbb
          unfold hOf SH.val hzero
          go_wp2_with (
            refine wpList_store_at rfl 79 (.tmp 6) (.tmp 53) rfl w.heap.size 0 hzero.cells rfl rfl 79 _ HAA.out (SH.fit _ _) head_info hzero.one ?_
            intro V' hv1 hv2 hv3
            rw [SH.splice] at hv1
            have v0 : V'.cell? ⟨w.heap.size, 0, none⟩ = some (.int .i64 0) := hv1.cell 0
            have v1 : V'.cell? ⟨w.heap.size, 1, none⟩ = some (.int .i64 0) := hv1.cell 1
            have v2 : V'.cell? ⟨w.heap.size, 2, none⟩ = some (.int .i64 0) := hv1.cell 2
            have v3 : V'.cell? ⟨w.heap.size, 3, none⟩ = some (.int .i64 0) := hv1.cell 3
            have v4 : V'.cell? ⟨w.heap.size, 4, none⟩ = some (.int .i64 0) := hv1.cell 4
            have HBV := Lib.hid (HAB.out.trans (hv2.below (B := w.heap.size) (fun j hj => by omega) HAB.out.size))
            clear hv1 hv2 hv3)
          exact bodyPost_ret (v := .tuple #[hzero.val, .slice none 0 0, .int .i64 E2]) (by simp [results, Tryd.results37, go_sem, SH.val, hzero, v0, v1, v2, v3, v4]) rfl
            ⟨hzero, .slice none 0 0, E2, rfl, HBV.out, .inr ⟨HNO.out, HE0.out⟩⟩
        | some p2 =>
          obtain ⟨x2, b2⟩ := p2
          rw [hvk] at hE2 hown2
          have hE0 : E2 = 0 := hE2.2 rfl
          subst hE0
          obtain ⟨⟨k2, e2, s2, p2, n2, rfl, _, _, _⟩, hb496⟩ := HV.out ak _ _ hvk
          have HVK := Lib.hid hvk
          have HB4 := Lib.hid hb496
          have hTn : Whole (w2.alloc (.cells #[.int .i64 (k2 : Int), .int .i64 (e2 : Int), .int .i64 (s2 : Int), .int .i64 (p2 : Int), .int .i64 (n2 : Int)] 79)) (w1.heap.size + 1) 79 (wantCells e seq q n) := hT2.alloc _
          have tq : (w2.alloc (.cells #[.int .i64 (k2 : Int), .int .i64 (e2 : Int), .int .i64 (s2 : Int), .int .i64 (p2 : Int), .int .i64 (n2 : Int)] 79)).cell? ⟨w1.heap.size + 1, 3, none⟩ = some (.int .i64 (q : Int)) := hTn.cell 3
          have zq : (w2.alloc (.cells #[.int .i64 (k2 : Int), .int .i64 (e2 : Int), .int .i64 (s2 : Int), .int .i64 (p2 : Int), .int .i64 (n2 : Int)] 79)).frozen? ⟨w1.heap.size + 1, 3, none⟩ = false := hTn.frozen 3
          have hT' : Whole ((w2.alloc (.cells #[.int .i64 (k2 : Int), .int .i64 (e2 : Int), .int .i64 (s2 : Int), .int .i64 (p2 : Int), .int .i64 (n2 : Int)] 79)).setCell ⟨w1.heap.size + 1, 3, none⟩ (.int .i64 (k : Int))) (w1.heap.size + 1) 79 (wantCells e seq k n) := hTn.set_ 3 _
          have hg' : Grew (fun j => j = w1.heap.size + 1) (w2.alloc (.cells #[.int .i64 (k2 : Int), .int .i64 (e2 : Int), .int .i64 (s2 : Int), .int .i64 (p2 : Int), .int .i64 (n2 : Int)] 79)) ((w2.alloc (.cells #[.int .i64 (k2 : Int), .int .i64 (e2 : Int), .int .i64 (s2 : Int), .int .i64 (p2 : Int), .int .i64 (n2 : Int)] 79)).setCell ⟨w1.heap.size + 1, 3, none⟩ (.int .i64 (k : Int))) := Grew.setCell (Grew.refl (fun j => j = w1.heap.size + 1) _) (a := ⟨w1.heap.size + 1, 3, none⟩) (.inl rfl) _
          have hlt2 := hT2.lt
          have hN' : Whole ((w2.alloc (.cells #[.int .i64 (k2 : Int), .int .i64 (e2 : Int), .int .i64 (s2 : Int), .int .i64 (p2 : Int), .int .i64 (n2 : Int)] 79)).setCell ⟨w1.heap.size + 1, 3, none⟩ (.int .i64 (k : Int))) w2.heap.size 79 (SH.cells ⟨k2, e2, s2, p2, n2⟩) := (Whole.made w2 (SH.cells ⟨k2, e2, s2, p2, n2⟩) 79).grew hg' (by omega)
          have hA' : Whole ((w2.alloc (.cells #[.int .i64 (k2 : Int), .int .i64 (e2 : Int), .int .i64 (s2 : Int), .int .i64 (p2 : Int), .int .i64 (n2 : Int)] 79)).setCell ⟨w1.heap.size + 1, 3, none⟩ (.int .i64 (k : Int))) w.heap.size 79 hzero.cells := (hA2.alloc _).grew hg' (by have := HZ1.out; omega)
          have hF' : Whole ((w2.alloc (.cells #[.int .i64 (k2 : Int), .int .i64 (e2 : Int), .int .i64 (s2 : Int), .int .i64 (p2 : Int), .int .i64 (n2 : Int)] 79)).setCell ⟨w1.heap.size + 1, 3, none⟩ (.int .i64 (k : Int))) w1.heap.size 79 (SH.cells ⟨kk, e, s, p, n⟩) := (hF2.alloc _).grew hg' (by omega)
          have hbn : Below w.heap.size w (w2.alloc (.cells #[.int .i64 (k2 : Int), .int .i64 (e2 : Int), .int .i64 (s2 : Int), .int .i64 (p2 : Int), .int .i64 (n2 : Int)] 79)) := HBB.out.alloc HBB.out.size _
          have hb' : Below w.heap.size w ((w2.alloc (.cells #[.int .i64 (k2 : Int), .int .i64 (e2 : Int), .int .i64 (s2 : Int), .int .i64 (p2 : Int), .int .i64 (n2 : Int)] 79)).setCell ⟨w1.heap.size + 1, 3, none⟩ (.int .i64 (k : Int))) := hbn.trans (hg'.below (B := w.heap.size) (fun j hj => by have := HZ1.out; omega) hbn.size)
          have hOn : (w2.alloc (.cells #[.int .i64 (k2 : Int), .int .i64 (e2 : Int), .int .i64 (s2 : Int), .int .i64 (p2 : Int), .int .i64 (n2 : Int)] 79)).ownsRow w.heap.size 5 1 (.slice A L.length c) L.length (L.map bc) := own_keep hO2 fun j ej => Below.heap_alloc _ _ _ (hO2.lt j ej).2
          have hO' : ((w2.alloc (.cells #[.int .i64 (k2 : Int), .int .i64 (e2 : Int), .int .i64 (s2 : Int), .int .i64 (p2 : Int), .int .i64 (n2 : Int)] 79)).setCell ⟨w1.heap.size + 1, 3, none⟩ (.int .i64 (k : Int))).ownsRow w.heap.size 5 1 (.slice A L.length c) L.length (L.map bc) := own_set_far hOn (own_not_whole hOn hTn (by decide)) _
          obtain ⟨A2, c2, rfl, hc2, _⟩ := own_form hown2
          have hXn : (w2.alloc (.cells #[.int .i64 (k2 : Int), .int .i64 (e2 : Int), .int .i64 (s2 : Int), .int .i64 (p2 : Int), .int .i64 (n2 : Int)] 79)).ownsRow wr.heap.size 5 1 (.slice A2 b2.length c2) b2.length (b2.map bc) := own_keep hown2 fun j ej => Below.heap_alloc _ _ _ (hown2.lt j ej).2
          have hX' : ((w2.alloc (.cells #[.int .i64 (k2 : Int), .int .i64 (e2 : Int), .int .i64 (s2 : Int), .int .i64 (p2 : Int), .int .i64 (n2 : Int)] 79)).setCell ⟨w1.heap.size + 1, 3, none⟩ (.int .i64 (k : Int))).ownsRow wr.heap.size 5 1 (.slice A2 b2.length c2) b2.length (b2.map bc) := own_set_far hXn (own_not_whole hXn hTn (by decide)) _
          have n0 : ((w2.alloc (.cells #[.int .i64 (k2 : Int), .int .i64 (e2 : Int), .int .i64 (s2 : Int), .int .i64 (p2 : Int), .int .i64 (n2 : Int)] 79)).setCell ⟨w1.heap.size + 1, 3, none⟩ (.int .i64 (k : Int))).cell? ⟨w2.heap.size, 0, none⟩ = some (.int .i64 (k2 : Int)) := hN'.cell 0
          have n1 : ((w2.alloc (.cells #[.int .i64 (k2 : Int), .int .i64 (e2 : Int), .int .i64 (s2 : Int), .int .i64 (p2 : Int), .int .i64 (n2 : Int)] 79)).setCell ⟨w1.heap.size + 1, 3, none⟩ (.int .i64 (k : Int))).cell? ⟨w2.heap.size, 1, none⟩ = some (.int .i64 (e2 : Int)) := hN'.cell 1
          have n2' : ((w2.alloc (.cells #[.int .i64 (k2 : Int), .int .i64 (e2 : Int), .int .i64 (s2 : Int), .int .i64 (p2 : Int), .int .i64 (n2 : Int)] 79)).setCell ⟨w1.heap.size + 1, 3, none⟩ (.int .i64 (k : Int))).cell? ⟨w2.heap.size, 2, none⟩ = some (.int .i64 (s2 : Int)) := hN'.cell 2
          have n3 : ((w2.alloc (.cells #[.int .i64 (k2 : Int), .int .i64 (e2 : Int), .int .i64 (s2 : Int), .int .i64 (p2 : Int), .int .i64 (n2 : Int)] 79)).setCell ⟨w1.heap.size + 1, 3, none⟩ (.int .i64 (k : Int))).cell? ⟨w2.heap.size, 3, none⟩ = some (.int .i64 (p2 : Int)) := hN'.cell 3
          have n4 : ((w2.alloc (.cells #[.int .i64 (k2 : Int), .int .i64 (e2 : Int), .int .i64 (s2 : Int), .int .i64 (p2 : Int), .int .i64 (n2 : Int)] 79)).setCell ⟨w1.heap.size + 1, 3, none⟩ (.int .i64 (k : Int))).cell? ⟨w2.heap.size, 4, none⟩ = some (.int .i64 (n2 : Int)) := hN'.cell 4
          have t0 : ((w2.alloc (.cells #[.int .i64 (k2 : Int), .int .i64 (e2 : Int), .int .i64 (s2 : Int), .int .i64 (p2 : Int), .int .i64 (n2 : Int)] 79)).setCell ⟨w1.heap.size + 1, 3, none⟩ (.int .i64 (k : Int))).cell? ⟨w1.heap.size + 1, 0, none⟩ = some (.int .i64 2) := hT'.cell 0
          have t1 : ((w2.alloc (.cells #[.int .i64 (k2 : Int), .int .i64 (e2 : Int), .int .i64 (s2 : Int), .int .i64 (p2 : Int), .int .i64 (n2 : Int)] 79)).setCell ⟨w1.heap.size + 1, 3, none⟩ (.int .i64 (k : Int))).cell? ⟨w1.heap.size + 1, 1, none⟩ = some (.int .i64 (e : Int)) := hT'.cell 1
          have t2 : ((w2.alloc (.cells #[.int .i64 (k2 : Int), .int .i64 (e2 : Int), .int .i64 (s2 : Int), .int .i64 (p2 : Int), .int .i64 (n2 : Int)] 79)).setCell ⟨w1.heap.size + 1, 3, none⟩ (.int .i64 (k : Int))).cell? ⟨w1.heap.size + 1, 2, none⟩ = some (.int .i64 (seq : Int)) := hT'.cell 2
          have t3 : ((w2.alloc (.cells #[.int .i64 (k2 : Int), .int .i64 (e2 : Int), .int .i64 (s2 : Int), .int .i64 (p2 : Int), .int .i64 (n2 : Int)] 79)).setCell ⟨w1.heap.size + 1, 3, none⟩ (.int .i64 (k : Int))).cell? ⟨w1.heap.size + 1, 3, none⟩ = some (.int .i64 (k : Int)) := hT'.cell 3
          have t4' : ((w2.alloc (.cells #[.int .i64 (k2 : Int), .int .i64 (e2 : Int), .int .i64 (s2 : Int), .int .i64 (p2 : Int), .int .i64 (n2 : Int)] 79)).setCell ⟨w1.heap.size + 1, 3, none⟩ (.int .i64 (k : Int))).cell? ⟨w1.heap.size + 1, 4, none⟩ = some (.int .i64 (n : Int)) := hT'.cell 4
          have HA' := Lib.hid hA'
          have HF' := Lib.hid hF'
          have HT' := Lib.hid hT'
          have HB' := Lib.hid hb'
          have HO' := Lib.hid hO'
          have HX' := Lib.hid hX'
          have HC2 := Lib.hid hc2
          have hne := fun W => head_neq ⟨k2, e2, s2, p2, n2⟩ (recH e seq k n) W
          have HXE := Lib.hid (show SH.same ⟨k2, e2, s2, p2, n2⟩ (recH e seq k n) = true ↔ (⟨k2, e2, s2, p2, n2⟩ : SH) = recH e seq k n from SH.same_iff _ _)
          obtain ⟨sm, hsm⟩ : ∃ sm, SH.same ⟨k2, e2, s2, p2, n2⟩ (recH e seq k n) = sm := ⟨_, rfl⟩
          rw [hsm] at hne HXE
          clear hsm hE2 hown2 hb2 hA2 hF2 hT2 hO2 hvk hbb hb496 hTn hT' hg' hlt2 hN' hA' hF' hbn hb' hOn hO' hXn hX' hc2
          unfold SH.val recH at hne
          unfold hOf SH.val
          cases sm with
          | false =>
            have HNO := Lib.hid (show ∀ ep r, ¬ RecIn V P a seq ep r from HFI.out.no2 hlt (by rw [HAK.out]; exact HVK.out) (fun hx => by have := HXE.out.2 hx; cases this))
            go_wp2_with (
              refine wpList_store_at rfl 79 (.tmp 6) (.tmp 67) rfl w.heap.size 0 hzero.cells rfl rfl 79 _ HA'.out (SH.fit _ _) head_info hzero.one ?_
              intro V' hv1 hv2 hv3
              rw [SH.splice] at hv1
              have v0 : V'.cell? ⟨w.heap.size, 0, none⟩ = some (.int .i64 0) := hv1.cell 0
              have v1 : V'.cell? ⟨w.heap.size, 1, none⟩ = some (.int .i64 0) := hv1.cell 1
              have v2 : V'.cell? ⟨w.heap.size, 2, none⟩ = some (.int .i64 0) := hv1.cell 2
              have v3 : V'.cell? ⟨w.heap.size, 3, none⟩ = some (.int .i64 0) := hv1.cell 3
              have v4 : V'.cell? ⟨w.heap.size, 4, none⟩ = some (.int .i64 0) := hv1.cell 4
              have HBV := Lib.hid (HB'.out.trans (hv2.below (B := w.heap.size) (fun j hj => by omega) HB'.out.size))
              clear hv1 hv2 hv3)
            exact bodyPost_ret (v := .tuple #[hzero.val, .slice none 0 0, .int .i64 14]) (by simp [results, Tryd.results37, go_sem, SH.val, hzero, v0, v1, v2, v3, v4]) rfl
              ⟨hzero, .slice none 0 0, 14, rfl, HBV.out, .inr ⟨HNO.out, by decide⟩⟩
          | true =>
            have HXX := Lib.hid (HXE.out.1 rfl)
            by_cases hl : L.length = k * 496
            · have d3 : ((L.length : Int) != (k : Int) * 496) = false := by simp; omega
              have HLL := Lib.hid hl
              clear hl
              go_wp2_with (
                at_builtin
                refine wpList_append_row rfl (.tmp 68) (.tmp 69) _ rfl w.heap.size 5 i0 _ 1 1 Tryd.underlying35 hi0 hz0 hz1 hz2 rfl (by omega) (.slice A L.length c) L.length (L.map bc) rfl HO'.out A2 b2.length c2 _ (b2.map bc) rfl (by rw [List.length_map]; omega) (Row.of_own HX'.out) (bc_one b2) (by unfold maxLen; have := HB4.out; omega) (by have := HB4.out; omega) HB'.out.size ?_
                intro v3 w3 hown3 hg3
                have HO3 := Lib.hid hown3
                have HA3 := Lib.hid (HA'.out.grown hg3 (fun e => own_not_whole HO'.out HA'.out (by decide) e.symm))
                have HF3 := Lib.hid (HF'.out.grown hg3 (fun e => own_not_whole HO'.out HF'.out (by decide) e.symm))
                have HT3 := Lib.hid (HT'.out.grown hg3 (fun e => own_not_whole HO'.out HT'.out (by decide) e.symm))
                have HB3 := Lib.hid (own_below HB'.out (Nat.le_refl _) HB'.out.size HO'.out hg3)
                clear hown3 hg3)
              refine ⟨⟨k + 1, k, L ++ b2, by omega, by go_num, HIN.out.next (by rw [HAK.out, HVK.out, HXX.out]) HB4.out HLL.out, ?_, HA3.out, HF3.out, HT3.out, HB3.out⟩, by simp [intOf]; omega⟩
              rw [List.length_append, List.map_append]
              exact HO3.out
            · have d3 : ((L.length : Int) != (k : Int) * 496) = true := by simp; omega
              have HNO := Lib.hid (show ∀ ep r, ¬ RecIn V P a seq ep r from HFI.out.no3 hlt HIN.out hl)
              clear hl
              go_wp2_with (
                refine wpList_store_at rfl 79 (.tmp 6) (.tmp 67) rfl w.heap.size 0 hzero.cells rfl rfl 79 _ HA'.out (SH.fit _ _) head_info hzero.one ?_
                intro V' hv1 hv2 hv3
                rw [SH.splice] at hv1
                have v0 : V'.cell? ⟨w.heap.size, 0, none⟩ = some (.int .i64 0) := hv1.cell 0
                have v1 : V'.cell? ⟨w.heap.size, 1, none⟩ = some (.int .i64 0) := hv1.cell 1
                have v2 : V'.cell? ⟨w.heap.size, 2, none⟩ = some (.int .i64 0) := hv1.cell 2
                have v3 : V'.cell? ⟨w.heap.size, 3, none⟩ = some (.int .i64 0) := hv1.cell 3
                have v4 : V'.cell? ⟨w.heap.size, 4, none⟩ = some (.int .i64 0) := hv1.cell 4
                have HBV := Lib.hid (HB'.out.trans (hv2.below (B := w.heap.size) (fun j hj => by omega) HB'.out.size))
                clear hv1 hv2 hv3)
              exact bodyPost_ret (v := .tuple #[hzero.val, .slice none 0 0, .int .i64 14]) (by simp [results, Tryd.results37, go_sem, SH.val, hzero, v0, v1, v2, v3, v4]) rfl
                ⟨hzero, .slice none 0 0, 14, rfl, HBV.out, .inr ⟨HNO.out, by decide⟩⟩
      · obtain rfl : k = n := by omega
        have d1 : decide (k < k) = false := by simp
        have t4 : wr.cell? ⟨w1.heap.size + 1, 4, none⟩ = some (.int .i64 (k : Int)) := hw2.cell 4
        have HP := Lib.hid (fun m => told_still (sparts_any L.length (by omega) (wr.drewN m)))
        have f0 : wr.cell? ⟨w1.heap.size, 0, none⟩ = some (.int .i64 (kk : Int)) := hw1.cell 0
        have f1 : wr.cell? ⟨w1.heap.size, 1, none⟩ = some (.int .i64 (e : Int)) := hw1.cell 1
        have f2 : wr.cell? ⟨w1.heap.size, 2, none⟩ = some (.int .i64 (s : Int)) := hw1.cell 2
        have f3 : wr.cell? ⟨w1.heap.size, 3, none⟩ = some (.int .i64 (p : Int)) := hw1.cell 3
        have f4 : wr.cell? ⟨w1.heap.size, 4, none⟩ = some (.int .i64 (k : Int)) := hw1.cell 4
        clear hinv hown hw0 hw1 hw2 hb hL1 hk hlt
        by_cases h16 : 16384 < L.length
        · have d2 : decide ((16384 : Int) < (L.length : Int)) = true := by simp; omega
          have d2n : decide (16384 < L.length) = true := by simp; omega
          have HNO := Lib.hid (show ∀ ep r, ¬ RecIn V P a seq ep r from HFI.out.no4 HIN.out (fun hx => by have := hx.1; omega))
          clear h16
          go_wp2
          go_quiet (fail)
          go_wp2_with (
            refine wpList_store_at rfl 79 (.tmp 6) (.tmp 83) rfl w.heap.size 0 hzero.cells rfl rfl 79 _ (HW0.out.drewN nq) (SH.fit _ _) head_info hzero.one ?_
            intro V' hv1 hv2 hv3
            rw [SH.splice] at hv1
            have v0 : V'.cell? ⟨w.heap.size, 0, none⟩ = some (.int .i64 0) := hv1.cell 0
            have v1 : V'.cell? ⟨w.heap.size, 1, none⟩ = some (.int .i64 0) := hv1.cell 1
            have v2 : V'.cell? ⟨w.heap.size, 2, none⟩ = some (.int .i64 0) := hv1.cell 2
            have v3 : V'.cell? ⟨w.heap.size, 3, none⟩ = some (.int .i64 0) := hv1.cell 3
            have v4 : V'.cell? ⟨w.heap.size, 4, none⟩ = some (.int .i64 0) := hv1.cell 4
            have HBV := Lib.hid ((below_drewN' HB.out nq).trans (hv2.below (B := w.heap.size) (fun j hj => by omega) HB.out.size))
            clear hv1 hv2 hv3)
          exact bodyPost_ret (v := .tuple #[hzero.val, .slice none 0 0, .int .i64 14]) (by simp [results, Tryd.results37, go_sem, SH.val, hzero, v0, v1, v2, v3, v4]) rfl
            ⟨hzero, .slice none 0 0, 14, rfl, HBV.out, .inr ⟨HNO.out, by decide⟩⟩
        · have d2 : decide ((16384 : Int) < (L.length : Int)) = false := by simp; omega
          have d2n : decide (16384 < L.length) = false := by simp; omega
          have HL16 := Lib.hid h16
          obtain ⟨pn, hpn'⟩ : ∃ pn, partsN L.length = pn := ⟨_, rfl⟩
          rw [hpn'] at HP
          have HPN := Lib.hid hpn'
          clear h16 hpn'
          by_cases hpk : pn = k
          · have d3 : ((pn : Int) != (k : Int)) = false := by simp; omega
            have d3n : (pn != k) = false := by simp; omega
            have HR := Lib.hid (show RecIn V P a seq e L from HIN.out.yes (by have := HL16.out; omega) (by rw [HPN.out, hpk]))
            have HFE := Lib.hid (show (⟨kk, e, s, p, k⟩ : SH) = recH e seq 0 (partsN L.length) from by
              have h0 := HIN.out.parts 0 (by omega)
              rw [Nat.add_zero, HBE.out, HFV.out] at h0
              rw [HPN.out, hpk]
              exact congrArg Prod.fst (Option.some.inj h0))
            clear hpk
            go_wp2
            go_quiet ((go_at_call 29; exact HP.out _))
            go_wp2_with (
              refine wpList_store_at rfl 79 (.tmp 6) (.tmp 84) rfl w.heap.size 0 (SH.cells ⟨kk, e, s, p, k⟩) rfl rfl 79 _ (HW0.out.drewN nq) (SH.fit _ _) head_info (SH.one _) ?_
              intro V' hv1 hv2 hv3
              rw [SH.splice] at hv1
              have v0 : V'.cell? ⟨w.heap.size, 0, none⟩ = some (.int .i64 (kk : Int)) := hv1.cell 0
              have v1 : V'.cell? ⟨w.heap.size, 1, none⟩ = some (.int .i64 (e : Int)) := hv1.cell 1
              have v2 : V'.cell? ⟨w.heap.size, 2, none⟩ = some (.int .i64 (s : Int)) := hv1.cell 2
              have v3 : V'.cell? ⟨w.heap.size, 3, none⟩ = some (.int .i64 (p : Int)) := hv1.cell 3
              have v4 : V'.cell? ⟨w.heap.size, 4, none⟩ = some (.int .i64 (k : Int)) := hv1.cell 4
              have HBV := Lib.hid ((below_drewN' HB.out nq).trans (hv2.below (B := w.heap.size) (fun j hj => by omega) HB.out.size))
              have HOV := Lib.hid (own_grew (own_keep (w' := wr.drewN nq) HOW.out fun _ _ => rfl) hv2 fun g' e1 e2 => own_not_whole HOW.out HW0.out (by decide) (by rw [e1, e2]))
              clear hv1 hv2 hv3)
            exact bodyPost_ret (v := .tuple #[SH.val ⟨kk, e, s, p, k⟩, .slice A L.length c, .int .i64 0]) (by simp [results, Tryd.results37, go_sem, SH.val, v0, v1, v2, v3, v4]) rfl
              ⟨_, .slice A L.length c, 0, rfl, HBV.out, .inl ⟨e, L, HR.out, rfl, HFE.out, HOV.out⟩⟩
          · have d3 : ((pn : Int) != (k : Int)) = true := by simp; omega
            have d3n : (pn != k) = true := by simp; omega
            have HNO := Lib.hid (show ∀ ep r, ¬ RecIn V P a seq ep r from HFI.out.no4 HIN.out (fun hx => hpk (by rw [← HPN.out]; exact hx.2)))
            clear hpk
            go_wp2
            go_quiet ((go_at_call 29; exact HP.out _))
            go_wp2_with (
              refine wpList_store_at rfl 79 (.tmp 6) (.tmp 83) rfl w.heap.size 0 hzero.cells rfl rfl 79 _ (HW0.out.drewN nq) (SH.fit _ _) head_info hzero.one ?_
              intro V' hv1 hv2 hv3
              rw [SH.splice] at hv1
              have v0 : V'.cell? ⟨w.heap.size, 0, none⟩ = some (.int .i64 0) := hv1.cell 0
              have v1 : V'.cell? ⟨w.heap.size, 1, none⟩ = some (.int .i64 0) := hv1.cell 1
              have v2 : V'.cell? ⟨w.heap.size, 2, none⟩ = some (.int .i64 0) := hv1.cell 2
              have v3 : V'.cell? ⟨w.heap.size, 3, none⟩ = some (.int .i64 0) := hv1.cell 3
              have v4 : V'.cell? ⟨w.heap.size, 4, none⟩ = some (.int .i64 0) := hv1.cell 4
              have HBV := Lib.hid ((below_drewN' HB.out nq).trans (hv2.below (B := w.heap.size) (fun j hj => by omega) HB.out.size))
              clear hv1 hv2 hv3)
            exact bodyPost_ret (v := .tuple #[hzero.val, .slice none 0 0, .int .i64 14]) (by simp [results, Tryd.results37, go_sem, SH.val, hzero, v0, v1, v2, v3, v4]) rfl
              ⟨hzero, .slice none 0 0, 14, rfl, HBV.out, .inr ⟨HNO.out, by decide⟩⟩
end

end Go.Proofs.YtgfoekbdmgljbaaDoor

namespace Go.Proofs.YtgfoekbdmgljbaaDoor
open Go.RowKit

def ReadOutL (w : World) (b : List UInt8) (E : Int) (e : Ending) (w' : World) : Prop := ∃ v, e = .returned (.tuple #[v, .int .i64 E]) ∧ w'.ownsRow w.heap.size 5 1 v b.length (b.map bc) ∧ Below w.heap.size w w'
section
variable {w0 w : World} {D : Nat} {x : Dv} {o : Lo} {g : Lm} {F : Nat → Prop}
set_option maxHeartbeats 2000000 in
set_option maxRecDepth 4000 in
theorem lread_no (h : LmAt w0 w D x o g F) (hg : g.down = false) (hd : x.down = false) (first n : Nat) (hf : g.block.first = (first : Int)) (hn : g.recs.length = n) (hs : first + n ≤ 36028797018960000) (i : Int) (E : Int) (hi : (i < (first : Int) ∧ E = 12) ∨ (((first + n : Nat) : Int) ≤ i ∧ E = 11)) :
    Calls Tryd.prog 20 #[lptr o, .int .i64 i] w (ReadOutL w [] E) := by
  have HR := Lib.hid (ready_ok h hg hd)
  have HF := Lib.hid (first_any h first hf)
  have hnx := next_any h first hf (by rw [hn]; omega)
  rw [hn] at hnx
  have HN := Lib.hid hnx
  clear h hg hd hf hn hnx
  unfold lptr at HR HF HN ⊢
  rcases hi with ⟨h1, rfl⟩ | ⟨h1, rfl⟩
  · have d1 : decide (i < (first : Int)) = true := by simp; omega
    go_enter Tryd.func20, Tryd.ntmps20
    go_wp2_with fail
    refine HR.out.mono ?_
    rintro e w1 ⟨rfl, rfl⟩
    go_wp2_with fail
    refine HF.out.mono ?_
    rintro e w1 ⟨rfl, rfl⟩
    go_wp2
    go_ret2
    exact ⟨_, rfl, World.ownsRow_nil _ _ _ _, Below.refl _ _⟩
  · have d1 : decide (i < (first : Int)) = false := by simp; omega
    have d2 : decide ((first : Int) + (n : Int) ≤ i) = true := by simp; omega
    have d2b : decide (((first + n : Nat) : Int) ≤ i) = true := by simp; omega
    go_enter Tryd.func20, Tryd.ntmps20
    go_wp2_with fail
    refine HR.out.mono ?_
    rintro e w1 ⟨rfl, rfl⟩
    go_wp2_with fail
    refine HF.out.mono ?_
    rintro e w1 ⟨rfl, rfl⟩
    go_wp2_with fail
    refine HN.out.mono ?_
    rintro e w1 ⟨rfl, hb1⟩
    have HB1 := Lib.hid hb1
    clear hb1
    go_wp2
    go_ret2
    exact ⟨_, rfl, World.ownsRow_nil _ _ _ _, HB1.out⟩
set_option maxHeartbeats 4000000 in
set_option maxRecDepth 4000 in
theorem lread_yes (h : LmAt w0 w D x o g F) (hg : g.down = false) (hd : x.down = false) (hus : g.us.length ≤ 4094) (hP : 2 ≤ g.places) (hP2 : g.places ≤ 4094) (hx : x.sure.length = g.places + 2) (first from_ n : Nat) (rs : List (List UInt8)) (hf : g.block.first = (first : Int)) (hr : g.recs = posL g.places from_ rs) (hn : rs.length = n) (hn2 : n ≤ 4094)
    (hs : first + n ≤ 36028797018960000) (j : Nat) (hj : j < n) {ep : Nat} (hrec : RecIn (seeL g x) g.places (from_ + offN rs j) (first + j) ep (rs.getD j [])) (hf2 : 2 ≤ from_) (s : Int) (hsj : s = (first : Int) + (j : Int)) :
    Calls Tryd.prog 20 #[lptr o, .int .i64 s] w (ReadOutL w (rs.getD j []) 0) := by
  have HH := Lib.hid h
  have HR := Lib.hid (ready_ok h hg hd)
  have hlen : g.recs.length = n := by rw [hr, length_posL, hn]
  have hfi : ∀ W, Below w.heap.size w W → Calls Tryd.prog 18 #[.pointer (some ⟨o.l, 0, none⟩)] W (Told W (.int .i64 (first : Int))) := fun W hb => first_any (h.below hb) first hf
  have HF := Lib.hid hfi
  have hnx := next_any h first hf (by rw [hlen]; omega)
  rw [hlen] at hnx
  have HN := Lib.hid hnx
  obtain ⟨b, hb⟩ : ∃ b, rs.getD j [] = b := ⟨_, rfl⟩
  rw [hb] at hrec ⊢
  obtain ⟨a, ha⟩ : ∃ a, arN g.places (from_ + offN rs j) = a := ⟨_, rfl⟩
  have hrec2 : RecIn (seeL g x) g.places a (first + j) ep b := hrec.at_eq fun i => by rw [← ha, arN_arN (by omega)]
  have hlo : ∀ W, Below w.heap.size w W → Calls Tryd.prog 37 #[.pointer (some ⟨o.l, 0, none⟩), .int .i64 s, .int .i64 (a : Int)] W (LoadOut W (seeL g x) g.places a (first + j)) := fun W hb => by
    have := load_rec (h.below hb) hd hus (by omega) hP2 hx a (by rw [← ha]; exact arN_ge _ _) (by rw [← ha]; exact arN_lt (by omega) _) (first + j) (by omega)
    rw [show ((first + j : Nat) : Int) = s by omega] at this
    exact this
  have HL := Lib.hid hlo
  have HREC := Lib.hid hrec2
  obtain ⟨A, c, hv, _, _⟩ := h.vr
  have c7 := h.c7
  have hown := h.recs
  rw [hv, hlen] at c7
  rw [hv, hlen] at hown
  obtain ⟨gr, rfl⟩ := own_some hown (by omega)
  have hrl : j < g.recs.length := by rw [hlen]; exact hj
  have q0 := (recCells_at hrl).1
  have hgj : (g.recs[j]).1 = a := by
    have e : g.recs[j] = (posL g.places from_ rs)[j]'(by rw [length_posL, hn]; exact hj) := by simp only [hr]
    rw [e, posL_at (by rw [hn]; exact hj), ← ha]
  rw [hgj] at q0
  have cp : w.cell? ⟨gr, j * 2, none⟩ = some (.int .i64 (a : Int)) := (own_cell hown (by rw [length_recCells]; omega)).trans (by rw [← List.getElem?_eq_getElem (by rw [length_recCells]; omega)]; exact q0)
  have hgl : gr < w.heap.size := (hown.lt gr rfl).2
  have HGL := Lib.hid (And.intro hgl h.lt)
  have d1 : decide (s < (first : Int)) = false := by simp; omega
  have d2 : decide ((first : Int) + (n : Int) ≤ s) = false := by simp; omega
  have d2b : decide (((first + n : Nat) : Int) ≤ s) = false := by simp; omega
  have r1 : IntKind.i64.wrap (s - (first : Int)) = (j : Int) := by rw [show s - (first : Int) = (j : Int) by omega]; exact IntWalk.i64_in _ (by omega)
  have j0 : (0 : Int) ≤ (j : Int) := by omega
  have jn : (j : Int) < (n : Int) := by omega
  have jn2 : (j : Int) ≤ (n : Int) := by omega
  have HC := Lib.hid (fun X (hb : Below w.heap.size w X) => (show X.cell? ⟨o.l, 7, none⟩ = some (.slice (some ⟨gr, 0, none⟩) n c) ∧ X.cell? ⟨gr, j * 2, none⟩ = some (.int .i64 (a : Int)) from ⟨(hb.cell (p := ⟨o.l, 7, none⟩) HGL.out.2).trans c7, (hb.cell (p := ⟨gr, j * 2, none⟩) HGL.out.1).trans cp⟩))
  clear h hg hd hus hP hP2 hx hf hr hn hlen hfi hnx hb hrec hlo hrec2 ha hv hown q0 hgj hrl hf2 hgl hsj
  unfold lptr at HR HN ⊢
  go_enter Tryd.func20, Tryd.ntmps20
  go_wp2_with fail
  refine HR.out.mono ?_
  rintro e w1 ⟨rfl, rfl⟩
  go_wp2_with fail
  refine (HF.out _ (Below.refl _ _)).mono ?_
  rintro e w1 ⟨rfl, rfl⟩
  go_wp2_with fail
  refine HN.out.mono ?_
  rintro e w1 ⟨rfl, hb1⟩
  have HB1 := Lib.hid hb1
  have c7a := (HC.out _ (hb1.alloc hb1.size (.cells #[.int .i64 0, .int .i64 0, .int .i64 0, .int .i64 0, .int .i64 0] 79))).1
  have cpa := (HC.out _ (hb1.alloc hb1.size (.cells #[.int .i64 0, .int .i64 0, .int .i64 0, .int .i64 0, .int .i64 0] 79))).2
  have c7 := (HC.out w1 hb1).1
  have cp := (HC.out w1 hb1).2
  clear hb1
  go_wp2
  go_region_held3 (fun X => X.cell? ⟨o.l, 7, none⟩ = some (.slice (some ⟨gr, 0, none⟩) n c) ∧ X.cell? ⟨gr, j * 2, none⟩ = some (.int .i64 (a : Int)))
    (first | go_keep | exact HC.out _ (((((HB2.out.setCell (p := ⟨w1.heap.size, 0, none⟩) HB1.out.size _).setCell (p := ⟨w1.heap.size, 1, none⟩) HB1.out.size _).setCell (p := ⟨w1.heap.size, 2, none⟩) HB1.out.size _).setCell (p := ⟨w1.heap.size, 3, none⟩) HB1.out.size _).setCell (p := ⟨w1.heap.size, 4, none⟩) HB1.out.size _))
    ((first
      | (go_at_call 18
         refine (HF.out _ (by first | exact HB1.out.drew | exact (HB1.out.alloc HB1.out.size _).drew)).mono ?_
         rintro e w2 ⟨rfl, rfl⟩)
      | (go_at_call 37
         refine (HL.out _ HB1.out.drew).mono ?_
         rintro e w2 ⟨hh, v2, E2, rfl, hb2, hor⟩
         have hall : E2 = 0 ∧ w2.ownsRow w.heap.size 5 1 v2 b.length (b.map bc) := by
           rcases hor with ⟨ep', r, hr, h5, _, h6⟩ | ⟨hno, _⟩
           · obtain ⟨_, e2⟩ := HREC.out.uniq hr
             subst e2
             exact ⟨h5, own_mono h6 HB1.out.size⟩
           · exact absurd HREC.out (hno _ _)
         obtain ⟨rfl, hown2⟩ := hall
         have HO2 := Lib.hid hown2
         have hbw : Below w.heap.size w w2 := (HB1.out.drew).trans (hb2.mono HB1.out.size)
         have HB2 := Lib.hid hbw
         have c7 := (HC.out w2 hbw).1
         have cp := (HC.out w2 hbw).2
         obtain ⟨h0, h1, h2, h3, h4⟩ := hh
         unfold SH.val
         clear hb2 hbw hor hown2)
      | (go_at_call 37
         refine (HL.out _ (HB1.out.alloc HB1.out.size _).drew).mono ?_
         rintro e w2 ⟨hh, v2, E2, rfl, hb2, hor⟩
         have hall : E2 = 0 ∧ w2.ownsRow w.heap.size 5 1 v2 b.length (b.map bc) := by
           rcases hor with ⟨ep', r, hr, h5, _, h6⟩ | ⟨hno, _⟩
           · obtain ⟨_, e2⟩ := HREC.out.uniq hr
             subst e2
             exact ⟨h5, own_mono h6 (HB1.out.alloc HB1.out.size (.cells hzero.cells.toArray 79)).size⟩
           · exact absurd HREC.out (hno _ _)
         obtain ⟨rfl, hown2⟩ := hall
         have HO2 := Lib.hid hown2
         have hbw : Below w.heap.size w w2 := ((HB1.out.alloc HB1.out.size _).drew).trans (hb2.mono (HB1.out.alloc HB1.out.size (.cells hzero.cells.toArray 79)).size)
         have HB2 := Lib.hid hbw
         have c7 := (HC.out w2 hbw).1
         have cp := (HC.out w2 hbw).2
         have hw2 : Whole w2 w1.heap.size 79 hzero.cells := (Whole.made w1 hzero.cells 79).keep (hb2.block w1.heap.size (Whole.made w1 hzero.cells 79).lt)
         have k0 : w2.cell? ⟨w1.heap.size, 0, none⟩ = some (.int .i64 0) := hw2.cell 0
         have k1 : w2.cell? ⟨w1.heap.size, 1, none⟩ = some (.int .i64 0) := hw2.cell 1
         have k2 : w2.cell? ⟨w1.heap.size, 2, none⟩ = some (.int .i64 0) := hw2.cell 2
         have k3 : w2.cell? ⟨w1.heap.size, 3, none⟩ = some (.int .i64 0) := hw2.cell 3
         have k4 : w2.cell? ⟨w1.heap.size, 4, none⟩ = some (.int .i64 0) := hw2.cell 4
         have l0 := hw2.frozen 0
         have l1 := hw2.frozen 1
         have l2 := hw2.frozen 2
         have l3 := hw2.frozen 3
         have l4 := hw2.frozen 4
         have HNB := Lib.hid (own_not_whole hown2 hw2 (by decide))
         clear hw2
         obtain ⟨h0, h1, h2, h3, h4⟩ := hh
         unfold SH.val
         clear hb2 hbw hor hown2)))
  · go_wp2
    go_ret2
    exact ⟨v2, rfl, own_keep HO2.out fun g' e' => Below.heap_alloc _ _ g' (HO2.out.lt g' e').2, HB2.out.alloc HB2.out.size _⟩
  · go_wp2
    go_ret2
    exact ⟨v2, rfl, (own_set_far (own_set_far (own_set_far (own_set_far (own_set_far HO2.out (a := ⟨w1.heap.size, 0, none⟩) HNB.out _) (a := ⟨w1.heap.size, 1, none⟩) HNB.out _) (a := ⟨w1.heap.size, 2, none⟩) HNB.out _) (a := ⟨w1.heap.size, 3, none⟩) HNB.out _) (a := ⟨w1.heap.size, 4, none⟩) HNB.out _), (((((HB2.out.setCell (p := ⟨w1.heap.size, 0, none⟩) HB1.out.size _).setCell (p := ⟨w1.heap.size, 1, none⟩) HB1.out.size _).setCell (p := ⟨w1.heap.size, 2, none⟩) HB1.out.size _).setCell (p := ⟨w1.heap.size, 3, none⟩) HB1.out.size _).setCell (p := ⟨w1.heap.size, 4, none⟩) HB1.out.size _)⟩
  · go_wp2
    go_ret2
    exact ⟨v2, rfl, (own_set_far (own_set_far (own_set_far (own_set_far (own_set_far HO2.out (a := ⟨w1.heap.size, 0, none⟩) HNB.out _) (a := ⟨w1.heap.size, 1, none⟩) HNB.out _) (a := ⟨w1.heap.size, 2, none⟩) HNB.out _) (a := ⟨w1.heap.size, 3, none⟩) HNB.out _) (a := ⟨w1.heap.size, 4, none⟩) HNB.out _), (((((HB2.out.setCell (p := ⟨w1.heap.size, 0, none⟩) HB1.out.size _).setCell (p := ⟨w1.heap.size, 1, none⟩) HB1.out.size _).setCell (p := ⟨w1.heap.size, 2, none⟩) HB1.out.size _).setCell (p := ⟨w1.heap.size, 3, none⟩) HB1.out.size _).setCell (p := ⟨w1.heap.size, 4, none⟩) HB1.out.size _)⟩
end

end Go.Proofs.YtgfoekbdmgljbaaDoor

namespace Go.Proofs.YtgfoekbdmgljbaaDoor
open Go.RowKit

set_option maxHeartbeats 400000 in
theorem clone_rec (A : Option Addr) (n c H : Nat) (xs : List Value) (w : World) (hl : xs.length = n * 2) (hA : Row w H A xs) (h1 : ∀ u ∈ xs, u.oneCell' = true) (hn : n ≤ maxLen) (hb : n * 16 ≤ 140737488355328) :
    Calls Tryd.prog 34 #[.slice A n c] w (Cloned w 72 2 n xs) := by
  obtain ⟨i0, z0, hi0, hz0, hz1, hz2, hz3⟩ := info_row rec_row
  have HL := Lib.hid hl
  have HA := Lib.hid hA
  have H1 := Lib.hid h1
  have HB := Lib.hid hb
  clear hl hA h1 hb
  rcases A with _ | ad
  · have h0 : xs = [] := by
      rcases xs with _ | ⟨u, us⟩
      · rfl
      · obtain ⟨_, _, h, _⟩ := HA.out (by simp)
        cases h
    have hn0 : n = 0 := by
      have := HL.out
      rw [h0] at this
      simp at this
      omega
    have H0 := Lib.hid h0
    have HN := Lib.hid hn0
    clear h0 hn0
    have hq := fun (w : World) (a : Option Addr) (n c n' c' : Nat) => Lib.run_eql_slice_nil (P := Tryd.prog) w 66 72 a n c n' c' Tryd.underlying66
    go_enter Tryd.func34, Tryd.ntmps34
    go_wp2
    go_ret
    rw [H0.out, HN.out]
    exact ⟨_, rfl, World.ownsRow_nil _ _ _ _, Below.refl _ _⟩
  · have HW := Lib.hid (own_lit w 72 2)
    have hq := fun (w : World) (a : Option Addr) (n c n' c' : Nat) => Lib.run_eql_slice_nil (P := Tryd.prog) w 66 72 a n c n' c' Tryd.underlying66
    go_enter Tryd.func34, Tryd.ntmps34
    go_wp2_with (
      at_builtin
      refine wpList_append_row rfl (.tmp 5) (.tmp 6) _ rfl w.heap.size 72 i0 z0 2 16 Tryd.underlying66 hi0 hz0 hz1 hz2 hz3 (by decide) _ 0 [] rfl HW.out (some ad) n c H xs rfl HL.out ?c1 H1.out ?c2 ?c3 ?c4 ?_
      case c1 =>
        intro hx
        obtain ⟨b, off, e, hb, hc⟩ := HA.out hx
        exact ⟨b, off, e, hb, fun j u hu => by rw [World.cell?_alloc_lt _ _ _ (World.block_lt_of_cell? w _ (hc j u hu))]; exact hc j u hu⟩
      case c2 => omega
      case c3 => rw [Nat.zero_add]; exact HB.out
      case c4 => simp
      intro v1 w1 hown1 hg1)
    go_ret
    refine ⟨v1, rfl, by simpa using hown1, own_below ((Below.refl _ _).alloc (Nat.le_refl _) _) (Nat.le_refl _) (by simp) HW.out hg1⟩

end Go.Proofs.YtgfoekbdmgljbaaDoor

namespace Go.Proofs.YtgfoekbdmgljbaaDoor
open Go.RowKit

/-- What is left of a log's records, where it lies. -/
theorem row_recs {w : World} {base : Nat} {A : Option Addr} {n c k : Nat} {rs : List (Nat × Nat)} (h : w.ownsRow base 72 2 (.slice A n c) n (recCells rs)) (hn : rs.length = n) (hc : n ≤ c) {AA : Option Addr} (hA : (if c = k then A else Option.map (fun x => x.add (k * 2)) A) = AA) : Row w w.heap.size AA (recCells (rs.drop k)) := fun hx => by
  have hk : k < rs.length := by
    rcases Nat.lt_or_ge k rs.length with h1 | h1
    · exact h1
    · rw [List.drop_eq_nil_of_le h1] at hx
      exact absurd rfl hx
  have hne : recCells rs ≠ [] := fun e => by
    have := congrArg List.length e
    rw [length_recCells] at this
    simp only [List.length_nil] at this
    omega
  obtain ⟨b, off, rfl, hb, hcl⟩ := (Row.of_own h) hne
  rw [if_neg (by omega)] at hA
  subst hA
  refine ⟨b, off + k * 2, by simp [addr_add], hb, fun j u hu => ?_⟩
  rw [Nat.add_assoc]
  refine hcl (k * 2 + j) u ?_
  have e : recCells rs = recCells (rs.take k) ++ recCells (rs.drop k) := by rw [← recCells_app, List.take_append_drop]
  rw [e, List.getElem?_append_right (by rw [length_recCells, List.length_take]; omega), length_recCells, List.length_take]
  rw [show k * 2 + j - min k rs.length * 2 = j by omega]
  exact hu
section
variable {w0 w : World} {D : Nat} {S : List Sec} {L : Nat} {x : Dv} {o : Lo} {g : Lm} {F : Nat → Prop}
set_option maxHeartbeats 1000000 in
theorem ldrop_down (h : LmAt w0 w D x o g F) (hg : g.down = true) (sq : Int) : Calls Tryd.prog 13 #[lptr o, .int .i64 sq] w (fun r w' => r = .returned (.int .i64 8) ∧ LmAt w0 w' D x o g F ∧ Moved F w w' F) := by
  have HR := Lib.hid (ready_down h hg)
  clear h hg
  unfold lptr at HR ⊢
  go_enter Tryd.func13, Tryd.ntmps13
  go_wp2_with fail
  refine HR.out.mono ?_
  rintro e w1 ⟨rfl, ha, hm⟩
  have HA := Lib.hid ha
  have HM := Lib.hid hm
  clear ha hm
  go_wp2
  go_ret
  exact ⟨rfl, HA.out, HM.out⟩
set_option maxHeartbeats 1000000 in
theorem ldrop_none (h : LmAt w0 w D x o g F) (hg : g.down = false) (hx : x.down = false) (first : Nat) (hb : g.block.first = (first : Int)) (hs : first + g.recs.length ≤ 36028797018963968) (sq : Int) (ht : ((first + g.recs.length : Nat) : Int) < sq) :
    Calls Tryd.prog 13 #[lptr o, .int .i64 sq] w (Gave w (.int .i64 11)) := by
  have HR := Lib.hid (ready_ok h hg hx)
  have HN := Lib.hid (fun W (hW : Below w.heap.size w W) => next_any (h.below hW) first hb hs)
  obtain ⟨nx, hnx⟩ : ∃ nx : Nat, first + g.recs.length = nx := ⟨_, rfl⟩
  rw [hnx] at HN ht
  have d1 : decide ((nx : Int) < sq) = true := decide_eq_true ht
  clear h hg hx hb hs hnx
  unfold lptr at HR HN ⊢
  go_enter Tryd.func13, Tryd.ntmps13
  go_wp2_with fail
  refine HR.out.mono ?_
  rintro e w1 ⟨rfl, rfl⟩
  go_wp2_with fail
  refine (HN.out _ (Below.refl _ _)).mono ?_
  rintro e w1 ⟨rfl, hb1⟩
  have HB1 := Lib.hid hb1
  clear hb1
  go_wp2
  go_ret
  exact ⟨rfl, HB1.out⟩
set_option maxHeartbeats 1000000 in
theorem ldrop_old (h : LmAt w0 w D x o g F) (hg : g.down = false) (hx : x.down = false) (first : Nat) (hb : g.block.first = (first : Int)) (hs : first + g.recs.length ≤ 36028797018963968) (sq : Int) (ht : sq < (first : Int)) :
    Calls Tryd.prog 13 #[lptr o, .int .i64 sq] w (Gave w (.int .i64 12)) := by
  have HR := Lib.hid (ready_ok h hg hx)
  have HN := Lib.hid (fun W (hW : Below w.heap.size w W) => next_any (h.below hW) first hb hs)
  have HF := Lib.hid (fun W (hW : Below w.heap.size w W) => first_any (h.below hW) first hb)
  obtain ⟨nx, hnx⟩ : ∃ nx : Nat, first + g.recs.length = nx := ⟨_, rfl⟩
  rw [hnx] at HN
  have d1 : decide ((nx : Int) < sq) = false := decide_eq_false (by omega)
  have d1n : ¬ (nx : Int) < sq := by omega
  have d2 : decide (sq < (first : Int)) = true := decide_eq_true ht
  clear h hg hx hb hs hnx
  unfold lptr at HR HN HF ⊢
  go_enter Tryd.func13, Tryd.ntmps13
  go_wp2_with fail
  refine HR.out.mono ?_
  rintro e w1 ⟨rfl, rfl⟩
  go_wp2_with fail
  refine (HN.out _ (Below.refl _ _)).mono ?_
  rintro e w1 ⟨rfl, hb1⟩
  have HB1 := Lib.hid hb1
  clear hb1
  go_wp2_with fail
  refine (HF.out _ HB1.out).mono ?_
  rintro e w2 ⟨rfl, rfl⟩
  go_wp2
  go_ret
  exact ⟨rfl, HB1.out⟩
/-- The block of a Drop. -/
def dropB (g : Lm) (first k fr : Nat) : Blk := ⟨g.block.gen + 1, g.block.epoch, ((first + k : Nat) : Int), (fr : Int), ((g.recs.length - k : Nat) : Int)⟩
/-- What Drop leaves. -/
def LDropOut (w0 w : World) (D : Nat) (S : List Sec) (L : Nat) (o : Lo) (g : Lm) (k : Nat) (b : Blk) (F : Nat → Prop) (e : Ending) (w' : World) : Prop :=
  ∃ F', Moved F w w' F' ∧ ((e = .returned (.int .i64 8) ∧ L ≠ 0 ∧ ∃ j, LmAt w0 w' D ⟨S, g.us.take j, 0, true⟩ o { g with down := true } F') ∨
    (e = .returned (.int .i64 ((Dv.mk S g.us (L - g.us.length) false).saveE b)) ∧
      (((Dv.mk S g.us (L - g.us.length) false).saveE b = 0 ∧ ∃ o', o'.l = o.l ∧ LmAt w0 w' D ((Dv.mk S g.us (L - g.us.length) false).save b) o' { g with block := b, recs := g.recs.drop k, us := [] } F') ∨
       ((Dv.mk S g.us (L - g.us.length) false).saveE b ≠ 0 ∧ LmAt w0 w' D ((Dv.mk S g.us (L - g.us.length) false).save b) o { g with down := g.down || ((Dv.mk S g.us (L - g.us.length) false).saveE b == 8) } F'))))
set_option maxHeartbeats 4000000 in
set_option maxRecDepth 8000 in
theorem ldrop_any (h : LmAt w0 w D ⟨S, [], L, false⟩ o g F) (hg : g.down = false) (hus : g.us.length ≤ 4094) (hok : ∀ u ∈ g.us, u.place < S.length ∧ u.data.length = 512) (first f : Nat) (hb : g.block.first = (first : Int)) (hbe : g.block.begun = (f : Int)) (hs : first + g.recs.length ≤ 36028797018960000)
    (hp : 0 < g.places) (hp2 : g.places ≤ 4094) (hr : ∀ r ∈ g.recs, 2 ≤ r.1 ∧ r.1 ≤ 4096 ∧ r.2 ≤ 4096) (hl : g.recs.length ≤ 4094) (hge : -1 ≤ g.block.gen) (hge2 : g.block.gen ≤ 10000000) (k : Nat) (hk : k ≤ g.recs.length) (fr : Nat)
    (hfr : ∀ hk : k < g.recs.length, fr = (g.recs[k]).1) (hfr2 : k = g.recs.length → fr = endN g.places f g.recs) (hfit : (dropB g first k fr).fits = true) :
    Calls Tryd.prog 13 #[lptr o, .int .i64 ((first + k : Nat) : Int)] w (LDropOut w0 w D S L o g k (dropB g first k fr) F) := by
  have HR := Lib.hid (ready_ok h hg rfl)
  have HN := Lib.hid (fun W (hW : Below w.heap.size w W) => next_any (h.below hW) first hb (by omega))
  have HF := Lib.hid (fun W (hW : Below w.heap.size w W) => first_any (h.below hW) first hb)
  have HW := Lib.hid (fun W (hW : Below w.heap.size w W) => lwrite_any (h.below hW) hg hus hok)
  have HEND := Lib.hid (fun (W : World) (x : Dv) (F' : Nat → Prop) (hW : LmAt w0 W D x o g F') => end_any hW f hbe hp hp2 hr hl)
  have HF2 := Lib.hid (fun (W : World) (x : Dv) (F' : Nat → Prop) (hW : LmAt w0 W D x o g F') => first_any hW first hb)
  have HSA := Lib.hid (fun (W : World) (F' : Nat → Prop) (hW : LmAt w0 W D ⟨S, g.us, L - g.us.length, false⟩ o g F') => lsave_any hW (dropB g first k fr) hfit (by show g.us.length < 4294967295; omega))
  obtain ⟨nx, hnx⟩ : ∃ nx : Nat, first + g.recs.length = nx := ⟨_, rfl⟩
  obtain ⟨sq, hsq⟩ : ∃ sq : Nat, first + k = sq := ⟨_, rfl⟩
  obtain ⟨n, hn⟩ : ∃ n : Nat, g.recs.length = n := ⟨_, rfl⟩
  rw [hnx] at HN
  rw [hsq]
  have d1 : decide ((nx : Int) < (sq : Int)) = false := by simp; omega
  have d1n : ¬ (nx : Int) < (sq : Int) := by omega
  have d1m : ¬ nx < sq := by omega
  have d2 : decide ((sq : Int) < (first : Int)) = false := by simp; omega
  have d2n : ¬ (sq : Int) < (first : Int) := by omega
  have d2m : ¬ sq < first := by omega
  have r1 : IntKind.i64.wrap ((sq : Int) - (first : Int)) = (k : Int) := by rw [show (sq : Int) - (first : Int) = (k : Int) by omega]; exact IntWalk.i64_in _ (by omega)
  have HH := Lib.hid h
  have HGE := Lib.hid hge
  clear h hg hus hok hs hr hge hp hp2
  unfold lptr at HR HN HF HW HEND HF2 HSA ⊢
  go_enter Tryd.func13, Tryd.ntmps13
  go_wp2_with fail
  refine HR.out.mono ?_
  rintro e w1 ⟨rfl, rfl⟩
  go_wp2_with fail
  refine (HN.out _ (Below.refl _ _)).mono ?_
  rintro e w1 ⟨rfl, hb1⟩
  have HB1 := Lib.hid hb1
  clear hb1
  go_wp2_with fail
  refine (HF.out _ HB1.out).mono ?_
  rintro e w2 ⟨rfl, rfl⟩
  go_wp2_with fail
  refine (HW.out _ HB1.out).mono ?_
  rintro e w3 ⟨F3, hm3, ⟨rfl, hL3, ha3⟩ | ⟨rfl, hL3, j, ha3⟩⟩
  · have HA3 := Lib.hid ha3
    have HM3 := Lib.hid hm3
    obtain ⟨A, c, hv, hc1, hc2⟩ := ha3.vr
    have c7 := ha3.c7
    rw [hv, hn] at c7
    rw [hn] at hc1
    have HV := Lib.hid hv
    have HC1 := Lib.hid hc1
    have HC2 := Lib.hid hc2
    have hkn : k ≤ n := by omega
    have b1 : (k : Int) ≤ (n : Int) := by omega
    have b2 : (n : Int) ≤ (c : Int) := by omega
    obtain ⟨en, hen⟩ : ∃ en, endN g.places f g.recs = en := ⟨_, rfl⟩
    have HENE := Lib.hid hen
    rw [hen] at HEND
    have HHH := Lib.hid (And.intro hb (And.intro hbe (And.intro hl (And.intro hge2 (And.intro hk (And.intro hn (And.intro hsq hnx)))))))
    have HFR := Lib.hid (And.intro hfr hfr2)
    have HFIT := Lib.hid hfit
    clear hfr hfr2 hfit hb hbe hl hge2 hk hn hsq hnx
    clear ha3 hm3 hL3 hv hc2 hen
    go_wp2_with fail
    go_region_held3 (fun X => X.cell? ⟨o.l, 7, none⟩ = some (.slice A n c))
      (go_keep)
      ((first
        | (go_at_call 28
           refine (HEND.out _ _ _ (HA3.out.below (Below.refl _ _).drew)).mono ?_
           rintro e w4 ⟨rfl, hb4'⟩
           have hb4 : Below w3.heap.size w3 w4 := ⟨hb4'.os, hb4'.tape, hb4'.output, hb4'.size, hb4'.block⟩
           have c7 : w4.cell? ⟨o.l, 7, none⟩ = some (.slice A n c) := (hb4.cell (p := ⟨o.l, 7, none⟩) HA3.out.lt).trans c7
           have HB4 := Lib.hid hb4
           clear hb4 hb4')
        | (go_at_call 18
           refine (HF2.out _ _ _ (HA3.out.below HB4.out)).mono ?_
           rintro e w5 ⟨rfl, rfl⟩)))
    obtain ⟨AA, hAA⟩ : ∃ AA, (if c = k then A else Option.map (fun x => x.add (k * 2)) A) = AA := ⟨_, rfl⟩
    rw [hAA]
    have HAA := Lib.hid hAA
    clear hAA
    have HL4 := Lib.hid (HA3.out.below HB4.out)
    have HM4 := Lib.hid (((Moved.of_below HB1.out).trans HM3.out).trans (Moved.of_below HB4.out))
    have hgen : w4.cell? ⟨o.l, 2, none⟩ = some (.int .i64 g.block.gen) := HL4.out.blk.cell 2
    have hep : w4.cell? ⟨o.l, 3, none⟩ = some (.int .i64 g.block.epoch) := HL4.out.c3
    have rg : IntKind.i64.wrap (g.block.gen + 1) = g.block.gen + 1 := IntWalk.i64_in _ (by have := HHH.out.2.2.2.1; have := HGE.out; omega)
    have hol : o.l < w4.heap.size := HL4.out.lt
    have hgenA : (w4.alloc (.cells #[.int .i64 0, .int .i64 0, .int .i64 0, .int .i64 0, .int .i64 0] 63)).cell? ⟨o.l, 2, none⟩ = some (.int .i64 g.block.gen) := (World.cell?_alloc_lt w4 _ ⟨o.l, 2, none⟩ hol).trans hgen
    have hepA : (w4.alloc (.cells #[.int .i64 0, .int .i64 0, .int .i64 0, .int .i64 0, .int .i64 0] 63)).cell? ⟨o.l, 3, none⟩ = some (.int .i64 g.block.epoch) := (World.cell?_alloc_lt w4 _ ⟨o.l, 3, none⟩ hol).trans hep
    have hgenD : (w4.alloc (.cells #[.int .i64 0, .int .i64 0, .int .i64 0, .int .i64 0, .int .i64 0] 63)).drew.cell? ⟨o.l, 2, none⟩ = some (.int .i64 g.block.gen) := hgenA
    have hepD : (w4.alloc (.cells #[.int .i64 0, .int .i64 0, .int .i64 0, .int .i64 0, .int .i64 0] 63)).drew.cell? ⟨o.l, 3, none⟩ = some (.int .i64 g.block.epoch) := hepA
    obtain ⟨m, hm⟩ : ∃ m, n - k = m := ⟨_, rfl⟩
    obtain ⟨ck, hck⟩ : ∃ ck, c - k = ck := ⟨_, rfl⟩
    have hm' : ((n - k : Nat) : Int) = (m : Int) := by rw [hm]
    rw [hm, hck]
    have hbv : (dropB g first k fr).val = .agg #[.int .i64 (g.block.gen + 1), .int .i64 g.block.epoch, .int .i64 (sq : Int), .int .i64 (fr : Int), .int .i64 (m : Int)] := by
      unfold dropB Blk.val
      rw [HHH.out.2.2.2.2.2.1, HHH.out.2.2.2.2.2.2.1, hm]
    rw [hbv] at HSA
    have HM := Lib.hid hm
    clear hbv hm' hck hc1 hkn b1 b2 d1 d1m d2 d2m r1 d1n d2n
    rcases Nat.lt_or_ge k n with hlt | hge
    · have e1 : decide ((0 : Int) < (m : Int)) = true := by simp; omega
      have e1n : decide (0 < m) = true := by simp; omega
      have e1m : 0 < m := by omega
      have hrow : Row w4 w4.heap.size AA (recCells (g.recs.drop k)) := row_recs (by have h1 := HL4.out.recs; rw [HV.out, HHH.out.2.2.2.2.2.1] at h1; exact h1) HHH.out.2.2.2.2.2.1 HC1.out HAA.out
      obtain ⟨ab, ao, hAb, hab, hcell⟩ := hrow (by intro e; have := congrArg List.length e; rw [length_recCells, List.length_drop, HHH.out.2.2.2.2.2.1] at this; simp only [List.length_nil] at this; omega)
      have q0 : w4.cell? ⟨ab, ao, none⟩ = some (.int .i64 (fr : Int)) := by
        have h0 : 0 < (g.recs.drop k).length := by rw [List.length_drop, HHH.out.2.2.2.2.2.1]; omega
        have h1 := hcell 0 _ (recCells_at h0).1
        rw [Nat.add_zero] at h1
        rw [h1, HFR.out.1 (by rw [HHH.out.2.2.2.2.2.1]; exact hlt)]
        simp
      subst hAb
      clear hrow hcell hm hlt
      go_wp2_with fail
      go_region
      go_upto_region 15 with fail
      generalize hW5 : (w4.alloc (Obj.cells #[.int .i64 (g.block.gen + 1), .int .i64 g.block.epoch, .int .i64 (sq : Int), .int .i64 (fr : Int), .int .i64 (m : Int)] 63)).drew = W5
      have hb5 : Below w4.heap.size w4 W5 := by rw [← hW5]; exact ((Below.refl _ _).alloc (Nat.le_refl _) _).drew
      have hw5 : Whole W5 w4.heap.size 63 [.int .i64 (g.block.gen + 1), .int .i64 g.block.epoch, .int .i64 (sq : Int), .int .i64 (fr : Int), .int .i64 (m : Int)] := by rw [← hW5]; exact Whole.made w4 _ _
      have hl5 := HL4.out.below hb5
      have HM5 := Lib.hid (HM4.out.trans (Moved.of_below hb5))
      have HC := Lib.hid (HSA.out W5 F3 hl5)
      have m0 : W5.cell? ⟨w4.heap.size, 0, none⟩ = some (.int .i64 (g.block.gen + 1)) := hw5.cell 0
      have m1 : W5.cell? ⟨w4.heap.size, 1, none⟩ = some (.int .i64 g.block.epoch) := hw5.cell 1
      have m2 : W5.cell? ⟨w4.heap.size, 2, none⟩ = some (.int .i64 (sq : Int)) := hw5.cell 2
      have m3 : W5.cell? ⟨w4.heap.size, 3, none⟩ = some (.int .i64 (fr : Int)) := hw5.cell 3
      have m4 : W5.cell? ⟨w4.heap.size, 4, none⟩ = some (.int .i64 (m : Int)) := hw5.cell 4
      clear hW5 hb5 hw5 hl5 hgen hep hgenA hepA hgenD hepD rg hol
      go_wp2_with fail
      refine HC.out.mono ?_
      rintro e w6 ⟨he, F6, hm6, hs6⟩
      obtain ⟨SE, hSE⟩ : ∃ SE, (Dv.mk S g.us (L - g.us.length) false).saveE (dropB g first k fr) = SE := ⟨_, rfl⟩
      rw [hSE] at he
      subst he
      have HSE := Lib.hid hSE
      have HM6 := Lib.hid (HM5.out.trans hm6)
      have HS6 := Lib.hid hs6
      clear hSE hm6 hs6
      by_cases hE0 : SE = 0
      · subst hE0
        have hl6 : LmAt w0 w6 D ((Dv.mk S g.us (L - g.us.length) false).save (dropB g first k fr)) { o with vu := .slice none 0 0, vs := [] } { g with block := dropB g first k fr, us := [] } F6 := by
          rcases HS6.out with ⟨_, h1⟩ | ⟨h1, _⟩
          · exact h1
          · exact absurd HSE.out h1
        have hrw : Row w6 w6.heap.size (some ⟨ab, ao, none⟩) (recCells (g.recs.drop k)) := row_recs (by have h1 := hl6.recs; rw [show ({ o with vu := .slice none 0 0, vs := [] } : Lo).vr = o.vr from rfl, HV.out, show ({ g with block := dropB g first k fr, us := [] } : Lm).recs = g.recs from rfl, HHH.out.2.2.2.2.2.1] at h1; exact h1) HHH.out.2.2.2.2.2.1 HC1.out HAA.out
        have HCL := Lib.hid (clone_rec (some ⟨ab, ao, none⟩) m ck w6.heap.size (recCells (g.recs.drop k)) w6 (by rw [length_recCells, List.length_drop, HHH.out.2.2.2.2.2.1, HM.out]) hrw (recCells_one _) (by have h1 := HM.out; have h2 := HHH.out.2.2.1; have h3 := HHH.out.2.2.2.2.2.1; unfold maxLen; omega) (by have h1 := HM.out; have h2 := HHH.out.2.2.1; have h3 := HHH.out.2.2.2.2.2.1; omega))
        have HL6 := Lib.hid hl6
        clear hl6 hrw
        go_wp2_with fail
        refine HCL.out.mono ?_
        rintro e w7 ⟨v7, rfl, hown7, hb7⟩
        obtain ⟨A7, p7, hv7, _, _⟩ := own_form hown7
        subst hv7
        have hw7 := HL6.out.blk.below hb7 HL6.out.lt
        have k7 : w7.cell? ⟨o.l, 7, none⟩ = some o.vr := hw7.cell 7
        have y7 : w7.frozen? ⟨o.l, 7, none⟩ = false := hw7.frozen 7
        have hrows := LmAt.rows (Y := w7.setCell ⟨o.l, 7, none⟩ (.slice A7 m p7)) (o' := { o with vr := .slice A7 m p7, vu := .slice none 0 0, vs := [] }) (g' := { g with block := dropB g first k fr, recs := g.recs.drop k, us := [] }) HL6.out rfl
          ((Grew.all hb7).setCell (a := ⟨o.l, 7, none⟩) (.inl (.inl rfl)) (.slice A7 m p7)) (hw7.set_ 7 (.slice A7 m p7))
          (by
            rw [show ({ g with block := dropB g first k fr, recs := g.recs.drop k, us := [] } : Lm).recs.length = m from by show (g.recs.drop k).length = m; rw [List.length_drop, HHH.out.2.2.2.2.2.1, HM.out]]
            refine own_keep (own_mono hown7 HL6.out.below0.size) fun j ej => Below.heap_setCell _ _ _ _ ?_
            have h1 := (hown7.lt j ej).1
            have h2 := HL6.out.lt
            show j ≠ o.l
            have h3 : ({ o with vu := .slice none 0 0, vs := [] } : Lo).l = o.l := rfl
            rw [h3] at h2
            omega) (UnsAt.nil _ _) (fun j e => by
            rcases e with e | e | ⟨u, hu, e⟩
            · exact .inr (hown7.lt j e).1
            · cases e
            · cases hu)
        have HRO := Lib.hid hrows
        obtain ⟨va, hva⟩ : ∃ va, o.vr = va := ⟨_, rfl⟩
        rw [hva] at k7
        clear hown7 hb7 hw7 hrows hva
        go_wp2
        go_ret
        refine ⟨_, HM6.out.trans HRO.out.2, .inr ⟨by rw [HSE.out]; rfl, .inl ⟨HSE.out, { o with vr := .slice A7 m p7, vu := .slice none 0 0, vs := [] }, rfl, HRO.out.1⟩⟩⟩
      · have dS : (SE != 0) = true := by rw [bne_iff_ne]; exact hE0
        have HE0 := Lib.hid hE0
        clear hE0
        go_wp2
        go_ret
        refine ⟨F6, HM6.out, .inr ⟨by rw [HSE.out]; rfl, .inr ⟨by rw [HSE.out]; exact HE0.out, ?_⟩⟩⟩
        rcases HS6.out with ⟨h1, _⟩ | ⟨_, h1⟩
        · exact absurd (HSE.out.symm.trans h1) HE0.out
        · exact h1
    · have e1 : decide ((0 : Int) < (m : Int)) = false := by simp; omega
      have e1n : decide (0 < m) = false := by simp; omega
      have e1m : ¬ 0 < m := by omega
      have efr : fr = en := by rw [← HENE.out]; exact HFR.out.2 (by rw [HHH.out.2.2.2.2.2.1]; have := HHH.out.2.2.2.2.1; have := HHH.out.2.2.2.2.2.1; omega)
      clear hm hge
      subst efr
      go_wp2_with fail
      go_region
      go_upto_region 15 with fail
      generalize hW5 : (w4.alloc (Obj.cells #[.int .i64 (g.block.gen + 1), .int .i64 g.block.epoch, .int .i64 (sq : Int), .int .i64 (fr : Int), .int .i64 (m : Int)] 63)).drew = W5
      have hb5 : Below w4.heap.size w4 W5 := by rw [← hW5]; exact ((Below.refl _ _).alloc (Nat.le_refl _) _).drew
      have hw5 : Whole W5 w4.heap.size 63 [.int .i64 (g.block.gen + 1), .int .i64 g.block.epoch, .int .i64 (sq : Int), .int .i64 (fr : Int), .int .i64 (m : Int)] := by rw [← hW5]; exact Whole.made w4 _ _
      have hl5 := HL4.out.below hb5
      have HM5 := Lib.hid (HM4.out.trans (Moved.of_below hb5))
      have HC := Lib.hid (HSA.out W5 F3 hl5)
      have m0 : W5.cell? ⟨w4.heap.size, 0, none⟩ = some (.int .i64 (g.block.gen + 1)) := hw5.cell 0
      have m1 : W5.cell? ⟨w4.heap.size, 1, none⟩ = some (.int .i64 g.block.epoch) := hw5.cell 1
      have m2 : W5.cell? ⟨w4.heap.size, 2, none⟩ = some (.int .i64 (sq : Int)) := hw5.cell 2
      have m3 : W5.cell? ⟨w4.heap.size, 3, none⟩ = some (.int .i64 (fr : Int)) := hw5.cell 3
      have m4 : W5.cell? ⟨w4.heap.size, 4, none⟩ = some (.int .i64 (m : Int)) := hw5.cell 4
      clear hW5 hb5 hw5 hl5 hgen hep hgenA hepA hgenD hepD rg hol
      go_wp2_with fail
      refine HC.out.mono ?_
      rintro e w6 ⟨he, F6, hm6, hs6⟩
      obtain ⟨SE, hSE⟩ : ∃ SE, (Dv.mk S g.us (L - g.us.length) false).saveE (dropB g first k fr) = SE := ⟨_, rfl⟩
      rw [hSE] at he
      subst he
      have HSE := Lib.hid hSE
      have HM6 := Lib.hid (HM5.out.trans hm6)
      have HS6 := Lib.hid hs6
      clear hSE hm6 hs6
      by_cases hE0 : SE = 0
      · subst hE0
        have hl6 : LmAt w0 w6 D ((Dv.mk S g.us (L - g.us.length) false).save (dropB g first k fr)) { o with vu := .slice none 0 0, vs := [] } { g with block := dropB g first k fr, us := [] } F6 := by
          rcases HS6.out with ⟨_, h1⟩ | ⟨h1, _⟩
          · exact h1
          · exact absurd HSE.out h1
        have hrw : Row w6 w6.heap.size AA (recCells (g.recs.drop k)) := row_recs (by have h1 := hl6.recs; rw [show ({ o with vu := .slice none 0 0, vs := [] } : Lo).vr = o.vr from rfl, HV.out, show ({ g with block := dropB g first k fr, us := [] } : Lm).recs = g.recs from rfl, HHH.out.2.2.2.2.2.1] at h1; exact h1) HHH.out.2.2.2.2.2.1 HC1.out HAA.out
        have HCL := Lib.hid (clone_rec AA m ck w6.heap.size (recCells (g.recs.drop k)) w6 (by rw [length_recCells, List.length_drop, HHH.out.2.2.2.2.2.1, HM.out]) hrw (recCells_one _) (by have h1 := HM.out; have h2 := HHH.out.2.2.1; have h3 := HHH.out.2.2.2.2.2.1; unfold maxLen; omega) (by have h1 := HM.out; have h2 := HHH.out.2.2.1; have h3 := HHH.out.2.2.2.2.2.1; omega))
        have HL6 := Lib.hid hl6
        clear hl6 hrw
        go_wp2_with fail
        refine HCL.out.mono ?_
        rintro e w7 ⟨v7, rfl, hown7, hb7⟩
        obtain ⟨A7, p7, hv7, _, _⟩ := own_form hown7
        subst hv7
        have hw7 := HL6.out.blk.below hb7 HL6.out.lt
        have k7 : w7.cell? ⟨o.l, 7, none⟩ = some o.vr := hw7.cell 7
        have y7 : w7.frozen? ⟨o.l, 7, none⟩ = false := hw7.frozen 7
        have hrows := LmAt.rows (Y := w7.setCell ⟨o.l, 7, none⟩ (.slice A7 m p7)) (o' := { o with vr := .slice A7 m p7, vu := .slice none 0 0, vs := [] }) (g' := { g with block := dropB g first k fr, recs := g.recs.drop k, us := [] }) HL6.out rfl
          ((Grew.all hb7).setCell (a := ⟨o.l, 7, none⟩) (.inl (.inl rfl)) (.slice A7 m p7)) (hw7.set_ 7 (.slice A7 m p7))
          (by
            rw [show ({ g with block := dropB g first k fr, recs := g.recs.drop k, us := [] } : Lm).recs.length = m from by show (g.recs.drop k).length = m; rw [List.length_drop, HHH.out.2.2.2.2.2.1, HM.out]]
            refine own_keep (own_mono hown7 HL6.out.below0.size) fun j ej => Below.heap_setCell _ _ _ _ ?_
            have h1 := (hown7.lt j ej).1
            have h2 := HL6.out.lt
            show j ≠ o.l
            have h3 : ({ o with vu := .slice none 0 0, vs := [] } : Lo).l = o.l := rfl
            rw [h3] at h2
            omega) (UnsAt.nil _ _) (fun j e => by
            rcases e with e | e | ⟨u, hu, e⟩
            · exact .inr (hown7.lt j e).1
            · cases e
            · cases hu)
        have HRO := Lib.hid hrows
        obtain ⟨va, hva⟩ : ∃ va, o.vr = va := ⟨_, rfl⟩
        rw [hva] at k7
        clear hown7 hb7 hw7 hrows hva
        go_wp2
        go_ret
        refine ⟨_, HM6.out.trans HRO.out.2, .inr ⟨by rw [HSE.out]; rfl, .inl ⟨HSE.out, { o with vr := .slice A7 m p7, vu := .slice none 0 0, vs := [] }, rfl, HRO.out.1⟩⟩⟩
      · have dS : (SE != 0) = true := by rw [bne_iff_ne]; exact hE0
        have HE0 := Lib.hid hE0
        clear hE0
        go_wp2
        go_ret
        refine ⟨F6, HM6.out, .inr ⟨by rw [HSE.out]; rfl, .inr ⟨by rw [HSE.out]; exact HE0.out, ?_⟩⟩⟩
        rcases HS6.out with ⟨h1, _⟩ | ⟨_, h1⟩
        · exact absurd (HSE.out.symm.trans h1) HE0.out
        · exact h1
  · have HA3 := Lib.hid ha3
    have HM3 := Lib.hid hm3
    have HL3 := Lib.hid hL3
    clear ha3 hm3 hL3
    go_wp2
    go_ret
    exact ⟨F3, (Moved.of_below HB1.out).trans HM3.out, .inl ⟨rfl, HL3.out, j, HA3.out⟩⟩
end

end Go.Proofs.YtgfoekbdmgljbaaDoor

namespace Go.Proofs.YtgfoekbdmgljbaaDoor
open Go.RowKit

set_option maxHeartbeats 2000000 in
set_option maxRecDepth 100000 in
theorem wrote_yes (gen E first from_ cnt n : Nat) (h1 : 1 ≤ E ∧ E ≤ gen + 1) (h2 : gen ≤ 10000000) (h3 : 2 ≤ from_ ∧ from_ < n) (_ : n ≤ 4096) (hz : first = 0 → from_ = 2 ∧ (0 < gen ∨ cnt = 0)) (hm : 0 < first → E ≤ gen) (w : World) :
    Calls Tryd.prog 40 #[(mkB gen E first from_ cnt).val, .int .i64 (n : Int)] w (Gave w (.bool true)) := by
  have f1 := fun W => fits_any ((gen : Int) + 1) 7 W
  rw [fitB_true (by decide) (by decide) (by omega) (by show (gen : Int) + 1 < 2 ^ (8 * 7); omega)] at f1
  have f2 := fun W => fits_any ((E : Int) + 1) 4 W
  rw [fitB_true (by decide) (by decide) (by omega) (by show (E : Int) + 1 < 2 ^ (8 * 4); omega)] at f2
  have F1 := Lib.hid f1
  have F2 := Lib.hid f2
  have HB := Lib.hid ((Below.refl w.heap.size w).alloc (Nat.le_refl _) (.cells (mkB gen E first from_ cnt).cells.toArray 63))
  obtain ⟨dr, hdr⟩ : ∃ dr : Nat, gen + 1 - E = dr := ⟨_, rfl⟩
  have rg : IntKind.i64.wrap ((gen : Int) + 1) = (gen : Int) + 1 := IntWalk.i64_in _ (by omega)
  have re : IntKind.i64.wrap ((E : Int) + 1) = (E : Int) + 1 := IntWalk.i64_in _ (by omega)
  have rd : IntKind.i64.wrap ((gen : Int) + 1 - (E : Int)) = (dr : Int) := by rw [show (gen : Int) + 1 - (E : Int) = (dr : Int) by omega]; exact IntWalk.i64_in _ (by omega)
  have d1 : decide ((E : Int) < 1) = false := by simp; omega
  have d1n : ¬ (E : Int) < 1 := by omega
  have d2 : decide ((dr : Int) < 0) = false := decide_eq_false (by omega)
  have d2n : ¬ (dr : Int) < 0 := by omega
  have d3 : decide ((from_ : Int) < 2) = false := by simp; omega
  have d3n : ¬ (from_ : Int) < 2 := by omega
  have d4 : decide ((n : Int) ≤ (from_ : Int)) = false := by simp; omega
  have d4n : ¬ (n : Int) ≤ (from_ : Int) := by omega
  have d4m : ¬ n ≤ from_ := by omega
  have d4o : decide (n ≤ from_) = false := by simp; omega
  unfold mkB Blk.val
  by_cases h0 : first = 0
  · subst h0
    obtain ⟨z1, z2⟩ := hz rfl
    subst z1
    rcases z2 with z2 | z2
    · have d5 : decide ((0 : Int) < (gen : Int)) = true := by simp; omega
      have d5n : decide (0 < gen) = true := by simp; omega
      have d5p : 0 < gen := z2
      clear f1 f2 hz hm hdr h1 h2 h3 z2
      go_enter Tryd.func40, Tryd.ntmps40
      go_wp2_with fail
      refine (F1.out _).mono ?_
      rintro e w' ⟨rfl, rfl⟩
      go_wp2_with fail
      refine (F2.out _).mono ?_
      rintro e w' ⟨rfl, rfl⟩
      go_wp2
      go_ret
      exact ⟨rfl, HB.out⟩
    · subst z2
      by_cases hg0 : 0 < gen
      · have d5 : decide ((0 : Int) < (gen : Int)) = true := by simp; omega
        have d5n : decide (0 < gen) = true := by simp; omega
        clear f1 f2 hz hm hdr h1 h2 h3
        go_enter Tryd.func40, Tryd.ntmps40
        go_wp2_with fail
        refine (F1.out _).mono ?_
        rintro e w' ⟨rfl, rfl⟩
        go_wp2_with fail
        refine (F2.out _).mono ?_
        rintro e w' ⟨rfl, rfl⟩
        go_wp2
        go_ret
        exact ⟨rfl, HB.out⟩
      · have d5 : decide ((0 : Int) < (gen : Int)) = false := by simp; omega
        have d5n : decide (0 < gen) = false := by simp; omega
        have d5p : ¬ (0 : Int) < (gen : Int) := by omega
        clear f1 f2 hz hm hdr h1 h2 h3
        go_enter Tryd.func40, Tryd.ntmps40
        go_wp2_with fail
        refine (F1.out _).mono ?_
        rintro e w' ⟨rfl, rfl⟩
        go_wp2_with fail
        refine (F2.out _).mono ?_
        rintro e w' ⟨rfl, rfl⟩
        go_wp2
        go_ret
        exact ⟨rfl, HB.out⟩
  · have hle := hm (by omega)
    have e0 : ((first : Int) == 0) = false := by simp; omega
    have e0n : (first == 0) = false := by simp; omega
    have e0p : ¬ (first : Int) = 0 := by omega
    have e1 : decide ((0 : Int) < (dr : Int)) = true := by simp; omega
    have e1n : decide (0 < dr) = true := by simp; omega
    have e1p : 0 < dr := by omega
    clear f1 f2 hz hm hdr h1 h2 h3 hle
    go_enter Tryd.func40, Tryd.ntmps40
    go_wp2_with fail
    refine (F1.out _).mono ?_
    rintro e w' ⟨rfl, rfl⟩
    go_wp2_with fail
    refine (F2.out _).mono ?_
    rintro e w' ⟨rfl, rfl⟩
    go_wp2
    go_ret
    exact ⟨rfl, HB.out⟩

/-- Bytes that are all 0: none of them is another one. -/
theorem blankf_any (w : World) : Calls Tryd.prog 53 #[.int .u8 0] w (Told w (.bool false)) := by
  go_enter Tryd.func53, Tryd.ntmps53
  go_wp2
  go_ret
  exact ⟨rfl, rfl⟩
def IdxRel (n : Nat) (w : World) (i : Value) (wr : World) : Prop := ∃ k : Nat, k ≤ n ∧ i = .int .i64 k ∧ Below w.heap.size w wr
set_option maxHeartbeats 1000000 in
theorem index_none (A : Option Addr) (c n : Nat) (l : List UInt8) (w : World) (hl : l.length = n) (hn : n ≤ 512) (hA : Row w w.heap.size A (l.map bc)) (h0 : ∀ k (h : k < l.length), l[k] = 0) :
    Calls Tryd.prog 64 #[.slice A n c, .func (.func 53) #[] #[]] w (Gave w (.int .i64 (-1))) := by

  have HA := Lib.hid hA
  have HL := Lib.hid hl
  have H0 := Lib.hid h0
  clear hA hl h0
  go_enter Tryd.func64, Tryd.ntmps64
  go_wp2
  go_loopw [8] (IdxRel n w) (fun i _ => n - (intOf i).toNat)
  case atStart => exact ⟨0, Nat.zero_le _, rfl, Below.refl _ _⟩
  case round =>
    obtain ⟨k, hk, rfl, hb⟩ := hrel
    have HB := Lib.hid hb
    by_cases hlt : k < n
    · have d1 : decide (k < n) = true := by simp; omega
      have hki : (k : Int) < (n : Int) := by omega
      have hkl : k < (l.map bc).length := by rw [List.length_map, HL.out]; exact hlt
      obtain ⟨b, off, rfl, hbl, hcell⟩ := HA.out.at_ hkl
      have hv : (l.map bc)[k] = .int .u8 0 := by rw [List.getElem_map, H0.out k (by rw [HL.out]; exact hlt)]; rfl
      rw [hv] at hcell
      have hcr : wr.cell? ⟨b, off + k, none⟩ = some (.int .u8 0) := (hb.cell (p := ⟨b, off + k, none⟩) hbl).trans hcell
      clear hb hv hcell hkl
      go_wp2_with fail
      refine (blankf_any _).mono ?_
      rintro e w' ⟨rfl, rfl⟩
      go_wp2
      refine ⟨⟨k + 1, by omega, by go_num, HB.out⟩, by simp [intOf]; omega⟩
    · obtain rfl : k = n := by omega
      have d1 : decide (k < k) = false := by simp
      clear hb hlt hk
      go_wp2
      go_ret
      exact ⟨rfl, HB.out⟩
theorem contains_none (A : Option Addr) (c n : Nat) (l : List UInt8) (w : World) (hl : l.length = n) (hn : n ≤ 512) (hA : Row w w.heap.size A (l.map bc)) (h0 : ∀ k (h : k < l.length), l[k] = 0) :
    Calls Tryd.prog 52 #[.slice A n c, .func (.func 53) #[] #[]] w (Gave w (.bool false)) := by
  have HI := Lib.hid (index_none A c n l w hl hn hA h0)
  clear hl hn hA h0
  go_enter Tryd.func52, Tryd.ntmps52
  go_wp2_with fail
  refine HI.out.mono ?_
  rintro e w1 ⟨rfl, hb⟩
  have HB := Lib.hid hb
  clear hb
  go_wp2
  go_ret
  exact ⟨rfl, HB.out⟩
theorem zero512_at (k : Nat) (h : k < zero512.length) : zero512[k] = 0 := List.eq_of_mem_replicate (List.getElem_mem h)
def BlankRel (_ : World) (_ n : Nat) (w : World) (i : Value) (wr : World) : Prop := ∃ k : Nat, k ≤ n ∧ i = .int .i64 k ∧ Below w.heap.size w wr
theorem new_readE {n k : Nat} (h : k < n) : (newDv n).readE (k : Int) = 0 ∧ (newDv n).readB (k : Int) = zero512 := by
  have hn : (newDv n).now = List.replicate n secZero := rfl
  have hg : (List.replicate n secZero).getD k secZero = secZero := by
    rw [List.getD_eq_getElem?_getD, List.getElem?_replicate]
    split <;> rfl
  have hh : (newDv n).has (k : Int) = true := by
    have hl : (newDv n).sure.length = n := by show (List.replicate n secZero).length = n; simp
    simp only [Dv.has, decide_eq_true_eq, hl]
    omega
  have h1 : (newDv n).readE (k : Int) = 0 := by
    unfold Dv.readE
    rw [if_neg (by show ¬ false = true; decide), if_neg (by rw [hh]; decide), hn, Int.toNat_natCast, hg]
    rfl
  refine ⟨h1, ?_⟩
  unfold Dv.readB
  rw [if_pos h1, hn, Int.toNat_natCast, hg]
  rfl
section
variable {w0 w : World} {D : Nat}
set_option maxHeartbeats 1000000 in
theorem blank_new {n : Nat} (h : Holds w0 w D (newDv n)) (hn : n ≤ 4096) : Calls Tryd.prog 39 #[.pointer (some ⟨D, 0, none⟩)] w (Gave w (.bool true)) := by
  have HH := Lib.hid h
  have hlen := h_len h
  rw [show ((newDv n).sure.length : Int) = (n : Int) by show ((List.replicate n secZero).length : Int) = n; simp] at hlen
  have HLN := Lib.hid hlen
  clear h hlen
  go_enter Tryd.func39, Tryd.ntmps39
  go_wp2_with fail
  refine HLN.out.mono ?_
  rintro e w1 ⟨rfl, rfl⟩
  go_wp2
  go_loopw [8] (BlankRel w0 D n w) (fun i _ => n - (intOf i).toNat)
  case atStart => exact ⟨0, Nat.zero_le _, rfl, Below.refl _ _⟩
  case round =>
    obtain ⟨k, hk, rfl, hb⟩ := hrel
    have HB := Lib.hid hb
    by_cases hlt : k < n
    · have d1 : decide (k < n) = true := by simp; omega
      have hki : (k : Int) < (n : Int) := by omega
      have hrd := h_read (HH.out.next hb) (k : Int)
      rw [(new_readE hlt).1, (new_readE hlt).2, length_zero512] at hrd
      have HRD := Lib.hid hrd
      clear hb hrd
      go_wp2_with fail
      refine HRD.out.mono ?_
      rintro e w2 ⟨A2, c2, rfl, hown2, hb2, _⟩
      have HB2 := Lib.hid (HB.out.trans (hb2.mono HB.out.size))
      have HC := Lib.hid (contains_none A2 c2 512 zero512 w2 length_zero512 (Nat.le_refl _) (Row.of_own hown2) zero512_at)
      clear hown2 hb2
      go_wp2_with fail
      refine HC.out.mono ?_
      rintro e w3 ⟨rfl, hb3⟩
      have HB3 := Lib.hid (HB2.out.trans (hb3.mono HB2.out.size))
      clear hb3
      go_wp2
      refine ⟨⟨k + 1, by omega, by go_num, HB3.out⟩, by simp [intOf]; omega⟩
    · obtain rfl : k = n := by omega
      have d1 : decide (k < k) = false := by simp
      clear hb hlt hk
      go_wp2
      go_ret
      exact ⟨rfl, HB.out⟩
/-- The block ahead of the first. -/
def bfirst : Blk := ⟨-1, 0, 0, 2, 0⟩
theorem load_old {S : List Sec} {b : Blk} {L : Nat} (h : Inv S (some b)) (hl : 2 ≤ S.length) : (Dv.mk S [] L false).loadE = 0 ∧ (Dv.mk S [] L false).loadB = b := by
  have h1 : loadS (Dv.mk S [] L false).now = some b := h.load
  have h2 : (Dv.mk S [] L false).loadE = 0 := by
    unfold Dv.loadE
    rw [if_neg (by show ¬ S.length < 2; omega), if_neg (by simp), h1]
    rfl
  refine ⟨h2, ?_⟩
  unfold Dv.loadB
  rw [h2, h1]
  rfl
theorem load_fresh {n : Nat} (hl : 2 ≤ n) : (newDv n).loadE = 11 ∧ (newDv n).loadB = bzero := by
  have h1 : loadS (newDv n).now = none := (inv_new n).load
  have h2 : (newDv n).loadE = 11 := by
    unfold Dv.loadE
    rw [if_neg (by show ¬ (List.replicate n secZero).length < 2; rw [List.length_replicate]; omega), if_neg (by show ¬ false = true; decide), h1]
    rfl
  refine ⟨h2, ?_⟩
  unfold Dv.loadB
  rw [h2]
  rfl
set_option maxHeartbeats 2000000 in
set_option maxRecDepth 8000 in
theorem last_new {n : Nat} (h : Holds w0 w D (newDv n)) (hv : VarsAt w0) (h2 : 2 ≤ n) (hn : n ≤ 4096) : Calls Tryd.prog 24 #[.pointer (some ⟨D, 0, none⟩)] w (Gave w (.tuple #[bfirst.val, .int .i64 0])) := by
  have HH := Lib.hid h
  have hld := load_any (h.alloc (.cells bzero.cells.toArray 63)) ((hv.next h.below).alloc _)
  rw [(load_fresh h2).1, (load_fresh h2).2] at hld
  have HLD := Lib.hid hld
  have HBL := Lib.hid (fun W (hb : Below w.heap.size w W) => blank_new (HH.out.next hb) hn)
  have HW := Lib.hid (Whole.made w bzero.cells 63)
  have HB0 := Lib.hid ((Below.refl w.heap.size w).alloc (Nat.le_refl _) (.cells bzero.cells.toArray 63))
  clear h hld hv h2 hn
  go_enter Tryd.func24, Tryd.ntmps24
  go_wp2_with fail
  refine HLD.out.mono ?_
  rintro e w1 ⟨rfl, hb1⟩
  have HB1 := Lib.hid (HB0.out.trans (hb1.mono HB0.out.size))
  have HW1 := Lib.hid (HW.out.below hb1 HW.out.lt)
  clear hb1
  unfold Blk.val bzero
  go_wp2_with fail
  refine (HBL.out _ (HB1.out.alloc HB1.out.size _)).mono ?_
  rintro e w2 ⟨rfl, hb2⟩
  have HB2 := Lib.hid ((HB1.out.alloc HB1.out.size (.cells bzero.cells.toArray 63)).trans (hb2.mono (HB1.out.alloc HB1.out.size (.cells bzero.cells.toArray 63)).size))
  have HW2 := Lib.hid ((HW1.out.alloc (.cells bzero.cells.toArray 63)).below hb2 (HW1.out.alloc _).lt)
  clear hb2
  go_wp2_with (
    refine wpList_store_at rfl 63 (.tmp 2) (.tmp 18) rfl w.heap.size 0 bfirst.cells rfl rfl 63 _ HW2.out (Blk.fit _ _) blk_info bfirst.one ?_
    intro V hv1 hv2 hv3
    rw [Blk.splice] at hv1
    have v0 : V.cell? ⟨w.heap.size, 0, none⟩ = some (.int .i64 (-1)) := hv1.cell 0
    have v1 : V.cell? ⟨w.heap.size, 1, none⟩ = some (.int .i64 0) := hv1.cell 1
    have v2 : V.cell? ⟨w.heap.size, 2, none⟩ = some (.int .i64 0) := hv1.cell 2
    have v3 : V.cell? ⟨w.heap.size, 3, none⟩ = some (.int .i64 2) := hv1.cell 3
    have v4 : V.cell? ⟨w.heap.size, 4, none⟩ = some (.int .i64 0) := hv1.cell 4
    have HBV := Lib.hid (HB2.out.trans (hv2.below (B := w.heap.size) (fun j hj => by omega) HB2.out.size))
    clear hv1 hv2 hv3)
  exact bodyPost_ret (v := .tuple #[bfirst.val, .int .i64 0]) (by simp [results, Tryd.results24, go_sem, v0, v1, v2, v3, v4, Blk.val, bfirst]) rfl ⟨rfl, HBV.out⟩
set_option maxHeartbeats 2000000 in
set_option maxRecDepth 8000 in
theorem last_old {S : List Sec} {L : Nat} {gen E first from_ cnt : Nat} (h : Holds w0 w D ⟨S, [], L, false⟩) (hv : VarsAt w0) (hi : Inv S (some (mkB gen E first from_ cnt))) (hl : 4 ≤ S.length) (hl2 : S.length ≤ 4096)
    (h1 : 1 ≤ E ∧ E ≤ gen + 1) (h2 : gen ≤ 10000000) (h3 : 2 ≤ from_ ∧ from_ < S.length) (hz : first = 0 → from_ = 2 ∧ (0 < gen ∨ cnt = 0)) (hm : 0 < first → E ≤ gen) :
    Calls Tryd.prog 24 #[.pointer (some ⟨D, 0, none⟩)] w (Gave w (.tuple #[(mkB gen E first from_ cnt).val, .int .i64 0])) := by
  have HH := Lib.hid h
  have hld := load_any (h.alloc (.cells bzero.cells.toArray 63)) ((hv.next h.below).alloc _)
  rw [(load_old hi (by omega)).1, (load_old hi (by omega)).2] at hld
  have HLD := Lib.hid hld
  have HLN := Lib.hid (fun W (hb : Below w.heap.size w W) => (h_len (h.next hb) : Calls Tryd.prog 23 #[.pointer (some ⟨D, 0, none⟩)] W (Told W (.int .i64 (S.length : Int)))))
  have HWR := Lib.hid (fun W => wrote_yes gen E first from_ cnt S.length h1 h2 h3 hl2 hz hm W)
  have HW := Lib.hid (Whole.made w bzero.cells 63)
  have HB0 := Lib.hid ((Below.refl w.heap.size w).alloc (Nat.le_refl _) (.cells bzero.cells.toArray 63))
  obtain ⟨b, hb⟩ : ∃ b, mkB gen E first from_ cnt = b := ⟨_, rfl⟩
  rw [hb] at HLD HWR ⊢
  obtain ⟨n, hn⟩ : ∃ n, S.length = n := ⟨_, rfl⟩
  rw [hn] at HLN HWR
  clear h hld hv hi hl hl2 h1 h2 h3 hz hm hb hn
  unfold Blk.val at HWR
  go_enter Tryd.func24, Tryd.ntmps24
  go_wp2_with fail
  refine HLD.out.mono ?_
  rintro e w1 ⟨rfl, hb1⟩
  have HB1 := Lib.hid (HB0.out.trans (hb1.mono HB0.out.size))
  have HW1 := Lib.hid (HW.out.below hb1 HW.out.lt)
  clear hb1
  unfold Blk.val
  have HWA := Lib.hid (Whole.made w1 b.cells 63)
  have HBA := Lib.hid (HB1.out.alloc HB1.out.size (.cells b.cells.toArray 63))
  have HWA1 := Lib.hid (HW1.out.alloc (.cells b.cells.toArray 63))
  have m0 : (w1.alloc (.cells #[.int .i64 b.gen, .int .i64 b.epoch, .int .i64 b.first, .int .i64 b.begun, .int .i64 b.count] 63)).cell? ⟨w1.heap.size, 0, none⟩ = some (.int .i64 b.gen) := HWA.out.cell 0
  have m1 : (w1.alloc (.cells #[.int .i64 b.gen, .int .i64 b.epoch, .int .i64 b.first, .int .i64 b.begun, .int .i64 b.count] 63)).cell? ⟨w1.heap.size, 1, none⟩ = some (.int .i64 b.epoch) := HWA.out.cell 1
  have m2 : (w1.alloc (.cells #[.int .i64 b.gen, .int .i64 b.epoch, .int .i64 b.first, .int .i64 b.begun, .int .i64 b.count] 63)).cell? ⟨w1.heap.size, 2, none⟩ = some (.int .i64 b.first) := HWA.out.cell 2
  have m3 : (w1.alloc (.cells #[.int .i64 b.gen, .int .i64 b.epoch, .int .i64 b.first, .int .i64 b.begun, .int .i64 b.count] 63)).cell? ⟨w1.heap.size, 3, none⟩ = some (.int .i64 b.begun) := HWA.out.cell 3
  have m4 : (w1.alloc (.cells #[.int .i64 b.gen, .int .i64 b.epoch, .int .i64 b.first, .int .i64 b.begun, .int .i64 b.count] 63)).cell? ⟨w1.heap.size, 4, none⟩ = some (.int .i64 b.count) := HWA.out.cell 4
  go_wp2
  go_region_held3 (fun X => X.cell? ⟨w1.heap.size, 0, none⟩ = some (.int .i64 b.gen) ∧ X.cell? ⟨w1.heap.size, 1, none⟩ = some (.int .i64 b.epoch) ∧ X.cell? ⟨w1.heap.size, 2, none⟩ = some (.int .i64 b.first) ∧ X.cell? ⟨w1.heap.size, 3, none⟩ = some (.int .i64 b.begun) ∧ X.cell? ⟨w1.heap.size, 4, none⟩ = some (.int .i64 b.count))
    (first | exact ⟨m0, m1, m2, m3, m4⟩ | go_keep)
    ((first
      | (go_at_call 23
         refine (HLN.out _ HBA.out.drew).mono ?_
         rintro e w2 ⟨rfl, hw2⟩
         have m0 : w2.cell? ⟨w1.heap.size, 0, none⟩ = some (.int .i64 b.gen) := by rw [← hw2]; exact HWA.out.cell 0
         have m1 : w2.cell? ⟨w1.heap.size, 1, none⟩ = some (.int .i64 b.epoch) := by rw [← hw2]; exact HWA.out.cell 1
         have m2 : w2.cell? ⟨w1.heap.size, 2, none⟩ = some (.int .i64 b.first) := by rw [← hw2]; exact HWA.out.cell 2
         have m3 : w2.cell? ⟨w1.heap.size, 3, none⟩ = some (.int .i64 b.begun) := by rw [← hw2]; exact HWA.out.cell 3
         have m4 : w2.cell? ⟨w1.heap.size, 4, none⟩ = some (.int .i64 b.count) := by rw [← hw2]; exact HWA.out.cell 4
         have HWW2 := Lib.hid hw2
         clear hw2)
      | (go_at_call 40
         refine (HWR.out _).mono ?_
         rintro e w3 ⟨rfl, hb3'⟩
         rw [← HWW2.out] at hb3'
         have hb3 : Below (w1.alloc (.cells b.cells.toArray 63)).heap.size (w1.alloc (.cells b.cells.toArray 63)) w3 := ⟨hb3'.os, hb3'.tape, hb3'.output, hb3'.size, hb3'.block⟩
         have HB3 := Lib.hid (HBA.out.trans (hb3.mono HBA.out.size))
         have hwa := HWA.out.below hb3 HWA.out.lt
         have HWB := Lib.hid hwa
         have HWC := Lib.hid (HWA1.out.below hb3 HWA1.out.lt)
         have m0 : w3.cell? ⟨w1.heap.size, 0, none⟩ = some (.int .i64 b.gen) := hwa.cell 0
         have m1 : w3.cell? ⟨w1.heap.size, 1, none⟩ = some (.int .i64 b.epoch) := hwa.cell 1
         have m2 : w3.cell? ⟨w1.heap.size, 2, none⟩ = some (.int .i64 b.first) := hwa.cell 2
         have m3 : w3.cell? ⟨w1.heap.size, 3, none⟩ = some (.int .i64 b.begun) := hwa.cell 3
         have m4 : w3.cell? ⟨w1.heap.size, 4, none⟩ = some (.int .i64 b.count) := hwa.cell 4
         clear hb3 hb3' hwa)))
  go_wp2_with (
    refine wpList_store_at rfl 63 (.tmp 2) (.tmp 32) rfl w.heap.size 0 b.cells rfl rfl 63 _ HWC.out (Blk.fit _ _) blk_info b.one ?_
    intro V hv1 hv2 hv3
    rw [Blk.splice] at hv1
    have v0 : V.cell? ⟨w.heap.size, 0, none⟩ = some (.int .i64 b.gen) := hv1.cell 0
    have v1 : V.cell? ⟨w.heap.size, 1, none⟩ = some (.int .i64 b.epoch) := hv1.cell 1
    have v2 : V.cell? ⟨w.heap.size, 2, none⟩ = some (.int .i64 b.first) := hv1.cell 2
    have v3 : V.cell? ⟨w.heap.size, 3, none⟩ = some (.int .i64 b.begun) := hv1.cell 3
    have v4 : V.cell? ⟨w.heap.size, 4, none⟩ = some (.int .i64 b.count) := hv1.cell 4
    have HBV := Lib.hid (HB3.out.trans (hv2.below (B := w.heap.size) (fun j hj => by omega) HB3.out.size))
    clear hv1 hv2 hv3)
  exact bodyPost_ret (v := .tuple #[b.val, .int .i64 0]) (by simp [results, Tryd.results24, go_sem, v0, v1, v2, v3, v4, Blk.val]) rfl ⟨rfl, HBV.out⟩
end

end Go.Proofs.YtgfoekbdmgljbaaDoor

namespace Go.Proofs.YtgfoekbdmgljbaaDoor
open Go.RowKit

/-- The epoch that the next record has at least. -/
def epN (es : List Nat) : Nat → Nat
  | 0 => 1
  | k + 1 => es.getD k 0
structure FindAt (w0 w : World) (D : Nat) (x : Dv) (o : Lo) (g : Lm) (from_ : Nat) (rs : List (List UInt8)) (F : Nat → Prop) (k : Nat) (wr : World) (o' : Lo) (F' : Nat → Prop) : Prop where
  at_ : LmAt w0 wr D x o' { g with recs := posL g.places from_ (rs.take k) } F'
  l : o'.l = o.l
  moved : Moved F w wr F'
def FindRel (w0 w : World) (D : Nat) (x : Dv) (o : Lo) (g : Lm) (from_ : Nat) (es : List Nat) (rs : List (List UInt8)) (F : Nat → Prop) (n : Nat) (ep : Value) (wr : World) : Prop :=
  ∃ (k : Nat) (o' : Lo) (F' : Nat → Prop), k + n = rs.length ∧ ep = .int .i64 (epN es k : Int) ∧ FindAt w0 w D x o g from_ rs F k wr o' F'
/-- What find leaves. -/
def FindOut (w0 w : World) (D : Nat) (x : Dv) (o : Lo) (g : Lm) (from_ : Nat) (rs : List (List UInt8)) (F : Nat → Prop) (e : Ending) (w' : World) : Prop :=
  e = .returned (.bool true) ∧ ∃ o' F', LmAt w0 w' D x o' { g with recs := posL g.places from_ rs } F' ∧ o'.l = o.l ∧ Moved F w w' F'
theorem LmAt.drewN_ {w0 w : World} {D : Nat} {x : Dv} {o : Lo} {g : Lm} {F : Nat → Prop} (h : LmAt w0 w D x o g F) (n : Nat) : LmAt w0 (w.drewN n) D x o g F := h.below (below_drewN' (Below.refl _ _) n)
section
variable {w0 w : World} {D : Nat} {x : Dv} {o : Lo} {g : Lm} {F : Nat → Prop}
set_option maxHeartbeats 4000000 in
set_option maxRecDepth 8000 in
theorem find_any (h : LmAt w0 w D x o g F) (hd : x.down = false) (hus : g.us = []) (hre : g.recs = []) (hP : 2 ≤ g.places) (hP2 : g.places ≤ 4094) (hx : x.sure.length = g.places + 2) (from_ first E cnt : Nat) (es : List Nat) (rs : List (List UInt8))
    (hb1 : g.block.begun = (from_ : Int)) (hb2 : g.block.first = (first : Int)) (hb3 : g.block.epoch = (E : Int)) (hb4 : g.block.count = (cnt : Int)) (hf2 : 2 ≤ from_) (hf3 : from_ < g.places + 2) (hfi : first + rs.length ≤ 36028797018960000) (hE : E < 4294967296)
    (hF : Found (seeL g x) g.places from_ first E cnt es rs) : Calls Tryd.prog 25 #[lptr o] w (FindOut w0 w D x o g from_ rs F) := by
  have HH := Lib.hid h
  have hsm : ∀ r ∈ rs, r.length ≤ 16384 := fun r hr => by
    obtain ⟨i, hi, rfl⟩ := List.getElem_of_mem hr
    have := (hF.chain.all i hi).len
    rwa [List.getD_eq_getElem?_getD, List.getElem?_eq_getElem hi] at this
  have hrl : rs.length ≤ 4094 := by have := length_le_taken rs; have := hF.few; omega
  -- the calls of a round
  have call1 : ∀ k wr o' F', k ≤ rs.length → FindAt w0 w D x o g from_ rs F k wr o' F' → Calls Tryd.prog 28 #[.pointer (some ⟨o.l, 0, none⟩)] wr (Gave wr (.int .i64 (arN g.places (from_ + offN rs k) : Int))) := fun k wr o' F' hk ha => by
    have hmem : ∀ p ∈ posL g.places from_ (rs.take k), 2 ≤ p.1 ∧ p.1 ≤ 4096 ∧ p.2 ≤ 4096 := fun p hp => by
      have := posL_mem (by omega) (fun r hr => hsm r (List.mem_of_mem_take hr)) hp
      omega
    have h1 := end_any ha.at_ from_ hb1 (by show 0 < g.places; omega) hP2 hmem (by show (posL g.places from_ (rs.take k)).length ≤ 4094; rw [length_posL, List.length_take]; omega)
    rw [show endN g.places from_ (posL g.places from_ (rs.take k)) = arN g.places (from_ + offN rs k) from endN_posL hf2 hf3 _] at h1
    unfold lptr at h1
    rwa [ha.l] at h1
  have call2 : ∀ k wr o' F' W, k ≤ rs.length → FindAt w0 w D x o g from_ rs F k wr o' F' → Below wr.heap.size wr W → Calls Tryd.prog 19 #[.pointer (some ⟨o.l, 0, none⟩)] W (Gave W (.int .i64 ((first + k : Nat) : Int))) := fun k wr o' F' W hk ha hb => by
    have hl : (posL g.places from_ (rs.take k)).length = k := by rw [length_posL, List.length_take]; omega
    have h1 := next_any (ha.at_.below hb) first hb2 (by show first + (posL g.places from_ (rs.take k)).length ≤ _; rw [hl]; omega)
    unfold lptr at h1
    rw [ha.l, show first + ({ g with recs := posL g.places from_ (rs.take k) } : Lm).recs.length = first + k by show first + (posL g.places from_ (rs.take k)).length = _; rw [hl]] at h1
    exact h1
  have call3 : ∀ k wr o' F' W, k ≤ rs.length → FindAt w0 w D x o g from_ rs F k wr o' F' → Below wr.heap.size wr W →
      Calls Tryd.prog 37 #[.pointer (some ⟨o.l, 0, none⟩), .int .i64 ((first + k : Nat) : Int), .int .i64 (arN g.places (from_ + offN rs k) : Int)] W (LoadOut W (seeL g x) g.places (arN g.places (from_ + offN rs k)) (first + k)) := fun k wr o' F' W hk ha hb => by
    have h1 := load_rec (ha.at_.below hb) hd (by show g.us.length ≤ 4094; rw [hus]; exact Nat.zero_le _) (by show 0 < g.places; omega) hP2 hx (arN g.places (from_ + offN rs k)) (arN_ge _ _) (arN_lt (by omega) _) (first + k) (by omega)
    unfold lptr at h1
    rw [ha.l] at h1
    exact h1
  have HC1 := Lib.hid call1
  have HC2 := Lib.hid call2
  have HC3 := Lib.hid call3
  have HF := Lib.hid hF
  have HSM := Lib.hid hsm
  have HPP := Lib.hid (And.intro hP hP2)
  have HBL := Lib.hid (And.intro hb1 (And.intro hb2 (And.intro hb3 hb4)))
  have HRE := Lib.hid hre
  have HFR := Lib.hid (And.intro hf2 hf3)
  have HFI := Lib.hid hfi
  obtain ⟨N, hN⟩ : ∃ N, rs.length = N := ⟨_, rfl⟩
  have HN := Lib.hid hN
  rw [hN] at hrl
  clear h hd hus hre hP hP2 hx hb1 hb2 hb3 hb4 hf2 hf3 hfi hF call1 call2 call3 hsm hN
  unfold lptr
  go_enter Tryd.func25, Tryd.ntmps25
  go_wp2
  go_loopg [3] N (fun n ep wr => FindRel w0 w D x o g from_ es rs F n ep wr)
  case atStart =>
    refine ⟨0, o, F, by rw [HN.out, Nat.zero_add], rfl, ⟨?_, rfl, Moved.refl _ _⟩⟩
    have e : ({ g with recs := posL g.places from_ (rs.take 0) } : Lm) = g := by
      obtain ⟨a, b, c, d, e⟩ := g
      have h1 : c = [] := HRE.out
      subst h1
      rfl
    rw [e]
    exact HH.out
  case round =>
    obtain ⟨k, o', F', hkn, rfl, hfa⟩ := hrel
    have HKN := Lib.hid (show k + gk = N by rw [← HN.out]; exact hkn)
    have HFA := Lib.hid hfa
    have hkl : k ≤ rs.length := by omega
    have HKL := Lib.hid hkl
    have HK1 := Lib.hid (HC1.out k wr o' F' hkl hfa)
    clear hkn hfa hkl
    go_wp2_with fail
    refine HK1.out.mono ?_
    rintro e w1 ⟨rfl, hb1⟩
    have HK2 := Lib.hid (HC2.out k wr o' F' w1 HKL.out HFA.out hb1)
    have HB1 := Lib.hid hb1
    clear hb1
    go_wp2_with fail
    refine HK2.out.mono ?_
    rintro e w2 ⟨rfl, hb2⟩
    have HB2 := Lib.hid (HB1.out.trans (hb2.mono HB1.out.size))
    have HK3 := Lib.hid (HC3.out k wr o' F' w2 HKL.out HFA.out HB2.out)
    clear hb2
    go_wp2_with fail
    refine HK3.out.mono ?_
    rintro e w3 ⟨hh, v3, E3, rfl, hb3, hor⟩
    have HB3 := Lib.hid (HB2.out.trans (hb3.mono HB2.out.size))
    have HOR := Lib.hid hor
    clear hb3 hor
    obtain ⟨h0, h1, h2, h3, h4⟩ := hh
    unfold SH.val
    go_upto_region 4 with fail
    generalize hW4 : w3.alloc (Obj.cells #[.int .i64 h0, .int .i64 h1, .int .i64 h2, .int .i64 h3, .int .i64 h4] 79) = W4
    have hbW4 : Below wr.heap.size wr W4 := by rw [← hW4]; exact HB3.out.alloc HB3.out.size _
    have HW4 := Lib.hid (show Whole W4 w3.heap.size 79 (SH.cells ⟨h0, h1, h2, h3, h4⟩) by rw [← hW4]; exact Whole.made _ _ _)
    have HZ3 := Lib.hid (show wr.heap.size ≤ w3.heap.size from HB3.out.size)
    have hL4 := HFA.out.at_.below hbW4
    have HL4 := Lib.hid hL4
    have HB4 := Lib.hid hbW4
    obtain ⟨Ar, cr, hvr, _, _⟩ := hL4.vr
    rw [show ({ g with recs := posL g.places from_ (rs.take k) } : Lm).recs.length = k by show (posL g.places from_ (rs.take k)).length = k; rw [length_posL, List.length_take]; have := HKL.out; omega] at hvr
    have c7 := hL4.c7
    have c6 := hL4.c6
    have c3 := hL4.c3
    rw [HFA.out.l] at c7 c6 c3
    rw [hvr] at c7
    rw [show ({ g with recs := posL g.places from_ (rs.take k) } : Lm).block.count = (cnt : Int) from HBL.out.2.2.2] at c6
    rw [show ({ g with recs := posL g.places from_ (rs.take k) } : Lm).block.epoch = (E : Int) from HBL.out.2.2.1] at c3
    have HVR := Lib.hid hvr
    clear hW4 hbW4 hL4 hvr
    obtain ⟨cur, hcur⟩ : ∃ cur : Nat, cur = if cnt ≤ k then E else epN es k := ⟨_, rfl⟩
    have HCU := Lib.hid hcur
    go_wp2
    go_quiet (fail)
    go_upto_if 29 with fail
    go_cut [3] from 29 to 34 (fun v wx => v = .int .i64 (cur : Int) ∧ ∃ m, wx = W4.drewN m)
    case first =>
      by_cases hc : cnt ≤ k
      · have d1 : decide ((cnt : Int) ≤ (k : Int)) = true := by simp; omega
        have d1n : decide (cnt ≤ k) = true := by simp; omega
        have HE := Lib.hid (show cur = E by rw [HCU.out, if_pos hc])
        have hci := Int.ofNat_le.2 hc
        clear hcur
        go_wp2
        go_meet
        exact ⟨by rw [HE.out], _, rfl⟩
      · have d1 : decide ((cnt : Int) ≤ (k : Int)) = false := by simp; omega
        have d1n : decide (cnt ≤ k) = false := by simp; omega
        have HE := Lib.hid (show cur = epN es k by rw [HCU.out, if_neg hc])
        have hci : ¬ (cnt : Int) ≤ (k : Int) := by omega
        clear hcur
        go_wp2
        go_meet
        exact ⟨by rw [HE.out], _, rfl⟩
    case rest =>
      obtain ⟨rfl, m4, rfl⟩ := hcut
      clear hcur
      have hae : ∀ b i, arN g.places (arN g.places (from_ + offN rs k) + b + i) = arN g.places (from_ + offN rs k + b + i) := fun b i => by rw [Nat.add_assoc, arN_arN (by have := HFR.out.1; omega), ← Nat.add_assoc]
      by_cases hkN : k < N
      · have hk2 : k < rs.length := by rw [HN.out]; exact hkN
        have hrk := (HF.out.chain.all k hk2).at_eq (b := arN g.places (from_ + offN rs k)) (fun i => hae 0 i)
        obtain ⟨ek, hek⟩ : ∃ ek, es.getD k 0 = ek := ⟨_, rfl⟩
        obtain ⟨pk, hpk⟩ : ∃ pk, partsN (rs.getD k []).length = pk := ⟨_, rfl⟩
        have hp34 : pk ≤ 34 := by rw [← hpk]; exact partsN_le hrk.len
        have hall : E3 = 0 ∧ h0 = 2 ∧ h1 = (ek : Int) ∧ h4 = (pk : Int) := by
          rcases HOR.out with ⟨ep, r, hr, h5, h6, _⟩ | ⟨hno, _⟩
          · obtain ⟨e1, e2⟩ := hrk.uniq hr
            unfold recH at h6
            injection h6 with q0 q1 q2 q3 q4
            subst e2
            exact ⟨h5, q0, by rw [q1, ← e1, hek], by rw [q4, hpk]⟩
          · exact absurd hrk (hno _ _)
        obtain ⟨rfl, rfl, rfl, rfl⟩ := hall
        have hel : es.length = rs.length := HF.out.chain.len
        have hcur : cur ≤ ek ∧ ek ≤ E := by
          have h6 := HF.out.ups
          have h7 := h6.low k (by omega)
          rw [hek] at h7
          refine ⟨?_, h7.2⟩
          rw [HCU.out]
          split
          · rename_i hc
            have := h6.tail k hc (by omega)
            rw [hek] at this
            omega
          · cases k with
            | zero => exact h7.1
            | succ j =>
              have := h6.mono j (by omega)
              rw [hek] at this
              exact this
        have q1 : decide ((ek : Int) < (cur : Int)) = false := by simp; omega
        have q1n : decide (ek < cur) = false := by simp; omega
        have q2 : decide ((E : Int) < (ek : Int)) = false := by simp; omega
        have q2n : decide (E < ek) = false := by simp; omega
        have HEK := Lib.hid hek
        have HPK := Lib.hid hpk
        have HK2 := Lib.hid hk2
        have w1 : W4.cell? ⟨w3.heap.size, 1, none⟩ = some (.int .i64 (ek : Int)) := HW4.out.cell 1
        have w4 : W4.cell? ⟨w3.heap.size, 4, none⟩ = some (.int .i64 (pk : Int)) := HW4.out.cell 4
        have HOWR := Lib.hid (show W4.ownsRow w0.heap.size 72 2 (.slice Ar k cr) k (recCells (posL g.places from_ (rs.take k))) by
          have h5 := HL4.out.recs
          rw [show ({ g with recs := posL g.places from_ (rs.take k) } : Lm).recs.length = k by show (posL g.places from_ (rs.take k)).length = k; rw [length_posL, List.length_take]; omega, HVR.out] at h5
          exact h5)
        obtain ⟨ri, rz, hri, hrz, hrs, hrb, hrz1⟩ := info_row rec_row
        have hkb : k < 4095 := by omega
        have HKLT := Lib.hid hkN
        clear hkN hk2 hrk hek hpk hel hcur hae
        go_wp2
        go_quiet (fail)
        go_upto_region 8 with fail
        generalize hW5 : (W4.drewN m4).drewN nq = W5
        have hbW5 : Below W4.heap.size W4 W5 := by rw [← hW5]; exact below_drewN' (below_drewN' (Below.refl _ _) _) _
        have c7 : W5.cell? ⟨o.l, 7, none⟩ = some (.slice Ar k cr) := by rw [← hW5]; exact c7
        have w1 : W5.cell? ⟨w3.heap.size, 1, none⟩ = some (.int .i64 (ek : Int)) := by rw [← hW5]; exact w1
        have w4 : W5.cell? ⟨w3.heap.size, 4, none⟩ = some (.int .i64 (pk : Int)) := by rw [← hW5]; exact w4
        have HL5 := Lib.hid (HL4.out.below hbW5)
        have HW5 := Lib.hid (HW4.out.below hbW5 HW4.out.lt)
        have HB5 := Lib.hid (HB4.out.trans (hbW5.mono HB4.out.size))
        have HO5 := Lib.hid (own_keep HOWR.out (w' := W5) fun j e => hbW5.block j (HOWR.out.lt j e).2)
        have HZ5 := Lib.hid (show w3.heap.size < W5.heap.size from HW5.out.lt)
        obtain ⟨ak, hak⟩ : ∃ ak, arN g.places (from_ + offN rs k) = ak := ⟨_, rfl⟩
        have HAK := Lib.hid hak
        rw [hak]
        have HX := Lib.hid (fun X (hb : Below W5.heap.size W5 X) => (show LmAt w0 X D x o' { g with recs := posL g.places from_ (rs.take k) } F' ∧ X.ownsRow w0.heap.size 72 2 (.slice Ar k cr) k (recCells (posL g.places from_ (rs.take k))) ∧ w0.heap.size ≤ X.heap.size ∧ Whole X o.l 69 (lCells D o' { g with recs := posL g.places from_ (rs.take k) }) ∧ Whole X w3.heap.size 79 (SH.cells ⟨2, ek, h2, h3, pk⟩) from by
          have h1 := HL5.out.below hb
          have h2 := h1.recs
          have hk4 : ({ g with recs := posL g.places from_ (rs.take k) } : Lm).recs.length = k := by show (posL g.places from_ (rs.take k)).length = k; rw [length_posL, List.length_take]; have := HKL.out; omega
          rw [hk4, HVR.out] at h2
          have h3 := h1.blk
          rw [HFA.out.l] at h3
          exact ⟨h1, h2, h1.below0.size, h3, HW5.out.below hb HW5.out.lt⟩))
        clear hW5 hbW5 hak
        have hol : o.l < W5.heap.size := (HX.out _ (Below.refl _ _)).2.2.2.1.lt
        have c7n : (W5.alloc (.cells #[.int .i64 (ak : Int), .int .i64 (pk : Int)] 72)).cell? ⟨o.l, 7, none⟩ = some (.slice Ar k cr) := (World.cell?_alloc_lt W5 _ ⟨o.l, 7, none⟩ hol).trans c7
        have c7d : (W5.alloc (.cells #[.int .i64 (ak : Int), .int .i64 (pk : Int)] 72)).drew.cell? ⟨o.l, 7, none⟩ = some (.slice Ar k cr) := c7n
        go_region_law (first
          | (refine step_append_at (by rfl) (.tmp 68) (.tmp 73) _ (by rfl) w0.heap.size 72 ri rz 2 16 Tryd.underlying66 hri hrz hrs hrb hrz1 (by decide) (.slice Ar k cr) k (recCells (posL g.places from_ (rs.take k))) (by rfl) (by exact (HX.out _ (by first | exact ((Below.refl _ _).alloc (Nat.le_refl _) _).drew | exact (Below.refl _ _).alloc (Nat.le_refl _) _ | exact ((Below.refl _ _).alloc (Nat.le_refl _) _).drew.drew | exact (Below.refl _ _).drew.alloc (Nat.le_refl _) _ | exact ((Below.refl _ _).drew.alloc (Nat.le_refl _) _).drew)).2.1) (some ⟨W5.heap.size, 0, none⟩) 1 1 (W5.heap.size + 1) [.int .i64 (ak : Int), .int .i64 (pk : Int)] (by rfl) (by rfl) (by exact (by first | exact (Row.made W5 _ _).drew | exact Row.made W5 _ _ | exact (Row.made W5 _ _).drew.drew | exact Row.made W5.drew _ _ | exact (Row.made W5.drew _ _).drew)) (by exact rec_two _ _) (by unfold maxLen; omega) (by omega) (by exact (HX.out _ (by first | exact ((Below.refl _ _).alloc (Nat.le_refl _) _).drew | exact (Below.refl _ _).alloc (Nat.le_refl _) _ | exact ((Below.refl _ _).alloc (Nat.le_refl _) _).drew.drew | exact (Below.refl _ _).drew.alloc (Nat.le_refl _) _ | exact ((Below.refl _ _).drew.alloc (Nat.le_refl _) _).drew)).2.2.1) ?_
             intro v3' w3' hown3 hg3 hat3
             obtain ⟨A3, c3', rfl, _, _⟩ := own_form hown3
             have hbx := of_grown hg3 (fun X => Below W5.heap.size W5 X) (by first | exact ((Below.refl _ _).alloc (Nat.le_refl _) _).drew | exact (Below.refl _ _).alloc (Nat.le_refl _) _ | exact ((Below.refl _ _).alloc (Nat.le_refl _) _).drew.drew | exact (Below.refl _ _).drew.alloc (Nat.le_refl _) _ | exact ((Below.refl _ _).drew.alloc (Nat.le_refl _) _).drew)
             have hx := HX.out _ hbx
             have hwg := hx.2.2.2.1.grown hg3 (fun e => own_not_whole hx.2.1 hx.2.2.2.1 (by decide) e.symm)
             have hwh := hx.2.2.2.2.grown hg3 (fun e => own_not_whole hx.2.1 hx.2.2.2.2 (by decide) e.symm)
             have t7 : w3'.cell? ⟨o.l, 7, none⟩ = some o'.vr := hwg.cell 7
             have y7 := hwg.frozen 7
             have hne : w3.heap.size ≠ o.l := fun e => (Whole.ne hwh hwg (by decide)) e
             have s1 : (w3'.setCell ⟨o.l, 7, none⟩ (.slice A3 (k + 1) c3')).cell? ⟨w3.heap.size, 1, none⟩ = some (.int .i64 (ek : Int)) := (hwh.grew (Grew.setCell (Grew.refl (fun j => j = o.l) w3') (a := ⟨o.l, 7, none⟩) (.inl rfl) (.slice A3 (k + 1) c3')) hne).cell 1
             have hpush := LmAt.push (a := ak) (p := pk) hx.1 (by
               rw [show ({ g with recs := posL g.places from_ (rs.take k) } : Lm).recs.length = k by show (posL g.places from_ (rs.take k)).length = k; rw [length_posL, List.length_take]; have := HKL.out; omega]
               exact hown3) (by rw [HVR.out]; exact hg3) (by rw [HVR.out]; exact hat3)
             rw [HFA.out.l] at hpush
             have HPU := Lib.hid hpush
             have HBX := Lib.hid hbx
             clear hown3 hg3 hat3 hx hbx hwg hwh hpush hne))
        all_goals
          go_wp2
          go_roundg (gk - 1)
          case measure => have h1 := HKN.out; have h2 := HKLT.out; omega
          case rel =>
            have hlen := HKN.out
            have hlt' := HKLT.out
            refine ⟨k + 1, ⟨o.l, .slice A3 (k + 1) c3', o'.vu, o'.vs⟩, _, by rw [HN.out]; omega, by rw [show epN es (k + 1) = es.getD k 0 from rfl, HEK.out], ⟨?_, rfl, (HFA.out.moved.trans (Moved.of_below (HB5.out.trans (HBX.out.mono HB5.out.size)))).trans HPU.out.2⟩⟩
            rw [posL_take HK2.out, HAK.out, HPK.out]
            exact HPU.out.1
      · have hkN' : k = N := by have := HKN.out; omega
        have hcn : cnt ≤ k := by have := HF.out.cnt; rw [HN.out] at this; omega
        have hci : (cnt : Int) ≤ (k : Int) := Int.ofNat_le.2 hcn
        have hcE : cur = E := by rw [HCU.out, if_pos hcn]
        have hcd : decide ((cnt : Int) ≤ (k : Int)) = true := by simp; omega
        have hcdn : decide (cnt ≤ k) = true := by simp; omega
        have htk : rs.take k = rs := List.take_of_length_le (by rw [HN.out]; omega)
        have hoff : offN rs k = takenL rs := by unfold offN; rw [htk]
        have hfo : LmAt w0 W4 D x o' { g with recs := posL g.places from_ rs } F' ∧ Moved F w W4 F' := by
          have h1 := HL4.out
          rw [htk] at h1
          exact ⟨h1, HFA.out.moved.trans (Moved.of_below HB4.out)⟩
        have w1 : W4.cell? ⟨w3.heap.size, 1, none⟩ = some (.int .i64 h1) := HW4.out.cell 1
        have hor : E3 ≠ 0 ∨ (E3 = 0 ∧ h1 < (E : Int)) ∨ (E3 = 0 ∧ ¬ h1 < (E : Int) ∧ (E : Int) < h1) := by
          rcases HOR.out with ⟨ep, r, hr, h5, h6, _⟩ | ⟨_, h5⟩
          · right
            unfold recH at h6
            injection h6 with q0 q1 q2 q3 q4
            have hne : ep ≠ E := fun e => by
              subst e
              refine HF.out.stop r ?_
              rw [HN.out, ← hkN', ← hoff]
              exact hr.at_eq fun i => (hae 0 i).symm
            omega
          · exact .inl h5
        rw [hcE]
        clear htk hoff hae hkN hkN'
        rcases hor with hE0 | ⟨rfl, hlt1⟩ | ⟨rfl, hlt1, hlt2⟩
        · have z1 : (E3 != 0) = true := by rw [bne_iff_ne]; exact hE0
          clear hE0
          have HFO := Lib.hid hfo
          clear hfo hcE hcn
          go_wp2
          go_quiet (fail)
          go_wp2
          go_quiet (fail)
          go_wp2
          go_ret
          refine ⟨rfl, o', F', ((HFO.out.1.drewN_ _).drewN_ _).drewN_ _, HFA.out.l, ?_⟩
          exact HFO.out.2.trans (Moved.of_below (below_drewN' (below_drewN' (below_drewN' (Below.refl _ _) _) _) _))
        · have z1 : decide (h1 < (E : Int)) = true := by simp; omega
          have HFO := Lib.hid hfo
          clear hfo hcE hcn
          go_wp2
          go_quiet (fail)
          go_wp2
          go_quiet (fail)
          go_wp2
          go_ret
          refine ⟨rfl, o', F', ((HFO.out.1.drewN_ _).drewN_ _).drewN_ _, HFA.out.l, ?_⟩
          exact HFO.out.2.trans (Moved.of_below (below_drewN' (below_drewN' (below_drewN' (Below.refl _ _) _) _) _))
        · have z1 : decide (h1 < (E : Int)) = false := by simp; omega
          have z2 : decide ((E : Int) < h1) = true := by simp; omega
          have HFO := Lib.hid hfo
          clear hfo hcE hcn
          go_wp2
          go_quiet (fail)
          go_wp2
          go_quiet (fail)
          go_wp2
          go_ret
          refine ⟨rfl, o', F', ((HFO.out.1.drewN_ _).drewN_ _).drewN_ _, HFA.out.l, ?_⟩
          exact HFO.out.2.trans (Moved.of_below (below_drewN' (below_drewN' (below_drewN' (Below.refl _ _) _) _) _))
end

end Go.Proofs.YtgfoekbdmgljbaaDoor
