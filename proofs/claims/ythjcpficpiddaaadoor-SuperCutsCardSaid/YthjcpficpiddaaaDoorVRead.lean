/-
  The contracts of lasts, Limit and Read.
-/
import Derived.Test.YthjcpficpiddaaaDoorVClone
namespace Go.Proofs.YthjcpficpiddaaaDoor
open Go.RowKit

theorem cellsS_get {l : List Sec} (h : okS l) {i : Nat} (hi : i < l.length) {j : Nat} {v : Value} (hj : (l[i]).cells[j]? = some v) : (cellsS l)[i * 513 + j]? = some v := flat_get h.cells hi hj
theorem cellsU_get {n : Nat} {l : List Wri} (h : okU n l) {i : Nat} (hi : i < l.length) {j : Nat} {v : Value} (hj : (l[i]).cells[j]? = some v) : (cellsU l)[i * 514 + j]? = some v := flat_get h.cells hi hj
theorem Sec.cell_torn {s : Sec} (h : s.data.length = 512) : s.cells[512]? = some (.bool s.torn) := by
  unfold Sec.cells
  rw [List.getElem?_append_right (by simp [h]), List.length_map, h]
  rfl
theorem Sec.cell_data {s : Sec} {j : Nat} {v : Value} (hj : (s.data.map bc)[j]? = some v) : s.cells[j]? = some v := by
  unfold Sec.cells
  rw [List.getElem?_append_left (List.getElem?_eq_some_iff.1 hj).1, hj]

theorem grew_one (w : World) (g i : Nat) (u : Value) : Grew (fun j => j = g) w (w.setCell ⟨g, i, none⟩ u) := Grew.setCell (F := fun j => j = g) (Grew.refl _ w) (a := ⟨g, i, none⟩) (.inl rfl) u
theorem grew_two (w : World) (g i j : Nat) (u v : Value) : Grew (fun j => j = g) w ((w.setCell ⟨g, i, none⟩ u).setCell ⟨g, j, none⟩ v) := Grew.setCell (F := fun j => j = g) (grew_one w g i u) (a := ⟨g, j, none⟩) (.inl rfl) v
section
variable {w : World} {base : Nat} {m : Lies} {x : Dv}
theorem DevAt.torn_at (h : DevAt w base m x) {i : Nat} (hi : i < x.sure.length) : w.cell? ⟨m.bn, i * 513 + 512, none⟩ = some (.bool (x.now.getD i secZero).torn) := by
  have hi' : i < x.now.length := by rw [x.length_now]; exact hi
  have h1 := cellsS_get h.ok.now hi' (Sec.cell_torn (h.ok.now _ (List.getElem_mem hi')))
  obtain ⟨h2, h3⟩ := List.getElem?_eq_some_iff.1 h1
  have h4 := own_cell h.now h2
  rw [h4, h3, List.getD_eq_getElem?_getD, List.getElem?_eq_getElem hi']
  rfl
theorem DevAt.data_at (h : DevAt w base m x) {i : Nat} (hi : i < x.sure.length) : Row w w.heap.size (some ⟨m.bn, i * 513, none⟩) ((x.now.getD i secZero).data.map bc) := by
  have hi' : i < x.now.length := by rw [x.length_now]; exact hi
  refine Row.of_cells (h.own (.inr (.inl rfl))).2 fun j u hu => ?_
  have e : x.now.getD i secZero = x.now[i] := by rw [List.getD_eq_getElem?_getD, List.getElem?_eq_getElem hi']; rfl
  rw [e] at hu
  obtain ⟨h2, h3⟩ := List.getElem?_eq_some_iff.1 (cellsS_get h.ok.now hi' (Sec.cell_data hu))
  rw [own_cell h.now h2, h3]
theorem DevAt.spent (h : DevAt w base m x) (hl : x.limit ≠ 0) (_ : x.down = false) : DevAt ((w.setCell ⟨m.d, 3, none⟩ (.int .i64 ((x.limit - 1 : Nat) : Int))).setCell ⟨m.d, 4, none⟩ (.bool (decide (x.limit = 1)))) base m x.spent := by
  have e : x.spent = { x with limit := x.limit - 1, down := decide (x.limit = 1) } := by unfold Dv.spent; rw [if_neg hl]
  have hlim := h.ok.lim
  rw [e]
  refine h.cells (y := { x with limit := x.limit - 1, down := decide (x.limit = 1) }) rfl rfl (by show x.limit - 1 ≤ _; omega) (grew_two w m.d 3 4 _ _) ?_
  exact (h.blk.set_ 3 _).set_ 4 _
end

/-- What lasts leaves behind. -/
def LastsOut (base : Nat) (w : World) (m : Lies) (x : Dv) (e : Ending) (w' : World) : Prop :=
  e = .returned (.bool x.lasts) ∧ DevAt w' base m x.spent ∧ Grew (fun j => j = m.d) w w' ∧ w'.heap.size = w.heap.size
theorem dev_lasts (w : World) (base : Nat) (m : Lies) (x : Dv) (h : DevAt w base m x) (hd : x.down = false) : Calls Tryd.prog 29 #[.pointer (some ⟨m.d, 0, none⟩)] w (LastsOut base w m x) := by
  by_cases hl : x.limit = 0
  · refine (lasts_zero w m.d m _ _ _ h.blk hl).mono ?_
    rintro e w' ⟨rfl, rfl⟩
    have e1 : x.spent = x := by unfold Dv.spent; rw [if_pos hl]
    refine ⟨ret_bool (by simp [Dv.lasts, hl]), by rw [e1]; exact h, Grew.refl _ _, rfl⟩
  · refine (lasts_some w m.d m _ _ _ h.blk hl h.ok.lim).mono ?_
    rintro e w' ⟨rfl, rfl⟩
    exact ⟨rfl, h.spent hl hd, grew_two _ _ _ _ _ _, by simp⟩

def LimitOut (base : Nat) (w : World) (m : Lies) (x : Dv) (k : Int) (e : Ending) (w' : World) : Prop :=
  e = .returned (.int .i64 (if k < 0 then 1 else 0)) ∧ DevAt w' base m (x.limited k) ∧ Grew (fun j => j = m.d) w w' ∧ w'.heap.size = w.heap.size
set_option maxHeartbeats 400000 in
theorem dev_limit (w : World) (base : Nat) (m : Lies) (x : Dv) (h : DevAt w base m x) (k : Int) (hk : k ≤ 9223372036854775807) : Calls Tryd.prog 9 #[.pointer (some ⟨m.d, 0, none⟩), .int .i64 k] w (LimitOut base w m x k) := by
  have H := Lib.hid h
  have c3 : w.cell? ⟨m.d, 3, none⟩ = some (.int .i64 x.limit) := h.blk.cell 3
  have z3 : w.frozen? ⟨m.d, 3, none⟩ = false := h.blk.frozen 3
  clear h
  by_cases hn : k < 0
  · have d1 : decide (k < 0) = true := by simp; exact hn
    go_enter Tryd.func9, Tryd.ntmps9
    go_wp2
    go_ret
    refine ⟨by rw [if_pos hn]; rfl, ?_, Grew.refl _ _, rfl⟩
    have e : x.limited k = x := by unfold Dv.limited; rw [if_pos hn]
    rw [e]; exact H.out
  · have d1 : decide (k < 0) = false := by simp; omega
    have HN := Lib.hid hn
    have hge : 0 ≤ k := by omega
    clear hn
    go_enter Tryd.func9, Tryd.ntmps9
    go_wp2
    go_ret
    refine ⟨by rw [if_neg (Int.not_lt.2 HN.out)]; rfl, ?_, grew_one _ _ _ _, by simp⟩
    have e : x.limited k = { x with limit := k.toNat } := by unfold Dv.limited; rw [if_neg (Int.not_lt.2 HN.out)]
    rw [e]
    refine H.out.cells (y := { x with limit := k.toNat }) rfl rfl (by show k.toNat ≤ _; omega) (grew_one _ _ _ _) ?_
    have hs := H.out.blk.set_ 3 (.int .i64 k)
    have e2 : ((k.toNat : Nat) : Int) = k := by omega
    show Whole _ _ _ (devCells m x.sure.length k.toNat x.down)
    unfold devCells at hs ⊢
    rw [e2]
    exact hs

/-- What Read answers. -/
def ReadOut (w : World) (k : Int) (l : List UInt8) (e : Ending) (w' : World) : Prop :=
  ∃ v, e = .returned (.tuple #[v, .int .i64 k]) ∧ w'.ownsRow w.heap.size 5 1 v l.length (l.map bc) ∧ Below w.heap.size w w'
set_option maxHeartbeats 400000 in
set_option maxRecDepth 4000 in
theorem dev_read (w : World) (base : Nat) (m : Lies) (x : Dv) (h : DevAt w base m x) (k : Int) : Calls Tryd.prog 32 #[.pointer (some ⟨m.d, 0, none⟩), .int .i64 k] w (ReadOut w (x.readE k) (x.readB k)) := by
  have HR := Lib.hid (ready_core w m.d m _ _ _ h.blk)
  have HH := Lib.hid (has_core w m.d m _ _ _ h.blk k)
  have H := Lib.hid h
  have c0 : w.cell? ⟨m.d, 0, none⟩ = some (.slice (some ⟨m.bn, 0, none⟩) x.sure.length m.cn) := h.blk.cell 0
  clear h
  by_cases hd : x.down = true
  · have e1 : x.readE k = 8 := by unfold Dv.readE; rw [if_pos hd]
    have e2 : x.readB k = [] := by unfold Dv.readB; rw [e1]; rfl
    have r1 := HR.out
    rw [if_pos hd] at r1
    have HR1 := Lib.hid r1
    rw [e1, e2]
    clear r1 HR HH H hd e1 e2
    go_enter Tryd.func32, Tryd.ntmps32
    go_wp2_with fail
    refine HR1.out.mono ?_
    rintro e w' ⟨rfl, rfl⟩
    go_wp2
    go_ret2
    exact ⟨_, rfl, World.ownsRow_nil _ _ _ _, Below.refl _ _⟩
  · have r1 := HR.out
    rw [if_neg hd] at r1
    have HR1 := Lib.hid r1
    have HD := Lib.hid hd
    clear r1 HR hd
    by_cases hk : 0 ≤ k ∧ k < (x.sure.length : Int)
    · have r2 := HH.out
      rw [decide_eq_true hk] at r2
      have HH1 := Lib.hid r2
      obtain ⟨i, rfl⟩ : ∃ i : Nat, k = i := ⟨k.toNat, by omega⟩
      have hi : i < x.sure.length := by omega
      have hhas : x.has i = true := by simp [Dv.has]; omega
      have ct := H.out.torn_at hi
      have hcl := H.out.ok.few
      have HROW := Lib.hid (H.out.data_at hi)
      have hlen : (x.now.getD i secZero).data.length = 512 := ok_getD H.out.ok.now i
      have HHAS := Lib.hid hhas
      have HLEN := Lib.hid hlen
      clear r2 HH hk hhas hlen
      cases ht : (x.now.getD i secZero).torn with
      | true =>
        rw [ht] at ct
        have e1 : x.readE i = 9 := by unfold Dv.readE; rw [if_neg HD.out, if_neg (by simp [HHAS.out]), if_pos (by simpa using ht)]
        have e2 : x.readB i = [] := by unfold Dv.readB; rw [e1]; rfl
        rw [e1, e2]
        clear ht e1 e2
        go_enter Tryd.func32, Tryd.ntmps32
        go_wp2_with fail
        refine HR1.out.mono ?_
        rintro e w' ⟨rfl, rfl⟩
        go_wp2_with fail
        refine HH1.out.mono ?_
        rintro e w' ⟨rfl, rfl⟩
        go_wp2
        go_ret2
        exact ⟨_, rfl, World.ownsRow_nil _ _ _ _, Below.refl _ _⟩
      | false =>
        rw [ht] at ct
        have e1 : x.readE i = 0 := by unfold Dv.readE; rw [if_neg HD.out, if_neg (by simp [HHAS.out]), if_neg (by simpa using ht)]
        have e2 : x.readB i = (x.now.getD i secZero).data := by unfold Dv.readB; rw [e1]; simp
        rw [e1, e2]
        clear ht e1 e2
        have HC := Lib.hid (clone_u8 (some ⟨m.bn, i * 513, none⟩) 512 512 w.heap.size _ w (by rw [List.length_map, HLEN.out]) HROW.out (bc_one _) (by decide) (by decide))
        go_enter Tryd.func32, Tryd.ntmps32
        go_wp2_with fail
        refine HR1.out.mono ?_
        rintro e w' ⟨rfl, rfl⟩
        go_wp2_with fail
        refine HH1.out.mono ?_
        rintro e w' ⟨rfl, rfl⟩
        go_wp2_with fail
        refine HC.out.mono ?_
        rintro e w' ⟨v, rfl, hv, hb⟩
        go_wp2
        go_ret2
        exact ⟨v, rfl, by rw [HLEN.out]; exact hv, hb⟩
    · have r2 := HH.out
      rw [decide_eq_false hk] at r2
      have HH1 := Lib.hid r2
      have e1 : x.readE k = 1 := by unfold Dv.readE; rw [if_neg HD.out, if_pos (by simpa [Dv.has] using hk)]
      have e2 : x.readB k = [] := by unfold Dv.readB; rw [e1]; rfl
      rw [e1, e2]
      clear r2 HH H hk e1 e2
      go_enter Tryd.func32, Tryd.ntmps32
      go_wp2_with fail
      refine HR1.out.mono ?_
      rintro e w' ⟨rfl, rfl⟩
      go_wp2_with fail
      refine HH1.out.mono ?_
      rintro e w' ⟨rfl, rfl⟩
      go_wp2
      go_ret2
      exact ⟨_, rfl, World.ownsRow_nil _ _ _ _, Below.refl _ _⟩

end Go.Proofs.YthjcpficpiddaaaDoor
