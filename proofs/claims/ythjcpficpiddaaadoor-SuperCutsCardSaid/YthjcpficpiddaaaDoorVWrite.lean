/-
  The contract of Write.
-/
import Derived.Test.YthjcpficpiddaaaDoorVBuild
import Derived.Deep.RegionHeld3
import Derived.StillTailTactics
import Derived.Deep.Cut
import Derived.Deep.RegionHeld3
namespace Go.Proofs.YthjcpficpiddaaaDoor
open Go.RowKit

theorem pad_splice {k : Int} {b : List UInt8} (h : b.length ≤ 512) : splice ((.int .i64 k :: secZero.cells) : List Value) 1 (b.map bc) = .int .i64 k :: (⟨padB b, false⟩ : Sec).cells := by
  unfold splice Sec.cells padB secZero zero512
  rw [List.length_map, show 1 + b.length = b.length + 1 by omega]
  simp only [List.take_succ_cons, List.take_zero, List.drop_succ_cons, List.map_append, List.map_replicate, List.cons_append, List.nil_append, List.append_assoc]
  rw [List.drop_append_of_le_length (by rw [List.length_replicate]; exact h), List.drop_replicate]
theorem zeroW_length (k : Int) : ((.int .i64 k :: secZero.cells) : List Value).length = 514 := by
  have : secZero.cells.length = 513 := Sec.length_cells length_zero512
  simp [this]

theorem zeroW_one (k : Int) : ∀ v ∈ ((.int .i64 k :: secZero.cells) : List Value), v.oneCell' = true := by
  intro v hv
  rcases List.mem_cons.1 hv with rfl | hv
  · rfl
  · exact Sec.one _ v hv
/-- What Write answers. -/
def WriteOut (base : Nat) (w : World) (m : Lies) (x : Dv) (k : Int) (e : Ending) (w' : World) : Prop :=
  e = .returned (.int .i64 k) ∧ Went base w m x w'

/-- The source of a Write: bytes that lie outside the device's own block. -/
def SrcAt (w : World) (m : Lies) (A : Option Addr) (b : List UInt8) : Prop := b ≠ [] → ∃ g off, A = some ⟨g, off, none⟩ ∧ g < w.heap.size ∧ g ≠ m.d ∧ ∀ j u, (b.map bc)[j]? = some u → w.cell? ⟨g, off + j, none⟩ = some u

theorem splice_full {α : Type} {L cs : List α} (h : L.length = cs.length) : splice L 0 cs = cs := by
  unfold splice
  rw [List.drop_eq_nil_of_le (by omega)]
  simp
theorem _root_.Go.RowKit.Below.of_alloc {w V : World} {o : Obj} (h : Below w.heap.size (w.alloc o) V) : Below w.heap.size w V := ((Below.refl _ w).alloc (Nat.le_refl _) o).trans h
theorem SrcAt.pos {w V : World} {m : Lies} {A : Option Addr} {b : List UInt8} (h : SrcAt w m A b) (hb : Below w.heap.size w V) : 0 < (b.map bc).length → ∃ ad, A = some ad ∧ ∀ j v, (b.map bc)[j]? = some v → V.cell? (ad.add j) = some v := fun h0 => by
  obtain ⟨g, off, rfl, hg, _, hc⟩ := h (fun e => by rw [e] at h0; exact absurd h0 (Nat.not_lt_zero _))
  exact ⟨_, rfl, fun j v hv => by rw [addr_add, hb.cell (p := ⟨g, off + j, none⟩) hg]; exact hc j v hv⟩

theorem cellsU_snoc (l : List Wri) (u : Wri) : cellsU (l ++ [u]) = cellsU l ++ u.cells := by simp [cellsU]
theorem wpStill_load_mid {P : Program} {ops : Array Oper} {rest : List Oper} {op : Oper} {a : Act} {w : World} {Q : Act → Prop} (hgd : op.guard = none) (ty : TypeId) (x : Operand) (ho : op.op = .load ty x)
    (b o : Nat) (hx : a.eval x = .pointer (some ⟨b, o, none⟩)) (cs : List Value) (d : TypeDesc) (hc : w.rangeAt b o cs)
    (hu : P.underlying ty = some d) (hd : d.isRow = true) (hi : (P.info? ty).map (·.size) = some cs.length)
    (h : wpStill P ops w Q rest (a.put op.dst (.agg cs.toArray))) : wpStill P ops w Q (op :: rest) a := by
  refine wpStill_step fun K hK => ?_
  rw [if_pos (by simp [Region.wanted, hgd])]
  unfold Oper.still execOp
  simp only [ho, hx, Instr.loadAt, Instr.sureAddr, Sem.run_bind, Sem.run_pure, Result.andThen_ok, run_loadVar_mid w b o ty cs d hc hu hd hi]
  exact ⟨rfl, hK _ h⟩

/-- What is known behind the append. -/
theorem write_mid {V2 w' w3 : World} {base : Nat} {m : Lies} {y : Dv} {Lw : List Value} (h1 : DevAt w' base m y) (hd2 : DevAt V2 base m y) (hb2 : Below w'.heap.size w' V2) (hw2 : Whole V2 w'.heap.size 70 Lw)
    (hg : (V2.drew.alloc (.cells Lw.toArray 70)).grownBy w3 m.u.ownBlock) :
    w3.rangeAt w'.heap.size 0 Lw ∧ Whole w3 m.d 42 (devCells m y.sure.length y.limit y.down) ∧ w3.ownsRow base 68 513 (m.vn y.sure.length) y.sure.length (cellsS y.now) ∧ w3.ownsRow base 68 513 (m.vs y.sure.length) y.sure.length (cellsS y.sure) ∧ Grew m.own w' w3 := by
  have hj : ∀ j, j < V2.heap.size → m.u.ownBlock ≠ some j → w3.heap[j]? = V2.heap[j]? := fun j hj hu =>
    (hg.block j (by rw [World.size_alloc]; show j < V2.heap.size + 1; omega) (fun e => hu e.symm)).trans (Below.heap_alloc V2.drew _ j hj)
  have hub : m.u.ownBlock ≠ some w'.heap.size := fun e => by have := (h1.uns.lt _ e).2; omega
  have hw3 : Whole w3 w'.heap.size 70 Lw := hw2.keep (hj _ hw2.lt hub)
  have hG : Grew m.own w' w3 := by
    refine Grew.trans (Grew.all hb2) (G := m.own) ⟨hg.os, hg.tape, hg.output, ?_, fun j hj2 hn => hj j hj2 fun e => hn (.inr (.inr (.inr e)))⟩ fun j h => .inl h
    have := hg.size
    rw [World.size_alloc] at this
    exact Nat.le_trans (Nat.le_succ _) this
  exact ⟨hw3.range fun j v hv => by rw [Nat.zero_add]; exact hv, hd2.blk.keep (hj _ (hd2.own (.inl rfl)).2 hd2.ud), own_keep hd2.now fun g e => hj g (hd2.now.lt g e).2 (by rw [Lies.own_vn e]; exact hd2.un),
    own_keep hd2.sure fun g e => hj g (hd2.sure.lt g e).2 (by rw [Lies.own_vs e]; exact hd2.us), hG⟩
/-- Behind the store of the slice: what is read alone has not turned yet. -/
structure Wrote1 (w' V3 : World) (base : Nat) (m : Lies) (v' : Value) (y : Dv) (u : Wri) : Prop where
  blk : Whole V3 m.d 42 (devCells { m with u := v' } y.sure.length y.limit y.down)
  now : V3.ownsRow base 68 513 (m.vn y.sure.length) y.sure.length (cellsS y.now)
  sure : V3.ownsRow base 68 513 (m.vs y.sure.length) y.sure.length (cellsS y.sure)
  uns : V3.ownsRow base 70 514 v' (y.uns.length + 1) (cellsU (y.uns ++ [u]))
  rng : V3.rangeAt w'.heap.size 1 u.sec.cells
  grew : Grew m.own w' V3
  own : ∀ j, v'.ownBlock = some j → m.own j ∨ w'.heap.size ≤ j
theorem write_store {w' w3 : World} {base : Nat} {m : Lies} {y : Dv} {u : Wri} {v' : Value} {n : Nat} (h1 : DevAt w' base m y)
    (h : w3.rangeAt w'.heap.size 0 u.cells ∧ Whole w3 m.d 42 (devCells m y.sure.length y.limit y.down) ∧ w3.ownsRow base 68 513 (m.vn y.sure.length) y.sure.length (cellsS y.now) ∧ w3.ownsRow base 68 513 (m.vs y.sure.length) y.sure.length (cellsS y.sure) ∧ Grew m.own w' w3)
    (hu : w3.ownsRow base 70 514 v' (y.uns.length + 1) (cellsU (y.uns ++ [u]))) (hat : v'.ownBlock = m.u.ownBlock ∨ v'.ownBlock = some n) (hn : w'.heap.size ≤ n) : Wrote1 w' (w3.setCell ⟨m.d, 2, none⟩ v') base m v' y u := by
  obtain ⟨hr, hb, hno, hsu, hG⟩ := h
  have hbs := hb.set_ 2 v'
  refine ⟨hbs, own_set_far hno (by intro e; exact h1.dn (Lies.own_vn e)) _, own_set_far hsu (by intro e; exact h1.ds (Lies.own_vs e)) _, own_set_far hu (own_not_whole hu hb (by decide)) _, ?_, hG.setCell (a := ⟨m.d, 2, none⟩) (.inl (.inl rfl)) _, fun j hj => ?_⟩
  · have hne : w'.heap.size ≠ m.d := by have := (h1.own (.inl rfl)).2; omega
    have h2 := World.rangeAt_setCells_apart hr m.d 2 [v'] (.inl hne)
    intro j v hv
    have := h2 (j + 1) v (by simpa [Wri.cells] using hv)
    rw [show 1 + j = 0 + (j + 1) by omega]
    exact this
  · rcases hat with e | e
    · exact .inl (.inr (.inr (.inr (by rw [← e]; exact hj))))
    · rw [e] at hj; injection hj with hj; exact .inr (by omega)
/-- Behind the last store. -/
theorem write_fin {w' V3 V4 : World} {base : Nat} {m : Lies} {y : Dv} {u : Wri} {v' : Value} (h1 : DevAt w' base m y) (h3 : Wrote1 w' V3 base m v' y u) (hi : u.place < y.sure.length) (hd : u.data.length = 512)
    (h4 : V4.ownsRow base 68 513 (m.vn y.sure.length) y.sure.length (splice (cellsS y.now) (u.place * 513) u.sec.cells)) (hg : Grew (fun j => j = m.bn) V3 V4) : Went base w' m { y with uns := y.uns ++ [u] } V4 := by
  have hu1 : v'.ownBlock ≠ some m.bn := own_not_own h3.uns h3.now (by decide) rfl
  have e1 : splice (cellsS y.now) (u.place * 513) u.sec.cells = cellsS (y.now.set u.place u.sec) := flat_set (f := Sec.cells) h1.ok.now.cells (by rw [Dv.length_now]; exact hi) (Sec.length_cells hd)
  have e2 : Dv.now { y with uns := y.uns ++ [u] } = y.now.set u.place u.sec := nowN_snoc u
  rw [e1, ← e2] at h4
  refine ⟨{ m with u := v' }, rfl, ⟨h3.blk.grew hg h1.dn, h4, own_grew h3.sure hg (fun g e e3 => h1.ne (by rw [← e3, Lies.own_vs e])), ?_, h1.ne, h1.ld, ⟨h1.ok.s, h1.ok.u.snoc hi hd, h1.ok.few, h1.ok.lim⟩⟩, ?_, fun j hj => ?_⟩
  · show V4.ownsRow base _ 514 v' (y.uns ++ [u]).length _
    rw [List.length_append]
    exact own_grew h3.uns hg fun g e e3 => hu1 (by rw [e, e3])
  · exact h3.grew.trans hg fun j hj => .inl (.inr (.inl hj))
  · rcases hj with hj | hj | hj | hj
    · exact .inl (.inl hj)
    · exact .inl (.inr (.inl hj))
    · exact .inl (.inr (.inr (.inl hj)))
    · exact h3.own j hj

set_option maxRecDepth 4000 in
set_option maxHeartbeats 1000000 in
theorem write_full (w w1 : World) (base : Nat) (m : Lies) (y : Dv) (h1 : DevAt w1 base m y) (i c : Nat) (A : Option Addr) (b : List UInt8) (hi : i < y.sure.length) (hb : b.length ≤ 512) (hs : SrcAt w1 m A b) (hu : y.uns.length < 4294967296)
    (hR : Calls Tryd.prog 28 #[.pointer (some ⟨m.d, 0, none⟩)] w (Told w (.int .i64 0)))
    (hH : Calls Tryd.prog 30 #[.pointer (some ⟨m.d, 0, none⟩), .int .i64 i] w (Told w (.bool true)))
    (hL : Calls Tryd.prog 29 #[.pointer (some ⟨m.d, 0, none⟩)] w (fun e w' => e = .returned (.bool true) ∧ w' = w1)) :
    Calls Tryd.prog 18 #[.pointer (some ⟨m.d, 0, none⟩), .int .i64 i, .slice A b.length c] w (WriteOut base w1 m { y with uns := y.uns ++ [⟨i, padB b⟩] } 0) := by
  have HR := Lib.hid hR
  have HH := Lib.hid hH
  have HL := Lib.hid hL
  have H1 := Lib.hid h1
  have HS := Lib.hid hs
  have HI := Lib.hid hi
  have HB := Lib.hid hb
  have HU := Lib.hid hu
  have d0 : decide (512 < (b.length : Int)) = false := by simp; omega
  have hli : (i : Int) ≤ 4096 := by have := h1.ok.few; omega
  clear hR hH hL h1 hs hi hb hu
  go_enter Tryd.func18, Tryd.ntmps18
  go_wp2_with fail
  refine HR.out.mono ?_
  rintro e w' ⟨rfl, rfl⟩
  go_wp2_with fail
  refine HH.out.mono ?_
  rintro e w' ⟨rfl, rfl⟩
  go_wp2_with fail
  refine HL.out.mono ?_
  rintro e w' ⟨rfl, rfl⟩
  obtain ⟨B1, hB1⟩ : ∃ B1, B1 = w'.heap.size := ⟨_, rfl⟩
  go_wp2_with (first
    | (refine wpList_build1 rfl 70 0 (.tmp 26) rfl _ rfl _ (built_wri i) ?_)
    | (refine wpList_alloc_zero rfl 70 rfl _ wri_zero ?_)
    | (refine wpList_store_at rfl 70 (.tmp 8) (.tmp 27) rfl w'.heap.size 0 _ rfl rfl _ _ (Whole.made _ _ _) ?c1 ?c2 ?c3 ?_
       case c1 => rw [zeroW_length, Wri.length_cells length_zero512]; decide
       case c2 => rw [zeroW_length]; exact wri_size
       case c3 => exact zeroW_one i
       intro V hWV hGV hVS
       rw [splice_full (by rw [zeroW_length, Wri.length_cells length_zero512])] at hWV
       have HWV := Lib.hid (show V.heap[w'.heap.size]? = some (.cells ((.int .i64 (i : Int) :: secZero.cells) : List Value).toArray 70 (0, 0)) from hWV)
       have HBV := Lib.hid (show Below w'.heap.size w' V from ((Grew.below (B := w'.heap.size) hGV (fun j hj => by rw [hj]; exact Nat.le_refl _) (by simp)).of_alloc))
       clear hWV hGV hVS)
    | (with_reducible refine wpList_copy_splice rfl (.tmp 30) (.tmp 31) 45 45 rfl 5 Tryd.underlying45 u8_size _ _ _ _ _ _ rfl rfl w'.heap.size 1 _ 70 HWV.out (b.map bc) ?c4 ?c5 ?c6 (bc_one b) w'.heap.size w' HBV.out (Nat.le_refl _) ?_
       case c4 => rw [List.length_map]; exact (Nat.min_eq_left HB.out).symm
       case c5 => exact fun h0 => ⟨rfl, HS.out.pos HBV.out h0⟩
       case c6 => rw [List.length_map, zeroW_length]; have := HB.out; omega
       intro V2 HG2 hB2
       have HW2 := Lib.hid (show Whole V2 w'.heap.size 70 (Wri.cells ⟨i, padB b⟩) from by have h := HG2.out; rw [pad_splice HB.out] at h; exact h)
       have HD2 := Lib.hid (H1.out.below hB2)
       have HB2 := Lib.hid hB2
       clear HG2 hB2 HBV HWV))
  -- region 10
  obtain ⟨Lw, hLw⟩ : ∃ Lw, Lw = Wri.cells ⟨i, padB b⟩ := ⟨_, rfl⟩
  have hLl : Lw.length = 514 := by rw [hLw]; exact Wri.length_cells (length_padB HB.out)
  have hL1 : ∀ v ∈ Lw, v.oneCell' = true := by rw [hLw]; exact Wri.one _
  have hr2 : V2.rangeAt w'.heap.size 0 Lw := by rw [hLw]; exact HW2.out.range fun j v hv => by rw [Nat.zero_add]; exact hv
  have c2 : V2.cell? ⟨m.d, 2, none⟩ = some m.u := HD2.out.blk.cell 2
  have hmid := fun (w3 : World) (hg : (V2.drew.alloc (.cells Lw.toArray 70)).grownBy w3 m.u.ownBlock) => write_mid H1.out HD2.out HB2.out (show Whole V2 w'.heap.size 70 Lw by rw [hLw]; exact HW2.out) hg
  have ho2 : (V2.drew.alloc (.cells Lw.toArray 70)).ownsRow base 70 514 m.u y.uns.length (cellsU y.uns) := own_keep HD2.out.uns fun g hg => Below.heap_alloc V2.drew _ g (HD2.out.uns.lt g hg).2
  have hsz : base ≤ (V2.drew.alloc (.cells Lw.toArray 70)).heap.size := by have := (HD2.out.own (.inl rfl)); rw [World.size_alloc]; show base ≤ V2.heap.size + 1; omega
  have hne : w'.heap.size ≠ m.d := by have := (H1.out.own (.inl rfl)); omega
  have HLW := Lib.hid hLw
  have HLL := Lib.hid hLl
  have HL1 := Lib.hid hL1
  have HMID := Lib.hid hmid
  have HO2 := Lib.hid ho2
  have HSZ := Lib.hid hsz
  have HNE := Lib.hid hne
  obtain ⟨i0, z0, hi0, hz0, hz1, hz2, hz3⟩ := info_row wri_row
  clear hLw hLl hL1 hmid ho2 hsz hne
  refine wp_region_held_drew (S := (fun W => W.rangeAt w'.heap.size 0 Lw)) (by kernel_rfl) (by exact hr2) (fun hHeld => ?_)
  refine wpAnyH_take (i := 5) (oi := { dst := some 38, op := Go.Op.load 70 (Go.Operand.tmp 8), type := 70, pos := "flash.go:74", after := #[], guard := none }) rfl (by kernel_rfl) (by kernel_rfl) (by kernel_rfl) (fun _ _ _ h => h) (yieldsIf_load_mid (by rfl) 70 (.tmp 8) rfl w'.heap.size 0 rfl Lw _ (fun _ h => h) Tryd.underlying70 rfl (by rw [HLL.out]; exact wri_size)) (by assumption) ?_
  try simp only [Act.put, List.setIfInBounds_toArray, List.set_cons_zero, List.set_cons_succ]
  refine wpAnyH_take (i := 0) (oi := { dst := some 33, op := Go.Op.move (Go.Operand.tmp 0), type := 24, pos := "flash.go:74", after := #[], guard := none }) (v := ?_) rfl (by kernel_rfl) (by kernel_rfl) (by kernel_rfl) (fun _ _ _ h => h) (Or.inl ⟨by rfl, ?_⟩) (by assumption) ?_
  rotate_left
  · intro W hSw
    try dsimp only at hSw
    go_simp
    all_goals (with_reducible rfl)
  try simp only [Act.put, List.setIfInBounds_toArray, List.set_cons_zero, List.set_cons_succ]
  refine wpAnyH_take (i := 1) (oi := { dst := some 34, op := Go.Op.move (Go.Operand.tmp 0), type := 24, pos := "flash.go:74", after := #[], guard := none }) (v := ?_) rfl (by kernel_rfl) (by kernel_rfl) (by kernel_rfl) (fun _ _ _ h => h) (Or.inl ⟨by rfl, ?_⟩) (by assumption) ?_
  rotate_left
  · intro W hSw
    try dsimp only at hSw
    go_simp
    all_goals (with_reducible rfl)
  try simp only [Act.put, List.setIfInBounds_toArray, List.set_cons_zero, List.set_cons_succ]
  refine wpAnyH_take (i := 2) (oi := { dst := some 35, op := Go.Op.nilCheck (Go.Operand.tmp 34), type := 0, pos := "flash.go:74", after := #[{ on := 1, ground := Go.Ground.data }], guard := none }) (v := ?_) rfl (by kernel_rfl) (by kernel_rfl) (by kernel_rfl) (fun _ _ _ h => h) (Or.inl ⟨by rfl, ?_⟩) (by assumption) ?_
  rotate_left
  · intro W hSw
    try dsimp only at hSw
    go_simp
    all_goals (with_reducible rfl)
  try simp only [Act.put, List.setIfInBounds_toArray, List.set_cons_zero, List.set_cons_succ]
  refine wpAnyH_take (i := 3) (oi := { dst := some 36, op := Go.Op.fieldAddr 42 (Go.Operand.tmp 35) 2, type := 0, pos := "flash.go:74", after := #[{ on := 2, ground := Go.Ground.data }], guard := none }) (v := ?_) rfl (by kernel_rfl) (by kernel_rfl) (by kernel_rfl) (fun _ _ _ h => h) (Or.inl ⟨by rfl, ?_⟩) (by assumption) ?_
  rotate_left
  · intro W hSw
    try dsimp only at hSw
    go_simp
    all_goals (with_reducible rfl)
  try simp only [Act.put, List.setIfInBounds_toArray, List.set_cons_zero, List.set_cons_succ]
  refine wpAnyH_ready (rs := [4, 6]) (by kernel_rfl) (by simp) ?_
  refine AllReadyH.cons (o := { dst := some 37, op := Go.Op.load 40 (Go.Operand.tmp 36), type := 40, pos := "flash.go:74", after := #[{ on := 3, ground := Go.Ground.data }], guard := none }) rfl (fun K hK => ?_) (AllReadyH.cons (o := { dst := some 39, op := Go.Op.buildSlice 40 1 #[(0, Go.Operand.tmp 38)], type := 40, pos := "flash.go:74", after := #[{ on := 5, ground := Go.Ground.data }], guard := none }) rfl (fun K hK => ?_) AllReadyH.nil)
  · go_simp
    refine hK.out _ _ (by exact hHeld) (fun hHeld2 => ?_)
    clear hK K hHeld
    have hHeld := hHeld2
    clear hHeld2
    try simp only [Act.put, List.setIfInBounds_toArray, List.set_cons_zero, List.set_cons_succ]
    refine wpAnyH_ready (rs := [6]) (by kernel_rfl) (by simp) ?_
    refine AllReadyH.cons (o := { dst := some 39, op := Go.Op.buildSlice 40 1 #[(0, Go.Operand.tmp 38)], type := 40, pos := "flash.go:74", after := #[{ on := 5, ground := Go.Ground.data }], guard := none }) rfl (fun K hK => ?_) AllReadyH.nil
    refine step_buildSlice1 rfl 40 70 (.tmp 38) rfl Lw rfl Tryd.underlying40 (by rw [HLL.out]; exact wri_row2) (by rw [HLL.out]; decide) (by rw [HLL.out]; decide) ?_
    refine hK.out _ _ (by exact World.rangeAt_alloc hHeld _) (fun hHeld2 => ?_)
    clear hK K hHeld
    have hHeld := hHeld2
    clear hHeld2
    try simp only [Act.put, List.setIfInBounds_toArray, List.set_cons_zero, List.set_cons_succ]
    refine wpAnyH_ready (rs := [7]) (by kernel_rfl) (by simp) ?_
    refine AllReadyH.cons (o := { dst := some 40, op := Go.Op.call { callee := Go.Callee.builtin Go.Builtin.append, args := #[Go.Operand.tmp 37, Go.Operand.tmp 39], argTypes := #[40, 40] }, type := 40, pos := "flash.go:74", after := #[{ on := 4, ground := Go.Ground.data }, { on := 6, ground := Go.Ground.data }], guard := none }) rfl (fun K hK => ?_) AllReadyH.nil
    refine step_append_at rfl (.tmp 37) (.tmp 39) _ rfl base 70 i0 z0 514 528 Tryd.underlying40 hi0 hz0 hz1 hz2 hz3 (by decide) m.u y.uns.length (cellsU y.uns) rfl HO2.out (some ⟨V2.heap.size, 0, none⟩) 1 1 (V2.heap.size + 1) Lw rfl (by rw [HLL.out]) (by exact Row.made V2.drew Lw.toArray _) HL1.out ?c1 ?c2 HSZ.out ?_
    case c1 => have := HU.out; unfold maxLen; omega
    case c2 => have := HU.out; omega
    intro v' w3 hown' hg hat
    obtain ⟨Av, cv, rfl, _, _⟩ := own_form hown'
    have HG := Lib.hid hg
    have HW' := Lib.hid hown'
    have HAT := Lib.hid hat
    clear hown' hg hat
    refine hK.out _ _ (by exact (HMID.out w3 HG.out).1) (fun hHeld2 => ?_)
    clear hK K hHeld
    have hHeld := hHeld2
    clear hHeld2
    try simp only [Act.put, List.setIfInBounds_toArray, List.set_cons_zero, List.set_cons_succ]
    refine wpAnyH_take (i := 8) (oi := { dst := some 41, op := Go.Op.nilCheck (Go.Operand.tmp 33), type := 0, pos := "flash.go:74", after := #[{ on := 0, ground := Go.Ground.data }, { on := 0, ground := Go.Ground.phase }, { on := 1, ground := Go.Ground.phase }, { on := 2, ground := Go.Ground.phase }, { on := 3, ground := Go.Ground.phase }, { on := 4, ground := Go.Ground.phase }, { on := 5, ground := Go.Ground.phase }, { on := 6, ground := Go.Ground.phase }, { on := 7, ground := Go.Ground.phase }], guard := none }) (v := ?_) rfl (by kernel_rfl) (by kernel_rfl) (by kernel_rfl) (fun _ _ _ h => h) (Or.inl ⟨by rfl, ?_⟩) (by assumption) ?_
    rotate_left
    · intro W hSw
      try dsimp only at hSw
      go_simp
      all_goals (with_reducible rfl)
    try simp only [Act.put, List.setIfInBounds_toArray, List.set_cons_zero, List.set_cons_succ]
    refine wpAnyH_take (i := 9) (oi := { dst := some 42, op := Go.Op.fieldAddr 42 (Go.Operand.tmp 41) 2, type := 0, pos := "flash.go:74", after := #[{ on := 8, ground := Go.Ground.data }, { on := 0, ground := Go.Ground.phase }, { on := 1, ground := Go.Ground.phase }, { on := 2, ground := Go.Ground.phase }, { on := 3, ground := Go.Ground.phase }, { on := 4, ground := Go.Ground.phase }, { on := 5, ground := Go.Ground.phase }, { on := 6, ground := Go.Ground.phase }, { on := 7, ground := Go.Ground.phase }], guard := none }) (v := ?_) rfl (by kernel_rfl) (by kernel_rfl) (by kernel_rfl) (fun _ _ _ h => h) (Or.inl ⟨by rfl, ?_⟩) (by assumption) ?_
    rotate_left
    · intro W hSw
      try dsimp only at hSw
      go_simp
      all_goals (with_reducible rfl)
    try simp only [Act.put, List.setIfInBounds_toArray, List.set_cons_zero, List.set_cons_succ]
    have c3 : w3.cell? ⟨m.d, 2, none⟩ = some m.u := (HMID.out w3 HG.out).2.1.cell 2
    have z3 : w3.frozen? ⟨m.d, 2, none⟩ = false := (HMID.out w3 HG.out).2.1.frozen 2
    refine wpAnyH_ready (rs := [10]) (by kernel_rfl) (by simp) ?_
    refine AllReadyH.cons (o := { dst := none, op := Go.Op.store 40 (Go.Operand.tmp 42) (Go.Operand.tmp 40), type := 0, pos := "flash.go:74", after := #[{ on := 9, ground := Go.Ground.data }, { on := 7, ground := Go.Ground.data }, { on := 7, ground := Go.Ground.chain }, { on := 0, ground := Go.Ground.phase }, { on := 1, ground := Go.Ground.phase }, { on := 2, ground := Go.Ground.phase }, { on := 3, ground := Go.Ground.phase }, { on := 4, ground := Go.Ground.phase }, { on := 5, ground := Go.Ground.phase }, { on := 6, ground := Go.Ground.phase }, { on := 7, ground := Go.Ground.phase }], guard := none }) rfl (fun K hK => ?_) AllReadyH.nil
    go_simp
    refine hK.out _ _ (by exact World.rangeAt_setCells_apart hHeld m.d 2 [.slice Av (y.uns.length + 1) cv] (.inl HNE.out)) (fun hHeld2 => ?_)
    clear hK K hHeld
    have hHeld := hHeld2
    clear hHeld2
    skip
    refine wpAnyH_done (by kernel_rfl) ?_ _
    have h3 := write_store (u := ⟨i, padB b⟩) H1.out (by rw [← HLW.out]; exact (HMID.out w3 HG.out)) (by have := HW'.out; rw [HLW.out] at this; rw [cellsU_snoc]; exact this) HAT.out (by have := HB2.out.size; show w'.heap.size ≤ (V2.alloc (.cells Lw.toArray 70)).heap.size; rw [World.size_alloc]; omega)
    obtain ⟨V3, hV3⟩ : ∃ V3, V3 = w3.setCell ⟨m.d, 2, none⟩ (.slice Av (y.uns.length + 1) cv) := ⟨_, rfl⟩
    rw [← hV3] at h3
    simp only [← hV3]
    have H3 := Lib.hid h3
    have c0 : V3.cell? ⟨m.d, 0, none⟩ = some (.slice (some ⟨m.bn, 0, none⟩) y.sure.length m.cn) := h3.blk.cell 0
    have hi := HI.out
    clear h3 hV3 c3 z3 hHeld HG HMID HO2 c2 hr2
    go_wp2_with fail
    refine wp_region_still_tail 8 (by kernel_rfl) (by kernel_rfl) ?_
    simp only [List.take_succ_cons, List.take_zero, List.drop_succ_cons, List.drop_zero]
    repeat (first
      | (refine wpStill_load_mid rfl 68 (.tmp 48) rfl w'.heap.size 1 rfl (Sec.cells ⟨padB b, false⟩) _ (fun j v h => H3.out.rng j v h) Tryd.underlying68 rfl (by rw [Sec.length_cells (s := ⟨padB b, false⟩) (length_padB HB.out)]; exact sec_size) ?_)
      | still_step)
    refine wpStill_nil ?_
    refine wpList_store_own rfl 68 (.tmp 50) (.tmp 49) rfl m.bn (i * 513) _ rfl rfl base 68 513 y.sure.length m.cn (cellsS y.now) (own_keep H3.out.now fun _ _ => rfl) ?d1 ?d2 (Sec.one _) ?_
    case d1 => rw [H1.out.ok.now.length, Dv.length_now, Sec.length_cells (s := ⟨padB b, false⟩) (length_padB HB.out)]; have := HI.out; omega
    case d2 => rw [Sec.length_cells (s := ⟨padB b, false⟩) (length_padB HB.out)]; exact sec_size
    intro V4 hV4 hG4 hS4
    have H4 := Lib.hid (write_fin (u := ⟨i, padB b⟩) H1.out H3.out HI.out (length_padB HB.out) hV4 ⟨hG4.os, hG4.tape, hG4.output, hG4.size, hG4.block⟩)
    clear hV4 hG4 hS4
    go_wp2
    go_ret
    exact ⟨rfl, H4.out⟩

  · refine step_buildSlice1 rfl 40 70 (.tmp 38) rfl Lw rfl Tryd.underlying40 (by rw [HLL.out]; exact wri_row2) (by rw [HLL.out]; decide) (by rw [HLL.out]; decide) ?_
    refine hK.out _ _ (by exact World.rangeAt_alloc hHeld _) (fun hHeld2 => ?_)
    clear hK K hHeld
    have hHeld := hHeld2
    clear hHeld2
    try simp only [Act.put, List.setIfInBounds_toArray, List.set_cons_zero, List.set_cons_succ]
    have c2a : (V2.alloc (.cells Lw.toArray 70)).cell? ⟨m.d, 2, none⟩ = some m.u := (World.cell?_alloc_lt V2 _ _ (HD2.out.own (.inl rfl)).2).trans c2
    refine wpAnyH_ready (rs := [4]) (by kernel_rfl) (by simp) ?_
    refine AllReadyH.cons (o := { dst := some 37, op := Go.Op.load 40 (Go.Operand.tmp 36), type := 40, pos := "flash.go:74", after := #[{ on := 3, ground := Go.Ground.data }], guard := none }) rfl (fun K hK => ?_) AllReadyH.nil
    go_simp
    refine hK.out _ _ (by exact hHeld) (fun hHeld2 => ?_)
    clear hK K hHeld
    have hHeld := hHeld2
    clear hHeld2
    try simp only [Act.put, List.setIfInBounds_toArray, List.set_cons_zero, List.set_cons_succ]
    clear c2a
    refine wpAnyH_ready (rs := [7]) (by kernel_rfl) (by simp) ?_
    refine AllReadyH.cons (o := { dst := some 40, op := Go.Op.call { callee := Go.Callee.builtin Go.Builtin.append, args := #[Go.Operand.tmp 37, Go.Operand.tmp 39], argTypes := #[40, 40] }, type := 40, pos := "flash.go:74", after := #[{ on := 4, ground := Go.Ground.data }, { on := 6, ground := Go.Ground.data }], guard := none }) rfl (fun K hK => ?_) AllReadyH.nil
    refine step_append_at rfl (.tmp 37) (.tmp 39) _ rfl base 70 i0 z0 514 528 Tryd.underlying40 hi0 hz0 hz1 hz2 hz3 (by decide) m.u y.uns.length (cellsU y.uns) rfl HO2.out (some ⟨V2.heap.size, 0, none⟩) 1 1 (V2.heap.size + 1) Lw rfl (by rw [HLL.out]) (by exact Row.made V2.drew Lw.toArray _) HL1.out ?c1 ?c2 HSZ.out ?_
    case c1 => have := HU.out; unfold maxLen; omega
    case c2 => have := HU.out; omega
    intro v' w3 hown' hg hat
    obtain ⟨Av, cv, rfl, _, _⟩ := own_form hown'
    have HG := Lib.hid hg
    have HW' := Lib.hid hown'
    have HAT := Lib.hid hat
    clear hown' hg hat
    refine hK.out _ _ (by exact (HMID.out w3 HG.out).1) (fun hHeld2 => ?_)
    clear hK K hHeld
    have hHeld := hHeld2
    clear hHeld2
    try simp only [Act.put, List.setIfInBounds_toArray, List.set_cons_zero, List.set_cons_succ]
    refine wpAnyH_take (i := 8) (oi := { dst := some 41, op := Go.Op.nilCheck (Go.Operand.tmp 33), type := 0, pos := "flash.go:74", after := #[{ on := 0, ground := Go.Ground.data }, { on := 0, ground := Go.Ground.phase }, { on := 1, ground := Go.Ground.phase }, { on := 2, ground := Go.Ground.phase }, { on := 3, ground := Go.Ground.phase }, { on := 4, ground := Go.Ground.phase }, { on := 5, ground := Go.Ground.phase }, { on := 6, ground := Go.Ground.phase }, { on := 7, ground := Go.Ground.phase }], guard := none }) (v := ?_) rfl (by kernel_rfl) (by kernel_rfl) (by kernel_rfl) (fun _ _ _ h => h) (Or.inl ⟨by rfl, ?_⟩) (by assumption) ?_
    rotate_left
    · intro W hSw
      try dsimp only at hSw
      go_simp
      all_goals (with_reducible rfl)
    try simp only [Act.put, List.setIfInBounds_toArray, List.set_cons_zero, List.set_cons_succ]
    refine wpAnyH_take (i := 9) (oi := { dst := some 42, op := Go.Op.fieldAddr 42 (Go.Operand.tmp 41) 2, type := 0, pos := "flash.go:74", after := #[{ on := 8, ground := Go.Ground.data }, { on := 0, ground := Go.Ground.phase }, { on := 1, ground := Go.Ground.phase }, { on := 2, ground := Go.Ground.phase }, { on := 3, ground := Go.Ground.phase }, { on := 4, ground := Go.Ground.phase }, { on := 5, ground := Go.Ground.phase }, { on := 6, ground := Go.Ground.phase }, { on := 7, ground := Go.Ground.phase }], guard := none }) (v := ?_) rfl (by kernel_rfl) (by kernel_rfl) (by kernel_rfl) (fun _ _ _ h => h) (Or.inl ⟨by rfl, ?_⟩) (by assumption) ?_
    rotate_left
    · intro W hSw
      try dsimp only at hSw
      go_simp
      all_goals (with_reducible rfl)
    try simp only [Act.put, List.setIfInBounds_toArray, List.set_cons_zero, List.set_cons_succ]
    have c3 : w3.cell? ⟨m.d, 2, none⟩ = some m.u := (HMID.out w3 HG.out).2.1.cell 2
    have z3 : w3.frozen? ⟨m.d, 2, none⟩ = false := (HMID.out w3 HG.out).2.1.frozen 2
    refine wpAnyH_ready (rs := [10]) (by kernel_rfl) (by simp) ?_
    refine AllReadyH.cons (o := { dst := none, op := Go.Op.store 40 (Go.Operand.tmp 42) (Go.Operand.tmp 40), type := 0, pos := "flash.go:74", after := #[{ on := 9, ground := Go.Ground.data }, { on := 7, ground := Go.Ground.data }, { on := 7, ground := Go.Ground.chain }, { on := 0, ground := Go.Ground.phase }, { on := 1, ground := Go.Ground.phase }, { on := 2, ground := Go.Ground.phase }, { on := 3, ground := Go.Ground.phase }, { on := 4, ground := Go.Ground.phase }, { on := 5, ground := Go.Ground.phase }, { on := 6, ground := Go.Ground.phase }, { on := 7, ground := Go.Ground.phase }], guard := none }) rfl (fun K hK => ?_) AllReadyH.nil
    go_simp
    refine hK.out _ _ (by exact World.rangeAt_setCells_apart hHeld m.d 2 [.slice Av (y.uns.length + 1) cv] (.inl HNE.out)) (fun hHeld2 => ?_)
    clear hK K hHeld
    have hHeld := hHeld2
    clear hHeld2
    skip
    refine wpAnyH_done (by kernel_rfl) ?_ _
    have h3 := write_store (u := ⟨i, padB b⟩) H1.out (by rw [← HLW.out]; exact (HMID.out w3 HG.out)) (by have := HW'.out; rw [HLW.out] at this; rw [cellsU_snoc]; exact this) HAT.out (by have := HB2.out.size; show w'.heap.size ≤ (V2.alloc (.cells Lw.toArray 70)).heap.size; rw [World.size_alloc]; omega)
    obtain ⟨V3, hV3⟩ : ∃ V3, V3 = w3.setCell ⟨m.d, 2, none⟩ (.slice Av (y.uns.length + 1) cv) := ⟨_, rfl⟩
    rw [← hV3] at h3
    simp only [← hV3]
    have H3 := Lib.hid h3
    have c0 : V3.cell? ⟨m.d, 0, none⟩ = some (.slice (some ⟨m.bn, 0, none⟩) y.sure.length m.cn) := h3.blk.cell 0
    have hi := HI.out
    clear h3 hV3 c3 z3 hHeld HG HMID HO2 c2 hr2
    go_wp2_with fail
    refine wp_region_still_tail 8 (by kernel_rfl) (by kernel_rfl) ?_
    simp only [List.take_succ_cons, List.take_zero, List.drop_succ_cons, List.drop_zero]
    repeat (first
      | (refine wpStill_load_mid rfl 68 (.tmp 48) rfl w'.heap.size 1 rfl (Sec.cells ⟨padB b, false⟩) _ (fun j v h => H3.out.rng j v h) Tryd.underlying68 rfl (by rw [Sec.length_cells (s := ⟨padB b, false⟩) (length_padB HB.out)]; exact sec_size) ?_)
      | still_step)
    refine wpStill_nil ?_
    refine wpList_store_own rfl 68 (.tmp 50) (.tmp 49) rfl m.bn (i * 513) _ rfl rfl base 68 513 y.sure.length m.cn (cellsS y.now) (own_keep H3.out.now fun _ _ => rfl) ?d1 ?d2 (Sec.one _) ?_
    case d1 => rw [H1.out.ok.now.length, Dv.length_now, Sec.length_cells (s := ⟨padB b, false⟩) (length_padB HB.out)]; have := HI.out; omega
    case d2 => rw [Sec.length_cells (s := ⟨padB b, false⟩) (length_padB HB.out)]; exact sec_size
    intro V4 hV4 hG4 hS4
    have H4 := Lib.hid (write_fin (u := ⟨i, padB b⟩) H1.out H3.out HI.out (length_padB HB.out) hV4 ⟨hG4.os, hG4.tape, hG4.output, hG4.size, hG4.block⟩)
    clear hV4 hG4 hS4
    go_wp2
    go_ret
    exact ⟨rfl, H4.out⟩


end Go.Proofs.YthjcpficpiddaaaDoor
