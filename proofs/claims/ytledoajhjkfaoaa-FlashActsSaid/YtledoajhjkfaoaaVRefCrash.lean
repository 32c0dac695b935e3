/-
  The contract of the document's Crash.
-/
import Derived.Test.YtledoajhjkfaoaaVRefSync
namespace Go.Proofs.Ytledoajhjkfaoaa
open Go.RowKit

theorem wrt_zero : (Try.prog.info? 48).map (·.zero) = some (some (.agg ([.int .i64 0, .slice none 0 0] : List Value).toArray)) := by kernel_rfl
theorem wrt_size : (Try.prog.info? 48).map (·.size) = some 2 := by kernel_rfl
theorem built_rsec2 (A : Option Addr) (n c : Nat) : Try.prog.built 65 [(0, .slice A n c), (1, .bool true)] = some #[.slice A n c, .bool true] := by kernel_rfl
/-- Many cells are stored in a row of the call's own, as one step of a region that draws. -/
theorem step_store_own {P : Program} {w : World} {ops : Array Oper} {op : Oper} {a : Act} {K : Act → World → Prop} {Q : Exit → Act → World → Prop} {E : Prop} (hgd : op.guard = none) (ty : TypeId) (x y : Operand) (ho : op.op = .store ty x y)
    (b o : Nat) (cells : List Value) (hx : a.eval x = .pointer (some ⟨b, o, none⟩)) (hy : a.eval y = .agg cells.toArray) (base : Nat) (e : TypeId) (size n c : Nat) (L : List Value) (hw : w.ownsRow base e size (.slice (some ⟨b, 0, none⟩) n c) n L) (hfit : o + cells.length ≤ L.length)
    (hi : (P.info? ty).map (·.size) = some cells.length) (h1 : ∀ v ∈ cells, v.oneCell' = true)
    (h : ∀ V, V.ownsRow base e size (.slice (some ⟨b, 0, none⟩) n c) n (splice L o cells) → Grew (fun j => j = b) w V → V.heap.size = w.heap.size → K (a.put op.dst undef) V) : if Region.wanted op (yielded ops a.tmps) = true then Oper.wp P op a w K Q else E := by
  rw [if_pos (by simp [Region.wanted, hgd])]
  exact wp_store_mid ty x y ho b o cells.toArray hx hy (by simpa using own_there hw hfit) (by simpa using hi) (all_oneCell_toArray h1) (h _ (own_setCells cells o hw hfit) (grew_setCells cells o (Grew.refl _ _) (.inl rfl)) (size_setCells _ _ _))
theorem Whole.owns {w : World} {base g n : Nat} {t : TypeId} {L : List Value} (h : Whole w g t L) (hb : base ≤ g) (hl : L.length = n) (hn : n ≤ maxLen) : w.ownsRow base t 1 (.slice (some ⟨g, 0, none⟩) n n) n L :=
  ⟨by omega, .inr ⟨g, n, L.toArray, rfl, hb, h, Nat.le_refl _, hn, by simpa using hl, by rw [Nat.mul_one, ← hl]; exact List.take_length⟩⟩
theorem bit_shr (a k : Nat) : (((a : Int) / 2 ^ (k % 64)).tmod 2 == 1) = bitAt a k := by
  rw [shr_fact a (k % 64) (Nat.mod_lt _ (by decide))]
  unfold bitAt
  rw [Nat.mod_mod]
theorem wcells_get {us : List Wri} {vs : List Value} (h : us.length = vs.length) {k : Nat} (hk : k < us.length) {v : Value} (hv : vs[k]'(by omega) = v) : ∀ j u, ([.int .i64 ((us[k]).place : Int), v] : List Value)[j]? = some u → (wcells us vs)[k * 2 + j]? = some u := by
  obtain ⟨h1, h2⟩ := wcells_at h hk
  rintro (_ | _ | j) u hu
  · simp at hu; subst hu; exact h1
  · simp at hu; subst hu; rw [← hv]; exact h2
  · simp at hu

set_option maxRecDepth 4000 in
set_option maxHeartbeats 1000000 in
theorem ref_crash (w : World) (base : Nat) (m : RLies) (x : Dv) (h : RefAt w base m x) (hn : 0 < x.sure.length) (mk t : Nat) (_ : mk < 18446744073709551616) (_ : t < 18446744073709551616) (hu : x.uns.length < 4294967296) :
    Calls Try.prog 16 #[.pointer (some ⟨m.r, 0, none⟩), .int .u64 mk, .int .u64 t] w (fun e w' => e = .returned (.tuple #[]) ∧ RWent base w m (x.crash mk t) w') := by
  obtain ⟨r, s, u⟩ := m
  obtain ⟨vs, huns⟩ := h.uns
  obtain ⟨P0, hP0, hrow0, heach0⟩ := h.sure
  obtain ⟨Au, cu, rfl, _, _⟩ := own_form huns.row
  have hPl0 : P0.length = x.sure.length := by rw [← hP0, List.length_map]
  rw [hPl0] at hrow0
  obtain ⟨As, cs, rfl, _, _⟩ := own_form hrow0
  obtain ⟨gs, rfl⟩ := own_some hrow0 (by omega)
  have hs1 : RSet w base r gs x.sure.length cs (.slice Au x.uns.length cu) x.uns vs x.limit x.down x.sure w := ⟨h.blk, h.sure, huns, Grew.refl _ _, h.lr⟩
  have HS1 := Lib.hid hs1
  have H := Lib.hid h
  have hfew := h.ok.few
  have c1 : w.cell? ⟨r, 1, none⟩ = some (.slice Au x.uns.length cu) := h.blk.cell 1
  clear hs1 h hrow0 huns hP0 heach0 hPl0
  go_enter Try.func16, Try.ntmps16
  go_wp2
  go_loopw [6] (RRel w base r gs x.sure.length cs (.slice Au x.uns.length cu) x vs mk t) (fun i _ => x.uns.length - (intOf i).toNat)
  case atStart => exact ⟨0, Nat.zero_le _, rfl, HS1.out⟩
  case round =>
    obtain ⟨k, hk, rfl, hs⟩ := hrel
    have HS := Lib.hid hs
    have c1 : wr.cell? ⟨r, 1, none⟩ = some (.slice Au x.uns.length cu) := hs.blk.cell 1
    have z1 : wr.frozen? ⟨r, 1, none⟩ = false := hs.blk.frozen 1
    by_cases hlt : k < x.uns.length
    · obtain ⟨gu, rfl⟩ := own_some hs.uns.row (by omega)
      have hjv : k < vs.length := by have := hs.uns.len; omega
      have hv := hs.uns.each k hlt hjv
      have huw : x.uns[k].place < x.sure.length ∧ x.uns[k].data.length = 512 := H.out.ok.u _ (List.getElem_mem hlt)
      have hstep := crashN_succ (m := mk) (t := t) (us := x.uns) (l := x.sure) hlt
      have hget := fun (v : Value) => wcells_get (v := v) hs.uns.len hlt
      obtain ⟨uk, huk⟩ : ∃ uk, uk = x.uns[k] := ⟨_, rfl⟩
      rw [← huk] at hv huw hstep
      simp only [← huk] at hget
      obtain ⟨vk, hvk⟩ : ∃ vk, vk = vs[k] := ⟨_, rfl⟩
      rw [← hvk] at hv
      obtain ⟨Ak, ck, rfl, _, _⟩ := own_form hv
      have hget2 := hget _ hvk.symm
      obtain ⟨P, hP, hrow, heach⟩ := hs.sure
      have hPl : P.length = x.sure.length := by rw [← length_crashN (m := mk) (t := t) (us := x.uns) (l := x.sure) k, ← hP, List.length_map]
      rw [hPl] at hrow
      have hp := huw.1
      have hloc : ∀ V : World, Whole V wr.heap.size 48 [.int .i64 uk.place, .slice Ak 512 ck] → V.cell? ⟨wr.heap.size, 0, none⟩ = some (.int .i64 uk.place) ∧ V.cell? ⟨wr.heap.size, 1, none⟩ = some (.slice Ak 512 ck) := fun V h => ⟨h.cell 0, h.cell 1⟩
      have HUW := Lib.hid huw
      have HV := Lib.hid hv
      have HST := Lib.hid hstep
      have HP := Lib.hid hP
      have HROW := Lib.hid hrow
      have HE := Lib.hid heach
      have HPL := Lib.hid hPl
      have HGET := Lib.hid hget2
      have HLOC := Lib.hid hloc
      have hbt := bit_shr t k
      have hbm := bit_shr mk k
      clear hv huw hstep huk hvk hP hrow heach hPl hs hget hget2 hloc
      cases htb : bitAt t k with
      | true =>
        rw [htb] at hbt
        have HB := Lib.hid htb
        clear htb hbm
        go_wp2_with (first
          | (refine wpList_load_own rfl 48 (.tmp 23) rfl gu (k * 2) rfl [.int .i64 uk.place, .slice Ak 512 ck] _ Try.underlying48 rfl wrt_size base 48 2 _ cu (wcells x.uns vs) HS.out.uns.row HGET.out ?_)
          | (refine wpList_alloc_zero rfl 48 rfl _ wrt_zero ?_)
          | (refine wpList_store_at rfl 48 (.tmp 7) (.tmp 24) rfl wr.heap.size 0 [.int .i64 uk.place, .slice Ak 512 ck] rfl rfl _ _ (Whole.made _ _ _) (Nat.le_refl _) wrt_size (wrt_one _ _ _ _) ?_
             intro V hWV hGV hVS
             rw [splice_full (by rfl)] at hWV
             have HWV := Lib.hid hWV
             have hbv : Below wr.heap.size wr V := (Grew.below (B := wr.heap.size) hGV (fun j hj => by rw [hj]; exact Nat.le_refl _) (by simp)).of_alloc
             have HSV := Lib.hid (HS.out.keep hbv)
             have HBV := Lib.hid hbv
             clear hWV hGV hVS hbv))
        obtain ⟨hl0, hl1⟩ := HLOC.out V HWV.out
        have c0 : V.cell? ⟨r, 0, none⟩ = some (.slice (some ⟨gs, 0, none⟩) x.sure.length cs) := HSV.out.blk.cell 0
        refine wp_region_held_drew (S := fun W => W.cell? ⟨r, 0, none⟩ = some (.slice (some ⟨gs, 0, none⟩) x.sure.length cs) ∧ W.cell? ⟨wr.heap.size, 0, none⟩ = some (.int .i64 uk.place)) (by kernel_rfl) (by exact ⟨c0, hl0⟩) (fun hHeld => ?_)
        refine wpAnyH_take (i := 0) (oi := { dst := some 33, op := Go.Op.move (Go.Operand.tmp 0), type := 28, pos := "ref.go:106", after := #[], guard := none }) (v := ?_) rfl (by kernel_rfl) (by kernel_rfl) (by kernel_rfl) (fun _ _ _ h => h) (Or.inl ⟨by rfl, ?_⟩) (by assumption) ?_
        rotate_left
        · intro W hSw
          try dsimp only at hSw
          obtain ⟨hSa, hSb⟩ := hSw
          go_simp
          all_goals (with_reducible rfl)
        try simp only [Act.put, List.setIfInBounds_toArray, List.set_cons_zero, List.set_cons_succ]
        refine wpAnyH_take (i := 1) (oi := { dst := some 34, op := Go.Op.nilCheck (Go.Operand.tmp 33), type := 0, pos := "ref.go:106", after := #[{ on := 0, ground := Go.Ground.data }], guard := none }) (v := ?_) rfl (by kernel_rfl) (by kernel_rfl) (by kernel_rfl) (fun _ _ _ h => h) (Or.inl ⟨by rfl, ?_⟩) (by assumption) ?_
        rotate_left
        · intro W hSw
          try dsimp only at hSw
          obtain ⟨hSa, hSb⟩ := hSw
          go_simp
          all_goals (with_reducible rfl)
        try simp only [Act.put, List.setIfInBounds_toArray, List.set_cons_zero, List.set_cons_succ]
        refine wpAnyH_take (i := 2) (oi := { dst := some 35, op := Go.Op.fieldAddr 40 (Go.Operand.tmp 34) 0, type := 0, pos := "ref.go:106", after := #[{ on := 1, ground := Go.Ground.data }], guard := none }) (v := ?_) rfl (by kernel_rfl) (by kernel_rfl) (by kernel_rfl) (fun _ _ _ h => h) (Or.inl ⟨by rfl, ?_⟩) (by assumption) ?_
        rotate_left
        · intro W hSw
          try dsimp only at hSw
          obtain ⟨hSa, hSb⟩ := hSw
          go_simp
          all_goals (with_reducible rfl)
        try simp only [Act.put, List.setIfInBounds_toArray, List.set_cons_zero, List.set_cons_succ]
        refine wpAnyH_take (i := 3) (oi := { dst := some 36, op := Go.Op.load 37 (Go.Operand.tmp 35), type := 37, pos := "ref.go:106", after := #[{ on := 2, ground := Go.Ground.data }], guard := none }) (v := ?_) rfl (by kernel_rfl) (by kernel_rfl) (by kernel_rfl) (fun _ _ _ h => h) (Or.inl ⟨by rfl, ?_⟩) (by assumption) ?_
        rotate_left
        · intro W hSw
          try dsimp only at hSw
          obtain ⟨hSa, hSb⟩ := hSw
          go_simp
          all_goals (with_reducible rfl)
        try simp only [Act.put, List.setIfInBounds_toArray, List.set_cons_zero, List.set_cons_succ]
        refine wpAnyH_take (i := 4) (oi := { dst := some 37, op := Go.Op.fieldAddr 48 (Go.Operand.tmp 7) 0, type := 0, pos := "ref.go:106", after := #[], guard := none }) (v := ?_) rfl (by kernel_rfl) (by kernel_rfl) (by kernel_rfl) (fun _ _ _ h => h) (Or.inl ⟨by rfl, ?_⟩) (by assumption) ?_
        rotate_left
        · intro W hSw
          try dsimp only at hSw
          obtain ⟨hSa, hSb⟩ := hSw
          go_simp
          all_goals (with_reducible rfl)
        try simp only [Act.put, List.setIfInBounds_toArray, List.set_cons_zero, List.set_cons_succ]
        refine wpAnyH_take (i := 5) (oi := { dst := some 38, op := Go.Op.load 3 (Go.Operand.tmp 37), type := 3, pos := "ref.go:106", after := #[{ on := 4, ground := Go.Ground.data }], guard := none }) (v := ?_) rfl (by kernel_rfl) (by kernel_rfl) (by kernel_rfl) (fun _ _ _ h => h) (Or.inl ⟨by rfl, ?_⟩) (by assumption) ?_
        rotate_left
        · intro W hSw
          try dsimp only at hSw
          obtain ⟨hSa, hSb⟩ := hSw
          go_simp
          all_goals (with_reducible rfl)
        try simp only [Act.put, List.setIfInBounds_toArray, List.set_cons_zero, List.set_cons_succ]
        have HZ := Lib.hid (zero_any V.drew)
        refine wpAnyH_ready (rs := [6]) (by kernel_rfl) (by simp) ?_
        refine AllReadyH.cons (o := { dst := some 39, op := Go.Op.call { callee := Go.Callee.value (Go.Operand.func 24), args := #[], argTypes := #[] }, type := 30, pos := "ref.go:106", after := #[], guard := none }) rfl (fun K hK => ?_) AllReadyH.nil
        go_simp
        refine HZ.out.mono ?_
        rintro e w1 ⟨rfl, hz1, hb1⟩
        have hh1 : w1.cell? ⟨r, 0, none⟩ = some (.slice (some ⟨gs, 0, none⟩) x.sure.length cs) ∧ w1.cell? ⟨wr.heap.size, 0, none⟩ = some (.int .i64 uk.place) := ⟨(hb1.cell (p := ⟨r, 0, none⟩) HSV.out.blk.lt).trans c0, (hb1.cell (p := ⟨wr.heap.size, 0, none⟩) HWV.out.lt).trans hl0⟩
        have HS1 := Lib.hid (HSV.out.keep (V := w1) ⟨hb1.os, hb1.tape, hb1.output, hb1.size, hb1.block⟩)
        have HZ1 := Lib.hid (show Whole w1 V.heap.size 5 (zero512.map bc) from hz1)
        clear hz1 hb1
        go_wp2_with fail
        refine hK.out _ _ (by exact hh1) (fun hHeld2 => ?_)
        clear hK K hHeld
        have hHeld := hHeld2
        clear hHeld2
        try simp only [Act.put, List.setIfInBounds_toArray, List.set_cons_zero, List.set_cons_succ]
        clear hh1
        refine wpAnyH_take (i := 7) (oi := { dst := some 40, op := Go.Op.build 65 #[(0, Go.Operand.tmp 39), (1, Go.Operand.const (Go.Value.bool true))], type := 65, pos := "ref.go:106", after := #[{ on := 6, ground := Go.Ground.data }], guard := none }) (v := .agg #[.slice (some ⟨V.heap.size, 0, none⟩) 512 512, .bool true]) rfl (by kernel_rfl) (by kernel_rfl) (by kernel_rfl) (fun _ _ _ h => h) (yieldsIf_build2 (by rfl) 65 0 1 (.tmp 39) (.const (.bool true)) rfl _ _ rfl rfl _ (built_rsec2 _ _ _)) (by assumption) ?_
        try simp only [Act.put, List.setIfInBounds_toArray, List.set_cons_zero, List.set_cons_succ]
        refine wpAnyH_take (i := 8) (oi := { dst := some 41, op := Go.Op.indexAddr 37 (Go.Operand.tmp 36) (Go.Operand.tmp 38), type := 0, pos := "ref.go:106", after := #[{ on := 3, ground := Go.Ground.data }, { on := 5, ground := Go.Ground.data }, { on := 0, ground := Go.Ground.phase }, { on := 1, ground := Go.Ground.phase }, { on := 2, ground := Go.Ground.phase }, { on := 3, ground := Go.Ground.phase }, { on := 4, ground := Go.Ground.phase }, { on := 5, ground := Go.Ground.phase }, { on := 6, ground := Go.Ground.phase }, { on := 7, ground := Go.Ground.phase }], guard := none }) (v := ?_) rfl (by kernel_rfl) (by kernel_rfl) (by kernel_rfl) (fun _ _ _ h => h) (Or.inl ⟨by rfl, ?_⟩) (by assumption) ?_
        rotate_left
        · intro W hSw
          try dsimp only at hSw
          go_simp
          all_goals (with_reducible rfl)
        try simp only [Act.put, List.setIfInBounds_toArray, List.set_cons_zero, List.set_cons_succ]
        obtain ⟨P2, hP2, hrow2, heach2⟩ := HS1.out.sure
        have hPl2 : P2.length = x.sure.length := by rw [← length_crashN (m := mk) (t := t) (us := x.uns) (l := x.sure) k, ← hP2, List.length_map]
        rw [hPl2] at hrow2
        refine wpAnyH_ready (rs := [9]) (by kernel_rfl) (by simp) ?_
        refine AllReadyH.cons (o := { dst := none, op := Go.Op.store 65 (Go.Operand.tmp 41) (Go.Operand.tmp 40), type := 0, pos := "ref.go:106", after := #[{ on := 8, ground := Go.Ground.data }, { on := 7, ground := Go.Ground.data }, { on := 6, ground := Go.Ground.chain }, { on := 0, ground := Go.Ground.phase }, { on := 1, ground := Go.Ground.phase }, { on := 2, ground := Go.Ground.phase }, { on := 3, ground := Go.Ground.phase }, { on := 4, ground := Go.Ground.phase }, { on := 5, ground := Go.Ground.phase }, { on := 6, ground := Go.Ground.phase }, { on := 7, ground := Go.Ground.phase }], guard := none }) rfl (fun K hK => ?_) AllReadyH.nil
        refine step_store_own rfl 65 (.tmp 41) (.tmp 40) rfl gs (uk.place * 2) [.slice (some ⟨V.heap.size, 0, none⟩) 512 512, .bool true] rfl rfl base 65 2 x.sure.length cs (scells P2) hrow2 ?d1 rsec_size (rsec_one _ _ _ _) ?_
        case d1 => rw [length_scells, hPl2]; show uk.place * 2 + 2 ≤ _; omega
        intro V4 hV4 hG4 hS4
        have hzo : w1.ownsRow base 5 1 (.slice (some ⟨V.heap.size, 0, none⟩) 512 512) 512 (secTorn.data.map bc) := HZ1.out.owns (by have h5 := HSV.out.blk.lt; have h6 := HSV.out.lr; omega) (by decide) (by decide)
        have hn1 : r ≠ gs := fun e => own_not_whole hrow2 HS1.out.blk (by decide) (by rw [e]; rfl)
        have hn2 : wr.heap.size ≠ gs := by have h5 := (HROW.out.lt gs rfl).2; omega
        have HSV4 := Lib.hid (HS1.out.put hP2 hrow2 heach2 hPl2 (s := secTorn) hp hzo hV4 hG4)
        have hh4 : V4.cell? ⟨r, 0, none⟩ = some (.slice (some ⟨gs, 0, none⟩) x.sure.length cs) ∧ V4.cell? ⟨wr.heap.size, 0, none⟩ = some (.int .i64 uk.place) := ⟨(World.cell?_of_block (hG4.block _ (block_lt_of_cell hHeld.1) hn1)).trans hHeld.1, (World.cell?_of_block (hG4.block _ (block_lt_of_cell hHeld.2) hn2)).trans hHeld.2⟩
        clear hV4 hG4 hS4
        refine hK.out _ _ (by exact hh4) (fun hHeld2 => ?_)
        clear hK K hHeld
        have hHeld := hHeld2
        clear hHeld2
        try simp only [Act.put]
        refine wpAnyH_done (by kernel_rfl) ?_ _
        clear hHeld hh4 hl0 hl1 c0 c1 hP2 hrow2 heach2 hPl2 hzo hn1 hn2
        go_wp2
        refine ⟨⟨k + 1, by omega, by go_num, ?_⟩, by simp [intOf]; omega⟩
        rw [HST.out]
        unfold stepC
        rw [if_pos HB.out]
        exact HSV4.out
      | false =>
        rw [htb] at hbt
        have HB := Lib.hid htb
        clear htb
        cases hmb : bitAt mk k with
        | true =>
          rw [hmb] at hbm
          have HM := Lib.hid hmb
          clear hmb
          go_wp2_with (first
            | (refine wpList_load_own rfl 48 (.tmp 23) rfl gu (k * 2) rfl [.int .i64 uk.place, .slice Ak 512 ck] _ Try.underlying48 rfl wrt_size base 48 2 _ cu (wcells x.uns vs) HS.out.uns.row HGET.out ?_)
            | (refine wpList_alloc_zero rfl 48 rfl _ wrt_zero ?_)
            | (refine wpList_store_at rfl 48 (.tmp 7) (.tmp 24) rfl wr.heap.size 0 [.int .i64 uk.place, .slice Ak 512 ck] rfl rfl _ _ (Whole.made _ _ _) (Nat.le_refl _) wrt_size (wrt_one _ _ _ _) ?_
               intro V hWV hGV hVS
               rw [splice_full (by rfl)] at hWV
               have HWV := Lib.hid hWV
               have hbv : Below wr.heap.size wr V := (Grew.below (B := wr.heap.size) hGV (fun j hj => by rw [hj]; exact Nat.le_refl _) (by simp)).of_alloc
               have HSV := Lib.hid (HS.out.keep hbv)
               have HBV := Lib.hid hbv
               clear hWV hGV hVS hbv))
          obtain ⟨hl0, hl1⟩ := HLOC.out V HWV.out
          have c0 : V.cell? ⟨r, 0, none⟩ = some (.slice (some ⟨gs, 0, none⟩) x.sure.length cs) := HSV.out.blk.cell 0
          refine wp_region_still_tail 10 (by kernel_rfl) (by kernel_rfl) ?_
          simp only [List.take_succ_cons, List.take_zero, List.drop_succ_cons, List.drop_zero]
          repeat (first
            | (refine wpStill_build1 rfl 65 0 (.tmp 54) rfl _ rfl _ (built_rsec Ak 512 ck) ?_)
            | still_step)
          refine wpStill_nil ?_
          obtain ⟨P2, hP2, hrow2, heach2⟩ := HSV.out.sure
          have hPl2 : P2.length = x.sure.length := by rw [← length_crashN (m := mk) (t := t) (us := x.uns) (l := x.sure) k, ← hP2, List.length_map]
          rw [hPl2] at hrow2
          refine wpList_store_own rfl 65 (.tmp 56) (.tmp 55) rfl gs (uk.place * 2) [.slice Ak 512 ck, .bool false] rfl rfl base 65 2 x.sure.length cs (scells P2) (own_keep hrow2 fun _ _ => rfl) ?d1 rsec_size (rsec_one _ _ _ _) ?_
          case d1 => rw [length_scells, hPl2]; show uk.place * 2 + 2 ≤ _; omega
          intro V4 hV4 hG4 hS4
          have hvk : V.ownsRow base 5 1 (.slice Ak 512 ck) 512 (uk.sec.data.map bc) := own_keep HV.out fun g e => HBV.out.block g (HV.out.lt g e).2
          have HSV4 := Lib.hid (HSV.out.put hP2 hrow2 heach2 hPl2 (s := uk.sec) hp hvk hV4 (grew_rec hG4))
          clear hV4 hG4 hS4 hl0 hl1 c0 c1 hP2 hrow2 heach2 hPl2 hvk
          go_wp2
          refine ⟨⟨k + 1, by omega, by go_num, ?_⟩, by simp [intOf]; omega⟩
          rw [HST.out]
          unfold stepC
          rw [if_neg (by rw [HB.out]; decide), if_pos HM.out]
          exact HSV4.out
        | false =>
          rw [hmb] at hbm
          have HM := Lib.hid hmb
          clear hmb
          go_wp2_with (first
            | (refine wpList_load_own rfl 48 (.tmp 23) rfl gu (k * 2) rfl [.int .i64 uk.place, .slice Ak 512 ck] _ Try.underlying48 rfl wrt_size base 48 2 _ cu (wcells x.uns vs) HS.out.uns.row HGET.out ?_)
            | (refine wpList_alloc_zero rfl 48 rfl _ wrt_zero ?_)
            | (refine wpList_store_at rfl 48 (.tmp 7) (.tmp 24) rfl wr.heap.size 0 [.int .i64 uk.place, .slice Ak 512 ck] rfl rfl _ _ (Whole.made _ _ _) (Nat.le_refl _) wrt_size (wrt_one _ _ _ _) ?_
               intro V hWV hGV hVS
               rw [splice_full (by rfl)] at hWV
               have HWV := Lib.hid hWV
               have hbv : Below wr.heap.size wr V := (Grew.below (B := wr.heap.size) hGV (fun j hj => by rw [hj]; exact Nat.le_refl _) (by simp)).of_alloc
               have HSV := Lib.hid (HS.out.keep hbv)
               have HBV := Lib.hid hbv
               clear hWV hGV hVS hbv))
          refine ⟨⟨k + 1, by omega, by go_num, ?_⟩, by simp [intOf]; omega⟩
          rw [HST.out]
          unfold stepC
          rw [if_neg (by rw [HB.out]; decide), if_neg (by rw [HM.out]; decide)]
          exact HSV.out
    · obtain rfl : k = x.uns.length := by omega
      have z2 : wr.frozen? ⟨r, 2, none⟩ = false := hs.blk.frozen 2
      have z3 : wr.frozen? ⟨r, 3, none⟩ = false := hs.blk.frozen 3
      have c2 : wr.cell? ⟨r, 2, none⟩ = some (.int .i64 x.limit) := hs.blk.cell 2
      have c3 : wr.cell? ⟨r, 3, none⟩ = some (.bool x.down) := hs.blk.cell 3
      clear hs
      go_wp2
      obtain ⟨m1, e1, h1, hg1⟩ := HS.out.fin (y := x.settled mk t) (H.out.ok.settled mk t) rfl rfl rfl rfl
      refine Great.bodyPost_end0 rfl rfl ⟨rfl, m1, e1, ?_, ?_⟩
      · have h2 := h1.cells (y := x.crash mk t) rfl rfl (Nat.zero_le _) (grew_two _ m1.r 2 3 (.int .i64 0) (.bool false)) ((h1.blk.set_ 2 _).set_ 3 _)
        rw [show m1.r = r from e1] at h2
        exact h2
      · refine hg1.trans (grew_two _ r 2 3 (.int .i64 0) (.bool false)) fun j hj => .inl (.inl hj)

end Go.Proofs.Ytledoajhjkfaoaa
