/-
  What the rows of layer 13 have in common (for the packs).
-/
import Derived.Test.YthppgofpbpjglaaGreatFbP12
import Derived.Deep.CutRange
import Derived.Test.YthppgofpbpjglaaGreatFbP7
import Derived.Test.YthppgofpbpjglaaGreatFbP10
import Derived.Test.YthppgofpbpjglaaGreatFbP9
namespace Go.Proofs.YthppgofpbpjglaaGreat
open Go.RowKit

theorem wp_store_whole {P : Program} {w : World} {op : Oper} {a : Act} {K : Act → World → Prop} {Q : Exit → Act → World → Prop} (ty : TypeId) (x y : Operand) (ho : op.op = .store ty x y)
    (b : Nat) (cells : List Value) (hx : a.eval x = .pointer (some ⟨b, 0, none⟩)) (hy : a.eval y = .agg cells.toArray) (t : TypeId) (L : List Value) (hw : Whole w b t L) (hl : L.length = cells.length)
    (hi : (P.info? ty).map (·.size) = some cells.length) (h1 : ∀ v ∈ cells, v.oneCell' = true)
    (h : ∀ V, Whole V b t cells → Grew (fun j => j = b) w V → V.heap.size = w.heap.size → K (a.put op.dst undef) V) : Oper.wp P op a w K Q :=
  wp_store_mid ty x y ho b 0 cells.toArray hx hy (by simpa using hw.there (o := 0) (n := cells.length) (by omega)) (by simpa using hi) (all_oneCell_toArray h1)
    (h _ (by
      have h2 := hw.setCells cells 0 (by omega)
      have e : splice L 0 cells = cells := by
        unfold splice
        rw [List.take_zero, List.nil_append, Nat.zero_add, List.drop_eq_nil_of_le (by omega), List.append_nil]
      rwa [e] at h2) (grew_setCells cells 0 (Grew.refl _ _) (.inl rfl)) (size_setCells _ _ _))
theorem fact_sizeT : (Tryz.prog.info? 40).map (·.size) = some 13 := by kernel_rfl
theorem underN_trans {n z y : List (List UInt8)} (h1 : underN n z = true) (h2 : underN z y = true) : underN n y = true := by
  unfold underN at h1 h2 ⊢
  simp only [Bool.and_eq_true, decide_eq_true_eq] at h1 h2 ⊢
  refine ⟨by omega, ?_⟩
  have e1 := h1.2
  have e2 := h2.2
  unfold eqN lowN at e1 e2 ⊢
  simp only [decide_eq_true_eq] at e1 e2 ⊢
  have e3 := congrArg (List.drop (z.length - y.length)) e1
  rw [← List.map_drop, List.drop_drop, ← List.map_drop, e2] at e3
  rw [← e3]
  congr 2
  omega
theorem setF_one {r : Rt} {n : List (List UInt8)} {k : Int} (h : selR n k r = true) : setF [r] n k = ([r.data], r.ttl) := by
  unfold setF
  rw [List.filter_cons_of_pos h, List.filter_nil, List.foldl_cons, List.foldl_nil]
  unfold stepS hasD
  simp
theorem eqN_same (n : List (List UInt8)) : eqN n n = true := by unfold eqN; simp
theorem KeptT.of_setF {w w' : World} {b : Nat} {L : List Value} (hw : Whole w b 40 L) (hg : Grew (fun j => j = b) w w') : KeptT w w' := fun g o ho ht => by
  refine hg.block g (lt_of_some ho) fun e => ?_
  subst e
  unfold Whole at hw
  rw [hw] at ho
  exact ht _ _ _ (Option.some.inj ho).symm (.inl rfl)

/-- nothing's boxes. -/
structure NoB (w : World) (A : Option Addr) (c : Nat) (n : List (List UInt8)) (g : Nat) (L : List Value) (zA : Option Addr) (zc : Nat) (zn : List (List UInt8)) (yd : DV) (d : Dt) (W : World) : Prop where
  nb : Whole W w.heap.size 22 [.slice A n.length c]
  fb : Whole W g 40 L
  z : W.ownsRow w.heap.size 9 1 (.slice zA zn.length zc) zn.length (zn.map sv)
  d : OwnD W w.heap.size yd d
  below : Below w.heap.size w W
  gg : w.heap.size ≤ g
section
variable {w W V : World} {A : Option Addr} {c : Nat} {n : List (List UInt8)} {g : Nat} {L L' : List Value} {zA : Option Addr} {zc : Nat} {zn : List (List UInt8)} {yd : DV} {d : Dt}
theorem NoB.step (h : NoB w A c n g L zA zc zn yd d W) (hb : Below W.heap.size W V) : NoB w A c n g L zA zc zn yd d V :=
  ⟨h.nb.below hb h.nb.lt, h.fb.below hb h.fb.lt, own_keep h.z fun j e => hb.block j (h.z.lt j e).2, h.d.keepB fun j _ hj => hb.block j hj, h.below.trans (hb.mono h.below.size), h.gg⟩
theorem NoB.put (h : NoB w A c n g L zA zc zn yd d W) (hV : Whole V g 40 L') (hG : Grew (fun j => j = g) W V) : NoB w A c n g L' zA zc zn yd d V :=
  have k := KeptT.of_setF h.fb hG
  ⟨k.whole h.nb strs_notT, hV, k.own h.z str_notT, h.d.keptT k, h.below.trans (hG.below (fun j e => by rw [e]; exact h.gg) h.below.size), h.gg⟩
end

/-- A fact that tells of nothing, by a record. -/
theorem told_no {T : Te} {r : Rt} (hr : r ∈ T.m.msg.all) (h1 : r.cls = 1) (h6 : r.kind = 6) (hu : underN r.name T.z = true) {n : List (List UInt8)} {typ knd rank ttl : Int} (hk : knd = 2 ∨ knd = 3) (hf : soundF ⟨n, ⟨typ, knd, rank, T.now, ttl⟩, [], r.name, r.data⟩ = true) :
    ToldF T.m.msg T.z T.now ⟨n, ⟨typ, knd, rank, T.now, ttl⟩, [], r.name, r.data⟩ := by
  have hun : underN n r.name = true := by
    obtain ⟨_, h2⟩ := soundF_parts hf
    rcases h2 with ⟨h2, _⟩ | ⟨_, h2⟩
    · have h3 : knd = 1 := h2
      omega
    · exact (noB_parts h2).2.2.2.2.2.1
  exact toldF_no hf (underN_trans hun hu) rfl (by show knd ≠ 1; omega) hr h1 h6 (eqN_same _) rfl hu
/-- What holds when the fact is made. -/
def NothRel (w : World) (A : Option Addr) (c : Nat) (n : List (List UInt8)) (r : Rt) (yd : DV) (t9 : Value) (wx : World) : Prop :=
  ∃ g zA zc, t9 = .pointer (some ⟨g, 0, none⟩) ∧ NoB w A c n g [.slice none 0 0, .int .i64 0, .int .i64 3, .int .i64 2, .int .i64 0, .int .i64 0, .slice none 0 0, .slice zA r.name.length zc, .slice yd.Ab r.data.bytes.length yd.cb, .slice yd.Ah r.data.host.length yd.ch, .slice yd.Am r.data.mail.length yd.cm, .slice yd.An r.data.nums.length yd.cn, .slice yd.At r.data.texts.length yd.ct] zA zc r.name yd r.data wx

set_option maxRecDepth 20000 in
set_option maxHeartbeats 16000000 in
theorem nothing_any (w0 w : World) (T : Te) (b : Nat) (an au ex : Sec) (v : Value) (xs : List FV) (h : TAt w0 T b an au ex v xs w) (ok : TeOk w0 T) (hs : SecOk w0 T au T.m.msg.au) (hl : xs.length ≤ 8000) (A : Option Addr) (c : Nat) (n : List (List UInt8)) (hn : Held w0 w A c n) (hns : soundN n = true) (hqk : (Lit.int .i64 T.q.kind).wf = true) :
    Calls Tryz.prog 18 #[.pointer (some ⟨b, 0, none⟩), .slice A n.length c] w (fun e w' => e = .returned (.tuple #[]) ∧ TellOut w0 T b an au ex xs 1 w w') := by
  have hsm := hs.small ok (fun r hr => au_all hr)
  have HN1 := Lib.hid ((Below.refl w.heap.size w).alloc (Nat.le_refl _) (.cells #[.slice A n.length c] 22))
  have HNB := Lib.hid (Whole.made w [.slice A n.length c] 22)
  have HT := Lib.hid (fun W (hb : Below w.heap.size w W) => h.step hb)
  have HIX := Lib.hid (show Calls Tryz.prog 46 #[.slice au.A au.ps.length au.c, .func (.func 47) #[] #[.pointer (some ⟨w.heap.size, 0, none⟩)]] (w.alloc (.cells #[.slice A n.length c] 22)) (FoundR (w.alloc (.cells #[.slice A n.length c] 22)) au.ps isSoa) from
    index_soa (w.alloc (.cells #[.slice A n.length c] 22)) w.heap.size au.A au.c au.ps (secRs hs (h.step HN1.out).au (h.step HN1.out).below) hs.n (fun W hb p hp => nothing1_any W w.heap.size A c n (HNB.out.below hb HNB.out.lt) ((((hn.step HN1.out).row (h.step HN1.out).below).below hb).mono hb.size) hn.cap (soundN_sz hns) p.1 p.2
      (((hs.r p hp).below ((h.step HN1.out).below.trans (hb.mono (h.step HN1.out).size))).mono (Nat.le_trans (h.step HN1.out).size hb.size)) (soundN_sz (hsm p hp).1.n)))
  have HSEC := Lib.hid (fun W (hb : Below w.heap.size w W) => secRs hs (h.step hb).au (h.step hb).below)
  have HSO := Lib.hid hs
  have HSM := Lib.hid hsm
  have HAPP := Lib.hid (fun (W : World) (hb : Below w.heap.size w W) (x : FV) (hp : FPart W w0.heap.size x) (hi : FPIn x) (hT : soundF (x.fc n T.now) = true → ToldF T.m.msg T.z T.now (x.fc n T.now)) =>
    add_any w0 W T b an au ex v xs (h.step hb) ok (by omega) A c n (hn.step hb) hns x hp hi hT)
  have HRF := Lib.hid (fun (W : World) (hb : Below w.heap.size w W) => refers_any w0 W T b an au ex v xs (h.step hb) ok)
  have HWQ := Lib.hid hqk
  have HSZ := Lib.hid h.size
  have c20 : (w.alloc (.cells #[.slice A n.length c] 22)).cell? ⟨b, 20, none⟩ = some (.slice au.A au.ps.length au.c) := (h.step HN1.out).blk.cell 20
  have HFIN := Lib.hid (show ∀ W, Below w.heap.size w W → TellOut w0 T b an au ex xs 1 w W from fun W hb => ⟨v, xs, h.step hb, Nat.le_succ _, KeptT.below hb, hb.size⟩)
  have HAL := Lib.hid hs.n
  clear h ok hs hsm hn hns hqk
  go_enter Tryz.func18, Tryz.ntmps18
  go_wp2_with fail
  refine HIX.out.mono ?_
  rintro e w1 ⟨i, rfl, hi, hb1⟩
  have HB1 := Lib.hid (HN1.out.trans (hb1.mono HN1.out.size))
  have HNB1 := Lib.hid (HNB.out.below hb1 HNB.out.lt)
  have d20 : w1.cell? ⟨b, 20, none⟩ = some (.slice au.A au.ps.length au.c) := (HT.out _ HB1.out).blk.cell 20
  clear hb1 HIX c20 HN1 HNB
  rcases hi with rfl | ⟨k, hk, rfl, hsoa⟩
  · go_wp2
    first | go_end0 | refine bodyPost_ret (results_none rfl _ _ _) rfl ?_
    exact ⟨rfl, HFIN.out _ HB1.out⟩
  have t0 : decide ((k : Int) < 0) = false := decide_eq_false (by omega)
  obtain ⟨bp, off, hA, hbH, hcs⟩ := (HSEC.out w1 HB1.out).1.part cellsR_len (by omega) hk
  have HRA := Lib.hid ((HSEC.out w1 HB1.out).2 _ (List.getElem_mem hk))
  have HM := Lib.hid (HSO.out.i _ (List.getElem_mem hk))
  have HSR := Lib.hid (HSM.out _ (List.getElem_mem hk))
  have HSS := Lib.hid hsoa
  have hcap := own_cap (HT.out w1 HB1.out).au
  have hcz := own_capZ (HT.out w1 HB1.out).au
  have hal := HAL.out
  clear hsoa
  revert hcs HRA HM HSR HSS
  generalize au.ps[k] = p
  obtain ⟨x, r⟩ := p
  intro hcs HRA HM HSR HSS
  dsimp only at *
  have HCS := Lib.hid hcs
  have q0 := hcs 0 (.slice x.A r.name.length x.c) rfl
  have q0' : w1.cell? ⟨bp, off + k * 9, none⟩ = some (.slice x.A r.name.length x.c) := q0
  clear hcs q0
  have HSEL := Lib.hid (show selR r.name 6 r = true from by unfold selR; rw [HM.out.2.1, HSS.out, eqN_same]; rfl)
  have HSET := Lib.hid (show ∀ cc, Calls Tryz.prog 41 #[.slice (some ⟨bp, off + k * 9, none⟩) 1 cc, .slice x.A r.name.length x.c, .int .i64 6] w1 (SetOwn w1 ([r.data], r.ttl)) from fun cc => by
    have h := set_own w1 (some ⟨bp, off + k * 9, none⟩) cc [(x, r)] x.A r.name x.c 6 ⟨fun _ => ⟨bp, off + k * 9, rfl, hbH, fun j u hu => HCS.out j u (by simpa using hu)⟩, fun q hq => by rw [List.mem_singleton.1 hq]; exact HRA.out⟩ HRA.out.n HSR.out.2.1.n (fun q hq => by rw [List.mem_singleton.1 hq]; exact ⟨HSR.out.2.1, HSR.out.2.2.few⟩) (by simp)
    rwa [show recs [(x, r)] = [r] from rfl, setF_one HSEL.out] at h)
  have s1 : (0 : Int) ≤ (k : Int) := by omega
  have s2 : (k : Int) < (au.ps.length : Int) := by omega
  have s3 : (k : Int) + 1 ≤ (au.c : Int) := by omega
  unfold maxLen at hcz
  rw [hA] at d20
  go_wp2_with fail
  refine (HSET.out _).mono ?_
  rintro e w2 ⟨sA, sc, qs, rfl, hq, hat⟩
  have hlen : qs.length = 1 := by rw [← length_dats, hq]; rfl
  obtain ⟨⟨yd, d⟩, rfl⟩ : ∃ q, qs = [q] := List.length_eq_one_iff.1 hlen
  obtain rfl : d = r.data := by
    have h : [d] = [r.data] := hq
    exact List.head_eq_of_cons_eq h
  obtain ⟨yb, yh, ym, yn, yt, cb, ch, cm, cn, ct⟩ := yd
  have hod := hat.each _ (List.mem_singleton.2 rfl)
  have h5 : r.data.nums.length = 5 := by
    have := (soundP HSR.out.1.d).n
    rw [HSS.out] at this
    exact this
  obtain ⟨gn, hgn⟩ := own_some hod.n (by dsimp only; omega)
  dsimp only at hgn
  subst hgn
  obtain ⟨g2, rfl⟩ := own_some hat.row (by simp)
  have HOD := Lib.hid hod
  have HB2 := Lib.hid (HB1.out.trans (hat.below.mono HB1.out.size))
  have HNB2 := Lib.hid (HNB1.out.below hat.below HNB1.out.lt)
  have HSX := Lib.hid (show ∀ W, Below w2.heap.size w2 W → (W.cell? ⟨g2, 0, none⟩ = some (.slice yb r.data.bytes.length cb) ∧ W.cell? ⟨g2, 1, none⟩ = some (.slice yh r.data.host.length ch) ∧ W.cell? ⟨g2, 2, none⟩ = some (.slice ym r.data.mail.length cm) ∧ W.cell? ⟨g2, 3, none⟩ = some (.slice (some ⟨gn, 0, none⟩) r.data.nums.length cn) ∧ W.cell? ⟨g2, 4, none⟩ = some (.slice yt r.data.texts.length ct)) from fun W hb =>
    have ho := own_keep hat.row fun j e => hb.block j (hat.row.lt j e).2
    ⟨own_cell (k := 0) ho (by show 0 < 5; omega), own_cell (k := 1) ho (by show 1 < 5; omega), own_cell (k := 2) ho (by show 2 < 5; omega), own_cell (k := 3) ho (by show 3 < 5; omega), own_cell (k := 4) ho (by show 4 < 5; omega)⟩)
  have HWS := Lib.hid (show w.heap.size ≤ w1.heap.size from HB1.out.size)
  have HCLN := Lib.hid (fun W (hb : Below w2.heap.size w2 W) => cloneN_any x.A x.c W.heap.size r.name W (((HRA.out.n.below hat.below).below (hb.mono hat.below.size)).mono (Nat.le_trans hat.below.size hb.size)) (by have := HSR.out.2.2.l0; omega))
  have HTOLD := Lib.hid (fun (typ knd rank ttl : Int) (hk : knd = 2 ∨ knd = 3) (hf : soundF ⟨n, ⟨typ, knd, rank, T.now, ttl⟩, [], r.name, r.data⟩ = true) => told_no (T := T) (au_all HM.out.1) HM.out.2.1 HSS.out HM.out.2.2 hk hf)
  have HSD := Lib.hid (show soundD 6 r.data = true from by have h := HSR.out.1.d; rwa [HSS.out] at h)
  have HRN := Lib.hid HSR.out.1.n
  have h5' : (r.data.nums.length : Int) - 1 = 4 := by omega
  have h6' : (4 : Int) < (r.data.nums.length : Int) := by omega
  have H5 := Lib.hid h5
  clear hod hat hq HSET HCS q0' d20 s1 s2 s3 t0 h5 hlen hcap hcz hal hbH hA hk HSS HSR HSM HSO HSEC HSEL HM
  obtain ⟨x0, x1, x2, x3, x4⟩ := HSX.out w2 (Below.refl _ _)
  have h5' : (r.data.nums.length : Int) - 1 = 4 := by have := H5.out; omega
  have h6' : (4 : Int) < (r.data.nums.length : Int) := by have := H5.out; omega
  go_upto_region 6 with fail
  clear x0 x1 x2 x3 x4
  go_cut [9] from 43 to 48 (fun t9 wx => NothRel w A c n r ⟨yb, yh, ym, some ⟨gn, 0, none⟩, yt, cb, ch, cm, cn, ct⟩ t9 wx)
  case first =>
    refine wp_region_held_drew (S := fun W => (W.cell? ⟨g2, 0, none⟩ = some (.slice yb r.data.bytes.length cb) ∧ W.cell? ⟨g2, 1, none⟩ = some (.slice yh r.data.host.length ch) ∧ W.cell? ⟨g2, 2, none⟩ = some (.slice ym r.data.mail.length cm) ∧ W.cell? ⟨g2, 3, none⟩ = some (.slice (some ⟨gn, 0, none⟩) r.data.nums.length cn) ∧ W.cell? ⟨g2, 4, none⟩ = some (.slice yt r.data.texts.length ct))) (by kernel_rfl) (by exact HSX.out _ (Below.refl _ _).drew) (fun hHeld => ?_)
    refine wpAnyH_take (i := 0) (oi := ⟨some 43, _, _, _, _, _⟩) (v := ?_) rfl (by kernel_rfl) (by kernel_rfl) (by kernel_rfl) (fun _ _ _ h => h) (Or.inl ⟨by kernel_rfl, ?_⟩) (by assumption) ?_
    rotate_left
    · intro W hSw
      try dsimp only at hSw
      go_simp
      all_goals (with_reducible rfl)
    try simp only [Act.put, List.setIfInBounds_toArray, List.set_cons_zero, List.set_cons_succ]
    refine wpAnyH_take (i := 2) (oi := ⟨some 45, _, _, _, _, _⟩) (v := ?_) rfl (by kernel_rfl) (by kernel_rfl) (by kernel_rfl) (fun _ _ _ h => h) (Or.inl ⟨by kernel_rfl, ?_⟩) (by assumption) ?_
    rotate_left
    · intro W hSw
      try dsimp only at hSw
      go_simp
      all_goals (with_reducible rfl)
    try simp only [Act.put, List.setIfInBounds_toArray, List.set_cons_zero, List.set_cons_succ]
    refine wpAnyH_take (i := 3) (oi := ⟨some 46, _, _, _, _, _⟩) (v := ?_) rfl (by kernel_rfl) (by kernel_rfl) (by kernel_rfl) (fun _ _ _ h => h) (Or.inl ⟨by kernel_rfl, ?_⟩) (by assumption) ?_
    rotate_left
    · intro W hSw
      try dsimp only at hSw
      go_simp
      all_goals (with_reducible rfl)
    try simp only [Act.put, List.setIfInBounds_toArray, List.set_cons_zero, List.set_cons_succ]
    refine wpAnyH_take (i := 4) (oi := ⟨some 47, _, _, _, _, _⟩) (v := ?_) rfl (by kernel_rfl) (by kernel_rfl) (by kernel_rfl) (fun _ _ _ h => h) (Or.inl ⟨by kernel_rfl, ?_⟩) (by assumption) ?_
    rotate_left
    · intro W hSw
      try dsimp only at hSw
      go_simp
      all_goals (with_reducible rfl)
    try simp only [Act.put, List.setIfInBounds_toArray, List.set_cons_zero, List.set_cons_succ]
    refine wpAnyH_ready (rs := [1, 6]) (by kernel_rfl) (by simp) ?_
    refine AllReadyH.cons (o := { dst := some 44, op := Go.Op.call { callee := Go.Callee.value (Go.Operand.func 49), args := #[Go.Operand.tmp 43], argTypes := #[22] }, type := 22, pos := "from.go:115", after := #[{ on := 0, ground := Go.Ground.data }], guard := none }) rfl (fun K hK => ?_) (AllReadyH.cons (o := { dst := some 9, op := Go.Op.alloc 40, type := 0, pos := "from.go:115", after := #[], guard := none }) rfl (fun K hK => ?_) AllReadyH.nil)
    · go_simp
      have HB3a := Lib.hid (Below.refl w2.heap.size w2).drew
      refine (HCLN.out _ HB3a.out).mono ?_
      rintro e w3 ⟨zA, zc, rfl, hz, hb3⟩
      have HZ := Lib.hid (show w3.ownsRow w2.heap.size 9 1 (.slice zA r.name.length zc) r.name.length (r.name.map sv) from own_mono hz HB3a.out.size)
      have HB3 := Lib.hid (HB3a.out.trans (hb3.mono HB3a.out.size))
      have HBW3 := Lib.hid (show w2.heap.size ≤ w3.heap.size from HB3.out.size)
      clear hz hb3
      refine hK.out _ _ (by exact HSX.out _ HB3.out) (fun hHeld2 => ?_)
      clear hK K hHeld
      have hHeld := hHeld2
      clear hHeld2
      try simp only [Act.put, List.setIfInBounds_toArray, List.set_cons_zero, List.set_cons_succ]
      refine wpAnyH_take (i := 5) (oi := ⟨some 48, _, _, _, _, _⟩) (v := ?_) rfl (by kernel_rfl) (by kernel_rfl) (by kernel_rfl) (fun _ _ _ h => h) (Or.inl ⟨by kernel_rfl, ?_⟩) (by assumption) ?_
      rotate_left
      · intro W hSw
        try dsimp only at hSw
        go_simp
        all_goals (with_reducible rfl)
      try simp only [Act.put, List.setIfInBounds_toArray, List.set_cons_zero, List.set_cons_succ]
      refine wpAnyH_ready (rs := [6]) (by kernel_rfl) (by simp) ?_
      refine AllReadyH.cons (o := { dst := some 9, op := Go.Op.alloc 40, type := 0, pos := "from.go:115", after := #[], guard := none }) rfl (fun K hK => ?_) AllReadyH.nil
      go_simp
      have HF3 := Lib.hid (Whole.made w3 [.slice none 0 0, .int .i64 0, .int .i64 0, .int .i64 0, .int .i64 0, .int .i64 0, .slice none 0 0, .slice none 0 0, .slice none 0 0, .slice none 0 0, .slice none 0 0, .slice none 0 0, .slice none 0 0] 40)
      have HZ := Lib.hid (own_keep HZ.out (w' := w3.alloc (.cells #[.slice none 0 0, .int .i64 0, .int .i64 0, .int .i64 0, .int .i64 0, .int .i64 0, .slice none 0 0, .slice none 0 0, .slice none 0 0, .slice none 0 0, .slice none 0 0, .slice none 0 0, .slice none 0 0] 40)) fun j e => (Below.heap_alloc w3 _ _ (HZ.out.lt j e).2))
      have HB3 := Lib.hid (HB3.out.alloc HB3.out.size (.cells #[.slice none 0 0, .int .i64 0, .int .i64 0, .int .i64 0, .int .i64 0, .int .i64 0, .slice none 0 0, .slice none 0 0, .slice none 0 0, .slice none 0 0, .slice none 0 0, .slice none 0 0, .slice none 0 0] 40))
      refine hK.out _ _ (by exact HSX.out _ HB3.out) (fun hHeld2 => ?_)
      clear hK K hHeld
      have hHeld := hHeld2
      clear hHeld2
      try simp only [Act.put, List.setIfInBounds_toArray, List.set_cons_zero, List.set_cons_succ]
      refine wpAnyH_ready (rs := [7]) (by kernel_rfl) (by simp) ?_
      refine AllReadyH.cons (o := { dst := none, op := Go.Op.store 40 (Go.Operand.tmp 9) (Go.Operand.tmp 48), type := 0, pos := "from.go:115", after := #[{ on := 6, ground := Go.Ground.data }, { on := 5, ground := Go.Ground.data }, { on := 1, ground := Go.Ground.chain }, { on := 0, ground := Go.Ground.phase }, { on := 1, ground := Go.Ground.phase }, { on := 2, ground := Go.Ground.phase }, { on := 3, ground := Go.Ground.phase }, { on := 4, ground := Go.Ground.phase }, { on := 5, ground := Go.Ground.phase }, { on := 6, ground := Go.Ground.phase }], guard := none }) rfl (fun K hK => ?_) AllReadyH.nil
      have HGE := Lib.hid HBW3.out
      refine wp_store_whole 40 (.tmp 9) (.tmp 48) rfl w3.heap.size [.slice none 0 0, .int .i64 0, .int .i64 3, .int .i64 2, .int .i64 0, .int .i64 0, .slice none 0 0, .slice zA r.name.length zc, .slice yb r.data.bytes.length cb, .slice yh r.data.host.length ch, .slice ym r.data.mail.length cm, .slice (some ⟨gn, 0, none⟩) r.data.nums.length cn, .slice yt r.data.texts.length ct] rfl rfl 40 _ HF3.out rfl fact_sizeT (fun u hu => by
        simp only [List.mem_cons, List.not_mem_nil, or_false] at hu
        rcases hu with rfl | rfl | rfl | rfl | rfl | rfl | rfl | rfl | rfl | rfl | rfl | rfl | rfl <;> rfl) ?_
      intro V6 hV hG hZs
      have HKT := Lib.hid (KeptT.of_setF HF3.out hG)
      have HBV := Lib.hid (show Below w2.heap.size w2 V6 from HB3.out.trans (hG.below (fun j e => by rw [e]; first | exact Nat.le_refl _ | exact HGE.out) HB3.out.size))
      have HVV := Lib.hid hV
      clear hV hG hZs
      refine hK.out _ _ (by exact HSX.out _ HBV.out) (fun hHeld2 => ?_)
      clear hK K hHeld
      have hHeld := hHeld2
      clear hHeld2
      try simp only [Act.put]
      refine wpAnyH_done (by kernel_rfl) ?_ _
      go_wp2
      go_meet
      exact ⟨w3.heap.size, zA, zc, rfl, ⟨(HNB2.out.below HBV.out HNB2.out.lt), HVV.out, own_mono (HKT.out.own HZ.out str_notT) HB2.out.size, ((HOD.out.monoB HWS.out).keepB fun j _ hj => HBV.out.block j hj), HB2.out.trans (HBV.out.mono HB2.out.size), Nat.le_trans HB2.out.size HBW3.out⟩⟩
    · go_simp
      have HF := Lib.hid (Whole.made w2.drew [.slice none 0 0, .int .i64 0, .int .i64 0, .int .i64 0, .int .i64 0, .int .i64 0, .slice none 0 0, .slice none 0 0, .slice none 0 0, .slice none 0 0, .slice none 0 0, .slice none 0 0, .slice none 0 0] 40)
      refine hK.out _ _ (by exact HSX.out _ ((Below.refl w2.heap.size w2).drew.alloc (Nat.le_refl _) (.cells #[.slice none 0 0, .int .i64 0, .int .i64 0, .int .i64 0, .int .i64 0, .int .i64 0, .slice none 0 0, .slice none 0 0, .slice none 0 0, .slice none 0 0, .slice none 0 0, .slice none 0 0, .slice none 0 0] 40))) (fun hHeld2 => ?_)
      clear hK K hHeld
      have hHeld := hHeld2
      clear hHeld2
      try simp only [Act.put, List.setIfInBounds_toArray, List.set_cons_zero, List.set_cons_succ]
      refine wpAnyH_ready (rs := [1]) (by kernel_rfl) (by simp) ?_
      refine AllReadyH.cons (o := { dst := some 44, op := Go.Op.call { callee := Go.Callee.value (Go.Operand.func 49), args := #[Go.Operand.tmp 43], argTypes := #[22] }, type := 22, pos := "from.go:115", after := #[{ on := 0, ground := Go.Ground.data }], guard := none }) rfl (fun K hK => ?_) AllReadyH.nil
      go_simp
      have HB3a := Lib.hid ((Below.refl w2.heap.size w2).drew.alloc (Nat.le_refl _) (.cells #[.slice none 0 0, .int .i64 0, .int .i64 0, .int .i64 0, .int .i64 0, .int .i64 0, .slice none 0 0, .slice none 0 0, .slice none 0 0, .slice none 0 0, .slice none 0 0, .slice none 0 0, .slice none 0 0] 40))
      refine (HCLN.out _ HB3a.out).mono ?_
      rintro e w3 ⟨zA, zc, rfl, hz, hb3⟩
      have HZ := Lib.hid (show w3.ownsRow w2.heap.size 9 1 (.slice zA r.name.length zc) r.name.length (r.name.map sv) from own_mono hz HB3a.out.size)
      have HB3 := Lib.hid (HB3a.out.trans (hb3.mono HB3a.out.size))
      have HBW3 := Lib.hid (show w2.heap.size ≤ w3.heap.size from HB3.out.size)
      have HF3 := Lib.hid (HF.out.below hb3 HF.out.lt)
      clear hz hb3
      refine hK.out _ _ (by exact HSX.out _ HB3.out) (fun hHeld2 => ?_)
      clear hK K hHeld
      have hHeld := hHeld2
      clear hHeld2
      try simp only [Act.put, List.setIfInBounds_toArray, List.set_cons_zero, List.set_cons_succ]
      refine wpAnyH_take (i := 5) (oi := ⟨some 48, _, _, _, _, _⟩) (v := ?_) rfl (by kernel_rfl) (by kernel_rfl) (by kernel_rfl) (fun _ _ _ h => h) (Or.inl ⟨by kernel_rfl, ?_⟩) (by assumption) ?_
      rotate_left
      · intro W hSw
        try dsimp only at hSw
        go_simp
        all_goals (with_reducible rfl)
      try simp only [Act.put, List.setIfInBounds_toArray, List.set_cons_zero, List.set_cons_succ]
      refine wpAnyH_ready (rs := [7]) (by kernel_rfl) (by simp) ?_
      refine AllReadyH.cons (o := { dst := none, op := Go.Op.store 40 (Go.Operand.tmp 9) (Go.Operand.tmp 48), type := 0, pos := "from.go:115", after := #[{ on := 6, ground := Go.Ground.data }, { on := 5, ground := Go.Ground.data }, { on := 1, ground := Go.Ground.chain }, { on := 0, ground := Go.Ground.phase }, { on := 1, ground := Go.Ground.phase }, { on := 2, ground := Go.Ground.phase }, { on := 3, ground := Go.Ground.phase }, { on := 4, ground := Go.Ground.phase }, { on := 5, ground := Go.Ground.phase }, { on := 6, ground := Go.Ground.phase }], guard := none }) rfl (fun K hK => ?_) AllReadyH.nil
      refine wp_store_whole 40 (.tmp 9) (.tmp 48) rfl w2.heap.size [.slice none 0 0, .int .i64 0, .int .i64 3, .int .i64 2, .int .i64 0, .int .i64 0, .slice none 0 0, .slice zA r.name.length zc, .slice yb r.data.bytes.length cb, .slice yh r.data.host.length ch, .slice ym r.data.mail.length cm, .slice (some ⟨gn, 0, none⟩) r.data.nums.length cn, .slice yt r.data.texts.length ct] rfl rfl 40 _ HF3.out rfl fact_sizeT (fun u hu => by
        simp only [List.mem_cons, List.not_mem_nil, or_false] at hu
        rcases hu with rfl | rfl | rfl | rfl | rfl | rfl | rfl | rfl | rfl | rfl | rfl | rfl | rfl <;> rfl) ?_
      intro V6 hV hG hZs
      have HKT := Lib.hid (KeptT.of_setF HF3.out hG)
      have HBV := Lib.hid (show Below w2.heap.size w2 V6 from HB3.out.trans (hG.below (fun j e => by rw [e]; first | exact Nat.le_refl _ | exact HGE.out) HB3.out.size))
      have HVV := Lib.hid hV
      clear hV hG hZs
      refine hK.out _ _ (by exact HSX.out _ HBV.out) (fun hHeld2 => ?_)
      clear hK K hHeld
      have hHeld := hHeld2
      clear hHeld2
      try simp only [Act.put]
      refine wpAnyH_done (by kernel_rfl) ?_ _
      go_wp2
      go_meet
      exact ⟨w2.heap.size, zA, zc, rfl, ⟨(HNB2.out.below HBV.out HNB2.out.lt), HVV.out, own_mono (HKT.out.own HZ.out str_notT) HB2.out.size, ((HOD.out.monoB HWS.out).keepB fun j _ hj => HBV.out.block j hj), HB2.out.trans (HBV.out.mono HB2.out.size), HB2.out.size⟩⟩
  case rest =>
    clear HSX HCLN HNB2 HOD
    rename World => w4
    obtain ⟨g, zA, zc, rfl, hno⟩ := hcut
    have HNO := Lib.hid hno
    obtain ⟨last, q4⟩ : ∃ last, w4.cell? ⟨gn, 4, none⟩ = some (.int .i64 last) := ⟨_, (own_cell (k := 4) hno.d.n (by rw [List.length_map]; have := H5.out; omega)).trans (by rw [List.getElem_map]; rfl)⟩
    have HCM := Lib.hid (fun t W => (clamp_any t true W).mono (fun e w' ⟨h1, h2⟩ => (⟨clampI t true, h1, clampI_in t true, h2⟩ : ∃ tt : Int, e = Ending.returned (Value.int IntKind.i64 tt) ∧ (0 ≤ tt ∧ tt ≤ 604800) ∧ W = w')))
    clear hno
    by_cases krc : T.m.h.rc = 3
    · have t3 : (T.m.h.rc != 3) = false := by rw [krc]; rfl
      clear krc
      cases haa : T.m.h.aa with
      | true =>
        have HAA := Lib.hid haa
        clear haa
        go_wp2_with (first
          | (go_at_call 50; refine (HCM.out _ _).mono ?_; rintro e wx ⟨tt, rfl, htt, rfl⟩; have HTT := Lib.hid htt; clear htt)
          | (refine wpList_store_one rfl 3 (.tmp 58) (.tmp 57) rfl g 5 (.int .i64 tt) rfl rfl rfl int_oneT 40 _ HNO.out.fb _ rfl ?_
             intro V5 hV hG hZ5
             have HN5 := Lib.hid (show NoB w A c n g [.slice none 0 0, .int .i64 0, .int .i64 3, .int .i64 2, .int .i64 0, .int .i64 tt, .slice none 0 0, .slice zA r.name.length zc, .slice yb r.data.bytes.length cb, .slice yh r.data.host.length ch, .slice ym r.data.mail.length cm, .slice (some ⟨gn, 0, none⟩) r.data.nums.length cn, .slice yt r.data.texts.length ct] zA zc r.name ⟨yb, yh, ym, some ⟨gn, 0, none⟩, yt, cb, ch, cm, cn, ct⟩ r.data V5 from HNO.out.put hV hG)
             have c6 : V5.cell? ⟨b, 6, none⟩ = some (.bool true) := ((HT.out V5 HN5.out.below).blk.cell 6).trans (by rw [← HAA.out]; rfl)
             clear hV hG hZ5)
          | (refine wpList_store_one rfl 3 (.tmp 64) (.const (.int .i64 4)) rfl g 3 (.int .i64 4) rfl rfl rfl int_oneT 40 _ HN5.out.fb _ rfl ?_
             intro V6 hV hG hZ6
             have HN6 := Lib.hid (show NoB w A c n g [.slice none 0 0, .int .i64 0, .int .i64 3, .int .i64 4, .int .i64 0, .int .i64 tt, .slice none 0 0, .slice zA r.name.length zc, .slice yb r.data.bytes.length cb, .slice yh r.data.host.length ch, .slice ym r.data.mail.length cm, .slice (some ⟨gn, 0, none⟩) r.data.nums.length cn, .slice yt r.data.texts.length ct] zA zc r.name ⟨yb, yh, ym, some ⟨gn, 0, none⟩, yt, cb, ch, cm, cn, ct⟩ r.data V6 from HN5.out.put hV hG)
             have c10 : V6.cell? ⟨b, 10, none⟩ = some (.int .i64 T.m.h.rc) := (HT.out V6 HN6.out.below).blk.cell 10
             have f0 : V6.cell? ⟨g, 0, none⟩ = some (.slice none 0 0) := HN6.out.fb.cell 0
             have f1 : V6.cell? ⟨g, 1, none⟩ = some (.int .i64 0) := HN6.out.fb.cell 1
             have f2 : V6.cell? ⟨g, 2, none⟩ = some (.int .i64 3) := HN6.out.fb.cell 2
             have f3 : V6.cell? ⟨g, 3, none⟩ = some (.int .i64 4) := HN6.out.fb.cell 3
             have f4 : V6.cell? ⟨g, 4, none⟩ = some (.int .i64 0) := HN6.out.fb.cell 4
             have f5 : V6.cell? ⟨g, 5, none⟩ = some (.int .i64 tt) := HN6.out.fb.cell 5
             have f6 : V6.cell? ⟨g, 6, none⟩ = some (.slice none 0 0) := HN6.out.fb.cell 6
             have f7 : V6.cell? ⟨g, 7, none⟩ = some (.slice zA r.name.length zc) := HN6.out.fb.cell 7
             have f8 : V6.cell? ⟨g, 8, none⟩ = some (.slice yb r.data.bytes.length cb) := HN6.out.fb.cell 8
             have f9 : V6.cell? ⟨g, 9, none⟩ = some (.slice yh r.data.host.length ch) := HN6.out.fb.cell 9
             have f10 : V6.cell? ⟨g, 10, none⟩ = some (.slice ym r.data.mail.length cm) := HN6.out.fb.cell 10
             have f11 : V6.cell? ⟨g, 11, none⟩ = some (.slice (some ⟨gn, 0, none⟩) r.data.nums.length cn) := HN6.out.fb.cell 11
             have f12 : V6.cell? ⟨g, 12, none⟩ = some (.slice yt r.data.texts.length ct) := HN6.out.fb.cell 12
             have nn : V6.cell? ⟨w.heap.size, 0, none⟩ = some (.slice A n.length c) := HN6.out.nb.cell 0
             have HADD := Lib.hid (show Calls Tryz.prog 52 #[.pointer (some ⟨b, 0, none⟩), .slice A n.length c, .agg #[.slice none 0 0, .int .i64 0, .int .i64 3, .int .i64 4, .int .i64 0, .int .i64 tt, .slice none 0 0, .slice zA r.name.length zc, .slice yb r.data.bytes.length cb, .slice yh r.data.host.length ch, .slice ym r.data.mail.length cm, .slice (some ⟨gn, 0, none⟩) r.data.nums.length cn, .slice yt r.data.texts.length ct]] V6 (fun e w' => e = .returned (.tuple #[]) ∧ TellOut w0 T b an au ex xs 1 V6 w') from
               HAPP.out V6 HN6.out.below ⟨none, 0, [], ⟨0, 3, 4, 0, tt⟩, none, 0, [], zA, zc, r.name, ⟨yb, yh, ym, some ⟨gn, 0, none⟩, yt, cb, ch, cm, cn, ct⟩, r.data⟩
                 ⟨own_mono HN6.out.z HSZ.out, HN6.out.d.monoB HSZ.out, World.ownsRow_nil _ _ _ _, fun _ h => absurd h (List.not_mem_nil)⟩
                 ⟨(show (Lit.int .i64 0).wf = true by decide), (show (Lit.int .i64 3).wf = true by decide), (show (Lit.int .i64 4).wf = true by decide), wf_i64 (show _ ≤ tt by have := HTT.out; omega) (show tt ≤ _ by have := HTT.out; omega), ⟨soundN_sz HRN.out, by have := sound_few HRN.out; show r.name.length ≤ 300; omega, soundN_wide HRN.out⟩, fun _ h => absurd h (List.not_mem_nil), sound_small HSD.out⟩
                 (fun hf => HTOLD.out 0 3 4 tt (.inr rfl) hf))
             clear hV hG hZ6)
          | (go_at_call 52; refine HADD.out.mono ?_; rintro e w9 ⟨rfl, v9, xs9, k1, k2, k3, k4⟩))
        all_goals (
          first | go_end0 | refine bodyPost_ret (results_none rfl _ _ _) rfl ?_
          exact ⟨rfl, v9, xs9, k1, k2, (KeptT.below HN6.out.below).trans k3, Nat.le_trans HN6.out.below.size k4⟩)
      | false =>
        have HAA := Lib.hid haa
        clear haa
        go_wp2_with (first
          | (go_at_call 50; refine (HCM.out _ _).mono ?_; rintro e wx ⟨tt, rfl, htt, rfl⟩; have HTT := Lib.hid htt; clear htt)
          | (refine wpList_store_one rfl 3 (.tmp 58) (.tmp 57) rfl g 5 (.int .i64 tt) rfl rfl rfl int_oneT 40 _ HNO.out.fb _ rfl ?_
             intro V5 hV hG hZ5
             have HN5 := Lib.hid (show NoB w A c n g [.slice none 0 0, .int .i64 0, .int .i64 3, .int .i64 2, .int .i64 0, .int .i64 tt, .slice none 0 0, .slice zA r.name.length zc, .slice yb r.data.bytes.length cb, .slice yh r.data.host.length ch, .slice ym r.data.mail.length cm, .slice (some ⟨gn, 0, none⟩) r.data.nums.length cn, .slice yt r.data.texts.length ct] zA zc r.name ⟨yb, yh, ym, some ⟨gn, 0, none⟩, yt, cb, ch, cm, cn, ct⟩ r.data V5 from HNO.out.put hV hG)
             have c6 : V5.cell? ⟨b, 6, none⟩ = some (.bool false) := ((HT.out V5 HN5.out.below).blk.cell 6).trans (by rw [← HAA.out]; rfl)
             have c10 : V5.cell? ⟨b, 10, none⟩ = some (.int .i64 T.m.h.rc) := (HT.out V5 HN5.out.below).blk.cell 10
             have f0 : V5.cell? ⟨g, 0, none⟩ = some (.slice none 0 0) := HN5.out.fb.cell 0
             have f1 : V5.cell? ⟨g, 1, none⟩ = some (.int .i64 0) := HN5.out.fb.cell 1
             have f2 : V5.cell? ⟨g, 2, none⟩ = some (.int .i64 3) := HN5.out.fb.cell 2
             have f3 : V5.cell? ⟨g, 3, none⟩ = some (.int .i64 2) := HN5.out.fb.cell 3
             have f4 : V5.cell? ⟨g, 4, none⟩ = some (.int .i64 0) := HN5.out.fb.cell 4
             have f5 : V5.cell? ⟨g, 5, none⟩ = some (.int .i64 tt) := HN5.out.fb.cell 5
             have f6 : V5.cell? ⟨g, 6, none⟩ = some (.slice none 0 0) := HN5.out.fb.cell 6
             have f7 : V5.cell? ⟨g, 7, none⟩ = some (.slice zA r.name.length zc) := HN5.out.fb.cell 7
             have f8 : V5.cell? ⟨g, 8, none⟩ = some (.slice yb r.data.bytes.length cb) := HN5.out.fb.cell 8
             have f9 : V5.cell? ⟨g, 9, none⟩ = some (.slice yh r.data.host.length ch) := HN5.out.fb.cell 9
             have f10 : V5.cell? ⟨g, 10, none⟩ = some (.slice ym r.data.mail.length cm) := HN5.out.fb.cell 10
             have f11 : V5.cell? ⟨g, 11, none⟩ = some (.slice (some ⟨gn, 0, none⟩) r.data.nums.length cn) := HN5.out.fb.cell 11
             have f12 : V5.cell? ⟨g, 12, none⟩ = some (.slice yt r.data.texts.length ct) := HN5.out.fb.cell 12
             have nn : V5.cell? ⟨w.heap.size, 0, none⟩ = some (.slice A n.length c) := HN5.out.nb.cell 0
             have HADD := Lib.hid (show Calls Tryz.prog 52 #[.pointer (some ⟨b, 0, none⟩), .slice A n.length c, .agg #[.slice none 0 0, .int .i64 0, .int .i64 3, .int .i64 2, .int .i64 0, .int .i64 tt, .slice none 0 0, .slice zA r.name.length zc, .slice yb r.data.bytes.length cb, .slice yh r.data.host.length ch, .slice ym r.data.mail.length cm, .slice (some ⟨gn, 0, none⟩) r.data.nums.length cn, .slice yt r.data.texts.length ct]] V5 (fun e w' => e = .returned (.tuple #[]) ∧ TellOut w0 T b an au ex xs 1 V5 w') from
               HAPP.out V5 HN5.out.below ⟨none, 0, [], ⟨0, 3, 2, 0, tt⟩, none, 0, [], zA, zc, r.name, ⟨yb, yh, ym, some ⟨gn, 0, none⟩, yt, cb, ch, cm, cn, ct⟩, r.data⟩
                 ⟨own_mono HN5.out.z HSZ.out, HN5.out.d.monoB HSZ.out, World.ownsRow_nil _ _ _ _, fun _ h => absurd h (List.not_mem_nil)⟩
                 ⟨(show (Lit.int .i64 0).wf = true by decide), (show (Lit.int .i64 3).wf = true by decide), (show (Lit.int .i64 2).wf = true by decide), wf_i64 (show _ ≤ tt by have := HTT.out; omega) (show tt ≤ _ by have := HTT.out; omega), ⟨soundN_sz HRN.out, by have := sound_few HRN.out; show r.name.length ≤ 300; omega, soundN_wide HRN.out⟩, fun _ h => absurd h (List.not_mem_nil), sound_small HSD.out⟩
                 (fun hf => HTOLD.out 0 3 2 tt (.inr rfl) hf))
             clear hV hG hZ5)
          | (go_at_call 52; refine HADD.out.mono ?_; rintro e w9 ⟨rfl, v9, xs9, k1, k2, k3, k4⟩))
        all_goals (
          first | go_end0 | refine bodyPost_ret (results_none rfl _ _ _) rfl ?_
          exact ⟨rfl, v9, xs9, k1, k2, (KeptT.below HN5.out.below).trans k3, Nat.le_trans HN5.out.below.size k4⟩)
    have t3 : (T.m.h.rc != 3) = true := by rw [bne_iff_ne]; exact krc
    clear krc
    cases haa : T.m.h.aa with
    | true =>
      have HAA := Lib.hid haa
      clear haa
      go_wp2_with (first
        | (go_at_call 50; refine (HCM.out _ _).mono ?_; rintro e wx ⟨tt, rfl, htt, rfl⟩; have HTT := Lib.hid htt; clear htt)
        | (refine wpList_store_one rfl 3 (.tmp 58) (.tmp 57) rfl g 5 (.int .i64 tt) rfl rfl rfl int_oneT 40 _ HNO.out.fb _ rfl ?_
           intro V5 hV hG hZ5
           have HN5 := Lib.hid (show NoB w A c n g [.slice none 0 0, .int .i64 0, .int .i64 3, .int .i64 2, .int .i64 0, .int .i64 tt, .slice none 0 0, .slice zA r.name.length zc, .slice yb r.data.bytes.length cb, .slice yh r.data.host.length ch, .slice ym r.data.mail.length cm, .slice (some ⟨gn, 0, none⟩) r.data.nums.length cn, .slice yt r.data.texts.length ct] zA zc r.name ⟨yb, yh, ym, some ⟨gn, 0, none⟩, yt, cb, ch, cm, cn, ct⟩ r.data V5 from HNO.out.put hV hG)
           have c6 : V5.cell? ⟨b, 6, none⟩ = some (.bool true) := ((HT.out V5 HN5.out.below).blk.cell 6).trans (by rw [← HAA.out]; rfl)
           clear hV hG hZ5)
        | (refine wpList_store_one rfl 3 (.tmp 64) (.const (.int .i64 4)) rfl g 3 (.int .i64 4) rfl rfl rfl int_oneT 40 _ HN5.out.fb _ rfl ?_
           intro V6 hV hG hZ6
           have HN6 := Lib.hid (show NoB w A c n g [.slice none 0 0, .int .i64 0, .int .i64 3, .int .i64 4, .int .i64 0, .int .i64 tt, .slice none 0 0, .slice zA r.name.length zc, .slice yb r.data.bytes.length cb, .slice yh r.data.host.length ch, .slice ym r.data.mail.length cm, .slice (some ⟨gn, 0, none⟩) r.data.nums.length cn, .slice yt r.data.texts.length ct] zA zc r.name ⟨yb, yh, ym, some ⟨gn, 0, none⟩, yt, cb, ch, cm, cn, ct⟩ r.data V6 from HN5.out.put hV hG)
           have c10 : V6.cell? ⟨b, 10, none⟩ = some (.int .i64 T.m.h.rc) := (HT.out V6 HN6.out.below).blk.cell 10
           clear hV hG hZ6))
      all_goals (
        refine (HRF.out _ HN6.out.below).mono ?_
        rintro e w7 ⟨bv, rfl, hb7⟩
        have HN7 := Lib.hid (HN6.out.step hb7)
        clear hb7
        cases bv with
        | true =>
          go_wp2
          first | go_end0 | refine bodyPost_ret (results_none rfl _ _ _) rfl ?_
          exact ⟨rfl, HFIN.out _ HN7.out.below⟩
        | false =>
          have HS12 := Lib.hid (show ∀ W, Below w.heap.size w W → W.cell? ⟨b, 1, none⟩ = some (.int .i64 T.q.kind) from fun W hb => (HT.out W hb).blk.cell 1)
          go_wp2
          refine wp_region_held_drew (S := fun W => W.cell? ⟨b, 1, none⟩ = some (.int .i64 T.q.kind)) (by kernel_rfl) (by exact HS12.out _ (HN7.out.step (Below.refl _ _).drew).below) (fun hHeld => ?_)
          refine wpAnyH_take (i := 0) (oi := ⟨some 73, _, _, _, _, _⟩) (v := ?_) rfl (by kernel_rfl) (by kernel_rfl) (by kernel_rfl) (fun _ _ _ h => h) (Or.inl ⟨by kernel_rfl, ?_⟩) (by assumption) ?_
          rotate_left
          · intro W hSw
            try dsimp only at hSw
            go_simp
            all_goals (with_reducible rfl)
          try simp only [Act.put, List.setIfInBounds_toArray, List.set_cons_zero, List.set_cons_succ]
          refine wpAnyH_take (i := 1) (oi := ⟨some 74, _, _, _, _, _⟩) (v := ?_) rfl (by kernel_rfl) (by kernel_rfl) (by kernel_rfl) (fun _ _ _ h => h) (Or.inl ⟨by kernel_rfl, ?_⟩) (by assumption) ?_
          rotate_left
          · intro W hSw
            try dsimp only at hSw
            go_simp
            all_goals (with_reducible rfl)
          try simp only [Act.put, List.setIfInBounds_toArray, List.set_cons_zero, List.set_cons_succ]
          refine wpAnyH_take (i := 2) (oi := ⟨some 75, _, _, _, _, _⟩) (v := ?_) rfl (by kernel_rfl) (by kernel_rfl) (by kernel_rfl) (fun _ _ _ h => h) (Or.inl ⟨by kernel_rfl, ?_⟩) (by assumption) ?_
          rotate_left
          · intro W hSw
            try dsimp only at hSw
            go_simp
            all_goals (with_reducible rfl)
          try simp only [Act.put, List.setIfInBounds_toArray, List.set_cons_zero, List.set_cons_succ]
          refine wpAnyH_take (i := 3) (oi := ⟨some 76, _, _, _, _, _⟩) (v := ?_) rfl (by kernel_rfl) (by kernel_rfl) (by kernel_rfl) (fun _ _ _ h => h) (Or.inl ⟨by kernel_rfl, ?_⟩) (by assumption) ?_
          rotate_left
          · intro W hSw
            try dsimp only at hSw
            go_simp
            all_goals (with_reducible rfl)
          try simp only [Act.put, List.setIfInBounds_toArray, List.set_cons_zero, List.set_cons_succ]
          refine wpAnyH_take (i := 4) (oi := ⟨some 77, _, _, _, _, _⟩) (v := ?_) rfl (by kernel_rfl) (by kernel_rfl) (by kernel_rfl) (fun _ _ _ h => h) (Or.inl ⟨by kernel_rfl, ?_⟩) (by assumption) ?_
          rotate_left
          · intro W hSw
            try dsimp only at hSw
            go_simp
            all_goals (with_reducible rfl)
          try simp only [Act.put, List.setIfInBounds_toArray, List.set_cons_zero, List.set_cons_succ]
          refine wpAnyH_take (i := 5) (oi := ⟨some 78, _, _, _, _, _⟩) (v := ?_) rfl (by kernel_rfl) (by kernel_rfl) (by kernel_rfl) (fun _ _ _ h => h) (Or.inl ⟨by kernel_rfl, ?_⟩) (by assumption) ?_
          rotate_left
          · intro W hSw
            try dsimp only at hSw
            go_simp
            all_goals (with_reducible rfl)
          try simp only [Act.put, List.setIfInBounds_toArray, List.set_cons_zero, List.set_cons_succ]
          refine wpAnyH_ready (rs := [6]) (by kernel_rfl) (by simp) ?_
          refine AllReadyH.cons (o := { dst := none, op := Go.Op.store 3 (Go.Operand.tmp 78) (Go.Operand.const (Go.Value.int Go.IntKind.i64 2)), type := 0, pos := "from.go:124", after := #[{ on := 5, ground := Go.Ground.data }, { on := 0, ground := Go.Ground.textOnly Go.Departure.lateStores }, { on := 1, ground := Go.Ground.textOnly Go.Departure.lateStores }, { on := 2, ground := Go.Ground.textOnly Go.Departure.lateStores }, { on := 3, ground := Go.Ground.textOnly Go.Departure.lateStores }, { on := 4, ground := Go.Ground.textOnly Go.Departure.lateStores }], guard := none }) rfl (fun K hK => ?_) AllReadyH.nil
          refine wp_store_one 3 (.tmp 78) (.const (.int .i64 2)) rfl g 2 (.int .i64 2) rfl rfl rfl int_oneT 40 _ (HN7.out.step (Below.refl _ _).drew).fb _ rfl ?_
          intro V8 hV hG hZ8
          have HN8 := Lib.hid ((HN7.out.step (Below.refl _ _).drew).put hV hG)
          clear hV hG hZ8
          refine hK.out _ _ (by exact HS12.out _ HN8.out.below) (fun hHeld2 => ?_)
          clear hK K hHeld
          have hHeld := hHeld2
          clear hHeld2
          try simp only [Act.put]
          refine wpAnyH_take (i := 7) (oi := ⟨some 79, _, _, _, _, _⟩) (v := ?_) rfl (by kernel_rfl) (by kernel_rfl) (by kernel_rfl) (fun _ _ _ h => h) (Or.inl ⟨by kernel_rfl, ?_⟩) (by assumption) ?_
          rotate_left
          · intro W hSw
            try dsimp only at hSw
            go_simp
            all_goals (with_reducible rfl)
          try simp only [Act.put, List.setIfInBounds_toArray, List.set_cons_zero, List.set_cons_succ]
          refine wpAnyH_ready (rs := [8]) (by kernel_rfl) (by simp) ?_
          refine AllReadyH.cons (o := { dst := none, op := Go.Op.store 3 (Go.Operand.tmp 79) (Go.Operand.tmp 77), type := 0, pos := "from.go:124", after := #[{ on := 7, ground := Go.Ground.data }, { on := 4, ground := Go.Ground.data }, { on := 6, ground := Go.Ground.chain }, { on := 0, ground := Go.Ground.phase }, { on := 1, ground := Go.Ground.phase }, { on := 2, ground := Go.Ground.phase }, { on := 3, ground := Go.Ground.phase }, { on := 4, ground := Go.Ground.phase }, { on := 5, ground := Go.Ground.phase }, { on := 6, ground := Go.Ground.phase }], guard := none }) rfl (fun K hK => ?_) AllReadyH.nil
          refine wp_store_one 3 (.tmp 79) (.tmp 77) rfl g 1 (.int .i64 T.q.kind) rfl rfl rfl int_oneT 40 _ HN8.out.fb _ rfl ?_
          intro V9 hV hG hZ9
          have HN9 := Lib.hid (show NoB w A c n g [.slice none 0 0, .int .i64 T.q.kind, .int .i64 2, .int .i64 4, .int .i64 0, .int .i64 tt, .slice none 0 0, .slice zA r.name.length zc, .slice yb r.data.bytes.length cb, .slice yh r.data.host.length ch, .slice ym r.data.mail.length cm, .slice (some ⟨gn, 0, none⟩) r.data.nums.length cn, .slice yt r.data.texts.length ct] zA zc r.name ⟨yb, yh, ym, some ⟨gn, 0, none⟩, yt, cb, ch, cm, cn, ct⟩ r.data V9 from HN8.out.put hV hG)
          clear hV hG hZ9
          refine hK.out _ _ (by exact HS12.out _ HN9.out.below) (fun hHeld2 => ?_)
          clear hK K hHeld
          have hHeld := hHeld2
          clear hHeld2
          try simp only [Act.put]
          refine wpAnyH_done (by kernel_rfl) ?_ _
          have f0 : V9.cell? ⟨g, 0, none⟩ = some (.slice none 0 0) := HN9.out.fb.cell 0
          have f1 : V9.cell? ⟨g, 1, none⟩ = some (.int .i64 T.q.kind) := HN9.out.fb.cell 1
          have f2 : V9.cell? ⟨g, 2, none⟩ = some (.int .i64 2) := HN9.out.fb.cell 2
          have f3 : V9.cell? ⟨g, 3, none⟩ = some (.int .i64 4) := HN9.out.fb.cell 3
          have f4 : V9.cell? ⟨g, 4, none⟩ = some (.int .i64 0) := HN9.out.fb.cell 4
          have f5 : V9.cell? ⟨g, 5, none⟩ = some (.int .i64 tt) := HN9.out.fb.cell 5
          have f6 : V9.cell? ⟨g, 6, none⟩ = some (.slice none 0 0) := HN9.out.fb.cell 6
          have f7 : V9.cell? ⟨g, 7, none⟩ = some (.slice zA r.name.length zc) := HN9.out.fb.cell 7
          have f8 : V9.cell? ⟨g, 8, none⟩ = some (.slice yb r.data.bytes.length cb) := HN9.out.fb.cell 8
          have f9 : V9.cell? ⟨g, 9, none⟩ = some (.slice yh r.data.host.length ch) := HN9.out.fb.cell 9
          have f10 : V9.cell? ⟨g, 10, none⟩ = some (.slice ym r.data.mail.length cm) := HN9.out.fb.cell 10
          have f11 : V9.cell? ⟨g, 11, none⟩ = some (.slice (some ⟨gn, 0, none⟩) r.data.nums.length cn) := HN9.out.fb.cell 11
          have f12 : V9.cell? ⟨g, 12, none⟩ = some (.slice yt r.data.texts.length ct) := HN9.out.fb.cell 12
          have nn : V9.cell? ⟨w.heap.size, 0, none⟩ = some (.slice A n.length c) := HN9.out.nb.cell 0
          have HADD := Lib.hid (show Calls Tryz.prog 52 #[.pointer (some ⟨b, 0, none⟩), .slice A n.length c, .agg #[.slice none 0 0, .int .i64 T.q.kind, .int .i64 2, .int .i64 4, .int .i64 0, .int .i64 tt, .slice none 0 0, .slice zA r.name.length zc, .slice yb r.data.bytes.length cb, .slice yh r.data.host.length ch, .slice ym r.data.mail.length cm, .slice (some ⟨gn, 0, none⟩) r.data.nums.length cn, .slice yt r.data.texts.length ct]] V9 (fun e w' => e = .returned (.tuple #[]) ∧ TellOut w0 T b an au ex xs 1 V9 w') from
            HAPP.out V9 HN9.out.below ⟨none, 0, [], ⟨T.q.kind, 2, 4, 0, tt⟩, none, 0, [], zA, zc, r.name, ⟨yb, yh, ym, some ⟨gn, 0, none⟩, yt, cb, ch, cm, cn, ct⟩, r.data⟩
              ⟨own_mono HN9.out.z HSZ.out, HN9.out.d.monoB HSZ.out, World.ownsRow_nil _ _ _ _, fun _ h => absurd h (List.not_mem_nil)⟩
              ⟨HWQ.out, (show (Lit.int .i64 2).wf = true by decide), (show (Lit.int .i64 4).wf = true by decide), wf_i64 (show _ ≤ tt by have := HTT.out; omega) (show tt ≤ _ by have := HTT.out; omega), ⟨soundN_sz HRN.out, by have := sound_few HRN.out; show r.name.length ≤ 300; omega, soundN_wide HRN.out⟩, fun _ h => absurd h (List.not_mem_nil), sound_small HSD.out⟩
              (fun hf => HTOLD.out T.q.kind 2 4 tt (.inl rfl) hf))
          go_wp2_with (go_at_call 52; refine HADD.out.mono ?_; rintro e w9 ⟨rfl, v9, xs9, k1, k2, k3, k4⟩)
          first | go_end0 | refine bodyPost_ret (results_none rfl _ _ _) rfl ?_
          exact ⟨rfl, v9, xs9, k1, k2, (KeptT.below HN9.out.below).trans k3, Nat.le_trans HN9.out.below.size k4⟩)
    | false =>
      have HAA := Lib.hid haa
      clear haa
      go_wp2_with (first
        | (go_at_call 50; refine (HCM.out _ _).mono ?_; rintro e wx ⟨tt, rfl, htt, rfl⟩; have HTT := Lib.hid htt; clear htt)
        | (refine wpList_store_one rfl 3 (.tmp 58) (.tmp 57) rfl g 5 (.int .i64 tt) rfl rfl rfl int_oneT 40 _ HNO.out.fb _ rfl ?_
           intro V5 hV hG hZ5
           have HN5 := Lib.hid (show NoB w A c n g [.slice none 0 0, .int .i64 0, .int .i64 3, .int .i64 2, .int .i64 0, .int .i64 tt, .slice none 0 0, .slice zA r.name.length zc, .slice yb r.data.bytes.length cb, .slice yh r.data.host.length ch, .slice ym r.data.mail.length cm, .slice (some ⟨gn, 0, none⟩) r.data.nums.length cn, .slice yt r.data.texts.length ct] zA zc r.name ⟨yb, yh, ym, some ⟨gn, 0, none⟩, yt, cb, ch, cm, cn, ct⟩ r.data V5 from HNO.out.put hV hG)
           have c6 : V5.cell? ⟨b, 6, none⟩ = some (.bool false) := ((HT.out V5 HN5.out.below).blk.cell 6).trans (by rw [← HAA.out]; rfl)
           have c10 : V5.cell? ⟨b, 10, none⟩ = some (.int .i64 T.m.h.rc) := (HT.out V5 HN5.out.below).blk.cell 10
           clear hV hG hZ5))
      all_goals (
        refine (HRF.out _ HN5.out.below).mono ?_
        rintro e w7 ⟨bv, rfl, hb7⟩
        have HN7 := Lib.hid (HN5.out.step hb7)
        clear hb7
        cases bv with
        | true =>
          go_wp2
          first | go_end0 | refine bodyPost_ret (results_none rfl _ _ _) rfl ?_
          exact ⟨rfl, HFIN.out _ HN7.out.below⟩
        | false =>
          have HS12 := Lib.hid (show ∀ W, Below w.heap.size w W → W.cell? ⟨b, 1, none⟩ = some (.int .i64 T.q.kind) from fun W hb => (HT.out W hb).blk.cell 1)
          go_wp2
          refine wp_region_held_drew (S := fun W => W.cell? ⟨b, 1, none⟩ = some (.int .i64 T.q.kind)) (by kernel_rfl) (by exact HS12.out _ (HN7.out.step (Below.refl _ _).drew).below) (fun hHeld => ?_)
          refine wpAnyH_take (i := 0) (oi := ⟨some 73, _, _, _, _, _⟩) (v := ?_) rfl (by kernel_rfl) (by kernel_rfl) (by kernel_rfl) (fun _ _ _ h => h) (Or.inl ⟨by kernel_rfl, ?_⟩) (by assumption) ?_
          rotate_left
          · intro W hSw
            try dsimp only at hSw
            go_simp
            all_goals (with_reducible rfl)
          try simp only [Act.put, List.setIfInBounds_toArray, List.set_cons_zero, List.set_cons_succ]
          refine wpAnyH_take (i := 1) (oi := ⟨some 74, _, _, _, _, _⟩) (v := ?_) rfl (by kernel_rfl) (by kernel_rfl) (by kernel_rfl) (fun _ _ _ h => h) (Or.inl ⟨by kernel_rfl, ?_⟩) (by assumption) ?_
          rotate_left
          · intro W hSw
            try dsimp only at hSw
            go_simp
            all_goals (with_reducible rfl)
          try simp only [Act.put, List.setIfInBounds_toArray, List.set_cons_zero, List.set_cons_succ]
          refine wpAnyH_take (i := 2) (oi := ⟨some 75, _, _, _, _, _⟩) (v := ?_) rfl (by kernel_rfl) (by kernel_rfl) (by kernel_rfl) (fun _ _ _ h => h) (Or.inl ⟨by kernel_rfl, ?_⟩) (by assumption) ?_
          rotate_left
          · intro W hSw
            try dsimp only at hSw
            go_simp
            all_goals (with_reducible rfl)
          try simp only [Act.put, List.setIfInBounds_toArray, List.set_cons_zero, List.set_cons_succ]
          refine wpAnyH_take (i := 3) (oi := ⟨some 76, _, _, _, _, _⟩) (v := ?_) rfl (by kernel_rfl) (by kernel_rfl) (by kernel_rfl) (fun _ _ _ h => h) (Or.inl ⟨by kernel_rfl, ?_⟩) (by assumption) ?_
          rotate_left
          · intro W hSw
            try dsimp only at hSw
            go_simp
            all_goals (with_reducible rfl)
          try simp only [Act.put, List.setIfInBounds_toArray, List.set_cons_zero, List.set_cons_succ]
          refine wpAnyH_take (i := 4) (oi := ⟨some 77, _, _, _, _, _⟩) (v := ?_) rfl (by kernel_rfl) (by kernel_rfl) (by kernel_rfl) (fun _ _ _ h => h) (Or.inl ⟨by kernel_rfl, ?_⟩) (by assumption) ?_
          rotate_left
          · intro W hSw
            try dsimp only at hSw
            go_simp
            all_goals (with_reducible rfl)
          try simp only [Act.put, List.setIfInBounds_toArray, List.set_cons_zero, List.set_cons_succ]
          refine wpAnyH_take (i := 5) (oi := ⟨some 78, _, _, _, _, _⟩) (v := ?_) rfl (by kernel_rfl) (by kernel_rfl) (by kernel_rfl) (fun _ _ _ h => h) (Or.inl ⟨by kernel_rfl, ?_⟩) (by assumption) ?_
          rotate_left
          · intro W hSw
            try dsimp only at hSw
            go_simp
            all_goals (with_reducible rfl)
          try simp only [Act.put, List.setIfInBounds_toArray, List.set_cons_zero, List.set_cons_succ]
          refine wpAnyH_ready (rs := [6]) (by kernel_rfl) (by simp) ?_
          refine AllReadyH.cons (o := { dst := none, op := Go.Op.store 3 (Go.Operand.tmp 78) (Go.Operand.const (Go.Value.int Go.IntKind.i64 2)), type := 0, pos := "from.go:124", after := #[{ on := 5, ground := Go.Ground.data }, { on := 0, ground := Go.Ground.textOnly Go.Departure.lateStores }, { on := 1, ground := Go.Ground.textOnly Go.Departure.lateStores }, { on := 2, ground := Go.Ground.textOnly Go.Departure.lateStores }, { on := 3, ground := Go.Ground.textOnly Go.Departure.lateStores }, { on := 4, ground := Go.Ground.textOnly Go.Departure.lateStores }], guard := none }) rfl (fun K hK => ?_) AllReadyH.nil
          refine wp_store_one 3 (.tmp 78) (.const (.int .i64 2)) rfl g 2 (.int .i64 2) rfl rfl rfl int_oneT 40 _ (HN7.out.step (Below.refl _ _).drew).fb _ rfl ?_
          intro V8 hV hG hZ8
          have HN8 := Lib.hid ((HN7.out.step (Below.refl _ _).drew).put hV hG)
          clear hV hG hZ8
          refine hK.out _ _ (by exact HS12.out _ HN8.out.below) (fun hHeld2 => ?_)
          clear hK K hHeld
          have hHeld := hHeld2
          clear hHeld2
          try simp only [Act.put]
          refine wpAnyH_take (i := 7) (oi := ⟨some 79, _, _, _, _, _⟩) (v := ?_) rfl (by kernel_rfl) (by kernel_rfl) (by kernel_rfl) (fun _ _ _ h => h) (Or.inl ⟨by kernel_rfl, ?_⟩) (by assumption) ?_
          rotate_left
          · intro W hSw
            try dsimp only at hSw
            go_simp
            all_goals (with_reducible rfl)
          try simp only [Act.put, List.setIfInBounds_toArray, List.set_cons_zero, List.set_cons_succ]
          refine wpAnyH_ready (rs := [8]) (by kernel_rfl) (by simp) ?_
          refine AllReadyH.cons (o := { dst := none, op := Go.Op.store 3 (Go.Operand.tmp 79) (Go.Operand.tmp 77), type := 0, pos := "from.go:124", after := #[{ on := 7, ground := Go.Ground.data }, { on := 4, ground := Go.Ground.data }, { on := 6, ground := Go.Ground.chain }, { on := 0, ground := Go.Ground.phase }, { on := 1, ground := Go.Ground.phase }, { on := 2, ground := Go.Ground.phase }, { on := 3, ground := Go.Ground.phase }, { on := 4, ground := Go.Ground.phase }, { on := 5, ground := Go.Ground.phase }, { on := 6, ground := Go.Ground.phase }], guard := none }) rfl (fun K hK => ?_) AllReadyH.nil
          refine wp_store_one 3 (.tmp 79) (.tmp 77) rfl g 1 (.int .i64 T.q.kind) rfl rfl rfl int_oneT 40 _ HN8.out.fb _ rfl ?_
          intro V9 hV hG hZ9
          have HN9 := Lib.hid (show NoB w A c n g [.slice none 0 0, .int .i64 T.q.kind, .int .i64 2, .int .i64 2, .int .i64 0, .int .i64 tt, .slice none 0 0, .slice zA r.name.length zc, .slice yb r.data.bytes.length cb, .slice yh r.data.host.length ch, .slice ym r.data.mail.length cm, .slice (some ⟨gn, 0, none⟩) r.data.nums.length cn, .slice yt r.data.texts.length ct] zA zc r.name ⟨yb, yh, ym, some ⟨gn, 0, none⟩, yt, cb, ch, cm, cn, ct⟩ r.data V9 from HN8.out.put hV hG)
          clear hV hG hZ9
          refine hK.out _ _ (by exact HS12.out _ HN9.out.below) (fun hHeld2 => ?_)
          clear hK K hHeld
          have hHeld := hHeld2
          clear hHeld2
          try simp only [Act.put]
          refine wpAnyH_done (by kernel_rfl) ?_ _
          have f0 : V9.cell? ⟨g, 0, none⟩ = some (.slice none 0 0) := HN9.out.fb.cell 0
          have f1 : V9.cell? ⟨g, 1, none⟩ = some (.int .i64 T.q.kind) := HN9.out.fb.cell 1
          have f2 : V9.cell? ⟨g, 2, none⟩ = some (.int .i64 2) := HN9.out.fb.cell 2
          have f3 : V9.cell? ⟨g, 3, none⟩ = some (.int .i64 2) := HN9.out.fb.cell 3
          have f4 : V9.cell? ⟨g, 4, none⟩ = some (.int .i64 0) := HN9.out.fb.cell 4
          have f5 : V9.cell? ⟨g, 5, none⟩ = some (.int .i64 tt) := HN9.out.fb.cell 5
          have f6 : V9.cell? ⟨g, 6, none⟩ = some (.slice none 0 0) := HN9.out.fb.cell 6
          have f7 : V9.cell? ⟨g, 7, none⟩ = some (.slice zA r.name.length zc) := HN9.out.fb.cell 7
          have f8 : V9.cell? ⟨g, 8, none⟩ = some (.slice yb r.data.bytes.length cb) := HN9.out.fb.cell 8
          have f9 : V9.cell? ⟨g, 9, none⟩ = some (.slice yh r.data.host.length ch) := HN9.out.fb.cell 9
          have f10 : V9.cell? ⟨g, 10, none⟩ = some (.slice ym r.data.mail.length cm) := HN9.out.fb.cell 10
          have f11 : V9.cell? ⟨g, 11, none⟩ = some (.slice (some ⟨gn, 0, none⟩) r.data.nums.length cn) := HN9.out.fb.cell 11
          have f12 : V9.cell? ⟨g, 12, none⟩ = some (.slice yt r.data.texts.length ct) := HN9.out.fb.cell 12
          have nn : V9.cell? ⟨w.heap.size, 0, none⟩ = some (.slice A n.length c) := HN9.out.nb.cell 0
          have HADD := Lib.hid (show Calls Tryz.prog 52 #[.pointer (some ⟨b, 0, none⟩), .slice A n.length c, .agg #[.slice none 0 0, .int .i64 T.q.kind, .int .i64 2, .int .i64 2, .int .i64 0, .int .i64 tt, .slice none 0 0, .slice zA r.name.length zc, .slice yb r.data.bytes.length cb, .slice yh r.data.host.length ch, .slice ym r.data.mail.length cm, .slice (some ⟨gn, 0, none⟩) r.data.nums.length cn, .slice yt r.data.texts.length ct]] V9 (fun e w' => e = .returned (.tuple #[]) ∧ TellOut w0 T b an au ex xs 1 V9 w') from
            HAPP.out V9 HN9.out.below ⟨none, 0, [], ⟨T.q.kind, 2, 2, 0, tt⟩, none, 0, [], zA, zc, r.name, ⟨yb, yh, ym, some ⟨gn, 0, none⟩, yt, cb, ch, cm, cn, ct⟩, r.data⟩
              ⟨own_mono HN9.out.z HSZ.out, HN9.out.d.monoB HSZ.out, World.ownsRow_nil _ _ _ _, fun _ h => absurd h (List.not_mem_nil)⟩
              ⟨HWQ.out, (show (Lit.int .i64 2).wf = true by decide), (show (Lit.int .i64 2).wf = true by decide), wf_i64 (show _ ≤ tt by have := HTT.out; omega) (show tt ≤ _ by have := HTT.out; omega), ⟨soundN_sz HRN.out, by have := sound_few HRN.out; show r.name.length ≤ 300; omega, soundN_wide HRN.out⟩, fun _ h => absurd h (List.not_mem_nil), sound_small HSD.out⟩
              (fun hf => HTOLD.out T.q.kind 2 2 tt (.inl rfl) hf))
          go_wp2_with (go_at_call 52; refine HADD.out.mono ?_; rintro e w9 ⟨rfl, v9, xs9, k1, k2, k3, k4⟩)
          first | go_end0 | refine bodyPost_ret (results_none rfl _ _ _) rfl ?_
          exact ⟨rfl, v9, xs9, k1, k2, (KeptT.below HN9.out.below).trans k3, Nat.le_trans HN9.out.below.size k4⟩)

end Go.Proofs.YthppgofpbpjglaaGreat

namespace Go.Proofs.YthppgofpbpjglaaGreat
open Go.RowKit

theorem ptr_notT : ¬ teT 50 := by unfold teT; decide
def ReferRel (w0 w : World) (T : Te) (b : Nat) (an au ex : Sec) (xs : List FV) (m : Nat) (i : Value) (wr : World) : Prop :=
  ∃ (j : Nat) (v' : Value) (xs' : List FV), j ≤ m ∧ i = .int .i64 j ∧ TAt w0 T b an au ex v' xs' wr ∧ xs'.length ≤ xs.length + 2 * j ∧ KeptT w wr ∧ w.heap.size ≤ wr.heap.size

set_option maxRecDepth 20000 in
set_option maxHeartbeats 16000000 in
theorem referral_any (w0 w : World) (T : Te) (b : Nat) (an au ex : Sec) (v : Value) (xs : List FV) (h : TAt w0 T b an au ex v xs w) (ok : TeOk w0 T) (hs : SecOk w0 T au T.m.msg.au) (hx : SecOk w0 T ex T.m.msg.ex) (hl : xs.length ≤ 7000) :
    Calls Tryz.prog 19 #[.pointer (some ⟨b, 0, none⟩)] w (fun e w' => e = .returned (.tuple #[]) ∧ TellOut w0 T b an au ex xs 2001 w w') := by
  have hsm := hs.small ok (fun r hr => au_all hr)
  have HL := Lib.hid hl
  have HN1 := Lib.hid ((Below.refl w.heap.size w).alloc (Nat.le_refl _) (.cells #[.pointer (some ⟨b, 0, none⟩)] 50))
  have HTB := Lib.hid (Whole.made w [.pointer (some ⟨b, 0, none⟩)] 50)
  have HT := Lib.hid (fun W (hb : Below w.heap.size w W) => h.step hb)
  have HFIN := Lib.hid (show ∀ W, Below w.heap.size w W → TellOut w0 T b an au ex xs 2001 w W from fun W hb => ⟨v, xs, h.step hb, Nat.le_add_right _ _, KeptT.below hb, hb.size⟩)
  have HIX := Lib.hid (show Calls Tryz.prog 46 #[.slice au.A au.ps.length au.c, .func (.func 53) #[] #[.pointer (some ⟨w.heap.size, 0, none⟩)]] (w.alloc (.cells #[.pointer (some ⟨b, 0, none⟩)] 50)) (FoundR (w.alloc (.cells #[.pointer (some ⟨b, 0, none⟩)] 50)) au.ps anyR) from
    index_referral (w.alloc (.cells #[.pointer (some ⟨b, 0, none⟩)] 50)) w.heap.size au.A au.c au.ps (secRs hs (h.step HN1.out).au (h.step HN1.out).below) hs.n (fun W hb p hp => referral1_any w0 W T b w.heap.size an au ex v xs (h.step (HN1.out.trans (hb.mono HN1.out.size))) ok (HTB.out.below hb HTB.out.lt) p.1 p.2
      (((hs.r p hp).below ((h.step HN1.out).below.trans (hb.mono (h.step HN1.out).size))).mono (Nat.le_trans (h.step HN1.out).size hb.size)) (hsm p hp).1.n))
  have HSEC := Lib.hid (fun W (hb : Below w.heap.size w W) => secRs hs (h.step hb).au (h.step hb).below)
  have HSM := Lib.hid hsm
  have HRO := Lib.hid hs.r
  have HAL := Lib.hid hs.n
  have HSU := Lib.hid (fun (W : World) (v' : Value) (xs' : List FV) (ht : TAt w0 T b an au ex v' xs' W) (hl : xs'.length ≤ 10000) (A : Option Addr) (c : Nat) (n : List (List UInt8)) (hh : Held w0 W A c n) (hn : soundN n = true) =>
    set_anyT w0 W T b an au ex v' xs' ht ok hl au T.m.msg.au hs (fun r hr => au_all hr) ht.au A c n hh hn 2 2 (by decide) (by decide))
  have HSE := Lib.hid (fun (W : World) (v' : Value) (xs' : List FV) (ht : TAt w0 T b an au ex v' xs' W) (hl : xs'.length ≤ 10000) (A : Option Addr) (c : Nat) (n : List (List UInt8)) (hh : Held w0 W A c n) (hn : soundN n = true) (kind : Int) (hk : (Lit.int .i64 kind).wf = true) =>
    set_anyT w0 W T b an au ex v' xs' ht ok hl ex T.m.msg.ex hx (fun r hr => ex_all hr) ht.ex A c n hh hn kind 1 hk (by decide))
  have HHOST := Lib.hid (fun (q : DV × Dt) ⦃n : List (List UInt8)⦄ (hq : q.2 ∈ (setF (recs au.ps) n 2).1) => shN_host2 (.inr rfl) (setF_sound (fun p hp => (hsm p hp).1) hq))
  have HLS := Lib.hid (fun (n : List (List UInt8)) => (show (setF (recs au.ps) n 2).1.length ≤ 1000 from Nat.le_trans (setF_len _ _ _) (by rw [length_recs]; exact hs.n)))
  have HSZ := Lib.hid h.size
  have c12 : (w.alloc (.cells #[.pointer (some ⟨b, 0, none⟩)] 50)).cell? ⟨b, 12, none⟩ = some (.slice T.m.s0.A T.m.s0.ps.length T.m.s0.c) := (h.step HN1.out).blk.cell 12
  have c10 : (w.alloc (.cells #[.pointer (some ⟨b, 0, none⟩)] 50)).cell? ⟨b, 10, none⟩ = some (.int .i64 T.m.h.rc) := (h.step HN1.out).blk.cell 10
  have c20 : (w.alloc (.cells #[.pointer (some ⟨b, 0, none⟩)] 50)).cell? ⟨b, 20, none⟩ = some (.slice au.A au.ps.length au.c) := (h.step HN1.out).blk.cell 20
  clear h ok hs hx hsm hl
  by_cases k0 : 0 < T.m.s0.ps.length
  · have t0 : decide ((0 : Int) < (T.m.s0.ps.length : Int)) = true := decide_eq_true (by omega)
    go_enter Tryz.func19, Tryz.ntmps19
    go_wp2
    first | go_end0 | refine bodyPost_ret (results_none rfl _ _ _) rfl ?_
    exact ⟨rfl, HFIN.out _ HN1.out⟩
  have t0 : decide ((0 : Int) < (T.m.s0.ps.length : Int)) = false := decide_eq_false (by omega)
  by_cases k3 : T.m.h.rc = 3
  · have t3 : (T.m.h.rc == 3) = true := by rw [k3]; rfl
    clear k3
    go_enter Tryz.func19, Tryz.ntmps19
    go_wp2
    first | go_end0 | refine bodyPost_ret (results_none rfl _ _ _) rfl ?_
    exact ⟨rfl, HFIN.out _ HN1.out⟩
  have t3 : (T.m.h.rc == 3) = false := by rw [beq_eq_false_iff_ne]; exact k3
  clear k3
  go_enter Tryz.func19, Tryz.ntmps19
  go_wp2_with fail
  refine HIX.out.mono ?_
  rintro e w1 ⟨i, rfl, hi, hb1⟩
  have HB1 := Lib.hid (HN1.out.trans (hb1.mono HN1.out.size))
  have HTB1 := Lib.hid (HTB.out.below hb1 HTB.out.lt)
  have d0 : w1.cell? ⟨w.heap.size, 0, none⟩ = some (.pointer (some ⟨b, 0, none⟩)) := HTB1.out.cell 0
  have d20 : w1.cell? ⟨b, 20, none⟩ = some (.slice au.A au.ps.length au.c) := (HT.out _ HB1.out).blk.cell 20
  clear hb1 HIX c20 c12 c10 HN1 HTB t0 t3 k0
  rcases hi with rfl | ⟨k, hk, rfl, hany⟩
  · go_wp2
    first | go_end0 | refine bodyPost_ret (results_none rfl _ _ _) rfl ?_
    exact ⟨rfl, HFIN.out _ HB1.out⟩
  have t0 : decide ((k : Int) < 0) = false := decide_eq_false (by omega)
  clear hany
  obtain ⟨bp, off, hA, hbH, hra0, q0, hrest⟩ := (HSEC.out w1 HB1.out).at_ hk
  have HRA := Lib.hid (HRO.out _ (List.getElem_mem hk))
  have HSR := Lib.hid (HSM.out _ (List.getElem_mem hk))
  clear hra0 hrest
  revert q0 HRA HSR
  generalize au.ps[k] = p
  obtain ⟨x, r⟩ := p
  intro q0 HRA HSR
  dsimp only at *
  have s1 : (0 : Int) ≤ (k : Int) := by omega
  have s2 : (k : Int) < (au.ps.length : Int) := by omega
  have HTW := Lib.hid (HT.out w1 HB1.out)
  have HHE := Lib.hid (show ∀ W, Held w0 W x.A x.c r.name from fun W => .inl ⟨HRA.out.n, HRA.out.l⟩)
  have HSX5 := Lib.hid (fun W (hb : Below w1.heap.size w1 W) => HSU.out W v xs (HTW.out.step hb) (by have := HL.out; omega) x.A x.c r.name (HHE.out W) HSR.out.1.n)
  have HS5 := Lib.hid (show ∀ W (_ : Below w1.heap.size w1 W), (W.cell? ⟨w.heap.size, 0, none⟩ = some (.pointer (some ⟨b, 0, none⟩)) ∧ W.cell? ⟨b, 20, none⟩ = some (.slice au.A au.ps.length au.c)) from fun W hb => ⟨(HTB1.out.below hb HTB1.out.lt).cell 0, (HTW.out.step hb).blk.cell 20⟩)
  rw [hA] at d20
  go_wp2
  clear d0 d20 q0 t0 s1 s2 hA hbH hk
  refine wp_region_held_drew (S := fun W => (W.cell? ⟨w.heap.size, 0, none⟩ = some (.pointer (some ⟨b, 0, none⟩)) ∧ W.cell? ⟨b, 20, none⟩ = some (.slice au.A au.ps.length au.c))) (by kernel_rfl) (by exact HS5.out _ (Below.refl _ _).drew) (fun hHeld => ?_)
  refine wpAnyH_take (i := 0) (oi := ⟨some 37, _, _, _, _, _⟩) (v := ?_) rfl (by kernel_rfl) (by kernel_rfl) (by kernel_rfl) (fun _ _ _ h => h) (Or.inl ⟨by kernel_rfl, ?_⟩) (by assumption) ?_
  rotate_left
  · intro W hSw
    try dsimp only at hSw
    go_simp
    all_goals (with_reducible rfl)
  try simp only [Act.put, List.setIfInBounds_toArray, List.set_cons_zero, List.set_cons_succ]
  refine wpAnyH_take (i := 1) (oi := ⟨some 38, _, _, _, _, _⟩) (v := ?_) rfl (by kernel_rfl) (by kernel_rfl) (by kernel_rfl) (fun _ _ _ h => h) (Or.inl ⟨by kernel_rfl, ?_⟩) (by assumption) ?_
  rotate_left
  · intro W hSw
    try dsimp only at hSw
    go_simp
    all_goals (with_reducible rfl)
  try simp only [Act.put, List.setIfInBounds_toArray, List.set_cons_zero, List.set_cons_succ]
  refine wpAnyH_take (i := 2) (oi := ⟨some 39, _, _, _, _, _⟩) (v := ?_) rfl (by kernel_rfl) (by kernel_rfl) (by kernel_rfl) (fun _ _ _ h => h) (Or.inl ⟨by kernel_rfl, ?_⟩) (by assumption) ?_
  rotate_left
  · intro W hSw
    try dsimp only at hSw
    go_simp
    all_goals (with_reducible rfl)
  try simp only [Act.put, List.setIfInBounds_toArray, List.set_cons_zero, List.set_cons_succ]
  refine wpAnyH_take (i := 3) (oi := ⟨some 40, _, _, _, _, _⟩) (v := ?_) rfl (by kernel_rfl) (by kernel_rfl) (by kernel_rfl) (fun _ _ _ h => h) (Or.inl ⟨by kernel_rfl, ?_⟩) (by assumption) ?_
  rotate_left
  · intro W hSw
    try dsimp only at hSw
    go_simp
    all_goals (with_reducible rfl)
  try simp only [Act.put, List.setIfInBounds_toArray, List.set_cons_zero, List.set_cons_succ]
  refine wpAnyH_take (i := 4) (oi := ⟨some 41, _, _, _, _, _⟩) (v := ?_) rfl (by kernel_rfl) (by kernel_rfl) (by kernel_rfl) (fun _ _ _ h => h) (Or.inl ⟨by kernel_rfl, ?_⟩) (by assumption) ?_
  rotate_left
  · intro W hSw
    try dsimp only at hSw
    go_simp
    all_goals (with_reducible rfl)
  try simp only [Act.put, List.setIfInBounds_toArray, List.set_cons_zero, List.set_cons_succ]
  refine wpAnyH_take (i := 5) (oi := ⟨some 42, _, _, _, _, _⟩) (v := ?_) rfl (by kernel_rfl) (by kernel_rfl) (by kernel_rfl) (fun _ _ _ h => h) (Or.inl ⟨by kernel_rfl, ?_⟩) (by assumption) ?_
  rotate_left
  · intro W hSw
    try dsimp only at hSw
    go_simp
    all_goals (with_reducible rfl)
  try simp only [Act.put, List.setIfInBounds_toArray, List.set_cons_zero, List.set_cons_succ]
  refine wpAnyH_take (i := 8) (oi := ⟨some 45, _, _, _, _, _⟩) (v := ?_) rfl (by kernel_rfl) (by kernel_rfl) (by kernel_rfl) (fun _ _ _ h => h) (Or.inl ⟨by kernel_rfl, ?_⟩) (by assumption) ?_
  rotate_left
  · intro W hSw
    try dsimp only at hSw
    go_simp
    all_goals (with_reducible rfl)
  try simp only [Act.put, List.setIfInBounds_toArray, List.set_cons_zero, List.set_cons_succ]
  refine wpAnyH_ready (rs := [6]) (by kernel_rfl) (by simp) ?_
  refine AllReadyH.cons (o := { dst := some 43, op := Go.Op.call { callee := Go.Callee.value (Go.Operand.func 45), args := #[Go.Operand.tmp 37, Go.Operand.tmp 41, Go.Operand.tmp 42, Go.Operand.const (Go.Value.int Go.IntKind.i64 2), Go.Operand.const (Go.Value.int Go.IntKind.i64 2)], argTypes := #[50, 26, 22, 3, 3] }, type := 34, pos := "from.go:150", after := #[{ on := 0, ground := Go.Ground.data }, { on := 4, ground := Go.Ground.data }, { on := 5, ground := Go.Ground.data }], guard := none }) rfl (fun K hK => ?_) AllReadyH.nil
  go_simp
  refine (HSX5.out _ (Below.refl _ _).drew).mono ?_
  rintro e w5 ⟨sA, sc, qs, rfl, hq64, hg, v5, xs5, ht5, hl5, hk5, hz5⟩
  have HG := Lib.hid hg
  have HT5 := Lib.hid ht5
  have HL5 := Lib.hid hl5
  have HK5 := Lib.hid (show KeptT w1 w5 from (KeptT.below (Below.refl _ _).drew).trans hk5)
  have HZ5 := Lib.hid (show w1.heap.size ≤ w5.heap.size from hz5)
  have HTB5 := Lib.hid (HK5.out.whole HTB1.out ptr_notT)
  have HS5 := Lib.hid (show (w5.cell? ⟨w.heap.size, 0, none⟩ = some (.pointer (some ⟨b, 0, none⟩)) ∧ w5.cell? ⟨b, 20, none⟩ = some (.slice au.A au.ps.length au.c)) from ⟨HTB5.out.cell 0, HT5.out.blk.cell 20⟩)
  have hcap := own_cap hg.1
  have hcz := own_capZ hg.1
  clear hg ht5 hl5 hk5 hz5
  refine hK.out _ _ (by exact HS5.out) (fun hHeld2 => ?_)
  clear hK K hHeld
  have hHeld := hHeld2
  clear hHeld2
  try simp only [Act.put, List.setIfInBounds_toArray, List.set_cons_zero, List.set_cons_succ]
  refine wpAnyH_take (i := 7) (oi := ⟨some 44, _, _, _, _, _⟩) (v := ?_) rfl (by kernel_rfl) (by kernel_rfl) (by kernel_rfl) (fun _ _ _ h => h) (Or.inl ⟨by kernel_rfl, ?_⟩) (by assumption) ?_
  rotate_left
  · intro W hSw
    try dsimp only at hSw
    go_simp
    all_goals (with_reducible rfl)
  try simp only [Act.put, List.setIfInBounds_toArray, List.set_cons_zero, List.set_cons_succ]
  refine wpAnyH_done (by kernel_rfl) ?_ _
  clear HS5 HSX5 HSU
  unfold maxLen at hcz
  go_wp2
  go_loopw [45] (ReferRel w0 w5 T b an au ex xs5 qs.length) (fun i _ => qs.length - (intOf i).toNat)
  case atStart => exact ⟨0, v5, xs5, Nat.zero_le _, rfl, HT5.out, Nat.le_refl _, KeptT.refl _, Nat.le_refl _⟩
  case round =>
    obtain ⟨j, v', xs', hj, rfl, ht, hlx, hk, hz⟩ := hrel
    have HTR := Lib.hid ht
    have HLX := Lib.hid hlx
    have HK := Lib.hid hk
    have HZ := Lib.hid hz
    clear ht hlx hk hz
    by_cases hlt : j < qs.length
    · have HGR := Lib.hid (HG.out.kept HK.out)
      have HDS := Lib.hid (show DsAt wr wr.heap.size sA qs from ⟨Row.of_own HGR.out.1, fun q hq => (HGR.out.2.1 q hq).at_⟩)
      obtain ⟨bq, of2, hsA, hbH2, hra, q0, q1, q2, q3, q4⟩ := HDS.out.at_ hlt
      subst hsA
      have HOW := Lib.hid (HGR.out.2.1 _ (List.getElem_mem hlt))
      have HSH := Lib.hid (HHOST.out _ (HGR.out.2.2 _ (List.getElem_mem hlt)))
      revert hra q0 q1 q2 q3 q4 HOW HSH
      generalize qs[j] = p
      obtain ⟨y, d⟩ := p
      intro hra q0 q1 q2 q3 q4 HOW HSH
      dsimp only at *
      clear hra hbH2 HDS HGR
      have HNEW := Lib.hid ((Below.refl wr.heap.size wr).alloc (Nat.le_refl _) (.cells #[.slice y.Ab d.bytes.length y.cb, .slice y.Ah d.host.length y.ch, .slice y.Am d.mail.length y.cm, .slice y.An d.nums.length y.cn, .slice y.At d.texts.length y.ct] 38))
      have HWB := Lib.hid (Whole.made wr (cellsD (y, d)) 38)
      have HHD := Lib.hid (show Held w0 wr y.Ah y.ch d.host from .inr HOW.out.h)
      have HTBR := Lib.hid (HK.out.whole HTB5.out ptr_notT)
      have HUN := Lib.hid (under_any y.Ah x.A d.host.length r.name.length y.ch x.c (wr.alloc (.cells #[.slice y.Ab d.bytes.length y.cb, .slice y.Ah d.host.length y.ch, .slice y.Am d.mail.length y.cm, .slice y.An d.nums.length y.cn, .slice y.At d.texts.length y.ct] 38)).heap.size d.host r.name (wr.alloc (.cells #[.slice y.Ab d.bytes.length y.cb, .slice y.Ah d.host.length y.ch, .slice y.Am d.mail.length y.cm, .slice y.An d.nums.length y.cn, .slice y.At d.texts.length y.ct] 38)) rfl rfl ((HHD.out.step HNEW.out).row (HTR.out.step HNEW.out).below) (((HHE.out (wr.alloc (.cells #[.slice y.Ab d.bytes.length y.cb, .slice y.Ah d.host.length y.ch, .slice y.Am d.mail.length y.cm, .slice y.An d.nums.length y.cn, .slice y.At d.texts.length y.ct] 38)))).row (HTR.out.step HNEW.out).below) (Nat.le_refl _) (soundN_sz HSH.out) (soundN_sz HSR.out.1.n) HHD.out.cap)
      go_wp2_with fail
      refine HUN.out.mono ?_
      rintro e w7 ⟨rfl, hb7⟩
      have HB7 := Lib.hid (HNEW.out.trans (hb7.mono HNEW.out.size))
      have HWB7 := Lib.hid (HWB.out.below hb7 HWB.out.lt)
      have HT7 := Lib.hid (HTR.out.step HB7.out)
      clear hb7 HUN
      cases e1 : underN d.host r.name with
      | false =>
        go_wp2
        exact ⟨⟨j + 1, v', xs', by omega, by go_num, HT7.out, by have := HLX.out; omega, HK.out.trans (KeptT.below HB7.out), Nat.le_trans HZ.out HB7.out.size⟩, by simp [intOf]; omega⟩
      | true =>
        have HTB7 := Lib.hid (HTBR.out.below HB7.out HTBR.out.lt)
        have HSX9 := Lib.hid (fun W (hb : Below w7.heap.size w7 W) => HSE.out W v' xs' (HT7.out.step hb) (by have h1 := HLX.out; have h2 := HL5.out; have h3 := HL.out; omega) y.Ah y.ch d.host ((HHD.out.step HB7.out).step hb) HSH.out 1 (by decide))
        have HS9 := Lib.hid (show ∀ (W : World), KeptT w7 W → (∃ v2 xs2, TAt w0 T b an au ex v2 xs2 W) → (W.cell? ⟨w.heap.size, 0, none⟩ = some (.pointer (some ⟨b, 0, none⟩)) ∧ W.cell? ⟨b, 21, none⟩ = some (.slice ex.A ex.ps.length ex.c) ∧ W.cell? ⟨wr.heap.size, 1, none⟩ = some (.slice y.Ah d.host.length y.ch)) from fun W hk ⟨_, _, ht⟩ => ⟨(hk.whole HTB7.out ptr_notT).cell 0, ht.blk.cell 21, (hk.whole HWB7.out dat_notT).cell 1⟩)
        go_wp2
        refine wp_region_held_drew (S := fun W => (W.cell? ⟨w.heap.size, 0, none⟩ = some (.pointer (some ⟨b, 0, none⟩)) ∧ W.cell? ⟨b, 21, none⟩ = some (.slice ex.A ex.ps.length ex.c) ∧ W.cell? ⟨wr.heap.size, 1, none⟩ = some (.slice y.Ah d.host.length y.ch))) (by kernel_rfl) (by exact HS9.out _ (KeptT.below (Below.refl _ _).drew) ⟨_, _, HT7.out.step (Below.refl _ _).drew⟩) (fun hHeld => ?_)
        refine wpAnyH_take (i := 0) (oi := ⟨some 53, _, _, _, _, _⟩) (v := ?_) rfl (by kernel_rfl) (by kernel_rfl) (by kernel_rfl) (fun _ _ _ h => h) (Or.inl ⟨by kernel_rfl, ?_⟩) (by assumption) ?_
        rotate_left
        · intro W hSw
          try dsimp only at hSw
          go_simp
          all_goals (with_reducible rfl)
        try simp only [Act.put, List.setIfInBounds_toArray, List.set_cons_zero, List.set_cons_succ]
        refine wpAnyH_take (i := 1) (oi := ⟨some 54, _, _, _, _, _⟩) (v := ?_) rfl (by kernel_rfl) (by kernel_rfl) (by kernel_rfl) (fun _ _ _ h => h) (Or.inl ⟨by kernel_rfl, ?_⟩) (by assumption) ?_
        rotate_left
        · intro W hSw
          try dsimp only at hSw
          go_simp
          all_goals (with_reducible rfl)
        try simp only [Act.put, List.setIfInBounds_toArray, List.set_cons_zero, List.set_cons_succ]
        refine wpAnyH_take (i := 2) (oi := ⟨some 55, _, _, _, _, _⟩) (v := ?_) rfl (by kernel_rfl) (by kernel_rfl) (by kernel_rfl) (fun _ _ _ h => h) (Or.inl ⟨by kernel_rfl, ?_⟩) (by assumption) ?_
        rotate_left
        · intro W hSw
          try dsimp only at hSw
          go_simp
          all_goals (with_reducible rfl)
        try simp only [Act.put, List.setIfInBounds_toArray, List.set_cons_zero, List.set_cons_succ]
        refine wpAnyH_take (i := 3) (oi := ⟨some 56, _, _, _, _, _⟩) (v := ?_) rfl (by kernel_rfl) (by kernel_rfl) (by kernel_rfl) (fun _ _ _ h => h) (Or.inl ⟨by kernel_rfl, ?_⟩) (by assumption) ?_
        rotate_left
        · intro W hSw
          try dsimp only at hSw
          go_simp
          all_goals (with_reducible rfl)
        try simp only [Act.put, List.setIfInBounds_toArray, List.set_cons_zero, List.set_cons_succ]
        refine wpAnyH_take (i := 4) (oi := ⟨some 57, _, _, _, _, _⟩) (v := ?_) rfl (by kernel_rfl) (by kernel_rfl) (by kernel_rfl) (fun _ _ _ h => h) (Or.inl ⟨by kernel_rfl, ?_⟩) (by assumption) ?_
        rotate_left
        · intro W hSw
          try dsimp only at hSw
          go_simp
          all_goals (with_reducible rfl)
        try simp only [Act.put, List.setIfInBounds_toArray, List.set_cons_zero, List.set_cons_succ]
        refine wpAnyH_take (i := 5) (oi := ⟨some 58, _, _, _, _, _⟩) (v := ?_) rfl (by kernel_rfl) (by kernel_rfl) (by kernel_rfl) (fun _ _ _ h => h) (Or.inl ⟨by kernel_rfl, ?_⟩) (by assumption) ?_
        rotate_left
        · intro W hSw
          try dsimp only at hSw
          go_simp
          all_goals (with_reducible rfl)
        try simp only [Act.put, List.setIfInBounds_toArray, List.set_cons_zero, List.set_cons_succ]
        refine wpAnyH_take (i := 6) (oi := ⟨some 59, _, _, _, _, _⟩) (v := ?_) rfl (by kernel_rfl) (by kernel_rfl) (by kernel_rfl) (fun _ _ _ h => h) (Or.inl ⟨by kernel_rfl, ?_⟩) (by assumption) ?_
        rotate_left
        · intro W hSw
          try dsimp only at hSw
          go_simp
          all_goals (with_reducible rfl)
        try simp only [Act.put, List.setIfInBounds_toArray, List.set_cons_zero, List.set_cons_succ]
        refine wpAnyH_ready (rs := [7]) (by kernel_rfl) (by simp) ?_
        refine AllReadyH.cons (o := { dst := some 60, op := Go.Op.call { callee := Go.Callee.value (Go.Operand.func 45), args := #[Go.Operand.tmp 53, Go.Operand.tmp 57, Go.Operand.tmp 59, Go.Operand.const (Go.Value.int Go.IntKind.i64 1), Go.Operand.const (Go.Value.int Go.IntKind.i64 1)], argTypes := #[50, 26, 22, 3, 3] }, type := 34, pos := "from.go:152", after := #[{ on := 0, ground := Go.Ground.data }, { on := 4, ground := Go.Ground.data }, { on := 6, ground := Go.Ground.data }], guard := none }) rfl (fun K hK => ?_) AllReadyH.nil
        go_simp
        refine (HSX9.out _ (Below.refl _ _).drew).mono ?_
        rintro e w9 ⟨A9, c9, qs9, rfl, _, _, v9, xs9, ht9, hl9, hk9, hz9⟩
        have HT9 := Lib.hid ht9
        have HL9 := Lib.hid hl9
        have HK9 := Lib.hid (show KeptT w7 w9 from (KeptT.below (Below.refl _ _).drew).trans hk9)
        have HZ9 := Lib.hid (show w7.heap.size ≤ w9.heap.size from hz9)
        clear ht9 hl9 hk9 hz9
        refine hK.out _ _ (by exact HS9.out _ HK9.out ⟨_, _, HT9.out⟩) (fun hHeld2 => ?_)
        clear hK K hHeld
        have hHeld := hHeld2
        clear hHeld2
        try simp only [Act.put, List.setIfInBounds_toArray, List.set_cons_zero, List.set_cons_succ]
        refine wpAnyH_done (by kernel_rfl) ?_ _
        have HSX10 := Lib.hid (fun W (hb : Below w9.heap.size w9 W) => HSE.out W v9 xs9 (HT9.out.step hb) (by have h0 := HL9.out; have h1 := HLX.out; have h2 := HL5.out; have h3 := HL.out; omega) y.Ah y.ch d.host (((HHD.out.step HB7.out).kept HK9.out).step hb) HSH.out 28 (by decide))
        go_wp2
        refine wp_region_held_drew (S := fun W => (W.cell? ⟨w.heap.size, 0, none⟩ = some (.pointer (some ⟨b, 0, none⟩)) ∧ W.cell? ⟨b, 21, none⟩ = some (.slice ex.A ex.ps.length ex.c) ∧ W.cell? ⟨wr.heap.size, 1, none⟩ = some (.slice y.Ah d.host.length y.ch))) (by kernel_rfl) (by exact HS9.out _ (HK9.out.trans (KeptT.below (Below.refl _ _).drew)) ⟨_, _, HT9.out.step (Below.refl _ _).drew⟩) (fun hHeld => ?_)
        refine wpAnyH_take (i := 0) (oi := ⟨some 61, _, _, _, _, _⟩) (v := ?_) rfl (by kernel_rfl) (by kernel_rfl) (by kernel_rfl) (fun _ _ _ h => h) (Or.inl ⟨by kernel_rfl, ?_⟩) (by assumption) ?_
        rotate_left
        · intro W hSw
          try dsimp only at hSw
          go_simp
          all_goals (with_reducible rfl)
        try simp only [Act.put, List.setIfInBounds_toArray, List.set_cons_zero, List.set_cons_succ]
        refine wpAnyH_take (i := 1) (oi := ⟨some 62, _, _, _, _, _⟩) (v := ?_) rfl (by kernel_rfl) (by kernel_rfl) (by kernel_rfl) (fun _ _ _ h => h) (Or.inl ⟨by kernel_rfl, ?_⟩) (by assumption) ?_
        rotate_left
        · intro W hSw
          try dsimp only at hSw
          go_simp
          all_goals (with_reducible rfl)
        try simp only [Act.put, List.setIfInBounds_toArray, List.set_cons_zero, List.set_cons_succ]
        refine wpAnyH_take (i := 2) (oi := ⟨some 63, _, _, _, _, _⟩) (v := ?_) rfl (by kernel_rfl) (by kernel_rfl) (by kernel_rfl) (fun _ _ _ h => h) (Or.inl ⟨by kernel_rfl, ?_⟩) (by assumption) ?_
        rotate_left
        · intro W hSw
          try dsimp only at hSw
          go_simp
          all_goals (with_reducible rfl)
        try simp only [Act.put, List.setIfInBounds_toArray, List.set_cons_zero, List.set_cons_succ]
        refine wpAnyH_take (i := 3) (oi := ⟨some 64, _, _, _, _, _⟩) (v := ?_) rfl (by kernel_rfl) (by kernel_rfl) (by kernel_rfl) (fun _ _ _ h => h) (Or.inl ⟨by kernel_rfl, ?_⟩) (by assumption) ?_
        rotate_left
        · intro W hSw
          try dsimp only at hSw
          go_simp
          all_goals (with_reducible rfl)
        try simp only [Act.put, List.setIfInBounds_toArray, List.set_cons_zero, List.set_cons_succ]
        refine wpAnyH_take (i := 4) (oi := ⟨some 65, _, _, _, _, _⟩) (v := ?_) rfl (by kernel_rfl) (by kernel_rfl) (by kernel_rfl) (fun _ _ _ h => h) (Or.inl ⟨by kernel_rfl, ?_⟩) (by assumption) ?_
        rotate_left
        · intro W hSw
          try dsimp only at hSw
          go_simp
          all_goals (with_reducible rfl)
        try simp only [Act.put, List.setIfInBounds_toArray, List.set_cons_zero, List.set_cons_succ]
        refine wpAnyH_take (i := 5) (oi := ⟨some 66, _, _, _, _, _⟩) (v := ?_) rfl (by kernel_rfl) (by kernel_rfl) (by kernel_rfl) (fun _ _ _ h => h) (Or.inl ⟨by kernel_rfl, ?_⟩) (by assumption) ?_
        rotate_left
        · intro W hSw
          try dsimp only at hSw
          go_simp
          all_goals (with_reducible rfl)
        try simp only [Act.put, List.setIfInBounds_toArray, List.set_cons_zero, List.set_cons_succ]
        refine wpAnyH_take (i := 6) (oi := ⟨some 67, _, _, _, _, _⟩) (v := ?_) rfl (by kernel_rfl) (by kernel_rfl) (by kernel_rfl) (fun _ _ _ h => h) (Or.inl ⟨by kernel_rfl, ?_⟩) (by assumption) ?_
        rotate_left
        · intro W hSw
          try dsimp only at hSw
          go_simp
          all_goals (with_reducible rfl)
        try simp only [Act.put, List.setIfInBounds_toArray, List.set_cons_zero, List.set_cons_succ]
        refine wpAnyH_ready (rs := [7]) (by kernel_rfl) (by simp) ?_
        refine AllReadyH.cons (o := { dst := some 68, op := Go.Op.call { callee := Go.Callee.value (Go.Operand.func 45), args := #[Go.Operand.tmp 61, Go.Operand.tmp 65, Go.Operand.tmp 67, Go.Operand.const (Go.Value.int Go.IntKind.i64 28), Go.Operand.const (Go.Value.int Go.IntKind.i64 1)], argTypes := #[50, 26, 22, 3, 3] }, type := 34, pos := "from.go:153", after := #[{ on := 0, ground := Go.Ground.data }, { on := 4, ground := Go.Ground.data }, { on := 6, ground := Go.Ground.data }], guard := none }) rfl (fun K hK => ?_) AllReadyH.nil
        go_simp
        refine (HSX10.out _ (Below.refl _ _).drew).mono ?_
        rintro e w10 ⟨A10, c10, qs10, rfl, _, _, v10, xs10, ht10, hl10, hk10, hz10⟩
        have HT10 := Lib.hid ht10
        have HL10 := Lib.hid hl10
        have HK10 := Lib.hid (show KeptT w9 w10 from (KeptT.below (Below.refl _ _).drew).trans hk10)
        have HZ10 := Lib.hid (show w9.heap.size ≤ w10.heap.size from hz10)
        clear ht10 hl10 hk10 hz10
        refine hK.out _ _ (by exact HS9.out _ (HK9.out.trans HK10.out) ⟨_, _, HT10.out⟩) (fun hHeld2 => ?_)
        clear hK K hHeld
        have hHeld := hHeld2
        clear hHeld2
        try simp only [Act.put, List.setIfInBounds_toArray, List.set_cons_zero, List.set_cons_succ]
        refine wpAnyH_done (by kernel_rfl) ?_ _
        go_wp2
        exact ⟨⟨j + 1, v10, xs10, by omega, by go_num, HT10.out, by have h0 := HL9.out; have h1 := HLX.out; have h2 := HL10.out; omega, ((HK.out.trans (KeptT.below HB7.out)).trans HK9.out).trans HK10.out, Nat.le_trans (Nat.le_trans (Nat.le_trans HZ.out HB7.out.size) HZ9.out) HZ10.out⟩, by simp [intOf]; omega⟩
    · obtain rfl : j = qs.length := by omega
      go_wp2
      first | go_end0 | refine bodyPost_ret (results_none rfl _ _ _) rfl ?_
      exact ⟨rfl, v', xs', HTR.out, by have h1 := HLX.out; have h2 := HL5.out; omega, ((KeptT.below HB1.out).trans HK5.out).trans HK.out, Nat.le_trans (Nat.le_trans HB1.out.size HZ5.out) HZ.out⟩

end Go.Proofs.YthppgofpbpjglaaGreat

namespace Go.Proofs.YthppgofpbpjglaaGreat
open Go.RowKit

/-- What a message is of which facts may come. -/
structure AnsOk (q : Qt) (m : Mt) : Prop where
  s : soundM m = true
  r : m.h.resp = true
  o : m.h.op = 0
  c : m.h.rc = 0 ∨ m.h.rc = 3
  q : okQ q m.qs = true
/-- The boxes of answers. -/
structure AnB (w : World) (y : QV) (q : Qt) (m : MV) (W : World) : Prop where
  m : Whole W w.heap.size 28 m.cells
  q : Whole W (w.heap.size + 1) 24 (cellsQ (y, q))
  below : Below w.heap.size w W
  size : w.heap.size + 2 ≤ W.heap.size
theorem AnB.step {w W V : World} {y : QV} {q : Qt} {m : MV} (h : AnB w y q m W) (hb : Below W.heap.size W V) : AnB w y q m V :=
  ⟨h.m.below hb h.m.lt, h.q.below hb h.q.lt, h.below.trans (hb.mono (by have := h.size; omega)), Nat.le_trans h.size hb.size⟩

set_option maxRecDepth 20000 in
set_option maxHeartbeats 8000000 in
theorem answersF_any (w : World) (y : QV) (q : Qt) (m : MV) (hq : QAt w w.heap.size y q) (hqi : QIn q) (hm : MAt w w.heap.size m) (hi : MIn m) :
    Calls Tryz.prog 14 #[m.val, valQ y q] w (YesIf w (AnsOk q m.msg)) := by
  have HMS := Lib.hid (fun W (hb : Below w.heap.size w W) => msound_any W m ((hm.below hb).mono hb.size) hi)
  have HQS := Lib.hid (fun W (hb : Below w.heap.size w W) => (hm.q.below hb))
  have HQI := Lib.hid hi.q
  have HYQ := Lib.hid (fun W (hb : Below w.heap.size w W) => Row.below hq hb)
  have HQW := Lib.hid hqi.n
  have HOK := Lib.hid (fun (a : soundM m.msg = true) (b : m.h.resp = true) (c : m.h.op = 0) (d : m.h.rc = 0 ∨ m.h.rc = 3) (e : okQ q m.msg.qs = true) => (show AnsOk q m.msg from ⟨a, b, c, d, e⟩))
  have HB := Lib.hid (show AnB w y q m ((w.alloc (.cells m.cells.toArray 28)).alloc (.cells #[.slice y.1 q.name.length y.2, .int .i64 q.kind, .int .i64 q.cls] 24)) from by
    have e1 : (w.alloc (.cells m.cells.toArray 28)).heap.size = w.heap.size + 1 := by simp
    refine ⟨(Whole.made w m.cells _).alloc _, ?_, ((Below.refl _ _).alloc (Nat.le_refl _) _).alloc (by rw [e1]; omega) _, by simp⟩
    have h1 := Whole.made (w.alloc (.cells m.cells.toArray 28)) (cellsQ (y, q)) 24
    rw [e1] at h1
    exact h1)
  clear hq hqi hm hi
  generalize hsm : soundM m.msg = sm at HOK HMS
  generalize hqs : m.msg.qs = mqs at HOK
  generalize hans : AnsOk q m.msg = P at HOK ⊢
  have HQL := Lib.hid (show mqs = qsts m.qp from hqs.symm)
  clear hsm hqs hans
  obtain ⟨h, qA, qc, qp, ⟨A0, k0, p0⟩, ⟨A1, k1, p1⟩, ⟨A2, k2, p2⟩⟩ := m
  dsimp only at *
  go_enter Tryz.func14, Tryz.ntmps14
  go_wp2_with fail
  refine (HMS.out _ HB.out.below).mono ?_
  rintro e w1 ⟨rfl, hb1⟩
  have HB1 := Lib.hid (HB.out.step hb1)
  have c1 : w1.cell? ⟨w.heap.size, 1, none⟩ = some (.bool h.resp) := HB1.out.m.cell 1
  have c2 : w1.cell? ⟨w.heap.size, 2, none⟩ = some (.int .i64 h.op) := HB1.out.m.cell 2
  have c7 : w1.cell? ⟨w.heap.size, 7, none⟩ = some (.int .i64 h.rc) := HB1.out.m.cell 7
  have c8 : w1.cell? ⟨w.heap.size, 8, none⟩ = some (.slice qA qp.length qc) := HB1.out.m.cell 8
  clear hb1 HMS HB
  cases sm with
  | false =>
    go_wp2
    go_ret
    exact ⟨false, rfl, fun h => absurd h (by decide), HB1.out.below⟩
  | true =>
  cases hr : h.resp with
  | false =>
    rw [hr] at c1
    go_wp2
    go_ret
    exact ⟨false, rfl, fun h => absurd h (by decide), HB1.out.below⟩
  | true =>
  rw [hr] at c1
  have HR := Lib.hid hr
  clear hr
  by_cases ho : h.op = 0
  case neg =>
    have t : (h.op != 0) = true := by rw [bne_iff_ne]; exact ho
    clear ho
    go_wp2
    go_ret
    exact ⟨false, rfl, fun h => absurd h (by decide), HB1.out.below⟩
  have t0 : (h.op != 0) = false := by rw [ho]; rfl
  have HO := Lib.hid ho
  clear ho
  by_cases hl : qp.length = 1
  case neg =>
    have t : ((qp.length : Int) != 1) = true := by rw [bne_iff_ne]; omega
    clear hl
    go_wp2
    go_ret
    exact ⟨false, rfl, fun h => absurd h (by decide), HB1.out.below⟩
  have t1 : ((qp.length : Int) != 1) = false := by rw [hl]; rfl
  obtain ⟨bp, off, rfl, hbH, hra, q0, q1, q2⟩ := (HQS.out w1 HB1.out.below).at_ (show 0 < qp.length by omega)
  rw [Nat.zero_mul, Nat.add_zero] at q0 q1 q2
  have HXI := Lib.hid (HQI.out _ (List.getElem_mem (show 0 < qp.length by omega)))
  have HMQ := Lib.hid (show mqs = [(qp[0]'(by omega)).2] from by
    rw [HQL.out]
    obtain ⟨a, rfl⟩ := List.length_eq_one_iff.1 hl
    rfl)
  have hlt : (0 : Int) < (qp.length : Int) := by omega
  revert hra q0 q1 q2 HXI HMQ
  generalize qp[0]'(by omega) = p
  obtain ⟨yx, x⟩ := p
  intro hra q0 q1 q2 HXI HMQ
  dsimp only at *
  have HXR := Lib.hid hra
  have HOK2 := Lib.hid (fun (d : h.rc = 0 ∨ h.rc = 3) (e : okQ q [x] = true) => HOK.out rfl HR.out HO.out d (by rw [HMQ.out]; exact e))
  have HQK := Lib.hid (show okQ q [x] = (eqN x.name q.name && (decide (x.kind = q.kind) && decide (x.cls = q.cls))) from rfl)
  clear hra hbH HQL HMQ HOK HQS HQI hl
  have HN2 := Lib.hid ((Below.refl w1.heap.size w1).alloc (Nat.le_refl _) (.cells #[.slice yx.1 x.name.length yx.2, .int .i64 x.kind, .int .i64 x.cls] 24))
  have HWX := Lib.hid (Whole.made w1 (cellsQ (yx, x)) 24)
  have HB2 := Lib.hid (HB1.out.step HN2.out)
  have HEQ := Lib.hid (equal_wide yx.1 y.1 x.name.length q.name.length yx.2 y.2 (w1.alloc (.cells #[.slice yx.1 x.name.length yx.2, .int .i64 x.kind, .int .i64 x.cls] 24)).heap.size x.name q.name (w1.alloc (.cells #[.slice yx.1 x.name.length yx.2, .int .i64 x.kind, .int .i64 x.cls] 24)) rfl rfl ((Row.below HXR.out (HN2.out.mono HB1.out.below.size)).mono (Nat.le_trans HB1.out.below.size HN2.out.size)) ((HYQ.out (w1.alloc (.cells #[.slice yx.1 x.name.length yx.2, .int .i64 x.kind, .int .i64 x.cls] 24)) HB2.out.below).mono HB2.out.below.size) (Nat.le_refl _) HXI.out.n HQW.out)
  have a7 : (w1.alloc (.cells #[.slice yx.1 x.name.length yx.2, .int .i64 x.kind, .int .i64 x.cls] 24)).cell? ⟨w.heap.size, 7, none⟩ = some (.int .i64 h.rc) := HB2.out.m.cell 7
  have b0 : (w1.alloc (.cells #[.slice yx.1 x.name.length yx.2, .int .i64 x.kind, .int .i64 x.cls] 24)).cell? ⟨w.heap.size + 1, 0, none⟩ = some (.slice y.1 q.name.length y.2) := HB2.out.q.cell 0
  have b1 : (w1.alloc (.cells #[.slice yx.1 x.name.length yx.2, .int .i64 x.kind, .int .i64 x.cls] 24)).cell? ⟨w.heap.size + 1, 1, none⟩ = some (.int .i64 q.kind) := HB2.out.q.cell 1
  have b2 : (w1.alloc (.cells #[.slice yx.1 x.name.length yx.2, .int .i64 x.kind, .int .i64 x.cls] 24)).cell? ⟨w.heap.size + 1, 2, none⟩ = some (.int .i64 q.cls) := HB2.out.q.cell 2
  have HRC := Lib.hid (show (h.rc = 0 ∨ h.rc = 3) ∨ ¬ (h.rc = 0 ∨ h.rc = 3) from Classical.em _)
  rcases HRC.out with hrc | hrc
  case inr =>
    have r0 : (h.rc == 0) = false := by rw [beq_eq_false_iff_ne]; omega
    have r3 : (h.rc == 3) = false := by rw [beq_eq_false_iff_ne]; omega
    clear hrc HRC
    go_wp2
    go_ret
    exact ⟨false, rfl, fun h => absurd h (by decide), HB2.out.below⟩
  have HRK := Lib.hid hrc
  have key : ∀ (z0 z3 : Bool), (h.rc == 0) = z0 → (h.rc == 3) = z3 → (z0 || z3) = true → True := fun _ _ _ _ _ => trivial
  clear key HRC
  cases e1 : eqN x.name q.name with
  | false =>
    rw [e1] at HEQ
    rcases hrc with hrc | hrc
    · have r0 : (h.rc == 0) = true := by rw [hrc]; rfl
      clear hrc
      go_wp2_with fail
      refine HEQ.out.mono ?_
      rintro e w4 ⟨rfl, hb4⟩
      go_wp2
      go_ret
      exact ⟨false, rfl, fun h => absurd h (by decide), (HB2.out.step hb4).below⟩
    · have r0 : (h.rc == 0) = false := by rw [hrc]; rfl
      have r3 : (h.rc == 3) = true := by rw [hrc]; rfl
      clear hrc
      go_wp2_with fail
      refine HEQ.out.mono ?_
      rintro e w4 ⟨rfl, hb4⟩
      go_wp2
      go_ret
      exact ⟨false, rfl, fun h => absurd h (by decide), (HB2.out.step hb4).below⟩
  | true =>
  rw [e1] at HEQ HQK
  by_cases k1 : x.kind = q.kind
  case neg =>
    have u1 : (x.kind == q.kind) = false := by rw [beq_eq_false_iff_ne]; exact k1
    clear k1
    rcases hrc with hrc | hrc
    · have r0 : (h.rc == 0) = true := by rw [hrc]; rfl
      clear hrc
      go_wp2_with fail
      refine HEQ.out.mono ?_
      rintro e w4 ⟨rfl, hb4⟩
      have HB4 := Lib.hid (HB2.out.step hb4)
      have HW4 := Lib.hid (HWX.out.below hb4 HWX.out.lt)
      have f1 : w4.cell? ⟨w1.heap.size, 1, none⟩ = some (.int .i64 x.kind) := HW4.out.cell 1
      have f2 : w4.cell? ⟨w1.heap.size, 2, none⟩ = some (.int .i64 x.cls) := HW4.out.cell 2
      have g1 : w4.cell? ⟨w.heap.size + 1, 1, none⟩ = some (.int .i64 q.kind) := HB4.out.q.cell 1
      have g2 : w4.cell? ⟨w.heap.size + 1, 2, none⟩ = some (.int .i64 q.cls) := HB4.out.q.cell 2
      clear hb4
      go_wp2
      go_ret
      exact ⟨false, rfl, fun h => absurd h (by decide), HB4.out.below⟩
    · have r0 : (h.rc == 0) = false := by rw [hrc]; rfl
      have r3 : (h.rc == 3) = true := by rw [hrc]; rfl
      clear hrc
      go_wp2_with fail
      refine HEQ.out.mono ?_
      rintro e w4 ⟨rfl, hb4⟩
      have HB4 := Lib.hid (HB2.out.step hb4)
      have HW4 := Lib.hid (HWX.out.below hb4 HWX.out.lt)
      have f1 : w4.cell? ⟨w1.heap.size, 1, none⟩ = some (.int .i64 x.kind) := HW4.out.cell 1
      have f2 : w4.cell? ⟨w1.heap.size, 2, none⟩ = some (.int .i64 x.cls) := HW4.out.cell 2
      have g1 : w4.cell? ⟨w.heap.size + 1, 1, none⟩ = some (.int .i64 q.kind) := HB4.out.q.cell 1
      have g2 : w4.cell? ⟨w.heap.size + 1, 2, none⟩ = some (.int .i64 q.cls) := HB4.out.q.cell 2
      clear hb4
      go_wp2
      go_ret
      exact ⟨false, rfl, fun h => absurd h (by decide), HB4.out.below⟩
  have u1 : (x.kind == q.kind) = true := by rw [k1]; simp
  rw [decide_eq_true k1] at HQK
  clear k1
  rcases hrc with hrc | hrc
  · have r0 : (h.rc == 0) = true := by rw [hrc]; rfl
    clear hrc
    go_wp2_with fail
    refine HEQ.out.mono ?_
    rintro e w4 ⟨rfl, hb4⟩
    have HB4 := Lib.hid (HB2.out.step hb4)
    have HW4 := Lib.hid (HWX.out.below hb4 HWX.out.lt)
    have f1 : w4.cell? ⟨w1.heap.size, 1, none⟩ = some (.int .i64 x.kind) := HW4.out.cell 1
    have f2 : w4.cell? ⟨w1.heap.size, 2, none⟩ = some (.int .i64 x.cls) := HW4.out.cell 2
    have g1 : w4.cell? ⟨w.heap.size + 1, 1, none⟩ = some (.int .i64 q.kind) := HB4.out.q.cell 1
    have g2 : w4.cell? ⟨w.heap.size + 1, 2, none⟩ = some (.int .i64 q.cls) := HB4.out.q.cell 2
    clear hb4
    go_wp2
    go_ret
    refine ⟨_, rfl, fun e => HOK2.out HRK.out (by rw [HQK.out]; simpa using e), HB4.out.below⟩
  · have r0 : (h.rc == 0) = false := by rw [hrc]; rfl
    have r3 : (h.rc == 3) = true := by rw [hrc]; rfl
    clear hrc
    go_wp2_with fail
    refine HEQ.out.mono ?_
    rintro e w4 ⟨rfl, hb4⟩
    have HB4 := Lib.hid (HB2.out.step hb4)
    have HW4 := Lib.hid (HWX.out.below hb4 HWX.out.lt)
    have f1 : w4.cell? ⟨w1.heap.size, 1, none⟩ = some (.int .i64 x.kind) := HW4.out.cell 1
    have f2 : w4.cell? ⟨w1.heap.size, 2, none⟩ = some (.int .i64 x.cls) := HW4.out.cell 2
    have g1 : w4.cell? ⟨w.heap.size + 1, 1, none⟩ = some (.int .i64 q.kind) := HB4.out.q.cell 1
    have g2 : w4.cell? ⟨w.heap.size + 1, 2, none⟩ = some (.int .i64 q.cls) := HB4.out.q.cell 2
    clear hb4
    go_wp2
    go_ret
    refine ⟨_, rfl, fun e => HOK2.out HRK.out (by rw [HQK.out]; simpa using e), HB4.out.below⟩

end Go.Proofs.YthppgofpbpjglaaGreat

namespace Go.Proofs.YthppgofpbpjglaaGreat
open Go.RowKit

theorem from_nil {w w' : World} {q : Qt} {m : Mt} {z : List (List UInt8)} {now : Int} (hb : Below w.heap.size w w') : FromOut w q m z now (.returned (.slice none 0 0)) w' :=
  ⟨none, 0, [], rfl, ⟨Row.empty _ _ _, fun _ h => absurd h (List.not_mem_nil)⟩, fun h => absurd h (Nat.lt_irrefl 0), fun _ h => absurd h (List.not_mem_nil), Nat.zero_le _, fun _ => rfl, fun _ h => absurd h (List.not_mem_nil), hb⟩
theorem FQ.boxes (w : World) (y : QV) (q : Qt) (m : MV) : Whole ((w.alloc (.cells #[.slice y.1 q.name.length y.2, .int .i64 q.kind, .int .i64 q.cls] 24)).alloc (.cells m.cells.toArray 28)) w.heap.size 24 (cellsQ (y, q)) ∧ Whole ((w.alloc (.cells #[.slice y.1 q.name.length y.2, .int .i64 q.kind, .int .i64 q.cls] 24)).alloc (.cells m.cells.toArray 28)) (w.heap.size + 1) 28 m.cells ∧
    Below w.heap.size w ((w.alloc (.cells #[.slice y.1 q.name.length y.2, .int .i64 q.kind, .int .i64 q.cls] 24)).alloc (.cells m.cells.toArray 28)) := by
  have e1 : (w.alloc (.cells #[.slice y.1 q.name.length y.2, .int .i64 q.kind, .int .i64 q.cls] 24)).heap.size = w.heap.size + 1 := by simp
  refine ⟨(Whole.made w (cellsQ (y, q)) _).alloc _, ?_, ((Below.refl _ _).alloc (Nat.le_refl _) _).alloc (by rw [e1]; omega) _⟩
  have h1 := Whole.made (w.alloc (.cells #[.slice y.1 q.name.length y.2, .int .i64 q.kind, .int .i64 q.cls] 24)) m.cells 28
  rw [e1] at h1
  exact h1
theorem from_out {w w4 w9 : World} {T : Te} {b : Nat} {an au ex : Sec} {A : Option Addr} {c : Nat} {xs : List FV} (h : TAt w4 T b an au ex (.slice A xs.length c) xs w9) (hb : Below w.heap.size w w4) (hl : xs.length ≤ 10000) (hok : fromOk T.q T.m.msg T.z T.now = true) :
    FromOut w T.q T.m.msg T.z T.now (.returned (.slice A xs.length c)) w9 :=
  ⟨A, c, xs, rfl, ⟨Row.of_own h.row, fun x hx => (h.each x hx).at_⟩, NewT.of_own (own_mono h.row hb.size), fun x hx => ((h.each x hx).monoB hb.size).new, by unfold maxLen; omega, (fun e => by rw [hok] at e; cases e), h.told, hb.trans (h.below.mono hb.size)⟩

set_option maxRecDepth 20000 in
set_option maxHeartbeats 8000000 in
theorem from_any (w : World) (y : QV) (q : Qt) (m : MV) (A : Option Addr) (c : Nat) (z : List (List UInt8)) (now : Int) (hq : QAt w w.heap.size y q) (hqi : QIn q) (hq2 : q.name.length ≤ 200) (hqc : q.name.length ≤ y.2) (hm : MAt w w.heap.size m) (hi : MIn m) (hlg : LightG m.msg)
    (hz : Row w w.heap.size A (z.map sv)) (hzs : szN z ≤ maxLen) (hz2 : z.length ≤ 200) (hzc : z.length ≤ c) :
    Calls Tryz.prog 6 #[valQ y q, m.val, .slice A z.length c, .int .i64 now] w (FromOut w q m.msg z now) := by
  have HFB := Lib.hid (FQ.boxes w y q m)
  have HSN := Lib.hid (fun W (hb : Below w.heap.size w W) => sound_wide y.1 q.name.length y.2 w.heap.size q.name W rfl (Row.below hq hb) (by omega) hqi.n.2)
  have HSZ := Lib.hid (fun W (hb : Below w.heap.size w W) => sound_wide A z.length c w.heap.size z W rfl (hz.below hb) (by omega) (wide_sz hzs).2)
  have HTM := Lib.hid (fun W => ftime_any now W)
  have HAN := Lib.hid (fun W (hb : Below w.heap.size w W) => answersF_any W y q m (Row.mono (Row.below hq hb) hb.size) hqi ((hm.below hb).mono hb.size) hi)
  have HOK := Lib.hid (fun W (hb : Below w.heap.size w W) (a1 : soundN q.name = true) (a2 : soundN z = true) (a3 : timeB now = true) (a4 : AnsOk q m.msg) => (show TeOk W ⟨y, q, m, A, c, z, now⟩ ∧ fromOk q m.msg z now = true from
    ⟨⟨Row.mono (Row.below hq hb) hb.size, hqc, a1, (hm.below hb).mono hb.size, hi, a4.s, hlg, (hz.below hb).mono hb.size, a2, hzc, a3⟩, by
      unfold fromOk
      rw [a1, a2, a3, a4.s, a4.r, a4.q, decide_eq_true a4.o]
      rcases a4.c with e | e
      · rw [decide_eq_true e]; rfl
      · rw [decide_eq_true e]; simp⟩))
  have HQK := Lib.hid hqi.k
  clear hq hqi hq2 hqc hm hi hlg hz hzs hz2 hzc
  obtain ⟨h, qA, qc, qp, ⟨A0, k0, p0⟩, ⟨A1, k1, p1⟩, ⟨A2, k2, p2⟩⟩ := m
  go_enter Tryz.func6, Tryz.ntmps6
  go_wp2_with fail
  refine (HSN.out _ HFB.out.2.2).mono ?_
  rintro e w1 ⟨rfl, rfl⟩
  cases s1 : soundN q.name with
  | false =>
    go_wp2
    go_ret
    exact from_nil HFB.out.2.2
  | true =>
  go_wp2_with fail
  refine (HSZ.out _ HFB.out.2.2).mono ?_
  rintro e w1 ⟨rfl, rfl⟩
  cases s2 : soundN z with
  | false =>
    go_wp2
    go_ret
    exact from_nil HFB.out.2.2
  | true =>
  go_wp2_with fail
  refine (HTM.out _).mono ?_
  rintro e w1 ⟨rfl, rfl⟩
  cases s3 : timeB now with
  | false =>
    go_wp2
    go_ret
    exact from_nil HFB.out.2.2
  | true =>
  have x0 : ((w.alloc (.cells #[.slice y.1 q.name.length y.2, .int .i64 q.kind, .int .i64 q.cls] 24)).alloc (.cells (⟨h, qA, qc, qp, ⟨A0, k0, p0⟩, ⟨A1, k1, p1⟩, ⟨A2, k2, p2⟩⟩ : MV).cells.toArray 28)).cell? ⟨w.heap.size, 0, none⟩ = some (.slice y.1 q.name.length y.2) := HFB.out.1.cell 0
  have x1 : ((w.alloc (.cells #[.slice y.1 q.name.length y.2, .int .i64 q.kind, .int .i64 q.cls] 24)).alloc (.cells (⟨h, qA, qc, qp, ⟨A0, k0, p0⟩, ⟨A1, k1, p1⟩, ⟨A2, k2, p2⟩⟩ : MV).cells.toArray 28)).cell? ⟨w.heap.size, 1, none⟩ = some (.int .i64 q.kind) := HFB.out.1.cell 1
  have x2 : ((w.alloc (.cells #[.slice y.1 q.name.length y.2, .int .i64 q.kind, .int .i64 q.cls] 24)).alloc (.cells (⟨h, qA, qc, qp, ⟨A0, k0, p0⟩, ⟨A1, k1, p1⟩, ⟨A2, k2, p2⟩⟩ : MV).cells.toArray 28)).cell? ⟨w.heap.size, 2, none⟩ = some (.int .i64 q.cls) := HFB.out.1.cell 2
  have z0 : ((w.alloc (.cells #[.slice y.1 q.name.length y.2, .int .i64 q.kind, .int .i64 q.cls] 24)).alloc (.cells (⟨h, qA, qc, qp, ⟨A0, k0, p0⟩, ⟨A1, k1, p1⟩, ⟨A2, k2, p2⟩⟩ : MV).cells.toArray 28)).cell? ⟨w.heap.size + 1, 0, none⟩ = some (.int .i64 h.id) := HFB.out.2.1.cell 0
  have z1 : ((w.alloc (.cells #[.slice y.1 q.name.length y.2, .int .i64 q.kind, .int .i64 q.cls] 24)).alloc (.cells (⟨h, qA, qc, qp, ⟨A0, k0, p0⟩, ⟨A1, k1, p1⟩, ⟨A2, k2, p2⟩⟩ : MV).cells.toArray 28)).cell? ⟨w.heap.size + 1, 1, none⟩ = some (.bool h.resp) := HFB.out.2.1.cell 1
  have z2 : ((w.alloc (.cells #[.slice y.1 q.name.length y.2, .int .i64 q.kind, .int .i64 q.cls] 24)).alloc (.cells (⟨h, qA, qc, qp, ⟨A0, k0, p0⟩, ⟨A1, k1, p1⟩, ⟨A2, k2, p2⟩⟩ : MV).cells.toArray 28)).cell? ⟨w.heap.size + 1, 2, none⟩ = some (.int .i64 h.op) := HFB.out.2.1.cell 2
  have z3 : ((w.alloc (.cells #[.slice y.1 q.name.length y.2, .int .i64 q.kind, .int .i64 q.cls] 24)).alloc (.cells (⟨h, qA, qc, qp, ⟨A0, k0, p0⟩, ⟨A1, k1, p1⟩, ⟨A2, k2, p2⟩⟩ : MV).cells.toArray 28)).cell? ⟨w.heap.size + 1, 3, none⟩ = some (.bool h.aa) := HFB.out.2.1.cell 3
  have z4 : ((w.alloc (.cells #[.slice y.1 q.name.length y.2, .int .i64 q.kind, .int .i64 q.cls] 24)).alloc (.cells (⟨h, qA, qc, qp, ⟨A0, k0, p0⟩, ⟨A1, k1, p1⟩, ⟨A2, k2, p2⟩⟩ : MV).cells.toArray 28)).cell? ⟨w.heap.size + 1, 4, none⟩ = some (.bool h.tc) := HFB.out.2.1.cell 4
  have z5 : ((w.alloc (.cells #[.slice y.1 q.name.length y.2, .int .i64 q.kind, .int .i64 q.cls] 24)).alloc (.cells (⟨h, qA, qc, qp, ⟨A0, k0, p0⟩, ⟨A1, k1, p1⟩, ⟨A2, k2, p2⟩⟩ : MV).cells.toArray 28)).cell? ⟨w.heap.size + 1, 5, none⟩ = some (.bool h.rd) := HFB.out.2.1.cell 5
  have z6 : ((w.alloc (.cells #[.slice y.1 q.name.length y.2, .int .i64 q.kind, .int .i64 q.cls] 24)).alloc (.cells (⟨h, qA, qc, qp, ⟨A0, k0, p0⟩, ⟨A1, k1, p1⟩, ⟨A2, k2, p2⟩⟩ : MV).cells.toArray 28)).cell? ⟨w.heap.size + 1, 6, none⟩ = some (.bool h.ra) := HFB.out.2.1.cell 6
  have z7 : ((w.alloc (.cells #[.slice y.1 q.name.length y.2, .int .i64 q.kind, .int .i64 q.cls] 24)).alloc (.cells (⟨h, qA, qc, qp, ⟨A0, k0, p0⟩, ⟨A1, k1, p1⟩, ⟨A2, k2, p2⟩⟩ : MV).cells.toArray 28)).cell? ⟨w.heap.size + 1, 7, none⟩ = some (.int .i64 h.rc) := HFB.out.2.1.cell 7
  have z8 : ((w.alloc (.cells #[.slice y.1 q.name.length y.2, .int .i64 q.kind, .int .i64 q.cls] 24)).alloc (.cells (⟨h, qA, qc, qp, ⟨A0, k0, p0⟩, ⟨A1, k1, p1⟩, ⟨A2, k2, p2⟩⟩ : MV).cells.toArray 28)).cell? ⟨w.heap.size + 1, 8, none⟩ = some (.slice qA qp.length qc) := HFB.out.2.1.cell 8
  have z9 : ((w.alloc (.cells #[.slice y.1 q.name.length y.2, .int .i64 q.kind, .int .i64 q.cls] 24)).alloc (.cells (⟨h, qA, qc, qp, ⟨A0, k0, p0⟩, ⟨A1, k1, p1⟩, ⟨A2, k2, p2⟩⟩ : MV).cells.toArray 28)).cell? ⟨w.heap.size + 1, 9, none⟩ = some (.slice A0 p0.length k0) := HFB.out.2.1.cell 9
  have z10 : ((w.alloc (.cells #[.slice y.1 q.name.length y.2, .int .i64 q.kind, .int .i64 q.cls] 24)).alloc (.cells (⟨h, qA, qc, qp, ⟨A0, k0, p0⟩, ⟨A1, k1, p1⟩, ⟨A2, k2, p2⟩⟩ : MV).cells.toArray 28)).cell? ⟨w.heap.size + 1, 10, none⟩ = some (.slice A1 p1.length k1) := HFB.out.2.1.cell 10
  have z11 : ((w.alloc (.cells #[.slice y.1 q.name.length y.2, .int .i64 q.kind, .int .i64 q.cls] 24)).alloc (.cells (⟨h, qA, qc, qp, ⟨A0, k0, p0⟩, ⟨A1, k1, p1⟩, ⟨A2, k2, p2⟩⟩ : MV).cells.toArray 28)).cell? ⟨w.heap.size + 1, 11, none⟩ = some (.slice A2 p2.length k2) := HFB.out.2.1.cell 11
  have z12 : ((w.alloc (.cells #[.slice y.1 q.name.length y.2, .int .i64 q.kind, .int .i64 q.cls] 24)).alloc (.cells (⟨h, qA, qc, qp, ⟨A0, k0, p0⟩, ⟨A1, k1, p1⟩, ⟨A2, k2, p2⟩⟩ : MV).cells.toArray 28)).cell? ⟨w.heap.size + 1, 12, none⟩ = some (.bool h.edns) := HFB.out.2.1.cell 12
  have z13 : ((w.alloc (.cells #[.slice y.1 q.name.length y.2, .int .i64 q.kind, .int .i64 q.cls] 24)).alloc (.cells (⟨h, qA, qc, qp, ⟨A0, k0, p0⟩, ⟨A1, k1, p1⟩, ⟨A2, k2, p2⟩⟩ : MV).cells.toArray 28)).cell? ⟨w.heap.size + 1, 13, none⟩ = some (.int .i64 h.size) := HFB.out.2.1.cell 13
  go_wp2_with fail
  refine (HAN.out _ HFB.out.2.2).mono ?_
  rintro e w4 ⟨bv, rfl, hyes, hb4⟩
  have HB4 := Lib.hid (HFB.out.2.2.trans (hb4.mono HFB.out.2.2.size))
  cases bv with
  | false =>
    clear hb4 hyes
    go_wp2
    go_ret
    exact from_nil HB4.out
  | true =>
  have HT := Lib.hid (HOK.out w4 HB4.out s1 s2 s3 (hyes rfl))
  have a0 : w4.cell? ⟨w.heap.size, 0, none⟩ = some (.slice y.1 q.name.length y.2) := (HFB.out.1.below hb4 HFB.out.1.lt).cell 0
  have a1 : w4.cell? ⟨w.heap.size, 1, none⟩ = some (.int .i64 q.kind) := (HFB.out.1.below hb4 HFB.out.1.lt).cell 1
  have a2 : w4.cell? ⟨w.heap.size, 2, none⟩ = some (.int .i64 q.cls) := (HFB.out.1.below hb4 HFB.out.1.lt).cell 2
  have b0 : w4.cell? ⟨w.heap.size + 1, 0, none⟩ = some (.int .i64 h.id) := (HFB.out.2.1.below hb4 HFB.out.2.1.lt).cell 0
  have b1 : w4.cell? ⟨w.heap.size + 1, 1, none⟩ = some (.bool h.resp) := (HFB.out.2.1.below hb4 HFB.out.2.1.lt).cell 1
  have b2 : w4.cell? ⟨w.heap.size + 1, 2, none⟩ = some (.int .i64 h.op) := (HFB.out.2.1.below hb4 HFB.out.2.1.lt).cell 2
  have b3 : w4.cell? ⟨w.heap.size + 1, 3, none⟩ = some (.bool h.aa) := (HFB.out.2.1.below hb4 HFB.out.2.1.lt).cell 3
  have b4 : w4.cell? ⟨w.heap.size + 1, 4, none⟩ = some (.bool h.tc) := (HFB.out.2.1.below hb4 HFB.out.2.1.lt).cell 4
  have b5 : w4.cell? ⟨w.heap.size + 1, 5, none⟩ = some (.bool h.rd) := (HFB.out.2.1.below hb4 HFB.out.2.1.lt).cell 5
  have b6 : w4.cell? ⟨w.heap.size + 1, 6, none⟩ = some (.bool h.ra) := (HFB.out.2.1.below hb4 HFB.out.2.1.lt).cell 6
  have b7 : w4.cell? ⟨w.heap.size + 1, 7, none⟩ = some (.int .i64 h.rc) := (HFB.out.2.1.below hb4 HFB.out.2.1.lt).cell 7
  have b8 : w4.cell? ⟨w.heap.size + 1, 8, none⟩ = some (.slice qA qp.length qc) := (HFB.out.2.1.below hb4 HFB.out.2.1.lt).cell 8
  have b9 : w4.cell? ⟨w.heap.size + 1, 9, none⟩ = some (.slice A0 p0.length k0) := (HFB.out.2.1.below hb4 HFB.out.2.1.lt).cell 9
  have b10 : w4.cell? ⟨w.heap.size + 1, 10, none⟩ = some (.slice A1 p1.length k1) := (HFB.out.2.1.below hb4 HFB.out.2.1.lt).cell 10
  have b11 : w4.cell? ⟨w.heap.size + 1, 11, none⟩ = some (.slice A2 p2.length k2) := (HFB.out.2.1.below hb4 HFB.out.2.1.lt).cell 11
  have b12 : w4.cell? ⟨w.heap.size + 1, 12, none⟩ = some (.bool h.edns) := (HFB.out.2.1.below hb4 HFB.out.2.1.lt).cell 12
  have b13 : w4.cell? ⟨w.heap.size + 1, 13, none⟩ = some (.int .i64 h.size) := (HFB.out.2.1.below hb4 HFB.out.2.1.lt).cell 13
  clear x0 x1 x2 z0 z1 z2 z3 z4 z5 z6 z7 z8 z9 z10 z11 z12 z13
  clear hb4 hyes HFB HSN HSZ HTM HAN HOK s1 s2 s3
  have HNT := Lib.hid (newTeller_any w4 ⟨y, q, ⟨h, qA, qc, qp, ⟨A0, k0, p0⟩, ⟨A1, k1, p1⟩, ⟨A2, k2, p2⟩⟩, A, c, z, now⟩ HT.out.1)
  go_wp2_with fail
  refine HNT.out.mono ?_
  rintro e w5 ⟨b, an, au, ex, rfl, ht5, h0, h1, h2⟩
  have HCH := Lib.hid (chain_any w4 w5 ⟨y, q, ⟨h, qA, qc, qp, ⟨A0, k0, p0⟩, ⟨A1, k1, p1⟩, ⟨A2, k2, p2⟩⟩, A, c, z, now⟩ b an au ex _ [] ht5 HT.out.1 h0 (by simp))
  clear HNT
  go_wp2_with fail
  refine HCH.out.mono ?_
  rintro e w6 ⟨An, cn, n, rfl, hh6, hn6, v6, xs6, ht6, hl6, hk6, hz6⟩
  have HRC := Lib.hid (records_any w4 w6 ⟨y, q, ⟨h, qA, qc, qp, ⟨A0, k0, p0⟩, ⟨A1, k1, p1⟩, ⟨A2, k2, p2⟩⟩, A, c, z, now⟩ b an au ex v6 xs6 ht6 HT.out.1 h0 (by simp at hl6; omega) An cn n hh6 hn6)
  have HN6 := Lib.hid hn6
  have HL6 := Lib.hid (show xs6.length ≤ 16 by simpa using hl6)
  have HH6 := Lib.hid hh6
  have H1 := Lib.hid h1
  have H2 := Lib.hid h2
  clear HCH hk6 hz6 ht6 hl6 hh6 hn6 ht5 h0 h1 h2
  go_wp2_with fail
  refine HRC.out.mono ?_
  rintro e w7 ⟨bv, rfl, v7, xs7, ht7, hl7, hk7, hz7⟩
  have HT7 := Lib.hid ht7
  have HL7 := Lib.hid (show xs7.length ≤ 1016 by have := HL6.out; omega)
  have HH7 := Lib.hid (HH6.out.kept hk7)
  clear HRC ht7 hl7 hk7 hz7 HH6
  cases bv with
  | true =>
    have HRF := Lib.hid (referral_any w4 w7 ⟨y, q, ⟨h, qA, qc, qp, ⟨A0, k0, p0⟩, ⟨A1, k1, p1⟩, ⟨A2, k2, p2⟩⟩, A, c, z, now⟩ b an au ex v7 xs7 HT7.out HT.out.1 H1.out H2.out (by have := HL7.out; omega))
    go_wp2_with (go_at_call 19; refine HRF.out.mono ?_; rintro e w9 ⟨rfl, v9, xs9, ht9, hl9, _, _⟩; have HT9 := Lib.hid ht9; have HL9 := Lib.hid (show xs9.length ≤ 10000 by have := HL7.out; omega); obtain ⟨A9, c9, rfl, _, _⟩ := own_form ht9.row; have e22 : w9.cell? ⟨b, 22, none⟩ = some (.slice A9 xs9.length c9) := ht9.blk.cell 22; clear ht9 hl9)
    go_ret
    exact from_out HT9.out HB4.out HL9.out HT.out.2
  | false =>
    have HNO := Lib.hid (nothing_any w4 w7 ⟨y, q, ⟨h, qA, qc, qp, ⟨A0, k0, p0⟩, ⟨A1, k1, p1⟩, ⟨A2, k2, p2⟩⟩, A, c, z, now⟩ b an au ex v7 xs7 HT7.out HT.out.1 H1.out (by have := HL7.out; omega) An cn n HH7.out HN6.out HQK.out)
    go_wp2_with (first
      | (go_at_call 18; refine HNO.out.mono ?_; rintro e w8 ⟨rfl, v8, xs8, ht8, hl8, _, _⟩; have HL8 := Lib.hid (show xs8.length ≤ 1017 by have := HL7.out; omega); have HRF := Lib.hid (referral_any w4 w8 ⟨y, q, ⟨h, qA, qc, qp, ⟨A0, k0, p0⟩, ⟨A1, k1, p1⟩, ⟨A2, k2, p2⟩⟩, A, c, z, now⟩ b an au ex v8 xs8 ht8 HT.out.1 H1.out H2.out (by have := HL8.out; omega)); clear ht8 hl8)
      | (go_at_call 19; refine HRF.out.mono ?_; rintro e w9 ⟨rfl, v9, xs9, ht9, hl9, _, _⟩; have HT9 := Lib.hid ht9; have HL9 := Lib.hid (show xs9.length ≤ 10000 by have := HL8.out; omega); obtain ⟨A9, c9, rfl, _, _⟩ := own_form ht9.row; have e22 : w9.cell? ⟨b, 22, none⟩ = some (.slice A9 xs9.length c9) := ht9.blk.cell 22; clear ht9 hl9))
    go_ret
    exact from_out HT9.out HB4.out HL9.out HT.out.2

/-- What is sound is not too large. -/
theorem soundF_sz {x : FV} (h : soundF x.fact = true) : FSz x := by
  obtain ⟨hh, hk⟩ := soundF_parts h
  have a1 : soundN x.name = true := (headB_parts hh).1
  have n1 := sound_few a1
  rcases hk with ⟨_, hb⟩ | ⟨_, hb⟩
  · unfold hasB at hb
    simp only [Bool.and_eq_true, decide_eq_true_eq] at hb
    obtain ⟨_, _, _, b4, b5, b6⟩ := hb
    have ez : x.zone = [] := List.eq_nil_of_length_eq_zero b4
    have b5' : emptyD x.soa = true := b5
    unfold emptyD at b5'
    simp only [Bool.and_eq_true, decide_eq_true_eq] at b5'
    exact ⟨by omega, by rw [ez]; exact Nat.zero_le _, fun p hp => (sound_small (setOk_each b6 (List.mem_map.2 ⟨p, hp, rfl⟩))).2, by omega⟩
  · obtain ⟨_, _, p3, _, p5, _, p7⟩ := noB_parts hb
    have e0 : x.sp = [] := by
      have e : (dats x.sp).length = 0 := p3
      rw [length_dats] at e
      exact List.eq_nil_of_length_eq_zero e
    have n2 : x.zone.length ≤ 127 := sound_few p5
    exact ⟨by omega, by omega, fun p hp => by rw [e0] at hp; exact absurd hp (List.not_mem_nil), (sound_small p7).2⟩
/-- The program's facts are as the statements of layer 13 ask. -/
theorem theFacts : FactSpec :=
  ⟨fun w x hx hi hs => by
    have h := fsound_real w x hx hi (soundF_sz hs)
    rwa [hs] at h,
   fun w y q m A c z now hq hqi hq2 hqc hm hi hlg hz hzs hz2 hzc _ => from_any w y q m A c z now hq hqi hq2 hqc hm hi hlg hz hzs hz2 hzc⟩

end Go.Proofs.YthppgofpbpjglaaGreat

namespace Go.Proofs.YthppgofpbpjglaaGreat
open Go.ChangeShapes Go.WideShapes Go.ChangeAt Go.RowKit

theorem szN_strs {H : Type} : ∀ l : List ByteArray, szN (l.map fun s => s.data.toList) ≤ Rows.uptoBulkAll (strs (H := H) l) + 1
  | [] => Nat.le_refl _
  | s :: l => by
    have h := szN_strs (H := H) l
    simp only [List.map_cons, szN, strs, Rows.uptoBulkAll, Rows.uptoBulk]
    simp only [strs] at h
    omega

set_option maxRecDepth 20000 in
/-- An argument that is a name, not too great. -/
theorem open_nameU {H : Type} {enc : TypeId × Value → H} {W : World} {base : Nat} {v : Value} {d : DataW H} {p : List MemPlace}
    (hval : Value.okWide Tryz.prog W .any base 22 v) (h : DataW.Trod enc Tryz.prog W 0 (fun _ => true) true 22 v d p) (hlt : ∀ x ∈ p, x.block < W.heap.size) (hk : Rows.uptoBulk d ≤ 1048576) :
    ∃ (A : Option Addr) (c : Nat) (n : List (List UInt8)), v = .slice A n.length c ∧ Row W W.heap.size A (n.map sv) ∧ szN n ≤ maxLen ∧ n.length ≤ c := by
  obtain ⟨a0, len, cap, rfl⟩ := okWide_slice Tryz.underlying22 hval
  obtain ⟨fuel, hf⟩ := h
  rcases open_strings Tryz.underlying22 Tryz.underlying9 str_cells hf with ⟨hcs, hx⟩ | ⟨a, len', cap', ss, hcs, _, hl, hm, hz, hx, hcell, hwz⟩
  · simp [Value.cells] at hcs
    obtain ⟨rfl, rfl, rfl⟩ := hcs
    exact ⟨none, 0, [], rfl, Row.empty _ _ _, by simp [szN, maxLen], Nat.le_refl _⟩
  · simp [Value.cells] at hcs
    obtain ⟨rfl, rfl, rfl⟩ := hcs
    simp only [Prod.mk.injEq] at hx
    obtain ⟨rfl, rfl⟩ := hx
    simp only [if_true] at hz
    have hlen : ((ss.take len).map fun s => s.data.toList).length = len := by simp; omega
    have hb : szN ((ss.take len).map fun s => s.data.toList) ≤ maxLen := by
      have h1 := szN_strs (H := H) (ss.take len)
      simp only [Rows.uptoBulk] at hk
      unfold maxLen
      omega
    refine ⟨some a, cap, (ss.take len).map fun s => s.data.toList, by rw [hlen], fun hne => ?_, hb, by rw [hlen]; exact hl⟩
    have hpos : 0 < ss.length := by
      rcases ss with _ | ⟨z, zs⟩
      · simp at hne
      · simp
    obtain ⟨b, off, spot⟩ := a
    have hspot : spot = none := by simpa [Addr.add] using World.cell?_spot (hcell 0 hpos)
    subst hspot
    refine ⟨b, off, rfl, hlt (.cell b off) (MemPlace.mem_row.2 ⟨0, hpos, by simp⟩), fun j u hu => ?_⟩
    have hjl : j < len := by
      have := (List.getElem?_eq_some_iff.1 hu).1
      simp at this
      omega
    have hj : j < ss.length := by omega
    have h1 := hcell j hj
    rw [addr_add] at h1
    rw [h1]
    have e : ss.getD j ByteArray.empty = ss[j] := by simp [List.getD, List.getElem?_eq_getElem hj]
    rw [List.getElem?_map, List.getElem?_map, List.getElem?_take, if_pos hjl, List.getElem?_eq_getElem hj] at hu
    simp only [Option.map_some] at hu
    rw [← hu, e, string_sv]

set_option maxRecDepth 20000 in
/-- An argument that is a question, not too great. -/
theorem open_questionU {H : Type} {enc : TypeId × Value → H} {W : World} {base : Nat} {v : Value} {d : DataW H} {p : List MemPlace}
    (hval : Value.okWide Tryz.prog W .any base 24 v) (h : DataW.Trod enc Tryz.prog W 0 (fun _ => true) true 24 v d p) (hlt : ∀ x ∈ p, x.block < W.heap.size) (hk : Rows.uptoBulk d ≤ 1048576) :
    ∃ (y : QV) (q : Qt), v = valQ y q ∧ QAt W W.heap.size y q ∧ QIn q ∧ q.name.length ≤ y.2 := by
  unfold Value.okWide at hval
  rw [Tryz.underlying24] at hval
  obtain ⟨cs0, rfl, hsz, _⟩ := hval
  obtain ⟨fuel, hf⟩ := h
  obtain ⟨cs⟩ := cs0
  simp only [Value.cells] at hf
  obtain ⟨y, q, e, h1, h2, h3, h4, h5, h6⟩ := read_question hf hlt
  subst e
  exact ⟨y, q, rfl, h1, ⟨h2, h3, h4, Nat.le_trans h6 hk⟩, h5⟩

theorem u8_nat13 {n : Int} (h : (Lit.int .u8 n).wf = true) : ∃ m : Nat, n = m ∧ m < 256 := by
  have h1 : IntKind.u8.min = 0 := rfl
  have h2 : IntKind.u8.max = 255 := rfl
  simp only [Lit.wf, Bool.and_eq_true, decide_eq_true_eq] at h
  exact ⟨n.toNat, by omega, by omega⟩

end Go.Proofs.YthppgofpbpjglaaGreat

namespace Go.Proofs.YthppgofpbpjglaaGreat

end Go.Proofs.YthppgofpbpjglaaGreat
