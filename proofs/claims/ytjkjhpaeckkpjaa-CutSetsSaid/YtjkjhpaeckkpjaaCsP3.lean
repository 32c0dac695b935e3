/-
  The contracts of find and Name of the document's Writer.
-/
import Derived.Test.YtjkjhpaeckkpjaaCsP2
import Derived.Test.YtjkjhpaeckkpjaaMbP1
import Derived.Deep.CutRange
import Derived.Deep.RegionHeld3
import Derived.Deep.RegionLaw
import Derived.Outline
import Derived.Test.YtjkjhpaeckkpjaaMbP8
import Derived.Test.YtjkjhpaeckkpjaaMbP3
namespace Go.Proofs.Ytjkjhpaeckkpjaa
open Go.RowKit

def findV (R : Rs) (n : List (List UInt8)) : Int := match findR R n with
  | some k => (k : Int)
  | none => -1
theorem findV_some {R : Rs} {n : List (List UInt8)} {k : Nat} (h : findR R n = some k) : findV R n = k := by simp only [findV, h]
theorem findV_none {R : Rs} {n : List (List UInt8)} (h : findR R n = none) : findV R n = -1 := by simp only [findV, h]
def FindRel (w : World) (R : Rs) (n : List (List UInt8)) (i : Value) (wr : World) : Prop := ∃ k q : Nat, k ≤ R.length ∧ i = .int .i64 k ∧ findR (R.take k) n = none ∧ wr = w.drewN q
theorem findR_here {R : Rs} {n : List (List UInt8)} {k : Nat} (hk : k < R.length) (h : findR (R.take k) n = none) (e : R[k].1 = n) : findR R n = some R[k].2 := by
  have h1 : findR (R.take (k + 1)) n = some R[k].2 := by
    rw [List.take_succ_eq_append_getElem hk, show R[k] = (R[k].1, R[k].2) from rfl, findR_snoc, h, if_pos e]
    rfl
  have h2 := findR_append (R.drop (k + 1)) h1
  rwa [List.take_append_drop] at h2
theorem findR_not {R : Rs} {n : List (List UInt8)} {k : Nat} (hk : k < R.length) (h : findR (R.take k) n = none) (e : R[k].1 ≠ n) : findR (R.take (k + 1)) n = none := by
  rw [List.take_succ_eq_append_getElem hk, show R[k] = (R[k].1, R[k].2) from rfl, findR_snoc, h, if_neg e]
  rfl

set_option maxHeartbeats 1000000 in
theorem rfind_any (base : Nat) (w : World) (Fp : Nat → Prop) (g : Nat) (vB vR : Value) (B : List UInt8) (R : Rs) (A : Option Addr) (m c : Nat) (n : List (List UInt8)) (h : RWr w base Fp g vB vR B R) (hl : n.length = m) (hA : Row w w.heap.size A (n.map sv))
    (_ : n.length ≤ 1000) (hR : R.length ≤ 1000000) (hR1 : ∀ r ∈ R, r.1.length ≤ 1000) :
    Calls Try.prog 83 #[.pointer (some ⟨g, 0, none⟩), .slice A m c] w (Drewn w (.int .i64 (findV R n))) := by
  subst hl
  obtain ⟨vs, hvl, hrow, hfr, hat⟩ := h.rests
  obtain ⟨AR, cR, rfl, hc1, hc2⟩ := own_form hrow
  have h1 := h.c1
  have HAT := Lib.hid hat
  have HRW := Lib.hid hrow
  have HA := Lib.hid hA
  have HR1 := Lib.hid hR1
  have HVL := Lib.hid hvl
  clear h hat hrow hA hR1 hvl hfr
  go_enter Try.func83, Try.ntmps83
  go_wp2
  go_loopw [5] (FindRel w R n) (fun i _ => R.length - (intOf i).toNat)
  case atStart => exact ⟨0, 0, Nat.zero_le _, rfl, by rw [List.take_zero]; rfl, rfl⟩
  case round =>
    obtain ⟨k, q, hk, rfl, hno, rfl⟩ := hrel
    have HNO := Lib.hid hno
    clear hno
    by_cases hlt : k < R.length
    · obtain ⟨gR, rfl⟩ := own_some HRW.out (by omega)
      obtain ⟨Ak, ck, hv, hok, _⟩ := HAT.out k hlt
      obtain ⟨hr1, hr2⟩ := restL_at R vs k hlt HVL.out
      rw [hv] at hr2
      have hc0 := HRW.out.cells (g := gR) rfl (k * 2) _ hr1
      have hc1' := HRW.out.cells (g := gR) rfl (k * 2 + 1) _ hr2
      rw [addr_add, Nat.zero_add] at hc0 hc1'
      have hc0' : w.cell? ⟨gR, k * 2, none⟩ = some (.int .i64 (R[k].2 : Int)) := hc0
      have hlen := HR1.out _ (List.getElem_mem hlt)
      obtain ⟨x, hx⟩ : ∃ x, x = R[k].1 := ⟨_, rfl⟩
      obtain ⟨y, hy⟩ : ∃ y, y = R[k].2 := ⟨_, rfl⟩
      rw [← hx] at hc1' hok hlen
      rw [← hy] at hc0'
      have HX := Lib.hid hx
      have HY := Lib.hid hy
      have HE := Lib.hid (fun W hA' hB' => exact_any Ak A x.length n.length ck c w.heap.size x n W rfl rfl hA' hB' (by unfold maxLen; omega))
      have HOK := Lib.hid (Row.of_own hok)
      clear hv hok hr1 hr2 hc0 hx hy
      by_cases he : x = n
      · rw [show decide (x = n) = true by simp [he]] at HE
        have HF := Lib.hid (findR_here hlt HNO.out (by rw [← HX.out]; exact he))
        clear he
        go_wp2_with fail
        refine (HE.out _ (HOK.out.drewN q) (HA.out.drewN q)).mono ?_
        rintro e w1 ⟨rfl, q1, rfl⟩
        go_wp2
        go_ret
        exact ⟨ret_int (by rw [findV_some HF.out, ← HY.out]), q + q1, rfl⟩
      · rw [show decide (x = n) = false by simp [he]] at HE
        have HF := Lib.hid (findR_not hlt HNO.out (by rw [← HX.out]; exact he))
        clear he
        go_wp2_with fail
        refine (HE.out _ (HOK.out.drewN q) (HA.out.drewN q)).mono ?_
        rintro e w1 ⟨rfl, q1, rfl⟩
        go_wp2
        exact ⟨⟨k + 1, q + q1, by omega, by go_num, HF.out, rfl⟩, by simp [intOf]; omega⟩
    · obtain rfl : k = R.length := by omega
      have HF := Lib.hid (show findR R n = none by have h := HNO.out; rwa [List.take_length] at h)
      go_wp2
      go_ret
      exact ⟨ret_int (findV_none HF.out).symm, q, rfl⟩

theorem rest_info : (Try.prog.info? 124).map (fun i => (i.zero, i.size, i.bytes)) = some (some (.agg #[.int .i64 0, .slice none 0 0]), 2, 32) := by kernel_rfl

theorem putL_ptr' (B : List UInt8) {k : Nat} (hk : k < 16384) : putL B (49152 + (k : Int)) 2 = B ++ digs (49152 + k) 2 := by
  have hf : fitB ((49152 + k : Nat) : Int) ((2 : Nat) : Int) = true := fitB_true (by omega) (by omega) (by omega) (by simp; omega)
  have h := putL_yes (l := B) hf
  simpa using h
theorem putL_len (B : List UInt8) {k : Nat} (hk : k < 256) : putL B (k : Int) 1 = B ++ [UInt8.ofNat k] := by
  have hf : fitB (k : Int) ((1 : Nat) : Int) = true := fitB_true (by omega) (by omega) (by omega) (by simp; omega)
  have h := putL_yes (l := B) hf
  simp only [digs, List.range_succ, List.range_zero] at h
  simpa using h

/-- append onto a row of the call's own, as one step of a region that draws; it says where the new row lies. -/
theorem step_append_at {P : Program} {w : World} {ops : Array Oper} {o : Oper} {a : Act} {K : Act → World → Prop} {Q : Exit → Act → World → Prop} {E : Prop} (hgd : o.guard = none) (s x : Operand) (t : TypeId)
    (ho : o.op = .call { callee := .builtin .append, args := #[s, x], argTypes := #[t, t] })
    (base : Nat) (e : TypeId) (i : TypeInfo) (z : Value) (size bytes : Nat) (ht : P.underlying t = some (.slice e)) (hi : P.info? e = some i) (hz : i.zero = some z)
    (hsize : i.size = size) (hby : i.bytes = bytes) (hzs : z.cells.size = size) (hsz : 0 < size)
    (v : Value) (n : Nat) (xs : List Value) (hs : a.eval s = v) (hown : w.ownsRow base e size v n xs)
    (A : Option Addr) (m c H : Nat) (news : List Value) (hx : a.eval x = .slice A m c) (hl : news.length = m * size) (hr : Row w H A news) (h1 : ∀ u ∈ news, u.oneCell' = true)
    (h63 : n + m ≤ maxLen) (hbytes : (n + m) * bytes ≤ 140737488355328) (hbase : base ≤ w.heap.size)
    (h : ∀ v' w', w'.ownsRow base e size v' (n + m) (xs ++ news) → w.grownBy w' v.ownBlock → (v'.ownBlock = v.ownBlock ∨ v'.ownBlock = some w.heap.size) → K (a.put o.dst v') w') : if Region.wanted o (yielded ops a.tmps) = true then Oper.wp P o a w K Q else E := by
  have hw : Region.wanted o (yielded ops a.tmps) = true := by simp [Region.wanted, hgd]
  rw [if_pos hw]
  have key : ∃ v' w', (Builtin.append_ #[t, t] o.type #[v, .slice A m c]).run P w = .ok v' w' ∧ w'.ownsRow base e size v' (n + m) (xs ++ news) ∧ w.grownBy w' v.ownBlock ∧ (v'.ownBlock = v.ownBlock ∨ v'.ownBlock = some w.heap.size) := by
    rcases A with _ | ad
    · have hn : news = [] := by
        rcases news with _ | ⟨u, us⟩
        · rfl
        · obtain ⟨_, _, h, _⟩ := hr (by simp)
          cases h
      have hm : m = 0 := by
        subst hn
        rcases Nat.eq_zero_or_pos m with h0 | h0
        · exact h0
        · have := Nat.mul_pos h0 hsz
          simp at hl; omega
      subst hn; subst hm
      exact ⟨v, w, append_nil_run (P := P) w base t o.type e i size ht hi v n xs hown c, by simpa using hown, World.grownBy.refl w _, .inl rfl⟩
    · have hc : ∀ j u, news[j]? = some u → w.cell? (ad.add j) = some u := by
        intro j u hu
        obtain ⟨b, off, e, _, hc⟩ := hr (fun e => by rw [e] at hu; simp at hu)
        injection e with e
        subst e
        rw [addr_add]
        exact hc j u hu
      obtain ⟨v', w', h2, h3, h4, _, h6⟩ := run_append_own_at (P := P) w base t o.type e i z size bytes ht hi hz hsize hby hzs hsz v n xs hown ad m c news hl hc h1 h63 hbytes hbase
      exact ⟨v', w', h2, h3, h4, h6⟩
  obtain ⟨v', w', hrun, h2, h3, h4⟩ := key
  unfold Oper.wp
  simp [execOp, ho, resolve, invoke, builtin, hs, hx, hrun, Result.andThen]
  exact h v' w' h2 h3 h4

/-- A rest has been noted. -/
theorem RWr.newR {w w1 w2 : World} {base g k : Nat} {Fp : Nat → Prop} {vB vR v2 : Value} {B : List UInt8} {R : Rs} {A : Option Addr} {c : Nat} {n : List (List UInt8)} {vs : List Value} (h : RWr w base Fp g vB vR B R) (hb : Below w.heap.size w w1)
    (hvl : vs.length = R.length) (hrow : w.ownsRow base 124 2 vR R.length (restL R vs)) (hfr : ∀ j, vR.ownBlock = some j → Fp j)
    (hat : ∀ i (h : i < R.length), ∃ A c, vs[i]? = some (.slice A (R[i].1).length c) ∧ w.ownsRow base 9 1 (.slice A (R[i].1).length c) (R[i].1).length ((R[i].1).map sv) ∧ ∀ j, (Value.slice A (R[i].1).length c).ownBlock = some j → Fp j)
    (ho : w1.ownsRow w.heap.size 9 1 (.slice A n.length c) n.length (n.map sv)) (ho2 : w2.ownsRow base 124 2 v2 (R.length + 1) (restL R vs ++ [iv k, .slice A n.length c]))
    (hg : w1.grownBy w2 vR.ownBlock) (hv2 : v2.ownBlock = vR.ownBlock ∨ v2.ownBlock = some w1.heap.size) :
    RPenned base w Fp g B (R ++ [(n, k)]) (w2.setCell ⟨g, 1, none⟩ v2) := by
  have hw1 := h.below hb
  have hrow1 := own_keep hrow fun j hj => hb.block j (hrow.lt j hj).2
  have hgne : vR.ownBlock ≠ some g := own_not_whole hrow h.blk (by decide)
  have hblk2 : Whole w2 g 94 [vB, vR] := hw1.blk.keep (hg.block g hw1.blk.lt (Ne.symm hgne))
  have hk : ∀ j, j < w1.heap.size → vR.ownBlock ≠ some j → j ≠ g → (w2.setCell ⟨g, 1, none⟩ v2).heap[j]? = w1.heap[j]? := fun j hj h1 h2 => (Below.heap_setCell w2 ⟨g, 1, none⟩ v2 j h2).trans (hg.block j hj (Ne.symm h1))
  have hs2 : (w2.setCell ⟨g, 1, none⟩ v2).heap.size = w2.heap.size := by simp
  have hsz1 := hb.size
  have hsz2 := hg.size
  have hbs := h.size
  refine ⟨fun j => Fp j ∨ (w.heap.size ≤ j ∧ j < w2.heap.size), vB, v2, ⟨hblk2.set_ 1 v2, .inl h.fg, ?_, fun j hj => .inl (h.frow j hj), ?_, ?_⟩, ?_, ?_⟩
  · refine own_keep hw1.row fun j hj => hk j (hw1.row.lt j hj).2 (own_own_apart hw1.row hrow1 (by decide) hj) (fun e => own_not_whole hw1.row hw1.blk (by decide) (by rw [hj, e]))
  · refine ⟨vs ++ [.slice A n.length c], by simp [hvl], ?_, fun j hj => ?_, fun i hi => ?_⟩
    · rw [restL_snoc R vs (n, k) _ hvl, List.length_append]
      exact own_set_far ho2 (own_not_whole ho2 hblk2 (by decide)) v2
    · rcases hv2 with e | e
      · exact .inl (hfr j (by rw [← e]; exact hj))
      · rw [e] at hj
        injection hj with hj
        have := (ho2.lt w1.heap.size e).2
        exact .inr ⟨by omega, by omega⟩
    · simp only [List.length_append, List.length_cons, List.length_nil] at hi
      by_cases hlt : i < R.length
      · obtain ⟨A', c', h5, h6, h7⟩ := hat i hlt
        have h6' := own_keep h6 fun j hj => hb.block j (h6.lt j hj).2
        simp only [List.getElem_append_left hlt]
        refine ⟨A', c', by rw [List.getElem?_append_left (by omega)]; exact h5, own_keep h6' fun j hj => hk j (h6'.lt j hj).2 (own_own_apart h6' hrow1 (by decide) hj) (fun e => own_not_whole h6' hw1.blk (by decide) (by rw [hj, e])), fun j hj => .inl (h7 j hj)⟩
      · obtain rfl : i = R.length := by omega
        have hge : (R ++ [(n, k)])[R.length] = (n, k) := by simp
        simp only [hge]
        refine ⟨A, c, by rw [← hvl]; simp, own_mono (own_keep ho fun j hj => hk j (ho.lt j hj).2 (own_own_apart ho hrow1 (by decide) hj) (fun e => own_not_whole ho hw1.blk (by decide) (by rw [hj, e]))) hbs, fun j hj => .inr ⟨(ho.lt j hj).1, ?_⟩⟩
        have := (ho.lt j hj).2
        omega
  · intro j hj
    rw [hs2]
    rcases hj with hj | hj
    · have := h.low j hj; omega
    · omega
  · refine ((Grew.all hb).grown hg fun j hj => .inl (hfr j hj)).setCell (.inl h.fg) _
  · intro j hj
    rcases hj with hj | hj
    · exact .inl hj
    · exact .inr hj.1
theorem Row.cell_at {w : World} {H b off : Nat} {n : List (List UInt8)} (h : Row w H (some ⟨b, off, none⟩) (n.map sv)) {k : Nat} (hk : k < n.length) : w.cell? ⟨b, off + k, none⟩ = some (.string ⟨(n[k]).toArray⟩) := by
  obtain ⟨b', off', e, _, hc⟩ := h.name_at hk
  injection e with e
  injection e with e1 e2
  subst e1; subst e2
  exact hc

/-- Is a pointer written? -/
def hitB (R : Rs) (n : List (List UInt8)) (short : Bool) : Bool := (findR R n).isSome && short
def HitRel (R : Rs) (n : List (List UInt8)) (short : Bool) (wf : World) (s : Value) (wx : World) : Prop := s = .bool (hitB R n short) ∧ wf = wx
theorem hitB_true {R : Rs} {n : List (List UInt8)} {short : Bool} (h : hitB R n short = true) : ∃ a, findR R n = some a ∧ short = true := by
  simp only [hitB, Bool.and_eq_true] at h
  obtain ⟨a, ha⟩ := Option.isSome_iff_exists.1 h.1
  exact ⟨a, ha, h.2⟩
theorem nameW_nohit {short : Bool} {l : List UInt8} {n : List (List UInt8)} {B : List UInt8} {R : Rs} (h : hitB R (l :: n) short = false) :
    nameW short (l :: n) B R = nameW short n (B ++ UInt8.ofNat l.length :: l) (if B.length < 16384 then R ++ [(l :: n, B.length)] else R) := by
  cases hf : findR R (l :: n) with
  | none => exact nameW_miss hf
  | some a =>
    have hs : short = false := by simpa [hitB, hf] using h
    subst hs
    exact nameW_long l n B R
theorem noteR_long {B : List UInt8} {R : Rs} {r : List (List UInt8)} (h : ∀ x ∈ R, x.2 < 16384 ∧ x.1.length ≤ 1000) (hr : r.length ≤ 1000) : (∀ x ∈ noteR B R r, x.2 < 16384 ∧ x.1.length ≤ 1000) ∧ (noteR B R r).length ≤ R.length + 1 := by
  unfold noteR
  split
  · rename_i hb
    refine ⟨fun x hx => ?_, by simp⟩
    rcases List.mem_append.1 hx with hx | hx
    · exact h x hx
    · rw [List.mem_singleton.1 hx]; exact ⟨hb, hr⟩
  · exact ⟨h, by omega⟩

/-- Behind the note of a rest. -/
def NotedRel (base : Nat) (w : World) (Fp : Nat → Prop) (g : Nat) (B : List UInt8) (R : Rs) (wx : World) : Prop := RPenned base w Fp g B R wx

def RNameRel (base : Nat) (w : World) (Fp : Nat → Prop) (g : Nat) (short : Bool) (n : List (List UInt8)) (B : List UInt8) (R : Rs) (i : Value) (wr : World) : Prop :=
  ∃ (k : Nat) (B' : List UInt8) (R' : Rs), k ≤ n.length ∧ i = .int .i64 (k : Nat) ∧ RPenned base w Fp g B' R' wr ∧ nameW short n B R = nameW short (n.drop k) B' R' ∧ B'.length + szN (n.drop k) ≤ B.length + szN n ∧ R'.length ≤ R.length + k ∧ ∀ r ∈ R', r.2 < 16384 ∧ r.1.length ≤ 1000

set_option maxRecDepth 100000 in
set_option maxHeartbeats 8000000 in
theorem rname_any (base : Nat) (w : World) (Fp : Nat → Prop) (g : Nat) (vB vR : Value) (B : List UInt8) (R : Rs) (A : Option Addr) (c H : Nat) (n : List (List UInt8)) (short : Bool) (h : RWr w base Fp g vB vR B R) (hA : Row w H A (n.map sv)) (hH : H ≤ base) (hc : n.length ≤ c)
    (hs : soundN n = true) (hB : B.length ≤ 1000000000) (hR : R.length ≤ 900000) (hR16 : ∀ r ∈ R, r.2 < 16384 ∧ r.1.length ≤ 1000) :
    Calls Try.prog 57 #[.pointer (some ⟨g, 0, none⟩), .slice A n.length c, .bool short] w (fun e w' => e = .returned (.tuple #[]) ∧ RPenned base w Fp g (nameW short n B R).1 (nameW short n B R).2 w') := by
  obtain ⟨s0, hs0, hx0, hx1, hx2⟩ := info_parts str_info
  obtain ⟨r0, hr0, hu0, hu1, hu2⟩ := info_parts rest_info
  have hs2 := hs
  simp only [soundN, Bool.and_eq_true, decide_eq_true_eq] at hs2
  obtain ⟨hfl, hsz⟩ := hs2
  have hnl := szN_ge n hfl
  have hbs := h.size
  have hlow := h.low
  have HA := Lib.hid hA
  have HF := Lib.hid hfl
  have HLOW := Lib.hid hlow
  have HW0 := Lib.hid (show RPenned base w Fp g B R w from ⟨Fp, vB, vR, h, Grew.refl _ _, fun j hj => .inl hj⟩)
  have HR16 := Lib.hid hR16
  clear h hA hs hfl hlow hR16
  go_enter Try.func57, Try.ntmps57
  go_wp2
  go_loopw [6] (RNameRel base w Fp g short n B R) (fun i _ => n.length - (intOf i).toNat)
  case atStart => exact ⟨0, B, R, Nat.zero_le _, rfl, HW0.out, rfl, Nat.le_refl _, Nat.le_refl _, HR16.out⟩
  case round =>
    obtain ⟨k, B1, R1, hk, rfl, ⟨Gp, vB1, vR1, hw1, hg1, ho1⟩, hnw, hb1, hr1, hr16⟩ := hrel
    obtain ⟨AB, cB, rfl, _, _⟩ := own_form hw1.row
    have HW1 := Lib.hid hw1
    have HG1 := Lib.hid hg1
    have HO1 := Lib.hid ho1
    have HNW := Lib.hid hnw
    have HR1 := Lib.hid hr16
    have hrowA := HA.out.grew hg1 (Nat.le_trans hH hbs) (fun j hj => Nat.le_trans hH (HLOW.out j hj).1)
    have HAr := Lib.hid hrowA
    have hHr : H ≤ wr.heap.size := Nat.le_trans hH hw1.size
    clear hw1 hg1 ho1 hnw hr16
    by_cases hlt : k < n.length
    · obtain ⟨bA, oA, rfl, hbA, hcA⟩ := hrowA.name_at hlt
      obtain ⟨l, hl⟩ : ∃ l, l = n[k] := ⟨_, rfl⟩
      have hdk : n.drop k = l :: n.drop (k + 1) := by rw [hl, List.drop_eq_getElem_cons hlt]
      have hfk : 1 ≤ l.length ∧ l.length ≤ 63 := by
        have h := List.all_eq_true.1 HF.out _ (List.getElem_mem hlt)
        rw [← hl] at h
        exact fitL_iff.1 h
      obtain ⟨hl1, hl2⟩ := hfk
      have hdl : szN (n.drop k) = l.length + 1 + szN (n.drop (k + 1)) := by rw [hdk]; rfl
      have hdn : (n.drop k).length ≤ 1000 := by rw [List.length_drop]; omega
      have hrowD : Row wr wr.heap.size (some ⟨bA, oA + k, none⟩) ((n.drop k).map sv) := by
        have h := (hrowA.drop rfl (k := k)).mono hHr
        rwa [← List.map_drop] at h
      have HFD := Lib.hid (rfind_any base wr Gp g (.slice AB B1.length cB) vR1 B1 R1 (some ⟨bA, oA + k, none⟩) (n.length - k) (c - k) (n.drop k) HW1.out (by simp) hrowD hdn (by omega) (fun r hr => (HR1.out r hr).2))
      have hck : (c = k) = False := by simp; omega
      have hk0 : (0 : Int) ≤ k := by omega
      have hk1 : (k : Int) ≤ (n.length : Int) := by omega
      have HL := Lib.hid hl
      have HDK := Lib.hid hdk
      clear hrowA hrowD hl hdk hcA
      go_wp2_with fail
      refine HFD.out.mono ?_
      rintro e w1 ⟨rfl, q, rfl⟩
      obtain ⟨wf, hwf⟩ : ∃ wf, wf = wr.drewN q := ⟨_, rfl⟩
      rw [← hwf]
      have hWf : RWr wf base Gp g (.slice AB B1.length cB) vR1 B1 R1 := by rw [hwf]; exact HW1.out.keep (Nat.le_refl _) fun _ _ => rfl
      have HGf := Lib.hid (show Grew Fp w wf by rw [hwf]; exact HG1.out.drewN q)
      have HAf := Lib.hid (show Row wf H (some ⟨bA, oA, none⟩) (n.map sv) by rw [hwf]; exact HAr.out.drewN q)
      have hHf : H ≤ wf.heap.size := by rw [hwf]; exact hHr
      have c0f := hWf.c0
      have HWf := Lib.hid hWf
      have HADf := Lib.hid (show Row (wf.drew.alloc (.cells #[] 9)) H (some ⟨bA, oA + k, none⟩) ((n.drop k).map sv) by
        have h := HAf.out.drop rfl (k := k)
        rw [← List.map_drop] at h
        exact h.drew.alloc (by simpa using hHf) _)
      clear hwf hWf
      go_upto_region 4 with fail
      go_cut [23] from 8 to 67 (fun s23 wx => HitRel R1 (n.drop k) short wf s23 wx)
      case first =>
        cases hfi : findR R1 (n.drop k) with
        | some a =>
          have dfv : decide (0 ≤ findV R1 (n.drop k)) = true := by rw [findV_some hfi]; simp
          have HFI := Lib.hid hfi
          clear hfi
          go_wp2_with fail
          go_meet
          exact ⟨by simp [hitB, HFI.out], rfl⟩
        | none =>
          have dfv : decide (0 ≤ findV R1 (n.drop k)) = false := by rw [findV_none hfi]; rfl
          have HFI := Lib.hid hfi
          clear hfi
          go_wp2_with fail
          go_meet
          exact ⟨by simp [hitB, HFI.out], rfl⟩
      case rest =>
        obtain ⟨rfl, rfl⟩ := hcut
        cases hh : hitB R1 (n.drop k) short with
        | true =>
          obtain ⟨a, hfi, rfl⟩ := hitB_true hh
          have ha16 := (HR1.out _ (findR_mem hfi)).1
          simp only at ha16
          rw [findV_some hfi]
          have HFI := Lib.hid hfi
          have HN := Lib.hid (rnum_any base wf Gp g (.slice AB B1.length cB) vR1 B1 R1 (49152 + (a : Int)) 2 HWf.out (by omega) (by omega))
          rw [putL_ptr' B1 ha16] at HN
          clear hh hfi
          go_wp2_with fail
          refine HN.out.mono ?_
          rintro e w2 ⟨rfl, hp⟩
          have HP := Lib.hid (RPenned.then HGf.out HO1.out hp)
          clear hp
          go_wp2
          refine bodyPost_ret (v := .tuple #[]) (by simp [results, Try.results57, go_sem]) rfl ?_
          refine ⟨rfl, ?_⟩
          rw [HNW.out, HDK.out]
          have h := HFI.out
          rw [HDK.out] at h
          rw [nameW_hit h]
          exact HP.out
        | false =>
          have HHF := Lib.hid (nameW_nohit (l := l) (n := n.drop (k + 1)) (B := B1) (by rw [← HDK.out]; exact hh))
          clear hh
          go_upto_if 33 with fail
          go_cut [] from 8 to 67 (fun wx => NotedRel base w Fp g B1 (noteR B1 R1 (n.drop k)) wx)
          case first =>
            by_cases hB16 : B1.length < 16384
            · have dB : decide ((B1.length : Int) < 16384) = true := by simp; omega
              obtain ⟨vs, hvl, hrow, hfr, hat⟩ := HWf.out.rests
              obtain ⟨AR, cR, rfl, _, _⟩ := own_form hrow
              have c1f := HWf.out.c1
              have f1f := HWf.out.f1
              have hgl := HWf.out.blk.lt
              have hbw := HWf.out.size
              have hgne : (Value.slice AR R1.length cR).ownBlock ≠ some g := own_not_whole hrow HWf.out.blk (by decide)
              have HROW := Lib.hid hrow
              have HVL := Lib.hid hvl
              have HFR := Lib.hid hfr
              have HAT := Lib.hid hat
              have HGN := Lib.hid hgne
              have hRl : R1.length ≤ 1000000 := by omega
              have hdl2 : n.length - k ≤ 1000 := by omega
              clear hvl hrow hfr hat hgne
              go_wp2
              go_region_law (first
                | (refine step_append_any rfl (.tmp 44) (.tmp 47) _ rfl wf.heap.size 9 s0 _ 1 16 Try.underlying40 hs0 hx0 hx1 hx2 rfl (by omega) (.slice (some ⟨wf.heap.size, 0, none⟩) 0 0) 0 [] rfl
                     (own_lit wf.drew _ _) (some ⟨bA, oA + k, none⟩) (n.length - k) (c - k) H ((n.drop k).map sv) rfl (by simp) HADf.out (sv_one _) (by unfold maxLen; omega) (by omega) (by simp) ?_
                   intro v1 w1 hown1 hg1
                   simp only [Nat.zero_add, List.nil_append] at hown1
                   obtain ⟨A1, c1, rfl, _, _⟩ := own_form hown1
                   have hb1 : Below wf.heap.size wf w1 := own_below (((Below.refl wf.heap.size wf).drew).alloc (Nat.le_refl _) _) (Nat.le_refl _) (by simp) (own_lit wf.drew 9 1) hg1
                   have hk1' := HWf.out.below hb1
                   have c0' := hk1'.c0
                   have c1' := hk1'.c1
                   have hg1l := hk1'.blk.lt
                   have HO48 := Lib.hid hown1
                   have HB1 := Lib.hid hb1
                   have HR1' := Lib.hid (own_keep HROW.out fun j hj => hb1.block j (HROW.out.lt j hj).2)
                   have hz1' : base ≤ w1.heap.size := Nat.le_trans hbw hb1.size
                   clear hown1 hg1 hb1 hk1')
                | (refine step_append_at rfl (.tmp 38) (.tmp 50) _ rfl base 124 r0 _ 2 32 Try.underlying92 hr0 hu0 hu1 hu2 rfl (by omega) (.slice AR R1.length cR) R1.length _ rfl (HR1'.out.alloc _)
                     (some ⟨w1.heap.size, 0, none⟩) 1 1 (w1.heap.size + 1) [.int .i64 (B1.length : Int), .slice A1 (n.length - k) c1] rfl rfl (Row.made w1 #[.int .i64 (B1.length : Int), .slice A1 (n.length - k) c1] _) (by simp [Value.oneCell']) (by unfold maxLen; omega) (by omega) (by simp; omega) ?_
                   intro v2 w2 hown2 hg2 hat2
                   obtain ⟨A2, c2, rfl, _, _⟩ := own_form hown2
                   have hk2 : w2.heap[g]? = w1.heap[g]? := (hg2.block g (by simp; omega) (Ne.symm HGN.out)).trans (Below.heap_alloc w1 _ g hg1l)
                   have hk2' := (HWf.out.below HB1.out).blk.keep hk2
                   have c1'' : w2.cell? ⟨g, 1, none⟩ = some (.slice AR R1.length cR) := hk2'.cell 1
                   have f1'' : w2.frozen? ⟨g, 1, none⟩ = false := hk2'.frozen 1
                   have HO51 := Lib.hid hown2
                   have HG51 := Lib.hid hg2
                   have HA51 := Lib.hid hat2
                   have c0'' : w2.cell? ⟨g, 0, none⟩ = some (.slice AB B1.length cB) := hk2'.cell 0
                   clear hown2 hg2 hat2 hk2 hk2'))
              all_goals
                go_wp2_with fail
                go_meet
                show RPenned base w Fp g B1 (noteR B1 R1 (n.drop k)) _
                rw [noteR, if_pos hB16]
                have h48 := HO48.out.alloc (.cells #[.int .i64 (B1.length : Int), .slice A1 (n.length - k) c1] 124)
                have h51 := HO51.out
                have hb2 := HB1.out.alloc HB1.out.size (.cells #[.int .i64 (B1.length : Int), .slice A1 (n.length - k) c1] 124)
                have HG52 := HG51.out
                have HA52 := HA51.out
                rw [show n.length - k = (n.drop k).length by simp] at h48 h51 hb2 HG52 HA52
                exact RPenned.then HGf.out HO1.out (HWf.out.newR hb2 HVL.out HROW.out HFR.out HAT.out h48 h51 HG52 HA52)
            · have dB : decide ((B1.length : Int) < 16384) = false := by simp; omega
              go_wp2_with fail
              go_meet
              show RPenned base w Fp g B1 (noteR B1 R1 (n.drop k)) wf
              rw [noteR, if_neg hB16]
              exact ⟨Gp, _, _, HWf.out, HGf.out, HO1.out⟩
          case rest =>
            obtain ⟨Gq, vB2, vR2, hw2, hg2, ho2⟩ := hcut
            have hlowH : ∀ j, Fp j → H ≤ j := fun j hj => Nat.le_trans hH (HLOW.out j hj).1
            have hHw : H ≤ w.heap.size := Nat.le_trans hH hbs
            have c2 : wc.cell? ⟨bA, oA + k, none⟩ = some (.string ⟨l.toArray⟩) := by rw [Row.cell_at (HA.out.grew hg2 hHw hlowH) hlt, HL.out]
            have hnote := noteR_long (B := B1) (r := n.drop k) HR1.out hdn
            obtain ⟨R2, hR2⟩ : ∃ R2, R2 = noteR B1 R1 (n.drop k) := ⟨_, rfl⟩
            rw [← hR2] at hw2 hnote
            obtain ⟨hno1, hno2⟩ := hnote
            have HNO := Lib.hid hno1
            have HN := Lib.hid (rnum_any base wc Gq g vB2 vR2 B1 R2 (l.length : Int) 1 hw2 (by omega) (by omega))
            rw [putL_len B1 (by omega)] at HN
            have HG2 := Lib.hid hg2
            have HO2 := Lib.hid ho2
            have HRR := Lib.hid hR2
            clear hw2 hg2 ho2 hno1 hR2
            go_wp2_with fail
            refine HN.out.mono ?_
            rintro e w3 ⟨rfl, Gs, vB3, vR3, hw3, hg3, ho3⟩
            have HG3 := Lib.hid (HG2.out.trans hg3 HO2.out)
            have HO3 := Lib.hid (fun j hj => (ho3 j hj).elim (HO2.out j) (fun h => Or.inr (Nat.le_trans HG2.out.size h)))
            have HW3 := Lib.hid hw3
            have c3 : w3.cell? ⟨bA, oA + k, none⟩ = some (.string ⟨l.toArray⟩) := by rw [Row.cell_at (HA.out.grew HG3.out hHw hlowH) hlt, HL.out]
            clear hw3 hg3 ho3
            go_wp2_with (
              refine wpList_bytes rfl (.tmp 65) _ _ 5 rfl Try.underlying9 Try.underlying28 Try.underlying5 l rfl ?_
              intro C w4 hC hmk hb4 hs4)
            have hrow4 := hmk.row.take l.length
            rw [List.take_left' (by simp)] at hrow4
            have HRW := Lib.hid (rraw_any base w4 Gs g vB3 vR3 (B1 ++ [UInt8.ofNat l.length]) R2 _ l.length C l (HW3.out.below hb4) rfl hrow4 (by simp; omega))
            have HG4 := Lib.hid (HG3.out.then_below hb4)
            clear hrow4 hmk hC hs4 hb4
            refine HRW.out.mono ?_
            rintro e w5 ⟨rfl, Gt, vB5, vR5, hw5, hg5, ho5⟩
            have HW5 := Lib.hid hw5
            have HG5 := Lib.hid (HG4.out.trans hg5 HO3.out)
            have HO5 := Lib.hid (fun j hj => (ho5 j hj).elim (HO3.out j) (fun h => Or.inr (Nat.le_trans HG4.out.size h)))
            clear hw5 hg5 ho5
            go_wp2
            refine ⟨⟨k + 1, (B1 ++ [UInt8.ofNat l.length]) ++ l, R2, by omega, by go_num, ⟨Gt, vB5, vR5, HW5.out, HG5.out, HO5.out⟩, ?_, ?_, by omega, HNO.out⟩, by simp [intOf]; omega⟩
            · rw [HNW.out, HDK.out, HHF.out, HRR.out, noteR, HDK.out, List.append_assoc, List.singleton_append]
            · simp only [List.length_append, List.length_cons, List.length_nil]; omega
    · obtain rfl : k = n.length := by omega
      have HN := Lib.hid (rnum_any base wr Gp g (.slice AB B1.length cB) vR1 B1 R1 0 1 HW1.out (by omega) (by omega))
      rw [show putL B1 0 1 = B1 ++ [0] from putL_len B1 (k := 0) (by omega)] at HN
      clear hrowA
      go_wp2_with fail
      refine HN.out.mono ?_
      rintro e w2 ⟨rfl, hp⟩
      have HP := Lib.hid (RPenned.then HG1.out HO1.out hp)
      clear hp
      go_wp2
      go_end0
      refine ⟨rfl, ?_⟩
      rw [HNW.out, List.drop_length, nameW_nil]
      exact HP.out

end Go.Proofs.Ytjkjhpaeckkpjaa

namespace Go.Proofs.Ytjkjhpaeckkpjaa
open Go.RowKit

structure Pair (w : World) (base g1 : Nat) (vB1 vM1 : Value) (B1 : List UInt8) (R1 : Rs) (Fp : Nat → Prop) (g2 : Nat) (vB2 vR2 : Value) (B2 : List UInt8) (R2 : Rs) : Prop where
  w1 : Wr w base g1 vB1 vM1 B1 R1
  w2 : RWr w base Fp g2 vB2 vR2 B2 R2
  d : ∀ j, ownF g1 vB1 vM1 j → ¬ Fp j

section
variable {w w' : World} {base g1 : Nat} {vB1 vM1 : Value} {B1 : List UInt8} {R1 : Rs} {Fp : Nat → Prop} {g2 : Nat} {vB2 vR2 : Value} {B2 : List UInt8} {R2 : Rs}
theorem Pair.below (h : Pair w base g1 vB1 vM1 B1 R1 Fp g2 vB2 vR2 B2 R2) (hb : Below w.heap.size w w') : Pair w' base g1 vB1 vM1 B1 R1 Fp g2 vB2 vR2 B2 R2 :=
  ⟨h.w1.below hb, h.w2.below hb, h.d⟩
/-- The program's Writer has gone on. -/
theorem Pair.pen1 (h : Pair w base g1 vB1 vM1 B1 R1 Fp g2 vB2 vR2 B2 R2) {B : List UInt8} {R : Rs} (hp : Penned base w g1 vB1 vM1 B R w') :
    ∃ vB vM, Pair w' base g1 vB vM B R Fp g2 vB2 vR2 B2 R2 ∧ Below base w w' := by
  have hbel := hp.below h.w1
  obtain ⟨vB, vM, h1, hg, hf⟩ := hp
  refine ⟨vB, vM, ⟨h1, h.w2.grew hg fun j hj h1 => h.d j h1 hj, fun j hj h2 => ?_⟩, hbel⟩
  rcases hf j hj with h3 | h3
  · exact h.d j h3 h2
  · have := (h.w2.low j h2).2; omega
/-- The document's Writer has gone on. -/
theorem Pair.pen2 (h : Pair w base g1 vB1 vM1 B1 R1 Fp g2 vB2 vR2 B2 R2) {B : List UInt8} {R : Rs} (hp : RPenned base w Fp g2 B R w') :
    ∃ Gp vB vR, Pair w' base g1 vB1 vM1 B1 R1 Gp g2 vB vR B R ∧ Below base w w' := by
  obtain ⟨Gp, vB, vR, h1, hg, hf⟩ := hp
  refine ⟨Gp, vB, vR, ⟨h.w1.grew hg h.d, h1, fun j hj h2 => ?_⟩, hg.below (fun j hj => (h.w2.low j hj).1) h.w2.size⟩
  rcases hf j h2 with h3 | h3
  · exact h.d j hj h3
  · have := (h.w1.own hj).2; omega
/-- Both are new. -/
theorem Pair.new {b0 : Nat} (h : Wr w b0 g1 (.slice none 0 0) (.map none) [] []) :
    Pair (w.alloc (.cells #[.slice none 0 0, .slice none 0 0] 94)) b0 g1 (.slice none 0 0) (.map none) [] [] (fun j => j = w.heap.size) w.heap.size (.slice none 0 0) (.slice none 0 0) [] [] := by
  refine ⟨h.alloc _, ⟨heap_alloc_new w _, rfl, World.ownsRow_nil _ _ _ _, fun j hj => by simp [Value.ownBlock] at hj, ⟨[], rfl, World.ownsRow_nil _ _ _ _, fun j hj => by simp [Value.ownBlock] at hj, fun i hi => absurd hi (Nat.not_lt_zero _)⟩, fun j hj => ?_⟩, fun j hj e => ?_⟩
  · subst hj
    exact ⟨h.size, by simp⟩
  · subst e
    have := (h.own hj).2
    omega
end

theorem nameW_kept (short : Bool) : ∀ (n : List (List UInt8)) (B : List UInt8) (R : Rs), (∀ x ∈ R, x.2 < 16384 ∧ x.1.length ≤ 1000) → n.length ≤ 1000 → ∀ x ∈ (nameW short n B R).2, x.2 < 16384 ∧ x.1.length ≤ 1000
  | [], B, R, h, _ => by rw [nameW_nil]; exact h
  | l :: n, B, R, h, hn => by
    cases hf : hitB R (l :: n) short with
    | true =>
      obtain ⟨hs, a, ha⟩ : short = true ∧ ∃ a, findR R (l :: n) = some a := by
        unfold hitB at hf
        cases h1 : findR R (l :: n) with
        | none => simp [h1] at hf
        | some a => exact ⟨by simpa [h1] using hf, a, rfl⟩
      subst hs
      rw [nameW_hit ha]
      exact h
    | false =>
      rw [nameW_nohit hf]
      refine nameW_kept short n _ _ ?_ (by simp only [List.length_cons] at hn; omega)
      have := (noteR_long (B := B) (r := l :: n) h hn).1
      rw [noteR] at this
      exact this

theorem putL_app (B : List UInt8) (n s : Int) : putL B n s = B ++ putL [] n s := by
  unfold putL
  split <;> simp
theorem putL_le7 (n s : Int) : (putL [] n s).length ≤ 7 := by
  unfold putL
  split
  · rename_i hf
    simp only [fitB, decide_eq_true_eq] at hf
    simp [length_digs]
    omega
  · simp

end Go.Proofs.Ytjkjhpaeckkpjaa

namespace Go.Proofs.Ytjkjhpaeckkpjaa
open Go.RowKit

set_option maxHeartbeats 400000 in
theorem put_nil (k : Int) (y : DV) (d : Dt) (w : World) : Calls Try.prog 52 #[.pointer none, .int .i64 k, y.val d] w (Gave w (.int .i64 2)) := by
  go_enter Try.func52, Try.ntmps52
  go_wp2
  go_ret
  exact ⟨rfl, (Below.refl _ _).alloc (Nat.le_refl _) _⟩
set_option maxHeartbeats 400000 in
theorem put_bad (w : World) (g : Nat) (k : Int) (y : DV) (d : Dt) (hy : DataAt w w.heap.size y d) (hs : soundD k d = false) (q1 : szN d.host ≤ maxLen) (q2 : szN d.mail ≤ maxLen) (q3 : d.texts.length ≤ maxLen) (q4 : ∀ k (h : k < d.texts.length), (d.texts[k]).length ≤ maxLen) :
    Calls Try.prog 52 #[.pointer (some ⟨g, 0, none⟩), .int .i64 k, y.val d] w (Gave w (.int .i64 2)) := by
  have HSD := Lib.hid (fun W (h : DataAt W W.heap.size y d) => dsound_any k y d W h q1 q2 q3 q4)
  rw [hs] at HSD
  have HY := Lib.hid ((hy.alloc (Nat.le_refl _) (.cells #[y.vb d, y.vh d, y.vm d, y.vn d, y.vt d] 46)).mono (show w.heap.size ≤ (w.alloc (.cells #[y.vb d, y.vh d, y.vm d, y.vn d, y.vt d] 46)).heap.size by simp))
  clear hs q1 q2 q3 q4 hy
  go_enter Try.func52, Try.ntmps52
  go_wp2_with fail
  refine (HSD.out _ HY.out).mono ?_
  rintro e w1 ⟨rfl, hb⟩
  have HB := Lib.hid (((Below.refl w.heap.size w).alloc (Nat.le_refl _) (.cells #[y.vb d, y.vh d, y.vm d, y.vn d, y.vt d] 46)).trans (hb.mono (by simp)))
  clear hb
  go_wp2
  go_ret
  exact ⟨rfl, HB.out⟩

section
variable {base : Nat} {w W W' : World} {Fp : Nat → Prop} {g : Nat} {B : List UInt8} {R : Rs}
theorem RPenned.more (h : RPenned base w Fp g B R W) (hb : Below W.heap.size W W') : RPenned base w Fp g B R W' := by
  obtain ⟨Gp, vB, vR, h1, hg, hf⟩ := h
  exact ⟨Gp, vB, vR, h1.below hb, hg.then_below hb, hf⟩
theorem rrawP (hp : RPenned base w Fp g B R W) (A : Option Addr) (m c : Nat) (l : List UInt8) (hl : l.length = m) (hr : Row W W.heap.size A (l.map bc)) (hm : B.length + m ≤ 140737488355000) :
    Calls Try.prog 59 #[.pointer (some ⟨g, 0, none⟩), .slice A m c] W (fun e w' => e = .returned (.tuple #[]) ∧ RPenned base w Fp g (B ++ l) R w') := by
  obtain ⟨Gp, vB, vR, h, hg, hf⟩ := hp
  exact (rraw_any base W Gp g vB vR B R A m c l h hl hr hm).mono fun e w' ⟨he, h2⟩ => ⟨he, RPenned.then hg hf h2⟩
theorem rnumP (hp : RPenned base w Fp g B R W) (n s : Int) (hm : B.length ≤ 140737488354000) (hn : n ≤ 9223372036854775807) :
    Calls Try.prog 55 #[.pointer (some ⟨g, 0, none⟩), .int .i64 n, .int .i64 s] W (fun e w' => e = .returned (.tuple #[]) ∧ RPenned base w Fp g (B ++ putL [] n s) R w') := by
  obtain ⟨Gp, vB, vR, h, hg, hf⟩ := hp
  rw [← putL_app]
  exact (rnum_any base W Gp g vB vR B R n s h hm hn).mono fun e w' ⟨he, h2⟩ => ⟨he, RPenned.then hg hf h2⟩
theorem rnameP (hp : RPenned base w Fp g B R W) (A : Option Addr) (c : Nat) (n : List (List UInt8)) (short : Bool) (hA : Row W base A (n.map sv)) (hc : n.length ≤ c) (hs : soundN n = true) (hB : B.length ≤ 1000000000) (hR : R.length ≤ 900000) (hR16 : ∀ r ∈ R, r.2 < 16384 ∧ r.1.length ≤ 1000) :
    Calls Try.prog 57 #[.pointer (some ⟨g, 0, none⟩), .slice A n.length c, .bool short] W (fun e w' => e = .returned (.tuple #[]) ∧ RPenned base w Fp g (nameW short n B R).1 (nameW short n B R).2 w') := by
  obtain ⟨Gp, vB, vR, h, hg, hf⟩ := hp
  exact (rname_any base W Gp g vB vR B R A c base n short h hA (Nat.le_refl _) hc hs hB hR hR16).mono fun e w' ⟨he, h2⟩ => ⟨he, RPenned.then hg hf h2⟩
/-- The box of the data stays. -/
theorem box_stays {x : DV} {d : Dt} (hx : DataAt w base x d) (hlow : ∀ j, Fp j → base ≤ j ∧ j < w.heap.size) (hb : base ≤ w.heap.size)
    (hp : RPenned base (w.alloc (.cells #[x.vb d, x.vh d, x.vm d, x.vn d, x.vt d] 46)) Fp g B R W) : Whole W w.heap.size 46 [x.vb d, x.vh d, x.vm d, x.vn d, x.vt d] ∧ DataAt W base x d := by
  obtain ⟨_, _, _, _, hg, _⟩ := hp
  refine ⟨(Whole.made w [x.vb d, x.vh d, x.vm d, x.vn d, x.vt d] _).keep (hg.block w.heap.size (by simp) fun hj => by have := (hlow _ hj).2; omega), (hx.alloc hb _).below (hg.below (fun j hj => (hlow j hj).1) (by simp; omega))⟩
theorem RPenned.from {o : Obj} (hp : RPenned base (w.alloc o) Fp g B R W) : RPenned base w Fp g B R W :=
  RPenned.then (Grew.all ((Below.refl _ _).alloc (Nat.le_refl _) _)) (fun _ hj => .inl hj) hp
end
theorem putD_none {s : Sh} {d : Dt} (B : List UInt8) (R : Rs) (sp : SoundP s d) (h1 : s.host = false) (h2 : s.mail = false) (h3 : s.ahead = 0) (h4 : s.behind = 0) (h5 : s.texts = true → s.most = 0) : putD s d B R = ((B ++ d.bytes) ++ textsW d.texts, R) := by
  have hn : d.nums = [] := List.eq_nil_of_length_eq_zero (by have := sp.n; omega)
  have hc : d.bytes = [] ∨ d.texts = [] := by
    cases ht : s.texts with
    | false => exact .inr (sp.t0 ht)
    | true => exact .inl (List.eq_nil_of_length_eq_zero (by have := sp.b; rw [h5 ht] at this; omega))
  unfold putD putM putH
  rw [if_neg (by rw [h2]; decide), if_neg (by rw [h1]; decide), hn]
  rcases hc with h | h <;> rw [h] <;> simp [numsW, textsW]
theorem putD_host {s : Sh} {d : Dt} (B : List UInt8) (R : Rs) (sp : SoundP s d) (h1 : s.host = true) (h2 : s.mail = false) (h4 : s.behind = 0) (h5 : s.most = 0) (h6 : s.texts = false) : putD s d B R = nameW s.short d.host (((B ++ d.bytes) ++ textsW d.texts) ++ numsW 2 d.nums) R := by
  have hb : d.bytes = [] := List.eq_nil_of_length_eq_zero (by have := sp.b; omega)
  have ht := sp.t0 h6
  have hn := sp.n
  unfold putD putM putH
  rw [if_neg (by rw [h2]; decide), if_pos h1, hb, ht, List.take_of_length_le (by omega), List.drop_of_length_le (by omega)]
  simp [numsW, textsW]
theorem putD_both {s : Sh} {d : Dt} (B : List UInt8) (R : Rs) (sp : SoundP s d) (h1 : s.host = true) (h2 : s.mail = true) (h3 : s.ahead = 0) (h5 : s.most = 0) (h6 : s.texts = false) :
    putD s d B R = ((nameW s.short d.mail (nameW s.short d.host ((B ++ d.bytes) ++ textsW d.texts) R).1 (nameW s.short d.host ((B ++ d.bytes) ++ textsW d.texts) R).2).1 ++ numsW 4 d.nums, (nameW s.short d.mail (nameW s.short d.host ((B ++ d.bytes) ++ textsW d.texts) R).1 (nameW s.short d.host ((B ++ d.bytes) ++ textsW d.texts) R).2).2) := by
  have hb : d.bytes = [] := List.eq_nil_of_length_eq_zero (by have := sp.b; omega)
  have ht := sp.t0 h6
  unfold putD putM putH
  rw [if_pos h2, if_pos h1, hb, ht, h3]
  simp [numsW, textsW]

def RTRel (base : Nat) (w : World) (Fp : Nat → Prop) (g : Nat) (B : List UInt8) (R : Rs) (l : List (List UInt8)) (i : Value) (wr : World) : Prop :=
  ∃ k : Nat, k ≤ l.length ∧ i = .int .i64 k ∧ RPenned base w Fp g (B ++ textsW (l.take k)) R wr
def RNRel (base : Nat) (w : World) (Fp : Nat → Prop) (g : Nat) (B : List UInt8) (R : Rs) (s : Int) (l : List Int) (i : Value) (wr : World) : Prop :=
  ∃ k : Nat, k ≤ l.length ∧ i = .int .i64 k ∧ RPenned base w Fp g (B ++ numsW s (l.take k)) R wr

set_option maxRecDepth 20000 in
set_option maxHeartbeats 2000000 in
theorem rput_1 (base : Nat) (w : World) (Fp : Nat → Prop) (g : Nat) (vB vR : Value) (B : List UInt8) (R : Rs) (x : DV) (d : Dt) (h : RWr w base Fp g vB vR B R) (hx : DataAt w base x d) (hs : soundD 1 d = true) (hN : ∀ n ∈ d.nums, n ≤ 9223372036854775807)
    (hB : B.length ≤ 100000000) (_ : R.length ≤ 800000) (hR16 : ∀ r ∈ R, r.2 < 16384 ∧ r.1.length ≤ 1000) :
    Calls Try.prog 84 #[.pointer (some ⟨g, 0, none⟩), .int .i64 1, x.val d] w (fun e w' => e = .returned (.tuple #[]) ∧ RPenned base w Fp g (putD (shN 1) d B R).1 (putD (shN 1) d B R).2 w') := by
  have sp := soundP hs
  have hE := putD_none (s := shN 1) B R sp rfl rfl rfl rfl (by decide)
  rw [hE]
  have hbm : d.bytes.length ≤ 65535 := Nat.le_trans sp.b (by skip <;> first | decide | exact Nat.le_refl _)
  have htl := sp.t
  have hnl : d.nums.length ≤ 10 := by have := sp.n; have h1 : (shN 1).ahead + (shN 1).behind ≤ 10 := (by skip <;> decide); omega
  have HT := Lib.hid sp.tl
  have HN := Lib.hid hN
  have HR := Lib.hid hR16
  have HFIN := Lib.hid (fun B' R' W (hp : RPenned base (w.alloc (.cells #[x.vb d, x.vh d, x.vm d, x.vn d, x.vt d] 46)) Fp g B' R' W) => hp.from)
  have HBOX := Lib.hid (fun B' R' W (hp : RPenned base (w.alloc (.cells #[x.vb d, x.vh d, x.vm d, x.vn d, x.vt d] 46)) Fp g B' R' W) => box_stays hx h.low h.size hp)
  have hp0 : RPenned base (w.alloc (.cells #[x.vb d, x.vh d, x.vm d, x.vn d, x.vt d] 46)) Fp g B R (w.alloc (.cells #[x.vb d, x.vh d, x.vm d, x.vn d, x.vt d] 46)) :=
    ⟨Fp, vB, vR, h.below ((Below.refl _ _).alloc (Nat.le_refl _) _), Grew.refl _ _, fun _ hj => .inl hj⟩
  have hrb := (HBOX.out _ _ _ hp0).2.b
  have hch := hx.lh
  have hcm := hx.lm
  have HP0 := Lib.hid hp0
  have HRB := Lib.hid (hrb.mono (show base ≤ (w.alloc (.cells #[x.vb d, x.vh d, x.vm d, x.vn d, x.vt d] 46)).heap.size by have := h.size; simp; omega))
  clear sp hE h hx hs hN hR16 hp0 hrb
  go_enter Try.func84, Try.ntmps84
  go_wp2_with fail
  refine (rrawP HP0.out x.Ab d.bytes.length x.cb d.bytes rfl HRB.out (by omega)).mono ?_
  rintro e W1 ⟨rfl, hp1⟩
  generalize w.alloc (.cells #[x.vb d, x.vh d, x.vm d, x.vn d, x.vt d] 46) = w1 at *
  obtain ⟨B1, hB1⟩ : ∃ B1, B1 = B ++ d.bytes := ⟨_, rfl⟩
  rw [← hB1] at hp1
  have hl1 : B1.length ≤ 101000000 := by rw [hB1, List.length_append]; omega
  have HP1 := Lib.hid hp1
  have HB1 := Lib.hid hB1
  clear hp1 hB1 HP0 HRB
  go_wp2
  go_loopw [6] (RTRel base w1 Fp g B1 R d.texts) (fun i _ => d.texts.length - (intOf i).toNat)
  case atStart => exact ⟨0, Nat.zero_le _, rfl, by simpa [textsW] using HP1.out⟩
  case round =>
    obtain ⟨k0, hk0, rfl, hp⟩ := hrel
    obtain ⟨hbx, hdt⟩ := HBOX.out _ _ _ hp
    have p4 : wr.cell? ⟨w.heap.size, 4, none⟩ = some (.slice x.At d.texts.length x.ct) := hbx.cell 4
    have HP := Lib.hid hp
    have HDT := Lib.hid hdt
    have HBX := Lib.hid hbx
    clear hp hbx hdt HP1
    by_cases hlt : k0 < d.texts.length
    · obtain ⟨b, off, hA, _, hc⟩ := HDT.out.t.name_at hlt
      rw [hA] at p4
      have hlk := HT.out d.texts[k0] (List.getElem_mem hlt)
      have hlen : (B1 ++ textsW (d.texts.take k0)).length + 3000 ≤ 140737488354000 := by
        have := length_textsW 255 (d.texts.take k0) fun t ht => HT.out t (List.mem_of_mem_take ht)
        rw [List.length_append]
        rw [List.length_take] at this
        have h3 : (255 + 7) * min k0 d.texts.length ≤ (255 + 7) * 64 := Nat.mul_le_mul_left _ (by omega)
        omega
      have HLEN := Lib.hid hlen
      have HTS := Lib.hid (show textsW (d.texts.take (k0 + 1)) = textsW (d.texts.take k0) ++ (putL [] (d.texts[k0].length : Int) 1 ++ d.texts[k0]) by rw [List.take_succ_eq_append_getElem hlt, textsW_snoc])
      have HCA := Lib.hid (fun W (h : DataAt W base x d) => (show W.cell? ⟨b, off + k0, none⟩ = some (.string ⟨(d.texts[k0]).toArray⟩) from Row.cell_at (by have := h.t; rw [hA] at this; exact this) hlt))
      have HAA := Lib.hid hA
      obtain ⟨t, htt⟩ : ∃ t, t = d.texts[k0] := ⟨_, rfl⟩
      rw [← htt] at hc hlk HTS HCA
      clear hlen htt hA
      go_wp2_with fail
      refine (rnumP HP.out (t.length : Int) 1 (by have := HLEN.out; omega) (by omega)).mono ?_
      rintro e W2 ⟨rfl, hp2⟩
      obtain ⟨hbx2, hdt2⟩ := HBOX.out _ _ _ hp2
      have p4' : W2.cell? ⟨w.heap.size, 4, none⟩ = some (.slice (some ⟨b, off, none⟩) d.texts.length x.ct) := by rw [← HAA.out]; exact hbx2.cell 4
      have hc' := HCA.out _ hdt2
      have HP2 := Lib.hid hp2
      clear hp2 hbx2 hdt2 p4 hc
      go_wp2_with (refine wpList_bytes rfl (.tmp 33) 9 28 5 rfl Try.underlying9 Try.underlying28 Try.underlying5 t rfl ?_; intro C4 W3 hC4 hM4 hB4 hs4)
      have hr := hM4.row.take t.length
      rw [List.take_left' (by rw [List.length_map])] at hr
      have HR3 := Lib.hid (hr.mono (show _ ≤ W3.heap.size by first | omega | exact Nat.le_refl _ | (simp; omega)))
      have HP3 := Lib.hid (HP2.out.more hB4)
      have hp7 := length_putL (t.length : Int) 1
      clear hr hM4 hB4 hs4 HP2 p4' hc'
      refine (rrawP HP3.out _ t.length C4 t rfl HR3.out (by have := HLEN.out; rw [List.length_append]; omega)).mono ?_
      rintro e W4 ⟨rfl, hp4⟩
      have HP4 := Lib.hid hp4
      clear hp4
      go_wp2
      refine ⟨⟨k0 + 1, hlt, by go_num, ?_⟩, by simp [intOf]; omega⟩
      rw [HTS.out, ← List.append_assoc, ← List.append_assoc]
      exact HP4.out
    · obtain rfl : k0 = d.texts.length := by omega
      have hpe := HP.out
      rw [List.take_length] at hpe
      obtain ⟨B2, hB2⟩ : ∃ B2, B2 = B1 ++ textsW d.texts := ⟨_, rfl⟩
      rw [← hB2] at hpe
      have hl2 : B2.length ≤ 102000000 := by
        have := length_textsW 255 d.texts HT.out
        have h3 : (255 + 7) * d.texts.length ≤ (255 + 7) * 64 := Nat.mul_le_mul_left _ htl
        rw [hB2, List.length_append]
        omega
      have HPE := Lib.hid hpe
      have HB2 := Lib.hid hB2
      clear hpe hB2 HP HDT HBX
      go_wp2
      go_end0
      have hz := HPE.out
      rw [HB2.out, HB1.out] at hz
      exact ⟨rfl, HFIN.out _ _ _ hz⟩

set_option maxRecDepth 20000 in
set_option maxHeartbeats 2000000 in
theorem rput_28 (base : Nat) (w : World) (Fp : Nat → Prop) (g : Nat) (vB vR : Value) (B : List UInt8) (R : Rs) (x : DV) (d : Dt) (h : RWr w base Fp g vB vR B R) (hx : DataAt w base x d) (hs : soundD 28 d = true) (hN : ∀ n ∈ d.nums, n ≤ 9223372036854775807)
    (hB : B.length ≤ 100000000) (_ : R.length ≤ 800000) (hR16 : ∀ r ∈ R, r.2 < 16384 ∧ r.1.length ≤ 1000) :
    Calls Try.prog 84 #[.pointer (some ⟨g, 0, none⟩), .int .i64 28, x.val d] w (fun e w' => e = .returned (.tuple #[]) ∧ RPenned base w Fp g (putD (shN 28) d B R).1 (putD (shN 28) d B R).2 w') := by
  have sp := soundP hs
  have hE := putD_none (s := shN 28) B R sp rfl rfl rfl rfl (by decide)
  rw [hE]
  have hbm : d.bytes.length ≤ 65535 := Nat.le_trans sp.b (by skip <;> first | decide | exact Nat.le_refl _)
  have htl := sp.t
  have hnl : d.nums.length ≤ 10 := by have := sp.n; have h1 : (shN 28).ahead + (shN 28).behind ≤ 10 := (by skip <;> decide); omega
  have HT := Lib.hid sp.tl
  have HN := Lib.hid hN
  have HR := Lib.hid hR16
  have HFIN := Lib.hid (fun B' R' W (hp : RPenned base (w.alloc (.cells #[x.vb d, x.vh d, x.vm d, x.vn d, x.vt d] 46)) Fp g B' R' W) => hp.from)
  have HBOX := Lib.hid (fun B' R' W (hp : RPenned base (w.alloc (.cells #[x.vb d, x.vh d, x.vm d, x.vn d, x.vt d] 46)) Fp g B' R' W) => box_stays hx h.low h.size hp)
  have hp0 : RPenned base (w.alloc (.cells #[x.vb d, x.vh d, x.vm d, x.vn d, x.vt d] 46)) Fp g B R (w.alloc (.cells #[x.vb d, x.vh d, x.vm d, x.vn d, x.vt d] 46)) :=
    ⟨Fp, vB, vR, h.below ((Below.refl _ _).alloc (Nat.le_refl _) _), Grew.refl _ _, fun _ hj => .inl hj⟩
  have hrb := (HBOX.out _ _ _ hp0).2.b
  have hch := hx.lh
  have hcm := hx.lm
  have HP0 := Lib.hid hp0
  have HRB := Lib.hid (hrb.mono (show base ≤ (w.alloc (.cells #[x.vb d, x.vh d, x.vm d, x.vn d, x.vt d] 46)).heap.size by have := h.size; simp; omega))
  clear sp hE h hx hs hN hR16 hp0 hrb
  go_enter Try.func84, Try.ntmps84
  go_wp2_with fail
  refine (rrawP HP0.out x.Ab d.bytes.length x.cb d.bytes rfl HRB.out (by omega)).mono ?_
  rintro e W1 ⟨rfl, hp1⟩
  generalize w.alloc (.cells #[x.vb d, x.vh d, x.vm d, x.vn d, x.vt d] 46) = w1 at *
  obtain ⟨B1, hB1⟩ : ∃ B1, B1 = B ++ d.bytes := ⟨_, rfl⟩
  rw [← hB1] at hp1
  have hl1 : B1.length ≤ 101000000 := by rw [hB1, List.length_append]; omega
  have HP1 := Lib.hid hp1
  have HB1 := Lib.hid hB1
  clear hp1 hB1 HP0 HRB
  go_wp2
  go_loopw [6] (RTRel base w1 Fp g B1 R d.texts) (fun i _ => d.texts.length - (intOf i).toNat)
  case atStart => exact ⟨0, Nat.zero_le _, rfl, by simpa [textsW] using HP1.out⟩
  case round =>
    obtain ⟨k0, hk0, rfl, hp⟩ := hrel
    obtain ⟨hbx, hdt⟩ := HBOX.out _ _ _ hp
    have p4 : wr.cell? ⟨w.heap.size, 4, none⟩ = some (.slice x.At d.texts.length x.ct) := hbx.cell 4
    have HP := Lib.hid hp
    have HDT := Lib.hid hdt
    have HBX := Lib.hid hbx
    clear hp hbx hdt HP1
    by_cases hlt : k0 < d.texts.length
    · obtain ⟨b, off, hA, _, hc⟩ := HDT.out.t.name_at hlt
      rw [hA] at p4
      have hlk := HT.out d.texts[k0] (List.getElem_mem hlt)
      have hlen : (B1 ++ textsW (d.texts.take k0)).length + 3000 ≤ 140737488354000 := by
        have := length_textsW 255 (d.texts.take k0) fun t ht => HT.out t (List.mem_of_mem_take ht)
        rw [List.length_append]
        rw [List.length_take] at this
        have h3 : (255 + 7) * min k0 d.texts.length ≤ (255 + 7) * 64 := Nat.mul_le_mul_left _ (by omega)
        omega
      have HLEN := Lib.hid hlen
      have HTS := Lib.hid (show textsW (d.texts.take (k0 + 1)) = textsW (d.texts.take k0) ++ (putL [] (d.texts[k0].length : Int) 1 ++ d.texts[k0]) by rw [List.take_succ_eq_append_getElem hlt, textsW_snoc])
      have HCA := Lib.hid (fun W (h : DataAt W base x d) => (show W.cell? ⟨b, off + k0, none⟩ = some (.string ⟨(d.texts[k0]).toArray⟩) from Row.cell_at (by have := h.t; rw [hA] at this; exact this) hlt))
      have HAA := Lib.hid hA
      obtain ⟨t, htt⟩ : ∃ t, t = d.texts[k0] := ⟨_, rfl⟩
      rw [← htt] at hc hlk HTS HCA
      clear hlen htt hA
      go_wp2_with fail
      refine (rnumP HP.out (t.length : Int) 1 (by have := HLEN.out; omega) (by omega)).mono ?_
      rintro e W2 ⟨rfl, hp2⟩
      obtain ⟨hbx2, hdt2⟩ := HBOX.out _ _ _ hp2
      have p4' : W2.cell? ⟨w.heap.size, 4, none⟩ = some (.slice (some ⟨b, off, none⟩) d.texts.length x.ct) := by rw [← HAA.out]; exact hbx2.cell 4
      have hc' := HCA.out _ hdt2
      have HP2 := Lib.hid hp2
      clear hp2 hbx2 hdt2 p4 hc
      go_wp2_with (refine wpList_bytes rfl (.tmp 33) 9 28 5 rfl Try.underlying9 Try.underlying28 Try.underlying5 t rfl ?_; intro C4 W3 hC4 hM4 hB4 hs4)
      have hr := hM4.row.take t.length
      rw [List.take_left' (by rw [List.length_map])] at hr
      have HR3 := Lib.hid (hr.mono (show _ ≤ W3.heap.size by first | omega | exact Nat.le_refl _ | (simp; omega)))
      have HP3 := Lib.hid (HP2.out.more hB4)
      have hp7 := length_putL (t.length : Int) 1
      clear hr hM4 hB4 hs4 HP2 p4' hc'
      refine (rrawP HP3.out _ t.length C4 t rfl HR3.out (by have := HLEN.out; rw [List.length_append]; omega)).mono ?_
      rintro e W4 ⟨rfl, hp4⟩
      have HP4 := Lib.hid hp4
      clear hp4
      go_wp2
      refine ⟨⟨k0 + 1, hlt, by go_num, ?_⟩, by simp [intOf]; omega⟩
      rw [HTS.out, ← List.append_assoc, ← List.append_assoc]
      exact HP4.out
    · obtain rfl : k0 = d.texts.length := by omega
      have hpe := HP.out
      rw [List.take_length] at hpe
      obtain ⟨B2, hB2⟩ : ∃ B2, B2 = B1 ++ textsW d.texts := ⟨_, rfl⟩
      rw [← hB2] at hpe
      have hl2 : B2.length ≤ 102000000 := by
        have := length_textsW 255 d.texts HT.out
        have h3 : (255 + 7) * d.texts.length ≤ (255 + 7) * 64 := Nat.mul_le_mul_left _ htl
        rw [hB2, List.length_append]
        omega
      have HPE := Lib.hid hpe
      have HB2 := Lib.hid hB2
      clear hpe hB2 HP HDT HBX
      go_wp2
      go_end0
      have hz := HPE.out
      rw [HB2.out, HB1.out] at hz
      exact ⟨rfl, HFIN.out _ _ _ hz⟩

set_option maxRecDepth 20000 in
set_option maxHeartbeats 2000000 in
theorem rput_16 (base : Nat) (w : World) (Fp : Nat → Prop) (g : Nat) (vB vR : Value) (B : List UInt8) (R : Rs) (x : DV) (d : Dt) (h : RWr w base Fp g vB vR B R) (hx : DataAt w base x d) (hs : soundD 16 d = true) (hN : ∀ n ∈ d.nums, n ≤ 9223372036854775807)
    (hB : B.length ≤ 100000000) (_ : R.length ≤ 800000) (hR16 : ∀ r ∈ R, r.2 < 16384 ∧ r.1.length ≤ 1000) :
    Calls Try.prog 84 #[.pointer (some ⟨g, 0, none⟩), .int .i64 16, x.val d] w (fun e w' => e = .returned (.tuple #[]) ∧ RPenned base w Fp g (putD (shN 16) d B R).1 (putD (shN 16) d B R).2 w') := by
  have sp := soundP hs
  have hE := putD_none (s := shN 16) B R sp rfl rfl rfl rfl (by decide)
  rw [hE]
  have hbm : d.bytes.length ≤ 65535 := Nat.le_trans sp.b (by skip <;> first | decide | exact Nat.le_refl _)
  have htl := sp.t
  have hnl : d.nums.length ≤ 10 := by have := sp.n; have h1 : (shN 16).ahead + (shN 16).behind ≤ 10 := (by skip <;> decide); omega
  have HT := Lib.hid sp.tl
  have HN := Lib.hid hN
  have HR := Lib.hid hR16
  have HFIN := Lib.hid (fun B' R' W (hp : RPenned base (w.alloc (.cells #[x.vb d, x.vh d, x.vm d, x.vn d, x.vt d] 46)) Fp g B' R' W) => hp.from)
  have HBOX := Lib.hid (fun B' R' W (hp : RPenned base (w.alloc (.cells #[x.vb d, x.vh d, x.vm d, x.vn d, x.vt d] 46)) Fp g B' R' W) => box_stays hx h.low h.size hp)
  have hp0 : RPenned base (w.alloc (.cells #[x.vb d, x.vh d, x.vm d, x.vn d, x.vt d] 46)) Fp g B R (w.alloc (.cells #[x.vb d, x.vh d, x.vm d, x.vn d, x.vt d] 46)) :=
    ⟨Fp, vB, vR, h.below ((Below.refl _ _).alloc (Nat.le_refl _) _), Grew.refl _ _, fun _ hj => .inl hj⟩
  have hrb := (HBOX.out _ _ _ hp0).2.b
  have hch := hx.lh
  have hcm := hx.lm
  have HP0 := Lib.hid hp0
  have HRB := Lib.hid (hrb.mono (show base ≤ (w.alloc (.cells #[x.vb d, x.vh d, x.vm d, x.vn d, x.vt d] 46)).heap.size by have := h.size; simp; omega))
  clear sp hE h hx hs hN hR16 hp0 hrb
  go_enter Try.func84, Try.ntmps84
  go_wp2_with fail
  refine (rrawP HP0.out x.Ab d.bytes.length x.cb d.bytes rfl HRB.out (by omega)).mono ?_
  rintro e W1 ⟨rfl, hp1⟩
  generalize w.alloc (.cells #[x.vb d, x.vh d, x.vm d, x.vn d, x.vt d] 46) = w1 at *
  obtain ⟨B1, hB1⟩ : ∃ B1, B1 = B ++ d.bytes := ⟨_, rfl⟩
  rw [← hB1] at hp1
  have hl1 : B1.length ≤ 101000000 := by rw [hB1, List.length_append]; omega
  have HP1 := Lib.hid hp1
  have HB1 := Lib.hid hB1
  clear hp1 hB1 HP0 HRB
  go_wp2
  go_loopw [6] (RTRel base w1 Fp g B1 R d.texts) (fun i _ => d.texts.length - (intOf i).toNat)
  case atStart => exact ⟨0, Nat.zero_le _, rfl, by simpa [textsW] using HP1.out⟩
  case round =>
    obtain ⟨k0, hk0, rfl, hp⟩ := hrel
    obtain ⟨hbx, hdt⟩ := HBOX.out _ _ _ hp
    have p4 : wr.cell? ⟨w.heap.size, 4, none⟩ = some (.slice x.At d.texts.length x.ct) := hbx.cell 4
    have HP := Lib.hid hp
    have HDT := Lib.hid hdt
    have HBX := Lib.hid hbx
    clear hp hbx hdt HP1
    by_cases hlt : k0 < d.texts.length
    · obtain ⟨b, off, hA, _, hc⟩ := HDT.out.t.name_at hlt
      rw [hA] at p4
      have hlk := HT.out d.texts[k0] (List.getElem_mem hlt)
      have hlen : (B1 ++ textsW (d.texts.take k0)).length + 3000 ≤ 140737488354000 := by
        have := length_textsW 255 (d.texts.take k0) fun t ht => HT.out t (List.mem_of_mem_take ht)
        rw [List.length_append]
        rw [List.length_take] at this
        have h3 : (255 + 7) * min k0 d.texts.length ≤ (255 + 7) * 64 := Nat.mul_le_mul_left _ (by omega)
        omega
      have HLEN := Lib.hid hlen
      have HTS := Lib.hid (show textsW (d.texts.take (k0 + 1)) = textsW (d.texts.take k0) ++ (putL [] (d.texts[k0].length : Int) 1 ++ d.texts[k0]) by rw [List.take_succ_eq_append_getElem hlt, textsW_snoc])
      have HCA := Lib.hid (fun W (h : DataAt W base x d) => (show W.cell? ⟨b, off + k0, none⟩ = some (.string ⟨(d.texts[k0]).toArray⟩) from Row.cell_at (by have := h.t; rw [hA] at this; exact this) hlt))
      have HAA := Lib.hid hA
      obtain ⟨t, htt⟩ : ∃ t, t = d.texts[k0] := ⟨_, rfl⟩
      rw [← htt] at hc hlk HTS HCA
      clear hlen htt hA
      go_wp2_with fail
      refine (rnumP HP.out (t.length : Int) 1 (by have := HLEN.out; omega) (by omega)).mono ?_
      rintro e W2 ⟨rfl, hp2⟩
      obtain ⟨hbx2, hdt2⟩ := HBOX.out _ _ _ hp2
      have p4' : W2.cell? ⟨w.heap.size, 4, none⟩ = some (.slice (some ⟨b, off, none⟩) d.texts.length x.ct) := by rw [← HAA.out]; exact hbx2.cell 4
      have hc' := HCA.out _ hdt2
      have HP2 := Lib.hid hp2
      clear hp2 hbx2 hdt2 p4 hc
      go_wp2_with (refine wpList_bytes rfl (.tmp 33) 9 28 5 rfl Try.underlying9 Try.underlying28 Try.underlying5 t rfl ?_; intro C4 W3 hC4 hM4 hB4 hs4)
      have hr := hM4.row.take t.length
      rw [List.take_left' (by rw [List.length_map])] at hr
      have HR3 := Lib.hid (hr.mono (show _ ≤ W3.heap.size by first | omega | exact Nat.le_refl _ | (simp; omega)))
      have HP3 := Lib.hid (HP2.out.more hB4)
      have hp7 := length_putL (t.length : Int) 1
      clear hr hM4 hB4 hs4 HP2 p4' hc'
      refine (rrawP HP3.out _ t.length C4 t rfl HR3.out (by have := HLEN.out; rw [List.length_append]; omega)).mono ?_
      rintro e W4 ⟨rfl, hp4⟩
      have HP4 := Lib.hid hp4
      clear hp4
      go_wp2
      refine ⟨⟨k0 + 1, hlt, by go_num, ?_⟩, by simp [intOf]; omega⟩
      rw [HTS.out, ← List.append_assoc, ← List.append_assoc]
      exact HP4.out
    · obtain rfl : k0 = d.texts.length := by omega
      have hpe := HP.out
      rw [List.take_length] at hpe
      obtain ⟨B2, hB2⟩ : ∃ B2, B2 = B1 ++ textsW d.texts := ⟨_, rfl⟩
      rw [← hB2] at hpe
      have hl2 : B2.length ≤ 102000000 := by
        have := length_textsW 255 d.texts HT.out
        have h3 : (255 + 7) * d.texts.length ≤ (255 + 7) * 64 := Nat.mul_le_mul_left _ htl
        rw [hB2, List.length_append]
        omega
      have HPE := Lib.hid hpe
      have HB2 := Lib.hid hB2
      clear hpe hB2 HP HDT HBX
      go_wp2
      go_end0
      have hz := HPE.out
      rw [HB2.out, HB1.out] at hz
      exact ⟨rfl, HFIN.out _ _ _ hz⟩

set_option maxRecDepth 20000 in
set_option maxHeartbeats 2000000 in
theorem rput_other (base : Nat) (w : World) (Fp : Nat → Prop) (g : Nat) (vB vR : Value) (B : List UInt8) (R : Rs) (k : Int) (hk : (k == 1) = false ∧ (k == 28) = false ∧ (k == 2) = false ∧ (k == 5) = false ∧ (k == 12) = false ∧ (k == 15) = false ∧ (k == 6) = false ∧ (k == 16) = false ∧ (k == 33) = false) (x : DV) (d : Dt) (h : RWr w base Fp g vB vR B R) (hx : DataAt w base x d) (hs : soundD k d = true) (hN : ∀ n ∈ d.nums, n ≤ 9223372036854775807)
    (hB : B.length ≤ 100000000) (_ : R.length ≤ 800000) (hR16 : ∀ r ∈ R, r.2 < 16384 ∧ r.1.length ≤ 1000) :
    Calls Try.prog 84 #[.pointer (some ⟨g, 0, none⟩), .int .i64 k, x.val d] w (fun e w' => e = .returned (.tuple #[]) ∧ RPenned base w Fp g (putD (shN k) d B R).1 (putD (shN k) d B R).2 w') := by
  have sp := soundP hs
  have hE := putD_none (s := shN k) B R sp (by rw [shN_other hk]) (by rw [shN_other hk]) (by rw [shN_other hk]) (by rw [shN_other hk]) (by rw [shN_other hk]; intro h; cases h)
  obtain ⟨k01, k28, k02, k05, k12, k15, k06, k16, k33⟩ := id hk
  rw [hE]
  have hbm : d.bytes.length ≤ 65535 := Nat.le_trans sp.b (by rw [shN_other hk] <;> first | decide | exact Nat.le_refl _)
  have htl := sp.t
  have hnl : d.nums.length ≤ 10 := by have := sp.n; have h1 : (shN k).ahead + (shN k).behind ≤ 10 := (by rw [shN_other hk] <;> decide); omega
  have HT := Lib.hid sp.tl
  have HN := Lib.hid hN
  have HR := Lib.hid hR16
  have HFIN := Lib.hid (fun B' R' W (hp : RPenned base (w.alloc (.cells #[x.vb d, x.vh d, x.vm d, x.vn d, x.vt d] 46)) Fp g B' R' W) => hp.from)
  have HBOX := Lib.hid (fun B' R' W (hp : RPenned base (w.alloc (.cells #[x.vb d, x.vh d, x.vm d, x.vn d, x.vt d] 46)) Fp g B' R' W) => box_stays hx h.low h.size hp)
  have hp0 : RPenned base (w.alloc (.cells #[x.vb d, x.vh d, x.vm d, x.vn d, x.vt d] 46)) Fp g B R (w.alloc (.cells #[x.vb d, x.vh d, x.vm d, x.vn d, x.vt d] 46)) :=
    ⟨Fp, vB, vR, h.below ((Below.refl _ _).alloc (Nat.le_refl _) _), Grew.refl _ _, fun _ hj => .inl hj⟩
  have hrb := (HBOX.out _ _ _ hp0).2.b
  have hch := hx.lh
  have hcm := hx.lm
  have HP0 := Lib.hid hp0
  have HRB := Lib.hid (hrb.mono (show base ≤ (w.alloc (.cells #[x.vb d, x.vh d, x.vm d, x.vn d, x.vt d] 46)).heap.size by have := h.size; simp; omega))
  clear sp hE h hx hs hN hR16 hp0 hrb
  go_enter Try.func84, Try.ntmps84
  go_wp2_with fail
  refine (rrawP HP0.out x.Ab d.bytes.length x.cb d.bytes rfl HRB.out (by omega)).mono ?_
  rintro e W1 ⟨rfl, hp1⟩
  generalize w.alloc (.cells #[x.vb d, x.vh d, x.vm d, x.vn d, x.vt d] 46) = w1 at *
  obtain ⟨B1, hB1⟩ : ∃ B1, B1 = B ++ d.bytes := ⟨_, rfl⟩
  rw [← hB1] at hp1
  have hl1 : B1.length ≤ 101000000 := by rw [hB1, List.length_append]; omega
  have HP1 := Lib.hid hp1
  have HB1 := Lib.hid hB1
  clear hp1 hB1 HP0 HRB
  go_wp2
  go_loopw [6] (RTRel base w1 Fp g B1 R d.texts) (fun i _ => d.texts.length - (intOf i).toNat)
  case atStart => exact ⟨0, Nat.zero_le _, rfl, by simpa [textsW] using HP1.out⟩
  case round =>
    obtain ⟨k0, hk0, rfl, hp⟩ := hrel
    obtain ⟨hbx, hdt⟩ := HBOX.out _ _ _ hp
    have p4 : wr.cell? ⟨w.heap.size, 4, none⟩ = some (.slice x.At d.texts.length x.ct) := hbx.cell 4
    have HP := Lib.hid hp
    have HDT := Lib.hid hdt
    have HBX := Lib.hid hbx
    clear hp hbx hdt HP1
    by_cases hlt : k0 < d.texts.length
    · obtain ⟨b, off, hA, _, hc⟩ := HDT.out.t.name_at hlt
      rw [hA] at p4
      have hlk := HT.out d.texts[k0] (List.getElem_mem hlt)
      have hlen : (B1 ++ textsW (d.texts.take k0)).length + 3000 ≤ 140737488354000 := by
        have := length_textsW 255 (d.texts.take k0) fun t ht => HT.out t (List.mem_of_mem_take ht)
        rw [List.length_append]
        rw [List.length_take] at this
        have h3 : (255 + 7) * min k0 d.texts.length ≤ (255 + 7) * 64 := Nat.mul_le_mul_left _ (by omega)
        omega
      have HLEN := Lib.hid hlen
      have HTS := Lib.hid (show textsW (d.texts.take (k0 + 1)) = textsW (d.texts.take k0) ++ (putL [] (d.texts[k0].length : Int) 1 ++ d.texts[k0]) by rw [List.take_succ_eq_append_getElem hlt, textsW_snoc])
      have HCA := Lib.hid (fun W (h : DataAt W base x d) => (show W.cell? ⟨b, off + k0, none⟩ = some (.string ⟨(d.texts[k0]).toArray⟩) from Row.cell_at (by have := h.t; rw [hA] at this; exact this) hlt))
      have HAA := Lib.hid hA
      obtain ⟨t, htt⟩ : ∃ t, t = d.texts[k0] := ⟨_, rfl⟩
      rw [← htt] at hc hlk HTS HCA
      clear hlen htt hA
      go_wp2_with fail
      refine (rnumP HP.out (t.length : Int) 1 (by have := HLEN.out; omega) (by omega)).mono ?_
      rintro e W2 ⟨rfl, hp2⟩
      obtain ⟨hbx2, hdt2⟩ := HBOX.out _ _ _ hp2
      have p4' : W2.cell? ⟨w.heap.size, 4, none⟩ = some (.slice (some ⟨b, off, none⟩) d.texts.length x.ct) := by rw [← HAA.out]; exact hbx2.cell 4
      have hc' := HCA.out _ hdt2
      have HP2 := Lib.hid hp2
      clear hp2 hbx2 hdt2 p4 hc
      go_wp2_with (refine wpList_bytes rfl (.tmp 33) 9 28 5 rfl Try.underlying9 Try.underlying28 Try.underlying5 t rfl ?_; intro C4 W3 hC4 hM4 hB4 hs4)
      have hr := hM4.row.take t.length
      rw [List.take_left' (by rw [List.length_map])] at hr
      have HR3 := Lib.hid (hr.mono (show _ ≤ W3.heap.size by first | omega | exact Nat.le_refl _ | (simp; omega)))
      have HP3 := Lib.hid (HP2.out.more hB4)
      have hp7 := length_putL (t.length : Int) 1
      clear hr hM4 hB4 hs4 HP2 p4' hc'
      refine (rrawP HP3.out _ t.length C4 t rfl HR3.out (by have := HLEN.out; rw [List.length_append]; omega)).mono ?_
      rintro e W4 ⟨rfl, hp4⟩
      have HP4 := Lib.hid hp4
      clear hp4
      go_wp2
      refine ⟨⟨k0 + 1, hlt, by go_num, ?_⟩, by simp [intOf]; omega⟩
      rw [HTS.out, ← List.append_assoc, ← List.append_assoc]
      exact HP4.out
    · obtain rfl : k0 = d.texts.length := by omega
      have hpe := HP.out
      rw [List.take_length] at hpe
      obtain ⟨B2, hB2⟩ : ∃ B2, B2 = B1 ++ textsW d.texts := ⟨_, rfl⟩
      rw [← hB2] at hpe
      have hl2 : B2.length ≤ 102000000 := by
        have := length_textsW 255 d.texts HT.out
        have h3 : (255 + 7) * d.texts.length ≤ (255 + 7) * 64 := Nat.mul_le_mul_left _ htl
        rw [hB2, List.length_append]
        omega
      have HPE := Lib.hid hpe
      have HB2 := Lib.hid hB2
      clear hpe hB2 HP HDT HBX
      go_wp2
      go_end0
      have hz := HPE.out
      rw [HB2.out, HB1.out] at hz
      exact ⟨rfl, HFIN.out _ _ _ hz⟩

set_option maxRecDepth 20000 in
set_option maxHeartbeats 2000000 in
theorem rput_2 (base : Nat) (w : World) (Fp : Nat → Prop) (g : Nat) (vB vR : Value) (B : List UInt8) (R : Rs) (x : DV) (d : Dt) (h : RWr w base Fp g vB vR B R) (hx : DataAt w base x d) (hs : soundD 2 d = true) (hN : ∀ n ∈ d.nums, n ≤ 9223372036854775807)
    (hB : B.length ≤ 100000000) (hR : R.length ≤ 800000) (hR16 : ∀ r ∈ R, r.2 < 16384 ∧ r.1.length ≤ 1000) :
    Calls Try.prog 84 #[.pointer (some ⟨g, 0, none⟩), .int .i64 2, x.val d] w (fun e w' => e = .returned (.tuple #[]) ∧ RPenned base w Fp g (putD (shN 2) d B R).1 (putD (shN 2) d B R).2 w') := by
  have sp := soundP hs
  have hE := putD_host (s := shN 2) B R sp rfl rfl rfl rfl rfl
  rw [show d.nums = [] from List.eq_nil_of_length_eq_zero (by have := sp.n; exact this), show numsW 2 [] = [] from rfl, List.append_nil, show (shN 2).short = true from rfl] at hE
  rw [hE]
  have hbm : d.bytes.length ≤ 65535 := Nat.le_trans sp.b (by skip <;> first | decide | exact Nat.le_refl _)
  have htl := sp.t
  have hnl : d.nums.length ≤ 10 := by have := sp.n; have h1 : (shN 2).ahead + (shN 2).behind ≤ 10 := (by skip <;> decide); omega
  have HT := Lib.hid sp.tl
  have HN := Lib.hid hN
  have HR := Lib.hid hR16
  have HFIN := Lib.hid (fun B' R' W (hp : RPenned base (w.alloc (.cells #[x.vb d, x.vh d, x.vm d, x.vn d, x.vt d] 46)) Fp g B' R' W) => hp.from)
  have HBOX := Lib.hid (fun B' R' W (hp : RPenned base (w.alloc (.cells #[x.vb d, x.vh d, x.vm d, x.vn d, x.vt d] 46)) Fp g B' R' W) => box_stays hx h.low h.size hp)
  have hp0 : RPenned base (w.alloc (.cells #[x.vb d, x.vh d, x.vm d, x.vn d, x.vt d] 46)) Fp g B R (w.alloc (.cells #[x.vb d, x.vh d, x.vm d, x.vn d, x.vt d] 46)) :=
    ⟨Fp, vB, vR, h.below ((Below.refl _ _).alloc (Nat.le_refl _) _), Grew.refl _ _, fun _ hj => .inl hj⟩
  have hrb := (HBOX.out _ _ _ hp0).2.b
  have hch := hx.lh
  have hcm := hx.lm
  have HP0 := Lib.hid hp0
  have HRB := Lib.hid (hrb.mono (show base ≤ (w.alloc (.cells #[x.vb d, x.vh d, x.vm d, x.vn d, x.vt d] 46)).heap.size by have := h.size; simp; omega))
  have HSH := Lib.hid (sp.h rfl)
  have hnh := soundN_parts (sp.h rfl)
  have hn1 := szN_ge _ hnh.1
  have hn2 := hnh.2
  have HF1 := Lib.hid hnh.1
  clear sp hE h hx hs hN hR16 hp0 hrb hnh
  go_enter Try.func84, Try.ntmps84
  go_wp2_with fail
  refine (rrawP HP0.out x.Ab d.bytes.length x.cb d.bytes rfl HRB.out (by omega)).mono ?_
  rintro e W1 ⟨rfl, hp1⟩
  generalize w.alloc (.cells #[x.vb d, x.vh d, x.vm d, x.vn d, x.vt d] 46) = w1 at *
  obtain ⟨B1, hB1⟩ : ∃ B1, B1 = B ++ d.bytes := ⟨_, rfl⟩
  rw [← hB1] at hp1
  have hl1 : B1.length ≤ 101000000 := by rw [hB1, List.length_append]; omega
  have HP1 := Lib.hid hp1
  have HB1 := Lib.hid hB1
  clear hp1 hB1 HP0 HRB
  go_wp2
  go_loopw [6] (RTRel base w1 Fp g B1 R d.texts) (fun i _ => d.texts.length - (intOf i).toNat)
  case atStart => exact ⟨0, Nat.zero_le _, rfl, by simpa [textsW] using HP1.out⟩
  case round =>
    obtain ⟨k0, hk0, rfl, hp⟩ := hrel
    obtain ⟨hbx, hdt⟩ := HBOX.out _ _ _ hp
    have p4 : wr.cell? ⟨w.heap.size, 4, none⟩ = some (.slice x.At d.texts.length x.ct) := hbx.cell 4
    have HP := Lib.hid hp
    have HDT := Lib.hid hdt
    have HBX := Lib.hid hbx
    clear hp hbx hdt HP1
    by_cases hlt : k0 < d.texts.length
    · obtain ⟨b, off, hA, _, hc⟩ := HDT.out.t.name_at hlt
      rw [hA] at p4
      have hlk := HT.out d.texts[k0] (List.getElem_mem hlt)
      have hlen : (B1 ++ textsW (d.texts.take k0)).length + 3000 ≤ 140737488354000 := by
        have := length_textsW 255 (d.texts.take k0) fun t ht => HT.out t (List.mem_of_mem_take ht)
        rw [List.length_append]
        rw [List.length_take] at this
        have h3 : (255 + 7) * min k0 d.texts.length ≤ (255 + 7) * 64 := Nat.mul_le_mul_left _ (by omega)
        omega
      have HLEN := Lib.hid hlen
      have HTS := Lib.hid (show textsW (d.texts.take (k0 + 1)) = textsW (d.texts.take k0) ++ (putL [] (d.texts[k0].length : Int) 1 ++ d.texts[k0]) by rw [List.take_succ_eq_append_getElem hlt, textsW_snoc])
      have HCA := Lib.hid (fun W (h : DataAt W base x d) => (show W.cell? ⟨b, off + k0, none⟩ = some (.string ⟨(d.texts[k0]).toArray⟩) from Row.cell_at (by have := h.t; rw [hA] at this; exact this) hlt))
      have HAA := Lib.hid hA
      obtain ⟨t, htt⟩ : ∃ t, t = d.texts[k0] := ⟨_, rfl⟩
      rw [← htt] at hc hlk HTS HCA
      clear hlen htt hA
      go_wp2_with fail
      refine (rnumP HP.out (t.length : Int) 1 (by have := HLEN.out; omega) (by omega)).mono ?_
      rintro e W2 ⟨rfl, hp2⟩
      obtain ⟨hbx2, hdt2⟩ := HBOX.out _ _ _ hp2
      have p4' : W2.cell? ⟨w.heap.size, 4, none⟩ = some (.slice (some ⟨b, off, none⟩) d.texts.length x.ct) := by rw [← HAA.out]; exact hbx2.cell 4
      have hc' := HCA.out _ hdt2
      have HP2 := Lib.hid hp2
      clear hp2 hbx2 hdt2 p4 hc
      go_wp2_with (refine wpList_bytes rfl (.tmp 33) 9 28 5 rfl Try.underlying9 Try.underlying28 Try.underlying5 t rfl ?_; intro C4 W3 hC4 hM4 hB4 hs4)
      have hr := hM4.row.take t.length
      rw [List.take_left' (by rw [List.length_map])] at hr
      have HR3 := Lib.hid (hr.mono (show _ ≤ W3.heap.size by first | omega | exact Nat.le_refl _ | (simp; omega)))
      have HP3 := Lib.hid (HP2.out.more hB4)
      have hp7 := length_putL (t.length : Int) 1
      clear hr hM4 hB4 hs4 HP2 p4' hc'
      refine (rrawP HP3.out _ t.length C4 t rfl HR3.out (by have := HLEN.out; rw [List.length_append]; omega)).mono ?_
      rintro e W4 ⟨rfl, hp4⟩
      have HP4 := Lib.hid hp4
      clear hp4
      go_wp2
      refine ⟨⟨k0 + 1, hlt, by go_num, ?_⟩, by simp [intOf]; omega⟩
      rw [HTS.out, ← List.append_assoc, ← List.append_assoc]
      exact HP4.out
    · obtain rfl : k0 = d.texts.length := by omega
      have hpe := HP.out
      rw [List.take_length] at hpe
      obtain ⟨B2, hB2⟩ : ∃ B2, B2 = B1 ++ textsW d.texts := ⟨_, rfl⟩
      rw [← hB2] at hpe
      have hl2 : B2.length ≤ 102000000 := by
        have := length_textsW 255 d.texts HT.out
        have h3 : (255 + 7) * d.texts.length ≤ (255 + 7) * 64 := Nat.mul_le_mul_left _ htl
        rw [hB2, List.length_append]
        omega
      have HPE := Lib.hid hpe
      have HB2 := Lib.hid hB2
      clear hpe hB2 HP HDT HBX

      obtain ⟨hbx1, hdt1⟩ := HBOX.out _ _ _ HPE.out
      have pn1 : wr.cell? ⟨w.heap.size, 1, none⟩ = some (.slice x.Ah d.host.length x.ch) := hbx1.cell 1
      have HD1 := Lib.hid hdt1
      clear hbx1 hdt1
      go_wp2_with fail
      refine (rnameP HPE.out x.Ah x.ch d.host true HD1.out.h hch HSH.out (by omega) (by omega) HR.out).mono ?_
      rintro e WN1 ⟨rfl, hpn1⟩
      have HZ := Lib.hid hpn1
      clear hpn1 pn1
      go_wp2
      go_end0
      have hz := HZ.out
      rw [HB2.out, HB1.out] at hz
      exact ⟨rfl, HFIN.out _ _ _ hz⟩

set_option maxRecDepth 20000 in
set_option maxHeartbeats 2000000 in
theorem rput_5 (base : Nat) (w : World) (Fp : Nat → Prop) (g : Nat) (vB vR : Value) (B : List UInt8) (R : Rs) (x : DV) (d : Dt) (h : RWr w base Fp g vB vR B R) (hx : DataAt w base x d) (hs : soundD 5 d = true) (hN : ∀ n ∈ d.nums, n ≤ 9223372036854775807)
    (hB : B.length ≤ 100000000) (hR : R.length ≤ 800000) (hR16 : ∀ r ∈ R, r.2 < 16384 ∧ r.1.length ≤ 1000) :
    Calls Try.prog 84 #[.pointer (some ⟨g, 0, none⟩), .int .i64 5, x.val d] w (fun e w' => e = .returned (.tuple #[]) ∧ RPenned base w Fp g (putD (shN 5) d B R).1 (putD (shN 5) d B R).2 w') := by
  have sp := soundP hs
  have hE := putD_host (s := shN 5) B R sp rfl rfl rfl rfl rfl
  rw [show d.nums = [] from List.eq_nil_of_length_eq_zero (by have := sp.n; exact this), show numsW 2 [] = [] from rfl, List.append_nil, show (shN 5).short = true from rfl] at hE
  rw [hE]
  have hbm : d.bytes.length ≤ 65535 := Nat.le_trans sp.b (by skip <;> first | decide | exact Nat.le_refl _)
  have htl := sp.t
  have hnl : d.nums.length ≤ 10 := by have := sp.n; have h1 : (shN 5).ahead + (shN 5).behind ≤ 10 := (by skip <;> decide); omega
  have HT := Lib.hid sp.tl
  have HN := Lib.hid hN
  have HR := Lib.hid hR16
  have HFIN := Lib.hid (fun B' R' W (hp : RPenned base (w.alloc (.cells #[x.vb d, x.vh d, x.vm d, x.vn d, x.vt d] 46)) Fp g B' R' W) => hp.from)
  have HBOX := Lib.hid (fun B' R' W (hp : RPenned base (w.alloc (.cells #[x.vb d, x.vh d, x.vm d, x.vn d, x.vt d] 46)) Fp g B' R' W) => box_stays hx h.low h.size hp)
  have hp0 : RPenned base (w.alloc (.cells #[x.vb d, x.vh d, x.vm d, x.vn d, x.vt d] 46)) Fp g B R (w.alloc (.cells #[x.vb d, x.vh d, x.vm d, x.vn d, x.vt d] 46)) :=
    ⟨Fp, vB, vR, h.below ((Below.refl _ _).alloc (Nat.le_refl _) _), Grew.refl _ _, fun _ hj => .inl hj⟩
  have hrb := (HBOX.out _ _ _ hp0).2.b
  have hch := hx.lh
  have hcm := hx.lm
  have HP0 := Lib.hid hp0
  have HRB := Lib.hid (hrb.mono (show base ≤ (w.alloc (.cells #[x.vb d, x.vh d, x.vm d, x.vn d, x.vt d] 46)).heap.size by have := h.size; simp; omega))
  have HSH := Lib.hid (sp.h rfl)
  have hnh := soundN_parts (sp.h rfl)
  have hn1 := szN_ge _ hnh.1
  have hn2 := hnh.2
  have HF1 := Lib.hid hnh.1
  clear sp hE h hx hs hN hR16 hp0 hrb hnh
  go_enter Try.func84, Try.ntmps84
  go_wp2_with fail
  refine (rrawP HP0.out x.Ab d.bytes.length x.cb d.bytes rfl HRB.out (by omega)).mono ?_
  rintro e W1 ⟨rfl, hp1⟩
  generalize w.alloc (.cells #[x.vb d, x.vh d, x.vm d, x.vn d, x.vt d] 46) = w1 at *
  obtain ⟨B1, hB1⟩ : ∃ B1, B1 = B ++ d.bytes := ⟨_, rfl⟩
  rw [← hB1] at hp1
  have hl1 : B1.length ≤ 101000000 := by rw [hB1, List.length_append]; omega
  have HP1 := Lib.hid hp1
  have HB1 := Lib.hid hB1
  clear hp1 hB1 HP0 HRB
  go_wp2
  go_loopw [6] (RTRel base w1 Fp g B1 R d.texts) (fun i _ => d.texts.length - (intOf i).toNat)
  case atStart => exact ⟨0, Nat.zero_le _, rfl, by simpa [textsW] using HP1.out⟩
  case round =>
    obtain ⟨k0, hk0, rfl, hp⟩ := hrel
    obtain ⟨hbx, hdt⟩ := HBOX.out _ _ _ hp
    have p4 : wr.cell? ⟨w.heap.size, 4, none⟩ = some (.slice x.At d.texts.length x.ct) := hbx.cell 4
    have HP := Lib.hid hp
    have HDT := Lib.hid hdt
    have HBX := Lib.hid hbx
    clear hp hbx hdt HP1
    by_cases hlt : k0 < d.texts.length
    · obtain ⟨b, off, hA, _, hc⟩ := HDT.out.t.name_at hlt
      rw [hA] at p4
      have hlk := HT.out d.texts[k0] (List.getElem_mem hlt)
      have hlen : (B1 ++ textsW (d.texts.take k0)).length + 3000 ≤ 140737488354000 := by
        have := length_textsW 255 (d.texts.take k0) fun t ht => HT.out t (List.mem_of_mem_take ht)
        rw [List.length_append]
        rw [List.length_take] at this
        have h3 : (255 + 7) * min k0 d.texts.length ≤ (255 + 7) * 64 := Nat.mul_le_mul_left _ (by omega)
        omega
      have HLEN := Lib.hid hlen
      have HTS := Lib.hid (show textsW (d.texts.take (k0 + 1)) = textsW (d.texts.take k0) ++ (putL [] (d.texts[k0].length : Int) 1 ++ d.texts[k0]) by rw [List.take_succ_eq_append_getElem hlt, textsW_snoc])
      have HCA := Lib.hid (fun W (h : DataAt W base x d) => (show W.cell? ⟨b, off + k0, none⟩ = some (.string ⟨(d.texts[k0]).toArray⟩) from Row.cell_at (by have := h.t; rw [hA] at this; exact this) hlt))
      have HAA := Lib.hid hA
      obtain ⟨t, htt⟩ : ∃ t, t = d.texts[k0] := ⟨_, rfl⟩
      rw [← htt] at hc hlk HTS HCA
      clear hlen htt hA
      go_wp2_with fail
      refine (rnumP HP.out (t.length : Int) 1 (by have := HLEN.out; omega) (by omega)).mono ?_
      rintro e W2 ⟨rfl, hp2⟩
      obtain ⟨hbx2, hdt2⟩ := HBOX.out _ _ _ hp2
      have p4' : W2.cell? ⟨w.heap.size, 4, none⟩ = some (.slice (some ⟨b, off, none⟩) d.texts.length x.ct) := by rw [← HAA.out]; exact hbx2.cell 4
      have hc' := HCA.out _ hdt2
      have HP2 := Lib.hid hp2
      clear hp2 hbx2 hdt2 p4 hc
      go_wp2_with (refine wpList_bytes rfl (.tmp 33) 9 28 5 rfl Try.underlying9 Try.underlying28 Try.underlying5 t rfl ?_; intro C4 W3 hC4 hM4 hB4 hs4)
      have hr := hM4.row.take t.length
      rw [List.take_left' (by rw [List.length_map])] at hr
      have HR3 := Lib.hid (hr.mono (show _ ≤ W3.heap.size by first | omega | exact Nat.le_refl _ | (simp; omega)))
      have HP3 := Lib.hid (HP2.out.more hB4)
      have hp7 := length_putL (t.length : Int) 1
      clear hr hM4 hB4 hs4 HP2 p4' hc'
      refine (rrawP HP3.out _ t.length C4 t rfl HR3.out (by have := HLEN.out; rw [List.length_append]; omega)).mono ?_
      rintro e W4 ⟨rfl, hp4⟩
      have HP4 := Lib.hid hp4
      clear hp4
      go_wp2
      refine ⟨⟨k0 + 1, hlt, by go_num, ?_⟩, by simp [intOf]; omega⟩
      rw [HTS.out, ← List.append_assoc, ← List.append_assoc]
      exact HP4.out
    · obtain rfl : k0 = d.texts.length := by omega
      have hpe := HP.out
      rw [List.take_length] at hpe
      obtain ⟨B2, hB2⟩ : ∃ B2, B2 = B1 ++ textsW d.texts := ⟨_, rfl⟩
      rw [← hB2] at hpe
      have hl2 : B2.length ≤ 102000000 := by
        have := length_textsW 255 d.texts HT.out
        have h3 : (255 + 7) * d.texts.length ≤ (255 + 7) * 64 := Nat.mul_le_mul_left _ htl
        rw [hB2, List.length_append]
        omega
      have HPE := Lib.hid hpe
      have HB2 := Lib.hid hB2
      clear hpe hB2 HP HDT HBX

      obtain ⟨hbx1, hdt1⟩ := HBOX.out _ _ _ HPE.out
      have pn1 : wr.cell? ⟨w.heap.size, 1, none⟩ = some (.slice x.Ah d.host.length x.ch) := hbx1.cell 1
      have HD1 := Lib.hid hdt1
      clear hbx1 hdt1
      go_wp2_with fail
      refine (rnameP HPE.out x.Ah x.ch d.host true HD1.out.h hch HSH.out (by omega) (by omega) HR.out).mono ?_
      rintro e WN1 ⟨rfl, hpn1⟩
      have HZ := Lib.hid hpn1
      clear hpn1 pn1
      go_wp2
      go_end0
      have hz := HZ.out
      rw [HB2.out, HB1.out] at hz
      exact ⟨rfl, HFIN.out _ _ _ hz⟩

set_option maxRecDepth 20000 in
set_option maxHeartbeats 2000000 in
theorem rput_12 (base : Nat) (w : World) (Fp : Nat → Prop) (g : Nat) (vB vR : Value) (B : List UInt8) (R : Rs) (x : DV) (d : Dt) (h : RWr w base Fp g vB vR B R) (hx : DataAt w base x d) (hs : soundD 12 d = true) (hN : ∀ n ∈ d.nums, n ≤ 9223372036854775807)
    (hB : B.length ≤ 100000000) (hR : R.length ≤ 800000) (hR16 : ∀ r ∈ R, r.2 < 16384 ∧ r.1.length ≤ 1000) :
    Calls Try.prog 84 #[.pointer (some ⟨g, 0, none⟩), .int .i64 12, x.val d] w (fun e w' => e = .returned (.tuple #[]) ∧ RPenned base w Fp g (putD (shN 12) d B R).1 (putD (shN 12) d B R).2 w') := by
  have sp := soundP hs
  have hE := putD_host (s := shN 12) B R sp rfl rfl rfl rfl rfl
  rw [show d.nums = [] from List.eq_nil_of_length_eq_zero (by have := sp.n; exact this), show numsW 2 [] = [] from rfl, List.append_nil, show (shN 12).short = true from rfl] at hE
  rw [hE]
  have hbm : d.bytes.length ≤ 65535 := Nat.le_trans sp.b (by skip <;> first | decide | exact Nat.le_refl _)
  have htl := sp.t
  have hnl : d.nums.length ≤ 10 := by have := sp.n; have h1 : (shN 12).ahead + (shN 12).behind ≤ 10 := (by skip <;> decide); omega
  have HT := Lib.hid sp.tl
  have HN := Lib.hid hN
  have HR := Lib.hid hR16
  have HFIN := Lib.hid (fun B' R' W (hp : RPenned base (w.alloc (.cells #[x.vb d, x.vh d, x.vm d, x.vn d, x.vt d] 46)) Fp g B' R' W) => hp.from)
  have HBOX := Lib.hid (fun B' R' W (hp : RPenned base (w.alloc (.cells #[x.vb d, x.vh d, x.vm d, x.vn d, x.vt d] 46)) Fp g B' R' W) => box_stays hx h.low h.size hp)
  have hp0 : RPenned base (w.alloc (.cells #[x.vb d, x.vh d, x.vm d, x.vn d, x.vt d] 46)) Fp g B R (w.alloc (.cells #[x.vb d, x.vh d, x.vm d, x.vn d, x.vt d] 46)) :=
    ⟨Fp, vB, vR, h.below ((Below.refl _ _).alloc (Nat.le_refl _) _), Grew.refl _ _, fun _ hj => .inl hj⟩
  have hrb := (HBOX.out _ _ _ hp0).2.b
  have hch := hx.lh
  have hcm := hx.lm
  have HP0 := Lib.hid hp0
  have HRB := Lib.hid (hrb.mono (show base ≤ (w.alloc (.cells #[x.vb d, x.vh d, x.vm d, x.vn d, x.vt d] 46)).heap.size by have := h.size; simp; omega))
  have HSH := Lib.hid (sp.h rfl)
  have hnh := soundN_parts (sp.h rfl)
  have hn1 := szN_ge _ hnh.1
  have hn2 := hnh.2
  have HF1 := Lib.hid hnh.1
  clear sp hE h hx hs hN hR16 hp0 hrb hnh
  go_enter Try.func84, Try.ntmps84
  go_wp2_with fail
  refine (rrawP HP0.out x.Ab d.bytes.length x.cb d.bytes rfl HRB.out (by omega)).mono ?_
  rintro e W1 ⟨rfl, hp1⟩
  generalize w.alloc (.cells #[x.vb d, x.vh d, x.vm d, x.vn d, x.vt d] 46) = w1 at *
  obtain ⟨B1, hB1⟩ : ∃ B1, B1 = B ++ d.bytes := ⟨_, rfl⟩
  rw [← hB1] at hp1
  have hl1 : B1.length ≤ 101000000 := by rw [hB1, List.length_append]; omega
  have HP1 := Lib.hid hp1
  have HB1 := Lib.hid hB1
  clear hp1 hB1 HP0 HRB
  go_wp2
  go_loopw [6] (RTRel base w1 Fp g B1 R d.texts) (fun i _ => d.texts.length - (intOf i).toNat)
  case atStart => exact ⟨0, Nat.zero_le _, rfl, by simpa [textsW] using HP1.out⟩
  case round =>
    obtain ⟨k0, hk0, rfl, hp⟩ := hrel
    obtain ⟨hbx, hdt⟩ := HBOX.out _ _ _ hp
    have p4 : wr.cell? ⟨w.heap.size, 4, none⟩ = some (.slice x.At d.texts.length x.ct) := hbx.cell 4
    have HP := Lib.hid hp
    have HDT := Lib.hid hdt
    have HBX := Lib.hid hbx
    clear hp hbx hdt HP1
    by_cases hlt : k0 < d.texts.length
    · obtain ⟨b, off, hA, _, hc⟩ := HDT.out.t.name_at hlt
      rw [hA] at p4
      have hlk := HT.out d.texts[k0] (List.getElem_mem hlt)
      have hlen : (B1 ++ textsW (d.texts.take k0)).length + 3000 ≤ 140737488354000 := by
        have := length_textsW 255 (d.texts.take k0) fun t ht => HT.out t (List.mem_of_mem_take ht)
        rw [List.length_append]
        rw [List.length_take] at this
        have h3 : (255 + 7) * min k0 d.texts.length ≤ (255 + 7) * 64 := Nat.mul_le_mul_left _ (by omega)
        omega
      have HLEN := Lib.hid hlen
      have HTS := Lib.hid (show textsW (d.texts.take (k0 + 1)) = textsW (d.texts.take k0) ++ (putL [] (d.texts[k0].length : Int) 1 ++ d.texts[k0]) by rw [List.take_succ_eq_append_getElem hlt, textsW_snoc])
      have HCA := Lib.hid (fun W (h : DataAt W base x d) => (show W.cell? ⟨b, off + k0, none⟩ = some (.string ⟨(d.texts[k0]).toArray⟩) from Row.cell_at (by have := h.t; rw [hA] at this; exact this) hlt))
      have HAA := Lib.hid hA
      obtain ⟨t, htt⟩ : ∃ t, t = d.texts[k0] := ⟨_, rfl⟩
      rw [← htt] at hc hlk HTS HCA
      clear hlen htt hA
      go_wp2_with fail
      refine (rnumP HP.out (t.length : Int) 1 (by have := HLEN.out; omega) (by omega)).mono ?_
      rintro e W2 ⟨rfl, hp2⟩
      obtain ⟨hbx2, hdt2⟩ := HBOX.out _ _ _ hp2
      have p4' : W2.cell? ⟨w.heap.size, 4, none⟩ = some (.slice (some ⟨b, off, none⟩) d.texts.length x.ct) := by rw [← HAA.out]; exact hbx2.cell 4
      have hc' := HCA.out _ hdt2
      have HP2 := Lib.hid hp2
      clear hp2 hbx2 hdt2 p4 hc
      go_wp2_with (refine wpList_bytes rfl (.tmp 33) 9 28 5 rfl Try.underlying9 Try.underlying28 Try.underlying5 t rfl ?_; intro C4 W3 hC4 hM4 hB4 hs4)
      have hr := hM4.row.take t.length
      rw [List.take_left' (by rw [List.length_map])] at hr
      have HR3 := Lib.hid (hr.mono (show _ ≤ W3.heap.size by first | omega | exact Nat.le_refl _ | (simp; omega)))
      have HP3 := Lib.hid (HP2.out.more hB4)
      have hp7 := length_putL (t.length : Int) 1
      clear hr hM4 hB4 hs4 HP2 p4' hc'
      refine (rrawP HP3.out _ t.length C4 t rfl HR3.out (by have := HLEN.out; rw [List.length_append]; omega)).mono ?_
      rintro e W4 ⟨rfl, hp4⟩
      have HP4 := Lib.hid hp4
      clear hp4
      go_wp2
      refine ⟨⟨k0 + 1, hlt, by go_num, ?_⟩, by simp [intOf]; omega⟩
      rw [HTS.out, ← List.append_assoc, ← List.append_assoc]
      exact HP4.out
    · obtain rfl : k0 = d.texts.length := by omega
      have hpe := HP.out
      rw [List.take_length] at hpe
      obtain ⟨B2, hB2⟩ : ∃ B2, B2 = B1 ++ textsW d.texts := ⟨_, rfl⟩
      rw [← hB2] at hpe
      have hl2 : B2.length ≤ 102000000 := by
        have := length_textsW 255 d.texts HT.out
        have h3 : (255 + 7) * d.texts.length ≤ (255 + 7) * 64 := Nat.mul_le_mul_left _ htl
        rw [hB2, List.length_append]
        omega
      have HPE := Lib.hid hpe
      have HB2 := Lib.hid hB2
      clear hpe hB2 HP HDT HBX

      obtain ⟨hbx1, hdt1⟩ := HBOX.out _ _ _ HPE.out
      have pn1 : wr.cell? ⟨w.heap.size, 1, none⟩ = some (.slice x.Ah d.host.length x.ch) := hbx1.cell 1
      have HD1 := Lib.hid hdt1
      clear hbx1 hdt1
      go_wp2_with fail
      refine (rnameP HPE.out x.Ah x.ch d.host true HD1.out.h hch HSH.out (by omega) (by omega) HR.out).mono ?_
      rintro e WN1 ⟨rfl, hpn1⟩
      have HZ := Lib.hid hpn1
      clear hpn1 pn1
      go_wp2
      go_end0
      have hz := HZ.out
      rw [HB2.out, HB1.out] at hz
      exact ⟨rfl, HFIN.out _ _ _ hz⟩

set_option maxRecDepth 20000 in
set_option maxHeartbeats 2000000 in
theorem rput_15 (base : Nat) (w : World) (Fp : Nat → Prop) (g : Nat) (vB vR : Value) (B : List UInt8) (R : Rs) (x : DV) (d : Dt) (h : RWr w base Fp g vB vR B R) (hx : DataAt w base x d) (hs : soundD 15 d = true) (hN : ∀ n ∈ d.nums, n ≤ 9223372036854775807)
    (hB : B.length ≤ 100000000) (hR : R.length ≤ 800000) (hR16 : ∀ r ∈ R, r.2 < 16384 ∧ r.1.length ≤ 1000) :
    Calls Try.prog 84 #[.pointer (some ⟨g, 0, none⟩), .int .i64 15, x.val d] w (fun e w' => e = .returned (.tuple #[]) ∧ RPenned base w Fp g (putD (shN 15) d B R).1 (putD (shN 15) d B R).2 w') := by
  have sp := soundP hs
  have hE := putD_host (s := shN 15) B R sp rfl rfl rfl rfl rfl
  rw [show (shN 15).short = true from rfl] at hE
  rw [hE]
  have hbm : d.bytes.length ≤ 65535 := Nat.le_trans sp.b (by skip <;> first | decide | exact Nat.le_refl _)
  have htl := sp.t
  have hnl : d.nums.length ≤ 10 := by have := sp.n; have h1 : (shN 15).ahead + (shN 15).behind ≤ 10 := (by skip <;> decide); omega
  have HT := Lib.hid sp.tl
  have HN := Lib.hid hN
  have HR := Lib.hid hR16
  have HFIN := Lib.hid (fun B' R' W (hp : RPenned base (w.alloc (.cells #[x.vb d, x.vh d, x.vm d, x.vn d, x.vt d] 46)) Fp g B' R' W) => hp.from)
  have HBOX := Lib.hid (fun B' R' W (hp : RPenned base (w.alloc (.cells #[x.vb d, x.vh d, x.vm d, x.vn d, x.vt d] 46)) Fp g B' R' W) => box_stays hx h.low h.size hp)
  have hp0 : RPenned base (w.alloc (.cells #[x.vb d, x.vh d, x.vm d, x.vn d, x.vt d] 46)) Fp g B R (w.alloc (.cells #[x.vb d, x.vh d, x.vm d, x.vn d, x.vt d] 46)) :=
    ⟨Fp, vB, vR, h.below ((Below.refl _ _).alloc (Nat.le_refl _) _), Grew.refl _ _, fun _ hj => .inl hj⟩
  have hrb := (HBOX.out _ _ _ hp0).2.b
  have hch := hx.lh
  have hcm := hx.lm
  have HP0 := Lib.hid hp0
  have HRB := Lib.hid (hrb.mono (show base ≤ (w.alloc (.cells #[x.vb d, x.vh d, x.vm d, x.vn d, x.vt d] 46)).heap.size by have := h.size; simp; omega))
  have HSH := Lib.hid (sp.h rfl)
  have hnh := soundN_parts (sp.h rfl)
  have hn1 := szN_ge _ hnh.1
  have hn2 := hnh.2
  have HF1 := Lib.hid hnh.1
  clear sp hE h hx hs hN hR16 hp0 hrb hnh
  go_enter Try.func84, Try.ntmps84
  go_wp2_with fail
  refine (rrawP HP0.out x.Ab d.bytes.length x.cb d.bytes rfl HRB.out (by omega)).mono ?_
  rintro e W1 ⟨rfl, hp1⟩
  generalize w.alloc (.cells #[x.vb d, x.vh d, x.vm d, x.vn d, x.vt d] 46) = w1 at *
  obtain ⟨B1, hB1⟩ : ∃ B1, B1 = B ++ d.bytes := ⟨_, rfl⟩
  rw [← hB1] at hp1
  have hl1 : B1.length ≤ 101000000 := by rw [hB1, List.length_append]; omega
  have HP1 := Lib.hid hp1
  have HB1 := Lib.hid hB1
  clear hp1 hB1 HP0 HRB
  go_wp2
  go_loopw [6] (RTRel base w1 Fp g B1 R d.texts) (fun i _ => d.texts.length - (intOf i).toNat)
  case atStart => exact ⟨0, Nat.zero_le _, rfl, by simpa [textsW] using HP1.out⟩
  case round =>
    obtain ⟨k0, hk0, rfl, hp⟩ := hrel
    obtain ⟨hbx, hdt⟩ := HBOX.out _ _ _ hp
    have p4 : wr.cell? ⟨w.heap.size, 4, none⟩ = some (.slice x.At d.texts.length x.ct) := hbx.cell 4
    have HP := Lib.hid hp
    have HDT := Lib.hid hdt
    have HBX := Lib.hid hbx
    clear hp hbx hdt HP1
    by_cases hlt : k0 < d.texts.length
    · obtain ⟨b, off, hA, _, hc⟩ := HDT.out.t.name_at hlt
      rw [hA] at p4
      have hlk := HT.out d.texts[k0] (List.getElem_mem hlt)
      have hlen : (B1 ++ textsW (d.texts.take k0)).length + 3000 ≤ 140737488354000 := by
        have := length_textsW 255 (d.texts.take k0) fun t ht => HT.out t (List.mem_of_mem_take ht)
        rw [List.length_append]
        rw [List.length_take] at this
        have h3 : (255 + 7) * min k0 d.texts.length ≤ (255 + 7) * 64 := Nat.mul_le_mul_left _ (by omega)
        omega
      have HLEN := Lib.hid hlen
      have HTS := Lib.hid (show textsW (d.texts.take (k0 + 1)) = textsW (d.texts.take k0) ++ (putL [] (d.texts[k0].length : Int) 1 ++ d.texts[k0]) by rw [List.take_succ_eq_append_getElem hlt, textsW_snoc])
      have HCA := Lib.hid (fun W (h : DataAt W base x d) => (show W.cell? ⟨b, off + k0, none⟩ = some (.string ⟨(d.texts[k0]).toArray⟩) from Row.cell_at (by have := h.t; rw [hA] at this; exact this) hlt))
      have HAA := Lib.hid hA
      obtain ⟨t, htt⟩ : ∃ t, t = d.texts[k0] := ⟨_, rfl⟩
      rw [← htt] at hc hlk HTS HCA
      clear hlen htt hA
      go_wp2_with fail
      refine (rnumP HP.out (t.length : Int) 1 (by have := HLEN.out; omega) (by omega)).mono ?_
      rintro e W2 ⟨rfl, hp2⟩
      obtain ⟨hbx2, hdt2⟩ := HBOX.out _ _ _ hp2
      have p4' : W2.cell? ⟨w.heap.size, 4, none⟩ = some (.slice (some ⟨b, off, none⟩) d.texts.length x.ct) := by rw [← HAA.out]; exact hbx2.cell 4
      have hc' := HCA.out _ hdt2
      have HP2 := Lib.hid hp2
      clear hp2 hbx2 hdt2 p4 hc
      go_wp2_with (refine wpList_bytes rfl (.tmp 33) 9 28 5 rfl Try.underlying9 Try.underlying28 Try.underlying5 t rfl ?_; intro C4 W3 hC4 hM4 hB4 hs4)
      have hr := hM4.row.take t.length
      rw [List.take_left' (by rw [List.length_map])] at hr
      have HR3 := Lib.hid (hr.mono (show _ ≤ W3.heap.size by first | omega | exact Nat.le_refl _ | (simp; omega)))
      have HP3 := Lib.hid (HP2.out.more hB4)
      have hp7 := length_putL (t.length : Int) 1
      clear hr hM4 hB4 hs4 HP2 p4' hc'
      refine (rrawP HP3.out _ t.length C4 t rfl HR3.out (by have := HLEN.out; rw [List.length_append]; omega)).mono ?_
      rintro e W4 ⟨rfl, hp4⟩
      have HP4 := Lib.hid hp4
      clear hp4
      go_wp2
      refine ⟨⟨k0 + 1, hlt, by go_num, ?_⟩, by simp [intOf]; omega⟩
      rw [HTS.out, ← List.append_assoc, ← List.append_assoc]
      exact HP4.out
    · obtain rfl : k0 = d.texts.length := by omega
      have hpe := HP.out
      rw [List.take_length] at hpe
      obtain ⟨B2, hB2⟩ : ∃ B2, B2 = B1 ++ textsW d.texts := ⟨_, rfl⟩
      rw [← hB2] at hpe
      have hl2 : B2.length ≤ 102000000 := by
        have := length_textsW 255 d.texts HT.out
        have h3 : (255 + 7) * d.texts.length ≤ (255 + 7) * 64 := Nat.mul_le_mul_left _ htl
        rw [hB2, List.length_append]
        omega
      have HPE := Lib.hid hpe
      have HB2 := Lib.hid hB2
      clear hpe hB2 HP HDT HBX
      go_wp2
      go_loopw [7] (RNRel base w1 Fp g B2 R 2 d.nums) (fun i _ => d.nums.length - (intOf i).toNat)
      case atStart => exact ⟨0, Nat.zero_le _, rfl, by simpa [numsW] using HPE.out⟩
      case round =>
        obtain ⟨k1, hk1, rfl, hp⟩ := hrel
        obtain ⟨hbx, hdt⟩ := HBOX.out _ _ _ hp
        have p3 : wr.cell? ⟨w.heap.size, 3, none⟩ = some (.slice x.An d.nums.length x.cn) := hbx.cell 3
        have HQ := Lib.hid hp
        have HDQ := Lib.hid hdt
        have HBQ := Lib.hid hbx
        clear hp hbx hdt HPE
        by_cases hlt : k1 < d.nums.length
        · obtain ⟨b, off, hA, _, hc⟩ := HDQ.out.n.int_at hlt
          rw [hA] at p3
          have hnn := HN.out d.nums[k1] (List.getElem_mem hlt)
          have hlen : (B2 ++ numsW 2 (d.nums.take k1)).length ≤ 140737488354000 := by
            have := length_numsW 2 (d.nums.take k1)
            rw [List.length_append]
            rw [List.length_take] at this
            omega
          have HTS := Lib.hid (show numsW 2 (d.nums.take (k1 + 1)) = numsW 2 (d.nums.take k1) ++ putL [] d.nums[k1] 2 by rw [List.take_succ_eq_append_getElem hlt, numsW_snoc])
          obtain ⟨nn, hnd⟩ : ∃ nn, nn = d.nums[k1] := ⟨_, rfl⟩
          rw [← hnd] at hc hnn HTS
          have HLEN := Lib.hid hlen
          clear hlen hnd hA
          go_wp2_with fail
          refine (rnumP HQ.out nn 2 HLEN.out hnn).mono ?_
          rintro e Wq ⟨rfl, hpq⟩
          have HPQ := Lib.hid hpq
          clear hpq
          go_wp2
          refine ⟨⟨k1 + 1, hlt, by go_num, ?_⟩, by simp [intOf]; omega⟩
          rw [HTS.out, ← List.append_assoc]
          exact HPQ.out
        · obtain rfl : k1 = d.nums.length := by omega
          have hpe := HQ.out
          rw [List.take_length] at hpe
          obtain ⟨B3, hB3⟩ : ∃ B3, B3 = B2 ++ numsW 2 d.nums := ⟨_, rfl⟩
          rw [← hB3] at hpe
          have hl3 : B3.length ≤ 103000000 := by
            have := length_numsW 2 d.nums
            rw [hB3, List.length_append]
            omega
          have HPF := Lib.hid hpe
          have HB3 := Lib.hid hB3
          clear hpe hB3 HQ HDQ HBQ
          obtain ⟨hbx1, hdt1⟩ := HBOX.out _ _ _ HPF.out
          have pn1 : wr.cell? ⟨w.heap.size, 1, none⟩ = some (.slice x.Ah d.host.length x.ch) := hbx1.cell 1
          have HD1 := Lib.hid hdt1
          clear hbx1 hdt1
          go_wp2_with fail
          refine (rnameP HPF.out x.Ah x.ch d.host true HD1.out.h hch HSH.out (by omega) (by omega) HR.out).mono ?_
          rintro e WN1 ⟨rfl, hpn1⟩
          have HZ := Lib.hid hpn1
          clear hpn1 pn1
          go_wp2
          go_end0
          have hz := HZ.out
          rw [HB3.out, HB2.out, HB1.out] at hz
          exact ⟨rfl, HFIN.out _ _ _ hz⟩

set_option maxRecDepth 20000 in
set_option maxHeartbeats 2000000 in
theorem rput_33 (base : Nat) (w : World) (Fp : Nat → Prop) (g : Nat) (vB vR : Value) (B : List UInt8) (R : Rs) (x : DV) (d : Dt) (h : RWr w base Fp g vB vR B R) (hx : DataAt w base x d) (hs : soundD 33 d = true) (hN : ∀ n ∈ d.nums, n ≤ 9223372036854775807)
    (hB : B.length ≤ 100000000) (hR : R.length ≤ 800000) (hR16 : ∀ r ∈ R, r.2 < 16384 ∧ r.1.length ≤ 1000) :
    Calls Try.prog 84 #[.pointer (some ⟨g, 0, none⟩), .int .i64 33, x.val d] w (fun e w' => e = .returned (.tuple #[]) ∧ RPenned base w Fp g (putD (shN 33) d B R).1 (putD (shN 33) d B R).2 w') := by
  have sp := soundP hs
  have hE := putD_host (s := shN 33) B R sp rfl rfl rfl rfl rfl
  rw [show (shN 33).short = false from rfl] at hE
  rw [hE]
  have hbm : d.bytes.length ≤ 65535 := Nat.le_trans sp.b (by skip <;> first | decide | exact Nat.le_refl _)
  have htl := sp.t
  have hnl : d.nums.length ≤ 10 := by have := sp.n; have h1 : (shN 33).ahead + (shN 33).behind ≤ 10 := (by skip <;> decide); omega
  have HT := Lib.hid sp.tl
  have HN := Lib.hid hN
  have HR := Lib.hid hR16
  have HFIN := Lib.hid (fun B' R' W (hp : RPenned base (w.alloc (.cells #[x.vb d, x.vh d, x.vm d, x.vn d, x.vt d] 46)) Fp g B' R' W) => hp.from)
  have HBOX := Lib.hid (fun B' R' W (hp : RPenned base (w.alloc (.cells #[x.vb d, x.vh d, x.vm d, x.vn d, x.vt d] 46)) Fp g B' R' W) => box_stays hx h.low h.size hp)
  have hp0 : RPenned base (w.alloc (.cells #[x.vb d, x.vh d, x.vm d, x.vn d, x.vt d] 46)) Fp g B R (w.alloc (.cells #[x.vb d, x.vh d, x.vm d, x.vn d, x.vt d] 46)) :=
    ⟨Fp, vB, vR, h.below ((Below.refl _ _).alloc (Nat.le_refl _) _), Grew.refl _ _, fun _ hj => .inl hj⟩
  have hrb := (HBOX.out _ _ _ hp0).2.b
  have hch := hx.lh
  have hcm := hx.lm
  have HP0 := Lib.hid hp0
  have HRB := Lib.hid (hrb.mono (show base ≤ (w.alloc (.cells #[x.vb d, x.vh d, x.vm d, x.vn d, x.vt d] 46)).heap.size by have := h.size; simp; omega))
  have HSH := Lib.hid (sp.h rfl)
  have hnh := soundN_parts (sp.h rfl)
  have hn1 := szN_ge _ hnh.1
  have hn2 := hnh.2
  have HF1 := Lib.hid hnh.1
  clear sp hE h hx hs hN hR16 hp0 hrb hnh
  go_enter Try.func84, Try.ntmps84
  go_wp2_with fail
  refine (rrawP HP0.out x.Ab d.bytes.length x.cb d.bytes rfl HRB.out (by omega)).mono ?_
  rintro e W1 ⟨rfl, hp1⟩
  generalize w.alloc (.cells #[x.vb d, x.vh d, x.vm d, x.vn d, x.vt d] 46) = w1 at *
  obtain ⟨B1, hB1⟩ : ∃ B1, B1 = B ++ d.bytes := ⟨_, rfl⟩
  rw [← hB1] at hp1
  have hl1 : B1.length ≤ 101000000 := by rw [hB1, List.length_append]; omega
  have HP1 := Lib.hid hp1
  have HB1 := Lib.hid hB1
  clear hp1 hB1 HP0 HRB
  go_wp2
  go_loopw [6] (RTRel base w1 Fp g B1 R d.texts) (fun i _ => d.texts.length - (intOf i).toNat)
  case atStart => exact ⟨0, Nat.zero_le _, rfl, by simpa [textsW] using HP1.out⟩
  case round =>
    obtain ⟨k0, hk0, rfl, hp⟩ := hrel
    obtain ⟨hbx, hdt⟩ := HBOX.out _ _ _ hp
    have p4 : wr.cell? ⟨w.heap.size, 4, none⟩ = some (.slice x.At d.texts.length x.ct) := hbx.cell 4
    have HP := Lib.hid hp
    have HDT := Lib.hid hdt
    have HBX := Lib.hid hbx
    clear hp hbx hdt HP1
    by_cases hlt : k0 < d.texts.length
    · obtain ⟨b, off, hA, _, hc⟩ := HDT.out.t.name_at hlt
      rw [hA] at p4
      have hlk := HT.out d.texts[k0] (List.getElem_mem hlt)
      have hlen : (B1 ++ textsW (d.texts.take k0)).length + 3000 ≤ 140737488354000 := by
        have := length_textsW 255 (d.texts.take k0) fun t ht => HT.out t (List.mem_of_mem_take ht)
        rw [List.length_append]
        rw [List.length_take] at this
        have h3 : (255 + 7) * min k0 d.texts.length ≤ (255 + 7) * 64 := Nat.mul_le_mul_left _ (by omega)
        omega
      have HLEN := Lib.hid hlen
      have HTS := Lib.hid (show textsW (d.texts.take (k0 + 1)) = textsW (d.texts.take k0) ++ (putL [] (d.texts[k0].length : Int) 1 ++ d.texts[k0]) by rw [List.take_succ_eq_append_getElem hlt, textsW_snoc])
      have HCA := Lib.hid (fun W (h : DataAt W base x d) => (show W.cell? ⟨b, off + k0, none⟩ = some (.string ⟨(d.texts[k0]).toArray⟩) from Row.cell_at (by have := h.t; rw [hA] at this; exact this) hlt))
      have HAA := Lib.hid hA
      obtain ⟨t, htt⟩ : ∃ t, t = d.texts[k0] := ⟨_, rfl⟩
      rw [← htt] at hc hlk HTS HCA
      clear hlen htt hA
      go_wp2_with fail
      refine (rnumP HP.out (t.length : Int) 1 (by have := HLEN.out; omega) (by omega)).mono ?_
      rintro e W2 ⟨rfl, hp2⟩
      obtain ⟨hbx2, hdt2⟩ := HBOX.out _ _ _ hp2
      have p4' : W2.cell? ⟨w.heap.size, 4, none⟩ = some (.slice (some ⟨b, off, none⟩) d.texts.length x.ct) := by rw [← HAA.out]; exact hbx2.cell 4
      have hc' := HCA.out _ hdt2
      have HP2 := Lib.hid hp2
      clear hp2 hbx2 hdt2 p4 hc
      go_wp2_with (refine wpList_bytes rfl (.tmp 33) 9 28 5 rfl Try.underlying9 Try.underlying28 Try.underlying5 t rfl ?_; intro C4 W3 hC4 hM4 hB4 hs4)
      have hr := hM4.row.take t.length
      rw [List.take_left' (by rw [List.length_map])] at hr
      have HR3 := Lib.hid (hr.mono (show _ ≤ W3.heap.size by first | omega | exact Nat.le_refl _ | (simp; omega)))
      have HP3 := Lib.hid (HP2.out.more hB4)
      have hp7 := length_putL (t.length : Int) 1
      clear hr hM4 hB4 hs4 HP2 p4' hc'
      refine (rrawP HP3.out _ t.length C4 t rfl HR3.out (by have := HLEN.out; rw [List.length_append]; omega)).mono ?_
      rintro e W4 ⟨rfl, hp4⟩
      have HP4 := Lib.hid hp4
      clear hp4
      go_wp2
      refine ⟨⟨k0 + 1, hlt, by go_num, ?_⟩, by simp [intOf]; omega⟩
      rw [HTS.out, ← List.append_assoc, ← List.append_assoc]
      exact HP4.out
    · obtain rfl : k0 = d.texts.length := by omega
      have hpe := HP.out
      rw [List.take_length] at hpe
      obtain ⟨B2, hB2⟩ : ∃ B2, B2 = B1 ++ textsW d.texts := ⟨_, rfl⟩
      rw [← hB2] at hpe
      have hl2 : B2.length ≤ 102000000 := by
        have := length_textsW 255 d.texts HT.out
        have h3 : (255 + 7) * d.texts.length ≤ (255 + 7) * 64 := Nat.mul_le_mul_left _ htl
        rw [hB2, List.length_append]
        omega
      have HPE := Lib.hid hpe
      have HB2 := Lib.hid hB2
      clear hpe hB2 HP HDT HBX
      go_wp2
      go_loopw [7] (RNRel base w1 Fp g B2 R 2 d.nums) (fun i _ => d.nums.length - (intOf i).toNat)
      case atStart => exact ⟨0, Nat.zero_le _, rfl, by simpa [numsW] using HPE.out⟩
      case round =>
        obtain ⟨k1, hk1, rfl, hp⟩ := hrel
        obtain ⟨hbx, hdt⟩ := HBOX.out _ _ _ hp
        have p3 : wr.cell? ⟨w.heap.size, 3, none⟩ = some (.slice x.An d.nums.length x.cn) := hbx.cell 3
        have HQ := Lib.hid hp
        have HDQ := Lib.hid hdt
        have HBQ := Lib.hid hbx
        clear hp hbx hdt HPE
        by_cases hlt : k1 < d.nums.length
        · obtain ⟨b, off, hA, _, hc⟩ := HDQ.out.n.int_at hlt
          rw [hA] at p3
          have hnn := HN.out d.nums[k1] (List.getElem_mem hlt)
          have hlen : (B2 ++ numsW 2 (d.nums.take k1)).length ≤ 140737488354000 := by
            have := length_numsW 2 (d.nums.take k1)
            rw [List.length_append]
            rw [List.length_take] at this
            omega
          have HTS := Lib.hid (show numsW 2 (d.nums.take (k1 + 1)) = numsW 2 (d.nums.take k1) ++ putL [] d.nums[k1] 2 by rw [List.take_succ_eq_append_getElem hlt, numsW_snoc])
          obtain ⟨nn, hnd⟩ : ∃ nn, nn = d.nums[k1] := ⟨_, rfl⟩
          rw [← hnd] at hc hnn HTS
          have HLEN := Lib.hid hlen
          clear hlen hnd hA
          go_wp2_with fail
          refine (rnumP HQ.out nn 2 HLEN.out hnn).mono ?_
          rintro e Wq ⟨rfl, hpq⟩
          have HPQ := Lib.hid hpq
          clear hpq
          go_wp2
          refine ⟨⟨k1 + 1, hlt, by go_num, ?_⟩, by simp [intOf]; omega⟩
          rw [HTS.out, ← List.append_assoc]
          exact HPQ.out
        · obtain rfl : k1 = d.nums.length := by omega
          have hpe := HQ.out
          rw [List.take_length] at hpe
          obtain ⟨B3, hB3⟩ : ∃ B3, B3 = B2 ++ numsW 2 d.nums := ⟨_, rfl⟩
          rw [← hB3] at hpe
          have hl3 : B3.length ≤ 103000000 := by
            have := length_numsW 2 d.nums
            rw [hB3, List.length_append]
            omega
          have HPF := Lib.hid hpe
          have HB3 := Lib.hid hB3
          clear hpe hB3 HQ HDQ HBQ
          obtain ⟨hbx1, hdt1⟩ := HBOX.out _ _ _ HPF.out
          have pn1 : wr.cell? ⟨w.heap.size, 1, none⟩ = some (.slice x.Ah d.host.length x.ch) := hbx1.cell 1
          have HD1 := Lib.hid hdt1
          clear hbx1 hdt1
          go_wp2_with fail
          refine (rnameP HPF.out x.Ah x.ch d.host false HD1.out.h hch HSH.out (by omega) (by omega) HR.out).mono ?_
          rintro e WN1 ⟨rfl, hpn1⟩
          have HZ := Lib.hid hpn1
          clear hpn1 pn1
          go_wp2
          go_end0
          have hz := HZ.out
          rw [HB3.out, HB2.out, HB1.out] at hz
          exact ⟨rfl, HFIN.out _ _ _ hz⟩

set_option maxRecDepth 20000 in
set_option maxHeartbeats 2000000 in
theorem rput_6 (base : Nat) (w : World) (Fp : Nat → Prop) (g : Nat) (vB vR : Value) (B : List UInt8) (R : Rs) (x : DV) (d : Dt) (h : RWr w base Fp g vB vR B R) (hx : DataAt w base x d) (hs : soundD 6 d = true) (hN : ∀ n ∈ d.nums, n ≤ 9223372036854775807)
    (hB : B.length ≤ 100000000) (hR : R.length ≤ 800000) (hR16 : ∀ r ∈ R, r.2 < 16384 ∧ r.1.length ≤ 1000) :
    Calls Try.prog 84 #[.pointer (some ⟨g, 0, none⟩), .int .i64 6, x.val d] w (fun e w' => e = .returned (.tuple #[]) ∧ RPenned base w Fp g (putD (shN 6) d B R).1 (putD (shN 6) d B R).2 w') := by
  have sp := soundP hs
  have hE := putD_both (s := shN 6) B R sp rfl rfl rfl rfl rfl
  rw [show (shN 6).short = true from rfl] at hE
  rw [hE]
  have hbm : d.bytes.length ≤ 65535 := Nat.le_trans sp.b (by skip <;> first | decide | exact Nat.le_refl _)
  have htl := sp.t
  have hnl : d.nums.length ≤ 10 := by have := sp.n; have h1 : (shN 6).ahead + (shN 6).behind ≤ 10 := (by skip <;> decide); omega
  have HT := Lib.hid sp.tl
  have HN := Lib.hid hN
  have HR := Lib.hid hR16
  have HFIN := Lib.hid (fun B' R' W (hp : RPenned base (w.alloc (.cells #[x.vb d, x.vh d, x.vm d, x.vn d, x.vt d] 46)) Fp g B' R' W) => hp.from)
  have HBOX := Lib.hid (fun B' R' W (hp : RPenned base (w.alloc (.cells #[x.vb d, x.vh d, x.vm d, x.vn d, x.vt d] 46)) Fp g B' R' W) => box_stays hx h.low h.size hp)
  have hp0 : RPenned base (w.alloc (.cells #[x.vb d, x.vh d, x.vm d, x.vn d, x.vt d] 46)) Fp g B R (w.alloc (.cells #[x.vb d, x.vh d, x.vm d, x.vn d, x.vt d] 46)) :=
    ⟨Fp, vB, vR, h.below ((Below.refl _ _).alloc (Nat.le_refl _) _), Grew.refl _ _, fun _ hj => .inl hj⟩
  have hrb := (HBOX.out _ _ _ hp0).2.b
  have hch := hx.lh
  have hcm := hx.lm
  have HP0 := Lib.hid hp0
  have HRB := Lib.hid (hrb.mono (show base ≤ (w.alloc (.cells #[x.vb d, x.vh d, x.vm d, x.vn d, x.vt d] 46)).heap.size by have := h.size; simp; omega))
  have HSH := Lib.hid (sp.h rfl)
  have hnh := soundN_parts (sp.h rfl)
  have hn1 := szN_ge _ hnh.1
  have hn2 := hnh.2
  have HF1 := Lib.hid hnh.1
  have HSM := Lib.hid (sp.m rfl)
  have hnm := soundN_parts (sp.m rfl)
  have hm1 := szN_ge _ hnm.1
  have hm2 := hnm.2
  have HF2 := Lib.hid hnm.1
  clear sp hE h hx hs hN hR16 hp0 hrb hnh hnm
  go_enter Try.func84, Try.ntmps84
  go_wp2_with fail
  refine (rrawP HP0.out x.Ab d.bytes.length x.cb d.bytes rfl HRB.out (by omega)).mono ?_
  rintro e W1 ⟨rfl, hp1⟩
  generalize w.alloc (.cells #[x.vb d, x.vh d, x.vm d, x.vn d, x.vt d] 46) = w1 at *
  obtain ⟨B1, hB1⟩ : ∃ B1, B1 = B ++ d.bytes := ⟨_, rfl⟩
  rw [← hB1] at hp1
  have hl1 : B1.length ≤ 101000000 := by rw [hB1, List.length_append]; omega
  have HP1 := Lib.hid hp1
  have HB1 := Lib.hid hB1
  clear hp1 hB1 HP0 HRB
  go_wp2
  go_loopw [6] (RTRel base w1 Fp g B1 R d.texts) (fun i _ => d.texts.length - (intOf i).toNat)
  case atStart => exact ⟨0, Nat.zero_le _, rfl, by simpa [textsW] using HP1.out⟩
  case round =>
    obtain ⟨k0, hk0, rfl, hp⟩ := hrel
    obtain ⟨hbx, hdt⟩ := HBOX.out _ _ _ hp
    have p4 : wr.cell? ⟨w.heap.size, 4, none⟩ = some (.slice x.At d.texts.length x.ct) := hbx.cell 4
    have HP := Lib.hid hp
    have HDT := Lib.hid hdt
    have HBX := Lib.hid hbx
    clear hp hbx hdt HP1
    by_cases hlt : k0 < d.texts.length
    · obtain ⟨b, off, hA, _, hc⟩ := HDT.out.t.name_at hlt
      rw [hA] at p4
      have hlk := HT.out d.texts[k0] (List.getElem_mem hlt)
      have hlen : (B1 ++ textsW (d.texts.take k0)).length + 3000 ≤ 140737488354000 := by
        have := length_textsW 255 (d.texts.take k0) fun t ht => HT.out t (List.mem_of_mem_take ht)
        rw [List.length_append]
        rw [List.length_take] at this
        have h3 : (255 + 7) * min k0 d.texts.length ≤ (255 + 7) * 64 := Nat.mul_le_mul_left _ (by omega)
        omega
      have HLEN := Lib.hid hlen
      have HTS := Lib.hid (show textsW (d.texts.take (k0 + 1)) = textsW (d.texts.take k0) ++ (putL [] (d.texts[k0].length : Int) 1 ++ d.texts[k0]) by rw [List.take_succ_eq_append_getElem hlt, textsW_snoc])
      have HCA := Lib.hid (fun W (h : DataAt W base x d) => (show W.cell? ⟨b, off + k0, none⟩ = some (.string ⟨(d.texts[k0]).toArray⟩) from Row.cell_at (by have := h.t; rw [hA] at this; exact this) hlt))
      have HAA := Lib.hid hA
      obtain ⟨t, htt⟩ : ∃ t, t = d.texts[k0] := ⟨_, rfl⟩
      rw [← htt] at hc hlk HTS HCA
      clear hlen htt hA
      go_wp2_with fail
      refine (rnumP HP.out (t.length : Int) 1 (by have := HLEN.out; omega) (by omega)).mono ?_
      rintro e W2 ⟨rfl, hp2⟩
      obtain ⟨hbx2, hdt2⟩ := HBOX.out _ _ _ hp2
      have p4' : W2.cell? ⟨w.heap.size, 4, none⟩ = some (.slice (some ⟨b, off, none⟩) d.texts.length x.ct) := by rw [← HAA.out]; exact hbx2.cell 4
      have hc' := HCA.out _ hdt2
      have HP2 := Lib.hid hp2
      clear hp2 hbx2 hdt2 p4 hc
      go_wp2_with (refine wpList_bytes rfl (.tmp 33) 9 28 5 rfl Try.underlying9 Try.underlying28 Try.underlying5 t rfl ?_; intro C4 W3 hC4 hM4 hB4 hs4)
      have hr := hM4.row.take t.length
      rw [List.take_left' (by rw [List.length_map])] at hr
      have HR3 := Lib.hid (hr.mono (show _ ≤ W3.heap.size by first | omega | exact Nat.le_refl _ | (simp; omega)))
      have HP3 := Lib.hid (HP2.out.more hB4)
      have hp7 := length_putL (t.length : Int) 1
      clear hr hM4 hB4 hs4 HP2 p4' hc'
      refine (rrawP HP3.out _ t.length C4 t rfl HR3.out (by have := HLEN.out; rw [List.length_append]; omega)).mono ?_
      rintro e W4 ⟨rfl, hp4⟩
      have HP4 := Lib.hid hp4
      clear hp4
      go_wp2
      refine ⟨⟨k0 + 1, hlt, by go_num, ?_⟩, by simp [intOf]; omega⟩
      rw [HTS.out, ← List.append_assoc, ← List.append_assoc]
      exact HP4.out
    · obtain rfl : k0 = d.texts.length := by omega
      have hpe := HP.out
      rw [List.take_length] at hpe
      obtain ⟨B2, hB2⟩ : ∃ B2, B2 = B1 ++ textsW d.texts := ⟨_, rfl⟩
      rw [← hB2] at hpe
      have hl2 : B2.length ≤ 102000000 := by
        have := length_textsW 255 d.texts HT.out
        have h3 : (255 + 7) * d.texts.length ≤ (255 + 7) * 64 := Nat.mul_le_mul_left _ htl
        rw [hB2, List.length_append]
        omega
      have HPE := Lib.hid hpe
      have HB2 := Lib.hid hB2
      clear hpe hB2 HP HDT HBX
      obtain ⟨hbx1, hdt1⟩ := HBOX.out _ _ _ HPE.out
      have pn1 : wr.cell? ⟨w.heap.size, 1, none⟩ = some (.slice x.Ah d.host.length x.ch) := hbx1.cell 1
      have HD1 := Lib.hid hdt1
      clear hbx1 hdt1
      go_wp2_with fail
      refine (rnameP HPE.out x.Ah x.ch d.host true HD1.out.h hch HSH.out (by omega) (by omega) HR.out).mono ?_
      rintro e WN1 ⟨rfl, hpn1⟩
      have hlB := length_nameW_le true d.host B2 R HF1.out
      have hlR := length_nameW_rests true d.host B2 R
      have HR2 := Lib.hid (nameW_kept true d.host B2 R HR.out (by omega))
      obtain ⟨B3, hB3⟩ : ∃ B3, B3 = (nameW true d.host B2 R).1 := ⟨_, rfl⟩
      obtain ⟨R3, hR3⟩ : ∃ R3, R3 = (nameW true d.host B2 R).2 := ⟨_, rfl⟩
      rw [← hB3] at hlB
      rw [← hR3] at hlR HR2
      rw [← hB3, ← hR3] at hpn1
      have HB3 := Lib.hid hB3
      have HR3 := Lib.hid hR3
      clear hB3 hR3
      have HPF := Lib.hid hpn1
      clear hpn1 pn1
      obtain ⟨hbx2, hdt2⟩ := HBOX.out _ _ _ HPF.out
      have pn2 : WN1.cell? ⟨w.heap.size, 2, none⟩ = some (.slice x.Am d.mail.length x.cm) := hbx2.cell 2
      have HD2 := Lib.hid hdt2
      clear hbx2 hdt2
      go_wp2_with fail
      refine (rnameP HPF.out x.Am x.cm d.mail true HD2.out.m hcm HSM.out (by omega) (by omega) HR2.out).mono ?_
      rintro e WN2 ⟨rfl, hpn2⟩
      have hlB2 := length_nameW_le true d.mail B3 R3 HF2.out
      obtain ⟨B4, hB4⟩ : ∃ B4, B4 = (nameW true d.mail B3 R3).1 := ⟨_, rfl⟩
      obtain ⟨R4, hR4⟩ : ∃ R4, R4 = (nameW true d.mail B3 R3).2 := ⟨_, rfl⟩
      rw [← hB4] at hlB2
      rw [← hB4, ← hR4] at hpn2
      have HB4 := Lib.hid hB4
      have HR4 := Lib.hid hR4
      clear hB4 hR4
      have HPG := Lib.hid hpn2
      clear hpn2 pn2
      go_wp2
      go_loopw [8] (RNRel base w1 Fp g B4 R4 4 d.nums) (fun i _ => d.nums.length - (intOf i).toNat)
      case atStart => exact ⟨0, Nat.zero_le _, rfl, by simpa [numsW] using HPG.out⟩
      case round =>
        obtain ⟨k1, hk1, rfl, hp⟩ := hrel
        obtain ⟨hbx, hdt⟩ := HBOX.out _ _ _ hp
        have p3 : wr.cell? ⟨w.heap.size, 3, none⟩ = some (.slice x.An d.nums.length x.cn) := hbx.cell 3
        have HQ := Lib.hid hp
        have HDQ := Lib.hid hdt
        have HBQ := Lib.hid hbx
        clear hp hbx hdt HPG
        by_cases hlt : k1 < d.nums.length
        · obtain ⟨b, off, hA, _, hc⟩ := HDQ.out.n.int_at hlt
          rw [hA] at p3
          have hnn := HN.out d.nums[k1] (List.getElem_mem hlt)
          have hlen : (B4 ++ numsW 4 (d.nums.take k1)).length ≤ 140737488354000 := by
            have := length_numsW 4 (d.nums.take k1)
            rw [List.length_append]
            rw [List.length_take] at this
            omega
          have HTS := Lib.hid (show numsW 4 (d.nums.take (k1 + 1)) = numsW 4 (d.nums.take k1) ++ putL [] d.nums[k1] 4 by rw [List.take_succ_eq_append_getElem hlt, numsW_snoc])
          obtain ⟨nn, hnd⟩ : ∃ nn, nn = d.nums[k1] := ⟨_, rfl⟩
          rw [← hnd] at hc hnn HTS
          have HLEN := Lib.hid hlen
          clear hlen hnd hA
          go_wp2_with fail
          refine (rnumP HQ.out nn 4 HLEN.out hnn).mono ?_
          rintro e Wq ⟨rfl, hpq⟩
          have HPQ := Lib.hid hpq
          clear hpq
          go_wp2
          refine ⟨⟨k1 + 1, hlt, by go_num, ?_⟩, by simp [intOf]; omega⟩
          rw [HTS.out, ← List.append_assoc]
          exact HPQ.out
        · obtain rfl : k1 = d.nums.length := by omega
          have hpe := HQ.out
          rw [List.take_length] at hpe
          have HZ := Lib.hid hpe
          clear hpe HQ HDQ HBQ
          go_wp2
          go_end0
          have hz := HZ.out
          rw [HB4.out, HR4.out, HB3.out, HR3.out, HB2.out, HB1.out] at hz
          exact ⟨rfl, HFIN.out _ _ _ hz⟩

theorem rput_any (base : Nat) (w : World) (Fp : Nat → Prop) (g : Nat) (vB vR : Value) (B : List UInt8) (R : Rs) (k : Int) (x : DV) (d : Dt) (h : RWr w base Fp g vB vR B R) (hx : DataAt w base x d) (hs : soundD k d = true) (hN : ∀ n ∈ d.nums, n ≤ 9223372036854775807)
    (hB : B.length ≤ 100000000) (hR : R.length ≤ 800000) (hR16 : ∀ r ∈ R, r.2 < 16384 ∧ r.1.length ≤ 1000) :
    Calls Try.prog 84 #[.pointer (some ⟨g, 0, none⟩), .int .i64 k, x.val d] w (fun e w' => e = .returned (.tuple #[]) ∧ RPenned base w Fp g (putD (shN k) d B R).1 (putD (shN k) d B R).2 w') := by
  rcases shN_cases k with rfl | rfl | rfl | rfl | rfl | rfl | rfl | rfl | rfl | hk
  · exact rput_1 base w Fp g vB vR B R x d h hx hs hN hB hR hR16
  · exact rput_28 base w Fp g vB vR B R x d h hx hs hN hB hR hR16
  · exact rput_2 base w Fp g vB vR B R x d h hx hs hN hB hR hR16
  · exact rput_5 base w Fp g vB vR B R x d h hx hs hN hB hR hR16
  · exact rput_12 base w Fp g vB vR B R x d h hx hs hN hB hR hR16
  · exact rput_15 base w Fp g vB vR B R x d h hx hs hN hB hR hR16
  · exact rput_6 base w Fp g vB vR B R x d h hx hs hN hB hR hR16
  · exact rput_16 base w Fp g vB vR B R x d h hx hs hN hB hR hR16
  · exact rput_33 base w Fp g vB vR B R x d h hx hs hN hB hR hR16
  · exact rput_other base w Fp g vB vR B R k hk x d h hx hs hN hB hR hR16

end Go.Proofs.Ytjkjhpaeckkpjaa
