/-
  MsgMany, whole: whatever the number and the flag are, a message of at most 512 records is written by msg.Encode and read by msg.Decode, which tells as many and the last one as it was; one of more records is ErrValue. No condition.
-/
import Derived.Test.YtbmmblkllicanaaRows
import Derived.Test.YtbmmblkllicanaaMbP1
import Derived.ProofKit
import Derived.SizedLaws
import Derived.Carry
import Derived.Test.YtbmmblkllicanaaMbP8
import Derived.Test.YtbmmblkllicanaaMbP9
namespace Go.Proofs.Ytbmmblkllicanaa
open Go.ChangeShapes Go.WideShapes Go.ChangeAt Go.RowKit

theorem Try.own : ownKnob Try.prog.godebug = none := by kernel_rfl
theorem Try.laidOut : laidOutB Try.prog = true := by kernel_rfl

theorem bc_of_int (n : Int) (h : (Lit.int .u8 n).wf = true) : Value.int .u8 n = bc (UInt8.ofNat n.toNat) := by
  have h1 : IntKind.u8.min = 0 := rfl
  have h2 : IntKind.u8.max = 255 := rfl
  simp only [Lit.wf, Bool.and_eq_true, decide_eq_true_eq] at h
  unfold bc
  rw [UInt8.toNat_ofNat', Nat.mod_eq_of_lt (by omega)]
  congr 1
  omega

set_option maxRecDepth 20000 in
/-- An argument of bytes: whatever it is, it reads as a list. -/
theorem open_row_u8c {H : Type} {enc : TypeId × Value → H} {W : World} {base : Nat} {t : TypeId} {v : Value} {d : DataW H} {p : List MemPlace} (hc : Try.prog.cellsOf 5 = 1) (ht : Try.prog.underlying t = some (.slice 5))
    (hval : Value.okWide Try.prog W .any base t v) (h : DataW.Trod enc Try.prog W 0 (fun _ => true) true t v d p) (hlt : ∀ x ∈ p, x.block < W.heap.size) :
    ∃ (A : Option Addr) (m c : Nat) (l : List UInt8), v = .slice A m c ∧ l.length = m ∧ Row W W.heap.size A (l.map bc) ∧ m ≤ c ∧ m ≤ maxLen ∧ c ≤ maxLen ∧ (m = 0 ∨ ∃ el sp, d = .slice el sp ∧ el.length = m) := by
  obtain ⟨a0, len, cap, rfl⟩ := okWide_slice ht hval
  obtain ⟨fuel, hf⟩ := h
  rcases open_ints ht Try.underlying5 hc hf with ⟨hcs, hx⟩ | ⟨a, len', cap', zs, hcs, _, hl, hm, hz, hx, hcell, hwz⟩
  · simp [Value.cells] at hcs
    obtain ⟨rfl, rfl, rfl⟩ := hcs
    exact ⟨none, 0, 0, [], rfl, rfl, Row.empty _ _ _, Nat.le_refl _, Nat.zero_le _, Nat.zero_le _, .inl rfl⟩
  · simp [Value.cells] at hcs
    obtain ⟨rfl, rfl, rfl⟩ := hcs
    simp only [Prod.mk.injEq] at hx
    obtain ⟨rfl, rfl⟩ := hx
    simp only [if_true] at hz
    refine ⟨some a, len, cap, (zs.take len).map fun n => UInt8.ofNat n.toNat, rfl, by simp; omega, fun hne => ?_, hl, Nat.le_trans hl hm, hm, .inr ⟨_, _, rfl, by simp [lits]; omega⟩⟩
    have hpos : 0 < zs.length := by
      rcases zs with _ | ⟨z, zs⟩
      · simp at hne
      · simp
    obtain ⟨b, off, spot⟩ := a
    have hspot : spot = none := by simpa [Addr.add] using World.cell?_spot (hcell 0 hpos)
    subst hspot
    refine ⟨b, off, rfl, hlt (.cell b off) (MemPlace.mem_row.2 ⟨0, hpos, by simp⟩), fun j u hu => ?_⟩
    have hj : j < zs.length := by
      have := (List.getElem?_eq_some_iff.1 hu).1
      simp at this
      omega
    have hjl : j < len := by
      have := (List.getElem?_eq_some_iff.1 hu).1
      simp at this
      omega
    have h1 := hcell j hj
    rw [addr_add] at h1
    rw [h1]
    have e : zs.getD j 0 = zs[j] := by simp [List.getD, List.getElem?_eq_getElem hj]
    rw [List.getElem?_map, List.getElem?_map, List.getElem?_take, if_pos hjl, List.getElem?_eq_getElem hj] at hu
    simp only [Option.map_some] at hu
    rw [← hu, e, bc_of_int _ (hwz _ (List.getElem_mem hj))]

set_option maxRecDepth 20000 in
theorem open_row_u8 {H : Type} {enc : TypeId × Value → H} {W : World} {base : Nat} {t : TypeId} {v : Value} {d : DataW H} {p : List MemPlace} (hc : Try.prog.cellsOf 5 = 1) (ht : Try.prog.underlying t = some (.slice 5))
    (hval : Value.okWide Try.prog W .any base t v) (h : DataW.Trod enc Try.prog W 0 (fun _ => true) true t v d p) (hlt : ∀ x ∈ p, x.block < W.heap.size) :
    ∃ (A : Option Addr) (m c : Nat) (l : List UInt8), v = .slice A m c ∧ l.length = m ∧ Row W W.heap.size A (l.map bc) ∧ m ≤ c ∧ m ≤ maxLen ∧ (m = 0 ∨ ∃ el sp, d = .slice el sp ∧ el.length = m) := by
  obtain ⟨A, m, c, l, h1, h2, h3, h4, h5, _, h6⟩ := open_row_u8c hc ht hval h hlt
  exact ⟨A, m, c, l, h1, h2, h3, h4, h5, h6⟩

theorem row_reach {H : Type} {P : Program} {ts : List TypeId} {ds : List (DataW H)} {d : DataW H} {m : Nat} (h : (DataW.weightsEach P ts ds).all (· ≤ reachBytes) = true) {j : Nat} {t e : TypeId} (ht : ts[j]? = some t) (hd : ds[j]? = some d) (hu : P.underlying t = some (.slice e))
    (hb : P.bytesOf e = 1) (hm : m = 0 ∨ ∃ el sp, d = .slice el sp ∧ el.length = m) : m ≤ 140737488351232 := by
  rcases hm with rfl | ⟨el, sp, rfl, hl⟩
  · omega
  · have := sized_slice h ht hd hu
    rw [hb] at this
    simp only [reachBytes] at this
    omega
theorem u8_cells : Try.prog.cellsOf 5 = 1 := by kernel_rfl
theorem u8_bytes : Try.prog.bytesOf 5 = 1 := by kernel_rfl

theorem below_trodAll {H : Type} {enc : TypeId × Value → H} {P : Program} (hl : laidOutB P = true) {W W' : World} (hb : Below W.heap.size W W') :
    ∀ {ts : List TypeId} {vs : List Value} {ds : List (DataW H)} {ps : List MemPlace}, ts.all (fun t => P.readableRec t && decide (t < P.types.size)) = true →
      DataW.TrodAll enc P W 0 (fun _ => true) true ts vs ds ps → (∀ x ∈ ps, x.block < W.heap.size) → DataW.TrodAll enc P W' 0 (fun b => decide (b < W.heap.size)) true ts vs ds ps
  | [], [], [], _, _, h, _ => h
  | [], [], _ :: _, _, _, h, _ => h.elim
  | [], _ :: _, _, _, _, h, _ => h.elim
  | _ :: _, [], _, _, _, h, _ => h.elim
  | _ :: _, _ :: _, [], _, _, h, _ => h.elim
  | t :: ts, v :: vs, d :: ds, ps, ht, h, hlt => by
    obtain ⟨p, q, h1, h2, rfl⟩ := h
    simp only [List.all_cons, Bool.and_eq_true, decide_eq_true_eq] at ht
    exact ⟨p, q, Below.trod hl ht.1.1 ht.1.2 h1 hb (fun x hx => hlt x (List.mem_append_left _ hx)), below_trodAll hl hb ht.2 h2 (fun x hx => hlt x (List.mem_append_right _ hx)), rfl⟩

/-- The end of a law: it has answered true, and nothing that was there has turned. -/
theorem law_post {H : Type} {enc : TypeId × Value → H} {P : Program} {f : Func} {s : ChangeSpec} {W W' : World} {args : Array Value} {ds gs : List (DataW H)} {before : List MemPlace} {tb : TypeId}
    (hl : laidOutB P = true) (hts : f.params.toList.all (fun t => P.readableRec t && decide (t < P.types.size)) = true) (hrt : f.resultTypes.toList = [tb]) (hsz : f.resultTypes.size = 1) (hbool : P.underlying tb = some .bool) (hsv : s.vars = [])
    (hW : DataW.Whole enc P f.params.toList s.vars false W args.toList ds gs before)
    (hres : (s.fn H (ds ++ gs)).results = [.lit (.bool true)]) (hargs : (s.fn H (ds ++ gs)).args = ds) (hvars : (s.fn H (ds ++ gs)).vars = [])
    (hb : Below W.heap.size W W') : s.post enc P f false true false false W args (.bool true) W' := by
  have hW' := hW
  obtain ⟨p, q, hA, hV, rfl, _, _⟩ := hW
  rw [hsv] at hV
  obtain ⟨rfl, rfl⟩ := trodVars_none hV
  have hlt : ∀ x ∈ p, x.block < W.heap.size := fun x hx => hW'.lt x (List.mem_append_left _ hx)
  refine ⟨ds, [], p ++ [], [], p, [], hW', ?_, ?_, ?_, hb.frame _, fun h => by cases h⟩
  · rw [hrt, hsz, hres]
    exact trodAll_mk1 (shut_bool hbool true)
  · rw [hargs]
    exact below_trodAll hl hb hts hA hlt
  · rw [hsv, hvars]
    rfl

theorem i64_le {n : Int} (h : (Lit.int .i64 n).wf = true) : -9223372036854775808 ≤ n ∧ n ≤ 9223372036854775807 := by
  have h1 : IntKind.i64.min = -9223372036854775808 := rfl
  have h2 : IntKind.i64.max = 9223372036854775807 := rfl
  simp only [Lit.wf, Bool.and_eq_true, decide_eq_true_eq] at h
  omega

end Go.Proofs.Ytbmmblkllicanaa

namespace Go.Proofs.Ytbmmblkllicanaa
open Go.RowKit

def manyR (j : Nat) : Rt := ⟨[], 99, 1, j, ⟨[], [], [], [], []⟩⟩
def manyL (k : Nat) : List Rt := (List.range k).map manyR
def manyP (k : Nat) : List (RV × Rt) := (List.range k).map fun j => (nilV, manyR j)
theorem recs_many (k : Nat) : recs (manyP k) = manyL k := by simp [recs, manyP, manyL]
theorem length_many (k : Nat) : (manyP k).length = k := by simp [manyP]
theorem many_snoc (k : Nat) : manyP (k + 1) = manyP k ++ [(nilV, manyR k)] := by simp [manyP, List.range_succ]
theorem many_sound {j : Nat} (h : j < 100000) : soundX (manyR j) = true := by
  refine soundX_iff.2 ⟨by show (99 : Int) ≠ 41; decide, show soundN [] = true by decide, show soundD 99 ⟨[], [], [], [], []⟩ = true by decide +kernel, show fitB 1 2 = true by decide +kernel, by show (0 : Int) ≤ (j : Int); omega, by show (j : Int) ≤ 2147483647; omega⟩
/-- A record without a name and data. -/
theorem bare_len {k c t : Int} (hs : SoundR ⟨[], k, c, t, ⟨[], [], [], [], []⟩⟩) (hsh : shN k = ⟨0, false, false, false, 0, false, 0, 65535⟩) (B : List UInt8) (R : Rs) : (putRR ⟨[], k, c, t, ⟨[], [], [], [], []⟩⟩ B R).1.length = B.length + 11 := by
  obtain ⟨W, _, h1, h2, h3⟩ := putRR_eq (B := B) (R := R) hs
  have hd : (putD0 ⟨[], k, c, t, ⟨[], [], [], [], []⟩⟩ B R).1 = putH8 ⟨[], k, c, t, ⟨[], [], [], [], []⟩⟩ B R ++ putL [] 0 2 := by
    show (putD (shN k) ⟨[], [], [], [], []⟩ (putH8 ⟨[], k, c, t, ⟨[], [], [], [], []⟩⟩ B R ++ putL [] 0 2) (nameW true [] B R).2).1 = _
    rw [hsh]
    simp [putD, putM, putH, numsW, textsW]
  rw [hd] at h3
  have hW : W = [] := by
    have := congrArg List.length h3
    simp only [List.length_append] at this
    exact List.eq_nil_of_length_eq_zero (by omega)
  have hkd : kindB k = true := by have h := hs.d; unfold soundD at h; simp only [Bool.and_eq_true] at h; exact h.1
  simp only [kindB, decide_eq_true_eq] at hkd
  have h8 : (putH8 ⟨[], k, c, t, ⟨[], [], [], [], []⟩⟩ B R).length = B.length + 9 := by
    have e : putH8 ⟨[], k, c, t, ⟨[], [], [], [], []⟩⟩ B R = (((B ++ [0]) ++ putL [] k 2) ++ putL [] c 2) ++ putL [] t 4 := by unfold putH8; rw [nameW_nil]
    have h0 := hs.t0
    have h1 := hs.t1
    dsimp only at h0 h1
    have l1 : (putL [] k 2).length = 2 := by rw [putL_digs (fit2_of (by omega) (by omega)), length_digs]; rfl
    have l2 : (putL [] c 2).length = 2 := by rw [putL_digs hs.c, length_digs]; rfl
    have l3 : (putL [] t 4).length = 4 := by rw [putL_digs (fitB_true (by omega) (by omega) h0 (by show t < 4294967296; omega)), length_digs]; rfl
    rw [e]
    simp only [List.length_append, List.length_cons, List.length_nil, l1, l2, l3]
  rw [h2, hW]
  simp only [List.length_append, List.length_nil, length_digs, h8]
theorem many_len {j : Nat} (h : j < 100000) (B : List UInt8) (R : Rs) : (putRR (manyR j) B R).1.length = B.length + 11 :=
  bare_len (soundX_iff.1 (many_sound h)).2 (shN_other (by decide)) B R
theorem many_bytes : ∀ (k : Nat) (s : List UInt8 × Rs), k ≤ 10000 → (putRs (manyL k) s).1.length = s.1.length + 11 * k
  | 0, s, _ => by simp [manyL, putRs]
  | k + 1, s, h => by
    have e : manyL (k + 1) = manyL k ++ [manyR k] := by simp [manyL, List.range_succ]
    rw [e, putRs_snoc, many_len (by omega), many_bytes k s (by omega)]
    omega
def manyH (e : Bool) : Hd := ⟨0, false, 0, false, false, false, false, 0, e, 0⟩
def manyM (k : Nat) (e : Bool) : Mt := ⟨manyH e, [], [], [], manyL k⟩
theorem manyM_no {k : Nat} (h : 512 < k) (e : Bool) : encE (manyM k e) = .error 2 := by
  have hs : soundM (manyM k e) = false := by
    cases h1 : soundM (manyM k e) with
    | false => rfl
    | true =>
      have := (soundM_iff.1 h1).n
      simp [manyM, manyL] at this
      omega
  unfold encE
  rw [if_neg (by rw [hs]; decide)]
theorem manyM_sound {k : Nat} (h : k ≤ 512) (e : Bool) : SoundM (manyM k e) := by
  refine ⟨?_, by simp [manyM, manyL]; exact h, fun q hq => absurd hq (List.not_mem_nil), fun r hr => ?_⟩
  · show soundH (manyH e) = true
    cases e <;> decide +kernel
  · have hr' : r ∈ manyL k := by simpa [Mt.all, manyM] using hr
    obtain ⟨j, hj, rfl⟩ := List.mem_map.1 hr'
    exact many_sound (by have := List.mem_range.1 hj; omega)
theorem manyM_len {k : Nat} (h : k ≤ 512) (e : Bool) : (encM (manyM k e)).length ≤ 60000 := by
  have hs := manyM_sound h e
  obtain ⟨_, _, _, _, h5⟩ := enc_parts hs
  have h12 := length_head hs
  rw [enc_eq]
  have e0 : putRs (manyM k e).au (putRs (manyM k e).an (putQs (manyM k e).qs ((manyM k e).head, []))) = ((manyM k e).head, []) := rfl
  rw [e0]
  have e1 : (manyM k e).exX = manyL k ++ (if e = true then [optR 0] else []) := rfl
  rw [e1, putRs_append]
  have hm := many_bytes k ((manyM k e).head, []) (by omega)
  rw [show ((manyM k e).head, ([] : Rs)).1.length = (manyM k e).head.length from rfl, h12] at hm
  cases e with
  | false =>
    show (putRs (manyL k) ((manyM k false).head, [])).1.length ≤ 60000
    omega
  | true =>
    have ho : SoundR (optR 0) := opt_sound (by decide +kernel)
    have hb : ∀ s : List UInt8 × Rs, (putRs [optR 0] s).1.length = s.1.length + 11 := fun s => bare_len ho (shN_other (by decide)) s.1 s.2
    have hb2 := hb (putRs (manyL k) ((manyM k true).head, []))
    show (putRs [optR 0] (putRs (manyL k) ((manyM k true).head, []))).1.length ≤ 60000
    omega
theorem manyM_ok {k : Nat} (h : k ≤ 512) (e : Bool) : encE (manyM k e) = .ok (encM (manyM k e)) ∧ decM (encM (manyM k e)) = .ok (manyM k e) := by
  have hs := manyM_sound h e
  have hl := manyM_len h e
  refine ⟨?_, ?_⟩
  · unfold encE
    rw [if_pos (soundM_iff.2 hs), if_neg (by omega)]
  · have h1 := dec_enc hs [] (by rw [List.append_nil]; omega)
    rwa [List.append_nil, if_pos rfl] at h1

end Go.Proofs.Ytbmmblkllicanaa

namespace Go.Proofs.Ytbmmblkllicanaa
open Go.RowKit

theorem many_own (w : World) (B k : Nat) : ∀ p ∈ manyP k, OwnR w B p.1 p.2 := fun p hp => by
  obtain ⟨j, _, rfl⟩ := List.mem_map.1 hp
  exact ⟨World.ownsRow_nil _ _ _ _, ⟨World.ownsRow_nil _ _ _ _, World.ownsRow_nil _ _ _ _, World.ownsRow_nil _ _ _ _, World.ownsRow_nil _ _ _ _, World.ownsRow_nil _ _ _ _⟩⟩
theorem many_in {k : Nat} (hk : k ≤ 10000) : ∀ p ∈ manyP k, RIn p.2 ∧ LightR p.2 := fun p hp => by
  obtain ⟨j, hj, rfl⟩ := List.mem_map.1 hp
  have hj2 := List.mem_range.1 hj
  have hw : WideN ([] : List (List UInt8)) := ⟨Nat.zero_le _, fun k hk => absurd hk (Nat.not_lt_zero _)⟩
  exact ⟨⟨hw, by show (Lit.int .i64 99).wf = true; decide, by show (Lit.int .i64 1).wf = true; decide, i64_small (by omega), ⟨hw, hw, Nat.zero_le _⟩, fun k hk => absurd hk (Nat.not_lt_zero _), fun n hn => absurd hn (List.not_mem_nil)⟩, ⟨Nat.zero_le _, Nat.zero_le _, Nat.zero_le _, Nat.zero_le _, Nat.zero_le _, Nat.zero_le _⟩⟩
def ManyRel (w : World) (e : Bool) (k : Nat) (i : Value) (wr : World) : Prop :=
  ∃ j A c, j ≤ k ∧ i = .int .i64 (j : Nat) ∧ RecRow wr (w.heap.size + 1) (.slice A j c) (manyP j) ∧ Whole wr w.heap.size 25 (cellsM (manyH e) (.slice none 0 0) (.slice none 0 0) (.slice none 0 0) (.slice A j c)) ∧ Below w.heap.size w wr

set_option maxRecDepth 20000 in
set_option maxHeartbeats 8000000 in
theorem mmany_any (n : Nat) (e : Bool) (w : World) (hn : n < 256) : Calls Try.prog 7 #[.int .u8 n, .bool e] w (TrueB w) := by
  obtain ⟨i0, hi0, hz0, hz1, hz2⟩ := info_parts rr_info
  obtain ⟨W, hW⟩ : ∃ W, W = w.alloc (.cells #[.int .i64 0, .bool false, .int .i64 0, .bool false, .bool false, .bool false, .bool false, .int .i64 0, .slice none 0 0, .slice none 0 0, .slice none 0 0, .slice none 0 0, .bool e, .int .i64 0] 25) := ⟨_, rfl⟩
  have hB : Below w.heap.size w W := by rw [hW]; exact (Below.refl _ _).alloc (Nat.le_refl _) _
  have hwh : Whole W w.heap.size 25 (cellsM (manyH e) (.slice none 0 0) (.slice none 0 0) (.slice none 0 0) (.slice none 0 0)) := by rw [hW]; exact Whole.made w _ _
  have HB := Lib.hid hB
  have HW := Lib.hid hwh
  obtain ⟨k, hk⟩ : ∃ k : Nat, k = 506 + n % 10 := ⟨_, rfl⟩
  have hk0 : 506 ≤ k := by omega
  have hk1 : k ≤ 515 := by omega
  have hke : (506 : Int) + (n : Int) % 10 = (k : Int) := by omega
  clear hB hwh hk
  subst hW
  go_enter Try.func7, Try.ntmps7
  go_wp2
  clear hke
  go_loopw [7] (ManyRel w e k) (fun i _ => k - (intOf i).toNat)
  case atStart => exact ⟨0, none, 0, Nat.zero_le _, rfl, RecRow.nil _ _, HW.out, HB.out⟩
  case round =>
    obtain ⟨j, A, c, hj, rfl, hr, hw, hb⟩ := hrel
    have HR := Lib.hid hr
    have HWR := Lib.hid hw
    have HBR := Lib.hid hb
    have hgl : w.heap.size < wr.heap.size := Whole.lt hw
    have c11 : wr.cell? ⟨w.heap.size, 11, none⟩ = some (.slice A j c) := Whole.cell hw 11
    have f11 : wr.frozen? ⟨w.heap.size, 11, none⟩ = false := Whole.frozen hw 11
    clear hr hw hb
    by_cases hlt : j < k
    · have hba : Below wr.heap.size wr (wr.alloc (.cells #[.slice none 0 0, .int .i64 99, .int .i64 1, .int .i64 j, .slice none 0 0, .slice none 0 0, .slice none 0 0, .slice none 0 0, .slice none 0 0] 48)) := (Below.refl _ _).alloc (Nat.le_refl _) _
      have HRA := Lib.hid (show RecRow (wr.alloc (.cells #[.slice none 0 0, .int .i64 99, .int .i64 1, .int .i64 j, .slice none 0 0, .slice none 0 0, .slice none 0 0, .slice none 0 0, .slice none 0 0] 48)) (w.heap.size + 1) (.slice A j c) (manyP j) from HR.out.keep fun q _ hq => hba.block q hq)
      have HWA := Lib.hid (Whole.below HWR.out hba hgl)
      have HBA := Lib.hid (HBR.out.trans (hba.mono HBR.out.size))
      have HRO := Lib.hid (Row.made wr #[.slice none 0 0, .int .i64 99, .int .i64 1, .int .i64 j, .slice none 0 0, .slice none 0 0, .slice none 0 0, .slice none 0 0, .slice none 0 0] 48)
      have HQA := Lib.hid (show (wr.alloc (.cells #[.slice none 0 0, .int .i64 99, .int .i64 1, .int .i64 j, .slice none 0 0, .slice none 0 0, .slice none 0 0, .slice none 0 0, .slice none 0 0] 48)).ownsRow (w.heap.size + 1) 48 9 (.slice A j c) j ((manyP j).flatMap cellsR) from by
        have h1 := HRA.out.row
        rwa [length_many] at h1)
      have hbz : w.heap.size + 1 ≤ (wr.alloc (.cells #[.slice none 0 0, .int .i64 99, .int .i64 1, .int .i64 j, .slice none 0 0, .slice none 0 0, .slice none 0 0, .slice none 0 0, .slice none 0 0] 48)).heap.size := by have := hba.size; omega
      clear hba
      go_wp2_with (
        at_builtin
        refine wpList_append_row rfl (.tmp 24) (.tmp 27) _ rfl (w.heap.size + 1) 48 i0 _ 9 168 Try.underlying23 hi0 hz0 hz1 hz2 rfl (by omega) (.slice A j c) j _ rfl HQA.out
          (some ⟨wr.heap.size, 0, none⟩) 1 1 (wr.heap.size + 1) (cellsR (nilV, manyR j)) rfl rfl HRO.out (cellsR_one1 _) (by unfold maxLen; omega) (by omega) hbz ?_
        intro v7 w7 hown7 hg7
        obtain ⟨A7, c7, rfl, _, _⟩ := own_form hown7
        have hgn : (Value.slice A j c).ownBlock ≠ some w.heap.size := own_not_whole HQA.out HWA.out (by decide)
        have hw7 := Whole.grown HWA.out hg7 (Ne.symm hgn)
        have HW7 := Lib.hid hw7
        have c11' : w7.cell? ⟨w.heap.size, 11, none⟩ = some (.slice A j c) := Whole.cell hw7 11
        have f11' : w7.frozen? ⟨w.heap.size, 11, none⟩ = false := Whole.frozen hw7 11
        have HR7 := Lib.hid (show RecRow w7 (w.heap.size + 1) (.slice A7 (j + 1) c7) (manyP (j + 1)) from by
          rw [many_snoc]
          exact RecRow.snoc (v' := .slice A7 (j + 1) c7) HRA.out (many_own _ _ (j + 1) (nilV, manyR j) (by rw [many_snoc]; simp)) (by rw [length_many]; exact hown7) hg7)
        have HB7 := Lib.hid (HBA.out.grown hg7 HBA.out.size fun q hq => by have := (HQA.out.lt q hq).1; omega)
        clear hown7 hg7 hgn hw7)
      have HREL := Lib.hid (show ManyRel w e k (.int .i64 ((j + 1 : Nat) : Int)) (w7.setCell ⟨w.heap.size, 11, none⟩ (.slice A7 (j + 1) c7)) from
        ⟨j + 1, A7, c7, by omega, rfl, HR7.out.keep fun q hq _ => Below.heap_setCell _ ⟨w.heap.size, 11, none⟩ _ q (by show q ≠ w.heap.size; omega), HW7.out.set_ 11 _, HB7.out.setCell (p := ⟨w.heap.size, 11, none⟩) (Nat.le_refl _) _⟩)
      have hrl := HREL.out
      rw [show ((j + 1 : Nat) : Int) = (j : Int) + 1 by omega] at hrl
      exact ⟨hrl, by simp [intOf]; omega⟩
    · obtain rfl : j = k := by omega
      have d0 : wr.cell? ⟨w.heap.size, 0, none⟩ = some (.int .i64 0) := Whole.cell HWR.out 0
      have d1 : wr.cell? ⟨w.heap.size, 1, none⟩ = some (.bool false) := Whole.cell HWR.out 1
      have d2 : wr.cell? ⟨w.heap.size, 2, none⟩ = some (.int .i64 0) := Whole.cell HWR.out 2
      have d3 : wr.cell? ⟨w.heap.size, 3, none⟩ = some (.bool false) := Whole.cell HWR.out 3
      have d4 : wr.cell? ⟨w.heap.size, 4, none⟩ = some (.bool false) := Whole.cell HWR.out 4
      have d5 : wr.cell? ⟨w.heap.size, 5, none⟩ = some (.bool false) := Whole.cell HWR.out 5
      have d6 : wr.cell? ⟨w.heap.size, 6, none⟩ = some (.bool false) := Whole.cell HWR.out 6
      have d7 : wr.cell? ⟨w.heap.size, 7, none⟩ = some (.int .i64 0) := Whole.cell HWR.out 7
      have d8 : wr.cell? ⟨w.heap.size, 8, none⟩ = some (.slice none 0 0) := Whole.cell HWR.out 8
      have d9 : wr.cell? ⟨w.heap.size, 9, none⟩ = some (.slice none 0 0) := Whole.cell HWR.out 9
      have d10 : wr.cell? ⟨w.heap.size, 10, none⟩ = some (.slice none 0 0) := Whole.cell HWR.out 10
      have d12 : wr.cell? ⟨w.heap.size, 12, none⟩ = some (.bool e) := Whole.cell HWR.out 12
      have d13 : wr.cell? ⟨w.heap.size, 13, none⟩ = some (.int .i64 0) := Whole.cell HWR.out 13
      have hmv : MV.val ⟨manyH e, none, 0, [], nilSec, nilSec, ⟨A, c, manyP j⟩⟩ = valM (manyH e) (.slice none 0 0) (.slice none 0 0) (.slice none 0 0) (.slice A j c) := by
        show valM (manyH e) (.slice none 0 0) (.slice none 0 0) (.slice none 0 0) (.slice A (manyP j).length c) = _
        rw [length_many]
      have hsec : ∀ i, ∀ p ∈ (MV.sec ⟨manyH e, none, 0, [], nilSec, nilSec, ⟨A, c, manyP j⟩⟩ i).ps, p ∈ manyP j := fun i p hp => by
        unfold MV.sec at hp
        split at hp
        · exact absurd hp (List.not_mem_nil)
        · split at hp
          · exact absurd hp (List.not_mem_nil)
          · exact hp
      have hEC := encode_any wr ⟨manyH e, none, 0, [], nilSec, nilSec, ⟨A, c, manyP j⟩⟩
        ⟨⟨Row.empty _ _ _, fun _ h => absurd h (List.not_mem_nil)⟩, ⟨Row.empty _ _ _, fun _ h => absurd h (List.not_mem_nil)⟩, ⟨Row.empty _ _ _, fun _ h => absurd h (List.not_mem_nil)⟩, ⟨Row.of_own (show wr.ownsRow (w.heap.size + 1) 48 9 (.slice A (manyP j).length c) (manyP j).length ((manyP j).flatMap cellsR) from by have h1 := HR.out.row; rw [length_many] at h1 ⊢; exact h1), fun p hp => (HR.out.each p hp).at_⟩⟩
        ⟨⟨by show (Lit.int .i64 0).wf = true; decide, by show (Lit.int .i64 0).wf = true; decide, by show (Lit.int .i64 0).wf = true; decide, by show (Lit.int .i64 0).wf = true; decide⟩, fun _ h => absurd h (List.not_mem_nil), fun i p hp => many_in (by omega) p (hsec i p hp), Nat.zero_le _, fun i => by
          unfold MV.sec
          split
          · exact Nat.zero_le _
          · split
            · exact Nat.zero_le _
            · show (manyP j).length ≤ 1000
              rw [length_many]
              omega⟩
        (fun i p hp => ⟨own_mono (HR.out.each p (hsec i p hp)).n (Nat.zero_le _), (HR.out.each p (hsec i p hp)).d.monoB (Nat.zero_le _)⟩) (by
          obtain ⟨A', c', e', h1, h2⟩ := own_form HR.out.row
          injection e' with _ _ e'
          subst e'
          refine ⟨?_, h2⟩
          show (manyP j).length ≤ c
          exact h1)
      rw [hmv, show MV.msg ⟨manyH e, none, 0, [], nilSec, nilSec, ⟨A, c, manyP j⟩⟩ = manyM j e from by show (⟨manyH e, [], [], [], recs (manyP j)⟩ : Mt) = _; rw [recs_many]; rfl] at hEC
      have HEC := Lib.hid hEC
      have HA := Lib.hid (fun W' => manswers_any W')
      clear hEC hmv hsec f11 hlt hj
      by_cases h512 : 512 < j
      · rw [manyM_no h512] at HEC
        have d1' : decide ((512 : Int) < (j : Int)) = true := by rw [decide_eq_true_eq]; omega
        go_wp2_with fail
        refine HEC.out.mono ?_
        rintro e1 w2 ⟨hb2, rfl⟩
        have HB2 := Lib.hid (HBR.out.trans (hb2.mono HBR.out.size))
        clear hb2 HEC d0 d1 d2 d3 d4 d5 d6 d7 d8 d9 d10 d12 d13 c11
        go_wp2_with fail
        refine (HA.out _).mono ?_
        rintro e2 w3 ⟨rfl, hb3⟩
        have HB3 := Lib.hid (HB2.out.trans (hb3.mono HB2.out.size))
        clear hb3
        go_wp2
        go_ret
        exact ⟨rfl, HB3.out⟩
      · have h512' : j ≤ 512 := by omega
        obtain ⟨hok, hdk⟩ := manyM_ok h512' e
        have hlen := manyM_len h512' e
        rw [hok] at HEC
        have d1' : decide ((512 : Int) < (j : Int)) = false := decide_eq_false (by omega)
        have HDK := Lib.hid hdk
        revert HEC HDK hlen
        generalize encM (manyM j e) = bs
        intro HEC hlen HDK
        clear hok hdk
        go_wp2_with fail
        refine HEC.out.mono ?_
        rintro e1 w2 ⟨hb2, A9, c9, rfl, hown9⟩
        have HB2 := Lib.hid (HBR.out.trans (hb2.mono HBR.out.size))
        obtain ⟨A', c', e', hc1, hc2⟩ := own_form hown9
        injection e' with ea _ e'
        subst ea
        subst e'
        have HDE := Lib.hid (decode_any A9 bs.length c9 bs w2 rfl (Row.of_own hown9) hc1 hc2)
        rw [HDK.out] at HDE
        clear hb2 hown9 HEC d0 d1 d2 d3 d4 d5 d6 d7 d8 d9 d10 d12 d13 c11 hlen
        go_wp2_with fail
        refine HDE.out.mono ?_
        rintro e2 w3 ⟨hb3, ⟨h', Aq, cq, qp, ⟨A0, k0, p0⟩, ⟨A1, k1, p1⟩, ⟨A2, k2, p2⟩⟩, rfl, hmx, hown⟩
        have HB3 := Lib.hid (HB2.out.trans (hb3.mono HB2.out.size))
        unfold MV.msg manyM at hmx
        dsimp only at hmx
        injection hmx with hh _ _ _ hx2
        subst hh
        have hl2 : p2.length = j := by rw [← length_recs, hx2]; simp [manyL]
        obtain ⟨j1, hj1⟩ : ∃ j1, j1 = j - 1 := ⟨_, rfl⟩
        have hjj : (j : Int) - 1 = (j1 : Int) := by omega
        have hlt1 : j1 < p2.length := by omega
        have hrow := hown.at_.s2
        obtain ⟨b1, o1, hA2, hbl, _, _, _, _, q3, _⟩ := hrow.at_ hlt1
        have hA2' : A2 = some ⟨b1, o1, none⟩ := hA2
        have hq3 : w3.cell? ⟨b1, o1 + j1 * 9 + 3, none⟩ = some (.int .i64 (p2[j1]).2.ttl) := q3
        have httl : (p2[j1]).2.ttl = (j1 : Int) := by
          have h1 : (recs p2)[j1]? = (manyL j)[j1]? := by rw [hx2]
          rw [recs, List.getElem?_map, List.getElem?_eq_getElem hlt1, manyL, List.getElem?_map, List.getElem?_range (by omega)] at h1
          simp only [Option.map_some, Option.some.injEq] at h1
          rw [h1]
          rfl
        rw [httl] at hq3
        subst hA2'
        have hj1j : j1 < j := by omega
        have hi1 : (j1 : Int) < (j : Int) := by omega
        clear hrow hA2 q3 httl hx2 hb3 hown HDE HDK HB2 hc1 hc2
        go_wp2_with fail
        refine (HA.out _).mono ?_
        rintro e3 w4 ⟨rfl, hb4⟩
        have hb34 : Below w3.heap.size w3 w4 := ((Below.refl _ _).alloc (Nat.le_refl _) _).trans (hb4.mono (by simp))
        have hw4 := Whole.below (Whole.made w3 _ _) hb4 (by simp)
        have x11 : w4.cell? ⟨w3.heap.size, 11, none⟩ = some (.slice (some ⟨b1, o1, none⟩) j k2) := hw4.cell 11
        have x12 : w4.cell? ⟨w3.heap.size, 12, none⟩ = some (.bool e) := hw4.cell 12
        have x3 : w4.cell? ⟨b1, o1 + (j - 1) * 9 + 3, none⟩ = some (.int .i64 ((j : Int) - 1)) := by
          rw [hjj, ← hj1]
          exact (hb34.cell (p := ⟨b1, o1 + j1 * 9 + 3, none⟩) hbl).trans hq3
        have hj01 : (0 : Int) ≤ (j : Int) - 1 := by omega
        have HB4 := Lib.hid (HB3.out.trans (hb34.mono HB3.out.size))
        clear hw4 hb34 hb4 hq3 HA hjj hi1 hj1j
        go_wp2
        go_ret
        exact ⟨rfl, HB4.out⟩
theorem mmany_law (n0 : Int) (e : Bool) (w : World) (h0 : (Lit.int .u8 n0).wf = true) : Calls Try.prog 7 #[.int .u8 n0, .bool e] w (TrueB w) := by
  have k : ∃ m : Nat, n0 = m ∧ m < 256 := by
    have h1 : IntKind.u8.min = 0 := rfl
    have h2 : IntKind.u8.max = 255 := rfl
    simp only [Lit.wf, Bool.and_eq_true, decide_eq_true_eq] at h0
    exact ⟨n0.toNat, by omega, by omega⟩
  obtain ⟨m, rfl, hm⟩ := k
  exact mmany_any m e w hm

end Go.Proofs.Ytbmmblkllicanaa

namespace Go.Proofs.Ytbmmblkllicanaa
open Go.ChangeShapes Go.WideShapes Go.ChangeAt Go.RowKit

set_option maxRecDepth 100000 in
theorem mmany_lifted (os : Os) (started : os.Started) (H : Type) (enc : TypeId × Value → H) :
    ReturnsInHanded {} Try.checked os 7 .any (Rows.msgManySpec.pre6 enc Try.prog Try.f7 Rows.msgManyRow.domain false) (Rows.msgManySpec.post enc Try.prog Try.f7 false true false false) := by
  refine returnsInHanded_of_change_sized (C := Try.checked) Try.own started (by kernel_rfl) Try.func7
    (ChangeSpec.witness6 (enc := enc) (C := Try.checked) false ⟨#[], #[.int .u8 0, .bool false], []⟩ 8 (by kernel_rfl) (by kernel_rfl) (by kernel_rfl) (by kernel_rfl)) ?_
  intro W base args ds gs before hval0 hW _ hsz0 _
  have hsz : (DataW.weightsEach Try.prog (Try.f7.params.toList ++ Rows.msgManySpec.plain.varTypes Try.prog) (ds ++ gs)).all (· ≤ reachBytes) = true := hsz0
  clear hsz0
  have hval : ∀ (j : Nat) t v, Try.f7.params[j]? = some t → args[j]? = some v → Value.okWide Try.prog W .any base t v := hval0
  have hW' := hW
  obtain ⟨p, q, hA0, hV, rfl, _, _⟩ := hW
  have hA : DataW.TrodAll enc Try.prog W 0 (fun _ => true) true Try.f7.params.toList args.toList ds p := hA0
  rw [Try.params7] at hA hval hsz
  obtain ⟨v0, v1, d0, d1, p0, p1, rfl, rfl, rfl, h0, h1⟩ := trodAll_two hA
  obtain ⟨rfl, rfl⟩ := trodVars_none hV
  obtain ⟨n0, rfl, rfl, rfl, w0⟩ := open_int Try.underlying5 (hval 0 5 v0 rfl rfl) h0
  obtain ⟨b1, rfl, rfl, rfl⟩ := open_bool Try.underlying4 (hval 1 4 v1 rfl rfl) h1
  have key : Calls Try.prog 7 #[.int .u8 n0, .bool b1] W (TrueB W) := by
    exact mmany_law n0 b1 W w0
  refine key.mono fun e W' ⟨he, hb⟩ => ?_
  subst he
  exact ⟨_, rfl, law_post (P := Try.prog) (tb := 4) Try.laidOut (by kernel_rfl) (by kernel_rfl) (by kernel_rfl) Try.underlying4 rfl hW' rfl rfl rfl hb⟩

theorem mmany_holds : Rows.MsgManySaid :=
  OpenClaim.holds_of_wide 7 Try.f7 rfl rfl rfl rfl rfl rfl rfl ⟨rfl, rfl, rfl, rfl, rfl⟩ rfl rfl rfl rfl rfl (by kernel_rfl) Try.func7 (by kernel_rfl)
    (of_decide_eq_true (by kernel_rfl)) (by unfold Func.isWrapper; first | (rw [if_pos (by decide +kernel)]; kernel_rfl) | (rw [if_neg (by decide +kernel)]; exact ⟨rfl, rfl⟩))
    (fun os started H enc _ => mmany_lifted os started H enc)

end Go.Proofs.Ytbmmblkllicanaa
