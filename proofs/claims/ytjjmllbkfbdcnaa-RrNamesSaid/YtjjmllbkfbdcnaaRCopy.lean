/-
  The contracts of rr.copyOf and of what it calls.
-/
import Derived.Test.YtjjmllbkfbdcnaaOwnD
namespace Go.Proofs.Ytjjmllbkfbdcnaa
open Go.RowKit

theorem run_enter {P : Program} {f : FuncId} {fn : Func} {c : Code} (hf : P.funcs[f]? = some fn) (hname : (fn.name == "runtime.NumGoroutine") = false) (hb : fn.body = some c) (args : Array Value) (w : World) :
    (callFunc f args).run P w = .ok (.enter f args) w := by
  have h1 : fn.name ≠ "runtime.NumGoroutine" := by simpa using hname
  simp [callFunc, hf, h1, hb]
/-- What 'fresh' leaves: a row of its own. -/
def Fresh (w : World) (t : TypeId) (n : Nat) (xs : List Value) (e : Ending) (w' : World) : Prop := ∃ v, e = .returned v ∧ w'.ownsRow w.heap.size t 1 v n xs ∧ Below w.heap.size w w'

theorem enter_byte (args : Array Value) (w : World) : (callFunc 94 args).run Try.prog w = .ok (.enter 94 args) w := run_enter Try.func94 (by kernel_rfl) rfl args w
set_option maxHeartbeats 400000 in
theorem fresh_byte (A : Option Addr) (m c H : Nat) (xs : List Value) (w : World) (hl : xs.length = m) (hA : Row w H A xs) (h1 : ∀ u ∈ xs, u.oneCell' = true) (hm : m ≤ 1000000) :
    Calls Try.prog 94 #[.slice A m c] w (Fresh w 5 m xs) := by
  obtain ⟨i0, hi0, hz0, hz1, hz2⟩ := info_parts u8_info
  have HA := Lib.hid hA
  have HL := Lib.hid hl
  have H1 := Lib.hid h1
  clear hA hl h1
  go_enter Try.func94, Try.ntmps94
  go_wp2_with (
    at_builtin
    refine wpList_append_row rfl (.const (.slice none 0 0)) (.tmp 3) _ rfl w.heap.size 5 i0 _ 1 1 Try.underlying22 hi0 hz0 hz1 hz2 rfl (by omega) (.slice none 0 0) 0 [] rfl (World.ownsRow_nil _ _ _ _)
      A m c H xs rfl (by rw [HL.out, Nat.mul_one]) HA.out H1.out (by unfold maxLen; omega) (by omega) (Nat.le_refl _) ?_
    intro v2 w2 hown2 hg2
    simp only [Nat.zero_add, List.nil_append] at hown2
    have HO2 := Lib.hid hown2
    have HB2 := Lib.hid (own_below (Below.refl w.heap.size w) (Nat.le_refl _) (Nat.le_refl _) (World.ownsRow_nil w w.heap.size 5 1) hg2)
    clear hown2 hg2)
  go_ret
  exact ⟨_, rfl, HO2.out, HB2.out⟩

theorem enter_string (args : Array Value) (w : World) : (callFunc 76 args).run Try.prog w = .ok (.enter 76 args) w := run_enter Try.func76 (by kernel_rfl) rfl args w
set_option maxHeartbeats 400000 in
theorem fresh_string (A : Option Addr) (m c H : Nat) (xs : List Value) (w : World) (hl : xs.length = m) (hA : Row w H A xs) (h1 : ∀ u ∈ xs, u.oneCell' = true) (hm : m ≤ 1000000) :
    Calls Try.prog 76 #[.slice A m c] w (Fresh w 9 m xs) := by
  obtain ⟨i0, hi0, hz0, hz1, hz2⟩ := info_parts str_info
  have HA := Lib.hid hA
  have HL := Lib.hid hl
  have H1 := Lib.hid h1
  clear hA hl h1
  go_enter Try.func76, Try.ntmps76
  go_wp2_with (
    at_builtin
    refine wpList_append_row rfl (.const (.slice none 0 0)) (.tmp 3) _ rfl w.heap.size 9 i0 _ 1 16 Try.underlying23 hi0 hz0 hz1 hz2 rfl (by omega) (.slice none 0 0) 0 [] rfl (World.ownsRow_nil _ _ _ _)
      A m c H xs rfl (by rw [HL.out, Nat.mul_one]) HA.out H1.out (by unfold maxLen; omega) (by omega) (Nat.le_refl _) ?_
    intro v2 w2 hown2 hg2
    simp only [Nat.zero_add, List.nil_append] at hown2
    have HO2 := Lib.hid hown2
    have HB2 := Lib.hid (own_below (Below.refl w.heap.size w) (Nat.le_refl _) (Nat.le_refl _) (World.ownsRow_nil w w.heap.size 9 1) hg2)
    clear hown2 hg2)
  go_ret
  exact ⟨_, rfl, HO2.out, HB2.out⟩

theorem enter_int (args : Array Value) (w : World) : (callFunc 95 args).run Try.prog w = .ok (.enter 95 args) w := run_enter Try.func95 (by kernel_rfl) rfl args w
set_option maxHeartbeats 400000 in
theorem fresh_int (A : Option Addr) (m c H : Nat) (xs : List Value) (w : World) (hl : xs.length = m) (hA : Row w H A xs) (h1 : ∀ u ∈ xs, u.oneCell' = true) (hm : m ≤ 1000000) :
    Calls Try.prog 95 #[.slice A m c] w (Fresh w 3 m xs) := by
  obtain ⟨i0, hi0, hz0, hz1, hz2⟩ := info_parts zint_info
  have HA := Lib.hid hA
  have HL := Lib.hid hl
  have H1 := Lib.hid h1
  clear hA hl h1
  go_enter Try.func95, Try.ntmps95
  go_wp2_with (
    at_builtin
    refine wpList_append_row rfl (.const (.slice none 0 0)) (.tmp 3) _ rfl w.heap.size 3 i0 _ 1 8 Try.underlying24 hi0 hz0 hz1 hz2 rfl (by omega) (.slice none 0 0) 0 [] rfl (World.ownsRow_nil _ _ _ _)
      A m c H xs rfl (by rw [HL.out, Nat.mul_one]) HA.out H1.out (by unfold maxLen; omega) (by omega) (Nat.le_refl _) ?_
    intro v2 w2 hown2 hg2
    simp only [Nat.zero_add, List.nil_append] at hown2
    have HO2 := Lib.hid hown2
    have HB2 := Lib.hid (own_below (Below.refl w.heap.size w) (Nat.le_refl _) (Nat.le_refl _) (World.ownsRow_nil w w.heap.size 3 1) hg2)
    clear hown2 hg2)
  go_ret
  exact ⟨_, rfl, HO2.out, HB2.out⟩

set_option maxRecDepth 8000 in
theorem step_fresh {a : Act} {w : World} {K : Act → World → Prop} {Q : Exit → Act → World → Prop} (o : Oper) (f : FuncId) (k : Nat) (ty e : TypeId) (n : Nat) (xs : List Value) (v : Value) (ho : o.op = .call { callee := .value (.func f), args := #[.tmp k], argTypes := #[ty] }) (h1 : a.tmps[k]? = some v) (he : (callFunc f #[v]).run Try.prog w = .ok (.enter f #[v]) w)
    (hc : Calls Try.prog f #[v] w (Fresh w e n xs)) (h : ∀ u w', w'.ownsRow w.heap.size e 1 u n xs → Below w.heap.size w w' → K (a.put o.dst u) w') : o.wp Try.prog a w K Q := by
  unfold Oper.wp
  simp [execOp, ho, resolve, invoke, Act.eval, h1, go_sem]
  rw [he]
  refine hc.mono ?_
  rintro _ w' ⟨u, rfl, h2, h3⟩
  exact h u w' h2 h3

/-- What each operation of the region yields. -/
def factC (H B : Nat) (x : DV) (d : Dt) : Nat → Value → World → Prop
  | 0 => fun v _ => v = .pointer (some ⟨H, 0, none⟩)
  | 1 => fun v _ => v = .slice x.Ab d.bytes.length x.cb
  | 2 => fun v w => w.ownsRow B 5 1 v d.bytes.length (d.bytes.map bc)
  | 3 => fun v _ => v = .pointer (some ⟨H, 1, none⟩)
  | 4 => fun v _ => v = .slice x.Ah d.host.length x.ch
  | 5 => fun v w => w.ownsRow B 9 1 v d.host.length (d.host.map sv)
  | 6 => fun v _ => v = .pointer (some ⟨H, 2, none⟩)
  | 7 => fun v _ => v = .slice x.Am d.mail.length x.cm
  | 8 => fun v w => w.ownsRow B 9 1 v d.mail.length (d.mail.map sv)
  | 9 => fun v _ => v = .pointer (some ⟨H, 3, none⟩)
  | 10 => fun v _ => v = .slice x.An d.nums.length x.cn
  | 11 => fun v w => w.ownsRow B 3 1 v d.nums.length (d.nums.map zv)
  | 12 => fun v _ => v = .pointer (some ⟨H, 4, none⟩)
  | 13 => fun v _ => v = .slice x.At d.texts.length x.ct
  | 14 => fun v w => w.ownsRow B 9 1 v d.texts.length (d.texts.map sv)
  | 15 => fun v w => ∃ y : DV, v = y.val d ∧ OwnD w B y d
  | _ => fun _ _ => True
set_option maxRecDepth 8000 in
theorem factC_mono {H B : Nat} {x : DV} {d : Dt} {w w' : World} (hw : ∀ g, g < w.heap.size → w'.heap[g]? = w.heap[g]?) : ∀ j u, j < 16 → factC H B x d j u w → factC H B x d j u w'
  | 0, _, _, h => h
  | 1, _, _, h => h
  | 2, _, _, h => own_keep h fun g e => hw g (World.ownsRow.lt h g e).2
  | 3, _, _, h => h
  | 4, _, _, h => h
  | 5, _, _, h => own_keep h fun g e => hw g (World.ownsRow.lt h g e).2
  | 6, _, _, h => h
  | 7, _, _, h => h
  | 8, _, _, h => own_keep h fun g e => hw g (World.ownsRow.lt h g e).2
  | 9, _, _, h => h
  | 10, _, _, h => h
  | 11, _, _, h => own_keep h fun g e => hw g (World.ownsRow.lt h g e).2
  | 12, _, _, h => h
  | 13, _, _, h => h
  | 14, _, _, h => own_keep h fun g e => hw g (World.ownsRow.lt h g e).2
  | 15, _, _, ⟨y, e, h⟩ => ⟨y, e, h.keep hw⟩
  | n + 16, _, h, _ => absurd h (by omega)

/-- What the call leaves: data of its own. -/
def OwnsC (w : World) (d : Dt) (e : Ending) (w' : World) : Prop := ∃ y : DV, e = .returned (y.val d) ∧ OwnD w' w.heap.size y d ∧ Below w.heap.size w w'

set_option maxRecDepth 8000 in
theorem step_storeC {a : Act} {w : World} {K : Act → World → Prop} {Q : Exit → Act → World → Prop} (o : Oper) (g : Nat) (y : DV) (d : Dt) (u0 u1 u2 u3 u4 : Value) (ho : o.op = .store 26 (.tmp 2) (.tmp 18)) (h2 : a.tmps[2]? = some (.pointer (some ⟨g, 0, none⟩)))
    (hu : a.tmps[18]? = some (y.val d)) (hw : Whole w g 26 [u0, u1, u2, u3, u4])
    (h : K (a.put o.dst undef) (((((w.setCell ⟨g, 0, none⟩ (y.vb d)).setCell ⟨g, 1, none⟩ (y.vh d)).setCell ⟨g, 2, none⟩ (y.vm d)).setCell ⟨g, 3, none⟩ (y.vn d)).setCell ⟨g, 4, none⟩ (y.vt d))) : o.wp Try.prog a w K Q := by
  have q0 : w.cell? ⟨g, 0, none⟩ = some u0 := hw.cell 0
  have q1 : w.cell? ⟨g, 1, none⟩ = some u1 := hw.cell 1
  have q2 : w.cell? ⟨g, 2, none⟩ = some u2 := hw.cell 2
  have q3 : w.cell? ⟨g, 3, none⟩ = some u3 := hw.cell 3
  have q4 : w.cell? ⟨g, 4, none⟩ = some u4 := hw.cell 4
  have z0 : w.frozen? ⟨g, 0, none⟩ = false := hw.frozen 0
  have z1 : w.frozen? ⟨g, 1, none⟩ = false := hw.frozen 1
  have z2 : w.frozen? ⟨g, 2, none⟩ = false := hw.frozen 2
  have z3 : w.frozen? ⟨g, 3, none⟩ = false := hw.frozen 3
  have z4 : w.frozen? ⟨g, 4, none⟩ = false := hw.frozen 4
  unfold Oper.wp
  simp [execOp, ho, go_sem, h2, hu, q0, q1, q2, q3, q4, z0, z1, z2, z3, z4]
  exact h

set_option maxRecDepth 20000 in
set_option maxHeartbeats 1000000 in
theorem copyOf_any (x : DV) (d : Dt) (w : World) (h : DataAt w w.heap.size x d) (hl : FewD d) :
    Calls Try.prog 69 #[x.val d] w (OwnsC w d) := by
  obtain ⟨hnh, hnm, hnt, hnn, hnb⟩ := hl
  go_enter Try.func69, Try.ntmps69
  go_wp2
  rename_i hret
  obtain ⟨W, hW⟩ : ∃ W, W = (w.alloc (.cells #[x.vb d, x.vh d, x.vm d, x.vn d, x.vt d] 26)).alloc (.cells #[.slice none 0 0, .slice none 0 0, .slice none 0 0, .slice none 0 0, .slice none 0 0] 26) := ⟨_, rfl⟩
  rw [← hW]
  have hw0 : Whole W w.heap.size 26 [x.vb d, x.vh d, x.vm d, x.vn d, x.vt d] := by
    rw [hW]
    exact (Whole.made w [x.vb d, x.vh d, x.vm d, x.vn d, x.vt d] _).alloc _
  have hw1 : Whole W (w.heap.size + 1) 26 [.slice none 0 0, .slice none 0 0, .slice none 0 0, .slice none 0 0, .slice none 0 0] := by
    rw [hW]
    have := Whole.made (w.alloc (.cells #[x.vb d, x.vh d, x.vm d, x.vn d, x.vt d] 26)) [.slice none 0 0, .slice none 0 0, .slice none 0 0, .slice none 0 0, .slice none 0 0] 26
    simpa using this
  have hbW : Below w.heap.size w W := by
    rw [hW]
    exact ((Below.refl _ _).alloc (Nat.le_refl _) _).alloc (by simp) _
  have hsW : W.heap.size = w.heap.size + 2 := by rw [hW]; simp
  have hdW : DataAt W w.heap.size x d := h.below hbW
  clear hW
  refine wp_region_facts 3 16 (OwnS W (w.heap.size + 2)) (factC w.heap.size (w.heap.size + 2) x d) (fun _ _ _ _ => True) (by kernel_rfl) rfl (by kernel_rfl) (by kernel_rfl) (by kernel_rfl) (by kernel_rfl) (by simp) (by kernel_rfl)
    ⟨(Below.refl _ W).drew, by simp [hsW]⟩ ?step ?tail
  case step =>
    intro i o hi ho l a v hF hdep K hK
    have hS := hF.S
    have h1 : a.tmps[1]? = some (.pointer (some ⟨w.heap.size, 0, none⟩)) := hF.low 1 (by omega)
    have hcell : ∀ k, v.cell? ⟨w.heap.size, k, none⟩ = [x.vb d, x.vh d, x.vm d, x.vn d, x.vt d][k]? := (hw0.below hS.below (by omega)).cell
    have hdv : DataAt v w.heap.size x d := hdW.below (hS.below.mono (by omega))
    have hK' : ∀ u w', factC w.heap.size (w.heap.size + 2) x d i u w' → Below v.heap.size v w' → K (a.put o.dst u) w' := fun u w' h2 h3 => hK u w' h2 (hS.more h3) (factC_mono fun g hg => h3.block g hg) fun _ _ _ _ => ⟨trivial, trivial⟩
    clear hK
    match i, hi, ho, hK' with
    | 0, _, ho, hK =>
      obtain rfl := Option.some.inj ho
      exact step_field _ 0 w.heap.size (by omega) rfl h1 (hK _ _ rfl (Below.refl _ _))
    | 1, _, ho, hK =>
      obtain rfl := Option.some.inj ho
      obtain ⟨u, hu, hFu⟩ := hF.facts 0 (by omega) (hdep ⟨0, .data⟩ (by simp) rfl)
      obtain rfl : u = .pointer (some ⟨w.heap.size, 0, none⟩) := hFu
      exact step_load _ 22 5 3 ⟨w.heap.size, 0, none⟩ _ rfl Try.underlying22 hu (hcell 0) (hK _ _ rfl (Below.refl _ _))
    | 2, _, ho, hK =>
      obtain rfl := Option.some.inj ho
      obtain ⟨y, hy, hFy⟩ := hF.facts 1 (by omega) (hdep ⟨1, .data⟩ (by simp) rfl)
      obtain rfl : y = .slice x.Ab d.bytes.length x.cb := hFy
      exact step_fresh _ 94 4 22 5 d.bytes.length (d.bytes.map bc) _ rfl hy (enter_byte _ _) (fresh_byte x.Ab d.bytes.length x.cb w.heap.size (d.bytes.map bc) v (by simp) hdv.b (bc_one _) (by omega))
        fun u w' h2 h3 => hK _ _ (own_mono h2 hS.size) h3
    | 3, _, ho, hK =>
      obtain rfl := Option.some.inj ho
      exact step_field _ 1 w.heap.size (by omega) rfl h1 (hK _ _ rfl (Below.refl _ _))
    | 4, _, ho, hK =>
      obtain rfl := Option.some.inj ho
      obtain ⟨u, hu, hFu⟩ := hF.facts 3 (by omega) (hdep ⟨3, .data⟩ (by simp) rfl)
      obtain rfl : u = .pointer (some ⟨w.heap.size, 1, none⟩) := hFu
      exact step_load _ 23 9 6 ⟨w.heap.size, 1, none⟩ _ rfl Try.underlying23 hu (hcell 1) (hK _ _ rfl (Below.refl _ _))
    | 5, _, ho, hK =>
      obtain rfl := Option.some.inj ho
      obtain ⟨y, hy, hFy⟩ := hF.facts 4 (by omega) (hdep ⟨4, .data⟩ (by simp) rfl)
      obtain rfl : y = .slice x.Ah d.host.length x.ch := hFy
      exact step_fresh _ 76 7 23 9 d.host.length (d.host.map sv) _ rfl hy (enter_string _ _) (fresh_string x.Ah d.host.length x.ch w.heap.size (d.host.map sv) v (by simp) hdv.h (sv_one _) (by omega))
        fun u w' h2 h3 => hK _ _ (own_mono h2 hS.size) h3
    | 6, _, ho, hK =>
      obtain rfl := Option.some.inj ho
      exact step_field _ 2 w.heap.size (by omega) rfl h1 (hK _ _ rfl (Below.refl _ _))
    | 7, _, ho, hK =>
      obtain rfl := Option.some.inj ho
      obtain ⟨u, hu, hFu⟩ := hF.facts 6 (by omega) (hdep ⟨6, .data⟩ (by simp) rfl)
      obtain rfl : u = .pointer (some ⟨w.heap.size, 2, none⟩) := hFu
      exact step_load _ 23 9 9 ⟨w.heap.size, 2, none⟩ _ rfl Try.underlying23 hu (hcell 2) (hK _ _ rfl (Below.refl _ _))
    | 8, _, ho, hK =>
      obtain rfl := Option.some.inj ho
      obtain ⟨y, hy, hFy⟩ := hF.facts 7 (by omega) (hdep ⟨7, .data⟩ (by simp) rfl)
      obtain rfl : y = .slice x.Am d.mail.length x.cm := hFy
      exact step_fresh _ 76 10 23 9 d.mail.length (d.mail.map sv) _ rfl hy (enter_string _ _) (fresh_string x.Am d.mail.length x.cm w.heap.size (d.mail.map sv) v (by simp) hdv.m (sv_one _) (by omega))
        fun u w' h2 h3 => hK _ _ (own_mono h2 hS.size) h3
    | 9, _, ho, hK =>
      obtain rfl := Option.some.inj ho
      exact step_field _ 3 w.heap.size (by omega) rfl h1 (hK _ _ rfl (Below.refl _ _))
    | 10, _, ho, hK =>
      obtain rfl := Option.some.inj ho
      obtain ⟨u, hu, hFu⟩ := hF.facts 9 (by omega) (hdep ⟨9, .data⟩ (by simp) rfl)
      obtain rfl : u = .pointer (some ⟨w.heap.size, 3, none⟩) := hFu
      exact step_load _ 24 3 12 ⟨w.heap.size, 3, none⟩ _ rfl Try.underlying24 hu (hcell 3) (hK _ _ rfl (Below.refl _ _))
    | 11, _, ho, hK =>
      obtain rfl := Option.some.inj ho
      obtain ⟨y, hy, hFy⟩ := hF.facts 10 (by omega) (hdep ⟨10, .data⟩ (by simp) rfl)
      obtain rfl : y = .slice x.An d.nums.length x.cn := hFy
      exact step_fresh _ 95 13 24 3 d.nums.length (d.nums.map zv) _ rfl hy (enter_int _ _) (fresh_int x.An d.nums.length x.cn w.heap.size (d.nums.map zv) v (by simp) hdv.n (zv_one _) (by omega))
        fun u w' h2 h3 => hK _ _ (own_mono h2 hS.size) h3
    | 12, _, ho, hK =>
      obtain rfl := Option.some.inj ho
      exact step_field _ 4 w.heap.size (by omega) rfl h1 (hK _ _ rfl (Below.refl _ _))
    | 13, _, ho, hK =>
      obtain rfl := Option.some.inj ho
      obtain ⟨u, hu, hFu⟩ := hF.facts 12 (by omega) (hdep ⟨12, .data⟩ (by simp) rfl)
      obtain rfl : u = .pointer (some ⟨w.heap.size, 4, none⟩) := hFu
      exact step_load _ 23 9 15 ⟨w.heap.size, 4, none⟩ _ rfl Try.underlying23 hu (hcell 4) (hK _ _ rfl (Below.refl _ _))
    | 14, _, ho, hK =>
      obtain rfl := Option.some.inj ho
      obtain ⟨y, hy, hFy⟩ := hF.facts 13 (by omega) (hdep ⟨13, .data⟩ (by simp) rfl)
      obtain rfl : y = .slice x.At d.texts.length x.ct := hFy
      exact step_fresh _ 76 16 23 9 d.texts.length (d.texts.map sv) _ rfl hy (enter_string _ _) (fresh_string x.At d.texts.length x.ct w.heap.size (d.texts.map sv) v (by simp) hdv.t (sv_one _) (by omega))
        fun u w' h2 h3 => hK _ _ (own_mono h2 hS.size) h3
    | 15, _, ho, hK =>
      obtain rfl := Option.some.inj ho
      have hl (j : Nat) (h : (⟨j, .data⟩ : Edge) ∈ #[(⟨2, .data⟩ : Edge), ⟨5, .data⟩, ⟨8, .data⟩, ⟨11, .data⟩, ⟨14, .data⟩]) := hdep ⟨j, .data⟩ h rfl
      obtain ⟨v0, g0, f0⟩ := hF.facts 2 (by omega) (hl 2 (by simp))
      obtain ⟨v1, g1, f1⟩ := hF.facts 5 (by omega) (hl 5 (by simp))
      obtain ⟨v2, g2, f2⟩ := hF.facts 8 (by omega) (hl 8 (by simp))
      obtain ⟨v3, g3, f3⟩ := hF.facts 11 (by omega) (hl 11 (by simp))
      obtain ⟨v4, g4, f4⟩ := hF.facts 14 (by omega) (hl 14 (by simp))
      obtain ⟨A0, c0, rfl, _, _⟩ := own_form f0
      obtain ⟨A1, c1, rfl, _, _⟩ := own_form f1
      obtain ⟨A2, c2, rfl, _, _⟩ := own_form f2
      obtain ⟨A3, c3, rfl, _, _⟩ := own_form f3
      obtain ⟨A4, c4, rfl, _, _⟩ := own_form f4
      have hk := hK (DV.val ⟨A0, A1, A2, A3, A4, c0, c1, c2, c3, c4⟩ d) v ⟨⟨A0, A1, A2, A3, A4, c0, c1, c2, c3, c4⟩, rfl, ⟨f0, f1, f2, f3, f4⟩⟩ (Below.refl _ _)
      unfold Oper.wp
      simp [execOp, go_sem, g0, g1, g2, g3, g4]
      exact hk
    | n + 16, hi, _, _ => exact absurd hi (by omega)
  case tail =>
    intro l a v o ho hF hl
    obtain rfl := Option.some.inj ho
    have hS := hF.S
    have h2 : a.tmps[2]? = some (.pointer (some ⟨w.heap.size + 1, 0, none⟩)) := hF.low 2 (by omega)
    obtain ⟨u, hu, y, rfl, hO⟩ := hF.facts 15 (by omega) (hl 15 (by omega))
    have hw := hw1.below hS.below (by omega)
    refine wpList_plain rfl fun K2 hK2 => step_storeC _ (w.heap.size + 1) y d _ _ _ _ _ rfl h2 hu hw ?_
    refine hK2 _ _ ?_
    obtain ⟨V, hV⟩ : ∃ V, V = ((((v.setCell ⟨w.heap.size + 1, 0, none⟩ (y.vb d)).setCell ⟨w.heap.size + 1, 1, none⟩ (y.vh d)).setCell ⟨w.heap.size + 1, 2, none⟩ (y.vm d)).setCell ⟨w.heap.size + 1, 3, none⟩ (y.vn d)).setCell ⟨w.heap.size + 1, 4, none⟩ (y.vt d) := ⟨_, rfl⟩
    rw [← hV]
    have hw5 : Whole V (w.heap.size + 1) 26 [y.vb d, y.vh d, y.vm d, y.vn d, y.vt d] := by
      rw [hV]
      exact ((((hw.set_ 0 _).set_ 1 _).set_ 2 _).set_ 3 _).set_ 4 _
    have hb5 : Below (w.heap.size + 1) v V := by
      rw [hV]
      have hs (W : World) (i : Nat) (u : Value) : Below (w.heap.size + 1) W (W.setCell ⟨w.heap.size + 1, i, none⟩ u) := (Below.refl _ W).setCell (p := ⟨w.heap.size + 1, i, none⟩) (Nat.le_refl _) u
      exact ((((hs _ 0 _).trans (hs _ 1 _)).trans (hs _ 2 _)).trans (hs _ 3 _)).trans (hs _ 4 _)
    have hf5 : ∀ g, g ≠ w.heap.size + 1 → V.heap[g]? = v.heap[g]? := fun g hg => by
      rw [hV]
      have hs (W : World) (i : Nat) (u : Value) : (W.setCell ⟨w.heap.size + 1, i, none⟩ u).heap[g]? = W.heap[g]? := Below.heap_setCell W ⟨w.heap.size + 1, i, none⟩ u g hg
      rw [hs, hs, hs, hs, hs]
    have hO5 : OwnD V (w.heap.size + 2) y d :=
      ⟨own_keep hO.b fun g e => hf5 g (by have := (hO.b.lt g e).1; omega), own_keep hO.h fun g e => hf5 g (by have := (hO.h.lt g e).1; omega), own_keep hO.m fun g e => hf5 g (by have := (hO.m.lt g e).1; omega), own_keep hO.n fun g e => hf5 g (by have := (hO.n.lt g e).1; omega), own_keep hO.t fun g e => hf5 g (by have := (hO.t.lt g e).1; omega)⟩
    have hO6 : OwnD V w.heap.size y d := ⟨own_mono hO5.b (by omega), own_mono hO5.h (by omega), own_mono hO5.m (by omega), own_mono hO5.n (by omega), own_mono hO5.t (by omega)⟩
    have hB : Below w.heap.size w V := (hbW.trans (hS.below.mono (by omega))).trans (hb5.mono (by omega))
    have q0 : V.cell? ⟨w.heap.size + 1, 0, none⟩ = some (y.vb d) := hw5.cell 0
    have q1 : V.cell? ⟨w.heap.size + 1, 1, none⟩ = some (y.vh d) := hw5.cell 1
    have q2 : V.cell? ⟨w.heap.size + 1, 2, none⟩ = some (y.vm d) := hw5.cell 2
    have q3 : V.cell? ⟨w.heap.size + 1, 3, none⟩ = some (y.vn d) := hw5.cell 3
    have q4 : V.cell? ⟨w.heap.size + 1, 4, none⟩ = some (y.vt d) := hw5.cell 4
    clear hV hw5 hb5 hf5 hO5 hw hw0 hw1 hO
    refine hret _ _ (wp_ret ?_)
    refine ⟨hF.defers, y.val d, ?_, y, rfl, hO6, hB⟩
    clear hF hl
    simp [results, Try.results69, go_sem, Act.put, h2, q0, q1, q2, q3, q4]


end Go.Proofs.Ytjjmllbkfbdcnaa
