/-
  Data as it lies in memory: five slices.
-/
import Derived.Test.YtjjmllbkfbdcnaaExact
import Derived.Test.YtjjmllbkfbdcnaaFrame
namespace Go.Proofs.Ytjjmllbkfbdcnaa
open Go.RowKit

/-- What a record says. -/
structure Dt where
  bytes : List UInt8
  host : List (List UInt8)
  mail : List (List UInt8)
  nums : List Int
  texts : List (List UInt8)
/-- Where its slices lie, and what room they have. -/
structure DV where
  Ab : Option Addr
  Ah : Option Addr
  Am : Option Addr
  An : Option Addr
  At : Option Addr
  cb : Nat
  ch : Nat
  cm : Nat
  cn : Nat
  ct : Nat
/-- A number as a cell. -/
def zv (n : Int) : Value := .int .i64 n
theorem zv_one (l : List Int) : ∀ u ∈ l.map zv, u.oneCell' = true := by
  intro u hu
  obtain ⟨x, _, rfl⟩ := List.mem_map.1 hu
  rfl
theorem zint_info : (Try.prog.info? 3).map (fun i => (i.zero, i.size, i.bytes)) = some (some (.int .i64 0), 1, 8) := by kernel_rfl

abbrev DV.vb (x : DV) (d : Dt) : Value := .slice x.Ab d.bytes.length x.cb
abbrev DV.vh (x : DV) (d : Dt) : Value := .slice x.Ah d.host.length x.ch
abbrev DV.vm (x : DV) (d : Dt) : Value := .slice x.Am d.mail.length x.cm
abbrev DV.vn (x : DV) (d : Dt) : Value := .slice x.An d.nums.length x.cn
abbrev DV.vt (x : DV) (d : Dt) : Value := .slice x.At d.texts.length x.ct
/-- The value. -/
abbrev DV.val (x : DV) (d : Dt) : Value := .agg #[.slice x.Ab d.bytes.length x.cb, .slice x.Ah d.host.length x.ch, .slice x.Am d.mail.length x.cm, .slice x.An d.nums.length x.cn, .slice x.At d.texts.length x.ct]

/-- In the world w the slices x read as d, below H. -/
structure DataAt (w : World) (H : Nat) (x : DV) (d : Dt) : Prop where
  b : Row w H x.Ab (d.bytes.map bc)
  h : Row w H x.Ah (d.host.map sv)
  m : Row w H x.Am (d.mail.map sv)
  n : Row w H x.An (d.nums.map zv)
  t : Row w H x.At (d.texts.map sv)
  lb : d.bytes.length ≤ x.cb
  lh : d.host.length ≤ x.ch
  lm : d.mail.length ≤ x.cm
  ln : d.nums.length ≤ x.cn
  lt : d.texts.length ≤ x.ct
  kb : x.cb ≤ maxLen
  kn : x.cn ≤ maxLen

/-- Data that is not too large. -/
def lightD (d : Dt) : Bool := d.host.all (fun l => decide (l.length ≤ 300)) && d.mail.all (fun l => decide (l.length ≤ 300)) && d.texts.all (fun l => decide (l.length ≤ 600)) &&
  decide (d.host.length ≤ 300) && decide (d.mail.length ≤ 300) && decide (d.texts.length ≤ 200) && decide (d.nums.length ≤ 200) && decide (d.bytes.length ≤ 70000)
structure LightD (d : Dt) : Prop where
  h : ∀ l ∈ d.host, l.length ≤ 300
  m : ∀ l ∈ d.mail, l.length ≤ 300
  t : ∀ l ∈ d.texts, l.length ≤ 600
  nh : d.host.length ≤ 300
  nm : d.mail.length ≤ 300
  nt : d.texts.length ≤ 200
  nn : d.nums.length ≤ 200
  nb : d.bytes.length ≤ 70000
theorem lightD_iff (d : Dt) : lightD d = true ↔ LightD d := by
  unfold lightD
  simp only [Bool.and_eq_true, List.all_eq_true, decide_eq_true_eq]
  constructor
  · rintro ⟨⟨⟨⟨⟨⟨⟨h1, h2⟩, h3⟩, h4⟩, h5⟩, h6⟩, h7⟩, h8⟩
    exact ⟨h1, h2, h3, h4, h5, h6, h7, h8⟩
  · rintro ⟨h1, h2, h3, h4, h5, h6, h7, h8⟩
    exact ⟨⟨⟨⟨⟨⟨⟨h1, h2⟩, h3⟩, h4⟩, h5⟩, h6⟩, h7⟩, h8⟩

section
variable {w w' : World} {H H' : Nat} {x : DV} {d : Dt}
theorem DataAt.below (h : DataAt w H x d) (hb : Below H w w') : DataAt w' H x d :=
  ⟨h.b.below hb, h.h.below hb, h.m.below hb, h.n.below hb, h.t.below hb, h.lb, h.lh, h.lm, h.ln, h.lt, h.kb, h.kn⟩
theorem DataAt.mono (h : DataAt w H x d) (hb : H ≤ H') : DataAt w H' x d :=
  ⟨h.b.mono hb, h.h.mono hb, h.m.mono hb, h.n.mono hb, h.t.mono hb, h.lb, h.lh, h.lm, h.ln, h.lt, h.kb, h.kn⟩
theorem DataAt.keep (h : DataAt w H x d) (hk : ∀ p : Addr, p.block < H → w'.cell? p = w.cell? p) : DataAt w' H x d :=
  ⟨h.b.keep hk, h.h.keep hk, h.m.keep hk, h.n.keep hk, h.t.keep hk, h.lb, h.lh, h.lm, h.ln, h.lt, h.kb, h.kn⟩
theorem DataAt.alloc (h : DataAt w H x d) (hH : H ≤ w.heap.size) (o : Obj) : DataAt (w.alloc o) H x d := h.keep fun p hp => World.cell?_alloc_lt w o p (by omega)
theorem DataAt.drewN (h : DataAt w H x d) (k : Nat) : DataAt (w.drewN k) H x d := h.keep fun _ _ => rfl
end

/-- The slices are the call's own. -/
structure OwnD (w : World) (B : Nat) (x : DV) (d : Dt) : Prop where
  b : w.ownsRow B 5 1 (x.vb d) d.bytes.length (d.bytes.map bc)
  h : w.ownsRow B 9 1 (x.vh d) d.host.length (d.host.map sv)
  m : w.ownsRow B 9 1 (x.vm d) d.mail.length (d.mail.map sv)
  n : w.ownsRow B 3 1 (x.vn d) d.nums.length (d.nums.map zv)
  t : w.ownsRow B 9 1 (x.vt d) d.texts.length (d.texts.map sv)
theorem own_capZ {w : World} {base : Nat} {t : TypeId} {A : Option Addr} {n c : Nat} {xs : List Value} {size : Nat} (h : w.ownsRow base t size (.slice A n c) n xs) : c ≤ maxLen := by
  obtain ⟨A', c', e, _, h2⟩ := own_form h
  injection e with _ _ e
  omega
theorem OwnD.at_ {w : World} {B : Nat} {x : DV} {d : Dt} (h : OwnD w B x d) : DataAt w w.heap.size x d :=
  ⟨Row.of_own h.b, Row.of_own h.h, Row.of_own h.m, Row.of_own h.n, Row.of_own h.t, own_cap h.b, own_cap h.h, own_cap h.m, own_cap h.n, own_cap h.t, own_capZ h.b, own_capZ h.n⟩
theorem OwnD.keep {w w' : World} {B : Nat} {x : DV} {d : Dt} (h : OwnD w B x d) (hk : ∀ g, g < w.heap.size → w'.heap[g]? = w.heap[g]?) : OwnD w' B x d :=
  ⟨own_keep h.b fun g e => hk g (h.b.lt g e).2, own_keep h.h fun g e => hk g (h.h.lt g e).2, own_keep h.m fun g e => hk g (h.m.lt g e).2, own_keep h.n fun g e => hk g (h.n.lt g e).2, own_keep h.t fun g e => hk g (h.t.lt g e).2⟩

/-- Slices whose elements lie in other blocks. -/
def Apart (u v : Value) : Prop := ∀ g k n m c c', u = .slice (some ⟨g, 0, none⟩) n c → v = .slice (some ⟨k, 0, none⟩) m c' → 0 < n → 0 < m → g ≠ k

/-- append onto '[]T{}': whatever was there stays. -/
theorem append_zero_run {P : Program} (w : World) (B : Nat) (t ty e : TypeId) (i : TypeInfo) (z : Value) (bytes : Nat) (ht : P.underlying t = some (.slice e)) (hi : P.info? e = some i) (hz : i.zero = some z)
    (hsize : i.size = 1) (hby : i.bytes = bytes) (hzs : z.cells.size = 1) (g : Nat) (hg : B ≤ g) (hh : w.heap[g]? = some (.cells #[] e (0, 0)))
    (A : Option Addr) (m c H : Nat) (news : List Value) (hl : news.length = m) (hr : Row w H A news) (h1 : ∀ u ∈ news, u.oneCell' = true) (h63 : m ≤ maxLen) (hbytes : m * bytes ≤ 140737488355328) (hB : B ≤ w.heap.size) :
    ∃ v' w', (Builtin.append_ #[t, t] ty #[.slice (some ⟨g, 0, none⟩) 0 0, .slice A m c]).run P w = .ok v' w' ∧ w'.ownsRow B e 1 v' m news ∧ Below w.heap.size w w' ∧
      (0 < m → v'.ownBlock = some w.heap.size) := by
  have hgs : g < w.heap.size := by
    rcases Nat.lt_or_ge g w.heap.size with h | h
    · exact h
    · rw [Array.getElem?_eq_none h] at hh; cases hh
  have hown : w.ownsRow B e 1 (.slice (some ⟨g, 0, none⟩) 0 0) 0 [] := ⟨rfl, .inr ⟨g, 0, #[], rfl, hg, hh, Nat.le_refl _, Nat.zero_le _, rfl, rfl⟩⟩
  rcases Nat.eq_zero_or_pos m with rfl | hm
  · have hn : news = [] := List.eq_nil_of_length_eq_zero hl
    subst hn
    refine ⟨.slice (some ⟨g, 0, none⟩) 0 0, w, ?_, hown, Below.refl _ _, fun h => absurd h (Nat.lt_irrefl _)⟩
    rcases A with _ | a
    · exact append_nil_run (P := P) w B t ty e i 1 ht hi _ 0 [] hown c
    · simp [Builtin.append_, run_underlying ht, sizeOf, typeInfo, hi, Builtin.lenOf, Builtin.firstCells, loadCells, loadCellsFrom, storeCells]
  · obtain ⟨b, off, rfl, _, hc⟩ := hr (fun e => by rw [e] at hl; simp at hl; omega)
    have hr2 := run_append_grow (P := P) w t ty e i z ht hi hz ⟨g, 0, none⟩ 0 0 [] (by simp) (fun j u h => by simp at h) ⟨b, off, none⟩ m c news (by rw [hsize, Nat.mul_one]; exact hl) (fun j u hu => by rw [addr_add]; exact hc j u hu) (by omega)
      (by unfold maxLen at h63; omega) (growslice_fits (by omega) (by rw [Nat.zero_add, hby]; exact hbytes))
    refine ⟨_, _, hr2, ⟨by rw [hl, Nat.mul_one], .inr ⟨w.heap.size, _, _, by rw [Nat.zero_add], hB, heap_alloc_new w.drew _, ?_, ?_, ?_, ?_⟩⟩, ((Below.refl _ w).drew).alloc (Nat.le_refl _) _, fun _ => rfl⟩
    · exact grownCap_ge w m 0 e
    · exact grownCap_le_maxLen w m 0 e h63
    · have hge := grownCap_ge w m 0 e
      simp only [Array.size_append, List.size_toArray, size_zeroCells, hzs, hl, List.length_nil, Nat.zero_add, Nat.mul_one]
      omega
    · simp only [Array.toList_append, List.nil_append]
      rw [Nat.mul_one, ← hl]
      exact List.take_left

end Go.Proofs.Ytjjmllbkfbdcnaa
