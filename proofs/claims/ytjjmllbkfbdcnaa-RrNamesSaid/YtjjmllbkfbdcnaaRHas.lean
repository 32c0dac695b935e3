/-
  The contracts of has, within and Same over data, and of what they call.
-/
import Derived.Test.YtjjmllbkfbdcnaaRecs
namespace Go.Proofs.Ytjjmllbkfbdcnaa
open Go.RowKit

/-- Is data in a list? -/
def hasD (l : List Dt) (d : Dt) : Bool := l.any (fun e => sameD d e)
/-- Is each of a in b? -/
def withinD (a b : List Dt) : Bool := a.all fun x => hasD b x
def sameS (a b : List Dt) : Bool := withinD a b && withinD b a

/-- What 'has' lays for its closure. -/
structure HasBox (w : World) (g f : Nat) (x : DV) (a : Dt) : Prop where
  bg : Whole w g 26 [x.vb a, x.vh a, x.vm a, x.vn a, x.vt a]
  bf : Whole w f 62 [.func (.func 68) #[] #[]]
  d : DataAt w w.heap.size x a
theorem HasBox.below {w w' : World} {g f : Nat} {x : DV} {a : Dt} (h : HasBox w g f x a) (hb : Below w.heap.size w w') : HasBox w' g f x a :=
  ⟨h.bg.below hb h.bg.lt, h.bf.below hb h.bf.lt, (h.d.below hb).mono hb.size⟩

set_option maxHeartbeats 1000000 in
theorem has1_any (w : World) (g f : Nat) (x y : DV) (a b : Dt) (h : HasBox w g f x a) (hy : DataAt w w.heap.size y b) (la : Wide a) (lb : Wide b) :
    Calls Try.prog 90 #[y.val b, .pointer (some ⟨f, 0, none⟩), .pointer (some ⟨g, 0, none⟩)] w (Gave w (.bool (sameD a b))) := by
  obtain ⟨W, hW⟩ : ∃ W, W = w.alloc (.cells #[.slice y.Ab b.bytes.length y.cb, .slice y.Ah b.host.length y.ch, .slice y.Am b.mail.length y.cm, .slice y.An b.nums.length y.cn, .slice y.At b.texts.length y.ct] 26) := ⟨_, rfl⟩
  have hB : Below w.heap.size w W := by rw [hW]; exact (Below.refl _ _).alloc (Nat.le_refl _) _
  have hx := h.below hB
  have hwh : Whole W w.heap.size 26 [y.vb b, y.vh b, y.vm b, y.vn b, y.vt b] := by rw [hW]; exact Whole.made w [y.vb b, y.vh b, y.vm b, y.vn b, y.vt b] _
  have c0 : W.cell? ⟨w.heap.size, 0, none⟩ = some (.slice y.Ab b.bytes.length y.cb) := hwh.cell 0
  have c1 : W.cell? ⟨w.heap.size, 1, none⟩ = some (.slice y.Ah b.host.length y.ch) := hwh.cell 1
  have c2 : W.cell? ⟨w.heap.size, 2, none⟩ = some (.slice y.Am b.mail.length y.cm) := hwh.cell 2
  have c3 : W.cell? ⟨w.heap.size, 3, none⟩ = some (.slice y.An b.nums.length y.cn) := hwh.cell 3
  have c4 : W.cell? ⟨w.heap.size, 4, none⟩ = some (.slice y.At b.texts.length y.ct) := hwh.cell 4
  have d0 : W.cell? ⟨g, 0, none⟩ = some (.slice x.Ab a.bytes.length x.cb) := hx.bg.cell 0
  have d1 : W.cell? ⟨g, 1, none⟩ = some (.slice x.Ah a.host.length x.ch) := hx.bg.cell 1
  have d2 : W.cell? ⟨g, 2, none⟩ = some (.slice x.Am a.mail.length x.cm) := hx.bg.cell 2
  have d3 : W.cell? ⟨g, 3, none⟩ = some (.slice x.An a.nums.length x.cn) := hx.bg.cell 3
  have d4 : W.cell? ⟨g, 4, none⟩ = some (.slice x.At a.texts.length x.ct) := hx.bg.cell 4
  have f0 : W.cell? ⟨f, 0, none⟩ = some (.func (.func 68) #[] #[]) := hx.bf.cell 0
  have HC := Lib.hid (dsame_wide x y a b W hx.d ((hy.below hB).mono hB.size) la lb)
  have HB := Lib.hid hB
  clear hB hx hwh hy la lb h
  subst hW
  go_enter Try.func90, Try.ntmps90
  go_wp2_with fail
  refine HC.out.mono ?_
  rintro e w1 ⟨rfl, hb1⟩
  have HB1 := Lib.hid hb1
  clear hb1
  go_wp2
  go_ret
  exact ⟨rfl, HB.out.trans (HB1.out.mono HB.out.size)⟩

/-- What IndexFunc knows ahead of a round. -/
def IndexRel (w : World) (ps : List (DV × Dt)) (P : Dt → Bool) (i : Value) (wr : World) : Prop :=
  ∃ k : Nat, k ≤ ps.length ∧ i = .int .i64 k ∧ (dats (ps.take k)).any P = false ∧ Below w.heap.size w wr
def IndexOut (w : World) (b : Bool) (e : Ending) (w' : World) : Prop := ∃ i : Int, e = .returned (.int .i64 i) ∧ decide (0 ≤ i) = b ∧ Below w.heap.size w w'
theorem any_snoc {ps : List (DV × Dt)} {k : Nat} (P : Dt → Bool) (hk : k < ps.length) (h : (dats (ps.take k)).any P = false) :
    (P (ps[k]).2 = true → (dats ps).any P = true) ∧ (P (ps[k]).2 = false → (dats (ps.take (k + 1))).any P = false) := by
  constructor
  · intro hp
    rw [List.any_eq_true]
    exact ⟨(ps[k]).2, List.mem_map.2 ⟨ps[k], List.getElem_mem hk, rfl⟩, hp⟩
  · intro hp
    rw [List.take_succ_eq_append_getElem hk, dats_append, List.any_append, h]
    simpa [dats] using hp

set_option maxHeartbeats 2000000 in
theorem index_has (w : World) (g f : Nat) (x : DV) (a : Dt) (A : Option Addr) (c : Nat) (ps : List (DV × Dt)) (h : HasBox w g f x a) (hp : DsAt w w.heap.size A ps) (la : Wide a) (hc : ∀ p ∈ ps, Wide p.2) (hl : ps.length ≤ maxLen) :
    Calls Try.prog 111 #[.slice A ps.length c, .func (.func 90) #[] #[.pointer (some ⟨f, 0, none⟩), .pointer (some ⟨g, 0, none⟩)]] w (IndexOut w ((dats ps).any (fun e => sameD a e))) := by
  unfold maxLen at hl
  have HX := Lib.hid h
  have HP := Lib.hid hp
  have HC := Lib.hid hc
  clear h hp hc
  go_enter Try.func111, Try.ntmps111
  go_wp2
  go_loopw [8] (IndexRel w ps (fun e => sameD a e)) (fun i _ => ps.length - (intOf i).toNat)
  case atStart => exact ⟨0, Nat.zero_le _, rfl, rfl, Below.refl _ _⟩
  case round =>
    obtain ⟨k, hk, rfl, hn, hb⟩ := hrel
    have HN := Lib.hid hn
    have HB := Lib.hid hb
    have hz := hb.size
    clear hn hb
    by_cases hlt : k < ps.length
    · obtain ⟨b, off, rfl, hbH, hd, q0, q1, q2, q3, q4⟩ := (HP.out.below HB.out).at_ hlt
      have HCL := Lib.hid (has1_any wr g f x (ps[k]).1 a (ps[k]).2 (HX.out.below HB.out) (hd.mono HB.out.size) la (HC.out _ (List.getElem_mem hlt)))
      have HI := Lib.hid (any_snoc (fun e => sameD a e) hlt HN.out)
      clear hd
      revert q0 q1 q2 q3 q4 HCL HI
      generalize ps[k] = p
      obtain ⟨y, d⟩ := p
      intro q0 q1 q2 q3 q4 HCL HI
      dsimp only at *
      go_wp2_with fail
      refine HCL.out.mono ?_
      rintro e w1 ⟨rfl, hb1⟩
      have HB1 := Lib.hid (HB.out.trans (hb1.mono hz))
      clear hb1
      cases hv : sameD a d with
      | true =>
        have HT := Lib.hid (HI.out.1 hv)
        clear HI
        go_wp2
        go_ret
        exact ⟨_, rfl, by rw [HT.out]; simp, HB1.out⟩
      | false =>
        have HT := Lib.hid (HI.out.2 hv)
        clear HI
        go_wp2
        exact ⟨⟨k + 1, by omega, by go_num, HT.out, HB1.out⟩, by simp [intOf]; omega⟩
    · obtain rfl : k = ps.length := by omega
      have HF := Lib.hid (show (dats ps).any (fun e => sameD a e) = false by have h := HN.out; rwa [List.take_length] at h)
      go_wp2
      go_ret
      exact ⟨_, rfl, by rw [HF.out]; rfl, HB.out⟩

set_option maxHeartbeats 1000000 in
theorem contains_has (w : World) (g f : Nat) (x : DV) (a : Dt) (A : Option Addr) (c : Nat) (ps : List (DV × Dt)) (h : HasBox w g f x a) (hp : DsAt w w.heap.size A ps) (la : Wide a) (hc : ∀ p ∈ ps, Wide p.2) (hl : ps.length ≤ maxLen) :
    Calls Try.prog 89 #[.slice A ps.length c, .func (.func 90) #[] #[.pointer (some ⟨f, 0, none⟩), .pointer (some ⟨g, 0, none⟩)]] w (Gave w (.bool ((dats ps).any (fun e => sameD a e)))) := by
  have HC := Lib.hid (index_has w g f x a A c ps h hp la hc hl)
  clear h hp hc
  go_enter Try.func89, Try.ntmps89
  go_wp2_with fail
  refine HC.out.mono ?_
  rintro e w1 ⟨i, rfl, hi, hb1⟩
  have HB1 := Lib.hid hb1
  have HI := Lib.hid hi
  clear hb1 hi
  go_wp2
  go_ret
  exact ⟨ret_bool HI.out, HB1.out⟩

set_option maxHeartbeats 1000000 in
theorem has_any (w : World) (x : DV) (a : Dt) (A : Option Addr) (c : Nat) (ps : List (DV × Dt)) (hx : DataAt w w.heap.size x a) (hp : DsAt w w.heap.size A ps) (la : Wide a) (hc : ∀ p ∈ ps, Wide p.2) (hl : ps.length ≤ maxLen) :
    Calls Try.prog 67 #[.slice A ps.length c, x.val a, .func (.func 68) #[] #[]] w (Gave w (.bool (hasD (dats ps) a))) := by
  obtain ⟨W, hW⟩ : ∃ W, W = (w.alloc (.cells #[.slice x.Ab a.bytes.length x.cb, .slice x.Ah a.host.length x.ch, .slice x.Am a.mail.length x.cm, .slice x.An a.nums.length x.cn, .slice x.At a.texts.length x.ct] 26)).alloc (.cells #[.func (.func 68) #[] #[]] 62) := ⟨_, rfl⟩
  have hB : Below w.heap.size w W := by rw [hW]; exact ((Below.refl _ _).alloc (Nat.le_refl _) _).alloc (by simp) _
  have hb : HasBox W w.heap.size (w.heap.size + 1) x a := by
    have hg := (Whole.made w [x.vb a, x.vh a, x.vm a, x.vn a, x.vt a] 26).alloc (.cells #[.func (.func 68) #[] #[]] 62)
    have hf := Whole.made (w.alloc (.cells #[x.vb a, x.vh a, x.vm a, x.vn a, x.vt a] 26)) [.func (.func 68) #[] #[]] 62
    rw [show (w.alloc (.cells #[x.vb a, x.vh a, x.vm a, x.vn a, x.vt a] 26)).heap.size = w.heap.size + 1 by simp] at hf
    refine ⟨?_, ?_, (hx.below hB).mono hB.size⟩
    · rw [hW]; exact hg
    · rw [hW]; exact hf
  have HC := Lib.hid (contains_has W w.heap.size (w.heap.size + 1) x a A c ps hb ((hp.below hB).mono hB.size) la hc hl)
  have HB := Lib.hid hB
  clear hB hb hx hp hc
  subst hW
  go_enter Try.func67, Try.ntmps67
  go_wp2_with fail
  refine HC.out.mono ?_
  rintro e w1 ⟨rfl, hb1⟩
  have HB1 := Lib.hid hb1
  clear hb1
  go_wp2
  go_ret
  exact ⟨rfl, HB.out.trans (HB1.out.mono HB.out.size)⟩

/-- What 'within' lays for its closure. -/
structure WithinBox (w : World) (g f : Nat) (B : Option Addr) (cb : Nat) (bs : List (DV × Dt)) : Prop where
  bg : Whole w g 58 [.slice B bs.length cb]
  bf : Whole w f 62 [.func (.func 68) #[] #[]]
  d : DsAt w w.heap.size B bs
theorem WithinBox.below {w w' : World} {g f : Nat} {B : Option Addr} {cb : Nat} {bs : List (DV × Dt)} (h : WithinBox w g f B cb bs) (hb : Below w.heap.size w w') : WithinBox w' g f B cb bs :=
  ⟨h.bg.below hb h.bg.lt, h.bf.below hb h.bf.lt, (h.d.below hb).mono hb.size⟩

set_option maxHeartbeats 1000000 in
theorem within1_any (w : World) (g f : Nat) (B : Option Addr) (cb : Nat) (bs : List (DV × Dt)) (y : DV) (b : Dt) (h : WithinBox w g f B cb bs) (hy : DataAt w w.heap.size y b) (lb : Wide b) (hc : ∀ p ∈ bs, Wide p.2) (hl : bs.length ≤ maxLen) :
    Calls Try.prog 99 #[y.val b, .pointer (some ⟨g, 0, none⟩), .pointer (some ⟨f, 0, none⟩)] w (Gave w (.bool (!(hasD (dats bs) b)))) := by
  obtain ⟨W, hW⟩ : ∃ W, W = w.alloc (.cells #[.slice y.Ab b.bytes.length y.cb, .slice y.Ah b.host.length y.ch, .slice y.Am b.mail.length y.cm, .slice y.An b.nums.length y.cn, .slice y.At b.texts.length y.ct] 26) := ⟨_, rfl⟩
  have hB : Below w.heap.size w W := by rw [hW]; exact (Below.refl _ _).alloc (Nat.le_refl _) _
  have hx := h.below hB
  have hwh : Whole W w.heap.size 26 [y.vb b, y.vh b, y.vm b, y.vn b, y.vt b] := by rw [hW]; exact Whole.made w [y.vb b, y.vh b, y.vm b, y.vn b, y.vt b] _
  have c0 : W.cell? ⟨w.heap.size, 0, none⟩ = some (.slice y.Ab b.bytes.length y.cb) := hwh.cell 0
  have c1 : W.cell? ⟨w.heap.size, 1, none⟩ = some (.slice y.Ah b.host.length y.ch) := hwh.cell 1
  have c2 : W.cell? ⟨w.heap.size, 2, none⟩ = some (.slice y.Am b.mail.length y.cm) := hwh.cell 2
  have c3 : W.cell? ⟨w.heap.size, 3, none⟩ = some (.slice y.An b.nums.length y.cn) := hwh.cell 3
  have c4 : W.cell? ⟨w.heap.size, 4, none⟩ = some (.slice y.At b.texts.length y.ct) := hwh.cell 4
  have d0 : W.cell? ⟨g, 0, none⟩ = some (.slice B bs.length cb) := hx.bg.cell 0
  have f0 : W.cell? ⟨f, 0, none⟩ = some (.func (.func 68) #[] #[]) := hx.bf.cell 0
  have HC := Lib.hid (has_any W y b B cb bs ((hy.below hB).mono hB.size) hx.d lb hc hl)
  have HB := Lib.hid hB
  clear hB hx hwh hy lb h hc
  subst hW
  go_enter Try.func99, Try.ntmps99
  go_wp2_with fail
  refine HC.out.mono ?_
  rintro e w1 ⟨rfl, hb1⟩
  have HB1 := Lib.hid hb1
  clear hb1
  go_wp2
  go_ret
  exact ⟨rfl, HB.out.trans (HB1.out.mono HB.out.size)⟩

set_option maxHeartbeats 2000000 in
theorem index_within (w : World) (g f : Nat) (B : Option Addr) (cb : Nat) (bs : List (DV × Dt)) (A : Option Addr) (c : Nat) (ps : List (DV × Dt)) (h : WithinBox w g f B cb bs) (hp : DsAt w w.heap.size A ps) (la : ∀ p ∈ bs, Wide p.2) (hl' : bs.length ≤ maxLen) (hc : ∀ p ∈ ps, Wide p.2) (hl : ps.length ≤ maxLen) :
    Calls Try.prog 111 #[.slice A ps.length c, .func (.func 99) #[] #[.pointer (some ⟨g, 0, none⟩), .pointer (some ⟨f, 0, none⟩)]] w (IndexOut w ((dats ps).any (fun e => !(hasD (dats bs) e)))) := by
  unfold maxLen at hl
  have HX := Lib.hid h
  have HP := Lib.hid hp
  have HC := Lib.hid hc
  clear h hp hc
  go_enter Try.func111, Try.ntmps111
  go_wp2
  go_loopw [8] (IndexRel w ps (fun e => !(hasD (dats bs) e))) (fun i _ => ps.length - (intOf i).toNat)
  case atStart => exact ⟨0, Nat.zero_le _, rfl, rfl, Below.refl _ _⟩
  case round =>
    obtain ⟨k, hk, rfl, hn, hb⟩ := hrel
    have HN := Lib.hid hn
    have HB := Lib.hid hb
    have hz := hb.size
    clear hn hb
    by_cases hlt : k < ps.length
    · obtain ⟨b, off, rfl, hbH, hd, q0, q1, q2, q3, q4⟩ := (HP.out.below HB.out).at_ hlt
      have HCL := Lib.hid (within1_any wr g f B cb bs (ps[k]).1 (ps[k]).2 (HX.out.below HB.out) (hd.mono HB.out.size) (HC.out _ (List.getElem_mem hlt)) la hl')
      have HI := Lib.hid (any_snoc (fun e => !(hasD (dats bs) e)) hlt HN.out)
      clear hd
      revert q0 q1 q2 q3 q4 HCL HI
      generalize ps[k] = p
      obtain ⟨y, d⟩ := p
      intro q0 q1 q2 q3 q4 HCL HI
      dsimp only at *
      go_wp2_with fail
      refine HCL.out.mono ?_
      rintro e w1 ⟨rfl, hb1⟩
      have HB1 := Lib.hid (HB.out.trans (hb1.mono hz))
      clear hb1
      cases hv : !(hasD (dats bs) d) with
      | true =>
        have HT := Lib.hid (HI.out.1 hv)
        clear HI
        go_wp2
        go_ret
        exact ⟨_, rfl, by rw [HT.out]; simp, HB1.out⟩
      | false =>
        have HT := Lib.hid (HI.out.2 hv)
        clear HI
        go_wp2
        exact ⟨⟨k + 1, by omega, by go_num, HT.out, HB1.out⟩, by simp [intOf]; omega⟩
    · obtain rfl : k = ps.length := by omega
      have HF := Lib.hid (show (dats ps).any (fun e => !(hasD (dats bs) e)) = false by have h := HN.out; rwa [List.take_length] at h)
      go_wp2
      go_ret
      exact ⟨_, rfl, by rw [HF.out]; rfl, HB.out⟩

set_option maxHeartbeats 1000000 in
theorem contains_within (w : World) (g f : Nat) (B : Option Addr) (cb : Nat) (bs : List (DV × Dt)) (A : Option Addr) (c : Nat) (ps : List (DV × Dt)) (h : WithinBox w g f B cb bs) (hp : DsAt w w.heap.size A ps) (la : ∀ p ∈ bs, Wide p.2) (hl' : bs.length ≤ maxLen) (hc : ∀ p ∈ ps, Wide p.2) (hl : ps.length ≤ maxLen) :
    Calls Try.prog 89 #[.slice A ps.length c, .func (.func 99) #[] #[.pointer (some ⟨g, 0, none⟩), .pointer (some ⟨f, 0, none⟩)]] w (Gave w (.bool ((dats ps).any (fun e => !(hasD (dats bs) e))))) := by
  have HC := Lib.hid (index_within w g f B cb bs A c ps h hp la hl' hc hl)
  clear h hp hc
  go_enter Try.func89, Try.ntmps89
  go_wp2_with fail
  refine HC.out.mono ?_
  rintro e w1 ⟨i, rfl, hi, hb1⟩
  have HB1 := Lib.hid hb1
  have HI := Lib.hid hi
  clear hb1 hi
  go_wp2
  go_ret
  exact ⟨ret_bool HI.out, HB1.out⟩

set_option maxHeartbeats 1000000 in
theorem within_any (w : World) (A : Option Addr) (c : Nat) (ps : List (DV × Dt)) (B : Option Addr) (cb : Nat) (bs : List (DV × Dt)) (hp : DsAt w w.heap.size A ps) (hb : DsAt w w.heap.size B bs) (hc : ∀ p ∈ ps, Wide p.2) (la : ∀ p ∈ bs, Wide p.2) (hl : ps.length ≤ maxLen) (hl' : bs.length ≤ maxLen) :
    Calls Try.prog 73 #[.slice A ps.length c, .slice B bs.length cb, .func (.func 68) #[] #[]] w (Gave w (.bool (withinD (dats ps) (dats bs)))) := by
  obtain ⟨W, hW⟩ : ∃ W, W = (w.alloc (.cells #[.slice B bs.length cb] 58)).alloc (.cells #[.func (.func 68) #[] #[]] 62) := ⟨_, rfl⟩
  have hB : Below w.heap.size w W := by rw [hW]; exact ((Below.refl _ _).alloc (Nat.le_refl _) _).alloc (by simp) _
  have hbx : WithinBox W w.heap.size (w.heap.size + 1) B cb bs := by
    have hg := (Whole.made w [.slice B bs.length cb] 58).alloc (.cells #[.func (.func 68) #[] #[]] 62)
    have hf := Whole.made (w.alloc (.cells #[.slice B bs.length cb] 58)) [.func (.func 68) #[] #[]] 62
    rw [show (w.alloc (.cells #[.slice B bs.length cb] 58)).heap.size = w.heap.size + 1 by simp] at hf
    refine ⟨?_, ?_, (hb.below hB).mono hB.size⟩
    · rw [hW]; exact hg
    · rw [hW]; exact hf
  have HC := Lib.hid (contains_within W w.heap.size (w.heap.size + 1) B cb bs A c ps hbx ((hp.below hB).mono hB.size) la hl' hc hl)
  have HB := Lib.hid hB
  have HS := Lib.hid (show withinD (dats ps) (dats bs) = !((dats ps).any fun e => !(hasD (dats bs) e)) by unfold withinD; rw [List.not_any_eq_all_not]; simp)
  clear hB hb hp hc hbx la
  subst hW
  go_enter Try.func73, Try.ntmps73
  go_wp2_with fail
  refine HC.out.mono ?_
  rintro e w1 ⟨rfl, hb1⟩
  have HB1 := Lib.hid hb1
  clear hb1
  go_wp2
  go_ret
  exact ⟨ret_bool HS.out.symm, HB.out.trans (HB1.out.mono HB.out.size)⟩

set_option maxHeartbeats 1000000 in
theorem sameSet_any (w : World) (A : Option Addr) (c : Nat) (ps : List (DV × Dt)) (B : Option Addr) (cb : Nat) (bs : List (DV × Dt)) (hp : DsAt w w.heap.size A ps) (hb : DsAt w w.heap.size B bs) (hc : ∀ p ∈ ps, Wide p.2) (la : ∀ p ∈ bs, Wide p.2) (hl : ps.length ≤ maxLen) (hl' : bs.length ≤ maxLen) :
    Calls Try.prog 36 #[.slice A ps.length c, .slice B bs.length cb] w (Gave w (.bool (sameS (dats ps) (dats bs)))) := by
  have HC := Lib.hid (within_any w A c ps B cb bs hp hb hc la hl hl')
  have HD := Lib.hid (fun W (h : Below w.heap.size w W) => within_any W B cb bs A c ps ((hb.below h).mono h.size) ((hp.below h).mono h.size) la hc hl' hl)
  have HS := Lib.hid (show sameS (dats ps) (dats bs) = (withinD (dats ps) (dats bs) && withinD (dats bs) (dats ps)) from rfl)
  clear hb hp hc la
  go_enter Try.func36, Try.ntmps36
  go_wp2_with fail
  refine HC.out.mono ?_
  rintro e w1 ⟨rfl, hb1⟩
  have HB1 := Lib.hid hb1
  clear hb1
  cases hv : withinD (dats ps) (dats bs) with
  | false =>
    rw [hv] at HS
    go_wp2
    go_ret
    exact ⟨by rw [HS.out]; rfl, HB1.out⟩
  | true =>
    rw [hv] at HS
    go_wp2_with fail
    refine (HD.out w1 HB1.out).mono ?_
    rintro e w2 ⟨rfl, hb2⟩
    have HB2 := Lib.hid (HB1.out.trans (hb2.mono HB1.out.size))
    clear hb2
    go_wp2
    go_ret
    exact ⟨by rw [HS.out]; simp, HB2.out⟩

end Go.Proofs.Ytjjmllbkfbdcnaa
