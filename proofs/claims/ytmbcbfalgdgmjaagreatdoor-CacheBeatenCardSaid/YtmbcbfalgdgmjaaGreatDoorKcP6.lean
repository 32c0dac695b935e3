/-
  The contract of the program's Sound of facts.
-/
import Derived.Test.YtmbcbfalgdgmjaaGreatDoorKcP5
import Derived.Test.YtmbcbfalgdgmjaaGreatDoorKcP4
import Derived.Test.YtmbcbfalgdgmjaaGreatDoorKcP3
import Derived.Test.YtmbcbfalgdgmjaaGreatDoorKcP1
import Derived.Test.YtmbcbfalgdgmjaaGreatDoorProg
import Derived.Test.YtmbcbfalgdgmjaaGreatDoorKcP2
import Derived.Deep.QuietTactic
import Derived.BigQuiet
import Derived.Deep.RegionLaw
import Derived.Deep.AppendLies
import Derived.Deep.RegionHeld3
import Derived.BigRegion
import Derived.Deep.LoopGhost
import Derived.Recover
import Derived.Defers
import Derived.Laws.Pointers
namespace Go.Proofs.YtmbcbfalgdgmjaaGreatDoor
open Go.RowKit

def emptyV : DV := ⟨none, none, none, none, none, 0, 0, 0, 0, 0⟩
def emptyT : Dt := ⟨[], [], [], [], []⟩
theorem fnil_at (w : World) (H : Nat) : DataAt w H emptyV emptyT := ⟨Row.empty _ _ _, Row.empty _ _ _, Row.empty _ _ _, Row.empty _ _ _, Row.empty _ _ _, Nat.le_refl _, Nat.le_refl _, Nat.le_refl _, Nat.le_refl _, Nat.le_refl _, Nat.zero_le _, Nat.zero_le _⟩
theorem fnil_wide : Wide emptyT := ⟨⟨Nat.zero_le _, fun _ h => absurd h (Nat.not_lt_zero _)⟩, ⟨Nat.zero_le _, fun _ h => absurd h (Nat.not_lt_zero _)⟩, Nat.zero_le _⟩
theorem eqN_nil (n : List (List UInt8)) : eqN n [] = decide (n.length = 0) := by
  unfold eqN lowN
  rw [decide_eq_decide]
  simp
theorem flen_nil {α : Type} [DecidableEq α] (l : List α) : decide (l = []) = decide (l.length = 0) := by rw [decide_eq_decide]; exact List.length_eq_zero_iff.symm
theorem same_nil (d : Dt) : sameD d emptyT = emptyD d := by
  show (decide (d.bytes = []) && (decide (d.nums = []) && (decide (d.texts = []) && (eqN d.host [] && eqN d.mail [])))) = _
  unfold emptyD
  rw [eqN_nil, eqN_nil, flen_nil, flen_nil, flen_nil, Bool.eq_iff_iff]
  simp only [Bool.and_eq_true]
  constructor
  · exact fun ⟨a, b, c, d, e⟩ => ⟨a, d, e, b, c⟩
  · exact fun ⟨a, d, e, b, c⟩ => ⟨a, b, c, d, e⟩
theorem fitT_has (t : Int) : fitT t false = (decide (0 ≤ t) && decide (t ≤ 604800)) := by
  unfold fitT clampI
  rw [Bool.eq_iff_iff]
  simp only [Bool.and_eq_true, decide_eq_true_eq, beq_iff_eq]
  split
  · omega
  · rw [if_neg (by rintro ⟨h, _⟩; cases h)]
    split <;> omega
theorem fitT_no (t : Int) : fitT t true = (decide (0 ≤ t) && decide (t ≤ 10800)) := by
  unfold fitT clampI
  rw [Bool.eq_iff_iff]
  simp only [Bool.and_eq_true, decide_eq_true_eq, beq_iff_eq]
  split
  · omega
  · split
    · omega
    · rename_i h
      have h2 : ¬ 10800 < t := fun hh => h ⟨trivial, hh⟩
      split <;> omega

/-- What soundNot answers. -/
def notB (f : Fc) : Bool := fitT f.h.ttl true && (decide (f.set.length = 0) && (soundN f.zone && (underN f.name f.zone && soundD 6 f.soa)))
def headR (n : List (List UInt8)) (h : Fh) : Bool := soundN n && (decide (1 ≤ h.rank) && (decide (h.rank ≤ 4) && timeB h.got))
def hasR (f : Fc) : Bool := typedB f.h.typ && (fitT f.h.ttl false && (setKB f.h.typ f.set && (decide (f.zone.length = 0) && sameD f.soa emptyT)))
theorem soundF_headR {f : Fc} (h : headR f.name f.h = false) : soundF f = false := by
  apply soundF_head
  cases hh : headB f.name f.h with
  | false => rfl
  | true =>
    obtain ⟨a1, a2, a3, a4, _⟩ := headB_parts hh
    unfold headR at h
    rw [a1, decide_eq_true a2, decide_eq_true a3, a4] at h
    cases h
theorem headB_of {n : List (List UInt8)} {h : Fh} (hh : headR n h = true) : headB n h = (decide (0 ≤ h.ttl) && decide (h.ttl ≤ 604800)) := by
  unfold headR at hh
  simp only [Bool.and_eq_true] at hh
  obtain ⟨a1, a2, a3, a4⟩ := hh
  unfold headB
  rw [a1, a2, a3, a4]
  rfl
theorem soundF_hasR {f : Fc} (h : headR f.name f.h = true) (k : f.h.knd = 1) : soundF f = hasR f := by
  unfold soundF hasR hasB setKB
  rw [if_pos k, headB_of h, fitT_has, same_nil, Bool.eq_iff_iff]
  simp only [Bool.and_eq_true]
  constructor
  · exact fun ⟨a, b, c, d, e, f, g⟩ => ⟨b, a, ⟨c, d, g⟩, e, f⟩
  · exact fun ⟨b, a, ⟨c, d, g⟩, e, f⟩ => ⟨a, b, c, d, e, f, g⟩
theorem soundF_noR2 {f : Fc} (h : headR f.name f.h = true) (k : f.h.knd = 2) : soundF f = (typedB f.h.typ && notB f) := by
  unfold soundF notB noB
  rw [if_neg (by omega), if_pos (.inl k), headB_of h, fitT_no, decide_eq_true k, Bool.eq_iff_iff]
  simp only [Bool.and_eq_true, decide_eq_true_eq, beq_iff_eq, Bool.true_or]
  constructor
  · exact fun ⟨⟨a, b⟩, c, _, d, e, f, g, h⟩ => ⟨c.symm, ⟨a, e⟩, d, f, g, h⟩
  · exact fun ⟨c, ⟨a, e⟩, d, f, g, h⟩ => ⟨⟨a, by omega⟩, c.symm, trivial, d, e, f, g, h⟩
theorem soundF_noR3 {f : Fc} (h : headR f.name f.h = true) (k : f.h.knd = 3) : soundF f = (decide (f.h.typ = 0) && notB f) := by
  unfold soundF notB noB
  rw [if_neg (by omega), if_pos (.inr k), headB_of h, fitT_no, decide_eq_false (show ¬ f.h.knd = 2 by omega), Bool.eq_iff_iff]
  simp only [Bool.and_eq_true, decide_eq_true_eq, beq_iff_eq, Bool.false_or]
  constructor
  · exact fun ⟨⟨a, b⟩, c, i, d, e, f, g, h⟩ => ⟨i, ⟨a, e⟩, d, f, g, h⟩
  · rintro ⟨i, ⟨a, e⟩, d, f, g, h⟩
    exact ⟨⟨a, by omega⟩, by rw [i]; rfl, i, d, e, f, g, h⟩

/-- The box of Sound. -/
structure FBox (w : World) (x : FV) (W : World) : Prop where
  f : Whole W w.heap.size 36 (cellsF x)
  below : Below w.heap.size w W
  size : w.heap.size + 1 ≤ W.heap.size
theorem FBox.step {w : World} {x : FV} {W W' : World} (h : FBox w x W) (hb : Below W.heap.size W W') : FBox w x W' :=
  ⟨h.f.below hb h.f.lt, h.below.trans (hb.mono (by have := h.size; omega)), Nat.le_trans h.size hb.size⟩
theorem FBox.made (w : World) (x : FV) : FBox w x (w.alloc (.cells #[.slice x.A x.name.length x.c, .int .i64 x.h.typ, .int .i64 x.h.knd, .int .i64 x.h.rank, .int .i64 x.h.got, .int .i64 x.h.ttl, .slice x.sA x.sp.length x.sc, .slice x.zA x.zone.length x.zc, .slice x.d.Ab x.soa.bytes.length x.d.cb, .slice x.d.Ah x.soa.host.length x.d.ch, .slice x.d.Am x.soa.mail.length x.d.cm, .slice x.d.An x.soa.nums.length x.d.cn, .slice x.d.At x.soa.texts.length x.d.ct] 36)) :=
  ⟨Whole.made w (cellsF x) _, (Below.refl _ _).alloc (Nat.le_refl _) _, by simp⟩
/-- Rows that are not too long. -/
structure FSz (x : FV) : Prop where
  nl : x.name.length ≤ 300
  zl : x.zone.length ≤ 300
  s : ∀ p ∈ x.sp, p.2.host.length ≤ 300 ∧ p.2.mail.length ≤ 300
  d : x.soa.host.length ≤ 300 ∧ x.soa.mail.length ≤ 300

set_option maxRecDepth 20000 in
set_option maxHeartbeats 4000000 in
theorem fsoundNot_any (w : World) (x : FV) (hx : FAt w w.heap.size x) (hi : FIn x) (hs : FSz x) (hn : soundN x.name = true) : Calls Tryz.prog 85 #[x.val] w (Gave w (.bool (notB x.fact))) := by
  have HS := Lib.hid (show notB x.fact = (fitT x.h.ttl true && (decide (x.sp.length = 0) && (soundN x.zone && (underN x.name x.zone && soundD 6 x.soa)))) by unfold notB; show (fitT x.h.ttl true && (decide ((dats x.sp).length = 0) && _)) = _; rw [length_dats]; rfl)
  have HF := Lib.hid (fun W' => fitsT_any x.h.ttl true W')
  have HN := Lib.hid (fun W' (hb : FBox w x W') => sound_wide x.zA x.zone.length x.zc w.heap.size x.zone W' rfl (hx.z.below hb.below) (by have := hs.zl; omega) hi.z.2)
  have HU := Lib.hid (fun W' (hb : FBox w x W') (hz : soundN x.zone = true) => under_any x.A x.zA x.name.length x.zone.length x.c x.zc w.heap.size x.name x.zone W' rfl rfl (hx.n.below hb.below) (hx.z.below hb.below) (by have := hb.size; omega)
    (by have := (soundN_parts hn).2; unfold maxLen; omega) (by have := (soundN_parts hz).2; unfold maxLen; omega) hx.ln)
  have HD := Lib.hid (fun W' (hb : FBox w x W') => dsound_wide 6 x.d x.soa W' ((hx.d.below hb.below).mono (by have := hb.size; omega)) (by have := hs.d; omega) hi.d.w.h.2 (by have := hs.d; omega) hi.d.w.m.2 hi.d.w.t hi.d.t)
  have HB := Lib.hid (FBox.made w x)
  have hsl : x.sp.length ≤ maxLen := Nat.le_trans hx.ls hx.ks
  unfold maxLen at hsl
  clear hx hi hs hn
  go_enter Tryz.func85, Tryz.ntmps85
  go_wp2_with fail
  refine (HF.out _).mono ?_
  rintro e w1 ⟨rfl, rfl⟩
  cases h1 : fitT x.h.ttl true with
  | false =>
    rw [h1] at HS
    go_wp2
    go_ret
    exact ⟨by rw [HS.out]; rfl, HB.out.below⟩
  | true =>
  rw [h1] at HS
  by_cases h2 : x.sp.length = 0
  case neg =>
    have t : ((x.sp.length : Int) == 0) = false := by rw [beq_eq_false_iff_ne]; omega
    rw [decide_eq_false h2] at HS
    clear h2
    go_wp2
    go_ret
    exact ⟨by rw [HS.out]; rfl, HB.out.below⟩
  have t : ((x.sp.length : Int) == 0) = true := by rw [h2]; rfl
  rw [decide_eq_true h2] at HS
  clear h2
  go_wp2_with fail
  refine (HN.out _ HB.out).mono ?_
  rintro e w1 ⟨rfl, rfl⟩
  cases h3 : soundN x.zone with
  | false =>
    rw [h3] at HS
    go_wp2
    go_ret
    exact ⟨by rw [HS.out]; rfl, HB.out.below⟩
  | true =>
  rw [h3] at HS
  go_wp2_with fail
  refine (HU.out _ HB.out h3).mono ?_
  rintro e w2 ⟨rfl, hb2⟩
  have HB2 := Lib.hid (HB.out.step hb2)
  clear hb2
  cases h4 : underN x.name x.zone with
  | false =>
    rw [h4] at HS
    go_wp2
    go_ret
    exact ⟨by rw [HS.out]; rfl, HB2.out.below⟩
  | true =>
  rw [h4] at HS
  have d8 : w2.cell? ⟨w.heap.size, 8, none⟩ = some (.slice x.d.Ab x.soa.bytes.length x.d.cb) := HB2.out.f.cell 8
  have d9 : w2.cell? ⟨w.heap.size, 9, none⟩ = some (.slice x.d.Ah x.soa.host.length x.d.ch) := HB2.out.f.cell 9
  have d10 : w2.cell? ⟨w.heap.size, 10, none⟩ = some (.slice x.d.Am x.soa.mail.length x.d.cm) := HB2.out.f.cell 10
  have d11 : w2.cell? ⟨w.heap.size, 11, none⟩ = some (.slice x.d.An x.soa.nums.length x.d.cn) := HB2.out.f.cell 11
  have d12 : w2.cell? ⟨w.heap.size, 12, none⟩ = some (.slice x.d.At x.soa.texts.length x.d.ct) := HB2.out.f.cell 12
  go_wp2_with fail
  refine (HD.out _ HB2.out).mono ?_
  rintro e w3 ⟨rfl, hb3⟩
  have HB3 := Lib.hid (HB2.out.step hb3)
  clear hb3
  go_wp2
  go_ret
  exact ⟨by rw [HS.out]; simp, HB3.out.below⟩

set_option maxRecDepth 20000 in
set_option maxHeartbeats 8000000 in
theorem fsound_real (w : World) (x : FV) (hx : FAt w w.heap.size x) (hi : FIn x) (hs : FSz x) : Calls Tryz.prog 55 #[x.val] w (Gave w (.bool (soundF x.fact))) := by
  have HH := Lib.hid (show headR x.name x.h = (soundN x.name && (decide (1 ≤ x.h.rank) && (decide (x.h.rank ≤ 4) && timeB x.h.got))) from rfl)
  have HNO := Lib.hid (fun h => soundF_headR (f := x.fact) h)
  have HY1 := Lib.hid (fun h k => soundF_hasR (f := x.fact) h k)
  have HY2 := Lib.hid (fun h k => soundF_noR2 (f := x.fact) h k)
  have HY3 := Lib.hid (fun h k => soundF_noR3 (f := x.fact) h k)
  have HRT := Lib.hid (fun W' => ftime_any x.h.got W')
  have HKD := Lib.hid (fun W' => fkind_any x.h.typ W')
  have HFT := Lib.hid (fun W' => fitsT_any x.h.ttl false W')
  have HN := Lib.hid (fun W' (hb : FBox w x W') => sound_wide x.A x.name.length x.c w.heap.size x.name W' rfl (hx.n.below hb.below) (by have := hs.nl; omega) hi.n.2)
  have HST := Lib.hid (fun W' (hb : FBox w x W') => soundSet_any W' x.h.typ x.sA x.sc x.sp ((hx.s.below hb.below).mono (by have := hb.size; omega)) hi.s hs.s hx.ls hx.ks)
  have HNT := Lib.hid (fun W' (hb : FBox w x W') (hn : soundN x.name = true) => fsoundNot_any W' x ((hx.below hb.below).mono (by have := hb.size; omega)) hi hs hn)
  have HSM := Lib.hid (show ∀ W' (_ : FBox w x W'), Calls Tryz.prog 84 #[x.d.val x.soa, .agg #[.slice none 0 0, .slice none 0 0, .slice none 0 0, .slice none 0 0, .slice none 0 0]] W' (Gave W' (.bool (sameD x.soa emptyT))) from
    fun W' hb => dsame_wide x.d emptyV x.soa emptyT W' ((hx.d.below hb.below).mono (by have := hb.size; omega)) (fnil_at _ _) hi.d.w fnil_wide)
  have HB := Lib.hid (FBox.made w x)
  have HFC := Lib.hid (show hasR x.fact = (typedB x.h.typ && (fitT x.h.ttl false && (setKB x.h.typ (dats x.sp) && (decide (x.zone.length = 0) && sameD x.soa emptyT)))) from rfl)
  clear hx hi hs
  go_enter Tryz.func55, Tryz.ntmps55
  go_wp2_with fail
  refine (HN.out _ HB.out).mono ?_
  rintro e w1 ⟨rfl, rfl⟩
  cases h1 : soundN x.name with
  | false =>
    rw [h1] at HH
    go_wp2
    go_ret
    exact ⟨by rw [HNO.out (by rw [show headR x.fact.name x.fact.h = headR x.name x.h from rfl, HH.out]; rfl)]; rfl, HB.out.below⟩
  | true =>
  rw [h1] at HH
  by_cases h2 : x.h.rank < 1
  · have t2 : decide (x.h.rank < 1) = true := decide_eq_true h2
    rw [decide_eq_false (show ¬ 1 ≤ x.h.rank by omega)] at HH
    clear h2
    go_wp2
    go_ret
    exact ⟨by rw [HNO.out (by rw [show headR x.fact.name x.fact.h = headR x.name x.h from rfl, HH.out]; rfl)]; rfl, HB.out.below⟩
  have t2 : decide (x.h.rank < 1) = false := decide_eq_false h2
  rw [decide_eq_true (show 1 ≤ x.h.rank by omega)] at HH
  by_cases h3 : 4 < x.h.rank
  · have t3 : decide (4 < x.h.rank) = true := decide_eq_true h3
    rw [decide_eq_false (show ¬ x.h.rank ≤ 4 by omega)] at HH
    clear h2 h3
    go_wp2
    go_ret
    exact ⟨by rw [HNO.out (by rw [show headR x.fact.name x.fact.h = headR x.name x.h from rfl, HH.out]; rfl)]; rfl, HB.out.below⟩
  have t3 : decide (4 < x.h.rank) = false := decide_eq_false h3
  rw [decide_eq_true (show x.h.rank ≤ 4 by omega)] at HH
  clear h2 h3
  go_wp2_with fail
  refine (HRT.out _).mono ?_
  rintro e w1 ⟨rfl, rfl⟩
  cases h4 : timeB x.h.got with
  | false =>
    rw [h4] at HH
    go_wp2
    go_ret
    exact ⟨by rw [HNO.out (by rw [show headR x.fact.name x.fact.h = headR x.name x.h from rfl, HH.out]; rfl)]; rfl, HB.out.below⟩
  | true =>
  rw [h4] at HH
  have HHT := Lib.hid (show headR x.fact.name x.fact.h = true from HH.out)
  clear HH HNO HRT HN t2 t3
  by_cases k1 : x.h.knd = 1
  · have b1 : (x.h.knd == 1) = true := by rw [k1]; rfl
    have HV := Lib.hid ((HY1.out HHT.out k1).trans HFC.out)
    clear k1 HY1 HY2 HY3 HFC
    go_wp2_with fail
    refine (HKD.out _).mono ?_
    rintro e w1 ⟨rfl, rfl⟩
    cases h5 : typedB x.h.typ with
    | false =>
      rw [h5] at HV
      go_wp2
      go_ret
      exact ⟨by rw [HV.out]; rfl, HB.out.below⟩
    | true =>
    rw [h5] at HV
    go_wp2_with fail
    refine (HFT.out _).mono ?_
    rintro e w1 ⟨rfl, rfl⟩
    cases h6 : fitT x.h.ttl false with
    | false =>
      rw [h6] at HV
      go_wp2
      go_ret
      exact ⟨by rw [HV.out]; rfl, HB.out.below⟩
    | true =>
    rw [h6] at HV
    go_wp2_with fail
    refine (HST.out _ HB.out).mono ?_
    rintro e w2 ⟨rfl, hb2⟩
    have HB2 := Lib.hid (HB.out.step hb2)
    clear hb2
    cases h7 : setKB x.h.typ (dats x.sp) with
    | false =>
      rw [h7] at HV
      go_wp2
      go_ret
      exact ⟨by rw [HV.out]; rfl, HB2.out.below⟩
    | true =>
    rw [h7] at HV
    have d7 : w2.cell? ⟨w.heap.size, 7, none⟩ = some (.slice x.zA x.zone.length x.zc) := HB2.out.f.cell 7
    have d8 : w2.cell? ⟨w.heap.size, 8, none⟩ = some (.slice x.d.Ab x.soa.bytes.length x.d.cb) := HB2.out.f.cell 8
    have d9 : w2.cell? ⟨w.heap.size, 9, none⟩ = some (.slice x.d.Ah x.soa.host.length x.d.ch) := HB2.out.f.cell 9
    have d10 : w2.cell? ⟨w.heap.size, 10, none⟩ = some (.slice x.d.Am x.soa.mail.length x.d.cm) := HB2.out.f.cell 10
    have d11 : w2.cell? ⟨w.heap.size, 11, none⟩ = some (.slice x.d.An x.soa.nums.length x.d.cn) := HB2.out.f.cell 11
    have d12 : w2.cell? ⟨w.heap.size, 12, none⟩ = some (.slice x.d.At x.soa.texts.length x.d.ct) := HB2.out.f.cell 12
    by_cases h8 : x.zone.length = 0
    case neg =>
      have t : ((x.zone.length : Int) == 0) = false := by rw [beq_eq_false_iff_ne]; omega
      rw [decide_eq_false h8] at HV
      clear h8
      go_wp2
      go_ret
      exact ⟨by rw [HV.out]; rfl, HB2.out.below⟩
    have t : ((x.zone.length : Int) == 0) = true := by rw [h8]; rfl
    rw [decide_eq_true h8] at HV
    clear h8
    go_wp2_with fail
    refine (HSM.out _ HB2.out).mono ?_
    rintro e w3 ⟨rfl, hb3⟩
    have HB3 := Lib.hid (HB2.out.step hb3)
    clear hb3
    go_wp2
    go_ret
    exact ⟨by rw [HV.out]; simp, HB3.out.below⟩
  have b1 : (x.h.knd == 1) = false := by rw [beq_eq_false_iff_ne]; exact k1
  by_cases k2 : x.h.knd = 2
  · have b2 : (x.h.knd == 2) = true := by rw [k2]; rfl
    have HV := Lib.hid (HY2.out HHT.out k2)
    have HV' := Lib.hid (show soundF x.fact = (typedB x.h.typ && notB x.fact) from HV.out)
    clear k1 k2 HY1 HY2 HY3 HFC HV
    go_wp2_with fail
    refine (HKD.out _).mono ?_
    rintro e w1 ⟨rfl, rfl⟩
    cases h5 : typedB x.h.typ with
    | false =>
      rw [h5] at HV'
      go_wp2
      go_ret
      exact ⟨by rw [HV'.out]; rfl, HB.out.below⟩
    | true =>
    rw [h5] at HV'
    go_wp2_with fail
    refine (HNT.out _ HB.out h1).mono ?_
    rintro e w2 ⟨rfl, hb2⟩
    have HB2 := Lib.hid (HB.out.step hb2)
    clear hb2
    go_wp2
    go_ret
    exact ⟨by rw [HV'.out]; simp, HB2.out.below⟩
  have b2 : (x.h.knd == 2) = false := by rw [beq_eq_false_iff_ne]; exact k2
  by_cases k3 : x.h.knd = 3
  · have b3 : (x.h.knd == 3) = true := by rw [k3]; rfl
    have HV := Lib.hid (show soundF x.fact = (decide (x.h.typ = 0) && notB x.fact) from HY3.out HHT.out k3)
    clear k1 k2 k3 HY1 HY2 HY3 HFC
    by_cases h5 : x.h.typ = 0
    case neg =>
      have t : (x.h.typ == 0) = false := by rw [beq_eq_false_iff_ne]; exact h5
      rw [decide_eq_false h5] at HV
      clear h5
      go_wp2
      go_ret
      exact ⟨by rw [HV.out]; rfl, HB.out.below⟩
    have t : (x.h.typ == 0) = true := by rw [h5]; rfl
    rw [decide_eq_true h5] at HV
    clear h5
    go_wp2_with fail
    refine (HNT.out _ HB.out h1).mono ?_
    rintro e w2 ⟨rfl, hb2⟩
    have HB2 := Lib.hid (HB.out.step hb2)
    clear hb2
    go_wp2
    go_ret
    exact ⟨by rw [HV.out]; simp, HB2.out.below⟩
  have b3 : (x.h.knd == 3) = false := by rw [beq_eq_false_iff_ne]; exact k3
  have HV := Lib.hid (soundF_other (f := x.fact) k1 k2 k3)
  clear k1 k2 k3
  go_wp2
  go_ret
  exact ⟨by rw [HV.out]; rfl, HB.out.below⟩

end Go.Proofs.YtmbcbfalgdgmjaaGreatDoor

namespace Go.Proofs.YtmbcbfalgdgmjaaGreatDoor
open Go.RowKit

/-- Is data the same, byte by byte? -/
def exactD (a b : Dt) : Bool := sameD a b && (decide (a.host = b.host) && decide (a.mail = b.mail))
theorem exactD_self (d : Dt) : exactD d d = true := by simp [exactD, sameD, eqN]







































































end Go.Proofs.YtmbcbfalgdgmjaaGreatDoor

namespace Go.Proofs.YtmbcbfalgdgmjaaGreatDoor
open Go.RowKit

def sameR (a b : Rt) : Bool := decide (a.name = b.name) && (decide (a.kind = b.kind) && (decide (a.cls = b.cls) && (decide (a.ttl = b.ttl) && exactD a.data b.data)))
theorem sameR_self (r : Rt) : sameR r r = true := by simp [sameR, exactD_self]




































































































end Go.Proofs.YtmbcbfalgdgmjaaGreatDoor

namespace Go.Proofs.YtmbcbfalgdgmjaaGreatDoor
open Go.RowKit

/-- A question. -/
structure Qt where
  name : List (List UInt8)
  kind : Int
  cls : Int
/-- Where its name lies, and what room it has. -/
abbrev QV := Option Addr × Nat
def cellsQ (p : QV × Qt) : List Value := [.slice p.1.1 p.2.name.length p.1.2, .int .i64 p.2.kind, .int .i64 p.2.cls]
abbrev valQ (x : QV) (a : Qt) : Value := .agg #[.slice x.1 a.name.length x.2, .int .i64 a.kind, .int .i64 a.cls]
theorem cellsQ_len (p : QV × Qt) : (cellsQ p).length = 3 := rfl
theorem cellsQ_one (ps : List (QV × Qt)) : ∀ u ∈ ps.flatMap cellsQ, u.oneCell' = true := by
  intro u hu
  obtain ⟨p, _, hp⟩ := List.mem_flatMap.1 hu
  simp only [cellsQ, List.mem_cons, List.not_mem_nil, or_false] at hp
  rcases hp with rfl | rfl | rfl <;> rfl
theorem cellsQ_one1 (p : QV × Qt) : ∀ u ∈ cellsQ p, u.oneCell' = true := fun u hu => cellsQ_one [p] u (by simpa using hu)
def QAt (w : World) (H : Nat) (x : QV) (a : Qt) : Prop := Row w H x.1 (a.name.map sv)
def QsAt (w : World) (H : Nat) (A : Option Addr) (ps : List (QV × Qt)) : Prop := Row w H A (ps.flatMap cellsQ) ∧ ∀ p ∈ ps, QAt w H p.1 p.2
theorem QsAt.below {w w' : World} {H : Nat} {A : Option Addr} {ps : List (QV × Qt)} (h : QsAt w H A ps) (hb : Below H w w') : QsAt w' H A ps := ⟨h.1.below hb, fun p hp => Row.below (h.2 p hp) hb⟩
theorem QsAt.mono {w : World} {H H' : Nat} {A : Option Addr} {ps : List (QV × Qt)} (h : QsAt w H A ps) (hb : H ≤ H') : QsAt w H' A ps := ⟨h.1.mono hb, fun p hp => Row.mono (h.2 p hp) hb⟩
theorem QsAt.at_ {w : World} {H : Nat} {A : Option Addr} {ps : List (QV × Qt)} (h : QsAt w H A ps) {i : Nat} (hi : i < ps.length) :
    ∃ b off, A = some ⟨b, off, none⟩ ∧ b < H ∧ QAt w H (ps[i]).1 (ps[i]).2 ∧ w.cell? ⟨b, off + i * 3, none⟩ = some (.slice (ps[i]).1.1 (ps[i]).2.name.length (ps[i]).1.2) ∧ w.cell? ⟨b, off + i * 3 + 1, none⟩ = some (.int .i64 (ps[i]).2.kind) ∧ w.cell? ⟨b, off + i * 3 + 2, none⟩ = some (.int .i64 (ps[i]).2.cls) := by
  obtain ⟨b, off, e, hb, hc⟩ := h.1.part cellsQ_len (by omega) hi
  exact ⟨b, off, e, hb, h.2 _ (List.getElem_mem hi), hc 0 _ rfl, hc 1 _ rfl, hc 2 _ rfl⟩
def qsts (ps : List (QV × Qt)) : List Qt := ps.map (·.2)
theorem length_qsts (ps : List (QV × Qt)) : (qsts ps).length = ps.length := by simp [qsts]
theorem qsts_append (ps qs : List (QV × Qt)) : qsts (ps ++ qs) = qsts ps ++ qsts qs := by simp [qsts]

end Go.Proofs.YtmbcbfalgdgmjaaGreatDoor

namespace Go.Proofs.YtmbcbfalgdgmjaaGreatDoor
open Go.RowKit

def Gets (w : World) (r : Int × Int) (e : Ending) (w' : World) : Prop := e = .returned (.tuple #[.int .i64 r.1, .int .i64 r.2]) ∧ w = w'
def GetRel (l : List UInt8) (a s : Nat) (n i : Value) : Prop := ∃ k : Nat, k ≤ s ∧ i = .int .i64 k ∧ n = .int .i64 (numN (cutL l a k))

theorem getL_size {l : List UInt8} {a s : Int} (h : ¬ (1 ≤ s ∧ s ≤ 7)) : getL l a s = (0, 1) := by unfold getL; rw [szB_false h, if_pos (.inl rfl)]
theorem getL_neg {l : List UInt8} {a s : Int} (h : a < 0) : getL l a s = (0, 1) := by unfold getL; rw [if_pos (.inr h)]
theorem getL_short {l : List UInt8} {a s : Int} (h1 : 1 ≤ s) (h2 : s ≤ 7) (h3 : 0 ≤ a) (h : (l.length : Int) < a + s) : getL l a s = (0, 3) := by
  unfold getL; rw [szB_true ⟨h1, h2⟩, if_neg (by simp; omega), if_pos h]
theorem getL_ok {l : List UInt8} {a s : Nat} (h1 : 1 ≤ s) (h2 : s ≤ 7) (h : a + s ≤ l.length) : getL l a s = ((numN (cutL l a s) : Int), (0 : Int)) := by
  unfold getL; rw [szB_true ⟨by omega, by omega⟩, if_neg (by simp), if_neg (by omega)]; simp

















































































end Go.Proofs.YtmbcbfalgdgmjaaGreatDoor

namespace Go.Proofs.YtmbcbfalgdgmjaaGreatDoor
open Go.RowKit






section
variable {w : World} {g : Nat} {vb : Value} {p en : Nat}




end
/-- Only the block g may have turned. -/
abbrev GrewG (g : Nat) (w w' : World) : Prop := Grew (fun j => j = g) w w'







theorem cutL_take {b : List UInt8} {p s en : Nat} (h : p + s ≤ en) : cutL (b.take en) p s = cutL b p s := by
  unfold cutL
  rw [List.drop_take, List.take_take]
  congr 1
  omega



























































theorem row_cut {w : World} {base m p s : Nat} {A : Option Addr} {b : List UInt8} (hbl : b.length = m) (hrow : Row w base A (b.map bc)) (hp : p + s ≤ m) : Row w base (A.map fun x => x.add p) ((cutL b p s).map bc) := by
  rcases Nat.eq_zero_or_pos s with rfl | hs
  · simp only [cutL, List.take_zero, List.map_nil]
    exact Row.empty _ _ _
  · obtain ⟨bb, off, rfl, _, _⟩ := hrow.some_ (by rw [List.length_map]; omega)
    simp only [Option.map_some, addr_add]
    have h := (hrow.drop rfl (k := p)).take s
    rw [← List.map_drop, ← List.map_take] at h
    exact h


























































end Go.Proofs.YtmbcbfalgdgmjaaGreatDoor

namespace Go.Proofs.YtmbcbfalgdgmjaaGreatDoor
open Go.RowKit

/-- The cells of a reader. -/
def rdL (vb : Value) (p q x s : Nat) (vl : Value) (d : Bool) : List Value := [vb, .int .i64 p, .int .i64 q, .int .i64 x, .int .i64 s, vl, .bool d]


section
variable {w : World} {g : Nat} {vb : Value} {p q x s : Nat} {vl : Value} {d : Bool}













end

theorem below_set {w : World} {base g : Nat} (hg : base ≤ g) (i : Nat) (u : Value) : Below base w (w.setCell ⟨g, i, none⟩ u) := (Below.refl base w).setCell (p := ⟨g, i, none⟩) hg u









































































































































end Go.Proofs.YtmbcbfalgdgmjaaGreatDoor

namespace Go.Proofs.YtmbcbfalgdgmjaaGreatDoor
open Go.RowKit


























/-- The number that the two bytes of a pointer are. -/
theorem getL_two {b : List UInt8} {p : Nat} (hp : p < b.length) (h : p + 1 < b.length) : getL b p 2 = ((((b[p]).toNat * 256 + (b[p + 1]).toNat : Nat) : Int), 0) := by
  have e := getL_ok (l := b) (a := p) (s := 2) (by omega) (by omega) (by omega)
  have h1 := cutL_succ (l := b) (a := p) (k := 0) (by omega)
  have h2 := cutL_succ (l := b) (a := p) (k := 1) h
  have h0 : cutL b p 0 = [] := by simp [cutL]
  rw [h0] at h1
  simp only [Nat.zero_add, List.nil_append, Nat.add_zero] at h1
  rw [h1] at h2
  rw [show (2 : Int) = ((2 : Nat) : Int) from rfl, e, h2]
  simp [numN]
theorem getL_one {b : List UInt8} {p : Nat} (h : p < b.length) : getL b p 1 = (((b[p]).toNat : Int), 0) := by
  have e := getL_ok (l := b) (a := p) (s := 1) (by omega) (by omega) (by omega)
  have h1 := cutL_succ (l := b) (a := p) (k := 0) (by omega)
  have h0 : cutL b p 0 = [] := by simp [cutL]
  rw [h0] at h1
  simp only [Nat.zero_add, List.nil_append, Nat.add_zero] at h1
  rw [show (1 : Int) = ((1 : Nat) : Int) from rfl, e, h1]
  simp [numN]






















































































































































end Go.Proofs.YtmbcbfalgdgmjaaGreatDoor

namespace Go.Proofs.YtmbcbfalgdgmjaaGreatDoor
open Go.RowKit






























































































































end Go.Proofs.YtmbcbfalgdgmjaaGreatDoor

namespace Go.Proofs.YtmbcbfalgdgmjaaGreatDoor
open Go.RowKit

/-- The call answers what is read: a name in new memory, a place, an error. -/
def Read (w : World) (r : List (List UInt8) × Nat × Nat) (e : Ending) (w' : World) : Prop :=
  ∃ v, e = .returned (.tuple #[v, .int .i64 r.2.1, .int .i64 r.2.2]) ∧ w'.ownsRow w.heap.size 9 1 v r.1.length (r.1.map sv) ∧ Below w.heap.size w w'







def doneV : Option Value → Bool
  | some (.bool false) => false
  | _ => true
def numV : Option Value → Nat
  | some v => (intOf v).toNat
  | none => 0
/-- What is left to read, as a number. -/
def leftR (g : Nat) (e : Value) (wr : World) : Nat :=
  if intOf e = 0 then (if doneV (wr.cell? ⟨g, 6, none⟩) = true then 0 else 1 + numV (wr.cell? ⟨g, 2, none⟩) * 256 + (255 - numV (wr.cell? ⟨g, 4, none⟩))) else 0
section
variable {wr : World} {g : Nat} {vb : Value} {p q x s : Nat} {vl : Value} {d : Bool}




theorem leftR_err {k : Nat} (hk : k ≠ 0) : leftR g (.int .i64 (k : Int)) wr = 0 := by
  simp [leftR, intOf, hk]
end
















































































































def NegRel (w : World) (g : Nat) (A : Option Addr) (m cap : Nat) (a : Int) (e : Value) (wr : World) : Prop :=
  ∃ k : Nat, k ≤ 1 ∧ e = .int .i64 k ∧ wr.cell? ⟨g, 0, none⟩ = some (.slice A m cap) ∧ wr.cell? ⟨g, 1, none⟩ = some (.int .i64 a) ∧ wr.cell? ⟨g, 6, none⟩ = some (.bool false) ∧ Below w.heap.size w wr




































end Go.Proofs.YtmbcbfalgdgmjaaGreatDoor

namespace Go.Proofs.YtmbcbfalgdgmjaaGreatDoor
open Go.RowKit






















/-- k numbers of s bytes from p on. -/
def numsL (b : List UInt8) (p s : Nat) : Nat → List Int
  | 0 => []
  | k + 1 => numsL b p s k ++ [(numN (cutL b (p + k * s) s) : Int)]
theorem length_numsL (b : List UInt8) (p s : Nat) : ∀ k, (numsL b p s k).length = k
  | 0 => rfl
  | k + 1 => by simp [numsL, length_numsL b p s k]

/-- What is read of k numbers. -/
def numsR (b : List UInt8) (p en s k : Nat) : Except Nat (List Int × Nat) := if p + k * s ≤ en then .ok (numsL b p s k, p + k * s) else .error 3
/-- A slice of the call's own, which reads as the numbers. -/
def OwnI (B : Nat) (l : List Int) (v : Value) (w : World) : Prop := w.ownsRow B 3 1 v l.length (l.map zv)
/-- A slice of the call's own, which reads as the strings. -/
def OwnT (B : Nat) (l : List (List UInt8)) (v : Value) (w : World) : Prop := w.ownsRow B 9 1 v l.length (l.map sv)
/-- A slice of the call's own, which reads as the bytes. -/
def OwnB (B : Nat) (l : List UInt8) (v : Value) (w : World) : Prop := w.ownsRow B 5 1 v l.length (l.map bc)









































































/-- What is read of a name, up to an end. -/
def nameF (r : List (List UInt8) × Nat × Nat) (en : Nat) : Except Nat (List (List UInt8) × Nat) := if r.2.2 ≠ 0 then .error r.2.2 else if en < r.2.1 then .error 3 else .ok (r.1, r.2.1)
def nameR (b : List UInt8) (p en : Nat) : Except Nat (List (List UInt8) × Nat) := nameF (getR b p p 0 []) en




















































end Go.Proofs.YtmbcbfalgdgmjaaGreatDoor

namespace Go.Proofs.YtmbcbfalgdgmjaaGreatDoor
open Go.RowKit

/-- What is read of texts, from p on; acc are read already. -/
def textsR (b : List UInt8) (p en : Nat) (acc : List (List UInt8)) : Except Nat (List (List UInt8) × Nat) :=
  if _h : p < en then
    if acc.length = 64 then .error 4
    else if en < p + 1 + numN (cutL b p 1) then .error 3
    else textsR b (p + 1 + numN (cutL b p 1)) en (acc ++ [cutL b (p + 1) (numN (cutL b p 1))])
  else if acc = [] then .error 2 else .ok (acc, p)
termination_by en - p
section
variable {b : List UInt8} {p en : Nat} {acc : List (List UInt8)}
theorem textsR_large (h : p < en) (h1 : acc.length = 64) : textsR b p en acc = .error 4 := by rw [textsR, dif_pos h, if_pos h1]
theorem textsR_short (h : p < en) (h1 : acc.length ≠ 64) (h2 : en < p + 1 + numN (cutL b p 1)) : textsR b p en acc = .error 3 := by rw [textsR, dif_pos h, if_neg h1, if_pos h2]
theorem textsR_next (h : p < en) (h1 : acc.length ≠ 64) (h2 : p + 1 + numN (cutL b p 1) ≤ en) : textsR b p en acc = textsR b (p + 1 + numN (cutL b p 1)) en (acc ++ [cutL b (p + 1) (numN (cutL b p 1))]) := by
  rw [textsR, dif_pos h, if_neg h1, if_neg (by omega)]
theorem textsR_none (h : en ≤ p) : textsR b p en [] = .error 2 := by rw [textsR, dif_neg (by omega), if_pos rfl]
theorem textsR_end (h : en ≤ p) (h1 : acc ≠ []) : textsR b p en acc = .ok (acc, p) := by rw [textsR, dif_neg (by omega), if_neg h1]
end

theorem numN_one_lt (b : List UInt8) (p : Nat) : numN (cutL b p 1) < 256 := by
  have h := numN_lt (cutL b p 1)
  have hl : (cutL b p 1).length ≤ 1 := by simp [cutL]; omega
  have : 256 ^ (cutL b p 1).length ≤ 256 ^ 1 := Nat.pow_le_pow_right (by omega) hl
  omega




















































































































/-- What is read of bytes. -/
def bytesR (b : List UInt8) (p en least most : Nat) : Except Nat (List UInt8 × Nat) :=
  if en < p + max least (min most (en - p)) then .error 3 else .ok (cutL b p (max least (min most (en - p))), p + max least (min most (en - p)))





























































end Go.Proofs.YtmbcbfalgdgmjaaGreatDoor

namespace Go.Proofs.YtmbcbfalgdgmjaaGreatDoor
open Go.RowKit

/-- What is read of data. -/
def readD (b : List UInt8) (p en : Nat) (s : Sh) : Except Nat Dt :=
  numsR b p en 2 s.ahead >>= fun n1 => (if s.host = true then nameR b n1.2 en else .ok ([], n1.2)) >>= fun h => (if s.mail = true then nameR b h.2 en else .ok ([], h.2)) >>= fun m =>
    numsR b m.2 en 4 s.behind >>= fun n2 => (if s.texts = true then textsR b n2.2 en [] else .ok ([], n2.2)) >>= fun t => bytesR b t.2 en s.least s.most >>= fun y =>
      if y.2 < en then .error 7 else .ok ⟨y.1, h.1, m.1, n1.1 ++ n2.1, t.1⟩

theorem numsR_le {b : List UInt8} {p en s k q : Nat} {l : List Int} (h : numsR b p en s k = .ok (l, q)) : q ≤ en ∧ l.length = k := by
  unfold numsR at h
  split at h
  · injection h with h
    injection h with h1 h2
    subst h1; subst h2
    exact ⟨by assumption, length_numsL _ _ _ _⟩
  · cases h
theorem nameR_le {b : List UInt8} {p en q : Nat} {n : List (List UInt8)} (h : nameR b p en = .ok (n, q)) : q ≤ en := by
  unfold nameR nameF at h
  split at h
  · cases h
  · split at h
    · cases h
    · injection h with h
      injection h with h1 h2
      omega
theorem textsR_le {b : List UInt8} {en : Nat} : ∀ (d p q : Nat) (acc l : List (List UInt8)), en - p ≤ d → p ≤ en → textsR b p en acc = .ok (l, q) → q ≤ en
  | d, p, q, acc, l, hd, hp, h => by
    rw [textsR] at h
    split at h
    · split at h
      · cases h
      · split at h
        · cases h
        · exact textsR_le (d - 1) _ q _ l (by omega) (by omega) h
    · split at h
      · cases h
      · injection h with h
        injection h with h1 h2
        omega
termination_by _ p => en - p




















section
variable {w W W' : World} {g : Nat} {vb : Value} {s : Sh} {q q' en : Nat} {L : List Value}






























theorem rows_apart {w : World} {b1 b2 s1 s2 n1 n2 : Nat} {e1 e2 : TypeId} {v1 v2 : Value} {xs1 xs2 : List Value} (h1 : w.ownsRow b1 e1 s1 v1 n1 xs1) (h2 : w.ownsRow b2 e2 s2 v2 n2 xs2) (hne : e1 ≠ e2) : v1.ownBlock = none ∨ v1.ownBlock ≠ v2.ownBlock := by
  rcases h1.2 with ⟨rfl, _⟩ | ⟨g, cap, cur, rfl, _, hh, _⟩
  · exact .inl rfl
  · right
    rcases h2.2 with ⟨rfl, _⟩ | ⟨g', cap', cur', rfl, _, hh', _⟩
    · simp [Value.ownBlock]
    · intro e
      have : g = g' := by simpa [Value.ownBlock] using e
      subst this
      rw [hh] at hh'
      injection hh' with hh'
      injection hh' with _ ht
      exact hne ht
end

end Go.Proofs.YtmbcbfalgdgmjaaGreatDoor

namespace Go.Proofs.YtmbcbfalgdgmjaaGreatDoor
open Go.RowKit




























































































































































































































































































































































































































































































































































































































































































end Go.Proofs.YtmbcbfalgdgmjaaGreatDoor

namespace Go.Proofs.YtmbcbfalgdgmjaaGreatDoor
open Go.RowKit













































/-- What Get answers: data, an error. -/
def getD (b : List UInt8) (at_ size kind : Int) : Dt × Nat :=
  if at_ < 0 ∨ size < 0 ∨ kindB kind = false then (⟨[], [], [], [], []⟩, 1) else if (b.length : Int) - at_ < size then (⟨[], [], [], [], []⟩, 3)
  else match readD b at_.toNat (at_ + size).toNat (shN kind) with
    | .ok d => (d, 0)
    | .error k => (⟨[], [], [], [], []⟩, k)
/-- The call answers data in slices of its own, and an error. -/
def GotD (w : World) (r : Dt × Nat) (e : Ending) (w' : World) : Prop :=
  ∃ y : DV, e = .returned (.tuple #[y.val r.1, .int .i64 r.2]) ∧ OwnD w' w.heap.size y r.1 ∧ Below w.heap.size w w'














end Go.Proofs.YtmbcbfalgdgmjaaGreatDoor

namespace Go.Proofs.YtmbcbfalgdgmjaaGreatDoor
open Go.RowKit

theorem putL_fit {n s : Int} (h : fitB n s = true) : ∃ m k : Nat, n = m ∧ s = k ∧ putL [] n s = digs m k ∧ m < 2 ^ (8 * k) ∧ (putL [] n s).length = k := by
  have h2 := h
  simp only [fitB, decide_eq_true_eq] at h2
  obtain ⟨a1, a2, a3, a4⟩ := h2
  obtain ⟨m, rfl⟩ : ∃ m : Nat, n = m := ⟨n.toNat, by omega⟩
  obtain ⟨k, rfl⟩ : ∃ k : Nat, s = k := ⟨s.toNat, by omega⟩
  have e := putL_yes (l := []) (n := m) (s := k) h
  rw [List.nil_append] at e
  refine ⟨m, k, rfl, rfl, e, ?_, by rw [e, length_digs]⟩
  rw [Int.toNat_natCast] at a4
  exact_mod_cast a4

theorem length_numsW_fit (s : Nat) : ∀ l : List Int, (∀ n ∈ l, fitB n s = true) → (numsW s l).length = l.length * s
  | [], _ => by simp [numsW]
  | n :: l, h => by
    have h1 := length_numsW_fit s l fun x hx => h x (List.mem_cons_of_mem _ hx)
    obtain ⟨m, k, rfl, hk, e, hm, hl⟩ := putL_fit (h n (List.mem_cons_self ..))
    have : k = s := by omega
    subst this
    simp only [numsW, List.length_append, List.length_cons, Nat.add_mul]
    omega
theorem numsL_back (s : Nat) (X : List UInt8) : ∀ (k : Nat) (l : List Int) (Y : List UInt8), l.length = k → (∀ n ∈ l, fitB n s = true) → numsL ((X ++ numsW s l) ++ Y) X.length s k = l
  | 0, l, Y, hl, _ => by rw [List.eq_nil_of_length_eq_zero hl]; rfl
  | k + 1, l, Y, hl, h => by
    have hne : l ≠ [] := fun e => by rw [e] at hl; cases hl
    obtain ⟨l', n, rfl⟩ : ∃ l' n, l = l' ++ [n] := ⟨l.dropLast, l.getLast hne, (List.dropLast_concat_getLast hne).symm⟩
    have hl' : l'.length = k := by simpa using hl
    have h' : ∀ x ∈ l', fitB x s = true := fun x hx => h x (List.mem_append_left _ hx)
    obtain ⟨m, j, rfl, hj, e, hm, hlen⟩ := putL_fit (h n (List.mem_append_right _ (List.mem_singleton.2 rfl)))
    have : j = s := by omega
    subst this
    have hw := length_numsW_fit j l' h'
    rw [numsL, numsW_snoc, e]
    have e1 : ((X ++ (numsW (j : Int) l' ++ digs m j)) ++ Y) = ((X ++ numsW (j : Int) l') ++ (digs m j ++ Y)) := by simp [List.append_assoc]
    have e2 : ((X ++ (numsW (j : Int) l' ++ digs m j)) ++ Y) = (((X ++ numsW (j : Int) l') ++ digs m j) ++ Y) := by simp [List.append_assoc]
    have r1 := numsL_back j X k l' (digs m j ++ Y) hl' h'
    rw [← e1] at r1
    rw [r1]
    congr 1
    have hp : X.length + k * j = (X ++ numsW (j : Int) l').length := by rw [List.length_append, hw, hl']
    rw [hp, e2, cutL_more (by simp only [List.length_append, length_digs]; omega), cutL_behind, numN_digs hm]

theorem numsR_back {s : Nat} {X Y : List UInt8} {l : List Int} {en k : Nat} (hk : l.length = k) (h : ∀ n ∈ l, fitB n s = true) (hen : (X ++ numsW s l).length ≤ en) : numsR ((X ++ numsW s l) ++ Y) X.length en s k = .ok (l, (X ++ numsW s l).length) := by
  have hw := length_numsW_fit s l h
  rw [List.length_append, hw, hk] at hen
  rw [numsR, if_pos hen, numsL_back s X k l Y hk h, List.length_append, hw, hk]

theorem nameR_back {C : List UInt8} {q e en : Nat} {n : List (List UInt8)} (h : AtN C q q n e) (_ : 0 < e) (hn : szN n ≤ 255) : getR C q q 0 [] = (n, e, 0) ∧ (e ≤ en → nameR C q en = .ok (n, e)) ∧ (en < e → nameR C q en = .error 3) := by
  have h1 := h.read (x := 0) (m := []) (by have : szN [] = 1 := by decide
                                           omega)
  rw [List.nil_append] at h1
  have h2 : nextR 0 e = e := rfl
  rw [h2] at h1
  refine ⟨h1, fun hen => ?_, fun hen => ?_⟩
  · rw [nameR, h1, nameF, if_neg (by simp), if_neg (by simp; omega)]
  · rw [nameR, h1, nameF, if_neg (by simp), if_pos (by simpa using hen)]

theorem textsR_back : ∀ (l acc : List (List UInt8)) (X Y : List UInt8), acc ++ l ≠ [] → acc.length + l.length ≤ 64 → (∀ t ∈ l, t.length ≤ 255) → textsR ((X ++ textsW l) ++ Y) X.length (X ++ textsW l).length acc = .ok (acc ++ l, (X ++ textsW l).length)
  | [], acc, X, Y, hne, _, _ => by
    rw [textsR_end (by simp [textsW]) (by simpa using hne), List.append_nil]
    simp [textsW]
  | t :: l, acc, X, Y, hne, h64, ht => by
    have htl := ht t (List.mem_cons_self ..)
    have hfit : fitB (t.length : Int) ((1 : Nat) : Int) = true := fitB_true (by omega) (by omega) (by omega) (by simp; omega)
    obtain ⟨m, k, hm, hk, e, hm2, hl1⟩ := putL_fit hfit
    have hm' : m = t.length := by omega
    have hk' : k = 1 := by omega
    subst hm' hk'
    have e0 : putL [] (t.length : Int) 1 = digs t.length 1 := e
    have hx : (X ++ textsW (t :: l)) = ((X ++ (digs t.length 1 ++ t)) ++ textsW l) := by simp [textsW, e0, List.append_assoc]
    have hlen : (X ++ (digs t.length 1 ++ t)).length = X.length + 1 + t.length := by simp [length_digs]; omega
    have hc1 : cutL ((X ++ textsW (t :: l)) ++ Y) X.length 1 = digs t.length 1 := by
      rw [hx, show ((X ++ (digs t.length 1 ++ t)) ++ textsW l) ++ Y = (X ++ digs t.length 1) ++ (t ++ (textsW l ++ Y)) by simp [List.append_assoc], cutL_more (by rw [List.length_append, length_digs]; omega), cutL_behind]
    have hn : numN (cutL ((X ++ textsW (t :: l)) ++ Y) X.length 1) = t.length := by rw [hc1, numN_digs hm2]
    have hc2 : cutL ((X ++ textsW (t :: l)) ++ Y) (X.length + 1) t.length = t := by
      rw [hx, show ((X ++ (digs t.length 1 ++ t)) ++ textsW l) ++ Y = (X ++ digs t.length 1) ++ (t ++ (textsW l ++ Y)) by simp [List.append_assoc]]
      have hp : X.length + 1 = (X ++ digs t.length 1).length := by rw [List.length_append, length_digs]
      unfold cutL
      rw [hp, List.drop_left, List.take_left]
    have hle : X.length + 1 + t.length ≤ (X ++ textsW (t :: l)).length := by rw [hx, List.length_append, hlen]; omega
    rw [textsR_next (by omega) (by simp at h64; omega) (by rw [hn]; exact hle), hn, hc2]
    have ih := textsR_back l (acc ++ [t]) (X ++ (digs t.length 1 ++ t)) Y (by simp) (by simp at h64 ⊢; omega) (fun x hx => ht x (List.mem_cons_of_mem _ hx))
    rw [← hx, hlen] at ih
    rw [ih]
    simp

theorem bytesR_back {X l Y : List UInt8} {least most : Nat} (h1 : least ≤ l.length) (h2 : l.length ≤ most) : bytesR ((X ++ l) ++ Y) X.length (X ++ l).length least most = .ok (l, (X ++ l).length) := by
  have hs : max least (min most ((X ++ l).length - X.length)) = l.length := by
    rw [List.length_append]
    omega
  rw [bytesR, hs, if_neg (by rw [List.length_append]; omega)]
  have hc : cutL ((X ++ l) ++ Y) X.length l.length = l := by
    unfold cutL
    rw [List.append_assoc, List.drop_left, List.take_left]
  rw [hc, List.length_append]

theorem nums_fit {ah : Nat} {l : List Int} (h : numsOk ah l = true) : (∀ n ∈ l.take ah, fitB n ((2 : Nat) : Int) = true) ∧ (∀ n ∈ l.drop ah, fitB n ((4 : Nat) : Int) = true) := by
  unfold numsOk at h
  rw [List.all_eq_true] at h
  constructor
  · intro n hn
    obtain ⟨i, hi, rfl⟩ := List.getElem_of_mem hn
    have hi2 : i < ah ∧ i < l.length := by simp at hi; omega
    have := h i (List.mem_range.2 hi2.2)
    rw [sizeAt, if_pos hi2.1] at this
    simpa [List.getD, hi2.2] using this
  · intro n hn
    obtain ⟨i, hi, rfl⟩ := List.getElem_of_mem hn
    have hi2 : ah + i < l.length := by simp at hi; omega
    have := h (ah + i) (List.mem_range.2 hi2)
    rw [sizeAt, if_neg (by omega)] at this
    simpa [List.getD, hi2] using this

/-- What kinds of shapes there are. -/
structure ShP (s : Sh) : Prop where
  t : s.texts = true → s.host = false ∧ s.mail = false ∧ s.ahead = 0 ∧ s.behind = 0 ∧ s.least = 0 ∧ s.most = 0
  h : s.host = true → s.least = 0 ∧ s.most = 0
  m : s.mail = true → s.host = true ∧ 0 < s.behind
  b : 0 < s.behind → s.mail = true
  n : s.host = false → s.ahead = 0
theorem shP (k : Int) : ShP (shN k) := by
  rcases shN_cases k with rfl | rfl | rfl | rfl | rfl | rfl | rfl | rfl | rfl | hk
  case inr.inr.inr.inr.inr.inr.inr.inr.inr =>
    rw [shN_other hk]
    exact ⟨by decide, by decide, by decide, by decide, by decide⟩
  all_goals exact ⟨by decide, by decide, by decide, by decide, by decide⟩

theorem AtN.pos {B : List UInt8} {p q e : Nat} {n : List (List UInt8)} (h : AtN B p q n e) : p < e := by
  induction h <;> omega

/-- What stands where. -/
theorem parts {s : Sh} {d : Dt} (X : List UInt8) (sp : SoundP s d) : ∃ B1 x2 x3 : List UInt8,
    (putD s d X []).1 = ((x3 ++ numsW 4 (d.nums.drop s.ahead)) ++ textsW d.texts) ++ d.bytes ∧ B1 = X ++ numsW 2 (d.nums.take s.ahead) ∧ (∃ S, x2 = B1 ++ S) ∧ (∃ S, x3 = x2 ++ S) ∧
    (∀ C en, x2.length ≤ en → (if s.host = true then nameR (x2 ++ C) B1.length en else .ok ([], B1.length)) = .ok (d.host, x2.length)) ∧
    (∀ C en, x3.length ≤ en → (if s.mail = true then nameR (x3 ++ C) x2.length en else .ok ([], x2.length)) = .ok (d.mail, x3.length)) ∧
    (s.host = true → B1.length < x2.length ∧ ∀ C en, en < x2.length → nameR (x2 ++ C) B1.length en = .error 3) ∧ (s.host = false → x2 = B1) ∧ (s.mail = false → x3 = x2) := by
  have G0 : GoodR X [] := GoodR.nil X
  obtain ⟨B1, hB1⟩ : ∃ x, x = X ++ numsW 2 (d.nums.take s.ahead) := ⟨_, rfl⟩
  have G1 : GoodR B1 [] := by rw [hB1]; exact G0.more _
  obtain ⟨x2, hx2⟩ : ∃ x, x = putH s d X [] := ⟨_, rfl⟩
  have h2 : (∃ S, x2.1 = B1 ++ S) ∧ GoodR x2.1 x2.2 ∧ (∀ C en, x2.1.length ≤ en → (if s.host = true then nameR (x2.1 ++ C) B1.length en else .ok ([], B1.length)) = .ok (d.host, x2.1.length)) ∧
      (s.host = true → B1.length < x2.1.length ∧ ∀ C en, en < x2.1.length → nameR (x2.1 ++ C) B1.length en = .error 3) ∧ (s.host = false → x2.1 = B1) := by
    cases hh : s.host
    · have e : x2 = (B1, []) := by rw [hx2, putH, hh, if_neg (by decide), hB1]
      rw [e, sp.h0 hh]
      exact ⟨⟨[], by simp⟩, G1, fun C en _ => rfl, fun h => (by cases h), fun _ => rfl⟩
    · have hs := soundN_parts (sp.h hh)
      have e : x2 = nameW s.short d.host B1 [] := by rw [hx2, putH, hh, if_pos rfl, hB1]
      obtain ⟨hS, hat, hg⟩ := nameW_good (short := s.short) hs.1 G1
      rw [← e] at hS hat hg
      refine ⟨hS, hg, fun C en he => ?_, fun _ => ⟨hat.pos, fun C en he => ?_⟩, fun h => (by cases h)⟩
      · rw [if_pos rfl]
        exact (nameR_back (en := en) (hat.more C) (by have := hat.pos; omega) hs.2).2.1 he
      · exact (nameR_back (en := en) (hat.more C) (by have := hat.pos; omega) hs.2).2.2 he
  obtain ⟨hS2, G2, R2, E2, N2⟩ := h2
  obtain ⟨x3, hx3⟩ : ∃ x, x = putM s d x2 := ⟨_, rfl⟩
  have h3 : (∃ S, x3.1 = x2.1 ++ S) ∧ (∀ C en, x3.1.length ≤ en → (if s.mail = true then nameR (x3.1 ++ C) x2.1.length en else .ok ([], x2.1.length)) = .ok (d.mail, x3.1.length)) ∧ (s.mail = false → x3.1 = x2.1) := by
    cases hh : s.mail
    · have e : x3 = x2 := by rw [hx3, putM, hh, if_neg (by decide)]
      rw [e, sp.m0 hh]
      exact ⟨⟨[], by simp⟩, fun C en _ => rfl, fun _ => rfl⟩
    · have hs := soundN_parts (sp.m hh)
      have e : x3 = nameW s.short d.mail x2.1 x2.2 := by rw [hx3, putM, hh, if_pos rfl]
      obtain ⟨hS, hat, hg⟩ := nameW_good (short := s.short) hs.1 G2
      rw [← e] at hS hat hg
      refine ⟨hS, fun C en he => ?_, fun h => (by cases h)⟩
      rw [if_pos rfl]
      exact (nameR_back (en := en) (hat.more C) (by have := hat.pos; omega) hs.2).2.1 he
  obtain ⟨hS3, R3, N3⟩ := h3
  exact ⟨B1, x2.1, x3.1, by rw [putD, ← hx2, ← hx3], hB1, hS2, hS3, R2, R3, E2, N2, N3⟩

/-- The data that was written is read, whatever stands ahead and behind. -/
theorem read_back {s : Sh} {d : Dt} {X Y : List UInt8} (sp : SoundP s d) (sh : ShP s) : readD ((putD s d X []).1 ++ Y) X.length (putD s d X []).1.length s = .ok d := by
  have hn := nums_fit sp.ok
  have hlt : (d.nums.take s.ahead).length = s.ahead := by rw [List.length_take, sp.n]; omega
  have hld : (d.nums.drop s.ahead).length = s.behind := by rw [List.length_drop, sp.n]; omega
  obtain ⟨B1, x2, x3, hput, hB1, ⟨S2, hS2⟩, ⟨S3, hS3⟩, R2, R3, _, _, _⟩ := parts X sp
  rw [hput]
  obtain ⟨T, hT⟩ : ∃ T, T = (((x3 ++ numsW 4 (d.nums.drop s.ahead)) ++ textsW d.texts) ++ d.bytes) ++ Y := ⟨_, rfl⟩
  obtain ⟨en, hen⟩ : ∃ en, en = (((x3 ++ numsW 4 (d.nums.drop s.ahead)) ++ textsW d.texts) ++ d.bytes).length := ⟨_, rfl⟩
  rw [← hT, ← hen]
  have l1 : x3.length ≤ en := by rw [hen]; simp only [List.length_append]; omega
  have l2 : x2.length ≤ x3.length := by rw [hS3, List.length_append]; omega
  have l3 : B1.length ≤ x2.length := by rw [hS2, List.length_append]; omega
  have q1 : numsR T X.length en 2 s.ahead = .ok (d.nums.take s.ahead, B1.length) := by
    have hTx : T = (X ++ numsW ((2 : Nat) : Int) (d.nums.take s.ahead)) ++ ((S2 ++ S3) ++ (numsW 4 (d.nums.drop s.ahead) ++ (textsW d.texts ++ (d.bytes ++ Y)))) := by
      rw [hT, hS3, hS2, hB1]
      simp [List.append_assoc]
    have hle : (X ++ numsW ((2 : Nat) : Int) (d.nums.take s.ahead)).length ≤ en := by
      have h1 : B1.length ≤ en := by omega
      rw [hB1] at h1
      exact h1
    have h := numsR_back (X := X) (Y := (S2 ++ S3) ++ (numsW 4 (d.nums.drop s.ahead) ++ (textsW d.texts ++ (d.bytes ++ Y)))) (en := en) hlt hn.1 hle
    rw [← hTx] at h
    rw [hB1]
    exact h
  have q2 := R2 (S3 ++ (numsW 4 (d.nums.drop s.ahead) ++ (textsW d.texts ++ (d.bytes ++ Y)))) en (by omega)
  rw [show x2 ++ (S3 ++ (numsW 4 (d.nums.drop s.ahead) ++ (textsW d.texts ++ (d.bytes ++ Y)))) = T by rw [hT, hS3]; simp [List.append_assoc]] at q2
  have q3 := R3 (numsW 4 (d.nums.drop s.ahead) ++ (textsW d.texts ++ (d.bytes ++ Y))) en l1
  rw [show x3 ++ (numsW 4 (d.nums.drop s.ahead) ++ (textsW d.texts ++ (d.bytes ++ Y))) = T by rw [hT]; simp [List.append_assoc]] at q3
  have l4 : (x3 ++ numsW 4 (d.nums.drop s.ahead)).length ≤ en := by rw [hen]; simp only [List.length_append]; omega
  have q4 : numsR T x3.length en 4 s.behind = .ok (d.nums.drop s.ahead, (x3 ++ numsW 4 (d.nums.drop s.ahead)).length) := by
    have h := numsR_back (s := 4) (X := x3) (Y := textsW d.texts ++ (d.bytes ++ Y)) (en := en) hld hn.2 l4
    rw [show (x3 ++ numsW ((4 : Nat) : Int) (d.nums.drop s.ahead)) ++ (textsW d.texts ++ (d.bytes ++ Y)) = T by rw [hT]; simp [List.append_assoc]] at h
    exact h
  obtain ⟨x4, hx4⟩ : ∃ x, x = x3 ++ numsW 4 (d.nums.drop s.ahead) := ⟨_, rfl⟩
  rw [← hx4] at q4 l4 hT hen
  have q5 : (if s.texts = true then textsR T x4.length en [] else .ok ([], x4.length)) = .ok (d.texts, (x4 ++ textsW d.texts).length) := by
    cases ht : s.texts
    · rw [sp.t0 ht, if_neg (by decide)]
      simp [textsW]
    · rw [if_pos rfl]
      have hb0 : d.bytes = [] := List.eq_nil_of_length_eq_zero (by have h1 := sp.b; have h2 := (sh.t ht).2.2.2.2.2; omega)
      have h := textsR_back d.texts [] x4 Y (by rw [List.nil_append]; intro e; have := sp.t1 ht; rw [e] at this; simp at this) (by have := sp.t; simpa using this) sp.tl
      have e1 : (x4 ++ textsW d.texts) ++ Y = T := by rw [hT, hb0]; simp
      have e2 : (x4 ++ textsW d.texts).length = en := by rw [hen, hb0]; simp
      rw [e1, e2, List.nil_append] at h
      rw [e2]
      exact h
  have q6 : bytesR T (x4 ++ textsW d.texts).length en s.least s.most = .ok (d.bytes, en) := by
    have h := bytesR_back (X := x4 ++ textsW d.texts) (Y := Y) sp.bl sp.b
    rw [← hT, ← hen] at h
    exact h
  unfold readD
  rw [q1]
  simp only [bind, Except.bind]
  rw [q2]
  simp only []
  rw [q3]
  simp only []
  rw [q4]
  simp only []
  rw [q5]
  simp only []
  rw [q6]
  simp

/-- A byte less is too little. -/
theorem read_short {s : Sh} {d : Dt} {X Y : List UInt8} (sp : SoundP s d) (sh : ShP s) (hb : d.bytes = []) (ht1 : d.texts.length ≤ 1) (hsz : X.length < (putD s d X []).1.length) :
    ∃ k, k ≠ 0 ∧ readD ((putD s d X []).1 ++ Y) X.length ((putD s d X []).1.length - 1) s = .error k := by
  have hn := nums_fit sp.ok
  have hlt : (d.nums.take s.ahead).length = s.ahead := by rw [List.length_take, sp.n]; omega
  have hld : (d.nums.drop s.ahead).length = s.behind := by rw [List.length_drop, sp.n]; omega
  obtain ⟨B1, x2, x3, hput, hB1, ⟨S2, hS2⟩, ⟨S3, hS3⟩, R2, R3, E2, N2, N3⟩ := parts X sp
  rw [hb, List.append_nil] at hput
  rw [hput] at hsz ⊢
  obtain ⟨T, hT⟩ : ∃ T, T = ((x3 ++ numsW 4 (d.nums.drop s.ahead)) ++ textsW d.texts) ++ Y := ⟨_, rfl⟩
  obtain ⟨en, hen⟩ : ∃ en, en = ((x3 ++ numsW 4 (d.nums.drop s.ahead)) ++ textsW d.texts).length := ⟨_, rfl⟩
  rw [← hen] at hsz
  rw [← hT, ← hen]
  have l2 : x2.length ≤ x3.length := by rw [hS3, List.length_append]; omega
  have l3 : B1.length ≤ x2.length := by rw [hS2, List.length_append]; omega
  have q1 : B1.length ≤ en - 1 → numsR T X.length (en - 1) 2 s.ahead = .ok (d.nums.take s.ahead, B1.length) := fun hle => by
    have hTx : T = (X ++ numsW ((2 : Nat) : Int) (d.nums.take s.ahead)) ++ ((S2 ++ S3) ++ (numsW 4 (d.nums.drop s.ahead) ++ (textsW d.texts ++ Y))) := by
      rw [hT, hS3, hS2, hB1]
      simp [List.append_assoc]
    have hle2 : (X ++ numsW ((2 : Nat) : Int) (d.nums.take s.ahead)).length ≤ en - 1 := by
      rw [hB1] at hle
      exact hle
    have h := numsR_back (X := X) (Y := (S2 ++ S3) ++ (numsW 4 (d.nums.drop s.ahead) ++ (textsW d.texts ++ Y))) (en := en - 1) hlt hn.1 hle2
    rw [← hTx] at h
    rw [hB1]
    exact h
  have hT2 : x2 ++ (S3 ++ (numsW 4 (d.nums.drop s.ahead) ++ (textsW d.texts ++ Y))) = T := by rw [hT, hS3]; simp [List.append_assoc]
  have hT3 : x3 ++ (numsW 4 (d.nums.drop s.ahead) ++ (textsW d.texts ++ Y)) = T := by rw [hT]; simp [List.append_assoc]
  cases hh : s.host
  · have ha := sh.n hh
    have hm : s.mail = false := by
      cases hx : s.mail
      · rfl
      · have := (sh.m hx).1; rw [hh] at this; cases this
    have hbe : s.behind = 0 := by
      rcases Nat.eq_zero_or_pos s.behind with h0 | h0
      · exact h0
      · have := sh.b h0; rw [hm] at this; cases this
    have hnil : d.nums = [] := List.eq_nil_of_length_eq_zero (by rw [sp.n, ha, hbe])
    have e1 : B1 = X := by rw [hB1, hnil]; simp [numsW]
    have e3 : x3 = X := by rw [N3 hm, N2 hh, e1]
    rw [hnil, List.drop_nil] at hT hen
    simp only [numsW, List.append_nil] at hT hen
    rw [e3] at hT hen
    cases ht : s.texts
    · rw [sp.t0 ht] at hen
      simp [textsW] at hen
      omega
    · have h1 := sp.t1 ht
      obtain ⟨t, hts⟩ : ∃ t, d.texts = [t] := List.length_eq_one_iff.1 (by omega)
      have htl := sp.tl t (by rw [hts]; simp)
      rw [hts] at hT hen
      have hfit : fitB (t.length : Int) ((1 : Nat) : Int) = true := fitB_true (by omega) (by omega) (by omega) (by simp; omega)
      obtain ⟨m, k, hm1, hk1, e, hm2, hl1⟩ := putL_fit hfit
      have hm' : m = t.length := by omega
      have hk' : k = 1 := by omega
      subst hm' hk'
      have e0 : putL [] (t.length : Int) 1 = digs t.length 1 := e
      simp only [textsW, e0, List.append_nil] at hT hen
      have hen2 : en = X.length + 1 + t.length := by rw [hen]; simp [length_digs]; omega
      have hq1 := q1 (by rw [e1]; omega)
      have q5 : ∃ k, k ≠ 0 ∧ textsR T X.length (en - 1) [] = .error k := by
        rcases Nat.eq_zero_or_pos t.length with h0 | h0
        · exact ⟨2, by decide, textsR_none (by omega)⟩
        · have hc1 : cutL T X.length 1 = digs t.length 1 := by
            rw [hT, show (X ++ (digs t.length 1 ++ t)) ++ Y = (X ++ digs t.length 1) ++ (t ++ Y) by simp [List.append_assoc], cutL_more (by rw [List.length_append, length_digs]; omega), cutL_behind]
          have hnn : numN (cutL T X.length 1) = t.length := by rw [hc1, numN_digs hm2]
          exact ⟨3, by decide, textsR_short (by omega) (by simp) (by rw [hnn]; omega)⟩
      obtain ⟨k, hk0, hk⟩ := q5
      refine ⟨k, hk0, ?_⟩
      unfold readD
      rw [hq1, e1]
      simp only [bind, Except.bind, hh, hm, hbe, ht]
      simp [numsR, numsL]
      rw [if_pos (by omega)]
      simp [hk]
  · obtain ⟨hlt2, herr⟩ := E2 hh
    have ht : s.texts = false := by
      cases hx : s.texts
      · rfl
      · have := (sh.t hx).1; rw [hh] at this; cases this
    cases hm : s.mail
    · have hbe : s.behind = 0 := by
        rcases Nat.eq_zero_or_pos s.behind with h0 | h0
        · exact h0
        · have := sh.b h0; rw [hm] at this; cases this
      have hdn : d.nums.drop s.ahead = [] := List.eq_nil_of_length_eq_zero (by rw [hld, hbe])
      have he : en = x2.length := by rw [hen, hdn, sp.t0 ht, N3 hm]; simp [numsW, textsW]
      have hq1 := q1 (by omega)
      have hq2 := herr (S3 ++ (numsW 4 (d.nums.drop s.ahead) ++ (textsW d.texts ++ Y))) (en - 1) (by omega)
      rw [hT2] at hq2
      refine ⟨3, by decide, ?_⟩
      unfold readD
      rw [hq1]
      simp only [bind, Except.bind, hh, if_true]
      rw [hq2]
    · have hbe := (sh.m hm).2
      have hw4 := length_numsW_fit 4 (d.nums.drop s.ahead) hn.2
      rw [hld] at hw4
      have he : en = x3.length + s.behind * 4 := by
        rw [hen, sp.t0 ht]
        simp only [textsW, List.append_nil, List.length_append]
        have : (numsW 4 (d.nums.drop s.ahead)).length = s.behind * 4 := hw4
        omega
      have hq1 := q1 (by omega)
      have hq2 := R2 (S3 ++ (numsW 4 (d.nums.drop s.ahead) ++ (textsW d.texts ++ Y))) (en - 1) (by omega)
      rw [hT2] at hq2
      have hq3 := R3 (numsW 4 (d.nums.drop s.ahead) ++ (textsW d.texts ++ Y)) (en - 1) (by omega)
      rw [hT3] at hq3
      have hq4 : numsR T x3.length (en - 1) 4 s.behind = .error 3 := by rw [numsR, if_neg (by omega)]
      refine ⟨3, by decide, ?_⟩
      unfold readD
      rw [hq1]
      simp only [bind, Except.bind]
      rw [hq2]
      simp only []
      rw [hq3]
      simp only []
      rw [hq4]

end Go.Proofs.YtmbcbfalgdgmjaaGreatDoor

namespace Go.Proofs.YtmbcbfalgdgmjaaGreatDoor
open Go.RowKit

theorem makeFunc_run (fn : Fn) (first cap : Array Value) (w : World) : (Instr.makeFunc fn first cap).run Tryz.prog w = .ok (.func fn first cap) w := rfl






























































































































































theorem no_data (w : World) (B : Nat) : OwnD w B ⟨none, none, none, none, none, 0, 0, 0, 0, 0⟩ ⟨[], [], [], [], []⟩ :=
  ⟨World.ownsRow_nil _ _ _ _, World.ownsRow_nil _ _ _ _, World.ownsRow_nil _ _ _ _, World.ownsRow_nil _ _ _ _, World.ownsRow_nil _ _ _ _⟩














































































end Go.Proofs.YtmbcbfalgdgmjaaGreatDoor

namespace Go.Proofs.YtmbcbfalgdgmjaaGreatDoor
open Go.RowKit

/-- The number of s bytes at p. -/
def numAt (b : List UInt8) (p s : Nat) : Nat := numN (cutL b p s)
/-- A TTL as it is read. -/
def ttlAt (b : List UInt8) (p : Nat) : Nat := if 2147483647 < numAt b p 4 then 0 else numAt b p 4
theorem getL_num {b : List UInt8} {p s : Nat} (h1 : 1 ≤ s) (h2 : s ≤ 7) (h : p + s ≤ b.length) : getL b p s = ((numAt b p s : Int), (0 : Int)) := getL_ok h1 h2 h
theorem numAt_lt (b : List UInt8) (p s : Nat) : numAt b p s < 2 ^ (8 * s) := by
  unfold numAt
  have h := numN_lt (cutL b p s)
  have h2 : (cutL b p s).length ≤ s := by unfold cutL; simp; omega
  rw [show (256 : Nat) = 2 ^ 8 by rfl, ← Nat.pow_mul] at h
  exact Nat.lt_of_lt_of_le h (Nat.pow_le_pow_right (by omega) (by omega))
































































end Go.Proofs.YtmbcbfalgdgmjaaGreatDoor

namespace Go.Proofs.YtmbcbfalgdgmjaaGreatDoor
open Go.RowKit

theorem nextR_le {b : List UInt8} {x p : Nat} (hx : x ≤ b.length) (hp : p ≤ b.length) : nextR x p ≤ b.length := by
  unfold nextR
  split <;> assumption
theorem getR_le (b : List UInt8) (p q x : Nat) (n : List (List UInt8)) (hx : x ≤ b.length) : (getR b p q x n).2.1 ≤ b.length := by
  fun_induction getR b p q x n
  all_goals first
    | exact Nat.zero_le _
    | exact nextR_le hx (by omega)
    | (rename_i ih; exact ih (nextR_le hx (by omega)))
    | (rename_i ih; exact ih hx)
theorem getW_le (b : List UInt8) (a : Int) : (getW b a).2.1 ≤ b.length := by
  unfold getW
  split
  · exact Nat.zero_le _
  · exact getR_le b _ _ 0 [] (Nat.zero_le _)

def zeroR : Rt := ⟨[], 0, 0, 0, ⟨[], [], [], [], []⟩⟩
def zeroV : RV := ⟨none, 0, ⟨none, none, none, none, none, 0, 0, 0, 0, 0⟩⟩
theorem zero_own (w : World) (B : Nat) : OwnR w B zeroV zeroR := ⟨World.ownsRow_nil _ _ _ _, no_data w B⟩
/-- The record that begins at a, and the place behind it. -/
def getRR (b : List UInt8) (a : Int) : Rt × Nat × Nat :=
  if (getW b a).2.2 ≠ 0 then (zeroR, 0, (getW b a).2.2) else
  if b.length < (getW b a).2.1 + 10 then (zeroR, 0, 3) else
  if numAt b (getW b a).2.1 2 = 0 then (zeroR, 0, 2) else
  if (getD b (((getW b a).2.1 : Int) + 10) (numAt b ((getW b a).2.1 + 8) 2) (numAt b (getW b a).2.1 2)).2 ≠ 0 then (zeroR, 0, (getD b (((getW b a).2.1 : Int) + 10) (numAt b ((getW b a).2.1 + 8) 2) (numAt b (getW b a).2.1 2)).2) else
  (⟨(getW b a).1, numAt b (getW b a).2.1 2, numAt b ((getW b a).2.1 + 2) 2, ttlAt b ((getW b a).2.1 + 4), (getD b (((getW b a).2.1 : Int) + 10) (numAt b ((getW b a).2.1 + 8) 2) (numAt b (getW b a).2.1 2)).1⟩, (getW b a).2.1 + 10 + numAt b ((getW b a).2.1 + 8) 2, 0)
/-- What the call leaves: a record in slices of its own, the place, the error. -/
def GotR (w : World) (r : Rt × Nat × Nat) (e : Ending) (w' : World) : Prop :=
  ∃ x : RV, e = .returned (.tuple #[x.val r.1, .int .i64 r.2.1, .int .i64 r.2.2]) ∧ OwnR w' w.heap.size x r.1 ∧ Below w.heap.size w w'









































































































































































































































































































end Go.Proofs.YtmbcbfalgdgmjaaGreatDoor

namespace Go.Proofs.YtmbcbfalgdgmjaaGreatDoor
open Go.RowKit

/-- What stands where. -/
theorem partsR {s : Sh} {d : Dt} (X : List UInt8) {R : Rs} (G0 : GoodR X R) (sp : SoundP s d) : ∃ B1 x2 x3 : List UInt8,
    (putD s d X R).1 = ((x3 ++ numsW 4 (d.nums.drop s.ahead)) ++ textsW d.texts) ++ d.bytes ∧ B1 = X ++ numsW 2 (d.nums.take s.ahead) ∧ (∃ S, x2 = B1 ++ S) ∧ (∃ S, x3 = x2 ++ S) ∧
    (∀ C en, x2.length ≤ en → (if s.host = true then nameR (x2 ++ C) B1.length en else .ok ([], B1.length)) = .ok (d.host, x2.length)) ∧
    (∀ C en, x3.length ≤ en → (if s.mail = true then nameR (x3 ++ C) x2.length en else .ok ([], x2.length)) = .ok (d.mail, x3.length)) ∧
    (s.host = true → B1.length < x2.length ∧ ∀ C en, en < x2.length → nameR (x2 ++ C) B1.length en = .error 3) ∧ (s.host = false → x2 = B1) ∧ (s.mail = false → x3 = x2) ∧ GoodR (putD s d X R).1 (putD s d X R).2 := by
  obtain ⟨B1, hB1⟩ : ∃ x, x = X ++ numsW 2 (d.nums.take s.ahead) := ⟨_, rfl⟩
  have G1 : GoodR B1 R := by rw [hB1]; exact G0.more _
  obtain ⟨x2, hx2⟩ : ∃ x, x = putH s d X R := ⟨_, rfl⟩
  have h2 : (∃ S, x2.1 = B1 ++ S) ∧ GoodR x2.1 x2.2 ∧ (∀ C en, x2.1.length ≤ en → (if s.host = true then nameR (x2.1 ++ C) B1.length en else .ok ([], B1.length)) = .ok (d.host, x2.1.length)) ∧
      (s.host = true → B1.length < x2.1.length ∧ ∀ C en, en < x2.1.length → nameR (x2.1 ++ C) B1.length en = .error 3) ∧ (s.host = false → x2.1 = B1) := by
    cases hh : s.host
    · have e : x2 = (B1, R) := by rw [hx2, putH, hh, if_neg (by decide), hB1]
      rw [e, sp.h0 hh]
      exact ⟨⟨[], by simp⟩, G1, fun C en _ => rfl, fun h => (by cases h), fun _ => rfl⟩
    · have hs := soundN_parts (sp.h hh)
      have e : x2 = nameW s.short d.host B1 R := by rw [hx2, putH, hh, if_pos rfl, hB1]
      obtain ⟨hS, hat, hg⟩ := nameW_good (short := s.short) hs.1 G1
      rw [← e] at hS hat hg
      refine ⟨hS, hg, fun C en he => ?_, fun _ => ⟨hat.pos, fun C en he => ?_⟩, fun h => (by cases h)⟩
      · rw [if_pos rfl]
        exact (nameR_back (en := en) (hat.more C) (by have := hat.pos; omega) hs.2).2.1 he
      · exact (nameR_back (en := en) (hat.more C) (by have := hat.pos; omega) hs.2).2.2 he
  obtain ⟨hS2, G2, R2, E2, N2⟩ := h2
  obtain ⟨x3, hx3⟩ : ∃ x, x = putM s d x2 := ⟨_, rfl⟩
  have h3 : (∃ S, x3.1 = x2.1 ++ S) ∧ GoodR x3.1 x3.2 ∧ (∀ C en, x3.1.length ≤ en → (if s.mail = true then nameR (x3.1 ++ C) x2.1.length en else .ok ([], x2.1.length)) = .ok (d.mail, x3.1.length)) ∧ (s.mail = false → x3.1 = x2.1) := by
    cases hh : s.mail
    · have e : x3 = x2 := by rw [hx3, putM, hh, if_neg (by decide)]
      rw [e, sp.m0 hh]
      exact ⟨⟨[], by simp⟩, G2, fun C en _ => rfl, fun _ => rfl⟩
    · have hs := soundN_parts (sp.m hh)
      have e : x3 = nameW s.short d.mail x2.1 x2.2 := by rw [hx3, putM, hh, if_pos rfl]
      obtain ⟨hS, hat, hg⟩ := nameW_good (short := s.short) hs.1 G2
      rw [← e] at hS hat hg
      refine ⟨hS, hg, fun C en he => ?_, fun h => (by cases h)⟩
      rw [if_pos rfl]
      exact (nameR_back (en := en) (hat.more C) (by have := hat.pos; omega) hs.2).2.1 he
  obtain ⟨hS3, G3, R3, N3⟩ := h3
  exact ⟨B1, x2.1, x3.1, by rw [putD, ← hx2, ← hx3], hB1, hS2, hS3, R2, R3, E2, N2, N3, by rw [putD, ← hx2, ← hx3]; exact ((G3.more _).more _).more _⟩

/-- The data that was written is read, whatever stands ahead and behind. -/
theorem readR {s : Sh} {d : Dt} {X Y : List UInt8} {R : Rs} (G0 : GoodR X R) (sp : SoundP s d) (sh : ShP s) : readD ((putD s d X R).1 ++ Y) X.length (putD s d X R).1.length s = .ok d := by
  have hn := nums_fit sp.ok
  have hlt : (d.nums.take s.ahead).length = s.ahead := by rw [List.length_take, sp.n]; omega
  have hld : (d.nums.drop s.ahead).length = s.behind := by rw [List.length_drop, sp.n]; omega
  obtain ⟨B1, x2, x3, hput, hB1, ⟨S2, hS2⟩, ⟨S3, hS3⟩, R2, R3, _, _, _, _⟩ := partsR X G0 sp
  rw [hput]
  obtain ⟨T, hT⟩ : ∃ T, T = (((x3 ++ numsW 4 (d.nums.drop s.ahead)) ++ textsW d.texts) ++ d.bytes) ++ Y := ⟨_, rfl⟩
  obtain ⟨en, hen⟩ : ∃ en, en = (((x3 ++ numsW 4 (d.nums.drop s.ahead)) ++ textsW d.texts) ++ d.bytes).length := ⟨_, rfl⟩
  rw [← hT, ← hen]
  have l1 : x3.length ≤ en := by rw [hen]; simp only [List.length_append]; omega
  have l2 : x2.length ≤ x3.length := by rw [hS3, List.length_append]; omega
  have l3 : B1.length ≤ x2.length := by rw [hS2, List.length_append]; omega
  have q1 : numsR T X.length en 2 s.ahead = .ok (d.nums.take s.ahead, B1.length) := by
    have hTx : T = (X ++ numsW ((2 : Nat) : Int) (d.nums.take s.ahead)) ++ ((S2 ++ S3) ++ (numsW 4 (d.nums.drop s.ahead) ++ (textsW d.texts ++ (d.bytes ++ Y)))) := by
      rw [hT, hS3, hS2, hB1]
      simp [List.append_assoc]
    have hle : (X ++ numsW ((2 : Nat) : Int) (d.nums.take s.ahead)).length ≤ en := by
      have h1 : B1.length ≤ en := by omega
      rw [hB1] at h1
      exact h1
    have h := numsR_back (X := X) (Y := (S2 ++ S3) ++ (numsW 4 (d.nums.drop s.ahead) ++ (textsW d.texts ++ (d.bytes ++ Y)))) (en := en) hlt hn.1 hle
    rw [← hTx] at h
    rw [hB1]
    exact h
  have q2 := R2 (S3 ++ (numsW 4 (d.nums.drop s.ahead) ++ (textsW d.texts ++ (d.bytes ++ Y)))) en (by omega)
  rw [show x2 ++ (S3 ++ (numsW 4 (d.nums.drop s.ahead) ++ (textsW d.texts ++ (d.bytes ++ Y)))) = T by rw [hT, hS3]; simp [List.append_assoc]] at q2
  have q3 := R3 (numsW 4 (d.nums.drop s.ahead) ++ (textsW d.texts ++ (d.bytes ++ Y))) en l1
  rw [show x3 ++ (numsW 4 (d.nums.drop s.ahead) ++ (textsW d.texts ++ (d.bytes ++ Y))) = T by rw [hT]; simp [List.append_assoc]] at q3
  have l4 : (x3 ++ numsW 4 (d.nums.drop s.ahead)).length ≤ en := by rw [hen]; simp only [List.length_append]; omega
  have q4 : numsR T x3.length en 4 s.behind = .ok (d.nums.drop s.ahead, (x3 ++ numsW 4 (d.nums.drop s.ahead)).length) := by
    have h := numsR_back (s := 4) (X := x3) (Y := textsW d.texts ++ (d.bytes ++ Y)) (en := en) hld hn.2 l4
    rw [show (x3 ++ numsW ((4 : Nat) : Int) (d.nums.drop s.ahead)) ++ (textsW d.texts ++ (d.bytes ++ Y)) = T by rw [hT]; simp [List.append_assoc]] at h
    exact h
  obtain ⟨x4, hx4⟩ : ∃ x, x = x3 ++ numsW 4 (d.nums.drop s.ahead) := ⟨_, rfl⟩
  rw [← hx4] at q4 l4 hT hen
  have q5 : (if s.texts = true then textsR T x4.length en [] else .ok ([], x4.length)) = .ok (d.texts, (x4 ++ textsW d.texts).length) := by
    cases ht : s.texts
    · rw [sp.t0 ht, if_neg (by decide)]
      simp [textsW]
    · rw [if_pos rfl]
      have hb0 : d.bytes = [] := List.eq_nil_of_length_eq_zero (by have h1 := sp.b; have h2 := (sh.t ht).2.2.2.2.2; omega)
      have h := textsR_back d.texts [] x4 Y (by rw [List.nil_append]; intro e; have := sp.t1 ht; rw [e] at this; simp at this) (by have := sp.t; simpa using this) sp.tl
      have e1 : (x4 ++ textsW d.texts) ++ Y = T := by rw [hT, hb0]; simp
      have e2 : (x4 ++ textsW d.texts).length = en := by rw [hen, hb0]; simp
      rw [e1, e2, List.nil_append] at h
      rw [e2]
      exact h
  have q6 : bytesR T (x4 ++ textsW d.texts).length en s.least s.most = .ok (d.bytes, en) := by
    have h := bytesR_back (X := x4 ++ textsW d.texts) (Y := Y) sp.bl sp.b
    rw [← hT, ← hen] at h
    exact h
  unfold readD
  rw [q1]
  simp only [bind, Except.bind]
  rw [q2]
  simp only []
  rw [q3]
  simp only []
  rw [q4]
  simp only []
  rw [q5]
  simp only []
  rw [q6]
  simp


/-- The read of what was written. -/
theorem getR_data {k : Int} {d : Dt} {X Y : List UInt8} {R : Rs} (G0 : GoodR X R) (hs : soundD k d = true) : X.length ≤ (putD (shN k) d X R).1.length ∧ (∃ S, (putD (shN k) d X R).1 = X ++ S) ∧ GoodR (putD (shN k) d X R).1 (putD (shN k) d X R).2 ∧
    getD ((putD (shN k) d X R).1 ++ Y) X.length (((putD (shN k) d X R).1.length - X.length : Nat) : Int) k = (d, 0) := by
  have sp := soundP hs
  have hk : kindB k = true := by unfold soundD at hs; simp only [Bool.and_eq_true] at hs; exact hs.1
  obtain ⟨B1, x2, x3, hput, hB1, ⟨S2, hS2⟩, ⟨S3, hS3⟩, _, _, _, _, _, hg⟩ := partsR X G0 sp
  have hS : ∃ S, (putD (shN k) d X R).1 = X ++ S := ⟨_, by rw [hput, hS3, hS2, hB1]; simp only [List.append_assoc]; rfl⟩
  have hle : X.length ≤ (putD (shN k) d X R).1.length := by obtain ⟨S, e⟩ := hS; rw [e, List.length_append]; omega
  have hr := readR (Y := Y) G0 sp (shP k)
  refine ⟨hle, hS, hg, ?_⟩
  unfold getD
  rw [if_neg (by rw [hk]; first | (simp; done) | (simp; omega)), if_neg (by rw [List.length_append]; omega), Int.toNat_natCast, show ((X.length : Int) + (((putD (shN k) d X R).1.length - X.length : Nat) : Int)).toNat = (putD (shN k) d X R).1.length by omega, hr]

/-- What is written of a name hangs on the place alone. -/
theorem nameW_shift (short : Bool) : ∀ (n : List (List UInt8)) (B C : List UInt8) (R : Rs), B.length = C.length → ∃ W R', nameW short n B R = (B ++ W, R') ∧ nameW short n C R = (C ++ W, R')
  | [], B, C, R, _ => ⟨[0], R, rfl, rfl⟩
  | l :: n, B, C, R, h => by
    cases hf : findR R (l :: n) with
    | none =>
      obtain ⟨W, R', h1, h2⟩ := nameW_shift short n (B ++ UInt8.ofNat l.length :: l) (C ++ UInt8.ofNat l.length :: l) (if B.length < 16384 then R ++ [(l :: n, B.length)] else R) (by simp [h])
      refine ⟨(UInt8.ofNat l.length :: l) ++ W, R', ?_, ?_⟩
      · rw [nameW_miss hf, h1]; simp
      · rw [nameW_miss hf, ← h, h2]; simp
    | some k =>
      cases short with
      | false =>
        obtain ⟨W, R', h1, h2⟩ := nameW_shift false n (B ++ UInt8.ofNat l.length :: l) (C ++ UInt8.ofNat l.length :: l) (if B.length < 16384 then R ++ [(l :: n, B.length)] else R) (by simp [h])
        refine ⟨(UInt8.ofNat l.length :: l) ++ W, R', ?_, ?_⟩
        · rw [nameW_long, h1]; simp
        · rw [nameW_long, ← h, h2]; simp
      | true => exact ⟨digs (49152 + k) 2, R, nameW_hit hf, nameW_hit hf⟩
theorem putD_shift (s : Sh) (d : Dt) (B C : List UInt8) (R : Rs) (h : B.length = C.length) : ∃ W R', putD s d B R = (B ++ W, R') ∧ putD s d C R = (C ++ W, R') := by
  have hH : ∃ W R', putH s d B R = (B ++ W, R') ∧ putH s d C R = (C ++ W, R') := by
    unfold putH
    split
    · obtain ⟨W, R', h1, h2⟩ := nameW_shift s.short d.host (B ++ numsW 2 (d.nums.take s.ahead)) (C ++ numsW 2 (d.nums.take s.ahead)) R (by simp [h])
      exact ⟨numsW 2 (d.nums.take s.ahead) ++ W, R', by rw [h1]; simp, by rw [h2]; simp⟩
    · exact ⟨numsW 2 (d.nums.take s.ahead), R, rfl, rfl⟩
  obtain ⟨W, R1, h1, h2⟩ := hH
  have hM : ∃ W2 R', putM s d (B ++ W, R1) = (B ++ W2, R') ∧ putM s d (C ++ W, R1) = (C ++ W2, R') := by
    unfold putM
    split
    · obtain ⟨W2, R', h3, h4⟩ := nameW_shift s.short d.mail (B ++ W) (C ++ W) R1 (by simp [h])
      exact ⟨W ++ W2, R', by rw [h3]; simp, by rw [h4]; simp⟩
    · exact ⟨W, R1, rfl, rfl⟩
  obtain ⟨W2, R', h3, h4⟩ := hM
  refine ⟨(W2 ++ numsW 4 (d.nums.drop s.ahead)) ++ textsW d.texts ++ d.bytes, R', ?_, ?_⟩
  · unfold putD
    rw [h1, h3]
    simp
  · unfold putD
    rw [h2, h4]
    simp

end Go.Proofs.YtmbcbfalgdgmjaaGreatDoor

namespace Go.Proofs.YtmbcbfalgdgmjaaGreatDoor
open Go.RowKit

/-- copy into a row that is known whole, as one step of a region that draws: nothing but that row turns. -/
theorem step_copy_at {P : Program} {ops : Array Oper} {o : Oper} {a : Act} {w : World} {K : Act → World → Prop} {Q : Exit → Act → World → Prop} {E : Prop} (hgd : o.guard = none) (d s : Operand) (dT sT : TypeId)
    (ho : o.op = .call { callee := .builtin .copy, args := #[d, s], argTypes := #[dT, sT] }) (elem : TypeId) (hu : P.underlying dT = some (.slice elem)) (hsz : (P.info? elem).map (·.size) = some 1)
    (sp : Option Addr) (dLen dCap sLen sCap : Nat) (g off : Nat) (hd : a.eval d = .slice (some ⟨g, off, none⟩) dLen dCap) (hs : a.eval s = .slice sp sLen sCap)
    (cur : List Value) (t : TypeId) (hg : w.heap[g]? = some (.cells cur.toArray t (0, 0))) (H : Nat) (cs : List Value) (hn : cs.length = Nat.min sLen dLen) (hpos : 0 < cs.length) (hr : Row w H sp cs)
    (hfit : off + cs.length ≤ cur.length) (h1 : ∀ v ∈ cs, v.oneCell' = true)
    (h : ∀ w', Hid (w'.heap[g]? = some (.cells (splice cur off cs).toArray t (0, 0))) → Grew (· = g) w w' → K (a.put o.dst (goInt cs.length)) w') :
    if Region.wanted o (yielded ops a.tmps) = true then Oper.wp P o a w K Q else E := by
  have hw : Region.wanted o (yielded ops a.tmps) = true := by simp [Region.wanted, hgd]
  rw [if_pos hw]
  obtain ⟨ad, rfl, hsrc⟩ := hr.pos hpos
  have hrun := run_copy_row (P := P) w dT sT o.type elem g off dLen dCap ad sLen sCap cur.toArray t cs hu hsz hg hn hsrc (by simpa using hfit) h1
  unfold Oper.wp
  simp [execOp, ho, resolve, invoke, builtin, hd, hs, hrun, Result.andThen]
  refine h _ (show _ = _ by simpa [splice] using setRow_heap w g _ _ t _ hg) ⟨rfl, rfl, rfl, by simp, fun k _ hk => ?_⟩
  exact setRow_other w g k _ hk

/-- B with l in the place of the bytes from p on. -/
def setB (B : List UInt8) (p : Nat) (l : List UInt8) : List UInt8 := B.take p ++ (l ++ B.drop (p + l.length))
theorem length_setB {B : List UInt8} {p : Nat} {l : List UInt8} (h : p + l.length ≤ B.length) : (setB B p l).length = B.length := by
  simp [setB]; omega
theorem take_splice {α : Type} {L M : List α} {p m : Nat} {cs : List α} (hL : L.take m = M) (hm : M.length = m) (hp : p + cs.length ≤ m) : (splice L p cs).take m = M.take p ++ (cs ++ M.drop (p + cs.length)) := by
  have hml : m ≤ L.length := by rw [← hL, List.length_take] at hm; omega
  unfold splice
  rw [← hL, List.take_take, Nat.min_eq_left (by omega), List.take_append, List.take_append]
  simp only [List.length_take, List.drop_take]
  congr 1
  · rw [List.take_take]; congr 1; omega
  · congr 1
    · exact List.take_of_length_le (by omega)
    · congr 1; omega






























theorem fitB_size {n s : Int} (hf : fitB n s = true) : 1 ≤ s ∧ s ≤ 7 ∧ 0 ≤ n := by
  simp only [fitB, decide_eq_true_eq] at hf
  exact ⟨hf.1, hf.2.1, hf.2.2.1⟩












































































































end Go.Proofs.YtmbcbfalgdgmjaaGreatDoor

namespace Go.Proofs.YtmbcbfalgdgmjaaGreatDoor
open Go.RowKit

/-- May a record be? -/
def soundR (r : Rt) : Bool := soundN r.name && (soundD r.kind r.data && (fitB r.cls 2 && (decide (0 ≤ r.ttl) && decide (r.ttl ≤ 2147483647))))
structure SoundR (r : Rt) : Prop where
  n : soundN r.name = true
  d : soundD r.kind r.data = true
  c : fitB r.cls 2 = true
  t0 : 0 ≤ r.ttl
  t1 : r.ttl ≤ 2147483647
theorem soundR_iff {r : Rt} : soundR r = true ↔ SoundR r := by
  unfold soundR
  simp only [Bool.and_eq_true, decide_eq_true_eq]
  exact ⟨fun ⟨a, b, c, d, e⟩ => ⟨a, b, c, d, e⟩, fun ⟨a, b, c, d, e⟩ => ⟨a, b, c, d, e⟩⟩

/-- A record's name, and what stands ahead of the number that tells its data's length. -/
def putH8 (r : Rt) (B : List UInt8) (R : Rs) : List UInt8 := (((nameW true r.name B R).1 ++ putL [] r.kind 2) ++ putL [] r.cls 2) ++ putL [] r.ttl 4
/-- Its data, behind a length that is still 0. -/
def putD0 (r : Rt) (B : List UInt8) (R : Rs) : List UInt8 × Rs := putD (shN r.kind) r.data (putH8 r B R ++ putL [] 0 2) (nameW true r.name B R).2
/-- A record, behind B with the rests R. -/
def putRR (r : Rt) (B : List UInt8) (R : Rs) : List UInt8 × Rs :=
  (setB (putD0 r B R).1 (putH8 r B R).length (digs ((putD0 r B R).1.length - ((putH8 r B R).length + 2)) 2), (putD0 r B R).2)

theorem putD_room {k : Int} {d : Dt} (hs : soundD k d = true) (B : List UInt8) (R : Rs) : (putD (shN k) d B R).1.length ≤ B.length + 65535 := by
  have sp := soundP hs
  have n1 := length_numsW 2 (d.nums.take (shN k).ahead)
  have n2 := length_numsW 4 (d.nums.drop (shN k).ahead)
  rw [List.length_take] at n1
  rw [List.length_drop] at n2
  have n3 := sp.n
  have n4 := length_textsW 255 d.texts sp.tl
  have n5 : (255 + 7) * d.texts.length ≤ (255 + 7) * 64 := Nat.mul_le_mul_left _ sp.t
  have n6 := sp.b
  have hH : (putH (shN k) d B R).1.length ≤ B.length + (numsW 2 (d.nums.take (shN k).ahead)).length + (if (shN k).host = true then 255 else 0) := by
    unfold putH
    cases hh : (shN k).host
    · simp only [Bool.false_eq_true, if_false, List.length_append]
      omega
    · have hs := soundN_parts (sp.h hh)
      simp only [if_true]
      have := length_nameW_le (shN k).short d.host (B ++ numsW 2 (d.nums.take (shN k).ahead)) R hs.1
      rw [List.length_append] at this
      omega
  have hM : (putM (shN k) d (putH (shN k) d B R)).1.length ≤ B.length + (numsW 2 (d.nums.take (shN k).ahead)).length + (if (shN k).host = true then 255 else 0) + (if (shN k).mail = true then 255 else 0) := by
    unfold putM
    cases hh : (shN k).mail
    · simp only [Bool.false_eq_true, if_false]
      omega
    · have hs := soundN_parts (sp.m hh)
      simp only [if_true]
      have := length_nameW_le (shN k).short d.mail (putH (shN k) d B R).1 (putH (shN k) d B R).2 hs.1
      omega
  have hlen : (putD (shN k) d B R).1.length = (putM (shN k) d (putH (shN k) d B R)).1.length + (numsW 4 (d.nums.drop (shN k).ahead)).length + (textsW d.texts).length + d.bytes.length := by
    unfold putD
    simp only [List.length_append]
  have h10 := shN_small k
  rcases shN_cases k with hk | hk | hk | hk | hk | hk | hk | hk | hk | hk
  case inr.inr.inr.inr.inr.inr.inr.inr.inr =>
    rw [shN_other hk] at *
    have t0 := sp.t0 rfl
    rw [t0] at hlen
    simp only [textsW, List.length_nil, Bool.false_eq_true, if_false] at *
    omega
  all_goals
    have hm : (shN k).most ≤ 16 := by rw [hk]; decide
    have i1 : (if (shN k).host = true then 255 else 0) ≤ 255 := by split <;> omega
    have i2 : (if (shN k).mail = true then 255 else 0) ≤ 255 := by split <;> omega
    omega

theorem length_putD_rests {k : Int} {d : Dt} (hs : soundD k d = true) (B : List UInt8) (R : Rs) : (putD (shN k) d B R).2.length ≤ R.length + 600 := by
  have sp := soundP hs
  have hH : (putH (shN k) d B R).2.length ≤ R.length + 255 := by
    unfold putH
    cases hh : (shN k).host
    · simp only [Bool.false_eq_true, if_false]
      omega
    · have hs := soundN_parts (sp.h hh)
      simp only [if_true]
      have h1 := length_nameW_rests (shN k).short d.host (B ++ numsW 2 (d.nums.take (shN k).ahead)) R
      have h2 := length_lt_szN d.host
      omega
  unfold putD
  dsimp only
  unfold putM
  cases hh : (shN k).mail
  · simp only [Bool.false_eq_true, if_false]
    omega
  · have hs := soundN_parts (sp.m hh)
    simp only [if_true]
    have h1 := length_nameW_rests (shN k).short d.mail (putH (shN k) d B R).1 (putH (shN k) d B R).2
    have h2 := length_lt_szN d.mail
    omega

theorem numAt_digs {P Q : List UInt8} {m s : Nat} (hm : m < 2 ^ (8 * s)) : numAt ((P ++ digs m s) ++ Q) P.length s = m := by
  unfold numAt cutL
  rw [List.append_assoc, List.drop_left, List.take_append_of_le_length (by rw [length_digs]; exact Nat.le_refl _), List.take_of_length_le (by rw [length_digs]; exact Nat.le_refl _), numN_digs hm]

theorem setB_mid (P l W : List UInt8) (m : List UInt8) (h : l.length = m.length) : setB ((P ++ l) ++ W) P.length m = (P ++ m) ++ W := by
  unfold setB
  rw [List.append_assoc, List.take_left, ← h, List.drop_append, List.drop_of_length_le (by omega)]
  simp

/-- What Put writes is what is written of the data behind its length. -/
theorem putRR_eq {r : Rt} {B : List UInt8} {R : Rs} (hs : SoundR r) : ∃ W : List UInt8, W.length ≤ 65535 ∧
    putRR r B R = putD (shN r.kind) r.data (putH8 r B R ++ digs W.length 2) (nameW true r.name B R).2 ∧ (putRR r B R).1 = (putH8 r B R ++ digs W.length 2) ++ W ∧ (putD0 r B R).1 = (putH8 r B R ++ putL [] 0 2) ++ W := by
  have h0 : putL [] 0 2 = digs 0 2 := by decide +kernel
  obtain ⟨W, R', h1, _⟩ := putD_shift (shN r.kind) r.data (putH8 r B R ++ putL [] 0 2) (putH8 r B R ++ putL [] 0 2) (nameW true r.name B R).2 rfl
  obtain ⟨W2, R2, h3, h4⟩ := putD_shift (shN r.kind) r.data (putH8 r B R ++ putL [] 0 2) (putH8 r B R ++ digs W.length 2) (nameW true r.name B R).2 (by rw [h0]; simp [length_digs])
  rw [h1] at h3
  injection h3 with h5 h6
  have hW := List.append_cancel_left h5
  subst hW; subst h6
  have hd : putD0 r B R = ((putH8 r B R ++ putL [] 0 2) ++ W, R') := h1
  have hlen : (putD0 r B R).1.length - ((putH8 r B R).length + 2) = W.length := by rw [hd, h0]; simp [length_digs]; omega
  have hroom := putD_room hs.d (putH8 r B R ++ putL [] 0 2) (nameW true r.name B R).2
  rw [h1] at hroom
  simp only [List.length_append] at hroom
  have he : putRR r B R = ((putH8 r B R ++ digs W.length 2) ++ W, R') := by
    unfold putRR
    rw [hlen, hd]
    dsimp only
    rw [setB_mid _ _ _ _ (by rw [h0]; simp [length_digs])]
  exact ⟨W, by omega, by rw [he, h4], by rw [he], by rw [hd]⟩

/-- A record that was put is read as it is, whatever stands behind it. -/
theorem putRR_back {r : Rt} {B : List UInt8} {R : Rs} (hs : SoundR r) (G : GoodR B R) :
    (∃ S, (putRR r B R).1 = B ++ S) ∧ GoodR (putRR r B R).1 (putRR r B R).2 ∧ (putRR r B R).1.length ≤ B.length + 70000 ∧ (putRR r B R).2.length ≤ R.length + 900 ∧ ∀ Y, getRR ((putRR r B R).1 ++ Y) B.length = (r, (putRR r B R).1.length, 0) := by
  have hp := soundN_parts hs.n
  obtain ⟨⟨S0, hS0⟩, hat, hg⟩ := nameW_good (short := true) hp.1 G
  have hlx := length_nameW_le true r.name B R hp.1
  obtain ⟨W, hW, h1, h2, _⟩ := putRR_eq (B := B) (R := R) hs
  have hkd : kindB r.kind = true := by have h := hs.d; unfold soundD at h; simp only [Bool.and_eq_true] at h; exact h.1
  simp only [kindB, decide_eq_true_eq] at hkd
  obtain ⟨k, hk⟩ : ∃ k : Nat, r.kind = k := ⟨r.kind.toNat, by omega⟩
  obtain ⟨c, s2, hc, hs2, _, hclt, _⟩ := putL_fit hs.c
  obtain rfl : s2 = 2 := by omega
  obtain ⟨t, ht⟩ : ∃ t : Nat, r.ttl = t := ⟨r.ttl.toNat, by have := hs.t0; omega⟩
  have htb := hs.t1
  have hk16 : k < 2 ^ (8 * 2) := by simp; omega
  have ht32 : t < 2 ^ (8 * 4) := by simp; omega
  have fk : putL [] r.kind 2 = digs k 2 := by
    have h := putL_yes (l := []) (n := k) (s := 2) (fitB_true (by omega) (by omega) (by omega) (by simp; omega))
    rw [List.nil_append] at h
    rw [hk]; exact h
  have fc : putL [] r.cls 2 = digs c 2 := by
    have hcf := hs.c
    rw [hc] at hcf
    have h := putL_yes (l := []) (n := c) (s := 2) hcf
    rw [List.nil_append] at h
    rw [hc]; exact h
  have ft : putL [] r.ttl 4 = digs t 4 := by
    have h := putL_yes (l := []) (n := t) (s := 4) (fitB_true (by omega) (by omega) (by omega) (by simp; omega))
    rw [List.nil_append] at h
    rw [ht]; exact h
  obtain ⟨P, hP⟩ : ∃ P, P = (nameW true r.name B R).1 := ⟨_, rfl⟩
  have h8 : putH8 r B R = ((P ++ digs k 2) ++ digs c 2) ++ digs t 4 := by unfold putH8; rw [fk, fc, ft, hP]
  obtain ⟨X, hX⟩ : ∃ X, X = putH8 r B R ++ digs W.length 2 := ⟨_, rfl⟩
  have hXl : X.length = P.length + 10 := by rw [hX, h8]; simp [length_digs]
  have GX : GoodR X (nameW true r.name B R).2 := by
    rw [hX, h8, hP]
    exact (((hg.more _).more _).more _).more _
  rw [← hX] at h1 h2
  obtain ⟨_, ⟨S1, hS1⟩, hG2, _⟩ := getR_data (Y := []) GX hs.d
  have hlen : (putRR r B R).1.length = X.length + W.length := by rw [h2, List.length_append]
  have hrest : (putRR r B R).2.length ≤ R.length + 900 := by
    rw [h1]
    have a1 := length_nameW_rests true r.name B R
    have a2 := length_lt_szN r.name
    have a3 := length_putD_rests hs.d X (nameW true r.name B R).2
    omega
  refine ⟨?_, by rw [h1]; exact hG2, ?_, hrest, fun Y => ?_⟩
  · rw [h2, hX, h8, hP, hS0]
    exact ⟨_, by simp only [List.append_assoc]; rfl⟩
  · rw [hlen, hXl, hP]
    omega
  · have hgd := (getR_data (Y := Y) GX hs.d).2.2.2
    rw [← h1, h2] at hgd
    have e1 : (X ++ W).length - X.length = W.length := by rw [List.length_append]; omega
    rw [e1] at hgd
    have hB : (putRR r B R).1 ++ Y = P ++ ((digs k 2 ++ (digs c 2 ++ (digs t 4 ++ digs W.length 2))) ++ (W ++ Y)) := by
      rw [h2, hX, h8]
      simp only [List.append_assoc]
    have hw : getW ((putRR r B R).1 ++ Y) B.length = (r.name, P.length, 0) := by
      rw [getW_at, hB]
      have := (nameR_back (en := 0) (hat.more ((digs k 2 ++ (digs c 2 ++ (digs t 4 ++ digs W.length 2))) ++ (W ++ Y))) (by have := hat.pos; omega) hp.2).1
      rw [← hP] at this
      exact this
    have n0 : numAt ((putRR r B R).1 ++ Y) P.length 2 = k := by
      rw [hB]
      have := numAt_digs (P := P) (Q := (digs c 2 ++ (digs t 4 ++ digs W.length 2)) ++ (W ++ Y)) hk16
      simpa only [List.append_assoc] using this
    have n1 : numAt ((putRR r B R).1 ++ Y) (P.length + 2) 2 = c := by
      rw [hB]
      have := numAt_digs (P := P ++ digs k 2) (Q := (digs t 4 ++ digs W.length 2) ++ (W ++ Y)) hclt
      rw [List.length_append, length_digs] at this
      simpa only [List.append_assoc] using this
    have n2 : numAt ((putRR r B R).1 ++ Y) (P.length + 4) 4 = t := by
      rw [hB]
      have := numAt_digs (P := (P ++ digs k 2) ++ digs c 2) (Q := digs W.length 2 ++ (W ++ Y)) ht32
      rw [List.length_append, List.length_append, length_digs, length_digs] at this
      simpa only [List.append_assoc, Nat.add_assoc] using this
    have n3 : numAt ((putRR r B R).1 ++ Y) (P.length + 8) 2 = W.length := by
      rw [hB]
      have := numAt_digs (P := ((P ++ digs k 2) ++ digs c 2) ++ digs t 4) (Q := W ++ Y) (m := W.length) (s := 2) (by simp; omega)
      simp only [List.length_append, length_digs] at this
      simpa only [List.append_assoc, Nat.add_assoc] using this
    have hgd2 : getD ((putRR r B R).1 ++ Y) ((P.length : Int) + 10) W.length k = (r.data, 0) := by
      rw [h2, ← hk]
      have e2 : ((X.length : Nat) : Int) = (P.length : Int) + 10 := by omega
      rw [← e2]
      exact hgd
    unfold getRR
    rw [hw]
    dsimp only
    rw [if_neg (by simp), if_neg (by rw [List.length_append, hlen, hXl]; omega), n0, n3, if_neg (by omega), hgd2]
    dsimp only
    rw [if_neg (by simp), n1]
    have ht2 : ttlAt ((putRR r B R).1 ++ Y) (P.length + 4) = t := by
      unfold ttlAt
      rw [n2, if_neg (by omega)]
    rw [ht2, hlen, hXl, ← hk, ← hc, ← ht]

end Go.Proofs.YtmbcbfalgdgmjaaGreatDoor

namespace Go.Proofs.YtmbcbfalgdgmjaaGreatDoor
open Go.RowKit

/-- What a message says ahead of its questions and records. -/
structure Hd where
  id : Int
  resp : Bool
  op : Int
  aa : Bool
  tc : Bool
  rd : Bool
  ra : Bool
  rc : Int
  edns : Bool
  size : Int
/-- A message. -/
structure Mt where
  h : Hd
  qs : List Qt
  an : List Rt
  au : List Rt
  ex : List Rt
def codeB (n : Int) : Bool := decide (0 ≤ n) && decide (n ≤ 15)
def soundH (h : Hd) : Bool := fitB h.id 2 && (codeB h.op && (codeB h.rc && (fitB h.size 2 && (h.edns || decide (h.size = 0)))))
def soundQ (q : Qt) : Bool := soundN q.name && (decide (q.kind ≠ 0) && (fitB q.kind 2 && fitB q.cls 2))
/-- May a record be in a message? -/
def soundX (r : Rt) : Bool := decide (r.kind ≠ 41) && soundR r
def Mt.all (m : Mt) : List Rt := m.an ++ (m.au ++ m.ex)
def soundM (m : Mt) : Bool := soundH m.h && (decide (m.qs.length + m.an.length + m.au.length + m.ex.length ≤ 512) && (m.qs.all soundQ && m.all.all soundX))
structure SoundM (m : Mt) : Prop where
  h : soundH m.h = true
  n : m.qs.length + m.an.length + m.au.length + m.ex.length ≤ 512
  q : ∀ q ∈ m.qs, soundQ q = true
  r : ∀ r ∈ m.all, soundX r = true
theorem soundM_iff {m : Mt} : soundM m = true ↔ SoundM m := by
  unfold soundM
  simp only [Bool.and_eq_true, decide_eq_true_eq, List.all_eq_true]
  exact ⟨fun ⟨a, b, c, d⟩ => ⟨a, b, c, d⟩, fun ⟨a, b, c, d⟩ => ⟨a, b, c, d⟩⟩
theorem soundX_iff {r : Rt} : soundX r = true ↔ r.kind ≠ 41 ∧ SoundR r := by
  unfold soundX
  rw [Bool.and_eq_true, decide_eq_true_eq, soundR_iff]

def bit (b : Bool) (n : Nat) : Nat := if b = true then n else 0
/-- The flags as a number. -/
def bitsH (h : Hd) : Nat := bit h.resp 32768 + h.op.toNat * 2048 + bit h.aa 1024 + bit h.tc 512 + bit h.rd 256 + bit h.ra 128 + h.rc.toNat
/-- What the flags say. -/
def hdOf (i f : Nat) (edns : Bool) (size : Int) : Hd :=
  ⟨i, decide (f / 32768 % 2 = 1), (f / 2048 % 16 : Nat), decide (f / 1024 % 2 = 1), decide (f / 512 % 2 = 1), decide (f / 256 % 2 = 1), decide (f / 128 % 2 = 1), (f % 16 : Nat), edns, size⟩
theorem bitsH_lt {h : Hd} (ho : codeB h.op = true) (hr : codeB h.rc = true) : bitsH h < 65536 := by
  unfold codeB at ho hr
  simp only [Bool.and_eq_true, decide_eq_true_eq] at ho hr
  have : ∀ b n, bit b n ≤ n := fun b n => by unfold bit; split <;> omega
  have h1 := this h.resp 32768
  have h2 := this h.aa 1024
  have h3 := this h.tc 512
  have h4 := this h.rd 256
  have h5 := this h.ra 128
  unfold bitsH
  omega
theorem hdOf_bits {h : Hd} (hs : soundH h = true) : hdOf h.id.toNat (bitsH h) h.edns h.size = h := by
  unfold soundH at hs
  simp only [Bool.and_eq_true] at hs
  obtain ⟨hi, ho, hr, _, _⟩ := hs
  have hid : 0 ≤ h.id := by unfold fitB at hi; simp only [decide_eq_true_eq] at hi; omega
  unfold codeB at ho hr
  simp only [Bool.and_eq_true, decide_eq_true_eq] at ho hr
  obtain ⟨o, eo⟩ : ∃ o : Nat, h.op = o := ⟨h.op.toNat, by omega⟩
  obtain ⟨c, ec⟩ : ∃ c : Nat, h.rc = c := ⟨h.rc.toNat, by omega⟩
  obtain ⟨id, resp, op, aa, tc, rd, ra, rc, edns, size⟩ := h
  dsimp only at *
  subst eo; subst ec
  have e1 : ((id.toNat : Nat) : Int) = id := by omega
  unfold hdOf bitsH
  dsimp only
  simp only [Int.toNat_natCast, Hd.mk.injEq]
  have ho2 : o ≤ 15 := by omega
  have hc2 : c ≤ 15 := by omega
  refine ⟨e1, ?_, ?_, ?_, ?_, ?_, ?_, ?_, trivial, trivial⟩
  all_goals
    cases resp <;> cases aa <;> cases tc <;> cases rd <;> cases ra <;> simp only [bit, if_true, if_false, Bool.false_eq_true, decide_eq_true_eq, decide_eq_false_iff_not] <;> omega

/-- A question, behind B with the rests R. -/
def putQ (q : Qt) (B : List UInt8) (R : Rs) : List UInt8 × Rs := (((nameW true q.name B R).1 ++ putL [] q.kind 2) ++ putL [] q.cls 2, (nameW true q.name B R).2)
def putQs (qs : List Qt) (s : List UInt8 × Rs) : List UInt8 × Rs := qs.foldl (fun s q => putQ q s.1 s.2) s
def putRs (rs : List Rt) (s : List UInt8 × Rs) : List UInt8 × Rs := rs.foldl (fun s r => putRR r s.1 s.2) s
theorem putQs_snoc (qs : List Qt) (q : Qt) (s : List UInt8 × Rs) : putQs (qs ++ [q]) s = putQ q (putQs qs s).1 (putQs qs s).2 := by simp [putQs]
theorem putRs_snoc (rs : List Rt) (r : Rt) (s : List UInt8 × Rs) : putRs (rs ++ [r]) s = putRR r (putRs rs s).1 (putRs rs s).2 := by simp [putRs]
theorem putRs_append (rs ss : List Rt) (s : List UInt8 × Rs) : putRs (rs ++ ss) s = putRs ss (putRs rs s) := by simp [putRs]
/-- The record that Edns and Size are. -/
def optR (size : Int) : Rt := ⟨[], 41, size, 0, ⟨[], [], [], [], []⟩⟩
/-- Extra, as it is written. -/
def Mt.exX (m : Mt) : List Rt := m.ex ++ (if m.h.edns = true then [optR m.h.size] else [])
def headM (h : Hd) (a b c d : Int) : List UInt8 := ((((putL [] h.id 2 ++ putL [] (bitsH h) 2) ++ putL [] a 2) ++ putL [] b 2) ++ putL [] c 2) ++ putL [] d 2
def Mt.head (m : Mt) : List UInt8 := headM m.h m.qs.length m.an.length m.au.length m.exX.length
/-- A message's bytes. -/
def encM (m : Mt) : List UInt8 := (putRs (m.an ++ (m.au ++ m.exX)) (putQs m.qs (m.head, []))).1

/-- The question that begins at p, and the place behind it. -/
def getQ (b : List UInt8) (p : Nat) : Qt × Nat × Nat :=
  if (getW b p).2.2 ≠ 0 then (⟨[], 0, 0⟩, 0, (getW b p).2.2) else
  if b.length < (getW b p).2.1 + 4 then (⟨[], 0, 0⟩, 0, 3) else
  if numAt b (getW b p).2.1 2 = 0 then (⟨[], 0, 0⟩, 0, 2) else
  (⟨(getW b p).1, numAt b (getW b p).2.1 2, numAt b ((getW b p).2.1 + 2) 2⟩, (getW b p).2.1 + 4, 0)
/-- So many questions, from p on, behind those that are read. -/
def getQs (b : List UInt8) : Nat → Nat → List Qt → Except Nat (List Qt × Nat)
  | 0, p, l => .ok (l, p)
  | k + 1, p, l => if (getQ b p).2.2 ≠ 0 then .error (getQ b p).2.2 else getQs b k (getQ b p).2.1 (l ++ [(getQ b p).1])
/-- What is known behind some records: they, the place, Edns, Size. -/
structure Rd where
  rs : List Rt
  p : Nat
  e : Bool
  s : Int
/-- One record more, in the last section or not. -/
def addR (last : Bool) (r : Rt) (next : Nat) (s : Rd) : Except Nat Rd :=
  if r.kind = 41 then (if last = false ∨ s.e = true ∨ r.name ≠ [] then .error 2 else .ok ⟨s.rs, next, true, r.cls⟩) else .ok ⟨s.rs ++ [r], next, s.e, s.s⟩
def stepR (b : List UInt8) (last : Bool) (s : Rd) : Except Nat Rd :=
  if (getRR b s.p).2.2 ≠ 0 then .error (getRR b s.p).2.2 else addR last (getRR b s.p).1 (getRR b s.p).2.1 s
def getRs (b : List UInt8) (last : Bool) : Nat → Rd → Except Nat Rd
  | 0, s => .ok s
  | k + 1, s => stepR b last s >>= getRs b last k
/-- The message that bytes are. -/
def decM (b : List UInt8) : Except Nat Mt :=
  if 65535 < b.length then .error 4 else
  if b.length < 12 then .error 3 else
  if 513 < numAt b 4 2 + numAt b 6 2 + numAt b 8 2 + numAt b 10 2 then .error 4 else
  getQs b (numAt b 4 2) 12 [] >>= fun q =>
  getRs b false (numAt b 6 2) ⟨[], q.2, false, 0⟩ >>= fun x =>
  getRs b false (numAt b 8 2) ⟨[], x.p, x.e, x.s⟩ >>= fun y =>
  getRs b true (numAt b 10 2) ⟨[], y.p, y.e, y.s⟩ >>= fun z =>
  if z.p < b.length then .error 7 else .ok ⟨hdOf (numAt b 0 2) (numAt b 2 2) z.e z.s, q.1, x.rs, y.rs, z.rs⟩

end Go.Proofs.YtmbcbfalgdgmjaaGreatDoor

namespace Go.Proofs.YtmbcbfalgdgmjaaGreatDoor
open Go.RowKit

theorem putL_digs {n s : Int} (h : fitB n s = true) : putL [] n s = digs n.toNat s.toNat := by
  unfold putL
  rw [if_pos h, List.nil_append]
theorem fit2 {n : Int} (h : fitB n 2 = true) : 0 ≤ n ∧ n < 65536 ∧ putL [] n 2 = digs n.toNat 2 ∧ n.toNat < 2 ^ (8 * 2) := by
  have h2 := putL_digs h
  unfold fitB at h
  simp only [decide_eq_true_eq] at h
  obtain ⟨_, _, h0, h1⟩ := h
  have h1' : n < 65536 := h1
  exact ⟨h0, h1', h2, by simp; omega⟩
theorem fit2_of {n : Int} (h0 : 0 ≤ n) (h1 : n < 65536) : fitB n 2 = true := fitB_true (by omega) (by omega) h0 (by simpa using h1)

theorem putQ_back {q : Qt} {B : List UInt8} {R : Rs} (hs : soundQ q = true) (G : GoodR B R) :
    (∃ S, (putQ q B R).1 = B ++ S) ∧ GoodR (putQ q B R).1 (putQ q B R).2 ∧ (putQ q B R).1.length ≤ B.length + 70000 ∧ (putQ q B R).2.length ≤ R.length + 900 ∧ ∀ Y, getQ ((putQ q B R).1 ++ Y) B.length = (q, (putQ q B R).1.length, 0) := by
  unfold soundQ at hs
  simp only [Bool.and_eq_true, decide_eq_true_eq] at hs
  obtain ⟨hn, hk0, hk, hc⟩ := hs
  obtain ⟨k0, k1, k2, k3⟩ := fit2 hk
  obtain ⟨c0, c1, c2, c3⟩ := fit2 hc
  have hp := soundN_parts hn
  obtain ⟨⟨S0, hS0⟩, hat, hg⟩ := nameW_good (short := true) hp.1 G
  have hlx := length_nameW_le true q.name B R hp.1
  have a1 := length_nameW_rests true q.name B R
  have a2 := length_lt_szN q.name
  obtain ⟨P, hP⟩ : ∃ P, P = (nameW true q.name B R).1 := ⟨_, rfl⟩
  have e : putQ q B R = ((P ++ digs q.kind.toNat 2) ++ digs q.cls.toNat 2, (nameW true q.name B R).2) := by unfold putQ; rw [k2, c2, hP]
  have hl : (putQ q B R).1.length = P.length + 4 := by rw [e]; simp [length_digs]
  refine ⟨⟨S0 ++ (digs q.kind.toNat 2 ++ digs q.cls.toNat 2), by rw [e, hP, hS0]; simp⟩, by rw [e, hP]; exact (hg.more _).more _, by rw [hl, hP]; omega, by rw [e]; dsimp only; omega, fun Y => ?_⟩
  have hB : (putQ q B R).1 ++ Y = P ++ ((digs q.kind.toNat 2 ++ digs q.cls.toNat 2) ++ Y) := by rw [e]; simp only [List.append_assoc]
  have hw : getW ((putQ q B R).1 ++ Y) B.length = (q.name, P.length, 0) := by
    rw [getW_at, hB]
    have := (nameR_back (en := 0) (hat.more ((digs q.kind.toNat 2 ++ digs q.cls.toNat 2) ++ Y)) (by have := hat.pos; omega) hp.2).1
    rw [← hP] at this
    exact this
  have n0 : numAt ((putQ q B R).1 ++ Y) P.length 2 = q.kind.toNat := by
    rw [hB]
    have := numAt_digs (P := P) (Q := digs q.cls.toNat 2 ++ Y) k3
    simpa only [List.append_assoc] using this
  have n1 : numAt ((putQ q B R).1 ++ Y) (P.length + 2) 2 = q.cls.toNat := by
    rw [hB]
    have := numAt_digs (P := P ++ digs q.kind.toNat 2) (Q := Y) c3
    rw [List.length_append, length_digs] at this
    simpa only [List.append_assoc] using this
  unfold getQ
  rw [hw]
  dsimp only
  rw [if_neg (by simp), if_neg (by rw [List.length_append, hl]; omega), n0, n1, if_neg (by omega), hl]
  have e1 : ((q.kind.toNat : Nat) : Int) = q.kind := by omega
  have e2 : ((q.cls.toNat : Nat) : Int) = q.cls := by omega
  rw [e1, e2]

/-- What has been written: it began so, it is good, and not too long. -/
structure GrownS (s t : List UInt8 × Rs) (n : Nat) : Prop where
  x : ∃ S, t.1 = s.1 ++ S
  g : GoodR t.1 t.2
  l : t.1.length ≤ s.1.length + 70000 * n
  r : t.2.length ≤ s.2.length + 900 * n
theorem GrownS.step {s t u : List UInt8 × Rs} {n : Nat} (h : GrownS s t 1) (k : GrownS t u n) : GrownS s u (n + 1) := by
  obtain ⟨S, hS⟩ := h.x
  obtain ⟨T, hT⟩ := k.x
  have h1 := h.l
  have h2 := h.r
  have h3 := k.l
  have h4 := k.r
  exact ⟨⟨S ++ T, by rw [hT, hS, List.append_assoc]⟩, k.g, by omega, by omega⟩
theorem putQs_good : ∀ (qs : List Qt) (s : List UInt8 × Rs), GoodR s.1 s.2 → (∀ q ∈ qs, soundQ q = true) → GrownS s (putQs qs s) qs.length
  | [], s, hg, _ => ⟨⟨[], by simp [putQs]⟩, hg, Nat.le_refl _, Nat.le_refl _⟩
  | q :: qs, s, hg, hq => by
    obtain ⟨h1, h2, h3, h4, _⟩ := putQ_back (hq q (List.mem_cons_self ..)) hg
    exact GrownS.step (t := putQ q s.1 s.2) ⟨h1, h2, h3, h4⟩ (putQs_good qs (putQ q s.1 s.2) h2 fun x hx => hq x (List.mem_cons_of_mem _ hx))
theorem putRs_good : ∀ (rs : List Rt) (s : List UInt8 × Rs), GoodR s.1 s.2 → (∀ r ∈ rs, SoundR r) → GrownS s (putRs rs s) rs.length
  | [], s, hg, _ => ⟨⟨[], by simp [putRs]⟩, hg, Nat.le_refl _, Nat.le_refl _⟩
  | r :: rs, s, hg, hr => by
    obtain ⟨h1, h2, h3, h4, _⟩ := putRR_back (hr r (List.mem_cons_self ..)) hg
    exact GrownS.step (t := putRR r s.1 s.2) ⟨h1, h2, h3, h4⟩ (putRs_good rs (putRR r s.1 s.2) h2 fun x hx => hr x (List.mem_cons_of_mem _ hx))
theorem getQs_back : ∀ (qs : List Qt) (s : List UInt8 × Rs) (Y : List UInt8) (l : List Qt), GoodR s.1 s.2 → (∀ q ∈ qs, soundQ q = true) →
    getQs ((putQs qs s).1 ++ Y) qs.length s.1.length l = .ok (l ++ qs, (putQs qs s).1.length)
  | [], s, Y, l, _, _ => by simp [putQs, getQs]
  | q :: qs, s, Y, l, hg, hq => by
    obtain ⟨_, h2, _, _, h5⟩ := putQ_back (hq q (List.mem_cons_self ..)) hg
    have hqs := fun x hx => hq x (List.mem_cons_of_mem q hx)
    obtain ⟨S, hS⟩ := (putQs_good qs (putQ q s.1 s.2) h2 hqs).x
    have e : putQs (q :: qs) s = putQs qs (putQ q s.1 s.2) := rfl
    have h6 := h5 (S ++ Y)
    rw [← List.append_assoc, ← hS] at h6
    rw [e, List.length_cons]
    unfold getQs
    rw [h6]
    dsimp only
    rw [if_neg (by simp), getQs_back qs (putQ q s.1 s.2) Y (l ++ [q]) h2 hqs]
    simp
theorem getRs_more (b : List UInt8) (last : Bool) (n : Nat) : ∀ (m : Nat) (s : Rd), getRs b last (m + n) s = getRs b last m s >>= getRs b last n
  | 0, s => by simp only [Nat.zero_add, getRs]; rfl
  | m + 1, s => by
    rw [show m + 1 + n = (m + n) + 1 by omega]
    simp only [getRs]
    cases h : stepR b last s with
    | error k => rfl
    | ok t => exact getRs_more b last n m t
theorem getRs_back (last : Bool) (e : Bool) (z : Int) : ∀ (rs : List Rt) (s : List UInt8 × Rs) (Y : List UInt8) (l : List Rt), GoodR s.1 s.2 → (∀ r ∈ rs, soundX r = true) →
    getRs ((putRs rs s).1 ++ Y) last rs.length ⟨l, s.1.length, e, z⟩ = .ok ⟨l ++ rs, (putRs rs s).1.length, e, z⟩
  | [], s, Y, l, _, _ => by simp [putRs, getRs]
  | r :: rs, s, Y, l, hg, hr => by
    obtain ⟨hk, hr0⟩ := soundX_iff.1 (hr r (List.mem_cons_self ..))
    obtain ⟨_, h2, _, _, h5⟩ := putRR_back hr0 hg
    have hrs := fun x hx => hr x (List.mem_cons_of_mem r hx)
    obtain ⟨S, hS⟩ := (putRs_good rs (putRR r s.1 s.2) h2 fun x hx => (soundX_iff.1 (hrs x hx)).2).x
    have e0 : putRs (r :: rs) s = putRs rs (putRR r s.1 s.2) := rfl
    have h6 := h5 (S ++ Y)
    rw [← List.append_assoc, ← hS] at h6
    rw [e0, List.length_cons]
    unfold getRs stepR addR
    dsimp only
    rw [h6]
    dsimp only
    rw [if_neg (by simp), if_neg hk]
    have h7 := getRs_back last e z rs (putRR r s.1 s.2) Y (l ++ [r]) h2 hrs
    show getRs ((putRs rs (putRR r s.1 s.2)).1 ++ Y) last rs.length ⟨l ++ [r], (putRR r s.1 s.2).1.length, e, z⟩ = _
    rw [h7]
    simp

theorem opt_sound {n : Int} (h : fitB n 2 = true) : SoundR (optR n) := by
  refine ⟨show soundN [] = true by decide, show soundD 41 ⟨[], [], [], [], []⟩ = true by decide +kernel, h, Int.le_refl _, by show (0 : Int) ≤ 2147483647; omega⟩
theorem Mt.exX_sound {m : Mt} (hs : SoundM m) : ∀ r ∈ m.exX, SoundR r := by
  intro r hr
  unfold Mt.exX at hr
  rcases List.mem_append.1 hr with h | h
  · exact (soundX_iff.1 (hs.r r (List.mem_append_right _ (List.mem_append_right _ h)))).2
  · split at h
    · rw [List.mem_singleton.1 h]
      have hh := hs.h
      unfold soundH at hh
      simp only [Bool.and_eq_true] at hh
      exact opt_sound hh.2.2.2.1
    · exact absurd h (List.not_mem_nil)
theorem length_exX (m : Mt) : m.exX.length = m.ex.length + (if m.h.edns = true then 1 else 0) := by
  unfold Mt.exX
  rw [List.length_append]
  split <;> rfl

/-- The six numbers of a head. -/
theorem head_nums {a b c d e f : Nat} (ha : a < 65536) (hb : b < 65536) (hc : c < 65536) (hd : d < 65536) (he : e < 65536) (hf : f < 65536) (Z : List UInt8) :
    let X := (((((digs a 2 ++ digs b 2) ++ digs c 2) ++ digs d 2) ++ digs e 2) ++ digs f 2) ++ Z
    numAt X 0 2 = a ∧ numAt X 2 2 = b ∧ numAt X 4 2 = c ∧ numAt X 6 2 = d ∧ numAt X 8 2 = e ∧ numAt X 10 2 = f := by
  intro X
  have p16 : (2 : Nat) ^ (8 * 2) = 65536 := rfl
  refine ⟨?_, ?_, ?_, ?_, ?_, ?_⟩
  · have := numAt_digs (P := []) (Q := digs b 2 ++ (digs c 2 ++ (digs d 2 ++ (digs e 2 ++ (digs f 2 ++ Z))))) (m := a) (s := 2) (by omega)
    simpa only [X, List.append_assoc, List.nil_append, List.length_nil] using this
  · have := numAt_digs (P := digs a 2) (Q := digs c 2 ++ (digs d 2 ++ (digs e 2 ++ (digs f 2 ++ Z)))) (m := b) (s := 2) (by omega)
    simpa only [X, List.append_assoc, length_digs] using this
  · have := numAt_digs (P := digs a 2 ++ digs b 2) (Q := digs d 2 ++ (digs e 2 ++ (digs f 2 ++ Z))) (m := c) (s := 2) (by omega)
    simpa only [X, List.append_assoc, List.length_append, length_digs] using this
  · have := numAt_digs (P := (digs a 2 ++ digs b 2) ++ digs c 2) (Q := digs e 2 ++ (digs f 2 ++ Z)) (m := d) (s := 2) (by omega)
    simpa only [X, List.append_assoc, List.length_append, length_digs] using this
  · have := numAt_digs (P := ((digs a 2 ++ digs b 2) ++ digs c 2) ++ digs d 2) (Q := digs f 2 ++ Z) (m := e) (s := 2) (by omega)
    simpa only [X, List.append_assoc, List.length_append, length_digs] using this
  · have := numAt_digs (P := (((digs a 2 ++ digs b 2) ++ digs c 2) ++ digs d 2) ++ digs e 2) (Q := Z) (m := f) (s := 2) (by omega)
    simpa only [X, List.append_assoc, List.length_append, length_digs] using this

theorem head_eq {m : Mt} (hs : SoundM m) : m.head = ((((digs m.h.id.toNat 2 ++ digs (bitsH m.h) 2) ++ digs m.qs.length 2) ++ digs m.an.length 2) ++ digs m.au.length 2) ++ digs m.exX.length 2 := by
  have hh := hs.h
  unfold soundH at hh
  simp only [Bool.and_eq_true] at hh
  obtain ⟨hi, ho, hr, _, _⟩ := hh
  have hb := bitsH_lt ho hr
  have hx := length_exX m
  have hn := hs.n
  have hx2 : m.exX.length ≤ m.ex.length + 1 := by rw [hx]; split <;> omega
  have e : ∀ n : Nat, n < 65536 → putL [] (n : Int) 2 = digs n 2 := fun n hn => by
    have h := (fit2 (fit2_of (n := (n : Int)) (by omega) (by omega))).2.2.1
    rwa [Int.toNat_natCast] at h
  unfold Mt.head headM
  rw [(fit2 hi).2.2.1, e _ hb, e _ (by omega), e _ (by omega), e _ (by omega), e _ (by omega)]
theorem length_head {m : Mt} (hs : SoundM m) : m.head.length = 12 := by rw [head_eq hs]; simp [length_digs]

/-- What is written of a sound message, in its parts. -/
theorem enc_parts {m : Mt} (hs : SoundM m) : GrownS (m.head, []) (putQs m.qs (m.head, [])) m.qs.length ∧ GrownS (putQs m.qs (m.head, [])) (putRs m.an (putQs m.qs (m.head, []))) m.an.length ∧
    GrownS (putRs m.an (putQs m.qs (m.head, []))) (putRs m.au (putRs m.an (putQs m.qs (m.head, [])))) m.au.length ∧
    GrownS (putRs m.au (putRs m.an (putQs m.qs (m.head, [])))) (putRs m.ex (putRs m.au (putRs m.an (putQs m.qs (m.head, []))))) m.ex.length ∧
    GrownS (putRs m.ex (putRs m.au (putRs m.an (putQs m.qs (m.head, []))))) (putRs m.exX (putRs m.au (putRs m.an (putQs m.qs (m.head, []))))) 1 := by
  have hr : ∀ r ∈ m.all, SoundR r := fun r h => (soundX_iff.1 (hs.r r h)).2
  have h1 := putQs_good m.qs (m.head, []) (GoodR.nil _) hs.q
  have h2 := putRs_good m.an _ h1.g fun r h => hr r (List.mem_append_left _ h)
  have h3 := putRs_good m.au _ h2.g fun r h => hr r (List.mem_append_right _ (List.mem_append_left _ h))
  have h4 := putRs_good m.ex _ h3.g fun r h => hr r (List.mem_append_right _ (List.mem_append_right _ h))
  refine ⟨h1, h2, h3, h4, ?_⟩
  have e : putRs m.exX (putRs m.au (putRs m.an (putQs m.qs (m.head, [])))) = putRs (if m.h.edns = true then [optR m.h.size] else []) (putRs m.ex (putRs m.au (putRs m.an (putQs m.qs (m.head, []))))) := putRs_append _ _ _
  rw [e]
  split
  · have hh := hs.h
    unfold soundH at hh
    simp only [Bool.and_eq_true] at hh
    exact putRs_good [optR m.h.size] _ h4.g fun r h => by rw [List.mem_singleton.1 h]; exact opt_sound hh.2.2.2.1
  · exact ⟨⟨[], by simp [putRs]⟩, h4.g, by simp [putRs], by simp [putRs]⟩
theorem enc_eq (m : Mt) : encM m = (putRs m.exX (putRs m.au (putRs m.an (putQs m.qs (m.head, []))))).1 := by
  unfold encM
  rw [putRs_append, putRs_append]

theorem dec_enc {m : Mt} (hs : SoundM m) (Y : List UInt8) (hl : (encM m ++ Y).length ≤ 65535) : decM (encM m ++ Y) = if Y = [] then .ok m else .error 7 := by
  obtain ⟨h1, h2, h3, h4, h5⟩ := enc_parts hs
  obtain ⟨S5, e5⟩ := h5.x
  obtain ⟨S4, e4⟩ := h4.x
  obtain ⟨S3, e3⟩ := h3.x
  obtain ⟨S2, e2⟩ := h2.x
  obtain ⟨S1, e1⟩ := h1.x
  have hh := hs.h
  have hhd := hdOf_bits hh
  unfold soundH at hh
  simp only [Bool.and_eq_true] at hh
  obtain ⟨hi, ho, hr, hz, hez⟩ := hh
  have hb := bitsH_lt ho hr
  have hx := length_exX m
  have hn := hs.n
  have hx2 : m.exX.length ≤ m.ex.length + 1 := by rw [hx]; split <;> omega
  have h12 := length_head hs
  have hE : encM m = ((((m.head ++ S1) ++ S2) ++ S3) ++ S4) ++ S5 := by rw [enc_eq, e5, e4, e3, e2, e1]
  have hlen : (encM m ++ Y).length = 12 + (S1.length + S2.length + S3.length + S4.length + S5.length + Y.length) := by
    rw [hE]
    simp only [List.length_append, h12]
    omega
  obtain ⟨n0, n1, n2, n3, n4, n5⟩ := head_nums (a := m.h.id.toNat) (b := bitsH m.h) (c := m.qs.length) (d := m.an.length) (e := m.au.length) (f := m.exX.length)
    (by have := (fit2 hi).1; have := (fit2 hi).2.1; omega) hb (by omega) (by omega) (by omega) (by omega) (S1 ++ (S2 ++ (S3 ++ (S4 ++ (S5 ++ Y)))))
  rw [← head_eq hs] at n0 n1 n2 n3 n4 n5
  have hX : m.head ++ (S1 ++ (S2 ++ (S3 ++ (S4 ++ (S5 ++ Y))))) = encM m ++ Y := by rw [hE]; simp only [List.append_assoc]
  rw [hX] at n0 n1 n2 n3 n4 n5
  have g1 := getQs_back m.qs (m.head, []) (S2 ++ (S3 ++ (S4 ++ (S5 ++ Y)))) [] (GoodR.nil _) hs.q
  rw [e1] at g1
  rw [show (m.head, ([] : Rs)).1 = m.head from rfl, h12] at g1
  have hr1 := fun r (h : r ∈ m.an) => hs.r r (List.mem_append_left _ h)
  have hr2 := fun r (h : r ∈ m.au) => hs.r r (List.mem_append_right _ (List.mem_append_left _ h))
  have hr3 := fun r (h : r ∈ m.ex) => hs.r r (List.mem_append_right _ (List.mem_append_right _ h))
  have g2 := getRs_back false false 0 m.an (putQs m.qs (m.head, [])) (S3 ++ (S4 ++ (S5 ++ Y))) [] h1.g hr1
  have g3 := getRs_back false false 0 m.au _ (S4 ++ (S5 ++ Y)) [] h2.g hr2
  have g4 := getRs_back true false 0 m.ex _ (S5 ++ Y) [] h3.g hr3
  have w1 : (putQs m.qs (m.head, [])).1 ++ (S2 ++ (S3 ++ (S4 ++ (S5 ++ Y)))) = encM m ++ Y := by rw [e1, hE]; simp only [List.append_assoc]
  have w2 : (putRs m.an (putQs m.qs (m.head, []))).1 ++ (S3 ++ (S4 ++ (S5 ++ Y))) = encM m ++ Y := by rw [e2, e1, hE]; simp only [List.append_assoc]
  have w3 : (putRs m.au (putRs m.an (putQs m.qs (m.head, [])))).1 ++ (S4 ++ (S5 ++ Y)) = encM m ++ Y := by rw [e3, e2, e1, hE]; simp only [List.append_assoc]
  have w4 : (putRs m.ex (putRs m.au (putRs m.an (putQs m.qs (m.head, []))))).1 ++ (S5 ++ Y) = encM m ++ Y := by rw [e4, e3, e2, e1, hE]; simp only [List.append_assoc]
  rw [w2] at g2
  rw [w3] at g3
  rw [w4] at g4
  rw [← e1, w1] at g1
  simp only [List.nil_append] at g1 g2 g3 g4
  have g5 : getRs (encM m ++ Y) true m.exX.length ⟨[], (putRs m.au (putRs m.an (putQs m.qs (m.head, [])))).1.length, false, 0⟩ = .ok ⟨m.ex, (encM m).length, m.h.edns, m.h.size⟩ := by
    rw [hx, getRs_more, g4]
    show getRs (encM m ++ Y) true (if m.h.edns = true then 1 else 0) _ = _
    have e6 : putRs m.exX (putRs m.au (putRs m.an (putQs m.qs (m.head, [])))) = putRs (if m.h.edns = true then [optR m.h.size] else []) (putRs m.ex (putRs m.au (putRs m.an (putQs m.qs (m.head, []))))) := putRs_append _ _ _
    cases hed : m.h.edns with
    | false =>
      rw [hed] at e6 hez
      simp only [Bool.false_eq_true, if_false, Bool.false_or, decide_eq_true_eq] at e6 hez ⊢
      rw [show putRs [] (putRs m.ex (putRs m.au (putRs m.an (putQs m.qs (m.head, []))))) = putRs m.ex (putRs m.au (putRs m.an (putQs m.qs (m.head, [])))) from rfl] at e6
      rw [enc_eq, e6, hez]
      rfl
    | true =>
      rw [hed] at e6
      simp only [if_true] at e6 ⊢
      rw [show putRs [optR m.h.size] (putRs m.ex (putRs m.au (putRs m.an (putQs m.qs (m.head, []))))) = putRR (optR m.h.size) (putRs m.ex (putRs m.au (putRs m.an (putQs m.qs (m.head, []))))).1 (putRs m.ex (putRs m.au (putRs m.an (putQs m.qs (m.head, []))))).2 from rfl] at e6
      obtain ⟨_, _, _, _, k5⟩ := putRR_back (opt_sound hz) h4.g
      have k6 := k5 Y
      rw [← e6, ← enc_eq] at k6
      unfold getRs stepR
      dsimp only
      rw [k6]
      dsimp only
      rw [if_neg (by simp)]
      rfl
  unfold decM
  rw [if_neg (by omega), if_neg (by omega), n2, n3, n4, n5, if_neg (by omega), g1]
  show (getRs (encM m ++ Y) false m.an.length ⟨[], (putQs m.qs (m.head, [])).1.length, false, 0⟩ >>= _) = _
  rw [g2]
  show (getRs (encM m ++ Y) false m.au.length ⟨[], (putRs m.an (putQs m.qs (m.head, []))).1.length, false, 0⟩ >>= _) = _
  rw [g3]
  show (getRs (encM m ++ Y) true m.exX.length ⟨[], (putRs m.au (putRs m.an (putQs m.qs (m.head, [])))).1.length, false, 0⟩ >>= _) = _
  rw [g5]
  show (if (encM m).length < (encM m ++ Y).length then Except.error 7 else Except.ok _) = _
  rw [n0, n1]
  cases Y with
  | nil => rw [if_neg (by simp), if_pos rfl, hhd]
  | cons y Y => rw [if_pos (by simp), if_neg (by simp)]

end Go.Proofs.YtmbcbfalgdgmjaaGreatDoor
