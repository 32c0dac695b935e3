/-
  The contracts of rdata.Sound and of what it calls.
-/
import Derived.Test.YtjjmllbkfbdcnaaDShape
import Derived.Test.YtjjmllbkfbdcnaaData
import Derived.Test.YtjjmllbkfbdcnaaDInt
import Derived.Test.YtjjmllbkfbdcnaaSame
import Derived.Test.YtjjmllbkfbdcnaaSound
namespace Go.Proofs.Ytjjmllbkfbdcnaa
open Go.RowKit

def sizeAt (ah j : Nat) : Int := if j < ah then 2 else 4
/-- Do the numbers fit, each into its bytes? -/
def numsOk (ah : Nat) (l : List Int) : Bool := (List.range l.length).all fun j => fitB (l.getD j 0) (sizeAt ah j)
def soundBs (s : Sh) (l : List UInt8) : Bool := decide (s.least ≤ l.length) && decide (l.length ≤ s.most)
def soundNm (n : List (List UInt8)) (had : Bool) : Bool := decide (n.length = 0) || (had && soundN n)
def soundNs (s : Sh) (l : List Int) : Bool := decide (l.length = s.ahead + s.behind) && numsOk s.ahead l
def soundTs (s : Sh) (l : List (List UInt8)) : Bool := if s.texts = true then l.all (fun t => decide (t.length ≤ 255)) && (decide (1 ≤ l.length) && decide (l.length ≤ 64)) else decide (l.length = 0)
/-- Is data just what the type has? -/
def soundD (k : Int) (d : Dt) : Bool := kindB k && (soundBs (shN k) d.bytes && (soundNm d.host (shN k).host && (soundNm d.mail (shN k).mail && (soundNs (shN k) d.nums && soundTs (shN k) d.texts))))

theorem all_range_snoc {p : Nat → Bool} {k : Nat} (h : (List.range k).all p = true) (hp : p k = true) : (List.range (k + 1)).all p = true := by
  rw [List.range_succ, List.all_append, h]
  simp [hp]
theorem all_range_not {p : Nat → Bool} {k n : Nat} (h : k < n) (hp : p k = false) : (List.range n).all p = false := by
  rw [List.all_eq_false]
  exact ⟨k, List.mem_range.2 h, by simp [hp]⟩

set_option maxHeartbeats 400000 in
theorem soundBytes_any (s : Sh) (A : Option Addr) (m c : Nat) (l : List UInt8) (w : World) (hl : l.length = m) :
    Calls Try.prog 57 #[s.val, .slice A m c] w (Gave w (.bool (soundBs s l))) := by
  obtain ⟨ah, s1, s2, s3, be, s5, le, mo⟩ := s
  have HB := Lib.hid ((Below.refl _ w).alloc (Nat.le_refl _) (.cells #[.int .i64 ah, .bool s1, .bool s2, .bool s3, .int .i64 be, .bool s5, .int .i64 le, .int .i64 mo] 85))
  subst hl
  by_cases h1 : le ≤ l.length
  · have d1 : decide ((le : Int) ≤ (l.length : Int)) = true := by simp; omega
    by_cases h2 : l.length ≤ mo
    · have d2 : decide ((l.length : Int) ≤ (mo : Int)) = true := by simp; omega
      have HF := Lib.hid (show soundBs ⟨ah, s1, s2, s3, be, s5, le, mo⟩ l = true by simp [soundBs]; omega)
      go_enter Try.func57, Try.ntmps57
      go_wp2
      go_ret
      exact ⟨by rw [HF.out]; rfl, HB.out⟩
    · have d2 : decide ((l.length : Int) ≤ (mo : Int)) = false := by simp; omega
      have HF := Lib.hid (show soundBs ⟨ah, s1, s2, s3, be, s5, le, mo⟩ l = false by simp [soundBs]; omega)
      go_enter Try.func57, Try.ntmps57
      go_wp2
      go_ret
      exact ⟨by rw [HF.out]; rfl, HB.out⟩
  · have d1 : decide ((le : Int) ≤ (l.length : Int)) = false := by simp; omega
    have HF := Lib.hid (show soundBs ⟨ah, s1, s2, s3, be, s5, le, mo⟩ l = false by simp [soundBs]; omega)
    go_enter Try.func57, Try.ntmps57
    go_wp2
    go_ret
    exact ⟨by rw [HF.out]; rfl, HB.out⟩

set_option maxHeartbeats 400000 in
theorem soundName_any (A : Option Addr) (m c H : Nat) (n : List (List UInt8)) (had : Bool) (w : World) (hl : n.length = m) (hA : Row w H A (n.map sv)) (hs : szN n ≤ maxLen) :
    Calls Try.prog 58 #[.slice A m c, .bool had] w (Told w (.bool (soundNm n had))) := by
  have HC := Lib.hid (sound_any A m c H n w hl hA hs)
  clear hA hs
  by_cases h0 : n.length = 0
  · have t1 : ((m : Int) == 0) = true := by rw [beq_iff_eq]; omega
    have HF := Lib.hid (show soundNm n had = true by simp [soundNm, h0])
    clear h0 hl
    go_enter Try.func58, Try.ntmps58
    go_wp2
    go_ret
    exact ⟨by rw [HF.out]; rfl, rfl⟩
  · have t1 : ((m : Int) == 0) = false := by rw [beq_eq_false_iff_ne]; omega
    cases had
    · have HF := Lib.hid (show soundNm n false = false by simp [soundNm, h0])
      clear h0 hl
      go_enter Try.func58, Try.ntmps58
      go_wp2
      go_ret
      exact ⟨by rw [HF.out]; rfl, rfl⟩
    · have HF := Lib.hid (show soundNm n true = soundN n by simp [soundNm, h0])
      clear h0 hl
      go_enter Try.func58, Try.ntmps58
      go_wp2_with fail
      refine HC.out.mono ?_
      rintro e w' ⟨rfl, rfl⟩
      go_wp2
      go_ret
      exact ⟨by rw [HF.out]; rfl, rfl⟩

def SNRel (w : World) (ah : Nat) (l : List Int) (i : Value) (wr : World) : Prop := ∃ k : Nat, k ≤ l.length ∧ i = .int .i64 k ∧ (List.range k).all (fun j => fitB (l.getD j 0) (sizeAt ah j)) = true ∧ wr = w

set_option maxRecDepth 4000 in
set_option maxHeartbeats 1000000 in
theorem soundNums_any (s : Sh) (A : Option Addr) (m c : Nat) (l : List Int) (w : World) (hl : l.length = m) (hA : Row w w.heap.size A (l.map zv)) (hm : m ≤ maxLen) (h1 : s.ahead ≤ 10) (h2 : s.behind ≤ 10) :
    Calls Try.prog 59 #[s.val, .slice A m c] w (Gave w (.bool (soundNs s l))) := by
  obtain ⟨ah, s1, s2, s3, be, s5, le, mo⟩ := s
  simp only at h1 h2
  unfold maxLen at hm
  have HB := Lib.hid ((Below.refl _ w).alloc (Nat.le_refl _) (.cells #[.int .i64 ah, .bool s1, .bool s2, .bool s3, .int .i64 be, .bool s5, .int .i64 le, .int .i64 mo] 85))
  have HF := Lib.hid (fun n s W => fits_any n s W)
  have HA := Lib.hid (hA.alloc (Nat.le_refl _) (.cells #[.int .i64 ah, .bool s1, .bool s2, .bool s3, .int .i64 be, .bool s5, .int .i64 le, .int .i64 mo] 85))
  have HL := Lib.hid hl
  clear hA
  by_cases hsum : m = ah + be
  · have t1 : ((m : Int) != (ah : Int) + (be : Int)) = false := by rw [bne_eq_false_iff_eq]; omega
    have HS := Lib.hid (show soundNs ⟨ah, s1, s2, s3, be, s5, le, mo⟩ l = numsOk ah l by simp [soundNs, hl, hsum])
    have c0 := (Whole.made w [.int .i64 ah, .bool s1, .bool s2, .bool s3, .int .i64 be, .bool s5, .int .i64 le, .int .i64 mo] 85).cell 0
    simp only [List.getElem?_cons_zero] at c0
    clear hl hsum
    go_enter Try.func59, Try.ntmps59
    go_wp2
    obtain ⟨W, hW⟩ : ∃ W, W = w.alloc (.cells #[.int .i64 ah, .bool s1, .bool s2, .bool s3, .int .i64 be, .bool s5, .int .i64 le, .int .i64 mo] 85) := ⟨_, rfl⟩
    rw [← hW] at HB HA c0 ⊢
    clear hW
    go_loopw [18] (SNRel W ah l) (fun i _ => m - (intOf i).toNat)
    case atStart => exact ⟨0, Nat.zero_le _, rfl, rfl, rfl⟩
    case round =>
      obtain ⟨k, hk, rfl, hok, rfl⟩ := hrel
      have HOK := Lib.hid hok
      clear hok
      by_cases hlt : k < m
      · have hkl : k < l.length := by rw [HL.out]; exact hlt
        obtain ⟨b, off, rfl, _, hc⟩ := HA.out.int_at hkl
        have HGD := Lib.hid (show l.getD k 0 = l[k] by simp [List.getD, List.getElem?_eq_getElem hkl])
        by_cases hah : k < ah
        · have d1 : decide ((ah : Int) ≤ (k : Int)) = false := by simp; omega
          have HZ := Lib.hid (show sizeAt ah k = 2 by simp [sizeAt, hah])
          go_wp2_with fail
          refine (HF.out l[k] 2 _).mono ?_
          cases hfit : fitB l[k] 2
          · have HN := Lib.hid (show numsOk ah l = false from all_range_not hkl (by rw [HGD.out, HZ.out]; exact hfit))
            rintro e w' ⟨rfl, rfl⟩
            go_wp2
            go_ret
            exact ⟨by rw [HS.out, HN.out]; rfl, HB.out⟩
          · have HY := Lib.hid (all_range_snoc HOK.out (by rw [HGD.out, HZ.out]; exact hfit))
            rintro e w' ⟨rfl, rfl⟩
            go_wp2
            exact ⟨⟨k + 1, hkl, by go_num, HY.out, rfl⟩, by simp [intOf]; omega⟩
        · have d1 : decide ((ah : Int) ≤ (k : Int)) = true := by simp; omega
          have HZ := Lib.hid (show sizeAt ah k = 4 by simp [sizeAt, hah])
          go_wp2_with fail
          refine (HF.out l[k] 4 _).mono ?_
          cases hfit : fitB l[k] 4
          · have HN := Lib.hid (show numsOk ah l = false from all_range_not hkl (by rw [HGD.out, HZ.out]; exact hfit))
            rintro e w' ⟨rfl, rfl⟩
            go_wp2
            go_ret
            exact ⟨by rw [HS.out, HN.out]; rfl, HB.out⟩
          · have HY := Lib.hid (all_range_snoc HOK.out (by rw [HGD.out, HZ.out]; exact hfit))
            rintro e w' ⟨rfl, rfl⟩
            go_wp2
            exact ⟨⟨k + 1, hkl, by go_num, HY.out, rfl⟩, by simp [intOf]; omega⟩
      · obtain rfl : k = m := by have := HL.out; omega
        have HN := Lib.hid (show numsOk ah l = true by unfold numsOk; rw [HL.out]; exact HOK.out)
        go_wp2
        go_ret
        exact ⟨by rw [HS.out, HN.out]; rfl, HB.out⟩
  · have t1 : ((m : Int) != (ah : Int) + (be : Int)) = true := by rw [bne_iff_ne]; omega
    have HS := Lib.hid (show soundNs ⟨ah, s1, s2, s3, be, s5, le, mo⟩ l = false by simp [soundNs]; intro h; exact absurd (hl.symm.trans h) hsum)
    clear hl
    go_enter Try.func59, Try.ntmps59
    go_wp2
    go_ret
    exact ⟨by rw [HS.out]; rfl, HB.out⟩

def STRel (l : List (List UInt8)) (i : Value) : Prop := ∃ k : Nat, k ≤ l.length ∧ i = .int .i64 k ∧ (l.take k).all (fun t => decide (t.length ≤ 255)) = true

set_option maxRecDepth 4000 in
set_option maxHeartbeats 1000000 in
theorem soundTexts_any (s : Sh) (A : Option Addr) (m c : Nat) (l : List (List UInt8)) (w : World) (hl : l.length = m) (hA : Row w w.heap.size A (l.map sv)) (hm : m ≤ maxLen) (hlen : ∀ k (h : k < l.length), (l[k]).length ≤ maxLen) :
    Calls Try.prog 60 #[s.val, .slice A m c] w (Gave w (.bool (soundTs s l))) := by
  obtain ⟨ah, s1, s2, s3, be, s5, le, mo⟩ := s
  unfold maxLen at hm hlen
  have HB := Lib.hid ((Below.refl _ w).alloc (Nat.le_refl _) (.cells #[.int .i64 ah, .bool s1, .bool s2, .bool s3, .int .i64 be, .bool s5, .int .i64 le, .int .i64 mo] 85))
  have HA := Lib.hid (hA.alloc (Nat.le_refl _) (.cells #[.int .i64 ah, .bool s1, .bool s2, .bool s3, .int .i64 be, .bool s5, .int .i64 le, .int .i64 mo] 85))
  have HL := Lib.hid hl
  have HLEN := Lib.hid hlen
  clear hA hlen
  cases s5
  · have HS := Lib.hid (show soundTs ⟨ah, s1, s2, s3, be, false, le, mo⟩ l = decide (m = 0) by simp [soundTs, hl])
    clear hl
    by_cases h0 : m = 0
    · have t1 : ((m : Int) == 0) = true := by rw [beq_iff_eq]; omega
      have HZ := Lib.hid (show decide (m = 0) = true by simp [h0])
      clear h0
      go_enter Try.func60, Try.ntmps60
      go_wp2
      go_ret
      exact ⟨by rw [HS.out, HZ.out]; rfl, HB.out⟩
    · have t1 : ((m : Int) == 0) = false := by rw [beq_eq_false_iff_ne]; omega
      have HZ := Lib.hid (show decide (m = 0) = false by simp [h0])
      clear h0
      go_enter Try.func60, Try.ntmps60
      go_wp2
      go_ret
      exact ⟨by rw [HS.out, HZ.out]; rfl, HB.out⟩
  · have HS := Lib.hid (show soundTs ⟨ah, s1, s2, s3, be, true, le, mo⟩ l = (l.all (fun t => decide (t.length ≤ 255)) && (decide (1 ≤ m) && decide (m ≤ 64))) by simp [soundTs, hl])
    clear hl
    go_enter Try.func60, Try.ntmps60
    go_wp2
    obtain ⟨W, hW⟩ : ∃ W, W = w.alloc (.cells #[.int .i64 ah, .bool s1, .bool s2, .bool s3, .int .i64 be, .bool true, .int .i64 le, .int .i64 mo] 85) := ⟨_, rfl⟩
    rw [← hW] at HB HA ⊢
    clear hW
    go_loop [15] (STRel l) (fun i => m - (intOf i).toNat)
    case atStart => exact ⟨0, Nat.zero_le _, rfl, rfl⟩
    case round =>
      obtain ⟨k, hk, rfl, hok⟩ := hrel
      have HOK := Lib.hid hok
      clear hok
      by_cases hlt : k < m
      · have hkl : k < l.length := by rw [HL.out]; exact hlt
        obtain ⟨b, off, rfl, _, hc⟩ := HA.out.name_at hkl
        have hlk := HLEN.out k hkl
        by_cases hbig : 255 < (l[k]).length
        · have d1 : decide ((255 : Int) < ((l[k]).length : Int)) = true := by simp; omega
          have HN := Lib.hid (all_not (fun t : List UInt8 => decide (t.length ≤ 255)) hkl (by simp; omega))
          go_wp2
          go_ret
          exact ⟨by rw [HS.out, HN.out]; rfl, HB.out⟩
        · have d1 : decide ((255 : Int) < ((l[k]).length : Int)) = false := by simp; omega
          have HY := Lib.hid (all_snoc (fun t : List UInt8 => decide (t.length ≤ 255)) hkl HOK.out (by simp; omega))
          go_wp2
          exact ⟨⟨k + 1, hkl, by go_num, HY.out⟩, by simp [intOf]; omega⟩
      · obtain rfl : k = m := by have := HL.out; omega
        have HN := Lib.hid (show l.all (fun t => decide (t.length ≤ 255)) = true by have h := HOK.out; rw [← HL.out, List.take_length] at h; exact h)
        by_cases h1 : 1 ≤ k
        · have d1 : decide ((1 : Int) ≤ (k : Int)) = true := by simp; omega
          by_cases h2 : k ≤ 64
          · have d2 : decide ((k : Int) ≤ 64) = true := by simp; omega
            have HZ := Lib.hid (show (decide (1 ≤ k) && decide (k ≤ 64)) = true by simp; omega)
            go_wp2
            go_ret
            exact ⟨by rw [HS.out, HN.out, HZ.out]; rfl, HB.out⟩
          · have d2 : decide ((k : Int) ≤ 64) = false := by simp; omega
            have HZ := Lib.hid (show (decide (1 ≤ k) && decide (k ≤ 64)) = false by simp; omega)
            go_wp2
            go_ret
            exact ⟨by rw [HS.out, HN.out, HZ.out]; rfl, HB.out⟩
        · have d1 : decide ((1 : Int) ≤ (k : Int)) = false := by simp; omega
          have HZ := Lib.hid (show (decide (1 ≤ k) && decide (k ≤ 64)) = false by simp; omega)
          go_wp2
          go_ret
          exact ⟨by rw [HS.out, HN.out, HZ.out]; rfl, HB.out⟩

theorem shN_small (k : Int) : (shN k).ahead ≤ 10 ∧ (shN k).behind ≤ 10 := by
  unfold shN
  split
  · decide
  · split
    · decide
    · split
      · decide
      · split
        · decide
        · split
          · decide
          · split
            · decide
            · split <;> decide

/-- What Sound holds: the data's box and the shape's. -/
structure SB (w : World) (x : DV) (d : Dt) (s : Sh) (g : Nat) (W : World) : Prop where
  bx : Whole W w.heap.size 26 [x.vb d, x.vh d, x.vm d, x.vn d, x.vt d]
  sh : Whole W g 85 [.int .i64 s.ahead, .bool s.host, .bool s.mail, .bool s.short, .int .i64 s.behind, .bool s.texts, .int .i64 s.least, .int .i64 s.most]
  dt : DataAt W w.heap.size x d
  below : Below w.heap.size w W
  size : w.heap.size ≤ W.heap.size
theorem SB.step {w : World} {x : DV} {d : Dt} {s : Sh} {g : Nat} {W W' : World} (h : SB w x d s g W) (hb : Below W.heap.size W W') : SB w x d s g W' :=
  ⟨h.bx.below hb h.bx.lt, h.sh.below hb h.sh.lt, h.dt.below (hb.mono h.size), h.below.trans (hb.mono h.size), Nat.le_trans h.size hb.size⟩

set_option maxRecDepth 20000 in
set_option maxHeartbeats 4000000 in
theorem dsound_any (k : Int) (x : DV) (d : Dt) (w : World) (hx : DataAt w w.heap.size x d) (h1 : szN d.host ≤ maxLen) (h2 : szN d.mail ≤ maxLen) (h3 : d.texts.length ≤ maxLen) (h4 : ∀ k (h : k < d.texts.length), (d.texts[k]).length ≤ maxLen) :
    Calls Try.prog 19 #[.int .i64 k, x.val d] w (Gave w (.bool (soundD k d))) := by
  have k1 := (shN_small k).1
  have k2 := (shN_small k).2
  have kn : d.nums.length ≤ maxLen := Nat.le_trans hx.ln hx.kn
  have HSH := Lib.hid (fun W => shapeOf_any k W)
  have HK := Lib.hid (fun W => isKind_any k W)
  have HS := Lib.hid (show soundD k d = (kindB k && (soundBs (shN k) d.bytes && (soundNm d.host (shN k).host && (soundNm d.mail (shN k).mail && (soundNs (shN k) d.nums && soundTs (shN k) d.texts))))) from rfl)
  have HX := Lib.hid hx
  obtain ⟨s, hs⟩ : ∃ s, s = shN k := ⟨_, rfl⟩
  rw [← hs] at HSH HS k1 k2
  clear hs
  have HC1 := Lib.hid (fun W => soundBytes_any s x.Ab d.bytes.length x.cb d.bytes W rfl)
  have HC2 := Lib.hid (fun W g (h : SB w x d s g W) => soundName_any x.Ah d.host.length x.ch w.heap.size d.host s.host W rfl h.dt.h h1)
  have HC3 := Lib.hid (fun W g (h : SB w x d s g W) => soundName_any x.Am d.mail.length x.cm w.heap.size d.mail s.mail W rfl h.dt.m h2)
  have HC4 := Lib.hid (fun W g (h : SB w x d s g W) => soundNums_any s x.An d.nums.length x.cn d.nums W rfl (h.dt.n.mono h.size) kn k1 k2)
  have HC5 := Lib.hid (fun W g (h : SB w x d s g W) => soundTexts_any s x.At d.texts.length x.ct d.texts W rfl (h.dt.t.mono h.size) h3 h4)
  clear hx h1 h2 h3 h4 k1 k2 kn
  obtain ⟨ah, s1, s2, s3, be, s5, le, mo⟩ := s
  go_enter Try.func19, Try.ntmps19
  go_wp2_with fail
  refine (HSH.out _).mono ?_
  rintro e w1 ⟨rfl, hb⟩
  have HB1 := Lib.hid hb
  clear hb
  go_wp2_with fail
  obtain ⟨W0, hW0⟩ : ∃ W0, W0 = w1.alloc (.cells #[.int .i64 ah, .bool s1, .bool s2, .bool s3, .int .i64 be, .bool s5, .int .i64 le, .int .i64 mo] 85) := ⟨_, rfl⟩
  rw [← hW0]
  have hx0 : SB w x d ⟨ah, s1, s2, s3, be, s5, le, mo⟩ w1.heap.size W0 := by
    have hz : w.heap.size + 1 ≤ w1.heap.size := by have := HB1.out.size; simpa using this
    rw [hW0]
    exact ⟨((Whole.made w [x.vb d, x.vh d, x.vm d, x.vn d, x.vt d] _).below HB1.out (by simp)).alloc _, Whole.made w1 [.int .i64 ah, .bool s1, .bool s2, .bool s3, .int .i64 be, .bool s5, .int .i64 le, .int .i64 mo] _,
      (((HX.out.alloc (Nat.le_refl _) _).below (HB1.out.mono (by simp))).alloc (by omega) _), (((Below.refl _ _).alloc (Nat.le_refl _) _).trans (HB1.out.mono (by simp))).alloc (by omega) _, by simp; omega⟩
  clear hW0 HB1 HX
  refine (HK.out _).mono ?_
  intro e W1 hO
  obtain ⟨he, hw⟩ := hO
  subst hw
  have hx1 := hx0
  clear hx0 
  cases hv : kindB k with
  | false =>
    rw [hv] at he HS
    subst he
    have HB := Lib.hid hx1.below
    clear hx1
    go_wp2
    go_ret
    exact ⟨by rw [HS.out]; rfl, HB.out⟩
  | true =>
  rw [hv] at he HS
  subst he
  have s0c : W0.cell? ⟨w1.heap.size, 0, none⟩ = some (.int .i64 ah) := hx1.sh.cell 0
  have s1c : W0.cell? ⟨w1.heap.size, 1, none⟩ = some (.bool s1) := hx1.sh.cell 1
  have s2c : W0.cell? ⟨w1.heap.size, 2, none⟩ = some (.bool s2) := hx1.sh.cell 2
  have s3c : W0.cell? ⟨w1.heap.size, 3, none⟩ = some (.bool s3) := hx1.sh.cell 3
  have s4c : W0.cell? ⟨w1.heap.size, 4, none⟩ = some (.int .i64 be) := hx1.sh.cell 4
  have s5c : W0.cell? ⟨w1.heap.size, 5, none⟩ = some (.bool s5) := hx1.sh.cell 5
  have s6c : W0.cell? ⟨w1.heap.size, 6, none⟩ = some (.int .i64 le) := hx1.sh.cell 6
  have s7c : W0.cell? ⟨w1.heap.size, 7, none⟩ = some (.int .i64 mo) := hx1.sh.cell 7
  have d0c : W0.cell? ⟨w.heap.size, 0, none⟩ = some (.slice x.Ab d.bytes.length x.cb) := hx1.bx.cell 0
  go_wp2_with fail
  refine (HC1.out _).mono ?_
  intro e W2 hO
  obtain ⟨he, hb⟩ := hO
  have hx2 := hx1.step hb
  clear hb hx1 s0c s1c s2c s3c s4c s5c s6c s7c d0c
  cases hv : soundBs ⟨ah, s1, s2, s3, be, s5, le, mo⟩ d.bytes with
  | false =>
    rw [hv] at he HS
    subst he
    have HB := Lib.hid hx2.below
    clear hx2
    go_wp2
    go_ret
    exact ⟨by rw [HS.out]; rfl, HB.out⟩
  | true =>
  rw [hv] at he HS
  subst he
  have s1c : W2.cell? ⟨w1.heap.size, 1, none⟩ = some (.bool s1) := hx2.sh.cell 1
  have d1c : W2.cell? ⟨w.heap.size, 1, none⟩ = some (.slice x.Ah d.host.length x.ch) := hx2.bx.cell 1
  go_wp2_with fail
  refine (HC2.out _ _ hx2).mono ?_
  intro e W3 hO
  obtain ⟨he, hw⟩ := hO
  subst hw
  have hx3 := hx2
  clear hx2 s1c d1c
  cases hv : soundNm d.host s1 with
  | false =>
    rw [hv] at he HS
    subst he
    have HB := Lib.hid hx3.below
    clear hx3
    go_wp2
    go_ret
    exact ⟨by rw [HS.out]; rfl, HB.out⟩
  | true =>
  rw [hv] at he HS
  subst he
  have s2c : W2.cell? ⟨w1.heap.size, 2, none⟩ = some (.bool s2) := hx3.sh.cell 2
  have d2c : W2.cell? ⟨w.heap.size, 2, none⟩ = some (.slice x.Am d.mail.length x.cm) := hx3.bx.cell 2
  go_wp2_with fail
  refine (HC3.out _ _ hx3).mono ?_
  intro e W4 hO
  obtain ⟨he, hw⟩ := hO
  subst hw
  have hx4 := hx3
  clear hx3 s2c d2c
  cases hv : soundNm d.mail s2 with
  | false =>
    rw [hv] at he HS
    subst he
    have HB := Lib.hid hx4.below
    clear hx4
    go_wp2
    go_ret
    exact ⟨by rw [HS.out]; rfl, HB.out⟩
  | true =>
  rw [hv] at he HS
  subst he
  have s0c : W2.cell? ⟨w1.heap.size, 0, none⟩ = some (.int .i64 ah) := hx4.sh.cell 0
  have s1c : W2.cell? ⟨w1.heap.size, 1, none⟩ = some (.bool s1) := hx4.sh.cell 1
  have s2c : W2.cell? ⟨w1.heap.size, 2, none⟩ = some (.bool s2) := hx4.sh.cell 2
  have s3c : W2.cell? ⟨w1.heap.size, 3, none⟩ = some (.bool s3) := hx4.sh.cell 3
  have s4c : W2.cell? ⟨w1.heap.size, 4, none⟩ = some (.int .i64 be) := hx4.sh.cell 4
  have s5c : W2.cell? ⟨w1.heap.size, 5, none⟩ = some (.bool s5) := hx4.sh.cell 5
  have s6c : W2.cell? ⟨w1.heap.size, 6, none⟩ = some (.int .i64 le) := hx4.sh.cell 6
  have s7c : W2.cell? ⟨w1.heap.size, 7, none⟩ = some (.int .i64 mo) := hx4.sh.cell 7
  have d3c : W2.cell? ⟨w.heap.size, 3, none⟩ = some (.slice x.An d.nums.length x.cn) := hx4.bx.cell 3
  go_wp2_with fail
  refine (HC4.out _ _ hx4).mono ?_
  intro e W5 hO
  obtain ⟨he, hb⟩ := hO
  have hx5 := hx4.step hb
  clear hb hx4 s0c s1c s2c s3c s4c s5c s6c s7c d3c
  cases hv : soundNs ⟨ah, s1, s2, s3, be, s5, le, mo⟩ d.nums with
  | false =>
    rw [hv] at he HS
    subst he
    have HB := Lib.hid hx5.below
    clear hx5
    go_wp2
    go_ret
    exact ⟨by rw [HS.out]; rfl, HB.out⟩
  | true =>
  rw [hv] at he HS
  subst he
  have s0c : W5.cell? ⟨w1.heap.size, 0, none⟩ = some (.int .i64 ah) := hx5.sh.cell 0
  have s1c : W5.cell? ⟨w1.heap.size, 1, none⟩ = some (.bool s1) := hx5.sh.cell 1
  have s2c : W5.cell? ⟨w1.heap.size, 2, none⟩ = some (.bool s2) := hx5.sh.cell 2
  have s3c : W5.cell? ⟨w1.heap.size, 3, none⟩ = some (.bool s3) := hx5.sh.cell 3
  have s4c : W5.cell? ⟨w1.heap.size, 4, none⟩ = some (.int .i64 be) := hx5.sh.cell 4
  have s5c : W5.cell? ⟨w1.heap.size, 5, none⟩ = some (.bool s5) := hx5.sh.cell 5
  have s6c : W5.cell? ⟨w1.heap.size, 6, none⟩ = some (.int .i64 le) := hx5.sh.cell 6
  have s7c : W5.cell? ⟨w1.heap.size, 7, none⟩ = some (.int .i64 mo) := hx5.sh.cell 7
  have d4c : W5.cell? ⟨w.heap.size, 4, none⟩ = some (.slice x.At d.texts.length x.ct) := hx5.bx.cell 4
  go_wp2_with fail
  refine (HC5.out _ _ hx5).mono ?_
  intro e W6 hO
  obtain ⟨he, hb⟩ := hO
  have hx6 := hx5.step hb
  clear hb hx5 s0c s1c s2c s3c s4c s5c s6c s7c d4c
  subst he
  have HB := Lib.hid hx6.below
  clear hx6
  go_wp2
  go_ret
  refine ⟨?_, HB.out⟩
  rw [HS.out]
  simp

end Go.Proofs.Ytjjmllbkfbdcnaa
