/-
  The contracts of rdata.Sound and of what it calls.
-/
import Derived.Test.YtjjmllbkfbdcnaaRrwritesP3
import Derived.Test.YtjjmllbkfbdcnaaRrwritesP1
namespace Go.Proofs.Ytjjmllbkfbdcnaa
open Go.RowKit

def sizeAt (ah j : Nat) : Int := if j < ah then 2 else 4
/-- Do the numbers fit, each into its bytes? -/
def numsOk (ah : Nat) (l : List Int) : Bool := (List.range l.length).all fun j => fitB (l.getD j 0) (sizeAt ah j)
def soundBs (s : Sh) (l : List UInt8) : Bool := decide (s.least ≤ l.length) && decide (l.length ≤ s.most)
def soundNm (n : List (List UInt8)) (had : Bool) : Bool := decide (n.length = 0) || (had && soundN n)
def soundNs (s : Sh) (l : List Int) : Bool := decide (l.length = s.ahead + s.behind) && numsOk s.ahead l
def soundTs (s : Sh) (l : List (List UInt8)) : Bool := if s.texts = true then l.all (fun t => decide (t.length ≤ 255)) && (decide (1 ≤ l.length) && decide (l.length ≤ 64)) else decide (l.length = 0)
/-- Is data just what the type has? -/
def soundD (k : Int) (d : Dt) : Bool := kindB k && (soundBs (shN k) d.bytes && (soundNm d.host (shN k).host && (soundNm d.mail (shN k).mail && (soundNs (shN k) d.nums && soundTs (shN k) d.texts))))

theorem all_range_snoc {p : Nat → Bool} {k : Nat} (h : (List.range k).all p = true) (hp : p k = true) : (List.range (k + 1)).all p = true := by
  rw [List.range_succ, List.all_append, h]
  simp [hp]
theorem all_range_not {p : Nat → Bool} {k n : Nat} (h : k < n) (hp : p k = false) : (List.range n).all p = false := by
  rw [List.all_eq_false]
  exact ⟨k, List.mem_range.2 h, by simp [hp]⟩

set_option maxHeartbeats 400000 in
theorem soundBytes_any (s : Sh) (A : Option Addr) (m c : Nat) (l : List UInt8) (w : World) (hl : l.length = m) :
    Calls Try.prog 57 #[s.val, .slice A m c] w (Gave w (.bool (soundBs s l))) := by
  obtain ⟨ah, s1, s2, s3, be, s5, le, mo⟩ := s
  have HB := Lib.hid ((Below.refl _ w).alloc (Nat.le_refl _) (.cells #[.int .i64 ah, .bool s1, .bool s2, .bool s3, .int .i64 be, .bool s5, .int .i64 le, .int .i64 mo] 85))
  subst hl
  by_cases h1 : le ≤ l.length
  · have d1 : decide ((le : Int) ≤ (l.length : Int)) = true := by simp; omega
    by_cases h2 : l.length ≤ mo
    · have d2 : decide ((l.length : Int) ≤ (mo : Int)) = true := by simp; omega
      have HF := Lib.hid (show soundBs ⟨ah, s1, s2, s3, be, s5, le, mo⟩ l = true by simp [soundBs]; omega)
      go_enter Try.func57, Try.ntmps57
      go_wp2
      go_ret
      exact ⟨by rw [HF.out]; rfl, HB.out⟩
    · have d2 : decide ((l.length : Int) ≤ (mo : Int)) = false := by simp; omega
      have HF := Lib.hid (show soundBs ⟨ah, s1, s2, s3, be, s5, le, mo⟩ l = false by simp [soundBs]; omega)
      go_enter Try.func57, Try.ntmps57
      go_wp2
      go_ret
      exact ⟨by rw [HF.out]; rfl, HB.out⟩
  · have d1 : decide ((le : Int) ≤ (l.length : Int)) = false := by simp; omega
    have HF := Lib.hid (show soundBs ⟨ah, s1, s2, s3, be, s5, le, mo⟩ l = false by simp [soundBs]; omega)
    go_enter Try.func57, Try.ntmps57
    go_wp2
    go_ret
    exact ⟨by rw [HF.out]; rfl, HB.out⟩

set_option maxHeartbeats 400000 in
theorem every_wide (A : Option Addr) (m c H : Nat) (n : List (List UInt8)) (w : World) (hl : n.length = m) (hA : Row w H A (n.map sv)) (hlen : n.length ≤ 140737488351232) (hs : ∀ k (h : k < n.length), (n[k]).length ≤ maxLen) :
    Calls Try.prog 79 #[.slice A m c, .func (.func 80) #[] #[]] w (Told w (.bool (n.all fitL))) := by
  subst hl
  have HA := Lib.hid hA
  have HSZ := Lib.hid hs
  clear hA hs
  go_enter Try.func79, Try.ntmps79
  go_wp2
  go_loop [9] (EveryRel n) (fun i => n.length - (intOf i).toNat)
  case atStart => exact ⟨0, Nat.zero_le _, rfl, by simp⟩
  case round =>
    obtain ⟨k, hk, rfl, hall⟩ := hrel
    have HK := Lib.hid hall
    clear hall
    by_cases hlt : k < n.length
    · obtain ⟨b, off, rfl, _, hc⟩ := HA.out.name_at hlt
      have hle := HSZ.out k hlt
      cases hf : fitL n[k]
      · have hct := fun W => fits_label n[k] W hle
        rw [hf] at hct
        have HC := Lib.hid hct
        have HF := Lib.hid (all_not fitL hlt hf)
        clear hct hf
        go_wp2_with (go_at_call 80; refine (HC.out _).mono ?_; rintro e w' ⟨rfl, rfl⟩)
        go_ret
        exact ⟨by rw [HF.out]; rfl, rfl⟩
      · have hct := fun W => fits_label n[k] W hle
        rw [hf] at hct
        have HC := Lib.hid hct
        have HF := Lib.hid (all_snoc fitL hlt HK.out hf)
        clear hct hf
        go_wp2_with (go_at_call 80; refine (HC.out _).mono ?_; rintro e w' ⟨rfl, rfl⟩)
        exact ⟨⟨k + 1, by omega, by go_num, HF.out⟩, by simp [intOf]; omega⟩
    · obtain rfl : k = n.length := by omega
      go_wp2
      go_ret
      exact ⟨ret_bool (by have h := HK.out; rw [List.take_length] at h; exact h.symm), rfl⟩

set_option maxHeartbeats 400000 in
theorem sound_wide (A : Option Addr) (m c H : Nat) (n : List (List UInt8)) (w : World) (hl : n.length = m) (hA : Row w H A (n.map sv)) (hlen : n.length ≤ 140737488351232) (hs : ∀ k (h : k < n.length), (n[k]).length ≤ maxLen) :
    Calls Try.prog 43 #[.slice A m c] w (Told w (.bool (soundN n))) := by
  have hev := fun W h => every_wide A m c H n W hl h hlen hs
  have HA := Lib.hid hA
  clear hA
  cases hf : n.all fitL
  · rw [hf] at hev
    have HE := Lib.hid hev
    have HF := Lib.hid (show soundN n = false by simp [soundN, hf])
    clear hev hf hs hlen
    go_enter Try.func43, Try.ntmps43
    go_wp2_with (go_at_call 79; refine (HE.out _ HA.out).mono ?_; rintro e w' ⟨rfl, rfl⟩)
    go_ret
    exact ⟨by rw [HF.out]; rfl, rfl⟩
  · have hsz : szN n ≤ n.length * (63 + 1) + 1 := szN_le 63 n fun l hl => (by have h := List.all_eq_true.1 hf l hl; simp [fitL] at h; omega)
    have HZ := Lib.hid (fun W h => size_any A m c H n W hl h (by unfold maxLen; omega))
    rw [hf] at hev
    have HE := Lib.hid hev
    have HF := Lib.hid (show soundN n = decide (szN n ≤ 255) by simp [soundN, hf])
    clear hev hf hs hl
    go_enter Try.func43, Try.ntmps43
    go_wp2_with (first
      | (go_at_call 79; refine (HE.out _ HA.out).mono ?_; rintro e w' ⟨rfl, rfl⟩)
      | (go_at_call 81; refine (HZ.out _ HA.out).mono ?_; rintro e w' ⟨rfl, rfl⟩))
    go_ret
    refine ⟨ret_bool ?_, rfl⟩
    rw [HF.out]
    simp
    omega

set_option maxHeartbeats 400000 in
/-- The document's Sound of any name, however large. -/
theorem ref_sound_wide (A : Option Addr) (c H : Nat) (n : List (List UInt8)) (w : World) (hA : Row w H A (n.map sv)) (_ : n.length ≤ maxLen) (hs : ∀ k (h : k < n.length), (n[k]).length ≤ maxLen) :
    Calls Try.prog 12 #[.slice A n.length c] w (Told w (.bool (soundN n))) := by
  have HA := Lib.hid hA
  have HS := Lib.hid hs
  clear hA hs
  by_cases h127 : n.length ≤ 127
  · have d1 : decide (127 < (n.length : Int)) = false := by simp; omega
    go_enter Try.func12, Try.ntmps12
    go_wp2
    go_loop [3] (EveryRel n) (fun i => n.length - (intOf i).toNat)
    case atStart => exact ⟨0, Nat.zero_le _, rfl, by simp⟩
    case round =>
      obtain ⟨k, hk, rfl, hall⟩ := hrel
      have HK := Lib.hid hall
      clear hall
      by_cases hlt : k < n.length
      · obtain ⟨b, off, rfl, _, hc⟩ := HA.out.name_at hlt
        have hle := HS.out k hlt
        unfold maxLen at hle
        by_cases e1 : 1 ≤ (n[k]).length
        · have d2 : decide (((n[k]).length : Int) < 1) = false := by simp; omega
          by_cases e2 : (n[k]).length ≤ 63
          · have d3 : decide (63 < ((n[k]).length : Int)) = false := by simp; omega
            have HF := Lib.hid (all_snoc fitL hlt HK.out (by simp [fitL]; omega))
            go_wp2
            exact ⟨⟨k + 1, by omega, by go_num, HF.out⟩, by simp [intOf]; omega⟩
          · have d3 : decide (63 < ((n[k]).length : Int)) = true := by simp; omega
            have HF := Lib.hid (all_not fitL hlt (by simp [fitL]; omega))
            go_wp2
            go_ret
            exact ⟨ret_bool (by simp [soundN, HF.out]), rfl⟩
        · have d2 : decide (((n[k]).length : Int) < 1) = true := by simp; omega
          have HF := Lib.hid (all_not fitL hlt (by simp [fitL]; omega))
          go_wp2
          go_ret
          exact ⟨ret_bool (by simp [soundN, HF.out]), rfl⟩
      · obtain rfl : k = n.length := by omega
        have hall := HK.out
        rw [List.take_length] at hall
        have hsz : szN n ≤ n.length * (63 + 1) + 1 := szN_le 63 n fun l hl => (by have h := List.all_eq_true.1 hall l hl; simp [fitL] at h; omega)
        have HZ := Lib.hid (ref_size_any A n.length c H n w rfl HA.out (by unfold maxLen; omega))
        have HALL := Lib.hid hall
        clear hall
        go_wp2_with fail
        refine HZ.out.mono ?_
        rintro e w' ⟨rfl, rfl⟩
        go_wp2
        go_ret
        refine ⟨ret_bool ?_, rfl⟩
        simp [soundN, HALL.out]
        omega
  · have HF := Lib.hid (soundN_long (n := n) (by omega))
    have d1 : decide (127 < (n.length : Int)) = true := by simp; omega
    go_enter Try.func12, Try.ntmps12
    go_wp2
    go_ret
    exact ⟨ret_bool HF.out.symm, rfl⟩

set_option maxHeartbeats 400000 in
theorem soundName_any (A : Option Addr) (m c H : Nat) (n : List (List UInt8)) (had : Bool) (w : World) (hl : n.length = m) (hA : Row w H A (n.map sv)) (hs : szN n ≤ maxLen) :
    Calls Try.prog 58 #[.slice A m c, .bool had] w (Told w (.bool (soundNm n had))) := by
  have HC := Lib.hid (sound_any A m c H n w hl hA hs)
  clear hA hs
  by_cases h0 : n.length = 0
  · have t1 : ((m : Int) == 0) = true := by rw [beq_iff_eq]; omega
    have HF := Lib.hid (show soundNm n had = true by simp [soundNm, h0])
    clear h0 hl
    go_enter Try.func58, Try.ntmps58
    go_wp2
    go_ret
    exact ⟨by rw [HF.out]; rfl, rfl⟩
  · have t1 : ((m : Int) == 0) = false := by rw [beq_eq_false_iff_ne]; omega
    cases had
    · have HF := Lib.hid (show soundNm n false = false by simp [soundNm, h0])
      clear h0 hl
      go_enter Try.func58, Try.ntmps58
      go_wp2
      go_ret
      exact ⟨by rw [HF.out]; rfl, rfl⟩
    · have HF := Lib.hid (show soundNm n true = soundN n by simp [soundNm, h0])
      clear h0 hl
      go_enter Try.func58, Try.ntmps58
      go_wp2_with fail
      refine HC.out.mono ?_
      rintro e w' ⟨rfl, rfl⟩
      go_wp2
      go_ret
      exact ⟨by rw [HF.out]; rfl, rfl⟩

set_option maxHeartbeats 400000 in
theorem soundName_wide (A : Option Addr) (m c H : Nat) (n : List (List UInt8)) (had : Bool) (w : World) (hl : n.length = m) (hA : Row w H A (n.map sv)) (hlen : n.length ≤ 140737488351232) (hs : ∀ k (h : k < n.length), (n[k]).length ≤ maxLen) :
    Calls Try.prog 58 #[.slice A m c, .bool had] w (Told w (.bool (soundNm n had))) := by
  have HC := Lib.hid (sound_wide A m c H n w hl hA hlen hs)
  clear hA hs hlen
  by_cases h0 : n.length = 0
  · have t1 : ((m : Int) == 0) = true := by rw [beq_iff_eq]; omega
    have HF := Lib.hid (show soundNm n had = true by simp [soundNm, h0])
    clear h0 hl
    go_enter Try.func58, Try.ntmps58
    go_wp2
    go_ret
    exact ⟨by rw [HF.out]; rfl, rfl⟩
  · have t1 : ((m : Int) == 0) = false := by rw [beq_eq_false_iff_ne]; omega
    cases had
    · have HF := Lib.hid (show soundNm n false = false by simp [soundNm, h0])
      clear h0 hl
      go_enter Try.func58, Try.ntmps58
      go_wp2
      go_ret
      exact ⟨by rw [HF.out]; rfl, rfl⟩
    · have HF := Lib.hid (show soundNm n true = soundN n by simp [soundNm, h0])
      clear h0 hl
      go_enter Try.func58, Try.ntmps58
      go_wp2_with fail
      refine HC.out.mono ?_
      rintro e w' ⟨rfl, rfl⟩
      go_wp2
      go_ret
      exact ⟨by rw [HF.out]; rfl, rfl⟩

def SNRel (w : World) (ah : Nat) (l : List Int) (i : Value) (wr : World) : Prop := ∃ k : Nat, k ≤ l.length ∧ i = .int .i64 k ∧ (List.range k).all (fun j => fitB (l.getD j 0) (sizeAt ah j)) = true ∧ wr = w

set_option maxRecDepth 4000 in
set_option maxHeartbeats 1000000 in
theorem soundNums_any (s : Sh) (A : Option Addr) (m c : Nat) (l : List Int) (w : World) (hl : l.length = m) (hA : Row w w.heap.size A (l.map zv)) (hm : m ≤ maxLen) (h1 : s.ahead ≤ 10) (h2 : s.behind ≤ 10) :
    Calls Try.prog 59 #[s.val, .slice A m c] w (Gave w (.bool (soundNs s l))) := by
  obtain ⟨ah, s1, s2, s3, be, s5, le, mo⟩ := s
  simp only at h1 h2
  unfold maxLen at hm
  have HB := Lib.hid ((Below.refl _ w).alloc (Nat.le_refl _) (.cells #[.int .i64 ah, .bool s1, .bool s2, .bool s3, .int .i64 be, .bool s5, .int .i64 le, .int .i64 mo] 85))
  have HF := Lib.hid (fun n s W => fits_any n s W)
  have HA := Lib.hid (hA.alloc (Nat.le_refl _) (.cells #[.int .i64 ah, .bool s1, .bool s2, .bool s3, .int .i64 be, .bool s5, .int .i64 le, .int .i64 mo] 85))
  have HL := Lib.hid hl
  clear hA
  by_cases hsum : m = ah + be
  · have t1 : ((m : Int) != (ah : Int) + (be : Int)) = false := by rw [bne_eq_false_iff_eq]; omega
    have HS := Lib.hid (show soundNs ⟨ah, s1, s2, s3, be, s5, le, mo⟩ l = numsOk ah l by simp [soundNs, hl, hsum])
    have c0 := (Whole.made w [.int .i64 ah, .bool s1, .bool s2, .bool s3, .int .i64 be, .bool s5, .int .i64 le, .int .i64 mo] 85).cell 0
    simp only [List.getElem?_cons_zero] at c0
    clear hl hsum
    go_enter Try.func59, Try.ntmps59
    go_wp2
    obtain ⟨W, hW⟩ : ∃ W, W = w.alloc (.cells #[.int .i64 ah, .bool s1, .bool s2, .bool s3, .int .i64 be, .bool s5, .int .i64 le, .int .i64 mo] 85) := ⟨_, rfl⟩
    rw [← hW] at HB HA c0 ⊢
    clear hW
    go_loopw [18] (SNRel W ah l) (fun i _ => m - (intOf i).toNat)
    case atStart => exact ⟨0, Nat.zero_le _, rfl, rfl, rfl⟩
    case round =>
      obtain ⟨k, hk, rfl, hok, rfl⟩ := hrel
      have HOK := Lib.hid hok
      clear hok
      by_cases hlt : k < m
      · have hkl : k < l.length := by rw [HL.out]; exact hlt
        obtain ⟨b, off, rfl, _, hc⟩ := HA.out.int_at hkl
        have HGD := Lib.hid (show l.getD k 0 = l[k] by simp [List.getD, List.getElem?_eq_getElem hkl])
        by_cases hah : k < ah
        · have d1 : decide ((ah : Int) ≤ (k : Int)) = false := by simp; omega
          have HZ := Lib.hid (show sizeAt ah k = 2 by simp [sizeAt, hah])
          go_wp2_with fail
          refine (HF.out l[k] 2 _).mono ?_
          cases hfit : fitB l[k] 2
          · have HN := Lib.hid (show numsOk ah l = false from all_range_not hkl (by rw [HGD.out, HZ.out]; exact hfit))
            rintro e w' ⟨rfl, rfl⟩
            go_wp2
            go_ret
            exact ⟨by rw [HS.out, HN.out]; rfl, HB.out⟩
          · have HY := Lib.hid (all_range_snoc HOK.out (by rw [HGD.out, HZ.out]; exact hfit))
            rintro e w' ⟨rfl, rfl⟩
            go_wp2
            exact ⟨⟨k + 1, hkl, by go_num, HY.out, rfl⟩, by simp [intOf]; omega⟩
        · have d1 : decide ((ah : Int) ≤ (k : Int)) = true := by simp; omega
          have HZ := Lib.hid (show sizeAt ah k = 4 by simp [sizeAt, hah])
          go_wp2_with fail
          refine (HF.out l[k] 4 _).mono ?_
          cases hfit : fitB l[k] 4
          · have HN := Lib.hid (show numsOk ah l = false from all_range_not hkl (by rw [HGD.out, HZ.out]; exact hfit))
            rintro e w' ⟨rfl, rfl⟩
            go_wp2
            go_ret
            exact ⟨by rw [HS.out, HN.out]; rfl, HB.out⟩
          · have HY := Lib.hid (all_range_snoc HOK.out (by rw [HGD.out, HZ.out]; exact hfit))
            rintro e w' ⟨rfl, rfl⟩
            go_wp2
            exact ⟨⟨k + 1, hkl, by go_num, HY.out, rfl⟩, by simp [intOf]; omega⟩
      · obtain rfl : k = m := by have := HL.out; omega
        have HN := Lib.hid (show numsOk ah l = true by unfold numsOk; rw [HL.out]; exact HOK.out)
        go_wp2
        go_ret
        exact ⟨by rw [HS.out, HN.out]; rfl, HB.out⟩
  · have t1 : ((m : Int) != (ah : Int) + (be : Int)) = true := by rw [bne_iff_ne]; omega
    have HS := Lib.hid (show soundNs ⟨ah, s1, s2, s3, be, s5, le, mo⟩ l = false by simp [soundNs]; intro h; exact absurd (hl.symm.trans h) hsum)
    clear hl
    go_enter Try.func59, Try.ntmps59
    go_wp2
    go_ret
    exact ⟨by rw [HS.out]; rfl, HB.out⟩

def STRel (l : List (List UInt8)) (i : Value) : Prop := ∃ k : Nat, k ≤ l.length ∧ i = .int .i64 k ∧ (l.take k).all (fun t => decide (t.length ≤ 255)) = true

set_option maxRecDepth 4000 in
set_option maxHeartbeats 1000000 in
theorem soundTexts_any (s : Sh) (A : Option Addr) (m c : Nat) (l : List (List UInt8)) (w : World) (hl : l.length = m) (hA : Row w w.heap.size A (l.map sv)) (hm : m ≤ maxLen) (hlen : ∀ k (h : k < l.length), (l[k]).length ≤ maxLen) :
    Calls Try.prog 60 #[s.val, .slice A m c] w (Gave w (.bool (soundTs s l))) := by
  obtain ⟨ah, s1, s2, s3, be, s5, le, mo⟩ := s
  unfold maxLen at hm hlen
  have HB := Lib.hid ((Below.refl _ w).alloc (Nat.le_refl _) (.cells #[.int .i64 ah, .bool s1, .bool s2, .bool s3, .int .i64 be, .bool s5, .int .i64 le, .int .i64 mo] 85))
  have HA := Lib.hid (hA.alloc (Nat.le_refl _) (.cells #[.int .i64 ah, .bool s1, .bool s2, .bool s3, .int .i64 be, .bool s5, .int .i64 le, .int .i64 mo] 85))
  have HL := Lib.hid hl
  have HLEN := Lib.hid hlen
  clear hA hlen
  cases s5
  · have HS := Lib.hid (show soundTs ⟨ah, s1, s2, s3, be, false, le, mo⟩ l = decide (m = 0) by simp [soundTs, hl])
    clear hl
    by_cases h0 : m = 0
    · have t1 : ((m : Int) == 0) = true := by rw [beq_iff_eq]; omega
      have HZ := Lib.hid (show decide (m = 0) = true by simp [h0])
      clear h0
      go_enter Try.func60, Try.ntmps60
      go_wp2
      go_ret
      exact ⟨by rw [HS.out, HZ.out]; rfl, HB.out⟩
    · have t1 : ((m : Int) == 0) = false := by rw [beq_eq_false_iff_ne]; omega
      have HZ := Lib.hid (show decide (m = 0) = false by simp [h0])
      clear h0
      go_enter Try.func60, Try.ntmps60
      go_wp2
      go_ret
      exact ⟨by rw [HS.out, HZ.out]; rfl, HB.out⟩
  · have HS := Lib.hid (show soundTs ⟨ah, s1, s2, s3, be, true, le, mo⟩ l = (l.all (fun t => decide (t.length ≤ 255)) && (decide (1 ≤ m) && decide (m ≤ 64))) by simp [soundTs, hl])
    clear hl
    go_enter Try.func60, Try.ntmps60
    go_wp2
    obtain ⟨W, hW⟩ : ∃ W, W = w.alloc (.cells #[.int .i64 ah, .bool s1, .bool s2, .bool s3, .int .i64 be, .bool true, .int .i64 le, .int .i64 mo] 85) := ⟨_, rfl⟩
    rw [← hW] at HB HA ⊢
    clear hW
    go_loop [15] (STRel l) (fun i => m - (intOf i).toNat)
    case atStart => exact ⟨0, Nat.zero_le _, rfl, rfl⟩
    case round =>
      obtain ⟨k, hk, rfl, hok⟩ := hrel
      have HOK := Lib.hid hok
      clear hok
      by_cases hlt : k < m
      · have hkl : k < l.length := by rw [HL.out]; exact hlt
        obtain ⟨b, off, rfl, _, hc⟩ := HA.out.name_at hkl
        have hlk := HLEN.out k hkl
        by_cases hbig : 255 < (l[k]).length
        · have d1 : decide ((255 : Int) < ((l[k]).length : Int)) = true := by simp; omega
          have HN := Lib.hid (all_not (fun t : List UInt8 => decide (t.length ≤ 255)) hkl (by simp; omega))
          go_wp2
          go_ret
          exact ⟨by rw [HS.out, HN.out]; rfl, HB.out⟩
        · have d1 : decide ((255 : Int) < ((l[k]).length : Int)) = false := by simp; omega
          have HY := Lib.hid (all_snoc (fun t : List UInt8 => decide (t.length ≤ 255)) hkl HOK.out (by simp; omega))
          go_wp2
          exact ⟨⟨k + 1, hkl, by go_num, HY.out⟩, by simp [intOf]; omega⟩
      · obtain rfl : k = m := by have := HL.out; omega
        have HN := Lib.hid (show l.all (fun t => decide (t.length ≤ 255)) = true by have h := HOK.out; rw [← HL.out, List.take_length] at h; exact h)
        by_cases h1 : 1 ≤ k
        · have d1 : decide ((1 : Int) ≤ (k : Int)) = true := by simp; omega
          by_cases h2 : k ≤ 64
          · have d2 : decide ((k : Int) ≤ 64) = true := by simp; omega
            have HZ := Lib.hid (show (decide (1 ≤ k) && decide (k ≤ 64)) = true by simp; omega)
            go_wp2
            go_ret
            exact ⟨by rw [HS.out, HN.out, HZ.out]; rfl, HB.out⟩
          · have d2 : decide ((k : Int) ≤ 64) = false := by simp; omega
            have HZ := Lib.hid (show (decide (1 ≤ k) && decide (k ≤ 64)) = false by simp; omega)
            go_wp2
            go_ret
            exact ⟨by rw [HS.out, HN.out, HZ.out]; rfl, HB.out⟩
        · have d1 : decide ((1 : Int) ≤ (k : Int)) = false := by simp; omega
          have HZ := Lib.hid (show (decide (1 ≤ k) && decide (k ≤ 64)) = false by simp; omega)
          go_wp2
          go_ret
          exact ⟨by rw [HS.out, HN.out, HZ.out]; rfl, HB.out⟩

theorem shN_small (k : Int) : (shN k).ahead ≤ 10 ∧ (shN k).behind ≤ 10 := by
  unfold shN
  split
  · decide
  · split
    · decide
    · split
      · decide
      · split
        · decide
        · split
          · decide
          · split
            · decide
            · split <;> decide

/-- What Sound holds: the data's box and the shape's. -/
structure SB (w : World) (x : DV) (d : Dt) (s : Sh) (g : Nat) (W : World) : Prop where
  bx : Whole W w.heap.size 26 [x.vb d, x.vh d, x.vm d, x.vn d, x.vt d]
  sh : Whole W g 85 [.int .i64 s.ahead, .bool s.host, .bool s.mail, .bool s.short, .int .i64 s.behind, .bool s.texts, .int .i64 s.least, .int .i64 s.most]
  dt : DataAt W w.heap.size x d
  below : Below w.heap.size w W
  size : w.heap.size ≤ W.heap.size
theorem SB.step {w : World} {x : DV} {d : Dt} {s : Sh} {g : Nat} {W W' : World} (h : SB w x d s g W) (hb : Below W.heap.size W W') : SB w x d s g W' :=
  ⟨h.bx.below hb h.bx.lt, h.sh.below hb h.sh.lt, h.dt.below (hb.mono h.size), h.below.trans (hb.mono h.size), Nat.le_trans h.size hb.size⟩

set_option maxRecDepth 20000 in
set_option maxHeartbeats 4000000 in
theorem dsound_core (k : Int) (x : DV) (d : Dt) (w : World) (hx : DataAt w w.heap.size x d)
    (h1 : ∀ (W : World) (b : Bool), Row W w.heap.size x.Ah (d.host.map sv) → Calls Try.prog 58 #[.slice x.Ah d.host.length x.ch, .bool b] W (Told W (.bool (soundNm d.host b))))
    (h2 : ∀ (W : World) (b : Bool), Row W w.heap.size x.Am (d.mail.map sv) → Calls Try.prog 58 #[.slice x.Am d.mail.length x.cm, .bool b] W (Told W (.bool (soundNm d.mail b)))) (h3 : d.texts.length ≤ maxLen) (h4 : ∀ k (h : k < d.texts.length), (d.texts[k]).length ≤ maxLen) :
    Calls Try.prog 19 #[.int .i64 k, x.val d] w (Gave w (.bool (soundD k d))) := by
  have k1 := (shN_small k).1
  have k2 := (shN_small k).2
  have kn : d.nums.length ≤ maxLen := Nat.le_trans hx.ln hx.kn
  have HSH := Lib.hid (fun W => shapeOf_any k W)
  have HK := Lib.hid (fun W => isKind_any k W)
  have HS := Lib.hid (show soundD k d = (kindB k && (soundBs (shN k) d.bytes && (soundNm d.host (shN k).host && (soundNm d.mail (shN k).mail && (soundNs (shN k) d.nums && soundTs (shN k) d.texts))))) from rfl)
  have HX := Lib.hid hx
  obtain ⟨s, hs⟩ : ∃ s, s = shN k := ⟨_, rfl⟩
  rw [← hs] at HSH HS k1 k2
  clear hs
  have HC1 := Lib.hid (fun W => soundBytes_any s x.Ab d.bytes.length x.cb d.bytes W rfl)
  have HC2 := Lib.hid (fun W g (h : SB w x d s g W) => h1 W s.host h.dt.h)
  have HC3 := Lib.hid (fun W g (h : SB w x d s g W) => h2 W s.mail h.dt.m)
  have HC4 := Lib.hid (fun W g (h : SB w x d s g W) => soundNums_any s x.An d.nums.length x.cn d.nums W rfl (h.dt.n.mono h.size) kn k1 k2)
  have HC5 := Lib.hid (fun W g (h : SB w x d s g W) => soundTexts_any s x.At d.texts.length x.ct d.texts W rfl (h.dt.t.mono h.size) h3 h4)
  clear hx h1 h2 h3 h4 k1 k2 kn
  obtain ⟨ah, s1, s2, s3, be, s5, le, mo⟩ := s
  go_enter Try.func19, Try.ntmps19
  go_wp2_with fail
  refine (HSH.out _).mono ?_
  rintro e w1 ⟨rfl, hb⟩
  have HB1 := Lib.hid hb
  clear hb
  go_wp2_with fail
  obtain ⟨W0, hW0⟩ : ∃ W0, W0 = w1.alloc (.cells #[.int .i64 ah, .bool s1, .bool s2, .bool s3, .int .i64 be, .bool s5, .int .i64 le, .int .i64 mo] 85) := ⟨_, rfl⟩
  rw [← hW0]
  have hx0 : SB w x d ⟨ah, s1, s2, s3, be, s5, le, mo⟩ w1.heap.size W0 := by
    have hz : w.heap.size + 1 ≤ w1.heap.size := by have := HB1.out.size; simpa using this
    rw [hW0]
    exact ⟨((Whole.made w [x.vb d, x.vh d, x.vm d, x.vn d, x.vt d] _).below HB1.out (by simp)).alloc _, Whole.made w1 [.int .i64 ah, .bool s1, .bool s2, .bool s3, .int .i64 be, .bool s5, .int .i64 le, .int .i64 mo] _,
      (((HX.out.alloc (Nat.le_refl _) _).below (HB1.out.mono (by simp))).alloc (by omega) _), (((Below.refl _ _).alloc (Nat.le_refl _) _).trans (HB1.out.mono (by simp))).alloc (by omega) _, by simp; omega⟩
  clear hW0 HB1 HX
  refine (HK.out _).mono ?_
  intro e W1 hO
  obtain ⟨he, hw⟩ := hO
  subst hw
  have hx1 := hx0
  clear hx0 
  cases hv : kindB k with
  | false =>
    rw [hv] at he HS
    subst he
    have HB := Lib.hid hx1.below
    clear hx1
    go_wp2
    go_ret
    exact ⟨by rw [HS.out]; rfl, HB.out⟩
  | true =>
  rw [hv] at he HS
  subst he
  have s0c : W0.cell? ⟨w1.heap.size, 0, none⟩ = some (.int .i64 ah) := hx1.sh.cell 0
  have s1c : W0.cell? ⟨w1.heap.size, 1, none⟩ = some (.bool s1) := hx1.sh.cell 1
  have s2c : W0.cell? ⟨w1.heap.size, 2, none⟩ = some (.bool s2) := hx1.sh.cell 2
  have s3c : W0.cell? ⟨w1.heap.size, 3, none⟩ = some (.bool s3) := hx1.sh.cell 3
  have s4c : W0.cell? ⟨w1.heap.size, 4, none⟩ = some (.int .i64 be) := hx1.sh.cell 4
  have s5c : W0.cell? ⟨w1.heap.size, 5, none⟩ = some (.bool s5) := hx1.sh.cell 5
  have s6c : W0.cell? ⟨w1.heap.size, 6, none⟩ = some (.int .i64 le) := hx1.sh.cell 6
  have s7c : W0.cell? ⟨w1.heap.size, 7, none⟩ = some (.int .i64 mo) := hx1.sh.cell 7
  have d0c : W0.cell? ⟨w.heap.size, 0, none⟩ = some (.slice x.Ab d.bytes.length x.cb) := hx1.bx.cell 0
  go_wp2_with fail
  refine (HC1.out _).mono ?_
  intro e W2 hO
  obtain ⟨he, hb⟩ := hO
  have hx2 := hx1.step hb
  clear hb hx1 s0c s1c s2c s3c s4c s5c s6c s7c d0c
  cases hv : soundBs ⟨ah, s1, s2, s3, be, s5, le, mo⟩ d.bytes with
  | false =>
    rw [hv] at he HS
    subst he
    have HB := Lib.hid hx2.below
    clear hx2
    go_wp2
    go_ret
    exact ⟨by rw [HS.out]; rfl, HB.out⟩
  | true =>
  rw [hv] at he HS
  subst he
  have s1c : W2.cell? ⟨w1.heap.size, 1, none⟩ = some (.bool s1) := hx2.sh.cell 1
  have d1c : W2.cell? ⟨w.heap.size, 1, none⟩ = some (.slice x.Ah d.host.length x.ch) := hx2.bx.cell 1
  go_wp2_with fail
  refine (HC2.out _ _ hx2).mono ?_
  intro e W3 hO
  obtain ⟨he, hw⟩ := hO
  subst hw
  have hx3 := hx2
  clear hx2 s1c d1c
  cases hv : soundNm d.host s1 with
  | false =>
    rw [hv] at he HS
    subst he
    have HB := Lib.hid hx3.below
    clear hx3
    go_wp2
    go_ret
    exact ⟨by rw [HS.out]; rfl, HB.out⟩
  | true =>
  rw [hv] at he HS
  subst he
  have s2c : W2.cell? ⟨w1.heap.size, 2, none⟩ = some (.bool s2) := hx3.sh.cell 2
  have d2c : W2.cell? ⟨w.heap.size, 2, none⟩ = some (.slice x.Am d.mail.length x.cm) := hx3.bx.cell 2
  go_wp2_with fail
  refine (HC3.out _ _ hx3).mono ?_
  intro e W4 hO
  obtain ⟨he, hw⟩ := hO
  subst hw
  have hx4 := hx3
  clear hx3 s2c d2c
  cases hv : soundNm d.mail s2 with
  | false =>
    rw [hv] at he HS
    subst he
    have HB := Lib.hid hx4.below
    clear hx4
    go_wp2
    go_ret
    exact ⟨by rw [HS.out]; rfl, HB.out⟩
  | true =>
  rw [hv] at he HS
  subst he
  have s0c : W2.cell? ⟨w1.heap.size, 0, none⟩ = some (.int .i64 ah) := hx4.sh.cell 0
  have s1c : W2.cell? ⟨w1.heap.size, 1, none⟩ = some (.bool s1) := hx4.sh.cell 1
  have s2c : W2.cell? ⟨w1.heap.size, 2, none⟩ = some (.bool s2) := hx4.sh.cell 2
  have s3c : W2.cell? ⟨w1.heap.size, 3, none⟩ = some (.bool s3) := hx4.sh.cell 3
  have s4c : W2.cell? ⟨w1.heap.size, 4, none⟩ = some (.int .i64 be) := hx4.sh.cell 4
  have s5c : W2.cell? ⟨w1.heap.size, 5, none⟩ = some (.bool s5) := hx4.sh.cell 5
  have s6c : W2.cell? ⟨w1.heap.size, 6, none⟩ = some (.int .i64 le) := hx4.sh.cell 6
  have s7c : W2.cell? ⟨w1.heap.size, 7, none⟩ = some (.int .i64 mo) := hx4.sh.cell 7
  have d3c : W2.cell? ⟨w.heap.size, 3, none⟩ = some (.slice x.An d.nums.length x.cn) := hx4.bx.cell 3
  go_wp2_with fail
  refine (HC4.out _ _ hx4).mono ?_
  intro e W5 hO
  obtain ⟨he, hb⟩ := hO
  have hx5 := hx4.step hb
  clear hb hx4 s0c s1c s2c s3c s4c s5c s6c s7c d3c
  cases hv : soundNs ⟨ah, s1, s2, s3, be, s5, le, mo⟩ d.nums with
  | false =>
    rw [hv] at he HS
    subst he
    have HB := Lib.hid hx5.below
    clear hx5
    go_wp2
    go_ret
    exact ⟨by rw [HS.out]; rfl, HB.out⟩
  | true =>
  rw [hv] at he HS
  subst he
  have s0c : W5.cell? ⟨w1.heap.size, 0, none⟩ = some (.int .i64 ah) := hx5.sh.cell 0
  have s1c : W5.cell? ⟨w1.heap.size, 1, none⟩ = some (.bool s1) := hx5.sh.cell 1
  have s2c : W5.cell? ⟨w1.heap.size, 2, none⟩ = some (.bool s2) := hx5.sh.cell 2
  have s3c : W5.cell? ⟨w1.heap.size, 3, none⟩ = some (.bool s3) := hx5.sh.cell 3
  have s4c : W5.cell? ⟨w1.heap.size, 4, none⟩ = some (.int .i64 be) := hx5.sh.cell 4
  have s5c : W5.cell? ⟨w1.heap.size, 5, none⟩ = some (.bool s5) := hx5.sh.cell 5
  have s6c : W5.cell? ⟨w1.heap.size, 6, none⟩ = some (.int .i64 le) := hx5.sh.cell 6
  have s7c : W5.cell? ⟨w1.heap.size, 7, none⟩ = some (.int .i64 mo) := hx5.sh.cell 7
  have d4c : W5.cell? ⟨w.heap.size, 4, none⟩ = some (.slice x.At d.texts.length x.ct) := hx5.bx.cell 4
  go_wp2_with fail
  refine (HC5.out _ _ hx5).mono ?_
  intro e W6 hO
  obtain ⟨he, hb⟩ := hO
  have hx6 := hx5.step hb
  clear hb hx5 s0c s1c s2c s3c s4c s5c s6c s7c d4c
  subst he
  have HB := Lib.hid hx6.below
  clear hx6
  go_wp2
  go_ret
  refine ⟨?_, HB.out⟩
  rw [HS.out]
  simp

theorem dsound_any (k : Int) (x : DV) (d : Dt) (w : World) (hx : DataAt w w.heap.size x d) (h1 : szN d.host ≤ maxLen) (h2 : szN d.mail ≤ maxLen) (h3 : d.texts.length ≤ maxLen) (h4 : ∀ k (h : k < d.texts.length), (d.texts[k]).length ≤ maxLen) :
    Calls Try.prog 19 #[.int .i64 k, x.val d] w (Gave w (.bool (soundD k d))) :=
  dsound_core k x d w hx (fun W b hr => soundName_any x.Ah d.host.length x.ch w.heap.size d.host b W rfl hr h1) (fun W b hr => soundName_any x.Am d.mail.length x.cm w.heap.size d.mail b W rfl hr h2) h3 h4
theorem dsound_wide (k : Int) (x : DV) (d : Dt) (w : World) (hx : DataAt w w.heap.size x d) (h1 : d.host.length ≤ 140737488351232) (h1' : ∀ k (h : k < d.host.length), (d.host[k]).length ≤ maxLen) (h2 : d.mail.length ≤ 140737488351232) (h2' : ∀ k (h : k < d.mail.length), (d.mail[k]).length ≤ maxLen) (h3 : d.texts.length ≤ maxLen) (h4 : ∀ k (h : k < d.texts.length), (d.texts[k]).length ≤ maxLen) :
    Calls Try.prog 19 #[.int .i64 k, x.val d] w (Gave w (.bool (soundD k d))) :=
  dsound_core k x d w hx (fun W b hr => soundName_wide x.Ah d.host.length x.ch w.heap.size d.host b W rfl hr h1 h1') (fun W b hr => soundName_wide x.Am d.mail.length x.cm w.heap.size d.mail b W rfl hr h2 h2') h3 h4

end Go.Proofs.Ytjjmllbkfbdcnaa

namespace Go.Proofs.Ytjjmllbkfbdcnaa
open Go.RowKit

/-- What is written of data, behind B with the rests R. -/
def putH (s : Sh) (d : Dt) (B : List UInt8) (R : Rs) : List UInt8 × Rs := if s.host = true then nameW s.short d.host (B ++ numsW 2 (d.nums.take s.ahead)) R else (B ++ numsW 2 (d.nums.take s.ahead), R)
def putM (s : Sh) (d : Dt) (x : List UInt8 × Rs) : List UInt8 × Rs := if s.mail = true then nameW s.short d.mail x.1 x.2 else x
def putD (s : Sh) (d : Dt) (B : List UInt8) (R : Rs) : List UInt8 × Rs :=
  ((((putM s d (putH s d B R)).1 ++ numsW 4 (d.nums.drop s.ahead)) ++ textsW d.texts) ++ d.bytes, (putM s d (putH s d B R)).2)

/-- The block j holds a slice of the data. -/
def DV.owns (y : DV) (d : Dt) (j : Nat) : Prop := (y.vb d).ownBlock = some j ∨ (y.vh d).ownBlock = some j ∨ (y.vm d).ownBlock = some j ∨ (y.vn d).ownBlock = some j ∨ (y.vt d).ownBlock = some j
theorem OwnD.base {w : World} {B : Nat} {y : DV} {d : Dt} (h : OwnD w B y d) {j : Nat} (hj : y.owns d j) : B ≤ j ∧ j < w.heap.size := by
  rcases hj with e | e | e | e | e
  · exact h.b.lt j e
  · exact h.h.lt j e
  · exact h.m.lt j e
  · exact h.n.lt j e
  · exact h.t.lt j e
/-- What soundness says of the parts. -/
structure SoundP (s : Sh) (d : Dt) : Prop where
  h : s.host = true → soundN d.host = true
  m : s.mail = true → soundN d.mail = true
  h0 : s.host = false → d.host = []
  m0 : s.mail = false → d.mail = []
  n : d.nums.length = s.ahead + s.behind
  ok : numsOk s.ahead d.nums = true
  t : d.texts.length ≤ 64
  tl : ∀ t ∈ d.texts, t.length ≤ 255
  t0 : s.texts = false → d.texts = []
  t1 : s.texts = true → 1 ≤ d.texts.length
  b : d.bytes.length ≤ s.most
  bl : s.least ≤ d.bytes.length
theorem soundNm_yes {n : List (List UInt8)} {had : Bool} (h : soundNm n had = true) : (had = true → soundN n = true) ∧ (had = false → n = []) := by
  unfold soundNm at h
  constructor
  · rintro rfl
    by_cases h0 : n.length = 0
    · have : n = [] := List.eq_nil_of_length_eq_zero h0
      subst this
      decide
    · simpa [h0] using h
  · rintro rfl
    have h0 : n.length = 0 := by simpa using h
    exact List.eq_nil_of_length_eq_zero h0
theorem soundP {k : Int} {d : Dt} (h : soundD k d = true) : SoundP (shN k) d := by
  unfold soundD at h
  simp only [Bool.and_eq_true] at h
  obtain ⟨hk, hb, hh, hm, hn, ht⟩ := h
  have hh2 := soundNm_yes hh
  have hm2 := soundNm_yes hm
  unfold soundBs at hb
  unfold soundNs at hn
  unfold soundTs at ht
  simp only [Bool.and_eq_true, decide_eq_true_eq] at hb hn
  have ht2 : d.texts.length ≤ 64 ∧ (∀ t ∈ d.texts, t.length ≤ 255) ∧ ((shN k).texts = false → d.texts = []) ∧ ((shN k).texts = true → 1 ≤ d.texts.length) := by
    cases hf : (shN k).texts
    · rw [hf] at ht
      have h0 : d.texts.length = 0 := by simpa using ht
      have h1 : d.texts = [] := List.eq_nil_of_length_eq_zero h0
      refine ⟨by omega, fun t ht => (by rw [h1] at ht; cases ht), fun _ => h1, fun h => (by cases h)⟩
    · rw [hf] at ht
      simp only [if_true, Bool.and_eq_true, List.all_eq_true, decide_eq_true_eq] at ht
      exact ⟨ht.2.2, ht.1, fun h => (by cases h), fun _ => ht.2.1⟩
  exact ⟨hh2.1, hm2.1, hh2.2, hm2.2, hn.1, hn.2, ht2.1, ht2.2.1, ht2.2.2.1, ht2.2.2.2, hb.2, hb.1⟩
theorem soundN_parts {n : List (List UInt8)} (h : soundN n = true) : n.all fitL = true ∧ szN n ≤ 255 := by
  simpa [soundN] using h

theorem row_drop {w : World} {H k : Nat} {A : Option Addr} {xs : List Value} (h : Row w H A xs) : Row w H (A.map fun x => x.add k) (xs.drop k) := by
  intro hne
  obtain ⟨b, off, rfl, _, _⟩ := h (fun e => by rw [e] at hne; simp at hne)
  simp only [Option.map_some, addr_add]
  exact (h.drop rfl (k := k)) hne
theorem Penned.from {base : Nat} {w W0 W : World} {g : Nat} {vB vM : Value} {B : List UInt8} {R : Rs} (hb : Below w.heap.size w W0) (h : Penned base W0 g vB vM B R W) : Penned base w g vB vM B R W := by
  obtain ⟨vB1, vM1, h1, hg, hf⟩ := h
  refine ⟨vB1, vM1, h1, (Grew.all hb).trans hg fun j hj => .inl hj, fun j hj => ?_⟩
  rcases hf j hj with h2 | h2
  · exact .inl h2
  · exact .inr (Nat.le_trans hb.size h2)

set_option maxRecDepth 20000 in
set_option maxHeartbeats 1000000 in
theorem put_none (base : Nat) (w : World) (g : Nat) (vB vM : Value) (B : List UInt8) (R : Rs) (k : Int) (y : DV) (d : Dt) (Bd : Nat) (h : Wr w base g vB vM B R) (ho : OwnD w Bd y d) (hsep : ∀ j, ownF g vB vM j → ¬ y.owns d j) (hs : soundD k d = true) (h1 : (shN k).host = false) (h2 : (shN k).mail = false)
    (hB : B.length ≤ 100000000) (hR : R.length ≤ 800000) (hG : GoodR B R) (q1 : szN d.host ≤ maxLen) (q2 : szN d.mail ≤ maxLen) :
    Calls Try.prog 15 #[.pointer (some ⟨g, 0, none⟩), .int .i64 k, y.val d] w (fun e w' => e = .returned (.int .i64 0) ∧ Penned base w g vB vM (putD (shN k) d B R).1 (putD (shN k) d B R).2 w') := by
  have sp := soundP hs
  have q3 : ∀ k (h : k < d.texts.length), (d.texts[k]).length ≤ maxLen := fun k h => Nat.le_trans (sp.tl _ (List.getElem_mem h)) (by decide)
  have ksm := shN_small k
  have HSD := Lib.hid (fun W (h : DataAt W W.heap.size y d) => dsound_any k y d W h q1 q2 (Nat.le_trans sp.t (by decide)) q3)
  rw [hs] at HSD
  have HSH := Lib.hid (fun W => shapeOf_any k W)
  have hmost : (shN k).most ≤ 65535 := by
    rcases shN_cases k with rfl | rfl | rfl | rfl | rfl | rfl | rfl | rfl | rfl | hk
    case inr.inr.inr.inr.inr.inr.inr.inr.inr => rw [shN_other hk]; exact Nat.le_refl _
    all_goals decide
  obtain ⟨s, hss⟩ : ∃ s, s = shN k := ⟨_, rfl⟩
  rw [← hss] at HSH sp ksm h1 h2 hmost ⊢
  clear hss
  obtain ⟨ah, s1, s2, s3, be, s5, le, mo⟩ := s
  simp only at h1 h2 ksm hmost
  subst h1 h2
  have SP := Lib.hid sp
  have HGD := Lib.hid hG
  have hlow : ∀ j, ownF g vB vM j → j < w.heap.size := fun j hj => (h.own hj).2
  have HW := Lib.hid h
  have HO := Lib.hid ho
  have hcn := own_cap ho.n
  have hcm := own_capZ ho.n
  have hnl : d.nums.length = ah + be := sp.n
  have e1 : (0 : Int) ≤ (ah : Int) := by omega
  have e2 : (ah : Int) ≤ (y.cn : Int) := by omega
  have e3 : (ah : Int) ≤ (d.nums.length : Int) := by omega
  have e4 : (d.nums.length : Int) ≤ (y.cn : Int) := by omega
  have HNL := Lib.hid hnl
  unfold maxLen at hcm
  clear h ho hs sp hG q1 q2 q3 hnl
  go_enter Try.func15, Try.ntmps15
  go_wp2_with fail
  have hbox := Whole.made w [y.vb d, y.vh d, y.vm d, y.vn d, y.vt d] 26
  have hod := (HO.out.keep (w' := w.alloc (.cells #[y.vb d, y.vh d, y.vm d, y.vn d, y.vt d] 26)) fun g hg => Below.heap_alloc w _ g hg)
  refine (HSD.out _ hod.at_).mono ?_
  rintro e w1 ⟨rfl, hb1⟩
  have hbox1 := hbox.below hb1 hbox.lt
  have hod1 := hod.keep fun g hg => hb1.block g hg
  have hB1 : Below w.heap.size w w1 := ((Below.refl _ w).alloc (Nat.le_refl _) _).trans (hb1.mono (by simp))
  clear hbox hod hb1
  have HBX1 := Lib.hid hbox1
  have HOD1 := Lib.hid hod1
  have HB1 := Lib.hid hB1
  have hz1 : w.heap.size < w1.heap.size := hbox1.lt
  clear hbox1 hod1 hB1
  go_wp2_with fail
  refine (HSH.out _).mono ?_
  rintro e w2 ⟨rfl, hb2⟩
  obtain ⟨W0, hW0⟩ : ∃ W0, W0 = w2.alloc (.cells #[.int .i64 ah, .bool false, .bool false, .bool s3, .int .i64 be, .bool s5, .int .i64 le, .int .i64 mo] 85) := ⟨_, rfl⟩
  have hz2 := hb2.size
  have hbx : Whole W0 w.heap.size 26 [y.vb d, y.vh d, y.vm d, y.vn d, y.vt d] := by rw [hW0]; exact (HBX1.out.below hb2 hz1).alloc _
  have hshb : Whole W0 w2.heap.size 85 [.int .i64 ah, .bool false, .bool false, .bool s3, .int .i64 be, .bool s5, .int .i64 le, .int .i64 mo] := by rw [hW0]; exact Whole.made w2 _ _
  have hod : OwnD W0 Bd y d := by rw [hW0]; exact (HOD1.out.keep fun g hg => hb2.block g hg).keep fun g hg => Below.heap_alloc w2 _ g hg
  have hBW : Below w.heap.size w W0 := by rw [hW0]; exact (HB1.out.trans (hb2.mono (by omega))).alloc (by omega) _
  have hwr : Wr W0 base g vB vM B R := HW.out.keep fun j hj => hBW.block j (hlow j hj)
  have HBW := Lib.hid hBW
  have HALL := Lib.hid (fun W (hg : Grew (ownF g vB vM) W0 W) => (show Whole W w.heap.size 26 [y.vb d, y.vh d, y.vm d, y.vn d, y.vt d] ∧ Whole W w2.heap.size 85 [.int .i64 ah, .bool false, .bool false, .bool s3, .int .i64 be, .bool s5, .int .i64 le, .int .i64 mo] ∧ OwnD W Bd y d from
    ⟨hbx.grew hg (fun hj => by have := hlow _ hj; omega), hshb.grew hg (fun hj => by have := hlow _ hj; omega),
      own_grew hod.b hg fun j e hj => hsep j hj (.inl e), own_grew hod.h hg fun j e hj => hsep j hj (.inr (.inl e)), own_grew hod.m hg fun j e hj => hsep j hj (.inr (.inr (.inl e))),
      own_grew hod.n hg fun j e hj => hsep j hj (.inr (.inr (.inr (.inl e)))), own_grew hod.t hg fun j e hj => hsep j hj (.inr (.inr (.inr (.inr e))))⟩))
  have h0 := hwr
  have g0 : Grew (ownF g vB vM) W0 W0 := Grew.refl _ _
  have f0 : ∀ j, ownF g vB vM j → ownF g vB vM j ∨ W0.heap.size ≤ j := fun j hj => .inl hj
  have HW0 := Lib.hid hW0
  clear hW0 hbx hshb hod hBW hwr hb2 HBX1 HOD1 HB1 HW HO hlow hsep

  obtain ⟨hx, hy, _⟩ := HALL.out W0 g0
  have cs0 : W0.cell? ⟨w2.heap.size, 0, none⟩ = some (.int .i64 ah) := hy.cell 0
  have cd3 : W0.cell? ⟨w.heap.size, 3, none⟩ = some (.slice y.An d.nums.length y.cn) := hx.cell 3
  clear hx hy
  have H0 := Lib.hid h0
  have G0 := Lib.hid g0
  have F0 := Lib.hid f0
  clear h0 g0 f0
  rw [HW0.out] at cs0 cd3
  go_wp2_with fail
  rw [← HW0.out]
  refine (putNums_any base W0 g vB vM B R y.An ah y.cn (d.nums.take ah) 2 H0.out (by rw [List.length_take, HNL.out]; omega) (fun w' hw => by rw [List.map_take]; exact ((HALL.out w' (G0.out.trans hw F0.out)).2.2.at_.n.take ah)) (by omega) (by omega)).mono ?_
  rintro e W1 ⟨rfl, hp⟩
  obtain ⟨vB1, vM1, h1, g1, f1⟩ := Penned.next H0.out G0.out F0.out hp
  clear hp cs0 cd3
  have hB1 : (B ++ numsW 2 (d.nums.take ah)).length ≤ 100010000 := by have h1 := length_numsW 2 (d.nums.take ah); rw [List.length_append]; rw [List.length_take] at h1; omega
  have GD1 := Lib.hid (HGD.out.more (numsW 2 (d.nums.take ah)))
  obtain ⟨Bc, hBc⟩ : ∃ Bc, Bc = B ++ numsW 2 (d.nums.take ah) := ⟨_, rfl⟩
  rw [← hBc] at h1 hB1 GD1
  have hR1 : R.length ≤ 800000 := hR
  obtain ⟨Rc, hRc⟩ : ∃ Rc, Rc = R := ⟨_, rfl⟩
  rw [← hRc] at h1 hR1 GD1
  have HRC := Lib.hid hRc
  have HBC := Lib.hid hBc
  clear hRc hBc
  obtain ⟨hx, hy, _⟩ := HALL.out W1 g1
  have cs1 : W1.cell? ⟨w2.heap.size, 1, none⟩ = some (.bool false) := hy.cell 1
  have cs2 : W1.cell? ⟨w2.heap.size, 2, none⟩ = some (.bool false) := hy.cell 2
  have cs0 : W1.cell? ⟨w2.heap.size, 0, none⟩ = some (.int .i64 ah) := hy.cell 0
  have cd3 : W1.cell? ⟨w.heap.size, 3, none⟩ = some (.slice y.An d.nums.length y.cn) := hx.cell 3
  clear hx hy
  have H1 := Lib.hid h1
  have G1 := Lib.hid g1
  have F1 := Lib.hid f1
  clear h1 g1 f1
  have ST1 := Lib.hid (show Stay (ownF g vB1 vM1) W1 (y.An.map fun x => x.add ah) ((d.nums.drop ah).map zv) from fun w' hw => by rw [List.map_drop]; exact row_drop (HALL.out w' (G1.out.trans hw F1.out)).2.2.at_.n)
  have ST2 := Lib.hid (fun (hcn2 : y.cn = ah) => (show Stay (ownF g vB1 vM1) W1 y.An ((d.nums.drop ah).map zv) from fun w' hw => by rw [List.drop_eq_nil_of_le (by omega)]; exact Row.empty _ _ _))
  go_wp2_with fail
  all_goals
    first
      | with_reducible refine (putNums_any base W1 g vB1 vM1 Bc Rc (y.An.map fun x => x.add ah) (d.nums.length - ah) (y.cn - ah) (d.nums.drop ah) 4 H1.out (List.length_drop ..) ST1.out (by have := HNL.out; omega) (by omega)).mono ?_
      | with_reducible refine (putNums_any base W1 g vB1 vM1 Bc Rc y.An (d.nums.length - ah) 0 (d.nums.drop ah) 4 H1.out (List.length_drop ..) (ST2.out (by assumption)) (by have := HNL.out; omega) (by omega)).mono ?_
    rintro e W2 ⟨rfl, hp⟩
    obtain ⟨vB2, vM2, h2, g2, f2⟩ := Penned.next H1.out G1.out F1.out hp
    clear hp cs1 cs2 cs0 cd3
    obtain ⟨hx, hy, _⟩ := HALL.out W2 g2
    have cd4 : W2.cell? ⟨w.heap.size, 4, none⟩ = some (.slice y.At d.texts.length y.ct) := hx.cell 4
    have hl4 := length_numsW 4 (d.nums.drop ah)
    rw [List.length_drop] at hl4
    have hB2 : (Bc ++ numsW 4 (d.nums.drop ah)).length ≤ 100030000 := by rw [List.length_append]; have := HNL.out; omega
    have H2 := Lib.hid h2
    have G2 := Lib.hid g2
    have F2 := Lib.hid f2
    clear h2 g2 f2 hx hy hl4
    go_wp2_with fail
    refine (putTexts_any base W2 g vB2 vM2 _ Rc y.At d.texts.length y.ct d.texts H2.out rfl (fun w' hw => (HALL.out w' (G2.out.trans hw F2.out)).2.2.at_.t) (by have := SP.out.t; omega) (by omega) (fun t ht => Nat.le_trans (SP.out.tl t ht) (by omega))).mono ?_
    rintro e W3 ⟨rfl, hp⟩
    obtain ⟨vB3, vM3, h3, g3, f3⟩ := Penned.next H2.out G2.out F2.out hp
    clear hp cd4
    obtain ⟨hx, hy, _⟩ := HALL.out W3 g3
    have cd0 : W3.cell? ⟨w.heap.size, 0, none⟩ = some (.slice y.Ab d.bytes.length y.cb) := hx.cell 0
    have hl5 := length_textsW 255 d.texts SP.out.tl
    have hl6 : (255 + 7) * d.texts.length ≤ (255 + 7) * 64 := Nat.mul_le_mul_left _ SP.out.t
    have hB3 : ((Bc ++ numsW 4 (d.nums.drop ah)) ++ textsW d.texts).length ≤ 100060000 := by rw [List.length_append]; omega
    have hbl := SP.out.b
    simp only at hbl
    have H3 := Lib.hid h3
    have G3 := Lib.hid g3
    have F3 := Lib.hid f3
    clear h3 g3 f3 hx hy hl5 hl6
    go_wp2_with fail
    refine (raw_any base W3 g vB3 vM3 _ Rc y.Ab d.bytes.length y.cb W3.heap.size d.bytes H3.out rfl (HALL.out W3 G3.out).2.2.at_.b (by omega)).mono ?_
    rintro e W4 ⟨rfl, hp⟩
    have hp2 := Penned.next H3.out G3.out F3.out hp
    have HP := Lib.hid hp2
    clear hp hp2 cd0
    go_wp2
    go_ret
    refine ⟨rfl, Penned.from HBW.out ?_⟩
    have hfin : putD ⟨ah, false, false, s3, be, s5, le, mo⟩ d B R = (((Bc ++ numsW 4 (d.nums.drop ah)) ++ textsW d.texts) ++ d.bytes, Rc) := by
      rw [HBC.out, HRC.out]
      rfl
    rw [hfin]
    exact HP.out

set_option maxRecDepth 20000 in
set_option maxHeartbeats 1000000 in
theorem put_host (base : Nat) (w : World) (g : Nat) (vB vM : Value) (B : List UInt8) (R : Rs) (k : Int) (y : DV) (d : Dt) (Bd : Nat) (h : Wr w base g vB vM B R) (ho : OwnD w Bd y d) (hsep : ∀ j, ownF g vB vM j → ¬ y.owns d j) (hs : soundD k d = true) (h1 : (shN k).host = true) (h2 : (shN k).mail = false)
    (hB : B.length ≤ 100000000) (hR : R.length ≤ 800000) (hG : GoodR B R) (q1 : szN d.host ≤ maxLen) (q2 : szN d.mail ≤ maxLen) :
    Calls Try.prog 15 #[.pointer (some ⟨g, 0, none⟩), .int .i64 k, y.val d] w (fun e w' => e = .returned (.int .i64 0) ∧ Penned base w g vB vM (putD (shN k) d B R).1 (putD (shN k) d B R).2 w') := by
  have sp := soundP hs
  have q3 : ∀ k (h : k < d.texts.length), (d.texts[k]).length ≤ maxLen := fun k h => Nat.le_trans (sp.tl _ (List.getElem_mem h)) (by decide)
  have ksm := shN_small k
  have HSD := Lib.hid (fun W (h : DataAt W W.heap.size y d) => dsound_any k y d W h q1 q2 (Nat.le_trans sp.t (by decide)) q3)
  rw [hs] at HSD
  have HSH := Lib.hid (fun W => shapeOf_any k W)
  have hmost : (shN k).most ≤ 65535 := by
    rcases shN_cases k with rfl | rfl | rfl | rfl | rfl | rfl | rfl | rfl | rfl | hk
    case inr.inr.inr.inr.inr.inr.inr.inr.inr => rw [shN_other hk]; exact Nat.le_refl _
    all_goals decide
  obtain ⟨s, hss⟩ : ∃ s, s = shN k := ⟨_, rfl⟩
  rw [← hss] at HSH sp ksm h1 h2 hmost ⊢
  clear hss
  obtain ⟨ah, s1, s2, s3, be, s5, le, mo⟩ := s
  simp only at h1 h2 ksm hmost
  subst h1 h2
  have SP := Lib.hid sp
  have HGD := Lib.hid hG
  have hlow : ∀ j, ownF g vB vM j → j < w.heap.size := fun j hj => (h.own hj).2
  have HW := Lib.hid h
  have HO := Lib.hid ho
  have hcn := own_cap ho.n
  have hcm := own_capZ ho.n
  have hnl : d.nums.length = ah + be := sp.n
  have e1 : (0 : Int) ≤ (ah : Int) := by omega
  have e2 : (ah : Int) ≤ (y.cn : Int) := by omega
  have e3 : (ah : Int) ≤ (d.nums.length : Int) := by omega
  have e4 : (d.nums.length : Int) ≤ (y.cn : Int) := by omega
  have HNL := Lib.hid hnl
  unfold maxLen at hcm
  clear h ho hs sp hG q1 q2 q3 hnl
  go_enter Try.func15, Try.ntmps15
  go_wp2_with fail
  have hbox := Whole.made w [y.vb d, y.vh d, y.vm d, y.vn d, y.vt d] 26
  have hod := (HO.out.keep (w' := w.alloc (.cells #[y.vb d, y.vh d, y.vm d, y.vn d, y.vt d] 26)) fun g hg => Below.heap_alloc w _ g hg)
  refine (HSD.out _ hod.at_).mono ?_
  rintro e w1 ⟨rfl, hb1⟩
  have hbox1 := hbox.below hb1 hbox.lt
  have hod1 := hod.keep fun g hg => hb1.block g hg
  have hB1 : Below w.heap.size w w1 := ((Below.refl _ w).alloc (Nat.le_refl _) _).trans (hb1.mono (by simp))
  clear hbox hod hb1
  have HBX1 := Lib.hid hbox1
  have HOD1 := Lib.hid hod1
  have HB1 := Lib.hid hB1
  have hz1 : w.heap.size < w1.heap.size := hbox1.lt
  clear hbox1 hod1 hB1
  go_wp2_with fail
  refine (HSH.out _).mono ?_
  rintro e w2 ⟨rfl, hb2⟩
  obtain ⟨W0, hW0⟩ : ∃ W0, W0 = w2.alloc (.cells #[.int .i64 ah, .bool true, .bool false, .bool s3, .int .i64 be, .bool s5, .int .i64 le, .int .i64 mo] 85) := ⟨_, rfl⟩
  have hz2 := hb2.size
  have hbx : Whole W0 w.heap.size 26 [y.vb d, y.vh d, y.vm d, y.vn d, y.vt d] := by rw [hW0]; exact (HBX1.out.below hb2 hz1).alloc _
  have hshb : Whole W0 w2.heap.size 85 [.int .i64 ah, .bool true, .bool false, .bool s3, .int .i64 be, .bool s5, .int .i64 le, .int .i64 mo] := by rw [hW0]; exact Whole.made w2 _ _
  have hod : OwnD W0 Bd y d := by rw [hW0]; exact (HOD1.out.keep fun g hg => hb2.block g hg).keep fun g hg => Below.heap_alloc w2 _ g hg
  have hBW : Below w.heap.size w W0 := by rw [hW0]; exact (HB1.out.trans (hb2.mono (by omega))).alloc (by omega) _
  have hwr : Wr W0 base g vB vM B R := HW.out.keep fun j hj => hBW.block j (hlow j hj)
  have HBW := Lib.hid hBW
  have HALL := Lib.hid (fun W (hg : Grew (ownF g vB vM) W0 W) => (show Whole W w.heap.size 26 [y.vb d, y.vh d, y.vm d, y.vn d, y.vt d] ∧ Whole W w2.heap.size 85 [.int .i64 ah, .bool true, .bool false, .bool s3, .int .i64 be, .bool s5, .int .i64 le, .int .i64 mo] ∧ OwnD W Bd y d from
    ⟨hbx.grew hg (fun hj => by have := hlow _ hj; omega), hshb.grew hg (fun hj => by have := hlow _ hj; omega),
      own_grew hod.b hg fun j e hj => hsep j hj (.inl e), own_grew hod.h hg fun j e hj => hsep j hj (.inr (.inl e)), own_grew hod.m hg fun j e hj => hsep j hj (.inr (.inr (.inl e))),
      own_grew hod.n hg fun j e hj => hsep j hj (.inr (.inr (.inr (.inl e)))), own_grew hod.t hg fun j e hj => hsep j hj (.inr (.inr (.inr (.inr e))))⟩))
  have h0 := hwr
  have g0 : Grew (ownF g vB vM) W0 W0 := Grew.refl _ _
  have f0 : ∀ j, ownF g vB vM j → ownF g vB vM j ∨ W0.heap.size ≤ j := fun j hj => .inl hj
  have HW0 := Lib.hid hW0
  clear hW0 hbx hshb hod hBW hwr hb2 HBX1 HOD1 HB1 HW HO hlow hsep

  obtain ⟨hx, hy, _⟩ := HALL.out W0 g0
  have cs0 : W0.cell? ⟨w2.heap.size, 0, none⟩ = some (.int .i64 ah) := hy.cell 0
  have cd3 : W0.cell? ⟨w.heap.size, 3, none⟩ = some (.slice y.An d.nums.length y.cn) := hx.cell 3
  clear hx hy
  have H0 := Lib.hid h0
  have G0 := Lib.hid g0
  have F0 := Lib.hid f0
  clear h0 g0 f0
  rw [HW0.out] at cs0 cd3
  go_wp2_with fail
  rw [← HW0.out]
  refine (putNums_any base W0 g vB vM B R y.An ah y.cn (d.nums.take ah) 2 H0.out (by rw [List.length_take, HNL.out]; omega) (fun w' hw => by rw [List.map_take]; exact ((HALL.out w' (G0.out.trans hw F0.out)).2.2.at_.n.take ah)) (by omega) (by omega)).mono ?_
  rintro e W1 ⟨rfl, hp⟩
  obtain ⟨vB1, vM1, h1, g1, f1⟩ := Penned.next H0.out G0.out F0.out hp
  clear hp cs0 cd3
  have hB1 : (B ++ numsW 2 (d.nums.take ah)).length ≤ 100010000 := by have h1 := length_numsW 2 (d.nums.take ah); rw [List.length_append]; rw [List.length_take] at h1; omega
  have GD1 := Lib.hid (HGD.out.more (numsW 2 (d.nums.take ah)))
  obtain ⟨Bc, hBc⟩ : ∃ Bc, Bc = B ++ numsW 2 (d.nums.take ah) := ⟨_, rfl⟩
  rw [← hBc] at h1 hB1 GD1
  have hR1 : R.length ≤ 800000 := hR
  obtain ⟨Rc, hRc⟩ : ∃ Rc, Rc = R := ⟨_, rfl⟩
  rw [← hRc] at h1 hR1 GD1
  have HRC := Lib.hid hRc
  have HBC := Lib.hid hBc
  clear hRc hBc
  obtain ⟨hx, hy, _⟩ := HALL.out W1 g1
  have cs1 : W1.cell? ⟨w2.heap.size, 1, none⟩ = some (.bool true) := hy.cell 1
  have cs3 : W1.cell? ⟨w2.heap.size, 3, none⟩ = some (.bool s3) := hy.cell 3
  have cd1 : W1.cell? ⟨w.heap.size, 1, none⟩ = some (.slice y.Ah d.host.length y.ch) := hx.cell 1
  clear hx hy
  have H1 := Lib.hid h1
  have G1 := Lib.hid g1
  have F1 := Lib.hid f1
  clear h1 g1 f1
  go_wp2_with fail
  have hfs1 := soundN_parts (SP.out.h rfl)
  refine (name_sound base W1 g vB1 vM1 Bc Rc y.Ah d.host.length y.ch W1.heap.size d.host s3 H1.out rfl (HALL.out W1 G1.out).2.2.at_.h (Nat.le_refl _) (SP.out.h rfl) (by omega) (by omega) (fun r hr => (GD1.out r hr).1)).mono ?_
  rintro e W2 ⟨rfl, hp⟩
  obtain ⟨vB2, vM2, h2, g2, f2⟩ := Penned.next H1.out G1.out F1.out hp
  clear hp cs1 cs3 cd1
  have GD2 := Lib.hid (nameW_good (short := s3) hfs1.1 GD1.out).2.2
  have hl2 := length_nameW_le s3 d.host Bc Rc hfs1.1
  have hr2 := length_nameW_rests s3 d.host Bc Rc
  have hln2 := length_lt_szN d.host
  obtain ⟨Bd2, hBd2⟩ : ∃ x, x = (nameW s3 d.host Bc Rc).1 := ⟨_, rfl⟩
  obtain ⟨Rd2, hRd2⟩ : ∃ x, x = (nameW s3 d.host Bc Rc).2 := ⟨_, rfl⟩
  rw [← hBd2, ← hRd2] at h2 GD2
  rw [← hBd2] at hl2
  rw [← hRd2] at hr2
  have HEQ2 := Lib.hid (And.intro hBd2 hRd2)
  have hB2 : Bd2.length ≤ 100011000 := by omega
  have hR2 : Rd2.length ≤ 801000 := by omega
  clear hBd2 hRd2 hfs1 hl2 hr2 hln2 hB1 hR1
  obtain ⟨hx, hy, _⟩ := HALL.out W2 g2
  have cs2 : W2.cell? ⟨w2.heap.size, 2, none⟩ = some (.bool false) := hy.cell 2
  have cs0 : W2.cell? ⟨w2.heap.size, 0, none⟩ = some (.int .i64 ah) := hy.cell 0
  have cd3 : W2.cell? ⟨w.heap.size, 3, none⟩ = some (.slice y.An d.nums.length y.cn) := hx.cell 3
  clear hx hy
  have H2 := Lib.hid h2
  have G2 := Lib.hid g2
  have F2 := Lib.hid f2
  clear h2 g2 f2
  have ST1 := Lib.hid (show Stay (ownF g vB2 vM2) W2 (y.An.map fun x => x.add ah) ((d.nums.drop ah).map zv) from fun w' hw => by rw [List.map_drop]; exact row_drop (HALL.out w' (G2.out.trans hw F2.out)).2.2.at_.n)
  have ST2 := Lib.hid (fun (hcn2 : y.cn = ah) => (show Stay (ownF g vB2 vM2) W2 y.An ((d.nums.drop ah).map zv) from fun w' hw => by rw [List.drop_eq_nil_of_le (by omega)]; exact Row.empty _ _ _))
  go_wp2_with fail
  all_goals
    first
      | with_reducible refine (putNums_any base W2 g vB2 vM2 Bd2 Rd2 (y.An.map fun x => x.add ah) (d.nums.length - ah) (y.cn - ah) (d.nums.drop ah) 4 H2.out (List.length_drop ..) ST1.out (by have := HNL.out; omega) (by omega)).mono ?_
      | with_reducible refine (putNums_any base W2 g vB2 vM2 Bd2 Rd2 y.An (d.nums.length - ah) 0 (d.nums.drop ah) 4 H2.out (List.length_drop ..) (ST2.out (by assumption)) (by have := HNL.out; omega) (by omega)).mono ?_
    rintro e W3 ⟨rfl, hp⟩
    obtain ⟨vB3, vM3, h3, g3, f3⟩ := Penned.next H2.out G2.out F2.out hp
    clear hp cs2 cs0 cd3
    obtain ⟨hx, hy, _⟩ := HALL.out W3 g3
    have cd4 : W3.cell? ⟨w.heap.size, 4, none⟩ = some (.slice y.At d.texts.length y.ct) := hx.cell 4
    have hl4 := length_numsW 4 (d.nums.drop ah)
    rw [List.length_drop] at hl4
    have hB3 : (Bd2 ++ numsW 4 (d.nums.drop ah)).length ≤ 100030000 := by rw [List.length_append]; have := HNL.out; omega
    have H3 := Lib.hid h3
    have G3 := Lib.hid g3
    have F3 := Lib.hid f3
    clear h3 g3 f3 hx hy hl4
    go_wp2_with fail
    refine (putTexts_any base W3 g vB3 vM3 _ Rd2 y.At d.texts.length y.ct d.texts H3.out rfl (fun w' hw => (HALL.out w' (G3.out.trans hw F3.out)).2.2.at_.t) (by have := SP.out.t; omega) (by omega) (fun t ht => Nat.le_trans (SP.out.tl t ht) (by omega))).mono ?_
    rintro e W4 ⟨rfl, hp⟩
    obtain ⟨vB4, vM4, h4, g4, f4⟩ := Penned.next H3.out G3.out F3.out hp
    clear hp cd4
    obtain ⟨hx, hy, _⟩ := HALL.out W4 g4
    have cd0 : W4.cell? ⟨w.heap.size, 0, none⟩ = some (.slice y.Ab d.bytes.length y.cb) := hx.cell 0
    have hl5 := length_textsW 255 d.texts SP.out.tl
    have hl6 : (255 + 7) * d.texts.length ≤ (255 + 7) * 64 := Nat.mul_le_mul_left _ SP.out.t
    have hB4 : ((Bd2 ++ numsW 4 (d.nums.drop ah)) ++ textsW d.texts).length ≤ 100060000 := by rw [List.length_append]; omega
    have hbl := SP.out.b
    simp only at hbl
    have H4 := Lib.hid h4
    have G4 := Lib.hid g4
    have F4 := Lib.hid f4
    clear h4 g4 f4 hx hy hl5 hl6
    go_wp2_with fail
    refine (raw_any base W4 g vB4 vM4 _ Rd2 y.Ab d.bytes.length y.cb W4.heap.size d.bytes H4.out rfl (HALL.out W4 G4.out).2.2.at_.b (by omega)).mono ?_
    rintro e W5 ⟨rfl, hp⟩
    have hp2 := Penned.next H4.out G4.out F4.out hp
    have HP := Lib.hid hp2
    clear hp hp2 cd0
    go_wp2
    go_ret
    refine ⟨rfl, Penned.from HBW.out ?_⟩
    have hfin : putD ⟨ah, true, false, s3, be, s5, le, mo⟩ d B R = (((Bd2 ++ numsW 4 (d.nums.drop ah)) ++ textsW d.texts) ++ d.bytes, Rd2) := by
      rw [HEQ2.out.1, HEQ2.out.2, HBC.out, HRC.out]
      rfl
    rw [hfin]
    exact HP.out

set_option maxRecDepth 20000 in
set_option maxHeartbeats 1000000 in
theorem put_both (base : Nat) (w : World) (g : Nat) (vB vM : Value) (B : List UInt8) (R : Rs) (k : Int) (y : DV) (d : Dt) (Bd : Nat) (h : Wr w base g vB vM B R) (ho : OwnD w Bd y d) (hsep : ∀ j, ownF g vB vM j → ¬ y.owns d j) (hs : soundD k d = true) (h1 : (shN k).host = true) (h2 : (shN k).mail = true)
    (hB : B.length ≤ 100000000) (hR : R.length ≤ 800000) (hG : GoodR B R) (q1 : szN d.host ≤ maxLen) (q2 : szN d.mail ≤ maxLen) :
    Calls Try.prog 15 #[.pointer (some ⟨g, 0, none⟩), .int .i64 k, y.val d] w (fun e w' => e = .returned (.int .i64 0) ∧ Penned base w g vB vM (putD (shN k) d B R).1 (putD (shN k) d B R).2 w') := by
  have sp := soundP hs
  have q3 : ∀ k (h : k < d.texts.length), (d.texts[k]).length ≤ maxLen := fun k h => Nat.le_trans (sp.tl _ (List.getElem_mem h)) (by decide)
  have ksm := shN_small k
  have HSD := Lib.hid (fun W (h : DataAt W W.heap.size y d) => dsound_any k y d W h q1 q2 (Nat.le_trans sp.t (by decide)) q3)
  rw [hs] at HSD
  have HSH := Lib.hid (fun W => shapeOf_any k W)
  have hmost : (shN k).most ≤ 65535 := by
    rcases shN_cases k with rfl | rfl | rfl | rfl | rfl | rfl | rfl | rfl | rfl | hk
    case inr.inr.inr.inr.inr.inr.inr.inr.inr => rw [shN_other hk]; exact Nat.le_refl _
    all_goals decide
  obtain ⟨s, hss⟩ : ∃ s, s = shN k := ⟨_, rfl⟩
  rw [← hss] at HSH sp ksm h1 h2 hmost ⊢
  clear hss
  obtain ⟨ah, s1, s2, s3, be, s5, le, mo⟩ := s
  simp only at h1 h2 ksm hmost
  subst h1 h2
  have SP := Lib.hid sp
  have HGD := Lib.hid hG
  have hlow : ∀ j, ownF g vB vM j → j < w.heap.size := fun j hj => (h.own hj).2
  have HW := Lib.hid h
  have HO := Lib.hid ho
  have hcn := own_cap ho.n
  have hcm := own_capZ ho.n
  have hnl : d.nums.length = ah + be := sp.n
  have e1 : (0 : Int) ≤ (ah : Int) := by omega
  have e2 : (ah : Int) ≤ (y.cn : Int) := by omega
  have e3 : (ah : Int) ≤ (d.nums.length : Int) := by omega
  have e4 : (d.nums.length : Int) ≤ (y.cn : Int) := by omega
  have HNL := Lib.hid hnl
  unfold maxLen at hcm
  clear h ho hs sp hG q1 q2 q3 hnl
  go_enter Try.func15, Try.ntmps15
  go_wp2_with fail
  have hbox := Whole.made w [y.vb d, y.vh d, y.vm d, y.vn d, y.vt d] 26
  have hod := (HO.out.keep (w' := w.alloc (.cells #[y.vb d, y.vh d, y.vm d, y.vn d, y.vt d] 26)) fun g hg => Below.heap_alloc w _ g hg)
  refine (HSD.out _ hod.at_).mono ?_
  rintro e w1 ⟨rfl, hb1⟩
  have hbox1 := hbox.below hb1 hbox.lt
  have hod1 := hod.keep fun g hg => hb1.block g hg
  have hB1 : Below w.heap.size w w1 := ((Below.refl _ w).alloc (Nat.le_refl _) _).trans (hb1.mono (by simp))
  clear hbox hod hb1
  have HBX1 := Lib.hid hbox1
  have HOD1 := Lib.hid hod1
  have HB1 := Lib.hid hB1
  have hz1 : w.heap.size < w1.heap.size := hbox1.lt
  clear hbox1 hod1 hB1
  go_wp2_with fail
  refine (HSH.out _).mono ?_
  rintro e w2 ⟨rfl, hb2⟩
  obtain ⟨W0, hW0⟩ : ∃ W0, W0 = w2.alloc (.cells #[.int .i64 ah, .bool true, .bool true, .bool s3, .int .i64 be, .bool s5, .int .i64 le, .int .i64 mo] 85) := ⟨_, rfl⟩
  have hz2 := hb2.size
  have hbx : Whole W0 w.heap.size 26 [y.vb d, y.vh d, y.vm d, y.vn d, y.vt d] := by rw [hW0]; exact (HBX1.out.below hb2 hz1).alloc _
  have hshb : Whole W0 w2.heap.size 85 [.int .i64 ah, .bool true, .bool true, .bool s3, .int .i64 be, .bool s5, .int .i64 le, .int .i64 mo] := by rw [hW0]; exact Whole.made w2 _ _
  have hod : OwnD W0 Bd y d := by rw [hW0]; exact (HOD1.out.keep fun g hg => hb2.block g hg).keep fun g hg => Below.heap_alloc w2 _ g hg
  have hBW : Below w.heap.size w W0 := by rw [hW0]; exact (HB1.out.trans (hb2.mono (by omega))).alloc (by omega) _
  have hwr : Wr W0 base g vB vM B R := HW.out.keep fun j hj => hBW.block j (hlow j hj)
  have HBW := Lib.hid hBW
  have HALL := Lib.hid (fun W (hg : Grew (ownF g vB vM) W0 W) => (show Whole W w.heap.size 26 [y.vb d, y.vh d, y.vm d, y.vn d, y.vt d] ∧ Whole W w2.heap.size 85 [.int .i64 ah, .bool true, .bool true, .bool s3, .int .i64 be, .bool s5, .int .i64 le, .int .i64 mo] ∧ OwnD W Bd y d from
    ⟨hbx.grew hg (fun hj => by have := hlow _ hj; omega), hshb.grew hg (fun hj => by have := hlow _ hj; omega),
      own_grew hod.b hg fun j e hj => hsep j hj (.inl e), own_grew hod.h hg fun j e hj => hsep j hj (.inr (.inl e)), own_grew hod.m hg fun j e hj => hsep j hj (.inr (.inr (.inl e))),
      own_grew hod.n hg fun j e hj => hsep j hj (.inr (.inr (.inr (.inl e)))), own_grew hod.t hg fun j e hj => hsep j hj (.inr (.inr (.inr (.inr e))))⟩))
  have h0 := hwr
  have g0 : Grew (ownF g vB vM) W0 W0 := Grew.refl _ _
  have f0 : ∀ j, ownF g vB vM j → ownF g vB vM j ∨ W0.heap.size ≤ j := fun j hj => .inl hj
  have HW0 := Lib.hid hW0
  clear hW0 hbx hshb hod hBW hwr hb2 HBX1 HOD1 HB1 HW HO hlow hsep

  obtain ⟨hx, hy, _⟩ := HALL.out W0 g0
  have cs0 : W0.cell? ⟨w2.heap.size, 0, none⟩ = some (.int .i64 ah) := hy.cell 0
  have cd3 : W0.cell? ⟨w.heap.size, 3, none⟩ = some (.slice y.An d.nums.length y.cn) := hx.cell 3
  clear hx hy
  have H0 := Lib.hid h0
  have G0 := Lib.hid g0
  have F0 := Lib.hid f0
  clear h0 g0 f0
  rw [HW0.out] at cs0 cd3
  go_wp2_with fail
  rw [← HW0.out]
  refine (putNums_any base W0 g vB vM B R y.An ah y.cn (d.nums.take ah) 2 H0.out (by rw [List.length_take, HNL.out]; omega) (fun w' hw => by rw [List.map_take]; exact ((HALL.out w' (G0.out.trans hw F0.out)).2.2.at_.n.take ah)) (by omega) (by omega)).mono ?_
  rintro e W1 ⟨rfl, hp⟩
  obtain ⟨vB1, vM1, h1, g1, f1⟩ := Penned.next H0.out G0.out F0.out hp
  clear hp cs0 cd3
  have hB1 : (B ++ numsW 2 (d.nums.take ah)).length ≤ 100010000 := by have h1 := length_numsW 2 (d.nums.take ah); rw [List.length_append]; rw [List.length_take] at h1; omega
  have GD1 := Lib.hid (HGD.out.more (numsW 2 (d.nums.take ah)))
  obtain ⟨Bc, hBc⟩ : ∃ Bc, Bc = B ++ numsW 2 (d.nums.take ah) := ⟨_, rfl⟩
  rw [← hBc] at h1 hB1 GD1
  have hR1 : R.length ≤ 800000 := hR
  obtain ⟨Rc, hRc⟩ : ∃ Rc, Rc = R := ⟨_, rfl⟩
  rw [← hRc] at h1 hR1 GD1
  have HRC := Lib.hid hRc
  have HBC := Lib.hid hBc
  clear hRc hBc
  obtain ⟨hx, hy, _⟩ := HALL.out W1 g1
  have cs1 : W1.cell? ⟨w2.heap.size, 1, none⟩ = some (.bool true) := hy.cell 1
  have cs3 : W1.cell? ⟨w2.heap.size, 3, none⟩ = some (.bool s3) := hy.cell 3
  have cd1 : W1.cell? ⟨w.heap.size, 1, none⟩ = some (.slice y.Ah d.host.length y.ch) := hx.cell 1
  clear hx hy
  have H1 := Lib.hid h1
  have G1 := Lib.hid g1
  have F1 := Lib.hid f1
  clear h1 g1 f1
  go_wp2_with fail
  have hfs1 := soundN_parts (SP.out.h rfl)
  refine (name_sound base W1 g vB1 vM1 Bc Rc y.Ah d.host.length y.ch W1.heap.size d.host s3 H1.out rfl (HALL.out W1 G1.out).2.2.at_.h (Nat.le_refl _) (SP.out.h rfl) (by omega) (by omega) (fun r hr => (GD1.out r hr).1)).mono ?_
  rintro e W2 ⟨rfl, hp⟩
  obtain ⟨vB2, vM2, h2, g2, f2⟩ := Penned.next H1.out G1.out F1.out hp
  clear hp cs1 cs3 cd1
  have GD2 := Lib.hid (nameW_good (short := s3) hfs1.1 GD1.out).2.2
  have hl2 := length_nameW_le s3 d.host Bc Rc hfs1.1
  have hr2 := length_nameW_rests s3 d.host Bc Rc
  have hln2 := length_lt_szN d.host
  obtain ⟨Bd2, hBd2⟩ : ∃ x, x = (nameW s3 d.host Bc Rc).1 := ⟨_, rfl⟩
  obtain ⟨Rd2, hRd2⟩ : ∃ x, x = (nameW s3 d.host Bc Rc).2 := ⟨_, rfl⟩
  rw [← hBd2, ← hRd2] at h2 GD2
  rw [← hBd2] at hl2
  rw [← hRd2] at hr2
  have HEQ2 := Lib.hid (And.intro hBd2 hRd2)
  have hB2 : Bd2.length ≤ 100011000 := by omega
  have hR2 : Rd2.length ≤ 801000 := by omega
  clear hBd2 hRd2 hfs1 hl2 hr2 hln2 hB1 hR1
  obtain ⟨hx, hy, _⟩ := HALL.out W2 g2
  have cs2 : W2.cell? ⟨w2.heap.size, 2, none⟩ = some (.bool true) := hy.cell 2
  have cs3 : W2.cell? ⟨w2.heap.size, 3, none⟩ = some (.bool s3) := hy.cell 3
  have cd2 : W2.cell? ⟨w.heap.size, 2, none⟩ = some (.slice y.Am d.mail.length y.cm) := hx.cell 2
  clear hx hy
  have H2 := Lib.hid h2
  have G2 := Lib.hid g2
  have F2 := Lib.hid f2
  clear h2 g2 f2
  go_wp2_with fail
  have hfs2 := soundN_parts (SP.out.m rfl)
  refine (name_sound base W2 g vB2 vM2 Bd2 Rd2 y.Am d.mail.length y.cm W2.heap.size d.mail s3 H2.out rfl (HALL.out W2 G2.out).2.2.at_.m (Nat.le_refl _) (SP.out.m rfl) (by omega) (by omega) (fun r hr => (GD2.out r hr).1)).mono ?_
  rintro e W3 ⟨rfl, hp⟩
  obtain ⟨vB3, vM3, h3, g3, f3⟩ := Penned.next H2.out G2.out F2.out hp
  clear hp cs2 cs3 cd2
  have hl3 := length_nameW_le s3 d.mail Bd2 Rd2 hfs2.1
  obtain ⟨Be, hBe⟩ : ∃ x, x = (nameW s3 d.mail Bd2 Rd2).1 := ⟨_, rfl⟩
  obtain ⟨Re, hRe⟩ : ∃ x, x = (nameW s3 d.mail Bd2 Rd2).2 := ⟨_, rfl⟩
  rw [← hBe, ← hRe] at h3
  rw [← hBe] at hl3
  have HEQ3 := Lib.hid (And.intro hBe hRe)
  have hB3 : Be.length ≤ 100020000 := by omega
  clear hBe hRe hfs2 hl3 hB2
  obtain ⟨hx, hy, _⟩ := HALL.out W3 g3
  have cs0 : W3.cell? ⟨w2.heap.size, 0, none⟩ = some (.int .i64 ah) := hy.cell 0
  have cd3 : W3.cell? ⟨w.heap.size, 3, none⟩ = some (.slice y.An d.nums.length y.cn) := hx.cell 3
  clear hx hy
  have H3 := Lib.hid h3
  have G3 := Lib.hid g3
  have F3 := Lib.hid f3
  clear h3 g3 f3
  have ST1 := Lib.hid (show Stay (ownF g vB3 vM3) W3 (y.An.map fun x => x.add ah) ((d.nums.drop ah).map zv) from fun w' hw => by rw [List.map_drop]; exact row_drop (HALL.out w' (G3.out.trans hw F3.out)).2.2.at_.n)
  have ST2 := Lib.hid (fun (hcn2 : y.cn = ah) => (show Stay (ownF g vB3 vM3) W3 y.An ((d.nums.drop ah).map zv) from fun w' hw => by rw [List.drop_eq_nil_of_le (by omega)]; exact Row.empty _ _ _))
  go_wp2_with fail
  all_goals
    first
      | with_reducible refine (putNums_any base W3 g vB3 vM3 Be Re (y.An.map fun x => x.add ah) (d.nums.length - ah) (y.cn - ah) (d.nums.drop ah) 4 H3.out (List.length_drop ..) ST1.out (by have := HNL.out; omega) (by omega)).mono ?_
      | with_reducible refine (putNums_any base W3 g vB3 vM3 Be Re y.An (d.nums.length - ah) 0 (d.nums.drop ah) 4 H3.out (List.length_drop ..) (ST2.out (by assumption)) (by have := HNL.out; omega) (by omega)).mono ?_
    rintro e W4 ⟨rfl, hp⟩
    obtain ⟨vB4, vM4, h4, g4, f4⟩ := Penned.next H3.out G3.out F3.out hp
    clear hp cs0 cd3
    obtain ⟨hx, hy, _⟩ := HALL.out W4 g4
    have cd4 : W4.cell? ⟨w.heap.size, 4, none⟩ = some (.slice y.At d.texts.length y.ct) := hx.cell 4
    have hl4 := length_numsW 4 (d.nums.drop ah)
    rw [List.length_drop] at hl4
    have hB4 : (Be ++ numsW 4 (d.nums.drop ah)).length ≤ 100030000 := by rw [List.length_append]; have := HNL.out; omega
    have H4 := Lib.hid h4
    have G4 := Lib.hid g4
    have F4 := Lib.hid f4
    clear h4 g4 f4 hx hy hl4
    go_wp2_with fail
    refine (putTexts_any base W4 g vB4 vM4 _ Re y.At d.texts.length y.ct d.texts H4.out rfl (fun w' hw => (HALL.out w' (G4.out.trans hw F4.out)).2.2.at_.t) (by have := SP.out.t; omega) (by omega) (fun t ht => Nat.le_trans (SP.out.tl t ht) (by omega))).mono ?_
    rintro e W5 ⟨rfl, hp⟩
    obtain ⟨vB5, vM5, h5, g5, f5⟩ := Penned.next H4.out G4.out F4.out hp
    clear hp cd4
    obtain ⟨hx, hy, _⟩ := HALL.out W5 g5
    have cd0 : W5.cell? ⟨w.heap.size, 0, none⟩ = some (.slice y.Ab d.bytes.length y.cb) := hx.cell 0
    have hl5 := length_textsW 255 d.texts SP.out.tl
    have hl6 : (255 + 7) * d.texts.length ≤ (255 + 7) * 64 := Nat.mul_le_mul_left _ SP.out.t
    have hB5 : ((Be ++ numsW 4 (d.nums.drop ah)) ++ textsW d.texts).length ≤ 100060000 := by rw [List.length_append]; omega
    have hbl := SP.out.b
    simp only at hbl
    have H5 := Lib.hid h5
    have G5 := Lib.hid g5
    have F5 := Lib.hid f5
    clear h5 g5 f5 hx hy hl5 hl6
    go_wp2_with fail
    refine (raw_any base W5 g vB5 vM5 _ Re y.Ab d.bytes.length y.cb W5.heap.size d.bytes H5.out rfl (HALL.out W5 G5.out).2.2.at_.b (by omega)).mono ?_
    rintro e W6 ⟨rfl, hp⟩
    have hp2 := Penned.next H5.out G5.out F5.out hp
    have HP := Lib.hid hp2
    clear hp hp2 cd0
    go_wp2
    go_ret
    refine ⟨rfl, Penned.from HBW.out ?_⟩
    have hfin : putD ⟨ah, true, true, s3, be, s5, le, mo⟩ d B R = (((Be ++ numsW 4 (d.nums.drop ah)) ++ textsW d.texts) ++ d.bytes, Re) := by
      rw [HEQ3.out.1, HEQ3.out.2, HEQ2.out.1, HEQ2.out.2, HBC.out, HRC.out]
      rfl
    rw [hfin]
    exact HP.out

end Go.Proofs.Ytjjmllbkfbdcnaa
