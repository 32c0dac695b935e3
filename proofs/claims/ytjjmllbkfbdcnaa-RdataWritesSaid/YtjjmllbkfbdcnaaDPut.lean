/-
  The contracts of rdata's putNums and putTexts.
-/
import Derived.Test.YtjjmllbkfbdcnaaWName
import Derived.Test.YtjjmllbkfbdcnaaData
import Derived.Test.YtjjmllbkfbdcnaaDInt
namespace Go.Proofs.Ytjjmllbkfbdcnaa
open Go.RowKit

def numsW (s : Int) : List Int → List UInt8
  | [] => []
  | n :: l => putL [] n s ++ numsW s l
theorem numsW_snoc (s : Int) (n : Int) : ∀ l, numsW s (l ++ [n]) = numsW s l ++ putL [] n s
  | [] => by simp [numsW]
  | m :: l => by simp [numsW, numsW_snoc s n l]
theorem length_putL (n s : Int) : (putL [] n s).length ≤ 7 := by
  unfold putL
  split
  · rename_i h
    simp only [fitB, decide_eq_true_eq] at h
    simp [length_digs]
    omega
  · simp
theorem length_numsW (s : Int) : ∀ l : List Int, (numsW s l).length ≤ 7 * l.length
  | [] => by simp [numsW]
  | n :: l => by
    have h1 := length_numsW s l
    have h2 := length_putL n s
    simp only [numsW, List.length_append, List.length_cons]
    omega
def textsW : List (List UInt8) → List UInt8
  | [] => []
  | t :: l => putL [] (t.length : Int) 1 ++ (t ++ textsW l)
theorem textsW_snoc (t : List UInt8) : ∀ l, textsW (l ++ [t]) = textsW l ++ (putL [] (t.length : Int) 1 ++ t)
  | [] => by simp [textsW]
  | m :: l => by simp [textsW, textsW_snoc t l]
theorem length_textsW (M : Nat) : ∀ l : List (List UInt8), (∀ t ∈ l, t.length ≤ M) → (textsW l).length ≤ (M + 7) * l.length
  | [], _ => by simp [textsW]
  | t :: l, h => by
    have h1 := length_textsW M l fun x hx => h x (List.mem_cons_of_mem _ hx)
    have h2 := length_putL (t.length : Int) 1
    have h3 := h t (List.mem_cons_self ..)
    simp only [textsW, List.length_append, List.length_cons, Nat.mul_add]
    omega

/-- A row that stays while blocks in F turn. -/
def Stay (F : Nat → Prop) (w : World) (A : Option Addr) (xs : List Value) : Prop := ∀ w', Grew F w w' → Row w' w'.heap.size A xs
theorem Stay.row {F : Nat → Prop} {w : World} {A : Option Addr} {xs : List Value} (h : Stay F w A xs) : Row w w.heap.size A xs := h w (Grew.refl _ _)

theorem Penned.more {base : Nat} {w w1 w2 : World} {g : Nat} {vB vM : Value} {B : List UInt8} {R : Rs} (h : Penned base w g vB vM B R w1) (hb : Below w1.heap.size w1 w2) : Penned base w g vB vM B R w2 := by
  obtain ⟨vB1, vM1, h1, hg, hf⟩ := h
  exact ⟨vB1, vM1, h1.below hb, hg.then_below hb, hf⟩
theorem Penned.next {base : Nat} {w w1 w2 : World} {g : Nat} {vB vM vB1 vM1 : Value} {B B2 : List UInt8} {R R2 : Rs} (_ : Wr w1 base g vB1 vM1 B R) (hg : Grew (ownF g vB vM) w w1) (hf : ∀ j, ownF g vB1 vM1 j → ownF g vB vM j ∨ w.heap.size ≤ j)
    (h2 : Penned base w1 g vB1 vM1 B2 R2 w2) : Penned base w g vB vM B2 R2 w2 := Penned.then hg hf h2

def PNRel (base : Nat) (w : World) (g : Nat) (vB vM : Value) (B : List UInt8) (R : Rs) (s : Int) (l : List Int) (i : Value) (wr : World) : Prop :=
  ∃ k : Nat, k ≤ l.length ∧ i = .int .i64 k ∧ Penned base w g vB vM (B ++ numsW s (l.take k)) R wr

set_option maxRecDepth 4000 in
set_option maxHeartbeats 1000000 in
theorem putNums_any (base : Nat) (w : World) (g : Nat) (vB vM : Value) (B : List UInt8) (R : Rs) (A : Option Addr) (m c : Nat) (l : List Int) (s : Int) (h : Wr w base g vB vM B R) (hl : l.length = m) (hA : Stay (ownF g vB vM) w A (l.map zv)) (hm : m ≤ 1000) (hB : B.length ≤ 1000000000) :
    Calls Try.prog 52 #[.pointer (some ⟨g, 0, none⟩), .slice A m c, .int .i64 s] w (fun e w' => e = .returned (.tuple #[]) ∧ Penned base w g vB vM (B ++ numsW s l) R w') := by
  have HNUM := Lib.hid (fun W vB1 vM1 B1 n (h : Wr W base g vB1 vM1 B1 R) hb => num_any base W g vB1 vM1 B1 R n s h hb)
  have HA := Lib.hid hA
  have HL := Lib.hid hl
  have HW := Lib.hid h
  clear h hA hl
  go_enter Try.func52, Try.ntmps52
  go_wp2
  go_loopw [10] (PNRel base w g vB vM B R s l) (fun i _ => m - (intOf i).toNat)
  case atStart => exact ⟨0, Nat.zero_le _, rfl, by simpa [numsW] using Penned.refl HW.out⟩
  case round =>
    obtain ⟨k, hk, rfl, hp⟩ := hrel
    by_cases hlt : k < m
    · have hkl : k < l.length := by rw [HL.out]; exact hlt
      obtain ⟨vB1, vM1, h1, hg, hf⟩ := hp
      obtain ⟨b, off, rfl, _, hc⟩ := (HA.out wr hg).int_at hkl
      have hlen : (B ++ numsW s (l.take k)).length ≤ 140737488354000 := by
        have := length_numsW s (l.take k)
        rw [List.length_append]
        rw [List.length_take] at this
        omega
      have H1 := Lib.hid h1
      have HG := Lib.hid hg
      have HF := Lib.hid hf
      have HLEN := Lib.hid hlen
      clear h1 hg hf hlen
      go_wp2_with fail
      refine (HNUM.out wr vB1 vM1 _ l[k] H1.out HLEN.out).mono ?_
      rintro e w1 ⟨rfl, hp⟩
      have HP := Lib.hid (Penned.next H1.out HG.out HF.out hp)
      clear hp
      go_wp2
      refine ⟨⟨k + 1, hkl, by go_num, ?_⟩, by simp [intOf]; omega⟩
      rw [List.take_succ_eq_append_getElem hkl, numsW_snoc, ← List.append_assoc]
      exact HP.out
    · obtain rfl : k = m := by have := HL.out; omega
      have HP := Lib.hid hp
      clear hp
      go_wp2
      go_end0
      exact ⟨rfl, by have h := HP.out; rw [← HL.out, List.take_length] at h; exact h⟩

def PTRel (base : Nat) (w : World) (g : Nat) (vB vM : Value) (B : List UInt8) (R : Rs) (l : List (List UInt8)) (i : Value) (wr : World) : Prop :=
  ∃ k : Nat, k ≤ l.length ∧ i = .int .i64 k ∧ Penned base w g vB vM (B ++ textsW (l.take k)) R wr

set_option maxRecDepth 4000 in
set_option maxHeartbeats 1000000 in
theorem putTexts_any (base : Nat) (w : World) (g : Nat) (vB vM : Value) (B : List UInt8) (R : Rs) (A : Option Addr) (m c : Nat) (l : List (List UInt8)) (h : Wr w base g vB vM B R) (hl : l.length = m) (hA : Stay (ownF g vB vM) w A (l.map sv)) (hm : m ≤ 1000) (hB : B.length ≤ 1000000000) (ht : ∀ t ∈ l, t.length ≤ 1000) :
    Calls Try.prog 53 #[.pointer (some ⟨g, 0, none⟩), .slice A m c] w (fun e w' => e = .returned (.tuple #[]) ∧ Penned base w g vB vM (B ++ textsW l) R w') := by
  have HNUM := Lib.hid (fun W vB1 vM1 B1 n (h : Wr W base g vB1 vM1 B1 R) hb => num_any base W g vB1 vM1 B1 R n 1 h hb)
  have HRAW := Lib.hid (fun W vB1 vM1 B1 A1 m1 c1 H1 l1 (h : Wr W base g vB1 vM1 B1 R) hl1 hr1 hb => raw_any base W g vB1 vM1 B1 R A1 m1 c1 H1 l1 h hl1 hr1 hb)
  have HA := Lib.hid hA
  have HL := Lib.hid hl
  have HW := Lib.hid h
  have HT := Lib.hid ht
  clear h hA hl ht
  go_enter Try.func53, Try.ntmps53
  go_wp2
  go_loopw [8] (PTRel base w g vB vM B R l) (fun i _ => m - (intOf i).toNat)
  case atStart => exact ⟨0, Nat.zero_le _, rfl, by simpa [textsW] using Penned.refl HW.out⟩
  case round =>
    obtain ⟨k, hk, rfl, hp⟩ := hrel
    by_cases hlt : k < m
    · have hkl : k < l.length := by rw [HL.out]; exact hlt
      obtain ⟨vB1, vM1, h1, hg, hf⟩ := hp
      obtain ⟨b, off, rfl, _, hc⟩ := (HA.out wr hg).name_at hkl
      have hlk := HT.out l[k] (List.getElem_mem hkl)
      have hlen : (B ++ textsW (l.take k)).length + 3000 ≤ 140737488354000 := by
        have := length_textsW 1000 (l.take k) fun t ht => HT.out t (List.mem_of_mem_take ht)
        rw [List.length_append]
        rw [List.length_take] at this
        have h3 : (1000 + 7) * min k l.length ≤ (1000 + 7) * 1000 := Nat.mul_le_mul_left _ (by omega)
        omega
      have H1 := Lib.hid h1
      have HG := Lib.hid hg
      have HF := Lib.hid hf
      have HLEN := Lib.hid hlen
      have HTS := Lib.hid (show textsW (l.take (k + 1)) = textsW (l.take k) ++ (putL [] (l[k].length : Int) 1 ++ l[k]) by rw [List.take_succ_eq_append_getElem hkl, textsW_snoc])
      obtain ⟨t, htt⟩ : ∃ t, t = l[k] := ⟨_, rfl⟩
      rw [← htt] at hc hlk HTS
      clear h1 hg hf hlen htt
      go_wp2_with fail
      refine (HNUM.out wr vB1 vM1 _ (t.length : Int) H1.out (by have := HLEN.out; omega)).mono ?_
      rintro e w1 ⟨rfl, hp⟩
      have HP := Lib.hid (Penned.next H1.out HG.out HF.out hp)
      clear hp
      go_wp2_with (refine wpList_bytes rfl (.tmp 17) 9 22 5 rfl Try.underlying9 Try.underlying22 Try.underlying5 t rfl ?_; intro C4 w2 hC4 hM4 hB4 hs4)
      obtain ⟨vB2, vM2, h2, hg2, hf2⟩ := HP.out.more hB4
      have hr := hM4.row.take t.length
      rw [List.take_left' (by rw [List.length_map])] at hr
      have HR := Lib.hid hr
      have H2 := Lib.hid h2
      have HG2 := Lib.hid hg2
      have HF2 := Lib.hid hf2
      clear hr h2 hg2 hf2 hM4 hB4 hs4
      have hp7 := length_putL (t.length : Int) 1
      refine (HRAW.out w2 vB2 vM2 _ _ t.length C4 _ t H2.out rfl HR.out (by have := HLEN.out; rw [List.length_append]; omega)).mono ?_
      rintro e w3 ⟨rfl, hp⟩
      have HP3 := Lib.hid (Penned.next H2.out HG2.out HF2.out hp)
      clear hp
      go_wp2
      refine ⟨⟨k + 1, hkl, by go_num, ?_⟩, by simp [intOf]; omega⟩
      rw [HTS.out, ← List.append_assoc, ← List.append_assoc]
      exact HP3.out
    · obtain rfl : k = m := by have := HL.out; omega
      have HP := Lib.hid hp
      clear hp
      go_wp2
      go_end0
      exact ⟨rfl, by have h := HP.out; rw [← HL.out, List.take_length] at h; exact h⟩

end Go.Proofs.Ytjjmllbkfbdcnaa
