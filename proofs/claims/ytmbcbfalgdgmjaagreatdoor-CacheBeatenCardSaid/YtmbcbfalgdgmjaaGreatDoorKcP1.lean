/-
  Plain mathematics: numbers as bytes, the highest byte first. No program is imported.
-/
import Derived.WalkKit
import Derived.WalkSpells
import Derived.WalkLawsBesides
import Derived.Laws.AppendOwnNone
import Derived.Laws.CopyOwn
import Derived.Maps.AppendAt
import Derived.Laws.BytesArg
import Derived.Deep.Draws
import Derived.Deep.QuietTactic
import Derived.BigQuiet
import Derived.Lib.Hide
import Derived.Test.YtmbcbfalgdgmjaaGreatDoorProg
import Derived.Laws.IdiomStrings
import Derived.Lib.Bytealg
import Derived.Maps.OwnSet
import Derived.Lib.Small
import Derived.StillTailTactics
import Derived.IntWalk
import Derived.Deep.RegionHeld3
namespace Go.Proofs.YtmbcbfalgdgmjaaGreatDoor
open Go.RowKit

/-- Does n fit into s bytes? -/
def fitB (n s : Int) : Bool := decide (1 ≤ s ∧ s ≤ 7 ∧ 0 ≤ n ∧ n < 2 ^ (8 * s.toNat))
def szB (s : Int) : Bool := decide (1 ≤ s ∧ s ≤ 7)

theorem szB_true {s : Int} (h : 1 ≤ s ∧ s ≤ 7) : szB s = true := by simp [szB, h]
theorem szB_false {s : Int} (h : ¬ (1 ≤ s ∧ s ≤ 7)) : szB s = false := by simp [szB, h]
theorem fitB_true {n s : Int} (h1 : 1 ≤ s) (h2 : s ≤ 7) (h3 : 0 ≤ n) (h4 : n < 2 ^ (8 * s.toNat)) : fitB n s = true := by simp [fitB, h1, h2, h3, h4]
theorem fitB_no_size {n s : Int} (h : ¬ (1 ≤ s ∧ s ≤ 7)) : fitB n s = false := by
  simp only [fitB, decide_eq_false_iff_not]; intro hh; exact h ⟨hh.1, hh.2.1⟩
theorem fitB_neg {n s : Int} (h : n < 0) : fitB n s = false := by
  simp only [fitB, decide_eq_false_iff_not]; intro hh; omega
theorem fitB_big {n s : Int} (h : ¬ n < 2 ^ (8 * s.toNat)) : fitB n s = false := by
  simp only [fitB, decide_eq_false_iff_not]; intro hh; exact h hh.2.2.2

theorem fitB_shr {n s : Int} (h1 : 1 ≤ s) (h2 : s ≤ 7) (h3 : 0 ≤ n) : (n / 2 ^ (8 * s).toNat == 0) = fitB n s := by
  have e : (8 * s).toNat = 8 * s.toNat := by omega
  rw [e]
  have hp : (0 : Int) < 2 ^ (8 * s.toNat) := by exact Int.pow_pos (by omega)
  by_cases h : n < 2 ^ (8 * s.toNat)
  · rw [fitB_true h1 h2 h3 h, Int.ediv_eq_zero_of_lt h3 h]; rfl
  · rw [fitB_big h]
    have : 1 ≤ n / 2 ^ (8 * s.toNat) := by rw [Int.le_ediv_iff_mul_le hp]; omega
    rw [beq_eq_false_iff_ne]; omega

theorem div_step (n : Int) (k : Nat) : n / 2 ^ (8 * k) / 256 = n / 2 ^ (8 * (k + 1)) := by
  rw [Int.ediv_ediv_of_nonneg (Int.le_of_lt (Int.pow_pos (by omega))), show 8 * (k + 1) = 8 * k + 8 from by omega, Int.pow_add]
  rfl
theorem div_nonneg' {n : Int} (h : 0 ≤ n) (k : Nat) : 0 ≤ n / 2 ^ (8 * k) := Int.ediv_nonneg h (Int.le_of_lt (Int.pow_pos (by omega)))
theorem div_le' {n : Int} (h : 0 ≤ n) (k : Nat) : n / 2 ^ (8 * k) ≤ n := Int.ediv_le_self _ h

/-- A byte as a cell. -/
def bc (b : UInt8) : Value := .int .u8 (b.toNat : Int)

/-- The number that bytes are, the highest first. -/
def numN (l : List UInt8) : Nat := l.foldl (fun n x => n * 256 + x.toNat) 0
theorem numN_nil : numN [] = 0 := rfl
theorem numN_snoc (l : List UInt8) (x : UInt8) : numN (l ++ [x]) = numN l * 256 + x.toNat := by simp [numN]
theorem numN_from : ∀ (l : List UInt8) (n m : Nat), n < m → l.foldl (fun n x => n * 256 + x.toNat) n < m * 256 ^ l.length
  | [], n, m, h => by simpa using h
  | x :: l, n, m, h => by
    have hx := x.toNat_lt
    have := numN_from l (n * 256 + x.toNat) (m * 256) (by omega)
    simp only [List.foldl_cons, List.length_cons, Nat.pow_succ]
    rw [show m * (256 ^ l.length * 256) = m * 256 * 256 ^ l.length from by rw [Nat.mul_comm (256 ^ l.length), Nat.mul_assoc]]
    exact this
theorem numN_lt (l : List UInt8) : numN l < 256 ^ l.length := by
  have := numN_from l 0 1 (by omega)
  simpa [numN] using this
theorem numN_le48 (l : List UInt8) (h : l.length ≤ 6) : numN l < 281474976710656 :=
  Nat.lt_of_lt_of_le (numN_lt l) (by
    have := Nat.pow_le_pow_right (n := 256) (by omega) h
    simpa using this)
/-- The bytes from place a on, k of them. -/
def cutL (l : List UInt8) (a k : Nat) : List UInt8 := (l.drop a).take k
theorem cutL_succ {l : List UInt8} {a k : Nat} (h : a + k < l.length) : cutL l a (k + 1) = cutL l a k ++ [l[a + k]] := by
  unfold cutL
  rw [List.take_succ_eq_append_getElem (by simp; omega)]
  simp
theorem length_cutL {l : List UInt8} {a k : Nat} (h : a + k ≤ l.length) : (cutL l a k).length = k := by simp [cutL]; omega

/-- What Get answers: the number, the error. -/
def getL (l : List UInt8) (a s : Int) : Int × Int :=
  if szB s = false ∨ a < 0 then (0, 1) else if (l.length : Int) < a + s then (0, 3) else (numN (cutL l a.toNat s.toNat), 0)

/-- The bytes of a number, the highest first. -/
def digs (n s : Nat) : List UInt8 := (List.range s).map fun j => UInt8.ofNat (n / 2 ^ (8 * (s - 1 - j)))
theorem length_digs (n s : Nat) : (digs n s).length = s := by simp [digs]
theorem digs_take (n s k : Nat) (h : k < s) : (digs n s).take (k + 1) = (digs n s).take k ++ [UInt8.ofNat (n / 2 ^ (8 * (s - 1 - k)))] := by
  rw [List.take_succ_eq_append_getElem (by rw [length_digs]; exact h)]
  simp [digs]
theorem bc_dig (m : Nat) : bc (UInt8.ofNat m) = .int .u8 ((m : Int) % 256) := by
  unfold bc
  rw [UInt8.toNat_ofNat']
  congr 1
theorem digs_cells (l : List UInt8) (n s k : Nat) (h : k < s) : ((l ++ (digs n s).take k).map bc) ++ [.int .u8 ((n : Int) / 2 ^ (8 * (s - 1 - k)) % 256)] = (l ++ (digs n s).take (k + 1)).map bc := by
  rw [digs_take n s k h, ← List.append_assoc, List.map_append (l₁ := l ++ _)]
  rw [List.map_cons, List.map_nil, bc_dig]
  rfl
theorem u8_ofNat (m : Nat) : (UInt8.ofNat m).toNat = m % 256 := by rw [UInt8.toNat_ofNat']
theorem div_pow_step (n a : Nat) : n / 2 ^ (8 * (a + 1)) = n / 2 ^ (8 * a) / 256 := by
  rw [Nat.div_div_eq_div_mul, show 8 * (a + 1) = 8 * a + 8 from by omega, Nat.pow_add]
theorem numN_digs_take {n s : Nat} (hn : n < 2 ^ (8 * s)) : ∀ k, k ≤ s → numN ((digs n s).take k) = n / 2 ^ (8 * (s - k))
  | 0, _ => by rw [List.take_zero, numN_nil, Nat.sub_zero, Nat.div_eq_of_lt hn]
  | k + 1, h => by
    rw [digs_take n s k (by omega), numN_snoc, numN_digs_take hn k (by omega), u8_ofNat, show s - k = (s - (k + 1)) + 1 from by omega, div_pow_step, show s - 1 - k = s - (k + 1) from by omega]
    omega
/-- A number that fits is read as it was written. -/
theorem numN_digs {n s : Nat} (hn : n < 2 ^ (8 * s)) : numN (digs n s) = n := by
  have h := numN_digs_take hn s (Nat.le_refl _)
  rwa [List.take_of_length_le (by rw [length_digs]; omega), Nat.sub_self, Nat.mul_zero, Nat.pow_zero, Nat.div_one] at h
theorem cutL_behind (l : List UInt8) (n s : Nat) : cutL (l ++ digs n s) l.length s = digs n s := by
  unfold cutL
  rw [List.drop_left, List.take_of_length_le (by rw [length_digs]; omega)]

theorem foldl_num : ∀ (l : List UInt8) (n : Nat), l.foldl (fun n x => n * 256 + x.toNat) n = n * 256 ^ l.length + numN l
  | [], n => by simp [numN]
  | x :: l, n => by
    have h1 := foldl_num l (n * 256 + x.toNat)
    have h2 := foldl_num l (0 * 256 + x.toNat)
    unfold numN at *
    simp only [List.foldl_cons, List.length_cons, Nat.pow_succ] at *
    rw [h1, h2, Nat.add_mul, Nat.add_mul, Nat.mul_assoc, Nat.mul_comm 256]
    omega
theorem numN_cons (x : UInt8) (l : List UInt8) : numN (x :: l) = x.toNat * 256 ^ l.length + numN l := by
  have := foldl_num l (0 * 256 + x.toNat)
  simpa [numN] using this
/-- The order of bytes is the order of the numbers. -/
theorem bytesLess_num : ∀ (x y : List UInt8), x.length = y.length → Op.bytesLess x y = decide (numN x < numN y) ∧ (x = y ↔ numN x = numN y)
  | [], [], _ => by simp [Op.bytesLess]
  | [], _ :: _, h => by simp at h
  | _ :: _, [], h => by simp at h
  | a :: x, b :: y, h => by
    have hl : x.length = y.length := by simpa using h
    obtain ⟨ih1, ih2⟩ := bytesLess_num x y hl
    have hx := numN_lt x
    have hy := numN_lt y
    rw [numN_cons, numN_cons, hl]
    rw [hl] at hx
    simp only [Op.bytesLess, ih1]
    rcases Nat.lt_trichotomy a.toNat b.toNat with hab | hab | hab
    · have h1 := Nat.mul_le_mul_right (256 ^ y.length) (show a.toNat + 1 ≤ b.toNat from hab)
      rw [Nat.add_mul] at h1
      have hne : a ≠ b := fun e => by rw [e] at hab; omega
      refine ⟨?_, ?_⟩
      · rw [decide_eq_true (by omega : a.toNat * 256 ^ y.length + numN x < b.toNat * 256 ^ y.length + numN y)]
        simp [UInt8.lt_iff_toNat_lt, hab]
      · constructor
        · intro e; injection e with e1 e2; exact absurd e1 hne
        · intro e; omega
    · have e : a = b := UInt8.toNat.inj hab
      subst e
      refine ⟨?_, ?_⟩
      · simp
      · simp [ih2]
    · have h1 := Nat.mul_le_mul_right (256 ^ y.length) (show b.toNat + 1 ≤ a.toNat from hab)
      rw [Nat.add_mul] at h1
      have hne : a ≠ b := fun e => by rw [e] at hab; omega
      refine ⟨?_, ?_⟩
      · rw [decide_eq_false (by omega : ¬ a.toNat * 256 ^ y.length + numN x < b.toNat * 256 ^ y.length + numN y)]
        simp [UInt8.lt_iff_toNat_lt, hne]
        omega
      · constructor
        · intro e; injection e with e1 e2; exact absurd e1 hne
        · intro e; omega
theorem digs_less {a b s : Nat} (ha : a < 2 ^ (8 * s)) (hb : b < 2 ^ (8 * s)) : Op.bytesLess (digs a s) (digs b s) = decide (a < b) := by
  rw [(bytesLess_num _ _ (by simp [length_digs])).1, numN_digs ha, numN_digs hb]
theorem digs_eq {a b s : Nat} (ha : a < 2 ^ (8 * s)) (hb : b < 2 ^ (8 * s)) : digs a s = digs b s ↔ a = b := by
  rw [(bytesLess_num _ _ (by simp [length_digs])).2, numN_digs ha, numN_digs hb]

/-- The bytes as the document's Put lays them, from the last on: behind k of them. -/
def laid (n s k : Nat) : List Value := List.replicate (s - k) (.int .u8 0) ++ ((digs n s).drop (s - k)).map bc
theorem length_laid (n s k : Nat) : (laid n s k).length = s := by simp [laid, length_digs]
theorem laid_all (n s : Nat) : laid n s s = (digs n s).map bc := by simp [laid]
theorem digs_get (n s j : Nat) (h : j < s) : (digs n s)[j]'(by rw [length_digs]; exact h) = UInt8.ofNat (n / 2 ^ (8 * (s - 1 - j))) := by simp [digs]
theorem laid_set {n s k : Nat} (h : k < s) : (laid n s k).set (s - 1 - k) (.int .u8 ((n : Int) / 2 ^ (8 * k) % 256)) = laid n s (k + 1) := by
  have e : s - k = s - 1 - k + 1 := by omega
  have e2 : s - (k + 1) = s - 1 - k := by omega
  unfold laid
  rw [e, e2, List.replicate_succ', List.append_assoc, List.set_append_right _ _ (by simp), List.length_replicate, Nat.sub_self,
    List.drop_eq_getElem_cons (i := s - 1 - k) (by rw [length_digs]; omega), List.map_cons, digs_get n s _ (by omega), bc_dig, show s - 1 - (s - 1 - k) = k from by omega]
  rfl
/-- What Put answers. -/
def putL (l : List UInt8) (n s : Int) : List UInt8 := if fitB n s = true then l ++ digs n.toNat s.toNat else l
theorem putL_no {l : List UInt8} {n s : Int} (h : fitB n s = false) : putL l n s = l := by simp [putL, h]
theorem putL_yes {l : List UInt8} {n s : Nat} (h : fitB n s = true) : putL l n s = l ++ digs n s := by simp [putL, h]

end Go.Proofs.YtmbcbfalgdgmjaaGreatDoor

namespace Go.Proofs.YtmbcbfalgdgmjaaGreatDoor
open Go.RowKit

theorem addr_add (b o j : Nat) : (⟨b, o, none⟩ : Addr).add j = ⟨b, o + j, none⟩ := by
  unfold Addr.add
  split
  · subst_vars; rfl
  · rfl

/-- From the address A on the world holds the cells xs, in a block below H. Of no cell nothing is said. -/
def Row (w : World) (H : Nat) (A : Option Addr) (xs : List Value) : Prop :=
  xs ≠ [] → ∃ b off, A = some ⟨b, off, none⟩ ∧ b < H ∧ ∀ j u, xs[j]? = some u → w.cell? ⟨b, off + j, none⟩ = some u

section
variable {w w' : World} {H H' : Nat} {A : Option Addr} {xs : List Value}

theorem Row.empty (w : World) (H : Nat) (A : Option Addr) : Row w H A [] := fun h => absurd rfl h
theorem Row.keep (h : Row w H A xs) (hk : ∀ p : Addr, p.block < H → w'.cell? p = w.cell? p) : Row w' H A xs := fun hx => by
  obtain ⟨b, off, e, hb, hc⟩ := h hx
  exact ⟨b, off, e, hb, fun j u hu => (hk ⟨b, off + j, none⟩ hb).trans (hc j u hu)⟩
theorem Row.mono (h : Row w H A xs) (hH : H ≤ H') : Row w H' A xs := fun hx => by
  obtain ⟨b, off, e, hb, hc⟩ := h hx
  exact ⟨b, off, e, Nat.lt_of_lt_of_le hb hH, hc⟩
theorem Row.below (h : Row w H A xs) (hb : Below H w w') : Row w' H A xs := h.keep fun _ hp => hb.cell hp
theorem Row.alloc (h : Row w H A xs) (hH : H ≤ w.heap.size) (o : Obj) : Row (w.alloc o) H A xs := h.keep fun p hp => World.cell?_alloc_lt w o p (by omega)
theorem Row.pos (h : Row w H A xs) : 0 < xs.length → ∃ ad, A = some ad ∧ ∀ j v, xs[j]? = some v → w.cell? (ad.add j) = some v := fun hl => by
  obtain ⟨b, off, e, _, hc⟩ := h fun e => by rw [e] at hl; exact absurd hl (Nat.not_lt_zero _)
  exact ⟨_, e, fun j v hv => by rw [addr_add]; exact hc j v hv⟩
theorem Row.drewN (h : Row w H A xs) (k : Nat) : Row (w.drewN k) H A xs := h
theorem Row.drew (h : Row w H A xs) : Row w.drew H A xs := h
theorem Row.at_ (h : Row w H A xs) {k : Nat} (hk : k < xs.length) : ∃ b off, A = some ⟨b, off, none⟩ ∧ b < H ∧ w.cell? ⟨b, off + k, none⟩ = some xs[k] := by
  obtain ⟨b, off, e, hb, hc⟩ := h (fun e => by rw [e] at hk; exact absurd hk (Nat.not_lt_zero _))
  exact ⟨b, off, e, hb, hc k _ (List.getElem?_eq_getElem hk)⟩
theorem Row.some_ (h : Row w H A xs) (hk : 0 < xs.length) : ∃ b off, A = some ⟨b, off, none⟩ ∧ b < H ∧ ∀ j u, xs[j]? = some u → w.cell? ⟨b, off + j, none⟩ = some u :=
  h fun e => by rw [e] at hk; exact absurd hk (Nat.not_lt_zero _)
theorem Row.of_cells {b off : Nat} (hb : b < H) (hc : ∀ j u, xs[j]? = some u → w.cell? ⟨b, off + j, none⟩ = some u) : Row w H (some ⟨b, off, none⟩) xs := fun _ => ⟨b, off, rfl, hb, hc⟩
/-- A new block reads as what it was made of. -/
theorem Row.made (w : World) (cs : Array Value) (t : TypeId) : Row (w.alloc (.cells cs t)) (w.heap.size + 1) (some ⟨w.heap.size, 0, none⟩) cs.toList :=
  Row.of_cells (Nat.lt_succ_self _) fun j u hu => by
    rw [World.cell?_alloc_at _ _ _ _ rfl]
    simpa using hu
/-- What is behind the first k cells. -/
theorem Row.drop (h : Row w H A xs) {b off k : Nat} (hA : A = some ⟨b, off, none⟩) : Row w H (some ⟨b, off + k, none⟩) (xs.drop k) := fun hx => by
  obtain ⟨b', off', e, hb, hc⟩ := h (fun e => by rw [e] at hx; simp at hx)
  rw [hA] at e
  injection e with e
  injection e with e1 e2
  subst e1; subst e2
  exact ⟨b, off + k, rfl, hb, fun j u hu => by rw [Nat.add_assoc]; exact hc _ u (by rw [← hu, List.getElem?_drop])⟩
/-- The first few. -/
theorem Row.take (h : Row w H A xs) (k : Nat) : Row w H A (xs.take k) := fun hx => by
  obtain ⟨b, off, e, hb, hc⟩ := h (fun e => by rw [e] at hx; simp at hx)
  refine ⟨b, off, e, hb, fun j u hu => hc j u ?_⟩
  rw [List.getElem?_take] at hu
  split at hu
  · exact hu
  · cases hu
/-- A row of the call's own. -/
theorem Row.of_own {base : Nat} {e : TypeId} {size n c : Nat} (h : w.ownsRow base e size (.slice A n c) n xs) : Row w w.heap.size A xs := fun hx => by
  rcases h.2 with ⟨hv, h0⟩ | ⟨g, cap, cur, hv, _, hh, _⟩
  · have := h.1
    rw [h0, Nat.zero_mul] at this
    exact absurd (List.eq_nil_of_length_eq_zero this) hx
  · have hA : A = some ⟨g, 0, none⟩ := by injection hv
    subst hA
    have hlt : g < w.heap.size := by
      rcases Nat.lt_or_ge g w.heap.size with hl | hl
      · exact hl
      · rw [Array.getElem?_eq_none hl] at hh; cases hh
    exact ⟨g, 0, rfl, hlt, fun j u hu => by
      have := h.cells (g := g) rfl j u hu
      rwa [addr_add] at this⟩
end

/-- Block g is known whole: the cells L of type t, none frozen. -/
def Whole (w : World) (g : Nat) (t : TypeId) (L : List Value) : Prop := w.heap[g]? = some (.cells L.toArray t (0, 0))
section
variable {w w' : World} {g : Nat} {t : TypeId} {L : List Value}
theorem Whole.lt (h : Whole w g t L) : g < w.heap.size := by
  rcases Nat.lt_or_ge g w.heap.size with hl | hl
  · exact hl
  · unfold Whole at h; rw [Array.getElem?_eq_none hl] at h; cases h
theorem Whole.cell (h : Whole w g t L) (i : Nat) : w.cell? ⟨g, i, none⟩ = L[i]? := by
  unfold Whole at h
  simp [World.cell?, h]
theorem Whole.frozen (h : Whole w g t L) (i : Nat) : w.frozen? ⟨g, i, none⟩ = false := by
  unfold Whole at h
  simp [World.frozen?, h]
theorem Whole.made (w : World) (L : List Value) (t : TypeId) : Whole (w.alloc (.cells L.toArray t)) w.heap.size t L := heap_alloc_new w _
theorem Whole.alloc (h : Whole w g t L) (o : Obj) : Whole (w.alloc o) g t L := (Below.heap_alloc w o g h.lt).trans h
theorem Whole.drewN (h : Whole w g t L) (n : Nat) : Whole (w.drewN n) g t L := h
theorem Whole.set_ (h : Whole w g t L) (i : Nat) (u : Value) : Whole (w.setCell ⟨g, i, none⟩ u) g t (L.set i u) := by
  unfold Whole at h ⊢
  simp [World.setCell, Array.getElem?_modify, h]
theorem Whole.below {B : Nat} (h : Whole w g t L) (hb : Below B w w') (hg : g < B) : Whole w' g t L := (hb.block g hg).trans h
theorem Whole.grown {row : Option Nat} (h : Whole w g t L) (hb : w.grownBy w' row) (hg : some g ≠ row) : Whole w' g t L := (hb.block g h.lt hg).trans h
theorem Whole.row (h : Whole w g t L) : Row w w.heap.size (some ⟨g, 0, none⟩) L := Row.of_cells h.lt fun j u hu => by rw [Nat.zero_add, h.cell]; exact hu
/-- A row of the call's own is kept while another block is written. -/
theorem own_set_far {base : Nat} {e : TypeId} {size n : Nat} {v : Value} {xs : List Value} (h : w.ownsRow base e size v n xs) {a : Addr} (ha : v.ownBlock ≠ some a.block) (u : Value) : (w.setCell a u).ownsRow base e size v n xs := by
  obtain ⟨h1, h2⟩ := h
  refine ⟨h1, ?_⟩
  rcases h2 with h2 | ⟨g, cap, cur, rfl, hg, hh, r⟩
  · exact .inl h2
  · refine .inr ⟨g, cap, cur, rfl, hg, ?_, r⟩
    rw [Below.heap_setCell _ _ _ _ (by intro e; apply ha; rw [e]; rfl)]
    exact hh
end

/-- '[]T{}'. -/
theorem own_lit (w : World) (t : TypeId) (size : Nat) : (w.alloc (.cells #[] t)).ownsRow w.heap.size t size (.slice (some ⟨w.heap.size, 0, none⟩) 0 0) 0 [] :=
  World.ownsRow_made w #[] 0 (Nat.le_refl _) (Nat.zero_le _) (by simp)

theorem own_some {w : World} {base : Nat} {e : TypeId} {size n c : Nat} {A : Option Addr} {xs : List Value} (h : w.ownsRow base e size (.slice A n c) n xs) (hn : 0 < n) : ∃ g, A = some ⟨g, 0, none⟩ := by
  rcases h.2 with ⟨_, h0⟩ | ⟨g, cap, cur, hv, _⟩
  · omega
  · exact ⟨g, by injection hv⟩

theorem append_nil_run {P : Program} (w : World) (base : Nat) (t ty e : TypeId) (i : TypeInfo) (size : Nat) (ht : P.underlying t = some (.slice e)) (hi : P.info? e = some i)
    (v : Value) (n : Nat) (xs : List Value) (hown : w.ownsRow base e size v n xs) (c : Nat) : (Builtin.append_ #[t, t] ty #[v, .slice none 0 c]).run P w = .ok v w := by
  rcases hown.2 with ⟨rfl, rfl⟩ | ⟨g, cap, cur, rfl, _, _, hnc, _⟩
  · simp [Builtin.append_, run_underlying ht, sizeOf, typeInfo, hi, Builtin.lenOf, Builtin.firstCells]
  · simp [Builtin.append_, run_underlying ht, sizeOf, typeInfo, hi, Builtin.lenOf, Builtin.firstCells, hnc, storeCells]

theorem append_row_run {P : Program} (w : World) (base : Nat) (t ty e : TypeId) (i : TypeInfo) (z : Value) (size bytes : Nat) (ht : P.underlying t = some (.slice e)) (hi : P.info? e = some i) (hz : i.zero = some z)
    (hsize : i.size = size) (hby : i.bytes = bytes) (hzs : z.cells.size = size) (hsz : 0 < size)
    (v : Value) (n : Nat) (xs : List Value) (hown : w.ownsRow base e size v n xs)
    (A : Option Addr) (m c H : Nat) (news : List Value) (hl : news.length = m * size) (hr : Row w H A news) (h1 : ∀ u ∈ news, u.oneCell' = true)
    (h63 : n + m ≤ maxLen) (hbytes : (n + m) * bytes ≤ 140737488355328) (hbase : base ≤ w.heap.size) :
    ∃ v' w', (Builtin.append_ #[t, t] ty #[v, .slice A m c]).run P w = .ok v' w' ∧ w'.ownsRow base e size v' (n + m) (xs ++ news) ∧ w.grownBy w' v.ownBlock := by
  rcases A with _ | ad
  · have hn : news = [] := by
      rcases news with _ | ⟨u, us⟩
      · rfl
      · obtain ⟨_, _, h, _⟩ := hr (by simp)
        cases h
    have hm : m = 0 := by
      subst hn
      rcases Nat.eq_zero_or_pos m with h0 | h0
      · exact h0
      · have := Nat.mul_pos h0 hsz
        simp at hl; omega
    subst hn; subst hm
    exact ⟨v, w, append_nil_run (P := P) w base t ty e i size ht hi v n xs hown c, by simpa using hown, World.grownBy.refl w _⟩
  · have hc : ∀ j u, news[j]? = some u → w.cell? (ad.add j) = some u := by
      intro j u hu
      obtain ⟨b, off, e, _, hc⟩ := hr (fun e => by rw [e] at hu; simp at hu)
      injection e with e
      subst e
      rw [addr_add]
      exact hc j u hu
    obtain ⟨v', w', h2, h3, h4, _, _⟩ := run_append_own_at (P := P) w base t ty e i z size bytes ht hi hz hsize hby hzs hsz v n xs hown ad m c news hl hc h1 h63 hbytes hbase
    exact ⟨v', w', h2, h3, h4⟩

/-- append onto a row of the call's own; the source is any slice that reads as 'news', nil or not; guarded or not. -/
theorem wpList_append_row {P : Program} {w : World} {ops : Array Oper} {rest : List Oper} {o : Oper} {a : Act} {Q : Exit → Act → World → Prop} (hgd : Region.wanted o (yielded ops a.tmps) = true) (s x : Operand) (t : TypeId)
    (ho : o.op = .call { callee := .builtin .append, args := #[s, x], argTypes := #[t, t] })
    (base : Nat) (e : TypeId) (i : TypeInfo) (z : Value) (size bytes : Nat) (ht : P.underlying t = some (.slice e)) (hi : P.info? e = some i) (hz : i.zero = some z)
    (hsize : i.size = size) (hby : i.bytes = bytes) (hzs : z.cells.size = size) (hsz : 0 < size)
    (v : Value) (n : Nat) (xs : List Value) (hs : a.eval s = v) (hown : w.ownsRow base e size v n xs)
    (A : Option Addr) (m c H : Nat) (news : List Value) (hx : a.eval x = .slice A m c) (hl : news.length = m * size) (hr : Row w H A news) (h1 : ∀ u ∈ news, u.oneCell' = true)
    (h63 : n + m ≤ maxLen) (hbytes : (n + m) * bytes ≤ 140737488355328) (hbase : base ≤ w.heap.size)
    (h : ∀ v' w', w'.ownsRow base e size v' (n + m) (xs ++ news) → w.grownBy w' v.ownBlock → wpList P ops Q rest (a.put o.dst v') w') : wpList P ops Q (o :: rest) a w := by
  obtain ⟨v', w', hrun, h2, h3⟩ := append_row_run (P := P) w base t o.type e i z size bytes ht hi hz hsize hby hzs hsz v n xs hown A m c H news hl hr h1 h63 hbytes hbase
  refine wpList_step fun K hK => ?_
  rw [if_pos hgd]
  unfold Oper.wp
  simp [execOp, ho, resolve, invoke, builtin, hs, hx, hrun, Result.andThen]
  exact hK _ _ (h v' w' h2 h3)

theorem below_drewN' {B : Nat} {a w : World} (h : Below B a w) (n : Nat) : Below B a (w.drewN n) := ⟨h.os, h.tape, h.output, h.size, h.block⟩

/-- Behind an append onto a row of the call's own nothing below 'base' has turned. -/
theorem own_below {B base n : Nat} {w0 w w' : World} {e : TypeId} {size : Nat} {v : Value} {xs : List Value} (hb : Below B w0 w) (hB : B ≤ base) (hsz : B ≤ w.heap.size) (hown : w.ownsRow base e size v n xs) (hg : w.grownBy w' v.ownBlock) : Below B w0 w' :=
  hb.grown hg hsz fun k hk => Nat.le_trans hB (hown.lt k hk).1

/-- c zeros (a definition, so that the walk leaves it standing). -/
def zerosL (z : Value) (c : Nat) : List Value := List.replicate c z
theorem length_zerosL (z : Value) (c : Nat) : (zerosL z c).length = c := by simp [zerosL]
/-- 'make([]T, n, c)' of one-cell elements: a block of c zeros. -/
theorem wpList_make_zeros {P : Program} {w : World} {ops : Array Oper} {rest : List Oper} {o : Oper} {a : Act} {Q : Exit → Act → World → Prop} (hgd : o.guard = none) (l c : Operand) (t : TypeId) (hop : o.op = Op.makeSlice t l c)
    (e : TypeId) (i : TypeInfo) (z : Value) (bytes : Nat) (ht : P.underlying t = some (.slice e)) (hi : P.info? e = some i) (hz : i.zero = some z) (hsize : i.size = 1) (hby : i.bytes = bytes) (hz1 : z.cells = #[z])
    (kl kc : IntKind) (N C : Int) (n cap : Nat) (hl : a.eval l = .int kl N) (hc : a.eval c = .int kc C) (hN : N = n) (hC : C = cap) (hnc : n ≤ cap) (hb : bytes * cap ≤ 281474976710656) (h63 : cap ≤ maxLen)
    (h : wpList P ops Q rest (a.put o.dst (.slice (some ⟨w.heap.size, 0, none⟩) n cap)) (w.alloc (.cells (zerosL z cap).toArray e))) : wpList P ops Q (o :: rest) a w := by
  refine wpList_plain hgd fun K hK => ?_
  unfold maxLen at h63
  unfold zerosL at h
  have hb' : (i.bytes : Int) * (cap : Int) ≤ 281474976710656 := by
    have h : ((bytes * cap : Nat) : Int) ≤ 281474976710656 := by omega
    rw [hby]
    rwa [Int.natCast_mul] at h
  have hr := run_make (P := P) w t e i z ht hi hz kl kc n cap (by omega) (by omega) hb' (by omega)
  subst hN; subst hC
  rw [hz1, hsize] at hr
  simp only [Int.toNat_natCast, Nat.mul_one] at hr
  have hm : madeCells #[z] cap = (List.replicate cap z).toArray := Array.toList_inj.1 (by rw [toList_madeCells_one])
  rw [hm] at hr
  unfold Oper.wp
  simp [execOp, hop, hl, hc, hr, Result.andThen]
  exact hK _ _ (by simpa using h)

/-- A block of the call's own, known whole, as a row. -/
theorem own_of_block {w : World} {base g : Nat} {e : TypeId} {L xs : List Value} {cap n : Nat} (hh : w.heap[g]? = some (.cells L.toArray e (0, 0))) (hg : base ≤ g) (hL : L.length = cap) (hn : n ≤ cap) (hc : cap ≤ maxLen) (hx : L.take n = xs) :
    w.ownsRow base e 1 (.slice (some ⟨g, 0, none⟩) n cap) n xs :=
  ⟨by rw [← hx, List.length_take]; omega, .inr ⟨g, cap, L.toArray, rfl, hg, hh, hn, hc, by simpa using hL, by simpa using hx⟩⟩

/-- 'string(b)' of bytes that read as l. -/
theorem convert_row_run {P : Program} (w : World) (src dst e : TypeId) (hs : P.underlying src = some (.slice e)) (he : P.underlying e = some (.int .u8)) (hd : P.underlying dst = some .string) (A : Option Addr) (n c H : Nat) (l : List UInt8)
    (hl : l.length = n) (hr : Row w H A (l.map bc)) : (convert src dst (.slice A n c)).run P w = .ok (.string ⟨l.toArray⟩) w := by
  subst hl
  rcases l with _ | ⟨x, xs⟩
  · rw [run_convert_bytes_string w src dst e _ _ c hs he hd]
    rcases A with _ | a
    · simp [Conv.bytesToString]
      rfl
    · rw [List.length_nil, run_bytesToString w a 0 c [] (by simpa using run_loadCells_list (P := P) w a [] (fun _ _ h => by simp at h))]
      rfl
  · obtain ⟨b, off, rfl, _, hc⟩ := hr (by simp)
    rw [run_convert_bytes_arg w src e hs he b off (x :: xs).length c ((x :: xs).map fun u => (u.toNat : Int)) (by simp) (fun i hi => by
      rw [hc i (bc (x :: xs)[i]) (by rw [List.getElem?_map, List.getElem?_eq_getElem hi]; rfl)]
      rw [List.getD_eq_getElem?_getD, List.getElem?_map, List.getElem?_eq_getElem hi]
      rfl) dst hd]
    have e2 : ((x :: xs).map fun u => (u.toNat : Int)).map (fun n => UInt8.ofNat n.toNat) = x :: xs := by
      rw [List.map_map]
      conv => rhs; rw [← List.map_id (x :: xs)]
      apply List.map_congr_left
      intro u _
      simp
    unfold strOfNums
    rw [e2]

/-- 'n<<8 | x' of a byte x. -/
theorem or_byte (n x : Nat) (hn : n < 281474976710656) (hx : x < 256) : bits .or .i64 ((n : Int) * 256) (x : Int) = ((n * 256 + x : Nat) : Int) := by
  have e1 : (n : Int) * 256 = ((n * 256 : Nat) : Int) := by omega
  have e2 : n * 256 ||| x = n * 256 + x := by
    have := Nat.shiftLeft_add_eq_or_of_lt (i := 8) (b := x) (by simpa using hx) n
    rw [Nat.shiftLeft_eq] at this
    exact this.symm
  rw [e1]
  show IntKind.i64.wrap ((BitVec.ofInt 64 ((n * 256 : Nat) : Int) ||| BitVec.ofInt 64 (x : Int)).toNat : Int) = _
  rw [BitVec.toNat_or, BitVec.ofInt_natCast, BitVec.ofInt_natCast, BitVec.toNat_ofNat, BitVec.toNat_ofNat, Nat.mod_eq_of_lt (by omega), Nat.mod_eq_of_lt (by omega), e2, IntKind.wrap_i64]
  omega

theorem quiet_of_drewN {P : Program} {f : FuncId} {args : Array Value} {w : World} {v : Value} (h : Calls P f args w fun e w' => e = .returned v ∧ ∃ m, w' = w.drewN m) :
    Calls P f args w fun e w' => e = .returned v ∧ ∃ m, w' = w.drewN m := h

end Go.Proofs.YtmbcbfalgdgmjaaGreatDoor

namespace Go.Proofs.YtmbcbfalgdgmjaaGreatDoor
open Go.RowKit

theorem u8_info : (Tryz.prog.info? 5).map (fun i => (i.zero, i.size, i.bytes)) = some (some (.int .u8 0), 1, 1) := by kernel_rfl
theorem u8_size : (Tryz.prog.info? 5).map (·.size) = some 1 := by kernel_rfl

theorem own_form {w : World} {base : Nat} {t : TypeId} {v : Value} {n : Nat} {xs : List Value} {size : Nat} (h : w.ownsRow base t size v n xs) : ∃ A c, v = .slice A n c ∧ n ≤ c ∧ c ≤ maxLen := by
  rcases h.2 with ⟨rfl, rfl⟩ | ⟨g, cap, cur, rfl, _, _, hn, hc, _⟩
  · exact ⟨none, 0, rfl, Nat.le_refl _, by unfold maxLen; omega⟩
  · exact ⟨_, cap, rfl, hn, hc⟩
theorem own_cap {w : World} {base : Nat} {t : TypeId} {A : Option Addr} {n c : Nat} {xs : List Value} {size : Nat} (h : w.ownsRow base t size (.slice A n c) n xs) : n ≤ c := by
  obtain ⟨A', c', e, h1, _⟩ := own_form h
  injection e with _ _ e
  omega
theorem bc_one (l : List UInt8) : ∀ u ∈ l.map bc, u.oneCell' = true := by
  intro u hu
  obtain ⟨x, _, rfl⟩ := List.mem_map.1 hu
  rfl

/-- The call answers a slice of its own, which reads as l; nothing that was there has turned. -/
def Owned (w : World) (l : List UInt8) (e : Ending) (w' : World) : Prop :=
  ∃ A c, e = .returned (.slice A l.length c) ∧ w'.ownsRow w.heap.size 5 1 (.slice A l.length c) l.length (l.map bc) ∧ Below w.heap.size w w'

def TrueB (w : World) (e : Ending) (w' : World) : Prop := e = .returned (.bool true) ∧ Below w.heap.size w w'
/-- The call answers v; it may have drawn. -/
def Drewn (w : World) (v : Value) (e : Ending) (w' : World) : Prop := e = .returned v ∧ ∃ k, w' = w.drewN k
/-- The call answers v; nothing that was there has turned. -/
def Gave (w : World) (v : Value) (e : Ending) (w' : World) : Prop := e = .returned v ∧ Below w.heap.size w w'
/-- The call answers v; the world is as it was. -/
def Told (w : World) (v : Value) (e : Ending) (w' : World) : Prop := e = .returned v ∧ w = w'

theorem ret_bool {a b : Bool} (h : a = b) : Ending.returned (.bool a) = .returned (.bool b) := by rw [h]
theorem ret_int {k : IntKind} {a b : Int} (h : a = b) : Ending.returned (.int k a) = .returned (.int k b) := by rw [h]

theorem below_cells {W w1 : World} (hb : Below W.heap.size W w1) : ∀ b o, b < W.heap.size → w1.cell? ⟨b, o, none⟩ = W.cell? ⟨b, o, none⟩ := fun b o h => hb.cell (p := ⟨b, o, none⟩) h

/-- Block g is known whole; the mark that a conversion laid stands behind its last cell. -/
def Marked (w : World) (g : Nat) (t : TypeId) (L : List Value) : Prop := ∃ m, L.length ≤ m ∧ w.heap[g]? = some (.cells L.toArray t (m, m + 1))
section
variable {w w' : World} {g : Nat} {t : TypeId} {L : List Value}
theorem Marked.lt (h : Marked w g t L) : g < w.heap.size := by
  obtain ⟨m, _, h⟩ := h
  rcases Nat.lt_or_ge g w.heap.size with hl | hl
  · exact hl
  · rw [Array.getElem?_eq_none hl] at h; cases h
theorem Marked.cell (h : Marked w g t L) (i : Nat) : w.cell? ⟨g, i, none⟩ = L[i]? := by
  obtain ⟨m, _, h⟩ := h
  simp [World.cell?, h]
theorem Marked.frozen (h : Marked w g t L) {i : Nat} (hi : i < L.length) : w.frozen? ⟨g, i, none⟩ = false := by
  obtain ⟨m, hm, h⟩ := h
  simp [World.frozen?, h]
  omega
theorem Marked.drewN (h : Marked w g t L) (n : Nat) : Marked (w.drewN n) g t L := h
theorem Marked.alloc (h : Marked w g t L) (o : Obj) : Marked (w.alloc o) g t L := by
  have hl := h.lt
  obtain ⟨m, hm, h⟩ := h
  exact ⟨m, hm, (Below.heap_alloc w o g hl).trans h⟩
theorem Marked.set_ (h : Marked w g t L) (i : Nat) (u : Value) : Marked (w.setCell ⟨g, i, none⟩ u) g t (L.set i u) := by
  obtain ⟨m, hm, h⟩ := h
  refine ⟨m, by simpa using hm, ?_⟩
  simp [World.setCell, Array.getElem?_modify, h]
theorem Marked.below {B : Nat} (h : Marked w g t L) (hb : Below B w w') (hg : g < B) : Marked w' g t L := by
  obtain ⟨m, hm, h⟩ := h
  exact ⟨m, hm, (hb.block g hg).trans h⟩
theorem Marked.row (h : Marked w g t L) : Row w w.heap.size (some ⟨g, 0, none⟩) L := Row.of_cells h.lt fun j u hu => by rw [Nat.zero_add, h.cell]; exact hu
end

/-- A string as a cell. -/
def sv (l : List UInt8) : Value := .string ⟨l.toArray⟩

theorem sv_one (n : List (List UInt8)) : ∀ u ∈ n.map sv, u.oneCell' = true := by
  intro u hu
  obtain ⟨x, _, rfl⟩ := List.mem_map.1 hu
  rfl
theorem Row.name_at {w : World} {H : Nat} {A : Option Addr} {n : List (List UInt8)} (h : Row w H A (n.map sv)) {k : Nat} (hk : k < n.length) :
    ∃ b off, A = some ⟨b, off, none⟩ ∧ b < H ∧ w.cell? ⟨b, off + k, none⟩ = some (.string ⟨(n[k]).toArray⟩) := by
  obtain ⟨b, off, e, hb, hc⟩ := h.at_ (k := k) (by rw [List.length_map]; exact hk)
  exact ⟨b, off, e, hb, by rw [hc]; simp [sv]⟩

/-- What a statement's argument is: a name, read in the world w. -/
def NameIn (w : World) (A : Option Addr) (n : List (List UInt8)) : Prop := Row w w.heap.size A (n.map sv) ∧ n.length ≤ 140737488351232 ∧ ∀ k (h : k < n.length), (n[k]).length ≤ maxLen

theorem bytesRow_list (l : List UInt8) (cap : Nat) : bytesRow ⟨l.toArray⟩ cap = (l.map bc ++ zerosL (.int .u8 0) (cap - l.length)).toArray := by
  unfold bytesRow zerosL
  simp
  rfl

/-- '[]byte(s)': a block of the call's own, the bytes and zeros behind them. -/
theorem wpList_bytes {P : Program} {w : World} {ops : Array Oper} {rest : List Oper} {o : Oper} {a : Act} {Q : Exit → Act → World → Prop} (hgd : o.guard = none) (x : Operand) (src dst e : TypeId) (hop : o.op = Op.convert src dst x)
    (hs : P.underlying src = some .string) (hd : P.underlying dst = some (.slice e)) (he : P.underlying e = some (.int .u8)) (l : List UInt8) (hx : a.eval x = .string ⟨l.toArray⟩)
    (h : ∀ C w', l.length ≤ C → Marked w' w.heap.size e (l.map bc ++ zerosL (.int .u8 0) (C - l.length)) → Below w.heap.size w w' → w'.heap.size = w.heap.size + 1 →
      wpList P ops Q rest (a.put o.dst (.slice (some ⟨w.heap.size, 0, none⟩) l.length C)) w') : wpList P ops Q (o :: rest) a w := by
  refine wpList_plain hgd fun K hK => ?_
  have hr := run_bytes_of_string (P := P) w src dst e ⟨l.toArray⟩ hs hd he
  have hsz : (ByteArray.mk l.toArray).size = l.length := by simp [ByteArray.size]
  rw [hsz] at hr
  unfold Oper.wp
  simp [execOp, hop, hx, hr, Result.andThen]
  refine hK _ _ (h _ _ (grownCap_ge w l.length 0 e) ?_ ?_ ?_)
  · refine ⟨(bytesRow ⟨l.toArray⟩ (grownCap w l.length 0 e)).size, ?_, ?_⟩
    · rw [bytesRow_list]; simp
    · rw [bytesRow_list]
      exact heap_alloc_new w.drew _
  · exact ((Below.refl _ w).drew).alloc (Nat.le_refl _) _
  · simp

end Go.Proofs.YtmbcbfalgdgmjaaGreatDoor

namespace Go.Proofs.YtmbcbfalgdgmjaaGreatDoor
open Go.RowKit

/-- A small letter for a capital one. -/
def lowB (c : UInt8) : UInt8 := if 65 ≤ c.toNat ∧ c.toNat ≤ 90 then c + 32 else c
def lowL (l : List UInt8) : List UInt8 := l.map lowB
def lowN (n : List (List UInt8)) : List (List UInt8) := n.map lowL
theorem lowB_up {c : UInt8} (h1 : 65 ≤ c.toNat) (h2 : c.toNat ≤ 90) : (lowB c).toNat = c.toNat + 32 := by
  unfold lowB
  rw [if_pos ⟨h1, h2⟩, UInt8.toNat_add]
  simp
  omega
theorem lowB_no {c : UInt8} (h : ¬ (65 ≤ c.toNat ∧ c.toNat ≤ 90)) : lowB c = c := by
  unfold lowB
  rw [if_neg h]
theorem lowB_lowB (c : UInt8) : lowB (lowB c) = lowB c := by
  by_cases h : 65 ≤ c.toNat ∧ c.toNat ≤ 90
  · exact lowB_no (by rw [lowB_up h.1 h.2]; omega)
  · rw [lowB_no h, lowB_no h]
theorem lowL_lowL (l : List UInt8) : lowL (lowL l) = lowL l := by
  unfold lowL
  rw [List.map_map]
  exact List.map_congr_left fun c _ => lowB_lowB c
theorem lowN_lowN (n : List (List UInt8)) : lowN (lowN n) = lowN n := by
  unfold lowN
  rw [List.map_map]
  exact List.map_congr_left fun c _ => lowL_lowL c
theorem length_lowL (l : List UInt8) : (lowL l).length = l.length := by simp [lowL]
theorem length_lowN (n : List (List UInt8)) : (lowN n).length = n.length := by simp [lowN]

/-- The bytes l, the first k of them small, as cells; Z behind. -/
def lowUpto (l : List UInt8) (k : Nat) (Z : List Value) : List Value := ((l.take k).map lowB ++ l.drop k).map bc ++ Z
theorem lowUpto_zero (l : List UInt8) (Z : List Value) : lowUpto l 0 Z = l.map bc ++ Z := by simp [lowUpto]
theorem lowUpto_at {l : List UInt8} {k : Nat} (Z : List Value) (h : k < l.length) : (lowUpto l k Z)[k]? = some (bc l[k]) := by
  have h1 : k ≤ l.length := Nat.le_of_lt h
  simp [lowUpto, List.getElem?_append, h, Nat.min_eq_left h1]
  omega
theorem length_lowUpto (l : List UInt8) (k : Nat) (Z : List Value) : (lowUpto l k Z).length = l.length + Z.length := by
  simp [lowUpto]; omega
theorem lowUpto_succ {l : List UInt8} {k : Nat} (Z : List Value) (h : k < l.length) : lowUpto l (k + 1) Z = (lowUpto l k Z).set k (bc (lowB l[k])) := by
  apply List.ext_getElem?
  intro i
  have h1 : k ≤ l.length := Nat.le_of_lt h
  have h2 : k + 1 ≤ l.length := h
  rw [List.getElem?_set]
  simp only [lowUpto, List.getElem?_append, List.length_map, List.length_append, List.length_take, List.length_drop, List.getElem?_map, List.getElem?_take, List.getElem?_drop, Nat.min_eq_left h1, Nat.min_eq_left h2]
  by_cases hi : k = i
  · subst hi
    rw [if_pos (by omega), if_pos (by omega), if_pos (by omega), if_pos rfl, if_pos (by omega)]
    simp [h]
  · rw [if_neg hi]
    by_cases hlt : i < k
    · rw [if_pos (by omega), if_pos (by omega), if_pos (by omega), if_pos (by omega), if_pos (by omega), if_pos (by omega)]
    · by_cases hl : i < l.length
      · rw [if_pos (by omega), if_neg (by omega), if_pos (by omega), if_neg (by omega)]
        congr 1
        rw [show k + 1 + (i - (k + 1)) = i from by omega, show k + (i - k) = i from by omega]
      · rw [if_neg (by omega), if_neg (by omega)]
        congr 1
        omega
theorem lowUpto_same {l : List UInt8} {k : Nat} (Z : List Value) (h : k < l.length) (e : lowB l[k] = l[k]) : lowUpto l (k + 1) Z = lowUpto l k Z := by
  rw [lowUpto_succ Z h, e]
  apply List.ext_getElem?
  intro i
  rw [List.getElem?_set]
  split
  · rename_i hi
    subst hi
    rw [lowUpto_at Z h, if_pos (by rw [length_lowUpto]; omega)]
  · rfl
theorem lowUpto_all (l : List UInt8) (Z : List Value) : (lowUpto l l.length Z).take l.length = (lowL l).map bc := by
  simp [lowUpto, lowL]

/-- How many bytes a name takes. -/
def szN : List (List UInt8) → Nat
  | [] => 1
  | l :: n => l.length + 1 + szN n
theorem szN_snoc (n : List (List UInt8)) (l : List UInt8) : szN (n ++ [l]) = szN n + (l.length + 1) := by
  induction n with
  | nil => simp [szN]; omega
  | cons x n ih => simp [szN, ih]; omega
theorem szN_le (B : Nat) : ∀ (n : List (List UInt8)), (∀ l ∈ n, l.length ≤ B) → szN n ≤ n.length * (B + 1) + 1
  | [], _ => by simp [szN]
  | l :: n, h => by
    have h1 := szN_le B n fun x hx => h x (List.mem_cons_of_mem _ hx)
    have h2 := h l (List.mem_cons_self ..)
    simp only [szN, List.length_cons, Nat.add_mul, Nat.one_mul]
    omega
theorem szN_take_succ {n : List (List UInt8)} {k : Nat} (h : k < n.length) : szN (n.take (k + 1)) = szN (n.take k) + ((n[k]).length + 1) := by
  rw [List.take_succ_eq_append_getElem h, szN_snoc]
theorem szN_take_le (n : List (List UInt8)) (k : Nat) : szN (n.take k) ≤ szN n := by
  induction n generalizing k with
  | nil => simp
  | cons x n ih =>
    cases k with
    | zero => simp [szN]; omega
    | succ k => simp only [List.take_succ_cons, szN]; have := ih k; omega
theorem szN_pos (n : List (List UInt8)) : 1 ≤ szN n := by
  cases n <;> simp [szN]; omega
theorem len_le_szN {n : List (List UInt8)} {k : Nat} (h : k < n.length) : (n[k]).length + 1 < szN n := by
  have h1 := szN_take_succ h
  have h2 := szN_take_le n (k + 1)
  have h3 := szN_pos (n.take k)
  omega
theorem length_lt_szN (n : List (List UInt8)) : n.length < szN n := by
  induction n with
  | nil => simp [szN]
  | cons x n ih => simp only [List.length_cons, szN]; omega
/-- May a label be? -/
def fitL (l : List UInt8) : Bool := decide (1 ≤ l.length ∧ l.length ≤ 63)
/-- May a name be? -/
def soundN (n : List (List UInt8)) : Bool := n.all fitL && decide (szN n ≤ 255)
theorem szN_ge : ∀ (n : List (List UInt8)), n.all fitL = true → 2 * n.length + 1 ≤ szN n
  | [], _ => by simp [szN]
  | l :: n, h => by
    simp only [List.all_cons, Bool.and_eq_true] at h
    have h1 := szN_ge n h.2
    have h2 : 1 ≤ l.length := by have := h.1; simp [fitL] at this; omega
    simp only [szN, List.length_cons]
    omega
theorem soundN_long {n : List (List UInt8)} (h : 127 < n.length) : soundN n = false := by
  cases ha : n.all fitL
  · simp [soundN, ha]
  · have := szN_ge n ha
    simp [soundN]
    intro _
    omega

/-- Is a name not too large for a statement? -/
def lightN (n : List (List UInt8)) : Bool := n.all (fun l => decide (l.length ≤ 3000)) && decide (n.length ≤ 600) && decide (szN n < n.length + 20001)
theorem lightN_sz {n : List (List UInt8)} (h : lightN n = true) : szN n ≤ 20600 ∧ n.length ≤ 600 := by
  simp only [lightN, Bool.and_eq_true, decide_eq_true_eq] at h
  omega
theorem lightN_len {n : List (List UInt8)} (h : lightN n = true) {k : Nat} (hk : k < n.length) : (n[k]).length ≤ 3000 := by
  simp only [lightN, Bool.and_eq_true, decide_eq_true_eq, List.all_eq_true] at h
  exact h.1.1 _ (List.getElem_mem hk)

end Go.Proofs.YtmbcbfalgdgmjaaGreatDoor

namespace Go.Proofs.YtmbcbfalgdgmjaaGreatDoor
open Go.RowKit

theorem str_info : (Tryz.prog.info? 9).map (fun i => (i.zero, i.size, i.bytes)) = some (some (.string ⟨#[]⟩), 1, 16) := by kernel_rfl

/-- The call answers a slice of strings of its own, which reads as n; nothing that was there has turned. -/
def OwnedS (w : World) (n : List (List UInt8)) (e : Ending) (w' : World) : Prop :=
  ∃ A c, e = .returned (.slice A n.length c) ∧ w'.ownsRow w.heap.size 9 1 (.slice A n.length c) n.length (n.map sv) ∧ Below w.heap.size w w'

theorem take_eq_snocS {xs ys : List (List UInt8)} {k : Nat} (h : xs.take k = ys.take k) (hx : k < xs.length) (hy : k < ys.length) (e : xs[k] = ys[k]) : xs.take (k + 1) = ys.take (k + 1) := by
  rw [List.take_succ_eq_append_getElem hx, List.take_succ_eq_append_getElem hy, h, e]

def ExactRel (w : World) (xs ys : List (List UInt8)) (i : Value) (wr : World) : Prop := ∃ k : Nat, k ≤ xs.length ∧ i = .int .i64 k ∧ xs.take k = ys.take k ∧ ∃ j, wr = w.drewN j

set_option maxHeartbeats 400000 in
theorem exact_ne (A B : Option Addr) (n m c d : Nat) (w : World) (h : n ≠ m) :
    Calls Tryz.prog 87 #[.slice A n c, .slice B m d] w (Drewn w (.bool false)) := by
  have h1 : ((n : Int) != (m : Int)) = true := by rw [bne_iff_ne]; omega
  go_enter Tryz.func87, Tryz.ntmps87
  go_wp2
  go_ret
  exact ⟨rfl, 0, rfl⟩

set_option maxHeartbeats 400000 in
theorem exact_len (A B : Option Addr) (n c d H : Nat) (xs ys : List (List UInt8)) (w : World) (hx : xs.length = n) (hy : ys.length = n) (hA : Row w H A (xs.map sv)) (hB : Row w H B (ys.map sv)) (hm : n ≤ maxLen) :
    Calls Tryz.prog 87 #[.slice A n c, .slice B n d] w (Drewn w (.bool (decide (xs = ys)))) := by
  unfold maxLen at hm
  have h1 : ((n : Int) != (n : Int)) = false := by simp
  have HX := Lib.hid hx
  have HY := Lib.hid hy
  have HA := Lib.hid hA
  have HB := Lib.hid hB
  clear hx hy hA hB
  go_enter Tryz.func87, Tryz.ntmps87
  go_wp2
  go_loopw [5] (ExactRel w xs ys) (fun i _ => n - (intOf i).toNat)
  case atStart => exact ⟨0, by omega, rfl, by simp, 0, rfl⟩
  case round =>
    obtain ⟨k, hk, rfl, hkt, j, rfl⟩ := hrel
    have HKT := Lib.hid hkt
    clear hkt
    by_cases hlt : k < n
    · have hkx : k < xs.length := by rw [HX.out]; exact hlt
      have hky : k < ys.length := by rw [HY.out]; exact hlt
      obtain ⟨b, off, rfl, _, hca⟩ := HA.out.name_at hkx
      obtain ⟨b', off', rfl, _, hcb⟩ := HB.out.name_at hky
      by_cases he : xs[k] = ys[k]
      · have HE := Lib.hid he
        have hne : ((xs[k]) == (ys[k])) = true := by rw [he]; simp
        clear he
        go_wp2
        go_quiet (fail)
        go_wp2
        refine ⟨⟨k + 1, by rw [HX.out]; omega, by go_num, take_eq_snocS HKT.out hkx hky HE.out, _, rfl⟩, by simp [intOf]; omega⟩
      · have HE := Lib.hid he
        have hne : ((xs[k]) == (ys[k])) = false := by
          rw [beq_eq_false_iff_ne]; exact he
        have hf : decide (xs = ys) = false := by
          rw [decide_eq_false_iff_not]; rintro rfl; exact he rfl
        have HF := Lib.hid hf
        clear he hf
        go_wp2
        go_quiet (fail)
        go_wp2
        go_ret
        exact ⟨by rw [HF.out]; rfl, j + nq, by rw [World.drewN_drewN]⟩
    · obtain rfl : k = n := by have := HX.out; omega
      have ht : decide (xs = ys) = true := by
        rw [decide_eq_true_eq]
        have := HKT.out
        rwa [List.take_of_length_le (by rw [HX.out]; omega), List.take_of_length_le (by rw [HY.out]; omega)] at this
      have HF := Lib.hid ht
      clear ht
      go_wp2
      go_ret
      exact ⟨by rw [HF.out]; rfl, _, rfl⟩

theorem exact_any (A B : Option Addr) (n m c d H : Nat) (xs ys : List (List UInt8)) (w : World) (hx : xs.length = n) (hy : ys.length = m) (hA : Row w H A (xs.map sv)) (hB : Row w H B (ys.map sv)) (hm : n ≤ maxLen) :
    Calls Tryz.prog 87 #[.slice A n c, .slice B m d] w (Drewn w (.bool (decide (xs = ys)))) := by
  by_cases h : n = m
  · subst h
    exact exact_len A B n c d H xs ys w hx hy hA hB hm
  · have hf : decide (xs = ys) = false := by
      rw [decide_eq_false_iff_not]; rintro rfl; omega
    rw [hf]
    exact exact_ne A B n m c d w h

end Go.Proofs.YtmbcbfalgdgmjaaGreatDoor

namespace Go.Proofs.YtmbcbfalgdgmjaaGreatDoor
open Go.RowKit

structure Grew (F : Nat → Prop) (w w' : World) : Prop where
  os : w'.os = w.os
  tape : w'.tape = w.tape
  output : w'.output = w.output
  size : w.heap.size ≤ w'.heap.size
  block : ∀ k, k < w.heap.size → ¬ F k → w'.heap[k]? = w.heap[k]?

section
variable {F G : Nat → Prop} {w w' w'' : World}
theorem Grew.refl (F : Nat → Prop) (w : World) : Grew F w w := ⟨rfl, rfl, rfl, Nat.le_refl _, fun _ _ _ => rfl⟩
theorem Grew.trans (h : Grew F w w') (k : Grew G w' w'') (hG : ∀ j, G j → F j ∨ w.heap.size ≤ j) : Grew F w w'' :=
  ⟨k.os.trans h.os, k.tape.trans h.tape, k.output.trans h.output, Nat.le_trans h.size k.size, fun j hj hF =>
    (k.block j (Nat.lt_of_lt_of_le hj h.size) (fun hg => by rcases hG j hg with h1 | h1; exact hF h1; omega)).trans (h.block j hj hF)⟩
theorem Grew.mono (h : Grew F w w') (hG : ∀ j, F j → G j ∨ w.heap.size ≤ j) : Grew G w w' :=
  ⟨h.os, h.tape, h.output, h.size, fun j hj hg => h.block j hj (fun hf => by rcases hG j hf with h1 | h1; exact hg h1; omega)⟩
theorem Grew.of_below {B : Nat} (h : Below B w w') (hF : ∀ j, B ≤ j → F j ∨ w.heap.size ≤ j) : Grew F w w' :=
  ⟨h.os, h.tape, h.output, h.size, fun j hj hf => h.block j (by rcases Nat.lt_or_ge j B with h1 | h1; exact h1; rcases hF j h1 with h2 | h2; exact absurd h2 hf; omega)⟩
theorem Grew.all (h : Below w.heap.size w w') : Grew F w w' := Grew.of_below h fun _ hj => .inr hj
theorem Grew.below (h : Grew F w w') {B : Nat} (hF : ∀ j, F j → B ≤ j) (hB : B ≤ w.heap.size) : Below B w w' :=
  ⟨h.os, h.tape, h.output, h.size, fun k hk => h.block k (Nat.lt_of_lt_of_le hk hB) (fun hf => by have := hF k hf; omega)⟩
theorem Grew.of_grown {row : Option Nat} (h : w.grownBy w' row) (hF : ∀ j, row = some j → F j ∨ w.heap.size ≤ j) : Grew F w w' :=
  ⟨h.os, h.tape, h.output, h.size, fun k hk hf => h.block k hk (fun e => by rcases hF k e.symm with h1 | h1; exact hf h1; omega)⟩
theorem Grew.alloc (h : Grew F w w') (o : Obj) : Grew F w (w'.alloc o) := h.trans (G := fun _ => False) (Grew.all ((Below.refl _ _).alloc (Nat.le_refl _) o)) (fun _ h => h.elim)
theorem Grew.drewN (h : Grew F w w') (n : Nat) : Grew F w (w'.drewN n) := ⟨h.os, h.tape, h.output, h.size, h.block⟩
theorem Grew.setCell (h : Grew F w w') {a : Addr} (ha : F a.block ∨ w.heap.size ≤ a.block) (u : Value) : Grew F w (w'.setCell a u) :=
  ⟨h.os, h.tape, h.output, by simpa using h.size, fun k hk hf => (Below.heap_setCell w' a u k (fun e => by rcases ha with h1 | h1; exact hf (e ▸ h1); omega)).trans (h.block k hk hf)⟩
theorem Grew.grown (h : Grew F w w') {row : Option Nat} (hg : w'.grownBy w'' row) (hr : ∀ j, row = some j → F j ∨ w.heap.size ≤ j) : Grew F w w'' :=
  h.trans (G := fun j => row = some j) (Grew.of_grown hg fun _ h => .inl h) hr
theorem Grew.then_below (h : Grew F w w') (hb : Below w'.heap.size w' w'') : Grew F w w'' :=
  h.trans (G := fun _ => False) (Grew.all hb) (fun _ h => h.elim)

/-- A row of the call's own stays, if its block does. -/
theorem own_keep {base : Nat} {e : TypeId} {size n : Nat} {v : Value} {xs : List Value} (h : w.ownsRow base e size v n xs) (hk : ∀ g, v.ownBlock = some g → w'.heap[g]? = w.heap[g]?) : w'.ownsRow base e size v n xs := by
  obtain ⟨h1, h2⟩ := h
  refine ⟨h1, ?_⟩
  rcases h2 with h2 | ⟨g, cap, cur, rfl, hg, hh, r⟩
  · exact .inl h2
  · exact .inr ⟨g, cap, cur, rfl, hg, (hk g rfl).trans hh, r⟩
theorem own_grew {base : Nat} {e : TypeId} {size n : Nat} {v : Value} {xs : List Value} (h : w.ownsRow base e size v n xs) (hg : Grew F w w') (hf : ∀ g, v.ownBlock = some g → ¬ F g) : w'.ownsRow base e size v n xs :=
  own_keep h fun g hv => hg.block g (h.lt g hv).2 (hf g hv)
theorem own_mono {base base' : Nat} {e : TypeId} {size n : Nat} {v : Value} {xs : List Value} (h : w.ownsRow base e size v n xs) (hb : base' ≤ base) : w.ownsRow base' e size v n xs := by
  obtain ⟨h1, h2⟩ := h
  refine ⟨h1, ?_⟩
  rcases h2 with h2 | ⟨g, cap, cur, rfl, hg, r⟩
  · exact .inl h2
  · exact .inr ⟨g, cap, cur, rfl, Nat.le_trans hb hg, r⟩
theorem Whole.keep {g : Nat} {t : TypeId} {L : List Value} (h : Whole w g t L) (hk : w'.heap[g]? = w.heap[g]?) : Whole w' g t L := hk.trans h
theorem Whole.grew {g : Nat} {t : TypeId} {L : List Value} (h : Whole w g t L) (hg : Grew F w w') (hf : ¬ F g) : Whole w' g t L := h.keep (hg.block g h.lt hf)
theorem Row.grew {H : Nat} {A : Option Addr} {xs : List Value} (h : Row w H A xs) (hg : Grew F w w') (hH : H ≤ w.heap.size) (hf : ∀ j, F j → H ≤ j) : Row w' H A xs :=
  h.below (hg.below hf hH)
/-- A row of other elements is another block. -/
theorem own_not_whole {base : Nat} {e t : TypeId} {size n g : Nat} {v : Value} {xs L : List Value} (h : w.ownsRow base e size v n xs) (hw : Whole w g t L) (ht : e ≠ t) : v.ownBlock ≠ some g := by
  intro hv
  rcases h.2 with ⟨rfl, _⟩ | ⟨g', cap, cur, rfl, _, hh, _⟩
  · cases hv
  · simp [Value.ownBlock] at hv
    subst hv
    unfold Whole at hw
    rw [hw] at hh
    simp at hh
    exact ht hh.2.symm
/-- A store into a row of the call's own. -/
theorem own_store {base g : Nat} {e : TypeId} {n c : Nat} {xs : List Value} (h : w.ownsRow base e 1 (.slice (some ⟨g, 0, none⟩) n c) n xs) {k : Nat} (_hk : k < n) (u : Value) :
    (w.setCell ⟨g, k, none⟩ u).ownsRow base e 1 (.slice (some ⟨g, 0, none⟩) n c) n (xs.set k u) := by
  obtain ⟨h1, h2⟩ := h
  refine ⟨by simpa using h1, ?_⟩
  rcases h2 with ⟨hv, _⟩ | ⟨g', cap, cur, hv, hg, hh, h3, h4, h5, h6⟩
  · cases hv
  · injection hv with hv _ hc
    injection hv with hv
    injection hv with hv
    subst hv
    subst hc
    refine .inr ⟨g, c, cur.setIfInBounds k u, rfl, hg, ?_, h3, h4, by simpa using h5, ?_⟩
    · simp [World.setCell, Array.getElem?_modify, hh]
    · rw [← h6]
      simp [List.take_set]
theorem own_cell {base g : Nat} {e : TypeId} {n c : Nat} {xs : List Value} {size : Nat} (h : w.ownsRow base e size (.slice (some ⟨g, 0, none⟩) n c) n xs) {k : Nat} (hk : k < xs.length) : w.cell? ⟨g, k, none⟩ = some xs[k] := by
  have h1 := h.cells (g := g) rfl k _ (List.getElem?_eq_getElem hk)
  rwa [addr_add, Nat.zero_add] at h1
theorem own_frozen {base g : Nat} {e : TypeId} {size n c : Nat} {xs : List Value} (h : w.ownsRow base e size (.slice (some ⟨g, 0, none⟩) n c) n xs) (k : Nat) : w.frozen? ⟨g, k, none⟩ = false := by
  rcases h.2 with ⟨hv, _⟩ | ⟨g', cap, cur, hv, hg, hh, _⟩
  · cases hv
  · injection hv with hv _ hc
    injection hv with hv
    injection hv with hv
    subst hv
    simp [World.frozen?, hh]
end

/-- append onto a row of the call's own, as wpList_append_row; it says where the new row lies. -/
theorem wpList_append_at {P : Program} {w : World} {ops : Array Oper} {rest : List Oper} {o : Oper} {a : Act} {Q : Exit → Act → World → Prop} (hgd : Region.wanted o (yielded ops a.tmps) = true) (s x : Operand) (t : TypeId)
    (ho : o.op = .call { callee := .builtin .append, args := #[s, x], argTypes := #[t, t] })
    (base : Nat) (e : TypeId) (i : TypeInfo) (z : Value) (size bytes : Nat) (ht : P.underlying t = some (.slice e)) (hi : P.info? e = some i) (hz : i.zero = some z)
    (hsize : i.size = size) (hby : i.bytes = bytes) (hzs : z.cells.size = size) (hsz : 0 < size)
    (v : Value) (n : Nat) (xs : List Value) (hs : a.eval s = v) (hown : w.ownsRow base e size v n xs)
    (A : Option Addr) (m c H : Nat) (news : List Value) (hx : a.eval x = .slice A m c) (hl : news.length = m * size) (hr : Row w H A news) (h1 : ∀ u ∈ news, u.oneCell' = true)
    (h63 : n + m ≤ maxLen) (hbytes : (n + m) * bytes ≤ 140737488355328) (hbase : base ≤ w.heap.size)
    (h : ∀ v' w', w'.ownsRow base e size v' (n + m) (xs ++ news) → w.grownBy w' v.ownBlock → (v'.ownBlock = v.ownBlock ∨ v'.ownBlock = some w.heap.size) → wpList P ops Q rest (a.put o.dst v') w') : wpList P ops Q (o :: rest) a w := by
  have key : ∃ v' w', (Builtin.append_ #[t, t] o.type #[v, .slice A m c]).run P w = .ok v' w' ∧ w'.ownsRow base e size v' (n + m) (xs ++ news) ∧ w.grownBy w' v.ownBlock ∧ (v'.ownBlock = v.ownBlock ∨ v'.ownBlock = some w.heap.size) := by
    rcases A with _ | ad
    · have hn : news = [] := by
        rcases news with _ | ⟨u, us⟩
        · rfl
        · obtain ⟨_, _, h, _⟩ := hr (by simp)
          cases h
      have hm : m = 0 := by
        subst hn
        rcases Nat.eq_zero_or_pos m with h0 | h0
        · exact h0
        · have := Nat.mul_pos h0 hsz
          simp at hl; omega
      subst hn; subst hm
      exact ⟨v, w, append_nil_run (P := P) w base t o.type e i size ht hi v n xs hown c, by simpa using hown, World.grownBy.refl w _, .inl rfl⟩
    · have hc : ∀ j u, news[j]? = some u → w.cell? (ad.add j) = some u := by
        intro j u hu
        obtain ⟨b, off, e, _, hc⟩ := hr (fun e => by rw [e] at hu; simp at hu)
        injection e with e
        subst e
        rw [addr_add]
        exact hc j u hu
      obtain ⟨v', w', h2, h3, h4, _, h6⟩ := run_append_own_at (P := P) w base t o.type e i z size bytes ht hi hz hsize hby hzs hsz v n xs hown ad m c news hl hc h1 h63 hbytes hbase
      exact ⟨v', w', h2, h3, h4, h6⟩
  obtain ⟨v', w', hrun, h2, h3, h4⟩ := key
  refine wpList_step fun K hK => ?_
  rw [if_pos hgd]
  unfold Oper.wp
  simp [execOp, ho, resolve, invoke, builtin, hs, hx, hrun, Result.andThen]
  exact hK _ _ (h v' w' h2 h3 h4)

end Go.Proofs.YtmbcbfalgdgmjaaGreatDoor

namespace Go.Proofs.YtmbcbfalgdgmjaaGreatDoor
open Go.RowKit

/-- What a record says. -/
structure Dt where
  bytes : List UInt8
  host : List (List UInt8)
  mail : List (List UInt8)
  nums : List Int
  texts : List (List UInt8)
/-- Where its slices lie, and what room they have. -/
structure DV where
  Ab : Option Addr
  Ah : Option Addr
  Am : Option Addr
  An : Option Addr
  At : Option Addr
  cb : Nat
  ch : Nat
  cm : Nat
  cn : Nat
  ct : Nat
/-- A number as a cell. -/
def zv (n : Int) : Value := .int .i64 n
theorem zv_one (l : List Int) : ∀ u ∈ l.map zv, u.oneCell' = true := by
  intro u hu
  obtain ⟨x, _, rfl⟩ := List.mem_map.1 hu
  rfl
theorem zint_info : (Tryz.prog.info? 3).map (fun i => (i.zero, i.size, i.bytes)) = some (some (.int .i64 0), 1, 8) := by kernel_rfl

abbrev DV.vb (x : DV) (d : Dt) : Value := .slice x.Ab d.bytes.length x.cb
abbrev DV.vh (x : DV) (d : Dt) : Value := .slice x.Ah d.host.length x.ch
abbrev DV.vm (x : DV) (d : Dt) : Value := .slice x.Am d.mail.length x.cm
abbrev DV.vn (x : DV) (d : Dt) : Value := .slice x.An d.nums.length x.cn
abbrev DV.vt (x : DV) (d : Dt) : Value := .slice x.At d.texts.length x.ct
/-- The value. -/
abbrev DV.val (x : DV) (d : Dt) : Value := .agg #[.slice x.Ab d.bytes.length x.cb, .slice x.Ah d.host.length x.ch, .slice x.Am d.mail.length x.cm, .slice x.An d.nums.length x.cn, .slice x.At d.texts.length x.ct]

/-- In the world w the slices x read as d, below H. -/
structure DataAt (w : World) (H : Nat) (x : DV) (d : Dt) : Prop where
  b : Row w H x.Ab (d.bytes.map bc)
  h : Row w H x.Ah (d.host.map sv)
  m : Row w H x.Am (d.mail.map sv)
  n : Row w H x.An (d.nums.map zv)
  t : Row w H x.At (d.texts.map sv)
  lb : d.bytes.length ≤ x.cb
  lh : d.host.length ≤ x.ch
  lm : d.mail.length ≤ x.cm
  ln : d.nums.length ≤ x.cn
  lt : d.texts.length ≤ x.ct
  kb : x.cb ≤ maxLen
  kn : x.cn ≤ maxLen

/-- Data that is not too large. -/
def lightD (d : Dt) : Bool := d.host.all (fun l => decide (l.length ≤ 300)) && d.mail.all (fun l => decide (l.length ≤ 300)) && d.texts.all (fun l => decide (l.length ≤ 600)) &&
  decide (d.host.length ≤ 300) && decide (d.mail.length ≤ 300) && decide (d.texts.length ≤ 200) && decide (d.nums.length ≤ 200) && decide (d.bytes.length ≤ 70000)
structure LightD (d : Dt) : Prop where
  h : ∀ l ∈ d.host, l.length ≤ 300
  m : ∀ l ∈ d.mail, l.length ≤ 300
  t : ∀ l ∈ d.texts, l.length ≤ 600
  nh : d.host.length ≤ 300
  nm : d.mail.length ≤ 300
  nt : d.texts.length ≤ 200
  nn : d.nums.length ≤ 200
  nb : d.bytes.length ≤ 70000
theorem lightD_iff (d : Dt) : lightD d = true ↔ LightD d := by
  unfold lightD
  simp only [Bool.and_eq_true, List.all_eq_true, decide_eq_true_eq]
  constructor
  · rintro ⟨⟨⟨⟨⟨⟨⟨h1, h2⟩, h3⟩, h4⟩, h5⟩, h6⟩, h7⟩, h8⟩
    exact ⟨h1, h2, h3, h4, h5, h6, h7, h8⟩
  · rintro ⟨h1, h2, h3, h4, h5, h6, h7, h8⟩
    exact ⟨⟨⟨⟨⟨⟨⟨h1, h2⟩, h3⟩, h4⟩, h5⟩, h6⟩, h7⟩, h8⟩

section
variable {w w' : World} {H H' : Nat} {x : DV} {d : Dt}
theorem DataAt.below (h : DataAt w H x d) (hb : Below H w w') : DataAt w' H x d :=
  ⟨h.b.below hb, h.h.below hb, h.m.below hb, h.n.below hb, h.t.below hb, h.lb, h.lh, h.lm, h.ln, h.lt, h.kb, h.kn⟩
theorem DataAt.mono (h : DataAt w H x d) (hb : H ≤ H') : DataAt w H' x d :=
  ⟨h.b.mono hb, h.h.mono hb, h.m.mono hb, h.n.mono hb, h.t.mono hb, h.lb, h.lh, h.lm, h.ln, h.lt, h.kb, h.kn⟩
theorem DataAt.keep (h : DataAt w H x d) (hk : ∀ p : Addr, p.block < H → w'.cell? p = w.cell? p) : DataAt w' H x d :=
  ⟨h.b.keep hk, h.h.keep hk, h.m.keep hk, h.n.keep hk, h.t.keep hk, h.lb, h.lh, h.lm, h.ln, h.lt, h.kb, h.kn⟩
theorem DataAt.alloc (h : DataAt w H x d) (hH : H ≤ w.heap.size) (o : Obj) : DataAt (w.alloc o) H x d := h.keep fun p hp => World.cell?_alloc_lt w o p (by omega)
theorem DataAt.drewN (h : DataAt w H x d) (k : Nat) : DataAt (w.drewN k) H x d := h.keep fun _ _ => rfl
end

/-- The slices are the call's own. -/
structure OwnD (w : World) (B : Nat) (x : DV) (d : Dt) : Prop where
  b : w.ownsRow B 5 1 (x.vb d) d.bytes.length (d.bytes.map bc)
  h : w.ownsRow B 9 1 (x.vh d) d.host.length (d.host.map sv)
  m : w.ownsRow B 9 1 (x.vm d) d.mail.length (d.mail.map sv)
  n : w.ownsRow B 3 1 (x.vn d) d.nums.length (d.nums.map zv)
  t : w.ownsRow B 9 1 (x.vt d) d.texts.length (d.texts.map sv)
theorem own_capZ {w : World} {base : Nat} {t : TypeId} {A : Option Addr} {n c : Nat} {xs : List Value} {size : Nat} (h : w.ownsRow base t size (.slice A n c) n xs) : c ≤ maxLen := by
  obtain ⟨A', c', e, _, h2⟩ := own_form h
  injection e with _ _ e
  omega
theorem OwnD.at_ {w : World} {B : Nat} {x : DV} {d : Dt} (h : OwnD w B x d) : DataAt w w.heap.size x d :=
  ⟨Row.of_own h.b, Row.of_own h.h, Row.of_own h.m, Row.of_own h.n, Row.of_own h.t, own_cap h.b, own_cap h.h, own_cap h.m, own_cap h.n, own_cap h.t, own_capZ h.b, own_capZ h.n⟩
theorem OwnD.keep {w w' : World} {B : Nat} {x : DV} {d : Dt} (h : OwnD w B x d) (hk : ∀ g, g < w.heap.size → w'.heap[g]? = w.heap[g]?) : OwnD w' B x d :=
  ⟨own_keep h.b fun g e => hk g (h.b.lt g e).2, own_keep h.h fun g e => hk g (h.h.lt g e).2, own_keep h.m fun g e => hk g (h.m.lt g e).2, own_keep h.n fun g e => hk g (h.n.lt g e).2, own_keep h.t fun g e => hk g (h.t.lt g e).2⟩

/-- Slices whose elements lie in other blocks. -/
def Apart (u v : Value) : Prop := ∀ g k n m c c', u = .slice (some ⟨g, 0, none⟩) n c → v = .slice (some ⟨k, 0, none⟩) m c' → 0 < n → 0 < m → g ≠ k

/-- append onto '[]T{}': whatever was there stays. -/
theorem append_zero_run {P : Program} (w : World) (B : Nat) (t ty e : TypeId) (i : TypeInfo) (z : Value) (bytes : Nat) (ht : P.underlying t = some (.slice e)) (hi : P.info? e = some i) (hz : i.zero = some z)
    (hsize : i.size = 1) (hby : i.bytes = bytes) (hzs : z.cells.size = 1) (g : Nat) (hg : B ≤ g) (hh : w.heap[g]? = some (.cells #[] e (0, 0)))
    (A : Option Addr) (m c H : Nat) (news : List Value) (hl : news.length = m) (hr : Row w H A news) (h1 : ∀ u ∈ news, u.oneCell' = true) (h63 : m ≤ maxLen) (hbytes : m * bytes ≤ 140737488355328) (hB : B ≤ w.heap.size) :
    ∃ v' w', (Builtin.append_ #[t, t] ty #[.slice (some ⟨g, 0, none⟩) 0 0, .slice A m c]).run P w = .ok v' w' ∧ w'.ownsRow B e 1 v' m news ∧ Below w.heap.size w w' ∧
      (0 < m → v'.ownBlock = some w.heap.size) := by
  have hgs : g < w.heap.size := by
    rcases Nat.lt_or_ge g w.heap.size with h | h
    · exact h
    · rw [Array.getElem?_eq_none h] at hh; cases hh
  have hown : w.ownsRow B e 1 (.slice (some ⟨g, 0, none⟩) 0 0) 0 [] := ⟨rfl, .inr ⟨g, 0, #[], rfl, hg, hh, Nat.le_refl _, Nat.zero_le _, rfl, rfl⟩⟩
  rcases Nat.eq_zero_or_pos m with rfl | hm
  · have hn : news = [] := List.eq_nil_of_length_eq_zero hl
    subst hn
    refine ⟨.slice (some ⟨g, 0, none⟩) 0 0, w, ?_, hown, Below.refl _ _, fun h => absurd h (Nat.lt_irrefl _)⟩
    rcases A with _ | a
    · exact append_nil_run (P := P) w B t ty e i 1 ht hi _ 0 [] hown c
    · simp [Builtin.append_, run_underlying ht, sizeOf, typeInfo, hi, Builtin.lenOf, Builtin.firstCells, loadCells, loadCellsFrom, storeCells]
  · obtain ⟨b, off, rfl, _, hc⟩ := hr (fun e => by rw [e] at hl; simp at hl; omega)
    have hr2 := run_append_grow (P := P) w t ty e i z ht hi hz ⟨g, 0, none⟩ 0 0 [] (by simp) (fun j u h => by simp at h) ⟨b, off, none⟩ m c news (by rw [hsize, Nat.mul_one]; exact hl) (fun j u hu => by rw [addr_add]; exact hc j u hu) (by omega)
      (by unfold maxLen at h63; omega) (growslice_fits (by omega) (by rw [Nat.zero_add, hby]; exact hbytes))
    refine ⟨_, _, hr2, ⟨by rw [hl, Nat.mul_one], .inr ⟨w.heap.size, _, _, by rw [Nat.zero_add], hB, heap_alloc_new w.drew _, ?_, ?_, ?_, ?_⟩⟩, ((Below.refl _ w).drew).alloc (Nat.le_refl _) _, fun _ => rfl⟩
    · exact grownCap_ge w m 0 e
    · exact grownCap_le_maxLen w m 0 e h63
    · have hge := grownCap_ge w m 0 e
      simp only [Array.size_append, List.size_toArray, size_zeroCells, hzs, hl, List.length_nil, Nat.zero_add, Nat.mul_one]
      omega
    · simp only [Array.toList_append, List.nil_append]
      rw [Nat.mul_one, ← hl]
      exact List.take_left

end Go.Proofs.YtmbcbfalgdgmjaaGreatDoor

namespace Go.Proofs.YtmbcbfalgdgmjaaGreatDoor
open Go.RowKit

theorem Row.int_at {w : World} {H : Nat} {A : Option Addr} {n : List Int} (h : Row w H A (n.map zv)) {k : Nat} (hk : k < n.length) :
    ∃ b off, A = some ⟨b, off, none⟩ ∧ b < H ∧ w.cell? ⟨b, off + k, none⟩ = some (.int .i64 n[k]) := by
  obtain ⟨b, off, e, hb, hc⟩ := h.at_ (k := k) (by rw [List.length_map]; exact hk)
  exact ⟨b, off, e, hb, by rw [hc]; simp [zv]⟩

end Go.Proofs.YtmbcbfalgdgmjaaGreatDoor

namespace Go.Proofs.YtmbcbfalgdgmjaaGreatDoor
open Go.RowKit

theorem take_eq_snoc {xs ys : List UInt8} {k : Nat} (h : xs.take k = ys.take k) (hx : k < xs.length) (hy : k < ys.length) (e : xs[k] = ys[k]) : xs.take (k + 1) = ys.take (k + 1) := by
  rw [List.take_succ_eq_append_getElem hx, List.take_succ_eq_append_getElem hy, h, e]
theorem u8_eq_of {a b : UInt8} (h : (a.toNat : Int) = b.toNat) : a = b := by
  apply UInt8.toNat.inj; omega

def SameRel (w : World) (xs ys : List UInt8) (i : Value) (wr : World) : Prop := ∃ k : Nat, k ≤ xs.length ∧ i = .int .i64 k ∧ xs.take k = ys.take k ∧ ∃ j, wr = w.drewN j

set_option maxHeartbeats 400000 in
theorem same_ne (A B : Option Addr) (n m c d : Nat) (w : World) (h : n ≠ m) :
    Calls Tryz.prog 61 #[.slice A n c, .slice B m d] w (Drewn w (.bool false)) := by
  have h1 : ((n : Int) != (m : Int)) = true := by rw [bne_iff_ne]; omega
  go_enter Tryz.func61, Tryz.ntmps61
  go_wp2
  go_ret
  exact ⟨rfl, 0, rfl⟩

set_option maxHeartbeats 400000 in
theorem same_len (A B : Option Addr) (n c d H : Nat) (xs ys : List UInt8) (w : World) (hx : xs.length = n) (hy : ys.length = n) (hA : Row w H A (xs.map bc)) (hB : Row w H B (ys.map bc)) (hm : n ≤ maxLen) :
    Calls Tryz.prog 61 #[.slice A n c, .slice B n d] w (Drewn w (.bool (decide (xs = ys)))) := by
  unfold maxLen at hm
  have h1 : ((n : Int) != (n : Int)) = false := by simp
  have HX := Lib.hid hx
  have HY := Lib.hid hy
  have HA := Lib.hid hA
  have HB := Lib.hid hB
  clear hx hy hA hB
  go_enter Tryz.func61, Tryz.ntmps61
  go_wp2
  go_loopw [5] (SameRel w xs ys) (fun i _ => n - (intOf i).toNat)
  case atStart => exact ⟨0, by omega, rfl, by simp, 0, rfl⟩
  case round =>
    obtain ⟨k, hk, rfl, hkt, j, rfl⟩ := hrel
    have HKT := Lib.hid hkt
    clear hkt
    by_cases hlt : k < n
    · obtain ⟨b, off, rfl, _, hca⟩ := HA.out.at_ (k := k) (by rw [List.length_map, HX.out]; exact hlt)
      obtain ⟨b', off', rfl, _, hcb⟩ := HB.out.at_ (k := k) (by rw [List.length_map, HY.out]; exact hlt)
      have hca' : w.cell? ⟨b, off + k, none⟩ = some (.int .u8 (xs[k]'(by rw [HX.out]; exact hlt)).toNat) := by rw [hca]; simp [bc]
      have hcb' : w.cell? ⟨b', off' + k, none⟩ = some (.int .u8 (ys[k]'(by rw [HY.out]; exact hlt)).toNat) := by rw [hcb]; simp [bc]
      clear hca hcb
      by_cases he : xs[k]'(by rw [HX.out]; exact hlt) = ys[k]'(by rw [HY.out]; exact hlt)
      · have HE := Lib.hid he
        have hne : (((xs[k]'(by rw [HX.out]; exact hlt)).toNat : Int) != ((ys[k]'(by rw [HY.out]; exact hlt)).toNat : Int)) = false := by rw [he]; simp
        clear he
        go_wp2
        go_quiet (fail)
        go_wp2
        refine ⟨⟨k + 1, by rw [HX.out]; omega, by go_num, take_eq_snoc HKT.out _ _ HE.out, _, rfl⟩, by simp [intOf]; omega⟩
      · have HE := Lib.hid he
        have hne : (((xs[k]'(by rw [HX.out]; exact hlt)).toNat : Int) != ((ys[k]'(by rw [HY.out]; exact hlt)).toNat : Int)) = true := by
          rw [bne_iff_ne]; intro e; exact he (u8_eq_of e)
        have hf : decide (xs = ys) = false := by
          rw [decide_eq_false_iff_not]; rintro rfl; exact he rfl
        have HF := Lib.hid hf
        clear he hf
        go_wp2
        go_quiet (fail)
        go_wp2
        go_ret
        exact ⟨by rw [HF.out]; rfl, j + nq, by rw [World.drewN_drewN]⟩
    · obtain rfl : k = n := by have := HX.out; omega
      have ht : decide (xs = ys) = true := by
        rw [decide_eq_true_eq]
        have := HKT.out
        rwa [List.take_of_length_le (by rw [HX.out]; omega), List.take_of_length_le (by rw [HY.out]; omega)] at this
      have HF := Lib.hid ht
      clear ht
      go_wp2
      go_ret
      exact ⟨by rw [HF.out]; rfl, _, rfl⟩

theorem same_any (A B : Option Addr) (n m c d H : Nat) (xs ys : List UInt8) (w : World) (hx : xs.length = n) (hy : ys.length = m) (hA : Row w H A (xs.map bc)) (hB : Row w H B (ys.map bc)) (hm : n ≤ maxLen) :
    Calls Tryz.prog 61 #[.slice A n c, .slice B m d] w (Drewn w (.bool (decide (xs = ys)))) := by
  by_cases h : n = m
  · subst h
    exact same_len A B n c d H xs ys w hx hy hA hB hm
  · have hf : decide (xs = ys) = false := by
      rw [decide_eq_false_iff_not]; rintro rfl; omega
    rw [hf]
    exact same_ne A B n m c d w h

theorem same_yes (A B : Option Addr) (n m c d H : Nat) (xs : List UInt8) (w : World) (hx : xs.length = n) (hy : xs.length = m) (hA : Row w H A (xs.map bc)) (hB : Row w H B (xs.map bc)) (hm : n ≤ maxLen) :
    Calls Tryz.prog 61 #[.slice A n c, .slice B m d] w (Drewn w (.bool true)) := by
  have h := same_any A B n m c d H xs xs w hx hy hA hB hm
  rwa [show decide (xs = xs) = true from by simp] at h

end Go.Proofs.YtmbcbfalgdgmjaaGreatDoor

namespace Go.Proofs.YtmbcbfalgdgmjaaGreatDoor
open Go.RowKit

def SmallRel (w : World) (l : List UInt8) (Z : List Value) (i : Value) (wr : World) : Prop :=
  ∃ k : Nat, k ≤ l.length ∧ i = .int .i64 k ∧ Marked wr w.heap.size 5 (lowUpto l k Z) ∧ Below w.heap.size w wr

set_option maxHeartbeats 400000 in
theorem ref_small_any (l : List UInt8) (w : World) (hm : l.length ≤ maxLen) :
    Calls Tryz.prog 60 #[.string ⟨l.toArray⟩] w (Gave w (.string ⟨(lowL l).toArray⟩)) := by
  unfold maxLen at hm
  go_enter Tryz.func60, Tryz.ntmps60
  go_wp2_with (refine wpList_bytes rfl (.tmp 5) 9 31 5 rfl Tryz.underlying9 Tryz.underlying31 Tryz.underlying5 l rfl ?_; intro C w1 hC hM1 hB1 hz1)
  have HM := Lib.hid hM1
  have HB := Lib.hid hB1
  have HZ := Lib.hid hz1
  clear hM1 hB1 hz1
  obtain ⟨Z, hZ⟩ : ∃ Z, Z = zerosL (.int .u8 0) (C - l.length) := ⟨_, rfl⟩
  rw [← hZ] at HM
  clear hZ
  go_loopw [4] (SmallRel w l Z) (fun i _ => l.length - (intOf i).toNat)
  case atStart => exact ⟨0, Nat.zero_le _, rfl, by rw [lowUpto_zero]; exact HM.out, HB.out⟩
  case round =>
    obtain ⟨k, hk, rfl, hmk, hbk⟩ := hrel
    have HMK := Lib.hid hmk
    have HBK := Lib.hid hbk
    clear hmk hbk
    by_cases hlt : k < l.length
    · have hc : wr.cell? ⟨w.heap.size, k, none⟩ = some (.int .u8 (l[k]).toNat) := (HMK.out.cell k).trans (lowUpto_at Z hlt)
      have hf : wr.frozen? ⟨w.heap.size, k, none⟩ = false := HMK.out.frozen (by rw [length_lowUpto]; omega)
      have hlt8 := (l[k]).toNat_lt
      by_cases h1 : 65 ≤ (l[k]).toNat
      · by_cases h2 : (l[k]).toNat ≤ 90
        · have HU := Lib.hid (lowB_up h1 h2)
          go_wp2
          refine ⟨⟨k + 1, by omega, by go_num, ?_, ?_⟩, by simp [intOf]; omega⟩
          · rw [lowUpto_succ Z hlt, bc, HU.out]
            have h := HMK.out.set_ k (.int .u8 (((l[k]).toNat + 32 : Nat) : Int))
            rw [show ((l[k]).toNat : Int) + 32 = (((l[k]).toNat + 32 : Nat) : Int) from by omega]
            exact h
          · exact HBK.out.setCell (Nat.le_refl _) _
        · have HU := Lib.hid (lowUpto_same Z hlt (lowB_no (by omega)))
          go_wp2
          exact ⟨⟨k + 1, by omega, by go_num, by rw [HU.out]; exact HMK.out, HBK.out⟩, by simp [intOf]; omega⟩
      · have HU := Lib.hid (lowUpto_same Z hlt (lowB_no (by omega)))
        go_wp2
        exact ⟨⟨k + 1, by omega, by go_num, by rw [HU.out]; exact HMK.out, HBK.out⟩, by simp [intOf]; omega⟩
    · obtain rfl : k = l.length := by omega
      have hr := HMK.out.row.take l.length
      rw [lowUpto_all] at hr
      have hcv := convert_row_run (P := Tryz.prog) wr 31 9 5 Tryz.underlying31 Tryz.underlying5 Tryz.underlying9 _ l.length C _ (lowL l) (length_lowL l) hr
      clear hr
      go_wp2
      go_ret
      exact ⟨rfl, HBK.out⟩

end Go.Proofs.YtmbcbfalgdgmjaaGreatDoor

namespace Go.Proofs.YtmbcbfalgdgmjaaGreatDoor

/-- One list and another, element by element; one that begins the other is less. -/
def lexC {α : Type} (c : α → α → Int) : List α → List α → Int
  | [], [] => 0
  | [], _ :: _ => -1
  | _ :: _, [] => 1
  | x :: xs, y :: ys => if c x y = 0 then lexC c xs ys else c x y

structure Tot {α : Type} (c : α → α → Int) : Prop where
  anti : ∀ x y, c y x = - c x y
  same : ∀ x, c x x = 0
  eq_ : ∀ x y, c x y = 0 → x = y
  trans : ∀ x y z, c x y ≤ 0 → c y z ≤ 0 → c x z ≤ 0
  rng : ∀ x y, c x y = -1 ∨ c x y = 0 ∨ c x y = 1

section
variable {α : Type} {c : α → α → Int}
theorem lexC_self (h : Tot c) : ∀ xs, lexC c xs xs = 0
  | [] => rfl
  | x :: xs => by rw [lexC, if_pos (h.same x), lexC_self h xs]
theorem lexC_anti (h : Tot c) : ∀ xs ys, lexC c ys xs = - lexC c xs ys
  | [], [] => rfl
  | [], _ :: _ => rfl
  | _ :: _, [] => rfl
  | x :: xs, y :: ys => by
    rw [lexC, lexC, h.anti x y]
    by_cases e : c x y = 0
    · rw [if_pos (by omega), if_pos e, lexC_anti h xs ys]
    · rw [if_neg (by omega), if_neg e]
theorem lexC_eq (h : Tot c) : ∀ xs ys, lexC c xs ys = 0 → xs = ys
  | [], [], _ => rfl
  | [], _ :: _, e => by simp [lexC] at e
  | _ :: _, [], e => by simp [lexC] at e
  | x :: xs, y :: ys, e => by
    rw [lexC] at e
    by_cases e1 : c x y = 0
    · rw [if_pos e1] at e
      rw [h.eq_ x y e1, lexC_eq h xs ys e]
    · rw [if_neg e1] at e
      exact absurd e e1
theorem lexC_rng (h : Tot c) : ∀ xs ys, lexC c xs ys = -1 ∨ lexC c xs ys = 0 ∨ lexC c xs ys = 1
  | [], [] => .inr (.inl rfl)
  | [], _ :: _ => .inl rfl
  | _ :: _, [] => .inr (.inr rfl)
  | x :: xs, y :: ys => by
    rw [lexC]
    split
    · exact lexC_rng h xs ys
    · exact h.rng x y
theorem lexC_trans (h : Tot c) : ∀ xs ys zs, lexC c xs ys ≤ 0 → lexC c ys zs ≤ 0 → lexC c xs zs ≤ 0
  | [], _, [], _, _ => by simp [lexC]
  | [], _, _ :: _, _, _ => by simp [lexC]
  | _ :: _, [], _, h1, _ => by simp [lexC] at h1
  | _ :: _, _ :: _, [], _, h2 => by simp [lexC] at h2
  | x :: xs, y :: ys, z :: zs, h1, h2 => by
    rw [lexC] at h1 h2 ⊢
    by_cases e1 : c x y = 0
    · have exy := h.eq_ x y e1
      subst exy
      rw [if_pos e1] at h1
      by_cases e2 : c x z = 0
      · rw [if_pos e2] at h2 ⊢
        exact lexC_trans h xs ys zs h1 h2
      · rw [if_neg e2] at h2 ⊢
        exact h2
    · rw [if_neg e1] at h1
      by_cases e2 : c y z = 0
      · have eyz := h.eq_ y z e2
        subst eyz
        rw [if_neg e1]
        exact h1
      · rw [if_neg e2] at h2
        have h3 := h.trans x y z h1 h2
        by_cases e3 : c x z = 0
        · exfalso
          have exz := h.eq_ x z e3
          subst exz
          have := h.anti x y
          omega
        · rw [if_neg e3]; exact h3
theorem lexC_tot (h : Tot c) : Tot (lexC c) := ⟨lexC_anti h, lexC_self h, lexC_eq h, lexC_trans h, lexC_rng h⟩
/-- Behind a common beginning. -/
theorem lexC_drop (h : Tot c) : ∀ (k : Nat) (xs ys : List α), xs.take k = ys.take k → k ≤ xs.length → k ≤ ys.length → lexC c xs ys = lexC c (xs.drop k) (ys.drop k)
  | 0, _, _, _, _, _ => rfl
  | k + 1, [], _, _, h1, _ => by simp at h1
  | k + 1, _ :: _, [], _, _, h2 => by simp at h2
  | k + 1, x :: xs, y :: ys, e, h1, h2 => by
    simp only [List.take_succ_cons, List.cons.injEq] at e
    obtain ⟨rfl, e⟩ := e
    rw [lexC, if_pos (h.same x), List.drop_succ_cons, List.drop_succ_cons]
    exact lexC_drop h k xs ys e (by simpa using h1) (by simpa using h2)
theorem lexC_at (h : Tot c) {k : Nat} {xs ys : List α} (e : xs.take k = ys.take k) (h1 : k < xs.length) (h2 : k < ys.length) (hne : c xs[k] ys[k] ≠ 0) : lexC c xs ys = c xs[k] ys[k] := by
  rw [lexC_drop h k xs ys e (Nat.le_of_lt h1) (Nat.le_of_lt h2), List.drop_eq_getElem_cons h1, List.drop_eq_getElem_cons h2, lexC, if_neg hne]
theorem lexC_end (h : Tot c) {xs ys : List α} {k : Nat} (e : xs.take k = ys.take k) (hk : k = min xs.length ys.length) : lexC c xs ys = Lib.compareInt xs.length ys.length := by
  rw [lexC_drop h k xs ys e (by omega) (by omega)]
  unfold Lib.compareInt
  by_cases h1 : xs.length < ys.length
  · obtain ⟨y, l, hy⟩ : ∃ y l, ys.drop k = y :: l := by
      cases hd : ys.drop k with
      | nil => rw [List.drop_eq_nil_iff] at hd; omega
      | cons y l => exact ⟨y, l, rfl⟩
    rw [@List.drop_eq_nil_of_le _ xs _ (by omega), hy, if_pos (by omega)]
    rfl
  · by_cases h2 : ys.length < xs.length
    · obtain ⟨y, l, hy⟩ : ∃ y l, xs.drop k = y :: l := by
        cases hd : xs.drop k with
        | nil => rw [List.drop_eq_nil_iff] at hd; omega
        | cons y l => exact ⟨y, l, rfl⟩
      rw [@List.drop_eq_nil_of_le _ ys _ (by omega), hy, if_neg (by omega), if_pos (by omega)]
      rfl
    · rw [@List.drop_eq_nil_of_le _ ys _ (by omega), @List.drop_eq_nil_of_le _ xs _ (by omega), if_neg (by omega), if_neg (by omega)]
      rfl
end

def cmpU (a b : UInt8) : Int := if a < b then -1 else if b < a then 1 else 0
theorem cmpU_iff (a b : UInt8) : cmpU a b = if a.toNat < b.toNat then -1 else if b.toNat < a.toNat then 1 else 0 := by
  unfold cmpU
  simp only [UInt8.lt_iff_toNat_lt]
theorem cmpU_tot : Tot cmpU where
  anti x y := by rw [cmpU_iff, cmpU_iff]; split <;> split <;> (try split) <;> omega
  same x := by rw [cmpU_iff]; simp
  eq_ x y h := by
    rw [cmpU_iff] at h
    apply UInt8.toNat.inj
    split at h
    · omega
    · split at h <;> omega
  trans x y z h1 h2 := by
    rw [cmpU_iff] at h1 h2 ⊢
    have e1 : x.toNat ≤ y.toNat := by
      split at h1
      · omega
      · split at h1 <;> omega
    have e2 : y.toNat ≤ z.toNat := by
      split at h2
      · omega
      · split at h2 <;> omega
    split
    · omega
    · rw [if_neg (by omega)]; omega
  rng x y := by
    rw [cmpU_iff]
    split
    · exact .inl rfl
    · split
      · exact .inr (.inr rfl)
      · exact .inr (.inl rfl)
theorem compareBytes_lex : ∀ a b : List UInt8, Lib.compareBytes a b = lexC cmpU a b
  | [], [] => rfl
  | [], _ :: _ => rfl
  | _ :: _, [] => rfl
  | x :: a, y :: b => by
    rw [lexC, Lib.compareBytes, compareBytes_lex a b]
    unfold cmpU
    by_cases h1 : x < y
    · rw [if_pos h1, if_pos h1, if_neg (by omega)]
    · rw [if_neg h1, if_neg h1]
      by_cases h2 : y < x
      · rw [if_pos h2, if_pos h2, if_neg (by omega)]
      · rw [if_neg h2, if_neg h2, if_pos rfl]
def cmpB (a b : List UInt8) : Int := lexC cmpU a b
theorem cmpB_tot : Tot cmpB := lexC_tot cmpU_tot

/-- A name's labels, small, the last one first. -/
def keyN (n : List (List UInt8)) : List (List UInt8) := (lowN n).reverse
theorem length_keyN (n : List (List UInt8)) : (keyN n).length = n.length := by simp [keyN, lowN]
theorem keyN_at {n : List (List UInt8)} {k : Nat} (h : k < n.length) : (keyN n)[k]'(by rw [length_keyN]; exact h) = lowL (n[n.length - 1 - k]'(by omega)) := by
  simp [keyN, lowN]
/-- How names stand to one another. -/
def cmpN (a b : List (List UInt8)) : Int := lexC cmpB (keyN a) (keyN b)
def eqN (a b : List (List UInt8)) : Bool := decide (lowN a = lowN b)
def underN (n z : List (List UInt8)) : Bool := decide (z.length ≤ n.length) && eqN (n.drop (n.length - z.length)) z
theorem cmpN_tot_self (a : List (List UInt8)) : cmpN a a = 0 := lexC_self cmpB_tot _
theorem cmpN_anti (a b : List (List UInt8)) : cmpN b a = - cmpN a b := lexC_anti cmpB_tot _ _
theorem cmpN_rng (a b : List (List UInt8)) : cmpN a b = -1 ∨ cmpN a b = 0 ∨ cmpN a b = 1 := lexC_rng cmpB_tot _ _
theorem cmpN_trans (a b c : List (List UInt8)) : cmpN a b ≤ 0 → cmpN b c ≤ 0 → cmpN a c ≤ 0 := lexC_trans cmpB_tot _ _ _
theorem cmpN_zero (a b : List (List UInt8)) : cmpN a b = 0 ↔ keyN a = keyN b :=
  ⟨lexC_eq cmpB_tot _ _, fun h => by unfold cmpN; rw [h]; exact lexC_self cmpB_tot _⟩

theorem bytesLess_cmp : ∀ x y : List UInt8, Op.bytesLess x y = decide (cmpB x y < 0)
  | [], [] => rfl
  | [], _ :: _ => rfl
  | _ :: _, [] => rfl
  | x :: xs, y :: ys => by
    have ih := bytesLess_cmp xs ys
    unfold cmpB at ih ⊢
    rw [lexC, Op.bytesLess, ih, cmpU_iff]
    by_cases h1 : x.toNat < y.toNat
    · rw [if_pos h1, if_neg (by omega)]
      have : x < y := UInt8.lt_iff_toNat_lt.2 h1
      simp [this]
    · have hn : ¬ x < y := fun h => h1 (UInt8.lt_iff_toNat_lt.1 h)
      rw [if_neg h1]
      by_cases h2 : y.toNat < x.toNat
      · rw [if_pos h2, if_neg (by omega)]
        have hne : ¬ x = y := by rintro rfl; omega
        simp [hn, hne]
      · rw [if_neg h2, if_pos rfl]
        have he : x = y := UInt8.toNat.inj (by omega)
        subst he
        simp
theorem keyN_at' {n : List (List UInt8)} {k : Nat} (h : k < n.length) : (keyN n)[k]'(by rw [length_keyN]; exact h) = lowL (n[n.length - (k + 1)]'(by omega)) := by
  rw [keyN_at h]
  congr 2
  omega
theorem key_snoc' {a b : List (List UInt8)} {k : Nat} (h : (keyN a).take k = (keyN b).take k) (ha : k < a.length) (hb : k < b.length) (e : cmpB (lowL (a[a.length - (k + 1)]'(by omega))) (lowL (b[b.length - (k + 1)]'(by omega))) = 0) :
    (keyN a).take (k + 1) = (keyN b).take (k + 1) := by
  rw [List.take_succ_eq_append_getElem (by rw [length_keyN]; exact ha), List.take_succ_eq_append_getElem (by rw [length_keyN]; exact hb), h, keyN_at' ha, keyN_at' hb, cmpB_tot.eq_ _ _ e]
theorem key_part' {a b : List (List UInt8)} {k : Nat} (h : (keyN a).take k = (keyN b).take k) (ha : k < a.length) (hb : k < b.length) (e : cmpB (lowL (a[a.length - (k + 1)]'(by omega))) (lowL (b[b.length - (k + 1)]'(by omega))) ≠ 0) :
    cmpN a b = cmpB (lowL (a[a.length - (k + 1)]'(by omega))) (lowL (b[b.length - (k + 1)]'(by omega))) := by
  unfold cmpN
  rw [lexC_at cmpB_tot h (by rw [length_keyN]; exact ha) (by rw [length_keyN]; exact hb) (by rw [keyN_at' ha, keyN_at' hb]; exact e), keyN_at' ha, keyN_at' hb]

/-! Names that differ in capital letters alone. -/
theorem szN_lowN (n : List (List UInt8)) : szN (lowN n) = szN n := by
  induction n with
  | nil => rfl
  | cons x n ih =>
    simp only [lowN, List.map_cons, szN] at ih ⊢
    rw [ih, length_lowL]
theorem szN_of_low {m a : List (List UInt8)} (h : lowN m = lowN a) : szN m = szN a := by rw [← szN_lowN m, h, szN_lowN]
theorem len_of_low {m a : List (List UInt8)} (h : lowN m = lowN a) : m.length = a.length := by rw [← length_lowN m, h, length_lowN]
theorem cmpN_of_low {m a : List (List UInt8)} (h : lowN m = lowN a) (b : List (List UInt8)) : cmpN m b = cmpN a b := by unfold cmpN keyN; rw [h]
theorem eqN_of_low {m a : List (List UInt8)} (h : lowN m = lowN a) : eqN a m = true := by unfold eqN; rw [h]; simp
theorem underN_of_low {m a : List (List UInt8)} (h : lowN m = lowN a) (b : List (List UInt8)) : underN b m = underN b a := by
  unfold underN eqN
  rw [h, len_of_low h]
theorem lowN_set {m : List (List UInt8)} {k : Nat} {l : List UInt8} (hk : k < m.length) (h : lowL l = lowL m[k]) : lowN (m.set k l) = lowN m := by
  unfold lowN
  rw [List.map_set, h]
  apply List.ext_getElem?
  intro i
  rw [List.getElem?_set]
  split
  · rename_i e; subst e
    simp [hk]
  · rfl
theorem lowL_set {l0 l : List UInt8} {j : Nat} (hj : j < l.length) (hl : lowL l = lowL l0) (h1 : 97 ≤ (l[j]).toNat) (h2 : (l[j]).toNat ≤ 122) : lowL (l.set j (l[j] - 32)) = lowL l0 := by
  rw [← hl]
  unfold lowL
  rw [List.map_set]
  have e : lowB (l[j] - 32) = lowB l[j] := by
    have h3 : (l[j] - 32).toNat = (l[j]).toNat - 32 := by
      rw [UInt8.toNat_sub_of_le]
      · rfl
      · rw [UInt8.le_iff_toNat_le]; show 32 ≤ _; omega
    rw [lowB_no (c := l[j]) (by omega)]
    apply UInt8.toNat.inj
    rw [lowB_up (by omega) (by omega)]
    omega
  rw [e]
  apply List.ext_getElem?
  intro i
  rw [List.getElem?_set]
  split
  · rename_i e; subst e
    simp [hj]
  · rfl

end Go.Proofs.YtmbcbfalgdgmjaaGreatDoor

namespace Go.Proofs.YtmbcbfalgdgmjaaGreatDoor
open Go.RowKit

def EqRel (w : World) (a b : List (List UInt8)) (i : Value) (wr : World) : Prop :=
  ∃ k : Nat, k ≤ a.length ∧ i = .int .i64 k ∧ (lowN a).take k = (lowN b).take k ∧ Below w.heap.size w wr

theorem low_snoc {a b : List (List UInt8)} {k : Nat} (h : (lowN a).take k = (lowN b).take k) (ha : k < a.length) (hb : k < b.length) (e : lowL a[k] = lowL b[k]) : (lowN a).take (k + 1) = (lowN b).take (k + 1) := by
  rw [List.take_succ_eq_append_getElem (by rw [length_lowN]; exact ha), List.take_succ_eq_append_getElem (by rw [length_lowN]; exact hb), h]
  congr 2
  simpa [lowN] using e
theorem low_part {a b : List (List UInt8)} {k : Nat} (ha : k < a.length) (hb : k < b.length) (e : lowL a[k] ≠ lowL b[k]) : eqN a b = false := by
  unfold eqN
  rw [decide_eq_false_iff_not]
  intro h
  apply e
  have h2 : (lowN a)[k]? = (lowN b)[k]? := by rw [h]
  simpa [lowN, ha, hb] using h2
theorem low_end {a b : List (List UInt8)} (h : (lowN a).take a.length = (lowN b).take a.length) (hl : a.length = b.length) : eqN a b = true := by
  unfold eqN
  rw [decide_eq_true_eq]
  rwa [List.take_of_length_le (by rw [length_lowN]; omega), List.take_of_length_le (by rw [length_lowN]; omega)] at h
theorem eqN_len {a b : List (List UInt8)} (h : a.length ≠ b.length) : eqN a b = false := by
  unfold eqN
  rw [decide_eq_false_iff_not]
  intro e
  apply h
  have := congrArg List.length e
  rwa [length_lowN, length_lowN] at this

/-- No number or length in the name is too large for any memory. -/
def WideN (n : List (List UInt8)) : Prop := n.length ≤ maxLen ∧ ∀ k (h : k < n.length), (n[k]).length ≤ maxLen
theorem wide_sz {n : List (List UInt8)} (h : szN n ≤ maxLen) : WideN n :=
  ⟨by have := length_lt_szN n; omega, fun k hk => by have := len_le_szN hk; omega⟩

end Go.Proofs.YtmbcbfalgdgmjaaGreatDoor

namespace Go.Proofs.YtmbcbfalgdgmjaaGreatDoor
open Go.RowKit

set_option maxHeartbeats 400000 in
theorem ref_equal_ne (A B : Option Addr) (c1 c2 : Nat) (a b : List (List UInt8)) (w : World) (hl : a.length ≠ b.length) :
    Calls Tryz.prog 35 #[.slice A a.length c1, .slice B b.length c2] w (Gave w (.bool (eqN a b))) := by
  have h1 : ((a.length : Int) != (b.length : Int)) = true := by rw [bne_iff_ne]; omega
  rw [eqN_len hl]
  clear hl
  go_enter Tryz.func35, Tryz.ntmps35
  go_wp2
  go_ret
  exact ⟨rfl, Below.refl _ _⟩

theorem below_draws {B : Nat} {w0 w1 w2 : World} (h1 : Below B w0 w1) (hz : B ≤ w1.heap.size) {k : Nat} (h2 : Below (w1.drewN k).heap.size (w1.drewN k) w2) : Below B w0 w2 :=
  (below_drewN' h1 k).trans (h2.mono hz)

set_option maxHeartbeats 1000000 in
theorem ref_equal_len (A B : Option Addr) (c1 c2 : Nat) (a b : List (List UInt8)) (w : World) (hA : Row w w.heap.size A (a.map sv)) (hB : Row w w.heap.size B (b.map sv))
    (hs1 : WideN a) (hs2 : WideN b) (hl : a.length = b.length) :
    Calls Tryz.prog 35 #[.slice A a.length c1, .slice B b.length c2] w (Gave w (.bool (eqN a b))) := by
  have hn1 := hs1.1
  have hn2 := hs2.1
  have HS1 := Lib.hid hs1.2
  have HS2 := Lib.hid hs2.2
  unfold maxLen at hn1 hn2
  clear hs1 hs2
  have HA := Lib.hid hA
  have HB := Lib.hid hB
  have h1 : ((a.length : Int) != (b.length : Int)) = false := by rw [hl]; simp
  have HL := Lib.hid hl
  clear hA hB hl
  go_enter Tryz.func35, Tryz.ntmps35
  go_wp2
  go_loopw [5] (EqRel w a b) (fun i _ => a.length - (intOf i).toNat)
  case atStart => exact ⟨0, Nat.zero_le _, rfl, rfl, Below.refl _ _⟩
  case round =>
    obtain ⟨k, hk, rfl, hkt, hbw⟩ := hrel
    have hz := hbw.size
    have HKT := Lib.hid hkt
    have HBW := Lib.hid hbw
    have HA1 := Lib.hid (HA.out.below hbw)
    have HB1 := Lib.hid (HB.out.below hbw)
    clear hkt hbw
    by_cases hlt : k < a.length
    · have hkb : k < b.length := by have := HL.out; omega
      obtain ⟨ba, oa, rfl, hla1, hca⟩ := HA1.out.name_at hlt
      obtain ⟨bb, ob, rfl, hlb1, hcb⟩ := HB1.out.name_at hkb
      have hza := HS1.out k hlt
      have hzb := HS2.out k hkb
      have hba : ba < wr.heap.size := by omega
      have hbb : bb < wr.heap.size := by omega
      have hk0 : (0 : Int) ≤ (k : Int) := Int.natCast_nonneg _
      have hk1 : (k : Int) < (a.length : Int) := by omega
      have hk2 : (k : Int) < (b.length : Int) := by omega
      replace HBW := Lib.hid HBW.out.drew
      by_cases he : lowL a[k] = lowL b[k]
      · have hne : (lowL a[k] == lowL b[k]) = true := by rw [he]; simp
        have HK := Lib.hid (low_snoc HKT.out hlt hkb he)
        clear he
        go_wp2
        go_region_held3 (fun w' => w'.cell? ⟨ba, oa + k, none⟩ = some (.string ⟨(a[k]).toArray⟩) ∧ w'.cell? ⟨bb, ob + k, none⟩ = some (.string ⟨(b[k]).toArray⟩))
          (first | go_keep)
          ((go_at_call 60; refine (ref_small_any _ _ (by assumption)).mono ?_; rintro e w1 ⟨rfl, hb1⟩; have hca1 := below_cells hb1 ba (oa + k) hba; have hcb1 := below_cells hb1 bb (ob + k) hbb; replace hba := Nat.lt_of_lt_of_le hba hb1.size; replace hbb := Nat.lt_of_lt_of_le hbb hb1.size; replace HBW := Lib.hid (HBW.out.trans (hb1.mono hz)); replace hz := Nat.le_trans hz hb1.size; clear hb1))
        go_wp2
        exact ⟨⟨k + 1, by omega, by go_num, HK.out, HBW.out⟩, by simp [intOf]; omega⟩
      · have hne : (lowL a[k] == lowL b[k]) = false := by rw [beq_eq_false_iff_ne]; exact he
        have HK := Lib.hid (low_part hlt hkb he)
        clear he
        go_wp2
        go_region_held3 (fun w' => w'.cell? ⟨ba, oa + k, none⟩ = some (.string ⟨(a[k]).toArray⟩) ∧ w'.cell? ⟨bb, ob + k, none⟩ = some (.string ⟨(b[k]).toArray⟩))
          (first | go_keep)
          ((go_at_call 60; refine (ref_small_any _ _ (by assumption)).mono ?_; rintro e w1 ⟨rfl, hb1⟩; have hca1 := below_cells hb1 ba (oa + k) hba; have hcb1 := below_cells hb1 bb (ob + k) hbb; replace hba := Nat.lt_of_lt_of_le hba hb1.size; replace hbb := Nat.lt_of_lt_of_le hbb hb1.size; replace HBW := Lib.hid (HBW.out.trans (hb1.mono hz)); replace hz := Nat.le_trans hz hb1.size; clear hb1))
        go_wp2
        go_ret
        exact ⟨ret_bool HK.out.symm, HBW.out⟩
    · obtain rfl : k = a.length := by omega
      have HK := Lib.hid (low_end HKT.out HL.out)
      go_wp2
      go_ret
      exact ⟨ret_bool HK.out.symm, HBW.out⟩

theorem ref_equal_wide (A B : Option Addr) (m1 m2 c1 c2 H : Nat) (a b : List (List UInt8)) (w : World) (hl1 : a.length = m1) (hl2 : b.length = m2) (hA : Row w H A (a.map sv)) (hB : Row w H B (b.map sv)) (hH : H ≤ w.heap.size)
    (hs1 : WideN a) (hs2 : WideN b) :
    Calls Tryz.prog 35 #[.slice A m1 c1, .slice B m2 c2] w (Gave w (.bool (eqN a b))) := by
  subst hl1
  subst hl2
  by_cases hl : a.length = b.length
  · exact ref_equal_len A B c1 c2 a b w (hA.mono hH) (hB.mono hH) hs1 hs2 hl
  · exact ref_equal_ne A B c1 c2 a b w hl

theorem ref_equal_any (A B : Option Addr) (m1 m2 c1 c2 H : Nat) (a b : List (List UInt8)) (w : World) (hl1 : a.length = m1) (hl2 : b.length = m2) (hA : Row w H A (a.map sv)) (hB : Row w H B (b.map sv)) (hH : H ≤ w.heap.size)
    (hs1 : szN a ≤ maxLen) (hs2 : szN b ≤ maxLen) :
    Calls Tryz.prog 35 #[.slice A m1 c1, .slice B m2 c2] w (Gave w (.bool (eqN a b))) :=
  ref_equal_wide A B m1 m2 c1 c2 H a b w hl1 hl2 hA hB hH (wide_sz hs1) (wide_sz hs2)

end Go.Proofs.YtmbcbfalgdgmjaaGreatDoor

namespace Go.Proofs.YtmbcbfalgdgmjaaGreatDoor
open Go.RowKit

theorem take_eq_snocI {xs ys : List Int} {k : Nat} (h : xs.take k = ys.take k) (hx : k < xs.length) (hy : k < ys.length) (e : xs[k] = ys[k]) : xs.take (k + 1) = ys.take (k + 1) := by
  rw [List.take_succ_eq_append_getElem hx, List.take_succ_eq_append_getElem hy, h, e]
def IntsRel (w : World) (xs ys : List Int) (i : Value) (wr : World) : Prop := ∃ k : Nat, k ≤ xs.length ∧ i = .int .i64 k ∧ xs.take k = ys.take k ∧ ∃ j, wr = w.drewN j

set_option maxHeartbeats 400000 in
theorem ints_ne (A B : Option Addr) (n m c d : Nat) (w : World) (h : n ≠ m) :
    Calls Tryz.prog 62 #[.slice A n c, .slice B m d] w (Drewn w (.bool false)) := by
  have h1 : ((n : Int) != (m : Int)) = true := by rw [bne_iff_ne]; omega
  go_enter Tryz.func62, Tryz.ntmps62
  go_wp2
  go_ret
  exact ⟨rfl, 0, rfl⟩

set_option maxHeartbeats 400000 in
theorem ints_len (A B : Option Addr) (n c d H : Nat) (xs ys : List Int) (w : World) (hx : xs.length = n) (hy : ys.length = n) (hA : Row w H A (xs.map zv)) (hB : Row w H B (ys.map zv)) (hm : n ≤ maxLen) :
    Calls Tryz.prog 62 #[.slice A n c, .slice B n d] w (Drewn w (.bool (decide (xs = ys)))) := by
  unfold maxLen at hm
  have h1 : ((n : Int) != (n : Int)) = false := by simp
  have HX := Lib.hid hx
  have HY := Lib.hid hy
  have HA := Lib.hid hA
  have HB := Lib.hid hB
  clear hx hy hA hB
  go_enter Tryz.func62, Tryz.ntmps62
  go_wp2
  go_loopw [5] (IntsRel w xs ys) (fun i _ => n - (intOf i).toNat)
  case atStart => exact ⟨0, by omega, rfl, by simp, 0, rfl⟩
  case round =>
    obtain ⟨k, hk, rfl, hkt, j, rfl⟩ := hrel
    have HKT := Lib.hid hkt
    clear hkt
    by_cases hlt : k < n
    · have hkx : k < xs.length := by rw [HX.out]; exact hlt
      have hky : k < ys.length := by rw [HY.out]; exact hlt
      obtain ⟨b, off, rfl, _, hca⟩ := HA.out.int_at hkx
      obtain ⟨b', off', rfl, _, hcb⟩ := HB.out.int_at hky
      by_cases he : xs[k] = ys[k]
      · have HE := Lib.hid he
        have hne : (xs[k] != ys[k]) = false := by rw [he]; simp
        clear he
        go_wp2
        go_quiet (fail)
        go_wp2
        refine ⟨⟨k + 1, by rw [HX.out]; omega, by go_num, take_eq_snocI HKT.out hkx hky HE.out, _, rfl⟩, by simp [intOf]; omega⟩
      · have HE := Lib.hid he
        have hne : (xs[k] != ys[k]) = true := by rw [bne_iff_ne]; exact he
        have hf : decide (xs = ys) = false := by
          rw [decide_eq_false_iff_not]; rintro rfl; exact he rfl
        have HF := Lib.hid hf
        clear he hf
        go_wp2
        go_quiet (fail)
        go_wp2
        go_ret
        exact ⟨by rw [HF.out]; rfl, j + nq, by rw [World.drewN_drewN]⟩
    · obtain rfl : k = n := by have := HX.out; omega
      have ht : decide (xs = ys) = true := by
        rw [decide_eq_true_eq]
        have := HKT.out
        rwa [List.take_of_length_le (by rw [HX.out]; omega), List.take_of_length_le (by rw [HY.out]; omega)] at this
      have HF := Lib.hid ht
      clear ht
      go_wp2
      go_ret
      exact ⟨by rw [HF.out]; rfl, _, rfl⟩

theorem ints_any (A B : Option Addr) (n m c d H : Nat) (xs ys : List Int) (w : World) (hx : xs.length = n) (hy : ys.length = m) (hA : Row w H A (xs.map zv)) (hB : Row w H B (ys.map zv)) (hm : n ≤ maxLen) :
    Calls Tryz.prog 62 #[.slice A n c, .slice B m d] w (Drewn w (.bool (decide (xs = ys)))) := by
  by_cases h : n = m
  · subst h
    exact ints_len A B n c d H xs ys w hx hy hA hB hm
  · have hf : decide (xs = ys) = false := by
      rw [decide_eq_false_iff_not]; rintro rfl; omega
    rw [hf]
    exact ints_ne A B n m c d w h

theorem rtexts_any (A B : Option Addr) (n m c d H : Nat) (xs ys : List (List UInt8)) (w : World) (hx : xs.length = n) (hy : ys.length = m) (hA : Row w H A (xs.map sv)) (hB : Row w H B (ys.map sv)) (hm : n ≤ maxLen) :
    Calls Tryz.prog 63 #[.slice A n c, .slice B m d] w (Drewn w (.bool (decide (xs = ys)))) := by
  have HC := Lib.hid (exact_any A B n m c d H xs ys w hx hy hA hB hm)
  clear hA hB hx hy
  go_enter Tryz.func63, Tryz.ntmps63
  go_wp2_with fail
  refine HC.out.mono ?_
  rintro e w' ⟨rfl, k, rfl⟩
  go_wp2
  go_ret
  exact ⟨rfl, k, rfl⟩

end Go.Proofs.YtmbcbfalgdgmjaaGreatDoor

namespace Go.Proofs.YtmbcbfalgdgmjaaGreatDoor
open Go.RowKit

/-- Does data say the same? -/
def sameD (a b : Dt) : Bool := decide (a.bytes = b.bytes) && (decide (a.nums = b.nums) && (decide (a.texts = b.texts) && (eqN a.host b.host && eqN a.mail b.mail)))
/-- Names are not too large to be held one against the other. -/
structure Sized (d : Dt) : Prop where
  h : szN d.host ≤ maxLen
  m : szN d.mail ≤ maxLen
  t : d.texts.length ≤ maxLen
/-- No length in it is too large for any memory. -/
structure Wide (d : Dt) : Prop where
  h : WideN d.host
  m : WideN d.mail
  t : d.texts.length ≤ maxLen
theorem Sized.wide {d : Dt} (h : Sized d) : Wide d := ⟨wide_sz h.h, wide_sz h.m, h.t⟩
theorem gave_told {w : World} {v : Value} {e : Ending} {w' : World} (h : Told w v e w') : Gave w v e w' := ⟨h.1, h.2 ▸ Below.refl _ _⟩
theorem gave_drewn {w : World} {v : Value} {e : Ending} {w' : World} (h : Drewn w v e w') : Gave w v e w' := by
  obtain ⟨h1, k, rfl⟩ := h
  exact ⟨h1, below_drewN' (Below.refl _ _) k⟩
/-- Two boxes of data. -/
structure Boxes (w : World) (x y : DV) (a b : Dt) (W : World) : Prop where
  ba : Whole W w.heap.size 34 [x.vb a, x.vh a, x.vm a, x.vn a, x.vt a]
  bb : Whole W (w.heap.size + 1) 34 [y.vb b, y.vh b, y.vm b, y.vn b, y.vt b]
  da : DataAt W w.heap.size x a
  db : DataAt W w.heap.size y b
  below : Below w.heap.size w W
  size : w.heap.size + 2 ≤ W.heap.size
theorem Boxes.step {w : World} {x y : DV} {a b : Dt} {W W' : World} (h : Boxes w x y a b W) (hb : Below W.heap.size W W') : Boxes w x y a b W' :=
  ⟨h.ba.below hb h.ba.lt, h.bb.below hb h.bb.lt, h.da.below (hb.mono (by have := h.size; omega)), h.db.below (hb.mono (by have := h.size; omega)), h.below.trans (hb.mono (by have := h.size; omega)), Nat.le_trans h.size hb.size⟩
theorem Boxes.stepB {w : World} {x y : DV} {a b : Dt} {W W' : World} (h : Boxes w x y a b W) (hb : Below (w.heap.size + 2) W W') : Boxes w x y a b W' :=
  ⟨h.ba.below hb (by omega), h.bb.below hb (by omega), h.da.below (hb.mono (by omega)), h.db.below (hb.mono (by omega)), h.below.trans (hb.mono (by omega)), Nat.le_trans h.size hb.size⟩
theorem Boxes.atA {w : World} {x y : DV} {a b : Dt} {W : World} (h : Boxes w x y a b W) : DataAt W W.heap.size x a := h.da.mono (by have := h.size; omega)
theorem Boxes.atB {w : World} {x y : DV} {a b : Dt} {W : World} (h : Boxes w x y a b W) : DataAt W W.heap.size y b := h.db.mono (by have := h.size; omega)
theorem Boxes.made {w : World} {x y : DV} {a b : Dt} (ha : DataAt w w.heap.size x a) (hb : DataAt w w.heap.size y b) :
    Boxes w x y a b ((w.alloc (.cells #[x.vb a, x.vh a, x.vm a, x.vn a, x.vt a] 34)).alloc (.cells #[y.vb b, y.vh b, y.vm b, y.vn b, y.vt b] 34)) := by
  have hz : (w.alloc (.cells #[x.vb a, x.vh a, x.vm a, x.vn a, x.vt a] 34)).heap.size = w.heap.size + 1 := by simp
  refine ⟨(Whole.made w [x.vb a, x.vh a, x.vm a, x.vn a, x.vt a] _).alloc _, ?_, (ha.alloc (Nat.le_refl _) _).alloc (by simp) _, (hb.alloc (Nat.le_refl _) _).alloc (by simp) _, ((Below.refl _ _).alloc (Nat.le_refl _) _).alloc (by simp) _, by simp⟩
  have := Whole.made (w.alloc (.cells #[x.vb a, x.vh a, x.vm a, x.vn a, x.vt a] 34)) [y.vb b, y.vh b, y.vm b, y.vn b, y.vt b] 34
  rw [hz] at this
  exact this

set_option maxRecDepth 4000 in
set_option maxHeartbeats 2000000 in
theorem ref_dsame_wide (x y : DV) (a b : Dt) (w : World) (hx : DataAt w w.heap.size x a) (hy : DataAt w w.heap.size y b) (la : Wide a) (lb : Wide b) :
    Calls Tryz.prog 36 #[x.val a, y.val b] w (Gave w (.bool (sameD a b))) := by
  have k1 : a.bytes.length ≤ maxLen := Nat.le_trans hx.lb hx.kb
  have k2 : a.nums.length ≤ maxLen := Nat.le_trans hx.ln hx.kn
  have HC1 := Lib.hid (fun W (h : Boxes w x y a b W) => same_any x.Ab y.Ab a.bytes.length b.bytes.length x.cb y.cb w.heap.size a.bytes b.bytes W rfl rfl h.da.b h.db.b k1)
  have HC2 := Lib.hid (fun W (h : Boxes w x y a b W) => ints_any x.An y.An a.nums.length b.nums.length x.cn y.cn w.heap.size a.nums b.nums W rfl rfl h.da.n h.db.n k2)
  have HC3 := Lib.hid (fun W (h : Boxes w x y a b W) => rtexts_any x.At y.At a.texts.length b.texts.length x.ct y.ct w.heap.size a.texts b.texts W rfl rfl h.da.t h.db.t la.t)
  have HC4 := Lib.hid (fun W (h : Boxes w x y a b W) => ref_equal_wide x.Ah y.Ah a.host.length b.host.length x.ch y.ch w.heap.size a.host b.host W rfl rfl h.da.h h.db.h (Nat.le_trans (Nat.le_add_right _ 2) h.size) la.h lb.h)
  have HC5 := Lib.hid (fun W (h : Boxes w x y a b W) => ref_equal_wide x.Am y.Am a.mail.length b.mail.length x.cm y.cm w.heap.size a.mail b.mail W rfl rfl h.da.m h.db.m (Nat.le_trans (Nat.le_add_right _ 2) h.size) la.m lb.m)
  have HX := Lib.hid (Boxes.made hx hy)
  have HS := Lib.hid (show sameD a b = (decide (a.bytes = b.bytes) && (decide (a.nums = b.nums) && (decide (a.texts = b.texts) && (eqN a.host b.host && eqN a.mail b.mail)))) from rfl)
  clear k1 k2 hx hy la lb
  go_enter Tryz.func36, Tryz.ntmps36
  go_wp2_with fail
  obtain ⟨W0, hW0⟩ : ∃ W0, W0 = (w.alloc (.cells #[.slice x.Ab a.bytes.length x.cb, .slice x.Ah a.host.length x.ch, .slice x.Am a.mail.length x.cm, .slice x.An a.nums.length x.cn, .slice x.At a.texts.length x.ct] 34)).alloc (.cells #[.slice y.Ab b.bytes.length y.cb, .slice y.Ah b.host.length y.ch, .slice y.Am b.mail.length y.cm, .slice y.An b.nums.length y.cn, .slice y.At b.texts.length y.ct] 34) := ⟨_, rfl⟩
  rw [← hW0]
  have hx0 : Boxes w x y a b W0 := by rw [hW0]; exact HX.out
  clear HX hW0
  refine (HC1.out W0 hx0).mono ?_
  intro e W1 hO
  obtain ⟨he, hb⟩ := gave_drewn hO
  have hx1 := hx0.step hb
  clear hO hb hx0
  cases hv : decide (a.bytes = b.bytes) with
  | false =>
    rw [hv] at he HS
    subst he
    have HB := Lib.hid hx1.below
    clear hx1
    go_wp2
    go_ret
    exact ⟨by rw [HS.out]; rfl, HB.out⟩
  | true =>
  rw [hv] at he HS
  subst he
  have p3 : W1.cell? ⟨w.heap.size, 3, none⟩ = some (.slice x.An a.nums.length x.cn) := hx1.ba.cell 3
  have q3 : W1.cell? ⟨w.heap.size + 1, 3, none⟩ = some (.slice y.An b.nums.length y.cn) := hx1.bb.cell 3
  go_wp2_with fail
  refine (HC2.out W1 hx1).mono ?_
  intro e W2 hO
  obtain ⟨he, hb⟩ := gave_drewn hO
  have hx2 := hx1.step hb
  clear hO hb hx1 p3 q3
  cases hv : decide (a.nums = b.nums) with
  | false =>
    rw [hv] at he HS
    subst he
    have HB := Lib.hid hx2.below
    clear hx2
    go_wp2
    go_ret
    exact ⟨by rw [HS.out]; rfl, HB.out⟩
  | true =>
  rw [hv] at he HS
  subst he
  have p4 : W2.cell? ⟨w.heap.size, 4, none⟩ = some (.slice x.At a.texts.length x.ct) := hx2.ba.cell 4
  have q4 : W2.cell? ⟨w.heap.size + 1, 4, none⟩ = some (.slice y.At b.texts.length y.ct) := hx2.bb.cell 4
  go_wp2_with fail
  refine (HC3.out W2 hx2).mono ?_
  intro e W3 hO
  obtain ⟨he, hb⟩ := gave_drewn hO
  have hx3 := hx2.step hb
  clear hO hb hx2 p4 q4
  cases hv : decide (a.texts = b.texts) with
  | false =>
    rw [hv] at he HS
    subst he
    have HB := Lib.hid hx3.below
    clear hx3
    go_wp2
    go_ret
    exact ⟨by rw [HS.out]; rfl, HB.out⟩
  | true =>
  rw [hv] at he HS
  subst he
  have p1 : W3.cell? ⟨w.heap.size, 1, none⟩ = some (.slice x.Ah a.host.length x.ch) := hx3.ba.cell 1
  have q1 : W3.cell? ⟨w.heap.size + 1, 1, none⟩ = some (.slice y.Ah b.host.length y.ch) := hx3.bb.cell 1
  go_wp2_with fail
  refine (HC4.out W3 hx3).mono ?_
  intro e W4 hO
  obtain ⟨he, hb⟩ := hO
  have hx4 := hx3.step hb
  clear hb hx3 p1 q1
  cases hv : eqN a.host b.host with
  | false =>
    rw [hv] at he HS
    subst he
    have HB := Lib.hid hx4.below
    clear hx4
    go_wp2
    go_ret
    exact ⟨by rw [HS.out]; rfl, HB.out⟩
  | true =>
  rw [hv] at he HS
  subst he
  have p2 : W4.cell? ⟨w.heap.size, 2, none⟩ = some (.slice x.Am a.mail.length x.cm) := hx4.ba.cell 2
  have q2 : W4.cell? ⟨w.heap.size + 1, 2, none⟩ = some (.slice y.Am b.mail.length y.cm) := hx4.bb.cell 2
  go_wp2_with fail
  refine (HC5.out W4 hx4).mono ?_
  intro e W5 hO
  obtain ⟨he, hb⟩ := hO
  have hx5 := hx4.step hb
  clear hb hx4 p2 q2
  subst he
  have HB := Lib.hid hx5.below
  clear hx5
  go_wp2
  go_ret
  refine ⟨?_, HB.out⟩
  rw [HS.out]
  simp

theorem ref_dsame_any (x y : DV) (a b : Dt) (w : World) (hx : DataAt w w.heap.size x a) (hy : DataAt w w.heap.size y b) (la : Sized a) (lb : Sized b) :
    Calls Tryz.prog 36 #[x.val a, y.val b] w (Gave w (.bool (sameD a b))) := ref_dsame_wide x y a b w hx hy la.wide lb.wide

end Go.Proofs.YtmbcbfalgdgmjaaGreatDoor

namespace Go.Proofs.YtmbcbfalgdgmjaaGreatDoor
open Go.RowKit

/-- A record. -/
structure Rt where
  name : List (List UInt8)
  kind : Int
  cls : Int
  ttl : Int
  data : Dt
/-- Where its slices lie, and what room they have. -/
structure RV where
  A : Option Addr
  c : Nat
  d : DV
abbrev RV.vn (x : RV) (r : Rt) : Value := .slice x.A r.name.length x.c
/-- Its cells. -/
def cellsR (p : RV × Rt) : List Value := [.slice p.1.A p.2.name.length p.1.c, .int .i64 p.2.kind, .int .i64 p.2.cls, .int .i64 p.2.ttl, .slice p.1.d.Ab p.2.data.bytes.length p.1.d.cb, .slice p.1.d.Ah p.2.data.host.length p.1.d.ch, .slice p.1.d.Am p.2.data.mail.length p.1.d.cm, .slice p.1.d.An p.2.data.nums.length p.1.d.cn, .slice p.1.d.At p.2.data.texts.length p.1.d.ct]
def cellsD (p : DV × Dt) : List Value := [.slice p.1.Ab p.2.bytes.length p.1.cb, .slice p.1.Ah p.2.host.length p.1.ch, .slice p.1.Am p.2.mail.length p.1.cm, .slice p.1.An p.2.nums.length p.1.cn, .slice p.1.At p.2.texts.length p.1.ct]
/-- The value. -/
abbrev RV.val (x : RV) (r : Rt) : Value := .agg #[.slice x.A r.name.length x.c, .int .i64 r.kind, .int .i64 r.cls, .int .i64 r.ttl, .slice x.d.Ab r.data.bytes.length x.d.cb, .slice x.d.Ah r.data.host.length x.d.ch, .slice x.d.Am r.data.mail.length x.d.cm, .slice x.d.An r.data.nums.length x.d.cn, .slice x.d.At r.data.texts.length x.d.ct]



/-- In the world w the slices x read as r, below H. -/
structure RAt (w : World) (H : Nat) (x : RV) (r : Rt) : Prop where
  n : Row w H x.A (r.name.map sv)
  l : r.name.length ≤ x.c
  d : DataAt w H x.d r.data
section
variable {w w' : World} {H H' : Nat} {x : RV} {r : Rt}
theorem RAt.below (h : RAt w H x r) (hb : Below H w w') : RAt w' H x r := ⟨h.n.below hb, h.l, h.d.below hb⟩
theorem RAt.mono (h : RAt w H x r) (hb : H ≤ H') : RAt w H' x r := ⟨h.n.mono hb, h.l, h.d.mono hb⟩
end

/-- From A on the world holds records; each of their slices reads. -/
def RsAt (w : World) (H : Nat) (A : Option Addr) (ps : List (RV × Rt)) : Prop := Row w H A (ps.flatMap cellsR) ∧ ∀ p ∈ ps, RAt w H p.1 p.2
/-- The same of data. -/
def DsAt (w : World) (H : Nat) (A : Option Addr) (ps : List (DV × Dt)) : Prop := Row w H A (ps.flatMap cellsD) ∧ ∀ p ∈ ps, DataAt w H p.1 p.2
section
variable {w w' : World} {H H' : Nat} {A : Option Addr}
theorem RsAt.below {ps : List (RV × Rt)} (h : RsAt w H A ps) (hb : Below H w w') : RsAt w' H A ps := ⟨h.1.below hb, fun p hp => (h.2 p hp).below hb⟩
theorem RsAt.mono {ps : List (RV × Rt)} (h : RsAt w H A ps) (hb : H ≤ H') : RsAt w H' A ps := ⟨h.1.mono hb, fun p hp => (h.2 p hp).mono hb⟩
theorem DsAt.below {ps : List (DV × Dt)} (h : DsAt w H A ps) (hb : Below H w w') : DsAt w' H A ps := ⟨h.1.below hb, fun p hp => (h.2 p hp).below hb⟩
theorem DsAt.mono {ps : List (DV × Dt)} (h : DsAt w H A ps) (hb : H ≤ H') : DsAt w H' A ps := ⟨h.1.mono hb, fun p hp => (h.2 p hp).mono hb⟩
theorem DsAt.nil (w : World) (H : Nat) (A : Option Addr) : DsAt w H A [] := ⟨Row.empty _ _ _, fun _ h => absurd h (List.not_mem_nil)⟩
end

theorem flat_get {α : Type} {f : α → List Value} {k : Nat} (hf : ∀ p, (f p).length = k) : ∀ (ps : List α) (i j : Nat) (hi : i < ps.length), j < k → (ps.flatMap f)[i * k + j]? = (f ps[i])[j]?
  | [], i, j, hi, _ => absurd hi (Nat.not_lt_zero _)
  | p :: ps, 0, j, _, hj => by
    rw [List.flatMap_cons, Nat.zero_mul, Nat.zero_add, List.getElem?_append_left (by rw [hf]; exact hj)]
    rfl
  | p :: ps, i + 1, j, hi, hj => by
    rw [List.flatMap_cons, List.getElem?_append_right (by rw [hf, Nat.succ_mul]; omega), hf]
    have h := flat_get hf ps i j (by simpa using hi) hj
    rw [show (i + 1) * k + j - k = i * k + j by rw [Nat.succ_mul]; omega]
    simpa using h
theorem length_flat {α : Type} {f : α → List Value} {k : Nat} (hf : ∀ p, (f p).length = k) : ∀ ps : List α, (ps.flatMap f).length = ps.length * k
  | [] => by simp
  | p :: ps => by rw [List.flatMap_cons, List.length_append, hf, length_flat hf ps, List.length_cons, Nat.succ_mul, Nat.add_comm]
theorem Row.part {α : Type} {f : α → List Value} {k : Nat} (hf : ∀ p, (f p).length = k) (hk : 0 < k) {w : World} {H : Nat} {A : Option Addr} {ps : List α} (h : Row w H A (ps.flatMap f)) {i : Nat} (hi : i < ps.length) :
    ∃ b off, A = some ⟨b, off, none⟩ ∧ b < H ∧ ∀ j v, (f ps[i])[j]? = some v → w.cell? ⟨b, off + i * k + j, none⟩ = some v := by
  obtain ⟨b, off, e, hb, hc⟩ := h.some_ (by
    rw [length_flat hf]
    exact Nat.mul_pos (by omega) hk)
  refine ⟨b, off, e, hb, fun j v hv => ?_⟩
  have hj : j < k := by
    have := (List.getElem?_eq_some_iff.1 hv).1
    rwa [hf] at this
  have h1 := hc (i * k + j) v (by rw [flat_get hf ps i j hi hj]; exact hv)
  rwa [← Nat.add_assoc] at h1
theorem cellsR_len (p : RV × Rt) : (cellsR p).length = 9 := rfl
theorem cellsD_len (p : DV × Dt) : (cellsD p).length = 5 := rfl
theorem cellsR_one (ps : List (RV × Rt)) : ∀ u ∈ ps.flatMap cellsR, u.oneCell' = true := by
  intro u hu
  obtain ⟨p, _, hp⟩ := List.mem_flatMap.1 hu
  simp only [cellsR, List.mem_cons, List.not_mem_nil, or_false] at hp
  rcases hp with rfl | rfl | rfl | rfl | rfl | rfl | rfl | rfl | rfl <;> rfl
theorem cellsD_one (ps : List (DV × Dt)) : ∀ u ∈ ps.flatMap cellsD, u.oneCell' = true := by
  intro u hu
  obtain ⟨p, _, hp⟩ := List.mem_flatMap.1 hu
  simp only [cellsD, List.mem_cons, List.not_mem_nil, or_false] at hp
  rcases hp with rfl | rfl | rfl | rfl | rfl <;> rfl

/-- The data number i of a list. -/
theorem DsAt.at_ {w : World} {H : Nat} {A : Option Addr} {ps : List (DV × Dt)} (h : DsAt w H A ps) {i : Nat} (hi : i < ps.length) :
    ∃ b off, A = some ⟨b, off, none⟩ ∧ b < H ∧ DataAt w H (ps[i]).1 (ps[i]).2 ∧ w.cell? ⟨b, off + i * 5, none⟩ = some ((ps[i]).1.vb (ps[i]).2) ∧ w.cell? ⟨b, off + i * 5 + 1, none⟩ = some ((ps[i]).1.vh (ps[i]).2) ∧
      w.cell? ⟨b, off + i * 5 + 2, none⟩ = some ((ps[i]).1.vm (ps[i]).2) ∧ w.cell? ⟨b, off + i * 5 + 3, none⟩ = some ((ps[i]).1.vn (ps[i]).2) ∧ w.cell? ⟨b, off + i * 5 + 4, none⟩ = some ((ps[i]).1.vt (ps[i]).2) := by
  obtain ⟨b, off, e, hb, hc⟩ := h.1.part cellsD_len (by omega) hi
  exact ⟨b, off, e, hb, h.2 _ (List.getElem_mem hi), hc 0 _ rfl, hc 1 _ rfl, hc 2 _ rfl, hc 3 _ rfl, hc 4 _ rfl⟩
/-- The record number i of a list. -/
theorem RsAt.at_ {w : World} {H : Nat} {A : Option Addr} {ps : List (RV × Rt)} (h : RsAt w H A ps) {i : Nat} (hi : i < ps.length) :
    ∃ b off, A = some ⟨b, off, none⟩ ∧ b < H ∧ RAt w H (ps[i]).1 (ps[i]).2 ∧ w.cell? ⟨b, off + i * 9, none⟩ = some ((ps[i]).1.vn (ps[i]).2) ∧ w.cell? ⟨b, off + i * 9 + 1, none⟩ = some (.int .i64 (ps[i]).2.kind) ∧
      w.cell? ⟨b, off + i * 9 + 2, none⟩ = some (.int .i64 (ps[i]).2.cls) ∧ w.cell? ⟨b, off + i * 9 + 3, none⟩ = some (.int .i64 (ps[i]).2.ttl) ∧
      w.cell? ⟨b, off + i * 9 + 4, none⟩ = some ((ps[i]).1.d.vb (ps[i]).2.data) ∧ w.cell? ⟨b, off + i * 9 + 5, none⟩ = some ((ps[i]).1.d.vh (ps[i]).2.data) ∧
      w.cell? ⟨b, off + i * 9 + 6, none⟩ = some ((ps[i]).1.d.vm (ps[i]).2.data) ∧ w.cell? ⟨b, off + i * 9 + 7, none⟩ = some ((ps[i]).1.d.vn (ps[i]).2.data) ∧ w.cell? ⟨b, off + i * 9 + 8, none⟩ = some ((ps[i]).1.d.vt (ps[i]).2.data) := by
  obtain ⟨b, off, e, hb, hc⟩ := h.1.part cellsR_len (by omega) hi
  exact ⟨b, off, e, hb, h.2 _ (List.getElem_mem hi), hc 0 _ rfl, hc 1 _ rfl, hc 2 _ rfl, hc 3 _ rfl, hc 4 _ rfl, hc 5 _ rfl, hc 6 _ rfl, hc 7 _ rfl, hc 8 _ rfl⟩

/-- The records as lists. -/
def recs (ps : List (RV × Rt)) : List Rt := ps.map (·.2)
def dats (ps : List (DV × Dt)) : List Dt := ps.map (·.2)
theorem length_recs (ps : List (RV × Rt)) : (recs ps).length = ps.length := by simp [recs]
theorem length_dats (ps : List (DV × Dt)) : (dats ps).length = ps.length := by simp [dats]
theorem recs_append (ps qs : List (RV × Rt)) : recs (ps ++ qs) = recs ps ++ recs qs := by simp [recs]
theorem dats_append (ps qs : List (DV × Dt)) : dats (ps ++ qs) = dats ps ++ dats qs := by simp [dats]
theorem take_recs (ps : List (RV × Rt)) (k : Nat) : (recs ps).take k = recs (ps.take k) := by simp [recs]

/-- Numbers that a variable holds, lengths that memory holds. -/
structure RIn (r : Rt) : Prop where
  n : WideN r.name
  k : (Lit.int .i64 r.kind).wf = true
  c : (Lit.int .i64 r.cls).wf = true
  t : (Lit.int .i64 r.ttl).wf = true
  d : Wide r.data
  lt : ∀ k (h : k < r.data.texts.length), (r.data.texts[k]).length ≤ maxLen
  nm : ∀ n ∈ r.data.nums, (Lit.int .i64 n).wf = true

end Go.Proofs.YtmbcbfalgdgmjaaGreatDoor

namespace Go.Proofs.YtmbcbfalgdgmjaaGreatDoor
open Go.RowKit

set_option maxHeartbeats 400000 in
theorem eqbytes_any (A B : Option Addr) (n m c d H : Nat) (xs ys : List UInt8) (w : World) (hx : xs.length = n) (hy : ys.length = m) (hA : Row w H A (xs.map bc)) (hB : Row w H B (ys.map bc)) :
    Calls Tryz.prog 105 #[.slice A n c, .slice B m d] w (Told w (.bool (decide (xs = ys)))) := by
  have h1 := convert_row_run (P := Tryz.prog) w 31 9 5 Tryz.underlying31 Tryz.underlying5 Tryz.underlying9 A n c H xs hx hA
  have h2 := convert_row_run (P := Tryz.prog) w 31 9 5 Tryz.underlying31 Tryz.underlying5 Tryz.underlying9 B m d H ys hy hB
  by_cases he : xs = ys
  · have hne : (xs == ys) = true := by rw [beq_iff_eq]; exact he
    have HF := Lib.hid (show decide (xs = ys) = true by rw [decide_eq_true_eq]; exact he)
    clear he hA hB hx hy
    go_enter Tryz.func105, Tryz.ntmps105
    go_wp2
    go_ret
    exact ⟨by rw [HF.out]; rfl, rfl⟩
  · have hne : (xs == ys) = false := by rw [beq_eq_false_iff_ne]; exact he
    have HF := Lib.hid (show decide (xs = ys) = false by rw [decide_eq_false_iff_not]; exact he)
    clear he hA hB hx hy
    go_enter Tryz.func105, Tryz.ntmps105
    go_wp2
    go_ret
    exact ⟨by rw [HF.out]; rfl, rfl⟩

end Go.Proofs.YtmbcbfalgdgmjaaGreatDoor

namespace Go.Proofs.YtmbcbfalgdgmjaaGreatDoor
open Go.RowKit

set_option maxHeartbeats 400000 in
theorem small_any (l : List UInt8) (w : World) (hm : l.length ≤ maxLen) :
    Calls Tryz.prog 100 #[.string ⟨l.toArray⟩] w (Gave w (.string ⟨(lowL l).toArray⟩)) := by
  unfold maxLen at hm
  go_enter Tryz.func100, Tryz.ntmps100
  go_wp2_with (refine wpList_bytes rfl (.tmp 6) 9 31 5 rfl Tryz.underlying9 Tryz.underlying31 Tryz.underlying5 l rfl ?_; intro C w1 hC hM1 hB1 hz1)
  have HM := Lib.hid hM1
  have HB := Lib.hid hB1
  have HZ := Lib.hid hz1
  clear hM1 hB1 hz1
  obtain ⟨Z, hZ⟩ : ∃ Z, Z = zerosL (.int .u8 0) (C - l.length) := ⟨_, rfl⟩
  rw [← hZ] at HM
  clear hZ
  go_loopw [10] (SmallRel w l Z) (fun i _ => l.length - (intOf i).toNat)
  case atStart => exact ⟨0, Nat.zero_le _, rfl, by rw [lowUpto_zero]; exact HM.out, HB.out⟩
  case round =>
    obtain ⟨k, hk, rfl, hmk, hbk⟩ := hrel
    have HMK := Lib.hid hmk
    have HBK := Lib.hid hbk
    clear hmk hbk
    by_cases hlt : k < l.length
    · have hc : wr.cell? ⟨w.heap.size, k, none⟩ = some (.int .u8 (l[k]).toNat) := (HMK.out.cell k).trans (lowUpto_at Z hlt)
      have hf : wr.frozen? ⟨w.heap.size, k, none⟩ = false := HMK.out.frozen (by rw [length_lowUpto]; omega)
      have hlt8 := (l[k]).toNat_lt
      by_cases h1 : 65 ≤ (l[k]).toNat
      · by_cases h2 : (l[k]).toNat ≤ 90
        · have HU := Lib.hid (lowB_up h1 h2)
          go_wp2
          refine ⟨⟨k + 1, by omega, by go_num, ?_, ?_⟩, by simp [intOf]; omega⟩
          · rw [lowUpto_succ Z hlt, bc, HU.out]
            have h := HMK.out.set_ k (.int .u8 (((l[k]).toNat + 32 : Nat) : Int))
            rw [show ((l[k]).toNat : Int) - 65 + 97 = (((l[k]).toNat + 32 : Nat) : Int) from by omega]
            exact h
          · exact HBK.out.setCell (Nat.le_refl _) _
        · have HU := Lib.hid (lowUpto_same Z hlt (lowB_no (by omega)))
          go_wp2
          exact ⟨⟨k + 1, by omega, by go_num, by rw [HU.out]; exact HMK.out, HBK.out⟩, by simp [intOf]; omega⟩
      · have HU := Lib.hid (lowUpto_same Z hlt (lowB_no (by omega)))
        go_wp2
        exact ⟨⟨k + 1, by omega, by go_num, by rw [HU.out]; exact HMK.out, HBK.out⟩, by simp [intOf]; omega⟩
    · obtain rfl : k = l.length := by omega
      have hr := HMK.out.row.take l.length
      rw [lowUpto_all] at hr
      have hcv := convert_row_run (P := Tryz.prog) wr 31 9 5 Tryz.underlying31 Tryz.underlying5 Tryz.underlying9 _ l.length C _ (lowL l) (length_lowL l) hr
      clear hr
      go_wp2
      go_ret
      exact ⟨rfl, HBK.out⟩

end Go.Proofs.YtmbcbfalgdgmjaaGreatDoor
