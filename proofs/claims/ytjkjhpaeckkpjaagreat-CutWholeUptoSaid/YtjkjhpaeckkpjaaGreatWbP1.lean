/-
  Plain mathematics: numbers as bytes, the highest byte first. No program is imported.
-/
import Derived.WalkKit
import Derived.WalkSpells
import Derived.WalkLawsBesides
import Derived.Laws.AppendOwnNone
import Derived.Laws.CopyOwn
import Derived.Maps.AppendAt
import Derived.Laws.BytesArg
import Derived.Deep.Draws
import Derived.Deep.QuietTactic
import Derived.BigQuiet
import Derived.Lib.Hide
import Derived.Test.YtjkjhpaeckkpjaaGreatRows
import Derived.ProofKit
import Derived.SizedLaws
import Derived.Carry
import Derived.Test.YtjkjhpaeckkpjaaGreatProg
import Derived.Laws.IdiomStrings
import Derived.SliceStrings
import Derived.Deep.Slices
import Derived.Deep.Grids
import Derived.Lib.Bytealg
import Derived.Maps.OwnSet
import Derived.ChangeArms
import Derived.Lib.Small
import Derived.StillTailTactics
import Derived.IntWalk
import Derived.Deep.RegionHeld3
namespace Go.Proofs.YtjkjhpaeckkpjaaGreat
open Go.RowKit

/-- Does n fit into s bytes? -/
def fitB (n s : Int) : Bool := decide (1 ≤ s ∧ s ≤ 7 ∧ 0 ≤ n ∧ n < 2 ^ (8 * s.toNat))
def szB (s : Int) : Bool := decide (1 ≤ s ∧ s ≤ 7)

theorem szB_true {s : Int} (h : 1 ≤ s ∧ s ≤ 7) : szB s = true := by simp [szB, h]
theorem szB_false {s : Int} (h : ¬ (1 ≤ s ∧ s ≤ 7)) : szB s = false := by simp [szB, h]
theorem fitB_true {n s : Int} (h1 : 1 ≤ s) (h2 : s ≤ 7) (h3 : 0 ≤ n) (h4 : n < 2 ^ (8 * s.toNat)) : fitB n s = true := by simp [fitB, h1, h2, h3, h4]
theorem fitB_no_size {n s : Int} (h : ¬ (1 ≤ s ∧ s ≤ 7)) : fitB n s = false := by
  simp only [fitB, decide_eq_false_iff_not]; intro hh; exact h ⟨hh.1, hh.2.1⟩
theorem fitB_neg {n s : Int} (h : n < 0) : fitB n s = false := by
  simp only [fitB, decide_eq_false_iff_not]; intro hh; omega
theorem fitB_big {n s : Int} (h : ¬ n < 2 ^ (8 * s.toNat)) : fitB n s = false := by
  simp only [fitB, decide_eq_false_iff_not]; intro hh; exact h hh.2.2.2

theorem fitB_shr {n s : Int} (h1 : 1 ≤ s) (h2 : s ≤ 7) (h3 : 0 ≤ n) : (n / 2 ^ (8 * s).toNat == 0) = fitB n s := by
  have e : (8 * s).toNat = 8 * s.toNat := by omega
  rw [e]
  have hp : (0 : Int) < 2 ^ (8 * s.toNat) := by exact Int.pow_pos (by omega)
  by_cases h : n < 2 ^ (8 * s.toNat)
  · rw [fitB_true h1 h2 h3 h, Int.ediv_eq_zero_of_lt h3 h]; rfl
  · rw [fitB_big h]
    have : 1 ≤ n / 2 ^ (8 * s.toNat) := by rw [Int.le_ediv_iff_mul_le hp]; omega
    rw [beq_eq_false_iff_ne]; omega

theorem div_step (n : Int) (k : Nat) : n / 2 ^ (8 * k) / 256 = n / 2 ^ (8 * (k + 1)) := by
  rw [Int.ediv_ediv_of_nonneg (Int.le_of_lt (Int.pow_pos (by omega))), show 8 * (k + 1) = 8 * k + 8 from by omega, Int.pow_add]
  rfl
theorem div_nonneg' {n : Int} (h : 0 ≤ n) (k : Nat) : 0 ≤ n / 2 ^ (8 * k) := Int.ediv_nonneg h (Int.le_of_lt (Int.pow_pos (by omega)))
theorem div_le' {n : Int} (h : 0 ≤ n) (k : Nat) : n / 2 ^ (8 * k) ≤ n := Int.ediv_le_self _ h

/-- A byte as a cell. -/
def bc (b : UInt8) : Value := .int .u8 (b.toNat : Int)

/-- The number that bytes are, the highest first. -/
def numN (l : List UInt8) : Nat := l.foldl (fun n x => n * 256 + x.toNat) 0
theorem numN_nil : numN [] = 0 := rfl
theorem numN_snoc (l : List UInt8) (x : UInt8) : numN (l ++ [x]) = numN l * 256 + x.toNat := by simp [numN]
theorem numN_from : ∀ (l : List UInt8) (n m : Nat), n < m → l.foldl (fun n x => n * 256 + x.toNat) n < m * 256 ^ l.length
  | [], n, m, h => by simpa using h
  | x :: l, n, m, h => by
    have hx := x.toNat_lt
    have := numN_from l (n * 256 + x.toNat) (m * 256) (by omega)
    simp only [List.foldl_cons, List.length_cons, Nat.pow_succ]
    rw [show m * (256 ^ l.length * 256) = m * 256 * 256 ^ l.length from by rw [Nat.mul_comm (256 ^ l.length), Nat.mul_assoc]]
    exact this
theorem numN_lt (l : List UInt8) : numN l < 256 ^ l.length := by
  have := numN_from l 0 1 (by omega)
  simpa [numN] using this
theorem numN_le48 (l : List UInt8) (h : l.length ≤ 6) : numN l < 281474976710656 :=
  Nat.lt_of_lt_of_le (numN_lt l) (by
    have := Nat.pow_le_pow_right (n := 256) (by omega) h
    simpa using this)
/-- The bytes from place a on, k of them. -/
def cutL (l : List UInt8) (a k : Nat) : List UInt8 := (l.drop a).take k
theorem cutL_succ {l : List UInt8} {a k : Nat} (h : a + k < l.length) : cutL l a (k + 1) = cutL l a k ++ [l[a + k]] := by
  unfold cutL
  rw [List.take_succ_eq_append_getElem (by simp; omega)]
  simp
theorem length_cutL {l : List UInt8} {a k : Nat} (h : a + k ≤ l.length) : (cutL l a k).length = k := by simp [cutL]; omega

/-- What Get answers: the number, the error. -/
def getL (l : List UInt8) (a s : Int) : Int × Int :=
  if szB s = false ∨ a < 0 then (0, 1) else if (l.length : Int) < a + s then (0, 3) else (numN (cutL l a.toNat s.toNat), 0)

/-- The bytes of a number, the highest first. -/
def digs (n s : Nat) : List UInt8 := (List.range s).map fun j => UInt8.ofNat (n / 2 ^ (8 * (s - 1 - j)))
theorem length_digs (n s : Nat) : (digs n s).length = s := by simp [digs]
theorem digs_take (n s k : Nat) (h : k < s) : (digs n s).take (k + 1) = (digs n s).take k ++ [UInt8.ofNat (n / 2 ^ (8 * (s - 1 - k)))] := by
  rw [List.take_succ_eq_append_getElem (by rw [length_digs]; exact h)]
  simp [digs]
theorem bc_dig (m : Nat) : bc (UInt8.ofNat m) = .int .u8 ((m : Int) % 256) := by
  unfold bc
  rw [UInt8.toNat_ofNat']
  congr 1
theorem digs_cells (l : List UInt8) (n s k : Nat) (h : k < s) : ((l ++ (digs n s).take k).map bc) ++ [.int .u8 ((n : Int) / 2 ^ (8 * (s - 1 - k)) % 256)] = (l ++ (digs n s).take (k + 1)).map bc := by
  rw [digs_take n s k h, ← List.append_assoc, List.map_append (l₁ := l ++ _)]
  rw [List.map_cons, List.map_nil, bc_dig]
  rfl
theorem u8_ofNat (m : Nat) : (UInt8.ofNat m).toNat = m % 256 := by rw [UInt8.toNat_ofNat']
theorem div_pow_step (n a : Nat) : n / 2 ^ (8 * (a + 1)) = n / 2 ^ (8 * a) / 256 := by
  rw [Nat.div_div_eq_div_mul, show 8 * (a + 1) = 8 * a + 8 from by omega, Nat.pow_add]
theorem numN_digs_take {n s : Nat} (hn : n < 2 ^ (8 * s)) : ∀ k, k ≤ s → numN ((digs n s).take k) = n / 2 ^ (8 * (s - k))
  | 0, _ => by rw [List.take_zero, numN_nil, Nat.sub_zero, Nat.div_eq_of_lt hn]
  | k + 1, h => by
    rw [digs_take n s k (by omega), numN_snoc, numN_digs_take hn k (by omega), u8_ofNat, show s - k = (s - (k + 1)) + 1 from by omega, div_pow_step, show s - 1 - k = s - (k + 1) from by omega]
    omega
/-- A number that fits is read as it was written. -/
theorem numN_digs {n s : Nat} (hn : n < 2 ^ (8 * s)) : numN (digs n s) = n := by
  have h := numN_digs_take hn s (Nat.le_refl _)
  rwa [List.take_of_length_le (by rw [length_digs]; omega), Nat.sub_self, Nat.mul_zero, Nat.pow_zero, Nat.div_one] at h
theorem cutL_behind (l : List UInt8) (n s : Nat) : cutL (l ++ digs n s) l.length s = digs n s := by
  unfold cutL
  rw [List.drop_left, List.take_of_length_le (by rw [length_digs]; omega)]

theorem foldl_num : ∀ (l : List UInt8) (n : Nat), l.foldl (fun n x => n * 256 + x.toNat) n = n * 256 ^ l.length + numN l
  | [], n => by simp [numN]
  | x :: l, n => by
    have h1 := foldl_num l (n * 256 + x.toNat)
    have h2 := foldl_num l (0 * 256 + x.toNat)
    unfold numN at *
    simp only [List.foldl_cons, List.length_cons, Nat.pow_succ] at *
    rw [h1, h2, Nat.add_mul, Nat.add_mul, Nat.mul_assoc, Nat.mul_comm 256]
    omega
theorem numN_cons (x : UInt8) (l : List UInt8) : numN (x :: l) = x.toNat * 256 ^ l.length + numN l := by
  have := foldl_num l (0 * 256 + x.toNat)
  simpa [numN] using this
/-- The order of bytes is the order of the numbers. -/
theorem bytesLess_num : ∀ (x y : List UInt8), x.length = y.length → Op.bytesLess x y = decide (numN x < numN y) ∧ (x = y ↔ numN x = numN y)
  | [], [], _ => by simp [Op.bytesLess]
  | [], _ :: _, h => by simp at h
  | _ :: _, [], h => by simp at h
  | a :: x, b :: y, h => by
    have hl : x.length = y.length := by simpa using h
    obtain ⟨ih1, ih2⟩ := bytesLess_num x y hl
    have hx := numN_lt x
    have hy := numN_lt y
    rw [numN_cons, numN_cons, hl]
    rw [hl] at hx
    simp only [Op.bytesLess, ih1]
    rcases Nat.lt_trichotomy a.toNat b.toNat with hab | hab | hab
    · have h1 := Nat.mul_le_mul_right (256 ^ y.length) (show a.toNat + 1 ≤ b.toNat from hab)
      rw [Nat.add_mul] at h1
      have hne : a ≠ b := fun e => by rw [e] at hab; omega
      refine ⟨?_, ?_⟩
      · rw [decide_eq_true (by omega : a.toNat * 256 ^ y.length + numN x < b.toNat * 256 ^ y.length + numN y)]
        simp [UInt8.lt_iff_toNat_lt, hab]
      · constructor
        · intro e; injection e with e1 e2; exact absurd e1 hne
        · intro e; omega
    · have e : a = b := UInt8.toNat.inj hab
      subst e
      refine ⟨?_, ?_⟩
      · simp
      · simp [ih2]
    · have h1 := Nat.mul_le_mul_right (256 ^ y.length) (show b.toNat + 1 ≤ a.toNat from hab)
      rw [Nat.add_mul] at h1
      have hne : a ≠ b := fun e => by rw [e] at hab; omega
      refine ⟨?_, ?_⟩
      · rw [decide_eq_false (by omega : ¬ a.toNat * 256 ^ y.length + numN x < b.toNat * 256 ^ y.length + numN y)]
        simp [UInt8.lt_iff_toNat_lt, hne]
        omega
      · constructor
        · intro e; injection e with e1 e2; exact absurd e1 hne
        · intro e; omega
theorem digs_less {a b s : Nat} (ha : a < 2 ^ (8 * s)) (hb : b < 2 ^ (8 * s)) : Op.bytesLess (digs a s) (digs b s) = decide (a < b) := by
  rw [(bytesLess_num _ _ (by simp [length_digs])).1, numN_digs ha, numN_digs hb]
theorem digs_eq {a b s : Nat} (ha : a < 2 ^ (8 * s)) (hb : b < 2 ^ (8 * s)) : digs a s = digs b s ↔ a = b := by
  rw [(bytesLess_num _ _ (by simp [length_digs])).2, numN_digs ha, numN_digs hb]

/-- The bytes as the document's Put lays them, from the last on: behind k of them. -/
def laid (n s k : Nat) : List Value := List.replicate (s - k) (.int .u8 0) ++ ((digs n s).drop (s - k)).map bc
theorem length_laid (n s k : Nat) : (laid n s k).length = s := by simp [laid, length_digs]
theorem laid_all (n s : Nat) : laid n s s = (digs n s).map bc := by simp [laid]
theorem digs_get (n s j : Nat) (h : j < s) : (digs n s)[j]'(by rw [length_digs]; exact h) = UInt8.ofNat (n / 2 ^ (8 * (s - 1 - j))) := by simp [digs]
theorem laid_set {n s k : Nat} (h : k < s) : (laid n s k).set (s - 1 - k) (.int .u8 ((n : Int) / 2 ^ (8 * k) % 256)) = laid n s (k + 1) := by
  have e : s - k = s - 1 - k + 1 := by omega
  have e2 : s - (k + 1) = s - 1 - k := by omega
  unfold laid
  rw [e, e2, List.replicate_succ', List.append_assoc, List.set_append_right _ _ (by simp), List.length_replicate, Nat.sub_self,
    List.drop_eq_getElem_cons (i := s - 1 - k) (by rw [length_digs]; omega), List.map_cons, digs_get n s _ (by omega), bc_dig, show s - 1 - (s - 1 - k) = k from by omega]
  rfl
/-- What Put answers. -/
def putL (l : List UInt8) (n s : Int) : List UInt8 := if fitB n s = true then l ++ digs n.toNat s.toNat else l
theorem putL_no {l : List UInt8} {n s : Int} (h : fitB n s = false) : putL l n s = l := by simp [putL, h]
theorem putL_yes {l : List UInt8} {n s : Nat} (h : fitB n s = true) : putL l n s = l ++ digs n s := by simp [putL, h]

end Go.Proofs.YtjkjhpaeckkpjaaGreat

namespace Go.Proofs.YtjkjhpaeckkpjaaGreat
open Go.RowKit

theorem addr_add (b o j : Nat) : (⟨b, o, none⟩ : Addr).add j = ⟨b, o + j, none⟩ := by
  unfold Addr.add
  split
  · subst_vars; rfl
  · rfl

/-- From the address A on the world holds the cells xs, in a block below H. Of no cell nothing is said. -/
def Row (w : World) (H : Nat) (A : Option Addr) (xs : List Value) : Prop :=
  xs ≠ [] → ∃ b off, A = some ⟨b, off, none⟩ ∧ b < H ∧ ∀ j u, xs[j]? = some u → w.cell? ⟨b, off + j, none⟩ = some u

section
variable {w w' : World} {H H' : Nat} {A : Option Addr} {xs : List Value}

theorem Row.empty (w : World) (H : Nat) (A : Option Addr) : Row w H A [] := fun h => absurd rfl h
theorem Row.keep (h : Row w H A xs) (hk : ∀ p : Addr, p.block < H → w'.cell? p = w.cell? p) : Row w' H A xs := fun hx => by
  obtain ⟨b, off, e, hb, hc⟩ := h hx
  exact ⟨b, off, e, hb, fun j u hu => (hk ⟨b, off + j, none⟩ hb).trans (hc j u hu)⟩
theorem Row.mono (h : Row w H A xs) (hH : H ≤ H') : Row w H' A xs := fun hx => by
  obtain ⟨b, off, e, hb, hc⟩ := h hx
  exact ⟨b, off, e, Nat.lt_of_lt_of_le hb hH, hc⟩
theorem Row.below (h : Row w H A xs) (hb : Below H w w') : Row w' H A xs := h.keep fun _ hp => hb.cell hp
theorem Row.alloc (h : Row w H A xs) (hH : H ≤ w.heap.size) (o : Obj) : Row (w.alloc o) H A xs := h.keep fun p hp => World.cell?_alloc_lt w o p (by omega)
theorem Row.pos (h : Row w H A xs) : 0 < xs.length → ∃ ad, A = some ad ∧ ∀ j v, xs[j]? = some v → w.cell? (ad.add j) = some v := fun hl => by
  obtain ⟨b, off, e, _, hc⟩ := h fun e => by rw [e] at hl; exact absurd hl (Nat.not_lt_zero _)
  exact ⟨_, e, fun j v hv => by rw [addr_add]; exact hc j v hv⟩
theorem Row.drewN (h : Row w H A xs) (k : Nat) : Row (w.drewN k) H A xs := h
theorem Row.drew (h : Row w H A xs) : Row w.drew H A xs := h
theorem Row.at_ (h : Row w H A xs) {k : Nat} (hk : k < xs.length) : ∃ b off, A = some ⟨b, off, none⟩ ∧ b < H ∧ w.cell? ⟨b, off + k, none⟩ = some xs[k] := by
  obtain ⟨b, off, e, hb, hc⟩ := h (fun e => by rw [e] at hk; exact absurd hk (Nat.not_lt_zero _))
  exact ⟨b, off, e, hb, hc k _ (List.getElem?_eq_getElem hk)⟩
theorem Row.some_ (h : Row w H A xs) (hk : 0 < xs.length) : ∃ b off, A = some ⟨b, off, none⟩ ∧ b < H ∧ ∀ j u, xs[j]? = some u → w.cell? ⟨b, off + j, none⟩ = some u :=
  h fun e => by rw [e] at hk; exact absurd hk (Nat.not_lt_zero _)
theorem Row.of_cells {b off : Nat} (hb : b < H) (hc : ∀ j u, xs[j]? = some u → w.cell? ⟨b, off + j, none⟩ = some u) : Row w H (some ⟨b, off, none⟩) xs := fun _ => ⟨b, off, rfl, hb, hc⟩
/-- A new block reads as what it was made of. -/
theorem Row.made (w : World) (cs : Array Value) (t : TypeId) : Row (w.alloc (.cells cs t)) (w.heap.size + 1) (some ⟨w.heap.size, 0, none⟩) cs.toList :=
  Row.of_cells (Nat.lt_succ_self _) fun j u hu => by
    rw [World.cell?_alloc_at _ _ _ _ rfl]
    simpa using hu
/-- What is behind the first k cells. -/
theorem Row.drop (h : Row w H A xs) {b off k : Nat} (hA : A = some ⟨b, off, none⟩) : Row w H (some ⟨b, off + k, none⟩) (xs.drop k) := fun hx => by
  obtain ⟨b', off', e, hb, hc⟩ := h (fun e => by rw [e] at hx; simp at hx)
  rw [hA] at e
  injection e with e
  injection e with e1 e2
  subst e1; subst e2
  exact ⟨b, off + k, rfl, hb, fun j u hu => by rw [Nat.add_assoc]; exact hc _ u (by rw [← hu, List.getElem?_drop])⟩
/-- The first few. -/
theorem Row.take (h : Row w H A xs) (k : Nat) : Row w H A (xs.take k) := fun hx => by
  obtain ⟨b, off, e, hb, hc⟩ := h (fun e => by rw [e] at hx; simp at hx)
  refine ⟨b, off, e, hb, fun j u hu => hc j u ?_⟩
  rw [List.getElem?_take] at hu
  split at hu
  · exact hu
  · cases hu
/-- A row of the call's own. -/
theorem Row.of_own {base : Nat} {e : TypeId} {size n c : Nat} (h : w.ownsRow base e size (.slice A n c) n xs) : Row w w.heap.size A xs := fun hx => by
  rcases h.2 with ⟨hv, h0⟩ | ⟨g, cap, cur, hv, _, hh, _⟩
  · have := h.1
    rw [h0, Nat.zero_mul] at this
    exact absurd (List.eq_nil_of_length_eq_zero this) hx
  · have hA : A = some ⟨g, 0, none⟩ := by injection hv
    subst hA
    have hlt : g < w.heap.size := by
      rcases Nat.lt_or_ge g w.heap.size with hl | hl
      · exact hl
      · rw [Array.getElem?_eq_none hl] at hh; cases hh
    exact ⟨g, 0, rfl, hlt, fun j u hu => by
      have := h.cells (g := g) rfl j u hu
      rwa [addr_add] at this⟩
end

/-- Block g is known whole: the cells L of type t, none frozen. -/
def Whole (w : World) (g : Nat) (t : TypeId) (L : List Value) : Prop := w.heap[g]? = some (.cells L.toArray t (0, 0))
section
variable {w w' : World} {g : Nat} {t : TypeId} {L : List Value}
theorem Whole.lt (h : Whole w g t L) : g < w.heap.size := by
  rcases Nat.lt_or_ge g w.heap.size with hl | hl
  · exact hl
  · unfold Whole at h; rw [Array.getElem?_eq_none hl] at h; cases h
theorem Whole.cell (h : Whole w g t L) (i : Nat) : w.cell? ⟨g, i, none⟩ = L[i]? := by
  unfold Whole at h
  simp [World.cell?, h]
theorem Whole.frozen (h : Whole w g t L) (i : Nat) : w.frozen? ⟨g, i, none⟩ = false := by
  unfold Whole at h
  simp [World.frozen?, h]
theorem Whole.made (w : World) (L : List Value) (t : TypeId) : Whole (w.alloc (.cells L.toArray t)) w.heap.size t L := heap_alloc_new w _
theorem Whole.alloc (h : Whole w g t L) (o : Obj) : Whole (w.alloc o) g t L := (Below.heap_alloc w o g h.lt).trans h
theorem Whole.drewN (h : Whole w g t L) (n : Nat) : Whole (w.drewN n) g t L := h
theorem Whole.set_ (h : Whole w g t L) (i : Nat) (u : Value) : Whole (w.setCell ⟨g, i, none⟩ u) g t (L.set i u) := by
  unfold Whole at h ⊢
  simp [World.setCell, Array.getElem?_modify, h]
theorem Whole.below {B : Nat} (h : Whole w g t L) (hb : Below B w w') (hg : g < B) : Whole w' g t L := (hb.block g hg).trans h
theorem Whole.grown {row : Option Nat} (h : Whole w g t L) (hb : w.grownBy w' row) (hg : some g ≠ row) : Whole w' g t L := (hb.block g h.lt hg).trans h
theorem Whole.row (h : Whole w g t L) : Row w w.heap.size (some ⟨g, 0, none⟩) L := Row.of_cells h.lt fun j u hu => by rw [Nat.zero_add, h.cell]; exact hu
/-- A row of the call's own is kept while another block is written. -/
theorem own_set_far {base : Nat} {e : TypeId} {size n : Nat} {v : Value} {xs : List Value} (h : w.ownsRow base e size v n xs) {a : Addr} (ha : v.ownBlock ≠ some a.block) (u : Value) : (w.setCell a u).ownsRow base e size v n xs := by
  obtain ⟨h1, h2⟩ := h
  refine ⟨h1, ?_⟩
  rcases h2 with h2 | ⟨g, cap, cur, rfl, hg, hh, r⟩
  · exact .inl h2
  · refine .inr ⟨g, cap, cur, rfl, hg, ?_, r⟩
    rw [Below.heap_setCell _ _ _ _ (by intro e; apply ha; rw [e]; rfl)]
    exact hh
end

/-- '[]T{}'. -/
theorem own_lit (w : World) (t : TypeId) (size : Nat) : (w.alloc (.cells #[] t)).ownsRow w.heap.size t size (.slice (some ⟨w.heap.size, 0, none⟩) 0 0) 0 [] :=
  World.ownsRow_made w #[] 0 (Nat.le_refl _) (Nat.zero_le _) (by simp)

theorem own_some {w : World} {base : Nat} {e : TypeId} {size n c : Nat} {A : Option Addr} {xs : List Value} (h : w.ownsRow base e size (.slice A n c) n xs) (hn : 0 < n) : ∃ g, A = some ⟨g, 0, none⟩ := by
  rcases h.2 with ⟨_, h0⟩ | ⟨g, cap, cur, hv, _⟩
  · omega
  · exact ⟨g, by injection hv⟩

theorem append_nil_run {P : Program} (w : World) (base : Nat) (t ty e : TypeId) (i : TypeInfo) (size : Nat) (ht : P.underlying t = some (.slice e)) (hi : P.info? e = some i)
    (v : Value) (n : Nat) (xs : List Value) (hown : w.ownsRow base e size v n xs) (c : Nat) : (Builtin.append_ #[t, t] ty #[v, .slice none 0 c]).run P w = .ok v w := by
  rcases hown.2 with ⟨rfl, rfl⟩ | ⟨g, cap, cur, rfl, _, _, hnc, _⟩
  · simp [Builtin.append_, run_underlying ht, sizeOf, typeInfo, hi, Builtin.lenOf, Builtin.firstCells]
  · simp [Builtin.append_, run_underlying ht, sizeOf, typeInfo, hi, Builtin.lenOf, Builtin.firstCells, hnc, storeCells]

theorem append_row_run {P : Program} (w : World) (base : Nat) (t ty e : TypeId) (i : TypeInfo) (z : Value) (size bytes : Nat) (ht : P.underlying t = some (.slice e)) (hi : P.info? e = some i) (hz : i.zero = some z)
    (hsize : i.size = size) (hby : i.bytes = bytes) (hzs : z.cells.size = size) (hsz : 0 < size)
    (v : Value) (n : Nat) (xs : List Value) (hown : w.ownsRow base e size v n xs)
    (A : Option Addr) (m c H : Nat) (news : List Value) (hl : news.length = m * size) (hr : Row w H A news) (h1 : ∀ u ∈ news, u.oneCell' = true)
    (h63 : n + m ≤ maxLen) (hbytes : (n + m) * bytes ≤ 140737488355328) (hbase : base ≤ w.heap.size) :
    ∃ v' w', (Builtin.append_ #[t, t] ty #[v, .slice A m c]).run P w = .ok v' w' ∧ w'.ownsRow base e size v' (n + m) (xs ++ news) ∧ w.grownBy w' v.ownBlock := by
  rcases A with _ | ad
  · have hn : news = [] := by
      rcases news with _ | ⟨u, us⟩
      · rfl
      · obtain ⟨_, _, h, _⟩ := hr (by simp)
        cases h
    have hm : m = 0 := by
      subst hn
      rcases Nat.eq_zero_or_pos m with h0 | h0
      · exact h0
      · have := Nat.mul_pos h0 hsz
        simp at hl; omega
    subst hn; subst hm
    exact ⟨v, w, append_nil_run (P := P) w base t ty e i size ht hi v n xs hown c, by simpa using hown, World.grownBy.refl w _⟩
  · have hc : ∀ j u, news[j]? = some u → w.cell? (ad.add j) = some u := by
      intro j u hu
      obtain ⟨b, off, e, _, hc⟩ := hr (fun e => by rw [e] at hu; simp at hu)
      injection e with e
      subst e
      rw [addr_add]
      exact hc j u hu
    obtain ⟨v', w', h2, h3, h4, _, _⟩ := run_append_own_at (P := P) w base t ty e i z size bytes ht hi hz hsize hby hzs hsz v n xs hown ad m c news hl hc h1 h63 hbytes hbase
    exact ⟨v', w', h2, h3, h4⟩

/-- append onto a row of the call's own; the source is any slice that reads as 'news', nil or not; guarded or not. -/
theorem wpList_append_row {P : Program} {w : World} {ops : Array Oper} {rest : List Oper} {o : Oper} {a : Act} {Q : Exit → Act → World → Prop} (hgd : Region.wanted o (yielded ops a.tmps) = true) (s x : Operand) (t : TypeId)
    (ho : o.op = .call { callee := .builtin .append, args := #[s, x], argTypes := #[t, t] })
    (base : Nat) (e : TypeId) (i : TypeInfo) (z : Value) (size bytes : Nat) (ht : P.underlying t = some (.slice e)) (hi : P.info? e = some i) (hz : i.zero = some z)
    (hsize : i.size = size) (hby : i.bytes = bytes) (hzs : z.cells.size = size) (hsz : 0 < size)
    (v : Value) (n : Nat) (xs : List Value) (hs : a.eval s = v) (hown : w.ownsRow base e size v n xs)
    (A : Option Addr) (m c H : Nat) (news : List Value) (hx : a.eval x = .slice A m c) (hl : news.length = m * size) (hr : Row w H A news) (h1 : ∀ u ∈ news, u.oneCell' = true)
    (h63 : n + m ≤ maxLen) (hbytes : (n + m) * bytes ≤ 140737488355328) (hbase : base ≤ w.heap.size)
    (h : ∀ v' w', w'.ownsRow base e size v' (n + m) (xs ++ news) → w.grownBy w' v.ownBlock → wpList P ops Q rest (a.put o.dst v') w') : wpList P ops Q (o :: rest) a w := by
  obtain ⟨v', w', hrun, h2, h3⟩ := append_row_run (P := P) w base t o.type e i z size bytes ht hi hz hsize hby hzs hsz v n xs hown A m c H news hl hr h1 h63 hbytes hbase
  refine wpList_step fun K hK => ?_
  rw [if_pos hgd]
  unfold Oper.wp
  simp [execOp, ho, resolve, invoke, builtin, hs, hx, hrun, Result.andThen]
  exact hK _ _ (h v' w' h2 h3)

theorem below_drewN' {B : Nat} {a w : World} (h : Below B a w) (n : Nat) : Below B a (w.drewN n) := ⟨h.os, h.tape, h.output, h.size, h.block⟩

/-- Behind an append onto a row of the call's own nothing below 'base' has turned. -/
theorem own_below {B base n : Nat} {w0 w w' : World} {e : TypeId} {size : Nat} {v : Value} {xs : List Value} (hb : Below B w0 w) (hB : B ≤ base) (hsz : B ≤ w.heap.size) (hown : w.ownsRow base e size v n xs) (hg : w.grownBy w' v.ownBlock) : Below B w0 w' :=
  hb.grown hg hsz fun k hk => Nat.le_trans hB (hown.lt k hk).1

/-- c zeros (a definition, so that the walk leaves it standing). -/
def zerosL (z : Value) (c : Nat) : List Value := List.replicate c z
theorem length_zerosL (z : Value) (c : Nat) : (zerosL z c).length = c := by simp [zerosL]
/-- 'make([]T, n, c)' of one-cell elements: a block of c zeros. -/
theorem wpList_make_zeros {P : Program} {w : World} {ops : Array Oper} {rest : List Oper} {o : Oper} {a : Act} {Q : Exit → Act → World → Prop} (hgd : o.guard = none) (l c : Operand) (t : TypeId) (hop : o.op = Op.makeSlice t l c)
    (e : TypeId) (i : TypeInfo) (z : Value) (bytes : Nat) (ht : P.underlying t = some (.slice e)) (hi : P.info? e = some i) (hz : i.zero = some z) (hsize : i.size = 1) (hby : i.bytes = bytes) (hz1 : z.cells = #[z])
    (kl kc : IntKind) (N C : Int) (n cap : Nat) (hl : a.eval l = .int kl N) (hc : a.eval c = .int kc C) (hN : N = n) (hC : C = cap) (hnc : n ≤ cap) (hb : bytes * cap ≤ 281474976710656) (h63 : cap ≤ maxLen)
    (h : wpList P ops Q rest (a.put o.dst (.slice (some ⟨w.heap.size, 0, none⟩) n cap)) (w.alloc (.cells (zerosL z cap).toArray e))) : wpList P ops Q (o :: rest) a w := by
  refine wpList_plain hgd fun K hK => ?_
  unfold maxLen at h63
  unfold zerosL at h
  have hb' : (i.bytes : Int) * (cap : Int) ≤ 281474976710656 := by
    have h : ((bytes * cap : Nat) : Int) ≤ 281474976710656 := by omega
    rw [hby]
    rwa [Int.natCast_mul] at h
  have hr := run_make (P := P) w t e i z ht hi hz kl kc n cap (by omega) (by omega) hb' (by omega)
  subst hN; subst hC
  rw [hz1, hsize] at hr
  simp only [Int.toNat_natCast, Nat.mul_one] at hr
  have hm : madeCells #[z] cap = (List.replicate cap z).toArray := Array.toList_inj.1 (by rw [toList_madeCells_one])
  rw [hm] at hr
  unfold Oper.wp
  simp [execOp, hop, hl, hc, hr, Result.andThen]
  exact hK _ _ (by simpa using h)

/-- A block of the call's own, known whole, as a row. -/
theorem own_of_block {w : World} {base g : Nat} {e : TypeId} {L xs : List Value} {cap n : Nat} (hh : w.heap[g]? = some (.cells L.toArray e (0, 0))) (hg : base ≤ g) (hL : L.length = cap) (hn : n ≤ cap) (hc : cap ≤ maxLen) (hx : L.take n = xs) :
    w.ownsRow base e 1 (.slice (some ⟨g, 0, none⟩) n cap) n xs :=
  ⟨by rw [← hx, List.length_take]; omega, .inr ⟨g, cap, L.toArray, rfl, hg, hh, hn, hc, by simpa using hL, by simpa using hx⟩⟩

/-- 'string(b)' of bytes that read as l. -/
theorem convert_row_run {P : Program} (w : World) (src dst e : TypeId) (hs : P.underlying src = some (.slice e)) (he : P.underlying e = some (.int .u8)) (hd : P.underlying dst = some .string) (A : Option Addr) (n c H : Nat) (l : List UInt8)
    (hl : l.length = n) (hr : Row w H A (l.map bc)) : (convert src dst (.slice A n c)).run P w = .ok (.string ⟨l.toArray⟩) w := by
  subst hl
  rcases l with _ | ⟨x, xs⟩
  · rw [run_convert_bytes_string w src dst e _ _ c hs he hd]
    rcases A with _ | a
    · simp [Conv.bytesToString]
      rfl
    · rw [List.length_nil, run_bytesToString w a 0 c [] (by simpa using run_loadCells_list (P := P) w a [] (fun _ _ h => by simp at h))]
      rfl
  · obtain ⟨b, off, rfl, _, hc⟩ := hr (by simp)
    rw [run_convert_bytes_arg w src e hs he b off (x :: xs).length c ((x :: xs).map fun u => (u.toNat : Int)) (by simp) (fun i hi => by
      rw [hc i (bc (x :: xs)[i]) (by rw [List.getElem?_map, List.getElem?_eq_getElem hi]; rfl)]
      rw [List.getD_eq_getElem?_getD, List.getElem?_map, List.getElem?_eq_getElem hi]
      rfl) dst hd]
    have e2 : ((x :: xs).map fun u => (u.toNat : Int)).map (fun n => UInt8.ofNat n.toNat) = x :: xs := by
      rw [List.map_map]
      conv => rhs; rw [← List.map_id (x :: xs)]
      apply List.map_congr_left
      intro u _
      simp
    unfold strOfNums
    rw [e2]

/-- 'n<<8 | x' of a byte x. -/
theorem or_byte (n x : Nat) (hn : n < 281474976710656) (hx : x < 256) : bits .or .i64 ((n : Int) * 256) (x : Int) = ((n * 256 + x : Nat) : Int) := by
  have e1 : (n : Int) * 256 = ((n * 256 : Nat) : Int) := by omega
  have e2 : n * 256 ||| x = n * 256 + x := by
    have := Nat.shiftLeft_add_eq_or_of_lt (i := 8) (b := x) (by simpa using hx) n
    rw [Nat.shiftLeft_eq] at this
    exact this.symm
  rw [e1]
  show IntKind.i64.wrap ((BitVec.ofInt 64 ((n * 256 : Nat) : Int) ||| BitVec.ofInt 64 (x : Int)).toNat : Int) = _
  rw [BitVec.toNat_or, BitVec.ofInt_natCast, BitVec.ofInt_natCast, BitVec.toNat_ofNat, BitVec.toNat_ofNat, Nat.mod_eq_of_lt (by omega), Nat.mod_eq_of_lt (by omega), e2, IntKind.wrap_i64]
  omega

theorem quiet_of_drewN {P : Program} {f : FuncId} {args : Array Value} {w : World} {v : Value} (h : Calls P f args w fun e w' => e = .returned v ∧ ∃ m, w' = w.drewN m) :
    Calls P f args w fun e w' => e = .returned v ∧ ∃ m, w' = w.drewN m := h

end Go.Proofs.YtjkjhpaeckkpjaaGreat

namespace Go.Proofs.YtjkjhpaeckkpjaaGreat
open Go.ChangeShapes Go.WideShapes Go.ChangeAt Go.RowKit

theorem Tryz.own : ownKnob Tryz.prog.godebug = none := by kernel_rfl
theorem Tryz.laidOut : laidOutB Tryz.prog = true := by kernel_rfl

theorem bc_of_int (n : Int) (h : (Lit.int .u8 n).wf = true) : Value.int .u8 n = bc (UInt8.ofNat n.toNat) := by
  have h1 : IntKind.u8.min = 0 := rfl
  have h2 : IntKind.u8.max = 255 := rfl
  simp only [Lit.wf, Bool.and_eq_true, decide_eq_true_eq] at h
  unfold bc
  rw [UInt8.toNat_ofNat', Nat.mod_eq_of_lt (by omega)]
  congr 1
  omega

set_option maxRecDepth 20000 in
/-- An argument of bytes: whatever it is, it reads as a list. -/
theorem open_row_u8c {H : Type} {enc : TypeId × Value → H} {W : World} {base : Nat} {t : TypeId} {v : Value} {d : DataW H} {p : List MemPlace} (hc : Tryz.prog.cellsOf 5 = 1) (ht : Tryz.prog.underlying t = some (.slice 5))
    (hval : Value.okWide Tryz.prog W .any base t v) (h : DataW.Trod enc Tryz.prog W 0 (fun _ => true) true t v d p) (hlt : ∀ x ∈ p, x.block < W.heap.size) :
    ∃ (A : Option Addr) (m c : Nat) (l : List UInt8), v = .slice A m c ∧ l.length = m ∧ Row W W.heap.size A (l.map bc) ∧ m ≤ c ∧ m ≤ maxLen ∧ c ≤ maxLen ∧ (m = 0 ∨ ∃ el sp, d = .slice el sp ∧ el.length = m) := by
  obtain ⟨a0, len, cap, rfl⟩ := okWide_slice ht hval
  obtain ⟨fuel, hf⟩ := h
  rcases open_ints ht Tryz.underlying5 hc hf with ⟨hcs, hx⟩ | ⟨a, len', cap', zs, hcs, _, hl, hm, hz, hx, hcell, hwz⟩
  · simp [Value.cells] at hcs
    obtain ⟨rfl, rfl, rfl⟩ := hcs
    exact ⟨none, 0, 0, [], rfl, rfl, Row.empty _ _ _, Nat.le_refl _, Nat.zero_le _, Nat.zero_le _, .inl rfl⟩
  · simp [Value.cells] at hcs
    obtain ⟨rfl, rfl, rfl⟩ := hcs
    simp only [Prod.mk.injEq] at hx
    obtain ⟨rfl, rfl⟩ := hx
    simp only [if_true] at hz
    refine ⟨some a, len, cap, (zs.take len).map fun n => UInt8.ofNat n.toNat, rfl, by simp; omega, fun hne => ?_, hl, Nat.le_trans hl hm, hm, .inr ⟨_, _, rfl, by simp [lits]; omega⟩⟩
    have hpos : 0 < zs.length := by
      rcases zs with _ | ⟨z, zs⟩
      · simp at hne
      · simp
    obtain ⟨b, off, spot⟩ := a
    have hspot : spot = none := by simpa [Addr.add] using World.cell?_spot (hcell 0 hpos)
    subst hspot
    refine ⟨b, off, rfl, hlt (.cell b off) (MemPlace.mem_row.2 ⟨0, hpos, by simp⟩), fun j u hu => ?_⟩
    have hj : j < zs.length := by
      have := (List.getElem?_eq_some_iff.1 hu).1
      simp at this
      omega
    have hjl : j < len := by
      have := (List.getElem?_eq_some_iff.1 hu).1
      simp at this
      omega
    have h1 := hcell j hj
    rw [addr_add] at h1
    rw [h1]
    have e : zs.getD j 0 = zs[j] := by simp [List.getD, List.getElem?_eq_getElem hj]
    rw [List.getElem?_map, List.getElem?_map, List.getElem?_take, if_pos hjl, List.getElem?_eq_getElem hj] at hu
    simp only [Option.map_some] at hu
    rw [← hu, e, bc_of_int _ (hwz _ (List.getElem_mem hj))]

set_option maxRecDepth 20000 in
theorem open_row_u8 {H : Type} {enc : TypeId × Value → H} {W : World} {base : Nat} {t : TypeId} {v : Value} {d : DataW H} {p : List MemPlace} (hc : Tryz.prog.cellsOf 5 = 1) (ht : Tryz.prog.underlying t = some (.slice 5))
    (hval : Value.okWide Tryz.prog W .any base t v) (h : DataW.Trod enc Tryz.prog W 0 (fun _ => true) true t v d p) (hlt : ∀ x ∈ p, x.block < W.heap.size) :
    ∃ (A : Option Addr) (m c : Nat) (l : List UInt8), v = .slice A m c ∧ l.length = m ∧ Row W W.heap.size A (l.map bc) ∧ m ≤ c ∧ m ≤ maxLen ∧ (m = 0 ∨ ∃ el sp, d = .slice el sp ∧ el.length = m) := by
  obtain ⟨A, m, c, l, h1, h2, h3, h4, h5, _, h6⟩ := open_row_u8c hc ht hval h hlt
  exact ⟨A, m, c, l, h1, h2, h3, h4, h5, h6⟩

theorem row_reach {H : Type} {P : Program} {ts : List TypeId} {ds : List (DataW H)} {d : DataW H} {m : Nat} (h : (DataW.weightsEach P ts ds).all (· ≤ reachBytes) = true) {j : Nat} {t e : TypeId} (ht : ts[j]? = some t) (hd : ds[j]? = some d) (hu : P.underlying t = some (.slice e))
    (hb : P.bytesOf e = 1) (hm : m = 0 ∨ ∃ el sp, d = .slice el sp ∧ el.length = m) : m ≤ 140737488351232 := by
  rcases hm with rfl | ⟨el, sp, rfl, hl⟩
  · omega
  · have := sized_slice h ht hd hu
    rw [hb] at this
    simp only [reachBytes] at this
    omega
theorem u8_cells : Tryz.prog.cellsOf 5 = 1 := by kernel_rfl
theorem u8_bytes : Tryz.prog.bytesOf 5 = 1 := by kernel_rfl

theorem below_trodAll {H : Type} {enc : TypeId × Value → H} {P : Program} (hl : laidOutB P = true) {W W' : World} (hb : Below W.heap.size W W') :
    ∀ {ts : List TypeId} {vs : List Value} {ds : List (DataW H)} {ps : List MemPlace}, ts.all (fun t => P.readableRec t && decide (t < P.types.size)) = true →
      DataW.TrodAll enc P W 0 (fun _ => true) true ts vs ds ps → (∀ x ∈ ps, x.block < W.heap.size) → DataW.TrodAll enc P W' 0 (fun b => decide (b < W.heap.size)) true ts vs ds ps
  | [], [], [], _, _, h, _ => h
  | [], [], _ :: _, _, _, h, _ => h.elim
  | [], _ :: _, _, _, _, h, _ => h.elim
  | _ :: _, [], _, _, _, h, _ => h.elim
  | _ :: _, _ :: _, [], _, _, h, _ => h.elim
  | t :: ts, v :: vs, d :: ds, ps, ht, h, hlt => by
    obtain ⟨p, q, h1, h2, rfl⟩ := h
    simp only [List.all_cons, Bool.and_eq_true, decide_eq_true_eq] at ht
    exact ⟨p, q, Below.trod hl ht.1.1 ht.1.2 h1 hb (fun x hx => hlt x (List.mem_append_left _ hx)), below_trodAll hl hb ht.2 h2 (fun x hx => hlt x (List.mem_append_right _ hx)), rfl⟩

/-- The end of a law: it has answered true, and nothing that was there has turned. -/
theorem law_post {H : Type} {enc : TypeId × Value → H} {P : Program} {f : Func} {s : ChangeSpec} {W W' : World} {args : Array Value} {ds gs : List (DataW H)} {before : List MemPlace} {tb : TypeId}
    (hl : laidOutB P = true) (hts : f.params.toList.all (fun t => P.readableRec t && decide (t < P.types.size)) = true) (hrt : f.resultTypes.toList = [tb]) (hsz : f.resultTypes.size = 1) (hbool : P.underlying tb = some .bool) (hsv : s.vars = [])
    (hW : DataW.Whole enc P f.params.toList s.vars false W args.toList ds gs before)
    (hres : (s.fn H (ds ++ gs)).results = [.lit (.bool true)]) (hargs : (s.fn H (ds ++ gs)).args = ds) (hvars : (s.fn H (ds ++ gs)).vars = [])
    (hb : Below W.heap.size W W') : s.post enc P f false true false false W args (.bool true) W' := by
  have hW' := hW
  obtain ⟨p, q, hA, hV, rfl, _, _⟩ := hW
  rw [hsv] at hV
  obtain ⟨rfl, rfl⟩ := trodVars_none hV
  have hlt : ∀ x ∈ p, x.block < W.heap.size := fun x hx => hW'.lt x (List.mem_append_left _ hx)
  refine ⟨ds, [], p ++ [], [], p, [], hW', ?_, ?_, ?_, hb.frame _, fun h => by cases h⟩
  · rw [hrt, hsz, hres]
    exact trodAll_mk1 (shut_bool hbool true)
  · rw [hargs]
    exact below_trodAll hl hb hts hA hlt
  · rw [hsv, hvars]
    rfl

theorem i64_le {n : Int} (h : (Lit.int .i64 n).wf = true) : -9223372036854775808 ≤ n ∧ n ≤ 9223372036854775807 := by
  have h1 : IntKind.i64.min = -9223372036854775808 := rfl
  have h2 : IntKind.i64.max = 9223372036854775807 := rfl
  simp only [Lit.wf, Bool.and_eq_true, decide_eq_true_eq] at h
  omega

end Go.Proofs.YtjkjhpaeckkpjaaGreat

namespace Go.Proofs.YtjkjhpaeckkpjaaGreat
open Go.RowKit

theorem u8_info : (Tryz.prog.info? 5).map (fun i => (i.zero, i.size, i.bytes)) = some (some (.int .u8 0), 1, 1) := by kernel_rfl
theorem u8_size : (Tryz.prog.info? 5).map (·.size) = some 1 := by kernel_rfl

theorem own_form {w : World} {base : Nat} {t : TypeId} {v : Value} {n : Nat} {xs : List Value} {size : Nat} (h : w.ownsRow base t size v n xs) : ∃ A c, v = .slice A n c ∧ n ≤ c ∧ c ≤ maxLen := by
  rcases h.2 with ⟨rfl, rfl⟩ | ⟨g, cap, cur, rfl, _, _, hn, hc, _⟩
  · exact ⟨none, 0, rfl, Nat.le_refl _, by unfold maxLen; omega⟩
  · exact ⟨_, cap, rfl, hn, hc⟩
theorem own_cap {w : World} {base : Nat} {t : TypeId} {A : Option Addr} {n c : Nat} {xs : List Value} {size : Nat} (h : w.ownsRow base t size (.slice A n c) n xs) : n ≤ c := by
  obtain ⟨A', c', e, h1, _⟩ := own_form h
  injection e with _ _ e
  omega
theorem bc_one (l : List UInt8) : ∀ u ∈ l.map bc, u.oneCell' = true := by
  intro u hu
  obtain ⟨x, _, rfl⟩ := List.mem_map.1 hu
  rfl

/-- The call answers a slice of its own, which reads as l; nothing that was there has turned. -/
def Owned (w : World) (l : List UInt8) (e : Ending) (w' : World) : Prop :=
  ∃ A c, e = .returned (.slice A l.length c) ∧ w'.ownsRow w.heap.size 5 1 (.slice A l.length c) l.length (l.map bc) ∧ Below w.heap.size w w'

def TrueB (w : World) (e : Ending) (w' : World) : Prop := e = .returned (.bool true) ∧ Below w.heap.size w w'
/-- The call answers v; it may have drawn. -/
def Drewn (w : World) (v : Value) (e : Ending) (w' : World) : Prop := e = .returned v ∧ ∃ k, w' = w.drewN k
/-- The call answers v; nothing that was there has turned. -/
def Gave (w : World) (v : Value) (e : Ending) (w' : World) : Prop := e = .returned v ∧ Below w.heap.size w w'
/-- The call answers v; the world is as it was. -/
def Told (w : World) (v : Value) (e : Ending) (w' : World) : Prop := e = .returned v ∧ w = w'

theorem ret_bool {a b : Bool} (h : a = b) : Ending.returned (.bool a) = .returned (.bool b) := by rw [h]
theorem ret_int {k : IntKind} {a b : Int} (h : a = b) : Ending.returned (.int k a) = .returned (.int k b) := by rw [h]

theorem below_cells {W w1 : World} (hb : Below W.heap.size W w1) : ∀ b o, b < W.heap.size → w1.cell? ⟨b, o, none⟩ = W.cell? ⟨b, o, none⟩ := fun b o h => hb.cell (p := ⟨b, o, none⟩) h

/-- Block g is known whole; the mark that a conversion laid stands behind its last cell. -/
def Marked (w : World) (g : Nat) (t : TypeId) (L : List Value) : Prop := ∃ m, L.length ≤ m ∧ w.heap[g]? = some (.cells L.toArray t (m, m + 1))
section
variable {w w' : World} {g : Nat} {t : TypeId} {L : List Value}
theorem Marked.lt (h : Marked w g t L) : g < w.heap.size := by
  obtain ⟨m, _, h⟩ := h
  rcases Nat.lt_or_ge g w.heap.size with hl | hl
  · exact hl
  · rw [Array.getElem?_eq_none hl] at h; cases h
theorem Marked.cell (h : Marked w g t L) (i : Nat) : w.cell? ⟨g, i, none⟩ = L[i]? := by
  obtain ⟨m, _, h⟩ := h
  simp [World.cell?, h]
theorem Marked.frozen (h : Marked w g t L) {i : Nat} (hi : i < L.length) : w.frozen? ⟨g, i, none⟩ = false := by
  obtain ⟨m, hm, h⟩ := h
  simp [World.frozen?, h]
  omega
theorem Marked.drewN (h : Marked w g t L) (n : Nat) : Marked (w.drewN n) g t L := h
theorem Marked.alloc (h : Marked w g t L) (o : Obj) : Marked (w.alloc o) g t L := by
  have hl := h.lt
  obtain ⟨m, hm, h⟩ := h
  exact ⟨m, hm, (Below.heap_alloc w o g hl).trans h⟩
theorem Marked.set_ (h : Marked w g t L) (i : Nat) (u : Value) : Marked (w.setCell ⟨g, i, none⟩ u) g t (L.set i u) := by
  obtain ⟨m, hm, h⟩ := h
  refine ⟨m, by simpa using hm, ?_⟩
  simp [World.setCell, Array.getElem?_modify, h]
theorem Marked.below {B : Nat} (h : Marked w g t L) (hb : Below B w w') (hg : g < B) : Marked w' g t L := by
  obtain ⟨m, hm, h⟩ := h
  exact ⟨m, hm, (hb.block g hg).trans h⟩
theorem Marked.row (h : Marked w g t L) : Row w w.heap.size (some ⟨g, 0, none⟩) L := Row.of_cells h.lt fun j u hu => by rw [Nat.zero_add, h.cell]; exact hu
end

/-- A string as a cell. -/
def sv (l : List UInt8) : Value := .string ⟨l.toArray⟩

theorem sv_one (n : List (List UInt8)) : ∀ u ∈ n.map sv, u.oneCell' = true := by
  intro u hu
  obtain ⟨x, _, rfl⟩ := List.mem_map.1 hu
  rfl
theorem Row.name_at {w : World} {H : Nat} {A : Option Addr} {n : List (List UInt8)} (h : Row w H A (n.map sv)) {k : Nat} (hk : k < n.length) :
    ∃ b off, A = some ⟨b, off, none⟩ ∧ b < H ∧ w.cell? ⟨b, off + k, none⟩ = some (.string ⟨(n[k]).toArray⟩) := by
  obtain ⟨b, off, e, hb, hc⟩ := h.at_ (k := k) (by rw [List.length_map]; exact hk)
  exact ⟨b, off, e, hb, by rw [hc]; simp [sv]⟩

/-- What a statement's argument is: a name, read in the world w. -/
def NameIn (w : World) (A : Option Addr) (n : List (List UInt8)) : Prop := Row w w.heap.size A (n.map sv) ∧ n.length ≤ 140737488351232 ∧ ∀ k (h : k < n.length), (n[k]).length ≤ maxLen

theorem bytesRow_list (l : List UInt8) (cap : Nat) : bytesRow ⟨l.toArray⟩ cap = (l.map bc ++ zerosL (.int .u8 0) (cap - l.length)).toArray := by
  unfold bytesRow zerosL
  simp
  rfl

/-- '[]byte(s)': a block of the call's own, the bytes and zeros behind them. -/
theorem wpList_bytes {P : Program} {w : World} {ops : Array Oper} {rest : List Oper} {o : Oper} {a : Act} {Q : Exit → Act → World → Prop} (hgd : o.guard = none) (x : Operand) (src dst e : TypeId) (hop : o.op = Op.convert src dst x)
    (hs : P.underlying src = some .string) (hd : P.underlying dst = some (.slice e)) (he : P.underlying e = some (.int .u8)) (l : List UInt8) (hx : a.eval x = .string ⟨l.toArray⟩)
    (h : ∀ C w', l.length ≤ C → Marked w' w.heap.size e (l.map bc ++ zerosL (.int .u8 0) (C - l.length)) → Below w.heap.size w w' → w'.heap.size = w.heap.size + 1 →
      wpList P ops Q rest (a.put o.dst (.slice (some ⟨w.heap.size, 0, none⟩) l.length C)) w') : wpList P ops Q (o :: rest) a w := by
  refine wpList_plain hgd fun K hK => ?_
  have hr := run_bytes_of_string (P := P) w src dst e ⟨l.toArray⟩ hs hd he
  have hsz : (ByteArray.mk l.toArray).size = l.length := by simp [ByteArray.size]
  rw [hsz] at hr
  unfold Oper.wp
  simp [execOp, hop, hx, hr, Result.andThen]
  refine hK _ _ (h _ _ (grownCap_ge w l.length 0 e) ?_ ?_ ?_)
  · refine ⟨(bytesRow ⟨l.toArray⟩ (grownCap w l.length 0 e)).size, ?_, ?_⟩
    · rw [bytesRow_list]; simp
    · rw [bytesRow_list]
      exact heap_alloc_new w.drew _
  · exact ((Below.refl _ w).drew).alloc (Nat.le_refl _) _
  · simp

end Go.Proofs.YtjkjhpaeckkpjaaGreat

namespace Go.Proofs.YtjkjhpaeckkpjaaGreat
open Go.ChangeShapes Go.WideShapes Go.ChangeAt Go.RowKit

theorem string_sv (s : ByteArray) : Value.string s = sv s.data.toList := by
  unfold sv
  rw [Array.toArray_toList]

theorem str_cells : Tryz.prog.cellsOf 9 = 1 := by kernel_rfl
theorem str_bytes : Tryz.prog.bytesOf 9 = 16 := by kernel_rfl

set_option maxRecDepth 20000 in
/-- An argument of strings: whatever it is, it reads as a name. -/
theorem open_row_str {H : Type} {enc : TypeId × Value → H} {W : World} {base : Nat} {t : TypeId} {v : Value} {d : DataW H} {p : List MemPlace} (hc : Tryz.prog.cellsOf 9 = 1) (ht : Tryz.prog.underlying t = some (.slice 9))
    (hval : Value.okWide Tryz.prog W .any base t v) (h : DataW.Trod enc Tryz.prog W 0 (fun _ => true) true t v d p) (hlt : ∀ x ∈ p, x.block < W.heap.size)
    {ts : List TypeId} {ds : List (DataW H)} (hsz : (DataW.weightsEach Tryz.prog ts ds).all (· ≤ reachBytes) = true) {j : Nat} (htj : ts[j]? = some t) (hdj : ds[j]? = some d) :
    ∃ (A : Option Addr) (c : Nat) (n : List (List UInt8)), v = .slice A n.length c ∧ NameIn W A n ∧ n.length ≤ c := by
  obtain ⟨a0, len, cap, rfl⟩ := okWide_slice ht hval
  obtain ⟨fuel, hf⟩ := h
  rcases open_strings ht Tryz.underlying9 hc hf with ⟨hcs, hx⟩ | ⟨a, len', cap', ss, hcs, _, hl, hm, hz, hx, hcell, hwz⟩
  · simp [Value.cells] at hcs
    obtain ⟨rfl, rfl, rfl⟩ := hcs
    exact ⟨none, 0, [], rfl, ⟨Row.empty _ _ _, Nat.zero_le _, fun k h => absurd h (Nat.not_lt_zero _)⟩, Nat.le_refl _⟩
  · simp [Value.cells] at hcs
    obtain ⟨rfl, rfl, rfl⟩ := hcs
    simp only [Prod.mk.injEq] at hx
    obtain ⟨rfl, rfl⟩ := hx
    simp only [if_true] at hz
    have hlen : ((ss.take len).map fun s => s.data.toList).length = len := by simp; omega
    have hw := sized_slice hsz htj hdj ht
    rw [str_bytes] at hw
    simp only [reachBytes] at hw
    refine ⟨some a, cap, (ss.take len).map fun s => s.data.toList, by rw [hlen], ⟨fun hne => ?_, ?_, ?_⟩, by rw [hlen]; exact hl⟩
    · have hpos : 0 < ss.length := by
        rcases ss with _ | ⟨z, zs⟩
        · simp at hne
        · simp
      obtain ⟨b, off, spot⟩ := a
      have hspot : spot = none := by simpa [Addr.add] using World.cell?_spot (hcell 0 hpos)
      subst hspot
      refine ⟨b, off, rfl, hlt (.cell b off) (MemPlace.mem_row.2 ⟨0, hpos, by simp⟩), fun j u hu => ?_⟩
      have hjl : j < len := by
        have := (List.getElem?_eq_some_iff.1 hu).1
        simp at this
        omega
      have hj : j < ss.length := by omega
      have h1 := hcell j hj
      rw [addr_add] at h1
      rw [h1]
      have e : ss.getD j ByteArray.empty = ss[j] := by simp [List.getD, List.getElem?_eq_getElem hj]
      rw [List.getElem?_map, List.getElem?_map, List.getElem?_take, if_pos hjl, List.getElem?_eq_getElem hj] at hu
      simp only [Option.map_some] at hu
      rw [← hu, e, string_sv]
    · rw [hlen]
      simp [strs] at hw
      omega
    · intro k hk
      have hk' : k < ss.length := by rw [hlen] at hk; omega
      have h2 := hwz ss[k] (List.getElem_mem hk')
      simpa using h2

end Go.Proofs.YtjkjhpaeckkpjaaGreat

namespace Go.Proofs.YtjkjhpaeckkpjaaGreat
open Go.RowKit

/-- What a statement's argument of names is. -/
def NamesIn (w : World) (H : Nat) (A : Option Addr) (vs : List Value) (ns : List (List (List UInt8))) : Prop :=
  Row w H A vs ∧ vs.length = ns.length ∧ ∀ k, k < ns.length → ∃ Ak ck, vs[k]? = some (.slice Ak (ns.getD k []).length ck) ∧ Row w H Ak ((ns.getD k []).map sv) ∧ (ns.getD k []).length ≤ maxLen ∧ ∀ i (h : i < (ns.getD k []).length), ((ns.getD k [])[i]).length ≤ maxLen
theorem NamesIn.below {w w' : World} {H : Nat} {A : Option Addr} {vs : List Value} {ns : List (List (List UInt8))} (h : NamesIn w H A vs ns) (hb : Below H w w') : NamesIn w' H A vs ns := by
  obtain ⟨h1, h2, h3⟩ := h
  refine ⟨h1.below hb, h2, fun k hk => ?_⟩
  obtain ⟨Ak, ck, h4, h5, h6⟩ := h3 k hk
  exact ⟨Ak, ck, h4, h5.below hb, h6⟩
/-- The k-th name's cell, and what it leads to. -/
theorem NamesIn.at_ {w : World} {H : Nat} {A : Option Addr} {vs : List Value} {ns : List (List (List UInt8))} (h : NamesIn w H A vs ns) {k : Nat} (hk : k < ns.length) :
    ∃ b off Ak ck, A = some ⟨b, off, none⟩ ∧ b < H ∧ w.cell? ⟨b, off + k, none⟩ = some (.slice Ak (ns.getD k []).length ck) ∧ Row w H Ak ((ns.getD k []).map sv) ∧ (ns.getD k []).length ≤ maxLen ∧ ∀ i (h : i < (ns.getD k []).length), ((ns.getD k [])[i]).length ≤ maxLen := by
  obtain ⟨h1, h2, h3⟩ := h
  obtain ⟨Ak, ck, h4, h5, h6⟩ := h3 k hk
  obtain ⟨b, off, rfl, hb, hc⟩ := h1.some_ (by omega)
  exact ⟨b, off, Ak, ck, rfl, hb, hc k _ h4, h5, h6⟩

end Go.Proofs.YtjkjhpaeckkpjaaGreat

namespace Go.Proofs.YtjkjhpaeckkpjaaGreat
open Go.ChangeShapes Go.WideShapes Go.ChangeAt Go.RowKit

set_option maxRecDepth 20000 in
/-- A name as it is read: whatever it is. -/
theorem read_name {H : Type} {enc : TypeId × Value → H} {W : World} {fuel : Nat} {v : Value} {x : DataW H × List MemPlace} (hc : Tryz.prog.cellsOf 9 = 1)
    (h : DataW.trod enc Tryz.prog W 0 (fun _ => true) true fuel 37 [v] = some x) (hlt : ∀ y ∈ x.2, y.block < W.heap.size) :
    ∃ (A : Option Addr) (c : Nat) (n : List (List UInt8)), v = .slice A n.length c ∧ Row W W.heap.size A (n.map sv) ∧ n.length ≤ maxLen ∧ (∀ k (h : k < n.length), (n[k]).length ≤ maxLen) ∧ n.length ≤ c := by
  rcases open_strings Tryz.underlying37 Tryz.underlying9 hc h with ⟨hcs, hx⟩ | ⟨a, len, cap, ss, hcs, _, hl, hm, hz, hx, hcell, hwz⟩
  · exact ⟨none, 0, [], by simpa using hcs, Row.empty _ _ _, Nat.zero_le _, fun k h => absurd h (Nat.not_lt_zero _), Nat.le_refl _⟩
  · simp only [List.cons.injEq, and_true] at hcs
    subst hcs
    subst hx
    simp only [if_true] at hz
    have hlen : ((ss.take len).map fun s => s.data.toList).length = len := by simp; omega
    refine ⟨some a, cap, (ss.take len).map fun s => s.data.toList, by rw [hlen], fun hne => ?_, by rw [hlen]; omega, ?_, by rw [hlen]; exact hl⟩
    · have hpos : 0 < ss.length := by
        rcases ss with _ | ⟨z, zs⟩
        · simp at hne
        · simp
      obtain ⟨b, off, spot⟩ := a
      have hspot : spot = none := by simpa [Addr.add] using World.cell?_spot (hcell 0 hpos)
      subst hspot
      refine ⟨b, off, rfl, hlt (.cell b off) (MemPlace.mem_row.2 ⟨0, hpos, by simp⟩), fun j u hu => ?_⟩
      have hjl : j < len := by
        have := (List.getElem?_eq_some_iff.1 hu).1
        simp at this
        omega
      have hj : j < ss.length := by omega
      have h1 := hcell j hj
      rw [addr_add] at h1
      rw [h1]
      have e : ss.getD j ByteArray.empty = ss[j] := by simp [List.getD, List.getElem?_eq_getElem hj]
      rw [List.getElem?_map, List.getElem?_map, List.getElem?_take, if_pos hjl, List.getElem?_eq_getElem hj] at hu
      simp only [Option.map_some] at hu
      rw [← hu, e, string_sv]
    · intro k hk
      have hk' : k < ss.length := by rw [hlen] at hk; omega
      have h2 := hwz ss[k] (List.getElem_mem hk')
      simpa using h2

theorem names_cells : Tryz.prog.cellsOf 37 = 1 := by kernel_rfl

set_option maxRecDepth 20000 in
/-- An argument of names: whatever it is, it reads as names; and no slice is longer than its room. -/
theorem open_row_namesC {H : Type} {enc : TypeId × Value → H} {W : World} {base : Nat} {t : TypeId} {v : Value} {d : DataW H} {p : List MemPlace} (ht : Tryz.prog.underlying t = some (.slice 37))
    (hval : Value.okWide Tryz.prog W .any base t v) (h : DataW.Trod enc Tryz.prog W 0 (fun _ => true) true t v d p) (hlt : ∀ x ∈ p, x.block < W.heap.size) :
    ∃ (A : Option Addr) (c : Nat) (vs : List Value) (ns : List (List (List UInt8))), v = .slice A ns.length c ∧ NamesIn W W.heap.size A vs ns ∧ ns.length ≤ c ∧ c ≤ maxLen ∧ ∀ (k : Nat) (A' : Option Addr) (m' c' : Nat), vs[k]? = some (Value.slice A' m' c') → m' ≤ c' := by
  obtain ⟨a0, len, cap, rfl⟩ := okWide_slice ht hval
  obtain ⟨fuel, hf⟩ := h
  rcases Deep.open_slice1 ht names_cells hf with ⟨hcs, hx⟩ | ⟨a, len', cap', m, n, V, D, Pl, hcs, _, hl, hm, hmm, hx, hy⟩
  · simp [Value.cells] at hcs
    obtain ⟨rfl, rfl, rfl⟩ := hcs
    exact ⟨none, 0, [], [], rfl, ⟨Row.empty _ _ _, rfl, fun k h => absurd h (Nat.not_lt_zero _)⟩, Nat.le_refl _, Nat.zero_le _, fun k A' m' c' h => by simp at h⟩
  · simp [Value.cells] at hcs
    obtain ⟨rfl, rfl, rfl⟩ := hcs
    simp only [if_true] at hmm
    subst hmm
    simp only [Prod.mk.injEq] at hx
    obtain ⟨rfl, rfl⟩ := hx
    have each : ∀ i, i < len → ∃ y : Option Addr × Nat × List (List UInt8), V i = .slice y.1 y.2.2.length y.2.1 ∧ Row W W.heap.size y.1 (y.2.2.map sv) ∧ y.2.2.length ≤ maxLen ∧ (∀ k (h : k < y.2.2.length), (y.2.2[k]).length ≤ maxLen) ∧ y.2.2.length ≤ y.2.1 := by
      intro i hi
      obtain ⟨A, c, n', h1, h2, h3, h4, h5⟩ := read_name str_cells (hy i (by omega)).2 (fun y hy' => hlt y (List.mem_append_right _ (List.mem_flatMap.2 ⟨i, List.mem_range.2 (by omega), hy'⟩)))
      exact ⟨(A, c, n'), h1, h2, h3, h4, h5⟩
    obtain ⟨Y, hY⟩ := Deep.choose_lt each
    have hnl : ((List.range len).map fun i => (Y i).2.2).length = len := by simp
    refine ⟨some a, m, (List.range len).map V, (List.range len).map fun i => (Y i).2.2, by rw [hnl], ⟨fun hne => ?_, by simp, fun k hk => ?_⟩, by rw [hnl]; exact hl, hm, fun k A' m' c' hv => ?_⟩
    · have hpos : 0 < len := by
        rcases len with _ | k
        · simp at hne
        · omega
      obtain ⟨b, off, spot⟩ := a
      have hspot : spot = none := by simpa [Addr.add] using World.cell?_spot (hy 0 (by omega)).1
      subst hspot
      refine ⟨b, off, rfl, hlt (.cell b off) (List.mem_append_left _ (MemPlace.mem_row.2 ⟨0, by omega, by simp⟩)), fun j u hu => ?_⟩
      have hjl : j < len := by
        have := (List.getElem?_eq_some_iff.1 hu).1
        simpa using this
      have h1 := (hy j (by omega)).1
      rw [addr_add] at h1
      rw [h1]
      rw [List.getElem?_map, List.getElem?_range hjl] at hu
      exact hu
    · rw [hnl] at hk
      have hg : ((List.range len).map fun i => (Y i).2.2).getD k [] = (Y k).2.2 := by simp [List.getD, hk]
      rw [hg]
      obtain ⟨h1, h2, h3, h4, _⟩ := hY k hk
      exact ⟨(Y k).1, (Y k).2.1, by simp [hk, h1], h2, h3, h4⟩
    · by_cases hk : k < len
      · rw [List.getElem?_map, List.getElem?_range hk] at hv
        obtain ⟨h1, _, _, _, h5⟩ := hY k hk
        simp only [Option.map_some, Option.some.injEq] at hv
        rw [h1] at hv
        injection hv with e1 e2 e3
        omega
      · rw [List.getElem?_eq_none (by simp; omega)] at hv
        cases hv
set_option maxRecDepth 20000 in
/-- An argument of names: whatever it is, it reads as names. -/
theorem open_row_names {H : Type} {enc : TypeId × Value → H} {W : World} {base : Nat} {t : TypeId} {v : Value} {d : DataW H} {p : List MemPlace} (ht : Tryz.prog.underlying t = some (.slice 37))
    (hval : Value.okWide Tryz.prog W .any base t v) (h : DataW.Trod enc Tryz.prog W 0 (fun _ => true) true t v d p) (hlt : ∀ x ∈ p, x.block < W.heap.size) :
    ∃ (A : Option Addr) (c : Nat) (vs : List Value) (ns : List (List (List UInt8))), v = .slice A ns.length c ∧ NamesIn W W.heap.size A vs ns ∧ ns.length ≤ c ∧ c ≤ maxLen := by
  obtain ⟨A, c, vs, ns, h1, h2, h3, h4, _⟩ := open_row_namesC ht hval h hlt
  exact ⟨A, c, vs, ns, h1, h2, h3, h4⟩

end Go.Proofs.YtjkjhpaeckkpjaaGreat

namespace Go.Proofs.YtjkjhpaeckkpjaaGreat
open Go.RowKit

/-- A small letter for a capital one. -/
def lowB (c : UInt8) : UInt8 := if 65 ≤ c.toNat ∧ c.toNat ≤ 90 then c + 32 else c
def lowL (l : List UInt8) : List UInt8 := l.map lowB
def lowN (n : List (List UInt8)) : List (List UInt8) := n.map lowL
theorem lowB_up {c : UInt8} (h1 : 65 ≤ c.toNat) (h2 : c.toNat ≤ 90) : (lowB c).toNat = c.toNat + 32 := by
  unfold lowB
  rw [if_pos ⟨h1, h2⟩, UInt8.toNat_add]
  simp
  omega
theorem lowB_no {c : UInt8} (h : ¬ (65 ≤ c.toNat ∧ c.toNat ≤ 90)) : lowB c = c := by
  unfold lowB
  rw [if_neg h]
theorem lowB_lowB (c : UInt8) : lowB (lowB c) = lowB c := by
  by_cases h : 65 ≤ c.toNat ∧ c.toNat ≤ 90
  · exact lowB_no (by rw [lowB_up h.1 h.2]; omega)
  · rw [lowB_no h, lowB_no h]
theorem lowL_lowL (l : List UInt8) : lowL (lowL l) = lowL l := by
  unfold lowL
  rw [List.map_map]
  exact List.map_congr_left fun c _ => lowB_lowB c
theorem lowN_lowN (n : List (List UInt8)) : lowN (lowN n) = lowN n := by
  unfold lowN
  rw [List.map_map]
  exact List.map_congr_left fun c _ => lowL_lowL c
theorem length_lowL (l : List UInt8) : (lowL l).length = l.length := by simp [lowL]
theorem length_lowN (n : List (List UInt8)) : (lowN n).length = n.length := by simp [lowN]

/-- The bytes l, the first k of them small, as cells; Z behind. -/
def lowUpto (l : List UInt8) (k : Nat) (Z : List Value) : List Value := ((l.take k).map lowB ++ l.drop k).map bc ++ Z
theorem lowUpto_zero (l : List UInt8) (Z : List Value) : lowUpto l 0 Z = l.map bc ++ Z := by simp [lowUpto]
theorem lowUpto_at {l : List UInt8} {k : Nat} (Z : List Value) (h : k < l.length) : (lowUpto l k Z)[k]? = some (bc l[k]) := by
  have h1 : k ≤ l.length := Nat.le_of_lt h
  simp [lowUpto, List.getElem?_append, h, Nat.min_eq_left h1]
  omega
theorem length_lowUpto (l : List UInt8) (k : Nat) (Z : List Value) : (lowUpto l k Z).length = l.length + Z.length := by
  simp [lowUpto]; omega
theorem lowUpto_succ {l : List UInt8} {k : Nat} (Z : List Value) (h : k < l.length) : lowUpto l (k + 1) Z = (lowUpto l k Z).set k (bc (lowB l[k])) := by
  apply List.ext_getElem?
  intro i
  have h1 : k ≤ l.length := Nat.le_of_lt h
  have h2 : k + 1 ≤ l.length := h
  rw [List.getElem?_set]
  simp only [lowUpto, List.getElem?_append, List.length_map, List.length_append, List.length_take, List.length_drop, List.getElem?_map, List.getElem?_take, List.getElem?_drop, Nat.min_eq_left h1, Nat.min_eq_left h2]
  by_cases hi : k = i
  · subst hi
    rw [if_pos (by omega), if_pos (by omega), if_pos (by omega), if_pos rfl, if_pos (by omega)]
    simp [h]
  · rw [if_neg hi]
    by_cases hlt : i < k
    · rw [if_pos (by omega), if_pos (by omega), if_pos (by omega), if_pos (by omega), if_pos (by omega), if_pos (by omega)]
    · by_cases hl : i < l.length
      · rw [if_pos (by omega), if_neg (by omega), if_pos (by omega), if_neg (by omega)]
        congr 1
        rw [show k + 1 + (i - (k + 1)) = i from by omega, show k + (i - k) = i from by omega]
      · rw [if_neg (by omega), if_neg (by omega)]
        congr 1
        omega
theorem lowUpto_same {l : List UInt8} {k : Nat} (Z : List Value) (h : k < l.length) (e : lowB l[k] = l[k]) : lowUpto l (k + 1) Z = lowUpto l k Z := by
  rw [lowUpto_succ Z h, e]
  apply List.ext_getElem?
  intro i
  rw [List.getElem?_set]
  split
  · rename_i hi
    subst hi
    rw [lowUpto_at Z h, if_pos (by rw [length_lowUpto]; omega)]
  · rfl
theorem lowUpto_all (l : List UInt8) (Z : List Value) : (lowUpto l l.length Z).take l.length = (lowL l).map bc := by
  simp [lowUpto, lowL]

/-- How many bytes a name takes. -/
def szN : List (List UInt8) → Nat
  | [] => 1
  | l :: n => l.length + 1 + szN n
theorem szN_snoc (n : List (List UInt8)) (l : List UInt8) : szN (n ++ [l]) = szN n + (l.length + 1) := by
  induction n with
  | nil => simp [szN]; omega
  | cons x n ih => simp [szN, ih]; omega
theorem szN_le (B : Nat) : ∀ (n : List (List UInt8)), (∀ l ∈ n, l.length ≤ B) → szN n ≤ n.length * (B + 1) + 1
  | [], _ => by simp [szN]
  | l :: n, h => by
    have h1 := szN_le B n fun x hx => h x (List.mem_cons_of_mem _ hx)
    have h2 := h l (List.mem_cons_self ..)
    simp only [szN, List.length_cons, Nat.add_mul, Nat.one_mul]
    omega
theorem szN_take_succ {n : List (List UInt8)} {k : Nat} (h : k < n.length) : szN (n.take (k + 1)) = szN (n.take k) + ((n[k]).length + 1) := by
  rw [List.take_succ_eq_append_getElem h, szN_snoc]
theorem szN_take_le (n : List (List UInt8)) (k : Nat) : szN (n.take k) ≤ szN n := by
  induction n generalizing k with
  | nil => simp
  | cons x n ih =>
    cases k with
    | zero => simp [szN]; omega
    | succ k => simp only [List.take_succ_cons, szN]; have := ih k; omega
theorem szN_pos (n : List (List UInt8)) : 1 ≤ szN n := by
  cases n <;> simp [szN]; omega
theorem len_le_szN {n : List (List UInt8)} {k : Nat} (h : k < n.length) : (n[k]).length + 1 < szN n := by
  have h1 := szN_take_succ h
  have h2 := szN_take_le n (k + 1)
  have h3 := szN_pos (n.take k)
  omega
theorem length_lt_szN (n : List (List UInt8)) : n.length < szN n := by
  induction n with
  | nil => simp [szN]
  | cons x n ih => simp only [List.length_cons, szN]; omega
/-- May a label be? -/
def fitL (l : List UInt8) : Bool := decide (1 ≤ l.length ∧ l.length ≤ 63)
/-- May a name be? -/
def soundN (n : List (List UInt8)) : Bool := n.all fitL && decide (szN n ≤ 255)
theorem szN_ge : ∀ (n : List (List UInt8)), n.all fitL = true → 2 * n.length + 1 ≤ szN n
  | [], _ => by simp [szN]
  | l :: n, h => by
    simp only [List.all_cons, Bool.and_eq_true] at h
    have h1 := szN_ge n h.2
    have h2 : 1 ≤ l.length := by have := h.1; simp [fitL] at this; omega
    simp only [szN, List.length_cons]
    omega
theorem soundN_long {n : List (List UInt8)} (h : 127 < n.length) : soundN n = false := by
  cases ha : n.all fitL
  · simp [soundN, ha]
  · have := szN_ge n ha
    simp [soundN]
    intro _
    omega

/-- Is a name not too large for a statement? -/
def lightN (n : List (List UInt8)) : Bool := n.all (fun l => decide (l.length ≤ 3000)) && decide (n.length ≤ 600) && decide (szN n < n.length + 20001)
theorem lightN_sz {n : List (List UInt8)} (h : lightN n = true) : szN n ≤ 20600 ∧ n.length ≤ 600 := by
  simp only [lightN, Bool.and_eq_true, decide_eq_true_eq] at h
  omega
theorem lightN_len {n : List (List UInt8)} (h : lightN n = true) {k : Nat} (hk : k < n.length) : (n[k]).length ≤ 3000 := by
  simp only [lightN, Bool.and_eq_true, decide_eq_true_eq, List.all_eq_true] at h
  exact h.1.1 _ (List.getElem_mem hk)

end Go.Proofs.YtjkjhpaeckkpjaaGreat

namespace Go.Proofs.YtjkjhpaeckkpjaaGreat
open Go.RowKit

theorem str_info : (Tryz.prog.info? 9).map (fun i => (i.zero, i.size, i.bytes)) = some (some (.string ⟨#[]⟩), 1, 16) := by kernel_rfl

/-- The call answers a slice of strings of its own, which reads as n; nothing that was there has turned. -/
def OwnedS (w : World) (n : List (List UInt8)) (e : Ending) (w' : World) : Prop :=
  ∃ A c, e = .returned (.slice A n.length c) ∧ w'.ownsRow w.heap.size 9 1 (.slice A n.length c) n.length (n.map sv) ∧ Below w.heap.size w w'

theorem take_eq_snocS {xs ys : List (List UInt8)} {k : Nat} (h : xs.take k = ys.take k) (hx : k < xs.length) (hy : k < ys.length) (e : xs[k] = ys[k]) : xs.take (k + 1) = ys.take (k + 1) := by
  rw [List.take_succ_eq_append_getElem hx, List.take_succ_eq_append_getElem hy, h, e]

def ExactRel (w : World) (xs ys : List (List UInt8)) (i : Value) (wr : World) : Prop := ∃ k : Nat, k ≤ xs.length ∧ i = .int .i64 k ∧ xs.take k = ys.take k ∧ ∃ j, wr = w.drewN j

set_option maxHeartbeats 400000 in
theorem exact_ne (A B : Option Addr) (n m c d : Nat) (w : World) (h : n ≠ m) :
    Calls Tryz.prog 39 #[.slice A n c, .slice B m d] w (Drewn w (.bool false)) := by
  have h1 : ((n : Int) != (m : Int)) = true := by rw [bne_iff_ne]; omega
  go_enter Tryz.func39, Tryz.ntmps39
  go_wp2
  go_ret
  exact ⟨rfl, 0, rfl⟩

set_option maxHeartbeats 400000 in
theorem exact_len (A B : Option Addr) (n c d H : Nat) (xs ys : List (List UInt8)) (w : World) (hx : xs.length = n) (hy : ys.length = n) (hA : Row w H A (xs.map sv)) (hB : Row w H B (ys.map sv)) (hm : n ≤ maxLen) :
    Calls Tryz.prog 39 #[.slice A n c, .slice B n d] w (Drewn w (.bool (decide (xs = ys)))) := by
  unfold maxLen at hm
  have h1 : ((n : Int) != (n : Int)) = false := by simp
  have HX := Lib.hid hx
  have HY := Lib.hid hy
  have HA := Lib.hid hA
  have HB := Lib.hid hB
  clear hx hy hA hB
  go_enter Tryz.func39, Tryz.ntmps39
  go_wp2
  go_loopw [5] (ExactRel w xs ys) (fun i _ => n - (intOf i).toNat)
  case atStart => exact ⟨0, by omega, rfl, by simp, 0, rfl⟩
  case round =>
    obtain ⟨k, hk, rfl, hkt, j, rfl⟩ := hrel
    have HKT := Lib.hid hkt
    clear hkt
    by_cases hlt : k < n
    · have hkx : k < xs.length := by rw [HX.out]; exact hlt
      have hky : k < ys.length := by rw [HY.out]; exact hlt
      obtain ⟨b, off, rfl, _, hca⟩ := HA.out.name_at hkx
      obtain ⟨b', off', rfl, _, hcb⟩ := HB.out.name_at hky
      by_cases he : xs[k] = ys[k]
      · have HE := Lib.hid he
        have hne : ((xs[k]) == (ys[k])) = true := by rw [he]; simp
        clear he
        go_wp2
        go_quiet (fail)
        go_wp2
        refine ⟨⟨k + 1, by rw [HX.out]; omega, by go_num, take_eq_snocS HKT.out hkx hky HE.out, _, rfl⟩, by simp [intOf]; omega⟩
      · have HE := Lib.hid he
        have hne : ((xs[k]) == (ys[k])) = false := by
          rw [beq_eq_false_iff_ne]; exact he
        have hf : decide (xs = ys) = false := by
          rw [decide_eq_false_iff_not]; rintro rfl; exact he rfl
        have HF := Lib.hid hf
        clear he hf
        go_wp2
        go_quiet (fail)
        go_wp2
        go_ret
        exact ⟨by rw [HF.out]; rfl, j + nq, by rw [World.drewN_drewN]⟩
    · obtain rfl : k = n := by have := HX.out; omega
      have ht : decide (xs = ys) = true := by
        rw [decide_eq_true_eq]
        have := HKT.out
        rwa [List.take_of_length_le (by rw [HX.out]; omega), List.take_of_length_le (by rw [HY.out]; omega)] at this
      have HF := Lib.hid ht
      clear ht
      go_wp2
      go_ret
      exact ⟨by rw [HF.out]; rfl, _, rfl⟩

theorem exact_any (A B : Option Addr) (n m c d H : Nat) (xs ys : List (List UInt8)) (w : World) (hx : xs.length = n) (hy : ys.length = m) (hA : Row w H A (xs.map sv)) (hB : Row w H B (ys.map sv)) (hm : n ≤ maxLen) :
    Calls Tryz.prog 39 #[.slice A n c, .slice B m d] w (Drewn w (.bool (decide (xs = ys)))) := by
  by_cases h : n = m
  · subst h
    exact exact_len A B n c d H xs ys w hx hy hA hB hm
  · have hf : decide (xs = ys) = false := by
      rw [decide_eq_false_iff_not]; rintro rfl; omega
    rw [hf]
    exact exact_ne A B n m c d w h

end Go.Proofs.YtjkjhpaeckkpjaaGreat

namespace Go.Proofs.YtjkjhpaeckkpjaaGreat
open Go.RowKit

structure Grew (F : Nat → Prop) (w w' : World) : Prop where
  os : w'.os = w.os
  tape : w'.tape = w.tape
  output : w'.output = w.output
  size : w.heap.size ≤ w'.heap.size
  block : ∀ k, k < w.heap.size → ¬ F k → w'.heap[k]? = w.heap[k]?

section
variable {F G : Nat → Prop} {w w' w'' : World}
theorem Grew.refl (F : Nat → Prop) (w : World) : Grew F w w := ⟨rfl, rfl, rfl, Nat.le_refl _, fun _ _ _ => rfl⟩
theorem Grew.trans (h : Grew F w w') (k : Grew G w' w'') (hG : ∀ j, G j → F j ∨ w.heap.size ≤ j) : Grew F w w'' :=
  ⟨k.os.trans h.os, k.tape.trans h.tape, k.output.trans h.output, Nat.le_trans h.size k.size, fun j hj hF =>
    (k.block j (Nat.lt_of_lt_of_le hj h.size) (fun hg => by rcases hG j hg with h1 | h1; exact hF h1; omega)).trans (h.block j hj hF)⟩
theorem Grew.mono (h : Grew F w w') (hG : ∀ j, F j → G j ∨ w.heap.size ≤ j) : Grew G w w' :=
  ⟨h.os, h.tape, h.output, h.size, fun j hj hg => h.block j hj (fun hf => by rcases hG j hf with h1 | h1; exact hg h1; omega)⟩
theorem Grew.of_below {B : Nat} (h : Below B w w') (hF : ∀ j, B ≤ j → F j ∨ w.heap.size ≤ j) : Grew F w w' :=
  ⟨h.os, h.tape, h.output, h.size, fun j hj hf => h.block j (by rcases Nat.lt_or_ge j B with h1 | h1; exact h1; rcases hF j h1 with h2 | h2; exact absurd h2 hf; omega)⟩
theorem Grew.all (h : Below w.heap.size w w') : Grew F w w' := Grew.of_below h fun _ hj => .inr hj
theorem Grew.below (h : Grew F w w') {B : Nat} (hF : ∀ j, F j → B ≤ j) (hB : B ≤ w.heap.size) : Below B w w' :=
  ⟨h.os, h.tape, h.output, h.size, fun k hk => h.block k (Nat.lt_of_lt_of_le hk hB) (fun hf => by have := hF k hf; omega)⟩
theorem Grew.of_grown {row : Option Nat} (h : w.grownBy w' row) (hF : ∀ j, row = some j → F j ∨ w.heap.size ≤ j) : Grew F w w' :=
  ⟨h.os, h.tape, h.output, h.size, fun k hk hf => h.block k hk (fun e => by rcases hF k e.symm with h1 | h1; exact hf h1; omega)⟩
theorem Grew.alloc (h : Grew F w w') (o : Obj) : Grew F w (w'.alloc o) := h.trans (G := fun _ => False) (Grew.all ((Below.refl _ _).alloc (Nat.le_refl _) o)) (fun _ h => h.elim)
theorem Grew.drewN (h : Grew F w w') (n : Nat) : Grew F w (w'.drewN n) := ⟨h.os, h.tape, h.output, h.size, h.block⟩
theorem Grew.setCell (h : Grew F w w') {a : Addr} (ha : F a.block ∨ w.heap.size ≤ a.block) (u : Value) : Grew F w (w'.setCell a u) :=
  ⟨h.os, h.tape, h.output, by simpa using h.size, fun k hk hf => (Below.heap_setCell w' a u k (fun e => by rcases ha with h1 | h1; exact hf (e ▸ h1); omega)).trans (h.block k hk hf)⟩
theorem Grew.grown (h : Grew F w w') {row : Option Nat} (hg : w'.grownBy w'' row) (hr : ∀ j, row = some j → F j ∨ w.heap.size ≤ j) : Grew F w w'' :=
  h.trans (G := fun j => row = some j) (Grew.of_grown hg fun _ h => .inl h) hr
theorem Grew.then_below (h : Grew F w w') (hb : Below w'.heap.size w' w'') : Grew F w w'' :=
  h.trans (G := fun _ => False) (Grew.all hb) (fun _ h => h.elim)

/-- A row of the call's own stays, if its block does. -/
theorem own_keep {base : Nat} {e : TypeId} {size n : Nat} {v : Value} {xs : List Value} (h : w.ownsRow base e size v n xs) (hk : ∀ g, v.ownBlock = some g → w'.heap[g]? = w.heap[g]?) : w'.ownsRow base e size v n xs := by
  obtain ⟨h1, h2⟩ := h
  refine ⟨h1, ?_⟩
  rcases h2 with h2 | ⟨g, cap, cur, rfl, hg, hh, r⟩
  · exact .inl h2
  · exact .inr ⟨g, cap, cur, rfl, hg, (hk g rfl).trans hh, r⟩
theorem own_grew {base : Nat} {e : TypeId} {size n : Nat} {v : Value} {xs : List Value} (h : w.ownsRow base e size v n xs) (hg : Grew F w w') (hf : ∀ g, v.ownBlock = some g → ¬ F g) : w'.ownsRow base e size v n xs :=
  own_keep h fun g hv => hg.block g (h.lt g hv).2 (hf g hv)
theorem own_mono {base base' : Nat} {e : TypeId} {size n : Nat} {v : Value} {xs : List Value} (h : w.ownsRow base e size v n xs) (hb : base' ≤ base) : w.ownsRow base' e size v n xs := by
  obtain ⟨h1, h2⟩ := h
  refine ⟨h1, ?_⟩
  rcases h2 with h2 | ⟨g, cap, cur, rfl, hg, r⟩
  · exact .inl h2
  · exact .inr ⟨g, cap, cur, rfl, Nat.le_trans hb hg, r⟩
theorem Whole.keep {g : Nat} {t : TypeId} {L : List Value} (h : Whole w g t L) (hk : w'.heap[g]? = w.heap[g]?) : Whole w' g t L := hk.trans h
theorem Whole.grew {g : Nat} {t : TypeId} {L : List Value} (h : Whole w g t L) (hg : Grew F w w') (hf : ¬ F g) : Whole w' g t L := h.keep (hg.block g h.lt hf)
theorem Row.grew {H : Nat} {A : Option Addr} {xs : List Value} (h : Row w H A xs) (hg : Grew F w w') (hH : H ≤ w.heap.size) (hf : ∀ j, F j → H ≤ j) : Row w' H A xs :=
  h.below (hg.below hf hH)
/-- A row of other elements is another block. -/
theorem own_not_whole {base : Nat} {e t : TypeId} {size n g : Nat} {v : Value} {xs L : List Value} (h : w.ownsRow base e size v n xs) (hw : Whole w g t L) (ht : e ≠ t) : v.ownBlock ≠ some g := by
  intro hv
  rcases h.2 with ⟨rfl, _⟩ | ⟨g', cap, cur, rfl, _, hh, _⟩
  · cases hv
  · simp [Value.ownBlock] at hv
    subst hv
    unfold Whole at hw
    rw [hw] at hh
    simp at hh
    exact ht hh.2.symm
/-- A store into a row of the call's own. -/
theorem own_store {base g : Nat} {e : TypeId} {n c : Nat} {xs : List Value} (h : w.ownsRow base e 1 (.slice (some ⟨g, 0, none⟩) n c) n xs) {k : Nat} (_hk : k < n) (u : Value) :
    (w.setCell ⟨g, k, none⟩ u).ownsRow base e 1 (.slice (some ⟨g, 0, none⟩) n c) n (xs.set k u) := by
  obtain ⟨h1, h2⟩ := h
  refine ⟨by simpa using h1, ?_⟩
  rcases h2 with ⟨hv, _⟩ | ⟨g', cap, cur, hv, hg, hh, h3, h4, h5, h6⟩
  · cases hv
  · injection hv with hv _ hc
    injection hv with hv
    injection hv with hv
    subst hv
    subst hc
    refine .inr ⟨g, c, cur.setIfInBounds k u, rfl, hg, ?_, h3, h4, by simpa using h5, ?_⟩
    · simp [World.setCell, Array.getElem?_modify, hh]
    · rw [← h6]
      simp [List.take_set]
theorem own_cell {base g : Nat} {e : TypeId} {n c : Nat} {xs : List Value} {size : Nat} (h : w.ownsRow base e size (.slice (some ⟨g, 0, none⟩) n c) n xs) {k : Nat} (hk : k < xs.length) : w.cell? ⟨g, k, none⟩ = some xs[k] := by
  have h1 := h.cells (g := g) rfl k _ (List.getElem?_eq_getElem hk)
  rwa [addr_add, Nat.zero_add] at h1
theorem own_frozen {base g : Nat} {e : TypeId} {size n c : Nat} {xs : List Value} (h : w.ownsRow base e size (.slice (some ⟨g, 0, none⟩) n c) n xs) (k : Nat) : w.frozen? ⟨g, k, none⟩ = false := by
  rcases h.2 with ⟨hv, _⟩ | ⟨g', cap, cur, hv, hg, hh, _⟩
  · cases hv
  · injection hv with hv _ hc
    injection hv with hv
    injection hv with hv
    subst hv
    simp [World.frozen?, hh]
end

/-- append onto a row of the call's own, as wpList_append_row; it says where the new row lies. -/
theorem wpList_append_at {P : Program} {w : World} {ops : Array Oper} {rest : List Oper} {o : Oper} {a : Act} {Q : Exit → Act → World → Prop} (hgd : Region.wanted o (yielded ops a.tmps) = true) (s x : Operand) (t : TypeId)
    (ho : o.op = .call { callee := .builtin .append, args := #[s, x], argTypes := #[t, t] })
    (base : Nat) (e : TypeId) (i : TypeInfo) (z : Value) (size bytes : Nat) (ht : P.underlying t = some (.slice e)) (hi : P.info? e = some i) (hz : i.zero = some z)
    (hsize : i.size = size) (hby : i.bytes = bytes) (hzs : z.cells.size = size) (hsz : 0 < size)
    (v : Value) (n : Nat) (xs : List Value) (hs : a.eval s = v) (hown : w.ownsRow base e size v n xs)
    (A : Option Addr) (m c H : Nat) (news : List Value) (hx : a.eval x = .slice A m c) (hl : news.length = m * size) (hr : Row w H A news) (h1 : ∀ u ∈ news, u.oneCell' = true)
    (h63 : n + m ≤ maxLen) (hbytes : (n + m) * bytes ≤ 140737488355328) (hbase : base ≤ w.heap.size)
    (h : ∀ v' w', w'.ownsRow base e size v' (n + m) (xs ++ news) → w.grownBy w' v.ownBlock → (v'.ownBlock = v.ownBlock ∨ v'.ownBlock = some w.heap.size) → wpList P ops Q rest (a.put o.dst v') w') : wpList P ops Q (o :: rest) a w := by
  have key : ∃ v' w', (Builtin.append_ #[t, t] o.type #[v, .slice A m c]).run P w = .ok v' w' ∧ w'.ownsRow base e size v' (n + m) (xs ++ news) ∧ w.grownBy w' v.ownBlock ∧ (v'.ownBlock = v.ownBlock ∨ v'.ownBlock = some w.heap.size) := by
    rcases A with _ | ad
    · have hn : news = [] := by
        rcases news with _ | ⟨u, us⟩
        · rfl
        · obtain ⟨_, _, h, _⟩ := hr (by simp)
          cases h
      have hm : m = 0 := by
        subst hn
        rcases Nat.eq_zero_or_pos m with h0 | h0
        · exact h0
        · have := Nat.mul_pos h0 hsz
          simp at hl; omega
      subst hn; subst hm
      exact ⟨v, w, append_nil_run (P := P) w base t o.type e i size ht hi v n xs hown c, by simpa using hown, World.grownBy.refl w _, .inl rfl⟩
    · have hc : ∀ j u, news[j]? = some u → w.cell? (ad.add j) = some u := by
        intro j u hu
        obtain ⟨b, off, e, _, hc⟩ := hr (fun e => by rw [e] at hu; simp at hu)
        injection e with e
        subst e
        rw [addr_add]
        exact hc j u hu
      obtain ⟨v', w', h2, h3, h4, _, h6⟩ := run_append_own_at (P := P) w base t o.type e i z size bytes ht hi hz hsize hby hzs hsz v n xs hown ad m c news hl hc h1 h63 hbytes hbase
      exact ⟨v', w', h2, h3, h4, h6⟩
  obtain ⟨v', w', hrun, h2, h3, h4⟩ := key
  refine wpList_step fun K hK => ?_
  rw [if_pos hgd]
  unfold Oper.wp
  simp [execOp, ho, resolve, invoke, builtin, hs, hx, hrun, Result.andThen]
  exact hK _ _ (h v' w' h2 h3 h4)

end Go.Proofs.YtjkjhpaeckkpjaaGreat

namespace Go.Proofs.YtjkjhpaeckkpjaaGreat
open Go.RowKit

/-- What a record says. -/
structure Dt where
  bytes : List UInt8
  host : List (List UInt8)
  mail : List (List UInt8)
  nums : List Int
  texts : List (List UInt8)
/-- Where its slices lie, and what room they have. -/
structure DV where
  Ab : Option Addr
  Ah : Option Addr
  Am : Option Addr
  An : Option Addr
  At : Option Addr
  cb : Nat
  ch : Nat
  cm : Nat
  cn : Nat
  ct : Nat
/-- A number as a cell. -/
def zv (n : Int) : Value := .int .i64 n
theorem zv_one (l : List Int) : ∀ u ∈ l.map zv, u.oneCell' = true := by
  intro u hu
  obtain ⟨x, _, rfl⟩ := List.mem_map.1 hu
  rfl
theorem zint_info : (Tryz.prog.info? 3).map (fun i => (i.zero, i.size, i.bytes)) = some (some (.int .i64 0), 1, 8) := by kernel_rfl

abbrev DV.vb (x : DV) (d : Dt) : Value := .slice x.Ab d.bytes.length x.cb
abbrev DV.vh (x : DV) (d : Dt) : Value := .slice x.Ah d.host.length x.ch
abbrev DV.vm (x : DV) (d : Dt) : Value := .slice x.Am d.mail.length x.cm
abbrev DV.vn (x : DV) (d : Dt) : Value := .slice x.An d.nums.length x.cn
abbrev DV.vt (x : DV) (d : Dt) : Value := .slice x.At d.texts.length x.ct
/-- The value. -/
abbrev DV.val (x : DV) (d : Dt) : Value := .agg #[.slice x.Ab d.bytes.length x.cb, .slice x.Ah d.host.length x.ch, .slice x.Am d.mail.length x.cm, .slice x.An d.nums.length x.cn, .slice x.At d.texts.length x.ct]

/-- In the world w the slices x read as d, below H. -/
structure DataAt (w : World) (H : Nat) (x : DV) (d : Dt) : Prop where
  b : Row w H x.Ab (d.bytes.map bc)
  h : Row w H x.Ah (d.host.map sv)
  m : Row w H x.Am (d.mail.map sv)
  n : Row w H x.An (d.nums.map zv)
  t : Row w H x.At (d.texts.map sv)
  lb : d.bytes.length ≤ x.cb
  lh : d.host.length ≤ x.ch
  lm : d.mail.length ≤ x.cm
  ln : d.nums.length ≤ x.cn
  lt : d.texts.length ≤ x.ct
  kb : x.cb ≤ maxLen
  kn : x.cn ≤ maxLen

/-- Data that is not too large. -/
def lightD (d : Dt) : Bool := d.host.all (fun l => decide (l.length ≤ 300)) && d.mail.all (fun l => decide (l.length ≤ 300)) && d.texts.all (fun l => decide (l.length ≤ 600)) &&
  decide (d.host.length ≤ 300) && decide (d.mail.length ≤ 300) && decide (d.texts.length ≤ 200) && decide (d.nums.length ≤ 200) && decide (d.bytes.length ≤ 70000)
structure LightD (d : Dt) : Prop where
  h : ∀ l ∈ d.host, l.length ≤ 300
  m : ∀ l ∈ d.mail, l.length ≤ 300
  t : ∀ l ∈ d.texts, l.length ≤ 600
  nh : d.host.length ≤ 300
  nm : d.mail.length ≤ 300
  nt : d.texts.length ≤ 200
  nn : d.nums.length ≤ 200
  nb : d.bytes.length ≤ 70000
theorem lightD_iff (d : Dt) : lightD d = true ↔ LightD d := by
  unfold lightD
  simp only [Bool.and_eq_true, List.all_eq_true, decide_eq_true_eq]
  constructor
  · rintro ⟨⟨⟨⟨⟨⟨⟨h1, h2⟩, h3⟩, h4⟩, h5⟩, h6⟩, h7⟩, h8⟩
    exact ⟨h1, h2, h3, h4, h5, h6, h7, h8⟩
  · rintro ⟨h1, h2, h3, h4, h5, h6, h7, h8⟩
    exact ⟨⟨⟨⟨⟨⟨⟨h1, h2⟩, h3⟩, h4⟩, h5⟩, h6⟩, h7⟩, h8⟩

section
variable {w w' : World} {H H' : Nat} {x : DV} {d : Dt}
theorem DataAt.below (h : DataAt w H x d) (hb : Below H w w') : DataAt w' H x d :=
  ⟨h.b.below hb, h.h.below hb, h.m.below hb, h.n.below hb, h.t.below hb, h.lb, h.lh, h.lm, h.ln, h.lt, h.kb, h.kn⟩
theorem DataAt.mono (h : DataAt w H x d) (hb : H ≤ H') : DataAt w H' x d :=
  ⟨h.b.mono hb, h.h.mono hb, h.m.mono hb, h.n.mono hb, h.t.mono hb, h.lb, h.lh, h.lm, h.ln, h.lt, h.kb, h.kn⟩
theorem DataAt.keep (h : DataAt w H x d) (hk : ∀ p : Addr, p.block < H → w'.cell? p = w.cell? p) : DataAt w' H x d :=
  ⟨h.b.keep hk, h.h.keep hk, h.m.keep hk, h.n.keep hk, h.t.keep hk, h.lb, h.lh, h.lm, h.ln, h.lt, h.kb, h.kn⟩
theorem DataAt.alloc (h : DataAt w H x d) (hH : H ≤ w.heap.size) (o : Obj) : DataAt (w.alloc o) H x d := h.keep fun p hp => World.cell?_alloc_lt w o p (by omega)
theorem DataAt.drewN (h : DataAt w H x d) (k : Nat) : DataAt (w.drewN k) H x d := h.keep fun _ _ => rfl
end

/-- The slices are the call's own. -/
structure OwnD (w : World) (B : Nat) (x : DV) (d : Dt) : Prop where
  b : w.ownsRow B 5 1 (x.vb d) d.bytes.length (d.bytes.map bc)
  h : w.ownsRow B 9 1 (x.vh d) d.host.length (d.host.map sv)
  m : w.ownsRow B 9 1 (x.vm d) d.mail.length (d.mail.map sv)
  n : w.ownsRow B 3 1 (x.vn d) d.nums.length (d.nums.map zv)
  t : w.ownsRow B 9 1 (x.vt d) d.texts.length (d.texts.map sv)
theorem own_capZ {w : World} {base : Nat} {t : TypeId} {A : Option Addr} {n c : Nat} {xs : List Value} {size : Nat} (h : w.ownsRow base t size (.slice A n c) n xs) : c ≤ maxLen := by
  obtain ⟨A', c', e, _, h2⟩ := own_form h
  injection e with _ _ e
  omega
theorem OwnD.at_ {w : World} {B : Nat} {x : DV} {d : Dt} (h : OwnD w B x d) : DataAt w w.heap.size x d :=
  ⟨Row.of_own h.b, Row.of_own h.h, Row.of_own h.m, Row.of_own h.n, Row.of_own h.t, own_cap h.b, own_cap h.h, own_cap h.m, own_cap h.n, own_cap h.t, own_capZ h.b, own_capZ h.n⟩
theorem OwnD.keep {w w' : World} {B : Nat} {x : DV} {d : Dt} (h : OwnD w B x d) (hk : ∀ g, g < w.heap.size → w'.heap[g]? = w.heap[g]?) : OwnD w' B x d :=
  ⟨own_keep h.b fun g e => hk g (h.b.lt g e).2, own_keep h.h fun g e => hk g (h.h.lt g e).2, own_keep h.m fun g e => hk g (h.m.lt g e).2, own_keep h.n fun g e => hk g (h.n.lt g e).2, own_keep h.t fun g e => hk g (h.t.lt g e).2⟩

/-- Slices whose elements lie in other blocks. -/
def Apart (u v : Value) : Prop := ∀ g k n m c c', u = .slice (some ⟨g, 0, none⟩) n c → v = .slice (some ⟨k, 0, none⟩) m c' → 0 < n → 0 < m → g ≠ k

/-- append onto '[]T{}': whatever was there stays. -/
theorem append_zero_run {P : Program} (w : World) (B : Nat) (t ty e : TypeId) (i : TypeInfo) (z : Value) (bytes : Nat) (ht : P.underlying t = some (.slice e)) (hi : P.info? e = some i) (hz : i.zero = some z)
    (hsize : i.size = 1) (hby : i.bytes = bytes) (hzs : z.cells.size = 1) (g : Nat) (hg : B ≤ g) (hh : w.heap[g]? = some (.cells #[] e (0, 0)))
    (A : Option Addr) (m c H : Nat) (news : List Value) (hl : news.length = m) (hr : Row w H A news) (h1 : ∀ u ∈ news, u.oneCell' = true) (h63 : m ≤ maxLen) (hbytes : m * bytes ≤ 140737488355328) (hB : B ≤ w.heap.size) :
    ∃ v' w', (Builtin.append_ #[t, t] ty #[.slice (some ⟨g, 0, none⟩) 0 0, .slice A m c]).run P w = .ok v' w' ∧ w'.ownsRow B e 1 v' m news ∧ Below w.heap.size w w' ∧
      (0 < m → v'.ownBlock = some w.heap.size) := by
  have hgs : g < w.heap.size := by
    rcases Nat.lt_or_ge g w.heap.size with h | h
    · exact h
    · rw [Array.getElem?_eq_none h] at hh; cases hh
  have hown : w.ownsRow B e 1 (.slice (some ⟨g, 0, none⟩) 0 0) 0 [] := ⟨rfl, .inr ⟨g, 0, #[], rfl, hg, hh, Nat.le_refl _, Nat.zero_le _, rfl, rfl⟩⟩
  rcases Nat.eq_zero_or_pos m with rfl | hm
  · have hn : news = [] := List.eq_nil_of_length_eq_zero hl
    subst hn
    refine ⟨.slice (some ⟨g, 0, none⟩) 0 0, w, ?_, hown, Below.refl _ _, fun h => absurd h (Nat.lt_irrefl _)⟩
    rcases A with _ | a
    · exact append_nil_run (P := P) w B t ty e i 1 ht hi _ 0 [] hown c
    · simp [Builtin.append_, run_underlying ht, sizeOf, typeInfo, hi, Builtin.lenOf, Builtin.firstCells, loadCells, loadCellsFrom, storeCells]
  · obtain ⟨b, off, rfl, _, hc⟩ := hr (fun e => by rw [e] at hl; simp at hl; omega)
    have hr2 := run_append_grow (P := P) w t ty e i z ht hi hz ⟨g, 0, none⟩ 0 0 [] (by simp) (fun j u h => by simp at h) ⟨b, off, none⟩ m c news (by rw [hsize, Nat.mul_one]; exact hl) (fun j u hu => by rw [addr_add]; exact hc j u hu) (by omega)
      (by unfold maxLen at h63; omega) (growslice_fits (by omega) (by rw [Nat.zero_add, hby]; exact hbytes))
    refine ⟨_, _, hr2, ⟨by rw [hl, Nat.mul_one], .inr ⟨w.heap.size, _, _, by rw [Nat.zero_add], hB, heap_alloc_new w.drew _, ?_, ?_, ?_, ?_⟩⟩, ((Below.refl _ w).drew).alloc (Nat.le_refl _) _, fun _ => rfl⟩
    · exact grownCap_ge w m 0 e
    · exact grownCap_le_maxLen w m 0 e h63
    · have hge := grownCap_ge w m 0 e
      simp only [Array.size_append, List.size_toArray, size_zeroCells, hzs, hl, List.length_nil, Nat.zero_add, Nat.mul_one]
      omega
    · simp only [Array.toList_append, List.nil_append]
      rw [Nat.mul_one, ← hl]
      exact List.take_left

end Go.Proofs.YtjkjhpaeckkpjaaGreat

namespace Go.Proofs.YtjkjhpaeckkpjaaGreat
open Go.ChangeShapes Go.WideShapes Go.ChangeAt Go.RowKit

set_option maxRecDepth 20000 in
/-- Bytes as they are read: whatever they are. -/
theorem read_bytes_c {H : Type} {enc : TypeId × Value → H} {W : World} {fuel : Nat} {v : Value} {x : DataW H × List MemPlace}
    (h : DataW.trod enc Tryz.prog W 0 (fun _ => true) true fuel 29 [v] = some x) (hlt : ∀ y ∈ x.2, y.block < W.heap.size) :
    ∃ (A : Option Addr) (c : Nat) (l : List UInt8), v = .slice A l.length c ∧ Row W W.heap.size A (l.map bc) ∧ l.length ≤ c ∧ c ≤ maxLen := by
  rcases open_ints Tryz.underlying29 Tryz.underlying5 u8_cells h with ⟨hcs, hx⟩ | ⟨a, len, cap, zs, hcs, _, hl, hm, hz, hx, hcell, hwz⟩
  · exact ⟨none, 0, [], by simpa using hcs, Row.empty _ _ _, Nat.le_refl _, Nat.zero_le _⟩
  · simp only [List.cons.injEq, and_true] at hcs
    subst hcs
    subst hx
    simp only [if_true] at hz
    have hlen : ((zs.take len).map fun n => UInt8.ofNat n.toNat).length = len := by simp; omega
    refine ⟨some a, cap, (zs.take len).map fun n => UInt8.ofNat n.toNat, by rw [hlen], fun hne => ?_, by rw [hlen]; exact hl, hm⟩
    have hpos : 0 < zs.length := by
      rcases zs with _ | ⟨z, zs⟩
      · simp at hne
      · simp
    obtain ⟨b, off, spot⟩ := a
    have hspot : spot = none := by simpa [Addr.add] using World.cell?_spot (hcell 0 hpos)
    subst hspot
    refine ⟨b, off, rfl, hlt (.cell b off) (MemPlace.mem_row.2 ⟨0, hpos, by simp⟩), fun j u hu => ?_⟩
    have hjl : j < len := by
      have := (List.getElem?_eq_some_iff.1 hu).1
      simp at this
      omega
    have hj : j < zs.length := by omega
    have h1 := hcell j hj
    rw [addr_add] at h1
    rw [h1]
    have e : zs.getD j 0 = zs[j] := by simp [List.getD, List.getElem?_eq_getElem hj]
    rw [List.getElem?_map, List.getElem?_map, List.getElem?_take, if_pos hjl, List.getElem?_eq_getElem hj] at hu
    simp only [Option.map_some] at hu
    rw [← hu, e, bc_of_int _ (hwz _ (List.getElem_mem hj))]

theorem int_cells : Tryz.prog.cellsOf 3 = 1 := by kernel_rfl
set_option maxRecDepth 20000 in
/-- Numbers as they are read: whatever they are. -/
theorem read_ints {H : Type} {enc : TypeId × Value → H} {W : World} {fuel : Nat} {v : Value} {x : DataW H × List MemPlace}
    (h : DataW.trod enc Tryz.prog W 0 (fun _ => true) true fuel 38 [v] = some x) (hlt : ∀ y ∈ x.2, y.block < W.heap.size) :
    ∃ (A : Option Addr) (c : Nat) (l : List Int), v = .slice A l.length c ∧ Row W W.heap.size A (l.map zv) ∧ l.length ≤ c ∧ c ≤ maxLen ∧ ∀ n ∈ l, (Lit.int .i64 n).wf = true := by
  rcases open_ints Tryz.underlying38 Tryz.underlying3 int_cells h with ⟨hcs, hx⟩ | ⟨a, len, cap, zs, hcs, _, hl, hm, hz, hx, hcell, hwz⟩
  · exact ⟨none, 0, [], by simpa using hcs, Row.empty _ _ _, Nat.le_refl _, Nat.zero_le _, fun n hn => absurd hn (List.not_mem_nil)⟩
  · simp only [List.cons.injEq, and_true] at hcs
    subst hcs
    subst hx
    simp only [if_true] at hz
    have hlen : (zs.take len).length = len := by simp; omega
    refine ⟨some a, cap, zs.take len, by rw [hlen], fun hne => ?_, by rw [hlen]; exact hl, hm, fun n hn => hwz n (List.mem_of_mem_take hn)⟩
    have hpos : 0 < zs.length := by
      rcases zs with _ | ⟨z, zs⟩
      · simp at hne
      · simp
    obtain ⟨b, off, spot⟩ := a
    have hspot : spot = none := by simpa [Addr.add] using World.cell?_spot (hcell 0 hpos)
    subst hspot
    refine ⟨b, off, rfl, hlt (.cell b off) (MemPlace.mem_row.2 ⟨0, hpos, by simp⟩), fun j u hu => ?_⟩
    have hjl : j < len := by
      have := (List.getElem?_eq_some_iff.1 hu).1
      simp at this
      omega
    have hj : j < zs.length := by omega
    have h1 := hcell j hj
    rw [addr_add] at h1
    rw [h1]
    have e : zs.getD j 0 = zs[j] := by simp [List.getD, List.getElem?_eq_getElem hj]
    rw [List.getElem?_map, List.getElem?_take, if_pos hjl, List.getElem?_eq_getElem hj] at hu
    simp only [Option.map_some] at hu
    rw [← hu, e, zv]

/-- What a statement's data is. -/
structure DIn (d : Dt) : Prop where
  h : d.host.length ≤ maxLen
  m : d.mail.length ≤ maxLen
  t : d.texts.length ≤ maxLen
  lh : ∀ k (h : k < d.host.length), (d.host[k]).length ≤ maxLen
  lm : ∀ k (h : k < d.mail.length), (d.mail[k]).length ≤ maxLen
  lt : ∀ k (h : k < d.texts.length), (d.texts[k]).length ≤ maxLen
  n : ∀ n ∈ d.nums, (Lit.int .i64 n).wf = true

theorem byts_cells : Tryz.prog.cellsOf 29 = 1 := by kernel_rfl
theorem inss_cells : Tryz.prog.cellsOf 38 = 1 := by kernel_rfl
theorem data_cells : Tryz.prog.cellsOf 40 = 5 := by kernel_rfl

set_option maxRecDepth 20000 in
theorem open_data {H : Type} {enc : TypeId × Value → H} {W : World} {base : Nat} {v : Value} {d : DataW H} {p : List MemPlace}
    (hval : Value.okWide Tryz.prog W .any base 40 v) (h : DataW.Trod enc Tryz.prog W 0 (fun _ => true) true 40 v d p) (hlt : ∀ x ∈ p, x.block < W.heap.size) :
    ∃ (x : DV) (dd : Dt), v = x.val dd ∧ DataAt W W.heap.size x dd ∧ DIn dd := by
  unfold Value.okWide at hval
  rw [Tryz.underlying40] at hval
  obtain ⟨cs0, rfl, hsz, _⟩ := hval
  obtain ⟨fuel, hf⟩ := h
  obtain ⟨xs, k, _, hx, hcl, hxl, hfs⟩ := DataW.trod_struct Tryz.underlying40 hf
  obtain ⟨cs⟩ := cs0
  simp only [Value.cells] at hf hcl hfs
  have hp : p = xs.flatMap (·.2) := by simpa using congrArg Prod.snd hx
  have hin : ∀ z ∈ xs, ∀ y ∈ z.2, y.block < W.heap.size := fun z hz y hyz => hlt y (by rw [hp]; exact List.mem_flatMap.2 ⟨z, hz, hyz⟩)
  have hxl5 : xs.length = 5 := hxl
  have hc5 : cs.length = 5 := by rw [data_cells] at hcl; simpa using hcl
  clear hx hp hf hcl hsz
  match cs, hc5, xs, hxl5, hfs, hin with
  | [c0, c1, c2, c3, c4], _, [y0, y1, y2, y3, y4], _, hfs, hin =>
    have g0 := hfs 0 _ rfl
    have g1 := hfs 1 _ rfl
    have g2 := hfs 2 _ rfl
    have g3 := hfs 3 _ rfl
    have g4 := hfs 4 _ rfl
    simp only [List.getElem?_cons_zero, List.getElem?_cons_succ] at g0 g1 g2 g3 g4
    obtain ⟨Ab, cb, l0, e0, r0, a0, b0⟩ := read_bytes_c g0 (hin y0 (by simp))
    obtain ⟨Ah, ch, l1, e1, r1, a1, b1, d1⟩ := read_name str_cells g1 (hin y1 (by simp))
    obtain ⟨Am, cm, l2, e2, r2, a2, b2, d2⟩ := read_name str_cells g2 (hin y2 (by simp))
    obtain ⟨An, cn, l3, e3, r3, a3, b3, d3⟩ := read_ints g3 (hin y3 (by simp))
    obtain ⟨At, ct, l4, e4, r4, a4, b4, d4⟩ := read_name str_cells g4 (hin y4 (by simp))
    subst e0 e1 e2 e3 e4
    exact ⟨⟨Ab, Ah, Am, An, At, cb, ch, cm, cn, ct⟩, ⟨l0, l1, l2, l3, l4⟩, rfl, ⟨r0, r1, r2, r3, r4, a0, d1, d2, a3, d4, b0, b3⟩, ⟨a1, a2, a4, b1, b2, b4, d3⟩⟩

end Go.Proofs.YtjkjhpaeckkpjaaGreat

namespace Go.Proofs.YtjkjhpaeckkpjaaGreat
open Go.RowKit

theorem Row.int_at {w : World} {H : Nat} {A : Option Addr} {n : List Int} (h : Row w H A (n.map zv)) {k : Nat} (hk : k < n.length) :
    ∃ b off, A = some ⟨b, off, none⟩ ∧ b < H ∧ w.cell? ⟨b, off + k, none⟩ = some (.int .i64 n[k]) := by
  obtain ⟨b, off, e, hb, hc⟩ := h.at_ (k := k) (by rw [List.length_map]; exact hk)
  exact ⟨b, off, e, hb, by rw [hc]; simp [zv]⟩

end Go.Proofs.YtjkjhpaeckkpjaaGreat

namespace Go.Proofs.YtjkjhpaeckkpjaaGreat
open Go.RowKit

theorem take_eq_snoc {xs ys : List UInt8} {k : Nat} (h : xs.take k = ys.take k) (hx : k < xs.length) (hy : k < ys.length) (e : xs[k] = ys[k]) : xs.take (k + 1) = ys.take (k + 1) := by
  rw [List.take_succ_eq_append_getElem hx, List.take_succ_eq_append_getElem hy, h, e]
theorem u8_eq_of {a b : UInt8} (h : (a.toNat : Int) = b.toNat) : a = b := by
  apply UInt8.toNat.inj; omega

def SameRel (w : World) (xs ys : List UInt8) (i : Value) (wr : World) : Prop := ∃ k : Nat, k ≤ xs.length ∧ i = .int .i64 k ∧ xs.take k = ys.take k ∧ ∃ j, wr = w.drewN j

set_option maxHeartbeats 400000 in
theorem same_ne (A B : Option Addr) (n m c d : Nat) (w : World) (h : n ≠ m) :
    Calls Tryz.prog 81 #[.slice A n c, .slice B m d] w (Drewn w (.bool false)) := by
  have h1 : ((n : Int) != (m : Int)) = true := by rw [bne_iff_ne]; omega
  go_enter Tryz.func81, Tryz.ntmps81
  go_wp2
  go_ret
  exact ⟨rfl, 0, rfl⟩

set_option maxHeartbeats 400000 in
theorem same_len (A B : Option Addr) (n c d H : Nat) (xs ys : List UInt8) (w : World) (hx : xs.length = n) (hy : ys.length = n) (hA : Row w H A (xs.map bc)) (hB : Row w H B (ys.map bc)) (hm : n ≤ maxLen) :
    Calls Tryz.prog 81 #[.slice A n c, .slice B n d] w (Drewn w (.bool (decide (xs = ys)))) := by
  unfold maxLen at hm
  have h1 : ((n : Int) != (n : Int)) = false := by simp
  have HX := Lib.hid hx
  have HY := Lib.hid hy
  have HA := Lib.hid hA
  have HB := Lib.hid hB
  clear hx hy hA hB
  go_enter Tryz.func81, Tryz.ntmps81
  go_wp2
  go_loopw [5] (SameRel w xs ys) (fun i _ => n - (intOf i).toNat)
  case atStart => exact ⟨0, by omega, rfl, by simp, 0, rfl⟩
  case round =>
    obtain ⟨k, hk, rfl, hkt, j, rfl⟩ := hrel
    have HKT := Lib.hid hkt
    clear hkt
    by_cases hlt : k < n
    · obtain ⟨b, off, rfl, _, hca⟩ := HA.out.at_ (k := k) (by rw [List.length_map, HX.out]; exact hlt)
      obtain ⟨b', off', rfl, _, hcb⟩ := HB.out.at_ (k := k) (by rw [List.length_map, HY.out]; exact hlt)
      have hca' : w.cell? ⟨b, off + k, none⟩ = some (.int .u8 (xs[k]'(by rw [HX.out]; exact hlt)).toNat) := by rw [hca]; simp [bc]
      have hcb' : w.cell? ⟨b', off' + k, none⟩ = some (.int .u8 (ys[k]'(by rw [HY.out]; exact hlt)).toNat) := by rw [hcb]; simp [bc]
      clear hca hcb
      by_cases he : xs[k]'(by rw [HX.out]; exact hlt) = ys[k]'(by rw [HY.out]; exact hlt)
      · have HE := Lib.hid he
        have hne : (((xs[k]'(by rw [HX.out]; exact hlt)).toNat : Int) != ((ys[k]'(by rw [HY.out]; exact hlt)).toNat : Int)) = false := by rw [he]; simp
        clear he
        go_wp2
        go_quiet (fail)
        go_wp2
        refine ⟨⟨k + 1, by rw [HX.out]; omega, by go_num, take_eq_snoc HKT.out _ _ HE.out, _, rfl⟩, by simp [intOf]; omega⟩
      · have HE := Lib.hid he
        have hne : (((xs[k]'(by rw [HX.out]; exact hlt)).toNat : Int) != ((ys[k]'(by rw [HY.out]; exact hlt)).toNat : Int)) = true := by
          rw [bne_iff_ne]; intro e; exact he (u8_eq_of e)
        have hf : decide (xs = ys) = false := by
          rw [decide_eq_false_iff_not]; rintro rfl; exact he rfl
        have HF := Lib.hid hf
        clear he hf
        go_wp2
        go_quiet (fail)
        go_wp2
        go_ret
        exact ⟨by rw [HF.out]; rfl, j + nq, by rw [World.drewN_drewN]⟩
    · obtain rfl : k = n := by have := HX.out; omega
      have ht : decide (xs = ys) = true := by
        rw [decide_eq_true_eq]
        have := HKT.out
        rwa [List.take_of_length_le (by rw [HX.out]; omega), List.take_of_length_le (by rw [HY.out]; omega)] at this
      have HF := Lib.hid ht
      clear ht
      go_wp2
      go_ret
      exact ⟨by rw [HF.out]; rfl, _, rfl⟩

theorem same_any (A B : Option Addr) (n m c d H : Nat) (xs ys : List UInt8) (w : World) (hx : xs.length = n) (hy : ys.length = m) (hA : Row w H A (xs.map bc)) (hB : Row w H B (ys.map bc)) (hm : n ≤ maxLen) :
    Calls Tryz.prog 81 #[.slice A n c, .slice B m d] w (Drewn w (.bool (decide (xs = ys)))) := by
  by_cases h : n = m
  · subst h
    exact same_len A B n c d H xs ys w hx hy hA hB hm
  · have hf : decide (xs = ys) = false := by
      rw [decide_eq_false_iff_not]; rintro rfl; omega
    rw [hf]
    exact same_ne A B n m c d w h

theorem same_yes (A B : Option Addr) (n m c d H : Nat) (xs : List UInt8) (w : World) (hx : xs.length = n) (hy : xs.length = m) (hA : Row w H A (xs.map bc)) (hB : Row w H B (xs.map bc)) (hm : n ≤ maxLen) :
    Calls Tryz.prog 81 #[.slice A n c, .slice B m d] w (Drewn w (.bool true)) := by
  have h := same_any A B n m c d H xs xs w hx hy hA hB hm
  rwa [show decide (xs = xs) = true from by simp] at h

end Go.Proofs.YtjkjhpaeckkpjaaGreat

namespace Go.Proofs.YtjkjhpaeckkpjaaGreat
open Go.RowKit

def SmallRel (w : World) (l : List UInt8) (Z : List Value) (i : Value) (wr : World) : Prop :=
  ∃ k : Nat, k ≤ l.length ∧ i = .int .i64 k ∧ Marked wr w.heap.size 5 (lowUpto l k Z) ∧ Below w.heap.size w wr

set_option maxHeartbeats 400000 in
theorem ref_small_any (l : List UInt8) (w : World) (hm : l.length ≤ maxLen) :
    Calls Tryz.prog 23 #[.string ⟨l.toArray⟩] w (Gave w (.string ⟨(lowL l).toArray⟩)) := by
  unfold maxLen at hm
  go_enter Tryz.func23, Tryz.ntmps23
  go_wp2_with (refine wpList_bytes rfl (.tmp 5) 9 29 5 rfl Tryz.underlying9 Tryz.underlying29 Tryz.underlying5 l rfl ?_; intro C w1 hC hM1 hB1 hz1)
  have HM := Lib.hid hM1
  have HB := Lib.hid hB1
  have HZ := Lib.hid hz1
  clear hM1 hB1 hz1
  obtain ⟨Z, hZ⟩ : ∃ Z, Z = zerosL (.int .u8 0) (C - l.length) := ⟨_, rfl⟩
  rw [← hZ] at HM
  clear hZ
  go_loopw [4] (SmallRel w l Z) (fun i _ => l.length - (intOf i).toNat)
  case atStart => exact ⟨0, Nat.zero_le _, rfl, by rw [lowUpto_zero]; exact HM.out, HB.out⟩
  case round =>
    obtain ⟨k, hk, rfl, hmk, hbk⟩ := hrel
    have HMK := Lib.hid hmk
    have HBK := Lib.hid hbk
    clear hmk hbk
    by_cases hlt : k < l.length
    · have hc : wr.cell? ⟨w.heap.size, k, none⟩ = some (.int .u8 (l[k]).toNat) := (HMK.out.cell k).trans (lowUpto_at Z hlt)
      have hf : wr.frozen? ⟨w.heap.size, k, none⟩ = false := HMK.out.frozen (by rw [length_lowUpto]; omega)
      have hlt8 := (l[k]).toNat_lt
      by_cases h1 : 65 ≤ (l[k]).toNat
      · by_cases h2 : (l[k]).toNat ≤ 90
        · have HU := Lib.hid (lowB_up h1 h2)
          go_wp2
          refine ⟨⟨k + 1, by omega, by go_num, ?_, ?_⟩, by simp [intOf]; omega⟩
          · rw [lowUpto_succ Z hlt, bc, HU.out]
            have h := HMK.out.set_ k (.int .u8 (((l[k]).toNat + 32 : Nat) : Int))
            rw [show ((l[k]).toNat : Int) + 32 = (((l[k]).toNat + 32 : Nat) : Int) from by omega]
            exact h
          · exact HBK.out.setCell (Nat.le_refl _) _
        · have HU := Lib.hid (lowUpto_same Z hlt (lowB_no (by omega)))
          go_wp2
          exact ⟨⟨k + 1, by omega, by go_num, by rw [HU.out]; exact HMK.out, HBK.out⟩, by simp [intOf]; omega⟩
      · have HU := Lib.hid (lowUpto_same Z hlt (lowB_no (by omega)))
        go_wp2
        exact ⟨⟨k + 1, by omega, by go_num, by rw [HU.out]; exact HMK.out, HBK.out⟩, by simp [intOf]; omega⟩
    · obtain rfl : k = l.length := by omega
      have hr := HMK.out.row.take l.length
      rw [lowUpto_all] at hr
      have hcv := convert_row_run (P := Tryz.prog) wr 29 9 5 Tryz.underlying29 Tryz.underlying5 Tryz.underlying9 _ l.length C _ (lowL l) (length_lowL l) hr
      clear hr
      go_wp2
      go_ret
      exact ⟨rfl, HBK.out⟩

end Go.Proofs.YtjkjhpaeckkpjaaGreat

namespace Go.Proofs.YtjkjhpaeckkpjaaGreat

/-- One list and another, element by element; one that begins the other is less. -/
def lexC {α : Type} (c : α → α → Int) : List α → List α → Int
  | [], [] => 0
  | [], _ :: _ => -1
  | _ :: _, [] => 1
  | x :: xs, y :: ys => if c x y = 0 then lexC c xs ys else c x y

structure Tot {α : Type} (c : α → α → Int) : Prop where
  anti : ∀ x y, c y x = - c x y
  same : ∀ x, c x x = 0
  eq_ : ∀ x y, c x y = 0 → x = y
  trans : ∀ x y z, c x y ≤ 0 → c y z ≤ 0 → c x z ≤ 0
  rng : ∀ x y, c x y = -1 ∨ c x y = 0 ∨ c x y = 1

section
variable {α : Type} {c : α → α → Int}
theorem lexC_self (h : Tot c) : ∀ xs, lexC c xs xs = 0
  | [] => rfl
  | x :: xs => by rw [lexC, if_pos (h.same x), lexC_self h xs]
theorem lexC_anti (h : Tot c) : ∀ xs ys, lexC c ys xs = - lexC c xs ys
  | [], [] => rfl
  | [], _ :: _ => rfl
  | _ :: _, [] => rfl
  | x :: xs, y :: ys => by
    rw [lexC, lexC, h.anti x y]
    by_cases e : c x y = 0
    · rw [if_pos (by omega), if_pos e, lexC_anti h xs ys]
    · rw [if_neg (by omega), if_neg e]
theorem lexC_eq (h : Tot c) : ∀ xs ys, lexC c xs ys = 0 → xs = ys
  | [], [], _ => rfl
  | [], _ :: _, e => by simp [lexC] at e
  | _ :: _, [], e => by simp [lexC] at e
  | x :: xs, y :: ys, e => by
    rw [lexC] at e
    by_cases e1 : c x y = 0
    · rw [if_pos e1] at e
      rw [h.eq_ x y e1, lexC_eq h xs ys e]
    · rw [if_neg e1] at e
      exact absurd e e1
theorem lexC_rng (h : Tot c) : ∀ xs ys, lexC c xs ys = -1 ∨ lexC c xs ys = 0 ∨ lexC c xs ys = 1
  | [], [] => .inr (.inl rfl)
  | [], _ :: _ => .inl rfl
  | _ :: _, [] => .inr (.inr rfl)
  | x :: xs, y :: ys => by
    rw [lexC]
    split
    · exact lexC_rng h xs ys
    · exact h.rng x y
theorem lexC_trans (h : Tot c) : ∀ xs ys zs, lexC c xs ys ≤ 0 → lexC c ys zs ≤ 0 → lexC c xs zs ≤ 0
  | [], _, [], _, _ => by simp [lexC]
  | [], _, _ :: _, _, _ => by simp [lexC]
  | _ :: _, [], _, h1, _ => by simp [lexC] at h1
  | _ :: _, _ :: _, [], _, h2 => by simp [lexC] at h2
  | x :: xs, y :: ys, z :: zs, h1, h2 => by
    rw [lexC] at h1 h2 ⊢
    by_cases e1 : c x y = 0
    · have exy := h.eq_ x y e1
      subst exy
      rw [if_pos e1] at h1
      by_cases e2 : c x z = 0
      · rw [if_pos e2] at h2 ⊢
        exact lexC_trans h xs ys zs h1 h2
      · rw [if_neg e2] at h2 ⊢
        exact h2
    · rw [if_neg e1] at h1
      by_cases e2 : c y z = 0
      · have eyz := h.eq_ y z e2
        subst eyz
        rw [if_neg e1]
        exact h1
      · rw [if_neg e2] at h2
        have h3 := h.trans x y z h1 h2
        by_cases e3 : c x z = 0
        · exfalso
          have exz := h.eq_ x z e3
          subst exz
          have := h.anti x y
          omega
        · rw [if_neg e3]; exact h3
theorem lexC_tot (h : Tot c) : Tot (lexC c) := ⟨lexC_anti h, lexC_self h, lexC_eq h, lexC_trans h, lexC_rng h⟩
/-- Behind a common beginning. -/
theorem lexC_drop (h : Tot c) : ∀ (k : Nat) (xs ys : List α), xs.take k = ys.take k → k ≤ xs.length → k ≤ ys.length → lexC c xs ys = lexC c (xs.drop k) (ys.drop k)
  | 0, _, _, _, _, _ => rfl
  | k + 1, [], _, _, h1, _ => by simp at h1
  | k + 1, _ :: _, [], _, _, h2 => by simp at h2
  | k + 1, x :: xs, y :: ys, e, h1, h2 => by
    simp only [List.take_succ_cons, List.cons.injEq] at e
    obtain ⟨rfl, e⟩ := e
    rw [lexC, if_pos (h.same x), List.drop_succ_cons, List.drop_succ_cons]
    exact lexC_drop h k xs ys e (by simpa using h1) (by simpa using h2)
theorem lexC_at (h : Tot c) {k : Nat} {xs ys : List α} (e : xs.take k = ys.take k) (h1 : k < xs.length) (h2 : k < ys.length) (hne : c xs[k] ys[k] ≠ 0) : lexC c xs ys = c xs[k] ys[k] := by
  rw [lexC_drop h k xs ys e (Nat.le_of_lt h1) (Nat.le_of_lt h2), List.drop_eq_getElem_cons h1, List.drop_eq_getElem_cons h2, lexC, if_neg hne]
theorem lexC_end (h : Tot c) {xs ys : List α} {k : Nat} (e : xs.take k = ys.take k) (hk : k = min xs.length ys.length) : lexC c xs ys = Lib.compareInt xs.length ys.length := by
  rw [lexC_drop h k xs ys e (by omega) (by omega)]
  unfold Lib.compareInt
  by_cases h1 : xs.length < ys.length
  · obtain ⟨y, l, hy⟩ : ∃ y l, ys.drop k = y :: l := by
      cases hd : ys.drop k with
      | nil => rw [List.drop_eq_nil_iff] at hd; omega
      | cons y l => exact ⟨y, l, rfl⟩
    rw [@List.drop_eq_nil_of_le _ xs _ (by omega), hy, if_pos (by omega)]
    rfl
  · by_cases h2 : ys.length < xs.length
    · obtain ⟨y, l, hy⟩ : ∃ y l, xs.drop k = y :: l := by
        cases hd : xs.drop k with
        | nil => rw [List.drop_eq_nil_iff] at hd; omega
        | cons y l => exact ⟨y, l, rfl⟩
      rw [@List.drop_eq_nil_of_le _ ys _ (by omega), hy, if_neg (by omega), if_pos (by omega)]
      rfl
    · rw [@List.drop_eq_nil_of_le _ ys _ (by omega), @List.drop_eq_nil_of_le _ xs _ (by omega), if_neg (by omega), if_neg (by omega)]
      rfl
end

def cmpU (a b : UInt8) : Int := if a < b then -1 else if b < a then 1 else 0
theorem cmpU_iff (a b : UInt8) : cmpU a b = if a.toNat < b.toNat then -1 else if b.toNat < a.toNat then 1 else 0 := by
  unfold cmpU
  simp only [UInt8.lt_iff_toNat_lt]
theorem cmpU_tot : Tot cmpU where
  anti x y := by rw [cmpU_iff, cmpU_iff]; split <;> split <;> (try split) <;> omega
  same x := by rw [cmpU_iff]; simp
  eq_ x y h := by
    rw [cmpU_iff] at h
    apply UInt8.toNat.inj
    split at h
    · omega
    · split at h <;> omega
  trans x y z h1 h2 := by
    rw [cmpU_iff] at h1 h2 ⊢
    have e1 : x.toNat ≤ y.toNat := by
      split at h1
      · omega
      · split at h1 <;> omega
    have e2 : y.toNat ≤ z.toNat := by
      split at h2
      · omega
      · split at h2 <;> omega
    split
    · omega
    · rw [if_neg (by omega)]; omega
  rng x y := by
    rw [cmpU_iff]
    split
    · exact .inl rfl
    · split
      · exact .inr (.inr rfl)
      · exact .inr (.inl rfl)
theorem compareBytes_lex : ∀ a b : List UInt8, Lib.compareBytes a b = lexC cmpU a b
  | [], [] => rfl
  | [], _ :: _ => rfl
  | _ :: _, [] => rfl
  | x :: a, y :: b => by
    rw [lexC, Lib.compareBytes, compareBytes_lex a b]
    unfold cmpU
    by_cases h1 : x < y
    · rw [if_pos h1, if_pos h1, if_neg (by omega)]
    · rw [if_neg h1, if_neg h1]
      by_cases h2 : y < x
      · rw [if_pos h2, if_pos h2, if_neg (by omega)]
      · rw [if_neg h2, if_neg h2, if_pos rfl]
def cmpB (a b : List UInt8) : Int := lexC cmpU a b
theorem cmpB_tot : Tot cmpB := lexC_tot cmpU_tot

/-- A name's labels, small, the last one first. -/
def keyN (n : List (List UInt8)) : List (List UInt8) := (lowN n).reverse
theorem length_keyN (n : List (List UInt8)) : (keyN n).length = n.length := by simp [keyN, lowN]
theorem keyN_at {n : List (List UInt8)} {k : Nat} (h : k < n.length) : (keyN n)[k]'(by rw [length_keyN]; exact h) = lowL (n[n.length - 1 - k]'(by omega)) := by
  simp [keyN, lowN]
/-- How names stand to one another. -/
def cmpN (a b : List (List UInt8)) : Int := lexC cmpB (keyN a) (keyN b)
def eqN (a b : List (List UInt8)) : Bool := decide (lowN a = lowN b)
def underN (n z : List (List UInt8)) : Bool := decide (z.length ≤ n.length) && eqN (n.drop (n.length - z.length)) z
theorem cmpN_tot_self (a : List (List UInt8)) : cmpN a a = 0 := lexC_self cmpB_tot _
theorem cmpN_anti (a b : List (List UInt8)) : cmpN b a = - cmpN a b := lexC_anti cmpB_tot _ _
theorem cmpN_rng (a b : List (List UInt8)) : cmpN a b = -1 ∨ cmpN a b = 0 ∨ cmpN a b = 1 := lexC_rng cmpB_tot _ _
theorem cmpN_trans (a b c : List (List UInt8)) : cmpN a b ≤ 0 → cmpN b c ≤ 0 → cmpN a c ≤ 0 := lexC_trans cmpB_tot _ _ _
theorem cmpN_zero (a b : List (List UInt8)) : cmpN a b = 0 ↔ keyN a = keyN b :=
  ⟨lexC_eq cmpB_tot _ _, fun h => by unfold cmpN; rw [h]; exact lexC_self cmpB_tot _⟩

theorem bytesLess_cmp : ∀ x y : List UInt8, Op.bytesLess x y = decide (cmpB x y < 0)
  | [], [] => rfl
  | [], _ :: _ => rfl
  | _ :: _, [] => rfl
  | x :: xs, y :: ys => by
    have ih := bytesLess_cmp xs ys
    unfold cmpB at ih ⊢
    rw [lexC, Op.bytesLess, ih, cmpU_iff]
    by_cases h1 : x.toNat < y.toNat
    · rw [if_pos h1, if_neg (by omega)]
      have : x < y := UInt8.lt_iff_toNat_lt.2 h1
      simp [this]
    · have hn : ¬ x < y := fun h => h1 (UInt8.lt_iff_toNat_lt.1 h)
      rw [if_neg h1]
      by_cases h2 : y.toNat < x.toNat
      · rw [if_pos h2, if_neg (by omega)]
        have hne : ¬ x = y := by rintro rfl; omega
        simp [hn, hne]
      · rw [if_neg h2, if_pos rfl]
        have he : x = y := UInt8.toNat.inj (by omega)
        subst he
        simp
theorem keyN_at' {n : List (List UInt8)} {k : Nat} (h : k < n.length) : (keyN n)[k]'(by rw [length_keyN]; exact h) = lowL (n[n.length - (k + 1)]'(by omega)) := by
  rw [keyN_at h]
  congr 2
  omega
theorem key_snoc' {a b : List (List UInt8)} {k : Nat} (h : (keyN a).take k = (keyN b).take k) (ha : k < a.length) (hb : k < b.length) (e : cmpB (lowL (a[a.length - (k + 1)]'(by omega))) (lowL (b[b.length - (k + 1)]'(by omega))) = 0) :
    (keyN a).take (k + 1) = (keyN b).take (k + 1) := by
  rw [List.take_succ_eq_append_getElem (by rw [length_keyN]; exact ha), List.take_succ_eq_append_getElem (by rw [length_keyN]; exact hb), h, keyN_at' ha, keyN_at' hb, cmpB_tot.eq_ _ _ e]
theorem key_part' {a b : List (List UInt8)} {k : Nat} (h : (keyN a).take k = (keyN b).take k) (ha : k < a.length) (hb : k < b.length) (e : cmpB (lowL (a[a.length - (k + 1)]'(by omega))) (lowL (b[b.length - (k + 1)]'(by omega))) ≠ 0) :
    cmpN a b = cmpB (lowL (a[a.length - (k + 1)]'(by omega))) (lowL (b[b.length - (k + 1)]'(by omega))) := by
  unfold cmpN
  rw [lexC_at cmpB_tot h (by rw [length_keyN]; exact ha) (by rw [length_keyN]; exact hb) (by rw [keyN_at' ha, keyN_at' hb]; exact e), keyN_at' ha, keyN_at' hb]

/-! Names that differ in capital letters alone. -/
theorem szN_lowN (n : List (List UInt8)) : szN (lowN n) = szN n := by
  induction n with
  | nil => rfl
  | cons x n ih =>
    simp only [lowN, List.map_cons, szN] at ih ⊢
    rw [ih, length_lowL]
theorem szN_of_low {m a : List (List UInt8)} (h : lowN m = lowN a) : szN m = szN a := by rw [← szN_lowN m, h, szN_lowN]
theorem len_of_low {m a : List (List UInt8)} (h : lowN m = lowN a) : m.length = a.length := by rw [← length_lowN m, h, length_lowN]
theorem cmpN_of_low {m a : List (List UInt8)} (h : lowN m = lowN a) (b : List (List UInt8)) : cmpN m b = cmpN a b := by unfold cmpN keyN; rw [h]
theorem eqN_of_low {m a : List (List UInt8)} (h : lowN m = lowN a) : eqN a m = true := by unfold eqN; rw [h]; simp
theorem underN_of_low {m a : List (List UInt8)} (h : lowN m = lowN a) (b : List (List UInt8)) : underN b m = underN b a := by
  unfold underN eqN
  rw [h, len_of_low h]
theorem lowN_set {m : List (List UInt8)} {k : Nat} {l : List UInt8} (hk : k < m.length) (h : lowL l = lowL m[k]) : lowN (m.set k l) = lowN m := by
  unfold lowN
  rw [List.map_set, h]
  apply List.ext_getElem?
  intro i
  rw [List.getElem?_set]
  split
  · rename_i e; subst e
    simp [hk]
  · rfl
theorem lowL_set {l0 l : List UInt8} {j : Nat} (hj : j < l.length) (hl : lowL l = lowL l0) (h1 : 97 ≤ (l[j]).toNat) (h2 : (l[j]).toNat ≤ 122) : lowL (l.set j (l[j] - 32)) = lowL l0 := by
  rw [← hl]
  unfold lowL
  rw [List.map_set]
  have e : lowB (l[j] - 32) = lowB l[j] := by
    have h3 : (l[j] - 32).toNat = (l[j]).toNat - 32 := by
      rw [UInt8.toNat_sub_of_le]
      · rfl
      · rw [UInt8.le_iff_toNat_le]; show 32 ≤ _; omega
    rw [lowB_no (c := l[j]) (by omega)]
    apply UInt8.toNat.inj
    rw [lowB_up (by omega) (by omega)]
    omega
  rw [e]
  apply List.ext_getElem?
  intro i
  rw [List.getElem?_set]
  split
  · rename_i e; subst e
    simp [hj]
  · rfl

end Go.Proofs.YtjkjhpaeckkpjaaGreat

namespace Go.Proofs.YtjkjhpaeckkpjaaGreat
open Go.RowKit

def EqRel (w : World) (a b : List (List UInt8)) (i : Value) (wr : World) : Prop :=
  ∃ k : Nat, k ≤ a.length ∧ i = .int .i64 k ∧ (lowN a).take k = (lowN b).take k ∧ Below w.heap.size w wr

theorem low_snoc {a b : List (List UInt8)} {k : Nat} (h : (lowN a).take k = (lowN b).take k) (ha : k < a.length) (hb : k < b.length) (e : lowL a[k] = lowL b[k]) : (lowN a).take (k + 1) = (lowN b).take (k + 1) := by
  rw [List.take_succ_eq_append_getElem (by rw [length_lowN]; exact ha), List.take_succ_eq_append_getElem (by rw [length_lowN]; exact hb), h]
  congr 2
  simpa [lowN] using e
theorem low_part {a b : List (List UInt8)} {k : Nat} (ha : k < a.length) (hb : k < b.length) (e : lowL a[k] ≠ lowL b[k]) : eqN a b = false := by
  unfold eqN
  rw [decide_eq_false_iff_not]
  intro h
  apply e
  have h2 : (lowN a)[k]? = (lowN b)[k]? := by rw [h]
  simpa [lowN, ha, hb] using h2
theorem low_end {a b : List (List UInt8)} (h : (lowN a).take a.length = (lowN b).take a.length) (hl : a.length = b.length) : eqN a b = true := by
  unfold eqN
  rw [decide_eq_true_eq]
  rwa [List.take_of_length_le (by rw [length_lowN]; omega), List.take_of_length_le (by rw [length_lowN]; omega)] at h
theorem eqN_len {a b : List (List UInt8)} (h : a.length ≠ b.length) : eqN a b = false := by
  unfold eqN
  rw [decide_eq_false_iff_not]
  intro e
  apply h
  have := congrArg List.length e
  rwa [length_lowN, length_lowN] at this

/-- No number or length in the name is too large for any memory. -/
def WideN (n : List (List UInt8)) : Prop := n.length ≤ maxLen ∧ ∀ k (h : k < n.length), (n[k]).length ≤ maxLen
theorem wide_sz {n : List (List UInt8)} (h : szN n ≤ maxLen) : WideN n :=
  ⟨by have := length_lt_szN n; omega, fun k hk => by have := len_le_szN hk; omega⟩

end Go.Proofs.YtjkjhpaeckkpjaaGreat

namespace Go.Proofs.YtjkjhpaeckkpjaaGreat
open Go.RowKit

set_option maxHeartbeats 400000 in
theorem ref_equal_ne (A B : Option Addr) (c1 c2 : Nat) (a b : List (List UInt8)) (w : World) (hl : a.length ≠ b.length) :
    Calls Tryz.prog 11 #[.slice A a.length c1, .slice B b.length c2] w (Gave w (.bool (eqN a b))) := by
  have h1 : ((a.length : Int) != (b.length : Int)) = true := by rw [bne_iff_ne]; omega
  rw [eqN_len hl]
  clear hl
  go_enter Tryz.func11, Tryz.ntmps11
  go_wp2
  go_ret
  exact ⟨rfl, Below.refl _ _⟩

theorem below_draws {B : Nat} {w0 w1 w2 : World} (h1 : Below B w0 w1) (hz : B ≤ w1.heap.size) {k : Nat} (h2 : Below (w1.drewN k).heap.size (w1.drewN k) w2) : Below B w0 w2 :=
  (below_drewN' h1 k).trans (h2.mono hz)

set_option maxHeartbeats 1000000 in
theorem ref_equal_len (A B : Option Addr) (c1 c2 : Nat) (a b : List (List UInt8)) (w : World) (hA : Row w w.heap.size A (a.map sv)) (hB : Row w w.heap.size B (b.map sv))
    (hs1 : WideN a) (hs2 : WideN b) (hl : a.length = b.length) :
    Calls Tryz.prog 11 #[.slice A a.length c1, .slice B b.length c2] w (Gave w (.bool (eqN a b))) := by
  have hn1 := hs1.1
  have hn2 := hs2.1
  have HS1 := Lib.hid hs1.2
  have HS2 := Lib.hid hs2.2
  unfold maxLen at hn1 hn2
  clear hs1 hs2
  have HA := Lib.hid hA
  have HB := Lib.hid hB
  have h1 : ((a.length : Int) != (b.length : Int)) = false := by rw [hl]; simp
  have HL := Lib.hid hl
  clear hA hB hl
  go_enter Tryz.func11, Tryz.ntmps11
  go_wp2
  go_loopw [5] (EqRel w a b) (fun i _ => a.length - (intOf i).toNat)
  case atStart => exact ⟨0, Nat.zero_le _, rfl, rfl, Below.refl _ _⟩
  case round =>
    obtain ⟨k, hk, rfl, hkt, hbw⟩ := hrel
    have hz := hbw.size
    have HKT := Lib.hid hkt
    have HBW := Lib.hid hbw
    have HA1 := Lib.hid (HA.out.below hbw)
    have HB1 := Lib.hid (HB.out.below hbw)
    clear hkt hbw
    by_cases hlt : k < a.length
    · have hkb : k < b.length := by have := HL.out; omega
      obtain ⟨ba, oa, rfl, hla1, hca⟩ := HA1.out.name_at hlt
      obtain ⟨bb, ob, rfl, hlb1, hcb⟩ := HB1.out.name_at hkb
      have hza := HS1.out k hlt
      have hzb := HS2.out k hkb
      have hba : ba < wr.heap.size := by omega
      have hbb : bb < wr.heap.size := by omega
      have hk0 : (0 : Int) ≤ (k : Int) := Int.natCast_nonneg _
      have hk1 : (k : Int) < (a.length : Int) := by omega
      have hk2 : (k : Int) < (b.length : Int) := by omega
      replace HBW := Lib.hid HBW.out.drew
      by_cases he : lowL a[k] = lowL b[k]
      · have hne : (lowL a[k] == lowL b[k]) = true := by rw [he]; simp
        have HK := Lib.hid (low_snoc HKT.out hlt hkb he)
        clear he
        go_wp2
        go_region_held3 (fun w' => w'.cell? ⟨ba, oa + k, none⟩ = some (.string ⟨(a[k]).toArray⟩) ∧ w'.cell? ⟨bb, ob + k, none⟩ = some (.string ⟨(b[k]).toArray⟩))
          (first | go_keep)
          ((go_at_call 23; refine (ref_small_any _ _ (by assumption)).mono ?_; rintro e w1 ⟨rfl, hb1⟩; have hca1 := below_cells hb1 ba (oa + k) hba; have hcb1 := below_cells hb1 bb (ob + k) hbb; replace hba := Nat.lt_of_lt_of_le hba hb1.size; replace hbb := Nat.lt_of_lt_of_le hbb hb1.size; replace HBW := Lib.hid (HBW.out.trans (hb1.mono hz)); replace hz := Nat.le_trans hz hb1.size; clear hb1))
        go_wp2
        exact ⟨⟨k + 1, by omega, by go_num, HK.out, HBW.out⟩, by simp [intOf]; omega⟩
      · have hne : (lowL a[k] == lowL b[k]) = false := by rw [beq_eq_false_iff_ne]; exact he
        have HK := Lib.hid (low_part hlt hkb he)
        clear he
        go_wp2
        go_region_held3 (fun w' => w'.cell? ⟨ba, oa + k, none⟩ = some (.string ⟨(a[k]).toArray⟩) ∧ w'.cell? ⟨bb, ob + k, none⟩ = some (.string ⟨(b[k]).toArray⟩))
          (first | go_keep)
          ((go_at_call 23; refine (ref_small_any _ _ (by assumption)).mono ?_; rintro e w1 ⟨rfl, hb1⟩; have hca1 := below_cells hb1 ba (oa + k) hba; have hcb1 := below_cells hb1 bb (ob + k) hbb; replace hba := Nat.lt_of_lt_of_le hba hb1.size; replace hbb := Nat.lt_of_lt_of_le hbb hb1.size; replace HBW := Lib.hid (HBW.out.trans (hb1.mono hz)); replace hz := Nat.le_trans hz hb1.size; clear hb1))
        go_wp2
        go_ret
        exact ⟨ret_bool HK.out.symm, HBW.out⟩
    · obtain rfl : k = a.length := by omega
      have HK := Lib.hid (low_end HKT.out HL.out)
      go_wp2
      go_ret
      exact ⟨ret_bool HK.out.symm, HBW.out⟩

theorem ref_equal_wide (A B : Option Addr) (m1 m2 c1 c2 H : Nat) (a b : List (List UInt8)) (w : World) (hl1 : a.length = m1) (hl2 : b.length = m2) (hA : Row w H A (a.map sv)) (hB : Row w H B (b.map sv)) (hH : H ≤ w.heap.size)
    (hs1 : WideN a) (hs2 : WideN b) :
    Calls Tryz.prog 11 #[.slice A m1 c1, .slice B m2 c2] w (Gave w (.bool (eqN a b))) := by
  subst hl1
  subst hl2
  by_cases hl : a.length = b.length
  · exact ref_equal_len A B c1 c2 a b w (hA.mono hH) (hB.mono hH) hs1 hs2 hl
  · exact ref_equal_ne A B c1 c2 a b w hl

theorem ref_equal_any (A B : Option Addr) (m1 m2 c1 c2 H : Nat) (a b : List (List UInt8)) (w : World) (hl1 : a.length = m1) (hl2 : b.length = m2) (hA : Row w H A (a.map sv)) (hB : Row w H B (b.map sv)) (hH : H ≤ w.heap.size)
    (hs1 : szN a ≤ maxLen) (hs2 : szN b ≤ maxLen) :
    Calls Tryz.prog 11 #[.slice A m1 c1, .slice B m2 c2] w (Gave w (.bool (eqN a b))) :=
  ref_equal_wide A B m1 m2 c1 c2 H a b w hl1 hl2 hA hB hH (wide_sz hs1) (wide_sz hs2)

end Go.Proofs.YtjkjhpaeckkpjaaGreat
