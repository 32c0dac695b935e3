/-
  Plain mathematics: numbers as bytes, the highest byte first. No program is imported.
-/
import Derived.WalkKit
import Derived.WalkSpells
import Derived.WalkLawsBesides
import Derived.Laws.AppendOwnNone
import Derived.Laws.CopyOwn
import Derived.Maps.AppendAt
import Derived.Laws.BytesArg
import Derived.Deep.Draws
import Derived.Deep.QuietTactic
import Derived.BigQuiet
import Derived.Lib.Hide
namespace Go.Proofs.YtgfoekbdmgljbaaDoor
open Go.RowKit

/-- Does n fit into s bytes? -/
def fitB (n s : Int) : Bool := decide (1 ≤ s ∧ s ≤ 7 ∧ 0 ≤ n ∧ n < 2 ^ (8 * s.toNat))
def szB (s : Int) : Bool := decide (1 ≤ s ∧ s ≤ 7)

theorem szB_true {s : Int} (h : 1 ≤ s ∧ s ≤ 7) : szB s = true := by simp [szB, h]
theorem szB_false {s : Int} (h : ¬ (1 ≤ s ∧ s ≤ 7)) : szB s = false := by simp [szB, h]
theorem fitB_true {n s : Int} (h1 : 1 ≤ s) (h2 : s ≤ 7) (h3 : 0 ≤ n) (h4 : n < 2 ^ (8 * s.toNat)) : fitB n s = true := by simp [fitB, h1, h2, h3, h4]
theorem fitB_no_size {n s : Int} (h : ¬ (1 ≤ s ∧ s ≤ 7)) : fitB n s = false := by
  simp only [fitB, decide_eq_false_iff_not]; intro hh; exact h ⟨hh.1, hh.2.1⟩
theorem fitB_neg {n s : Int} (h : n < 0) : fitB n s = false := by
  simp only [fitB, decide_eq_false_iff_not]; intro hh; omega
theorem fitB_big {n s : Int} (h : ¬ n < 2 ^ (8 * s.toNat)) : fitB n s = false := by
  simp only [fitB, decide_eq_false_iff_not]; intro hh; exact h hh.2.2.2

theorem fitB_shr {n s : Int} (h1 : 1 ≤ s) (h2 : s ≤ 7) (h3 : 0 ≤ n) : (n / 2 ^ (8 * s).toNat == 0) = fitB n s := by
  have e : (8 * s).toNat = 8 * s.toNat := by omega
  rw [e]
  have hp : (0 : Int) < 2 ^ (8 * s.toNat) := by exact Int.pow_pos (by omega)
  by_cases h : n < 2 ^ (8 * s.toNat)
  · rw [fitB_true h1 h2 h3 h, Int.ediv_eq_zero_of_lt h3 h]; rfl
  · rw [fitB_big h]
    have : 1 ≤ n / 2 ^ (8 * s.toNat) := by rw [Int.le_ediv_iff_mul_le hp]; omega
    rw [beq_eq_false_iff_ne]; omega

theorem div_step (n : Int) (k : Nat) : n / 2 ^ (8 * k) / 256 = n / 2 ^ (8 * (k + 1)) := by
  rw [Int.ediv_ediv_of_nonneg (Int.le_of_lt (Int.pow_pos (by omega))), show 8 * (k + 1) = 8 * k + 8 from by omega, Int.pow_add]
  rfl
theorem div_nonneg' {n : Int} (h : 0 ≤ n) (k : Nat) : 0 ≤ n / 2 ^ (8 * k) := Int.ediv_nonneg h (Int.le_of_lt (Int.pow_pos (by omega)))
theorem div_le' {n : Int} (h : 0 ≤ n) (k : Nat) : n / 2 ^ (8 * k) ≤ n := Int.ediv_le_self _ h

/-- A byte as a cell. -/
def bc (b : UInt8) : Value := .int .u8 (b.toNat : Int)

/-- The number that bytes are, the highest first. -/
def numN (l : List UInt8) : Nat := l.foldl (fun n x => n * 256 + x.toNat) 0
theorem numN_nil : numN [] = 0 := rfl
theorem numN_snoc (l : List UInt8) (x : UInt8) : numN (l ++ [x]) = numN l * 256 + x.toNat := by simp [numN]
theorem numN_from : ∀ (l : List UInt8) (n m : Nat), n < m → l.foldl (fun n x => n * 256 + x.toNat) n < m * 256 ^ l.length
  | [], n, m, h => by simpa using h
  | x :: l, n, m, h => by
    have hx := x.toNat_lt
    have := numN_from l (n * 256 + x.toNat) (m * 256) (by omega)
    simp only [List.foldl_cons, List.length_cons, Nat.pow_succ]
    rw [show m * (256 ^ l.length * 256) = m * 256 * 256 ^ l.length from by rw [Nat.mul_comm (256 ^ l.length), Nat.mul_assoc]]
    exact this
theorem numN_lt (l : List UInt8) : numN l < 256 ^ l.length := by
  have := numN_from l 0 1 (by omega)
  simpa [numN] using this
theorem numN_le48 (l : List UInt8) (h : l.length ≤ 6) : numN l < 281474976710656 :=
  Nat.lt_of_lt_of_le (numN_lt l) (by
    have := Nat.pow_le_pow_right (n := 256) (by omega) h
    simpa using this)
/-- The bytes from place a on, k of them. -/
def cutL (l : List UInt8) (a k : Nat) : List UInt8 := (l.drop a).take k
theorem cutL_succ {l : List UInt8} {a k : Nat} (h : a + k < l.length) : cutL l a (k + 1) = cutL l a k ++ [l[a + k]] := by
  unfold cutL
  rw [List.take_succ_eq_append_getElem (by simp; omega)]
  simp
theorem length_cutL {l : List UInt8} {a k : Nat} (h : a + k ≤ l.length) : (cutL l a k).length = k := by simp [cutL]; omega

/-- What Get answers: the number, the error. -/
def getL (l : List UInt8) (a s : Int) : Int × Int :=
  if szB s = false ∨ a < 0 then (0, 1) else if (l.length : Int) < a + s then (0, 3) else (numN (cutL l a.toNat s.toNat), 0)

/-- The bytes of a number, the highest first. -/
def digs (n s : Nat) : List UInt8 := (List.range s).map fun j => UInt8.ofNat (n / 2 ^ (8 * (s - 1 - j)))
theorem length_digs (n s : Nat) : (digs n s).length = s := by simp [digs]
theorem digs_take (n s k : Nat) (h : k < s) : (digs n s).take (k + 1) = (digs n s).take k ++ [UInt8.ofNat (n / 2 ^ (8 * (s - 1 - k)))] := by
  rw [List.take_succ_eq_append_getElem (by rw [length_digs]; exact h)]
  simp [digs]
theorem bc_dig (m : Nat) : bc (UInt8.ofNat m) = .int .u8 ((m : Int) % 256) := by
  unfold bc
  rw [UInt8.toNat_ofNat']
  congr 1
theorem digs_cells (l : List UInt8) (n s k : Nat) (h : k < s) : ((l ++ (digs n s).take k).map bc) ++ [.int .u8 ((n : Int) / 2 ^ (8 * (s - 1 - k)) % 256)] = (l ++ (digs n s).take (k + 1)).map bc := by
  rw [digs_take n s k h, ← List.append_assoc, List.map_append (l₁ := l ++ _)]
  rw [List.map_cons, List.map_nil, bc_dig]
  rfl
theorem u8_ofNat (m : Nat) : (UInt8.ofNat m).toNat = m % 256 := by rw [UInt8.toNat_ofNat']
theorem div_pow_step (n a : Nat) : n / 2 ^ (8 * (a + 1)) = n / 2 ^ (8 * a) / 256 := by
  rw [Nat.div_div_eq_div_mul, show 8 * (a + 1) = 8 * a + 8 from by omega, Nat.pow_add]
theorem numN_digs_take {n s : Nat} (hn : n < 2 ^ (8 * s)) : ∀ k, k ≤ s → numN ((digs n s).take k) = n / 2 ^ (8 * (s - k))
  | 0, _ => by rw [List.take_zero, numN_nil, Nat.sub_zero, Nat.div_eq_of_lt hn]
  | k + 1, h => by
    rw [digs_take n s k (by omega), numN_snoc, numN_digs_take hn k (by omega), u8_ofNat, show s - k = (s - (k + 1)) + 1 from by omega, div_pow_step, show s - 1 - k = s - (k + 1) from by omega]
    omega
/-- A number that fits is read as it was written. -/
theorem numN_digs {n s : Nat} (hn : n < 2 ^ (8 * s)) : numN (digs n s) = n := by
  have h := numN_digs_take hn s (Nat.le_refl _)
  rwa [List.take_of_length_le (by rw [length_digs]; omega), Nat.sub_self, Nat.mul_zero, Nat.pow_zero, Nat.div_one] at h
theorem cutL_behind (l : List UInt8) (n s : Nat) : cutL (l ++ digs n s) l.length s = digs n s := by
  unfold cutL
  rw [List.drop_left, List.take_of_length_le (by rw [length_digs]; omega)]

theorem foldl_num : ∀ (l : List UInt8) (n : Nat), l.foldl (fun n x => n * 256 + x.toNat) n = n * 256 ^ l.length + numN l
  | [], n => by simp [numN]
  | x :: l, n => by
    have h1 := foldl_num l (n * 256 + x.toNat)
    have h2 := foldl_num l (0 * 256 + x.toNat)
    unfold numN at *
    simp only [List.foldl_cons, List.length_cons, Nat.pow_succ] at *
    rw [h1, h2, Nat.add_mul, Nat.add_mul, Nat.mul_assoc, Nat.mul_comm 256]
    omega
theorem numN_cons (x : UInt8) (l : List UInt8) : numN (x :: l) = x.toNat * 256 ^ l.length + numN l := by
  have := foldl_num l (0 * 256 + x.toNat)
  simpa [numN] using this
/-- The order of bytes is the order of the numbers. -/
theorem bytesLess_num : ∀ (x y : List UInt8), x.length = y.length → Op.bytesLess x y = decide (numN x < numN y) ∧ (x = y ↔ numN x = numN y)
  | [], [], _ => by simp [Op.bytesLess]
  | [], _ :: _, h => by simp at h
  | _ :: _, [], h => by simp at h
  | a :: x, b :: y, h => by
    have hl : x.length = y.length := by simpa using h
    obtain ⟨ih1, ih2⟩ := bytesLess_num x y hl
    have hx := numN_lt x
    have hy := numN_lt y
    rw [numN_cons, numN_cons, hl]
    rw [hl] at hx
    simp only [Op.bytesLess, ih1]
    rcases Nat.lt_trichotomy a.toNat b.toNat with hab | hab | hab
    · have h1 := Nat.mul_le_mul_right (256 ^ y.length) (show a.toNat + 1 ≤ b.toNat from hab)
      rw [Nat.add_mul] at h1
      have hne : a ≠ b := fun e => by rw [e] at hab; omega
      refine ⟨?_, ?_⟩
      · rw [decide_eq_true (by omega : a.toNat * 256 ^ y.length + numN x < b.toNat * 256 ^ y.length + numN y)]
        simp [UInt8.lt_iff_toNat_lt, hab]
      · constructor
        · intro e; injection e with e1 e2; exact absurd e1 hne
        · intro e; omega
    · have e : a = b := UInt8.toNat.inj hab
      subst e
      refine ⟨?_, ?_⟩
      · simp
      · simp [ih2]
    · have h1 := Nat.mul_le_mul_right (256 ^ y.length) (show b.toNat + 1 ≤ a.toNat from hab)
      rw [Nat.add_mul] at h1
      have hne : a ≠ b := fun e => by rw [e] at hab; omega
      refine ⟨?_, ?_⟩
      · rw [decide_eq_false (by omega : ¬ a.toNat * 256 ^ y.length + numN x < b.toNat * 256 ^ y.length + numN y)]
        simp [UInt8.lt_iff_toNat_lt, hne]
        omega
      · constructor
        · intro e; injection e with e1 e2; exact absurd e1 hne
        · intro e; omega
theorem digs_less {a b s : Nat} (ha : a < 2 ^ (8 * s)) (hb : b < 2 ^ (8 * s)) : Op.bytesLess (digs a s) (digs b s) = decide (a < b) := by
  rw [(bytesLess_num _ _ (by simp [length_digs])).1, numN_digs ha, numN_digs hb]
theorem digs_eq {a b s : Nat} (ha : a < 2 ^ (8 * s)) (hb : b < 2 ^ (8 * s)) : digs a s = digs b s ↔ a = b := by
  rw [(bytesLess_num _ _ (by simp [length_digs])).2, numN_digs ha, numN_digs hb]

/-- The bytes as the document's Put lays them, from the last on: behind k of them. -/
def laid (n s k : Nat) : List Value := List.replicate (s - k) (.int .u8 0) ++ ((digs n s).drop (s - k)).map bc
theorem length_laid (n s k : Nat) : (laid n s k).length = s := by simp [laid, length_digs]
theorem laid_all (n s : Nat) : laid n s s = (digs n s).map bc := by simp [laid]
theorem digs_get (n s j : Nat) (h : j < s) : (digs n s)[j]'(by rw [length_digs]; exact h) = UInt8.ofNat (n / 2 ^ (8 * (s - 1 - j))) := by simp [digs]
theorem laid_set {n s k : Nat} (h : k < s) : (laid n s k).set (s - 1 - k) (.int .u8 ((n : Int) / 2 ^ (8 * k) % 256)) = laid n s (k + 1) := by
  have e : s - k = s - 1 - k + 1 := by omega
  have e2 : s - (k + 1) = s - 1 - k := by omega
  unfold laid
  rw [e, e2, List.replicate_succ', List.append_assoc, List.set_append_right _ _ (by simp), List.length_replicate, Nat.sub_self,
    List.drop_eq_getElem_cons (i := s - 1 - k) (by rw [length_digs]; omega), List.map_cons, digs_get n s _ (by omega), bc_dig, show s - 1 - (s - 1 - k) = k from by omega]
  rfl
/-- What Put answers. -/
def putL (l : List UInt8) (n s : Int) : List UInt8 := if fitB n s = true then l ++ digs n.toNat s.toNat else l
theorem putL_no {l : List UInt8} {n s : Int} (h : fitB n s = false) : putL l n s = l := by simp [putL, h]
theorem putL_yes {l : List UInt8} {n s : Nat} (h : fitB n s = true) : putL l n s = l ++ digs n s := by simp [putL, h]

end Go.Proofs.YtgfoekbdmgljbaaDoor

namespace Go.Proofs.YtgfoekbdmgljbaaDoor
open Go.RowKit

theorem addr_add (b o j : Nat) : (⟨b, o, none⟩ : Addr).add j = ⟨b, o + j, none⟩ := by
  unfold Addr.add
  split
  · subst_vars; rfl
  · rfl

/-- From the address A on the world holds the cells xs, in a block below H. Of no cell nothing is said. -/
def Row (w : World) (H : Nat) (A : Option Addr) (xs : List Value) : Prop :=
  xs ≠ [] → ∃ b off, A = some ⟨b, off, none⟩ ∧ b < H ∧ ∀ j u, xs[j]? = some u → w.cell? ⟨b, off + j, none⟩ = some u

section
variable {w w' : World} {H H' : Nat} {A : Option Addr} {xs : List Value}

theorem Row.empty (w : World) (H : Nat) (A : Option Addr) : Row w H A [] := fun h => absurd rfl h
theorem Row.keep (h : Row w H A xs) (hk : ∀ p : Addr, p.block < H → w'.cell? p = w.cell? p) : Row w' H A xs := fun hx => by
  obtain ⟨b, off, e, hb, hc⟩ := h hx
  exact ⟨b, off, e, hb, fun j u hu => (hk ⟨b, off + j, none⟩ hb).trans (hc j u hu)⟩
theorem Row.mono (h : Row w H A xs) (hH : H ≤ H') : Row w H' A xs := fun hx => by
  obtain ⟨b, off, e, hb, hc⟩ := h hx
  exact ⟨b, off, e, Nat.lt_of_lt_of_le hb hH, hc⟩
theorem Row.below (h : Row w H A xs) (hb : Below H w w') : Row w' H A xs := h.keep fun _ hp => hb.cell hp
theorem Row.alloc (h : Row w H A xs) (hH : H ≤ w.heap.size) (o : Obj) : Row (w.alloc o) H A xs := h.keep fun p hp => World.cell?_alloc_lt w o p (by omega)
theorem Row.pos (h : Row w H A xs) : 0 < xs.length → ∃ ad, A = some ad ∧ ∀ j v, xs[j]? = some v → w.cell? (ad.add j) = some v := fun hl => by
  obtain ⟨b, off, e, _, hc⟩ := h fun e => by rw [e] at hl; exact absurd hl (Nat.not_lt_zero _)
  exact ⟨_, e, fun j v hv => by rw [addr_add]; exact hc j v hv⟩
theorem Row.drewN (h : Row w H A xs) (k : Nat) : Row (w.drewN k) H A xs := h
theorem Row.drew (h : Row w H A xs) : Row w.drew H A xs := h
theorem Row.at_ (h : Row w H A xs) {k : Nat} (hk : k < xs.length) : ∃ b off, A = some ⟨b, off, none⟩ ∧ b < H ∧ w.cell? ⟨b, off + k, none⟩ = some xs[k] := by
  obtain ⟨b, off, e, hb, hc⟩ := h (fun e => by rw [e] at hk; exact absurd hk (Nat.not_lt_zero _))
  exact ⟨b, off, e, hb, hc k _ (List.getElem?_eq_getElem hk)⟩
theorem Row.some_ (h : Row w H A xs) (hk : 0 < xs.length) : ∃ b off, A = some ⟨b, off, none⟩ ∧ b < H ∧ ∀ j u, xs[j]? = some u → w.cell? ⟨b, off + j, none⟩ = some u :=
  h fun e => by rw [e] at hk; exact absurd hk (Nat.not_lt_zero _)
theorem Row.of_cells {b off : Nat} (hb : b < H) (hc : ∀ j u, xs[j]? = some u → w.cell? ⟨b, off + j, none⟩ = some u) : Row w H (some ⟨b, off, none⟩) xs := fun _ => ⟨b, off, rfl, hb, hc⟩
/-- A new block reads as what it was made of. -/
theorem Row.made (w : World) (cs : Array Value) (t : TypeId) : Row (w.alloc (.cells cs t)) (w.heap.size + 1) (some ⟨w.heap.size, 0, none⟩) cs.toList :=
  Row.of_cells (Nat.lt_succ_self _) fun j u hu => by
    rw [World.cell?_alloc_at _ _ _ _ rfl]
    simpa using hu
/-- What is behind the first k cells. -/
theorem Row.drop (h : Row w H A xs) {b off k : Nat} (hA : A = some ⟨b, off, none⟩) : Row w H (some ⟨b, off + k, none⟩) (xs.drop k) := fun hx => by
  obtain ⟨b', off', e, hb, hc⟩ := h (fun e => by rw [e] at hx; simp at hx)
  rw [hA] at e
  injection e with e
  injection e with e1 e2
  subst e1; subst e2
  exact ⟨b, off + k, rfl, hb, fun j u hu => by rw [Nat.add_assoc]; exact hc _ u (by rw [← hu, List.getElem?_drop])⟩
/-- The first few. -/
theorem Row.take (h : Row w H A xs) (k : Nat) : Row w H A (xs.take k) := fun hx => by
  obtain ⟨b, off, e, hb, hc⟩ := h (fun e => by rw [e] at hx; simp at hx)
  refine ⟨b, off, e, hb, fun j u hu => hc j u ?_⟩
  rw [List.getElem?_take] at hu
  split at hu
  · exact hu
  · cases hu
/-- A row of the call's own. -/
theorem Row.of_own {base : Nat} {e : TypeId} {size n c : Nat} (h : w.ownsRow base e size (.slice A n c) n xs) : Row w w.heap.size A xs := fun hx => by
  rcases h.2 with ⟨hv, h0⟩ | ⟨g, cap, cur, hv, _, hh, _⟩
  · have := h.1
    rw [h0, Nat.zero_mul] at this
    exact absurd (List.eq_nil_of_length_eq_zero this) hx
  · have hA : A = some ⟨g, 0, none⟩ := by injection hv
    subst hA
    have hlt : g < w.heap.size := by
      rcases Nat.lt_or_ge g w.heap.size with hl | hl
      · exact hl
      · rw [Array.getElem?_eq_none hl] at hh; cases hh
    exact ⟨g, 0, rfl, hlt, fun j u hu => by
      have := h.cells (g := g) rfl j u hu
      rwa [addr_add] at this⟩
end

/-- Block g is known whole: the cells L of type t, none frozen. -/
def Whole (w : World) (g : Nat) (t : TypeId) (L : List Value) : Prop := w.heap[g]? = some (.cells L.toArray t (0, 0))
section
variable {w w' : World} {g : Nat} {t : TypeId} {L : List Value}
theorem Whole.lt (h : Whole w g t L) : g < w.heap.size := by
  rcases Nat.lt_or_ge g w.heap.size with hl | hl
  · exact hl
  · unfold Whole at h; rw [Array.getElem?_eq_none hl] at h; cases h
theorem Whole.cell (h : Whole w g t L) (i : Nat) : w.cell? ⟨g, i, none⟩ = L[i]? := by
  unfold Whole at h
  simp [World.cell?, h]
theorem Whole.frozen (h : Whole w g t L) (i : Nat) : w.frozen? ⟨g, i, none⟩ = false := by
  unfold Whole at h
  simp [World.frozen?, h]
theorem Whole.made (w : World) (L : List Value) (t : TypeId) : Whole (w.alloc (.cells L.toArray t)) w.heap.size t L := heap_alloc_new w _
theorem Whole.alloc (h : Whole w g t L) (o : Obj) : Whole (w.alloc o) g t L := (Below.heap_alloc w o g h.lt).trans h
theorem Whole.drewN (h : Whole w g t L) (n : Nat) : Whole (w.drewN n) g t L := h
theorem Whole.set_ (h : Whole w g t L) (i : Nat) (u : Value) : Whole (w.setCell ⟨g, i, none⟩ u) g t (L.set i u) := by
  unfold Whole at h ⊢
  simp [World.setCell, Array.getElem?_modify, h]
theorem Whole.below {B : Nat} (h : Whole w g t L) (hb : Below B w w') (hg : g < B) : Whole w' g t L := (hb.block g hg).trans h
theorem Whole.grown {row : Option Nat} (h : Whole w g t L) (hb : w.grownBy w' row) (hg : some g ≠ row) : Whole w' g t L := (hb.block g h.lt hg).trans h
theorem Whole.row (h : Whole w g t L) : Row w w.heap.size (some ⟨g, 0, none⟩) L := Row.of_cells h.lt fun j u hu => by rw [Nat.zero_add, h.cell]; exact hu
/-- A row of the call's own is kept while another block is written. -/
theorem own_set_far {base : Nat} {e : TypeId} {size n : Nat} {v : Value} {xs : List Value} (h : w.ownsRow base e size v n xs) {a : Addr} (ha : v.ownBlock ≠ some a.block) (u : Value) : (w.setCell a u).ownsRow base e size v n xs := by
  obtain ⟨h1, h2⟩ := h
  refine ⟨h1, ?_⟩
  rcases h2 with h2 | ⟨g, cap, cur, rfl, hg, hh, r⟩
  · exact .inl h2
  · refine .inr ⟨g, cap, cur, rfl, hg, ?_, r⟩
    rw [Below.heap_setCell _ _ _ _ (by intro e; apply ha; rw [e]; rfl)]
    exact hh
end

/-- '[]T{}'. -/
theorem own_lit (w : World) (t : TypeId) (size : Nat) : (w.alloc (.cells #[] t)).ownsRow w.heap.size t size (.slice (some ⟨w.heap.size, 0, none⟩) 0 0) 0 [] :=
  World.ownsRow_made w #[] 0 (Nat.le_refl _) (Nat.zero_le _) (by simp)

theorem own_some {w : World} {base : Nat} {e : TypeId} {size n c : Nat} {A : Option Addr} {xs : List Value} (h : w.ownsRow base e size (.slice A n c) n xs) (hn : 0 < n) : ∃ g, A = some ⟨g, 0, none⟩ := by
  rcases h.2 with ⟨_, h0⟩ | ⟨g, cap, cur, hv, _⟩
  · omega
  · exact ⟨g, by injection hv⟩

theorem append_nil_run {P : Program} (w : World) (base : Nat) (t ty e : TypeId) (i : TypeInfo) (size : Nat) (ht : P.underlying t = some (.slice e)) (hi : P.info? e = some i)
    (v : Value) (n : Nat) (xs : List Value) (hown : w.ownsRow base e size v n xs) (c : Nat) : (Builtin.append_ #[t, t] ty #[v, .slice none 0 c]).run P w = .ok v w := by
  rcases hown.2 with ⟨rfl, rfl⟩ | ⟨g, cap, cur, rfl, _, _, hnc, _⟩
  · simp [Builtin.append_, run_underlying ht, sizeOf, typeInfo, hi, Builtin.lenOf, Builtin.firstCells]
  · simp [Builtin.append_, run_underlying ht, sizeOf, typeInfo, hi, Builtin.lenOf, Builtin.firstCells, hnc, storeCells]

theorem append_row_run {P : Program} (w : World) (base : Nat) (t ty e : TypeId) (i : TypeInfo) (z : Value) (size bytes : Nat) (ht : P.underlying t = some (.slice e)) (hi : P.info? e = some i) (hz : i.zero = some z)
    (hsize : i.size = size) (hby : i.bytes = bytes) (hzs : z.cells.size = size) (hsz : 0 < size)
    (v : Value) (n : Nat) (xs : List Value) (hown : w.ownsRow base e size v n xs)
    (A : Option Addr) (m c H : Nat) (news : List Value) (hl : news.length = m * size) (hr : Row w H A news) (h1 : ∀ u ∈ news, u.oneCell' = true)
    (h63 : n + m ≤ maxLen) (hbytes : (n + m) * bytes ≤ 140737488355328) (hbase : base ≤ w.heap.size) :
    ∃ v' w', (Builtin.append_ #[t, t] ty #[v, .slice A m c]).run P w = .ok v' w' ∧ w'.ownsRow base e size v' (n + m) (xs ++ news) ∧ w.grownBy w' v.ownBlock := by
  rcases A with _ | ad
  · have hn : news = [] := by
      rcases news with _ | ⟨u, us⟩
      · rfl
      · obtain ⟨_, _, h, _⟩ := hr (by simp)
        cases h
    have hm : m = 0 := by
      subst hn
      rcases Nat.eq_zero_or_pos m with h0 | h0
      · exact h0
      · have := Nat.mul_pos h0 hsz
        simp at hl; omega
    subst hn; subst hm
    exact ⟨v, w, append_nil_run (P := P) w base t ty e i size ht hi v n xs hown c, by simpa using hown, World.grownBy.refl w _⟩
  · have hc : ∀ j u, news[j]? = some u → w.cell? (ad.add j) = some u := by
      intro j u hu
      obtain ⟨b, off, e, _, hc⟩ := hr (fun e => by rw [e] at hu; simp at hu)
      injection e with e
      subst e
      rw [addr_add]
      exact hc j u hu
    obtain ⟨v', w', h2, h3, h4, _, _⟩ := run_append_own_at (P := P) w base t ty e i z size bytes ht hi hz hsize hby hzs hsz v n xs hown ad m c news hl hc h1 h63 hbytes hbase
    exact ⟨v', w', h2, h3, h4⟩

/-- append onto a row of the call's own; the source is any slice that reads as 'news', nil or not; guarded or not. -/
theorem wpList_append_row {P : Program} {w : World} {ops : Array Oper} {rest : List Oper} {o : Oper} {a : Act} {Q : Exit → Act → World → Prop} (hgd : Region.wanted o (yielded ops a.tmps) = true) (s x : Operand) (t : TypeId)
    (ho : o.op = .call { callee := .builtin .append, args := #[s, x], argTypes := #[t, t] })
    (base : Nat) (e : TypeId) (i : TypeInfo) (z : Value) (size bytes : Nat) (ht : P.underlying t = some (.slice e)) (hi : P.info? e = some i) (hz : i.zero = some z)
    (hsize : i.size = size) (hby : i.bytes = bytes) (hzs : z.cells.size = size) (hsz : 0 < size)
    (v : Value) (n : Nat) (xs : List Value) (hs : a.eval s = v) (hown : w.ownsRow base e size v n xs)
    (A : Option Addr) (m c H : Nat) (news : List Value) (hx : a.eval x = .slice A m c) (hl : news.length = m * size) (hr : Row w H A news) (h1 : ∀ u ∈ news, u.oneCell' = true)
    (h63 : n + m ≤ maxLen) (hbytes : (n + m) * bytes ≤ 140737488355328) (hbase : base ≤ w.heap.size)
    (h : ∀ v' w', w'.ownsRow base e size v' (n + m) (xs ++ news) → w.grownBy w' v.ownBlock → wpList P ops Q rest (a.put o.dst v') w') : wpList P ops Q (o :: rest) a w := by
  obtain ⟨v', w', hrun, h2, h3⟩ := append_row_run (P := P) w base t o.type e i z size bytes ht hi hz hsize hby hzs hsz v n xs hown A m c H news hl hr h1 h63 hbytes hbase
  refine wpList_step fun K hK => ?_
  rw [if_pos hgd]
  unfold Oper.wp
  simp [execOp, ho, resolve, invoke, builtin, hs, hx, hrun, Result.andThen]
  exact hK _ _ (h v' w' h2 h3)

theorem below_drewN' {B : Nat} {a w : World} (h : Below B a w) (n : Nat) : Below B a (w.drewN n) := ⟨h.os, h.tape, h.output, h.size, h.block⟩

/-- Behind an append onto a row of the call's own nothing below 'base' has turned. -/
theorem own_below {B base n : Nat} {w0 w w' : World} {e : TypeId} {size : Nat} {v : Value} {xs : List Value} (hb : Below B w0 w) (hB : B ≤ base) (hsz : B ≤ w.heap.size) (hown : w.ownsRow base e size v n xs) (hg : w.grownBy w' v.ownBlock) : Below B w0 w' :=
  hb.grown hg hsz fun k hk => Nat.le_trans hB (hown.lt k hk).1

/-- c zeros (a definition, so that the walk leaves it standing). -/
def zerosL (z : Value) (c : Nat) : List Value := List.replicate c z
theorem length_zerosL (z : Value) (c : Nat) : (zerosL z c).length = c := by simp [zerosL]
/-- 'make([]T, n, c)' of one-cell elements: a block of c zeros. -/
theorem wpList_make_zeros {P : Program} {w : World} {ops : Array Oper} {rest : List Oper} {o : Oper} {a : Act} {Q : Exit → Act → World → Prop} (hgd : o.guard = none) (l c : Operand) (t : TypeId) (hop : o.op = Op.makeSlice t l c)
    (e : TypeId) (i : TypeInfo) (z : Value) (bytes : Nat) (ht : P.underlying t = some (.slice e)) (hi : P.info? e = some i) (hz : i.zero = some z) (hsize : i.size = 1) (hby : i.bytes = bytes) (hz1 : z.cells = #[z])
    (kl kc : IntKind) (N C : Int) (n cap : Nat) (hl : a.eval l = .int kl N) (hc : a.eval c = .int kc C) (hN : N = n) (hC : C = cap) (hnc : n ≤ cap) (hb : bytes * cap ≤ 281474976710656) (h63 : cap ≤ maxLen)
    (h : wpList P ops Q rest (a.put o.dst (.slice (some ⟨w.heap.size, 0, none⟩) n cap)) (w.alloc (.cells (zerosL z cap).toArray e))) : wpList P ops Q (o :: rest) a w := by
  refine wpList_plain hgd fun K hK => ?_
  unfold maxLen at h63
  unfold zerosL at h
  have hb' : (i.bytes : Int) * (cap : Int) ≤ 281474976710656 := by
    have h : ((bytes * cap : Nat) : Int) ≤ 281474976710656 := by omega
    rw [hby]
    rwa [Int.natCast_mul] at h
  have hr := run_make (P := P) w t e i z ht hi hz kl kc n cap (by omega) (by omega) hb' (by omega)
  subst hN; subst hC
  rw [hz1, hsize] at hr
  simp only [Int.toNat_natCast, Nat.mul_one] at hr
  have hm : madeCells #[z] cap = (List.replicate cap z).toArray := Array.toList_inj.1 (by rw [toList_madeCells_one])
  rw [hm] at hr
  unfold Oper.wp
  simp [execOp, hop, hl, hc, hr, Result.andThen]
  exact hK _ _ (by simpa using h)

/-- A block of the call's own, known whole, as a row. -/
theorem own_of_block {w : World} {base g : Nat} {e : TypeId} {L xs : List Value} {cap n : Nat} (hh : w.heap[g]? = some (.cells L.toArray e (0, 0))) (hg : base ≤ g) (hL : L.length = cap) (hn : n ≤ cap) (hc : cap ≤ maxLen) (hx : L.take n = xs) :
    w.ownsRow base e 1 (.slice (some ⟨g, 0, none⟩) n cap) n xs :=
  ⟨by rw [← hx, List.length_take]; omega, .inr ⟨g, cap, L.toArray, rfl, hg, hh, hn, hc, by simpa using hL, by simpa using hx⟩⟩

/-- 'string(b)' of bytes that read as l. -/
theorem convert_row_run {P : Program} (w : World) (src dst e : TypeId) (hs : P.underlying src = some (.slice e)) (he : P.underlying e = some (.int .u8)) (hd : P.underlying dst = some .string) (A : Option Addr) (n c H : Nat) (l : List UInt8)
    (hl : l.length = n) (hr : Row w H A (l.map bc)) : (convert src dst (.slice A n c)).run P w = .ok (.string ⟨l.toArray⟩) w := by
  subst hl
  rcases l with _ | ⟨x, xs⟩
  · rw [run_convert_bytes_string w src dst e _ _ c hs he hd]
    rcases A with _ | a
    · simp [Conv.bytesToString]
      rfl
    · rw [List.length_nil, run_bytesToString w a 0 c [] (by simpa using run_loadCells_list (P := P) w a [] (fun _ _ h => by simp at h))]
      rfl
  · obtain ⟨b, off, rfl, _, hc⟩ := hr (by simp)
    rw [run_convert_bytes_arg w src e hs he b off (x :: xs).length c ((x :: xs).map fun u => (u.toNat : Int)) (by simp) (fun i hi => by
      rw [hc i (bc (x :: xs)[i]) (by rw [List.getElem?_map, List.getElem?_eq_getElem hi]; rfl)]
      rw [List.getD_eq_getElem?_getD, List.getElem?_map, List.getElem?_eq_getElem hi]
      rfl) dst hd]
    have e2 : ((x :: xs).map fun u => (u.toNat : Int)).map (fun n => UInt8.ofNat n.toNat) = x :: xs := by
      rw [List.map_map]
      conv => rhs; rw [← List.map_id (x :: xs)]
      apply List.map_congr_left
      intro u _
      simp
    unfold strOfNums
    rw [e2]

/-- 'n<<8 | x' of a byte x. -/
theorem or_byte (n x : Nat) (hn : n < 281474976710656) (hx : x < 256) : bits .or .i64 ((n : Int) * 256) (x : Int) = ((n * 256 + x : Nat) : Int) := by
  have e1 : (n : Int) * 256 = ((n * 256 : Nat) : Int) := by omega
  have e2 : n * 256 ||| x = n * 256 + x := by
    have := Nat.shiftLeft_add_eq_or_of_lt (i := 8) (b := x) (by simpa using hx) n
    rw [Nat.shiftLeft_eq] at this
    exact this.symm
  rw [e1]
  show IntKind.i64.wrap ((BitVec.ofInt 64 ((n * 256 : Nat) : Int) ||| BitVec.ofInt 64 (x : Int)).toNat : Int) = _
  rw [BitVec.toNat_or, BitVec.ofInt_natCast, BitVec.ofInt_natCast, BitVec.toNat_ofNat, BitVec.toNat_ofNat, Nat.mod_eq_of_lt (by omega), Nat.mod_eq_of_lt (by omega), e2, IntKind.wrap_i64]
  omega

theorem quiet_of_drewN {P : Program} {f : FuncId} {args : Array Value} {w : World} {v : Value} (h : Calls P f args w fun e w' => e = .returned v ∧ ∃ m, w' = w.drewN m) :
    Calls P f args w fun e w' => e = .returned v ∧ ∃ m, w' = w.drewN m := h

end Go.Proofs.YtgfoekbdmgljbaaDoor

namespace Go.Proofs.YtgfoekbdmgljbaaDoor
open Go.RowKit

/-- A sector's head: kind, epoch, seq, part, parts. -/
structure SH where
  kind : Int
  epoch : Int
  seq : Int
  part : Int
  parts : Int
/-- The head's numbers in their order. -/
def SH.nums (h : SH) : List Int := [h.kind, h.epoch, h.seq, h.part, h.parts]
/-- How many bytes each of them has. -/
def szL : List Int := [1, 4, 7, 1, 1]
def hzero : SH := ⟨0, 0, 0, 0, 0⟩
/-- The head as a value. -/
def SH.val (h : SH) : Value := .agg #[.int .i64 h.kind, .int .i64 h.epoch, .int .i64 h.seq, .int .i64 h.part, .int .i64 h.parts]
def SH.cells (h : SH) : List Value := [.int .i64 h.kind, .int .i64 h.epoch, .int .i64 h.seq, .int .i64 h.part, .int .i64 h.parts]

theorem SH.fit (h g : SH) : 0 + h.cells.length ≤ g.cells.length := Nat.le_refl 5
theorem SH.splice (h g : SH) : splice g.cells 0 h.cells = h.cells := rfl
theorem SH.one (h : SH) : ∀ v ∈ h.cells, v.oneCell' = true := by
  intro v hv
  simp only [SH.cells, List.mem_cons, List.not_mem_nil, or_false] at hv
  rcases hv with rfl | rfl | rfl | rfl | rfl <;> rfl

/-- The number at k, and its size. -/
def SH.num (h : SH) (k : Nat) : Int := h.nums.getD k 0
def szN (k : Nat) : Int := szL.getD k 0
/-- Do the first k numbers fit? -/
def fitsTo (h : SH) : Nat → Bool
  | 0 => true
  | k + 1 => fitsTo h k && fitB (h.num k) (szN k)
/-- May a sector have this head? -/
def headB (h : SH) : Bool := fitsTo h 5 && !(h.kind == 0) && decide (h.part < h.parts)
theorem fitsTo_five (h : SH) : fitsTo h 5 = (fitB h.kind 1 && fitB h.epoch 4 && fitB h.seq 7 && fitB h.part 1 && fitB h.parts 1) := by
  simp [fitsTo, SH.num, SH.nums, szN, szL]
theorem fitsTo_le {h : SH} {j k : Nat} (hjk : j ≤ k) (hk : fitsTo h k = true) : fitsTo h j = true := by
  induction k with
  | zero => obtain rfl : j = 0 := by omega
            exact hk
  | succ k ih =>
    rcases Nat.lt_or_ge j (k + 1) with hl | hl
    · simp only [fitsTo, Bool.and_eq_true] at hk
      exact ih (by omega) hk.1
    · obtain rfl : j = k + 1 := by omega
      exact hk
theorem fitsTo_at {h : SH} {k : Nat} (hk : fitsTo h (k + 1) = true) : fitB (h.num k) (szN k) = true := by
  simp only [fitsTo, Bool.and_eq_true] at hk
  exact hk.2
theorem headB_no_fit {h : SH} {k : Nat} (hk : k < 5) (hf : fitB (h.num k) (szN k) = false) : headB h = false := by
  cases hb : headB h with
  | false => rfl
  | true =>
    simp only [headB, Bool.and_eq_true] at hb
    have h1 := fitsTo_at (fitsTo_le (show k + 1 ≤ 5 by omega) hb.1.1)
    rw [hf] at h1
    exact absurd h1 (by decide)
theorem headB_parts {h : SH} (hb : headB h = true) : (h.kind == 0) = false ∧ (h.parts == 0) = false ∧ h.part < h.parts ∧ 0 ≤ h.part := by
  simp only [headB, Bool.and_eq_true, Bool.not_eq_true', decide_eq_true_eq, fitsTo_five] at hb
  obtain ⟨⟨⟨⟨_, h4⟩, _⟩, h2⟩, h3⟩ := hb
  simp only [fitB, decide_eq_true_eq] at h4
  refine ⟨h2, ?_, h3, h4.2.2.1⟩
  rw [beq_eq_false_iff_ne]
  omega

/-- The bytes of a head and of how much data there is, k of the numbers. -/
def hdP (h : SH) : Nat → List UInt8
  | 0 => []
  | k + 1 => putL (hdP h k) (h.num k) (szN k)
def hdB (h : SH) (n : Nat) : List UInt8 := putL (hdP h 5) n 2
theorem length_putL (l : List UInt8) (n s : Int) : (putL l n s).length ≤ l.length + 7 := by
  unfold putL
  split
  · rename_i hf
    simp only [fitB, decide_eq_true_eq] at hf
    rw [List.length_append, length_digs]
    omega
  · omega
theorem length_hdP (h : SH) (k : Nat) : (hdP h k).length ≤ 7 * k := by
  induction k with
  | zero => simp [hdP]
  | succ k ih => have := length_putL (hdP h k) (h.num k) (szN k); simp only [hdP]; omega
theorem putL_fit {l : List UInt8} {n s : Int} (h : fitB n s = true) : putL l n s = l ++ digs n.toNat s.toNat := by simp [putL, h]
/-- The head's bytes, where it may be. -/
def hd14 (h : SH) : List UInt8 := digs h.kind.toNat 1 ++ digs h.epoch.toNat 4 ++ digs h.seq.toNat 7 ++ digs h.part.toNat 1 ++ digs h.parts.toNat 1
theorem length_hd14 (h : SH) : (hd14 h).length = 14 := by simp [hd14, length_digs]
theorem hdP_five {h : SH} (hb : fitsTo h 5 = true) : hdP h 5 = hd14 h := by
  rw [fitsTo_five] at hb
  simp only [Bool.and_eq_true] at hb
  obtain ⟨⟨⟨⟨h1, h2⟩, h3⟩, h4⟩, h5⟩ := hb
  show putL (putL (putL (putL (putL [] h.kind 1) h.epoch 4) h.seq 7) h.part 1) h.parts 1 = _
  rw [putL_fit h1, putL_fit h2, putL_fit h3, putL_fit h4, putL_fit h5]
  rfl
theorem fit_count {n : Nat} (h : n ≤ 496) : fitB (n : Int) 2 = true := fitB_true (by omega) (by omega) (by omega) (by show (n : Int) < 65536; omega)
theorem hdB_eq {h : SH} {n : Nat} (hb : fitsTo h 5 = true) (hn : n ≤ 496) : hdB h n = hd14 h ++ digs n 2 := by
  unfold hdB
  rw [hdP_five hb, putL_fit (fit_count hn)]
  rfl
theorem length_hdB {h : SH} {n : Nat} (hb : fitsTo h 5 = true) (hn : n ≤ 496) : (hdB h n).length = 16 := by
  rw [hdB_eq hb hn, List.length_append, length_hd14, length_digs]
theorem length_hdB_le (h : SH) (n : Nat) : (hdB h n).length ≤ 42 := by
  have h1 := length_hdP h 5
  have h2 := length_putL (hdP h 5) n 2
  unfold hdB
  omega

/-- So many noughts. -/
def nought (n : Nat) : List UInt8 := List.replicate n 0
theorem length_nought (n : Nat) : (nought n).length = n := by simp [nought]
theorem nought_snoc (n : Nat) : nought n ++ [0] = nought (n + 1) := by simp [nought, List.replicate_succ']
/-- What Seal answers. -/
def sealE (h : SH) (n : Nat) : Int := if headB h = false then 15 else if 496 < n then 4 else 0
def sealB (h : SH) (l : List UInt8) : List UInt8 := if headB h = true ∧ l.length ≤ 496 then hdB h l.length ++ l ++ nought (496 - l.length) else []
theorem sealE_head {h : SH} {n : Nat} (hb : headB h = false) : sealE h n = 15 := by simp [sealE, hb]
theorem sealE_large {h : SH} {n : Nat} (hb : headB h = true) (hn : 496 < n) : sealE h n = 4 := by simp [sealE, hb, hn]
theorem sealE_ok {h : SH} {n : Nat} (hb : headB h = true) (hn : n ≤ 496) : sealE h n = 0 := by
  unfold sealE
  rw [if_neg (by simp [hb]), if_neg (by omega)]
theorem sealB_head {h : SH} {l : List UInt8} (hb : headB h = false) : sealB h l = [] := by simp [sealB, hb]
theorem sealB_large {h : SH} {l : List UInt8} (hn : 496 < l.length) : sealB h l = [] := by
  unfold sealB
  rw [if_neg (by omega)]
theorem sealB_ok {h : SH} {l : List UInt8} (hb : headB h = true) (hn : l.length ≤ 496) : sealB h l = hdB h l.length ++ l ++ nought (496 - l.length) := by
  unfold sealB
  rw [if_pos ⟨hb, hn⟩]
theorem headB_fits {h : SH} (hb : headB h = true) : fitsTo h 5 = true := by
  simp only [headB, Bool.and_eq_true] at hb
  exact hb.1.1
theorem length_sealB {h : SH} {l : List UInt8} (hb : headB h = true) (hn : l.length ≤ 496) : (sealB h l).length = 512 := by
  rw [sealB_ok hb hn, List.length_append, List.length_append, length_hdB (headB_fits hb) hn, length_nought]
  omega

/-- The block behind both copies. -/
theorem seal_splice {hd l : List UInt8} (h16 : hd.length = 16) (_ : l.length ≤ 496) :
    splice (splice (zerosL (.int .u8 0) 512) 0 (hd.map bc)) 16 (l.map bc) = (hd ++ l ++ nought (496 - l.length)).map bc := by
  have e1 : splice (zerosL (.int .u8 0) 512) 0 (hd.map bc) = hd.map bc ++ List.replicate 496 (.int .u8 0) := by
    unfold splice zerosL
    rw [List.take_zero, List.nil_append, Nat.zero_add, List.length_map, h16, List.drop_replicate]
  rw [e1]
  unfold splice nought
  rw [List.take_left' (by rw [List.length_map, h16]), List.length_map, List.drop_append, List.drop_eq_nil_of_le (by rw [List.length_map, h16]; omega), List.nil_append, List.length_map, h16,
    List.drop_replicate, List.map_append, List.map_append, List.map_replicate, List.append_assoc, show 496 - (16 + l.length - 16) = 496 - l.length by omega]
  rfl

/-- What stands in 512 bytes: a head, and how much data there is. -/
def readH (b : List UInt8) : SH := ⟨numN (cutL b 0 1), numN (cutL b 1 4), numN (cutL b 5 7), numN (cutL b 12 1), numN (cutL b 13 1)⟩
def readC (b : List UInt8) : Nat := numN (cutL b 14 2)
/-- Is all that stands behind the data a nought? -/
def restB (b : List UInt8) (n : Nat) : Bool := (b.drop (16 + n)).all (· == 0)
/-- Did Seal make it? -/
def madeB (b : List UInt8) : Bool := decide (readC b ≤ 496) && !((readH b).kind == 0) && !((readH b).parts == 0) && decide ((readH b).part < (readH b).parts) && restB b (readC b)
def openE (b : List UInt8) : Int := if b.length ≠ 512 then 3 else if madeB b = true then 0 else 14
def openH (b : List UInt8) : SH := if openE b = 0 then readH b else hzero
def openB (b : List UInt8) : List UInt8 := if openE b = 0 then (b.drop 16).take (readC b) else []

/-- The bytes of the number that bytes are, are these. -/
theorem digs_num : ∀ (l : List UInt8), digs (numN l) l.length = l := by
  intro l
  have h1 := numN_lt l
  have h2 : (256 : Nat) ^ l.length = 2 ^ (8 * l.length) := by rw [show (256 : Nat) = 2 ^ 8 from rfl, ← Nat.pow_mul]
  rw [h2] at h1
  exact ((bytesLess_num (digs (numN l) l.length) l (by rw [length_digs])).2).2 (numN_digs h1)
theorem fit_num {l : List UInt8} (h1 : 1 ≤ l.length) (h7 : l.length ≤ 7) : fitB (numN l) l.length = true := by
  have h3 := numN_lt l
  have h2 : (256 : Nat) ^ l.length = 2 ^ (8 * l.length) := by rw [show (256 : Nat) = 2 ^ 8 from rfl, ← Nat.pow_mul]
  rw [h2] at h3
  refine fitB_true (by omega) (by omega) (by omega) ?_
  rw [Int.toNat_natCast]
  exact_mod_cast h3
theorem fit_cut {b : List UInt8} {a k : Nat} (h : a + k ≤ b.length) (h1 : 1 ≤ k) (h7 : k ≤ 7) : fitB (numN (cutL b a k)) k = true := by
  have hl := length_cutL h
  have hf := fit_num (l := cutL b a k) (by omega) (by omega)
  rwa [hl] at hf
theorem digs_cut {b : List UInt8} {a k : Nat} (h : a + k ≤ b.length) : digs (numN (cutL b a k)) k = cutL b a k := by
  have hd := digs_num (cutL b a k)
  rwa [length_cutL h] at hd
theorem cutL_append (b : List UInt8) (a j k : Nat) : cutL b a j ++ cutL b (a + j) k = cutL b a (j + k) := by
  unfold cutL
  rw [List.take_add, List.drop_drop]
theorem readH_fits {b : List UInt8} (hl : b.length = 512) : fitsTo (readH b) 5 = true := by
  rw [fitsTo_five]
  simp only [readH, Bool.and_eq_true]
  exact ⟨⟨⟨⟨fit_cut (k := 1) (by omega) (by omega) (by omega), fit_cut (k := 4) (by omega) (by omega) (by omega)⟩, fit_cut (k := 7) (by omega) (by omega) (by omega)⟩, fit_cut (k := 1) (by omega) (by omega) (by omega)⟩, fit_cut (k := 1) (by omega) (by omega) (by omega)⟩
theorem readH_bytes {b : List UInt8} (hl : b.length = 512) : hd14 (readH b) ++ digs (readC b) 2 = b.take 16 := by
  unfold hd14 readH readC
  simp only [Int.toNat_natCast]
  rw [digs_cut (by omega), digs_cut (by omega), digs_cut (by omega), digs_cut (by omega), digs_cut (by omega), digs_cut (by omega),
    cutL_append b 0 1 4, cutL_append b 0 5 7, cutL_append b 0 12 1, cutL_append b 0 13 1, cutL_append b 0 14 2]
  simp [cutL]
theorem headB_read {b : List UInt8} (hl : b.length = 512) : headB (readH b) = (!((readH b).kind == 0) && decide ((readH b).part < (readH b).parts)) := by
  unfold headB
  rw [readH_fits hl, Bool.true_and]
/-- What Seal makes of what it tells is it, just where it was made by Seal. -/
theorem seal_read {b : List UInt8} (hl : b.length = 512) (hc : readC b ≤ 496) : decide (sealB (readH b) ((b.drop 16).take (readC b)) = b) = madeB b := by
  have hlen : ((b.drop 16).take (readC b)).length = readC b := by simp; omega
  have hb := headB_read hl
  have hrest : restB b (readC b) = decide (nought (496 - readC b) = b.drop (16 + readC b)) := by
    unfold restB nought
    rw [Bool.eq_iff_iff, decide_eq_true_eq, List.all_eq_true]
    have hd : (b.drop (16 + readC b)).length = 496 - readC b := by simp; omega
    constructor
    · intro h
      symm
      rw [List.eq_replicate_iff]
      exact ⟨hd, fun x hx => by simpa using h x hx⟩
    · intro h x hx
      rw [← h] at hx
      simpa using (List.mem_replicate.1 hx).2
  cases hh : headB (readH b) with
  | false =>
    rw [sealB_head hh]
    have h1 : madeB b = false := by
      rw [hh] at hb
      unfold madeB
      cases h2 : (readH b).kind == 0
      · rw [h2, Bool.not_false, Bool.true_and] at hb
        rw [← hb, Bool.and_false, Bool.false_and]
      · simp
    rw [h1, decide_eq_false_iff_not]
    intro e
    rw [← e] at hl
    simp at hl
  | true =>
    obtain ⟨h1, h2, h3, _⟩ := headB_parts hh
    have h4 : madeB b = restB b (readC b) := by
      unfold madeB
      rw [decide_eq_true hc, h1, h2, decide_eq_true h3]
      rfl
    rw [h4, hrest, sealB_ok hh (by omega), hlen, hdB_eq (headB_fits hh) hc, readH_bytes hl, Bool.eq_iff_iff, decide_eq_true_eq, decide_eq_true_eq]
    have e1 : b.take 16 ++ (b.drop 16).take (readC b) = b.take (16 + readC b) := by rw [List.take_add]
    rw [e1]
    constructor
    · intro h
      have h5 : b.take (16 + readC b) ++ nought (496 - readC b) = b.take (16 + readC b) ++ b.drop (16 + readC b) := by rw [h, List.take_append_drop]
      exact List.append_cancel_left h5
    · intro h
      rw [h, List.take_append_drop]

/-- What is sealed is told. -/
theorem open_seal {h : SH} {l : List UInt8} (hb : headB h = true) (hn : l.length ≤ 496) : openE (sealB h l) = 0 ∧ openH (sealB h l) = h ∧ openB (sealB h l) = l := by
  have hlen := length_sealB hb hn
  have hbytes : sealB h l = hd14 h ++ digs l.length 2 ++ l ++ nought (496 - l.length) := by rw [sealB_ok hb hn, hdB_eq (headB_fits hb) hn]
  have h14 := length_hd14 h
  have hfit := headB_fits hb
  rw [fitsTo_five] at hfit
  simp only [Bool.and_eq_true] at hfit
  have pick : ∀ (x y z : List UInt8) (a k : Nat), x.length = a → y.length = k → cutL (x ++ y ++ z) a k = y := by
    rintro x y z a k rfl rfl
    unfold cutL
    rw [List.append_assoc, List.drop_left, List.take_left]
  have nm : ∀ {n : Int} {s : Nat}, fitB n s = true → (numN (digs n.toNat s) : Int) = n := by
    intro n s hf
    simp only [fitB, decide_eq_true_eq, Int.toNat_natCast] at hf
    have h4 : n.toNat < 2 ^ (8 * s) := by
      have := hf.2.2.2
      have h0 := hf.2.2.1
      have e : ((n.toNat : Nat) : Int) < ((2 ^ (8 * s) : Nat) : Int) := by rw [Int.toNat_of_nonneg h0]; exact_mod_cast this
      exact_mod_cast e
    rw [numN_digs h4]
    exact Int.toNat_of_nonneg hf.2.2.1
  have r : readH (sealB h l) = h := by
    have e1 : cutL (sealB h l) 0 1 = digs h.kind.toNat 1 := by
      rw [hbytes]
      have := pick [] (digs h.kind.toNat 1) (digs h.epoch.toNat 4 ++ digs h.seq.toNat 7 ++ digs h.part.toNat 1 ++ digs h.parts.toNat 1 ++ digs l.length 2 ++ l ++ nought (496 - l.length)) 0 1 rfl (length_digs _ _)
      simpa [hd14, List.append_assoc] using this
    have e2 : cutL (sealB h l) 1 4 = digs h.epoch.toNat 4 := by
      rw [hbytes]
      have := pick (digs h.kind.toNat 1) (digs h.epoch.toNat 4) (digs h.seq.toNat 7 ++ digs h.part.toNat 1 ++ digs h.parts.toNat 1 ++ digs l.length 2 ++ l ++ nought (496 - l.length)) 1 4 (length_digs _ _) (length_digs _ _)
      simpa [hd14, List.append_assoc] using this
    have e3 : cutL (sealB h l) 5 7 = digs h.seq.toNat 7 := by
      rw [hbytes]
      have := pick (digs h.kind.toNat 1 ++ digs h.epoch.toNat 4) (digs h.seq.toNat 7) (digs h.part.toNat 1 ++ digs h.parts.toNat 1 ++ digs l.length 2 ++ l ++ nought (496 - l.length)) 5 7 (by simp [length_digs]) (length_digs _ _)
      simpa [hd14, List.append_assoc] using this
    have e4 : cutL (sealB h l) 12 1 = digs h.part.toNat 1 := by
      rw [hbytes]
      have := pick (digs h.kind.toNat 1 ++ digs h.epoch.toNat 4 ++ digs h.seq.toNat 7) (digs h.part.toNat 1) (digs h.parts.toNat 1 ++ digs l.length 2 ++ l ++ nought (496 - l.length)) 12 1 (by simp [length_digs]) (length_digs _ _)
      simpa [hd14, List.append_assoc] using this
    have e5 : cutL (sealB h l) 13 1 = digs h.parts.toNat 1 := by
      rw [hbytes]
      have := pick (digs h.kind.toNat 1 ++ digs h.epoch.toNat 4 ++ digs h.seq.toNat 7 ++ digs h.part.toNat 1) (digs h.parts.toNat 1) (digs l.length 2 ++ l ++ nought (496 - l.length)) 13 1 (by simp [length_digs]) (length_digs _ _)
      simpa [hd14, List.append_assoc] using this
    unfold readH
    rw [e1, e2, e3, e4, e5, nm hfit.1.1.1.1, nm hfit.1.1.1.2, nm hfit.1.1.2, nm hfit.1.2, nm hfit.2]
  have c : readC (sealB h l) = l.length := by
    have e6 : cutL (sealB h l) 14 2 = digs l.length 2 := by
      rw [hbytes]
      have := pick (hd14 h) (digs l.length 2) (l ++ nought (496 - l.length)) 14 2 h14 (length_digs _ _)
      simpa [List.append_assoc] using this
    unfold readC
    rw [e6]
    exact numN_digs (by show l.length < 65536; omega)
  have d : ((sealB h l).drop 16).take (readC (sealB h l)) = l := by
    rw [c, hbytes]
    have := pick (hd14 h ++ digs l.length 2) l (nought (496 - l.length)) 16 l.length (by rw [List.length_append, h14, length_digs]) rfl
    exact this
  have m : madeB (sealB h l) = true := by
    rw [← seal_read hlen (by omega), d, r, decide_eq_true_eq]
  have e : openE (sealB h l) = 0 := by
    unfold openE
    rw [if_neg (by simp [hlen]), if_pos m]
  exact ⟨e, by unfold openH; rw [if_pos e, r], by unfold openB; rw [if_pos e, d]⟩

end Go.Proofs.YtgfoekbdmgljbaaDoor

namespace Go.Proofs.YtgfoekbdmgljbaaDoor
open Go.RowKit

/-- A sector: its bytes; is it torn? -/
structure Sec where
  data : List UInt8
  torn : Bool
/-- An unsure write. -/
structure Wri where
  place : Nat
  data : List UInt8
def Wri.sec (u : Wri) : Sec := ⟨u.data, false⟩
def zero512 : List UInt8 := List.replicate 512 0
theorem length_zero512 : zero512.length = 512 := List.length_replicate ..
def secZero : Sec := ⟨zero512, false⟩
def secTorn : Sec := ⟨zero512, true⟩
/-- b, and noughts behind it. -/
def padB (b : List UInt8) : List UInt8 := b ++ List.replicate (512 - b.length) 0
theorem length_padB {b : List UInt8} (h : b.length ≤ 512) : (padB b).length = 512 := by simp [padB]; omega

def Sec.cells (s : Sec) : List Value := s.data.map bc ++ [.bool s.torn]
def Wri.cells (u : Wri) : List Value := .int .i64 (u.place : Int) :: u.sec.cells
theorem Sec.length_cells {s : Sec} (h : s.data.length = 512) : s.cells.length = 513 := by simp [Sec.cells, h]
theorem Wri.length_cells {u : Wri} (h : u.data.length = 512) : u.cells.length = 514 := by
  have : u.sec.cells.length = 513 := Sec.length_cells h
  simp [Wri.cells, this]
theorem Sec.one (s : Sec) : ∀ v ∈ s.cells, v.oneCell' = true := by
  intro v hv
  simp only [Sec.cells, List.mem_append, List.mem_map, List.mem_singleton] at hv
  rcases hv with ⟨x, _, rfl⟩ | rfl <;> rfl
theorem Wri.one (u : Wri) : ∀ v ∈ u.cells, v.oneCell' = true := by
  intro v hv
  simp only [Wri.cells, List.mem_cons] at hv
  rcases hv with rfl | hv
  · rfl
  · exact Sec.one _ v hv
def cellsS (l : List Sec) : List Value := l.flatMap Sec.cells
def cellsU (l : List Wri) : List Value := l.flatMap Wri.cells
theorem cellsS_one (l : List Sec) : ∀ v ∈ cellsS l, v.oneCell' = true := by
  intro v hv
  obtain ⟨s, _, h⟩ := List.mem_flatMap.1 hv
  exact Sec.one s v h
theorem cellsU_one (l : List Wri) : ∀ v ∈ cellsU l, v.oneCell' = true := by
  intro v hv
  obtain ⟨s, _, h⟩ := List.mem_flatMap.1 hv
  exact Wri.one s v h

section
variable {α β : Type} {f : α → List β} {s : Nat}
theorem flat_length : ∀ {l : List α}, (∀ a ∈ l, (f a).length = s) → (l.flatMap f).length = l.length * s
  | [], _ => by simp
  | a :: l, h => by
    have h1 := h a (by simp)
    have h2 := flat_length (l := l) fun b hb => h b (List.mem_cons_of_mem _ hb)
    simp only [List.flatMap_cons, List.length_append, List.length_cons, h1, h2, Nat.succ_mul]
    omega
theorem flat_drop : ∀ {l : List α} (k : Nat), (∀ a ∈ l, (f a).length = s) → (l.flatMap f).drop (k * s) = (l.drop k).flatMap f
  | [], k, _ => by simp
  | a :: l, 0, _ => by simp
  | a :: l, k + 1, h => by
    have h1 := h a (by simp)
    have h2 := flat_drop (l := l) k fun b hb => h b (List.mem_cons_of_mem _ hb)
    simp only [List.flatMap_cons, List.drop_succ_cons, Nat.succ_mul]
    rw [List.drop_append, List.drop_eq_nil_of_le (by omega), h1, show k * s + s - s = k * s by omega, h2]
    simp
theorem flat_take : ∀ {l : List α} (k : Nat), (∀ a ∈ l, (f a).length = s) → (l.flatMap f).take (k * s) = (l.take k).flatMap f
  | [], k, _ => by simp
  | a :: l, 0, _ => by simp
  | a :: l, k + 1, h => by
    have h1 := h a (by simp)
    have h2 := flat_take (l := l) k fun b hb => h b (List.mem_cons_of_mem _ hb)
    simp only [List.flatMap_cons, List.take_succ_cons, Nat.succ_mul]
    rw [List.take_append, List.take_of_length_le (by omega), h1, show k * s + s - s = k * s by omega, h2]
/-- Element k's cells. -/
theorem flat_get {l : List α} (h : ∀ a ∈ l, (f a).length = s) {k : Nat} (hk : k < l.length) {j : Nat} {v : β} (hj : (f l[k])[j]? = some v) : (l.flatMap f)[k * s + j]? = some v := by
  have h1 := flat_drop k h
  have e : l.drop k = l[k] :: l.drop (k + 1) := List.drop_eq_getElem_cons hk
  rw [e] at h1
  have : ((l.flatMap f).drop (k * s))[j]? = some v := by
    rw [h1, List.flatMap_cons, List.getElem?_append_left (List.getElem?_eq_some_iff.1 hj).1, hj]
  rwa [List.getElem?_drop] at this
/-- Element k is another one now. -/
theorem flat_set {l : List α} (h : ∀ a ∈ l, (f a).length = s) {k : Nat} (hk : k < l.length) {a : α} (ha : (f a).length = s) : splice (l.flatMap f) (k * s) (f a) = (l.set k a).flatMap f := by
  unfold splice
  rw [ha, show k * s + s = (k + 1) * s by rw [Nat.succ_mul], flat_take k h, flat_drop (k + 1) h, List.set_eq_take_append_cons_drop, if_pos hk]
  simp
end
theorem splice_length {α : Type} {L cs : List α} {o : Nat} (h : o + cs.length ≤ L.length) : (splice L o cs).length = L.length := length_splice L o cs h

/-- Every sector has its 512 bytes. -/
def okS (l : List Sec) : Prop := ∀ s ∈ l, s.data.length = 512
def okU (n : Nat) (l : List Wri) : Prop := ∀ u ∈ l, u.place < n ∧ u.data.length = 512
theorem okS.cells {l : List Sec} (h : okS l) : ∀ s ∈ l, s.cells.length = 513 := fun s hs => Sec.length_cells (h s hs)
theorem okU.cells {n : Nat} {l : List Wri} (h : okU n l) : ∀ u ∈ l, u.cells.length = 514 := fun u hu => Wri.length_cells (h u hu).2
theorem okS.set_ {l : List Sec} (h : okS l) (k : Nat) {s : Sec} (hs : s.data.length = 512) : okS (l.set k s) := fun x hx => by
  rcases List.mem_or_eq_of_mem_set hx with h1 | rfl
  · exact h x h1
  · exact hs
theorem okS.length {l : List Sec} (h : okS l) : (cellsS l).length = l.length * 513 := flat_length h.cells
theorem okU.length {n : Nat} {l : List Wri} (h : okU n l) : (cellsU l).length = l.length * 514 := flat_length h.cells
theorem okU.snoc {n : Nat} {l : List Wri} (h : okU n l) {u : Wri} (h1 : u.place < n) (h2 : u.data.length = 512) : okU n (l ++ [u]) := fun x hx => by
  rcases List.mem_append.1 hx with h3 | h3
  · exact h x h3
  · obtain rfl := List.mem_singleton.1 h3; exact ⟨h1, h2⟩

/-- Bit k modulo 64. -/
def bitAt (m k : Nat) : Bool := m.testBit (k % 64)
/-- What becomes of the sectors by the k-th unsure write. -/
def stepC (m t : Nat) (l : List Sec) (k : Nat) (u : Wri) : List Sec :=
  if bitAt t k = true then l.set u.place secTorn else if bitAt m k = true then l.set u.place u.sec else l
/-- By the first k of them. -/
def crashN (m t : Nat) (us : List Wri) (l : List Sec) : Nat → List Sec
  | 0 => l
  | k + 1 => match us[k]? with
    | some u => stepC m t (crashN m t us l k) k u
    | none => crashN m t us l k
/-- As they are read, behind the first k. -/
def nowN (us : List Wri) (l : List Sec) : Nat → List Sec
  | 0 => l
  | k + 1 => match us[k]? with
    | some u => (nowN us l k).set u.place u.sec
    | none => nowN us l k
/-- The first k places are taken over from S. -/
def copyN (us : List Wri) (S l : List Sec) : Nat → List Sec
  | 0 => l
  | k + 1 => match us[k]? with
    | some u => (copyN us S l k).set u.place (S.getD u.place secZero)
    | none => copyN us S l k
section
variable {m t : Nat} {us : List Wri} {l S : List Sec}
theorem crashN_succ {k : Nat} (h : k < us.length) : crashN m t us l (k + 1) = stepC m t (crashN m t us l k) k us[k] := by
  rw [crashN, List.getElem?_eq_getElem h]
theorem nowN_succ {k : Nat} (h : k < us.length) : nowN us l (k + 1) = (nowN us l k).set us[k].place us[k].sec := by
  rw [nowN, List.getElem?_eq_getElem h]
theorem copyN_succ {k : Nat} (h : k < us.length) : copyN us S l (k + 1) = (copyN us S l k).set us[k].place (S.getD us[k].place secZero) := by
  rw [copyN, List.getElem?_eq_getElem h]
theorem length_stepC (l : List Sec) (k : Nat) (u : Wri) : (stepC m t l k u).length = l.length := by
  unfold stepC; split
  · simp
  · split <;> simp
theorem length_crashN : ∀ k, (crashN m t us l k).length = l.length
  | 0 => rfl
  | k + 1 => by
    rw [crashN]
    split
    · rw [length_stepC, length_crashN k]
    · exact length_crashN k
theorem length_nowN : ∀ k, (nowN us l k).length = l.length
  | 0 => rfl
  | k + 1 => by
    rw [nowN]
    split
    · rw [List.length_set, length_nowN k]
    · exact length_nowN k
theorem length_copyN : ∀ k, (copyN us S l k).length = l.length
  | 0 => rfl
  | k + 1 => by
    rw [copyN]
    split
    · rw [List.length_set, length_copyN k]
    · exact length_copyN k
theorem ok_stepC {n : Nat} {l : List Sec} (h : okS l) (k : Nat) {u : Wri} (hu : u.place < n ∧ u.data.length = 512) : okS (stepC m t l k u) := by
  unfold stepC; split
  · exact h.set_ _ length_zero512
  · split
    · exact h.set_ _ hu.2
    · exact h
theorem ok_crashN {n : Nat} (h : okS l) (hu : okU n us) : ∀ k, okS (crashN m t us l k)
  | 0 => h
  | k + 1 => by
    rw [crashN]
    split
    · rename_i u e
      exact ok_stepC (ok_crashN h hu k) k (hu u (List.mem_of_getElem? e))
    · exact ok_crashN h hu k
theorem ok_nowN {n : Nat} (h : okS l) (hu : okU n us) : ∀ k, okS (nowN us l k)
  | 0 => h
  | k + 1 => by
    rw [nowN]
    split
    · rename_i u e
      exact (ok_nowN h hu k).set_ _ (hu u (List.mem_of_getElem? e)).2
    · exact ok_nowN h hu k
theorem ok_getD (h : okS S) (i : Nat) : (S.getD i secZero).data.length = 512 := by
  rw [List.getD_eq_getElem?_getD]
  cases e : S[i]? with
  | none => exact length_zero512
  | some s => exact h s (List.mem_of_getElem? e)
theorem ok_copyN (hS : okS S) (h : okS l) : ∀ k, okS (copyN us S l k)
  | 0 => h
  | k + 1 => by
    rw [copyN]
    split
    · exact (ok_copyN hS h k).set_ _ (ok_getD hS _)
    · exact ok_copyN hS h k
/-- A place that none of the first k names. -/
theorem crashN_far {i : Nat} : ∀ k, (∀ j u, j < k → us[j]? = some u → u.place ≠ i) → (crashN m t us l k)[i]? = l[i]?
  | 0, _ => rfl
  | k + 1, h => by
    have ih := crashN_far (i := i) k fun j u hj => h j u (by omega)
    rw [crashN]
    split
    · rename_i u e
      have hne := h k u (by omega) e
      unfold stepC
      split
      · rw [List.getElem?_set_ne hne]; exact ih
      · split
        · rw [List.getElem?_set_ne hne]; exact ih
        · exact ih
    · exact ih
theorem nowN_far {i : Nat} : ∀ k, (∀ j u, j < k → us[j]? = some u → u.place ≠ i) → (nowN us l k)[i]? = l[i]?
  | 0, _ => rfl
  | k + 1, h => by
    have ih := nowN_far (i := i) k fun j u hj => h j u (by omega)
    rw [nowN]
    split
    · rename_i u e
      rw [List.getElem?_set_ne (h k u (by omega) e)]; exact ih
    · exact ih
theorem copyN_far {i : Nat} : ∀ k, (∀ j u, j < k → us[j]? = some u → u.place ≠ i) → (copyN us S l k)[i]? = l[i]?
  | 0, _ => rfl
  | k + 1, h => by
    have ih := copyN_far (i := i) k fun j u hj => h j u (by omega)
    rw [copyN]
    split
    · rename_i u e
      rw [List.getElem?_set_ne (h k u (by omega) e)]; exact ih
    · exact ih
theorem copyN_at {i : Nat} (hi : i < l.length) : ∀ k, (∃ j u, j < k ∧ us[j]? = some u ∧ u.place = i) → (copyN us S l k)[i]? = some (S.getD i secZero)
  | 0, ⟨_, _, h, _⟩ => absurd h (Nat.not_lt_zero _)
  | k + 1, ⟨j, u', h1, h2, h3⟩ => by
    rw [copyN]
    split
    · rename_i u e
      by_cases hp : u.place = i
      · rw [hp, List.getElem?_set_self (by rw [length_copyN]; exact hi)]
      · rw [List.getElem?_set_ne hp]
        refine copyN_at hi k ⟨j, u', ?_, h2, h3⟩
        by_cases hjk : j = k
        · subst hjk; rw [e] at h2; injection h2 with h2; subst h2; exact absurd h3 hp
        · omega
    · rename_i e
      refine copyN_at hi k ⟨j, u', ?_, h2, h3⟩
      by_cases hjk : j = k
      · subst hjk; rw [e] at h2; cases h2
      · omega
/-- Behind both of settle's loops what is read is what is sure. -/
theorem settled : copyN us (crashN m t us l us.length) (nowN us l us.length) us.length = crashN m t us l us.length := by
  apply List.ext_getElem?
  intro i
  by_cases hi : i < l.length
  · by_cases h : ∃ j u, j < us.length ∧ us[j]? = some u ∧ u.place = i
    · rw [copyN_at (by rw [length_nowN]; exact hi) _ h, List.getD_eq_getElem?_getD, List.getElem?_eq_getElem (by rw [length_crashN]; exact hi)]
      rfl
    · have hf : ∀ j u, j < us.length → us[j]? = some u → u.place ≠ i := fun j u hj hu hp => h ⟨j, u, hj, hu, hp⟩
      rw [copyN_far _ hf, nowN_far _ hf, crashN_far _ hf]
  · rw [List.getElem?_eq_none (by rw [length_copyN, length_nowN]; omega), List.getElem?_eq_none (by rw [length_crashN]; omega)]
theorem nowN_left {vs : List Wri} : ∀ k, k ≤ us.length → nowN (us ++ vs) l k = nowN us l k
  | 0, _ => rfl
  | k + 1, h => by
    rw [nowN, nowN, nowN_left k (by omega), List.getElem?_append_left (by omega)]
theorem nowN_snoc (u : Wri) : nowN (us ++ [u]) l (us ++ [u]).length = (nowN us l us.length).set u.place u.sec := by
  rw [List.length_append, List.length_singleton, nowN_succ (by simp), nowN_left _ (Nat.le_refl _)]
  simp
end

/-- A device: what is sure, what is not, how many writes and syncs there are till the power goes, and whether it is gone. -/
structure Dv where
  sure : List Sec
  uns : List Wri
  limit : Nat
  down : Bool
def Dv.now (x : Dv) : List Sec := nowN x.uns x.sure x.uns.length
def Dv.len (x : Dv) : Nat := x.sure.length
structure Dv.ok (x : Dv) : Prop where
  s : okS x.sure
  u : okU x.sure.length x.uns
  few : x.sure.length ≤ 4096
  lim : x.limit ≤ 9223372036854775807
theorem Dv.length_now (x : Dv) : x.now.length = x.sure.length := length_nowN _
theorem Dv.ok.now {x : Dv} (h : x.ok) : okS x.now := ok_nowN h.s h.u _
def newDv (n : Nat) : Dv := ⟨List.replicate n secZero, [], 0, false⟩
/-- A write or a sync is counted; is it done? -/
def Dv.spent (x : Dv) : Dv := if x.limit = 0 then x else { x with limit := x.limit - 1, down := decide (x.limit = 1) }
def Dv.lasts (x : Dv) : Bool := decide (x.limit ≠ 1)
/-- All is sure, as the bits say. -/
def Dv.settled (x : Dv) (m t : Nat) : Dv := { x with sure := crashN m t x.uns x.sure x.uns.length, uns := [] }
def Dv.has (x : Dv) (n : Int) : Bool := decide (0 ≤ n ∧ n < (x.sure.length : Int))
/-- Why a sector can't be read (0: it can). -/
def Dv.readE (x : Dv) (n : Int) : Int := if x.down = true then 8 else if x.has n = false then 1 else if (x.now.getD n.toNat secZero).torn = true then 9 else 0
def Dv.readB (x : Dv) (n : Int) : List UInt8 := if x.readE n = 0 then (x.now.getD n.toNat secZero).data else []
def Dv.write (x : Dv) (n : Int) (b : List UInt8) : Dv :=
  if x.down = true ∨ x.has n = false ∨ 512 < b.length then x else if x.lasts = false then x.spent else { x.spent with uns := x.uns ++ [⟨n.toNat, padB b⟩] }
def Dv.writeE (x : Dv) (n : Int) (b : List UInt8) : Int :=
  if x.down = true then 8 else if x.has n = false ∨ 512 < b.length then 1 else if x.lasts = false then 8 else 0
def allOnes : Nat := 18446744073709551615
def Dv.sync (x : Dv) : Dv := if x.down = true then x else if x.lasts = false then x.spent else x.spent.settled allOnes 0
def Dv.syncE (x : Dv) : Int := if x.down = true ∨ x.lasts = false then 8 else 0
def Dv.crash (x : Dv) (m t : Nat) : Dv := { x.settled m t with limit := 0, down := false }
def Dv.limited (x : Dv) (n : Int) : Dv := if n < 0 then x else { x with limit := n.toNat }

section
variable {x : Dv}
theorem spent_sure : x.spent.sure = x.sure := by unfold Dv.spent; split <;> rfl
theorem spent_uns : x.spent.uns = x.uns := by unfold Dv.spent; split <;> rfl
theorem spent_now : x.spent.now = x.now := by unfold Dv.now; rw [spent_sure, spent_uns]
theorem Dv.ok.spent (h : x.ok) : x.spent.ok := ⟨by rw [spent_sure]; exact h.s, by rw [spent_sure, spent_uns]; exact h.u, by rw [spent_sure]; exact h.few, by
  have := h.lim
  unfold Dv.spent
  split
  · exact this
  · show x.limit - 1 ≤ _; omega⟩
theorem Dv.ok.settled (h : x.ok) (m t : Nat) : (x.settled m t).ok :=
  ⟨ok_crashN h.s h.u _, fun u hu => (by cases hu), by show (crashN m t x.uns x.sure x.uns.length).length ≤ 4096; rw [length_crashN]; exact h.few, h.lim⟩
theorem settled_now (m t : Nat) : (x.settled m t).now = (x.settled m t).sure := rfl
theorem Dv.ok.crash (h : x.ok) (m t : Nat) : (x.crash m t).ok := ⟨(h.settled m t).s, (h.settled m t).u, (h.settled m t).few, Nat.zero_le _⟩
theorem Dv.ok.wrote (h : x.ok) {n : Int} {b : List UInt8} (h1 : x.has n = true) (h2 : b.length ≤ 512) : Dv.ok { x.spent with uns := x.uns ++ [⟨n.toNat, padB b⟩] } := by
  simp only [Dv.has, decide_eq_true_eq] at h1
  exact ⟨h.spent.s, okU.snoc (by show okU x.spent.sure.length x.uns; rw [spent_sure]; exact h.u) (by show n.toNat < x.spent.sure.length; rw [spent_sure]; omega) (length_padB h2), h.spent.few, h.spent.lim⟩
end

end Go.Proofs.YtgfoekbdmgljbaaDoor

namespace Go.Proofs.YtgfoekbdmgljbaaDoor
open Go.RowKit

structure Blk where
  gen : Int
  epoch : Int
  first : Int
  begun : Int
  count : Int
/-- Heads that are alike. -/
def SH.same (a b : SH) : Bool := decide (a.nums = b.nums)
theorem SH.same_iff (a b : SH) : a.same b = true ↔ a = b := by
  obtain ⟨a0, a1, a2, a3, a4⟩ := a
  obtain ⟨b0, b1, b2, b3, b4⟩ := b
  simp [SH.same, SH.nums]
def bzero : Blk := ⟨0, 0, 0, 0, 0⟩
def Blk.val (b : Blk) : Value := .agg #[.int .i64 b.gen, .int .i64 b.epoch, .int .i64 b.first, .int .i64 b.begun, .int .i64 b.count]
def Blk.cells (b : Blk) : List Value := [.int .i64 b.gen, .int .i64 b.epoch, .int .i64 b.first, .int .i64 b.begun, .int .i64 b.count]
def Blk.nums (b : Blk) : List Int := [b.gen, b.epoch, b.first, b.begun, b.count]
def Blk.num (b : Blk) (k : Nat) : Int := b.nums.getD k 0
/-- Do the first k numbers fit? -/
def bfitsTo (b : Blk) : Nat → Bool
  | 0 => true
  | k + 1 => bfitsTo b k && fitB (b.num k) 7
def Blk.fits (b : Blk) : Bool := bfitsTo b 5
theorem Blk.fits_all (b : Blk) : b.fits = (fitB b.gen 7 && fitB b.epoch 7 && fitB b.first 7 && fitB b.begun 7 && fitB b.count 7) := by
  simp [Blk.fits, bfitsTo, Blk.num, Blk.nums]
/-- The bytes of a block, k of its numbers. -/
def bytesTo (b : Blk) : Nat → List UInt8
  | 0 => []
  | k + 1 => putL (bytesTo b k) (b.num k) 7
def Blk.bytes (b : Blk) : List UInt8 := digs b.gen.toNat 7 ++ digs b.epoch.toNat 7 ++ digs b.first.toNat 7 ++ digs b.begun.toNat 7 ++ digs b.count.toNat 7
theorem length_bbytes (b : Blk) : b.bytes.length = 35 := by simp [Blk.bytes, length_digs]
theorem length_bytesTo (b : Blk) (k : Nat) : (bytesTo b k).length ≤ 7 * k := by
  induction k with
  | zero => simp [bytesTo]
  | succ k ih => have := length_putL (bytesTo b k) (b.num k) 7; simp only [bytesTo]; omega
theorem bytesTo_five {b : Blk} (h : b.fits = true) : bytesTo b 5 = b.bytes := by
  rw [Blk.fits_all] at h
  simp only [Bool.and_eq_true] at h
  obtain ⟨⟨⟨⟨h1, h2⟩, h3⟩, h4⟩, h5⟩ := h
  show putL (putL (putL (putL (putL [] b.gen 7) b.epoch 7) b.first 7) b.begun 7) b.count 7 = _
  rw [putL_fit h1, putL_fit h2, putL_fit h3, putL_fit h4, putL_fit h5]
  rfl
/-- The head of a block's sector. -/
def supH : SH := ⟨1, 0, 0, 0, 1⟩
theorem supH_ok : headB supH = true := by decide +kernel
def Blk.sec (b : Blk) : List UInt8 := sealB supH b.bytes
theorem length_bsec (b : Blk) : b.sec.length = 512 := length_sealB supH_ok (by rw [length_bbytes]; decide)
theorem bsec_open (b : Blk) : openE b.sec = 0 ∧ openH b.sec = supH ∧ openB b.sec = b.bytes := open_seal supH_ok (by rw [length_bbytes]; decide)

/-- The block that data are. -/
def readBlk (l : List UInt8) : Blk := ⟨numN (cutL l 0 7), numN (cutL l 7 7), numN (cutL l 14 7), numN (cutL l 21 7), numN (cutL l 28 7)⟩
theorem num_fit {n : Int} {s : Nat} (hf : fitB n s = true) : (numN (digs n.toNat s) : Int) = n := by
  simp only [fitB, decide_eq_true_eq, Int.toNat_natCast] at hf
  have h0 := hf.2.2.1
  have h4 : n.toNat < 2 ^ (8 * s) := by
    have e : ((n.toNat : Nat) : Int) < ((2 ^ (8 * s) : Nat) : Int) := by rw [Int.toNat_of_nonneg h0]; exact_mod_cast hf.2.2.2
    exact_mod_cast e
  rw [numN_digs h4]
  exact Int.toNat_of_nonneg h0
theorem read_bytes_blk {b : Blk} (h : b.fits = true) : readBlk b.bytes = b := by
  rw [Blk.fits_all] at h
  simp only [Bool.and_eq_true] at h
  obtain ⟨⟨⟨⟨h1, h2⟩, h3⟩, h4⟩, h5⟩ := h
  have pick : ∀ (x y z : List UInt8) (a k : Nat), x.length = a → y.length = k → cutL (x ++ y ++ z) a k = y := by
    rintro x y z a k rfl rfl
    unfold cutL
    rw [List.append_assoc, List.drop_left, List.take_left]
  have e1 : cutL b.bytes 0 7 = digs b.gen.toNat 7 := by
    have := pick [] (digs b.gen.toNat 7) (digs b.epoch.toNat 7 ++ digs b.first.toNat 7 ++ digs b.begun.toNat 7 ++ digs b.count.toNat 7) 0 7 rfl (length_digs _ _)
    simpa [Blk.bytes, List.append_assoc] using this
  have e2 : cutL b.bytes 7 7 = digs b.epoch.toNat 7 := by
    have := pick (digs b.gen.toNat 7) (digs b.epoch.toNat 7) (digs b.first.toNat 7 ++ digs b.begun.toNat 7 ++ digs b.count.toNat 7) 7 7 (length_digs _ _) (length_digs _ _)
    simpa [Blk.bytes, List.append_assoc] using this
  have e3 : cutL b.bytes 14 7 = digs b.first.toNat 7 := by
    have := pick (digs b.gen.toNat 7 ++ digs b.epoch.toNat 7) (digs b.first.toNat 7) (digs b.begun.toNat 7 ++ digs b.count.toNat 7) 14 7 (by simp [length_digs]) (length_digs _ _)
    simpa [Blk.bytes, List.append_assoc] using this
  have e4 : cutL b.bytes 21 7 = digs b.begun.toNat 7 := by
    have := pick (digs b.gen.toNat 7 ++ digs b.epoch.toNat 7 ++ digs b.first.toNat 7) (digs b.begun.toNat 7) (digs b.count.toNat 7) 21 7 (by simp [length_digs]) (length_digs _ _)
    simpa [Blk.bytes, List.append_assoc] using this
  have e5 : cutL b.bytes 28 7 = digs b.count.toNat 7 := by
    have := pick (digs b.gen.toNat 7 ++ digs b.epoch.toNat 7 ++ digs b.first.toNat 7 ++ digs b.begun.toNat 7) (digs b.count.toNat 7) [] 28 7 (by simp [length_digs]) (length_digs _ _)
    simpa [Blk.bytes, List.append_assoc] using this
  unfold readBlk
  rw [e1, e2, e3, e4, e5, num_fit h1, num_fit h2, num_fit h3, num_fit h4, num_fit h5]

/-- Do these bytes, in sector k, hold a block that counts? -/
def countsB (l : List UInt8) (k : Nat) : Bool := decide (openE l = 0) && (openH l).same supH && decide ((openB l).length = 35) && decide ((readBlk (openB l)).gen % 2 = (k : Int))
/-- The block that counts in a sector. -/
def secBlk (s : Sec) (k : Nat) : Option Blk := if s.torn = false ∧ countsB s.data k = true then some (readBlk (openB s.data)) else none
theorem secBlk_zero (k : Nat) : secBlk secZero k = none := by
  have h : openE zero512 = 14 := by decide +kernel
  unfold secBlk countsB
  rw [if_neg]
  rintro ⟨_, h2⟩
  rw [show secZero.data = zero512 from rfl, h] at h2
  simp at h2
theorem secBlk_torn (k : Nat) : secBlk secTorn k = none := by
  unfold secBlk
  rw [if_neg]
  rintro ⟨h, _⟩
  cases h
theorem secBlk_sec {b : Blk} {k : Nat} (h : b.fits = true) (hk : b.gen % 2 = (k : Int)) : secBlk ⟨b.sec, false⟩ k = some b := by
  obtain ⟨h1, h2, h3⟩ := bsec_open b
  unfold secBlk countsB
  have h4 : supH.same supH = true := (SH.same_iff _ _).2 rfl
  simp only [h1, h2, h3, h4, length_bbytes, read_bytes_blk h, hk]
  rfl
/-- Of two blocks the one that counts. -/
def pickB : Option Blk → Option Blk → Option Blk
  | none, none => none
  | some a, none => some a
  | none, some b => some b
  | some a, some b => if b.gen < a.gen then some a else some b
/-- The block of a device's sectors. -/
def loadS (S : List Sec) : Option Blk := pickB (secBlk (S.getD 0 secZero) 0) (secBlk (S.getD 1 secZero) 1)

/-- The sectors hold just this block: in its own place, and nothing greater in the other one. -/
def Inv (S : List Sec) : Option Blk → Prop
  | none => secBlk (S.getD 0 secZero) 0 = none ∧ secBlk (S.getD 1 secZero) 1 = none
  | some c => ∃ k : Nat, k < 2 ∧ c.gen % 2 = (k : Int) ∧ secBlk (S.getD k secZero) k = some c ∧ ∀ d, secBlk (S.getD (1 - k) secZero) (1 - k) = some d → d.gen < c.gen
theorem Inv.load {S : List Sec} {o : Option Blk} (h : Inv S o) : loadS S = o := by
  unfold loadS
  match o, h with
  | none, ⟨h0, h1⟩ => rw [h0, h1]; rfl
  | some c, ⟨k, hk, _, h0, h1⟩ =>
    have e : k = 0 ∨ k = 1 := by omega
    rcases e with rfl | rfl
    · rw [h0]
      cases hd : secBlk (S.getD 1 secZero) 1 with
      | none => rfl
      | some d =>
        have := h1 d hd
        show (if d.gen < c.gen then some c else some d) = some c
        rw [if_pos this]
    · rw [h0]
      cases hd : secBlk (S.getD 0 secZero) 0 with
      | none => rfl
      | some d =>
        have := h1 d hd
        show (if c.gen < d.gen then some d else some c) = some c
        rw [if_neg (by omega)]
/-- The number that comes next. -/
def nextG : Option Blk → Int
  | none => 0
  | some c => c.gen + 1
def Next (o : Option Blk) (b : Blk) (k : Nat) : Prop := b.gen = nextG o ∧ k < 2 ∧ b.gen % 2 = (k : Int)
theorem getD_set_self {S : List Sec} {k : Nat} {s : Sec} (h : k < S.length) : (S.set k s).getD k secZero = s := by
  rw [List.getD_eq_getElem?_getD, List.getElem?_set_self h]
  rfl
theorem getD_set_ne {S : List Sec} {j k : Nat} {s : Sec} (h : k ≠ j) : (S.set k s).getD j secZero = S.getD j secZero := by
  rw [List.getD_eq_getElem?_getD, List.getElem?_set_ne h, List.getD_eq_getElem?_getD]
theorem Inv.write {S : List Sec} {o : Option Blk} (h : Inv S o) (hl : 2 ≤ S.length) {b : Blk} {k : Nat} (hn : Next o b k) (hf : b.fits = true) : Inv (S.set k ⟨b.sec, false⟩) (some b) := by
  obtain ⟨hg, hk, hm⟩ := hn
  refine ⟨k, hk, hm, by rw [getD_set_self (by omega)]; exact secBlk_sec hf hm, fun d hd => ?_⟩
  rw [getD_set_ne (by omega)] at hd
  match o, h with
  | none, ⟨h0, h1⟩ =>
    have e : k = 0 ∨ k = 1 := by omega
    rcases e with rfl | rfl
    · rw [h1] at hd; cases hd
    · rw [h0] at hd; cases hd
  | some c, ⟨k', hk', hm', h0, _⟩ =>
    simp only [nextG] at hg
    have e : 1 - k = k' := by omega
    rw [e, h0] at hd
    injection hd with hd
    subst hd
    omega
theorem Inv.tear {S : List Sec} {o : Option Blk} (h : Inv S o) (hl : 2 ≤ S.length) {b : Blk} {k : Nat} (hn : Next o b k) : Inv (S.set k secTorn) o := by
  obtain ⟨hg, hk, hm⟩ := hn
  match o, h with
  | none, ⟨h0, h1⟩ =>
    have e : k = 0 ∨ k = 1 := by omega
    rcases e with rfl | rfl
    · exact ⟨by rw [getD_set_self (by omega)]; exact secBlk_torn 0, by rw [getD_set_ne (by decide)]; exact h1⟩
    · exact ⟨by rw [getD_set_ne (by decide)]; exact h0, by rw [getD_set_self (by omega)]; exact secBlk_torn 1⟩
  | some c, ⟨k', hk', hm', h0, _⟩ =>
    simp only [nextG] at hg
    refine ⟨k', hk', hm', by rw [getD_set_ne (by omega)]; exact h0, fun d hd => ?_⟩
    have e : 1 - k' = k := by omega
    rw [e, getD_set_self (by omega), secBlk_torn] at hd
    cases hd
theorem Next.of (o : Option Blk) (b : Blk) (hg : b.gen = nextG o) (_ : 0 ≤ b.gen) : Next o b (b.gen % 2).toNat := ⟨hg, by omega, by omega⟩

end Go.Proofs.YtgfoekbdmgljbaaDoor

namespace Go.Proofs.YtgfoekbdmgljbaaDoor
open Go.RowKit

/-- What Load answers. -/
def Dv.loadE (x : Dv) : Int := if x.sure.length < 2 then 1 else if x.down = true then 8 else if (loadS x.now).isNone = true then 11 else 0
def Dv.loadB (x : Dv) : Blk := if x.loadE = 0 then (loadS x.now).getD bzero else bzero
/-- Why b is not to be saved (0: it is). -/
def Dv.saveNo (x : Dv) (b : Blk) : Int := if x.sure.length < 2 then 1 else if x.down = true then 8 else if b.fits = false ∨ b.gen ≠ nextG (loadS x.now) then 15 else 0
/-- Sync, Write, Sync: as far as it goes. -/
def Dv.put1 (x : Dv) : Dv := x.sync
def Dv.put2 (x : Dv) (b : Blk) : Dv := x.sync.write (b.gen % 2) b.sec
def Dv.put3 (x : Dv) (b : Blk) : Dv := (x.sync.write (b.gen % 2) b.sec).sync
def Dv.put2E (x : Dv) (b : Blk) : Int := x.sync.writeE (b.gen % 2) b.sec
def Dv.put3E (x : Dv) (b : Blk) : Int := (x.sync.write (b.gen % 2) b.sec).syncE
def Dv.saveE (x : Dv) (b : Blk) : Int := if x.saveNo b ≠ 0 then x.saveNo b else if x.syncE ≠ 0 then x.syncE else if x.put2E b ≠ 0 then x.put2E b else x.put3E b
def Dv.save (x : Dv) (b : Blk) : Dv := if x.saveNo b ≠ 0 then x else if x.syncE ≠ 0 then x.put1 else if x.put2E b ≠ 0 then x.put2 b else x.put3 b

/-- All is sure, and there is no limit. -/
structure Rest (x : Dv) : Prop where
  down : x.down = false
  limit : x.limit = 0
  uns : x.uns = []
  len : 2 ≤ x.sure.length
theorem Rest.form {x : Dv} (h : Rest x) : x = ⟨x.sure, [], 0, false⟩ := by
  obtain ⟨S, U, L, D⟩ := x
  obtain ⟨h1, h2, h3, _⟩ := h
  simp only at h1 h2 h3
  rw [h1, h2, h3]
theorem Rest.mk' {S : List Sec} (h : 2 ≤ S.length) : Rest ⟨S, [], 0, false⟩ := ⟨rfl, rfl, rfl, h⟩
theorem padB_full {l : List UInt8} (h : l.length = 512) : padB l = l := by simp [padB, h]
theorem bit_none (k : Nat) : bitAt 0 k = false := by unfold bitAt; exact Nat.zero_testBit _
theorem bit_all : bitAt allOnes 0 = true := by decide +kernel

section
variable {S : List Sec} {o : Option Blk} {b : Blk} {k : Nat}
theorem place_nat (hn : Next o b k) : (b.gen % 2).toNat = k := by have := hn.2.2; omega
theorem has_place (hl : 2 ≤ S.length) (U : List Wri) (L : Nat) (D : Bool) (hn : Next o b k) : (Dv.mk S U L D).has (b.gen % 2) = true := by
  have h1 := hn.2.2
  have h2 := hn.2.1
  simp only [Dv.has, decide_eq_true_eq]
  omega
/-- What a write of the block is. -/
theorem write_to (hl : 2 ≤ S.length) (hn : Next o b k) (L : Nat) (hL : L ≠ 1) :
    (Dv.mk S [] L false).write (b.gen % 2) b.sec = ⟨S, [⟨k, b.sec⟩], (if L = 0 then 0 else L - 1), false⟩ ∧ (Dv.mk S [] L false).writeE (b.gen % 2) b.sec = 0 := by
  have hh := has_place hl [] L false hn
  have hs := length_bsec b
  have hp := place_nat hn
  constructor
  · unfold Dv.write
    rw [if_neg (by rw [hh, hs]; simp), if_neg (by simp [Dv.lasts, hL]), hp, padB_full hs]
    unfold Dv.spent
    by_cases h0 : L = 0
    · subst h0; rfl
    · simp [h0, hL]
  · unfold Dv.writeE
    rw [if_neg (by simp), if_neg (by rw [hh, hs]; simp), if_neg (by simp [Dv.lasts, hL])]
theorem write_cut (hl : 2 ≤ S.length) (hn : Next o b k) :
    (Dv.mk S [] 1 false).write (b.gen % 2) b.sec = ⟨S, [], 0, true⟩ ∧ (Dv.mk S [] 1 false).writeE (b.gen % 2) b.sec = 8 := by
  have hh := has_place hl [] 1 false hn
  have hs := length_bsec b
  constructor
  · unfold Dv.write
    rw [if_neg (by rw [hh, hs]; simp), if_pos (by rfl)]
    rfl
  · unfold Dv.writeE
    rw [if_neg (by simp), if_neg (by rw [hh, hs]; simp), if_pos (by rfl)]
theorem sync_none (L : Nat) (hL : L ≠ 1) : (Dv.mk S [] L false).sync = ⟨S, [], (if L = 0 then 0 else L - 1), false⟩ ∧ (Dv.mk S [] L false).syncE = 0 := by
  constructor
  · unfold Dv.sync
    rw [if_neg (by simp), if_neg (by simp [Dv.lasts, hL])]
    unfold Dv.spent
    by_cases h0 : L = 0
    · subst h0; rfl
    · simp [h0, hL, Dv.settled, crashN]
  · unfold Dv.syncE
    rw [if_neg (by simp [Dv.lasts, hL])]
theorem sync_cut (U : List Wri) : (Dv.mk S U 1 false).sync = ⟨S, U, 0, true⟩ ∧ (Dv.mk S U 1 false).syncE = 8 := by
  constructor
  · unfold Dv.sync
    rw [if_neg (by simp), if_pos (by rfl)]
    rfl
  · unfold Dv.syncE
    rw [if_pos (.inr (by rfl))]
theorem sync_one (d : List UInt8) (L : Nat) (hL : L ≠ 1) : (Dv.mk S [⟨k, d⟩] L false).sync = ⟨S.set k ⟨d, false⟩, [], (if L = 0 then 0 else L - 1), false⟩ ∧ (Dv.mk S [⟨k, d⟩] L false).syncE = 0 := by
  have hst : crashN allOnes 0 [⟨k, d⟩] S 1 = S.set k ⟨d, false⟩ := by
    show stepC allOnes 0 S 0 ⟨k, d⟩ = _
    unfold stepC
    rw [if_neg (by rw [bit_none]; simp), if_pos bit_all]
    rfl
  constructor
  · unfold Dv.sync
    rw [if_neg (by simp), if_neg (by simp [Dv.lasts, hL])]
    unfold Dv.spent
    by_cases h0 : L = 0
    · subst h0
      simp only [Dv.settled, if_true, List.length_singleton, hst]
    · simp only [h0, if_false, Dv.settled, List.length_singleton, hst, decide_eq_false hL]
  · unfold Dv.syncE
    rw [if_neg (by simp [Dv.lasts, hL])]
theorem saveNo_ok (hl : 2 ≤ S.length) (hi : Inv S o) (hn : Next o b k) (hf : b.fits = true) (L : Nat) : (Dv.mk S [] L false).saveNo b = 0 := by
  have h1 : loadS (Dv.mk S [] L false).now = o := hi.load
  unfold Dv.saveNo
  rw [if_neg (by show ¬ S.length < 2; omega), if_neg (by simp), h1, if_neg (by rw [hf, hn.1]; simp)]
/-- Where nothing is cut off. -/
theorem save_whole (hl : 2 ≤ S.length) (hi : Inv S o) (hn : Next o b k) (hf : b.fits = true) (L : Nat) (hL : L = 0 ∨ 4 ≤ L) :
    (Dv.mk S [] L false).saveE b = 0 ∧ (Dv.mk S [] L false).save b = ⟨S.set k ⟨b.sec, false⟩, [], (if L = 0 then 0 else L - 3), false⟩ := by
  have h1 := sync_none (S := S) L (by omega)
  have hno := saveNo_ok hl hi hn hf L
  have e1 : ∀ M, (if M = 0 then 0 else M - 1) = M - 1 := fun M => by split <;> omega
  have h2 := write_to hl hn (L - 1) (by omega)
  have h3 := sync_one (S := S) (k := k) b.sec (L - 1 - 1) (by omega)
  rw [e1] at h1 h2 h3
  have p2 : (Dv.mk S [] L false).put2 b = ⟨S, [⟨k, b.sec⟩], L - 1 - 1, false⟩ := by unfold Dv.put2; rw [h1.1, h2.1]
  have p2E : (Dv.mk S [] L false).put2E b = 0 := by unfold Dv.put2E; rw [h1.1, h2.2]
  have p3 : (Dv.mk S [] L false).put3 b = ⟨S.set k ⟨b.sec, false⟩, [], L - 1 - 1 - 1, false⟩ := by unfold Dv.put3; rw [h1.1, h2.1, h3.1]
  have p3E : (Dv.mk S [] L false).put3E b = 0 := by unfold Dv.put3E; rw [h1.1, h2.1, h3.2]
  constructor
  · unfold Dv.saveE
    rw [hno, h1.2, p2E, p3E]
    simp
  · unfold Dv.save
    rw [hno, h1.2, p2E, p3]
    simp only [ne_eq, not_true_eq_false, if_false]
    congr 1
    split <;> omega
/-- Where it is cut off: the power is gone; what is there is as it was, but the last write may stand. -/
theorem save_cut (hl : 2 ≤ S.length) (hi : Inv S o) (hn : Next o b k) (hf : b.fits = true) (L : Nat) (h1 : 1 ≤ L) (h3 : L ≤ 3) :
    (Dv.mk S [] L false).saveE b = 8 ∧ ((Dv.mk S [] L false).save b = ⟨S, [], 0, true⟩ ∨ (Dv.mk S [] L false).save b = ⟨S, [⟨k, b.sec⟩], 0, true⟩) := by
  have hno := saveNo_ok hl hi hn hf L
  have e : L = 1 ∨ L = 2 ∨ L = 3 := by omega
  rcases e with rfl | rfl | rfl
  · have s1 := sync_cut (S := S) []
    constructor
    · unfold Dv.saveE
      rw [hno, s1.2]
      simp
    · left
      unfold Dv.save Dv.put1
      rw [hno, s1.2, s1.1]
      simp
  · have s1 := sync_none (S := S) 2 (by decide)
    have s2 := write_cut hl hn
    have p2 : (Dv.mk S [] 2 false).put2 b = ⟨S, [], 0, true⟩ := by unfold Dv.put2; rw [s1.1]; exact s2.1
    have p2E : (Dv.mk S [] 2 false).put2E b = 8 := by unfold Dv.put2E; rw [s1.1]; exact s2.2
    constructor
    · unfold Dv.saveE
      rw [hno, s1.2, p2E]
      simp
    · left
      unfold Dv.save
      rw [hno, s1.2, p2E, p2]
      simp
  · have s1 := sync_none (S := S) 3 (by decide)
    have s2 := write_to hl hn 2 (by decide)
    have s3 := sync_cut (S := S) [⟨k, b.sec⟩]
    have p2E : (Dv.mk S [] 3 false).put2E b = 0 := by unfold Dv.put2E; rw [s1.1]; exact s2.2
    have p3 : (Dv.mk S [] 3 false).put3 b = ⟨S, [⟨k, b.sec⟩], 0, true⟩ := by unfold Dv.put3; rw [s1.1]; exact (congrArg Dv.sync s2.1).trans s3.1
    have p3E : (Dv.mk S [] 3 false).put3E b = 8 := by unfold Dv.put3E; rw [s1.1]; exact (congrArg Dv.syncE s2.1).trans s3.2
    constructor
    · unfold Dv.saveE
      rw [hno, s1.2, p2E, p3E]
      simp
    · right
      unfold Dv.save
      rw [hno, s1.2, p2E, p3]
      simp
/-- What a Crash leaves of a write that is not sure. -/
theorem crash_one (m t : Nat) (d : List UInt8) (L : Nat) (D : Bool) : (Dv.mk S [⟨k, d⟩] L D).crash m t = ⟨S.set k secTorn, [], 0, false⟩ ∨ (Dv.mk S [⟨k, d⟩] L D).crash m t = ⟨S.set k ⟨d, false⟩, [], 0, false⟩ ∨ (Dv.mk S [⟨k, d⟩] L D).crash m t = ⟨S, [], 0, false⟩ := by
  have e : (Dv.mk S [⟨k, d⟩] L D).crash m t = ⟨stepC m t S 0 ⟨k, d⟩, [], 0, false⟩ := rfl
  rw [e]
  unfold stepC
  by_cases h1 : bitAt t 0 = true
  · rw [if_pos h1]; exact .inl rfl
  · rw [if_neg h1]
    by_cases h2 : bitAt m 0 = true
    · rw [if_pos h2]; exact .inr (.inl rfl)
    · rw [if_neg h2]; exact .inr (.inr rfl)
theorem crash_none (m t : Nat) (L : Nat) (D : Bool) : (Dv.mk S [] L D).crash m t = ⟨S, [], 0, false⟩ := rfl
end

/-- The end of it all: wherever a Save is cut off, and whatever lasts. -/
theorem cuts {S : List Sec} {o : Option Blk} {b : Blk} {k : Nat} (hl : 2 ≤ S.length) (hi : Inv S o) (hn : Next o b k) (hf : b.fits = true) (L : Nat) (m t : Nat) :
    ∃ S', (Dv.save ⟨S, [], L, false⟩ b).crash m t = ⟨S', [], 0, false⟩ ∧ S'.length = S.length ∧
      ((Dv.saveE ⟨S, [], L, false⟩ b = 0 ∧ Inv S' (some b)) ∨ (Dv.saveE ⟨S, [], L, false⟩ b = 8 ∧ (Inv S' (some b) ∨ Inv S' o))) := by
  by_cases hL : L = 0 ∨ 4 ≤ L
  · obtain ⟨h1, h2⟩ := save_whole hl hi hn hf L hL
    rw [h2, h1]
    exact ⟨S.set k ⟨b.sec, false⟩, rfl, by simp, .inl ⟨rfl, hi.write hl hn hf⟩⟩
  · obtain ⟨h1, h2⟩ := save_cut hl hi hn hf L (by omega) (by omega)
    rw [h1]
    rcases h2 with h2 | h2
    · rw [h2]
      exact ⟨S, rfl, rfl, .inr ⟨rfl, .inr hi⟩⟩
    · rw [h2]
      rcases crash_one (S := S) (k := k) m t b.sec 0 true with h3 | h3 | h3
      · exact ⟨_, h3, by simp, .inr ⟨rfl, .inr (hi.tear hl hn)⟩⟩
      · exact ⟨_, h3, by simp, .inr ⟨rfl, .inl (hi.write hl hn hf)⟩⟩
      · exact ⟨_, h3, rfl, .inr ⟨rfl, .inr hi⟩⟩
theorem inv_new (n : Nat) : Inv (newDv n).sure none := by
  have h : ∀ i, ((newDv n).sure).getD i secZero = secZero := fun i => by
    show (List.replicate n secZero).getD i secZero = secZero
    rw [List.getD_eq_getElem?_getD, List.getElem?_replicate]
    split <;> rfl
  exact ⟨by rw [h]; exact secBlk_zero 0, by rw [h]; exact secBlk_zero 1⟩

end Go.Proofs.YtgfoekbdmgljbaaDoor

namespace Go.Proofs.YtgfoekbdmgljbaaDoor
open Go.RowKit

/-- A log as a statement knows it. 'drop': a Drop to this number may have been done. 'used': how many calls may have taken a number (of a record, a block, an epoch). -/
structure Lg where
  first : Nat
  recs : List (List UInt8)
  sure : Nat
  drop : Option Nat
  places : Nat
  epoch : Nat
  down : Bool
  used : Nat
def partsN (n : Nat) : Nat := if n ≤ 496 then 1 else (n + 495) / 496
def takenL (rs : List (List UInt8)) : Nat := (rs.map fun r => partsN r.length).sum
def Lg.taken (M : Lg) : Nat := takenL M.recs
def Lg.next (M : Lg) : Nat := M.first + M.recs.length
/-- Bounds that hold of each log. -/
structure Lg.ok (M : Lg) : Prop where
  few : M.taken ≤ M.places
  places : M.places ≤ 4094
  sure : M.sure ≤ M.recs.length
  high : M.first + M.recs.length ≤ 36028797018963968
  age : M.epoch ≤ 36028797018963968
  recs : ∀ r ∈ M.recs, r.length ≤ 16384
theorem partsN_pos (n : Nat) : 1 ≤ partsN n := by unfold partsN; split <;> omega
theorem partsN_le {n : Nat} (h : n ≤ 16384) : partsN n ≤ 34 := by unfold partsN; split <;> omega
theorem takenL_nil : takenL [] = 0 := rfl
theorem takenL_cons (r : List UInt8) (rs : List (List UInt8)) : takenL (r :: rs) = partsN r.length + takenL rs := by simp [takenL]
theorem takenL_append (a b : List (List UInt8)) : takenL (a ++ b) = takenL a + takenL b := by simp [takenL]
theorem takenL_one (r : List UInt8) : takenL [r] = partsN r.length := by simp [takenL]
theorem length_le_taken (rs : List (List UInt8)) : rs.length ≤ takenL rs := by
  induction rs with
  | nil => simp [takenL]
  | cons r rs ih => have := partsN_pos r.length; rw [takenL_cons, List.length_cons]; omega
theorem takenL_drop (rs : List (List UInt8)) (k : Nat) : takenL (rs.drop k) ≤ takenL rs := by
  have h := takenL_append (rs.take k) (rs.drop k)
  rw [List.take_append_drop] at h
  omega
theorem takenL_take (rs : List (List UInt8)) (k : Nat) : takenL (rs.take k) ≤ takenL rs := by
  have h := takenL_append (rs.take k) (rs.drop k)
  rw [List.take_append_drop] at h
  omega

/-- What Append leaves: the number it answers (where it matters), the error, the log. -/
def AppendTo (M : Lg) (fr : Bool) (l : List UInt8) (z g : Int) (M' : Lg) : Prop :=
  (M.down = true ∧ g = 8 ∧ M' = M) ∨ (M.down = false ∧ M.places < M.taken + partsN l.length ∧ g = 10 ∧ M' = M) ∨
  (M.down = false ∧ M.taken + partsN l.length ≤ M.places ∧ g = 0 ∧ z = (M.next : Int) ∧ M' = { M with recs := M.recs ++ [l], used := M.used + 1 }) ∨
  (M.down = false ∧ M.taken + partsN l.length ≤ M.places ∧ fr = false ∧ g = 8 ∧ M' = { M with recs := M.recs ++ [l], down := true, used := M.used + 1 })
def SyncTo (M : Lg) (fr : Bool) (g : Int) (M' : Lg) : Prop :=
  (M.down = true ∧ g = 8 ∧ M' = M) ∨ (M.down = false ∧ g = 0 ∧ M' = { M with sure := M.recs.length }) ∨ (M.down = false ∧ fr = false ∧ g = 8 ∧ M' = { M with down := true })
def DropTo (M : Lg) (fr : Bool) (to : Int) (g : Int) (M' : Lg) : Prop :=
  (M.down = true ∧ g = 8 ∧ M' = M) ∨ (M.down = false ∧ (M.next : Int) < to ∧ g = 11 ∧ M' = M) ∨ (M.down = false ∧ to < (M.first : Int) ∧ g = 12 ∧ M' = M) ∨
  ∃ k : Nat, M.down = false ∧ k ≤ M.recs.length ∧ to = ((M.first + k : Nat) : Int) ∧
    ((g = 0 ∧ M' = { M with first := M.first + k, recs := M.recs.drop k, sure := (M.recs.drop k).length, used := M.used + 1 }) ∨ (fr = false ∧ g = 8 ∧ M' = { M with drop := some (M.first + k), down := true, used := M.used + 1 }))
/-- What Read answers, while the power is there. -/
def readGE (M : Lg) (i : Int) : Int := if i < (M.first : Int) then 12 else if (M.next : Int) ≤ i then 11 else 0
def readGB (M : Lg) (i : Int) : List UInt8 := if readGE M i = 0 then M.recs.getD (i - (M.first : Int)).toNat [] else []
/-- What is opened behind a Crash: some of what was there. -/
def AgainTo (M M' : Lg) : Prop :=
  ∃ gone n : Nat, (gone = 0 ∨ M.drop = some (M.first + gone)) ∧ gone + n ≤ M.recs.length ∧ M.sure ≤ gone + n ∧
    ∃ ep : Nat, M.epoch < ep ∧ M' = ⟨M.first + gone, (M.recs.drop gone).take n, n, none, M.places, ep, false, M.used + 1⟩

end Go.Proofs.YtgfoekbdmgljbaaDoor

namespace Go.Proofs.YtgfoekbdmgljbaaDoor
open Go.RowKit

/-- What is seen at a place: a head and its data, if there are some. -/
abbrev View := Nat → Option (SH × List UInt8)
def openV (l : List UInt8) : Option (SH × List UInt8) := if openE l = 0 then some (openH l, openB l) else none
def secV (s : Sec) : Option (SH × List UInt8) := if s.torn = true then none else openV s.data
def viewS (S : List Sec) : View := fun i => secV (S.getD i secZero)
/-- With writes that are waiting. -/
def viewU (us : List Wri) (V : View) : View := fun i => match us.find? (fun u => decide (u.place = i)) with
  | some u => openV u.data
  | none => V i
theorem secV_zero : secV secZero = none := by
  have h : openE zero512 = 14 := by decide +kernel
  unfold secV openV
  rw [if_neg (by decide), if_neg (by rw [show secZero.data = zero512 from rfl, h]; decide)]
theorem secV_torn : secV secTorn = none := if_pos rfl
theorem openV_seal {h : SH} {l : List UInt8} (hb : headB h = true) (hn : l.length ≤ 496) : openV (sealB h l) = some (h, l) := by
  obtain ⟨h1, h2, h3⟩ := open_seal hb hn
  unfold openV
  rw [if_pos h1, h2, h3]

/-- The place that is meant by one behind the last one. -/
def arN (P k : Nat) : Nat := 2 + (k - 2) % P
theorem arN_ge (P k : Nat) : 2 ≤ arN P k := by unfold arN; omega
theorem arN_lt {P : Nat} (h : 0 < P) (k : Nat) : arN P k < P + 2 := by have := Nat.mod_lt (k - 2) h; unfold arN; omega
theorem arN_arN {P x : Nat} (hx : 2 ≤ x) (y : Nat) : arN P (arN P x + y) = arN P (x + y) := by
  unfold arN
  have e1 : 2 + (x - 2) % P + y - 2 = (x - 2) % P + y := by omega
  have e2 : x + y - 2 = (x - 2) + y := by omega
  rw [e1, e2, Nat.mod_add_mod]
theorem arN_small {P x : Nat} (h2 : 2 ≤ x) (hx : x < P + 2) : arN P x = x := by
  unfold arN
  rw [Nat.mod_eq_of_lt (by omega)]
  omega
theorem arN_inj {P x a b : Nat} (hx : 2 ≤ x) (ha : a < P) (hb : b < P) (h : arN P (x + a) = arN P (x + b)) : a = b := by
  unfold arN at h
  have e1 : x + a - 2 = (x - 2) + a := by omega
  have e2 : x + b - 2 = (x - 2) + b := by omega
  rw [e1, e2] at h
  have h0 : ((x - 2) + a) % P = ((x - 2) + b) % P := by omega
  have m : ∀ y, y < P → ((x - 2) + y) % P = if (x - 2) % P + y < P then (x - 2) % P + y else (x - 2) % P + y - P := fun y hy => by
    have hc := Nat.mod_lt (x - 2) (show 0 < P by omega)
    rw [← Nat.mod_add_mod]
    split
    · rename_i hl; exact Nat.mod_eq_of_lt hl
    · rw [Nat.mod_eq_sub_mod (by omega), Nat.mod_eq_of_lt (by omega)]
  rw [m a ha, m b hb] at h0
  have hc := Nat.mod_lt (x - 2) (show 0 < P by omega)
  split at h0 <;> split at h0 <;> omega

/-- What a record's parts hold. -/
def chunk (r : List UInt8) (i : Nat) : List UInt8 := (r.drop (i * 496)).take 496
theorem length_chunk (r : List UInt8) (i : Nat) : (chunk r i).length ≤ 496 := by unfold chunk; rw [List.length_take]; omega
theorem length_parts (r : List UInt8) : r.length ≤ 496 * partsN r.length := by unfold partsN; split <;> omega
theorem parts_low (r : List UInt8) : 496 * (partsN r.length - 1) ≤ r.length := by unfold partsN; split <;> omega
theorem chunk_full {r : List UInt8} {i : Nat} (h : i + 1 < partsN r.length) : (chunk r i).length = 496 := by
  have h1 := parts_low r
  unfold chunk
  rw [List.length_take, List.length_drop]
  omega
theorem chunk_get (r : List UInt8) (j : Nat) : r[j]? = (chunk r (j / 496))[j % 496]? := by
  unfold chunk
  rw [List.getElem?_take, if_pos (Nat.mod_lt _ (by decide)), List.getElem?_drop]
  congr 1
  omega
theorem chunk_ext {r r' : List UInt8} (hp : partsN r.length = partsN r'.length) (h : ∀ i, i < partsN r.length → chunk r i = chunk r' i) : r = r' := by
  apply List.ext_getElem?
  intro j
  by_cases hj : j / 496 < partsN r.length
  · rw [chunk_get, chunk_get r', h _ hj]
  · have h1 := length_parts r
    have h2 := length_parts r'
    rw [List.getElem?_eq_none (by omega), List.getElem?_eq_none (by omega)]

def recH (E seq i n : Nat) : SH := ⟨2, E, seq, i, n⟩
theorem recH_inj {E E' seq seq' i i' n n' : Nat} (h : recH E seq i n = recH E' seq' i' n') : E = E' ∧ seq = seq' ∧ i = i' ∧ n = n' := by
  unfold recH at h
  injection h with _ h1 h2 h3 h4
  omega
theorem recH_ok {E seq i n : Nat} (hE : E < 4294967296) (hs : seq < 72057594037927936) (hi : i < n) (hn : n ≤ 34) : headB (recH E seq i n) = true := by
  have f : ∀ (k : Nat) (s : Int), 1 ≤ s → s ≤ 7 → (k : Int) < 2 ^ (8 * s.toNat) → fitB (k : Int) s = true := fun k s h1 h7 hk => fitB_true h1 h7 (Int.natCast_nonneg k) hk
  unfold headB
  rw [fitsTo_five]
  simp only [recH, Bool.and_eq_true, Bool.not_eq_true']
  refine ⟨⟨⟨⟨⟨⟨?_, f E 4 (by decide) (by decide) ?_⟩, f seq 7 (by decide) (by decide) ?_⟩, f i 1 (by decide) (by decide) ?_⟩, f n 1 (by decide) (by decide) ?_⟩, by decide⟩, decide_eq_true (by omega)⟩
  · exact f 2 1 (by decide) (by decide) (by decide)
  · show (E : Int) < 2 ^ (8 * 4)
    omega
  · show (seq : Int) < 2 ^ (8 * 7)
    omega
  · show (i : Int) < 2 ^ (8 * 1)
    omega
  · show (n : Int) < 2 ^ (8 * 1)
    omega

/-- Does record seq, of epoch ep, lie at a place? -/
structure RecIn (V : View) (P at_ seq ep : Nat) (r : List UInt8) : Prop where
  len : r.length ≤ 16384
  all : ∀ i, i < partsN r.length → V (arN P (at_ + i)) = some (recH ep seq i (partsN r.length), chunk r i)
theorem RecIn.uniq {V : View} {P at_ seq ep ep' : Nat} {r r' : List UInt8} (h : RecIn V P at_ seq ep r) (h' : RecIn V P at_ seq ep' r') : ep = ep' ∧ r = r' := by
  obtain ⟨he, _, _, hn⟩ := recH_inj (congrArg Prod.fst (Option.some.inj ((h.all 0 (partsN_pos _)).symm.trans (h'.all 0 (partsN_pos _)))))
  refine ⟨he, chunk_ext hn fun i hi => ?_⟩
  exact congrArg Prod.snd (Option.some.inj ((h.all i hi).symm.trans (h'.all i (by rw [← hn]; exact hi))))
theorem RecIn.at_eq {V : View} {P a b seq ep : Nat} {r : List UInt8} (h : RecIn V P a seq ep r) (hab : ∀ i, arN P (b + i) = arN P (a + i)) : RecIn V P b seq ep r := ⟨h.len, fun i hi => by rw [hab]; exact h.all i hi⟩
/-- Another view that shows the same at its places. -/
theorem RecIn.view {V V' : View} {P a seq ep : Nat} {r : List UInt8} (h : RecIn V P a seq ep r) (hv : ∀ i, i < partsN r.length → V' (arN P (a + i)) = V (arN P (a + i))) : RecIn V' P a seq ep r := ⟨h.len, fun i hi => by rw [hv i hi]; exact h.all i hi⟩

/-- Where records begin, behind one another. -/
def offN (rs : List (List UInt8)) (i : Nat) : Nat := takenL (rs.take i)
theorem offN_zero (rs : List (List UInt8)) : offN rs 0 = 0 := rfl
theorem offN_succ {rs : List (List UInt8)} {i : Nat} (h : i < rs.length) : offN rs (i + 1) = offN rs i + partsN (rs.getD i []).length := by
  unfold offN
  rw [List.take_succ_eq_append_getElem h, takenL_append, takenL_one, List.getD_eq_getElem?_getD, List.getElem?_eq_getElem h]
  rfl
theorem offN_all (rs : List (List UInt8)) : offN rs rs.length = takenL rs := by unfold offN; rw [List.take_length]
theorem offN_le (rs : List (List UInt8)) (i : Nat) : offN rs i ≤ takenL rs := takenL_take rs i
theorem offN_take {rs : List (List UInt8)} {i n : Nat} (h : i ≤ n) : offN (rs.take n) i = offN rs i := by
  unfold offN
  rw [List.take_take, Nat.min_eq_left h]
theorem offN_app {rs rs' : List (List UInt8)} {i : Nat} (h : i ≤ rs.length) : offN (rs ++ rs') i = offN rs i := by
  unfold offN
  rw [List.take_append_of_le_length h]
theorem offN_drop (rs : List (List UInt8)) {k : Nat} (_ : k ≤ rs.length) (i : Nat) : offN rs (k + i) = offN rs k + offN (rs.drop k) i := by
  unfold offN
  rw [← takenL_append]
  congr 1
  rw [List.take_add]
theorem offN_end {rs : List (List UInt8)} {i : Nat} (h : i < rs.length) : offN rs i + partsN (rs.getD i []).length ≤ takenL rs := by
  rw [← offN_succ h]
  exact offN_le _ _
theorem offN_mono {rs : List (List UInt8)} {i j : Nat} (h : i ≤ j) : offN rs i ≤ offN rs j := by
  have e := offN_take (rs := rs) h
  rw [← e]
  exact offN_le _ _
/-- Two records' parts are at the same place only where they are the same. -/
theorem off_inj {rs : List (List UInt8)} {j j' i i' : Nat} (hj : j < rs.length) (hj' : j' < rs.length) (hi : i < partsN (rs.getD j []).length) (hi' : i' < partsN (rs.getD j' []).length) (h : offN rs j + i = offN rs j' + i') : j = j' ∧ i = i' := by
  have h1 := offN_succ hj
  have h2 := offN_succ hj'
  rcases Nat.lt_trichotomy j j' with hlt | rfl | hlt
  · have := offN_mono (rs := rs) (show j + 1 ≤ j' by omega)
    omega
  · exact ⟨rfl, by omega⟩
  · have := offN_mono (rs := rs) (show j' + 1 ≤ j by omega)
    omega
theorem getD_take {rs : List (List UInt8)} {n i : Nat} (h : i < n) : (rs.take n).getD i [] = rs.getD i [] := by
  rw [List.getD_eq_getElem?_getD, List.getD_eq_getElem?_getD, List.getElem?_take, if_pos h]
theorem getD_drop (rs : List (List UInt8)) (k i : Nat) : (rs.drop k).getD i [] = rs.getD (k + i) [] := by
  rw [List.getD_eq_getElem?_getD, List.getD_eq_getElem?_getD, List.getElem?_drop]

/-- Records lie one behind the other, of these epochs. -/
structure Chain (V : View) (P from_ first : Nat) (es : List Nat) (rs : List (List UInt8)) : Prop where
  len : es.length = rs.length
  all : ∀ i, i < rs.length → RecIn V P (from_ + offN rs i) (first + i) (es.getD i 0) (rs.getD i [])
theorem Chain.view {V V' : View} {P from_ first : Nat} {es : List Nat} {rs : List (List UInt8)} (h : Chain V P from_ first es rs) (hv : ∀ k, k < takenL rs → V' (arN P (from_ + k)) = V (arN P (from_ + k))) : Chain V' P from_ first es rs :=
  ⟨h.len, fun i hi => (h.all i hi).view fun j hj => by
    have := offN_end hi
    rw [Nat.add_assoc]
    exact hv _ (by omega)⟩
theorem Chain.drop {V : View} {P from_ first : Nat} {es : List Nat} {rs : List (List UInt8)} (h : Chain V P from_ first es rs) {k : Nat} (hk : k ≤ rs.length) {from' : Nat} (hf : ∀ i, arN P (from' + i) = arN P (from_ + offN rs k + i)) : Chain V P from' (first + k) (es.drop k) (rs.drop k) := by
  refine ⟨by rw [List.length_drop, List.length_drop, h.len], fun i hi => ?_⟩
  rw [List.length_drop] at hi
  have h1 := h.all (k + i) (by omega)
  rw [offN_drop rs hk i, ← getD_drop, show first + (k + i) = first + k + i by omega] at h1
  have e : (es.drop k).getD i 0 = es.getD (k + i) 0 := by rw [List.getD_eq_getElem?_getD, List.getD_eq_getElem?_getD, List.getElem?_drop]
  rw [e]
  exact h1.at_eq fun j => by rw [Nat.add_assoc, hf]; congr 1; omega
theorem Chain.take {V : View} {P from_ first : Nat} {es : List Nat} {rs : List (List UInt8)} (h : Chain V P from_ first es rs) (n : Nat) : Chain V P from_ first (es.take n) (rs.take n) := by
  refine ⟨by rw [List.length_take, List.length_take, h.len], fun i hi => ?_⟩
  rw [List.length_take] at hi
  have h1 := h.all i (by omega)
  have e : (es.take n).getD i 0 = es.getD i 0 := by rw [List.getD_eq_getElem?_getD, List.getD_eq_getElem?_getD, List.getElem?_take, if_pos (by omega)]
  rw [getD_take (by omega), offN_take (by omega), e]
  exact h1
/-- One more behind them. -/
theorem Chain.snoc {V : View} {P from_ first : Nat} {es : List Nat} {rs : List (List UInt8)} (h : Chain V P from_ first es rs) {ep : Nat} {r : List UInt8} (hr : RecIn V P (from_ + takenL rs) (first + rs.length) ep r) : Chain V P from_ first (es ++ [ep]) (rs ++ [r]) := by
  refine ⟨by rw [List.length_append, List.length_append, h.len]; rfl, fun i hi => ?_⟩
  rw [List.length_append, List.length_singleton] at hi
  rcases Nat.lt_or_ge i rs.length with hl | hl
  · have e1 : (es ++ [ep]).getD i 0 = es.getD i 0 := by rw [List.getD_eq_getElem?_getD, List.getD_eq_getElem?_getD, List.getElem?_append_left (by rw [h.len]; exact hl)]
    have e2 : (rs ++ [r]).getD i [] = rs.getD i [] := by rw [List.getD_eq_getElem?_getD, List.getD_eq_getElem?_getD, List.getElem?_append_left hl]
    rw [e1, e2, offN_app (by omega)]
    exact h.all i hl
  · obtain rfl : i = rs.length := by omega
    have e1 : (es ++ [ep]).getD rs.length 0 = ep := by rw [← h.len, List.getD_eq_getElem?_getD, List.getElem?_append_right (Nat.le_refl _), Nat.sub_self]; rfl
    have e2 : (rs ++ [r]).getD rs.length [] = r := by rw [List.getD_eq_getElem?_getD, List.getElem?_append_right (Nat.le_refl _), Nat.sub_self]; rfl
    rw [e1, e2, offN_app (Nat.le_refl _), offN_all]
    exact hr

/-- Nothing that is seen is of a later epoch, or of epoch E from number q on. -/
def Old (V : View) (E q : Nat) : Prop := ∀ i h b, 2 ≤ i → V i = some (h, b) → h.epoch < (E : Int) ∨ (h.epoch = (E : Int) ∧ h.seq < (q : Int))
def OldE (V : View) (E : Nat) : Prop := ∀ i h b, 2 ≤ i → V i = some (h, b) → h.epoch ≤ (E : Int)
theorem Old.e {V : View} {E q : Nat} (h : Old V E q) : OldE V E := fun i x b h2 hv => by rcases h i x b h2 hv with h1 | h1 <;> omega
theorem Old.mono {V : View} {E q q' : Nat} (h : Old V E q) (hq : q ≤ q') : Old V E q' := fun i x b h2 hv => by rcases h i x b h2 hv with h1 | h1 <;> omega
theorem OldE.next {V : View} {E q : Nat} (h : OldE V E) : Old V (E + 1) q := fun i x b h2 hv => by have := h i x b h2 hv; omega
/-- The epochs of records that lie behind one another: they do not fall, and behind the first cnt they are E. -/
structure Ups (E cnt : Nat) (es : List Nat) : Prop where
  low : ∀ i, i < es.length → 1 ≤ es.getD i 0 ∧ es.getD i 0 ≤ E
  mono : ∀ i, i + 1 < es.length → es.getD i 0 ≤ es.getD (i + 1) 0
  tail : ∀ i, cnt ≤ i → i < es.length → es.getD i 0 = E
/-- What is found behind a block. -/
structure Found (V : View) (P from_ first E cnt : Nat) (es : List Nat) (rs : List (List UInt8)) : Prop where
  chain : Chain V P from_ first es rs
  ups : Ups E cnt es
  cnt : cnt ≤ rs.length
  stop : ∀ r, ¬ RecIn V P (from_ + takenL rs) (first + rs.length) E r
  few : takenL rs ≤ P

end Go.Proofs.YtgfoekbdmgljbaaDoor

namespace Go.Proofs.YtgfoekbdmgljbaaDoor
open Go.RowKit

/-- A block's numbers. -/
def mkB (gen E first from_ cnt : Nat) : Blk := ⟨gen, E, first, from_, cnt⟩
theorem mkB_fits {gen E first from_ cnt : Nat} (h1 : gen < 72057594037927936) (h2 : E < 72057594037927936) (h3 : first < 72057594037927936) (h4 : from_ < 72057594037927936) (h5 : cnt < 72057594037927936) : (mkB gen E first from_ cnt).fits = true := by
  have f : ∀ k : Nat, k < 72057594037927936 → fitB (k : Int) 7 = true := fun k hk => fitB_true (by decide) (by decide) (Int.natCast_nonneg k) (by show (k : Int) < 2 ^ (8 * 7); omega)
  rw [Blk.fits_all]
  show (fitB (gen : Int) 7 && fitB (E : Int) 7 && fitB (first : Int) 7 && fitB (from_ : Int) 7 && fitB (cnt : Int) 7) = true
  rw [f _ h1, f _ h2, f _ h3, f _ h4, f _ h5]
  rfl

/-- The writes of a record that begins at a place. -/
def recW (P at_ seq E : Nat) (r : List UInt8) : List Wri := (List.range (partsN r.length)).map fun i => ⟨arN P (at_ + i), sealB (recH E seq i (partsN r.length)) (chunk r i)⟩
/-- Those of the records from number k on. -/
def unsW (P from_ first E k : Nat) (rs : List (List UInt8)) : List Wri := (List.range (rs.length - k)).flatMap fun j => recW P (from_ + offN rs (k + j)) (first + (k + j)) E (rs.getD (k + j) [])
theorem mem_recW {P at_ seq E : Nat} {r : List UInt8} {u : Wri} : u ∈ recW P at_ seq E r ↔ ∃ i, i < partsN r.length ∧ u = ⟨arN P (at_ + i), sealB (recH E seq i (partsN r.length)) (chunk r i)⟩ := by
  unfold recW
  rw [List.mem_map]
  constructor
  · rintro ⟨i, hi, rfl⟩; exact ⟨i, List.mem_range.1 hi, rfl⟩
  · rintro ⟨i, hi, rfl⟩; exact ⟨i, List.mem_range.2 hi, rfl⟩
theorem mem_unsW {P from_ first E k : Nat} {rs : List (List UInt8)} {u : Wri} : u ∈ unsW P from_ first E k rs ↔
    ∃ j i, k ≤ j ∧ j < rs.length ∧ i < partsN (rs.getD j []).length ∧ u = ⟨arN P (from_ + offN rs j + i), sealB (recH E (first + j) i (partsN (rs.getD j []).length)) (chunk (rs.getD j []) i)⟩ := by
  unfold unsW
  rw [List.mem_flatMap]
  constructor
  · rintro ⟨j, hj, hu⟩
    obtain ⟨i, hi, rfl⟩ := mem_recW.1 hu
    exact ⟨k + j, i, by omega, by have := List.mem_range.1 hj; omega, hi, rfl⟩
  · rintro ⟨j, i, hk, hj, hi, rfl⟩
    refine ⟨j - k, List.mem_range.2 (by omega), mem_recW.2 ⟨i, ?_, ?_⟩⟩
    · rw [show k + (j - k) = j by omega]; exact hi
    · rw [show k + (j - k) = j by omega]
theorem unsW_app {P from_ first E k : Nat} {rs : List (List UInt8)} (hk : k ≤ rs.length) (r : List UInt8) : unsW P from_ first E k (rs ++ [r]) = unsW P from_ first E k rs ++ recW P (from_ + takenL rs) (first + rs.length) E r := by
  unfold unsW
  rw [List.length_append, List.length_singleton, show rs.length + 1 - k = (rs.length - k) + 1 by omega, List.range_succ, List.flatMap_append]
  congr 1
  · rw [List.flatMap_def, List.flatMap_def]
    congr 1
    apply List.map_congr_left
    intro j hj
    have hj' := List.mem_range.1 hj
    rw [offN_app (by omega)]
    have e : (rs ++ [r]).getD (k + j) [] = rs.getD (k + j) [] := by rw [List.getD_eq_getElem?_getD, List.getD_eq_getElem?_getD, List.getElem?_append_left (by omega)]
    rw [e]
  · have e : k + (rs.length - k) = rs.length := by omega
    rw [List.flatMap_singleton, e, offN_app (Nat.le_refl _), offN_all]
    congr 1
    rw [List.getD_eq_getElem?_getD, List.getElem?_append_right (Nat.le_refl _), Nat.sub_self]
    rfl
theorem unsW_none (P from_ first E : Nat) (rs : List (List UInt8)) : unsW P from_ first E rs.length rs = [] := by unfold unsW; rw [Nat.sub_self]; rfl
theorem recW_length (P at_ seq E : Nat) (r : List UInt8) : (recW P at_ seq E r).length = partsN r.length := by simp [recW]

/-- What a Crash leaves at a place. -/
theorem crashN_at {m t : Nat} {us : List Wri} {S : List Sec} {i : Nat} : ∀ k, (crashN m t us S k).getD i secZero = S.getD i secZero ∨ (∃ u ∈ us, u.place = i ∧ ((crashN m t us S k).getD i secZero = secTorn ∨ (crashN m t us S k).getD i secZero = u.sec))
  | 0 => .inl rfl
  | k + 1 => by
    have ih := crashN_at (m := m) (t := t) (us := us) (S := S) (i := i) k
    unfold crashN
    split
    · rename_i u e
      have hu := List.mem_of_getElem? e
      unfold stepC
      by_cases hp : u.place = i
      · by_cases hl : i < (crashN m t us S k).length
        · split
          · right; exact ⟨u, hu, hp, .inl (by rw [hp, getD_set_self hl])⟩
          · split
            · right; exact ⟨u, hu, hp, .inr (by rw [hp, getD_set_self hl])⟩
            · exact ih
        · have n1 : ∀ s, ((crashN m t us S k).set u.place s).getD i secZero = (crashN m t us S k).getD i secZero := fun s => by
            rw [List.getD_eq_getElem?_getD, List.getD_eq_getElem?_getD, List.getElem?_eq_none (by rw [List.length_set]; omega), List.getElem?_eq_none (by omega)]
          split
          · rw [n1]; exact ih
          · split
            · rw [n1]; exact ih
            · exact ih
      · split
        · rw [getD_set_ne hp]; exact ih
        · split
          · rw [getD_set_ne hp]; exact ih
          · exact ih
    · exact ih
theorem bit_ones (k : Nat) : bitAt allOnes k = true := by
  unfold bitAt allOnes
  have h : k % 64 < 64 := Nat.mod_lt _ (by decide)
  rw [show (18446744073709551615 : Nat) = 2 ^ 64 - 1 from rfl, Nat.testBit_two_pow_sub_one]
  exact decide_eq_true h
/-- All is sure: a place that was written holds what was written there last. -/
theorem settled_at {us : List Wri} {S : List Sec} {i : Nat} (hi : i < S.length) : ∀ k, (∃ u ∈ us.take k, u.place = i) → ∃ u ∈ us, u.place = i ∧ (crashN allOnes 0 us S k).getD i secZero = u.sec
  | 0, ⟨u, hu, _⟩ => by rw [List.take_zero] at hu; cases hu
  | k + 1, ⟨u0, hu0, hp0⟩ => by
    unfold crashN
    split
    · rename_i u e
      have hu := List.mem_of_getElem? e
      unfold stepC
      rw [if_neg (by rw [bit_none]; simp), if_pos (bit_ones k)]
      by_cases hp : u.place = i
      · exact ⟨u, hu, hp, by rw [hp, getD_set_self (by rw [length_crashN]; exact hi)]⟩
      · rw [getD_set_ne hp]
        refine settled_at hi k ⟨u0, ?_, hp0⟩
        rw [List.take_add_one, e] at hu0
        rcases List.mem_append.1 hu0 with h1 | h1
        · exact h1
        · have := List.mem_singleton.1 h1
          subst this
          exact absurd hp0 hp
    · rename_i e
      refine settled_at hi k ⟨u0, ?_, hp0⟩
      rw [List.take_add_one, e] at hu0
      simpa using hu0

end Go.Proofs.YtgfoekbdmgljbaaDoor
