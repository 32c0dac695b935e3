/-
  The contract of the document's Same: whether two slices of bytes read alike.
-/
import Derived.Test.YtgfoekbdmgljbaaDoorProg
import Derived.Test.YtgfoekbdmgljbaaDoorSbP1
import Derived.Test.YtgfoekbdmgljbaaDoorSbP2
import Derived.Test.YtgfoekbdmgljbaaDoorSbP3
import Derived.Deep.RegionHeld3
import Derived.IntWalk
namespace Go.Proofs.YtgfoekbdmgljbaaDoor
open Go.RowKit

theorem take_eq_snoc {xs ys : List UInt8} {k : Nat} (h : xs.take k = ys.take k) (hx : k < xs.length) (hy : k < ys.length) (e : xs[k] = ys[k]) : xs.take (k + 1) = ys.take (k + 1) := by
  rw [List.take_succ_eq_append_getElem hx, List.take_succ_eq_append_getElem hy, h, e]
theorem u8_eq_of {a b : UInt8} (h : (a.toNat : Int) = b.toNat) : a = b := by
  apply UInt8.toNat.inj; omega

def SameRel (w : World) (xs ys : List UInt8) (i : Value) (wr : World) : Prop := ∃ k : Nat, k ≤ xs.length ∧ i = .int .i64 k ∧ xs.take k = ys.take k ∧ ∃ j, wr = w.drewN j

set_option maxHeartbeats 400000 in
theorem same_ne (A B : Option Addr) (n m c d : Nat) (w : World) (h : n ≠ m) :
    Calls Tryd.prog 21 #[.slice A n c, .slice B m d] w (Drewn w (.bool false)) := by
  have h1 : ((n : Int) != (m : Int)) = true := by rw [bne_iff_ne]; omega
  go_enter Tryd.func21, Tryd.ntmps21
  go_wp2
  go_ret
  exact ⟨rfl, 0, rfl⟩

set_option maxHeartbeats 400000 in
theorem same_len (A B : Option Addr) (n c d H : Nat) (xs ys : List UInt8) (w : World) (hx : xs.length = n) (hy : ys.length = n) (hA : Row w H A (xs.map bc)) (hB : Row w H B (ys.map bc)) (hm : n ≤ maxLen) :
    Calls Tryd.prog 21 #[.slice A n c, .slice B n d] w (Drewn w (.bool (decide (xs = ys)))) := by
  unfold maxLen at hm
  have h1 : ((n : Int) != (n : Int)) = false := by simp
  have HX := Lib.hid hx
  have HY := Lib.hid hy
  have HA := Lib.hid hA
  have HB := Lib.hid hB
  clear hx hy hA hB
  go_enter Tryd.func21, Tryd.ntmps21
  go_wp2
  go_loopw [5] (SameRel w xs ys) (fun i _ => n - (intOf i).toNat)
  case atStart => exact ⟨0, by omega, rfl, by simp, 0, rfl⟩
  case round =>
    obtain ⟨k, hk, rfl, hkt, j, rfl⟩ := hrel
    have HKT := Lib.hid hkt
    clear hkt
    by_cases hlt : k < n
    · obtain ⟨b, off, rfl, _, hca⟩ := HA.out.at_ (k := k) (by rw [List.length_map, HX.out]; exact hlt)
      obtain ⟨b', off', rfl, _, hcb⟩ := HB.out.at_ (k := k) (by rw [List.length_map, HY.out]; exact hlt)
      have hca' : w.cell? ⟨b, off + k, none⟩ = some (.int .u8 (xs[k]'(by rw [HX.out]; exact hlt)).toNat) := by rw [hca]; simp [bc]
      have hcb' : w.cell? ⟨b', off' + k, none⟩ = some (.int .u8 (ys[k]'(by rw [HY.out]; exact hlt)).toNat) := by rw [hcb]; simp [bc]
      clear hca hcb
      by_cases he : xs[k]'(by rw [HX.out]; exact hlt) = ys[k]'(by rw [HY.out]; exact hlt)
      · have HE := Lib.hid he
        have hne : (((xs[k]'(by rw [HX.out]; exact hlt)).toNat : Int) != ((ys[k]'(by rw [HY.out]; exact hlt)).toNat : Int)) = false := by rw [he]; simp
        clear he
        go_wp2
        go_quiet (fail)
        go_wp2
        refine ⟨⟨k + 1, by rw [HX.out]; omega, by go_num, take_eq_snoc HKT.out _ _ HE.out, _, rfl⟩, by simp [intOf]; omega⟩
      · have HE := Lib.hid he
        have hne : (((xs[k]'(by rw [HX.out]; exact hlt)).toNat : Int) != ((ys[k]'(by rw [HY.out]; exact hlt)).toNat : Int)) = true := by
          rw [bne_iff_ne]; intro e; exact he (u8_eq_of e)
        have hf : decide (xs = ys) = false := by
          rw [decide_eq_false_iff_not]; rintro rfl; exact he rfl
        have HF := Lib.hid hf
        clear he hf
        go_wp2
        go_quiet (fail)
        go_wp2
        go_ret
        exact ⟨by rw [HF.out]; rfl, j + nq, by rw [World.drewN_drewN]⟩
    · obtain rfl : k = n := by have := HX.out; omega
      have ht : decide (xs = ys) = true := by
        rw [decide_eq_true_eq]
        have := HKT.out
        rwa [List.take_of_length_le (by rw [HX.out]; omega), List.take_of_length_le (by rw [HY.out]; omega)] at this
      have HF := Lib.hid ht
      clear ht
      go_wp2
      go_ret
      exact ⟨by rw [HF.out]; rfl, _, rfl⟩

theorem same_any (A B : Option Addr) (n m c d H : Nat) (xs ys : List UInt8) (w : World) (hx : xs.length = n) (hy : ys.length = m) (hA : Row w H A (xs.map bc)) (hB : Row w H B (ys.map bc)) (hm : n ≤ maxLen) :
    Calls Tryd.prog 21 #[.slice A n c, .slice B m d] w (Drewn w (.bool (decide (xs = ys)))) := by
  by_cases h : n = m
  · subst h
    exact same_len A B n c d H xs ys w hx hy hA hB hm
  · have hf : decide (xs = ys) = false := by
      rw [decide_eq_false_iff_not]; rintro rfl; omega
    rw [hf]
    exact same_ne A B n m c d w h

theorem same_yes (A B : Option Addr) (n m c d H : Nat) (xs : List UInt8) (w : World) (hx : xs.length = n) (hy : xs.length = m) (hA : Row w H A (xs.map bc)) (hB : Row w H B (xs.map bc)) (hm : n ≤ maxLen) :
    Calls Tryd.prog 21 #[.slice A n c, .slice B m d] w (Drewn w (.bool true)) := by
  have h := same_any A B n m c d H xs xs w hx hy hA hB hm
  rwa [show decide (xs = xs) = true from by simp] at h

end Go.Proofs.YtgfoekbdmgljbaaDoor

namespace Go.Proofs.YtgfoekbdmgljbaaDoor
open Go.RowKit

/-- Behind w0 a device x was made, at D; what was there at w0 is as it was. -/
def Holds (w0 w : World) (D : Nat) (x : Dv) : Prop := ∃ m : Lies, m.d = D ∧ DevAt w w0.heap.size m x ∧ Below w0.heap.size w0 w
/-- Bytes that lie in a block of bytes. -/
def BytesAt (w : World) (A : Option Addr) (b : List UInt8) : Prop :=
  b ≠ [] → ∃ g off cs fr, A = some ⟨g, off, none⟩ ∧ w.heap[g]? = some (.cells cs 5 fr) ∧ ∀ j u, (b.map bc)[j]? = some u → w.cell? ⟨g, off + j, none⟩ = some u
theorem BytesAt.src {w : World} {base : Nat} {m : Lies} {x : Dv} {A : Option Addr} {b : List UInt8} (h : BytesAt w A b) (hd : DevAt w base m x) : SrcAt w m A b := fun hb => by
  obtain ⟨g, off, cs, fr, e, hg, hc⟩ := h hb
  refine ⟨g, off, e, ?_, ?_, hc⟩
  · rcases Nat.lt_or_ge g w.heap.size with h1 | h1
    · exact h1
    · rw [Array.getElem?_eq_none h1] at hg; cases hg
  · rintro rfl
    have h1 := hd.blk
    unfold Whole at h1
    rw [hg] at h1
    simp at h1
theorem BytesAt.own {w : World} {base n c : Nat} {A : Option Addr} {b : List UInt8} (h : w.ownsRow base 5 1 (.slice A n c) n (b.map bc)) : BytesAt w A b := fun hb => by
  rcases h.2 with ⟨hv, h0⟩ | ⟨g, cap, cur, hv, _, hh, _⟩
  · have := h.1
    rw [h0, Nat.zero_mul] at this
    exact absurd (List.eq_nil_of_length_eq_zero (by simpa using this)) hb
  · have hA : A = some ⟨g, 0, none⟩ := by injection hv
    subst hA
    exact ⟨g, 0, cur, _, rfl, hh, fun j u hu => by
      have := h.cells (g := g) rfl j u hu
      rwa [addr_add] at this⟩
theorem BytesAt.lit (w : World) (b : List UInt8) : BytesAt (w.alloc (.cells (b.map bc).toArray 5)) (some ⟨w.heap.size, 0, none⟩) b := fun _ =>
  ⟨_, 0, _, _, rfl, heap_alloc_new w _, fun j u hu => by rw [Nat.zero_add, World.cell?_alloc_at _ _ _ _ rfl]; simpa using hu⟩

/-- Is it a type of a device's own? -/
def devT (t : TypeId) : Prop := t = 61 ∨ t = 91 ∨ t = 93
/-- What is no device's is as it was. -/
def Kept (w w' : World) : Prop := ∀ (g : Nat) (o : Obj), w.heap[g]? = some o → (∀ cs t fr, o = Obj.cells cs t fr → ¬ devT t) → w'.heap[g]? = w.heap[g]?
section
variable {w w' w'' : World}
theorem Kept.refl (w : World) : Kept w w := fun _ _ _ _ => rfl
theorem Kept.trans (h : Kept w w') (k : Kept w' w'') : Kept w w'' := fun g o hg ho => (k g o ((h g o hg ho).trans hg) ho).trans (h g o hg ho)
theorem Kept.below (hb : Below w.heap.size w w') : Kept w w' := fun g o hg _ => hb.block g (by
  rcases Nat.lt_or_ge g w.heap.size with h1 | h1
  · exact h1
  · rw [Array.getElem?_eq_none h1] at hg; cases hg)
theorem Kept.of_went {base : Nat} {m : Lies} {x y : Dv} (h : DevAt w base m x) (hw : Went base w m y w') : Kept w w' := fun g o hg ho => by
  obtain ⟨m', _, _, hgr, _⟩ := hw
  refine hgr.block g ?_ fun hown => ?_
  · rcases Nat.lt_or_ge g w.heap.size with h1 | h1
    · exact h1
    · rw [Array.getElem?_eq_none h1] at hg; cases hg
  · have hrow : ∀ {e : TypeId} {size n : Nat} {v : Value} {xs : List Value}, w.ownsRow base e size v n xs → v.ownBlock = some g → devT e → False := fun {e size n v xs} hr hv he => by
      rcases hr.2 with ⟨rfl, _⟩ | ⟨g', cap, cur, rfl, _, hh, _⟩
      · cases hv
      · simp [Value.ownBlock] at hv
        subst hv
        rw [hg] at hh
        injection hh with hh
        exact ho _ _ _ hh he
    rcases hown with rfl | rfl | rfl | hown
    · have h1 := h.blk
      unfold Whole at h1
      rw [hg] at h1
      injection h1 with h1
      exact ho _ _ _ h1 (.inl rfl)
    · exact hrow h.now rfl (.inr (.inl rfl))
    · exact hrow h.sure rfl (.inr (.inl rfl))
    · exact hrow h.uns hown (.inr (.inr rfl))
theorem Kept.whole (h : Kept w w') {g : Nat} {t : TypeId} {L : List Value} (hw : Whole w g t L) (ht : ¬ devT t) : Whole w' g t L :=
  (h g _ hw fun cs t' fr e => by injection e with _ e _; rw [← e]; exact ht).trans hw
theorem Kept.own (h : Kept w w') {base : Nat} {e : TypeId} {size n : Nat} {v : Value} {xs : List Value} (hr : w.ownsRow base e size v n xs) (ht : ¬ devT e) : w'.ownsRow base e size v n xs := by
  refine own_keep hr fun g hv => ?_
  rcases hr.2 with ⟨rfl, _⟩ | ⟨g', cap, cur, rfl, _, hh, _⟩
  · cases hv
  · simp [Value.ownBlock] at hv
    subst hv
    exact h _ _ hh fun cs t' fr e => by injection e with _ e _; rw [← e]; exact ht
end
theorem u8_not : ¬ devT 5 := by unfold devT; decide
section
variable {w0 w w' : World} {D : Nat} {x y : Dv}
theorem Holds.below (h : Holds w0 w D x) : Below w0.heap.size w0 w := by obtain ⟨_, _, _, h⟩ := h; exact h
theorem Holds.ok (h : Holds w0 w D x) : x.ok := by obtain ⟨_, _, h, _⟩ := h; exact h.ok
theorem Holds.next (h : Holds w0 w D x) (hb : Below w.heap.size w w') : Holds w0 w' D x := by
  obtain ⟨m, hd, h1, h2⟩ := h
  exact ⟨m, hd, h1.below hb, h2.trans (hb.mono h2.size)⟩
theorem Holds.drewN (h : Holds w0 w D x) (n : Nat) : Holds w0 (w.drewN n) D x := h.next (below_drewN' (Below.refl _ _) n)
theorem Holds.alloc (h : Holds w0 w D x) (o : Obj) : Holds w0 (w.alloc o) D x := h.next ((Below.refl _ _).alloc (Nat.le_refl _) o)
theorem Holds.went {m : Lies} (hd : m.d = D) (h : DevAt w w0.heap.size m x) (hb : Below w0.heap.size w0 w) (hw : Went w0.heap.size w m y w') : Holds w0 w' D y := by
  obtain ⟨m', e, h1, hg, _⟩ := hw
  exact ⟨m', e.trans hd, h1, hb.trans (hg.below (fun j hj => (h.own hj).1) hb.size)⟩
theorem h_new (w0 w : World) (hb : Below w0.heap.size w0 w) (n : Nat) (h1 : 1 ≤ n) (h2 : n ≤ 4096) : Calls Tryd.prog 6 #[.int .i64 n] w (fun e w' => ∃ D, e = .returned (.tuple #[.pointer (some ⟨D, 0, none⟩), .int .i64 0]) ∧ Holds w0 w' D (newDv n)) :=
  (dev_new w n h1 h2).mono fun _ _ ⟨m, he, hd, hw⟩ => ⟨m.d, he, m, rfl, hd.mono hb.size, hb.trans (hw.mono hb.size)⟩
theorem h_write (h : Holds w0 w D x) (k : Int) (A : Option Addr) (c : Nat) (b : List UInt8) (hl : b.length ≤ 9223372036854775807) (hs : BytesAt w A b) (hu : x.uns.length < 4294967296) :
    Calls Tryd.prog 45 #[.pointer (some ⟨D, 0, none⟩), .int .i64 k, .slice A b.length c] w (fun e w' => e = .returned (.int .i64 (x.writeE k b)) ∧ Holds w0 w' D (x.write k b) ∧ Kept w w') := by
  obtain ⟨m, rfl, h1, h2⟩ := h
  exact (dev_write w _ m x h1 k A c b hl (hs.src h1) hu).mono fun e w' ⟨he, hw⟩ => ⟨he, Holds.went rfl h1 h2 hw, Kept.of_went h1 hw⟩
theorem h_sync (h : Holds w0 w D x) (hu : x.uns.length < 4294967296) : Calls Tryd.prog 33 #[.pointer (some ⟨D, 0, none⟩)] w (fun e w' => e = .returned (.int .i64 x.syncE) ∧ Holds w0 w' D x.sync ∧ Kept w w') := by
  obtain ⟨m, rfl, h1, h2⟩ := h
  exact (dev_sync w _ m x h1 hu).mono fun e w' ⟨he, hw⟩ => ⟨he, Holds.went rfl h1 h2 hw, Kept.of_went h1 hw⟩
theorem h_crash (h : Holds w0 w D x) (mk t : Nat) (hm : mk < 18446744073709551616) (ht : t < 18446744073709551616) (hu : x.uns.length < 4294967296) :
    Calls Tryd.prog 15 #[.pointer (some ⟨D, 0, none⟩), .int .u64 mk, .int .u64 t] w (fun e w' => e = .returned (.int .i64 0) ∧ Holds w0 w' D (x.crash mk t) ∧ Kept w w') := by
  obtain ⟨m, rfl, h1, h2⟩ := h
  exact (dev_crash w _ m x h1 mk t hm ht hu).mono fun e w' ⟨he, hw⟩ => ⟨he, Holds.went rfl h1 h2 hw, Kept.of_went h1 hw⟩
theorem h_read (h : Holds w0 w D x) (k : Int) : Calls Tryd.prog 51 #[.pointer (some ⟨D, 0, none⟩), .int .i64 k] w
    (fun e w' => ∃ A c, e = .returned (.tuple #[.slice A (x.readB k).length c, .int .i64 (x.readE k)]) ∧ w'.ownsRow w.heap.size 5 1 (.slice A (x.readB k).length c) (x.readB k).length ((x.readB k).map bc) ∧ Below w.heap.size w w' ∧ Holds w0 w' D x) := by
  obtain ⟨m, rfl, h1, h2⟩ := h
  refine (dev_read w _ m x h1 k).mono fun e w' ⟨v, he, hv, hb⟩ => ?_
  obtain ⟨A, c, rfl, _, _⟩ := own_form hv
  exact ⟨A, c, he, hv, hb, ⟨m, rfl, h1.below hb, h2.trans (hb.mono h2.size)⟩⟩
end

theorem z512 : zerosL (.int .u8 0) 512 = zero512.map bc := by
  unfold zerosL zero512
  rw [List.map_replicate]
  rfl












end Go.Proofs.YtgfoekbdmgljbaaDoor

namespace Go.Proofs.YtgfoekbdmgljbaaDoor
open Go.RowKit

theorem head_neq (a b : SH) (w : World) : (binOp .neq 79 a.val b.val).run Tryd.prog w = .ok (.bool (!a.same b)) w := by
  have hf : Tryd.prog.underlying 79 = some (.struct (Tryd.prog.fieldsOf 79)) := by kernel_rfl
  have hs : Tryd.prog.stoodInHeld 79 = false := by kernel_rfl
  unfold SH.val
  rw [run_neq_struct, run_equalIn_struct w _ _ _ _ hf hs]
  obtain ⟨a0, a1, a2, a3, a4⟩ := a
  obtain ⟨b0, b1, b2, b3, b4⟩ := b
  simp [Program.fieldsOf, Tryd.underlying79, Op.eqFields, SH.same, SH.nums, go_sem]
  by_cases h0 : a0 = b0 <;> by_cases h1 : a1 = b1 <;> by_cases h2 : a2 = b2 <;> by_cases h3 : a3 = b3 <;> by_cases h4 : a4 = b4 <;> simp [h0, h1, h2, h3, h4]

theorem blk_info : (Tryd.prog.info? 63).map (·.size) = some 5 := by kernel_rfl
theorem Blk.splice (a b : Blk) : splice a.cells 0 b.cells = b.cells := rfl
theorem Blk.fit (a b : Blk) : 0 + a.cells.length ≤ b.cells.length := Nat.le_refl _
theorem Blk.one (a : Blk) : ∀ v ∈ a.cells, v.oneCell' = true := by simp [Blk.cells, Value.oneCell']
/-- A block of which k numbers are read. -/
def partB (l : List UInt8) : Nat → Blk
  | 0 => bzero
  | 1 => ⟨numN (cutL l 0 7), 0, 0, 0, 0⟩
  | 2 => ⟨numN (cutL l 0 7), numN (cutL l 7 7), 0, 0, 0⟩
  | 3 => ⟨numN (cutL l 0 7), numN (cutL l 7 7), numN (cutL l 14 7), 0, 0⟩
  | 4 => ⟨numN (cutL l 0 7), numN (cutL l 7 7), numN (cutL l 14 7), numN (cutL l 21 7), 0⟩
  | _ + 5 => readBlk l
theorem partB_set (l : List UInt8) {k : Nat} (hk : k < 5) : (partB l k).cells.set k (.int .i64 (numN (cutL l (k * 7) 7) : Int)) = (partB l (k + 1)).cells := by
  have e : k = 0 ∨ k = 1 ∨ k = 2 ∨ k = 3 ∨ k = 4 := by omega
  rcases e with rfl | rfl | rfl | rfl | rfl <;> rfl

/-- What lies in a sector that can be read. -/
def Dv.at? (x : Dv) (k : Nat) : Option Blk := if x.readE k = 0 ∧ countsB (x.readB k) k = true then some (readBlk (openB (x.readB k))) else none
def optB (o : Option Blk) : Blk := o.getD bzero
theorem Dv.at?_eq {x : Dv} {k : Nat} (hd : x.down = false) (hk : k < x.sure.length) : x.at? k = secBlk (x.now.getD k secZero) k := by
  have hh : x.has (k : Int) = true := by simp only [Dv.has, decide_eq_true_eq]; omega
  have he : x.readE k = if (x.now.getD k secZero).torn = true then 9 else 0 := by
    unfold Dv.readE
    rw [if_neg (by simp [hd]), if_neg (by simp [hh]), Int.toNat_natCast]
  unfold Dv.at? secBlk
  cases ht : (x.now.getD k secZero).torn with
  | true =>
    rw [ht] at he
    rw [if_neg (by rintro ⟨h1, _⟩; rw [he] at h1; simp at h1), if_neg (by simp)]
  | false =>
    rw [ht] at he
    have hr : x.readB k = (x.now.getD k secZero).data := by
      unfold Dv.readB
      rw [he, Int.toNat_natCast]
      rfl
    rw [he, hr]
    simp

/-- What read leaves. -/
def SReadOut (w : World) (o : Option Blk) (e : Ending) (w' : World) : Prop := e = .returned (.tuple #[(optB o).val, .bool o.isSome]) ∧ Below w.heap.size w w'

section
variable {w0 w : World} {D : Nat} {x : Dv}
def SReadRel (l : List UInt8) (B : Nat) (w : World) (i : Value) (wr : World) : Prop := ∃ k : Nat, k ≤ 5 ∧ i = .int .i64 k ∧ Whole wr B 63 (partB l k).cells ∧ Below B w wr

set_option maxHeartbeats 400000 in
theorem sread_no (h : Holds w0 w D x) (k : Nat) (he : x.readE k ≠ 0) :
    Calls Tryd.prog 62 #[.pointer (some ⟨D, 0, none⟩), .int .i64 k] w (SReadOut w none) := by
  have HR := Lib.hid (h_read (h.alloc (.cells bzero.cells.toArray 63)) k)
  have HW := Lib.hid (Whole.made w bzero.cells 63)
  have d1 : (x.readE (k : Int) != 0) = true := by rw [bne_iff_ne]; exact he
  generalize x.readE (k : Int) = er at *
  generalize x.readB (k : Int) = b at *
  clear he
  go_enter Tryd.func62, Tryd.ntmps62
  go_wp2_with fail
  refine HR.out.mono ?_
  rintro e w1 ⟨A, c, rfl, _, hb1, _⟩
  have HB1 := Lib.hid (((Below.refl w.heap.size w).alloc (Nat.le_refl _) _).trans (hb1.mono (by simp)))
  have HW1 := Lib.hid (HW.out.below hb1 (by simp))
  clear hb1
  go_wp2_with (
    refine wpList_store_at rfl 63 (.tmp 4) (.tmp 21) rfl w.heap.size 0 bzero.cells rfl rfl 63 _ HW1.out (Blk.fit _ _) blk_info bzero.one ?_
    intro V hv1 hv2 hv3
    rw [Blk.splice] at hv1
    have v0 : V.cell? ⟨w.heap.size, 0, none⟩ = some (.int .i64 bzero.gen) := hv1.cell 0
    have v1 : V.cell? ⟨w.heap.size, 1, none⟩ = some (.int .i64 bzero.epoch) := hv1.cell 1
    have v2 : V.cell? ⟨w.heap.size, 2, none⟩ = some (.int .i64 bzero.first) := hv1.cell 2
    have v3 : V.cell? ⟨w.heap.size, 3, none⟩ = some (.int .i64 bzero.begun) := hv1.cell 3
    have v4 : V.cell? ⟨w.heap.size, 4, none⟩ = some (.int .i64 bzero.count) := hv1.cell 4
    have HBV := Lib.hid (HB1.out.trans (hv2.below (B := w.heap.size) (fun j hj => by omega) HB1.out.size))
    clear hv1 hv2 hv3)
  exact bodyPost_ret (v := .tuple #[bzero.val, .bool false]) (by simp [results, Tryd.results62, go_sem, v0, v1, v2, v3, v4, Blk.val, bzero]) rfl ⟨rfl, HBV.out⟩

set_option maxHeartbeats 1000000 in
theorem sread_yes (h : Holds w0 w D x) (hv : VarsAt w) (k : Nat) (l : List UInt8) (he : x.readE k = 0) (hl : x.readB k = l) (m : Option Blk) (hm : (if countsB l k = true then some (readBlk (openB l)) else none) = m) :
    Calls Tryd.prog 62 #[.pointer (some ⟨D, 0, none⟩), .int .i64 k] w (SReadOut w m) := by
  have hr0 := h_read (h.alloc (.cells bzero.cells.toArray 63)) k
  rw [he, hl] at hr0
  have HR := Lib.hid hr0
  have HW := Lib.hid (Whole.made w bzero.cells 63)
  have HM := Lib.hid hm
  have HV := Lib.hid (hv.alloc (.cells bzero.cells.toArray 63))
  clear he hl hm hr0 h hv
  go_enter Tryd.func62, Tryd.ntmps62
  go_wp2_with fail
  refine HR.out.mono ?_
  rintro e w1 ⟨A, c, rfl, hown1, hb1, _⟩
  have HB1 := Lib.hid (((Below.refl w.heap.size w).alloc (Nat.le_refl _) _).trans (hb1.mono (by simp)))
  have HW1 := Lib.hid (HW.out.below hb1 (by simp))
  have HV1 := Lib.hid (HV.out.next hb1)
  have HO := Lib.hid (open_any A l.length c l w1 rfl (Row.of_own hown1) (own_cap hown1) HV1.out.sizes)
  clear hb1 hown1
  go_wp2_with fail
  refine HO.out.mono ?_
  rintro e w2 ⟨v2, rfl, hown2, hb2⟩
  obtain ⟨A2, c2, rfl, hc1, hc2⟩ := own_form hown2
  have HB2 := Lib.hid (HB1.out.trans (hb2.mono HB1.out.size))
  have HW2 := Lib.hid (HW1.out.below hb2 HW1.out.lt)
  have HV2 := Lib.hid (HV1.out.next hb2)
  have HO2 := Lib.hid hown2
  have HCC := Lib.hid (And.intro hc1 hc2)
  clear hb2 hown2 hc1 hc2
  obtain ⟨hd, hhd⟩ : ∃ hd, openH l = hd := ⟨_, rfl⟩
  obtain ⟨dt, hdt⟩ : ∃ dt, openB l = dt := ⟨_, rfl⟩
  obtain ⟨oe, hoe⟩ : ∃ oe, openE l = oe := ⟨_, rfl⟩
  rw [hhd, hdt, hoe]
  rw [hdt] at HO2 HCC
  have hmc := HM.out
  unfold countsB at hmc
  rw [hhd, hdt, hoe] at hmc
  have HMC := Lib.hid hmc
  clear hhd hdt hoe hmc HM HO
  have HW3 := Lib.hid (HW2.out.alloc (.cells hd.cells.toArray 79))
  have HB3 := Lib.hid (HB2.out.alloc HB2.out.size (.cells hd.cells.toArray 79))
  have hg : ∀ j u, supH.cells[j]? = some u → (w2.alloc (.cells #[.int .i64 hd.kind, .int .i64 hd.epoch, .int .i64 hd.seq, .int .i64 hd.part, .int .i64 hd.parts] 79)).cell? ⟨0, j, none⟩ = some u := fun j u hu => (HV2.out.alloc _).head.cell hu
  have g0 := hg 0 _ rfl
  have g1 := hg 1 _ rfl
  have g2 := hg 2 _ rfl
  have g3 := hg 3 _ rfl
  have g4 := hg 4 _ rfl
  clear hg
  have hne := fun w => head_neq hd supH w
  unfold SH.val at hne ⊢
  by_cases h1 : oe = 0
  · subst h1
    cases h2 : hd.same supH with
    | false =>
      simp only [h2] at hne
      have hmn : m = none := by rw [← HMC.out]; simp [h2]
      subst hmn
      clear h2
      go_wp2_with (
        refine wpList_store_at rfl 63 (.tmp 4) (.tmp 40) rfl w.heap.size 0 bzero.cells rfl rfl 63 _ HW3.out (Blk.fit _ _) blk_info bzero.one ?_
        intro V hv1 hv2 hv3
        rw [Blk.splice] at hv1
        have v0 : V.cell? ⟨w.heap.size, 0, none⟩ = some (.int .i64 bzero.gen) := hv1.cell 0
        have v1 : V.cell? ⟨w.heap.size, 1, none⟩ = some (.int .i64 bzero.epoch) := hv1.cell 1
        have v2 : V.cell? ⟨w.heap.size, 2, none⟩ = some (.int .i64 bzero.first) := hv1.cell 2
        have v3 : V.cell? ⟨w.heap.size, 3, none⟩ = some (.int .i64 bzero.begun) := hv1.cell 3
        have v4 : V.cell? ⟨w.heap.size, 4, none⟩ = some (.int .i64 bzero.count) := hv1.cell 4
        have HBV := Lib.hid (HB3.out.trans (hv2.below (B := w.heap.size) (fun j hj => by omega) HB3.out.size))
        clear hv1 hv2 hv3)
      exact bodyPost_ret (v := .tuple #[bzero.val, .bool false]) (by simp [results, Tryd.results62, go_sem, v0, v1, v2, v3, v4, Blk.val, bzero]) rfl ⟨rfl, HBV.out⟩

    | true =>
      simp only [h2] at hne
      obtain ⟨n, hn⟩ : ∃ n, dt.length = n := ⟨_, rfl⟩
      rw [hn] at HO2 HCC ⊢
      have HN := Lib.hid hn
      by_cases h3 : n = 35
      · subst h3
        clear hn
        have HBK := Lib.hid (Whole.made (w2.alloc (.cells hd.cells.toArray 79)) bzero.cells 63)
        rw [show (w2.alloc (.cells hd.cells.toArray 79)).heap.size = w2.heap.size + 1 by simp] at HBK
        have HNU := Lib.hid (bnumbers_any (w2.heap.size + 1))
        have HW4 := Lib.hid (HW3.out.alloc (.cells bzero.cells.toArray 63))
        have HB4 := Lib.hid (HB3.out.alloc HB3.out.size (.cells bzero.cells.toArray 63))
        have HO4 := Lib.hid (((Row.of_own HO2.out).alloc (Nat.le_refl _) (.cells hd.cells.toArray 79)).alloc (by simp) (.cells bzero.cells.toArray 63))
        have HLT := Lib.hid (show w.heap.size < w2.heap.size from HW2.out.lt)
        go_wp2_with fail
        refine (HNU.out _).mono ?_
        rintro e w5 ⟨rfl, hb5⟩
        have HB5 := Lib.hid (HB4.out.trans (hb5.mono HB4.out.size))
        have HW5 := Lib.hid (HW4.out.below hb5 HW4.out.lt)
        have HK5 := Lib.hid (HBK.out.below hb5 HBK.out.lt)
        have HO5 := Lib.hid (HO4.out.below (hb5.mono (by simp; omega)))
        have HZ5 := Lib.hid (show w2.heap.size + 1 < w5.heap.size from HK5.out.lt)
        clear hb5 g0 g1 g2 g3 g4 hne
        obtain ⟨B, hB⟩ : ∃ B, w2.heap.size + 1 = B := ⟨_, rfl⟩
        rw [hB] at HK5 HZ5 ⊢
        have HLB := Lib.hid (show w.heap.size < B by have := HLT.out; omega)
        have HL2 := Lib.hid (show w2.heap.size ≤ B by omega)
        clear hB HBK HNU HW4 HB4 HO4
        go_wp2
        go_loopw [42] (SReadRel dt B w5) (fun i _ => 5 - (intOf i).toNat)
        case atStart => exact ⟨0, by omega, rfl, HK5.out, Below.refl _ _⟩
        case round =>
          obtain ⟨j, hj, rfl, hwh, hbr⟩ := hrel
          have HWH := Lib.hid hwh
          have HB := Lib.hid hbr
          have HOr := Lib.hid (HO5.out.below (hbr.mono HL2.out))
          clear hbr
          by_cases hlt : j < 5
          · have hi := fun W => ptr_index B hlt W
            have hg := get_any A2 35 c2 _ dt ((j : Int) * 7) 7 wr HN.out HOr.out (by decide) HCC.out.1
            have hgl : getL dt ((j : Int) * 7) 7 = ((numN (cutL dt (j * 7) 7) : Int), (0 : Int)) := by
              have := getL_ok (l := dt) (a := j * 7) (s := 7) (by decide) (by decide) (by have := HN.out; omega)
              rw [← this]; push_cast; rfl
            rw [hgl] at hg
            have HG := Lib.hid hg
            have hcel : wr.cell? ⟨B, j, none⟩ = some (.int .i64 ((partB dt j).num j)) := by rw [hwh.cell]; exact (partB dt j).cell_num hlt
            have hfr := hwh.frozen j
            clear hg hgl hwh
            go_wp2_with fail
            refine HG.out.mono ?_
            rintro e w' ⟨rfl, rfl⟩
            go_wp2
            refine ⟨⟨j + 1, by omega, by go_num, ?_, ?_⟩, by simp [intOf]; omega⟩
            · rw [← partB_set dt hlt]; exact HWH.out.set_ _ _
            · exact HB.out.setCell (by simp) _
          · obtain rfl : j = 5 := by omega
            obtain ⟨g, hg⟩ : ∃ g, readBlk dt = g := ⟨_, rfl⟩
            have hg0 : 0 ≤ g.gen := by rw [← hg]; exact Int.natCast_nonneg _
            have hwg : Whole wr B 63 g.cells := by rw [← hg]; exact hwh
            have hmg : (if decide (g.gen % 2 = (k : Int)) = true then some g else none) = m := by
              rw [← HMC.out, HN.out, hg, h2]; simp
            have c0 : wr.cell? ⟨B, 0, none⟩ = some (.int .i64 g.gen) := hwg.cell 0
            have c1 : wr.cell? ⟨B, 1, none⟩ = some (.int .i64 g.epoch) := hwg.cell 1
            have c2' : wr.cell? ⟨B, 2, none⟩ = some (.int .i64 g.first) := hwg.cell 2
            have c3 : wr.cell? ⟨B, 3, none⟩ = some (.int .i64 g.begun) := hwg.cell 3
            have c4 : wr.cell? ⟨B, 4, none⟩ = some (.int .i64 g.count) := hwg.cell 4
            have r1 : g.gen.tmod 2 = g.gen % 2 := Int.tmod_eq_emod_of_nonneg hg0
            have HWr := Lib.hid (HW5.out.below HB.out HLB.out)
            have HBr := Lib.hid (HB5.out.trans (HB.out.mono (Nat.le_of_lt HLB.out)))
            clear hwh hwg hg HMC h2
            by_cases h5 : g.gen % 2 = (k : Int)
            · have d5 : (g.gen % 2 != (k : Int)) = false := by simp [h5]
              have hmn : m = some g := by rw [← hmg]; simp [h5]
              subst hmn
              clear h5 hmg hg0
              go_wp2_with (
                refine wpList_store_at rfl 63 (.tmp 4) (.tmp 62) rfl w.heap.size 0 g.cells rfl rfl 63 _ HWr.out (Blk.fit _ _) blk_info g.one ?_
                intro V hv1 hv2 hv3
                rw [Blk.splice] at hv1
                have v0 : V.cell? ⟨w.heap.size, 0, none⟩ = some (.int .i64 g.gen) := hv1.cell 0
                have v1 : V.cell? ⟨w.heap.size, 1, none⟩ = some (.int .i64 g.epoch) := hv1.cell 1
                have v2 : V.cell? ⟨w.heap.size, 2, none⟩ = some (.int .i64 g.first) := hv1.cell 2
                have v3 : V.cell? ⟨w.heap.size, 3, none⟩ = some (.int .i64 g.begun) := hv1.cell 3
                have v4 : V.cell? ⟨w.heap.size, 4, none⟩ = some (.int .i64 g.count) := hv1.cell 4
                have HBV := Lib.hid (HBr.out.trans (hv2.below (B := w.heap.size) (fun j hj => by omega) HBr.out.size))
                clear hv1 hv2 hv3)
              exact bodyPost_ret (v := .tuple #[g.val, .bool true]) (by simp [results, Tryd.results62, go_sem, v0, v1, v2, v3, v4, Blk.val]) rfl ⟨rfl, HBV.out⟩
            · have d5 : (g.gen % 2 != (k : Int)) = true := by rw [bne_iff_ne]; exact h5
              have hmn : m = none := by rw [← hmg]; simp [h5]
              subst hmn
              clear h5 hmg hg0
              go_wp2_with (
                refine wpList_store_at rfl 63 (.tmp 4) (.tmp 61) rfl w.heap.size 0 bzero.cells rfl rfl 63 _ HWr.out (Blk.fit _ _) blk_info bzero.one ?_
                intro V hv1 hv2 hv3
                rw [Blk.splice] at hv1
                have v0 : V.cell? ⟨w.heap.size, 0, none⟩ = some (.int .i64 bzero.gen) := hv1.cell 0
                have v1 : V.cell? ⟨w.heap.size, 1, none⟩ = some (.int .i64 bzero.epoch) := hv1.cell 1
                have v2 : V.cell? ⟨w.heap.size, 2, none⟩ = some (.int .i64 bzero.first) := hv1.cell 2
                have v3 : V.cell? ⟨w.heap.size, 3, none⟩ = some (.int .i64 bzero.begun) := hv1.cell 3
                have v4 : V.cell? ⟨w.heap.size, 4, none⟩ = some (.int .i64 bzero.count) := hv1.cell 4
                have HBV := Lib.hid (HBr.out.trans (hv2.below (B := w.heap.size) (fun j hj => by omega) HBr.out.size))
                clear hv1 hv2 hv3)
              exact bodyPost_ret (v := .tuple #[bzero.val, .bool false]) (by simp [results, Tryd.results62, go_sem, v0, v1, v2, v3, v4, Blk.val, bzero]) rfl ⟨rfl, HBV.out⟩
      · have d3 : ((n : Int) != 35) = true := by rw [bne_iff_ne]; omega
        have hmn : m = none := by rw [← HMC.out, HN.out]; simp [h3]
        subst hmn
        clear h2 h3 hn
        go_wp2_with (
          refine wpList_store_at rfl 63 (.tmp 4) (.tmp 40) rfl w.heap.size 0 bzero.cells rfl rfl 63 _ HW3.out (Blk.fit _ _) blk_info bzero.one ?_
          intro V hv1 hv2 hv3
          rw [Blk.splice] at hv1
          have v0 : V.cell? ⟨w.heap.size, 0, none⟩ = some (.int .i64 bzero.gen) := hv1.cell 0
          have v1 : V.cell? ⟨w.heap.size, 1, none⟩ = some (.int .i64 bzero.epoch) := hv1.cell 1
          have v2 : V.cell? ⟨w.heap.size, 2, none⟩ = some (.int .i64 bzero.first) := hv1.cell 2
          have v3 : V.cell? ⟨w.heap.size, 3, none⟩ = some (.int .i64 bzero.begun) := hv1.cell 3
          have v4 : V.cell? ⟨w.heap.size, 4, none⟩ = some (.int .i64 bzero.count) := hv1.cell 4
          have HBV := Lib.hid (HB3.out.trans (hv2.below (B := w.heap.size) (fun j hj => by omega) HB3.out.size))
          clear hv1 hv2 hv3)
        exact bodyPost_ret (v := .tuple #[bzero.val, .bool false]) (by simp [results, Tryd.results62, go_sem, v0, v1, v2, v3, v4, Blk.val, bzero]) rfl ⟨rfl, HBV.out⟩
  · have d1 : (oe != 0) = true := by rw [bne_iff_ne]; exact h1
    have hmn : m = none := by rw [← HMC.out]; simp [h1]
    subst hmn
    clear h1 hne g0 g1 g2 g3 g4
    go_wp2_with (
      refine wpList_store_at rfl 63 (.tmp 4) (.tmp 40) rfl w.heap.size 0 bzero.cells rfl rfl 63 _ HW3.out (Blk.fit _ _) blk_info bzero.one ?_
      intro V hv1 hv2 hv3
      rw [Blk.splice] at hv1
      have v0 : V.cell? ⟨w.heap.size, 0, none⟩ = some (.int .i64 bzero.gen) := hv1.cell 0
      have v1 : V.cell? ⟨w.heap.size, 1, none⟩ = some (.int .i64 bzero.epoch) := hv1.cell 1
      have v2 : V.cell? ⟨w.heap.size, 2, none⟩ = some (.int .i64 bzero.first) := hv1.cell 2
      have v3 : V.cell? ⟨w.heap.size, 3, none⟩ = some (.int .i64 bzero.begun) := hv1.cell 3
      have v4 : V.cell? ⟨w.heap.size, 4, none⟩ = some (.int .i64 bzero.count) := hv1.cell 4
      have HBV := Lib.hid (HB3.out.trans (hv2.below (B := w.heap.size) (fun j hj => by omega) HB3.out.size))
      clear hv1 hv2 hv3)
    exact bodyPost_ret (v := .tuple #[bzero.val, .bool false]) (by simp [results, Tryd.results62, go_sem, v0, v1, v2, v3, v4, Blk.val, bzero]) rfl ⟨rfl, HBV.out⟩

theorem sread_any (h : Holds w0 w D x) (hv : VarsAt w) (k : Nat) : Calls Tryd.prog 62 #[.pointer (some ⟨D, 0, none⟩), .int .i64 k] w (SReadOut w (x.at? k)) := by
  by_cases he : x.readE k = 0
  · exact sread_yes h hv k _ he rfl _ (by unfold Dv.at?; simp [he])
  · have e : x.at? k = none := by unfold Dv.at?; simp [he]
    rw [e]
    exact sread_no h k he
end

end Go.Proofs.YtgfoekbdmgljbaaDoor

namespace Go.Proofs.YtgfoekbdmgljbaaDoor
open Go.RowKit

section
variable (w : World)
set_option maxHeartbeats 400000 in
theorem nil_ready : Calls Tryd.prog 46 #[.pointer none] w (Told w (.int .i64 1)) := by
  go_enter Tryd.func46, Tryd.ntmps46
  go_wp2
  go_ret
  exact ⟨rfl, rfl⟩
set_option maxHeartbeats 400000 in
theorem nil_read (k : Int) : Calls Tryd.prog 51 #[.pointer none, .int .i64 k] w (Told w (.tuple #[.slice none 0 0, .int .i64 1])) := by
  have HR := Lib.hid (nil_ready w)
  go_enter Tryd.func51, Tryd.ntmps51
  go_wp2_with fail
  refine HR.out.mono ?_
  rintro e w' ⟨rfl, rfl⟩
  go_wp2
  go_ret2
  exact ⟨rfl, rfl⟩
set_option maxHeartbeats 400000 in
theorem nil_write (k : Int) (v : Value) : Calls Tryd.prog 45 #[.pointer none, .int .i64 k, v] w (Told w (.int .i64 1)) := by
  have HR := Lib.hid (nil_ready w)
  go_enter Tryd.func45, Tryd.ntmps45
  go_wp2_with fail
  refine HR.out.mono ?_
  rintro e w' ⟨rfl, rfl⟩
  go_wp2
  go_ret
  exact ⟨rfl, rfl⟩
set_option maxHeartbeats 400000 in
theorem nil_sync : Calls Tryd.prog 33 #[.pointer none] w (Told w (.int .i64 1)) := by
  have HR := Lib.hid (nil_ready w)
  go_enter Tryd.func33, Tryd.ntmps33
  go_wp2_with fail
  refine HR.out.mono ?_
  rintro e w' ⟨rfl, rfl⟩
  go_wp2
  go_ret
  exact ⟨rfl, rfl⟩
set_option maxHeartbeats 400000 in
theorem nil_limit (k : Int) : Calls Tryd.prog 14 #[.pointer none, .int .i64 k] w (Told w (.int .i64 1)) := by
  go_enter Tryd.func14, Tryd.ntmps14
  go_wp2
  go_ret
  exact ⟨rfl, rfl⟩
set_option maxHeartbeats 400000 in
theorem nil_crash (a b : Int) : Calls Tryd.prog 15 #[.pointer none, .int .u64 a, .int .u64 b] w (Told w (.int .i64 1)) := by
  go_enter Tryd.func15, Tryd.ntmps15
  go_wp2
  go_ret
  exact ⟨rfl, rfl⟩
set_option maxHeartbeats 400000 in
theorem nil_len : Calls Tryd.prog 23 #[.pointer none] w (Told w (.int .i64 0)) := by
  go_enter Tryd.func23, Tryd.ntmps23
  go_wp2
  go_ret
  exact ⟨rfl, rfl⟩
set_option maxHeartbeats 400000 in
theorem nil_down : Calls Tryd.prog 42 #[.pointer none] w (Told w (.bool true)) := by
  go_enter Tryd.func42, Tryd.ntmps42
  go_wp2
  go_ret
  exact ⟨rfl, rfl⟩












end

end Go.Proofs.YtgfoekbdmgljbaaDoor

namespace Go.Proofs.YtgfoekbdmgljbaaDoor
open Go.RowKit

/-- No block yet. -/
def bnone : Blk := ⟨-1, 0, 0, 0, 0⟩
/-- The block with the greater number, of the first k sectors. -/
def overB (f : Blk) : Option Blk → Blk
  | none => f
  | some b => if f.gen < b.gen then b else f
def lastB (x : Dv) : Nat → Blk
  | 0 => bnone
  | k + 1 => overB (lastB x k) (x.at? k)
theorem at?_nonneg {x : Dv} {k : Nat} {b : Blk} (h : x.at? k = some b) : 0 ≤ b.gen := by
  unfold Dv.at? at h
  split at h
  · injection h with h
    rw [← h]
    exact Int.natCast_nonneg _
  · cases h
theorem at?_mod {x : Dv} {k : Nat} {b : Blk} (h : x.at? k = some b) : b.gen % 2 = (k : Int) := by
  unfold Dv.at? at h
  split at h
  · rename_i hc
    injection h with h
    have := hc.2
    unfold countsB at this
    simp only [Bool.and_eq_true, decide_eq_true_eq] at this
    rw [← h]
    exact this.2
  · cases h
theorem last_pick {x : Dv} (hd : x.down = false) (hl : 2 ≤ x.sure.length) : lastB x 2 = (loadS x.now).getD bnone := by
  have h0 := Dv.at?_eq hd (show 0 < x.sure.length by omega)
  have h1 := Dv.at?_eq hd (show 1 < x.sure.length by omega)
  unfold loadS
  rw [← h0, ← h1]
  show overB (overB bnone (x.at? 0)) (x.at? 1) = _
  cases e0 : x.at? 0 with
  | none =>
    cases e1 : x.at? 1 with
    | none => rfl
    | some b =>
      have := at?_nonneg e1
      show (if bnone.gen < b.gen then b else bnone) = b
      rw [if_pos (by show (-1 : Int) < b.gen; omega)]
  | some a =>
    have ha := at?_nonneg e0
    have e : overB bnone (some a) = a := by
      show (if bnone.gen < a.gen then a else bnone) = a
      rw [if_pos (by show (-1 : Int) < a.gen; omega)]
    rw [e]
    cases e1 : x.at? 1 with
    | none => rfl
    | some b =>
      show (if a.gen < b.gen then b else a) = (if b.gen < a.gen then some a else some b).getD bnone
      by_cases h : a.gen < b.gen
      · rw [if_pos h, if_neg (by omega)]; rfl
      · rw [if_neg h]
        by_cases h2 : b.gen < a.gen
        · rw [if_pos h2]; rfl
        · have := at?_mod e0; have := at?_mod e1; omega

section
variable {w0 w : World} {D : Nat} {x : Dv}
def LastRel (x : Dv) (w : World) (i : Value) (wr : World) : Prop :=
  ∃ k : Nat, k ≤ 2 ∧ i = .int .i64 k ∧ Whole wr w.heap.size 63 bzero.cells ∧ Whole wr (w.heap.size + 1) 63 (lastB x k).cells ∧ Below w.heap.size w wr

set_option maxHeartbeats 1000000 in
theorem slast_any (h : Holds w0 w D x) (hv : VarsAt w) : Calls Tryd.prog 50 #[.pointer (some ⟨D, 0, none⟩)] w (Gave w (lastB x 2).val) := by
  have HW0 := Lib.hid ((Whole.made w bzero.cells 63).alloc (.cells bnone.cells.toArray 63))
  have hw1 := Whole.made (w.alloc (.cells bzero.cells.toArray 63)) bnone.cells 63
  rw [show (w.alloc (.cells bzero.cells.toArray 63)).heap.size = w.heap.size + 1 by simp] at hw1
  have HW1 := Lib.hid hw1
  have HH := Lib.hid h
  have HV := Lib.hid hv
  clear hw1 h hv
  go_enter Tryd.func50, Tryd.ntmps50
  go_wp2
  go_loopw [8] (LastRel x w) (fun i _ => 2 - (intOf i).toNat)
  case atStart => exact ⟨0, by omega, rfl, HW0.out, HW1.out, ((Below.refl _ _).alloc (Nat.le_refl _) _).alloc (by simp) _⟩
  case round =>
    obtain ⟨k, hk, rfl, hwr, hwf, hbr⟩ := hrel
    have HWR := Lib.hid hwr
    have HWF := Lib.hid hwf
    have HB := Lib.hid hbr
    have hz : w.heap.size + 1 < wr.heap.size := hwf.lt
    by_cases hlt : k < 2
    · have HR := Lib.hid (sread_any (HH.out.next hbr) (HV.out.next hbr) k)
      have hov : lastB x (k + 1) = overB (lastB x k) (x.at? k) := rfl
      have HOV := Lib.hid hov
      obtain ⟨f, hf⟩ : ∃ f, lastB x k = f := ⟨_, rfl⟩
      obtain ⟨o, ho⟩ : ∃ o, x.at? k = o := ⟨_, rfl⟩
      rw [hf, ho] at HOV
      rw [hf] at HWF
      rw [ho] at HR
      clear hwr hwf hbr hov hf ho
      go_wp2_with fail
      refine HR.out.mono ?_
      rintro e w1 ⟨rfl, hb1⟩
      have HB1 := Lib.hid (HB.out.trans (hb1.mono HB.out.size))
      have HWR1 := Lib.hid (HWR.out.below hb1 HWR.out.lt)
      have HWF1 := Lib.hid (HWF.out.below hb1 HWF.out.lt)
      have hz1 := hb1.size
      clear hb1
      cases o with
      | none =>
        rw [show (optB none).val = .agg #[.int .i64 0, .int .i64 0, .int .i64 0, .int .i64 0, .int .i64 0] from rfl, show (none : Option Blk).isSome = false from rfl]
        go_wp2
        refine ⟨⟨k + 1, by omega, by go_num, HWR1.out.alloc _, ?_, HB1.out.alloc HB1.out.size _⟩, by simp [intOf]; omega⟩
        rw [HOV.out]
        exact HWF1.out.alloc _
      | some b =>
        rw [show (optB (some b)).val = .agg #[.int .i64 b.gen, .int .i64 b.epoch, .int .i64 b.first, .int .i64 b.begun, .int .i64 b.count] from rfl, show (some b).isSome = true from rfl]
        have hc0 : ∀ o : Obj, (w1.alloc o).cell? ⟨w.heap.size + 1, 0, none⟩ = some (.int .i64 f.gen) := fun o => (HWF1.out.alloc o).cell 0
        have HWF2 := Lib.hid (HWF1.out.alloc (.cells b.cells.toArray 63))
        have HWR2 := Lib.hid (HWR1.out.alloc (.cells b.cells.toArray 63))
        have HB2 := Lib.hid (HB1.out.alloc HB1.out.size (.cells b.cells.toArray 63))
        by_cases hgt : f.gen < b.gen
        · have d1 : decide (f.gen < b.gen) = true := by simp [hgt]
          have HOB := Lib.hid (HOV.out.trans (show overB f (some b) = b from if_pos hgt))
          clear hgt HOV
          go_wp2_with (
            refine wpList_store_at rfl 63 (.tmp 3) (.tmp 25) rfl (w.heap.size + 1) 0 b.cells rfl rfl 63 _ HWF2.out (Blk.fit _ _) blk_info b.one ?_
            intro V hv1 hv2 hv3
            rw [Blk.splice] at hv1
            have HV1 := Lib.hid hv1
            have HG := Lib.hid hv2
            clear hv1 hv2 hv3)
          refine ⟨⟨k + 1, by omega, by go_num, HWR2.out.grew HG.out (by omega), ?_, HB2.out.trans (HG.out.below (B := w.heap.size) (fun j hj => by omega) HB2.out.size)⟩, by simp [intOf]; omega⟩
          rw [HOB.out]
          exact HV1.out
        · have d1 : decide (f.gen < b.gen) = false := by simp; omega
          have HOB := Lib.hid (HOV.out.trans (show overB f (some b) = f from if_neg hgt))
          clear hgt HOV
          go_wp2
          refine ⟨⟨k + 1, by omega, by go_num, HWR2.out, ?_, HB2.out⟩, by simp [intOf]; omega⟩
          rw [HOB.out]
          exact HWF2.out
    · obtain rfl : k = 2 := by omega
      obtain ⟨f, hf⟩ : ∃ f, lastB x 2 = f := ⟨_, rfl⟩
      rw [hf] at HWF
      have HF := Lib.hid hf
      clear hwr hwf hbr hf
      go_wp2_with (first
        | (refine wpList_load_at rfl 63 (.tmp 3) rfl (w.heap.size + 1) 0 rfl f.cells _ Tryd.underlying63 rfl blk_info 63 _ HWF.out (fun j v hj => by rwa [Nat.zero_add]) ?_)
        | (refine wpList_store_at rfl 63 (.tmp 2) (.tmp 27) rfl w.heap.size 0 f.cells rfl rfl 63 _ HWR.out (Blk.fit _ _) blk_info f.one ?_
           intro V hv1 hv2 hv3
           rw [Blk.splice] at hv1
           have v0 : V.cell? ⟨w.heap.size, 0, none⟩ = some (.int .i64 f.gen) := hv1.cell 0
           have v1 : V.cell? ⟨w.heap.size, 1, none⟩ = some (.int .i64 f.epoch) := hv1.cell 1
           have v2 : V.cell? ⟨w.heap.size, 2, none⟩ = some (.int .i64 f.first) := hv1.cell 2
           have v3 : V.cell? ⟨w.heap.size, 3, none⟩ = some (.int .i64 f.begun) := hv1.cell 3
           have v4 : V.cell? ⟨w.heap.size, 4, none⟩ = some (.int .i64 f.count) := hv1.cell 4
           have HBV := Lib.hid (HB.out.trans (hv2.below (B := w.heap.size) (fun j hj => by omega) HB.out.size))
           clear hv1 hv2 hv3))
      exact bodyPost_ret (v := f.val) (by simp [results, Tryd.results50, go_sem, v0, v1, v2, v3, v4, Blk.val]) rfl ⟨by rw [HF.out], HBV.out⟩
end
end Go.Proofs.YtgfoekbdmgljbaaDoor

namespace Go.Proofs.YtgfoekbdmgljbaaDoor
open Go.RowKit

section
variable {w0 w : World} {D : Nat} {x : Dv}
theorem h_down (h : Holds w0 w D x) : Calls Tryd.prog 42 #[.pointer (some ⟨D, 0, none⟩)] w (Told w (.bool x.down)) := by
  obtain ⟨m, rfl, h1, _⟩ := h
  exact down_core w m.d m _ _ _ h1.blk
theorem h_len (h : Holds w0 w D x) : Calls Tryd.prog 23 #[.pointer (some ⟨D, 0, none⟩)] w (Told w (.int .i64 x.sure.length)) := by
  obtain ⟨m, rfl, h1, _⟩ := h
  exact len_core w m.d m _ _ _ h1.blk
theorem h_limit (h : Holds w0 w D x) (k : Int) (hk : k ≤ 9223372036854775807) : Calls Tryd.prog 14 #[.pointer (some ⟨D, 0, none⟩), .int .i64 k] w (fun e w' => e = .returned (.int .i64 (if k < 0 then 1 else 0)) ∧ Holds w0 w' D (x.limited k) ∧ Kept w w') := by
  obtain ⟨m, rfl, h1, h2⟩ := h
  refine (dev_limit w _ m x h1 k hk).mono fun e w' ⟨he, h3, h4, h5⟩ => ?_
  have hw : Went w0.heap.size w m (x.limited k) w' := ⟨m, rfl, h3, h4.mono fun _ hj => .inl (.inl hj), fun _ hj => .inl hj⟩
  exact ⟨he, Holds.went rfl h1 h2 hw, Kept.of_went h1 hw⟩
end

end Go.Proofs.YtgfoekbdmgljbaaDoor

namespace Go.Proofs.YtgfoekbdmgljbaaDoor
open Go.RowKit

/-- Why there are no blocks at all. -/
def Dv.readyE (x : Dv) : Int := if x.sure.length < 2 then 1 else if x.down = true then 8 else 0
section
variable {w0 w : World} {D : Nat} {x : Dv}
set_option maxHeartbeats 400000 in
theorem sready_any (h : Holds w0 w D x) : Calls Tryd.prog 49 #[.pointer (some ⟨D, 0, none⟩)] w (Told w (.int .i64 x.readyE)) := by
  have HL := Lib.hid (h_len h)
  have HD := Lib.hid (h_down h)
  by_cases h1 : x.sure.length < 2
  · have d1 : decide ((x.sure.length : Int) < 2) = true := by simp; omega
    have HE := Lib.hid (show x.readyE = 1 from if_pos h1)
    clear h1
    go_enter Tryd.func49, Tryd.ntmps49
    go_wp2_with fail
    refine HL.out.mono ?_
    rintro e w1 ⟨rfl, rfl⟩
    go_wp2
    go_ret
    exact ⟨by rw [HE.out]; rfl, rfl⟩
  · have d1 : decide ((x.sure.length : Int) < 2) = false := by simp; omega
    obtain ⟨dn, hdn⟩ : ∃ dn, x.down = dn := ⟨_, rfl⟩
    have HE := Lib.hid (show x.readyE = if dn = true then 8 else 0 from by unfold Dv.readyE; rw [if_neg h1, hdn])
    rw [hdn] at HD
    clear h1 hdn
    go_enter Tryd.func49, Tryd.ntmps49
    go_wp2_with fail
    refine HL.out.mono ?_
    rintro e w1 ⟨rfl, rfl⟩
    go_wp2_with fail
    refine HD.out.mono ?_
    rintro e w2 ⟨rfl, rfl⟩
    cases dn with
    | true =>
      go_wp2
      go_ret
      exact ⟨by rw [HE.out]; rfl, rfl⟩
    | false =>
      go_wp2
      go_ret
      exact ⟨by rw [HE.out]; rfl, rfl⟩
theorem sready_nil : Calls Tryd.prog 49 #[.pointer none] w (Told w (.int .i64 1)) := by
  have HL := Lib.hid (nil_len (w := w))
  go_enter Tryd.func49, Tryd.ntmps49
  go_wp2_with fail
  refine HL.out.mono ?_
  rintro e w1 ⟨rfl, rfl⟩
  go_wp2
  go_ret
  exact ⟨rfl, rfl⟩
end

theorem secBlk_nonneg {s : Sec} {k : Nat} {b : Blk} (h : secBlk s k = some b) : 0 ≤ b.gen := by
  unfold secBlk at h
  split at h
  · injection h with h
    rw [← h]
    exact Int.natCast_nonneg _
  · cases h
theorem loadS_nonneg {S : List Sec} {b : Blk} (h : loadS S = some b) : 0 ≤ b.gen := by
  unfold loadS at h
  cases e0 : secBlk (S.getD 0 secZero) 0 with
  | none =>
    cases e1 : secBlk (S.getD 1 secZero) 1 with
    | none => rw [e0, e1] at h; cases h
    | some c => rw [e0, e1] at h; injection h with h; rw [← h]; exact secBlk_nonneg e1
  | some a =>
    cases e1 : secBlk (S.getD 1 secZero) 1 with
    | none => rw [e0, e1] at h; injection h with h; rw [← h]; exact secBlk_nonneg e0
    | some c =>
      rw [e0, e1] at h
      have h' : (if c.gen < a.gen then some a else some c) = some b := h
      split at h'
      · injection h' with h'; rw [← h']; exact secBlk_nonneg e0
      · injection h' with h'; rw [← h']; exact secBlk_nonneg e1
/-- Load answers an error, and nothing. -/
theorem load_bad (p : Value) (E : Int) (hE : E ≠ 0) (w : World) (hr : ∀ w', Below w.heap.size w w' → Calls Tryd.prog 49 #[p] w' (Told w' (.int .i64 E))) :
    Calls Tryd.prog 38 #[p] w (Gave w (.tuple #[bzero.val, .int .i64 E])) := by
  have d1 : (E != 0) = true := by rw [bne_iff_ne]; exact hE
  have HR := Lib.hid (hr (w.alloc (.cells bzero.cells.toArray 63)) ((Below.refl _ _).alloc (Nat.le_refl _) _))
  clear hE hr
  go_enter Tryd.func38, Tryd.ntmps38
  go_wp2_with fail
  refine HR.out.mono ?_
  rintro e w1 ⟨rfl, rfl⟩
  have HW1 := Lib.hid (Whole.made w bzero.cells 63)
  have HB1 := Lib.hid ((Below.refl w.heap.size w).alloc (Nat.le_refl _) (.cells bzero.cells.toArray 63))
  go_wp2_with (
    refine wpList_store_at rfl 63 (.tmp 2) (.tmp 10) rfl w.heap.size 0 bzero.cells rfl rfl 63 _ HW1.out (Blk.fit _ _) blk_info bzero.one ?_
    intro V hv1 hv2 hv3
    rw [Blk.splice] at hv1
    have v0 : V.cell? ⟨w.heap.size, 0, none⟩ = some (.int .i64 bzero.gen) := hv1.cell 0
    have v1 : V.cell? ⟨w.heap.size, 1, none⟩ = some (.int .i64 bzero.epoch) := hv1.cell 1
    have v2 : V.cell? ⟨w.heap.size, 2, none⟩ = some (.int .i64 bzero.first) := hv1.cell 2
    have v3 : V.cell? ⟨w.heap.size, 3, none⟩ = some (.int .i64 bzero.begun) := hv1.cell 3
    have v4 : V.cell? ⟨w.heap.size, 4, none⟩ = some (.int .i64 bzero.count) := hv1.cell 4
    have HBV := Lib.hid (HB1.out.trans (hv2.below (B := w.heap.size) (fun j hj => by omega) HB1.out.size))
    clear hv1 hv2 hv3)
  exact bodyPost_ret (v := .tuple #[bzero.val, .int .i64 E]) (by simp [results, Tryd.results38, go_sem, v0, v1, v2, v3, v4, Blk.val, bzero]) rfl ⟨rfl, HBV.out⟩

section
variable {w0 w : World} {D : Nat} {x : Dv}
set_option maxHeartbeats 400000 in
theorem load_ok (h : Holds w0 w D x) (hv : VarsAt w) (h1 : ¬ x.sure.length < 2) (h2 : x.down = false) : Calls Tryd.prog 38 #[.pointer (some ⟨D, 0, none⟩)] w (Gave w (.tuple #[x.loadB.val, .int .i64 x.loadE])) := by
  have hE : x.readyE = 0 := by unfold Dv.readyE; rw [if_neg h1, if_neg (by simp [h2])]
  have hr0 := sready_any (h.alloc (.cells bzero.cells.toArray 63))
  rw [hE] at hr0
  have HR := Lib.hid hr0
  have hl0 := slast_any (h.alloc (.cells bzero.cells.toArray 63)) (hv.alloc _)
  rw [last_pick h2 (by omega)] at hl0
  have HL := Lib.hid hl0
  have hle : x.loadE = if (loadS x.now).isNone = true then 11 else 0 := by unfold Dv.loadE; rw [if_neg h1, if_neg (by simp [h2])]
  have HW := Lib.hid (Whole.made w bzero.cells 63)
  have hlb : x.loadB = (loadS x.now).getD bzero := by
    unfold Dv.loadB
    rw [hle]
    cases loadS x.now <;> simp
  have hnn : ∀ b, loadS x.now = some b → 0 ≤ b.gen := fun b hb => loadS_nonneg hb
  have HLE := Lib.hid hle
  have HLB := Lib.hid hlb
  clear hr0 hl0 hE h1 h2 h hv hle hlb
  generalize loadS x.now = o at *
  go_enter Tryd.func38, Tryd.ntmps38
  go_wp2_with fail
  refine HR.out.mono ?_
  rintro e w1 ⟨rfl, rfl⟩
  go_wp2_with fail
  refine HL.out.mono ?_
  rintro e w1 ⟨rfl, hb1⟩
  have HW1 := Lib.hid (HW.out.below hb1 HW.out.lt)
  have HB1 := Lib.hid (((Below.refl w.heap.size w).alloc (Nat.le_refl _) _).trans (hb1.mono (by simp)))
  clear hb1
  cases o with
  | none =>
    have HE2 := Lib.hid (show x.loadE = 11 from HLE.out)
    have HB2 := Lib.hid (show x.loadB = bzero from HLB.out)
    have HWA := Lib.hid (HW1.out.alloc (.cells bnone.cells.toArray 63))
    have HBA := Lib.hid (HB1.out.alloc HB1.out.size (.cells bnone.cells.toArray 63))
    rw [show ((none : Option Blk).getD bnone).val = .agg #[.int .i64 (-1), .int .i64 0, .int .i64 0, .int .i64 0, .int .i64 0] from rfl]
    clear hnn
    go_wp2_with (
      refine wpList_store_at rfl 63 (.tmp 2) (.tmp 17) rfl w.heap.size 0 bzero.cells rfl rfl 63 _ HWA.out (Blk.fit _ _) blk_info bzero.one ?_
      intro V hv1 hv2 hv3
      rw [Blk.splice] at hv1
      have v0 : V.cell? ⟨w.heap.size, 0, none⟩ = some (.int .i64 bzero.gen) := hv1.cell 0
      have v1 : V.cell? ⟨w.heap.size, 1, none⟩ = some (.int .i64 bzero.epoch) := hv1.cell 1
      have v2 : V.cell? ⟨w.heap.size, 2, none⟩ = some (.int .i64 bzero.first) := hv1.cell 2
      have v3 : V.cell? ⟨w.heap.size, 3, none⟩ = some (.int .i64 bzero.begun) := hv1.cell 3
      have v4 : V.cell? ⟨w.heap.size, 4, none⟩ = some (.int .i64 bzero.count) := hv1.cell 4
      have HBV := Lib.hid (HBA.out.trans (hv2.below (B := w.heap.size) (fun j hj => by omega) HBA.out.size))
      clear hv1 hv2 hv3)
    exact bodyPost_ret (v := .tuple #[bzero.val, .int .i64 11]) (by simp [results, Tryd.results38, go_sem, v0, v1, v2, v3, v4, Blk.val, bzero]) rfl ⟨by rw [HE2.out, HB2.out], HBV.out⟩
  | some b =>
    have HE2 := Lib.hid (show x.loadE = 0 from HLE.out)
    have HB2 := Lib.hid (show x.loadB = b from HLB.out)
    have HWA := Lib.hid (HW1.out.alloc (.cells b.cells.toArray 63))
    have HBA := Lib.hid (HB1.out.alloc HB1.out.size (.cells b.cells.toArray 63))
    have d1 : decide (b.gen < 0) = false := by have := hnn b rfl; simp; omega
    clear hnn
    rw [show ((some b).getD bnone).val = .agg #[.int .i64 b.gen, .int .i64 b.epoch, .int .i64 b.first, .int .i64 b.begun, .int .i64 b.count] from rfl]
    go_wp2_with (
      refine wpList_store_at rfl 63 (.tmp 2) (.tmp 18) rfl w.heap.size 0 b.cells rfl rfl 63 _ HWA.out (Blk.fit _ _) blk_info b.one ?_
      intro V hv1 hv2 hv3
      rw [Blk.splice] at hv1
      have v0 : V.cell? ⟨w.heap.size, 0, none⟩ = some (.int .i64 b.gen) := hv1.cell 0
      have v1 : V.cell? ⟨w.heap.size, 1, none⟩ = some (.int .i64 b.epoch) := hv1.cell 1
      have v2 : V.cell? ⟨w.heap.size, 2, none⟩ = some (.int .i64 b.first) := hv1.cell 2
      have v3 : V.cell? ⟨w.heap.size, 3, none⟩ = some (.int .i64 b.begun) := hv1.cell 3
      have v4 : V.cell? ⟨w.heap.size, 4, none⟩ = some (.int .i64 b.count) := hv1.cell 4
      have HBV := Lib.hid (HBA.out.trans (hv2.below (B := w.heap.size) (fun j hj => by omega) HBA.out.size))
      clear hv1 hv2 hv3)
    exact bodyPost_ret (v := .tuple #[b.val, .int .i64 0]) (by simp [results, Tryd.results38, go_sem, v0, v1, v2, v3, v4, Blk.val]) rfl ⟨by rw [HE2.out, HB2.out], HBV.out⟩

theorem load_any (h : Holds w0 w D x) (hv : VarsAt w) : Calls Tryd.prog 38 #[.pointer (some ⟨D, 0, none⟩)] w (Gave w (.tuple #[x.loadB.val, .int .i64 x.loadE])) := by
  by_cases h1 : x.sure.length < 2
  · have e1 : x.loadE = 1 := if_pos h1
    have e2 : x.loadB = bzero := by unfold Dv.loadB; rw [e1]; rfl
    have e3 : x.readyE = 1 := if_pos h1
    rw [e1, e2]
    refine load_bad _ 1 (by decide) w fun w' hb => ?_
    have := sready_any (h.next hb)
    rwa [e3] at this
  · cases h2 : x.down with
    | true =>
      have e1 : x.loadE = 8 := by unfold Dv.loadE; rw [if_neg h1, if_pos h2]
      have e2 : x.loadB = bzero := by unfold Dv.loadB; rw [e1]; rfl
      have e3 : x.readyE = 8 := by unfold Dv.readyE; rw [if_neg h1, if_pos h2]
      rw [e1, e2]
      refine load_bad _ 8 (by decide) w fun w' hb => ?_
      have := sready_any (h.next hb)
      rwa [e3] at this
    | false => exact load_ok h hv h1 h2
end
theorem load_nil (w : World) : Calls Tryd.prog 38 #[.pointer none] w (Gave w (.tuple #[bzero.val, .int .i64 1])) := load_bad _ 1 (by decide) w fun _ _ => sready_nil

end Go.Proofs.YtgfoekbdmgljbaaDoor

namespace Go.Proofs.YtgfoekbdmgljbaaDoor
open Go.RowKit

theorem secBlk_small {s : Sec} {k : Nat} {b : Blk} (h : secBlk s k = some b) : 0 ≤ b.gen ∧ b.gen < 72057594037927936 := by
  unfold secBlk at h
  split at h
  · injection h with h
    rw [← h]
    refine ⟨Int.natCast_nonneg _, ?_⟩
    show (numN _ : Int) < _
    have h1 := numN_lt (cutL (openB s.data) 0 7)
    have h2 : (cutL (openB s.data) 0 7).length ≤ 7 := by unfold cutL; rw [List.length_take]; exact Nat.min_le_left _ _
    have h3 : 256 ^ (cutL (openB s.data) 0 7).length ≤ 256 ^ 7 := Nat.pow_le_pow_right (by decide) h2
    have h4 : (256 : Nat) ^ 7 = 72057594037927936 := by decide
    omega
  · cases h
theorem loadS_small {S : List Sec} {b : Blk} (h : loadS S = some b) : 0 ≤ b.gen ∧ b.gen < 72057594037927936 := by
  unfold loadS at h
  cases e0 : secBlk (S.getD 0 secZero) 0 with
  | none =>
    cases e1 : secBlk (S.getD 1 secZero) 1 with
    | none => rw [e0, e1] at h; cases h
    | some c => rw [e0, e1] at h; injection h with h; rw [← h]; exact secBlk_small e1
  | some a =>
    cases e1 : secBlk (S.getD 1 secZero) 1 with
    | none => rw [e0, e1] at h; injection h with h; rw [← h]; exact secBlk_small e0
    | some c =>
      rw [e0, e1] at h
      have h' : (if c.gen < a.gen then some a else some c) = some b := h
      split at h'
      · injection h' with h'; rw [← h']; exact secBlk_small e0
      · injection h' with h'; rw [← h']; exact secBlk_small e1
theorem bytes_five (b : Blk) (hf : b.fits = true) (W : World) : Calls Tryd.prog 56 #[b.val] W
    (fun e W' => ∃ A c, e = .returned (.slice A 35 c) ∧ 35 ≤ c ∧ W'.ownsRow W.heap.size 5 1 (.slice A 35 c) 35 (b.bytes.map bc) ∧ Below W.heap.size W W') := by
  refine (bbytes_any b W).mono ?_
  rintro e W' ⟨v, rfl, hown, hb⟩
  rw [bytesTo_five hf, length_bbytes] at hown
  obtain ⟨A, c, rfl, h1, _⟩ := own_form hown
  exact ⟨A, c, rfl, h1, hown, hb⟩
theorem seal_five (b : Blk) (A : Option Addr) (c : Nat) (W : World) (hA : Row W W.heap.size A (b.bytes.map bc)) (hc : 35 ≤ c) (hs : SizesAt W) :
    Calls Tryd.prog 44 #[.agg #[.int .i64 1, .int .i64 0, .int .i64 0, .int .i64 0, .int .i64 1], .slice A 35 c] W
      (fun e W' => ∃ A c, e = .returned (.tuple #[.slice A 512 c, .int .i64 0]) ∧ W'.ownsRow W.heap.size 5 1 (.slice A 512 c) 512 (b.sec.map bc) ∧ Below W.heap.size W W') := by
  refine (seal_any A c 35 supH b.bytes W (length_bbytes b) hA hs hc (by decide)).mono ?_
  rintro e W' ⟨v, rfl, hown, hb⟩
  have hl : (sealB supH b.bytes).length = 512 := length_bsec b
  rw [hl] at hown
  obtain ⟨A', c', rfl, h1, _⟩ := own_form hown
  exact ⟨A', c', by rw [length_bbytes]; rfl, hown, hb⟩
theorem sync_uns (x : Dv) : x.sync.uns.length ≤ x.uns.length := by
  unfold Dv.sync
  split
  · exact Nat.le_refl _
  · split
    · rw [spent_uns]; exact Nat.le_refl _
    · exact Nat.zero_le _
theorem write_uns (x : Dv) (k : Int) (l : List UInt8) : (x.write k l).uns.length ≤ x.uns.length + 1 := by
  unfold Dv.write
  split
  · omega
  · split
    · rw [spent_uns]; omega
    · simp
theorem put2_uns (x : Dv) (b : Blk) : (x.put2 b).uns.length ≤ x.uns.length + 1 :=
  Nat.le_trans (write_uns x.sync (b.gen % 2) b.sec) (Nat.succ_le_succ (sync_uns x))
theorem fits_gen {b : Blk} (h : b.fits = true) : 0 ≤ b.gen := by
  rw [Blk.fits_all] at h
  simp only [Bool.and_eq_true] at h
  have h1 := h.1.1.1.1
  simp only [fitB, decide_eq_true_eq] at h1
  omega
theorem write_512 {w0 w : World} {D : Nat} {x : Dv} (h : Holds w0 w D x) (k : Int) (A : Option Addr) (c : Nat) (b : Blk) (hs : BytesAt w A b.sec) (hu : x.uns.length < 4294967296) :
    Calls Tryd.prog 45 #[.pointer (some ⟨D, 0, none⟩), .int .i64 k, .slice A 512 c] w (fun e w' => e = .returned (.int .i64 (x.writeE k b.sec)) ∧ Holds w0 w' D (x.write k b.sec) ∧ Kept w w') := by
  have := h_write h k A c b.sec (by rw [length_bsec]; decide) hs hu
  rwa [length_bsec] at this
set_option maxRecDepth 20000 in
theorem blk_gen (f : Blk) (W : World) : (Instr.field 63 (.agg #[.int .i64 f.gen, .int .i64 f.epoch, .int .i64 f.first, .int .i64 f.begun, .int .i64 f.count]) 0).run Tryd.prog W = .ok (.int .i64 f.gen) W := by rfl
theorem blk_notD : ¬ devT 63 := by unfold devT; decide
/-- Save answers an error, and nothing is done. -/
theorem save_bad (p : Value) (b : Blk) (E : Int) (hE : E ≠ 0) (w : World) (hr : ∀ w', Below w.heap.size w w' → Calls Tryd.prog 49 #[p] w' (Told w' (.int .i64 E))) :
    Calls Tryd.prog 41 #[p, b.val] w (Gave w (.int .i64 E)) := by
  have d1 : (E != 0) = true := by rw [bne_iff_ne]; exact hE
  have HR := Lib.hid (hr (w.alloc (.cells b.cells.toArray 63)) ((Below.refl _ _).alloc (Nat.le_refl _) _))
  have HB1 := Lib.hid ((Below.refl w.heap.size w).alloc (Nat.le_refl _) (.cells b.cells.toArray 63))
  clear hE hr
  unfold Blk.val
  go_enter Tryd.func41, Tryd.ntmps41
  go_wp2_with fail
  refine HR.out.mono ?_
  rintro e w1 ⟨rfl, rfl⟩
  go_wp2
  go_ret
  exact ⟨rfl, HB1.out⟩
theorem save_nil (b : Blk) (w : World) : Calls Tryd.prog 41 #[.pointer none, b.val] w (Gave w (.int .i64 1)) := save_bad _ b 1 (by decide) w fun _ _ => sready_nil

section
variable {w0 w : World} {D : Nat} {x : Dv}
set_option maxHeartbeats 1000000 in
set_option maxRecDepth 4000 in
theorem save_fits (h : Holds w0 w D x) (hv : VarsAt w0) (b : Blk) (hf : b.fits = true) (h1 : ¬ x.sure.length < 2) (h2 : x.down = false) (hu : x.uns.length < 4294967295) :
    Calls Tryd.prog 41 #[.pointer (some ⟨D, 0, none⟩), b.val] w (fun e w' => e = .returned (.int .i64 (x.saveE b)) ∧ Holds w0 w' D (x.save b) ∧ Kept w w') := by
  have hE : x.readyE = 0 := by unfold Dv.readyE; rw [if_neg h1, if_neg (by simp [h2])]
  have hr0 := sready_any (h.alloc (.cells b.cells.toArray 63))
  rw [hE] at hr0
  have HR := Lib.hid hr0
  have HF := Lib.hid hf
  have HH := Lib.hid h
  have HV := Lib.hid hv
  have hlp := last_pick h2 (by omega)
  have HNO := Lib.hid (show x.saveNo b = if b.gen ≠ nextG (loadS x.now) then 15 else 0 by unfold Dv.saveNo; rw [if_neg h1, if_neg (by simp [h2]), hf]; simp)
  have HU := Lib.hid hu
  obtain ⟨o, ho⟩ : ∃ o, loadS x.now = o := ⟨_, rfl⟩
  have hng : ((o.getD bnone).gen + 1 = nextG o) ∧ -1 ≤ (o.getD bnone).gen ∧ (o.getD bnone).gen < 72057594037927936 := by
    subst ho
    cases hl : loadS x.now with
    | none => exact ⟨rfl, by decide, by decide⟩
    | some c =>
      have := loadS_small hl
      exact ⟨rfl, by show -1 ≤ c.gen; omega, this.2⟩
  rw [ho] at hlp HNO
  obtain ⟨f, hf2⟩ : ∃ f, o.getD bnone = f := ⟨_, rfl⟩
  rw [hf2] at hng hlp
  have HLP := Lib.hid hlp
  have HNG := Lib.hid hng.1
  have hf0 := hng.2.1
  have hf1 := hng.2.2
  have r0 : IntKind.i64.wrap (f.gen + 1) = f.gen + 1 := IntWalk.i64_in _ (by omega)
  clear hr0 hE h1 h2 hf h hv hlp hu ho hf2 hng
  unfold Blk.val
  go_enter Tryd.func41, Tryd.ntmps41
  go_wp2_with fail
  refine HR.out.mono ?_
  rintro e w1 ⟨rfl, rfl⟩
  go_wp2
  obtain ⟨W1, hW1⟩ : ∃ W1, W1 = w.alloc (.cells b.cells.toArray 63) := ⟨_, rfl⟩
  have hW : Whole W1 w.heap.size 63 b.cells := by rw [hW1]; exact Whole.made _ _ _
  have HB1 := Lib.hid (show Below w.heap.size w W1 by rw [hW1]; exact (Below.refl _ _).alloc (Nat.le_refl _) _)
  have HH1 := Lib.hid (HH.out.next HB1.out)
  have HW1 := Lib.hid hW
  have HLT1 := Lib.hid hW.lt
  have c0 : W1.cell? ⟨w.heap.size, 0, none⟩ = some (.int .i64 b.gen) := hW.cell 0
  have c1 : W1.cell? ⟨w.heap.size, 1, none⟩ = some (.int .i64 b.epoch) := hW.cell 1
  have c2 : W1.cell? ⟨w.heap.size, 2, none⟩ = some (.int .i64 b.first) := hW.cell 2
  have c3 : W1.cell? ⟨w.heap.size, 3, none⟩ = some (.int .i64 b.begun) := hW.cell 3
  have c4 : W1.cell? ⟨w.heap.size, 4, none⟩ = some (.int .i64 b.count) := hW.cell 4
  change Code.wp _ _ _ _ (w.alloc (.cells b.cells.toArray 63))
  rw [← hW1]
  clear hW1 hW HR
  have HFI := Lib.hid (bfits_any b)
  rw [HF.out] at HFI
  unfold Blk.val at HFI
  have hla : (∀ W, Holds w0 W D x → VarsAt W → Calls Tryd.prog 50 #[.pointer (some ⟨D, 0, none⟩)] W (Gave W (.agg #[.int .i64 f.gen, .int .i64 f.epoch, .int .i64 f.first, .int .i64 f.begun, .int .i64 f.count]))) := fun W hw hv => by
    have := slast_any hw hv
    rwa [HLP.out] at this
  have HLA := Lib.hid hla
  clear hla
  have hfd := blk_gen f
  go_region_held3 (fun X => X.cell? ⟨w.heap.size, 0, none⟩ = some (.int .i64 b.gen) ∧ X.cell? ⟨w.heap.size, 1, none⟩ = some (.int .i64 b.epoch) ∧ X.cell? ⟨w.heap.size, 2, none⟩ = some (.int .i64 b.first) ∧ X.cell? ⟨w.heap.size, 3, none⟩ = some (.int .i64 b.begun) ∧ X.cell? ⟨w.heap.size, 4, none⟩ = some (.int .i64 b.count))
    (go_keep)
    ((first
      | (go_at_call 55
         refine (HFI.out _).mono ?_
         rintro e w2 ⟨rfl, hb2'⟩
         have hb2 := (Below.refl W1.heap.size W1).drew.trans hb2'
         have HB2 := Lib.hid (HB1.out.trans (hb2.mono HB1.out.size))
         have HH2 := Lib.hid (HH1.out.next hb2)
         have HW2 := Lib.hid (HW1.out.below hb2 HLT1.out)
         clear hb2'
         have c0 : w2.cell? ⟨w.heap.size, 0, none⟩ = some (.int .i64 b.gen) := HW2.out.cell 0
         have c1 : w2.cell? ⟨w.heap.size, 1, none⟩ = some (.int .i64 b.epoch) := HW2.out.cell 1
         have c2 : w2.cell? ⟨w.heap.size, 2, none⟩ = some (.int .i64 b.first) := HW2.out.cell 2
         have c3 : w2.cell? ⟨w.heap.size, 3, none⟩ = some (.int .i64 b.begun) := HW2.out.cell 3
         have c4 : w2.cell? ⟨w.heap.size, 4, none⟩ = some (.int .i64 b.count) := HW2.out.cell 4
         clear hb2)
      | (go_at_call 50
         refine (HLA.out _ HH2.out (HV.out.next HH2.out.below)).mono ?_
         rintro e w3 ⟨rfl, hb3⟩
         have HB3 := Lib.hid (HB2.out.trans (hb3.mono HB2.out.size))
         have HH3 := Lib.hid (HH2.out.next hb3)
         have HW3 := Lib.hid (HW2.out.below hb3 HW2.out.lt)
         have c0 : w3.cell? ⟨w.heap.size, 0, none⟩ = some (.int .i64 b.gen) := HW3.out.cell 0
         have c1 : w3.cell? ⟨w.heap.size, 1, none⟩ = some (.int .i64 b.epoch) := HW3.out.cell 1
         have c2 : w3.cell? ⟨w.heap.size, 2, none⟩ = some (.int .i64 b.first) := HW3.out.cell 2
         have c3 : w3.cell? ⟨w.heap.size, 3, none⟩ = some (.int .i64 b.begun) := HW3.out.cell 3
         have c4 : w3.cell? ⟨w.heap.size, 4, none⟩ = some (.int .i64 b.count) := HW3.out.cell 4
         clear hb3)))
  by_cases hg : b.gen = f.gen + 1
  · have d1 : (b.gen != f.gen + 1) = false := by simp [hg]
    have HNO2 := Lib.hid (show x.saveNo b = 0 by rw [HNO.out, ← HNG.out, hg]; simp)
    have HG := Lib.hid hg
    clear hg
    go_wp2
    have g0 : w3.cell? ⟨0, 0, none⟩ = some (.int .i64 1) := (HV.out.next HH3.out.below).head.cell (k := 0) rfl
    have g1 : w3.cell? ⟨0, 1, none⟩ = some (.int .i64 0) := (HV.out.next HH3.out.below).head.cell (k := 1) rfl
    have g2 : w3.cell? ⟨0, 2, none⟩ = some (.int .i64 0) := (HV.out.next HH3.out.below).head.cell (k := 2) rfl
    have g3 : w3.cell? ⟨0, 3, none⟩ = some (.int .i64 0) := (HV.out.next HH3.out.below).head.cell (k := 3) rfl
    have g4 : w3.cell? ⟨0, 4, none⟩ = some (.int .i64 1) := (HV.out.next HH3.out.below).head.cell (k := 4) rfl
    have HBY := Lib.hid (bytes_five b HF.out)
    have HSE := Lib.hid (seal_five b)
    unfold Blk.val at HBY
    go_region_held3 (fun X => X.cell? ⟨0, 0, none⟩ = some (.int .i64 1) ∧ X.cell? ⟨0, 1, none⟩ = some (.int .i64 0) ∧ X.cell? ⟨0, 2, none⟩ = some (.int .i64 0) ∧ X.cell? ⟨0, 3, none⟩ = some (.int .i64 0) ∧ X.cell? ⟨0, 4, none⟩ = some (.int .i64 1) ∧ X.cell? ⟨w.heap.size, 0, none⟩ = some (.int .i64 b.gen) ∧ X.cell? ⟨w.heap.size, 1, none⟩ = some (.int .i64 b.epoch) ∧ X.cell? ⟨w.heap.size, 2, none⟩ = some (.int .i64 b.first) ∧ X.cell? ⟨w.heap.size, 3, none⟩ = some (.int .i64 b.begun) ∧ X.cell? ⟨w.heap.size, 4, none⟩ = some (.int .i64 b.count))
      (go_keep)
      ((first
      | (go_at_call 56
         refine (HBY.out _).mono ?_
         rintro e w4 ⟨A4, k4, rfl, hk4, hown4', hb4'⟩
         have hb4 := (Below.refl w3.heap.size w3).drew.trans hb4'
         have HO4 := Lib.hid hown4'
         have HK4 := Lib.hid hk4
         have HB4 := Lib.hid (HB3.out.trans (hb4.mono HB3.out.size))
         have HH4 := Lib.hid (HH3.out.next hb4)
         have HW4 := Lib.hid (HW3.out.below hb4 HW3.out.lt)
         have c0 : w4.cell? ⟨w.heap.size, 0, none⟩ = some (.int .i64 b.gen) := HW4.out.cell 0
         have c1 : w4.cell? ⟨w.heap.size, 1, none⟩ = some (.int .i64 b.epoch) := HW4.out.cell 1
         have c2 : w4.cell? ⟨w.heap.size, 2, none⟩ = some (.int .i64 b.first) := HW4.out.cell 2
         have c3 : w4.cell? ⟨w.heap.size, 3, none⟩ = some (.int .i64 b.begun) := HW4.out.cell 3
         have c4 : w4.cell? ⟨w.heap.size, 4, none⟩ = some (.int .i64 b.count) := HW4.out.cell 4
         have g0 : w4.cell? ⟨0, 0, none⟩ = some (.int .i64 1) := (HV.out.next HH4.out.below).head.cell (k := 0) rfl
         have g1 : w4.cell? ⟨0, 1, none⟩ = some (.int .i64 0) := (HV.out.next HH4.out.below).head.cell (k := 1) rfl
         have g2 : w4.cell? ⟨0, 2, none⟩ = some (.int .i64 0) := (HV.out.next HH4.out.below).head.cell (k := 2) rfl
         have g3 : w4.cell? ⟨0, 3, none⟩ = some (.int .i64 0) := (HV.out.next HH4.out.below).head.cell (k := 3) rfl
         have g4 : w4.cell? ⟨0, 4, none⟩ = some (.int .i64 1) := (HV.out.next HH4.out.below).head.cell (k := 4) rfl
         clear hb4 hb4' hk4 hown4')
      | (go_at_call 44
         refine (HSE.out A4 k4 _ (Row.of_own HO4.out) HK4.out (HV.out.next HH4.out.below).sizes).mono ?_
         rintro e w5 ⟨A5, k5, rfl, hown5, hb5⟩
         have HO5 := Lib.hid hown5
         have HB5 := Lib.hid (HB4.out.trans (hb5.mono HB4.out.size))
         have HH5 := Lib.hid (HH4.out.next hb5)
         have HW5 := Lib.hid (HW4.out.below hb5 HW4.out.lt)
         have c0 : w5.cell? ⟨w.heap.size, 0, none⟩ = some (.int .i64 b.gen) := HW5.out.cell 0
         have c1 : w5.cell? ⟨w.heap.size, 1, none⟩ = some (.int .i64 b.epoch) := HW5.out.cell 1
         have c2 : w5.cell? ⟨w.heap.size, 2, none⟩ = some (.int .i64 b.first) := HW5.out.cell 2
         have c3 : w5.cell? ⟨w.heap.size, 3, none⟩ = some (.int .i64 b.begun) := HW5.out.cell 3
         have c4 : w5.cell? ⟨w.heap.size, 4, none⟩ = some (.int .i64 b.count) := HW5.out.cell 4
         have g0 : w5.cell? ⟨0, 0, none⟩ = some (.int .i64 1) := (HV.out.next HH5.out.below).head.cell (k := 0) rfl
         have g1 : w5.cell? ⟨0, 1, none⟩ = some (.int .i64 0) := (HV.out.next HH5.out.below).head.cell (k := 1) rfl
         have g2 : w5.cell? ⟨0, 2, none⟩ = some (.int .i64 0) := (HV.out.next HH5.out.below).head.cell (k := 2) rfl
         have g3 : w5.cell? ⟨0, 3, none⟩ = some (.int .i64 0) := (HV.out.next HH5.out.below).head.cell (k := 3) rfl
         have g4 : w5.cell? ⟨0, 4, none⟩ = some (.int .i64 1) := (HV.out.next HH5.out.below).head.cell (k := 4) rfl
         clear hb5 hown5)))
    clear g0 g1 g2 g3 g4 c0 c1 c2 c3 c4
    go_wp2_with fail
    refine (h_sync HH5.out (by have := HU.out; omega)).mono ?_
    rintro e w6 ⟨rfl, hh6, hk6⟩
    have HH6 := Lib.hid hh6
    have HK6 := Lib.hid ((Kept.below HB5.out).trans hk6)
    have HW6 := Lib.hid (hk6.whole HW5.out blk_notD)
    have HO6 := Lib.hid (hk6.own HO5.out u8_not)
    clear hh6 hk6
    obtain ⟨e1, he1⟩ : ∃ e1, x.syncE = e1 := ⟨_, rfl⟩
    have HE1 := Lib.hid he1
    rw [he1]
    clear he1
    by_cases h1 : e1 = 0
    · subst h1
      have c0 : w6.cell? ⟨w.heap.size, 0, none⟩ = some (.int .i64 b.gen) := HW6.out.cell 0
      have r1 : b.gen.tmod 2 = b.gen % 2 := Int.tmod_eq_emod_of_nonneg (fits_gen HF.out)
      have HWW := Lib.hid (write_512 HH6.out (b.gen % 2) A5 k5 b (BytesAt.own HO6.out) (Nat.lt_of_le_of_lt (sync_uns x) (by have := HU.out; omega)))
      go_wp2_with fail
      refine HWW.out.mono ?_
      rintro e w7 ⟨rfl, hh7, hk7⟩
      change Holds w0 w7 D (x.put2 b) at hh7
      rw [show x.sync.writeE (b.gen % 2) b.sec = x.put2E b from rfl]
      have HH7 := Lib.hid hh7
      have HK7 := Lib.hid (HK6.out.trans hk7)
      clear hh7 hk7
      obtain ⟨e2, he2⟩ : ∃ e2, x.put2E b = e2 := ⟨_, rfl⟩
      have HE2 := Lib.hid he2
      rw [he2]
      clear he2
      by_cases h2 : e2 = 0
      · subst h2
        go_wp2_with fail
        refine (h_sync HH7.out (Nat.lt_of_le_of_lt (put2_uns x b) (by have := HU.out; omega))).mono ?_
        rintro e w8 ⟨rfl, hh8, hk8⟩
        have HH8 := Lib.hid hh8
        have HK8 := Lib.hid (HK7.out.trans hk8)
        clear hh8 hk8
        have HE3 := Lib.hid (show x.saveE b = (x.put2 b).syncE by unfold Dv.saveE; rw [HNO2.out, HE1.out, HE2.out]; rfl)
        have HE4 := Lib.hid (show x.save b = (x.put2 b).sync by unfold Dv.save; rw [HNO2.out, HE1.out, HE2.out]; rfl)
        generalize (x.put2 b).syncE = e3 at *
        go_wp2
        go_ret
        exact ⟨by rw [HE3.out]; rfl, by rw [HE4.out]; exact HH8.out, HK8.out⟩
      · have d2 : (e2 != 0) = true := by rw [bne_iff_ne]; exact h2
        have HE3 := Lib.hid (show x.saveE b = e2 by unfold Dv.saveE; rw [HNO2.out, HE1.out, HE2.out]; simp [h2])
        have HE4 := Lib.hid (show x.save b = x.put2 b by unfold Dv.save; rw [HNO2.out, HE1.out, HE2.out]; simp [h2])
        clear h2
        go_wp2
        go_ret
        exact ⟨by rw [HE3.out]; rfl, by rw [HE4.out]; exact HH7.out, HK7.out⟩
    · have d2 : (e1 != 0) = true := by rw [bne_iff_ne]; exact h1
      have HE3 := Lib.hid (show x.saveE b = e1 by unfold Dv.saveE; rw [HNO2.out, HE1.out]; simp [h1])
      have HE4 := Lib.hid (show x.save b = x.sync by unfold Dv.save; rw [HNO2.out, HE1.out]; simp [h1]; rfl)
      clear h1
      go_wp2
      go_ret
      exact ⟨by rw [HE3.out]; rfl, by rw [HE4.out]; exact HH6.out, HK6.out⟩
  · have d1 : (b.gen != f.gen + 1) = true := by rw [bne_iff_ne]; exact hg
    have HNO2 := Lib.hid (show x.saveNo b = 15 by rw [HNO.out, ← HNG.out]; simp [hg])
    clear hg
    go_wp2
    go_ret
    refine ⟨by unfold Dv.saveE; rw [HNO2.out]; rfl, ?_, Kept.below HB3.out⟩
    have e : x.save b = x := by unfold Dv.save; rw [HNO2.out]; rfl
    rw [e]
    exact HH3.out
theorem save_any (h : Holds w0 w D x) (hv : VarsAt w0) (b : Blk) (hf : b.fits = true) (hu : x.uns.length < 4294967295) :
    Calls Tryd.prog 41 #[.pointer (some ⟨D, 0, none⟩), b.val] w (fun e w' => e = .returned (.int .i64 (x.saveE b)) ∧ Holds w0 w' D (x.save b) ∧ Kept w w') := by
  by_cases h1 : x.sure.length < 2
  · have e1 : x.saveNo b = 1 := if_pos h1
    have e2 : x.readyE = 1 := if_pos h1
    have e3 : x.saveE b = 1 := by unfold Dv.saveE; rw [e1]; rfl
    have e4 : x.save b = x := by unfold Dv.save; rw [e1]; rfl
    rw [e3, e4]
    refine (save_bad _ b 1 (by decide) w fun w' hb => ?_).mono fun e w' ⟨he, hb⟩ => ⟨he, h.next hb, Kept.below hb⟩
    have := sready_any (h.next hb)
    rwa [e2] at this
  · cases h2 : x.down with
    | true =>
      have e1 : x.saveNo b = 8 := by unfold Dv.saveNo; rw [if_neg h1, if_pos h2]
      have e2 : x.readyE = 8 := by unfold Dv.readyE; rw [if_neg h1, if_pos h2]
      have e3 : x.saveE b = 8 := by unfold Dv.saveE; rw [e1]; rfl
      have e4 : x.save b = x := by unfold Dv.save; rw [e1]; rfl
      rw [e3, e4]
      refine (save_bad _ b 8 (by decide) w fun w' hb => ?_).mono fun e w' ⟨he, hb⟩ => ⟨he, h.next hb, Kept.below hb⟩
      have := sready_any (h.next hb)
      rwa [e2] at this
    | false => exact save_fits h hv b hf h1 h2 hu
end

end Go.Proofs.YtgfoekbdmgljbaaDoor

namespace Go.Proofs.YtgfoekbdmgljbaaDoor
open Go.RowKit

/-- Which blocks the device at D holds. -/
def ownD (w : World) (D j : Nat) : Prop := j = D ∨ ∃ k v, w.cell? ⟨D, k, none⟩ = some v ∧ v.ownBlock = some j
/-- Nothing but the device's own has turned. -/
structure KeptE (D : Nat) (w w' : World) : Prop where
  kept : Kept w w'
  grew : Grew (ownD w D) w w'
  own_ : ∀ j, ownD w' D j → ownD w D j ∨ w.heap.size ≤ j
theorem KeptE.whole {D : Nat} {w w' : World} (h : KeptE D w w') {g : Nat} {t : TypeId} {L : List Value} (hw : Whole w g t L) (ht : ¬ devT t) : Whole w' g t L := h.kept.whole hw ht
theorem KeptE.own {D : Nat} {w w' : World} (h : KeptE D w w') {base : Nat} {e : TypeId} {size n : Nat} {v : Value} {xs : List Value} (hr : w.ownsRow base e size v n xs) (ht : ¬ devT e) : w'.ownsRow base e size v n xs := h.kept.own hr ht
theorem KeptE.trans {D : Nat} {w w' w'' : World} (h : KeptE D w w') (k : KeptE D w' w'') : KeptE D w w'' :=
  ⟨h.kept.trans k.kept, h.grew.trans k.grew h.own_, fun j hj => by
    rcases k.own_ j hj with h1 | h1
    · exact h.own_ j h1
    · exact .inr (Nat.le_trans h.grew.size h1)⟩
theorem ownD_dev {w : World} {base : Nat} {m : Lies} {x : Dv} (h : DevAt w base m x) (j : Nat) : ownD w m.d j ↔ m.own j := by
  constructor
  · rintro (rfl | ⟨k, v, hc, hv⟩)
    · exact .inl rfl
    · rw [h.blk.cell k] at hc
      match k, hc with
      | 0, hc => injection hc with hc; subst hc; exact .inr (.inl (Lies.own_vn hv))
      | 1, hc => injection hc with hc; subst hc; exact .inr (.inr (.inl (Lies.own_vs hv)))
      | 2, hc => injection hc with hc; subst hc; exact .inr (.inr (.inr hv))
      | 3, hc => injection hc with hc; subst hc; cases hv
      | 4, hc => injection hc with hc; subst hc; cases hv
      | _ + 5, hc => cases hc
  · rintro (rfl | rfl | rfl | hj)
    · exact .inl rfl
    · exact .inr ⟨0, _, h.blk.cell 0, rfl⟩
    · exact .inr ⟨1, _, h.blk.cell 1, rfl⟩
    · exact .inr ⟨2, _, h.blk.cell 2, hj⟩
theorem KeptE.of_went {w w' : World} {base : Nat} {m : Lies} {x y : Dv} (h : DevAt w base m x) (hw : Went base w m y w') : KeptE m.d w w' := by
  have hk := Kept.of_went h hw
  obtain ⟨m', e, h1, hg, h2⟩ := hw
  refine ⟨hk, hg.mono fun j hj => .inl ((ownD_dev h j).2 hj), fun j hj => ?_⟩
  rw [← e, ownD_dev h1] at hj
  rcases h2 j hj with h3 | h3
  · exact .inl ((ownD_dev h j).2 h3)
  · exact .inr h3
section
variable {w0 w w' : World} {D : Nat} {x y : Dv}
theorem Holds.lt (h : Holds w0 w D x) : D < w.heap.size := by
  obtain ⟨m, rfl, h1, _⟩ := h
  exact h1.blk.lt
theorem Holds.own_ (h : Holds w0 w D x) {j : Nat} (hj : ownD w D j) : w0.heap.size ≤ j ∧ j < w.heap.size := by
  obtain ⟨m, rfl, h1, _⟩ := h
  exact h1.own ((ownD_dev h1 j).1 hj)
theorem Holds.keep (h : Holds w0 w D x) (hb : Below w0.heap.size w0 w') (hk : ∀ j, ownD w D j → w'.heap[j]? = w.heap[j]?) : Holds w0 w' D x := by
  obtain ⟨m, rfl, h1, _⟩ := h
  exact ⟨m, rfl, h1.keep fun j hj => hk j ((ownD_dev h1 j).2 hj), hb⟩
theorem ownD_keep (hk : w'.heap[D]? = w.heap[D]?) (j : Nat) : ownD w' D j ↔ ownD w D j := by
  unfold ownD
  have e : ∀ k, w'.cell? ⟨D, k, none⟩ = w.cell? ⟨D, k, none⟩ := fun k => World.cell?_of_block (w := w) (a := ⟨D, k, none⟩) hk
  simp only [e]
theorem KeptE.below (h : Holds w0 w D x) (hb : Below w.heap.size w w') : KeptE D w w' :=
  ⟨Kept.below hb, Grew.all hb, fun j hj => .inl ((ownD_keep (hb.block D h.lt) j).1 hj)⟩
theorem e_write (h : Holds w0 w D x) (k : Int) (A : Option Addr) (c : Nat) (b : List UInt8) (hl : b.length ≤ 9223372036854775807) (hs : BytesAt w A b) (hu : x.uns.length < 4294967296) :
    Calls Tryd.prog 45 #[.pointer (some ⟨D, 0, none⟩), .int .i64 k, .slice A b.length c] w (fun e w' => e = .returned (.int .i64 (x.writeE k b)) ∧ Holds w0 w' D (x.write k b) ∧ KeptE D w w') := by
  obtain ⟨m, rfl, h1, h2⟩ := h
  exact (dev_write w _ m x h1 k A c b hl (hs.src h1) hu).mono fun e w' ⟨he, hw⟩ => ⟨he, Holds.went rfl h1 h2 hw, KeptE.of_went h1 hw⟩
theorem e_sync (h : Holds w0 w D x) (hu : x.uns.length < 4294967296) : Calls Tryd.prog 33 #[.pointer (some ⟨D, 0, none⟩)] w (fun e w' => e = .returned (.int .i64 x.syncE) ∧ Holds w0 w' D x.sync ∧ KeptE D w w') := by
  obtain ⟨m, rfl, h1, h2⟩ := h
  exact (dev_sync w _ m x h1 hu).mono fun e w' ⟨he, hw⟩ => ⟨he, Holds.went rfl h1 h2 hw, KeptE.of_went h1 hw⟩
theorem e_crash (h : Holds w0 w D x) (mk t : Nat) (hm : mk < 18446744073709551616) (ht : t < 18446744073709551616) (hu : x.uns.length < 4294967296) :
    Calls Tryd.prog 15 #[.pointer (some ⟨D, 0, none⟩), .int .u64 mk, .int .u64 t] w (fun e w' => e = .returned (.int .i64 0) ∧ Holds w0 w' D (x.crash mk t) ∧ KeptE D w w') := by
  obtain ⟨m, rfl, h1, h2⟩ := h
  exact (dev_crash w _ m x h1 mk t hm ht hu).mono fun e w' ⟨he, hw⟩ => ⟨he, Holds.went rfl h1 h2 hw, KeptE.of_went h1 hw⟩
theorem e_limit (h : Holds w0 w D x) (k : Nat) (hk : k ≤ 9223372036854775807) : Calls Tryd.prog 14 #[.pointer (some ⟨D, 0, none⟩), .int .i64 (k : Int)] w (fun e w' => e = .returned (.int .i64 0) ∧ Holds w0 w' D { x with limit := k } ∧ KeptE D w w') := by
  obtain ⟨m, rfl, h1, h2⟩ := h
  refine (dev_limit w _ m x h1 k (by omega)).mono fun e w' ⟨he, h3, h4, h5⟩ => ?_
  have e0 : x.limited (k : Int) = { x with limit := k } := by unfold Dv.limited; rw [if_neg (by omega)]; rfl
  rw [if_neg (by omega)] at he
  rw [e0] at h3
  have hw : Went w0.heap.size w m { x with limit := k } w' := ⟨m, rfl, h3, h4.mono fun _ hj => .inl (.inl hj), fun _ hj => .inl hj⟩
  exact ⟨he, Holds.went rfl h1 h2 hw, KeptE.of_went h1 hw⟩
end

theorem written_512 {w0 w : World} {D : Nat} {x : Dv} (h : Holds w0 w D x) (k : Int) (A : Option Addr) (c : Nat) (b : Blk) (hs : BytesAt w A b.sec) (hu : x.uns.length < 4294967296) :
    Calls Tryd.prog 45 #[.pointer (some ⟨D, 0, none⟩), .int .i64 k, .slice A 512 c] w (fun e w' => e = .returned (.int .i64 (x.writeE k b.sec)) ∧ Holds w0 w' D (x.write k b.sec) ∧ KeptE D w w') := by
  have := e_write h k A c b.sec (by rw [length_bsec]; decide) hs hu
  rwa [length_bsec] at this

section
variable {w0 w : World} {D : Nat} {x : Dv}
set_option maxHeartbeats 1000000 in
set_option maxRecDepth 4000 in
theorem saved_fits (h : Holds w0 w D x) (hv : VarsAt w0) (b : Blk) (hf : b.fits = true) (h1 : ¬ x.sure.length < 2) (h2 : x.down = false) (hu : x.uns.length < 4294967295) :
    Calls Tryd.prog 41 #[.pointer (some ⟨D, 0, none⟩), b.val] w (fun e w' => e = .returned (.int .i64 (x.saveE b)) ∧ Holds w0 w' D (x.save b) ∧ KeptE D w w') := by
  have hE : x.readyE = 0 := by unfold Dv.readyE; rw [if_neg h1, if_neg (by simp [h2])]
  have hr0 := sready_any (h.alloc (.cells b.cells.toArray 63))
  rw [hE] at hr0
  have HR := Lib.hid hr0
  have HF := Lib.hid hf
  have HH := Lib.hid h
  have HV := Lib.hid hv
  have hlp := last_pick h2 (by omega)
  have HNO := Lib.hid (show x.saveNo b = if b.gen ≠ nextG (loadS x.now) then 15 else 0 by unfold Dv.saveNo; rw [if_neg h1, if_neg (by simp [h2]), hf]; simp)
  have HU := Lib.hid hu
  obtain ⟨o, ho⟩ : ∃ o, loadS x.now = o := ⟨_, rfl⟩
  have hng : ((o.getD bnone).gen + 1 = nextG o) ∧ -1 ≤ (o.getD bnone).gen ∧ (o.getD bnone).gen < 72057594037927936 := by
    subst ho
    cases hl : loadS x.now with
    | none => exact ⟨rfl, by decide, by decide⟩
    | some c =>
      have := loadS_small hl
      exact ⟨rfl, by show -1 ≤ c.gen; omega, this.2⟩
  rw [ho] at hlp HNO
  obtain ⟨f, hf2⟩ : ∃ f, o.getD bnone = f := ⟨_, rfl⟩
  rw [hf2] at hng hlp
  have HLP := Lib.hid hlp
  have HNG := Lib.hid hng.1
  have hf0 := hng.2.1
  have hf1 := hng.2.2
  have r0 : IntKind.i64.wrap (f.gen + 1) = f.gen + 1 := IntWalk.i64_in _ (by omega)
  clear hr0 hE h1 h2 hf h hv hlp hu ho hf2 hng
  unfold Blk.val
  go_enter Tryd.func41, Tryd.ntmps41
  go_wp2_with fail
  refine HR.out.mono ?_
  rintro e w1 ⟨rfl, rfl⟩
  go_wp2
  obtain ⟨W1, hW1⟩ : ∃ W1, W1 = w.alloc (.cells b.cells.toArray 63) := ⟨_, rfl⟩
  have hW : Whole W1 w.heap.size 63 b.cells := by rw [hW1]; exact Whole.made _ _ _
  have HB1 := Lib.hid (show Below w.heap.size w W1 by rw [hW1]; exact (Below.refl _ _).alloc (Nat.le_refl _) _)
  have HH1 := Lib.hid (HH.out.next HB1.out)
  have HW1 := Lib.hid hW
  have HLT1 := Lib.hid hW.lt
  have c0 : W1.cell? ⟨w.heap.size, 0, none⟩ = some (.int .i64 b.gen) := hW.cell 0
  have c1 : W1.cell? ⟨w.heap.size, 1, none⟩ = some (.int .i64 b.epoch) := hW.cell 1
  have c2 : W1.cell? ⟨w.heap.size, 2, none⟩ = some (.int .i64 b.first) := hW.cell 2
  have c3 : W1.cell? ⟨w.heap.size, 3, none⟩ = some (.int .i64 b.begun) := hW.cell 3
  have c4 : W1.cell? ⟨w.heap.size, 4, none⟩ = some (.int .i64 b.count) := hW.cell 4
  change Code.wp _ _ _ _ (w.alloc (.cells b.cells.toArray 63))
  rw [← hW1]
  clear hW1 hW HR
  have HFI := Lib.hid (bfits_any b)
  rw [HF.out] at HFI
  unfold Blk.val at HFI
  have hla : (∀ W, Holds w0 W D x → VarsAt W → Calls Tryd.prog 50 #[.pointer (some ⟨D, 0, none⟩)] W (Gave W (.agg #[.int .i64 f.gen, .int .i64 f.epoch, .int .i64 f.first, .int .i64 f.begun, .int .i64 f.count]))) := fun W hw hv => by
    have := slast_any hw hv
    rwa [HLP.out] at this
  have HLA := Lib.hid hla
  clear hla
  have hfd := blk_gen f
  go_region_held3 (fun X => X.cell? ⟨w.heap.size, 0, none⟩ = some (.int .i64 b.gen) ∧ X.cell? ⟨w.heap.size, 1, none⟩ = some (.int .i64 b.epoch) ∧ X.cell? ⟨w.heap.size, 2, none⟩ = some (.int .i64 b.first) ∧ X.cell? ⟨w.heap.size, 3, none⟩ = some (.int .i64 b.begun) ∧ X.cell? ⟨w.heap.size, 4, none⟩ = some (.int .i64 b.count))
    (go_keep)
    ((first
      | (go_at_call 55
         refine (HFI.out _).mono ?_
         rintro e w2 ⟨rfl, hb2'⟩
         have hb2 := (Below.refl W1.heap.size W1).drew.trans hb2'
         have HB2 := Lib.hid (HB1.out.trans (hb2.mono HB1.out.size))
         have HH2 := Lib.hid (HH1.out.next hb2)
         have HW2 := Lib.hid (HW1.out.below hb2 HLT1.out)
         clear hb2'
         have c0 : w2.cell? ⟨w.heap.size, 0, none⟩ = some (.int .i64 b.gen) := HW2.out.cell 0
         have c1 : w2.cell? ⟨w.heap.size, 1, none⟩ = some (.int .i64 b.epoch) := HW2.out.cell 1
         have c2 : w2.cell? ⟨w.heap.size, 2, none⟩ = some (.int .i64 b.first) := HW2.out.cell 2
         have c3 : w2.cell? ⟨w.heap.size, 3, none⟩ = some (.int .i64 b.begun) := HW2.out.cell 3
         have c4 : w2.cell? ⟨w.heap.size, 4, none⟩ = some (.int .i64 b.count) := HW2.out.cell 4
         clear hb2)
      | (go_at_call 50
         refine (HLA.out _ HH2.out (HV.out.next HH2.out.below)).mono ?_
         rintro e w3 ⟨rfl, hb3⟩
         have HB3 := Lib.hid (HB2.out.trans (hb3.mono HB2.out.size))
         have HH3 := Lib.hid (HH2.out.next hb3)
         have HW3 := Lib.hid (HW2.out.below hb3 HW2.out.lt)
         have c0 : w3.cell? ⟨w.heap.size, 0, none⟩ = some (.int .i64 b.gen) := HW3.out.cell 0
         have c1 : w3.cell? ⟨w.heap.size, 1, none⟩ = some (.int .i64 b.epoch) := HW3.out.cell 1
         have c2 : w3.cell? ⟨w.heap.size, 2, none⟩ = some (.int .i64 b.first) := HW3.out.cell 2
         have c3 : w3.cell? ⟨w.heap.size, 3, none⟩ = some (.int .i64 b.begun) := HW3.out.cell 3
         have c4 : w3.cell? ⟨w.heap.size, 4, none⟩ = some (.int .i64 b.count) := HW3.out.cell 4
         clear hb3)))
  by_cases hg : b.gen = f.gen + 1
  · have d1 : (b.gen != f.gen + 1) = false := by simp [hg]
    have HNO2 := Lib.hid (show x.saveNo b = 0 by rw [HNO.out, ← HNG.out, hg]; simp)
    have HG := Lib.hid hg
    clear hg
    go_wp2
    have g0 : w3.cell? ⟨0, 0, none⟩ = some (.int .i64 1) := (HV.out.next HH3.out.below).head.cell (k := 0) rfl
    have g1 : w3.cell? ⟨0, 1, none⟩ = some (.int .i64 0) := (HV.out.next HH3.out.below).head.cell (k := 1) rfl
    have g2 : w3.cell? ⟨0, 2, none⟩ = some (.int .i64 0) := (HV.out.next HH3.out.below).head.cell (k := 2) rfl
    have g3 : w3.cell? ⟨0, 3, none⟩ = some (.int .i64 0) := (HV.out.next HH3.out.below).head.cell (k := 3) rfl
    have g4 : w3.cell? ⟨0, 4, none⟩ = some (.int .i64 1) := (HV.out.next HH3.out.below).head.cell (k := 4) rfl
    have HBY := Lib.hid (bytes_five b HF.out)
    have HSE := Lib.hid (seal_five b)
    unfold Blk.val at HBY
    go_region_held3 (fun X => X.cell? ⟨0, 0, none⟩ = some (.int .i64 1) ∧ X.cell? ⟨0, 1, none⟩ = some (.int .i64 0) ∧ X.cell? ⟨0, 2, none⟩ = some (.int .i64 0) ∧ X.cell? ⟨0, 3, none⟩ = some (.int .i64 0) ∧ X.cell? ⟨0, 4, none⟩ = some (.int .i64 1) ∧ X.cell? ⟨w.heap.size, 0, none⟩ = some (.int .i64 b.gen) ∧ X.cell? ⟨w.heap.size, 1, none⟩ = some (.int .i64 b.epoch) ∧ X.cell? ⟨w.heap.size, 2, none⟩ = some (.int .i64 b.first) ∧ X.cell? ⟨w.heap.size, 3, none⟩ = some (.int .i64 b.begun) ∧ X.cell? ⟨w.heap.size, 4, none⟩ = some (.int .i64 b.count))
      (go_keep)
      ((first
      | (go_at_call 56
         refine (HBY.out _).mono ?_
         rintro e w4 ⟨A4, k4, rfl, hk4, hown4', hb4'⟩
         have hb4 := (Below.refl w3.heap.size w3).drew.trans hb4'
         have HO4 := Lib.hid hown4'
         have HK4 := Lib.hid hk4
         have HB4 := Lib.hid (HB3.out.trans (hb4.mono HB3.out.size))
         have HH4 := Lib.hid (HH3.out.next hb4)
         have HW4 := Lib.hid (HW3.out.below hb4 HW3.out.lt)
         have c0 : w4.cell? ⟨w.heap.size, 0, none⟩ = some (.int .i64 b.gen) := HW4.out.cell 0
         have c1 : w4.cell? ⟨w.heap.size, 1, none⟩ = some (.int .i64 b.epoch) := HW4.out.cell 1
         have c2 : w4.cell? ⟨w.heap.size, 2, none⟩ = some (.int .i64 b.first) := HW4.out.cell 2
         have c3 : w4.cell? ⟨w.heap.size, 3, none⟩ = some (.int .i64 b.begun) := HW4.out.cell 3
         have c4 : w4.cell? ⟨w.heap.size, 4, none⟩ = some (.int .i64 b.count) := HW4.out.cell 4
         have g0 : w4.cell? ⟨0, 0, none⟩ = some (.int .i64 1) := (HV.out.next HH4.out.below).head.cell (k := 0) rfl
         have g1 : w4.cell? ⟨0, 1, none⟩ = some (.int .i64 0) := (HV.out.next HH4.out.below).head.cell (k := 1) rfl
         have g2 : w4.cell? ⟨0, 2, none⟩ = some (.int .i64 0) := (HV.out.next HH4.out.below).head.cell (k := 2) rfl
         have g3 : w4.cell? ⟨0, 3, none⟩ = some (.int .i64 0) := (HV.out.next HH4.out.below).head.cell (k := 3) rfl
         have g4 : w4.cell? ⟨0, 4, none⟩ = some (.int .i64 1) := (HV.out.next HH4.out.below).head.cell (k := 4) rfl
         clear hb4 hb4' hk4 hown4')
      | (go_at_call 44
         refine (HSE.out A4 k4 _ (Row.of_own HO4.out) HK4.out (HV.out.next HH4.out.below).sizes).mono ?_
         rintro e w5 ⟨A5, k5, rfl, hown5, hb5⟩
         have HO5 := Lib.hid hown5
         have HB5 := Lib.hid (HB4.out.trans (hb5.mono HB4.out.size))
         have HH5 := Lib.hid (HH4.out.next hb5)
         have HW5 := Lib.hid (HW4.out.below hb5 HW4.out.lt)
         have c0 : w5.cell? ⟨w.heap.size, 0, none⟩ = some (.int .i64 b.gen) := HW5.out.cell 0
         have c1 : w5.cell? ⟨w.heap.size, 1, none⟩ = some (.int .i64 b.epoch) := HW5.out.cell 1
         have c2 : w5.cell? ⟨w.heap.size, 2, none⟩ = some (.int .i64 b.first) := HW5.out.cell 2
         have c3 : w5.cell? ⟨w.heap.size, 3, none⟩ = some (.int .i64 b.begun) := HW5.out.cell 3
         have c4 : w5.cell? ⟨w.heap.size, 4, none⟩ = some (.int .i64 b.count) := HW5.out.cell 4
         have g0 : w5.cell? ⟨0, 0, none⟩ = some (.int .i64 1) := (HV.out.next HH5.out.below).head.cell (k := 0) rfl
         have g1 : w5.cell? ⟨0, 1, none⟩ = some (.int .i64 0) := (HV.out.next HH5.out.below).head.cell (k := 1) rfl
         have g2 : w5.cell? ⟨0, 2, none⟩ = some (.int .i64 0) := (HV.out.next HH5.out.below).head.cell (k := 2) rfl
         have g3 : w5.cell? ⟨0, 3, none⟩ = some (.int .i64 0) := (HV.out.next HH5.out.below).head.cell (k := 3) rfl
         have g4 : w5.cell? ⟨0, 4, none⟩ = some (.int .i64 1) := (HV.out.next HH5.out.below).head.cell (k := 4) rfl
         clear hb5 hown5)))
    clear g0 g1 g2 g3 g4 c0 c1 c2 c3 c4
    go_wp2_with fail
    refine (e_sync HH5.out (by have := HU.out; omega)).mono ?_
    rintro e w6 ⟨rfl, hh6, hk6⟩
    have HH6 := Lib.hid hh6
    have HK6 := Lib.hid ((KeptE.below HH.out HB5.out).trans hk6)
    have HW6 := Lib.hid (hk6.whole HW5.out blk_notD)
    have HO6 := Lib.hid (hk6.own HO5.out u8_not)
    clear hh6 hk6
    obtain ⟨e1, he1⟩ : ∃ e1, x.syncE = e1 := ⟨_, rfl⟩
    have HE1 := Lib.hid he1
    rw [he1]
    clear he1
    by_cases h1 : e1 = 0
    · subst h1
      have c0 : w6.cell? ⟨w.heap.size, 0, none⟩ = some (.int .i64 b.gen) := HW6.out.cell 0
      have r1 : b.gen.tmod 2 = b.gen % 2 := Int.tmod_eq_emod_of_nonneg (fits_gen HF.out)
      have HWW := Lib.hid (written_512 HH6.out (b.gen % 2) A5 k5 b (BytesAt.own HO6.out) (Nat.lt_of_le_of_lt (sync_uns x) (by have := HU.out; omega)))
      go_wp2_with fail
      refine HWW.out.mono ?_
      rintro e w7 ⟨rfl, hh7, hk7⟩
      change Holds w0 w7 D (x.put2 b) at hh7
      rw [show x.sync.writeE (b.gen % 2) b.sec = x.put2E b from rfl]
      have HH7 := Lib.hid hh7
      have HK7 := Lib.hid (HK6.out.trans hk7)
      clear hh7 hk7
      obtain ⟨e2, he2⟩ : ∃ e2, x.put2E b = e2 := ⟨_, rfl⟩
      have HE2 := Lib.hid he2
      rw [he2]
      clear he2
      by_cases h2 : e2 = 0
      · subst h2
        go_wp2_with fail
        refine (e_sync HH7.out (Nat.lt_of_le_of_lt (put2_uns x b) (by have := HU.out; omega))).mono ?_
        rintro e w8 ⟨rfl, hh8, hk8⟩
        have HH8 := Lib.hid hh8
        have HK8 := Lib.hid (HK7.out.trans hk8)
        clear hh8 hk8
        have HE3 := Lib.hid (show x.saveE b = (x.put2 b).syncE by unfold Dv.saveE; rw [HNO2.out, HE1.out, HE2.out]; rfl)
        have HE4 := Lib.hid (show x.save b = (x.put2 b).sync by unfold Dv.save; rw [HNO2.out, HE1.out, HE2.out]; rfl)
        generalize (x.put2 b).syncE = e3 at *
        go_wp2
        go_ret
        exact ⟨by rw [HE3.out]; rfl, by rw [HE4.out]; exact HH8.out, HK8.out⟩
      · have d2 : (e2 != 0) = true := by rw [bne_iff_ne]; exact h2
        have HE3 := Lib.hid (show x.saveE b = e2 by unfold Dv.saveE; rw [HNO2.out, HE1.out, HE2.out]; simp [h2])
        have HE4 := Lib.hid (show x.save b = x.put2 b by unfold Dv.save; rw [HNO2.out, HE1.out, HE2.out]; simp [h2])
        clear h2
        go_wp2
        go_ret
        exact ⟨by rw [HE3.out]; rfl, by rw [HE4.out]; exact HH7.out, HK7.out⟩
    · have d2 : (e1 != 0) = true := by rw [bne_iff_ne]; exact h1
      have HE3 := Lib.hid (show x.saveE b = e1 by unfold Dv.saveE; rw [HNO2.out, HE1.out]; simp [h1])
      have HE4 := Lib.hid (show x.save b = x.sync by unfold Dv.save; rw [HNO2.out, HE1.out]; simp [h1]; rfl)
      clear h1
      go_wp2
      go_ret
      exact ⟨by rw [HE3.out]; rfl, by rw [HE4.out]; exact HH6.out, HK6.out⟩
  · have d1 : (b.gen != f.gen + 1) = true := by rw [bne_iff_ne]; exact hg
    have HNO2 := Lib.hid (show x.saveNo b = 15 by rw [HNO.out, ← HNG.out]; simp [hg])
    clear hg
    go_wp2
    go_ret
    refine ⟨by unfold Dv.saveE; rw [HNO2.out]; rfl, ?_, KeptE.below HH.out HB3.out⟩
    have e : x.save b = x := by unfold Dv.save; rw [HNO2.out]; rfl
    rw [e]
    exact HH3.out
theorem saved_any (h : Holds w0 w D x) (hv : VarsAt w0) (b : Blk) (hf : b.fits = true) (hu : x.uns.length < 4294967295) :
    Calls Tryd.prog 41 #[.pointer (some ⟨D, 0, none⟩), b.val] w (fun e w' => e = .returned (.int .i64 (x.saveE b)) ∧ Holds w0 w' D (x.save b) ∧ KeptE D w w') := by
  by_cases h1 : x.sure.length < 2
  · have e1 : x.saveNo b = 1 := if_pos h1
    have e2 : x.readyE = 1 := if_pos h1
    have e3 : x.saveE b = 1 := by unfold Dv.saveE; rw [e1]; rfl
    have e4 : x.save b = x := by unfold Dv.save; rw [e1]; rfl
    rw [e3, e4]
    refine (save_bad _ b 1 (by decide) w fun w' hb => ?_).mono fun e w' ⟨he, hb⟩ => ⟨he, h.next hb, KeptE.below h hb⟩
    have := sready_any (h.next hb)
    rwa [e2] at this
  · cases h2 : x.down with
    | true =>
      have e1 : x.saveNo b = 8 := by unfold Dv.saveNo; rw [if_neg h1, if_pos h2]
      have e2 : x.readyE = 8 := by unfold Dv.readyE; rw [if_neg h1, if_pos h2]
      have e3 : x.saveE b = 8 := by unfold Dv.saveE; rw [e1]; rfl
      have e4 : x.save b = x := by unfold Dv.save; rw [e1]; rfl
      rw [e3, e4]
      refine (save_bad _ b 8 (by decide) w fun w' hb => ?_).mono fun e w' ⟨he, hb⟩ => ⟨he, h.next hb, KeptE.below h hb⟩
      have := sready_any (h.next hb)
      rwa [e2] at this
    | false => exact saved_fits h hv b hf h1 h2 hu
end

end Go.Proofs.YtgfoekbdmgljbaaDoor

namespace Go.Proofs.YtgfoekbdmgljbaaDoor
open Go.RowKit

/-- '87{a: x, b: y}', as an operation that may be taken first. -/
theorem yieldsIf_build2 {P : Program} {ops : Array Oper} {S : World → Prop} {op : Oper} {a : Act} (hw : Region.wanted op (yielded ops a.tmps) = true) (t : TypeId) (i j : Nat) (x y : Operand) (ho : op.op = .build t #[(i, x), (j, y)])
    (u v : Value) (hx : a.eval x = u) (hy : a.eval y = v) (cells : Array Value) (hf : P.built t [(i, u), (j, v)] = some cells) : YieldsIf P ops S op (.agg cells) a :=
  .inl ⟨hw, fun w _ => by
    have hm : (#[(i, x), (j, y)] : Array (Nat × Operand)).map (fun (i, x) => (i, a.eval x)) = #[(i, u), (j, v)] := by simp [hx, hy]
    unfold execOp
    simp only [ho, hm, Sem.run_bind, run_build w t _ cells hf, Result.andThen_ok]
    rfl⟩
/-- Unsure writes as cells: where, and a slice. -/
def wcells (us : List Wri) (vs : List Value) : List Value := (us.zip vs).flatMap fun p => [.int .i64 (p.1.place : Int), p.2]
theorem wcells_snoc {us : List Wri} {vs : List Value} (h : us.length = vs.length) (u : Wri) (v : Value) : wcells (us ++ [u]) (vs ++ [v]) = wcells us vs ++ [.int .i64 (u.place : Int), v] := by
  unfold wcells
  rw [List.zip_append h]
  simp
theorem wrt_row : (Tryd.prog.info? 87).map (fun i => (i.zero.map (·.cells.size), i.size, i.bytes)) = some (some 2, 2, 32) := by kernel_rfl
theorem wrt_row2 : (Tryd.prog.info? 87).map (fun i => (i.zero.map (·.cells.size), i.size)) = some (some 2, 2) := by kernel_rfl
theorem built_wrt (k : Int) (A : Option Addr) (n c : Nat) : Tryd.prog.built 87 [(0, .int .i64 k), (1, .slice A n c)] = some #[.int .i64 k, .slice A n c] := by kernel_rfl

theorem wrt_one (k : Int) (A : Option Addr) (n c : Nat) : ∀ u ∈ ([.int .i64 k, .slice A n c] : List Value), u.oneCell' = true := by
  intro u hu
  rcases List.mem_cons.1 hu with rfl | hu
  · rfl
  · obtain rfl := List.mem_singleton.1 hu; rfl

/-- A list of unsure writes of the call's own: each one's bytes lie in a block of their own. -/
structure UnsAt (w' : World) (base : Nat) (v : Value) (us : List Wri) (vs : List Value) : Prop where
  len : us.length = vs.length
  row : w'.ownsRow base 87 2 v us.length (wcells us vs)
  each : ∀ j (h : j < us.length) (h' : j < vs.length), w'.ownsRow base 5 1 vs[j] 512 ((us[j]).data.map bc)
def UnsRel (w : World) (us : List Wri) (out i : Value) (wr : World) : Prop :=
  ∃ k : Nat, k ≤ us.length ∧ i = .int .i64 k ∧ (∃ vs, UnsAt wr w.heap.size out (us.take k) vs) ∧ Below w.heap.size w wr
def UnsOut (w : World) (us : List Wri) (e : Ending) (w' : World) : Prop := ∃ v vs, e = .returned v ∧ UnsAt w' w.heap.size v us vs ∧ Below w.heap.size w w'
/-- One more. -/
theorem UnsAt.next {w w1 w2 w3 : World} {base k : Nat} {us : List Wri} {out v out' : Value} {vs : List Value} (hk : k < us.length) (h : UnsAt w base out (us.take k) vs) (hb1 : ∀ g, g < w.heap.size → w1.heap[g]? = w.heap[g]?)
    (hv : w1.ownsRow base 5 1 v 512 ((us[k]).data.map bc)) (hb2 : ∀ g, g < w1.heap.size → w2.heap[g]? = w1.heap[g]?) (hz1 : w.heap.size ≤ w1.heap.size) (_ : w1.heap.size ≤ w2.heap.size)
    (ho : w3.ownsRow base 87 2 out' (k + 1) (wcells (us.take k) vs ++ [.int .i64 ((us[k]).place : Int), v])) (hg : w2.grownBy w3 out.ownBlock) : UnsAt w3 base out' (us.take (k + 1)) (vs ++ [v]) := by
  have hl : (us.take k).length = k := by rw [List.length_take]; omega
  have hlv : vs.length = k := by rw [← h.len, hl]
  have hw2 : w2.ownsRow base 87 2 out (us.take k).length (wcells (us.take k) vs) := own_keep h.row fun g e => (hb2 g (Nat.lt_of_lt_of_le (h.row.lt g e).2 hz1)).trans (hb1 g (h.row.lt g e).2)
  have keep2 : ∀ {u : Value} {xs : List Value}, w2.ownsRow base 5 1 u 512 xs → w3.ownsRow base 5 1 u 512 xs := fun hu => own_keep hu fun g e => hg.block g (hu.lt g e).2 fun e2 => own_not_own hw2 hu (by decide) e e2.symm
  refine ⟨by rw [List.length_append, List.length_singleton, List.length_take, hlv]; omega, ?_, fun j h1 h2 => ?_⟩
  · rw [List.take_succ_eq_append_getElem hk, wcells_snoc h.len, List.length_append, hl]
    exact ho
  · rw [List.length_take] at h1
    by_cases hj : j < k
    · have h3 := h.each j (by rw [hl]; exact hj) (by rw [hlv]; exact hj)
      rw [List.getElem_append_left (by rw [hlv]; exact hj)]
      have e : (us.take (k + 1))[j]'(by rw [List.length_take]; exact h1) = (us.take k)[j]'(by rw [hl]; exact hj) := by rw [List.getElem_take, List.getElem_take]
      rw [e]
      exact keep2 (own_keep h3 fun g e => (hb2 g (Nat.lt_of_lt_of_le (h3.lt g e).2 hz1)).trans (hb1 g (h3.lt g e).2))
    · obtain rfl : j = k := by omega
      rw [List.getElem_append_right (by omega)]
      simp only [hlv, Nat.sub_self, List.getElem_singleton, List.getElem_take]
      exact keep2 (own_keep hv fun g e => hb2 g (hv.lt g e).2)
















































































































































































end Go.Proofs.YtgfoekbdmgljbaaDoor

namespace Go.Proofs.YtgfoekbdmgljbaaDoor
open Go.RowKit

/-- What may have changed: blocks of its own; what is its own then. -/
def Moved (F : Nat → Prop) (w w' : World) (F' : Nat → Prop) : Prop := Grew F w w' ∧ ∀ j, F' j → F j ∨ w.heap.size ≤ j
abbrev LogAt := World → Nat → Value → Nat → Lg → Bool → (Nat → Prop) → Prop

structure LogSpec where
  Vars : World → Prop
  At : World → Nat → Value → Nat → Lg → Bool → (Nat → Prop) → Prop
  Dead : World → Nat → Nat → Lg → Bool → (Nat → Prop) → Prop
  Broken : World → Nat → Nat → Lg → (Nat → Prop) → Prop
  vars_next : ∀ {w w'}, Vars w → Below w.heap.size w w' → Vars w'
  at_own : ∀ {w b lv D M fr F}, At w b lv D M fr F → b ≤ w.heap.size ∧ ∀ j, F j → b ≤ j ∧ j < w.heap.size
  at_ok : ∀ {w b lv D M fr F}, At w b lv D M fr F → M.ok
  at_keep : ∀ {w w' b lv D M fr F}, At w b lv D M fr F → Below b w w' → (∀ j, F j → w'.heap[j]? = w.heap[j]?) → At w' b lv D M fr F
  dead_own : ∀ {w b D M fr F}, Dead w b D M fr F → b ≤ w.heap.size ∧ ∀ j, F j → b ≤ j ∧ j < w.heap.size
  dead_keep : ∀ {w w' b D M fr F}, Dead w b D M fr F → Below b w w' → (∀ j, F j → w'.heap[j]? = w.heap[j]?) → Dead w' b D M fr F
  broken_own : ∀ {w b D M F}, Broken w b D M F → b ≤ w.heap.size ∧ ∀ j, F j → b ≤ j ∧ j < w.heap.size
  open_new : ∀ {w0 w D n}, Vars w0 → Holds w0 w D (newDv n) → 4 ≤ n → n ≤ 4096 → Calls Tryd.prog 7 #[.pointer (some ⟨D, 0, none⟩)] w
    (fun e w' => ∃ lv F, e = .returned (.tuple #[lv, .int .i64 0]) ∧ At w' w0.heap.size lv D ⟨0, [], 0, none, n - 2, 1, false, 0⟩ true F ∧ Below w0.heap.size w0 w')
  first : ∀ {w b lv D M fr F}, At w b lv D M fr F → Calls Tryd.prog 18 #[lv] w (Gave w (.int .i64 (M.first : Int)))
  next : ∀ {w b lv D M fr F}, At w b lv D M fr F → Calls Tryd.prog 19 #[lv] w (Gave w (.int .i64 (M.next : Int)))
  room : ∀ {w b lv D M fr F}, At w b lv D M fr F → Calls Tryd.prog 22 #[lv] w (Gave w (.int .i64 ((M.places - M.taken : Nat) : Int)))
  epoch : ∀ {w b lv D M fr F}, At w b lv D M fr F → Calls Tryd.prog 36 #[lv] w (Gave w (.int .i64 (M.epoch : Int)))
  append : ∀ {w b lv D M fr F}, At w b lv D M fr F → M.used < 1000000 → ∀ (A : Option Addr) (c n : Nat) (l : List UInt8), l.length = n → Row w w.heap.size A (l.map bc) → n ≤ c → n ≤ 16384 →
    Calls Tryd.prog 9 #[lv, .slice A n c] w
      (fun e w' => ∃ z g M' F', e = .returned (.tuple #[.int .i64 z, .int .i64 g]) ∧ AppendTo M fr l z g M' ∧ At w' b lv D M' fr F' ∧ Moved F w w' F')
  sync : ∀ {w b lv D M fr F}, At w b lv D M fr F → Calls Tryd.prog 12 #[lv] w
      (fun e w' => ∃ g M' F', e = .returned (.int .i64 g) ∧ SyncTo M fr g M' ∧ At w' b lv D M' fr F' ∧ Moved F w w' F')
  drop : ∀ {w b lv D M fr F}, At w b lv D M fr F → M.used < 1000000 → ∀ to : Int, -9223372036854775808 ≤ to → to ≤ 9223372036854775807 → Calls Tryd.prog 13 #[lv, .int .i64 to] w
      (fun e w' => ∃ g M' F', e = .returned (.int .i64 g) ∧ DropTo M fr to g M' ∧ At w' b lv D M' fr F' ∧ Moved F w w' F')
  read : ∀ {w b lv D M fr F}, At w b lv D M fr F → M.down = false → ∀ i : Int, -9223372036854775808 ≤ i → i ≤ 9223372036854775807 → Calls Tryd.prog 20 #[lv, .int .i64 i] w
      (fun e w' => ∃ A c F', e = .returned (.tuple #[.slice A (readGB M i).length c, .int .i64 (readGE M i)]) ∧ w'.ownsRow w.heap.size 5 1 (.slice A (readGB M i).length c) (readGB M i).length ((readGB M i).map bc) ∧
        At w' b lv D M fr F' ∧ Moved F w w' F')
  limit : ∀ {w b lv D M fr F}, At w b lv D M fr F → ∀ n : Nat, n ≤ 9223372036854775807 → Calls Tryd.prog 14 #[.pointer (some ⟨D, 0, none⟩), .int .i64 (n : Int)] w
      (fun e w' => ∃ F', e = .returned (.int .i64 0) ∧ At w' b lv D M (decide (n = 0)) F' ∧ Moved F w w' F')
  crash : ∀ {w b lv D M fr F}, At w b lv D M fr F → ∀ m t : Nat, m < 18446744073709551616 → t < 18446744073709551616 → Calls Tryd.prog 15 #[.pointer (some ⟨D, 0, none⟩), .int .u64 (m : Int), .int .u64 (t : Int)] w
      (fun e w' => ∃ F', e = .returned (.int .i64 0) ∧ Dead w' b D M true F' ∧ Moved F w w' F')
  crash_broken : ∀ {w b D M F}, Broken w b D M F → ∀ m t : Nat, m < 18446744073709551616 → t < 18446744073709551616 → Calls Tryd.prog 15 #[.pointer (some ⟨D, 0, none⟩), .int .u64 (m : Int), .int .u64 (t : Int)] w
      (fun e w' => ∃ F', e = .returned (.int .i64 0) ∧ Dead w' b D M true F' ∧ Moved F w w' F')
  limit_dead : ∀ {w b D M fr F}, Dead w b D M fr F → ∀ n : Nat, n ≤ 9223372036854775807 → Calls Tryd.prog 14 #[.pointer (some ⟨D, 0, none⟩), .int .i64 (n : Int)] w
      (fun e w' => ∃ F', e = .returned (.int .i64 0) ∧ Dead w' b D M (decide (n = 0)) F' ∧ Moved F w w' F')
  open_dead : ∀ {w b D M fr F}, Dead w b D M fr F → M.used < 1000000 → Calls Tryd.prog 7 #[.pointer (some ⟨D, 0, none⟩)] w
      (fun e w' => ∃ lv g F', e = .returned (.tuple #[lv, .int .i64 g]) ∧ Moved F w w' F' ∧
        ((g = 0 ∧ ∃ M', AgainTo M M' ∧ At w' b lv D M' fr F') ∨ (fr = false ∧ g = 8 ∧ Broken w' b D { M with used := M.used + 1 } F')))
  /- opened anew while it stands: all is sure, and there is no limit -/
  reopen : ∀ {w b lv D M F}, At w b lv D M true F → M.down = false → M.sure = M.recs.length → M.used < 1000000 → Calls Tryd.prog 7 #[.pointer (some ⟨D, 0, none⟩)] w
      (fun e w' => ∃ lv' M' F', e = .returned (.tuple #[lv', .int .i64 0]) ∧ Moved F w w' F' ∧ AgainTo M M' ∧ At w' b lv' D M' true F')

section
variable {L : LogSpec} {w w' : World} {b D : Nat} {lv : Value} {M : Lg} {fr : Bool} {F F' : Nat → Prop}
theorem LogSpec.at_below (h : L.At w b lv D M fr F) (hb : Below w.heap.size w w') : L.At w' b lv D M fr F := by
  obtain ⟨h1, h2⟩ := L.at_own h
  exact L.at_keep h (hb.mono h1) fun j hj => hb.block j (h2 j hj).2
theorem LogSpec.dead_below (h : L.Dead w b D M fr F) (hb : Below w.heap.size w w') : L.Dead w' b D M fr F := by
  obtain ⟨h1, h2⟩ := L.dead_own h
  exact L.dead_keep h (hb.mono h1) fun j hj => hb.block j (h2 j hj).2
theorem LogSpec.at_far (h : L.At w b lv D M fr F) {g : Nat} (hg : Grew (fun j => j = g) w w') (hb : b ≤ g) (hf : ¬ F g) : L.At w' b lv D M fr F := by
  obtain ⟨h1, h2⟩ := L.at_own h
  exact L.at_keep h (hg.below (B := b) (fun j hj => by omega) h1) fun j hj => hg.block j (h2 j hj).2 (fun e => hf (by rw [← e]; exact hj))
theorem Moved.below (h : Moved F w w' F') (hF : ∀ j, F j → b ≤ j) (hb : b ≤ w.heap.size) : Below b w w' := h.1.below hF hb
theorem Moved.whole (h : Moved F w w' F') {g : Nat} {t : TypeId} {X : List Value} (hw : Whole w g t X) (hf : ¬ F g) : Whole w' g t X := hw.grew h.1 hf
theorem Moved.own (h : Moved F w w' F') {base : Nat} {e : TypeId} {size n : Nat} {v : Value} {xs : List Value} (hr : w.ownsRow base e size v n xs) (hf : ∀ g, v.ownBlock = some g → ¬ F g) : w'.ownsRow base e size v n xs :=
  own_keep hr fun g hv => h.1.block g (hr.lt g hv).2 (hf g hv)
/-- A block that was there, and is no log's own, is not then either. -/
theorem Moved.not (h : Moved F w w' F') {g : Nat} (hf : ¬ F g) (hl : g < w.heap.size) : ¬ F' g := fun hg => by
  rcases h.2 g hg with h1 | h1
  · exact hf h1
  · omega
theorem LogSpec.at_not (h : L.At w b lv D M fr F) {g : Nat} (hg : w.heap.size ≤ g) : ¬ F g := fun hf => by
  have := (L.at_own h).2 g hf
  omega
end

end Go.Proofs.YtgfoekbdmgljbaaDoor

namespace Go.Proofs.YtgfoekbdmgljbaaDoor
open Go.RowKit

theorem log_size : (Tryd.prog.info? 69).map (·.size) = some 10 := by kernel_rfl
theorem rec_size : (Tryd.prog.info? 72).map (·.size) = some 2 := by kernel_rfl
theorem rec_row : (Tryd.prog.info? 72).map (fun i => (i.zero.map (·.cells.size), i.size, i.bytes)) = some (some 2, 2, 16) := by kernel_rfl

/-- What a log holds: where each record begins and how many places it takes; the writes that wait. -/
structure Lm where
  places : Nat
  block : Blk
  recs : List (Nat × Nat)
  us : List Wri
  down : Bool
/-- Where it lies. -/
structure Lo where
  l : Nat
  vr : Value
  vu : Value
  vs : List Value
def lCells (D : Nat) (o : Lo) (g : Lm) : List Value := [.pointer (some ⟨D, 0, none⟩), .int .i64 (g.places : Int), .int .i64 g.block.gen, .int .i64 g.block.epoch, .int .i64 g.block.first, .int .i64 g.block.begun, .int .i64 g.block.count, o.vr, o.vu, .bool g.down]
def recCells (rs : List (Nat × Nat)) : List Value := rs.flatMap fun p => [.int .i64 (p.1 : Int), .int .i64 (p.2 : Int)]
theorem recCells_two (rs : List (Nat × Nat)) : ∀ p ∈ rs, ([.int .i64 (p.1 : Int), .int .i64 (p.2 : Int)] : List Value).length = 2 := fun _ _ => rfl
theorem length_recCells (rs : List (Nat × Nat)) : (recCells rs).length = rs.length * 2 := flat_length (recCells_two rs)
theorem recCells_app (rs rs' : List (Nat × Nat)) : recCells (rs ++ rs') = recCells rs ++ recCells rs' := by simp [recCells]
theorem recCells_at {rs : List (Nat × Nat)} {k : Nat} (hk : k < rs.length) : (recCells rs)[k * 2]? = some (.int .i64 ((rs[k]).1 : Int)) ∧ (recCells rs)[k * 2 + 1]? = some (.int .i64 ((rs[k]).2 : Int)) :=
  ⟨flat_get (f := fun p : Nat × Nat => ([.int .i64 (p.1 : Int), .int .i64 (p.2 : Int)] : List Value)) (recCells_two rs) hk (j := 0) rfl, flat_get (f := fun p : Nat × Nat => ([.int .i64 (p.1 : Int), .int .i64 (p.2 : Int)] : List Value)) (recCells_two rs) hk (j := 1) rfl⟩
theorem recCells_one (rs : List (Nat × Nat)) : ∀ v ∈ recCells rs, v.oneCell' = true := by
  intro v hv
  obtain ⟨p, _, hp⟩ := List.mem_flatMap.1 hv
  rcases List.mem_cons.1 hp with rfl | hp
  · rfl
  · obtain rfl := List.mem_singleton.1 hp; rfl
/-- Which blocks are its own. -/
def lown (w : World) (D : Nat) (o : Lo) (j : Nat) : Prop := j = o.l ∨ o.vr.ownBlock = some j ∨ o.vu.ownBlock = some j ∨ (∃ v ∈ o.vs, v.ownBlock = some j) ∨ ownD w D j

structure LmAt (w0 w : World) (D : Nat) (x : Dv) (o : Lo) (g : Lm) (F : Nat → Prop) : Prop where
  blk : Whole w o.l 69 (lCells D o g)
  recs : w.ownsRow w0.heap.size 72 2 o.vr g.recs.length (recCells g.recs)
  uns : UnsAt w w0.heap.size o.vu g.us o.vs
  dev : Holds w0 w D x
  low : w0.heap.size ≤ o.l
  vars : VarsAt w0
  own : ∀ j, lown w D o j → F j
  foot : ∀ j, F j → w0.heap.size ≤ j ∧ j < w.heap.size
/-- All that was new is thought of as its own. -/
def ext (F : Nat → Prop) (w w' : World) (j : Nat) : Prop := F j ∨ (w.heap.size ≤ j ∧ j < w'.heap.size)
theorem wri_not : ¬ devT 87 := by unfold devT; decide
theorem rec_not : ¬ devT 72 := by unfold devT; decide
theorem log_not : ¬ devT 69 := by unfold devT; decide
theorem Moved.trans {F F1 F2 : Nat → Prop} {w w1 w2 : World} (h : Moved F w w1 F1) (k : Moved F1 w1 w2 F2) : Moved F w w2 F2 :=
  ⟨h.1.trans k.1 h.2, fun j hj => by
    rcases k.2 j hj with h1 | h1
    · exact h.2 j h1
    · exact .inr (Nat.le_trans h.1.size h1)⟩
theorem Moved.refl (F : Nat → Prop) (w : World) : Moved F w w F := ⟨Grew.refl _ _, fun _ h => .inl h⟩
theorem Moved.of_below {F : Nat → Prop} {w w' : World} (hb : Below w.heap.size w w') : Moved F w w' F := ⟨Grew.all hb, fun _ h => .inl h⟩
theorem Moved.ext {F F' : Nat → Prop} {w w' : World} (h : Moved F w w' F') : Moved F w w' (ext F w w') := ⟨h.1, fun _ hj => hj.imp id fun h => h.1⟩
theorem UnsAt.keepE {w w' : World} {base D : Nat} {v : Value} {us : List Wri} {vs : List Value} (h : UnsAt w base v us vs) (hk : KeptE D w w') : UnsAt w' base v us vs :=
  ⟨h.len, hk.own h.row wri_not, fun j h1 h2 => hk.own (h.each j h1 h2) u8_not⟩
theorem UnsAt.same {w w' : World} {base : Nat} {v : Value} {us : List Wri} {vs : List Value} (h : UnsAt w base v us vs) (hk : ∀ g, (v.ownBlock = some g ∨ ∃ u ∈ vs, u.ownBlock = some g) → w'.heap[g]? = w.heap[g]?) : UnsAt w' base v us vs :=
  ⟨h.len, own_keep h.row fun g e => hk g (.inl e), fun j h1 h2 => own_keep (h.each j h1 h2) fun g e => hk g (.inr ⟨_, List.getElem_mem h2, e⟩)⟩
theorem UnsAt.nil (w : World) (base : Nat) : UnsAt w base (.slice none 0 0) [] [] := ⟨rfl, World.ownsRow_nil _ _ _ _, fun _ h => absurd h (Nat.not_lt_zero _)⟩

section
variable {w0 w w' : World} {D : Nat} {x x' : Dv} {o o' : Lo} {g g' : Lm} {F : Nat → Prop}
theorem LmAt.lt (h : LmAt w0 w D x o g F) : o.l < w.heap.size := h.blk.lt
theorem LmAt.below0 (h : LmAt w0 w D x o g F) : Below w0.heap.size w0 w := h.dev.below
theorem LmAt.keep (h : LmAt w0 w D x o g F) (hb : Below w0.heap.size w w') (hk : ∀ j, F j → w'.heap[j]? = w.heap[j]?) : LmAt w0 w' D x o g F := by
  have hD : w'.heap[D]? = w.heap[D]? := hk D (h.own D (.inr (.inr (.inr (.inr (.inl rfl))))))
  exact ⟨h.blk.keep (hk _ (h.own _ (.inl rfl))), own_keep h.recs fun j e => hk j (h.own j (.inr (.inl e))),
    h.uns.same fun j e => hk j (h.own j (by
      rcases e with e | e
      · exact .inr (.inr (.inl e))
      · exact .inr (.inr (.inr (.inl e))))),
    h.dev.keep (h.below0.trans hb) fun j hj => hk j (h.own j (.inr (.inr (.inr (.inr hj))))), h.low, h.vars,
    fun j hj => h.own j (by
      rcases hj with e | e | e | e | e
      · exact .inl e
      · exact .inr (.inl e)
      · exact .inr (.inr (.inl e))
      · exact .inr (.inr (.inr (.inl e)))
      · exact .inr (.inr (.inr (.inr ((ownD_keep hD j).1 e))))), fun j hj => by have := h.foot j hj; have := hb.size; omega⟩
theorem LmAt.below (h : LmAt w0 w D x o g F) (hb : Below w.heap.size w w') : LmAt w0 w' D x o g F := h.keep (hb.mono h.below0.size) fun j hj => hb.block j (h.foot j hj).2
theorem LmAt.alloc (h : LmAt w0 w D x o g F) (ob : Obj) : LmAt w0 (w.alloc ob) D x o g F := h.below ((Below.refl _ _).alloc (Nat.le_refl _) ob)
theorem LmAt.varsAt (h : LmAt w0 w D x o g F) : VarsAt w := h.vars.next h.below0
/-- The device has turned. -/
theorem LmAt.stepE (h : LmAt w0 w D x o g F) (hk : KeptE D w w') (hd : Holds w0 w' D x') : LmAt w0 w' D x' o g (ext F w w') ∧ Moved F w w' (ext F w w') := by
  have hs := hk.grew.size
  refine ⟨⟨hk.whole h.blk log_not, hk.own h.recs rec_not, h.uns.keepE hk, hd, h.low, h.vars, fun j hj => ?_, fun j hj => ?_⟩, hk.grew.mono fun j hj => .inl (h.own j (.inr (.inr (.inr (.inr hj))))), fun j hj => hj.imp id fun h => h.1⟩
  · rcases hj with e | e | e | e | e
    · exact .inl (h.own j (.inl e))
    · exact .inl (h.own j (.inr (.inl e)))
    · exact .inl (h.own j (.inr (.inr (.inl e))))
    · exact .inl (h.own j (.inr (.inr (.inr (.inl e)))))
    · rcases hk.own_ j e with h1 | h1
      · exact .inl (h.own j (.inr (.inr (.inr (.inr h1)))))
      · exact .inr ⟨h1, (hd.own_ e).2⟩
  · rcases hj with h1 | h1
    · have := h.foot j h1; omega
    · have := h.below0.size; omega
/-- Its own block is another one. -/
theorem LmAt.set_ (h : LmAt w0 w D x o g F) (hl : o'.l = o.l) (hw : Whole w' o.l 69 (lCells D o' g')) (hg : Grew (fun j => j = o.l) w w') (hr : w.ownsRow w0.heap.size 72 2 o'.vr g'.recs.length (recCells g'.recs))
    (hu : UnsAt w w0.heap.size o'.vu g'.us o'.vs) (hown : ∀ j, (o'.vr.ownBlock = some j ∨ o'.vu.ownBlock = some j ∨ ∃ v ∈ o'.vs, v.ownBlock = some j) → F j) : LmAt w0 w' D x o' g' F ∧ Moved F w w' F := by
  have hF : F o.l := h.own _ (.inl rfl)
  have hbase := h.low
  have hs := hg.size
  have hbel : Below w0.heap.size w w' := hg.below (fun j hj => by omega) h.below0.size
  have hdne : ∀ j, ownD w D j → j ≠ o.l := fun j hj e => by
    subst e
    obtain ⟨m, rfl, hd, _⟩ := h.dev
    rcases (ownD_dev hd _).1 hj with e | e | e | e
    · exact (Whole.ne hd.blk h.blk (by decide)) e.symm
    · exact own_not_whole hd.now h.blk (by decide) (by rw [e]; rfl)
    · exact own_not_whole hd.sure h.blk (by decide) (by rw [e]; rfl)
    · exact own_not_whole hd.uns h.blk (by decide) e
  have hkd : ∀ j, ownD w D j → w'.heap[j]? = w.heap[j]? := fun j hj => hg.block j (h.dev.own_ hj).2 (hdne j hj)
  refine ⟨⟨by rw [hl]; exact hw, own_keep hr fun j e => hg.block j (hr.lt j e).2 fun e2 => own_not_whole hr h.blk (by decide) (by rw [e, e2]), hu.same fun j e => ?_, h.dev.keep (h.below0.trans hbel) hkd, by rw [hl]; exact h.low, h.vars, fun j hj => ?_, fun j hj => by have := h.foot j hj; omega⟩, hg.mono fun j hj => .inl (by subst hj; exact hF), fun j hj => .inl hj⟩
  · rcases e with e | ⟨u, hu1, e⟩
    · exact hg.block j (hu.row.lt j e).2 fun e2 => own_not_whole hu.row h.blk (by decide) (by rw [e, e2])
    · obtain ⟨k, hk, rfl⟩ := List.getElem_of_mem hu1
      have := hu.each k (by rw [hu.len]; exact hk) hk
      exact hg.block j (this.lt j e).2 fun e2 => own_not_whole this h.blk (by decide) (by rw [e, e2])
  · rcases hj with e | e | e | e | e
    · rw [hl] at e; subst e; exact hF
    · exact hown j (.inl e)
    · exact hown j (.inr (.inl e))
    · exact hown j (.inr (.inr e))
    · exact h.own j (.inr (.inr (.inr (.inr ((ownD_keep (hkd D (.inl rfl)) j).1 e)))))
theorem LmAt.c0 (h : LmAt w0 w D x o g F) : w.cell? ⟨o.l, 0, none⟩ = some (.pointer (some ⟨D, 0, none⟩)) := h.blk.cell 0
theorem LmAt.c1 (h : LmAt w0 w D x o g F) : w.cell? ⟨o.l, 1, none⟩ = some (.int .i64 (g.places : Int)) := h.blk.cell 1
theorem LmAt.c3 (h : LmAt w0 w D x o g F) : w.cell? ⟨o.l, 3, none⟩ = some (.int .i64 g.block.epoch) := h.blk.cell 3
theorem LmAt.c4 (h : LmAt w0 w D x o g F) : w.cell? ⟨o.l, 4, none⟩ = some (.int .i64 g.block.first) := h.blk.cell 4
theorem LmAt.c5 (h : LmAt w0 w D x o g F) : w.cell? ⟨o.l, 5, none⟩ = some (.int .i64 g.block.begun) := h.blk.cell 5
theorem LmAt.c6 (h : LmAt w0 w D x o g F) : w.cell? ⟨o.l, 6, none⟩ = some (.int .i64 g.block.count) := h.blk.cell 6
theorem LmAt.c7 (h : LmAt w0 w D x o g F) : w.cell? ⟨o.l, 7, none⟩ = some o.vr := h.blk.cell 7
theorem LmAt.c8 (h : LmAt w0 w D x o g F) : w.cell? ⟨o.l, 8, none⟩ = some o.vu := h.blk.cell 8
theorem LmAt.c9 (h : LmAt w0 w D x o g F) : w.cell? ⟨o.l, 9, none⟩ = some (.bool g.down) := h.blk.cell 9
theorem LmAt.vr (h : LmAt w0 w D x o g F) : ∃ A c, o.vr = .slice A g.recs.length c ∧ g.recs.length ≤ c ∧ c ≤ maxLen := own_form h.recs
theorem LmAt.vu (h : LmAt w0 w D x o g F) : ∃ A c, o.vu = .slice A g.us.length c ∧ g.us.length ≤ c ∧ c ≤ maxLen := own_form h.uns.row
end

/-- A log's pointer. -/
def lptr (o : Lo) : Value := .pointer (some ⟨o.l, 0, none⟩)

end Go.Proofs.YtgfoekbdmgljbaaDoor
