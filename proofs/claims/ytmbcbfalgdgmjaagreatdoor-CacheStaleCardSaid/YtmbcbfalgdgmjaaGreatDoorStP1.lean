/-
  CacheStale, tied: whatever the seconds, the name and the kind, at each second a fact is told by Get, or by Old, or by neither, and never by both. The library's table uint64pow10 holds what the program's text lays (the card ties it). No other condition.
-/
import Derived.Test.YtmbcbfalgdgmjaaGreatDoorRows
import Derived.Test.YtmbcbfalgdgmjaaGreatDoorKbP1
import Derived.ProofKit
import Derived.SizedLaws
import Derived.Carry
import Derived.SliceStrings
import Derived.Test.YtmbcbfalgdgmjaaGreatDoorKbP3
import Derived.Test.YtmbcbfalgdgmjaaGreatDoorCards
import Derived.Test.YtmbcbfalgdgmjaaGreatDoorTie
import Derived.LaidLaws
import Derived.Lay
import Derived.Handed
import Derived.Lib.LaidTab
import Derived.ChangeArms
import Derived.Stop.LaidErr
import Derived.Test.YtmbcbfalgdgmjaaGreatDoorKbP9
import Derived.Test.YtmbcbfalgdgmjaaGreatDoorKbP4
import Derived.Test.YtmbcbfalgdgmjaaGreatDoorKbP6
import Derived.Test.YtmbcbfalgdgmjaaGreatDoorKbP7
import Derived.Test.YtmbcbfalgdgmjaaGreatDoorKbP11
import Derived.Deep.CutRange
namespace Go.Proofs.YtmbcbfalgdgmjaaGreatDoor
open Go.ChangeShapes Go.WideShapes Go.ChangeAt Go.RowKit

theorem Tryz.own : ownKnob Tryz.prog.godebug = none := by kernel_rfl
theorem Tryz.laidOut : laidOutB Tryz.prog = true := by kernel_rfl

theorem bc_of_int (n : Int) (h : (Lit.int .u8 n).wf = true) : Value.int .u8 n = bc (UInt8.ofNat n.toNat) := by
  have h1 : IntKind.u8.min = 0 := rfl
  have h2 : IntKind.u8.max = 255 := rfl
  simp only [Lit.wf, Bool.and_eq_true, decide_eq_true_eq] at h
  unfold bc
  rw [UInt8.toNat_ofNat', Nat.mod_eq_of_lt (by omega)]
  congr 1
  omega

set_option maxRecDepth 20000 in
/-- An argument of bytes: whatever it is, it reads as a list. -/
theorem open_row_u8c {H : Type} {enc : TypeId × Value → H} {W : World} {base : Nat} {t : TypeId} {v : Value} {d : DataW H} {p : List MemPlace} (hc : Tryz.prog.cellsOf 5 = 1) (ht : Tryz.prog.underlying t = some (.slice 5))
    (hval : Value.okWide Tryz.prog W .any base t v) (h : DataW.Trod enc Tryz.prog W 0 (fun _ => true) true t v d p) (hlt : ∀ x ∈ p, x.block < W.heap.size) :
    ∃ (A : Option Addr) (m c : Nat) (l : List UInt8), v = .slice A m c ∧ l.length = m ∧ Row W W.heap.size A (l.map bc) ∧ m ≤ c ∧ m ≤ maxLen ∧ c ≤ maxLen ∧ (m = 0 ∨ ∃ el sp, d = .slice el sp ∧ el.length = m) := by
  obtain ⟨a0, len, cap, rfl⟩ := okWide_slice ht hval
  obtain ⟨fuel, hf⟩ := h
  rcases open_ints ht Tryz.underlying5 hc hf with ⟨hcs, hx⟩ | ⟨a, len', cap', zs, hcs, _, hl, hm, hz, hx, hcell, hwz⟩
  · simp [Value.cells] at hcs
    obtain ⟨rfl, rfl, rfl⟩ := hcs
    exact ⟨none, 0, 0, [], rfl, rfl, Row.empty _ _ _, Nat.le_refl _, Nat.zero_le _, Nat.zero_le _, .inl rfl⟩
  · simp [Value.cells] at hcs
    obtain ⟨rfl, rfl, rfl⟩ := hcs
    simp only [Prod.mk.injEq] at hx
    obtain ⟨rfl, rfl⟩ := hx
    simp only [if_true] at hz
    refine ⟨some a, len, cap, (zs.take len).map fun n => UInt8.ofNat n.toNat, rfl, by simp; omega, fun hne => ?_, hl, Nat.le_trans hl hm, hm, .inr ⟨_, _, rfl, by simp [lits]; omega⟩⟩
    have hpos : 0 < zs.length := by
      rcases zs with _ | ⟨z, zs⟩
      · simp at hne
      · simp
    obtain ⟨b, off, spot⟩ := a
    have hspot : spot = none := by simpa [Addr.add] using World.cell?_spot (hcell 0 hpos)
    subst hspot
    refine ⟨b, off, rfl, hlt (.cell b off) (MemPlace.mem_row.2 ⟨0, hpos, by simp⟩), fun j u hu => ?_⟩
    have hj : j < zs.length := by
      have := (List.getElem?_eq_some_iff.1 hu).1
      simp at this
      omega
    have hjl : j < len := by
      have := (List.getElem?_eq_some_iff.1 hu).1
      simp at this
      omega
    have h1 := hcell j hj
    rw [addr_add] at h1
    rw [h1]
    have e : zs.getD j 0 = zs[j] := by simp [List.getD, List.getElem?_eq_getElem hj]
    rw [List.getElem?_map, List.getElem?_map, List.getElem?_take, if_pos hjl, List.getElem?_eq_getElem hj] at hu
    simp only [Option.map_some] at hu
    rw [← hu, e, bc_of_int _ (hwz _ (List.getElem_mem hj))]

set_option maxRecDepth 20000 in
theorem open_row_u8 {H : Type} {enc : TypeId × Value → H} {W : World} {base : Nat} {t : TypeId} {v : Value} {d : DataW H} {p : List MemPlace} (hc : Tryz.prog.cellsOf 5 = 1) (ht : Tryz.prog.underlying t = some (.slice 5))
    (hval : Value.okWide Tryz.prog W .any base t v) (h : DataW.Trod enc Tryz.prog W 0 (fun _ => true) true t v d p) (hlt : ∀ x ∈ p, x.block < W.heap.size) :
    ∃ (A : Option Addr) (m c : Nat) (l : List UInt8), v = .slice A m c ∧ l.length = m ∧ Row W W.heap.size A (l.map bc) ∧ m ≤ c ∧ m ≤ maxLen ∧ (m = 0 ∨ ∃ el sp, d = .slice el sp ∧ el.length = m) := by
  obtain ⟨A, m, c, l, h1, h2, h3, h4, h5, _, h6⟩ := open_row_u8c hc ht hval h hlt
  exact ⟨A, m, c, l, h1, h2, h3, h4, h5, h6⟩

theorem row_reach {H : Type} {P : Program} {ts : List TypeId} {ds : List (DataW H)} {d : DataW H} {m : Nat} (h : (DataW.weightsEach P ts ds).all (· ≤ reachBytes) = true) {j : Nat} {t e : TypeId} (ht : ts[j]? = some t) (hd : ds[j]? = some d) (hu : P.underlying t = some (.slice e))
    (hb : P.bytesOf e = 1) (hm : m = 0 ∨ ∃ el sp, d = .slice el sp ∧ el.length = m) : m ≤ 140737488351232 := by
  rcases hm with rfl | ⟨el, sp, rfl, hl⟩
  · omega
  · have := sized_slice h ht hd hu
    rw [hb] at this
    simp only [reachBytes] at this
    omega
theorem u8_cells : Tryz.prog.cellsOf 5 = 1 := by kernel_rfl
theorem u8_bytes : Tryz.prog.bytesOf 5 = 1 := by kernel_rfl

theorem below_trodAll {H : Type} {enc : TypeId × Value → H} {P : Program} (hl : laidOutB P = true) {W W' : World} (hb : Below W.heap.size W W') :
    ∀ {ts : List TypeId} {vs : List Value} {ds : List (DataW H)} {ps : List MemPlace}, ts.all (fun t => P.readableRec t && decide (t < P.types.size)) = true →
      DataW.TrodAll enc P W 0 (fun _ => true) true ts vs ds ps → (∀ x ∈ ps, x.block < W.heap.size) → DataW.TrodAll enc P W' 0 (fun b => decide (b < W.heap.size)) true ts vs ds ps
  | [], [], [], _, _, h, _ => h
  | [], [], _ :: _, _, _, h, _ => h.elim
  | [], _ :: _, _, _, _, h, _ => h.elim
  | _ :: _, [], _, _, _, h, _ => h.elim
  | _ :: _, _ :: _, [], _, _, h, _ => h.elim
  | t :: ts, v :: vs, d :: ds, ps, ht, h, hlt => by
    obtain ⟨p, q, h1, h2, rfl⟩ := h
    simp only [List.all_cons, Bool.and_eq_true, decide_eq_true_eq] at ht
    exact ⟨p, q, Below.trod hl ht.1.1 ht.1.2 h1 hb (fun x hx => hlt x (List.mem_append_left _ hx)), below_trodAll hl hb ht.2 h2 (fun x hx => hlt x (List.mem_append_right _ hx)), rfl⟩

/-- The end of a law: it has answered true, and nothing that was there has turned. -/
theorem law_post {H : Type} {enc : TypeId × Value → H} {P : Program} {f : Func} {s : ChangeSpec} {W W' : World} {args : Array Value} {ds gs : List (DataW H)} {before : List MemPlace} {tb : TypeId}
    (hl : laidOutB P = true) (hts : f.params.toList.all (fun t => P.readableRec t && decide (t < P.types.size)) = true) (hrt : f.resultTypes.toList = [tb]) (hsz : f.resultTypes.size = 1) (hbool : P.underlying tb = some .bool) (hsv : s.vars = [])
    (hW : DataW.Whole enc P f.params.toList s.vars false W args.toList ds gs before)
    (hres : (s.fn H (ds ++ gs)).results = [.lit (.bool true)]) (hargs : (s.fn H (ds ++ gs)).args = ds) (hvars : (s.fn H (ds ++ gs)).vars = [])
    (hb : Below W.heap.size W W') : s.post enc P f false true false false W args (.bool true) W' := by
  have hW' := hW
  obtain ⟨p, q, hA, hV, rfl, _, _⟩ := hW
  rw [hsv] at hV
  obtain ⟨rfl, rfl⟩ := trodVars_none hV
  have hlt : ∀ x ∈ p, x.block < W.heap.size := fun x hx => hW'.lt x (List.mem_append_left _ hx)
  refine ⟨ds, [], p ++ [], [], p, [], hW', ?_, ?_, ?_, hb.frame _, fun h => by cases h⟩
  · rw [hrt, hsz, hres]
    exact trodAll_mk1 (shut_bool hbool true)
  · rw [hargs]
    exact below_trodAll hl hb hts hA hlt
  · rw [hsv, hvars]
    rfl

theorem i64_le {n : Int} (h : (Lit.int .i64 n).wf = true) : -9223372036854775808 ≤ n ∧ n ≤ 9223372036854775807 := by
  have h1 : IntKind.i64.min = -9223372036854775808 := rfl
  have h2 : IntKind.i64.max = 9223372036854775807 := rfl
  simp only [Lit.wf, Bool.and_eq_true, decide_eq_true_eq] at h
  omega

end Go.Proofs.YtmbcbfalgdgmjaaGreatDoor

namespace Go.Proofs.YtmbcbfalgdgmjaaGreatDoor
open Go.ChangeShapes Go.WideShapes Go.ChangeAt Go.RowKit

theorem string_sv (s : ByteArray) : Value.string s = sv s.data.toList := by
  unfold sv
  rw [Array.toArray_toList]

theorem str_cells : Tryz.prog.cellsOf 9 = 1 := by kernel_rfl
theorem str_bytes : Tryz.prog.bytesOf 9 = 16 := by kernel_rfl

set_option maxRecDepth 20000 in
/-- An argument of strings: whatever it is, it reads as a name. -/
theorem open_row_str {H : Type} {enc : TypeId × Value → H} {W : World} {base : Nat} {t : TypeId} {v : Value} {d : DataW H} {p : List MemPlace} (hc : Tryz.prog.cellsOf 9 = 1) (ht : Tryz.prog.underlying t = some (.slice 9))
    (hval : Value.okWide Tryz.prog W .any base t v) (h : DataW.Trod enc Tryz.prog W 0 (fun _ => true) true t v d p) (hlt : ∀ x ∈ p, x.block < W.heap.size)
    {ts : List TypeId} {ds : List (DataW H)} (hsz : (DataW.weightsEach Tryz.prog ts ds).all (· ≤ reachBytes) = true) {j : Nat} (htj : ts[j]? = some t) (hdj : ds[j]? = some d) :
    ∃ (A : Option Addr) (c : Nat) (n : List (List UInt8)), v = .slice A n.length c ∧ NameIn W A n ∧ n.length ≤ c := by
  obtain ⟨a0, len, cap, rfl⟩ := okWide_slice ht hval
  obtain ⟨fuel, hf⟩ := h
  rcases open_strings ht Tryz.underlying9 hc hf with ⟨hcs, hx⟩ | ⟨a, len', cap', ss, hcs, _, hl, hm, hz, hx, hcell, hwz⟩
  · simp [Value.cells] at hcs
    obtain ⟨rfl, rfl, rfl⟩ := hcs
    exact ⟨none, 0, [], rfl, ⟨Row.empty _ _ _, Nat.zero_le _, fun k h => absurd h (Nat.not_lt_zero _)⟩, Nat.le_refl _⟩
  · simp [Value.cells] at hcs
    obtain ⟨rfl, rfl, rfl⟩ := hcs
    simp only [Prod.mk.injEq] at hx
    obtain ⟨rfl, rfl⟩ := hx
    simp only [if_true] at hz
    have hlen : ((ss.take len).map fun s => s.data.toList).length = len := by simp; omega
    have hw := sized_slice hsz htj hdj ht
    rw [str_bytes] at hw
    simp only [reachBytes] at hw
    refine ⟨some a, cap, (ss.take len).map fun s => s.data.toList, by rw [hlen], ⟨fun hne => ?_, ?_, ?_⟩, by rw [hlen]; exact hl⟩
    · have hpos : 0 < ss.length := by
        rcases ss with _ | ⟨z, zs⟩
        · simp at hne
        · simp
      obtain ⟨b, off, spot⟩ := a
      have hspot : spot = none := by simpa [Addr.add] using World.cell?_spot (hcell 0 hpos)
      subst hspot
      refine ⟨b, off, rfl, hlt (.cell b off) (MemPlace.mem_row.2 ⟨0, hpos, by simp⟩), fun j u hu => ?_⟩
      have hjl : j < len := by
        have := (List.getElem?_eq_some_iff.1 hu).1
        simp at this
        omega
      have hj : j < ss.length := by omega
      have h1 := hcell j hj
      rw [addr_add] at h1
      rw [h1]
      have e : ss.getD j ByteArray.empty = ss[j] := by simp [List.getD, List.getElem?_eq_getElem hj]
      rw [List.getElem?_map, List.getElem?_map, List.getElem?_take, if_pos hjl, List.getElem?_eq_getElem hj] at hu
      simp only [Option.map_some] at hu
      rw [← hu, e, string_sv]
    · rw [hlen]
      simp [strs] at hw
      omega
    · intro k hk
      have hk' : k < ss.length := by rw [hlen] at hk; omega
      have h2 := hwz ss[k] (List.getElem_mem hk')
      simpa using h2

end Go.Proofs.YtmbcbfalgdgmjaaGreatDoor

namespace Go.Proofs.YtmbcbfalgdgmjaaGreatDoor
open Go.ChangeShapes Go.WideShapes Go.ChangeAt Go.RowKit

/-- What the rows list. -/
def laidK : List (String × DataW Unit) := [("math/bits.deBruijn32tab", Rows.laid_math_bits_deBruijn32tab), ("math/bits.deBruijn64tab", Rows.laid_math_bits_deBruijn64tab), ("internal/strconv.uint64pow10", Rows.laid_internal_strconv_uint64pow10)]
theorem u64_oneK : Tryz.prog.cellsOf 133 = 1 := by kernel_rfl
theorem u64_20K : Tryz.prog.cellsOf 162 = 20 := by kernel_rfl
theorem pows_global : Tryz.prog.globalNamed "internal/strconv.uint64pow10" = some 0 := by kernel_rfl
theorem pows_type : (Tryz.prog.globals[(0 : Nat)]?).map (·.type) = some 162 := by kernel_rfl
theorem pows_of_laid {W : World} (h : laidMetH Tryz.prog laidK W) : PowsAt W.heap.size W := by
  have h1 : laidMet Tryz.prog laidK W := by
    have e := MakeChecks.laidMetH_plain Tryz.prog laidK W (by kernel_rfl)
    rwa [e] at h
  exact Lib.tabBelow_of_tabIs (Lib.tabIs_of_head pows_global pows_type Tryz.underlying162 Tryz.underlying133 u64_oneK u64_20K (rest := []) h1.tail.tail)
theorem u16_natK {n : Int} (h : (Lit.int .u16 n).wf = true) : ∃ m : Nat, n = m ∧ m < 65536 := by
  have h1 : IntKind.u16.min = 0 := rfl
  have h2 : IntKind.u16.max = 65535 := rfl
  simp only [Lit.wf, Bool.and_eq_true, decide_eq_true_eq] at h
  exact ⟨n.toNat, by omega, by omega⟩
theorem u8_natK {n : Int} (h : (Lit.int .u8 n).wf = true) : ∃ m : Nat, n = m ∧ m < 256 := by
  have h1 : IntKind.u8.min = 0 := rfl
  have h2 : IntKind.u8.max = 255 := rfl
  simp only [Lit.wf, Bool.and_eq_true, decide_eq_true_eq] at h
  exact ⟨n.toNat, by omega, by omega⟩

end Go.Proofs.YtmbcbfalgdgmjaaGreatDoor

namespace Go.Proofs.YtmbcbfalgdgmjaaGreatDoor
open Go.RowKit

/-- The fact of 'answers', as it lies. -/
def ansC (g : Nat) : FV := ⟨none, 0, [], ⟨1, 1, 1, 0, 5⟩, some ⟨g + 1, 0, none⟩, 1, [(⟨some ⟨g, 0, none⟩, none, none, none, none, 4, 0, 0, 0, 0⟩, ⟨[1, 2, 3, 4], [], [], [], []⟩)], none, 0, [], ⟨none, none, none, none, none, 0, 0, 0, 0, 0⟩, ⟨[], [], [], [], []⟩⟩
theorem ansC_sound (g : Nat) : soundF (ansC g).fact = true := by
  show soundF ⟨[], ⟨1, 1, 1, 0, 5⟩, [⟨[1, 2, 3, 4], [], [], [], []⟩], [], ⟨[], [], [], [], []⟩⟩ = true
  decide +kernel
theorem ansC_at (w : World) : FAt ((w.alloc (.cells #[.int .u8 1, .int .u8 2, .int .u8 3, .int .u8 4] 5)).alloc (.cells #[.slice (some ⟨w.heap.size, 0, none⟩) 4 4, .slice none 0 0, .slice none 0 0, .slice none 0 0, .slice none 0 0] 34))
    ((w.alloc (.cells #[.int .u8 1, .int .u8 2, .int .u8 3, .int .u8 4] 5)).alloc (.cells #[.slice (some ⟨w.heap.size, 0, none⟩) 4 4, .slice none 0 0, .slice none 0 0, .slice none 0 0, .slice none 0 0] 34)).heap.size (ansC w.heap.size) := by
  have h1 : Row (w.alloc (.cells #[.int .u8 1, .int .u8 2, .int .u8 3, .int .u8 4] 5)) (w.heap.size + 1) (some ⟨w.heap.size, 0, none⟩) (([1, 2, 3, 4] : List UInt8).map bc) := Row.made w _ _
  have h2 := Row.made (w.alloc (.cells #[.int .u8 1, .int .u8 2, .int .u8 3, .int .u8 4] 5)) #[.slice (some ⟨w.heap.size, 0, none⟩) 4 4, .slice none 0 0, .slice none 0 0, .slice none 0 0, .slice none 0 0] 34
  have hz : (w.alloc (.cells #[.int .u8 1, .int .u8 2, .int .u8 3, .int .u8 4] 5)).heap.size = w.heap.size + 1 := by simp
  rw [hz] at h2
  have hz2 : ((w.alloc (.cells #[.int .u8 1, .int .u8 2, .int .u8 3, .int .u8 4] 5)).alloc (.cells #[.slice (some ⟨w.heap.size, 0, none⟩) 4 4, .slice none 0 0, .slice none 0 0, .slice none 0 0, .slice none 0 0] 34)).heap.size = w.heap.size + 2 := by simp
  rw [hz2]
  have hb := (h1.alloc (by rw [hz]; exact Nat.le_refl _) (.cells #[.slice (some ⟨w.heap.size, 0, none⟩) 4 4, .slice none 0 0, .slice none 0 0, .slice none 0 0, .slice none 0 0] 34)).mono (Nat.le_succ _)
  refine ⟨Row.empty _ _ _, ⟨h2, fun p hp => ?_⟩, Row.empty _ _ _, ⟨Row.empty _ _ _, Row.empty _ _ _, Row.empty _ _ _, Row.empty _ _ _, Row.empty _ _ _, Nat.le_refl _, Nat.le_refl _, Nat.le_refl _, Nat.le_refl _, Nat.le_refl _, Nat.zero_le _, Nat.zero_le _⟩, Nat.le_refl _, Nat.le_refl _, Nat.le_refl _, by unfold ansC maxLen; dsimp only; omega⟩
  rw [List.mem_singleton.1 hp]
  exact ⟨hb, Row.empty _ _ _, Row.empty _ _ _, Row.empty _ _ _, Row.empty _ _ _, Nat.le_refl _, Nat.le_refl _, Nat.le_refl _, Nat.le_refl _, Nat.le_refl _, by unfold maxLen; dsimp only; omega, Nat.zero_le _⟩

theorem ansC_few (g : Nat) : FewF (ansC g) := by
  have hd : FewD (ansC g).soa := ⟨Nat.zero_le _, Nat.zero_le _, Nat.zero_le _, Nat.zero_le _, Nat.zero_le _⟩
  refine ⟨Nat.zero_le _, Nat.zero_le _, by unfold ansC; dsimp only [List.length]; omega, hd, fun p hp => ?_⟩
  rw [List.mem_singleton.1 hp]
  constructor <;> (dsimp only [List.length]; omega)

theorem ansC_put (g : Nat) : Ca.putB ⟨(2 : Int).toNat, 0, []⟩ (ansC g).fact 1 = true := by
  show Ca.putB ⟨2, 0, []⟩ ⟨[], ⟨1, 1, 1, 0, 5⟩, [⟨[1, 2, 3, 4], [], [], [], []⟩], [], ⟨[], [], [], [], []⟩⟩ 1 = true
  decide +kernel
theorem ansC_len (g : Nat) : ((Ca.put ⟨(2 : Int).toNat, 0, []⟩ (ansC g).fact 1).list.length : Int) = 1 := by
  show ((Ca.put ⟨2, 0, []⟩ ⟨[], ⟨1, 1, 1, 0, 5⟩, [⟨[1, 2, 3, 4], [], [], [], []⟩], [], ⟨[], [], [], [], []⟩⟩ 1).list.length : Int) = 1
  decide +kernel

set_option maxHeartbeats 400000 in
theorem caanswers_any (L : CacheCore) (w : World) (hv : L.Vars w) : Calls Tryz.prog 8 #[] w (TrueB w) := by
  have HN := Lib.hid (L.new_ok w 2 0 hv (by decide) (by decide) (by decide +kernel))
  go_enter Tryz.func8, Tryz.ntmps8
  go_wp2_with fail
  refine HN.out.mono ?_
  rintro e w1 ⟨cv, F, rfl, hat, hb1⟩
  have HB := Lib.hid (show Below w1.heap.size w1 ((w1.alloc (.cells #[.int .u8 1, .int .u8 2, .int .u8 3, .int .u8 4] 5)).alloc (.cells #[.slice (some ⟨w1.heap.size, 0, none⟩) 4 4, .slice none 0 0, .slice none 0 0, .slice none 0 0, .slice none 0 0] 34)) from ((Below.refl _ _).alloc (Nat.le_refl _) _).alloc (by simp) _)
  have HP := Lib.hid (L.put (L.at_below hat HB.out) (by decide) (ansC w1.heap.size) 1 (ansC_at w1) (soundF_in (ansC_sound _)) (ansC_few _) (by decide +kernel))
  have HO := Lib.hid (L.at_own (L.at_below hat HB.out))
  have HB1 := Lib.hid (hb1.trans (HB.out.mono hb1.size))
  clear hat hb1 HB
  go_wp2_with fail
  refine HP.out.mono ?_
  rintro e w2 ⟨F2, rfl, hat2, hm2⟩
  have HB2 := Lib.hid (HB1.out.trans (hm2.below (fun j hj => (HO.out.2 j hj).1) HO.out.1))
  rw [ansC_put]
  have HL := Lib.hid (show Calls _ _ _ _ (Gave w2 (.int .i64 1)) from ansC_len w1.heap.size ▸ L.len hat2)
  go_wp2_with fail
  refine HL.out.mono ?_
  rintro e w3 ⟨rfl, hb3⟩
  go_wp2
  go_ret
  exact ⟨rfl, HB2.out.trans (hb3.mono HB2.out.size)⟩

end Go.Proofs.YtmbcbfalgdgmjaaGreatDoor

namespace Go.Proofs.YtmbcbfalgdgmjaaGreatDoor
open Go.RowKit

/-- A fact with one address, as it lies: its bytes, its data. -/
def fact4 (g : Nat) (A : Option Addr) (c : Nat) (n : List (List UInt8)) (h : Fh) : FV := ⟨A, c, n, h, some ⟨g + 1, 0, none⟩, 1, [(⟨some ⟨g, 0, none⟩, none, none, none, none, 4, 0, 0, 0, 0⟩, ⟨[1, 2, 3, 4], [], [], [], []⟩)], none, 0, [], ⟨none, none, none, none, none, 0, 0, 0, 0, 0⟩, ⟨[], [], [], [], []⟩⟩
theorem fact4_at {w : World} {B : Nat} (hB : B ≤ w.heap.size) {A : Option Addr} {c : Nat} {n : List (List UInt8)} (hn : w.ownsRow B 9 1 (.slice A n.length c) n.length (n.map sv)) (h : Fh) :
    FOwn (((w.alloc (.cells #[.int .u8 1, .int .u8 2, .int .u8 3, .int .u8 4] 5)).alloc (.cells #[.slice (some ⟨w.heap.size, 0, none⟩) 4 4, .slice none 0 0, .slice none 0 0, .slice none 0 0, .slice none 0 0] 34)).alloc (.cells #[.slice A n.length c, .int .i64 h.typ, .int .i64 h.knd, .int .i64 h.rank, .int .i64 h.got, .int .i64 h.ttl, .slice (some ⟨w.heap.size + 1, 0, none⟩) 1 1, .slice none 0 0, .slice none 0 0, .slice none 0 0, .slice none 0 0, .slice none 0 0, .slice none 0 0] 36)) B (fact4 w.heap.size A c n h) ∧ Whole (((w.alloc (.cells #[.int .u8 1, .int .u8 2, .int .u8 3, .int .u8 4] 5)).alloc (.cells #[.slice (some ⟨w.heap.size, 0, none⟩) 4 4, .slice none 0 0, .slice none 0 0, .slice none 0 0, .slice none 0 0] 34)).alloc (.cells #[.slice A n.length c, .int .i64 h.typ, .int .i64 h.knd, .int .i64 h.rank, .int .i64 h.got, .int .i64 h.ttl, .slice (some ⟨w.heap.size + 1, 0, none⟩) 1 1, .slice none 0 0, .slice none 0 0, .slice none 0 0, .slice none 0 0, .slice none 0 0, .slice none 0 0] 36)) (w.heap.size + 2) 36 (cellsF (fact4 w.heap.size A c n h)) ∧ Below w.heap.size w (((w.alloc (.cells #[.int .u8 1, .int .u8 2, .int .u8 3, .int .u8 4] 5)).alloc (.cells #[.slice (some ⟨w.heap.size, 0, none⟩) 4 4, .slice none 0 0, .slice none 0 0, .slice none 0 0, .slice none 0 0] 34)).alloc (.cells #[.slice A n.length c, .int .i64 h.typ, .int .i64 h.knd, .int .i64 h.rank, .int .i64 h.got, .int .i64 h.ttl, .slice (some ⟨w.heap.size + 1, 0, none⟩) 1 1, .slice none 0 0, .slice none 0 0, .slice none 0 0, .slice none 0 0, .slice none 0 0, .slice none 0 0] 36)) := by
  have z1 : (w.alloc (.cells #[.int .u8 1, .int .u8 2, .int .u8 3, .int .u8 4] 5)).heap.size = w.heap.size + 1 := by simp
  have z2 : ((w.alloc (.cells #[.int .u8 1, .int .u8 2, .int .u8 3, .int .u8 4] 5)).alloc (.cells #[.slice (some ⟨w.heap.size, 0, none⟩) 4 4, .slice none 0 0, .slice none 0 0, .slice none 0 0, .slice none 0 0] 34)).heap.size = w.heap.size + 2 := by simp
  have hb1 := (Below.refl w.heap.size w).alloc (Nat.le_refl _) (.cells #[.int .u8 1, .int .u8 2, .int .u8 3, .int .u8 4] 5)
  have hb2 := hb1.alloc (by rw [z1]; omega) (.cells #[.slice (some ⟨w.heap.size, 0, none⟩) 4 4, .slice none 0 0, .slice none 0 0, .slice none 0 0, .slice none 0 0] 34)
  have hb3 := hb2.alloc (by rw [z2]; omega) (.cells #[.slice A n.length c, .int .i64 h.typ, .int .i64 h.knd, .int .i64 h.rank, .int .i64 h.got, .int .i64 h.ttl, .slice (some ⟨w.heap.size + 1, 0, none⟩) 1 1, .slice none 0 0, .slice none 0 0, .slice none 0 0, .slice none 0 0, .slice none 0 0, .slice none 0 0] 36)
  have hu : Whole (((w.alloc (.cells #[.int .u8 1, .int .u8 2, .int .u8 3, .int .u8 4] 5)).alloc (.cells #[.slice (some ⟨w.heap.size, 0, none⟩) 4 4, .slice none 0 0, .slice none 0 0, .slice none 0 0, .slice none 0 0] 34)).alloc (.cells #[.slice A n.length c, .int .i64 h.typ, .int .i64 h.knd, .int .i64 h.rank, .int .i64 h.got, .int .i64 h.ttl, .slice (some ⟨w.heap.size + 1, 0, none⟩) 1 1, .slice none 0 0, .slice none 0 0, .slice none 0 0, .slice none 0 0, .slice none 0 0, .slice none 0 0] 36)) w.heap.size 5 [.int .u8 1, .int .u8 2, .int .u8 3, .int .u8 4] := ((Whole.made w [.int .u8 1, .int .u8 2, .int .u8 3, .int .u8 4] _).alloc _).alloc _
  have hd : Whole (((w.alloc (.cells #[.int .u8 1, .int .u8 2, .int .u8 3, .int .u8 4] 5)).alloc (.cells #[.slice (some ⟨w.heap.size, 0, none⟩) 4 4, .slice none 0 0, .slice none 0 0, .slice none 0 0, .slice none 0 0] 34)).alloc (.cells #[.slice A n.length c, .int .i64 h.typ, .int .i64 h.knd, .int .i64 h.rank, .int .i64 h.got, .int .i64 h.ttl, .slice (some ⟨w.heap.size + 1, 0, none⟩) 1 1, .slice none 0 0, .slice none 0 0, .slice none 0 0, .slice none 0 0, .slice none 0 0, .slice none 0 0] 36)) (w.heap.size + 1) 34 [.slice (some ⟨w.heap.size, 0, none⟩) 4 4, .slice none 0 0, .slice none 0 0, .slice none 0 0, .slice none 0 0] := by
    have h1 := (Whole.made (w.alloc (.cells #[.int .u8 1, .int .u8 2, .int .u8 3, .int .u8 4] 5)) [.slice (some ⟨w.heap.size, 0, none⟩) 4 4, .slice none 0 0, .slice none 0 0, .slice none 0 0, .slice none 0 0] 34).alloc (.cells #[.slice A n.length c, .int .i64 h.typ, .int .i64 h.knd, .int .i64 h.rank, .int .i64 h.got, .int .i64 h.ttl, .slice (some ⟨w.heap.size + 1, 0, none⟩) 1 1, .slice none 0 0, .slice none 0 0, .slice none 0 0, .slice none 0 0, .slice none 0 0, .slice none 0 0] 36)
    rw [z1] at h1
    exact h1
  have hf : Whole (((w.alloc (.cells #[.int .u8 1, .int .u8 2, .int .u8 3, .int .u8 4] 5)).alloc (.cells #[.slice (some ⟨w.heap.size, 0, none⟩) 4 4, .slice none 0 0, .slice none 0 0, .slice none 0 0, .slice none 0 0] 34)).alloc (.cells #[.slice A n.length c, .int .i64 h.typ, .int .i64 h.knd, .int .i64 h.rank, .int .i64 h.got, .int .i64 h.ttl, .slice (some ⟨w.heap.size + 1, 0, none⟩) 1 1, .slice none 0 0, .slice none 0 0, .slice none 0 0, .slice none 0 0, .slice none 0 0, .slice none 0 0] 36)) (w.heap.size + 2) 36 (cellsF (fact4 w.heap.size A c n h)) := by
    have h1 := Whole.made ((w.alloc (.cells #[.int .u8 1, .int .u8 2, .int .u8 3, .int .u8 4] 5)).alloc (.cells #[.slice (some ⟨w.heap.size, 0, none⟩) 4 4, .slice none 0 0, .slice none 0 0, .slice none 0 0, .slice none 0 0] 34)) (cellsF (fact4 w.heap.size A c n h)) 36
    rw [z2] at h1
    exact h1
  have h64 : (4 : Nat) ≤ maxLen := by unfold maxLen; omega
  have h61 : (1 : Nat) ≤ maxLen := by unfold maxLen; omega
  refine ⟨⟨own_keep hn fun g e => hb3.block g (hn.lt g e).2, World.ownsRow_nil _ _ _ _, ⟨World.ownsRow_nil _ _ _ _, World.ownsRow_nil _ _ _ _, World.ownsRow_nil _ _ _ _, World.ownsRow_nil _ _ _ _, World.ownsRow_nil _ _ _ _⟩, ?_, fun p hp => ?_⟩, hf, hb3⟩
  · exact ⟨rfl, .inr ⟨w.heap.size + 1, 1, #[.slice (some ⟨w.heap.size, 0, none⟩) 4 4, .slice none 0 0, .slice none 0 0, .slice none 0 0, .slice none 0 0], rfl, by omega, hd, Nat.le_refl _, h61, rfl, rfl⟩⟩
  · rw [List.mem_singleton.1 hp]
    exact ⟨⟨rfl, .inr ⟨w.heap.size, 4, #[.int .u8 1, .int .u8 2, .int .u8 3, .int .u8 4], rfl, hB, hu, Nat.le_refl _, h64, rfl, rfl⟩⟩, World.ownsRow_nil _ _ _ _, World.ownsRow_nil _ _ _ _, World.ownsRow_nil _ _ _ _, World.ownsRow_nil _ _ _ _⟩
theorem fact4_sound {g : Nat} {A : Option Addr} {c : Nat} {n : List (List UInt8)} {h : Fh} (hn : soundN n = true) (ht : h.typ = 1) (hk : h.knd = 1) (hr : 1 ≤ h.rank ∧ h.rank ≤ 4) (hg : timeB h.got = true) (hl : 0 ≤ h.ttl ∧ h.ttl ≤ 604800) : soundF (fact4 g A c n h).fact = true := by
  have hh : headB n h = true := by
    unfold headB
    rw [hn, decide_eq_true hr.1, decide_eq_true hr.2, hg, decide_eq_true hl.1, decide_eq_true hl.2]
    rfl
  rw [soundF_has (f := (fact4 g A c n h).fact) hh hk]
  unfold hasB
  show (typedB h.typ && (decide (1 ≤ ([⟨[1, 2, 3, 4], [], [], [], []⟩] : List Dt).length) && (decide (([⟨[1, 2, 3, 4], [], [], [], []⟩] : List Dt).length ≤ 64) && (decide (([] : List (List UInt8)).length = 0) && (emptyD ⟨[], [], [], [], []⟩ && setOk h.typ [⟨[1, 2, 3, 4], [], [], [], []⟩]))))) = true
  rw [ht]
  decide +kernel
theorem fact4_few {g : Nat} {A : Option Addr} {c : Nat} {n : List (List UInt8)} {h : Fh} (hn : n.length ≤ 300) : FewF (fact4 g A c n h) := by
  refine ⟨hn, Nat.zero_le _, by show 1 ≤ 300; omega, ⟨Nat.zero_le _, Nat.zero_le _, Nat.zero_le _, Nat.zero_le _, Nat.zero_le _⟩, fun p hp => ?_⟩
  rw [List.mem_singleton.1 hp]
  exact ⟨Nat.zero_le _, Nat.zero_le _, Nat.zero_le _, Nat.zero_le _, by show 4 ≤ 200000; omega⟩
/-- A fact of no name: its numbers. -/
def fact5 (g : Nat) (A : Option Addr) (c : Nat) (n : List (List UInt8)) (h : Fh) : FV := ⟨A, c, n, h, none, 0, [], none, 0, [], ⟨none, none, none, some ⟨g, 0, none⟩, none, 0, 0, 0, 5, 0⟩, ⟨[], [], [], [1, 2, 3, 4, 5], []⟩⟩
theorem fact5_own {w : World} {B g : Nat} {A : Option Addr} {c : Nat} {n : List (List UInt8)} (hn : w.ownsRow B 9 1 (.slice A n.length c) n.length (n.map sv)) (h : Fh) (hg : Whole w g 3 [.int .i64 1, .int .i64 2, .int .i64 3, .int .i64 4, .int .i64 5]) (hB : B ≤ g) : FOwn w B (fact5 g A c n h) :=
  ⟨hn, World.ownsRow_nil _ _ _ _, ⟨World.ownsRow_nil _ _ _ _, World.ownsRow_nil _ _ _ _, World.ownsRow_nil _ _ _ _, ⟨rfl, .inr ⟨g, 5, #[.int .i64 1, .int .i64 2, .int .i64 3, .int .i64 4, .int .i64 5], rfl, hB, hg, Nat.le_refl _, by unfold maxLen; omega, rfl, rfl⟩⟩, World.ownsRow_nil _ _ _ _⟩, World.ownsRow_nil _ _ _ _, fun _ hp => absurd hp (List.not_mem_nil)⟩
theorem underN_root (n : List (List UInt8)) : underN n [] = true := by
  unfold underN
  simp [eqN]
theorem fact5_sound {g : Nat} {A : Option Addr} {c : Nat} {n : List (List UInt8)} {h : Fh} (hn : soundN n = true) (ht : h.typ = 0) (hk : h.knd = 3) (hr : 1 ≤ h.rank ∧ h.rank ≤ 4) (hg : timeB h.got = true) (hl : 0 ≤ h.ttl ∧ h.ttl ≤ 10800) : soundF (fact5 g A c n h).fact = true := by
  have hh : headB n h = true := by
    unfold headB
    rw [hn, decide_eq_true hr.1, decide_eq_true hr.2, hg, decide_eq_true hl.1, decide_eq_true (show h.ttl ≤ 604800 by omega)]
    rfl
  rw [soundF_no (f := (fact5 g A c n h).fact) hh (.inr hk)]
  unfold noB
  show ((decide (h.knd = 2) == typedB h.typ) && ((decide (h.knd = 2) || decide (h.typ = 0)) && (decide (([] : List Dt).length = 0) && (decide (h.ttl ≤ 10800) && (soundN [] && (underN n [] && soundD 6 ⟨[], [], [], [1, 2, 3, 4, 5], []⟩)))))) = true
  rw [ht, hk, underN_root, decide_eq_true hl.2]
  decide +kernel
theorem fact5_few {g : Nat} {A : Option Addr} {c : Nat} {n : List (List UInt8)} {h : Fh} (hn : n.length ≤ 300) : FewF (fact5 g A c n h) :=
  ⟨hn, Nat.zero_le _, Nat.zero_le _, ⟨Nat.zero_le _, Nat.zero_le _, Nat.zero_le _, by show 5 ≤ 200; omega, Nat.zero_le _⟩, fun _ hp => absurd hp (List.not_mem_nil)⟩
theorem FSafe.of_base {w : World} {B : Nat} {F : Nat → Prop} {x : FV} (h : FOwn w B x) (hF : ∀ j, F j → j < B) : FSafe w B F x :=
  ⟨h, fun v hv g e hf => by have h1 := (h.vlt v hv g e).1; have h2 := hF g hf; omega⟩

end Go.Proofs.YtmbcbfalgdgmjaaGreatDoor

namespace Go.Proofs.YtmbcbfalgdgmjaaGreatDoor
open Go.RowKit

def AllRelS (w : World) (ps qs : List (DV × Dt)) (i : Value) (wr : World) : Prop :=
  ∃ k : Nat, k ≤ ps.length ∧ i = .int .i64 k ∧ (dats (ps.take k)).all (fun e => hasD (dats qs) e) = true ∧ Below w.heap.size w wr
theorem all_snocD {ps : List (DV × Dt)} {k : Nat} (P : Dt → Bool) (hk : k < ps.length) (h : (dats (ps.take k)).all P = true) :
    (P (ps[k]).2 = false → (dats ps).all P = false) ∧ (P (ps[k]).2 = true → (dats (ps.take (k + 1))).all P = true) := by
  constructor
  · intro hp
    rw [List.all_eq_false]
    exact ⟨(ps[k]).2, List.mem_map.2 ⟨ps[k], List.getElem_mem hk, rfl⟩, by rw [hp]; decide⟩
  · intro hp
    rw [List.take_succ_eq_append_getElem hk, dats_append, List.all_append, h]
    simpa [dats] using hp

set_option maxRecDepth 20000 in
set_option maxHeartbeats 4000000 in
theorem ref_sameSet_any (w : World) (A : Option Addr) (c : Nat) (ps : List (DV × Dt)) (B : Option Addr) (cb : Nat) (qs : List (DV × Dt)) (hp : DsAt w w.heap.size A ps) (hq : DsAt w w.heap.size B qs) (hc : ∀ p ∈ ps, Wide p.2) (hd : ∀ p ∈ qs, Wide p.2) (hl : ps.length ≤ maxLen) (hl' : qs.length ≤ maxLen) :
    Calls Tryz.prog 34 #[.slice A ps.length c, .slice B qs.length cb] w (Gave w (.bool (sameS (dats ps) (dats qs)))) := by
  have HI1 := Lib.hid (fun W (x : DV) (a : Dt) (h : Below w.heap.size w W) (hx : DataAt W W.heap.size x a) (la : Wide a) => in_any W x a B cb qs hx ((hq.below h).mono h.size) la hd hl')
  have HI2 := Lib.hid (fun W (x : DV) (a : Dt) (h : Below w.heap.size w W) (hx : DataAt W W.heap.size x a) (la : Wide a) => in_any W x a A c ps hx ((hp.below h).mono h.size) la hc hl)
  have HP := Lib.hid hp
  have HQ := Lib.hid hq
  have HC := Lib.hid hc
  have HD := Lib.hid hd
  clear hp hq hc hd
  unfold maxLen at hl hl'
  go_enter Tryz.func34, Tryz.ntmps34
  go_wp2
  go_loopw [5] (AllRelS w ps qs) (fun i _ => ps.length - (intOf i).toNat)
  case atStart => exact ⟨0, Nat.zero_le _, rfl, rfl, Below.refl _ _⟩
  case round =>
    obtain ⟨k, hk, rfl, hn, hb⟩ := hrel
    have HN := Lib.hid hn
    have HB := Lib.hid hb
    have hz := hb.size
    clear hn hb
    by_cases hlt : k < ps.length
    · obtain ⟨b, off, rfl, hbH, hd, q0, q1, q2, q3, q4⟩ := (HP.out.below HB.out).at_ hlt
      have hwd := HC.out _ (List.getElem_mem hlt)
      have HI := Lib.hid (all_snocD (fun e => hasD (dats qs) e) hlt HN.out)
      revert hd q0 q1 q2 q3 q4 hwd HI
      generalize ps[k] = p
      obtain ⟨y, d⟩ := p
      intro hd q0 q1 q2 q3 q4 hwd HI
      dsimp only at *
      have HCL := Lib.hid (HI1.out wr y d HB.out (hd.mono hz) hwd)
      clear hd hwd
      go_wp2_with fail
      refine HCL.out.mono ?_
      rintro e w1 ⟨rfl, hb1⟩
      have HB1 := Lib.hid (HB.out.trans (hb1.mono hz))
      clear hb1
      cases hv : hasD (dats qs) d with
      | false =>
        have HT := Lib.hid (show sameS (dats ps) (dats qs) = false by unfold sameS withinD; rw [HI.out.1 hv]; rfl)
        clear HI
        go_wp2
        go_ret
        exact ⟨ret_bool HT.out.symm, HB1.out⟩
      | true =>
        have HT := Lib.hid (HI.out.2 hv)
        clear HI
        go_wp2
        exact ⟨⟨k + 1, by omega, by go_num, HT.out, HB1.out⟩, by simp [intOf]; omega⟩
    · obtain rfl : k = ps.length := by omega
      have HF := Lib.hid (show withinD (dats ps) (dats qs) = true by have h := HN.out; rw [List.take_length] at h; exact h)
      have HBQ := Lib.hid HB.out
      clear HN HB hz
      go_wp2
      go_loopw [6] (AllRelS w qs ps) (fun i _ => qs.length - (intOf i).toNat)
      case atStart => exact ⟨0, Nat.zero_le _, rfl, rfl, HBQ.out⟩
      case round =>
        obtain ⟨k, hk2, rfl, hn, hb⟩ := hrel
        have HN := Lib.hid hn
        have HB := Lib.hid hb
        have hz := hb.size
        clear hn hb
        by_cases hlt2 : k < qs.length
        · obtain ⟨b, off, rfl, hbH, hd, q0, q1, q2, q3, q4⟩ := (HQ.out.below HB.out).at_ hlt2
          have hwd := HD.out _ (List.getElem_mem hlt2)
          have HI := Lib.hid (all_snocD (fun e => hasD (dats ps) e) hlt2 HN.out)
          revert hd q0 q1 q2 q3 q4 hwd HI
          generalize qs[k] = p
          obtain ⟨y, d⟩ := p
          intro hd q0 q1 q2 q3 q4 hwd HI
          dsimp only at *
          have HCL := Lib.hid (HI2.out wr y d HB.out (hd.mono hz) hwd)
          clear hd hwd
          go_wp2_with fail
          refine HCL.out.mono ?_
          rintro e w1 ⟨rfl, hb1⟩
          have HB1 := Lib.hid (HB.out.trans (hb1.mono hz))
          clear hb1
          cases hv : hasD (dats ps) d with
          | false =>
            have HT := Lib.hid (show sameS (dats ps) (dats qs) = false by unfold sameS; rw [show withinD (dats qs) (dats ps) = false from HI.out.1 hv]; simp)
            clear HI
            go_wp2
            go_ret
            exact ⟨ret_bool HT.out.symm, HB1.out⟩
          | true =>
            have HT := Lib.hid (HI.out.2 hv)
            clear HI
            go_wp2
            exact ⟨⟨k + 1, by omega, by go_num, HT.out, HB1.out⟩, by simp [intOf]; omega⟩
        · obtain rfl : k = qs.length := by omega
          have HT := Lib.hid (show sameS (dats ps) (dats qs) = true by
            have h := HN.out
            rw [List.take_length] at h
            unfold sameS
            rw [HF.out, show withinD (dats qs) (dats ps) = true from h]
            rfl)
          go_wp2
          go_ret
          exact ⟨ret_bool HT.out.symm, HB.out⟩

/-- What the document's Set has made ahead of a round. -/
structure SetAtR (w0 : World) (v : Value) (qs : List (DV × Dt)) (w : World) : Prop where
  row : w.ownsRow w0.heap.size 34 5 v qs.length (qs.flatMap cellsD)
  each : ∀ q ∈ qs, DataAt w0 w0.heap.size q.1 q.2
  below : Below w0.heap.size w0 w
  size : w0.heap.size ≤ w.heap.size
theorem SetAtR.step {w0 w w' : World} {v : Value} {qs : List (DV × Dt)} (h : SetAtR w0 v qs w) (hb : Below w.heap.size w w') : SetAtR w0 v qs w' :=
  ⟨own_keep h.row fun j hj => hb.block j (h.row.lt j hj).2, h.each, h.below.trans (hb.mono h.size), Nat.le_trans h.size hb.size⟩
theorem SetAtR.reads {w0 w : World} {A : Option Addr} {c : Nat} {qs : List (DV × Dt)} (h : SetAtR w0 (.slice A qs.length c) qs w) : DsAt w w.heap.size A qs :=
  ⟨Row.of_own h.row, fun q hq => ((h.each q hq).below h.below).mono h.size⟩
theorem SetAtR.snoc {w0 w w' : World} {v v' : Value} {qs : List (DV × Dt)} (h : SetAtR w0 v qs w) {y : DV} {d : Dt} (hy : DataAt w0 w0.heap.size y d) (ho : w'.ownsRow w0.heap.size 34 5 v' (qs.length + 1) (qs.flatMap cellsD ++ cellsD (y, d)))
    (hg : w.grownBy w' v.ownBlock) : SetAtR w0 v' (qs ++ [(y, d)]) w' := by
  refine ⟨by rw [List.length_append, List.flatMap_append]; simpa using ho, fun q hq => ?_, own_below h.below (Nat.le_refl _) h.size h.row hg, Nat.le_trans h.size hg.size⟩
  rcases List.mem_append.1 hq with hq | hq
  · exact h.each q hq
  · rw [List.mem_singleton.1 hq]
    exact hy
/-- Has one been seen? -/
def seenB (s : List Dt × Int) : Bool := !s.1.isEmpty
def SetRelR (w : World) (ps : List (RV × Rt)) (n : List (List UInt8)) (k : Int) (v t y i : Value) (wr : World) : Prop :=
  ∃ (j : Nat) (qs : List (DV × Dt)), j ≤ ps.length ∧ i = .int .i64 j ∧ t = .int .i64 (setF (recs (ps.take j)) n k).2 ∧ y = .bool (seenB (setF (recs (ps.take j)) n k)) ∧ dats qs = (setF (recs (ps.take j)) n k).1 ∧ qs.length ≤ j ∧ (∀ q ∈ qs, Wide q.2) ∧ SetAtR w v qs wr


































































































































































































































































end Go.Proofs.YtmbcbfalgdgmjaaGreatDoor

namespace Go.Proofs.YtmbcbfalgdgmjaaGreatDoor
open Go.RowKit

/-- Two boxes of facts. -/
structure Facts2 (w : World) (x y : FV) (W : World) : Prop where
  a : Whole W w.heap.size 36 (cellsF x)
  b : Whole W (w.heap.size + 1) 36 (cellsF y)
  below : Below w.heap.size w W
  size : w.heap.size + 2 ≤ W.heap.size
theorem Facts2.step {w : World} {x y : FV} {W W' : World} (h : Facts2 w x y W) (hb : Below W.heap.size W W') : Facts2 w x y W' :=
  ⟨h.a.below hb h.a.lt, h.b.below hb h.b.lt, h.below.trans (hb.mono (by have := h.size; omega)), Nat.le_trans h.size hb.size⟩
theorem Facts2.made (w : World) (x y : FV) : Facts2 w x y ((w.alloc (.cells #[.slice x.A x.name.length x.c, .int .i64 x.h.typ, .int .i64 x.h.knd, .int .i64 x.h.rank, .int .i64 x.h.got, .int .i64 x.h.ttl, .slice x.sA x.sp.length x.sc, .slice x.zA x.zone.length x.zc, .slice x.d.Ab x.soa.bytes.length x.d.cb, .slice x.d.Ah x.soa.host.length x.d.ch, .slice x.d.Am x.soa.mail.length x.d.cm, .slice x.d.An x.soa.nums.length x.d.cn, .slice x.d.At x.soa.texts.length x.d.ct] 36)).alloc (.cells #[.slice y.A y.name.length y.c, .int .i64 y.h.typ, .int .i64 y.h.knd, .int .i64 y.h.rank, .int .i64 y.h.got, .int .i64 y.h.ttl, .slice y.sA y.sp.length y.sc, .slice y.zA y.zone.length y.zc, .slice y.d.Ab y.soa.bytes.length y.d.cb, .slice y.d.Ah y.soa.host.length y.d.ch, .slice y.d.Am y.soa.mail.length y.d.cm, .slice y.d.An y.soa.nums.length y.d.cn, .slice y.d.At y.soa.texts.length y.d.ct] 36)) := by
  have hz : (w.alloc (.cells #[.slice x.A x.name.length x.c, .int .i64 x.h.typ, .int .i64 x.h.knd, .int .i64 x.h.rank, .int .i64 x.h.got, .int .i64 x.h.ttl, .slice x.sA x.sp.length x.sc, .slice x.zA x.zone.length x.zc, .slice x.d.Ab x.soa.bytes.length x.d.cb, .slice x.d.Ah x.soa.host.length x.d.ch, .slice x.d.Am x.soa.mail.length x.d.cm, .slice x.d.An x.soa.nums.length x.d.cn, .slice x.d.At x.soa.texts.length x.d.ct] 36)).heap.size = w.heap.size + 1 := by simp
  refine ⟨(Whole.made w (cellsF x) _).alloc _, ?_, ((Below.refl _ _).alloc (Nat.le_refl _) _).alloc (by simp) _, by simp⟩
  have := Whole.made (w.alloc (.cells #[.slice x.A x.name.length x.c, .int .i64 x.h.typ, .int .i64 x.h.knd, .int .i64 x.h.rank, .int .i64 x.h.got, .int .i64 x.h.ttl, .slice x.sA x.sp.length x.sc, .slice x.zA x.zone.length x.zc, .slice x.d.Ab x.soa.bytes.length x.d.cb, .slice x.d.Ah x.soa.host.length x.d.ch, .slice x.d.Am x.soa.mail.length x.d.cm, .slice x.d.An x.soa.nums.length x.d.cn, .slice x.d.At x.soa.texts.length x.d.ct] 36)) (cellsF y) 36
  rw [hz] at this
  exact this

set_option maxRecDepth 20000 in
set_option maxHeartbeats 4000000 in
theorem samekey_any (w : World) (x y : FV) (hx : FAt w w.heap.size x) (hy : FAt w w.heap.size y) (hi : FIn x) (hj : FIn y) : Calls Tryz.prog 33 #[x.val, y.val] w (Gave w (.bool (sameK x.fact y.fact))) := by
  have HX := Lib.hid (Facts2.made w x y)
  have HE := Lib.hid (fun W' (hb : Below w.heap.size w W') => ref_equal_wide x.A y.A x.name.length y.name.length x.c y.c w.heap.size x.name y.name W' rfl rfl (hx.n.below hb) (hy.n.below hb) hb.size hi.n hj.n)
  have HS := Lib.hid (show sameK x.fact y.fact = (decide (x.h.typ = y.h.typ) && eqN x.name y.name) from rfl)
  clear hx hy hi hj
  by_cases h1 : x.h.typ = y.h.typ
  case neg =>
    have b1 : (x.h.typ == y.h.typ) = false := beq_eq_false_iff_ne.2 h1
    rw [decide_eq_false h1] at HS
    clear h1
    go_enter Tryz.func33, Tryz.ntmps33
    go_wp2
    go_ret
    exact ⟨by rw [HS.out]; rfl, HX.out.below⟩
  have b1 : (x.h.typ == y.h.typ) = true := by rw [beq_iff_eq]; exact h1
  rw [decide_eq_true h1, Bool.true_and] at HS
  clear h1
  go_enter Tryz.func33, Tryz.ntmps33
  go_wp2_with fail
  refine (HE.out _ HX.out.below).mono ?_
  rintro e w1 ⟨rfl, hb1⟩
  have HB1 := Lib.hid (HX.out.step hb1)
  clear hb1
  go_wp2
  go_ret
  exact ⟨by rw [HS.out]; simp, HB1.out.below⟩

set_option maxRecDepth 20000 in
set_option maxHeartbeats 8000000 in
theorem refsame_by (w : World) (x y : FV) (hx : FAt w w.heap.size x) (hy : FAt w w.heap.size y) (hi : FIn x) (hj : FIn y) (h1 : ∀ W', Below w.heap.size w W' → Calls Tryz.prog 20 #[x.val] W' (Gave W' (.bool (soundF x.fact)))) (h2 : ∀ W', Below w.heap.size w W' → Calls Tryz.prog 20 #[y.val] W' (Gave W' (.bool (soundF y.fact)))) : Calls Tryz.prog 14 #[x.val, y.val] w (Gave w (.bool (sameF x.fact y.fact))) := by
  have HX := Lib.hid (Facts2.made w x y)
  have HS1 := Lib.hid h1
  have HS2 := Lib.hid h2
  have HK := Lib.hid (fun W' (hb : Below w.heap.size w W') => samekey_any W' x y ((hx.below hb).mono hb.size) ((hy.below hb).mono hb.size) hi hj)
  have HT := Lib.hid (fun W' (hb : Below w.heap.size w W') => ref_sameSet_any W' x.sA x.sc x.sp y.sA y.sc y.sp ((hx.s.below hb).mono hb.size) ((hy.s.below hb).mono hb.size) (fun p hp => (hi.s p hp).w) (fun p hp => (hj.s p hp).w) (Nat.le_trans hx.ls hx.ks) (Nat.le_trans hy.ls hy.ks))
  have HE := Lib.hid (fun W' (hb : Below w.heap.size w W') => ref_equal_wide x.zA y.zA x.zone.length y.zone.length x.zc y.zc w.heap.size x.zone y.zone W' rfl rfl (hx.z.below hb) (hy.z.below hb) hb.size hi.z hj.z)
  have HD := Lib.hid (fun W' (hb : Below w.heap.size w W') => ref_dsame_wide x.d y.d x.soa y.soa W' ((hx.d.below hb).mono hb.size) ((hy.d.below hb).mono hb.size) hi.d.w hj.d.w)
  have HS := Lib.hid (show sameF x.fact y.fact = (soundF x.fact && (soundF y.fact && (sameK x.fact y.fact && ((decide (x.h.knd = y.h.knd) && (decide (x.h.rank = y.h.rank) && (decide (x.h.got = y.h.got) && decide (x.h.ttl = y.h.ttl)))) && (sameS (dats x.sp) (dats y.sp) && (eqN x.zone y.zone && sameD x.soa y.soa)))))) from rfl)
  have hlx : x.sp.length ≤ maxLen := Nat.le_trans hx.ls hx.ks
  clear hx hy hi hj hlx h1 h2
  go_enter Tryz.func14, Tryz.ntmps14
  go_wp2_with fail
  refine (HS1.out _ HX.out.below).mono ?_
  rintro e w1 ⟨rfl, hb1⟩
  have HB1 := Lib.hid (HX.out.step hb1)
  clear hb1
  cases e1 : soundF x.fact with
  | false =>
    rw [e1] at HS
    go_wp2
    go_ret
    exact ⟨by rw [HS.out]; rfl, HB1.out.below⟩
  | true =>
  rw [e1, Bool.true_and] at HS
  have q0 : w1.cell? ⟨w.heap.size + 1, 0, none⟩ = some (.slice y.A y.name.length y.c) := HB1.out.b.cell 0
  have q1 : w1.cell? ⟨w.heap.size + 1, 1, none⟩ = some (.int .i64 y.h.typ) := HB1.out.b.cell 1
  have q2 : w1.cell? ⟨w.heap.size + 1, 2, none⟩ = some (.int .i64 y.h.knd) := HB1.out.b.cell 2
  have q3 : w1.cell? ⟨w.heap.size + 1, 3, none⟩ = some (.int .i64 y.h.rank) := HB1.out.b.cell 3
  have q4 : w1.cell? ⟨w.heap.size + 1, 4, none⟩ = some (.int .i64 y.h.got) := HB1.out.b.cell 4
  have q5 : w1.cell? ⟨w.heap.size + 1, 5, none⟩ = some (.int .i64 y.h.ttl) := HB1.out.b.cell 5
  have q6 : w1.cell? ⟨w.heap.size + 1, 6, none⟩ = some (.slice y.sA y.sp.length y.sc) := HB1.out.b.cell 6
  have q7 : w1.cell? ⟨w.heap.size + 1, 7, none⟩ = some (.slice y.zA y.zone.length y.zc) := HB1.out.b.cell 7
  have q8 : w1.cell? ⟨w.heap.size + 1, 8, none⟩ = some (.slice y.d.Ab y.soa.bytes.length y.d.cb) := HB1.out.b.cell 8
  have q9 : w1.cell? ⟨w.heap.size + 1, 9, none⟩ = some (.slice y.d.Ah y.soa.host.length y.d.ch) := HB1.out.b.cell 9
  have q10 : w1.cell? ⟨w.heap.size + 1, 10, none⟩ = some (.slice y.d.Am y.soa.mail.length y.d.cm) := HB1.out.b.cell 10
  have q11 : w1.cell? ⟨w.heap.size + 1, 11, none⟩ = some (.slice y.d.An y.soa.nums.length y.d.cn) := HB1.out.b.cell 11
  have q12 : w1.cell? ⟨w.heap.size + 1, 12, none⟩ = some (.slice y.d.At y.soa.texts.length y.d.ct) := HB1.out.b.cell 12
  go_wp2_with fail
  refine (HS2.out _ HB1.out.below).mono ?_
  rintro e w2 ⟨rfl, hb2⟩
  have HB2 := Lib.hid (HB1.out.step hb2)
  clear hb2  q0 q1 q2 q3 q4 q5 q6 q7 q8 q9 q10 q11 q12 HB1
  cases e2 : soundF y.fact with
  | false =>
    rw [e2] at HS
    go_wp2
    go_ret
    exact ⟨by rw [HS.out]; rfl, HB2.out.below⟩
  | true =>
  rw [e2, Bool.true_and] at HS
  have p0 : w2.cell? ⟨w.heap.size, 0, none⟩ = some (.slice x.A x.name.length x.c) := HB2.out.a.cell 0
  have p1 : w2.cell? ⟨w.heap.size, 1, none⟩ = some (.int .i64 x.h.typ) := HB2.out.a.cell 1
  have p2 : w2.cell? ⟨w.heap.size, 2, none⟩ = some (.int .i64 x.h.knd) := HB2.out.a.cell 2
  have p3 : w2.cell? ⟨w.heap.size, 3, none⟩ = some (.int .i64 x.h.rank) := HB2.out.a.cell 3
  have p4 : w2.cell? ⟨w.heap.size, 4, none⟩ = some (.int .i64 x.h.got) := HB2.out.a.cell 4
  have p5 : w2.cell? ⟨w.heap.size, 5, none⟩ = some (.int .i64 x.h.ttl) := HB2.out.a.cell 5
  have p6 : w2.cell? ⟨w.heap.size, 6, none⟩ = some (.slice x.sA x.sp.length x.sc) := HB2.out.a.cell 6
  have p7 : w2.cell? ⟨w.heap.size, 7, none⟩ = some (.slice x.zA x.zone.length x.zc) := HB2.out.a.cell 7
  have p8 : w2.cell? ⟨w.heap.size, 8, none⟩ = some (.slice x.d.Ab x.soa.bytes.length x.d.cb) := HB2.out.a.cell 8
  have p9 : w2.cell? ⟨w.heap.size, 9, none⟩ = some (.slice x.d.Ah x.soa.host.length x.d.ch) := HB2.out.a.cell 9
  have p10 : w2.cell? ⟨w.heap.size, 10, none⟩ = some (.slice x.d.Am x.soa.mail.length x.d.cm) := HB2.out.a.cell 10
  have p11 : w2.cell? ⟨w.heap.size, 11, none⟩ = some (.slice x.d.An x.soa.nums.length x.d.cn) := HB2.out.a.cell 11
  have p12 : w2.cell? ⟨w.heap.size, 12, none⟩ = some (.slice x.d.At x.soa.texts.length x.d.ct) := HB2.out.a.cell 12
  have q0 : w2.cell? ⟨w.heap.size + 1, 0, none⟩ = some (.slice y.A y.name.length y.c) := HB2.out.b.cell 0
  have q1 : w2.cell? ⟨w.heap.size + 1, 1, none⟩ = some (.int .i64 y.h.typ) := HB2.out.b.cell 1
  have q2 : w2.cell? ⟨w.heap.size + 1, 2, none⟩ = some (.int .i64 y.h.knd) := HB2.out.b.cell 2
  have q3 : w2.cell? ⟨w.heap.size + 1, 3, none⟩ = some (.int .i64 y.h.rank) := HB2.out.b.cell 3
  have q4 : w2.cell? ⟨w.heap.size + 1, 4, none⟩ = some (.int .i64 y.h.got) := HB2.out.b.cell 4
  have q5 : w2.cell? ⟨w.heap.size + 1, 5, none⟩ = some (.int .i64 y.h.ttl) := HB2.out.b.cell 5
  have q6 : w2.cell? ⟨w.heap.size + 1, 6, none⟩ = some (.slice y.sA y.sp.length y.sc) := HB2.out.b.cell 6
  have q7 : w2.cell? ⟨w.heap.size + 1, 7, none⟩ = some (.slice y.zA y.zone.length y.zc) := HB2.out.b.cell 7
  have q8 : w2.cell? ⟨w.heap.size + 1, 8, none⟩ = some (.slice y.d.Ab y.soa.bytes.length y.d.cb) := HB2.out.b.cell 8
  have q9 : w2.cell? ⟨w.heap.size + 1, 9, none⟩ = some (.slice y.d.Ah y.soa.host.length y.d.ch) := HB2.out.b.cell 9
  have q10 : w2.cell? ⟨w.heap.size + 1, 10, none⟩ = some (.slice y.d.Am y.soa.mail.length y.d.cm) := HB2.out.b.cell 10
  have q11 : w2.cell? ⟨w.heap.size + 1, 11, none⟩ = some (.slice y.d.An y.soa.nums.length y.d.cn) := HB2.out.b.cell 11
  have q12 : w2.cell? ⟨w.heap.size + 1, 12, none⟩ = some (.slice y.d.At y.soa.texts.length y.d.ct) := HB2.out.b.cell 12
  go_wp2_with fail
  refine (HK.out _ HB2.out.below).mono ?_
  rintro e w3 ⟨rfl, hb3⟩
  have HB3 := Lib.hid (HB2.out.step hb3)
  clear hb3 p0 p1 p2 p3 p4 p5 p6 p7 p8 p9 p10 p11 p12 q0 q1 q2 q3 q4 q5 q6 q7 q8 q9 q10 q11 q12 HB2
  cases e3 : sameK x.fact y.fact with
  | false =>
    rw [e3] at HS
    go_wp2
    go_ret
    exact ⟨by rw [HS.out]; rfl, HB3.out.below⟩
  | true =>
  rw [e3, Bool.true_and] at HS
  have p2 : w3.cell? ⟨w.heap.size, 2, none⟩ = some (.int .i64 x.h.knd) := HB3.out.a.cell 2
  have p3 : w3.cell? ⟨w.heap.size, 3, none⟩ = some (.int .i64 x.h.rank) := HB3.out.a.cell 3
  have p4 : w3.cell? ⟨w.heap.size, 4, none⟩ = some (.int .i64 x.h.got) := HB3.out.a.cell 4
  have p5 : w3.cell? ⟨w.heap.size, 5, none⟩ = some (.int .i64 x.h.ttl) := HB3.out.a.cell 5
  have p6 : w3.cell? ⟨w.heap.size, 6, none⟩ = some (.slice x.sA x.sp.length x.sc) := HB3.out.a.cell 6
  have q2 : w3.cell? ⟨w.heap.size + 1, 2, none⟩ = some (.int .i64 y.h.knd) := HB3.out.b.cell 2
  have q3 : w3.cell? ⟨w.heap.size + 1, 3, none⟩ = some (.int .i64 y.h.rank) := HB3.out.b.cell 3
  have q4 : w3.cell? ⟨w.heap.size + 1, 4, none⟩ = some (.int .i64 y.h.got) := HB3.out.b.cell 4
  have q5 : w3.cell? ⟨w.heap.size + 1, 5, none⟩ = some (.int .i64 y.h.ttl) := HB3.out.b.cell 5
  have q6 : w3.cell? ⟨w.heap.size + 1, 6, none⟩ = some (.slice y.sA y.sp.length y.sc) := HB3.out.b.cell 6
  by_cases f0 : x.h.knd = y.h.knd
  case neg =>
    have g0 : (x.h.knd == y.h.knd) = false := beq_eq_false_iff_ne.2 f0
    rw [decide_eq_false f0] at HS
    clear f0
    go_wp2
    go_ret
    exact ⟨by rw [HS.out]; simp, HB3.out.below⟩
  have g0 : (x.h.knd == y.h.knd) = true := by rw [beq_iff_eq]; exact f0
  rw [decide_eq_true f0] at HS
  clear f0
  by_cases f1 : x.h.rank = y.h.rank
  case neg =>
    have g1 : (x.h.rank == y.h.rank) = false := beq_eq_false_iff_ne.2 f1
    rw [decide_eq_false f1] at HS
    clear f1
    go_wp2
    go_ret
    exact ⟨by rw [HS.out]; simp, HB3.out.below⟩
  have g1 : (x.h.rank == y.h.rank) = true := by rw [beq_iff_eq]; exact f1
  rw [decide_eq_true f1] at HS
  clear f1
  by_cases f2 : x.h.got = y.h.got
  case neg =>
    have g2 : (x.h.got == y.h.got) = false := beq_eq_false_iff_ne.2 f2
    rw [decide_eq_false f2] at HS
    clear f2
    go_wp2
    go_ret
    exact ⟨by rw [HS.out]; simp, HB3.out.below⟩
  have g2 : (x.h.got == y.h.got) = true := by rw [beq_iff_eq]; exact f2
  rw [decide_eq_true f2] at HS
  clear f2
  by_cases f3 : x.h.ttl = y.h.ttl
  case neg =>
    have g3 : (x.h.ttl == y.h.ttl) = false := beq_eq_false_iff_ne.2 f3
    rw [decide_eq_false f3] at HS
    clear f3
    go_wp2
    go_ret
    exact ⟨by rw [HS.out]; simp, HB3.out.below⟩
  have g3 : (x.h.ttl == y.h.ttl) = true := by rw [beq_iff_eq]; exact f3
  rw [decide_eq_true f3] at HS
  clear f3
  simp only [Bool.true_and, Bool.and_true] at HS
  go_wp2_with fail
  refine (HT.out _ HB3.out.below).mono ?_
  rintro e w4 ⟨rfl, hb4⟩
  have HB4 := Lib.hid (HB3.out.step hb4)
  clear hb4 p2 p3 p4 p5 p6 q2 q3 q4 q5 q6 HB3
  cases e4 : sameS (dats x.sp) (dats y.sp) with
  | false =>
    rw [e4] at HS
    go_wp2
    go_ret
    exact ⟨by rw [HS.out]; rfl, HB4.out.below⟩
  | true =>
  rw [e4, Bool.true_and] at HS
  have p7 : w4.cell? ⟨w.heap.size, 7, none⟩ = some (.slice x.zA x.zone.length x.zc) := HB4.out.a.cell 7
  have q7 : w4.cell? ⟨w.heap.size + 1, 7, none⟩ = some (.slice y.zA y.zone.length y.zc) := HB4.out.b.cell 7
  go_wp2_with fail
  refine (HE.out _ HB4.out.below).mono ?_
  rintro e w5 ⟨rfl, hb5⟩
  have HB5 := Lib.hid (HB4.out.step hb5)
  clear hb5 p7 q7 HB4
  cases e5 : eqN x.zone y.zone with
  | false =>
    rw [e5] at HS
    go_wp2
    go_ret
    exact ⟨by rw [HS.out]; rfl, HB5.out.below⟩
  | true =>
  rw [e5, Bool.true_and] at HS
  have p8 : w5.cell? ⟨w.heap.size, 8, none⟩ = some (.slice x.d.Ab x.soa.bytes.length x.d.cb) := HB5.out.a.cell 8
  have p9 : w5.cell? ⟨w.heap.size, 9, none⟩ = some (.slice x.d.Ah x.soa.host.length x.d.ch) := HB5.out.a.cell 9
  have p10 : w5.cell? ⟨w.heap.size, 10, none⟩ = some (.slice x.d.Am x.soa.mail.length x.d.cm) := HB5.out.a.cell 10
  have p11 : w5.cell? ⟨w.heap.size, 11, none⟩ = some (.slice x.d.An x.soa.nums.length x.d.cn) := HB5.out.a.cell 11
  have p12 : w5.cell? ⟨w.heap.size, 12, none⟩ = some (.slice x.d.At x.soa.texts.length x.d.ct) := HB5.out.a.cell 12
  have q8 : w5.cell? ⟨w.heap.size + 1, 8, none⟩ = some (.slice y.d.Ab y.soa.bytes.length y.d.cb) := HB5.out.b.cell 8
  have q9 : w5.cell? ⟨w.heap.size + 1, 9, none⟩ = some (.slice y.d.Ah y.soa.host.length y.d.ch) := HB5.out.b.cell 9
  have q10 : w5.cell? ⟨w.heap.size + 1, 10, none⟩ = some (.slice y.d.Am y.soa.mail.length y.d.cm) := HB5.out.b.cell 10
  have q11 : w5.cell? ⟨w.heap.size + 1, 11, none⟩ = some (.slice y.d.An y.soa.nums.length y.d.cn) := HB5.out.b.cell 11
  have q12 : w5.cell? ⟨w.heap.size + 1, 12, none⟩ = some (.slice y.d.At y.soa.texts.length y.d.ct) := HB5.out.b.cell 12
  go_wp2_with fail
  refine (HD.out _ HB5.out.below).mono ?_
  rintro e w6 ⟨rfl, hb6⟩
  have HB6 := Lib.hid (HB5.out.step hb6)
  clear hb6 p8 p9 p10 p11 p12 q8 q9 q10 q11 q12 HB5
  go_wp2
  go_ret
  exact ⟨by rw [HS.out]; simp, HB6.out.below⟩

/-- The document's Same, of facts that are sound. -/
theorem refsame_sound (w : World) (x y : FV) (hx : FAt w w.heap.size x) (hy : FAt w w.heap.size y) (sx : soundF x.fact = true) (sy : soundF y.fact = true) : Calls Tryz.prog 14 #[x.val, y.val] w (Gave w (.bool (sameF x.fact y.fact))) :=
  refsame_by w x y hx hy (soundF_in sx) (soundF_in sy) (fun W' hb => sx ▸ refsound_yes W' x ((hx.below hb).mono hb.size) (soundF_in sx) sx) (fun W' hb => sy ▸ refsound_yes W' y ((hy.below hb).mono hb.size) (soundF_in sy) sy)

end Go.Proofs.YtmbcbfalgdgmjaaGreatDoor

namespace Go.Proofs.YtmbcbfalgdgmjaaGreatDoor
open Go.RowKit

theorem int_oneC : (Tryz.prog.info? 3).map (·.size) = some 1 := by kernel_rfl
/-- What holds ahead of a second. -/
structure StaleAt (L : CacheOld) (w : World) (cv : Value) (C : Ca) (B : Nat) (x : FV) (g : Nat) (F : Nat → Prop) (wr : World) (u : Nat) : Prop where
  cat : L.At wr w.heap.size cv C F u
  f : FSafe wr B F x
  box : Whole wr g 36 (cellsF x)
  off : ¬ F g
  below : Below w.heap.size w wr
theorem StaleAt.step {L : CacheOld} {w wr W : World} {cv : Value} {C : Ca} {B g : Nat} {x : FV} {F : Nat → Prop} {u : Nat} (h : StaleAt L w cv C B x g F wr u) (hb : Below wr.heap.size wr W) : StaleAt L w cv C B x g F W u :=
  ⟨L.at_below h.cat hb, h.f.step hb, h.box.below hb h.box.lt, h.off, h.below.trans (hb.mono h.below.size)⟩
theorem StaleAt.moved {L : CacheOld} {w wr W : World} {cv : Value} {C C' : Ca} {B g : Nat} {x : FV} {F F' : Nat → Prop} {u u' : Nat} (h : StaleAt L w cv C B x g F wr u) (hm : MovedC F wr W F') (hc : L.At W w.heap.size cv C' F' u') : StaleAt L w cv C' B x g F' W u' :=
  ⟨hc, h.f.moved hm, hm.whole h.box h.off, fun hf => by
    rcases hm.2 g hf with h1 | h1
    · exact h.off h1
    · have := h.box.lt; omega, h.below.trans (hm.below (fun j hj => ((L.at_own h.cat).2 j hj).1) h.below.size)⟩
def StaleRel (L : CacheOld) (w : World) (cv : Value) (C : Ca) (B : Nat) (x : FV) (g : Nat) (i : Value) (wr : World) : Prop := ∃ (j : Nat) (F : Nat → Prop), j ≤ 140 ∧ i = .int .i64 j ∧ StaleAt L w cv C B x g F wr (1 + 2 * j)
/-- What a call has told beside it stays, too. -/
theorem told_one {f : Fc} {b : Bool} {w w' : World} {F' : Nat → Prop} {v : Value} (h : ToldC w (if b = true then some f else none) F' v w') : ∃ x : FV, v = .tuple #[x.val, .bool b] ∧ FSafe w' w.heap.size F' x ∧ (b = true → x.fact = f) := by
  obtain ⟨x, h1, h2, h3, _⟩ := h
  refine ⟨x, ?_, h2, fun hb => h3 f (by rw [if_pos hb])⟩
  rw [h1]
  cases b <;> rfl

set_option maxRecDepth 20000 in
set_option maxHeartbeats 16000000 in
theorem castale_any (L : CacheOld) (w : World) (t k : Nat) (ht : t < 65536) (hk : k < 65536) (A : Option Addr) (c : Nat) (n : List (List UInt8)) (hn : Row w w.heap.size A (n.map sv)) (hw : WideN n) (hc : n.length ≤ c) (neg : Bool) (hv : L.Vars w) :
    Calls Tryz.prog 6 #[.int .u16 t, .int .u16 k, .slice A n.length c, .bool neg] w (TrueB w) := by
  obtain ⟨st, hst⟩ : ∃ st, st = k % 60 := ⟨_, rfl⟩
  obtain ⟨tl, htl⟩ : ∃ tl, tl = t % 60 := ⟨_, rfl⟩
  have hs60 : st < 60 := by omega
  have ht60 : tl < 60 := by omega
  have e1 : (k : Int).tmod 60 = (st : Int) := by rw [Int.tmod_eq_emod_of_nonneg (by omega)]; omega
  have e2 : (t : Int).tmod 60 = (tl : Int) := by rw [Int.tmod_eq_emod_of_nonneg (by omega)]; omega
  have e3 : (k : Int) % 60 = (st : Int) := by omega
  have e4 : (t : Int) % 60 = (tl : Int) := by omega
  clear hst htl
  obtain ⟨is, his, hzs, hss, hbs⟩ := info_parts str_info
  have HNEW := Lib.hid (L.new_ok w 5 (st : Int) hv (by decide) (by decide) (time_small (by omega) (by omega)))
  have HAN := Lib.hid (fun W (hb : Below w.heap.size w W) => caanswers_any L.toCacheCore W (L.vars hv hb))
  have HR := Lib.hid (fun W (hb : Below w.heap.size w W) => ref_sound_wide A c w.heap.size n W (hn.below hb) hw.1 hw.2)
  have HN := Lib.hid hn
  have HWN := Lib.hid hw
  clear hn hw hv
  go_enter Tryz.func6, Tryz.ntmps6
  go_wp2_with fail
  refine HNEW.out.mono ?_
  rintro e w1 ⟨cv, F, rfl, hat, hb1⟩
  have HA1 := Lib.hid hat
  have HB1 := Lib.hid hb1
  clear hat hb1 HNEW e1 e3
  go_wp2_with fail
  refine (HAN.out w1 HB1.out).mono ?_
  rintro e w2 ⟨rfl, hb2⟩
  have HA2 := Lib.hid (L.at_below HA1.out hb2)
  have HB2 := Lib.hid (HB1.out.trans (hb2.mono HB1.out.size))
  clear HA1 HB1 hb2
  go_wp2_with fail
  refine (HR.out w2 HB2.out).mono ?_
  rintro e wx ⟨rfl, rfl⟩
  cases hsn : soundN n with
  | false =>
    go_wp2_with fail
    refine (HAN.out w2 HB2.out).mono ?_
    rintro e w3 ⟨rfl, hb3⟩
    go_wp2
    go_ret
    exact ⟨rfl, HB2.out.trans (hb3.mono HB2.out.size)⟩
  | true =>
  have nl := sound_few hsn
  have HSN := Lib.hid hsn
  clear hsn HR
  have HLT := Lib.hid (own_lit w2 9 1)
  have HFB := Lib.hid (show ∀ j, F j → j < w2.heap.size from fun j hj => ((L.at_own HA2.out).2 j hj).2)
  cases neg with
  | false =>
    go_wp2_with (
      at_builtin
      refine wpList_append_row rfl (.tmp 46) (.tmp 47) _ rfl w2.heap.size 9 is _ 1 16 Tryz.underlying29 his hzs hss hbs rfl (by decide) _ 0 [] rfl HLT.out A n.length c (w2.heap.size + 1) (n.map sv) rfl (by simp) (((HN.out.below HB2.out).mono HB2.out.size).alloc (Nat.le_refl _) _ |>.mono (by simp)) (sv_one _) (by unfold maxLen; omega) (by omega) (by simp) ?_
      intro v3 w3 hown3 hg3
      have HB3 := Lib.hid (show Below w2.heap.size w2 w3 from own_below ((Below.refl _ _).alloc (Nat.le_refl _) _) (Nat.le_refl _) (by simp) HLT.out hg3)
      obtain ⟨A3, c3, rfl, _, _⟩ := own_form hown3
      rw [Nat.zero_add, List.nil_append] at hown3
      have HO3 := Lib.hid hown3
      clear hown3 hg3)
    have h4 := fact4_at HB3.out.size HO3.out ⟨1, 1, 3, 10, (tl : Int)⟩
    have HFS := Lib.hid (show soundF (fact4 w3.heap.size A3 c3 n ⟨1, 1, 3, 10, (tl : Int)⟩).fact = true from fact4_sound HSN.out rfl rfl (show (1 : Int) ≤ 3 ∧ (3 : Int) ≤ 4 by decide) (show timeB 10 = true by decide +kernel) ⟨by show (0 : Int) ≤ tl; omega, by show (tl : Int) ≤ 604800; omega⟩)
    have HTY := Lib.hid (show (fact4 w3.heap.size A3 c3 n ⟨1, 1, 3, 10, (tl : Int)⟩).fact.h.typ = 1 ∨ (fact4 w3.heap.size A3 c3 n ⟨1, 1, 3, 10, (tl : Int)⟩).fact.h.typ = 0 from .inl rfl)
    have HBW := Lib.hid (show Below w2.heap.size w2 (((w3.alloc (.cells #[.int .u8 1, .int .u8 2, .int .u8 3, .int .u8 4] 5)).alloc (.cells #[.slice (some ⟨w3.heap.size, 0, none⟩) 4 4, .slice none 0 0, .slice none 0 0, .slice none 0 0, .slice none 0 0] 34)).alloc (.cells #[.slice A3 n.length c3, .int .i64 1, .int .i64 1, .int .i64 3, .int .i64 10, .int .i64 (tl : Int), .slice (some ⟨w3.heap.size + 1, 0, none⟩) 1 1, .slice none 0 0, .slice none 0 0, .slice none 0 0, .slice none 0 0, .slice none 0 0, .slice none 0 0] 36)) from HB3.out.trans (h4.2.2.mono HB3.out.size))
    have HSF := Lib.hid (FSafe.of_base h4.1 HFB.out)
    have HPUT := Lib.hid (L.put (L.at_below HA2.out HBW.out) (by decide) (fact4 w3.heap.size A3 c3 n ⟨1, 1, 3, 10, (tl : Int)⟩) 10 h4.1.at_ (soundF_in HFS.out) (fact4_few (by omega)) (by decide))
    have HBX := Lib.hid h4.2.1
    clear h4
    go_wp2_with fail
    refine HPUT.out.mono ?_
    rintro e w5 ⟨F5, rfl, hat5, hmv5⟩
    have hp := one_put (st : Int) (fact4 w3.heap.size A3 c3 n ⟨1, 1, 3, 10, (tl : Int)⟩).fact 10 HFS.out (by decide +kernel)
    have HS := Lib.hid (show StaleAt L w cv ⟨5, (st : Int), [(fact4 w3.heap.size A3 c3 n ⟨1, 1, 3, 10, (tl : Int)⟩).fact]⟩ w2.heap.size (fact4 w3.heap.size A3 c3 n ⟨1, 1, 3, 10, (tl : Int)⟩) (w3.heap.size + 2) F5 w5 1 from
      StaleAt.moved (C := ⟨(5 : Int).toNat, (st : Int), []⟩) ⟨L.at_below HA2.out HBW.out, HSF.out, HBX.out, fun hf => by have h1 := HFB.out _ hf; have h2 := HB3.out.size; omega, HB2.out.trans (HBW.out.mono HB2.out.size)⟩ hmv5 (by rw [← hp.2]; exact hat5))
    rw [show Ca.putB ⟨(5 : Int).toNat, (st : Int), []⟩ (fact4 w3.heap.size A3 c3 n ⟨1, 1, 3, 10, (tl : Int)⟩).fact 10 = true from hp.1]
    clear hp hat5 hmv5 HPUT HSF HBX HBW HO3
    clear HFB HLT HA2 HB2 HSN HAN
    have HW1 := Lib.hid (fun W (hb : Below w.heap.size w W) => (HN.out.below hb).mono hb.size)
    go_wp2
    go_loopw [14] (StaleRel L w cv ⟨5, (st : Int), [(fact4 w3.heap.size A3 c3 n ⟨1, 1, 3, 10, (tl : Int)⟩).fact]⟩ w2.heap.size (fact4 w3.heap.size A3 c3 n ⟨1, 1, 3, 10, (tl : Int)⟩) (w3.heap.size + 2)) (fun i _ => 140 - (intOf i).toNat)
    case atStart => exact ⟨0, _, Nat.zero_le _, rfl, HS.out⟩
    case round =>
      obtain ⟨j, F1, hj, rfl, hsr⟩ := hrel
      have HS1 := Lib.hid hsr
      clear hsr
      by_cases hlt : j < 140
      case neg =>
        obtain rfl : j = 140 := by omega
        go_wp2
        go_ret
        exact ⟨rfl, HS1.out.below⟩
      have l0 : decide ((j : Int) < 140) = true := decide_eq_true (by omega)
      obtain ⟨fr, hfr⟩ : ∃ fr, fr = (decide ((j : Int) < 10 + (tl : Int)) && decide (0 < (tl : Int))) := ⟨_, rfl⟩
      obtain ⟨sl, hsl⟩ : ∃ sl, sl = ((decide (10 + (tl : Int) ≤ (j : Int)) || decide ((tl : Int) = 0)) && decide ((j : Int) < 10 + (tl : Int) + (st : Int))) := ⟨_, rfl⟩
      have HGF := Lib.hid (show Ca.getF ⟨5, (st : Int), [(fact4 w3.heap.size A3 c3 n ⟨1, 1, 3, 10, (tl : Int)⟩).fact]⟩ n 1 (j : Int) = if fr = true then some (fact4 w3.heap.size A3 c3 n ⟨1, 1, 3, 10, (tl : Int)⟩).fact else none from by
        have h1 := one_pick 5 (st : Int) (fact4 w3.heap.size A3 c3 n ⟨1, 1, 3, 10, (tl : Int)⟩).fact (freshF (j : Int)) HTY.out
        rw [fresh_is (ttl := (tl : Int)) rfl rfl (by omega) (by omega) (by omega) (by omega), ← hfr] at h1
        exact h1)
      have HOF := Lib.hid (show Ca.oldF ⟨5, (st : Int), [(fact4 w3.heap.size A3 c3 n ⟨1, 1, 3, 10, (tl : Int)⟩).fact]⟩ n 1 (j : Int) = if (!fr && sl) = true then some (fact4 w3.heap.size A3 c3 n ⟨1, 1, 3, 10, (tl : Int)⟩).fact else none from by
        unfold Ca.oldF
        rw [HGF.out]
        cases fr
        · have h1 := one_pick 5 (st : Int) (fact4 w3.heap.size A3 c3 n ⟨1, 1, 3, 10, (tl : Int)⟩).fact (staleF (st : Int) (j : Int)) HTY.out
          rw [stale_is (ttl := (tl : Int)) rfl rfl (by omega) (by omega) (by omega) (by omega) (by omega) (by omega), ← hsl] at h1
          exact h1
        · rfl)
      obtain ⟨bo, hbo⟩ : ∃ bo, bo = (!fr && sl) := ⟨_, rfl⟩
      rw [← hbo] at HOF
      have HFR := Lib.hid hfr
      have HSL := Lib.hid hsl
      have HBO := Lib.hid hbo
      clear hfr hsl hbo
      have HG := Lib.hid (L.get HS1.out.cat (by unfold maxUses; omega) A c n 1 (j : Int) (HW1.out _ HS1.out.below) HWN.out (by omega) hc (by decide) (wf_i64 (by omega) (by omega)))
      go_wp2_with fail
      refine HG.out.mono ?_
      rintro e w6 ⟨v, F6, rfl, htd, hat, hmv⟩
      rw [HGF.out] at htd hat
      rw [one_use] at hat
      obtain ⟨x, rfl, hxs, hxf⟩ := told_one htd
      have HS6 := Lib.hid (HS1.out.moved hmv hat)
      have HX6 := Lib.hid hxs
      have HXF := Lib.hid hxf
      clear htd hat hmv hxs hxf HG HGF HS1
      have HNB := Lib.hid ((Below.refl w6.heap.size w6).alloc (Nat.le_refl _) (.cells #[.slice x.A x.name.length x.c, .int .i64 x.h.typ, .int .i64 x.h.knd, .int .i64 x.h.rank, .int .i64 x.h.got, .int .i64 x.h.ttl, .slice x.sA x.sp.length x.sc, .slice x.zA x.zone.length x.zc, .slice x.d.Ab x.soa.bytes.length x.d.cb, .slice x.d.Ah x.soa.host.length x.d.ch, .slice x.d.Am x.soa.mail.length x.d.cm, .slice x.d.An x.soa.nums.length x.d.cn, .slice x.d.At x.soa.texts.length x.d.ct] 36))
      have HXB := Lib.hid (Whole.made w6 (cellsF x) 36)
      have HS7 := Lib.hid (HS6.out.step HNB.out)
      have HX7 := Lib.hid (HX6.out.step HNB.out)
      have HXO := Lib.hid (show ¬ F6 w6.heap.size from fun hf => by have := ((L.at_own HS6.out.cat).2 _ hf).2; omega)
      have HO := Lib.hid (L.old HS7.out.cat (by unfold maxUses; omega) A c n 1 (j : Int) (HW1.out _ HS7.out.below) HWN.out (by omega) hc (by decide) (wf_i64 (by omega) (by omega)))
      go_wp2_with fail
      refine HO.out.mono ?_
      rintro e w8 ⟨v, F8, rfl, htd, hat, hmv⟩
      rw [HOF.out] at htd hat
      rw [one_use] at hat
      obtain ⟨y, rfl, hys, hyf⟩ := told_one htd
      have HS8 := Lib.hid (HS7.out.moved hmv hat)
      have HX8 := Lib.hid (HX7.out.moved hmv)
      have HXB8 := Lib.hid (hmv.whole HXB.out HXO.out)
      have HY8 := Lib.hid hys
      have HYF := Lib.hid hyf
      clear htd hat hmv hys hyf HO HOF HS6 HS7 HX6 HX7 HXB HXO HNB
      have HN9 := Lib.hid ((Below.refl w8.heap.size w8).alloc (Nat.le_refl _) (.cells #[.slice y.A y.name.length y.c, .int .i64 y.h.typ, .int .i64 y.h.knd, .int .i64 y.h.rank, .int .i64 y.h.got, .int .i64 y.h.ttl, .slice y.sA y.sp.length y.sc, .slice y.zA y.zone.length y.zc, .slice y.d.Ab y.soa.bytes.length y.d.cb, .slice y.d.Ah y.soa.host.length y.d.ch, .slice y.d.Am y.soa.mail.length y.d.cm, .slice y.d.An y.soa.nums.length y.d.cn, .slice y.d.At y.soa.texts.length y.d.ct] 36))
      have HYB := Lib.hid (show Whole (w8.alloc (.cells #[.slice y.A y.name.length y.c, .int .i64 y.h.typ, .int .i64 y.h.knd, .int .i64 y.h.rank, .int .i64 y.h.got, .int .i64 y.h.ttl, .slice y.sA y.sp.length y.sc, .slice y.zA y.zone.length y.zc, .slice y.d.Ab y.soa.bytes.length y.d.cb, .slice y.d.Ah y.soa.host.length y.d.ch, .slice y.d.Am y.soa.mail.length y.d.cm, .slice y.d.An y.soa.nums.length y.d.cn, .slice y.d.At y.soa.texts.length y.d.ct] 36)) w8.heap.size 36 (cellsF y) from Whole.made w8 (cellsF y) 36)
      have HS9 := Lib.hid (HS8.out.step HN9.out)
      have HX9 := Lib.hid (HX8.out.step HN9.out)
      have HY9 := Lib.hid (HY8.out.step HN9.out)
      have HXB9 := Lib.hid (HXB8.out.below HN9.out HXB8.out.lt)
      go_upto_region 15 with fail
      generalize hW9 : w8.alloc (.cells #[.slice y.A y.name.length y.c, .int .i64 y.h.typ, .int .i64 y.h.knd, .int .i64 y.h.rank, .int .i64 y.h.got, .int .i64 y.h.ttl, .slice y.sA y.sp.length y.sc, .slice y.zA y.zone.length y.zc, .slice y.d.Ab y.soa.bytes.length y.d.cb, .slice y.d.Ah y.soa.host.length y.d.ch, .slice y.d.Am y.soa.mail.length y.d.cm, .slice y.d.An y.soa.nums.length y.d.cn, .slice y.d.At y.soa.texts.length y.d.ct] 36) = W9 at *
      have a0 : W9.cell? ⟨w6.heap.size, 0, none⟩ = some (.slice x.A x.name.length x.c) := HXB9.out.cell 0
      have a1 : W9.cell? ⟨w6.heap.size, 1, none⟩ = some (.int .i64 x.h.typ) := HXB9.out.cell 1
      have a2 : W9.cell? ⟨w6.heap.size, 2, none⟩ = some (.int .i64 x.h.knd) := HXB9.out.cell 2
      have a3 : W9.cell? ⟨w6.heap.size, 3, none⟩ = some (.int .i64 x.h.rank) := HXB9.out.cell 3
      have a4 : W9.cell? ⟨w6.heap.size, 4, none⟩ = some (.int .i64 x.h.got) := HXB9.out.cell 4
      have a5 : W9.cell? ⟨w6.heap.size, 5, none⟩ = some (.int .i64 x.h.ttl) := HXB9.out.cell 5
      have a6 : W9.cell? ⟨w6.heap.size, 6, none⟩ = some (.slice x.sA x.sp.length x.sc) := HXB9.out.cell 6
      have a7 : W9.cell? ⟨w6.heap.size, 7, none⟩ = some (.slice x.zA x.zone.length x.zc) := HXB9.out.cell 7
      have a8 : W9.cell? ⟨w6.heap.size, 8, none⟩ = some (.slice x.d.Ab x.soa.bytes.length x.d.cb) := HXB9.out.cell 8
      have a9 : W9.cell? ⟨w6.heap.size, 9, none⟩ = some (.slice x.d.Ah x.soa.host.length x.d.ch) := HXB9.out.cell 9
      have a10 : W9.cell? ⟨w6.heap.size, 10, none⟩ = some (.slice x.d.Am x.soa.mail.length x.d.cm) := HXB9.out.cell 10
      have a11 : W9.cell? ⟨w6.heap.size, 11, none⟩ = some (.slice x.d.An x.soa.nums.length x.d.cn) := HXB9.out.cell 11
      have a12 : W9.cell? ⟨w6.heap.size, 12, none⟩ = some (.slice x.d.At x.soa.texts.length x.d.ct) := HXB9.out.cell 12
      have y0 : W9.cell? ⟨w8.heap.size, 0, none⟩ = some (.slice y.A y.name.length y.c) := HYB.out.cell 0
      have y1 : W9.cell? ⟨w8.heap.size, 1, none⟩ = some (.int .i64 y.h.typ) := HYB.out.cell 1
      have y2 : W9.cell? ⟨w8.heap.size, 2, none⟩ = some (.int .i64 y.h.knd) := HYB.out.cell 2
      have y3 : W9.cell? ⟨w8.heap.size, 3, none⟩ = some (.int .i64 y.h.rank) := HYB.out.cell 3
      have y4 : W9.cell? ⟨w8.heap.size, 4, none⟩ = some (.int .i64 y.h.got) := HYB.out.cell 4
      have y5 : W9.cell? ⟨w8.heap.size, 5, none⟩ = some (.int .i64 y.h.ttl) := HYB.out.cell 5
      have y6 : W9.cell? ⟨w8.heap.size, 6, none⟩ = some (.slice y.sA y.sp.length y.sc) := HYB.out.cell 6
      have y7 : W9.cell? ⟨w8.heap.size, 7, none⟩ = some (.slice y.zA y.zone.length y.zc) := HYB.out.cell 7
      have y8 : W9.cell? ⟨w8.heap.size, 8, none⟩ = some (.slice y.d.Ab y.soa.bytes.length y.d.cb) := HYB.out.cell 8
      have y9 : W9.cell? ⟨w8.heap.size, 9, none⟩ = some (.slice y.d.Ah y.soa.host.length y.d.ch) := HYB.out.cell 9
      have y10 : W9.cell? ⟨w8.heap.size, 10, none⟩ = some (.slice y.d.Am y.soa.mail.length y.d.cm) := HYB.out.cell 10
      have y11 : W9.cell? ⟨w8.heap.size, 11, none⟩ = some (.slice y.d.An y.soa.nums.length y.d.cn) := HYB.out.cell 11
      have y12 : W9.cell? ⟨w8.heap.size, 12, none⟩ = some (.slice y.d.At y.soa.texts.length y.d.ct) := HYB.out.cell 12
      have b0 : W9.cell? ⟨w3.heap.size + 1 + 1, 0, none⟩ = some (.slice A3 n.length c3) := HS9.out.box.cell 0
      have b1 : W9.cell? ⟨w3.heap.size + 1 + 1, 1, none⟩ = some (.int .i64 1) := HS9.out.box.cell 1
      have b2 : W9.cell? ⟨w3.heap.size + 1 + 1, 2, none⟩ = some (.int .i64 1) := HS9.out.box.cell 2
      have b3 : W9.cell? ⟨w3.heap.size + 1 + 1, 3, none⟩ = some (.int .i64 3) := HS9.out.box.cell 3
      have b4 : W9.cell? ⟨w3.heap.size + 1 + 1, 4, none⟩ = some (.int .i64 10) := HS9.out.box.cell 4
      have b5 : W9.cell? ⟨w3.heap.size + 1 + 1, 5, none⟩ = some (.int .i64 (tl : Int)) := HS9.out.box.cell 5
      have b6 : W9.cell? ⟨w3.heap.size + 1 + 1, 6, none⟩ = some (.slice (some ⟨w3.heap.size + 1, 0, none⟩) 1 1) := HS9.out.box.cell 6
      have b7 : W9.cell? ⟨w3.heap.size + 1 + 1, 7, none⟩ = some (.slice none 0 0) := HS9.out.box.cell 7
      have b8 : W9.cell? ⟨w3.heap.size + 1 + 1, 8, none⟩ = some (.slice none 0 0) := HS9.out.box.cell 8
      have b9 : W9.cell? ⟨w3.heap.size + 1 + 1, 9, none⟩ = some (.slice none 0 0) := HS9.out.box.cell 9
      have b10 : W9.cell? ⟨w3.heap.size + 1 + 1, 10, none⟩ = some (.slice none 0 0) := HS9.out.box.cell 10
      have b11 : W9.cell? ⟨w3.heap.size + 1 + 1, 11, none⟩ = some (.slice none 0 0) := HS9.out.box.cell 11
      have b12 : W9.cell? ⟨w3.heap.size + 1 + 1, 12, none⟩ = some (.slice none 0 0) := HS9.out.box.cell 12
      clear HS8 HX8 HY8 HXB8 HXB9 HYB HN9 hW9
      cases fr with
      | true =>
        have hp : (j : Int) < 10 + (tl : Int) ∧ 0 < (tl : Int) := by simpa using HFR.out.symm
        have f1 : decide ((j : Int) < 10 + (tl : Int)) = true := decide_eq_true hp.1
        have f2 : decide ((0 : Int) < (tl : Int)) = true := decide_eq_true hp.2
        have g2 : 0 < tl := by omega
        have g4 : decide (tl = 0) = false := decide_eq_false (by omega)
        have f3 : decide (10 + (tl : Int) ≤ (j : Int)) = false := decide_eq_false (by omega)
        have f4 : ((tl : Int) == 0) = false := by rw [beq_eq_false_iff_ne]; omega
        have HCS := Lib.hid (refsame_sound W9 x (fact4 w3.heap.size A3 c3 n ⟨1, 1, 3, 10, (tl : Int)⟩) HX9.out.own.at_ HS9.out.f.own.at_ (by rw [HXF.out rfl]; exact HFS.out) HFS.out)
        rw [show sameF x.fact (fact4 w3.heap.size A3 c3 n ⟨1, 1, 3, 10, (tl : Int)⟩).fact = true by rw [HXF.out rfl]; exact sameF_refl HFS.out] at HCS
        obtain rfl : bo = false := by rw [HBO.out]; rfl
        clear hp
        go_wp2_with fail
        refine HCS.out.mono ?_
        rintro e w10 ⟨rfl, hb10⟩
        have HS10 := Lib.hid (HS9.out.step hb10)
        clear hb10
        go_wp2
        exact ⟨⟨j + 1, F8, by omega, by go_num, HS10.out⟩, by simp [intOf]; omega⟩
      | false =>
        obtain rfl : bo = sl := by rw [HBO.out]; cases sl <;> rfl
        have hnp : ¬ ((j : Int) < 10 + (tl : Int)) ∨ (tl : Int) = 0 := by
          have h := HFR.out.symm
          simp at h
          omega
        cases bo with
        | true =>
          have hr : (j : Int) < 10 + (tl : Int) + (st : Int) := by
            have h := HSL.out.symm
            simp at h
            omega
          have f5 : decide ((j : Int) < 10 + (tl : Int) + (st : Int)) = true := decide_eq_true hr
          have HCS := Lib.hid (refsame_sound W9 y (fact4 w3.heap.size A3 c3 n ⟨1, 1, 3, 10, (tl : Int)⟩) HY9.out.own.at_ HS9.out.f.own.at_ (by rw [HYF.out rfl]; exact HFS.out) HFS.out)
          rw [show sameF y.fact (fact4 w3.heap.size A3 c3 n ⟨1, 1, 3, 10, (tl : Int)⟩).fact = true by rw [HYF.out rfl]; exact sameF_refl HFS.out] at HCS
          by_cases hp : (j : Int) < 10 + (tl : Int)
          · have f1 : decide ((j : Int) < 10 + (tl : Int)) = true := decide_eq_true hp
            have f2 : decide ((0 : Int) < (tl : Int)) = false := decide_eq_false (by omega)
            have g2 : ¬ 0 < tl := by omega
            have g4 : decide (tl = 0) = true := decide_eq_true (by omega)
            have f3 : decide (10 + (tl : Int) ≤ (j : Int)) = false := decide_eq_false (by omega)
            have f4 : ((tl : Int) == 0) = true := by rw [beq_iff_eq]; omega
            clear hp hnp hr
            go_wp2_with fail
            refine HCS.out.mono ?_
            rintro e w10 ⟨rfl, hb10⟩
            have HS10 := Lib.hid (HS9.out.step hb10)
            clear hb10
            go_wp2
            exact ⟨⟨j + 1, F8, by omega, by go_num, HS10.out⟩, by simp [intOf]; omega⟩
          · have f1 : decide ((j : Int) < 10 + (tl : Int)) = false := decide_eq_false hp
            have f3 : decide (10 + (tl : Int) ≤ (j : Int)) = true := decide_eq_true (by omega)
            clear hp hnp hr
            go_wp2_with fail
            refine HCS.out.mono ?_
            rintro e w10 ⟨rfl, hb10⟩
            have HS10 := Lib.hid (HS9.out.step hb10)
            clear hb10
            go_wp2
            exact ⟨⟨j + 1, F8, by omega, by go_num, HS10.out⟩, by simp [intOf]; omega⟩
        | false =>
          have hr : ¬ ((j : Int) < 10 + (tl : Int) + (st : Int)) := by
            have h := HSL.out.symm
            simp at h
            omega
          have f5 : decide ((j : Int) < 10 + (tl : Int) + (st : Int)) = false := decide_eq_false hr
          by_cases hp : (j : Int) < 10 + (tl : Int)
          · have f1 : decide ((j : Int) < 10 + (tl : Int)) = true := decide_eq_true hp
            have f2 : decide ((0 : Int) < (tl : Int)) = false := decide_eq_false (by omega)
            have g2 : ¬ 0 < tl := by omega
            have g4 : decide (tl = 0) = true := decide_eq_true (by omega)
            have f3 : decide (10 + (tl : Int) ≤ (j : Int)) = false := decide_eq_false (by omega)
            have f4 : ((tl : Int) == 0) = true := by rw [beq_iff_eq]; omega
            clear hp hnp hr
            go_wp2
            exact ⟨⟨j + 1, F8, by omega, by go_num, HS9.out⟩, by simp [intOf]; omega⟩
          · have f1 : decide ((j : Int) < 10 + (tl : Int)) = false := decide_eq_false hp
            have f3 : decide (10 + (tl : Int) ≤ (j : Int)) = true := decide_eq_true (by omega)
            clear hp hnp hr
            go_wp2
            exact ⟨⟨j + 1, F8, by omega, by go_num, HS9.out⟩, by simp [intOf]; omega⟩
  | true =>
    go_upto_region 7 with (
      at_builtin
      refine wpList_append_row rfl (.tmp 46) (.tmp 47) _ rfl w2.heap.size 9 is _ 1 16 Tryz.underlying29 his hzs hss hbs rfl (by decide) _ 0 [] rfl HLT.out A n.length c (w2.heap.size + 1) (n.map sv) rfl (by simp) (((HN.out.below HB2.out).mono HB2.out.size).alloc (Nat.le_refl _) _ |>.mono (by simp)) (sv_one _) (by unfold maxLen; omega) (by omega) (by simp) ?_
      intro v3 w3 hown3 hg3
      have HB3 := Lib.hid (show Below w2.heap.size w2 w3 from own_below ((Below.refl _ _).alloc (Nat.le_refl _) _) (Nat.le_refl _) (by simp) HLT.out hg3)
      obtain ⟨A3, c3, rfl, _, _⟩ := own_form hown3
      rw [Nat.zero_add, List.nil_append] at hown3
      have HO3 := Lib.hid hown3
      clear hown3 hg3)
    have h4 := fact4_at HB3.out.size HO3.out ⟨1, 1, 3, 10, (tl : Int)⟩
    have hB4 : Below w3.heap.size w3 (((w3.alloc (.cells #[.int .u8 1, .int .u8 2, .int .u8 3, .int .u8 4] 5)).alloc (.cells #[.slice (some ⟨w3.heap.size, 0, none⟩) 4 4, .slice none 0 0, .slice none 0 0, .slice none 0 0, .slice none 0 0] 34)).alloc (.cells #[.slice A3 n.length c3, .int .i64 1, .int .i64 1, .int .i64 3, .int .i64 10, .int .i64 (tl : Int), .slice (some ⟨w3.heap.size + 1, 0, none⟩) 1 1, .slice none 0 0, .slice none 0 0, .slice none 0 0, .slice none 0 0, .slice none 0 0, .slice none 0 0] 36)) := h4.2.2
    have hX4 : Whole (((w3.alloc (.cells #[.int .u8 1, .int .u8 2, .int .u8 3, .int .u8 4] 5)).alloc (.cells #[.slice (some ⟨w3.heap.size, 0, none⟩) 4 4, .slice none 0 0, .slice none 0 0, .slice none 0 0, .slice none 0 0] 34)).alloc (.cells #[.slice A3 n.length c3, .int .i64 1, .int .i64 1, .int .i64 3, .int .i64 10, .int .i64 (tl : Int), .slice (some ⟨w3.heap.size + 1, 0, none⟩) 1 1, .slice none 0 0, .slice none 0 0, .slice none 0 0, .slice none 0 0, .slice none 0 0, .slice none 0 0] 36)) (w3.heap.size + 2) 36 [.slice A3 n.length c3, .int .i64 1, .int .i64 1, .int .i64 3, .int .i64 10, .int .i64 (tl : Int), .slice (some ⟨w3.heap.size + 1, 0, none⟩) 1 1, .slice none 0 0, .slice none 0 0, .slice none 0 0, .slice none 0 0, .slice none 0 0, .slice none 0 0] := h4.2.1
    clear h4
    generalize (((w3.alloc (.cells #[.int .u8 1, .int .u8 2, .int .u8 3, .int .u8 4] 5)).alloc (.cells #[.slice (some ⟨w3.heap.size, 0, none⟩) 4 4, .slice none 0 0, .slice none 0 0, .slice none 0 0, .slice none 0 0] 34)).alloc (.cells #[.slice A3 n.length c3, .int .i64 1, .int .i64 1, .int .i64 3, .int .i64 10, .int .i64 (tl : Int), .slice (some ⟨w3.heap.size + 1, 0, none⟩) 1 1, .slice none 0 0, .slice none 0 0, .slice none 0 0, .slice none 0 0, .slice none 0 0, .slice none 0 0] 36)) = V at *
    have HVG := Lib.hid (show w3.heap.size + 2 < V.heap.size from hX4.lt)
    have HNI := Lib.hid ((Below.refl V.heap.size V).alloc (Nat.le_refl _) (.cells #[.int .i64 1, .int .i64 2, .int .i64 3, .int .i64 4, .int .i64 5] 3))
    have HX0 := Lib.hid (hX4.below HNI.out hX4.lt)
    have HI0 := Lib.hid (show Whole (V.alloc (.cells #[.int .i64 1, .int .i64 2, .int .i64 3, .int .i64 4, .int .i64 5] 3)) V.heap.size 3 [.int .i64 1, .int .i64 2, .int .i64 3, .int .i64 4, .int .i64 5] from Whole.made V [.int .i64 1, .int .i64 2, .int .i64 3, .int .i64 4, .int .i64 5] _)
    have HU0 := Lib.hid (show Below w3.heap.size w3 (V.alloc (.cells #[.int .i64 1, .int .i64 2, .int .i64 3, .int .i64 4, .int .i64 5] 3)) from hB4.trans (HNI.out.mono hB4.size))
    clear hB4 hX4 HNI
    go_wp2_with (first
    | (refine wpList_store_one rfl 3 (.tmp 57) (.const (.int .i64 0)) rfl (w3.heap.size + 2) 1 (.int .i64 0) rfl rfl rfl int_oneC 36 _ HX0.out _ rfl ?_
       intro V1 hV hG hZ
       have HX1 := Lib.hid (show Whole V1 (w3.heap.size + 2) 36 [.slice A3 n.length c3, .int .i64 0, .int .i64 1, .int .i64 3, .int .i64 10, .int .i64 (tl : Int), .slice (some ⟨w3.heap.size + 1, 0, none⟩) 1 1, .slice none 0 0, .slice none 0 0, .slice none 0 0, .slice none 0 0, .slice none 0 0, .slice none 0 0] from hV)
       have HI1 := Lib.hid (show Whole V1 V.heap.size 3 [.int .i64 1, .int .i64 2, .int .i64 3, .int .i64 4, .int .i64 5] from (hG.block _ HI0.out.lt (by have := HVG.out; omega)).trans HI0.out)
       have HU1 := Lib.hid (HU0.out.trans (hG.below (fun j e => by rw [e]; omega) HU0.out.size))
       clear hV hG hZ)
    | (refine wpList_store_one rfl 3 (.tmp 58) (.const (.int .i64 3)) rfl (w3.heap.size + 2) 2 (.int .i64 3) rfl rfl rfl int_oneC 36 _ HX1.out _ rfl ?_
       intro V2 hV hG hZ
       have HX2 := Lib.hid (show Whole V2 (w3.heap.size + 2) 36 [.slice A3 n.length c3, .int .i64 0, .int .i64 3, .int .i64 3, .int .i64 10, .int .i64 (tl : Int), .slice (some ⟨w3.heap.size + 1, 0, none⟩) 1 1, .slice none 0 0, .slice none 0 0, .slice none 0 0, .slice none 0 0, .slice none 0 0, .slice none 0 0] from hV)
       have HI2 := Lib.hid (show Whole V2 V.heap.size 3 [.int .i64 1, .int .i64 2, .int .i64 3, .int .i64 4, .int .i64 5] from (hG.block _ HI1.out.lt (by have := HVG.out; omega)).trans HI1.out)
       have HU2 := Lib.hid (HU1.out.trans (hG.below (fun j e => by rw [e]; omega) HU1.out.size))
       clear hV hG hZ)
    | (refine wpList_store_one rfl 30 (.tmp 59) (.const (.slice none 0 0)) rfl (w3.heap.size + 2) 6 (.slice none 0 0) rfl rfl rfl dats_size 36 _ HX2.out _ rfl ?_
       intro V3 hV hG hZ
       have HX3 := Lib.hid (show Whole V3 (w3.heap.size + 2) 36 [.slice A3 n.length c3, .int .i64 0, .int .i64 3, .int .i64 3, .int .i64 10, .int .i64 (tl : Int), .slice none 0 0, .slice none 0 0, .slice none 0 0, .slice none 0 0, .slice none 0 0, .slice none 0 0, .slice none 0 0] from hV)
       have HI3 := Lib.hid (show Whole V3 V.heap.size 3 [.int .i64 1, .int .i64 2, .int .i64 3, .int .i64 4, .int .i64 5] from (hG.block _ HI2.out.lt (by have := HVG.out; omega)).trans HI2.out)
       have HU3 := Lib.hid (HU2.out.trans (hG.below (fun j e => by rw [e]; omega) HU2.out.size))
       clear hV hG hZ)
    | (refine wpList_store_at rfl 34 (.tmp 60) (.tmp 56) rfl (w3.heap.size + 2) 8 [.slice none 0 0, .slice none 0 0, .slice none 0 0, .slice (some ⟨V.heap.size, 0, none⟩) 5 5, .slice none 0 0] rfl rfl 36 _ HX3.out (Nat.le_refl 13) data_size (fun u hu => by
         simp only [List.mem_cons, List.not_mem_nil, or_false] at hu
         rcases hu with rfl | rfl | rfl | rfl | rfl <;> rfl) ?_
       intro V4 hV hG hZ
       have HX4 := Lib.hid (show Whole V4 (w3.heap.size + 2) 36 (cellsF (fact5 V.heap.size A3 c3 n ⟨0, 3, 3, 10, (tl : Int)⟩)) from hV)
       have HI4 := Lib.hid (show Whole V4 V.heap.size 3 [.int .i64 1, .int .i64 2, .int .i64 3, .int .i64 4, .int .i64 5] from (hG.block _ HI3.out.lt (by have := HVG.out; omega)).trans HI3.out)
       have HU4 := Lib.hid (HU3.out.trans (hG.below (fun j e => by rw [e]; omega) HU3.out.size))
       have e0 : V4.cell? ⟨w3.heap.size + 1 + 1, 0, none⟩ = some (.slice A3 n.length c3) := HX4.out.cell 0
       have e1 : V4.cell? ⟨w3.heap.size + 1 + 1, 1, none⟩ = some (.int .i64 0) := HX4.out.cell 1
       have e2 : V4.cell? ⟨w3.heap.size + 1 + 1, 2, none⟩ = some (.int .i64 3) := HX4.out.cell 2
       have e3 : V4.cell? ⟨w3.heap.size + 1 + 1, 3, none⟩ = some (.int .i64 3) := HX4.out.cell 3
       have e4 : V4.cell? ⟨w3.heap.size + 1 + 1, 4, none⟩ = some (.int .i64 10) := HX4.out.cell 4
       have e5 : V4.cell? ⟨w3.heap.size + 1 + 1, 5, none⟩ = some (.int .i64 (tl : Int)) := HX4.out.cell 5
       have e6 : V4.cell? ⟨w3.heap.size + 1 + 1, 6, none⟩ = some (.slice none 0 0) := HX4.out.cell 6
       have e7 : V4.cell? ⟨w3.heap.size + 1 + 1, 7, none⟩ = some (.slice none 0 0) := HX4.out.cell 7
       have e8 : V4.cell? ⟨w3.heap.size + 1 + 1, 8, none⟩ = some (.slice none 0 0) := HX4.out.cell 8
       have e9 : V4.cell? ⟨w3.heap.size + 1 + 1, 9, none⟩ = some (.slice none 0 0) := HX4.out.cell 9
       have e10 : V4.cell? ⟨w3.heap.size + 1 + 1, 10, none⟩ = some (.slice none 0 0) := HX4.out.cell 10
       have e11 : V4.cell? ⟨w3.heap.size + 1 + 1, 11, none⟩ = some (.slice (some ⟨V.heap.size, 0, none⟩) 5 5) := HX4.out.cell 11
       have e12 : V4.cell? ⟨w3.heap.size + 1 + 1, 12, none⟩ = some (.slice none 0 0) := HX4.out.cell 12
       clear hV hG hZ))
    have HFS := Lib.hid (show soundF (fact5 V.heap.size A3 c3 n ⟨0, 3, 3, 10, (tl : Int)⟩).fact = true from fact5_sound HSN.out rfl rfl (show (1 : Int) ≤ 3 ∧ (3 : Int) ≤ 4 by decide) (show timeB 10 = true by decide +kernel) ⟨by show (0 : Int) ≤ tl; omega, by show (tl : Int) ≤ 10800; omega⟩)
    have HTY := Lib.hid (show (fact5 V.heap.size A3 c3 n ⟨0, 3, 3, 10, (tl : Int)⟩).fact.h.typ = 1 ∨ (fact5 V.heap.size A3 c3 n ⟨0, 3, 3, 10, (tl : Int)⟩).fact.h.typ = 0 from .inr rfl)
    have HBW := Lib.hid (show Below w2.heap.size w2 V4 from HB3.out.trans (HU4.out.mono HB3.out.size))
    have HSF := Lib.hid (FSafe.of_base (fact5_own (own_keep HO3.out fun j e => HU4.out.block j (HO3.out.lt j e).2) ⟨0, 3, 3, 10, (tl : Int)⟩ HI4.out (by have h1 := HVG.out; have h2 := HB3.out.size; omega)) HFB.out)
    refine (L.put (L.at_below HA2.out HBW.out) (by decide) (fact5 V.heap.size A3 c3 n ⟨0, 3, 3, 10, (tl : Int)⟩) 10 HSF.out.own.at_ (soundF_in HFS.out) (fact5_few (by omega)) (by decide)).mono ?_
    rintro e w5 ⟨F5, rfl, hat5, hmv5⟩
    have hp := one_put (st : Int) (fact5 V.heap.size A3 c3 n ⟨0, 3, 3, 10, (tl : Int)⟩).fact 10 HFS.out (by decide +kernel)
    have HS := Lib.hid (show StaleAt L w cv ⟨5, (st : Int), [(fact5 V.heap.size A3 c3 n ⟨0, 3, 3, 10, (tl : Int)⟩).fact]⟩ w2.heap.size (fact5 V.heap.size A3 c3 n ⟨0, 3, 3, 10, (tl : Int)⟩) (w3.heap.size + 2) F5 w5 1 from
      StaleAt.moved (C := ⟨(5 : Int).toNat, (st : Int), []⟩) ⟨L.at_below HA2.out HBW.out, HSF.out, HX4.out, fun hf => by have h1 := HFB.out _ hf; have h2 := HB3.out.size; omega, HB2.out.trans (HBW.out.mono HB2.out.size)⟩ hmv5 (by rw [← hp.2]; exact hat5))
    rw [show Ca.putB ⟨(5 : Int).toNat, (st : Int), []⟩ (fact5 V.heap.size A3 c3 n ⟨0, 3, 3, 10, (tl : Int)⟩).fact 10 = true from hp.1]
    clear hp hat5 hmv5 HSF HBW HO3
    clear HFB HLT HA2 HB2 HSN HAN
    have HW1 := Lib.hid (fun W (hb : Below w.heap.size w W) => (HN.out.below hb).mono hb.size)
    go_wp2
    go_loopw [14] (StaleRel L w cv ⟨5, (st : Int), [(fact5 V.heap.size A3 c3 n ⟨0, 3, 3, 10, (tl : Int)⟩).fact]⟩ w2.heap.size (fact5 V.heap.size A3 c3 n ⟨0, 3, 3, 10, (tl : Int)⟩) (w3.heap.size + 2)) (fun i _ => 140 - (intOf i).toNat)
    case atStart => exact ⟨0, _, Nat.zero_le _, rfl, HS.out⟩
    case round =>
      obtain ⟨j, F1, hj, rfl, hsr⟩ := hrel
      have HS1 := Lib.hid hsr
      clear hsr
      by_cases hlt : j < 140
      case neg =>
        obtain rfl : j = 140 := by omega
        go_wp2
        go_ret
        exact ⟨rfl, HS1.out.below⟩
      have l0 : decide ((j : Int) < 140) = true := decide_eq_true (by omega)
      obtain ⟨fr, hfr⟩ : ∃ fr, fr = (decide ((j : Int) < 10 + (tl : Int)) && decide (0 < (tl : Int))) := ⟨_, rfl⟩
      obtain ⟨sl, hsl⟩ : ∃ sl, sl = ((decide (10 + (tl : Int) ≤ (j : Int)) || decide ((tl : Int) = 0)) && decide ((j : Int) < 10 + (tl : Int) + (st : Int))) := ⟨_, rfl⟩
      have HGF := Lib.hid (show Ca.getF ⟨5, (st : Int), [(fact5 V.heap.size A3 c3 n ⟨0, 3, 3, 10, (tl : Int)⟩).fact]⟩ n 1 (j : Int) = if fr = true then some (fact5 V.heap.size A3 c3 n ⟨0, 3, 3, 10, (tl : Int)⟩).fact else none from by
        have h1 := one_pick 5 (st : Int) (fact5 V.heap.size A3 c3 n ⟨0, 3, 3, 10, (tl : Int)⟩).fact (freshF (j : Int)) HTY.out
        rw [fresh_is (ttl := (tl : Int)) rfl rfl (by omega) (by omega) (by omega) (by omega), ← hfr] at h1
        exact h1)
      have HOF := Lib.hid (show Ca.oldF ⟨5, (st : Int), [(fact5 V.heap.size A3 c3 n ⟨0, 3, 3, 10, (tl : Int)⟩).fact]⟩ n 1 (j : Int) = if (!fr && sl) = true then some (fact5 V.heap.size A3 c3 n ⟨0, 3, 3, 10, (tl : Int)⟩).fact else none from by
        unfold Ca.oldF
        rw [HGF.out]
        cases fr
        · have h1 := one_pick 5 (st : Int) (fact5 V.heap.size A3 c3 n ⟨0, 3, 3, 10, (tl : Int)⟩).fact (staleF (st : Int) (j : Int)) HTY.out
          rw [stale_is (ttl := (tl : Int)) rfl rfl (by omega) (by omega) (by omega) (by omega) (by omega) (by omega), ← hsl] at h1
          exact h1
        · rfl)
      obtain ⟨bo, hbo⟩ : ∃ bo, bo = (!fr && sl) := ⟨_, rfl⟩
      rw [← hbo] at HOF
      have HFR := Lib.hid hfr
      have HSL := Lib.hid hsl
      have HBO := Lib.hid hbo
      clear hfr hsl hbo
      have HG := Lib.hid (L.get HS1.out.cat (by unfold maxUses; omega) A c n 1 (j : Int) (HW1.out _ HS1.out.below) HWN.out (by omega) hc (by decide) (wf_i64 (by omega) (by omega)))
      go_wp2_with fail
      refine HG.out.mono ?_
      rintro e w6 ⟨v, F6, rfl, htd, hat, hmv⟩
      rw [HGF.out] at htd hat
      rw [one_use] at hat
      obtain ⟨x, rfl, hxs, hxf⟩ := told_one htd
      have HS6 := Lib.hid (HS1.out.moved hmv hat)
      have HX6 := Lib.hid hxs
      have HXF := Lib.hid hxf
      clear htd hat hmv hxs hxf HG HGF HS1
      have HNB := Lib.hid ((Below.refl w6.heap.size w6).alloc (Nat.le_refl _) (.cells #[.slice x.A x.name.length x.c, .int .i64 x.h.typ, .int .i64 x.h.knd, .int .i64 x.h.rank, .int .i64 x.h.got, .int .i64 x.h.ttl, .slice x.sA x.sp.length x.sc, .slice x.zA x.zone.length x.zc, .slice x.d.Ab x.soa.bytes.length x.d.cb, .slice x.d.Ah x.soa.host.length x.d.ch, .slice x.d.Am x.soa.mail.length x.d.cm, .slice x.d.An x.soa.nums.length x.d.cn, .slice x.d.At x.soa.texts.length x.d.ct] 36))
      have HXB := Lib.hid (Whole.made w6 (cellsF x) 36)
      have HS7 := Lib.hid (HS6.out.step HNB.out)
      have HX7 := Lib.hid (HX6.out.step HNB.out)
      have HXO := Lib.hid (show ¬ F6 w6.heap.size from fun hf => by have := ((L.at_own HS6.out.cat).2 _ hf).2; omega)
      have HO := Lib.hid (L.old HS7.out.cat (by unfold maxUses; omega) A c n 1 (j : Int) (HW1.out _ HS7.out.below) HWN.out (by omega) hc (by decide) (wf_i64 (by omega) (by omega)))
      go_wp2_with fail
      refine HO.out.mono ?_
      rintro e w8 ⟨v, F8, rfl, htd, hat, hmv⟩
      rw [HOF.out] at htd hat
      rw [one_use] at hat
      obtain ⟨y, rfl, hys, hyf⟩ := told_one htd
      have HS8 := Lib.hid (HS7.out.moved hmv hat)
      have HX8 := Lib.hid (HX7.out.moved hmv)
      have HXB8 := Lib.hid (hmv.whole HXB.out HXO.out)
      have HY8 := Lib.hid hys
      have HYF := Lib.hid hyf
      clear htd hat hmv hys hyf HO HOF HS6 HS7 HX6 HX7 HXB HXO HNB
      have HN9 := Lib.hid ((Below.refl w8.heap.size w8).alloc (Nat.le_refl _) (.cells #[.slice y.A y.name.length y.c, .int .i64 y.h.typ, .int .i64 y.h.knd, .int .i64 y.h.rank, .int .i64 y.h.got, .int .i64 y.h.ttl, .slice y.sA y.sp.length y.sc, .slice y.zA y.zone.length y.zc, .slice y.d.Ab y.soa.bytes.length y.d.cb, .slice y.d.Ah y.soa.host.length y.d.ch, .slice y.d.Am y.soa.mail.length y.d.cm, .slice y.d.An y.soa.nums.length y.d.cn, .slice y.d.At y.soa.texts.length y.d.ct] 36))
      have HYB := Lib.hid (show Whole (w8.alloc (.cells #[.slice y.A y.name.length y.c, .int .i64 y.h.typ, .int .i64 y.h.knd, .int .i64 y.h.rank, .int .i64 y.h.got, .int .i64 y.h.ttl, .slice y.sA y.sp.length y.sc, .slice y.zA y.zone.length y.zc, .slice y.d.Ab y.soa.bytes.length y.d.cb, .slice y.d.Ah y.soa.host.length y.d.ch, .slice y.d.Am y.soa.mail.length y.d.cm, .slice y.d.An y.soa.nums.length y.d.cn, .slice y.d.At y.soa.texts.length y.d.ct] 36)) w8.heap.size 36 (cellsF y) from Whole.made w8 (cellsF y) 36)
      have HS9 := Lib.hid (HS8.out.step HN9.out)
      have HX9 := Lib.hid (HX8.out.step HN9.out)
      have HY9 := Lib.hid (HY8.out.step HN9.out)
      have HXB9 := Lib.hid (HXB8.out.below HN9.out HXB8.out.lt)
      go_upto_region 15 with fail
      generalize hW9 : w8.alloc (.cells #[.slice y.A y.name.length y.c, .int .i64 y.h.typ, .int .i64 y.h.knd, .int .i64 y.h.rank, .int .i64 y.h.got, .int .i64 y.h.ttl, .slice y.sA y.sp.length y.sc, .slice y.zA y.zone.length y.zc, .slice y.d.Ab y.soa.bytes.length y.d.cb, .slice y.d.Ah y.soa.host.length y.d.ch, .slice y.d.Am y.soa.mail.length y.d.cm, .slice y.d.An y.soa.nums.length y.d.cn, .slice y.d.At y.soa.texts.length y.d.ct] 36) = W9 at *
      have a0 : W9.cell? ⟨w6.heap.size, 0, none⟩ = some (.slice x.A x.name.length x.c) := HXB9.out.cell 0
      have a1 : W9.cell? ⟨w6.heap.size, 1, none⟩ = some (.int .i64 x.h.typ) := HXB9.out.cell 1
      have a2 : W9.cell? ⟨w6.heap.size, 2, none⟩ = some (.int .i64 x.h.knd) := HXB9.out.cell 2
      have a3 : W9.cell? ⟨w6.heap.size, 3, none⟩ = some (.int .i64 x.h.rank) := HXB9.out.cell 3
      have a4 : W9.cell? ⟨w6.heap.size, 4, none⟩ = some (.int .i64 x.h.got) := HXB9.out.cell 4
      have a5 : W9.cell? ⟨w6.heap.size, 5, none⟩ = some (.int .i64 x.h.ttl) := HXB9.out.cell 5
      have a6 : W9.cell? ⟨w6.heap.size, 6, none⟩ = some (.slice x.sA x.sp.length x.sc) := HXB9.out.cell 6
      have a7 : W9.cell? ⟨w6.heap.size, 7, none⟩ = some (.slice x.zA x.zone.length x.zc) := HXB9.out.cell 7
      have a8 : W9.cell? ⟨w6.heap.size, 8, none⟩ = some (.slice x.d.Ab x.soa.bytes.length x.d.cb) := HXB9.out.cell 8
      have a9 : W9.cell? ⟨w6.heap.size, 9, none⟩ = some (.slice x.d.Ah x.soa.host.length x.d.ch) := HXB9.out.cell 9
      have a10 : W9.cell? ⟨w6.heap.size, 10, none⟩ = some (.slice x.d.Am x.soa.mail.length x.d.cm) := HXB9.out.cell 10
      have a11 : W9.cell? ⟨w6.heap.size, 11, none⟩ = some (.slice x.d.An x.soa.nums.length x.d.cn) := HXB9.out.cell 11
      have a12 : W9.cell? ⟨w6.heap.size, 12, none⟩ = some (.slice x.d.At x.soa.texts.length x.d.ct) := HXB9.out.cell 12
      have y0 : W9.cell? ⟨w8.heap.size, 0, none⟩ = some (.slice y.A y.name.length y.c) := HYB.out.cell 0
      have y1 : W9.cell? ⟨w8.heap.size, 1, none⟩ = some (.int .i64 y.h.typ) := HYB.out.cell 1
      have y2 : W9.cell? ⟨w8.heap.size, 2, none⟩ = some (.int .i64 y.h.knd) := HYB.out.cell 2
      have y3 : W9.cell? ⟨w8.heap.size, 3, none⟩ = some (.int .i64 y.h.rank) := HYB.out.cell 3
      have y4 : W9.cell? ⟨w8.heap.size, 4, none⟩ = some (.int .i64 y.h.got) := HYB.out.cell 4
      have y5 : W9.cell? ⟨w8.heap.size, 5, none⟩ = some (.int .i64 y.h.ttl) := HYB.out.cell 5
      have y6 : W9.cell? ⟨w8.heap.size, 6, none⟩ = some (.slice y.sA y.sp.length y.sc) := HYB.out.cell 6
      have y7 : W9.cell? ⟨w8.heap.size, 7, none⟩ = some (.slice y.zA y.zone.length y.zc) := HYB.out.cell 7
      have y8 : W9.cell? ⟨w8.heap.size, 8, none⟩ = some (.slice y.d.Ab y.soa.bytes.length y.d.cb) := HYB.out.cell 8
      have y9 : W9.cell? ⟨w8.heap.size, 9, none⟩ = some (.slice y.d.Ah y.soa.host.length y.d.ch) := HYB.out.cell 9
      have y10 : W9.cell? ⟨w8.heap.size, 10, none⟩ = some (.slice y.d.Am y.soa.mail.length y.d.cm) := HYB.out.cell 10
      have y11 : W9.cell? ⟨w8.heap.size, 11, none⟩ = some (.slice y.d.An y.soa.nums.length y.d.cn) := HYB.out.cell 11
      have y12 : W9.cell? ⟨w8.heap.size, 12, none⟩ = some (.slice y.d.At y.soa.texts.length y.d.ct) := HYB.out.cell 12
      have b0 : W9.cell? ⟨w3.heap.size + 1 + 1, 0, none⟩ = some (.slice A3 n.length c3) := HS9.out.box.cell 0
      have b1 : W9.cell? ⟨w3.heap.size + 1 + 1, 1, none⟩ = some (.int .i64 0) := HS9.out.box.cell 1
      have b2 : W9.cell? ⟨w3.heap.size + 1 + 1, 2, none⟩ = some (.int .i64 3) := HS9.out.box.cell 2
      have b3 : W9.cell? ⟨w3.heap.size + 1 + 1, 3, none⟩ = some (.int .i64 3) := HS9.out.box.cell 3
      have b4 : W9.cell? ⟨w3.heap.size + 1 + 1, 4, none⟩ = some (.int .i64 10) := HS9.out.box.cell 4
      have b5 : W9.cell? ⟨w3.heap.size + 1 + 1, 5, none⟩ = some (.int .i64 (tl : Int)) := HS9.out.box.cell 5
      have b6 : W9.cell? ⟨w3.heap.size + 1 + 1, 6, none⟩ = some (.slice none 0 0) := HS9.out.box.cell 6
      have b7 : W9.cell? ⟨w3.heap.size + 1 + 1, 7, none⟩ = some (.slice none 0 0) := HS9.out.box.cell 7
      have b8 : W9.cell? ⟨w3.heap.size + 1 + 1, 8, none⟩ = some (.slice none 0 0) := HS9.out.box.cell 8
      have b9 : W9.cell? ⟨w3.heap.size + 1 + 1, 9, none⟩ = some (.slice none 0 0) := HS9.out.box.cell 9
      have b10 : W9.cell? ⟨w3.heap.size + 1 + 1, 10, none⟩ = some (.slice none 0 0) := HS9.out.box.cell 10
      have b11 : W9.cell? ⟨w3.heap.size + 1 + 1, 11, none⟩ = some (.slice (some ⟨V.heap.size, 0, none⟩) 5 5) := HS9.out.box.cell 11
      have b12 : W9.cell? ⟨w3.heap.size + 1 + 1, 12, none⟩ = some (.slice none 0 0) := HS9.out.box.cell 12
      clear HS8 HX8 HY8 HXB8 HXB9 HYB HN9 hW9
      cases fr with
      | true =>
        have hp : (j : Int) < 10 + (tl : Int) ∧ 0 < (tl : Int) := by simpa using HFR.out.symm
        have f1 : decide ((j : Int) < 10 + (tl : Int)) = true := decide_eq_true hp.1
        have f2 : decide ((0 : Int) < (tl : Int)) = true := decide_eq_true hp.2
        have g2 : 0 < tl := by omega
        have g4 : decide (tl = 0) = false := decide_eq_false (by omega)
        have f3 : decide (10 + (tl : Int) ≤ (j : Int)) = false := decide_eq_false (by omega)
        have f4 : ((tl : Int) == 0) = false := by rw [beq_eq_false_iff_ne]; omega
        have HCS := Lib.hid (refsame_sound W9 x (fact5 V.heap.size A3 c3 n ⟨0, 3, 3, 10, (tl : Int)⟩) HX9.out.own.at_ HS9.out.f.own.at_ (by rw [HXF.out rfl]; exact HFS.out) HFS.out)
        rw [show sameF x.fact (fact5 V.heap.size A3 c3 n ⟨0, 3, 3, 10, (tl : Int)⟩).fact = true by rw [HXF.out rfl]; exact sameF_refl HFS.out] at HCS
        obtain rfl : bo = false := by rw [HBO.out]; rfl
        clear hp
        go_wp2_with fail
        refine HCS.out.mono ?_
        rintro e w10 ⟨rfl, hb10⟩
        have HS10 := Lib.hid (HS9.out.step hb10)
        clear hb10
        go_wp2
        exact ⟨⟨j + 1, F8, by omega, by go_num, HS10.out⟩, by simp [intOf]; omega⟩
      | false =>
        obtain rfl : bo = sl := by rw [HBO.out]; cases sl <;> rfl
        have hnp : ¬ ((j : Int) < 10 + (tl : Int)) ∨ (tl : Int) = 0 := by
          have h := HFR.out.symm
          simp at h
          omega
        cases bo with
        | true =>
          have hr : (j : Int) < 10 + (tl : Int) + (st : Int) := by
            have h := HSL.out.symm
            simp at h
            omega
          have f5 : decide ((j : Int) < 10 + (tl : Int) + (st : Int)) = true := decide_eq_true hr
          have HCS := Lib.hid (refsame_sound W9 y (fact5 V.heap.size A3 c3 n ⟨0, 3, 3, 10, (tl : Int)⟩) HY9.out.own.at_ HS9.out.f.own.at_ (by rw [HYF.out rfl]; exact HFS.out) HFS.out)
          rw [show sameF y.fact (fact5 V.heap.size A3 c3 n ⟨0, 3, 3, 10, (tl : Int)⟩).fact = true by rw [HYF.out rfl]; exact sameF_refl HFS.out] at HCS
          by_cases hp : (j : Int) < 10 + (tl : Int)
          · have f1 : decide ((j : Int) < 10 + (tl : Int)) = true := decide_eq_true hp
            have f2 : decide ((0 : Int) < (tl : Int)) = false := decide_eq_false (by omega)
            have g2 : ¬ 0 < tl := by omega
            have g4 : decide (tl = 0) = true := decide_eq_true (by omega)
            have f3 : decide (10 + (tl : Int) ≤ (j : Int)) = false := decide_eq_false (by omega)
            have f4 : ((tl : Int) == 0) = true := by rw [beq_iff_eq]; omega
            clear hp hnp hr
            go_wp2_with fail
            refine HCS.out.mono ?_
            rintro e w10 ⟨rfl, hb10⟩
            have HS10 := Lib.hid (HS9.out.step hb10)
            clear hb10
            go_wp2
            exact ⟨⟨j + 1, F8, by omega, by go_num, HS10.out⟩, by simp [intOf]; omega⟩
          · have f1 : decide ((j : Int) < 10 + (tl : Int)) = false := decide_eq_false hp
            have f3 : decide (10 + (tl : Int) ≤ (j : Int)) = true := decide_eq_true (by omega)
            clear hp hnp hr
            go_wp2_with fail
            refine HCS.out.mono ?_
            rintro e w10 ⟨rfl, hb10⟩
            have HS10 := Lib.hid (HS9.out.step hb10)
            clear hb10
            go_wp2
            exact ⟨⟨j + 1, F8, by omega, by go_num, HS10.out⟩, by simp [intOf]; omega⟩
        | false =>
          have hr : ¬ ((j : Int) < 10 + (tl : Int) + (st : Int)) := by
            have h := HSL.out.symm
            simp at h
            omega
          have f5 : decide ((j : Int) < 10 + (tl : Int) + (st : Int)) = false := decide_eq_false hr
          by_cases hp : (j : Int) < 10 + (tl : Int)
          · have f1 : decide ((j : Int) < 10 + (tl : Int)) = true := decide_eq_true hp
            have f2 : decide ((0 : Int) < (tl : Int)) = false := decide_eq_false (by omega)
            have g2 : ¬ 0 < tl := by omega
            have g4 : decide (tl = 0) = true := decide_eq_true (by omega)
            have f3 : decide (10 + (tl : Int) ≤ (j : Int)) = false := decide_eq_false (by omega)
            have f4 : ((tl : Int) == 0) = true := by rw [beq_iff_eq]; omega
            clear hp hnp hr
            go_wp2
            exact ⟨⟨j + 1, F8, by omega, by go_num, HS9.out⟩, by simp [intOf]; omega⟩
          · have f1 : decide ((j : Int) < 10 + (tl : Int)) = false := decide_eq_false hp
            have f3 : decide (10 + (tl : Int) ≤ (j : Int)) = true := decide_eq_true (by omega)
            clear hp hnp hr
            go_wp2
            exact ⟨⟨j + 1, F8, by omega, by go_num, HS9.out⟩, by simp [intOf]; omega⟩

end Go.Proofs.YtmbcbfalgdgmjaaGreatDoor

namespace Go.Proofs.YtmbcbfalgdgmjaaGreatDoor
open Go.ChangeShapes Go.WideShapes Go.ChangeAt Go.RowKit

set_option maxRecDepth 100000 in
theorem castale_lifted (os : Os) (started : os.Started) (H : Type) (enc : TypeId × Value → H) :
    ReturnsInHanded {} Tryz.checked os 6 .any (fun w args => (Rows.cacheStaleSpec.pre enc Tryz.prog Tryz.f6 [] false w args ∧ laidMetH Tryz.prog laidK w) ∧ sizedMet enc Tryz.prog Tryz.f6 (OpenSpec.ofChange Rows.cacheStaleSpec) false w args)
      (Rows.cacheStaleSpec.post enc Tryz.prog Tryz.f6 false true false false) := by
  refine returnsInHanded_of_change_and (C := Tryz.checked) (X := fun w _ => laidMetH Tryz.prog laidK w) (fun _ _ _ hh h => h.of_heap hh) Tryz.own started (by kernel_rfl) Tryz.func6
    (ChangeSpec.witness_shaped (enc := enc) (C := Tryz.checked) (os := os) (X := fun w _ => laidMetH Tryz.prog laidK w) false (World.laidAll Tryz.prog os laidK) #[.int .u16 0, .int .u16 0, .slice none 0 0, .bool false] 8 (World.laidAll_os _ _ _)
      (World.shaped_of_ZipB (by kernel_rfl) (by kernel_rfl)) (by kernel_rfl) (by kernel_rfl) (by kernel_rfl)
      (by rw [MakeChecks.laidMetH_plain _ _ _ (by kernel_rfl)]; exact laidMet_laidAll _ (by kernel_rfl) (by kernel_rfl))) ?_
  intro W base args ds gs before hval0 hW _ hsz0 hL0 _
  have hL := pows_of_laid hL0
  clear hL0
  have hsz : (DataW.weightsEach Tryz.prog (Tryz.f6.params.toList ++ Rows.cacheStaleSpec.plain.varTypes Tryz.prog) (ds ++ gs)).all (· ≤ reachBytes) = true := hsz0
  clear hsz0
  have hval : ∀ (j : Nat) t v, Tryz.f6.params[j]? = some t → args[j]? = some v → Value.okWide Tryz.prog W .any base t v := hval0
  have hW' := hW
  obtain ⟨p, q, hA0, hV, rfl, _, _⟩ := hW
  have hA : DataW.TrodAll enc Tryz.prog W 0 (fun _ => true) true Tryz.f6.params.toList args.toList ds p := hA0
  rw [Tryz.params6] at hA hval hsz
  obtain ⟨v0, v1, v2, v3, d0, d1, d2, d3, p0, p1, p2, p3, rfl, rfl, rfl, h0, h1, h2, h3⟩ := trodAll_four hA
  obtain ⟨rfl, rfl⟩ := trodVars_none hV
  obtain ⟨z0, rfl, rfl, rfl, w0⟩ := open_int Tryz.underlying51 (hval 0 51 v0 rfl rfl) h0
  obtain ⟨n0, rfl, hn0⟩ := u16_natK w0
  obtain ⟨z1, rfl, rfl, rfl, w1⟩ := open_int Tryz.underlying51 (hval 1 51 v1 rfl rfl) h1
  obtain ⟨n1, rfl, hn1⟩ := u16_natK w1
  obtain ⟨A2, c2, n2, rfl, hn2, hc2⟩ := open_row_str str_cells Tryz.underlying29 (hval 2 29 v2 rfl rfl) h2 (fun x hx => hW'.lt x (by simp [hx])) hsz (j := 2) rfl rfl
  obtain ⟨b3, rfl, rfl, rfl⟩ := open_bool Tryz.underlying4 (hval 3 4 v3 rfl rfl) h3
  have key : Calls Tryz.prog 6 #[.int .u16 (n0 : Int), .int .u16 (n1 : Int), .slice A2 n2.length c2, .bool b3] W (TrueB W) := by
    exact castale_any theOld W n0 n1 hn0 hn1 A2 c2 n2 hn2.1 ⟨Nat.le_trans hn2.2.1 (by unfold maxLen; omega), hn2.2.2⟩ hc2 b3 hL
  refine key.mono fun e W' ⟨he, hb⟩ => ?_
  subst he
  exact ⟨_, rfl, law_post (P := Tryz.prog) (tb := 4) Tryz.laidOut (by kernel_rfl) (by kernel_rfl) (by kernel_rfl) Tryz.underlying4 rfl hW' rfl rfl rfl hb⟩

theorem castale_holds : Rows.CacheStaleSaid :=
  OpenClaim.holds_of_wide 6 Tryz.f6 rfl rfl rfl rfl rfl rfl rfl ⟨rfl, rfl, rfl, rfl, rfl⟩ rfl rfl rfl rfl rfl (by kernel_rfl) Tryz.func6 (by kernel_rfl)
    (of_decide_eq_true (by kernel_rfl)) (by unfold Func.isWrapper; first | (rw [if_pos (by decide +kernel)]; kernel_rfl) | (rw [if_neg (by decide +kernel)]; exact ⟨rfl, rfl⟩))
    (fun os started H enc _ => castale_lifted os started H enc)

theorem castale_card : Rows.CacheStaleCardSaid :=
  Claim7.holds_tied_plain_at .later [] [.data, .data, .data] true Rows.cacheStaleCard.stood.harness false castale_holds (fun _ h => by cases h) (by kernel_rfl) (fun _ h => by cases h) cacheStale_row_tie rfl ⟨rfl, rfl⟩ (by kernel_rfl) rfl
    (fun f fn hf hfn => by
      obtain rfl : f = 6 := Option.some.inj ((show Tryz.prog.funcNamed "gazetteer/gazetteerlaw14.CacheStale" = some 6 by kernel_rfl).symm.trans hf) |>.symm
      obtain rfl : fn = Tryz.f6 := (Option.some.inj (Tryz.func6.symm.trans hfn)).symm
      exact ⟨by kernel_rfl, fun j t ht => by
        rw [Tryz.params6] at ht
        have hm : t ∈ [51, 51, 29, 4] := by simpa using Array.mem_of_getElem? ht
        have hall : ([51, 51, 29, 4].all fun u => !Tryz.prog.wantsStandIn u) = true := by kernel_rfl
        exact (show Tryz.prog.wantsStandIn t = false by simpa using List.all_eq_true.1 hall t hm)⟩)
    (by kernel_rfl)

end Go.Proofs.YtmbcbfalgdgmjaaGreatDoor
