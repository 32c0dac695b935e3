/-
  From a law's contract to its row: opening an argument of bytes; the end of a law.
-/
import Derived.Test.YtmbcbfalgdgmjaaGreatDoorRows
import Derived.Test.YtmbcbfalgdgmjaaGreatDoorKcP1
import Derived.ProofKit
import Derived.SizedLaws
import Derived.Carry
import Derived.SliceStrings
import Derived.Test.YtmbcbfalgdgmjaaGreatDoorKcP3
import Derived.Test.YtmbcbfalgdgmjaaGreatDoorCards
import Derived.Test.YtmbcbfalgdgmjaaGreatDoorTie
import Derived.LaidLaws
import Derived.Lay
import Derived.Handed
import Derived.Lib.LaidTab
import Derived.ChangeArms
import Derived.Stop.LaidErr
import Derived.Test.YtmbcbfalgdgmjaaGreatDoorKcP8
import Derived.Test.YtmbcbfalgdgmjaaGreatDoorKcP2
import Derived.Test.YtmbcbfalgdgmjaaGreatDoorKcP7
import Derived.Test.YtmbcbfalgdgmjaaGreatDoorKcP4
import Derived.Test.YtmbcbfalgdgmjaaGreatDoorKcP5
namespace Go.Proofs.YtmbcbfalgdgmjaaGreatDoor
open Go.ChangeShapes Go.WideShapes Go.ChangeAt Go.RowKit

theorem Tryz.own : ownKnob Tryz.prog.godebug = none := by kernel_rfl
theorem Tryz.laidOut : laidOutB Tryz.prog = true := by kernel_rfl

theorem bc_of_int (n : Int) (h : (Lit.int .u8 n).wf = true) : Value.int .u8 n = bc (UInt8.ofNat n.toNat) := by
  have h1 : IntKind.u8.min = 0 := rfl
  have h2 : IntKind.u8.max = 255 := rfl
  simp only [Lit.wf, Bool.and_eq_true, decide_eq_true_eq] at h
  unfold bc
  rw [UInt8.toNat_ofNat', Nat.mod_eq_of_lt (by omega)]
  congr 1
  omega

set_option maxRecDepth 20000 in
/-- An argument of bytes: whatever it is, it reads as a list. -/
theorem open_row_u8c {H : Type} {enc : TypeId × Value → H} {W : World} {base : Nat} {t : TypeId} {v : Value} {d : DataW H} {p : List MemPlace} (hc : Tryz.prog.cellsOf 5 = 1) (ht : Tryz.prog.underlying t = some (.slice 5))
    (hval : Value.okWide Tryz.prog W .any base t v) (h : DataW.Trod enc Tryz.prog W 0 (fun _ => true) true t v d p) (hlt : ∀ x ∈ p, x.block < W.heap.size) :
    ∃ (A : Option Addr) (m c : Nat) (l : List UInt8), v = .slice A m c ∧ l.length = m ∧ Row W W.heap.size A (l.map bc) ∧ m ≤ c ∧ m ≤ maxLen ∧ c ≤ maxLen ∧ (m = 0 ∨ ∃ el sp, d = .slice el sp ∧ el.length = m) := by
  obtain ⟨a0, len, cap, rfl⟩ := okWide_slice ht hval
  obtain ⟨fuel, hf⟩ := h
  rcases open_ints ht Tryz.underlying5 hc hf with ⟨hcs, hx⟩ | ⟨a, len', cap', zs, hcs, _, hl, hm, hz, hx, hcell, hwz⟩
  · simp [Value.cells] at hcs
    obtain ⟨rfl, rfl, rfl⟩ := hcs
    exact ⟨none, 0, 0, [], rfl, rfl, Row.empty _ _ _, Nat.le_refl _, Nat.zero_le _, Nat.zero_le _, .inl rfl⟩
  · simp [Value.cells] at hcs
    obtain ⟨rfl, rfl, rfl⟩ := hcs
    simp only [Prod.mk.injEq] at hx
    obtain ⟨rfl, rfl⟩ := hx
    simp only [if_true] at hz
    refine ⟨some a, len, cap, (zs.take len).map fun n => UInt8.ofNat n.toNat, rfl, by simp; omega, fun hne => ?_, hl, Nat.le_trans hl hm, hm, .inr ⟨_, _, rfl, by simp [lits]; omega⟩⟩
    have hpos : 0 < zs.length := by
      rcases zs with _ | ⟨z, zs⟩
      · simp at hne
      · simp
    obtain ⟨b, off, spot⟩ := a
    have hspot : spot = none := by simpa [Addr.add] using World.cell?_spot (hcell 0 hpos)
    subst hspot
    refine ⟨b, off, rfl, hlt (.cell b off) (MemPlace.mem_row.2 ⟨0, hpos, by simp⟩), fun j u hu => ?_⟩
    have hj : j < zs.length := by
      have := (List.getElem?_eq_some_iff.1 hu).1
      simp at this
      omega
    have hjl : j < len := by
      have := (List.getElem?_eq_some_iff.1 hu).1
      simp at this
      omega
    have h1 := hcell j hj
    rw [addr_add] at h1
    rw [h1]
    have e : zs.getD j 0 = zs[j] := by simp [List.getD, List.getElem?_eq_getElem hj]
    rw [List.getElem?_map, List.getElem?_map, List.getElem?_take, if_pos hjl, List.getElem?_eq_getElem hj] at hu
    simp only [Option.map_some] at hu
    rw [← hu, e, bc_of_int _ (hwz _ (List.getElem_mem hj))]

set_option maxRecDepth 20000 in
theorem open_row_u8 {H : Type} {enc : TypeId × Value → H} {W : World} {base : Nat} {t : TypeId} {v : Value} {d : DataW H} {p : List MemPlace} (hc : Tryz.prog.cellsOf 5 = 1) (ht : Tryz.prog.underlying t = some (.slice 5))
    (hval : Value.okWide Tryz.prog W .any base t v) (h : DataW.Trod enc Tryz.prog W 0 (fun _ => true) true t v d p) (hlt : ∀ x ∈ p, x.block < W.heap.size) :
    ∃ (A : Option Addr) (m c : Nat) (l : List UInt8), v = .slice A m c ∧ l.length = m ∧ Row W W.heap.size A (l.map bc) ∧ m ≤ c ∧ m ≤ maxLen ∧ (m = 0 ∨ ∃ el sp, d = .slice el sp ∧ el.length = m) := by
  obtain ⟨A, m, c, l, h1, h2, h3, h4, h5, _, h6⟩ := open_row_u8c hc ht hval h hlt
  exact ⟨A, m, c, l, h1, h2, h3, h4, h5, h6⟩

theorem row_reach {H : Type} {P : Program} {ts : List TypeId} {ds : List (DataW H)} {d : DataW H} {m : Nat} (h : (DataW.weightsEach P ts ds).all (· ≤ reachBytes) = true) {j : Nat} {t e : TypeId} (ht : ts[j]? = some t) (hd : ds[j]? = some d) (hu : P.underlying t = some (.slice e))
    (hb : P.bytesOf e = 1) (hm : m = 0 ∨ ∃ el sp, d = .slice el sp ∧ el.length = m) : m ≤ 140737488351232 := by
  rcases hm with rfl | ⟨el, sp, rfl, hl⟩
  · omega
  · have := sized_slice h ht hd hu
    rw [hb] at this
    simp only [reachBytes] at this
    omega
theorem u8_cells : Tryz.prog.cellsOf 5 = 1 := by kernel_rfl
theorem u8_bytes : Tryz.prog.bytesOf 5 = 1 := by kernel_rfl

theorem below_trodAll {H : Type} {enc : TypeId × Value → H} {P : Program} (hl : laidOutB P = true) {W W' : World} (hb : Below W.heap.size W W') :
    ∀ {ts : List TypeId} {vs : List Value} {ds : List (DataW H)} {ps : List MemPlace}, ts.all (fun t => P.readableRec t && decide (t < P.types.size)) = true →
      DataW.TrodAll enc P W 0 (fun _ => true) true ts vs ds ps → (∀ x ∈ ps, x.block < W.heap.size) → DataW.TrodAll enc P W' 0 (fun b => decide (b < W.heap.size)) true ts vs ds ps
  | [], [], [], _, _, h, _ => h
  | [], [], _ :: _, _, _, h, _ => h.elim
  | [], _ :: _, _, _, _, h, _ => h.elim
  | _ :: _, [], _, _, _, h, _ => h.elim
  | _ :: _, _ :: _, [], _, _, h, _ => h.elim
  | t :: ts, v :: vs, d :: ds, ps, ht, h, hlt => by
    obtain ⟨p, q, h1, h2, rfl⟩ := h
    simp only [List.all_cons, Bool.and_eq_true, decide_eq_true_eq] at ht
    exact ⟨p, q, Below.trod hl ht.1.1 ht.1.2 h1 hb (fun x hx => hlt x (List.mem_append_left _ hx)), below_trodAll hl hb ht.2 h2 (fun x hx => hlt x (List.mem_append_right _ hx)), rfl⟩

/-- The end of a law: it has answered true, and nothing that was there has turned. -/
theorem law_post {H : Type} {enc : TypeId × Value → H} {P : Program} {f : Func} {s : ChangeSpec} {W W' : World} {args : Array Value} {ds gs : List (DataW H)} {before : List MemPlace} {tb : TypeId}
    (hl : laidOutB P = true) (hts : f.params.toList.all (fun t => P.readableRec t && decide (t < P.types.size)) = true) (hrt : f.resultTypes.toList = [tb]) (hsz : f.resultTypes.size = 1) (hbool : P.underlying tb = some .bool) (hsv : s.vars = [])
    (hW : DataW.Whole enc P f.params.toList s.vars false W args.toList ds gs before)
    (hres : (s.fn H (ds ++ gs)).results = [.lit (.bool true)]) (hargs : (s.fn H (ds ++ gs)).args = ds) (hvars : (s.fn H (ds ++ gs)).vars = [])
    (hb : Below W.heap.size W W') : s.post enc P f false true false false W args (.bool true) W' := by
  have hW' := hW
  obtain ⟨p, q, hA, hV, rfl, _, _⟩ := hW
  rw [hsv] at hV
  obtain ⟨rfl, rfl⟩ := trodVars_none hV
  have hlt : ∀ x ∈ p, x.block < W.heap.size := fun x hx => hW'.lt x (List.mem_append_left _ hx)
  refine ⟨ds, [], p ++ [], [], p, [], hW', ?_, ?_, ?_, hb.frame _, fun h => by cases h⟩
  · rw [hrt, hsz, hres]
    exact trodAll_mk1 (shut_bool hbool true)
  · rw [hargs]
    exact below_trodAll hl hb hts hA hlt
  · rw [hsv, hvars]
    rfl

theorem i64_le {n : Int} (h : (Lit.int .i64 n).wf = true) : -9223372036854775808 ≤ n ∧ n ≤ 9223372036854775807 := by
  have h1 : IntKind.i64.min = -9223372036854775808 := rfl
  have h2 : IntKind.i64.max = 9223372036854775807 := rfl
  simp only [Lit.wf, Bool.and_eq_true, decide_eq_true_eq] at h
  omega

end Go.Proofs.YtmbcbfalgdgmjaaGreatDoor

namespace Go.Proofs.YtmbcbfalgdgmjaaGreatDoor
open Go.ChangeShapes Go.WideShapes Go.ChangeAt Go.RowKit

theorem string_sv (s : ByteArray) : Value.string s = sv s.data.toList := by
  unfold sv
  rw [Array.toArray_toList]

theorem str_cells : Tryz.prog.cellsOf 9 = 1 := by kernel_rfl
theorem str_bytes : Tryz.prog.bytesOf 9 = 16 := by kernel_rfl

set_option maxRecDepth 20000 in
/-- An argument of strings: whatever it is, it reads as a name. -/
theorem open_row_str {H : Type} {enc : TypeId × Value → H} {W : World} {base : Nat} {t : TypeId} {v : Value} {d : DataW H} {p : List MemPlace} (hc : Tryz.prog.cellsOf 9 = 1) (ht : Tryz.prog.underlying t = some (.slice 9))
    (hval : Value.okWide Tryz.prog W .any base t v) (h : DataW.Trod enc Tryz.prog W 0 (fun _ => true) true t v d p) (hlt : ∀ x ∈ p, x.block < W.heap.size)
    {ts : List TypeId} {ds : List (DataW H)} (hsz : (DataW.weightsEach Tryz.prog ts ds).all (· ≤ reachBytes) = true) {j : Nat} (htj : ts[j]? = some t) (hdj : ds[j]? = some d) :
    ∃ (A : Option Addr) (c : Nat) (n : List (List UInt8)), v = .slice A n.length c ∧ NameIn W A n ∧ n.length ≤ c := by
  obtain ⟨a0, len, cap, rfl⟩ := okWide_slice ht hval
  obtain ⟨fuel, hf⟩ := h
  rcases open_strings ht Tryz.underlying9 hc hf with ⟨hcs, hx⟩ | ⟨a, len', cap', ss, hcs, _, hl, hm, hz, hx, hcell, hwz⟩
  · simp [Value.cells] at hcs
    obtain ⟨rfl, rfl, rfl⟩ := hcs
    exact ⟨none, 0, [], rfl, ⟨Row.empty _ _ _, Nat.zero_le _, fun k h => absurd h (Nat.not_lt_zero _)⟩, Nat.le_refl _⟩
  · simp [Value.cells] at hcs
    obtain ⟨rfl, rfl, rfl⟩ := hcs
    simp only [Prod.mk.injEq] at hx
    obtain ⟨rfl, rfl⟩ := hx
    simp only [if_true] at hz
    have hlen : ((ss.take len).map fun s => s.data.toList).length = len := by simp; omega
    have hw := sized_slice hsz htj hdj ht
    rw [str_bytes] at hw
    simp only [reachBytes] at hw
    refine ⟨some a, cap, (ss.take len).map fun s => s.data.toList, by rw [hlen], ⟨fun hne => ?_, ?_, ?_⟩, by rw [hlen]; exact hl⟩
    · have hpos : 0 < ss.length := by
        rcases ss with _ | ⟨z, zs⟩
        · simp at hne
        · simp
      obtain ⟨b, off, spot⟩ := a
      have hspot : spot = none := by simpa [Addr.add] using World.cell?_spot (hcell 0 hpos)
      subst hspot
      refine ⟨b, off, rfl, hlt (.cell b off) (MemPlace.mem_row.2 ⟨0, hpos, by simp⟩), fun j u hu => ?_⟩
      have hjl : j < len := by
        have := (List.getElem?_eq_some_iff.1 hu).1
        simp at this
        omega
      have hj : j < ss.length := by omega
      have h1 := hcell j hj
      rw [addr_add] at h1
      rw [h1]
      have e : ss.getD j ByteArray.empty = ss[j] := by simp [List.getD, List.getElem?_eq_getElem hj]
      rw [List.getElem?_map, List.getElem?_map, List.getElem?_take, if_pos hjl, List.getElem?_eq_getElem hj] at hu
      simp only [Option.map_some] at hu
      rw [← hu, e, string_sv]
    · rw [hlen]
      simp [strs] at hw
      omega
    · intro k hk
      have hk' : k < ss.length := by rw [hlen] at hk; omega
      have h2 := hwz ss[k] (List.getElem_mem hk')
      simpa using h2

end Go.Proofs.YtmbcbfalgdgmjaaGreatDoor

namespace Go.Proofs.YtmbcbfalgdgmjaaGreatDoor
open Go.ChangeShapes Go.WideShapes Go.ChangeAt Go.RowKit

/-- What the rows list. -/
def laidK : List (String × DataW Unit) := [("math/bits.deBruijn32tab", Rows.laid_math_bits_deBruijn32tab), ("math/bits.deBruijn64tab", Rows.laid_math_bits_deBruijn64tab), ("internal/strconv.uint64pow10", Rows.laid_internal_strconv_uint64pow10)]
theorem u64_oneK : Tryz.prog.cellsOf 133 = 1 := by kernel_rfl
theorem u64_20K : Tryz.prog.cellsOf 162 = 20 := by kernel_rfl
theorem pows_global : Tryz.prog.globalNamed "internal/strconv.uint64pow10" = some 0 := by kernel_rfl
theorem pows_type : (Tryz.prog.globals[(0 : Nat)]?).map (·.type) = some 162 := by kernel_rfl
theorem pows_of_laid {W : World} (h : laidMetH Tryz.prog laidK W) : PowsAt W.heap.size W := by
  have h1 : laidMet Tryz.prog laidK W := by
    have e := MakeChecks.laidMetH_plain Tryz.prog laidK W (by kernel_rfl)
    rwa [e] at h
  exact Lib.tabBelow_of_tabIs (Lib.tabIs_of_head pows_global pows_type Tryz.underlying162 Tryz.underlying133 u64_oneK u64_20K (rest := []) h1.tail.tail)
theorem u16_natK {n : Int} (h : (Lit.int .u16 n).wf = true) : ∃ m : Nat, n = m ∧ m < 65536 := by
  have h1 : IntKind.u16.min = 0 := rfl
  have h2 : IntKind.u16.max = 65535 := rfl
  simp only [Lit.wf, Bool.and_eq_true, decide_eq_true_eq] at h
  exact ⟨n.toNat, by omega, by omega⟩
theorem u8_natK {n : Int} (h : (Lit.int .u8 n).wf = true) : ∃ m : Nat, n = m ∧ m < 256 := by
  have h1 : IntKind.u8.min = 0 := rfl
  have h2 : IntKind.u8.max = 255 := rfl
  simp only [Lit.wf, Bool.and_eq_true, decide_eq_true_eq] at h
  exact ⟨n.toNat, by omega, by omega⟩

end Go.Proofs.YtmbcbfalgdgmjaaGreatDoor

namespace Go.Proofs.YtmbcbfalgdgmjaaGreatDoor
open Go.RowKit

/-- The fact of 'answers', as it lies. -/
def ansC (g : Nat) : FV := ⟨none, 0, [], ⟨1, 1, 1, 0, 5⟩, some ⟨g + 1, 0, none⟩, 1, [(⟨some ⟨g, 0, none⟩, none, none, none, none, 4, 0, 0, 0, 0⟩, ⟨[1, 2, 3, 4], [], [], [], []⟩)], none, 0, [], ⟨none, none, none, none, none, 0, 0, 0, 0, 0⟩, ⟨[], [], [], [], []⟩⟩
theorem ansC_sound (g : Nat) : soundF (ansC g).fact = true := by
  show soundF ⟨[], ⟨1, 1, 1, 0, 5⟩, [⟨[1, 2, 3, 4], [], [], [], []⟩], [], ⟨[], [], [], [], []⟩⟩ = true
  decide +kernel
theorem ansC_at (w : World) : FAt ((w.alloc (.cells #[.int .u8 1, .int .u8 2, .int .u8 3, .int .u8 4] 5)).alloc (.cells #[.slice (some ⟨w.heap.size, 0, none⟩) 4 4, .slice none 0 0, .slice none 0 0, .slice none 0 0, .slice none 0 0] 34))
    ((w.alloc (.cells #[.int .u8 1, .int .u8 2, .int .u8 3, .int .u8 4] 5)).alloc (.cells #[.slice (some ⟨w.heap.size, 0, none⟩) 4 4, .slice none 0 0, .slice none 0 0, .slice none 0 0, .slice none 0 0] 34)).heap.size (ansC w.heap.size) := by
  have h1 : Row (w.alloc (.cells #[.int .u8 1, .int .u8 2, .int .u8 3, .int .u8 4] 5)) (w.heap.size + 1) (some ⟨w.heap.size, 0, none⟩) (([1, 2, 3, 4] : List UInt8).map bc) := Row.made w _ _
  have h2 := Row.made (w.alloc (.cells #[.int .u8 1, .int .u8 2, .int .u8 3, .int .u8 4] 5)) #[.slice (some ⟨w.heap.size, 0, none⟩) 4 4, .slice none 0 0, .slice none 0 0, .slice none 0 0, .slice none 0 0] 34
  have hz : (w.alloc (.cells #[.int .u8 1, .int .u8 2, .int .u8 3, .int .u8 4] 5)).heap.size = w.heap.size + 1 := by simp
  rw [hz] at h2
  have hz2 : ((w.alloc (.cells #[.int .u8 1, .int .u8 2, .int .u8 3, .int .u8 4] 5)).alloc (.cells #[.slice (some ⟨w.heap.size, 0, none⟩) 4 4, .slice none 0 0, .slice none 0 0, .slice none 0 0, .slice none 0 0] 34)).heap.size = w.heap.size + 2 := by simp
  rw [hz2]
  have hb := (h1.alloc (by rw [hz]; exact Nat.le_refl _) (.cells #[.slice (some ⟨w.heap.size, 0, none⟩) 4 4, .slice none 0 0, .slice none 0 0, .slice none 0 0, .slice none 0 0] 34)).mono (Nat.le_succ _)
  refine ⟨Row.empty _ _ _, ⟨h2, fun p hp => ?_⟩, Row.empty _ _ _, ⟨Row.empty _ _ _, Row.empty _ _ _, Row.empty _ _ _, Row.empty _ _ _, Row.empty _ _ _, Nat.le_refl _, Nat.le_refl _, Nat.le_refl _, Nat.le_refl _, Nat.le_refl _, Nat.zero_le _, Nat.zero_le _⟩, Nat.le_refl _, Nat.le_refl _, Nat.le_refl _, by unfold ansC maxLen; dsimp only; omega⟩
  rw [List.mem_singleton.1 hp]
  exact ⟨hb, Row.empty _ _ _, Row.empty _ _ _, Row.empty _ _ _, Row.empty _ _ _, Nat.le_refl _, Nat.le_refl _, Nat.le_refl _, Nat.le_refl _, Nat.le_refl _, by unfold maxLen; dsimp only; omega, Nat.zero_le _⟩

theorem ansC_few (g : Nat) : FewF (ansC g) := by
  have hd : FewD (ansC g).soa := ⟨Nat.zero_le _, Nat.zero_le _, Nat.zero_le _, Nat.zero_le _, Nat.zero_le _⟩
  refine ⟨Nat.zero_le _, Nat.zero_le _, by unfold ansC; dsimp only [List.length]; omega, hd, fun p hp => ?_⟩
  rw [List.mem_singleton.1 hp]
  constructor <;> (dsimp only [List.length]; omega)

theorem ansC_put (g : Nat) : Ca.putB ⟨(2 : Int).toNat, 0, []⟩ (ansC g).fact 1 = true := by
  show Ca.putB ⟨2, 0, []⟩ ⟨[], ⟨1, 1, 1, 0, 5⟩, [⟨[1, 2, 3, 4], [], [], [], []⟩], [], ⟨[], [], [], [], []⟩⟩ 1 = true
  decide +kernel
theorem ansC_len (g : Nat) : ((Ca.put ⟨(2 : Int).toNat, 0, []⟩ (ansC g).fact 1).list.length : Int) = 1 := by
  show ((Ca.put ⟨2, 0, []⟩ ⟨[], ⟨1, 1, 1, 0, 5⟩, [⟨[1, 2, 3, 4], [], [], [], []⟩], [], ⟨[], [], [], [], []⟩⟩ 1).list.length : Int) = 1
  decide +kernel

set_option maxHeartbeats 400000 in
theorem caanswers_any (L : CacheCore) (w : World) (hv : L.Vars w) : Calls Tryz.prog 8 #[] w (TrueB w) := by
  have HN := Lib.hid (L.new_ok w 2 0 hv (by decide) (by decide) (by decide +kernel))
  go_enter Tryz.func8, Tryz.ntmps8
  go_wp2_with fail
  refine HN.out.mono ?_
  rintro e w1 ⟨cv, F, rfl, hat, hb1⟩
  have HB := Lib.hid (show Below w1.heap.size w1 ((w1.alloc (.cells #[.int .u8 1, .int .u8 2, .int .u8 3, .int .u8 4] 5)).alloc (.cells #[.slice (some ⟨w1.heap.size, 0, none⟩) 4 4, .slice none 0 0, .slice none 0 0, .slice none 0 0, .slice none 0 0] 34)) from ((Below.refl _ _).alloc (Nat.le_refl _) _).alloc (by simp) _)
  have HP := Lib.hid (L.put (L.at_below hat HB.out) (by decide) (ansC w1.heap.size) 1 (ansC_at w1) (soundF_in (ansC_sound _)) (ansC_few _) (by decide +kernel))
  have HO := Lib.hid (L.at_own (L.at_below hat HB.out))
  have HB1 := Lib.hid (hb1.trans (HB.out.mono hb1.size))
  clear hat hb1 HB
  go_wp2_with fail
  refine HP.out.mono ?_
  rintro e w2 ⟨F2, rfl, hat2, hm2⟩
  have HB2 := Lib.hid (HB1.out.trans (hm2.below (fun j hj => (HO.out.2 j hj).1) HO.out.1))
  rw [ansC_put]
  have HL := Lib.hid (show Calls _ _ _ _ (Gave w2 (.int .i64 1)) from ansC_len w1.heap.size ▸ L.len hat2)
  go_wp2_with fail
  refine HL.out.mono ?_
  rintro e w3 ⟨rfl, hb3⟩
  go_wp2
  go_ret
  exact ⟨rfl, HB2.out.trans (hb3.mono HB2.out.size)⟩

end Go.Proofs.YtmbcbfalgdgmjaaGreatDoor

namespace Go.Proofs.YtmbcbfalgdgmjaaGreatDoor
open Go.RowKit

def smallD (d : Dt) : Bool := decide (d.bytes.length ≤ 2000) && (decide (d.host.length ≤ 200) && (decide (d.mail.length ≤ 200) && (decide (d.texts.length ≤ 100) && decide (d.nums.length ≤ 100))))
def lightC (f : Fc) : Bool := f.set.all smallD && (decide (f.name.length ≤ 200) && (decide (f.zone.length ≤ 200) && (decide (f.set.length ≤ 100) && (decide (f.soa.host.length ≤ 200) && (decide (f.soa.mail.length ≤ 200) && decide (f.soa.nums.length ≤ 100))))))
def SmallDRel (W : World) (ps : List (DV × Dt)) (i : Value) (wr : World) : Prop := ∃ k : Nat, k ≤ ps.length ∧ i = .int .i64 k ∧ (dats (ps.take k)).all smallD = true ∧ Below W.heap.size W wr
theorem all_noD {ps : List (DV × Dt)} {k : Nat} (hk : k < ps.length) (h : smallD (ps[k]).2 = false) : (dats ps).all smallD = false := by
  rw [List.all_eq_false]
  exact ⟨(ps[k]).2, List.mem_map.2 ⟨ps[k], List.getElem_mem hk, rfl⟩, by rw [h]; decide⟩
theorem all_yesD {ps : List (DV × Dt)} {k : Nat} (hk : k < ps.length) (ha : (dats (ps.take k)).all smallD = true) (h : smallD (ps[k]).2 = true) : (dats (ps.take (k + 1))).all smallD = true := by
  rw [dats_step13 hk, List.all_append, ha]
  simp [h]

set_option maxRecDepth 20000 in
set_option maxHeartbeats 4000000 in
theorem calight_any (w : World) (x : FV) (hx : FAt w w.heap.size x) (_ : FIn x) : Calls Tryz.prog 9 #[x.val] w (Gave w (.bool (lightC x.fact))) := by
  obtain ⟨W, hW⟩ : ∃ W, W = w.alloc (.cells #[.slice x.A x.name.length x.c, .int .i64 x.h.typ, .int .i64 x.h.knd, .int .i64 x.h.rank, .int .i64 x.h.got, .int .i64 x.h.ttl, .slice x.sA x.sp.length x.sc, .slice x.zA x.zone.length x.zc, .slice x.d.Ab x.soa.bytes.length x.d.cb, .slice x.d.Ah x.soa.host.length x.d.ch, .slice x.d.Am x.soa.mail.length x.d.cm, .slice x.d.An x.soa.nums.length x.d.cn, .slice x.d.At x.soa.texts.length x.d.ct] 36) := ⟨_, rfl⟩
  have HB := Lib.hid (show Below w.heap.size w W by rw [hW]; exact (Below.refl _ _).alloc (Nat.le_refl _) _)
  have HWF := Lib.hid (show Whole W w.heap.size 36 (cellsF x) by rw [hW]; exact Whole.made w (cellsF x) _)
  have HZ := Lib.hid (show W.heap.size = w.heap.size + 1 by rw [hW]; simp)
  have HS := Lib.hid (show DsAt W W.heap.size x.sA x.sp from (hx.s.below HB.out).mono HB.out.size)
  have HLM := Lib.hid (show lightC x.fact = ((dats x.sp).all smallD && (decide (x.name.length ≤ 200) && (decide (x.zone.length ≤ 200) && (decide (x.sp.length ≤ 100) && (decide (x.soa.host.length ≤ 200) && (decide (x.soa.mail.length ≤ 200) && decide (x.soa.nums.length ≤ 100)))))) ) from by
    unfold lightC
    show ((dats x.sp).all smallD && (decide (x.name.length ≤ 200) && (decide (x.zone.length ≤ 200) && (decide ((dats x.sp).length ≤ 100) && _)))) = _
    rw [length_dats]
    rfl)
  have hls : x.sp.length ≤ maxLen := Nat.le_trans hx.ls hx.ks
  unfold maxLen at hls
  have c6 : W.cell? ⟨w.heap.size, 6, none⟩ = some (.slice x.sA x.sp.length x.sc) := Whole.cell HWF.out 6
  clear hx
  obtain ⟨A, cA, n, h, sA, sc, sp, zA, zc, z, d5, soa⟩ := x
  dsimp only [FV.val] at *
  subst hW
  go_enter Tryz.func9, Tryz.ntmps9
  go_wp2
  go_loopw [3] (SmallDRel _ sp) (fun i _ => sp.length - (intOf i).toNat)
  case atStart => exact ⟨0, Nat.zero_le _, rfl, rfl, Below.refl _ _⟩
  case round =>
  obtain ⟨k, hk, rfl, hal, hbr⟩ := hrel
  have HAL := Lib.hid hal
  have HBR := Lib.hid hbr
  have HB1 := Lib.hid (HB.out.trans (hbr.mono HB.out.size))
  have hz := hbr.size
  have hzz := HB.out.size
  have hz1 := HZ.out
  have hw := HWF.out.below hbr HWF.out.lt
  clear hal hbr
  by_cases hlt : k < sp.length
  · obtain ⟨b, off, rfl, hbH, hra, q0, q1, q2, q3, q4⟩ := (HS.out.below HBR.out).at_ hlt
    have HF := Lib.hid (fun h => all_noD hlt h)
    have HT := Lib.hid (fun h => all_yesD hlt HAL.out h)
    have c6' : wr.cell? ⟨w.heap.size, 6, none⟩ = some (.slice (some ⟨b, off, none⟩) sp.length sc) := Whole.cell hw 6
    have hl0 : (sp[k]).2.bytes.length ≤ maxLen := Nat.le_trans hra.lb hra.kb
    clear hra hw
    revert hl0 q0 q1 q2 q3 q4 HF HT
    generalize sp[k] = p
    obtain ⟨y, d⟩ := p
    intro q0 q1 q2 q3 q4 HF HT hl0
    dsimp only [DV.vb, DV.vh, DV.vm, DV.vn, DV.vt] at *
    unfold maxLen at hl0
    have HB2 := Lib.hid (HB1.out.alloc (by omega) (.cells #[.slice y.Ab d.bytes.length y.cb, .slice y.Ah d.host.length y.ch, .slice y.Am d.mail.length y.cm, .slice y.An d.nums.length y.cn, .slice y.At d.texts.length y.ct] 34))
    have HBR2 := Lib.hid (HBR.out.alloc hz (.cells #[.slice y.Ab d.bytes.length y.cb, .slice y.Ah d.host.length y.ch, .slice y.Am d.mail.length y.cm, .slice y.An d.nums.length y.cn, .slice y.At d.texts.length y.ct] 34))
    by_cases e0 : d.bytes.length ≤ 2000
    case neg =>
      have d0 : decide ((2000 : Int) < (d.bytes.length : Int)) = true := by simp; omega
      have HX := Lib.hid (HF.out (by unfold smallD; rw [decide_eq_false e0]; simp))
      go_wp2
      go_ret
      exact ⟨by rw [HLM.out, HX.out]; rfl, HB2.out⟩
    have d0 : decide ((2000 : Int) < (d.bytes.length : Int)) = false := by simp; omega
    by_cases e1 : d.host.length ≤ 200
    case neg =>
      have d1 : decide ((200 : Int) < (d.host.length : Int)) = true := by simp; omega
      have HX := Lib.hid (HF.out (by unfold smallD; rw [decide_eq_false e1]; simp))
      go_wp2
      go_ret
      exact ⟨by rw [HLM.out, HX.out]; rfl, HB2.out⟩
    have d1 : decide ((200 : Int) < (d.host.length : Int)) = false := by simp; omega
    by_cases e2 : d.mail.length ≤ 200
    case neg =>
      have d2 : decide ((200 : Int) < (d.mail.length : Int)) = true := by simp; omega
      have HX := Lib.hid (HF.out (by unfold smallD; rw [decide_eq_false e2]; simp))
      go_wp2
      go_ret
      exact ⟨by rw [HLM.out, HX.out]; rfl, HB2.out⟩
    have d2 : decide ((200 : Int) < (d.mail.length : Int)) = false := by simp; omega
    by_cases e3 : d.texts.length ≤ 100
    case neg =>
      have d3 : decide ((100 : Int) < (d.texts.length : Int)) = true := by simp; omega
      have HX := Lib.hid (HF.out (by unfold smallD; rw [decide_eq_false e3]; simp))
      go_wp2
      go_ret
      exact ⟨by rw [HLM.out, HX.out]; rfl, HB2.out⟩
    have d3 : decide ((100 : Int) < (d.texts.length : Int)) = false := by simp; omega
    by_cases e4 : d.nums.length ≤ 100
    case neg =>
      have d4 : decide ((100 : Int) < (d.nums.length : Int)) = true := by simp; omega
      have HX := Lib.hid (HF.out (by unfold smallD; rw [decide_eq_false e4]; simp))
      go_wp2
      go_ret
      exact ⟨by rw [HLM.out, HX.out]; rfl, HB2.out⟩
    have d4 : decide ((100 : Int) < (d.nums.length : Int)) = false := by simp; omega
    have HX := Lib.hid (HT.out (by unfold smallD; simp [e0, e1, e2, e3, e4]))
    go_wp2
    exact ⟨⟨k + 1, by omega, by go_num, HX.out, HBR2.out⟩, by simp [intOf]; omega⟩
  · obtain rfl : k = sp.length := by omega
    have hal := HAL.out
    rw [List.take_length] at hal
    rw [hal] at HLM
    have c0' : wr.cell? ⟨w.heap.size, 0, none⟩ = some (.slice A n.length cA) := Whole.cell hw 0
    have c6' : wr.cell? ⟨w.heap.size, 6, none⟩ = some (.slice sA sp.length sc) := Whole.cell hw 6
    have c7' : wr.cell? ⟨w.heap.size, 7, none⟩ = some (.slice zA z.length zc) := Whole.cell hw 7
    have c9' : wr.cell? ⟨w.heap.size, 9, none⟩ = some (.slice d5.Ah soa.host.length d5.ch) := Whole.cell hw 9
    have c10' : wr.cell? ⟨w.heap.size, 10, none⟩ = some (.slice d5.Am soa.mail.length d5.cm) := Whole.cell hw 10
    have c11' : wr.cell? ⟨w.heap.size, 11, none⟩ = some (.slice d5.An soa.nums.length d5.cn) := Whole.cell hw 11
    clear hal hw HAL HS hlt
    by_cases e0 : n.length ≤ 200
    case neg =>
      have d0 : decide ((n.length : Int) ≤ 200) = false := decide_eq_false (by omega)
      rw [decide_eq_false e0] at HLM
      go_wp2
      go_ret
      exact ⟨by rw [HLM.out]; rfl, HB1.out⟩
    have d0 : decide ((n.length : Int) ≤ 200) = true := decide_eq_true (by omega)
    rw [decide_eq_true e0] at HLM
    by_cases e1 : z.length ≤ 200
    case neg =>
      have d1 : decide ((z.length : Int) ≤ 200) = false := decide_eq_false (by omega)
      rw [decide_eq_false e1] at HLM
      go_wp2
      go_ret
      exact ⟨by rw [HLM.out]; rfl, HB1.out⟩
    have d1 : decide ((z.length : Int) ≤ 200) = true := decide_eq_true (by omega)
    rw [decide_eq_true e1] at HLM
    by_cases e2 : sp.length ≤ 100
    case neg =>
      have d2 : decide ((sp.length : Int) ≤ 100) = false := decide_eq_false (by omega)
      rw [decide_eq_false e2] at HLM
      go_wp2
      go_ret
      exact ⟨by rw [HLM.out]; rfl, HB1.out⟩
    have d2 : decide ((sp.length : Int) ≤ 100) = true := decide_eq_true (by omega)
    rw [decide_eq_true e2] at HLM
    by_cases e3 : soa.host.length ≤ 200
    case neg =>
      have d3 : decide ((soa.host.length : Int) ≤ 200) = false := decide_eq_false (by omega)
      rw [decide_eq_false e3] at HLM
      go_wp2
      go_ret
      exact ⟨by rw [HLM.out]; rfl, HB1.out⟩
    have d3 : decide ((soa.host.length : Int) ≤ 200) = true := decide_eq_true (by omega)
    rw [decide_eq_true e3] at HLM
    by_cases e4 : soa.mail.length ≤ 200
    case neg =>
      have d4 : decide ((soa.mail.length : Int) ≤ 200) = false := decide_eq_false (by omega)
      rw [decide_eq_false e4] at HLM
      go_wp2
      go_ret
      exact ⟨by rw [HLM.out]; rfl, HB1.out⟩
    have d4 : decide ((soa.mail.length : Int) ≤ 200) = true := decide_eq_true (by omega)
    rw [decide_eq_true e4] at HLM
    by_cases e5 : soa.nums.length ≤ 100
    case neg =>
      have d5 : decide ((soa.nums.length : Int) ≤ 100) = false := decide_eq_false (by omega)
      rw [decide_eq_false e5] at HLM
      go_wp2
      go_ret
      exact ⟨by rw [HLM.out]; rfl, HB1.out⟩
    have d5 : decide ((soa.nums.length : Int) ≤ 100) = true := decide_eq_true (by omega)
    rw [decide_eq_true e5] at HLM
    go_wp2
    go_ret
    exact ⟨by rw [HLM.out]; rfl, HB1.out⟩

end Go.Proofs.YtmbcbfalgdgmjaaGreatDoor

namespace Go.Proofs.YtmbcbfalgdgmjaaGreatDoor
open Go.RowKit

def AllRelS (w : World) (ps qs : List (DV × Dt)) (i : Value) (wr : World) : Prop :=
  ∃ k : Nat, k ≤ ps.length ∧ i = .int .i64 k ∧ (dats (ps.take k)).all (fun e => hasD (dats qs) e) = true ∧ Below w.heap.size w wr
theorem all_snocD {ps : List (DV × Dt)} {k : Nat} (P : Dt → Bool) (hk : k < ps.length) (h : (dats (ps.take k)).all P = true) :
    (P (ps[k]).2 = false → (dats ps).all P = false) ∧ (P (ps[k]).2 = true → (dats (ps.take (k + 1))).all P = true) := by
  constructor
  · intro hp
    rw [List.all_eq_false]
    exact ⟨(ps[k]).2, List.mem_map.2 ⟨ps[k], List.getElem_mem hk, rfl⟩, by rw [hp]; decide⟩
  · intro hp
    rw [List.take_succ_eq_append_getElem hk, dats_append, List.all_append, h]
    simpa [dats] using hp

set_option maxRecDepth 20000 in
set_option maxHeartbeats 4000000 in
theorem ref_sameSet_any (w : World) (A : Option Addr) (c : Nat) (ps : List (DV × Dt)) (B : Option Addr) (cb : Nat) (qs : List (DV × Dt)) (hp : DsAt w w.heap.size A ps) (hq : DsAt w w.heap.size B qs) (hc : ∀ p ∈ ps, Wide p.2) (hd : ∀ p ∈ qs, Wide p.2) (hl : ps.length ≤ maxLen) (hl' : qs.length ≤ maxLen) :
    Calls Tryz.prog 34 #[.slice A ps.length c, .slice B qs.length cb] w (Gave w (.bool (sameS (dats ps) (dats qs)))) := by
  have HI1 := Lib.hid (fun W (x : DV) (a : Dt) (h : Below w.heap.size w W) (hx : DataAt W W.heap.size x a) (la : Wide a) => in_any W x a B cb qs hx ((hq.below h).mono h.size) la hd hl')
  have HI2 := Lib.hid (fun W (x : DV) (a : Dt) (h : Below w.heap.size w W) (hx : DataAt W W.heap.size x a) (la : Wide a) => in_any W x a A c ps hx ((hp.below h).mono h.size) la hc hl)
  have HP := Lib.hid hp
  have HQ := Lib.hid hq
  have HC := Lib.hid hc
  have HD := Lib.hid hd
  clear hp hq hc hd
  unfold maxLen at hl hl'
  go_enter Tryz.func34, Tryz.ntmps34
  go_wp2
  go_loopw [5] (AllRelS w ps qs) (fun i _ => ps.length - (intOf i).toNat)
  case atStart => exact ⟨0, Nat.zero_le _, rfl, rfl, Below.refl _ _⟩
  case round =>
    obtain ⟨k, hk, rfl, hn, hb⟩ := hrel
    have HN := Lib.hid hn
    have HB := Lib.hid hb
    have hz := hb.size
    clear hn hb
    by_cases hlt : k < ps.length
    · obtain ⟨b, off, rfl, hbH, hd, q0, q1, q2, q3, q4⟩ := (HP.out.below HB.out).at_ hlt
      have hwd := HC.out _ (List.getElem_mem hlt)
      have HI := Lib.hid (all_snocD (fun e => hasD (dats qs) e) hlt HN.out)
      revert hd q0 q1 q2 q3 q4 hwd HI
      generalize ps[k] = p
      obtain ⟨y, d⟩ := p
      intro hd q0 q1 q2 q3 q4 hwd HI
      dsimp only at *
      have HCL := Lib.hid (HI1.out wr y d HB.out (hd.mono hz) hwd)
      clear hd hwd
      go_wp2_with fail
      refine HCL.out.mono ?_
      rintro e w1 ⟨rfl, hb1⟩
      have HB1 := Lib.hid (HB.out.trans (hb1.mono hz))
      clear hb1
      cases hv : hasD (dats qs) d with
      | false =>
        have HT := Lib.hid (show sameS (dats ps) (dats qs) = false by unfold sameS withinD; rw [HI.out.1 hv]; rfl)
        clear HI
        go_wp2
        go_ret
        exact ⟨ret_bool HT.out.symm, HB1.out⟩
      | true =>
        have HT := Lib.hid (HI.out.2 hv)
        clear HI
        go_wp2
        exact ⟨⟨k + 1, by omega, by go_num, HT.out, HB1.out⟩, by simp [intOf]; omega⟩
    · obtain rfl : k = ps.length := by omega
      have HF := Lib.hid (show withinD (dats ps) (dats qs) = true by have h := HN.out; rw [List.take_length] at h; exact h)
      have HBQ := Lib.hid HB.out
      clear HN HB hz
      go_wp2
      go_loopw [6] (AllRelS w qs ps) (fun i _ => qs.length - (intOf i).toNat)
      case atStart => exact ⟨0, Nat.zero_le _, rfl, rfl, HBQ.out⟩
      case round =>
        obtain ⟨k, hk2, rfl, hn, hb⟩ := hrel
        have HN := Lib.hid hn
        have HB := Lib.hid hb
        have hz := hb.size
        clear hn hb
        by_cases hlt2 : k < qs.length
        · obtain ⟨b, off, rfl, hbH, hd, q0, q1, q2, q3, q4⟩ := (HQ.out.below HB.out).at_ hlt2
          have hwd := HD.out _ (List.getElem_mem hlt2)
          have HI := Lib.hid (all_snocD (fun e => hasD (dats ps) e) hlt2 HN.out)
          revert hd q0 q1 q2 q3 q4 hwd HI
          generalize qs[k] = p
          obtain ⟨y, d⟩ := p
          intro hd q0 q1 q2 q3 q4 hwd HI
          dsimp only at *
          have HCL := Lib.hid (HI2.out wr y d HB.out (hd.mono hz) hwd)
          clear hd hwd
          go_wp2_with fail
          refine HCL.out.mono ?_
          rintro e w1 ⟨rfl, hb1⟩
          have HB1 := Lib.hid (HB.out.trans (hb1.mono hz))
          clear hb1
          cases hv : hasD (dats ps) d with
          | false =>
            have HT := Lib.hid (show sameS (dats ps) (dats qs) = false by unfold sameS; rw [show withinD (dats qs) (dats ps) = false from HI.out.1 hv]; simp)
            clear HI
            go_wp2
            go_ret
            exact ⟨ret_bool HT.out.symm, HB1.out⟩
          | true =>
            have HT := Lib.hid (HI.out.2 hv)
            clear HI
            go_wp2
            exact ⟨⟨k + 1, by omega, by go_num, HT.out, HB1.out⟩, by simp [intOf]; omega⟩
        · obtain rfl : k = qs.length := by omega
          have HT := Lib.hid (show sameS (dats ps) (dats qs) = true by
            have h := HN.out
            rw [List.take_length] at h
            unfold sameS
            rw [HF.out, show withinD (dats qs) (dats ps) = true from h]
            rfl)
          go_wp2
          go_ret
          exact ⟨ret_bool HT.out.symm, HB.out⟩

/-- What the document's Set has made ahead of a round. -/
structure SetAtR (w0 : World) (v : Value) (qs : List (DV × Dt)) (w : World) : Prop where
  row : w.ownsRow w0.heap.size 34 5 v qs.length (qs.flatMap cellsD)
  each : ∀ q ∈ qs, DataAt w0 w0.heap.size q.1 q.2
  below : Below w0.heap.size w0 w
  size : w0.heap.size ≤ w.heap.size
theorem SetAtR.step {w0 w w' : World} {v : Value} {qs : List (DV × Dt)} (h : SetAtR w0 v qs w) (hb : Below w.heap.size w w') : SetAtR w0 v qs w' :=
  ⟨own_keep h.row fun j hj => hb.block j (h.row.lt j hj).2, h.each, h.below.trans (hb.mono h.size), Nat.le_trans h.size hb.size⟩
theorem SetAtR.reads {w0 w : World} {A : Option Addr} {c : Nat} {qs : List (DV × Dt)} (h : SetAtR w0 (.slice A qs.length c) qs w) : DsAt w w.heap.size A qs :=
  ⟨Row.of_own h.row, fun q hq => ((h.each q hq).below h.below).mono h.size⟩
theorem SetAtR.snoc {w0 w w' : World} {v v' : Value} {qs : List (DV × Dt)} (h : SetAtR w0 v qs w) {y : DV} {d : Dt} (hy : DataAt w0 w0.heap.size y d) (ho : w'.ownsRow w0.heap.size 34 5 v' (qs.length + 1) (qs.flatMap cellsD ++ cellsD (y, d)))
    (hg : w.grownBy w' v.ownBlock) : SetAtR w0 v' (qs ++ [(y, d)]) w' := by
  refine ⟨by rw [List.length_append, List.flatMap_append]; simpa using ho, fun q hq => ?_, own_below h.below (Nat.le_refl _) h.size h.row hg, Nat.le_trans h.size hg.size⟩
  rcases List.mem_append.1 hq with hq | hq
  · exact h.each q hq
  · rw [List.mem_singleton.1 hq]
    exact hy
/-- Has one been seen? -/
def seenB (s : List Dt × Int) : Bool := !s.1.isEmpty
def SetRelR (w : World) (ps : List (RV × Rt)) (n : List (List UInt8)) (k : Int) (v t y i : Value) (wr : World) : Prop :=
  ∃ (j : Nat) (qs : List (DV × Dt)), j ≤ ps.length ∧ i = .int .i64 j ∧ t = .int .i64 (setF (recs (ps.take j)) n k).2 ∧ y = .bool (seenB (setF (recs (ps.take j)) n k)) ∧ dats qs = (setF (recs (ps.take j)) n k).1 ∧ qs.length ≤ j ∧ (∀ q ∈ qs, Wide q.2) ∧ SetAtR w v qs wr


































































































































































































































































end Go.Proofs.YtmbcbfalgdgmjaaGreatDoor

namespace Go.Proofs.YtmbcbfalgdgmjaaGreatDoor
open Go.RowKit

/-- Two boxes of facts. -/
structure Facts2 (w : World) (x y : FV) (W : World) : Prop where
  a : Whole W w.heap.size 36 (cellsF x)
  b : Whole W (w.heap.size + 1) 36 (cellsF y)
  below : Below w.heap.size w W
  size : w.heap.size + 2 ≤ W.heap.size
theorem Facts2.step {w : World} {x y : FV} {W W' : World} (h : Facts2 w x y W) (hb : Below W.heap.size W W') : Facts2 w x y W' :=
  ⟨h.a.below hb h.a.lt, h.b.below hb h.b.lt, h.below.trans (hb.mono (by have := h.size; omega)), Nat.le_trans h.size hb.size⟩
theorem Facts2.made (w : World) (x y : FV) : Facts2 w x y ((w.alloc (.cells #[.slice x.A x.name.length x.c, .int .i64 x.h.typ, .int .i64 x.h.knd, .int .i64 x.h.rank, .int .i64 x.h.got, .int .i64 x.h.ttl, .slice x.sA x.sp.length x.sc, .slice x.zA x.zone.length x.zc, .slice x.d.Ab x.soa.bytes.length x.d.cb, .slice x.d.Ah x.soa.host.length x.d.ch, .slice x.d.Am x.soa.mail.length x.d.cm, .slice x.d.An x.soa.nums.length x.d.cn, .slice x.d.At x.soa.texts.length x.d.ct] 36)).alloc (.cells #[.slice y.A y.name.length y.c, .int .i64 y.h.typ, .int .i64 y.h.knd, .int .i64 y.h.rank, .int .i64 y.h.got, .int .i64 y.h.ttl, .slice y.sA y.sp.length y.sc, .slice y.zA y.zone.length y.zc, .slice y.d.Ab y.soa.bytes.length y.d.cb, .slice y.d.Ah y.soa.host.length y.d.ch, .slice y.d.Am y.soa.mail.length y.d.cm, .slice y.d.An y.soa.nums.length y.d.cn, .slice y.d.At y.soa.texts.length y.d.ct] 36)) := by
  have hz : (w.alloc (.cells #[.slice x.A x.name.length x.c, .int .i64 x.h.typ, .int .i64 x.h.knd, .int .i64 x.h.rank, .int .i64 x.h.got, .int .i64 x.h.ttl, .slice x.sA x.sp.length x.sc, .slice x.zA x.zone.length x.zc, .slice x.d.Ab x.soa.bytes.length x.d.cb, .slice x.d.Ah x.soa.host.length x.d.ch, .slice x.d.Am x.soa.mail.length x.d.cm, .slice x.d.An x.soa.nums.length x.d.cn, .slice x.d.At x.soa.texts.length x.d.ct] 36)).heap.size = w.heap.size + 1 := by simp
  refine ⟨(Whole.made w (cellsF x) _).alloc _, ?_, ((Below.refl _ _).alloc (Nat.le_refl _) _).alloc (by simp) _, by simp⟩
  have := Whole.made (w.alloc (.cells #[.slice x.A x.name.length x.c, .int .i64 x.h.typ, .int .i64 x.h.knd, .int .i64 x.h.rank, .int .i64 x.h.got, .int .i64 x.h.ttl, .slice x.sA x.sp.length x.sc, .slice x.zA x.zone.length x.zc, .slice x.d.Ab x.soa.bytes.length x.d.cb, .slice x.d.Ah x.soa.host.length x.d.ch, .slice x.d.Am x.soa.mail.length x.d.cm, .slice x.d.An x.soa.nums.length x.d.cn, .slice x.d.At x.soa.texts.length x.d.ct] 36)) (cellsF y) 36
  rw [hz] at this
  exact this

set_option maxRecDepth 20000 in
set_option maxHeartbeats 4000000 in
theorem samekey_any (w : World) (x y : FV) (hx : FAt w w.heap.size x) (hy : FAt w w.heap.size y) (hi : FIn x) (hj : FIn y) : Calls Tryz.prog 33 #[x.val, y.val] w (Gave w (.bool (sameK x.fact y.fact))) := by
  have HX := Lib.hid (Facts2.made w x y)
  have HE := Lib.hid (fun W' (hb : Below w.heap.size w W') => ref_equal_wide x.A y.A x.name.length y.name.length x.c y.c w.heap.size x.name y.name W' rfl rfl (hx.n.below hb) (hy.n.below hb) hb.size hi.n hj.n)
  have HS := Lib.hid (show sameK x.fact y.fact = (decide (x.h.typ = y.h.typ) && eqN x.name y.name) from rfl)
  clear hx hy hi hj
  by_cases h1 : x.h.typ = y.h.typ
  case neg =>
    have b1 : (x.h.typ == y.h.typ) = false := beq_eq_false_iff_ne.2 h1
    rw [decide_eq_false h1] at HS
    clear h1
    go_enter Tryz.func33, Tryz.ntmps33
    go_wp2
    go_ret
    exact ⟨by rw [HS.out]; rfl, HX.out.below⟩
  have b1 : (x.h.typ == y.h.typ) = true := by rw [beq_iff_eq]; exact h1
  rw [decide_eq_true h1, Bool.true_and] at HS
  clear h1
  go_enter Tryz.func33, Tryz.ntmps33
  go_wp2_with fail
  refine (HE.out _ HX.out.below).mono ?_
  rintro e w1 ⟨rfl, hb1⟩
  have HB1 := Lib.hid (HX.out.step hb1)
  clear hb1
  go_wp2
  go_ret
  exact ⟨by rw [HS.out]; simp, HB1.out.below⟩

set_option maxRecDepth 20000 in
set_option maxHeartbeats 8000000 in
theorem refsame_by (w : World) (x y : FV) (hx : FAt w w.heap.size x) (hy : FAt w w.heap.size y) (hi : FIn x) (hj : FIn y) (h1 : ∀ W', Below w.heap.size w W' → Calls Tryz.prog 20 #[x.val] W' (Gave W' (.bool (soundF x.fact)))) (h2 : ∀ W', Below w.heap.size w W' → Calls Tryz.prog 20 #[y.val] W' (Gave W' (.bool (soundF y.fact)))) : Calls Tryz.prog 14 #[x.val, y.val] w (Gave w (.bool (sameF x.fact y.fact))) := by
  have HX := Lib.hid (Facts2.made w x y)
  have HS1 := Lib.hid h1
  have HS2 := Lib.hid h2
  have HK := Lib.hid (fun W' (hb : Below w.heap.size w W') => samekey_any W' x y ((hx.below hb).mono hb.size) ((hy.below hb).mono hb.size) hi hj)
  have HT := Lib.hid (fun W' (hb : Below w.heap.size w W') => ref_sameSet_any W' x.sA x.sc x.sp y.sA y.sc y.sp ((hx.s.below hb).mono hb.size) ((hy.s.below hb).mono hb.size) (fun p hp => (hi.s p hp).w) (fun p hp => (hj.s p hp).w) (Nat.le_trans hx.ls hx.ks) (Nat.le_trans hy.ls hy.ks))
  have HE := Lib.hid (fun W' (hb : Below w.heap.size w W') => ref_equal_wide x.zA y.zA x.zone.length y.zone.length x.zc y.zc w.heap.size x.zone y.zone W' rfl rfl (hx.z.below hb) (hy.z.below hb) hb.size hi.z hj.z)
  have HD := Lib.hid (fun W' (hb : Below w.heap.size w W') => ref_dsame_wide x.d y.d x.soa y.soa W' ((hx.d.below hb).mono hb.size) ((hy.d.below hb).mono hb.size) hi.d.w hj.d.w)
  have HS := Lib.hid (show sameF x.fact y.fact = (soundF x.fact && (soundF y.fact && (sameK x.fact y.fact && ((decide (x.h.knd = y.h.knd) && (decide (x.h.rank = y.h.rank) && (decide (x.h.got = y.h.got) && decide (x.h.ttl = y.h.ttl)))) && (sameS (dats x.sp) (dats y.sp) && (eqN x.zone y.zone && sameD x.soa y.soa)))))) from rfl)
  have hlx : x.sp.length ≤ maxLen := Nat.le_trans hx.ls hx.ks
  clear hx hy hi hj hlx h1 h2
  go_enter Tryz.func14, Tryz.ntmps14
  go_wp2_with fail
  refine (HS1.out _ HX.out.below).mono ?_
  rintro e w1 ⟨rfl, hb1⟩
  have HB1 := Lib.hid (HX.out.step hb1)
  clear hb1
  cases e1 : soundF x.fact with
  | false =>
    rw [e1] at HS
    go_wp2
    go_ret
    exact ⟨by rw [HS.out]; rfl, HB1.out.below⟩
  | true =>
  rw [e1, Bool.true_and] at HS
  have q0 : w1.cell? ⟨w.heap.size + 1, 0, none⟩ = some (.slice y.A y.name.length y.c) := HB1.out.b.cell 0
  have q1 : w1.cell? ⟨w.heap.size + 1, 1, none⟩ = some (.int .i64 y.h.typ) := HB1.out.b.cell 1
  have q2 : w1.cell? ⟨w.heap.size + 1, 2, none⟩ = some (.int .i64 y.h.knd) := HB1.out.b.cell 2
  have q3 : w1.cell? ⟨w.heap.size + 1, 3, none⟩ = some (.int .i64 y.h.rank) := HB1.out.b.cell 3
  have q4 : w1.cell? ⟨w.heap.size + 1, 4, none⟩ = some (.int .i64 y.h.got) := HB1.out.b.cell 4
  have q5 : w1.cell? ⟨w.heap.size + 1, 5, none⟩ = some (.int .i64 y.h.ttl) := HB1.out.b.cell 5
  have q6 : w1.cell? ⟨w.heap.size + 1, 6, none⟩ = some (.slice y.sA y.sp.length y.sc) := HB1.out.b.cell 6
  have q7 : w1.cell? ⟨w.heap.size + 1, 7, none⟩ = some (.slice y.zA y.zone.length y.zc) := HB1.out.b.cell 7
  have q8 : w1.cell? ⟨w.heap.size + 1, 8, none⟩ = some (.slice y.d.Ab y.soa.bytes.length y.d.cb) := HB1.out.b.cell 8
  have q9 : w1.cell? ⟨w.heap.size + 1, 9, none⟩ = some (.slice y.d.Ah y.soa.host.length y.d.ch) := HB1.out.b.cell 9
  have q10 : w1.cell? ⟨w.heap.size + 1, 10, none⟩ = some (.slice y.d.Am y.soa.mail.length y.d.cm) := HB1.out.b.cell 10
  have q11 : w1.cell? ⟨w.heap.size + 1, 11, none⟩ = some (.slice y.d.An y.soa.nums.length y.d.cn) := HB1.out.b.cell 11
  have q12 : w1.cell? ⟨w.heap.size + 1, 12, none⟩ = some (.slice y.d.At y.soa.texts.length y.d.ct) := HB1.out.b.cell 12
  go_wp2_with fail
  refine (HS2.out _ HB1.out.below).mono ?_
  rintro e w2 ⟨rfl, hb2⟩
  have HB2 := Lib.hid (HB1.out.step hb2)
  clear hb2  q0 q1 q2 q3 q4 q5 q6 q7 q8 q9 q10 q11 q12 HB1
  cases e2 : soundF y.fact with
  | false =>
    rw [e2] at HS
    go_wp2
    go_ret
    exact ⟨by rw [HS.out]; rfl, HB2.out.below⟩
  | true =>
  rw [e2, Bool.true_and] at HS
  have p0 : w2.cell? ⟨w.heap.size, 0, none⟩ = some (.slice x.A x.name.length x.c) := HB2.out.a.cell 0
  have p1 : w2.cell? ⟨w.heap.size, 1, none⟩ = some (.int .i64 x.h.typ) := HB2.out.a.cell 1
  have p2 : w2.cell? ⟨w.heap.size, 2, none⟩ = some (.int .i64 x.h.knd) := HB2.out.a.cell 2
  have p3 : w2.cell? ⟨w.heap.size, 3, none⟩ = some (.int .i64 x.h.rank) := HB2.out.a.cell 3
  have p4 : w2.cell? ⟨w.heap.size, 4, none⟩ = some (.int .i64 x.h.got) := HB2.out.a.cell 4
  have p5 : w2.cell? ⟨w.heap.size, 5, none⟩ = some (.int .i64 x.h.ttl) := HB2.out.a.cell 5
  have p6 : w2.cell? ⟨w.heap.size, 6, none⟩ = some (.slice x.sA x.sp.length x.sc) := HB2.out.a.cell 6
  have p7 : w2.cell? ⟨w.heap.size, 7, none⟩ = some (.slice x.zA x.zone.length x.zc) := HB2.out.a.cell 7
  have p8 : w2.cell? ⟨w.heap.size, 8, none⟩ = some (.slice x.d.Ab x.soa.bytes.length x.d.cb) := HB2.out.a.cell 8
  have p9 : w2.cell? ⟨w.heap.size, 9, none⟩ = some (.slice x.d.Ah x.soa.host.length x.d.ch) := HB2.out.a.cell 9
  have p10 : w2.cell? ⟨w.heap.size, 10, none⟩ = some (.slice x.d.Am x.soa.mail.length x.d.cm) := HB2.out.a.cell 10
  have p11 : w2.cell? ⟨w.heap.size, 11, none⟩ = some (.slice x.d.An x.soa.nums.length x.d.cn) := HB2.out.a.cell 11
  have p12 : w2.cell? ⟨w.heap.size, 12, none⟩ = some (.slice x.d.At x.soa.texts.length x.d.ct) := HB2.out.a.cell 12
  have q0 : w2.cell? ⟨w.heap.size + 1, 0, none⟩ = some (.slice y.A y.name.length y.c) := HB2.out.b.cell 0
  have q1 : w2.cell? ⟨w.heap.size + 1, 1, none⟩ = some (.int .i64 y.h.typ) := HB2.out.b.cell 1
  have q2 : w2.cell? ⟨w.heap.size + 1, 2, none⟩ = some (.int .i64 y.h.knd) := HB2.out.b.cell 2
  have q3 : w2.cell? ⟨w.heap.size + 1, 3, none⟩ = some (.int .i64 y.h.rank) := HB2.out.b.cell 3
  have q4 : w2.cell? ⟨w.heap.size + 1, 4, none⟩ = some (.int .i64 y.h.got) := HB2.out.b.cell 4
  have q5 : w2.cell? ⟨w.heap.size + 1, 5, none⟩ = some (.int .i64 y.h.ttl) := HB2.out.b.cell 5
  have q6 : w2.cell? ⟨w.heap.size + 1, 6, none⟩ = some (.slice y.sA y.sp.length y.sc) := HB2.out.b.cell 6
  have q7 : w2.cell? ⟨w.heap.size + 1, 7, none⟩ = some (.slice y.zA y.zone.length y.zc) := HB2.out.b.cell 7
  have q8 : w2.cell? ⟨w.heap.size + 1, 8, none⟩ = some (.slice y.d.Ab y.soa.bytes.length y.d.cb) := HB2.out.b.cell 8
  have q9 : w2.cell? ⟨w.heap.size + 1, 9, none⟩ = some (.slice y.d.Ah y.soa.host.length y.d.ch) := HB2.out.b.cell 9
  have q10 : w2.cell? ⟨w.heap.size + 1, 10, none⟩ = some (.slice y.d.Am y.soa.mail.length y.d.cm) := HB2.out.b.cell 10
  have q11 : w2.cell? ⟨w.heap.size + 1, 11, none⟩ = some (.slice y.d.An y.soa.nums.length y.d.cn) := HB2.out.b.cell 11
  have q12 : w2.cell? ⟨w.heap.size + 1, 12, none⟩ = some (.slice y.d.At y.soa.texts.length y.d.ct) := HB2.out.b.cell 12
  go_wp2_with fail
  refine (HK.out _ HB2.out.below).mono ?_
  rintro e w3 ⟨rfl, hb3⟩
  have HB3 := Lib.hid (HB2.out.step hb3)
  clear hb3 p0 p1 p2 p3 p4 p5 p6 p7 p8 p9 p10 p11 p12 q0 q1 q2 q3 q4 q5 q6 q7 q8 q9 q10 q11 q12 HB2
  cases e3 : sameK x.fact y.fact with
  | false =>
    rw [e3] at HS
    go_wp2
    go_ret
    exact ⟨by rw [HS.out]; rfl, HB3.out.below⟩
  | true =>
  rw [e3, Bool.true_and] at HS
  have p2 : w3.cell? ⟨w.heap.size, 2, none⟩ = some (.int .i64 x.h.knd) := HB3.out.a.cell 2
  have p3 : w3.cell? ⟨w.heap.size, 3, none⟩ = some (.int .i64 x.h.rank) := HB3.out.a.cell 3
  have p4 : w3.cell? ⟨w.heap.size, 4, none⟩ = some (.int .i64 x.h.got) := HB3.out.a.cell 4
  have p5 : w3.cell? ⟨w.heap.size, 5, none⟩ = some (.int .i64 x.h.ttl) := HB3.out.a.cell 5
  have p6 : w3.cell? ⟨w.heap.size, 6, none⟩ = some (.slice x.sA x.sp.length x.sc) := HB3.out.a.cell 6
  have q2 : w3.cell? ⟨w.heap.size + 1, 2, none⟩ = some (.int .i64 y.h.knd) := HB3.out.b.cell 2
  have q3 : w3.cell? ⟨w.heap.size + 1, 3, none⟩ = some (.int .i64 y.h.rank) := HB3.out.b.cell 3
  have q4 : w3.cell? ⟨w.heap.size + 1, 4, none⟩ = some (.int .i64 y.h.got) := HB3.out.b.cell 4
  have q5 : w3.cell? ⟨w.heap.size + 1, 5, none⟩ = some (.int .i64 y.h.ttl) := HB3.out.b.cell 5
  have q6 : w3.cell? ⟨w.heap.size + 1, 6, none⟩ = some (.slice y.sA y.sp.length y.sc) := HB3.out.b.cell 6
  by_cases f0 : x.h.knd = y.h.knd
  case neg =>
    have g0 : (x.h.knd == y.h.knd) = false := beq_eq_false_iff_ne.2 f0
    rw [decide_eq_false f0] at HS
    clear f0
    go_wp2
    go_ret
    exact ⟨by rw [HS.out]; simp, HB3.out.below⟩
  have g0 : (x.h.knd == y.h.knd) = true := by rw [beq_iff_eq]; exact f0
  rw [decide_eq_true f0] at HS
  clear f0
  by_cases f1 : x.h.rank = y.h.rank
  case neg =>
    have g1 : (x.h.rank == y.h.rank) = false := beq_eq_false_iff_ne.2 f1
    rw [decide_eq_false f1] at HS
    clear f1
    go_wp2
    go_ret
    exact ⟨by rw [HS.out]; simp, HB3.out.below⟩
  have g1 : (x.h.rank == y.h.rank) = true := by rw [beq_iff_eq]; exact f1
  rw [decide_eq_true f1] at HS
  clear f1
  by_cases f2 : x.h.got = y.h.got
  case neg =>
    have g2 : (x.h.got == y.h.got) = false := beq_eq_false_iff_ne.2 f2
    rw [decide_eq_false f2] at HS
    clear f2
    go_wp2
    go_ret
    exact ⟨by rw [HS.out]; simp, HB3.out.below⟩
  have g2 : (x.h.got == y.h.got) = true := by rw [beq_iff_eq]; exact f2
  rw [decide_eq_true f2] at HS
  clear f2
  by_cases f3 : x.h.ttl = y.h.ttl
  case neg =>
    have g3 : (x.h.ttl == y.h.ttl) = false := beq_eq_false_iff_ne.2 f3
    rw [decide_eq_false f3] at HS
    clear f3
    go_wp2
    go_ret
    exact ⟨by rw [HS.out]; simp, HB3.out.below⟩
  have g3 : (x.h.ttl == y.h.ttl) = true := by rw [beq_iff_eq]; exact f3
  rw [decide_eq_true f3] at HS
  clear f3
  simp only [Bool.true_and, Bool.and_true] at HS
  go_wp2_with fail
  refine (HT.out _ HB3.out.below).mono ?_
  rintro e w4 ⟨rfl, hb4⟩
  have HB4 := Lib.hid (HB3.out.step hb4)
  clear hb4 p2 p3 p4 p5 p6 q2 q3 q4 q5 q6 HB3
  cases e4 : sameS (dats x.sp) (dats y.sp) with
  | false =>
    rw [e4] at HS
    go_wp2
    go_ret
    exact ⟨by rw [HS.out]; rfl, HB4.out.below⟩
  | true =>
  rw [e4, Bool.true_and] at HS
  have p7 : w4.cell? ⟨w.heap.size, 7, none⟩ = some (.slice x.zA x.zone.length x.zc) := HB4.out.a.cell 7
  have q7 : w4.cell? ⟨w.heap.size + 1, 7, none⟩ = some (.slice y.zA y.zone.length y.zc) := HB4.out.b.cell 7
  go_wp2_with fail
  refine (HE.out _ HB4.out.below).mono ?_
  rintro e w5 ⟨rfl, hb5⟩
  have HB5 := Lib.hid (HB4.out.step hb5)
  clear hb5 p7 q7 HB4
  cases e5 : eqN x.zone y.zone with
  | false =>
    rw [e5] at HS
    go_wp2
    go_ret
    exact ⟨by rw [HS.out]; rfl, HB5.out.below⟩
  | true =>
  rw [e5, Bool.true_and] at HS
  have p8 : w5.cell? ⟨w.heap.size, 8, none⟩ = some (.slice x.d.Ab x.soa.bytes.length x.d.cb) := HB5.out.a.cell 8
  have p9 : w5.cell? ⟨w.heap.size, 9, none⟩ = some (.slice x.d.Ah x.soa.host.length x.d.ch) := HB5.out.a.cell 9
  have p10 : w5.cell? ⟨w.heap.size, 10, none⟩ = some (.slice x.d.Am x.soa.mail.length x.d.cm) := HB5.out.a.cell 10
  have p11 : w5.cell? ⟨w.heap.size, 11, none⟩ = some (.slice x.d.An x.soa.nums.length x.d.cn) := HB5.out.a.cell 11
  have p12 : w5.cell? ⟨w.heap.size, 12, none⟩ = some (.slice x.d.At x.soa.texts.length x.d.ct) := HB5.out.a.cell 12
  have q8 : w5.cell? ⟨w.heap.size + 1, 8, none⟩ = some (.slice y.d.Ab y.soa.bytes.length y.d.cb) := HB5.out.b.cell 8
  have q9 : w5.cell? ⟨w.heap.size + 1, 9, none⟩ = some (.slice y.d.Ah y.soa.host.length y.d.ch) := HB5.out.b.cell 9
  have q10 : w5.cell? ⟨w.heap.size + 1, 10, none⟩ = some (.slice y.d.Am y.soa.mail.length y.d.cm) := HB5.out.b.cell 10
  have q11 : w5.cell? ⟨w.heap.size + 1, 11, none⟩ = some (.slice y.d.An y.soa.nums.length y.d.cn) := HB5.out.b.cell 11
  have q12 : w5.cell? ⟨w.heap.size + 1, 12, none⟩ = some (.slice y.d.At y.soa.texts.length y.d.ct) := HB5.out.b.cell 12
  go_wp2_with fail
  refine (HD.out _ HB5.out.below).mono ?_
  rintro e w6 ⟨rfl, hb6⟩
  have HB6 := Lib.hid (HB5.out.step hb6)
  clear hb6 p8 p9 p10 p11 p12 q8 q9 q10 q11 q12 HB5
  go_wp2
  go_ret
  exact ⟨by rw [HS.out]; simp, HB6.out.below⟩

/-- The document's Same, of facts that are sound. -/
theorem refsame_sound (w : World) (x y : FV) (hx : FAt w w.heap.size x) (hy : FAt w w.heap.size y) (sx : soundF x.fact = true) (sy : soundF y.fact = true) : Calls Tryz.prog 14 #[x.val, y.val] w (Gave w (.bool (sameF x.fact y.fact))) :=
  refsame_by w x y hx hy (soundF_in sx) (soundF_in sy) (fun W' hb => sx ▸ refsound_yes W' x ((hx.below hb).mono hb.size) (soundF_in sx) sx) (fun W' hb => sy ▸ refsound_yes W' y ((hy.below hb).mono hb.size) (soundF_in sy) sy)

end Go.Proofs.YtmbcbfalgdgmjaaGreatDoor
