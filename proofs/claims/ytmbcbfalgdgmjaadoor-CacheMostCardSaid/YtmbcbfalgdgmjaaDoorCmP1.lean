/-
  CacheMost, tied: whatever the bound, the names and the number, there are never more facts than may be, the newest is always there, and who is asked for stays longest. The library's table uint64pow10 holds what the program's text lays (the card ties it). No other condition.
-/
import Derived.Test.YtmbcbfalgdgmjaaDoorRows
import Derived.Test.YtmbcbfalgdgmjaaDoorKdP1
import Derived.ProofKit
import Derived.SizedLaws
import Derived.Carry
import Derived.SliceStrings
import Derived.Test.YtmbcbfalgdgmjaaDoorKdP2
import Derived.Test.YtmbcbfalgdgmjaaDoorCards
import Derived.Test.YtmbcbfalgdgmjaaDoorTie
import Derived.LaidLaws
import Derived.Lay
import Derived.Handed
import Derived.Lib.LaidTab
import Derived.ChangeArms
import Derived.Stop.LaidErr
import Derived.Test.YtmbcbfalgdgmjaaDoorKdP6
import Derived.Test.YtmbcbfalgdgmjaaDoorKdP8
import Derived.Deep.CutRange
namespace Go.Proofs.YtmbcbfalgdgmjaaDoor
open Go.ChangeShapes Go.WideShapes Go.ChangeAt Go.RowKit

theorem Tryd.own : ownKnob Tryd.prog.godebug = none := by kernel_rfl
theorem Tryd.laidOut : laidOutB Tryd.prog = true := by kernel_rfl

theorem bc_of_int (n : Int) (h : (Lit.int .u8 n).wf = true) : Value.int .u8 n = bc (UInt8.ofNat n.toNat) := by
  have h1 : IntKind.u8.min = 0 := rfl
  have h2 : IntKind.u8.max = 255 := rfl
  simp only [Lit.wf, Bool.and_eq_true, decide_eq_true_eq] at h
  unfold bc
  rw [UInt8.toNat_ofNat', Nat.mod_eq_of_lt (by omega)]
  congr 1
  omega

set_option maxRecDepth 20000 in
/-- An argument of bytes: whatever it is, it reads as a list. -/
theorem open_row_u8c {H : Type} {enc : TypeId × Value → H} {W : World} {base : Nat} {t : TypeId} {v : Value} {d : DataW H} {p : List MemPlace} (hc : Tryd.prog.cellsOf 5 = 1) (ht : Tryd.prog.underlying t = some (.slice 5))
    (hval : Value.okWide Tryd.prog W .any base t v) (h : DataW.Trod enc Tryd.prog W 0 (fun _ => true) true t v d p) (hlt : ∀ x ∈ p, x.block < W.heap.size) :
    ∃ (A : Option Addr) (m c : Nat) (l : List UInt8), v = .slice A m c ∧ l.length = m ∧ Row W W.heap.size A (l.map bc) ∧ m ≤ c ∧ m ≤ maxLen ∧ c ≤ maxLen ∧ (m = 0 ∨ ∃ el sp, d = .slice el sp ∧ el.length = m) := by
  obtain ⟨a0, len, cap, rfl⟩ := okWide_slice ht hval
  obtain ⟨fuel, hf⟩ := h
  rcases open_ints ht Tryd.underlying5 hc hf with ⟨hcs, hx⟩ | ⟨a, len', cap', zs, hcs, _, hl, hm, hz, hx, hcell, hwz⟩
  · simp [Value.cells] at hcs
    obtain ⟨rfl, rfl, rfl⟩ := hcs
    exact ⟨none, 0, 0, [], rfl, rfl, Row.empty _ _ _, Nat.le_refl _, Nat.zero_le _, Nat.zero_le _, .inl rfl⟩
  · simp [Value.cells] at hcs
    obtain ⟨rfl, rfl, rfl⟩ := hcs
    simp only [Prod.mk.injEq] at hx
    obtain ⟨rfl, rfl⟩ := hx
    simp only [if_true] at hz
    refine ⟨some a, len, cap, (zs.take len).map fun n => UInt8.ofNat n.toNat, rfl, by simp; omega, fun hne => ?_, hl, Nat.le_trans hl hm, hm, .inr ⟨_, _, rfl, by simp [lits]; omega⟩⟩
    have hpos : 0 < zs.length := by
      rcases zs with _ | ⟨z, zs⟩
      · simp at hne
      · simp
    obtain ⟨b, off, spot⟩ := a
    have hspot : spot = none := by simpa [Addr.add] using World.cell?_spot (hcell 0 hpos)
    subst hspot
    refine ⟨b, off, rfl, hlt (.cell b off) (MemPlace.mem_row.2 ⟨0, hpos, by simp⟩), fun j u hu => ?_⟩
    have hj : j < zs.length := by
      have := (List.getElem?_eq_some_iff.1 hu).1
      simp at this
      omega
    have hjl : j < len := by
      have := (List.getElem?_eq_some_iff.1 hu).1
      simp at this
      omega
    have h1 := hcell j hj
    rw [addr_add] at h1
    rw [h1]
    have e : zs.getD j 0 = zs[j] := by simp [List.getD, List.getElem?_eq_getElem hj]
    rw [List.getElem?_map, List.getElem?_map, List.getElem?_take, if_pos hjl, List.getElem?_eq_getElem hj] at hu
    simp only [Option.map_some] at hu
    rw [← hu, e, bc_of_int _ (hwz _ (List.getElem_mem hj))]

set_option maxRecDepth 20000 in
theorem open_row_u8 {H : Type} {enc : TypeId × Value → H} {W : World} {base : Nat} {t : TypeId} {v : Value} {d : DataW H} {p : List MemPlace} (hc : Tryd.prog.cellsOf 5 = 1) (ht : Tryd.prog.underlying t = some (.slice 5))
    (hval : Value.okWide Tryd.prog W .any base t v) (h : DataW.Trod enc Tryd.prog W 0 (fun _ => true) true t v d p) (hlt : ∀ x ∈ p, x.block < W.heap.size) :
    ∃ (A : Option Addr) (m c : Nat) (l : List UInt8), v = .slice A m c ∧ l.length = m ∧ Row W W.heap.size A (l.map bc) ∧ m ≤ c ∧ m ≤ maxLen ∧ (m = 0 ∨ ∃ el sp, d = .slice el sp ∧ el.length = m) := by
  obtain ⟨A, m, c, l, h1, h2, h3, h4, h5, _, h6⟩ := open_row_u8c hc ht hval h hlt
  exact ⟨A, m, c, l, h1, h2, h3, h4, h5, h6⟩

theorem row_reach {H : Type} {P : Program} {ts : List TypeId} {ds : List (DataW H)} {d : DataW H} {m : Nat} (h : (DataW.weightsEach P ts ds).all (· ≤ reachBytes) = true) {j : Nat} {t e : TypeId} (ht : ts[j]? = some t) (hd : ds[j]? = some d) (hu : P.underlying t = some (.slice e))
    (hb : P.bytesOf e = 1) (hm : m = 0 ∨ ∃ el sp, d = .slice el sp ∧ el.length = m) : m ≤ 140737488351232 := by
  rcases hm with rfl | ⟨el, sp, rfl, hl⟩
  · omega
  · have := sized_slice h ht hd hu
    rw [hb] at this
    simp only [reachBytes] at this
    omega
theorem u8_cells : Tryd.prog.cellsOf 5 = 1 := by kernel_rfl
theorem u8_bytes : Tryd.prog.bytesOf 5 = 1 := by kernel_rfl

theorem below_trodAll {H : Type} {enc : TypeId × Value → H} {P : Program} (hl : laidOutB P = true) {W W' : World} (hb : Below W.heap.size W W') :
    ∀ {ts : List TypeId} {vs : List Value} {ds : List (DataW H)} {ps : List MemPlace}, ts.all (fun t => P.readableRec t && decide (t < P.types.size)) = true →
      DataW.TrodAll enc P W 0 (fun _ => true) true ts vs ds ps → (∀ x ∈ ps, x.block < W.heap.size) → DataW.TrodAll enc P W' 0 (fun b => decide (b < W.heap.size)) true ts vs ds ps
  | [], [], [], _, _, h, _ => h
  | [], [], _ :: _, _, _, h, _ => h.elim
  | [], _ :: _, _, _, _, h, _ => h.elim
  | _ :: _, [], _, _, _, h, _ => h.elim
  | _ :: _, _ :: _, [], _, _, h, _ => h.elim
  | t :: ts, v :: vs, d :: ds, ps, ht, h, hlt => by
    obtain ⟨p, q, h1, h2, rfl⟩ := h
    simp only [List.all_cons, Bool.and_eq_true, decide_eq_true_eq] at ht
    exact ⟨p, q, Below.trod hl ht.1.1 ht.1.2 h1 hb (fun x hx => hlt x (List.mem_append_left _ hx)), below_trodAll hl hb ht.2 h2 (fun x hx => hlt x (List.mem_append_right _ hx)), rfl⟩

/-- The end of a law: it has answered true, and nothing that was there has turned. -/
theorem law_post {H : Type} {enc : TypeId × Value → H} {P : Program} {f : Func} {s : ChangeSpec} {W W' : World} {args : Array Value} {ds gs : List (DataW H)} {before : List MemPlace} {tb : TypeId}
    (hl : laidOutB P = true) (hts : f.params.toList.all (fun t => P.readableRec t && decide (t < P.types.size)) = true) (hrt : f.resultTypes.toList = [tb]) (hsz : f.resultTypes.size = 1) (hbool : P.underlying tb = some .bool) (hsv : s.vars = [])
    (hW : DataW.Whole enc P f.params.toList s.vars false W args.toList ds gs before)
    (hres : (s.fn H (ds ++ gs)).results = [.lit (.bool true)]) (hargs : (s.fn H (ds ++ gs)).args = ds) (hvars : (s.fn H (ds ++ gs)).vars = [])
    (hb : Below W.heap.size W W') : s.post enc P f false true false false W args (.bool true) W' := by
  have hW' := hW
  obtain ⟨p, q, hA, hV, rfl, _, _⟩ := hW
  rw [hsv] at hV
  obtain ⟨rfl, rfl⟩ := trodVars_none hV
  have hlt : ∀ x ∈ p, x.block < W.heap.size := fun x hx => hW'.lt x (List.mem_append_left _ hx)
  refine ⟨ds, [], p ++ [], [], p, [], hW', ?_, ?_, ?_, hb.frame _, fun h => by cases h⟩
  · rw [hrt, hsz, hres]
    exact trodAll_mk1 (shut_bool hbool true)
  · rw [hargs]
    exact below_trodAll hl hb hts hA hlt
  · rw [hsv, hvars]
    rfl

theorem i64_le {n : Int} (h : (Lit.int .i64 n).wf = true) : -9223372036854775808 ≤ n ∧ n ≤ 9223372036854775807 := by
  have h1 : IntKind.i64.min = -9223372036854775808 := rfl
  have h2 : IntKind.i64.max = 9223372036854775807 := rfl
  simp only [Lit.wf, Bool.and_eq_true, decide_eq_true_eq] at h
  omega

end Go.Proofs.YtmbcbfalgdgmjaaDoor

namespace Go.Proofs.YtmbcbfalgdgmjaaDoor
open Go.ChangeShapes Go.WideShapes Go.ChangeAt Go.RowKit

theorem string_sv (s : ByteArray) : Value.string s = sv s.data.toList := by
  unfold sv
  rw [Array.toArray_toList]

theorem str_cells : Tryd.prog.cellsOf 9 = 1 := by kernel_rfl
theorem str_bytes : Tryd.prog.bytesOf 9 = 16 := by kernel_rfl

set_option maxRecDepth 20000 in
/-- An argument of strings: whatever it is, it reads as a name. -/
theorem open_row_str {H : Type} {enc : TypeId × Value → H} {W : World} {base : Nat} {t : TypeId} {v : Value} {d : DataW H} {p : List MemPlace} (hc : Tryd.prog.cellsOf 9 = 1) (ht : Tryd.prog.underlying t = some (.slice 9))
    (hval : Value.okWide Tryd.prog W .any base t v) (h : DataW.Trod enc Tryd.prog W 0 (fun _ => true) true t v d p) (hlt : ∀ x ∈ p, x.block < W.heap.size)
    {ts : List TypeId} {ds : List (DataW H)} (hsz : (DataW.weightsEach Tryd.prog ts ds).all (· ≤ reachBytes) = true) {j : Nat} (htj : ts[j]? = some t) (hdj : ds[j]? = some d) :
    ∃ (A : Option Addr) (c : Nat) (n : List (List UInt8)), v = .slice A n.length c ∧ NameIn W A n ∧ n.length ≤ c := by
  obtain ⟨a0, len, cap, rfl⟩ := okWide_slice ht hval
  obtain ⟨fuel, hf⟩ := h
  rcases open_strings ht Tryd.underlying9 hc hf with ⟨hcs, hx⟩ | ⟨a, len', cap', ss, hcs, _, hl, hm, hz, hx, hcell, hwz⟩
  · simp [Value.cells] at hcs
    obtain ⟨rfl, rfl, rfl⟩ := hcs
    exact ⟨none, 0, [], rfl, ⟨Row.empty _ _ _, Nat.zero_le _, fun k h => absurd h (Nat.not_lt_zero _)⟩, Nat.le_refl _⟩
  · simp [Value.cells] at hcs
    obtain ⟨rfl, rfl, rfl⟩ := hcs
    simp only [Prod.mk.injEq] at hx
    obtain ⟨rfl, rfl⟩ := hx
    simp only [if_true] at hz
    have hlen : ((ss.take len).map fun s => s.data.toList).length = len := by simp; omega
    have hw := sized_slice hsz htj hdj ht
    rw [str_bytes] at hw
    simp only [reachBytes] at hw
    refine ⟨some a, cap, (ss.take len).map fun s => s.data.toList, by rw [hlen], ⟨fun hne => ?_, ?_, ?_⟩, by rw [hlen]; exact hl⟩
    · have hpos : 0 < ss.length := by
        rcases ss with _ | ⟨z, zs⟩
        · simp at hne
        · simp
      obtain ⟨b, off, spot⟩ := a
      have hspot : spot = none := by simpa [Addr.add] using World.cell?_spot (hcell 0 hpos)
      subst hspot
      refine ⟨b, off, rfl, hlt (.cell b off) (MemPlace.mem_row.2 ⟨0, hpos, by simp⟩), fun j u hu => ?_⟩
      have hjl : j < len := by
        have := (List.getElem?_eq_some_iff.1 hu).1
        simp at this
        omega
      have hj : j < ss.length := by omega
      have h1 := hcell j hj
      rw [addr_add] at h1
      rw [h1]
      have e : ss.getD j ByteArray.empty = ss[j] := by simp [List.getD, List.getElem?_eq_getElem hj]
      rw [List.getElem?_map, List.getElem?_map, List.getElem?_take, if_pos hjl, List.getElem?_eq_getElem hj] at hu
      simp only [Option.map_some] at hu
      rw [← hu, e, string_sv]
    · rw [hlen]
      simp [strs] at hw
      omega
    · intro k hk
      have hk' : k < ss.length := by rw [hlen] at hk; omega
      have h2 := hwz ss[k] (List.getElem_mem hk')
      simpa using h2

end Go.Proofs.YtmbcbfalgdgmjaaDoor

namespace Go.Proofs.YtmbcbfalgdgmjaaDoor
open Go.ChangeShapes Go.WideShapes Go.ChangeAt Go.RowKit

/-- What the rows list. -/
def laidK : List (String × DataW Unit) := [("math/bits.deBruijn32tab", Rows.laid_math_bits_deBruijn32tab), ("math/bits.deBruijn64tab", Rows.laid_math_bits_deBruijn64tab), ("internal/strconv.uint64pow10", Rows.laid_internal_strconv_uint64pow10)]
theorem u64_oneK : Tryd.prog.cellsOf 109 = 1 := by kernel_rfl
theorem u64_20K : Tryd.prog.cellsOf 118 = 20 := by kernel_rfl
theorem pows_global : Tryd.prog.globalNamed "internal/strconv.uint64pow10" = some 0 := by kernel_rfl
theorem pows_type : (Tryd.prog.globals[(0 : Nat)]?).map (·.type) = some 118 := by kernel_rfl
theorem pows_of_laid {W : World} (h : laidMetH Tryd.prog laidK W) : PowsAt W.heap.size W := by
  have h1 : laidMet Tryd.prog laidK W := by
    have e := MakeChecks.laidMetH_plain Tryd.prog laidK W (by kernel_rfl)
    rwa [e] at h
  exact Lib.tabBelow_of_tabIs (Lib.tabIs_of_head pows_global pows_type Tryd.underlying118 Tryd.underlying109 u64_oneK u64_20K (rest := []) h1.tail.tail)
theorem u16_natK {n : Int} (h : (Lit.int .u16 n).wf = true) : ∃ m : Nat, n = m ∧ m < 65536 := by
  have h1 : IntKind.u16.min = 0 := rfl
  have h2 : IntKind.u16.max = 65535 := rfl
  simp only [Lit.wf, Bool.and_eq_true, decide_eq_true_eq] at h
  exact ⟨n.toNat, by omega, by omega⟩
theorem u8_natK {n : Int} (h : (Lit.int .u8 n).wf = true) : ∃ m : Nat, n = m ∧ m < 256 := by
  have h1 : IntKind.u8.min = 0 := rfl
  have h2 : IntKind.u8.max = 255 := rfl
  simp only [Lit.wf, Bool.and_eq_true, decide_eq_true_eq] at h
  exact ⟨n.toNat, by omega, by omega⟩

end Go.Proofs.YtmbcbfalgdgmjaaDoor

namespace Go.Proofs.YtmbcbfalgdgmjaaDoor
open Go.RowKit

/-- The fact of 'answers', as it lies. -/
def ansC (g : Nat) : FV := ⟨none, 0, [], ⟨1, 1, 1, 0, 5⟩, some ⟨g + 1, 0, none⟩, 1, [(⟨some ⟨g, 0, none⟩, none, none, none, none, 4, 0, 0, 0, 0⟩, ⟨[1, 2, 3, 4], [], [], [], []⟩)], none, 0, [], ⟨none, none, none, none, none, 0, 0, 0, 0, 0⟩, ⟨[], [], [], [], []⟩⟩
theorem ansC_sound (g : Nat) : soundF (ansC g).fact = true := by
  show soundF ⟨[], ⟨1, 1, 1, 0, 5⟩, [⟨[1, 2, 3, 4], [], [], [], []⟩], [], ⟨[], [], [], [], []⟩⟩ = true
  decide +kernel
theorem ansC_at (w : World) : FAt ((w.alloc (.cells #[.int .u8 1, .int .u8 2, .int .u8 3, .int .u8 4] 5)).alloc (.cells #[.slice (some ⟨w.heap.size, 0, none⟩) 4 4, .slice none 0 0, .slice none 0 0, .slice none 0 0, .slice none 0 0] 31))
    ((w.alloc (.cells #[.int .u8 1, .int .u8 2, .int .u8 3, .int .u8 4] 5)).alloc (.cells #[.slice (some ⟨w.heap.size, 0, none⟩) 4 4, .slice none 0 0, .slice none 0 0, .slice none 0 0, .slice none 0 0] 31)).heap.size (ansC w.heap.size) := by
  have h1 : Row (w.alloc (.cells #[.int .u8 1, .int .u8 2, .int .u8 3, .int .u8 4] 5)) (w.heap.size + 1) (some ⟨w.heap.size, 0, none⟩) (([1, 2, 3, 4] : List UInt8).map bc) := Row.made w _ _
  have h2 := Row.made (w.alloc (.cells #[.int .u8 1, .int .u8 2, .int .u8 3, .int .u8 4] 5)) #[.slice (some ⟨w.heap.size, 0, none⟩) 4 4, .slice none 0 0, .slice none 0 0, .slice none 0 0, .slice none 0 0] 31
  have hz : (w.alloc (.cells #[.int .u8 1, .int .u8 2, .int .u8 3, .int .u8 4] 5)).heap.size = w.heap.size + 1 := by simp
  rw [hz] at h2
  have hz2 : ((w.alloc (.cells #[.int .u8 1, .int .u8 2, .int .u8 3, .int .u8 4] 5)).alloc (.cells #[.slice (some ⟨w.heap.size, 0, none⟩) 4 4, .slice none 0 0, .slice none 0 0, .slice none 0 0, .slice none 0 0] 31)).heap.size = w.heap.size + 2 := by simp
  rw [hz2]
  have hb := (h1.alloc (by rw [hz]; exact Nat.le_refl _) (.cells #[.slice (some ⟨w.heap.size, 0, none⟩) 4 4, .slice none 0 0, .slice none 0 0, .slice none 0 0, .slice none 0 0] 31)).mono (Nat.le_succ _)
  refine ⟨Row.empty _ _ _, ⟨h2, fun p hp => ?_⟩, Row.empty _ _ _, ⟨Row.empty _ _ _, Row.empty _ _ _, Row.empty _ _ _, Row.empty _ _ _, Row.empty _ _ _, Nat.le_refl _, Nat.le_refl _, Nat.le_refl _, Nat.le_refl _, Nat.le_refl _, Nat.zero_le _, Nat.zero_le _⟩, Nat.le_refl _, Nat.le_refl _, Nat.le_refl _, by unfold ansC maxLen; dsimp only; omega⟩
  rw [List.mem_singleton.1 hp]
  exact ⟨hb, Row.empty _ _ _, Row.empty _ _ _, Row.empty _ _ _, Row.empty _ _ _, Nat.le_refl _, Nat.le_refl _, Nat.le_refl _, Nat.le_refl _, Nat.le_refl _, by unfold maxLen; dsimp only; omega, Nat.zero_le _⟩

theorem ansC_few (g : Nat) : FewF (ansC g) := by
  have hd : FewD (ansC g).soa := ⟨Nat.zero_le _, Nat.zero_le _, Nat.zero_le _, Nat.zero_le _, Nat.zero_le _⟩
  refine ⟨Nat.zero_le _, Nat.zero_le _, by unfold ansC; dsimp only [List.length]; omega, hd, fun p hp => ?_⟩
  rw [List.mem_singleton.1 hp]
  constructor <;> (dsimp only [List.length]; omega)

theorem ansC_put (g : Nat) : Ca.putB ⟨(2 : Int).toNat, 0, []⟩ (ansC g).fact 1 = true := by
  show Ca.putB ⟨2, 0, []⟩ ⟨[], ⟨1, 1, 1, 0, 5⟩, [⟨[1, 2, 3, 4], [], [], [], []⟩], [], ⟨[], [], [], [], []⟩⟩ 1 = true
  decide +kernel
theorem ansC_len (g : Nat) : ((Ca.put ⟨(2 : Int).toNat, 0, []⟩ (ansC g).fact 1).list.length : Int) = 1 := by
  show ((Ca.put ⟨2, 0, []⟩ ⟨[], ⟨1, 1, 1, 0, 5⟩, [⟨[1, 2, 3, 4], [], [], [], []⟩], [], ⟨[], [], [], [], []⟩⟩ 1).list.length : Int) = 1
  decide +kernel

set_option maxHeartbeats 400000 in
theorem caanswers_any (L : CacheCore) (w : World) (hv : L.Vars w) : Calls Tryd.prog 5 #[] w (TrueB w) := by
  have HN := Lib.hid (L.new_ok w 2 0 hv (by decide) (by decide) (by decide +kernel))
  go_enter Tryd.func5, Tryd.ntmps5
  go_wp2_with fail
  refine HN.out.mono ?_
  rintro e w1 ⟨cv, F, rfl, hat, hb1⟩
  have HB := Lib.hid (show Below w1.heap.size w1 ((w1.alloc (.cells #[.int .u8 1, .int .u8 2, .int .u8 3, .int .u8 4] 5)).alloc (.cells #[.slice (some ⟨w1.heap.size, 0, none⟩) 4 4, .slice none 0 0, .slice none 0 0, .slice none 0 0, .slice none 0 0] 31)) from ((Below.refl _ _).alloc (Nat.le_refl _) _).alloc (by simp) _)
  have HP := Lib.hid (L.put (L.at_below hat HB.out) (by decide) (ansC w1.heap.size) 1 (ansC_at w1) (soundF_in (ansC_sound _)) (ansC_few _) (by decide +kernel))
  have HO := Lib.hid (L.at_own (L.at_below hat HB.out))
  have HB1 := Lib.hid (hb1.trans (HB.out.mono hb1.size))
  clear hat hb1 HB
  go_wp2_with fail
  refine HP.out.mono ?_
  rintro e w2 ⟨F2, rfl, hat2, hm2⟩
  have HB2 := Lib.hid (HB1.out.trans (hm2.below (fun j hj => (HO.out.2 j hj).1) HO.out.1))
  rw [ansC_put]
  have HL := Lib.hid (show Calls _ _ _ _ (Gave w2 (.int .i64 1)) from ansC_len w1.heap.size ▸ L.len hat2)
  go_wp2_with fail
  refine HL.out.mono ?_
  rintro e w3 ⟨rfl, hb3⟩
  go_wp2
  go_ret
  exact ⟨rfl, HB2.out.trans (hb3.mono HB2.out.size)⟩

end Go.Proofs.YtmbcbfalgdgmjaaDoor

namespace Go.Proofs.YtmbcbfalgdgmjaaDoor
open Go.RowKit

/-- A fact with one address, as it lies: its bytes, its data. -/
def fact4 (g : Nat) (A : Option Addr) (c : Nat) (n : List (List UInt8)) (h : Fh) : FV := ⟨A, c, n, h, some ⟨g + 1, 0, none⟩, 1, [(⟨some ⟨g, 0, none⟩, none, none, none, none, 4, 0, 0, 0, 0⟩, ⟨[1, 2, 3, 4], [], [], [], []⟩)], none, 0, [], ⟨none, none, none, none, none, 0, 0, 0, 0, 0⟩, ⟨[], [], [], [], []⟩⟩
theorem fact4_at {w : World} {B : Nat} (hB : B ≤ w.heap.size) {A : Option Addr} {c : Nat} {n : List (List UInt8)} (hn : w.ownsRow B 9 1 (.slice A n.length c) n.length (n.map sv)) (h : Fh) :
    FOwn (((w.alloc (.cells #[.int .u8 1, .int .u8 2, .int .u8 3, .int .u8 4] 5)).alloc (.cells #[.slice (some ⟨w.heap.size, 0, none⟩) 4 4, .slice none 0 0, .slice none 0 0, .slice none 0 0, .slice none 0 0] 31)).alloc (.cells #[.slice A n.length c, .int .i64 h.typ, .int .i64 h.knd, .int .i64 h.rank, .int .i64 h.got, .int .i64 h.ttl, .slice (some ⟨w.heap.size + 1, 0, none⟩) 1 1, .slice none 0 0, .slice none 0 0, .slice none 0 0, .slice none 0 0, .slice none 0 0, .slice none 0 0] 34)) B (fact4 w.heap.size A c n h) ∧ Whole (((w.alloc (.cells #[.int .u8 1, .int .u8 2, .int .u8 3, .int .u8 4] 5)).alloc (.cells #[.slice (some ⟨w.heap.size, 0, none⟩) 4 4, .slice none 0 0, .slice none 0 0, .slice none 0 0, .slice none 0 0] 31)).alloc (.cells #[.slice A n.length c, .int .i64 h.typ, .int .i64 h.knd, .int .i64 h.rank, .int .i64 h.got, .int .i64 h.ttl, .slice (some ⟨w.heap.size + 1, 0, none⟩) 1 1, .slice none 0 0, .slice none 0 0, .slice none 0 0, .slice none 0 0, .slice none 0 0, .slice none 0 0] 34)) (w.heap.size + 2) 34 (cellsF (fact4 w.heap.size A c n h)) ∧ Below w.heap.size w (((w.alloc (.cells #[.int .u8 1, .int .u8 2, .int .u8 3, .int .u8 4] 5)).alloc (.cells #[.slice (some ⟨w.heap.size, 0, none⟩) 4 4, .slice none 0 0, .slice none 0 0, .slice none 0 0, .slice none 0 0] 31)).alloc (.cells #[.slice A n.length c, .int .i64 h.typ, .int .i64 h.knd, .int .i64 h.rank, .int .i64 h.got, .int .i64 h.ttl, .slice (some ⟨w.heap.size + 1, 0, none⟩) 1 1, .slice none 0 0, .slice none 0 0, .slice none 0 0, .slice none 0 0, .slice none 0 0, .slice none 0 0] 34)) := by
  have z1 : (w.alloc (.cells #[.int .u8 1, .int .u8 2, .int .u8 3, .int .u8 4] 5)).heap.size = w.heap.size + 1 := by simp
  have z2 : ((w.alloc (.cells #[.int .u8 1, .int .u8 2, .int .u8 3, .int .u8 4] 5)).alloc (.cells #[.slice (some ⟨w.heap.size, 0, none⟩) 4 4, .slice none 0 0, .slice none 0 0, .slice none 0 0, .slice none 0 0] 31)).heap.size = w.heap.size + 2 := by simp
  have hb1 := (Below.refl w.heap.size w).alloc (Nat.le_refl _) (.cells #[.int .u8 1, .int .u8 2, .int .u8 3, .int .u8 4] 5)
  have hb2 := hb1.alloc (by rw [z1]; omega) (.cells #[.slice (some ⟨w.heap.size, 0, none⟩) 4 4, .slice none 0 0, .slice none 0 0, .slice none 0 0, .slice none 0 0] 31)
  have hb3 := hb2.alloc (by rw [z2]; omega) (.cells #[.slice A n.length c, .int .i64 h.typ, .int .i64 h.knd, .int .i64 h.rank, .int .i64 h.got, .int .i64 h.ttl, .slice (some ⟨w.heap.size + 1, 0, none⟩) 1 1, .slice none 0 0, .slice none 0 0, .slice none 0 0, .slice none 0 0, .slice none 0 0, .slice none 0 0] 34)
  have hu : Whole (((w.alloc (.cells #[.int .u8 1, .int .u8 2, .int .u8 3, .int .u8 4] 5)).alloc (.cells #[.slice (some ⟨w.heap.size, 0, none⟩) 4 4, .slice none 0 0, .slice none 0 0, .slice none 0 0, .slice none 0 0] 31)).alloc (.cells #[.slice A n.length c, .int .i64 h.typ, .int .i64 h.knd, .int .i64 h.rank, .int .i64 h.got, .int .i64 h.ttl, .slice (some ⟨w.heap.size + 1, 0, none⟩) 1 1, .slice none 0 0, .slice none 0 0, .slice none 0 0, .slice none 0 0, .slice none 0 0, .slice none 0 0] 34)) w.heap.size 5 [.int .u8 1, .int .u8 2, .int .u8 3, .int .u8 4] := ((Whole.made w [.int .u8 1, .int .u8 2, .int .u8 3, .int .u8 4] _).alloc _).alloc _
  have hd : Whole (((w.alloc (.cells #[.int .u8 1, .int .u8 2, .int .u8 3, .int .u8 4] 5)).alloc (.cells #[.slice (some ⟨w.heap.size, 0, none⟩) 4 4, .slice none 0 0, .slice none 0 0, .slice none 0 0, .slice none 0 0] 31)).alloc (.cells #[.slice A n.length c, .int .i64 h.typ, .int .i64 h.knd, .int .i64 h.rank, .int .i64 h.got, .int .i64 h.ttl, .slice (some ⟨w.heap.size + 1, 0, none⟩) 1 1, .slice none 0 0, .slice none 0 0, .slice none 0 0, .slice none 0 0, .slice none 0 0, .slice none 0 0] 34)) (w.heap.size + 1) 31 [.slice (some ⟨w.heap.size, 0, none⟩) 4 4, .slice none 0 0, .slice none 0 0, .slice none 0 0, .slice none 0 0] := by
    have h1 := (Whole.made (w.alloc (.cells #[.int .u8 1, .int .u8 2, .int .u8 3, .int .u8 4] 5)) [.slice (some ⟨w.heap.size, 0, none⟩) 4 4, .slice none 0 0, .slice none 0 0, .slice none 0 0, .slice none 0 0] 31).alloc (.cells #[.slice A n.length c, .int .i64 h.typ, .int .i64 h.knd, .int .i64 h.rank, .int .i64 h.got, .int .i64 h.ttl, .slice (some ⟨w.heap.size + 1, 0, none⟩) 1 1, .slice none 0 0, .slice none 0 0, .slice none 0 0, .slice none 0 0, .slice none 0 0, .slice none 0 0] 34)
    rw [z1] at h1
    exact h1
  have hf : Whole (((w.alloc (.cells #[.int .u8 1, .int .u8 2, .int .u8 3, .int .u8 4] 5)).alloc (.cells #[.slice (some ⟨w.heap.size, 0, none⟩) 4 4, .slice none 0 0, .slice none 0 0, .slice none 0 0, .slice none 0 0] 31)).alloc (.cells #[.slice A n.length c, .int .i64 h.typ, .int .i64 h.knd, .int .i64 h.rank, .int .i64 h.got, .int .i64 h.ttl, .slice (some ⟨w.heap.size + 1, 0, none⟩) 1 1, .slice none 0 0, .slice none 0 0, .slice none 0 0, .slice none 0 0, .slice none 0 0, .slice none 0 0] 34)) (w.heap.size + 2) 34 (cellsF (fact4 w.heap.size A c n h)) := by
    have h1 := Whole.made ((w.alloc (.cells #[.int .u8 1, .int .u8 2, .int .u8 3, .int .u8 4] 5)).alloc (.cells #[.slice (some ⟨w.heap.size, 0, none⟩) 4 4, .slice none 0 0, .slice none 0 0, .slice none 0 0, .slice none 0 0] 31)) (cellsF (fact4 w.heap.size A c n h)) 34
    rw [z2] at h1
    exact h1
  have h64 : (4 : Nat) ≤ maxLen := by unfold maxLen; omega
  have h61 : (1 : Nat) ≤ maxLen := by unfold maxLen; omega
  refine ⟨⟨own_keep hn fun g e => hb3.block g (hn.lt g e).2, World.ownsRow_nil _ _ _ _, ⟨World.ownsRow_nil _ _ _ _, World.ownsRow_nil _ _ _ _, World.ownsRow_nil _ _ _ _, World.ownsRow_nil _ _ _ _, World.ownsRow_nil _ _ _ _⟩, ?_, fun p hp => ?_⟩, hf, hb3⟩
  · exact ⟨rfl, .inr ⟨w.heap.size + 1, 1, #[.slice (some ⟨w.heap.size, 0, none⟩) 4 4, .slice none 0 0, .slice none 0 0, .slice none 0 0, .slice none 0 0], rfl, by omega, hd, Nat.le_refl _, h61, rfl, rfl⟩⟩
  · rw [List.mem_singleton.1 hp]
    exact ⟨⟨rfl, .inr ⟨w.heap.size, 4, #[.int .u8 1, .int .u8 2, .int .u8 3, .int .u8 4], rfl, hB, hu, Nat.le_refl _, h64, rfl, rfl⟩⟩, World.ownsRow_nil _ _ _ _, World.ownsRow_nil _ _ _ _, World.ownsRow_nil _ _ _ _, World.ownsRow_nil _ _ _ _⟩
theorem fact4_sound {g : Nat} {A : Option Addr} {c : Nat} {n : List (List UInt8)} {h : Fh} (hn : soundN n = true) (ht : h.typ = 1) (hk : h.knd = 1) (hr : 1 ≤ h.rank ∧ h.rank ≤ 4) (hg : timeB h.got = true) (hl : 0 ≤ h.ttl ∧ h.ttl ≤ 604800) : soundF (fact4 g A c n h).fact = true := by
  have hh : headB n h = true := by
    unfold headB
    rw [hn, decide_eq_true hr.1, decide_eq_true hr.2, hg, decide_eq_true hl.1, decide_eq_true hl.2]
    rfl
  rw [soundF_has (f := (fact4 g A c n h).fact) hh hk]
  unfold hasB
  show (typedB h.typ && (decide (1 ≤ ([⟨[1, 2, 3, 4], [], [], [], []⟩] : List Dt).length) && (decide (([⟨[1, 2, 3, 4], [], [], [], []⟩] : List Dt).length ≤ 64) && (decide (([] : List (List UInt8)).length = 0) && (emptyD ⟨[], [], [], [], []⟩ && setOk h.typ [⟨[1, 2, 3, 4], [], [], [], []⟩]))))) = true
  rw [ht]
  decide +kernel
theorem fact4_few {g : Nat} {A : Option Addr} {c : Nat} {n : List (List UInt8)} {h : Fh} (hn : n.length ≤ 300) : FewF (fact4 g A c n h) := by
  refine ⟨hn, Nat.zero_le _, by show 1 ≤ 300; omega, ⟨Nat.zero_le _, Nat.zero_le _, Nat.zero_le _, Nat.zero_le _, Nat.zero_le _⟩, fun p hp => ?_⟩
  rw [List.mem_singleton.1 hp]
  exact ⟨Nat.zero_le _, Nat.zero_le _, Nat.zero_le _, Nat.zero_le _, by show 4 ≤ 200000; omega⟩
/-- A fact of no name: its numbers. -/
def fact5 (g : Nat) (A : Option Addr) (c : Nat) (n : List (List UInt8)) (h : Fh) : FV := ⟨A, c, n, h, none, 0, [], none, 0, [], ⟨none, none, none, some ⟨g, 0, none⟩, none, 0, 0, 0, 5, 0⟩, ⟨[], [], [], [1, 2, 3, 4, 5], []⟩⟩
theorem fact5_own {w : World} {B g : Nat} {A : Option Addr} {c : Nat} {n : List (List UInt8)} (hn : w.ownsRow B 9 1 (.slice A n.length c) n.length (n.map sv)) (h : Fh) (hg : Whole w g 3 [.int .i64 1, .int .i64 2, .int .i64 3, .int .i64 4, .int .i64 5]) (hB : B ≤ g) : FOwn w B (fact5 g A c n h) :=
  ⟨hn, World.ownsRow_nil _ _ _ _, ⟨World.ownsRow_nil _ _ _ _, World.ownsRow_nil _ _ _ _, World.ownsRow_nil _ _ _ _, ⟨rfl, .inr ⟨g, 5, #[.int .i64 1, .int .i64 2, .int .i64 3, .int .i64 4, .int .i64 5], rfl, hB, hg, Nat.le_refl _, by unfold maxLen; omega, rfl, rfl⟩⟩, World.ownsRow_nil _ _ _ _⟩, World.ownsRow_nil _ _ _ _, fun _ hp => absurd hp (List.not_mem_nil)⟩
theorem underN_root (n : List (List UInt8)) : underN n [] = true := by
  unfold underN
  simp [eqN]
theorem fact5_sound {g : Nat} {A : Option Addr} {c : Nat} {n : List (List UInt8)} {h : Fh} (hn : soundN n = true) (ht : h.typ = 0) (hk : h.knd = 3) (hr : 1 ≤ h.rank ∧ h.rank ≤ 4) (hg : timeB h.got = true) (hl : 0 ≤ h.ttl ∧ h.ttl ≤ 10800) : soundF (fact5 g A c n h).fact = true := by
  have hh : headB n h = true := by
    unfold headB
    rw [hn, decide_eq_true hr.1, decide_eq_true hr.2, hg, decide_eq_true hl.1, decide_eq_true (show h.ttl ≤ 604800 by omega)]
    rfl
  rw [soundF_no (f := (fact5 g A c n h).fact) hh (.inr hk)]
  unfold noB
  show ((decide (h.knd = 2) == typedB h.typ) && ((decide (h.knd = 2) || decide (h.typ = 0)) && (decide (([] : List Dt).length = 0) && (decide (h.ttl ≤ 10800) && (soundN [] && (underN n [] && soundD 6 ⟨[], [], [], [1, 2, 3, 4, 5], []⟩)))))) = true
  rw [ht, hk, underN_root, decide_eq_true hl.2]
  decide +kernel
theorem fact5_few {g : Nat} {A : Option Addr} {c : Nat} {n : List (List UInt8)} {h : Fh} (hn : n.length ≤ 300) : FewF (fact5 g A c n h) :=
  ⟨hn, Nat.zero_le _, Nat.zero_le _, ⟨Nat.zero_le _, Nat.zero_le _, Nat.zero_le _, by show 5 ≤ 200; omega, Nat.zero_le _⟩, fun _ hp => absurd hp (List.not_mem_nil)⟩
theorem FSafe.of_base {w : World} {B : Nat} {F : Nat → Prop} {x : FV} (h : FOwn w B x) (hF : ∀ j, F j → j < B) : FSafe w B F x :=
  ⟨h, fun v hv g e hf => by have h1 := (h.vlt v hv g e).1; have h2 := hF g hf; omega⟩

end Go.Proofs.YtmbcbfalgdgmjaaDoor

namespace Go.Proofs.YtmbcbfalgdgmjaaDoor
open Go.RowKit

theorem sound_rank {f : Fc} (h : soundF f = true) : 1 ≤ f.h.rank ∧ f.h.rank ≤ 4 := by
  unfold soundF headB at h
  simp only [Bool.and_eq_true, decide_eq_true_eq] at h
  exact ⟨h.1.2.1, h.1.2.2.1⟩
/-- What is believed most is always put. -/
theorem put_top {C : Ca} (h : C.ok) {f : Fc} {now : Int} (hs : soundF f = true) (hr : f.h.rank = 4) (ht : timeB now = true) : C.putB f now = true := by
  unfold Ca.putB
  rw [hs, ht]
  cases hf : C.find f.name f.h.typ with
  | none => rfl
  | some g =>
    obtain ⟨h1, h2, h3⟩ := find_mem hf
    have hg := h.s g h1
    show (true && (true && beatsF g f now)) = true
    unfold beatsF sameK
    rw [hg, hs, ht, h2, h3, decide_eq_true (show g.h.rank ≤ f.h.rank by rw [hr]; exact (sound_rank hg).2)]
    simp
/-- The statement's pet. -/
def petN : List (List UInt8) := [[112, 101, 116]]
theorem petN_sound : soundN petN = true := by decide +kernel
theorem one_sound (b : UInt8) : soundN [[b]] = true := by
  unfold soundN
  simp [fitL, szN]
theorem one_not_pet (b : UInt8) : eqN petN [[b]] = false := by
  unfold eqN petN lowN
  simp [lowL]
/-- What is known ahead of a round. -/
structure MostP (r : Nat) (p : Fc) (C : Ca) : Prop where
  m : C.most = r + 1
  l : 2 ≤ C.most → ∃ l, C.list = l ++ [p]
theorem most_put {r : Nat} {p g : Fc} {C : Ca} (h : C.ok) (hp : MostP r p C) (hg : soundF g = true) (hr : g.h.rank = 4) (hk : keyB g.name g.h.typ p = false) : C.putB g 0 = true ∧ (C.put g 0).most = r + 1 ∧ (C.put g 0).list.length ≤ r + 1 ∧ (C.put g 0).find g.name g.h.typ = some g ∧ (2 ≤ r + 1 → p ∈ (C.put g 0).list) := by
  have h1 := put_top h hg hr (now := 0) (by decide +kernel)
  have h2 : C.put g 0 = C.lay g := by unfold Ca.put; rw [h1]; rfl
  have ok := lay_ok (f := g) h
  have hm : (C.lay g).most = r + 1 := by
    rw [← hp.m]
    unfold Ca.lay
    split <;> rfl
  refine ⟨h1, by rw [h2]; exact hm, by rw [h2, ← hm]; exact ok.l, by rw [h2]; exact find_lay hg h.m1, fun h3 => ?_⟩
  obtain ⟨l, hl⟩ := hp.l (by rw [hp.m]; exact h3)
  rw [h2]
  exact most_round h (by rw [hp.m]; exact h3) hl hg hk
theorem most_get {r : Nat} {p : Fc} {C : Ca} (h : C.ok) (hm : C.most = r + 1) (hp : 2 ≤ r + 1 → p ∈ C.list) (ht : p.h.typ = 1) (hg : p.h.got = 0) (hl : p.h.ttl = 100) : (2 ≤ r + 1 → C.getF p.name 1 1 = some p) ∧ MostP r p (C.use (C.getF p.name 1 1)) := by
  have h1 : 2 ≤ r + 1 → C.getF p.name 1 1 = some p := fun h2 => by
    have h3 := find_there h (hp h2)
    rw [ht] at h3
    unfold Ca.getF Ca.pick
    rw [if_pos typedB_1, h3]
    have hf : freshF 1 p = true := by
      unfold freshF
      rw [hg, hl]
      decide +kernel
    simp [Option.filter, hf]
  refine ⟨h1, ?_, fun h2 => ?_⟩
  · rw [← hm]
    cases C.getF p.name 1 1 <;> rfl
  · have h3 : 2 ≤ r + 1 := by
      have : (C.use (C.getF p.name 1 1)).most = C.most := by cases C.getF p.name 1 1 <;> rfl
      omega
    rw [h1 h3]
    exact use_last C p
theorem one_putM (m : Nat) (w : Int) (f : Fc) (now : Int) (hm : 1 ≤ m) (hs : soundF f = true) (ht : timeB now = true) : Ca.putB ⟨m, w, []⟩ f now = true ∧ Ca.put ⟨m, w, []⟩ f now = ⟨m, w, [f]⟩ := by
  have hb : Ca.putB ⟨m, w, []⟩ f now = true := by
    unfold Ca.putB Ca.find
    rw [hs, ht]
    rfl
  refine ⟨hb, ?_⟩
  unfold Ca.put
  rw [if_pos hb]
  unfold Ca.lay
  rw [if_pos hs]
  show (⟨m, w, if m < ([] ++ [f]).length then ([] ++ [f] : List Fc).tail else [] ++ [f]⟩ : Ca) = _
  rw [if_neg (by simp; omega)]
  rfl

end Go.Proofs.YtmbcbfalgdgmjaaDoor

namespace Go.Proofs.YtmbcbfalgdgmjaaDoor
open Go.RowKit

/-- What stands ahead of a round: the cache, the statement's fact in its box. -/
structure MostAt (L : CacheCore) (w : World) (cv : Value) (r : Nat) (B g : Nat) (x : FV) (C : Ca) (F : Nat → Prop) (wr : World) (u : Nat) : Prop where
  cat : L.At wr w.heap.size cv C F u
  p : MostP r x.fact C
  f : FSafe wr B F x
  box : Whole wr g 34 (cellsF x)
  off : ¬ F g
  below : Below w.heap.size w wr
theorem MostAt.step {L : CacheCore} {w wr W : World} {cv : Value} {r B g : Nat} {x : FV} {C : Ca} {F : Nat → Prop} {u : Nat} (h : MostAt L w cv r B g x C F wr u) (hb : Below wr.heap.size wr W) : MostAt L w cv r B g x C F W u :=
  ⟨L.at_below h.cat hb, h.p, h.f.step hb, h.box.below hb h.box.lt, h.off, h.below.trans (hb.mono h.below.size)⟩
def MostRel (L : CacheCore) (w : World) (cv : Value) (r : Nat) (B g : Nat) (x : FV) (m : Nat) (i : Value) (wr : World) : Prop := ∃ (j : Nat) (C : Ca) (F : Nat → Prop), j ≤ m ∧ i = .int .i64 j ∧ MostAt L w cv r B g x C F wr (1 + 2 * j)

set_option maxRecDepth 20000 in
set_option maxHeartbeats 16000000 in
theorem camost_any (L : CacheCore) (w : World) (m k : Nat) (hm : m < 256) (_ : k < 256) (A : Option Addr) (c : Nat) (l : List UInt8) (hA : Row w w.heap.size A (l.map bc)) (hlm : l.length ≤ maxLen) (hv : L.Vars w) :
    Calls Tryd.prog 3 #[.int .u8 m, .slice A l.length c, .int .u8 k] w (TrueB w) := by
  obtain ⟨r, hr⟩ : ∃ r, r = m % 5 := ⟨_, rfl⟩
  have hr5 : r < 5 := by omega
  have e1 : (m : Int).tmod 5 = (r : Int) := by rw [Int.tmod_eq_emod_of_nonneg (by omega)]; omega
  have e3 : (m : Int) % 5 = (r : Int) := by omega
  clear hr
  unfold maxLen at hlm
  have HNEW := Lib.hid (show Calls _ _ _ _ _ from L.new_ok w ((r : Int) + 1) 0 hv (by omega) (by omega) (by decide +kernel))
  have HAN := Lib.hid (fun W (hb : Below w.heap.size w W) => caanswers_any L W (L.vars hv hb))
  have HA := Lib.hid hA
  clear hA hv
  go_enter Tryd.func3, Tryd.ntmps3
  go_wp2_with fail
  refine HNEW.out.mono ?_
  rintro e w1 ⟨cv, F, rfl, hat, hb1⟩
  have HA1 := Lib.hid hat
  have HB1 := Lib.hid hb1
  clear hat hb1 HNEW e1 e3
  go_wp2_with fail
  refine (HAN.out w1 HB1.out).mono ?_
  rintro e w2 ⟨rfl, hb2⟩
  have HA2 := Lib.hid (L.at_below HA1.out hb2)
  have HB2 := Lib.hid (HB1.out.trans (hb2.mono HB1.out.size))
  clear HA1 HB1 hb2
  by_cases hl : 100 < l.length
  · have t : decide ((100 : Int) < (l.length : Int)) = true := decide_eq_true (by omega)
    have t2 : decide (100 < l.length) = true := decide_eq_true hl
    go_wp2_with fail
    refine (HAN.out w2 HB2.out).mono ?_
    rintro e w3 ⟨rfl, hb3⟩
    go_wp2
    go_ret
    exact ⟨rfl, HB2.out.trans (hb3.mono HB2.out.size)⟩
  have t : decide ((100 : Int) < (l.length : Int)) = false := decide_eq_false (by omega)
  have t2 : decide (100 < l.length) = false := decide_eq_false hl
  have hz3 : (w2.alloc (.cells #[.string ⟨#[112, 101, 116]⟩] 9)).heap.size = w2.heap.size + 1 := by simp
  have ho3 : (w2.alloc (.cells #[.string ⟨#[112, 101, 116]⟩] 9)).ownsRow w2.heap.size 9 1 (.slice (some ⟨w2.heap.size, 0, none⟩) petN.length 1) petN.length (petN.map sv) :=
    ⟨rfl, .inr ⟨w2.heap.size, 1, #[.string ⟨#[112, 101, 116]⟩], rfl, Nat.le_refl _, Whole.made w2 [.string ⟨#[112, 101, 116]⟩] _, Nat.le_refl _, by unfold maxLen; omega, rfl, rfl⟩⟩
  have h4 := fact4_at (by rw [hz3]; omega) ho3 ⟨1, 1, 4, 0, 100⟩
  rw [hz3] at h4
  have HFS := Lib.hid (show soundF (fact4 (w2.heap.size + 1) (some ⟨w2.heap.size, 0, none⟩) 1 petN ⟨1, 1, 4, 0, 100⟩).fact = true from fact4_sound petN_sound rfl rfl (show (1 : Int) ≤ 4 ∧ (4 : Int) ≤ 4 by decide) (show timeB 0 = true by decide +kernel) (show (0 : Int) ≤ 100 ∧ (100 : Int) ≤ 604800 by decide))
  have HFB := Lib.hid (show ∀ j, F j → j < w2.heap.size from fun j hj => ((L.at_own HA2.out).2 j hj).2)
  go_upto_region 7 with fail
  generalize hW4 : (((w2.alloc (.cells #[.string ⟨#[112, 101, 116]⟩] 9)).alloc (.cells #[.int .u8 1, .int .u8 2, .int .u8 3, .int .u8 4] 5)).alloc (.cells #[.slice (some ⟨w2.heap.size + 1, 0, none⟩) 4 4, .slice none 0 0, .slice none 0 0, .slice none 0 0, .slice none 0 0] 31)).alloc (.cells #[.slice (some ⟨w2.heap.size, 0, none⟩) 1 1, .int .i64 1, .int .i64 1, .int .i64 4, .int .i64 0, .int .i64 100, .slice (some ⟨w2.heap.size + 1 + 1, 0, none⟩) 1 1, .slice none 0 0, .slice none 0 0, .slice none 0 0, .slice none 0 0, .slice none 0 0, .slice none 0 0] 34) = w4
  have h5 : FOwn w4 w2.heap.size (fact4 (w2.heap.size + 1) (some ⟨w2.heap.size, 0, none⟩) 1 petN ⟨1, 1, 4, 0, 100⟩) ∧ Whole w4 (w2.heap.size + 3) 34 (cellsF (fact4 (w2.heap.size + 1) (some ⟨w2.heap.size, 0, none⟩) 1 petN ⟨1, 1, 4, 0, 100⟩)) ∧ Below w2.heap.size w2 w4 := by
    have e : w4 = (((w2.alloc (.cells #[.string ⟨#[112, 101, 116]⟩] 9)).alloc (.cells #[.int .u8 1, .int .u8 2, .int .u8 3, .int .u8 4] 5)).alloc (.cells #[.slice (some ⟨w2.heap.size + 1, 0, none⟩) 4 4, .slice none 0 0, .slice none 0 0, .slice none 0 0, .slice none 0 0] 31)).alloc (.cells #[.slice (some ⟨w2.heap.size, 0, none⟩) 1 1, .int .i64 1, .int .i64 1, .int .i64 4, .int .i64 0, .int .i64 100, .slice (some ⟨w2.heap.size + 1 + 1, 0, none⟩) 1 1, .slice none 0 0, .slice none 0 0, .slice none 0 0, .slice none 0 0, .slice none 0 0, .slice none 0 0] 34) := hW4.symm
    rw [e]
    exact ⟨h4.1, h4.2.1, ((Below.refl w2.heap.size w2).alloc (Nat.le_refl _) _).trans (h4.2.2.mono (Nat.le_succ _))⟩
  clear hW4 h4 ho3 hz3
  have HO4 := Lib.hid h5.1
  have HX4 := Lib.hid h5.2.1
  have HB4 := Lib.hid h5.2.2
  clear h5
  have a0 : w4.cell? ⟨w2.heap.size + 1 + 1 + 1, 0, none⟩ = some (.slice (some ⟨w2.heap.size, 0, none⟩) 1 1) := HX4.out.cell 0
  have a1 : w4.cell? ⟨w2.heap.size + 1 + 1 + 1, 1, none⟩ = some (.int .i64 1) := HX4.out.cell 1
  have a2 : w4.cell? ⟨w2.heap.size + 1 + 1 + 1, 2, none⟩ = some (.int .i64 1) := HX4.out.cell 2
  have a3 : w4.cell? ⟨w2.heap.size + 1 + 1 + 1, 3, none⟩ = some (.int .i64 4) := HX4.out.cell 3
  have a4 : w4.cell? ⟨w2.heap.size + 1 + 1 + 1, 4, none⟩ = some (.int .i64 0) := HX4.out.cell 4
  have a5 : w4.cell? ⟨w2.heap.size + 1 + 1 + 1, 5, none⟩ = some (.int .i64 100) := HX4.out.cell 5
  have a6 : w4.cell? ⟨w2.heap.size + 1 + 1 + 1, 6, none⟩ = some (.slice (some ⟨w2.heap.size + 1 + 1, 0, none⟩) 1 1) := HX4.out.cell 6
  have a7 : w4.cell? ⟨w2.heap.size + 1 + 1 + 1, 7, none⟩ = some (.slice none 0 0) := HX4.out.cell 7
  have a8 : w4.cell? ⟨w2.heap.size + 1 + 1 + 1, 8, none⟩ = some (.slice none 0 0) := HX4.out.cell 8
  have a9 : w4.cell? ⟨w2.heap.size + 1 + 1 + 1, 9, none⟩ = some (.slice none 0 0) := HX4.out.cell 9
  have a10 : w4.cell? ⟨w2.heap.size + 1 + 1 + 1, 10, none⟩ = some (.slice none 0 0) := HX4.out.cell 10
  have a11 : w4.cell? ⟨w2.heap.size + 1 + 1 + 1, 11, none⟩ = some (.slice none 0 0) := HX4.out.cell 11
  have a12 : w4.cell? ⟨w2.heap.size + 1 + 1 + 1, 12, none⟩ = some (.slice none 0 0) := HX4.out.cell 12
  have HPUT := Lib.hid (L.put (L.at_below HA2.out HB4.out) (by decide) (fact4 (w2.heap.size + 1) (some ⟨w2.heap.size, 0, none⟩) 1 petN ⟨1, 1, 4, 0, 100⟩) 0 HO4.out.at_ (soundF_in HFS.out) (fact4_few (by decide)) (by decide))
  have hp := one_putM (r + 1) 0 (fact4 (w2.heap.size + 1) (some ⟨w2.heap.size, 0, none⟩) 1 petN ⟨1, 1, 4, 0, 100⟩).fact 0 (by omega) HFS.out (by decide +kernel)
  have er : ((r : Int) + 1).toNat = r + 1 := by omega
  rw [er] at HPUT
  go_wp2_with fail
  refine HPUT.out.mono ?_
  rintro e w5 ⟨F5, rfl, hat5, hmv5⟩
  rw [hp.1]
  rw [hp.2] at hat5
  have HS := Lib.hid (show MostAt L w cv r w2.heap.size (w2.heap.size + 3) (fact4 (w2.heap.size + 1) (some ⟨w2.heap.size, 0, none⟩) 1 petN ⟨1, 1, 4, 0, 100⟩) ⟨r + 1, 0, [(fact4 (w2.heap.size + 1) (some ⟨w2.heap.size, 0, none⟩) 1 petN ⟨1, 1, 4, 0, 100⟩).fact]⟩ F5 w5 1 from
    ⟨hat5, ⟨rfl, fun _ => ⟨[], rfl⟩⟩, (FSafe.of_base HO4.out HFB.out).moved hmv5, hmv5.whole HX4.out (fun hf => by have := HFB.out _ hf; omega), fun hf => by
      rcases hmv5.2 _ hf with h1 | h1
      · have := HFB.out _ h1; omega
      · have := HX4.out.lt; omega, (HB2.out.trans (HB4.out.mono HB2.out.size)).trans (hmv5.below (fun j hj => ((L.at_own HA2.out).2 j hj).1) (by have := HB2.out.size; have := HB4.out.size; omega))⟩)
  clear hp hat5 hmv5 HPUT HX4 HO4 HB4 HA2 HB2 HFB a0 a1 a2 a3 a4 a5 a6 a7 a8 a9 a10 a11 a12 er
  have HAL := Lib.hid (show ∀ W, Below w.heap.size w W → Row W w.heap.size A (l.map bc) from fun W hb => HA.out.below hb)
  clear HA HAN
  go_wp2
  go_loopw [12] (MostRel L w cv r w2.heap.size (w2.heap.size + 3) (fact4 (w2.heap.size + 1) (some ⟨w2.heap.size, 0, none⟩) 1 petN ⟨1, 1, 4, 0, 100⟩) l.length) (fun i _ => l.length - (intOf i).toNat)
  case atStart => exact ⟨0, _, _, Nat.zero_le _, rfl, HS.out⟩
  case round =>
  obtain ⟨j, C, F1, hj, rfl, hs⟩ := hrel
  have HS1 := Lib.hid hs
  clear hs HS
  by_cases hlt : j < l.length
  case neg =>
    obtain rfl : j = l.length := by omega
    go_wp2
    go_ret
    exact ⟨rfl, HS1.out.below⟩
  have HZR := Lib.hid (show w2.heap.size ≤ wr.heap.size + 1 + 1 from by have h1 := HS1.out.box.lt; omega)
  have tj : decide ((j : Int) < (l.length : Int)) = true := decide_eq_true (by omega)
  obtain ⟨b, off, rfl, hbl, hrc⟩ := HAL.out wr HS1.out.below (by intro e; rw [List.map_eq_nil_iff] at e; rw [e] at hlt; exact absurd hlt (Nat.not_lt_zero _))
  have hcj := hrc j (bc l[j]) (by rw [List.getElem?_map, List.getElem?_eq_getElem hlt]; rfl)
  have hxl := (l[j]).toNat_lt
  revert hcj hxl
  generalize l[j] = xb
  intro hcj hxl
  unfold bc at hcj
  have hcj2 := fun o => (World.cell?_alloc_lt wr o ⟨b, off + j, none⟩ (show b < wr.heap.size by have := HS1.out.below.size; omega)).trans hcj
  obtain ⟨q, hq⟩ : ∃ q, q = xb.toNat % 20 := ⟨_, rfl⟩
  have e1 : (xb.toNat : Int).tmod 20 = (q : Int) := by rw [Int.tmod_eq_emod_of_nonneg (by omega)]; omega
  have e3 : (xb.toNat : Int) % 20 = (q : Int) := by omega
  have hq20 : q < 20 := by omega
  obtain ⟨ch, hch⟩ : ∃ ch : UInt8, ch.toNat = 97 + q := ⟨UInt8.ofNat (97 + q), by rw [UInt8.toNat_ofNat']; omega⟩
  clear hq hrc
  have a0 : wr.cell? ⟨w2.heap.size + 1 + 1 + 1, 0, none⟩ = some (.slice (some ⟨w2.heap.size, 0, none⟩) 1 1) := HS1.out.box.cell 0
  have a1 : wr.cell? ⟨w2.heap.size + 1 + 1 + 1, 1, none⟩ = some (.int .i64 1) := HS1.out.box.cell 1
  have a2 : wr.cell? ⟨w2.heap.size + 1 + 1 + 1, 2, none⟩ = some (.int .i64 1) := HS1.out.box.cell 2
  have a3 : wr.cell? ⟨w2.heap.size + 1 + 1 + 1, 3, none⟩ = some (.int .i64 4) := HS1.out.box.cell 3
  have a4 : wr.cell? ⟨w2.heap.size + 1 + 1 + 1, 4, none⟩ = some (.int .i64 0) := HS1.out.box.cell 4
  have a5 : wr.cell? ⟨w2.heap.size + 1 + 1 + 1, 5, none⟩ = some (.int .i64 100) := HS1.out.box.cell 5
  have a6 : wr.cell? ⟨w2.heap.size + 1 + 1 + 1, 6, none⟩ = some (.slice (some ⟨w2.heap.size + 1 + 1, 0, none⟩) 1 1) := HS1.out.box.cell 6
  have a7 : wr.cell? ⟨w2.heap.size + 1 + 1 + 1, 7, none⟩ = some (.slice none 0 0) := HS1.out.box.cell 7
  have a8 : wr.cell? ⟨w2.heap.size + 1 + 1 + 1, 8, none⟩ = some (.slice none 0 0) := HS1.out.box.cell 8
  have a9 : wr.cell? ⟨w2.heap.size + 1 + 1 + 1, 9, none⟩ = some (.slice none 0 0) := HS1.out.box.cell 9
  have a10 : wr.cell? ⟨w2.heap.size + 1 + 1 + 1, 10, none⟩ = some (.slice none 0 0) := HS1.out.box.cell 10
  have a11 : wr.cell? ⟨w2.heap.size + 1 + 1 + 1, 11, none⟩ = some (.slice none 0 0) := HS1.out.box.cell 11
  have a12 : wr.cell? ⟨w2.heap.size + 1 + 1 + 1, 12, none⟩ = some (.slice none 0 0) := HS1.out.box.cell 12
  have hcv : (convert 22 9 (.slice (some ⟨wr.heap.size + 1, 0, none⟩) 1 1)).run Tryd.prog ((wr.alloc (.cells #[.slice (some ⟨w2.heap.size, 0, none⟩) 1 1, .int .i64 1, .int .i64 1, .int .i64 4, .int .i64 0, .int .i64 100, .slice (some ⟨w2.heap.size + 1 + 1, 0, none⟩) 1 1, .slice none 0 0, .slice none 0 0, .slice none 0 0, .slice none 0 0, .slice none 0 0, .slice none 0 0] 34)).alloc (.cells #[.int .u8 (97 + (q : Int))] 5)) = .ok (.string ⟨#[ch]⟩) ((wr.alloc (.cells #[.slice (some ⟨w2.heap.size, 0, none⟩) 1 1, .int .i64 1, .int .i64 1, .int .i64 4, .int .i64 0, .int .i64 100, .slice (some ⟨w2.heap.size + 1 + 1, 0, none⟩) 1 1, .slice none 0 0, .slice none 0 0, .slice none 0 0, .slice none 0 0, .slice none 0 0, .slice none 0 0] 34)).alloc (.cells #[.int .u8 (97 + (q : Int))] 5)) := by
    refine convert_row_run _ 22 9 5 Tryd.underlying22 Tryd.underlying5 Tryd.underlying9 _ 1 1 (wr.heap.size + 2) [ch] rfl ?_
    have h1 := Row.made (wr.alloc (.cells #[.slice (some ⟨w2.heap.size, 0, none⟩) 1 1, .int .i64 1, .int .i64 1, .int .i64 4, .int .i64 0, .int .i64 100, .slice (some ⟨w2.heap.size + 1 + 1, 0, none⟩) 1 1, .slice none 0 0, .slice none 0 0, .slice none 0 0, .slice none 0 0, .slice none 0 0, .slice none 0 0] 34)) #[.int .u8 (97 + (q : Int))] 5
    rw [show (wr.alloc (.cells #[.slice (some ⟨w2.heap.size, 0, none⟩) 1 1, .int .i64 1, .int .i64 1, .int .i64 4, .int .i64 0, .int .i64 100, .slice (some ⟨w2.heap.size + 1 + 1, 0, none⟩) 1 1, .slice none 0 0, .slice none 0 0, .slice none 0 0, .slice none 0 0, .slice none 0 0, .slice none 0 0] 34)).heap.size = wr.heap.size + 1 by simp] at h1
    have e : [ch].map bc = [.int .u8 (97 + (q : Int))] := by simp [bc, hch]
    rw [e]
    exact h1
  go_upto_region 13 with fail
  obtain ⟨gv, hgv⟩ : ∃ gv : FV, gv = (⟨some ⟨wr.heap.size + 1 + 1, 0, none⟩, 1, [[ch]], ⟨1, 1, 4, 0, 100⟩, some ⟨w2.heap.size + 1 + 1, 0, none⟩, 1, [(⟨some ⟨w2.heap.size + 1, 0, none⟩, none, none, none, none, 4, 0, 0, 0, 0⟩, ⟨[1, 2, 3, 4], [], [], [], []⟩)], none, 0, [], ⟨none, none, none, none, none, 0, 0, 0, 0, 0⟩, ⟨[], [], [], [], []⟩⟩ : FV) := ⟨_, rfl⟩
  generalize hW : ((wr.alloc (.cells #[.slice (some ⟨wr.heap.size + 1 + 1, 0, none⟩) 1 1, .int .i64 1, .int .i64 1, .int .i64 4, .int .i64 0, .int .i64 100, .slice (some ⟨w2.heap.size + 1 + 1, 0, none⟩) 1 1, .slice none 0 0, .slice none 0 0, .slice none 0 0, .slice none 0 0, .slice none 0 0, .slice none 0 0] 34)).alloc (.cells #[.int .u8 (97 + (q : Int))] 5)).alloc (.cells #[.string ⟨#[ch]⟩] 9) = wg
  have hbg : Below wr.heap.size wr wg := by
    rw [← hW]
    exact (((Below.refl _ _).alloc (Nat.le_refl _) _).alloc (by simp) _).alloc (by simp; omega) _
  have hwg : Whole wg wr.heap.size 34 (cellsF gv) := by
    rw [← hW, hgv]
    exact ((Whole.made wr [.slice (some ⟨wr.heap.size + 1 + 1, 0, none⟩) 1 1, .int .i64 1, .int .i64 1, .int .i64 4, .int .i64 0, .int .i64 100, .slice (some ⟨w2.heap.size + 1 + 1, 0, none⟩) 1 1, .slice none 0 0, .slice none 0 0, .slice none 0 0, .slice none 0 0, .slice none 0 0, .slice none 0 0] 34).alloc _).alloc _
  have hng : wg.ownsRow w2.heap.size 9 1 (.slice (some ⟨wr.heap.size + 1 + 1, 0, none⟩) 1 1) 1 ([[ch]].map sv) := by
    rw [← hW]
    have h1 := Whole.made ((wr.alloc (.cells #[.slice (some ⟨wr.heap.size + 1 + 1, 0, none⟩) 1 1, .int .i64 1, .int .i64 1, .int .i64 4, .int .i64 0, .int .i64 100, .slice (some ⟨w2.heap.size + 1 + 1, 0, none⟩) 1 1, .slice none 0 0, .slice none 0 0, .slice none 0 0, .slice none 0 0, .slice none 0 0, .slice none 0 0] 34)).alloc (.cells #[.int .u8 (97 + (q : Int))] 5)) [.string ⟨#[ch]⟩] 9
    rw [show ((wr.alloc (.cells #[.slice (some ⟨wr.heap.size + 1 + 1, 0, none⟩) 1 1, .int .i64 1, .int .i64 1, .int .i64 4, .int .i64 0, .int .i64 100, .slice (some ⟨w2.heap.size + 1 + 1, 0, none⟩) 1 1, .slice none 0 0, .slice none 0 0, .slice none 0 0, .slice none 0 0, .slice none 0 0, .slice none 0 0] 34)).alloc (.cells #[.int .u8 (97 + (q : Int))] 5)).heap.size = wr.heap.size + 1 + 1 by simp] at h1
    exact ⟨rfl, .inr ⟨wr.heap.size + 1 + 1, 1, #[.string ⟨#[ch]⟩], rfl, HZR.out, h1, Nat.le_refl _, by unfold maxLen; omega, rfl, rfl⟩⟩
  have HS2 := Lib.hid (HS1.out.step hbg)
  have hog : FOwn wg w2.heap.size gv := by
    have h1 := HS2.out.f.own
    rw [hgv]
    exact ⟨hng, h1.z, h1.d, h1.s, h1.e⟩
  have HGS := Lib.hid (show soundF gv.fact = true from by
    rw [hgv]
    exact fact4_sound (g := w2.heap.size + 1) (A := some ⟨wr.heap.size + 1 + 1, 0, none⟩) (c := 1) (n := [[ch]]) (h := ⟨1, 1, 4, 0, 100⟩) (one_sound ch) rfl rfl (show (1 : Int) ≤ 4 ∧ (4 : Int) ≤ 4 by decide) (show timeB 0 = true by decide +kernel) (show (0 : Int) ≤ 100 ∧ (100 : Int) ≤ 604800 by decide))
  have hfew : FewF gv := by rw [hgv]; exact fact4_few (g := w2.heap.size + 1) (A := some ⟨wr.heap.size + 1 + 1, 0, none⟩) (c := 1) (n := [[ch]]) (h := ⟨1, 1, 4, 0, 100⟩) (by show 1 ≤ 300; omega)
  have HGK := Lib.hid (show gv.fact.name = [[ch]] ∧ gv.fact.h = ⟨1, 1, 4, 0, 100⟩ from by rw [hgv]; exact ⟨rfl, rfl⟩)
  have g0 : wg.cell? ⟨wr.heap.size, 0, none⟩ = some (.slice (some ⟨wr.heap.size + 1 + 1, 0, none⟩) 1 1) := by have h := hwg.cell 0; rw [hgv] at h; exact h
  have g1 : wg.cell? ⟨wr.heap.size, 1, none⟩ = some (.int .i64 1) := by have h := hwg.cell 1; rw [hgv] at h; exact h
  have g2 : wg.cell? ⟨wr.heap.size, 2, none⟩ = some (.int .i64 1) := by have h := hwg.cell 2; rw [hgv] at h; exact h
  have g3 : wg.cell? ⟨wr.heap.size, 3, none⟩ = some (.int .i64 4) := by have h := hwg.cell 3; rw [hgv] at h; exact h
  have g4 : wg.cell? ⟨wr.heap.size, 4, none⟩ = some (.int .i64 0) := by have h := hwg.cell 4; rw [hgv] at h; exact h
  have g5 : wg.cell? ⟨wr.heap.size, 5, none⟩ = some (.int .i64 100) := by have h := hwg.cell 5; rw [hgv] at h; exact h
  have g6 : wg.cell? ⟨wr.heap.size, 6, none⟩ = some (.slice (some ⟨w2.heap.size + 1 + 1, 0, none⟩) 1 1) := by have h := hwg.cell 6; rw [hgv] at h; exact h
  have g7 : wg.cell? ⟨wr.heap.size, 7, none⟩ = some (.slice none 0 0) := by have h := hwg.cell 7; rw [hgv] at h; exact h
  have g8 : wg.cell? ⟨wr.heap.size, 8, none⟩ = some (.slice none 0 0) := by have h := hwg.cell 8; rw [hgv] at h; exact h
  have g9 : wg.cell? ⟨wr.heap.size, 9, none⟩ = some (.slice none 0 0) := by have h := hwg.cell 9; rw [hgv] at h; exact h
  have g10 : wg.cell? ⟨wr.heap.size, 10, none⟩ = some (.slice none 0 0) := by have h := hwg.cell 10; rw [hgv] at h; exact h
  have g11 : wg.cell? ⟨wr.heap.size, 11, none⟩ = some (.slice none 0 0) := by have h := hwg.cell 11; rw [hgv] at h; exact h
  have g12 : wg.cell? ⟨wr.heap.size, 12, none⟩ = some (.slice none 0 0) := by have h := hwg.cell 12; rw [hgv] at h; exact h
  have HGV := Lib.hid hgv
  have HPG := Lib.hid (show Calls _ _ _ _ _ from L.put HS2.out.cat (by unfold maxUses; omega) gv 0 hog.at_ (soundF_in HGS.out) hfew (by decide))
  have hmp := most_put (L.at_ok HS2.out.cat) HS2.out.p HGS.out (by rw [HGK.out.2]) (by
    rw [HGK.out.1, HGK.out.2]
    unfold keyB
    have e : eqN (fact4 (w2.heap.size + 1) (some ⟨w2.heap.size, 0, none⟩) 1 petN ⟨1, 1, 4, 0, 100⟩).fact.name [[ch]] = false := one_not_pet ch
    rw [e]
    simp)
  have HMP := Lib.hid hmp
  have HGO := Lib.hid hog
  have HGW := Lib.hid hwg
  have HZG := Lib.hid (show wr.heap.size < wg.heap.size from hwg.lt)
  have HFR := Lib.hid (show ∀ j, F1 j → j < wr.heap.size from fun j hj => ((L.at_own HS1.out.cat).2 j hj).2)
  rw [hgv] at HPG
  clear hmp hog hwg hng hfew hbg hW hgv hcv hcj hcj2 e1 e3 a0 a1 a2 a3 a4 a5 a6 a7 a8 a9 a10 a11 a12
  go_wp2_with fail
  refine HPG.out.mono ?_
  rintro e w6 ⟨F6, rfl, hat6, hmv6⟩
  rw [← HGV.out] at hat6 ⊢
  rw [HMP.out.1]
  have HA6 := Lib.hid hat6
  have HB6 := Lib.hid (HS2.out.below.trans (hmv6.below (fun j hj => ((L.at_own HS2.out.cat).2 j hj).1) HS2.out.below.size))
  have HX6 := Lib.hid (HS2.out.f.moved hmv6)
  have HXB6 := Lib.hid (hmv6.whole HS2.out.box HS2.out.off)
  have HOF6 := Lib.hid (show ¬ F6 (w2.heap.size + 3) from fun hf => by
    rcases hmv6.2 _ hf with h1 | h1
    · exact HS2.out.off h1
    · have := HS2.out.box.lt; omega)
  have HGB6 := Lib.hid (hmv6.whole HGW.out (fun hf => by have := HFR.out _ hf; omega))
  have hn6 : w6.ownsRow w2.heap.size 9 1 (.slice gv.A gv.name.length gv.c) gv.name.length (gv.name.map sv) := own_keep HGO.out.n fun g e => hmv6.1.block g (HGO.out.n.lt g e).2 (fun hf => by
    rw [HGV.out] at e
    have e2 : wr.heap.size + 1 + 1 = g := by injection e
    have := HFR.out _ hf; omega)
  rw [HGV.out] at hn6
  have HN6 := Lib.hid (show Row w6 w6.heap.size (some ⟨wr.heap.size + 1 + 1, 0, none⟩) ([[ch]].map sv) from Row.of_own hn6)
  have h60 : w6.cell? ⟨wr.heap.size, 0, none⟩ = some (.slice (some ⟨wr.heap.size + 1 + 1, 0, none⟩) 1 1) := by have h := HGB6.out.cell 0; rw [HGV.out] at h; exact h
  have HLE := Lib.hid (show Calls _ _ _ _ _ from L.len hat6)
  have hle := HMP.out.2.2.1
  have t3 : decide ((r : Int) + 1 < ((C.put gv.fact 0).list.length : Int)) = false := decide_eq_false (by omega)
  have hpm := HMP.out.2.1
  clear hat6 hmv6 hn6 HPG HGO HGW g0 g1 g2 g3 g4 g5 g6 g7 g8 g9 g10 g11 g12
  revert HA6 HLE hle t3 hpm HMP
  generalize C.put gv.fact 0 = C6
  intro HMP HA6 HLE hle t3 hpm
  go_wp2_with fail
  refine HLE.out.mono ?_
  rintro e w7 ⟨rfl, hb7⟩
  have HA7 := Lib.hid (L.at_below HA6.out hb7)
  have HB7 := Lib.hid (HB6.out.trans (hb7.mono HB6.out.size))
  have HX7 := Lib.hid (HX6.out.step hb7)
  have HXB7 := Lib.hid (HXB6.out.below hb7 HXB6.out.lt)
  have HN7 := Lib.hid (show Row w7 w7.heap.size (some ⟨wr.heap.size + 1 + 1, 0, none⟩) ([[ch]].map sv) from (HN6.out.below hb7).mono hb7.size)
  have h70 : w7.cell? ⟨wr.heap.size, 0, none⟩ = some (.slice (some ⟨wr.heap.size + 1 + 1, 0, none⟩) 1 1) := by have h := (HGB6.out.below hb7 HGB6.out.lt).cell 0; rw [HGV.out] at h; exact h
  have HLK := Lib.hid (show Calls _ _ _ _ _ from L.look HA7.out (some ⟨wr.heap.size + 1 + 1, 0, none⟩) 1 [[ch]] 1 HN7.out (soundN_wide (one_sound ch)) (by show 1 ≤ 300; omega) (Nat.le_refl 1) (by decide))
  have HFD := Lib.hid (show C6.find [[ch]] 1 = some gv.fact from by have h := HMP.out.2.2.2.1; rw [HGK.out.1, HGK.out.2] at h; exact h)
  clear h60 hb7 HLE HA6 HB6 HX6 HXB6 HN6 HGB6
  go_wp2_with fail
  refine HLK.out.mono ?_
  rintro e w8 ⟨v, F8, rfl, htd, hat8, hmv8⟩
  rw [HFD.out] at htd
  obtain ⟨x8, rfl, _⟩ := htd
  have HA8 := Lib.hid hat8
  have HB8 := Lib.hid (HB7.out.trans (hmv8.below (fun j hj => ((L.at_own HA7.out).2 j hj).1) HB7.out.size))
  have HX8 := Lib.hid (HX7.out.moved hmv8)
  have HXB8 := Lib.hid (hmv8.whole HXB7.out HOF6.out)
  have HOF8 := Lib.hid (show ¬ F8 (w2.heap.size + 3) from fun hf => by
    rcases hmv8.2 _ hf with h1 | h1
    · exact HOF6.out h1
    · have := HXB7.out.lt; omega)
  have e8 : (some gv.fact).isSome = true := rfl
  rw [e8]
  have HB9 := Lib.hid ((Below.refl w8.heap.size w8).alloc (Nat.le_refl _) (.cells #[.slice x8.A x8.name.length x8.c, .int .i64 x8.h.typ, .int .i64 x8.h.knd, .int .i64 x8.h.rank, .int .i64 x8.h.got, .int .i64 x8.h.ttl, .slice x8.sA x8.sp.length x8.sc, .slice x8.zA x8.zone.length x8.zc, .slice x8.d.Ab x8.soa.bytes.length x8.d.cb, .slice x8.d.Ah x8.soa.host.length x8.d.ch, .slice x8.d.Am x8.soa.mail.length x8.d.cm, .slice x8.d.An x8.soa.nums.length x8.d.cn, .slice x8.d.At x8.soa.texts.length x8.d.ct] 34))
  have HGT := Lib.hid (show Calls _ _ _ _ _ from L.get (L.at_below HA8.out HB9.out) (by unfold maxUses; omega) (some ⟨w2.heap.size, 0, none⟩) 1 petN 1 1 ((HX8.out.step HB9.out).own.at_.n) (soundN_wide petN_sound) (by decide) (by decide) (by decide) (by decide))
  have hmg := most_get (L.at_ok HA8.out) HMP.out.2.1 HMP.out.2.2.2.2 rfl rfl rfl
  have HMG := Lib.hid hmg
  clear hat8 hmv8 hmg HLK HA7 HX7 HXB7 h70 HN7 HOF6
  go_wp2_with fail
  refine HGT.out.mono ?_
  rintro e wa ⟨v, Fa, rfl, htd, hata, hmva⟩
  obtain ⟨xa, rfl, _⟩ := htd
  have HSA := Lib.hid (show MostAt L w cv r w2.heap.size (w2.heap.size + 3) (fact4 (w2.heap.size + 1) (some ⟨w2.heap.size, 0, none⟩) 1 petN ⟨1, 1, 4, 0, 100⟩) (C6.use (C6.getF petN 1 1)) Fa wa (1 + 2 * j + 1 + 1) from
    ⟨hata, HMG.out.2, (HX8.out.step HB9.out).moved hmva, hmva.whole (HXB8.out.below HB9.out HXB8.out.lt) HOF8.out, fun hf => by
      rcases hmva.2 _ hf with h1 | h1
      · exact HOF8.out h1
      · have := (HXB8.out.below HB9.out HXB8.out.lt).lt; omega, HB8.out.trans ((HB9.out.mono HB8.out.size).trans (hmva.below (fun j hj => ((L.at_own (L.at_below HA8.out HB9.out)).2 j hj).1) (Nat.le_trans HB8.out.size HB9.out.size)))⟩)
  have HISS := Lib.hid (show 2 ≤ r + 1 → (C6.getF petN 1 1).isSome = true from fun h => by rw [show C6.getF petN 1 1 = _ from HMG.out.1 h]; rfl)
  clear hata hmva HGT
  revert HSA HISS
  generalize (C6.getF petN 1 1).isSome = ib
  intro HSA HISS
  have HSB := Lib.hid (HSA.out.step ((Below.refl wa.heap.size wa).alloc (Nat.le_refl _) (.cells #[.slice xa.A xa.name.length xa.c, .int .i64 xa.h.typ, .int .i64 xa.h.knd, .int .i64 xa.h.rank, .int .i64 xa.h.got, .int .i64 xa.h.ttl, .slice xa.sA xa.sp.length xa.sc, .slice xa.zA xa.zone.length xa.zc, .slice xa.d.Ab xa.soa.bytes.length xa.d.cb, .slice xa.d.Ah xa.soa.host.length xa.d.ch, .slice xa.d.Am xa.soa.mail.length xa.d.cm, .slice xa.d.An xa.soa.nums.length xa.d.cn, .slice xa.d.At xa.soa.texts.length xa.d.ct] 34)))
  by_cases hr0 : r = 0
  · have t4 : decide ((1 : Int) < (r : Int) + 1) = false := decide_eq_false (by omega)
    have t5 : decide ((0 : Int) < (r : Int)) = false := decide_eq_false (by omega)
    have t6 : decide (0 < r) = false := decide_eq_false (by omega)
    have t7 : ¬ 0 < r := by omega
    clear hr0
    go_wp2
    exact ⟨⟨j + 1, _, _, by omega, by go_num, HSB.out⟩, by simp [intOf]; omega⟩
  · have t4 : decide ((1 : Int) < (r : Int) + 1) = true := decide_eq_true (by omega)
    have t5 : decide ((0 : Int) < (r : Int)) = true := decide_eq_true (by omega)
    have t6 : decide (0 < r) = true := decide_eq_true (by omega)
    obtain rfl : ib = true := HISS.out (by omega)
    have t7 : 0 < r := by omega
    clear hr0
    go_wp2
    exact ⟨⟨j + 1, _, _, by omega, by go_num, HSB.out⟩, by simp [intOf]; omega⟩

end Go.Proofs.YtmbcbfalgdgmjaaDoor

namespace Go.Proofs.YtmbcbfalgdgmjaaDoor
open Go.ChangeShapes Go.WideShapes Go.ChangeAt Go.RowKit

set_option maxRecDepth 100000 in
theorem camost_lifted (os : Os) (started : os.Started) (H : Type) (enc : TypeId × Value → H) :
    ReturnsInHanded {} Tryd.checked os 3 .any (fun w args => (Rows.cacheMostSpec.pre enc Tryd.prog Tryd.f3 [] false w args ∧ laidMetH Tryd.prog laidK w) ∧ sizedMet enc Tryd.prog Tryd.f3 (OpenSpec.ofChange Rows.cacheMostSpec) false w args)
      (Rows.cacheMostSpec.post enc Tryd.prog Tryd.f3 false true false false) := by
  refine returnsInHanded_of_change_and (C := Tryd.checked) (X := fun w _ => laidMetH Tryd.prog laidK w) (fun _ _ _ hh h => h.of_heap hh) Tryd.own started (by kernel_rfl) Tryd.func3
    (ChangeSpec.witness_shaped (enc := enc) (C := Tryd.checked) (os := os) (X := fun w _ => laidMetH Tryd.prog laidK w) false (World.laidAll Tryd.prog os laidK) #[.int .u8 0, .slice none 0 0, .int .u8 0] 8 (World.laidAll_os _ _ _)
      (World.shaped_of_ZipB (by kernel_rfl) (by kernel_rfl)) (by kernel_rfl) (by kernel_rfl) (by kernel_rfl)
      (by rw [MakeChecks.laidMetH_plain _ _ _ (by kernel_rfl)]; exact laidMet_laidAll _ (by kernel_rfl) (by kernel_rfl))) ?_
  intro W base args ds gs before hval0 hW _ hsz0 hL0 _
  have hL := pows_of_laid hL0
  clear hL0
  have hsz : (DataW.weightsEach Tryd.prog (Tryd.f3.params.toList ++ Rows.cacheMostSpec.plain.varTypes Tryd.prog) (ds ++ gs)).all (· ≤ reachBytes) = true := hsz0
  clear hsz0
  have hval : ∀ (j : Nat) t v, Tryd.f3.params[j]? = some t → args[j]? = some v → Value.okWide Tryd.prog W .any base t v := hval0
  have hW' := hW
  obtain ⟨p, q, hA0, hV, rfl, _, _⟩ := hW
  have hA : DataW.TrodAll enc Tryd.prog W 0 (fun _ => true) true Tryd.f3.params.toList args.toList ds p := hA0
  rw [Tryd.params3] at hA hval hsz
  obtain ⟨v0, v1, v2, d0, d1, d2, p0, p1, p2, rfl, rfl, rfl, h0, h1, h2⟩ := trodAll_three hA
  obtain ⟨rfl, rfl⟩ := trodVars_none hV
  obtain ⟨z0, rfl, rfl, rfl, w0⟩ := open_int Tryd.underlying5 (hval 0 5 v0 rfl rfl) h0
  obtain ⟨n0, rfl, hn0⟩ := u8_natK w0
  obtain ⟨A1, m1, c1, l1, rfl, hl1, hr1, hc1, hm1, hd1⟩ := open_row_u8 u8_cells Tryd.underlying22 (hval 1 22 v1 rfl rfl) h1 (fun x hx => hW'.lt x (by simp [hx]))
  have hk1 := row_reach hsz (j := 1) rfl rfl Tryd.underlying22 u8_bytes hd1
  obtain ⟨z2, rfl, rfl, rfl, w2⟩ := open_int Tryd.underlying5 (hval 2 5 v2 rfl rfl) h2
  obtain ⟨n2, rfl, hn2⟩ := u8_natK w2
  have key : Calls Tryd.prog 3 #[.int .u8 (n0 : Int), .slice A1 m1 c1, .int .u8 (n2 : Int)] W (TrueB W) := by
    subst hl1
    exact camost_any theCore W n0 n2 hn0 hn2 A1 c1 l1 hr1 hm1 hL
  refine key.mono fun e W' ⟨he, hb⟩ => ?_
  subst he
  exact ⟨_, rfl, law_post (P := Tryd.prog) (tb := 4) Tryd.laidOut (by kernel_rfl) (by kernel_rfl) (by kernel_rfl) Tryd.underlying4 rfl hW' rfl rfl rfl hb⟩

theorem camost_holds : Rows.CacheMostSaid :=
  OpenClaim.holds_of_wide 3 Tryd.f3 rfl rfl rfl rfl rfl rfl rfl ⟨rfl, rfl, rfl, rfl, rfl⟩ rfl rfl rfl rfl rfl (by kernel_rfl) Tryd.func3 (by kernel_rfl)
    (of_decide_eq_true (by kernel_rfl)) (by unfold Func.isWrapper; first | (rw [if_pos (by decide +kernel)]; kernel_rfl) | (rw [if_neg (by decide +kernel)]; exact ⟨rfl, rfl⟩))
    (fun os started H enc _ => camost_lifted os started H enc)

theorem camost_card : Rows.CacheMostCardSaid :=
  Claim7.holds_tied_plain_at .later [] [.data, .data, .data] true Rows.cacheMostCard.stood.harness false camost_holds (fun _ h => by cases h) (by kernel_rfl) (fun _ h => by cases h) cacheMost_row_tie rfl ⟨rfl, rfl⟩ (by kernel_rfl) rfl
    (fun f fn hf hfn => by
      obtain rfl : f = 3 := Option.some.inj ((show Tryd.prog.funcNamed "gazetteer/gazetteerlaw14.CacheMost" = some 3 by kernel_rfl).symm.trans hf) |>.symm
      obtain rfl : fn = Tryd.f3 := (Option.some.inj (Tryd.func3.symm.trans hfn)).symm
      exact ⟨by kernel_rfl, fun j t ht => by
        rw [Tryd.params3] at ht
        have hm : t ∈ [5, 22, 5] := by simpa using Array.mem_of_getElem? ht
        have hall : ([5, 22, 5].all fun u => !Tryd.prog.wantsStandIn u) = true := by kernel_rfl
        exact (show Tryd.prog.wantsStandIn t = false by simpa using List.all_eq_true.1 hall t hm)⟩)
    (by kernel_rfl)

end Go.Proofs.YtmbcbfalgdgmjaaDoor
