/-
  The contract of a Writer's note: a rest's place is kept, if it is the first one and can be led to.
-/
import Derived.Test.YtjjmllbkfbdcnaaWriter
import Derived.Carry
namespace Go.Proofs.Ytjjmllbkfbdcnaa
open Go.RowKit

theorem keyR_ne {n r : List (List UInt8)} (hn : n.all fitL = true) (hr : r.all fitL = true) (h : n ≠ r) : keyR n ≠ keyR r := fun e => by
  unfold keyR at e
  injection e with e
  exact h (encN_inj hn hr e)
theorem SaysR.empty : SaysR (.map []) [] := ⟨Maps.isMap_empty, fun _ _ => ⟨rfl, rfl⟩⟩
theorem SaysR.same {D : DataW Unit} {R : Rs} {r : List (List UInt8)} {a : Nat} (k : Nat) (h : SaysR D R) (ha : findR R r = some a) : SaysR D (R ++ [(r, k)]) := by
  refine ⟨h.1, fun n hn => ?_⟩
  have e : findR (R ++ [(r, k)]) n = findR R n := by
    rw [findR_snoc]
    by_cases hrn : r = n
    · subst hrn; rw [ha]; rfl
    · rw [if_neg hrn]; cases findR R n <;> rfl
  rw [e]
  exact h.2 n hn
theorem SaysR.put {D : DataW Unit} {R : Rs} {r : List (List UInt8)} (k : Nat) (h : SaysR D R) (hr : r.all fitL = true) (hf : findR R r = none) : SaysR (D.put (keyR r) (.lit (.int .i64 (k : Int)))) (R ++ [(r, k)]) := by
  refine ⟨h.1.put _ _, fun n hn => ?_⟩
  rw [findR_snoc]
  by_cases hrn : r = n
  · subst hrn
    rw [hf, if_pos rfl, Maps.has_put_same h.1 (by simp [keyR, WideAt.IsKeyLit]), Maps.atKey_put_same h.1 (by simp [keyR, WideAt.IsKeyLit])]
    exact ⟨rfl, rfl⟩
  · have hk := keyR_ne hn hr (Ne.symm hrn)
    rw [if_neg hrn, Maps.has_put_other hk, Maps.atKey_put_other hk, Option.or_none]
    exact h.2 n hn

/-- The rests behind a note. -/
def noteR (B : List UInt8) (R : Rs) (r : List (List UInt8)) : Rs := if B.length < 16384 then R ++ [(r, B.length)] else R

theorem str_keyed : Maps.Keyed Try.prog 9 := Maps.string_keyed Try.underlying9
theorem int_zero (w : World) : (zeroValue 3).run Try.prog w = .ok (.int .i64 0) w := by kernel_rfl
theorem key_enc {r : List (List UInt8)} (h : (encN r).length ≤ maxLen) : keyOf Try.prog 9 (.string ⟨(encN r).toArray⟩) = some (keyR r) :=
  WideMaps.keyOf_string_mk Try.underlying9 (by simpa [ByteArray.size] using h)
theorem wf_nat {k : Nat} (h : k ≤ 9223372036854775807) : (Lit.int .i64 (k : Int)).wf = true := by
  have h1 : IntKind.i64.min = -9223372036854775808 := rfl
  have h2 : IntKind.i64.max = 9223372036854775807 := rfl
  simp only [Lit.wf, Bool.and_eq_true, decide_eq_true_eq]
  omega

theorem Wr.noted {w w1 : World} {base g b : Nat} {vB : Value} {B : List UInt8} {R0 R : Rs} {D : DataW Unit} (h : Wr w base g vB (.map (some b)) B R0) (hg : w.grownBy w1 (some b))
    (ho : w1.ownsMap Try.prog 9 (plainElem Try.prog 3) b R.length D) (hs : SaysR D R) : Wr w1 base g vB (.map (some b)) B R := by
  obtain ⟨_, h2, h3⟩ := h.apart
  refine ⟨h.blk.keep (hg.block g h.blk.lt (fun e => h2 (by rw [← e]))), h.low, own_keep h.row fun j hj => hg.block j (h.row.lt j hj).2 (fun e => h3 j hj (by rw [← e])), .inr ⟨b, D, rfl, (h.map.lt rfl).1, ho, hs⟩⟩
theorem Wr.made {w : World} {base g : Nat} {vB : Value} {B : List UInt8} (h : Wr w base g vB (.map none) B []) : Wr ((w.alloc (.map #[] 0)).setCell ⟨g, 1, none⟩ (.map (some w.heap.size))) base g vB (.map (some w.heap.size)) B [] := by
  have ha := h.alloc (.map #[] 0)
  refine ⟨ha.blk.set_ 1 _, h.low, own_set_far ha.row ha.apart.1 _, .inr ⟨_, .map [], rfl, h.size, ?_, SaysR.empty⟩⟩
  exact ownsMap_keep (World.ownsMap_made w Try.prog 9 (plainElem Try.prog 3)) (Below.heap_setCell _ ⟨g, 1, none⟩ _ _ (by have := h.blk.lt; simp; omega))

set_option maxHeartbeats 1000000 in
theorem note_nil_far (base : Nat) (w : World) (g : Nat) (vB : Value) (B : List UInt8) (r : List (List UInt8)) (h : Wr w base g vB (.map none) B []) (he : (encN r).length ≤ maxLen) (hB : 16384 ≤ B.length) :
    Calls Try.prog 46 #[.pointer (some ⟨g, 0, none⟩), .string ⟨(encN r).toArray⟩] w (Told w (.tuple #[])) := by
  have HL := Lib.hid (len_any base w g vB (.map none) B [] h)
  have h1 := h.c1
  have hrun := Maps.look_nil (w := w) true str_keyed Try.underlying73 (int_zero w) (key_enc he)
  have d1 : decide (16384 ≤ (B.length : Int)) = true := by simp; omega
  clear h
  go_enter Try.func46, Try.ntmps46
  go_wp2_with fail
  refine HL.out.mono ?_
  rintro e w' ⟨rfl, rfl⟩
  go_wp2
  go_end0
  exact ⟨rfl, rfl⟩

set_option maxHeartbeats 1000000 in
theorem note_nil_near (base : Nat) (w : World) (g : Nat) (vB : Value) (B : List UInt8) (r : List (List UInt8)) (h : Wr w base g vB (.map none) B []) (hr : r.all fitL = true) (he : (encN r).length ≤ maxLen) (hB : B.length < 16384) :
    Calls Try.prog 46 #[.pointer (some ⟨g, 0, none⟩), .string ⟨(encN r).toArray⟩] w (fun e w' => e = .returned (.tuple #[]) ∧ Penned base w g vB (.map none) B [(r, B.length)] w') := by
  have HL := Lib.hid (len_any base w g vB (.map none) B [] h)
  have h1 := h.c1
  have f1 := h.f1
  have hrun := Maps.look_nil (w := w) true str_keyed Try.underlying73 (int_zero w) (key_enc he)
  have hmm := @run_makeMap Try.prog
  have heq := fun W => run_eql_map_nil (P := Try.prog) W 73 9 3 none Try.underlying73
  have hkey := key_enc he
  have d1 : decide (16384 ≤ (B.length : Int)) = false := by simp; omega
  have hown := (World.ownsMap_made (H := Unit) w Try.prog 9 (plainElem Try.prog 3))
  have h2 := (h.alloc (.map #[] 0)).c1
  have f2 := (h.alloc (.map #[] 0)).f1
  have HW := Lib.hid h
  have HO := Lib.hid hown
  have HK := Lib.hid hkey
  clear h hkey hown
  go_enter Try.func46, Try.ntmps46
  go_wp2_with fail
  refine HL.out.mono ?_
  rintro e w' ⟨rfl, rfl⟩
  go_wp2_with (
    at_mapUpdate
    refine wpList_mapUpdate_own _ rfl _ _ _ 73 rfl 9 3 str_keyed Try.underlying73 _ w.heap.size 0 (.map []) rfl (ownsMap_keep HO.out (Below.heap_setCell _ ⟨g, 1, none⟩ _ _ (by have := HW.out.blk.lt; simp; omega))) (by unfold maxLen; omega) _ _ _ rfl rfl HK.out _ [] (plainElem_int Try.underlying3 (wf_nat (k := B.length) (by omega))) ?_
    intro w1 hown1 hgrow1)
  go_end0
  refine ⟨rfl, vB, .map (some w.heap.size), HW.out.made.noted hgrow1 hown1 (SaysR.empty.put B.length hr rfl), ?_, ?_⟩
  · exact (((Grew.refl _ w).alloc _).setCell (.inl (.inl rfl)) _).grown hgrow1 fun j hj => .inr (by injection hj with hj; omega)
  · intro j hj
    rcases hj with h | h | h
    · exact .inl (.inl h)
    · exact .inl (.inr (.inl h))
    · injection h with h
      injection h with h
      exact .inr (by omega)

/-- The Writer is as it was, or the map's block alone has turned. -/
theorem noted_penned {w w1 : World} {base g b : Nat} {vB : Value} {B : List UInt8} {R0 R : Rs} {D : DataW Unit} (h : Wr w base g vB (.map (some b)) B R0) (hg : w.grownBy w1 (some b))
    (ho : w1.ownsMap Try.prog 9 (plainElem Try.prog 3) b R.length D) (hs : SaysR D R) : Penned base w g vB (.map (some b)) B R w1 :=
  ⟨vB, .map (some b), h.noted hg ho hs, Grew.of_grown hg fun j hj => .inl (.inr (.inr (by rw [hj]))), fun j hj => .inl hj⟩

set_option maxHeartbeats 1000000 in
theorem note_known (base : Nat) (w : World) (g b : Nat) (vB : Value) (B : List UInt8) (R : Rs) (D : DataW Unit) (r : List (List UInt8)) (_ : Nat) (h : Wr w base g vB (.map (some b)) B R) (ho : w.ownsMap Try.prog 9 (plainElem Try.prog 3) b R.length D)
    (he : (encN r).length ≤ maxLen) (hh : Maps.has D (keyR r) = true) :
    Calls Try.prog 46 #[.pointer (some ⟨g, 0, none⟩), .string ⟨(encN r).toArray⟩] w (Told w (.tuple #[])) := by
  have HL := Lib.hid (len_any base w g vB (.map (some b)) B R h)
  have h1 := h.c1
  have HK := Lib.hid (key_enc he)
  have HO := Lib.hid ho
  have HH := Lib.hid hh
  clear h ho hh
  go_enter Try.func46, Try.ntmps46
  go_wp2_with fail
  refine HL.out.mono ?_
  rintro e w' ⟨rfl, rfl⟩
  go_wp2_with (
    at_lookup
    refine wpList_lookup_own_ok_int _ rfl _ _ 73 rfl 9 3 .i64 str_keyed Try.underlying73 Try.underlying3 (int_zero _) b _ D rfl HO.out _ _ rfl HK.out ?_
    intro c hat hwc
    rw [HH.out]
    clear hat hwc)
  go_end0
  exact ⟨rfl, rfl⟩

set_option maxHeartbeats 1000000 in
theorem note_far (base : Nat) (w : World) (g b : Nat) (vB : Value) (B : List UInt8) (R : Rs) (D : DataW Unit) (r : List (List UInt8)) (h : Wr w base g vB (.map (some b)) B R) (ho : w.ownsMap Try.prog 9 (plainElem Try.prog 3) b R.length D)
    (he : (encN r).length ≤ maxLen) (hh : Maps.has D (keyR r) = false) (hB : 16384 ≤ B.length) :
    Calls Try.prog 46 #[.pointer (some ⟨g, 0, none⟩), .string ⟨(encN r).toArray⟩] w (Told w (.tuple #[])) := by
  have HL := Lib.hid (len_any base w g vB (.map (some b)) B R h)
  have h1 := h.c1
  have HK := Lib.hid (key_enc he)
  have HO := Lib.hid ho
  have HH := Lib.hid hh
  have d1 : decide (16384 ≤ (B.length : Int)) = true := by simp; omega
  clear h ho hh
  go_enter Try.func46, Try.ntmps46
  go_wp2_with fail
  refine HL.out.mono ?_
  rintro e w' ⟨rfl, rfl⟩
  go_wp2_with (
    at_lookup
    refine wpList_lookup_own_ok_int _ rfl _ _ 73 rfl 9 3 .i64 str_keyed Try.underlying73 Try.underlying3 (int_zero _) b _ D rfl HO.out _ _ rfl HK.out ?_
    intro c hat hwc
    rw [HH.out]
    clear hat hwc)
  go_end0
  exact ⟨rfl, rfl⟩

set_option maxHeartbeats 1000000 in
theorem note_near (base : Nat) (w : World) (g b : Nat) (vB : Value) (B : List UInt8) (R : Rs) (D : DataW Unit) (r : List (List UInt8)) (h : Wr w base g vB (.map (some b)) B R) (ho : w.ownsMap Try.prog 9 (plainElem Try.prog 3) b R.length D) (hs : SaysR D R)
    (hr : r.all fitL = true) (he : (encN r).length ≤ maxLen) (hf : findR R r = none) (hB : B.length < 16384) (hR : R.length < 1000000) :
    Calls Try.prog 46 #[.pointer (some ⟨g, 0, none⟩), .string ⟨(encN r).toArray⟩] w (fun e w' => e = .returned (.tuple #[]) ∧ Penned base w g vB (.map (some b)) B (R ++ [(r, B.length)]) w') := by
  have HL := Lib.hid (len_any base w g vB (.map (some b)) B R h)
  have h1 := h.c1
  have HK := Lib.hid (key_enc he)
  have HO := Lib.hid ho
  have HH := Lib.hid (show Maps.has D (keyR r) = false by rw [(hs.2 r hr).1, hf]; rfl)
  have HS := Lib.hid (hs.put B.length hr hf)
  have HW := Lib.hid h
  have heq := fun W => run_eql_map_nil (P := Try.prog) W 73 9 3 (some b) Try.underlying73
  have d1 : decide (16384 ≤ (B.length : Int)) = false := by simp; omega
  clear h ho hs hf
  go_enter Try.func46, Try.ntmps46
  go_wp2_with fail
  refine HL.out.mono ?_
  rintro e w' ⟨rfl, rfl⟩
  go_wp2_with (first
    | (at_lookup
       refine wpList_lookup_own_ok_int _ rfl _ _ 73 rfl 9 3 .i64 str_keyed Try.underlying73 Try.underlying3 (int_zero _) b _ D rfl HO.out _ _ rfl HK.out ?_
       intro c hat hwc
       rw [HH.out]
       clear hat hwc)
    | (at_mapUpdate
       refine wpList_mapUpdate_own _ rfl _ _ _ 73 rfl 9 3 str_keyed Try.underlying73 _ b R.length D rfl HO.out (by unfold maxLen; omega) _ _ _ rfl rfl HK.out _ [] (plainElem_int Try.underlying3 (wf_nat (k := B.length) (by omega))) ?_
       intro w1 hown1 hgrow1))
  go_end0
  exact ⟨rfl, noted_penned HW.out hgrow1 (by simpa using hown1) HS.out⟩

theorem note_any (base : Nat) (w : World) (g : Nat) (vB vM : Value) (B : List UInt8) (R : Rs) (r : List (List UInt8)) (h : Wr w base g vB vM B R) (hr : r.all fitL = true) (he : (encN r).length ≤ maxLen) (hR : R.length < 1000000) :
    Calls Try.prog 46 #[.pointer (some ⟨g, 0, none⟩), .string ⟨(encN r).toArray⟩] w (fun e w' => e = .returned (.tuple #[]) ∧ Penned base w g vB vM B (noteR B R r) w') := by
  unfold noteR
  rcases h.map with ⟨rfl, rfl⟩ | ⟨b, D, rfl, hb, ho, hs⟩
  · by_cases hB : B.length < 16384
    · rw [if_pos hB]
      exact note_nil_near base w g vB B r h hr he hB
    · rw [if_neg hB]
      refine (note_nil_far base w g vB B r h he (by omega)).mono ?_
      rintro e w' ⟨rfl, rfl⟩
      exact ⟨rfl, Penned.refl h⟩
  · cases hf : findR R r with
    | some a =>
      have hh : Maps.has D (keyR r) = true := by rw [(hs.2 r hr).1, hf]; rfl
      refine (note_known base w g b vB B R D r a h ho he hh).mono ?_
      rintro e w' ⟨rfl, rfl⟩
      refine ⟨rfl, ?_⟩
      split
      · exact Penned.refl ⟨h.blk, h.low, h.row, .inr ⟨b, D, rfl, hb, ho.mono (by simp), hs.same B.length hf⟩⟩
      · exact Penned.refl h
    | none =>
      by_cases hB : B.length < 16384
      · rw [if_pos hB]
        exact note_near base w g b vB B R D r h ho hs hr he hf hB hR
      · rw [if_neg hB]
        refine (note_far base w g b vB B R D r h ho he (by rw [(hs.2 r hr).1, hf]; rfl) (by omega)).mono ?_
        rintro e w' ⟨rfl, rfl⟩
        exact ⟨rfl, Penned.refl h⟩

end Go.Proofs.Ytjjmllbkfbdcnaa
