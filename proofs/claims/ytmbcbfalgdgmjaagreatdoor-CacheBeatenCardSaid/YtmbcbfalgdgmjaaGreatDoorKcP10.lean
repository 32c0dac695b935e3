/-
  The program's cache is as the statements of layer 14 ask: New, Put, Look, Get and Len.
-/
import Derived.Test.YtmbcbfalgdgmjaaGreatDoorKcP9
import Derived.Test.YtmbcbfalgdgmjaaGreatDoorKcP2
namespace Go.Proofs.YtmbcbfalgdgmjaaGreatDoor
open Go.RowKit

/-- An empty fact. -/
def zeroF : FV := ⟨none, 0, [], ⟨0, 0, 0, 0, 0⟩, none, 0, [], none, 0, [], emptyV, emptyT⟩
def zeroL : List Value := [.slice none 0 0, .int .i64 0, .int .i64 0, .int .i64 0, .int .i64 0, .int .i64 0, .slice none 0 0, .slice none 0 0, .slice none 0 0, .slice none 0 0, .slice none 0 0, .slice none 0 0, .slice none 0 0]
theorem zeroF_own (w : World) (B : Nat) : FOwn w B zeroF :=
  ⟨World.ownsRow_nil _ _ _ _, World.ownsRow_nil _ _ _ _, ⟨World.ownsRow_nil _ _ _ _, World.ownsRow_nil _ _ _ _, World.ownsRow_nil _ _ _ _, World.ownsRow_nil _ _ _ _, World.ownsRow_nil _ _ _ _⟩, World.ownsRow_nil _ _ _ _, fun _ hp => absurd hp (List.not_mem_nil)⟩
theorem zeroF_told (w w' : World) (F : Nat → Prop) (hF : ∀ j, F j → j < w.heap.size) : ToldC w none F (.tuple #[zeroF.val, .bool false]) w' :=
  ⟨zeroF, rfl, ⟨zeroF_own w' _, fun v hv g e hf => by have h1 := ((zeroF_own w' w.heap.size).vlt v hv g e).1; have h2 := hF g hf; omega⟩, fun f h => (by cases h), fun _ => ⟨rfl, rfl, rfl, rfl, rfl⟩⟩
/-- An item is used. -/
def useI (its : List Im) (i : Im) (u : Nat) : List Im := restI its i.key ++ [{ i with u := u }]
theorem useI_foot {cb mb : Nat} {its : List Im} {i : Im} {u : Nat} (hi : i ∈ its) : ∀ j, Foot cb mb (useI its i u) j → Foot cb mb its j := by
  rintro j (rfl | rfl | ⟨k, hk, hj⟩)
  · exact .inl rfl
  · exact .inr (.inl rfl)
  · rcases List.mem_append.1 hk with hk | hk
    · exact .inr (.inr ⟨k, (restI_mem hk).1, hj⟩)
    · rw [List.mem_singleton.1 hk] at hj
      exact .inr (.inr ⟨i, hi, hj⟩)
theorem useI_foot2 {cb mb : Nat} {its : List Im} {i : Im} {u : Nat} : ∀ j, Foot cb mb its j → Foot cb mb (useI its i u) j ∨ ∃ k ∈ its, k.key = i.key ∧ (j = k.g ∨ ∃ v ∈ k.x.vals, v.ownBlock = some j) := by
  rintro j (rfl | rfl | ⟨k, hk, hj⟩)
  · exact .inl (.inl rfl)
  · exact .inl (.inr (.inl rfl))
  · by_cases e : k.key = i.key
    · exact .inr ⟨k, hk, e, hj⟩
    · exact .inl (.inr (.inr ⟨k, List.mem_append_left _ (restI_of hk e), hj⟩))

set_option maxRecDepth 20000 in
set_option maxHeartbeats 2000000 in
theorem tell_none (w : World) (cv : Value) : Calls Tryz.prog 45 #[cv, .pointer none] w (Gave w (.tuple #[zeroF.val, .bool false])) := by
  have HZ := Lib.hid (Whole.made w zeroL 36)
  go_enter Tryz.func45, Tryz.ntmps45
  go_wp2
  refine ⟨rfl, .tuple #[zeroF.val, .bool false], ?_, rfl, ((Below.refl _ _).alloc (Nat.le_refl _) _)⟩
  simp [results, Tryz.results45, go_sem, zeroF, emptyV, emptyT]

set_option maxRecDepth 20000 in
set_option maxHeartbeats 4000000 in
theorem tell_some {w : World} {b cb mb most uses : Nat} {window : Int} {its : List Im} (h : CMem w b cb mb most window uses its) (hul : uses ≤ 1000000) (i : Im) (hi : i ∈ its) :
    Calls Tryz.prog 45 #[.pointer (some ⟨cb, 0, none⟩), .pointer (some ⟨i.g, 0, none⟩)] w (fun e w' => ∃ x' : FV, e = .returned (.tuple #[x'.val, .bool true]) ∧ x'.fact = i.x.fact ∧ FOwn w' w.heap.size x' ∧ CMem w' b cb mb most window (uses + 1) (useI its i (uses + 1)) ∧ Grew (Foot cb mb its) w w') := by
  have HZ := Lib.hid (Whole.made w zeroL 36)
  have HB0 := Lib.hid ((Below.refl w.heap.size w).alloc (Nat.le_refl _) (.cells #[.slice none 0 0, .int .i64 0, .int .i64 0, .int .i64 0, .int .i64 0, .int .i64 0, .slice none 0 0, .slice none 0 0, .slice none 0 0, .slice none 0 0, .slice none 0 0, .slice none 0 0, .slice none 0 0] 36))
  have HS0 := Lib.hid (show (w.alloc (.cells #[.slice none 0 0, .int .i64 0, .int .i64 0, .int .i64 0, .int .i64 0, .int .i64 0, .slice none 0 0, .slice none 0 0, .slice none 0 0, .slice none 0 0, .slice none 0 0, .slice none 0 0, .slice none 0 0] 36)).heap.size = w.heap.size + 1 by simp)
  have HFT := Lib.hid h.foot
  have HSD := Lib.hid (h.snd i hi)
  have HM := Lib.hid (fun W (hb : Below w.heap.size w W) => h.step hb)
  have HI := Lib.hid hi
  clear h hi
  go_enter Tryz.func45, Tryz.ntmps45
  go_upto_region 1 with fail
  generalize hW : w.alloc (.cells #[.slice none 0 0, .int .i64 0, .int .i64 0, .int .i64 0, .int .i64 0, .int .i64 0, .slice none 0 0, .slice none 0 0, .slice none 0 0, .slice none 0 0, .slice none 0 0, .slice none 0 0, .slice none 0 0] 36) = w1 at HB0 HS0 ⊢
  have HZ1 := Lib.hid (show Whole w1 w.heap.size 36 zeroL from by rw [← hW]; exact HZ.out)
  clear hW HZ
  have HM1 := Lib.hid (HM.out _ HB0.out)
  have HUS := Lib.hid (use_any w1 cb i.g uses (.int .i64 most) (.int .i64 window) (.map (some mb)) (.int .i64 i.u) (cellsI i) HM1.out.blk (HM1.out.item i HI.out) rfl (by omega))
  go_wp2_with fail
  refine HUS.out.mono ?_
  rintro e w3 ⟨rfl, hu⟩
  have HM3 := Lib.hid (HM1.out.useI HI.out hu)
  have HG3 := Lib.hid (show Grew (Foot cb mb its) w w3 from (Grew.all HB0.out).trans hu.2.2.1 (fun j hj => by
    rcases hj with rfl | rfl
    · exact .inl (.inl rfl)
    · exact .inl (.inr (.inr ⟨i, HI.out, .inl rfl⟩))))
  have HZ3 := Lib.hid (show Whole w3 w.heap.size 36 zeroL from (hu.2.2.1.block w.heap.size HZ1.out.lt (by
    rintro (e | e)
    · have h1 := (HFT.out cb (.inl rfl)).2; omega
    · have h1 := (HFT.out i.g (.inr (.inr ⟨i, HI.out, .inl rfl⟩))).2; omega)).trans HZ1.out)
  have HMI := Lib.hid (show ({ i with u := uses + 1 } : Im) ∈ useI its i (uses + 1) from List.mem_append_right _ (List.mem_singleton.2 rfl))
  have hit := HM3.out.item _ HMI.out
  have q0 : w3.cell? ⟨i.g, 0, none⟩ = some (.slice i.x.A i.x.name.length i.x.c) := hit.cell 0
  have q1 : w3.cell? ⟨i.g, 1, none⟩ = some (.int .i64 i.x.h.typ) := hit.cell 1
  have q2 : w3.cell? ⟨i.g, 2, none⟩ = some (.int .i64 i.x.h.knd) := hit.cell 2
  have q3 : w3.cell? ⟨i.g, 3, none⟩ = some (.int .i64 i.x.h.rank) := hit.cell 3
  have q4 : w3.cell? ⟨i.g, 4, none⟩ = some (.int .i64 i.x.h.got) := hit.cell 4
  have q5 : w3.cell? ⟨i.g, 5, none⟩ = some (.int .i64 i.x.h.ttl) := hit.cell 5
  have q6 : w3.cell? ⟨i.g, 6, none⟩ = some (.slice i.x.sA i.x.sp.length i.x.sc) := hit.cell 6
  have q7 : w3.cell? ⟨i.g, 7, none⟩ = some (.slice i.x.zA i.x.zone.length i.x.zc) := hit.cell 7
  have q8 : w3.cell? ⟨i.g, 8, none⟩ = some (.slice i.x.d.Ab i.x.soa.bytes.length i.x.d.cb) := hit.cell 8
  have q9 : w3.cell? ⟨i.g, 9, none⟩ = some (.slice i.x.d.Ah i.x.soa.host.length i.x.d.ch) := hit.cell 9
  have q10 : w3.cell? ⟨i.g, 10, none⟩ = some (.slice i.x.d.Am i.x.soa.mail.length i.x.d.cm) := hit.cell 10
  have q11 : w3.cell? ⟨i.g, 11, none⟩ = some (.slice i.x.d.An i.x.soa.nums.length i.x.d.cn) := hit.cell 11
  have q12 : w3.cell? ⟨i.g, 12, none⟩ = some (.slice i.x.d.At i.x.soa.texts.length i.x.d.ct) := hit.cell 12
  have HCL := Lib.hid (clone_any w3 i.x (HM3.out.own _ HMI.out).at_ (sound_fewF HSD.out))
  clear hu hit HUS HM1 HZ1 HM
  go_wp2_with fail
  refine HCL.out.mono ?_
  rintro e w4 ⟨x', rfl, hx', ho, hb4⟩
  have HXE := Lib.hid hx'
  have HO4 := Lib.hid ho
  have HM4 := Lib.hid (HM3.out.step hb4)
  have HG4 := Lib.hid (HG3.out.then_below hb4)
  have HZ4 := Lib.hid (HZ3.out.below hb4 HZ3.out.lt)
  have HSZ := Lib.hid (show w.heap.size < w3.heap.size from HZ3.out.lt)
  clear hx' ho hb4 HCL HZ3 HG3 HM3 HMI q0 q1 q2 q3 q4 q5 q6 q7 q8 q9 q10 q11 q12
  go_wp2_with (first
    | (refine wpList_store_at rfl 36 (.tmp 4) (.tmp 16) rfl w.heap.size 0 (cellsF x') rfl rfl 36 _ HZ4.out (Nat.le_refl 13) fact_size (fun u hu => cellsF_one [x'] u (by simpa using hu)) ?_
       intro w5 hV hG hZ
       have HV5 := Lib.hid (show Whole w5 w.heap.size 36 (cellsF x') from hV)
       have HO5 := Lib.hid (show FOwn w5 w.heap.size x' from (HO4.out.keepB (w' := w5) fun g h1 h2 => hG.block g h2 (by have := HSZ.out; omega)).monoB (Nat.le_of_lt HSZ.out))
       have HM5 := Lib.hid (show CMem w5 b cb mb most window (uses + 1) (useI its i (uses + 1)) from HM4.out.keep (Grew.below hG (fun j hj => by rw [hj]; exact Nat.le_trans (HFT.out cb (.inl rfl)).1 (Nat.le_of_lt (HFT.out cb (.inl rfl)).2)) HM4.out.low) fun j hj => hG.block j (HM4.out.foot j hj).2 (fun e => by have h1 := (HFT.out j (useI_foot HI.out j hj)).2; omega))
       have HG5 := Lib.hid (show Grew (Foot cb mb its) w w5 from HG4.out.trans hG fun j hj => .inr (by rw [hj]; exact Nat.le_refl _))
       clear hV hG hZ))
  have v0 : w5.cell? ⟨w.heap.size, 0, none⟩ = some (.slice x'.A x'.name.length x'.c) := HV5.out.cell 0
  have v1 : w5.cell? ⟨w.heap.size, 1, none⟩ = some (.int .i64 x'.h.typ) := HV5.out.cell 1
  have v2 : w5.cell? ⟨w.heap.size, 2, none⟩ = some (.int .i64 x'.h.knd) := HV5.out.cell 2
  have v3 : w5.cell? ⟨w.heap.size, 3, none⟩ = some (.int .i64 x'.h.rank) := HV5.out.cell 3
  have v4 : w5.cell? ⟨w.heap.size, 4, none⟩ = some (.int .i64 x'.h.got) := HV5.out.cell 4
  have v5 : w5.cell? ⟨w.heap.size, 5, none⟩ = some (.int .i64 x'.h.ttl) := HV5.out.cell 5
  have v6 : w5.cell? ⟨w.heap.size, 6, none⟩ = some (.slice x'.sA x'.sp.length x'.sc) := HV5.out.cell 6
  have v7 : w5.cell? ⟨w.heap.size, 7, none⟩ = some (.slice x'.zA x'.zone.length x'.zc) := HV5.out.cell 7
  have v8 : w5.cell? ⟨w.heap.size, 8, none⟩ = some (.slice x'.d.Ab x'.soa.bytes.length x'.d.cb) := HV5.out.cell 8
  have v9 : w5.cell? ⟨w.heap.size, 9, none⟩ = some (.slice x'.d.Ah x'.soa.host.length x'.d.ch) := HV5.out.cell 9
  have v10 : w5.cell? ⟨w.heap.size, 10, none⟩ = some (.slice x'.d.Am x'.soa.mail.length x'.d.cm) := HV5.out.cell 10
  have v11 : w5.cell? ⟨w.heap.size, 11, none⟩ = some (.slice x'.d.An x'.soa.nums.length x'.d.cn) := HV5.out.cell 11
  have v12 : w5.cell? ⟨w.heap.size, 12, none⟩ = some (.slice x'.d.At x'.soa.texts.length x'.d.ct) := HV5.out.cell 12

  refine ⟨rfl, .tuple #[x'.val, .bool true], ?_, x', rfl, HXE.out, HO5.out, HM5.out, HG5.out⟩
  clear HM5 HG5 HO5
  simp [results, Tryz.results45, go_sem, v0, v1, v2, v3, v4, v5, v6, v7, v8, v9, v10, v11, v12]

end Go.Proofs.YtmbcbfalgdgmjaaGreatDoor

namespace Go.Proofs.YtmbcbfalgdgmjaaGreatDoor
open Go.RowKit

theorem fewF_sz {x : FV} (h : FewF x) : FSz x := ⟨h.n, h.z, fun p hp => ⟨(h.e p hp).nh, (h.e p hp).nm⟩, h.d.nh, h.d.nm⟩
/-- Beats' two boxes. -/
structure BtBox (w : World) (o x : FV) (W : World) : Prop where
  a : Whole W w.heap.size 36 (cellsF o)
  b : Whole W (w.heap.size + 1) 36 (cellsF x)
  below : Below w.heap.size w W
  size : w.heap.size + 2 ≤ W.heap.size
theorem BtBox.step {w W W' : World} {o x : FV} (h : BtBox w o x W) (hb : Below W.heap.size W W') : BtBox w o x W' :=
  ⟨h.a.below hb h.a.lt, h.b.below hb h.b.lt, h.below.trans (hb.mono (by have := h.size; omega)), Nat.le_trans h.size hb.size⟩
theorem BtBox.made (w : World) (o x : FV) : BtBox w o x ((w.alloc (.cells #[.slice o.A o.name.length o.c, .int .i64 o.h.typ, .int .i64 o.h.knd, .int .i64 o.h.rank, .int .i64 o.h.got, .int .i64 o.h.ttl, .slice o.sA o.sp.length o.sc, .slice o.zA o.zone.length o.zc, .slice o.d.Ab o.soa.bytes.length o.d.cb, .slice o.d.Ah o.soa.host.length o.d.ch, .slice o.d.Am o.soa.mail.length o.d.cm, .slice o.d.An o.soa.nums.length o.d.cn, .slice o.d.At o.soa.texts.length o.d.ct] 36)).alloc (.cells #[.slice x.A x.name.length x.c, .int .i64 x.h.typ, .int .i64 x.h.knd, .int .i64 x.h.rank, .int .i64 x.h.got, .int .i64 x.h.ttl, .slice x.sA x.sp.length x.sc, .slice x.zA x.zone.length x.zc, .slice x.d.Ab x.soa.bytes.length x.d.cb, .slice x.d.Ah x.soa.host.length x.d.ch, .slice x.d.Am x.soa.mail.length x.d.cm, .slice x.d.An x.soa.nums.length x.d.cn, .slice x.d.At x.soa.texts.length x.d.ct] 36)) := by
  refine ⟨(Whole.made w (cellsF o) _).alloc _, ?_, ((Below.refl _ _).alloc (Nat.le_refl _) _).alloc (by simp) _, by simp⟩
  have h1 := Whole.made (w.alloc (.cells #[.slice o.A o.name.length o.c, .int .i64 o.h.typ, .int .i64 o.h.knd, .int .i64 o.h.rank, .int .i64 o.h.got, .int .i64 o.h.ttl, .slice o.sA o.sp.length o.sc, .slice o.zA o.zone.length o.zc, .slice o.d.Ab o.soa.bytes.length o.d.cb, .slice o.d.Ah o.soa.host.length o.d.ch, .slice o.d.Am o.soa.mail.length o.d.cm, .slice o.d.An o.soa.nums.length o.d.cn, .slice o.d.At o.soa.texts.length o.d.ct] 36)) (cellsF x) 36
  rwa [show (w.alloc (.cells #[.slice o.A o.name.length o.c, .int .i64 o.h.typ, .int .i64 o.h.knd, .int .i64 o.h.rank, .int .i64 o.h.got, .int .i64 o.h.ttl, .slice o.sA o.sp.length o.sc, .slice o.zA o.zone.length o.zc, .slice o.d.Ab o.soa.bytes.length o.d.cb, .slice o.d.Ah o.soa.host.length o.d.ch, .slice o.d.Am o.soa.mail.length o.d.cm, .slice o.d.An o.soa.nums.length o.d.cn, .slice o.d.At o.soa.texts.length o.d.ct] 36)).heap.size = w.heap.size + 1 by simp] at h1
def beatsB (o x : Fh) (now : Int) : Bool := decide (o.rank ≤ x.rank) || !decide (0 < leftI o.got o.ttl now)
theorem beatsF_same {o x : Fc} {now : Int} (ho : soundF o = true) (hx : soundF x = true) (ht : timeB now = true) (hk : sameK o x = true) : beatsF o x now = beatsB o.h x.h now := by
  unfold beatsF beatsB
  rw [ho, hx, ht, hk]
  have h1 := (leftI_bounds o.h.got o.h.ttl now).1
  have h2 : decide (leftI o.h.got o.h.ttl now = 0) = !decide (0 < leftI o.h.got o.h.ttl now) := by
    rw [Bool.eq_iff_iff]
    simp only [decide_eq_true_eq, Bool.not_eq_true', decide_eq_false_iff_not]
    omega
  rw [h2]
  rfl

set_option maxRecDepth 20000 in
set_option maxHeartbeats 8000000 in
theorem beats_any (w : World) (o x : FV) (now : Int) (ho : FAt w w.heap.size o) (hx : FAt w w.heap.size x) (so : soundF o.fact = true) (sx : soundF x.fact = true) (hk : keyF o.fact = keyF x.fact) (ht : timeB now = true) (hp : PowsAt w.heap.size w) :
    Calls Tryz.prog 29 #[o.val, x.val, .int .i64 now] w (Gave w (.bool (beatsB o.h x.h now))) := by
  have io := soundF_in so
  have ix := soundF_in sx
  have HB := Lib.hid (BtBox.made w o x)
  have HSO := Lib.hid (show ∀ W (_ : BtBox w o x W), Calls Tryz.prog 55 #[o.val] W (Gave W (.bool true)) from fun W hb => so ▸ fsound_real W o ((ho.below hb.below).mono hb.below.size) io (fewF_sz (sound_fewF so)))
  have HSX := Lib.hid (show ∀ W (_ : BtBox w o x W), Calls Tryz.prog 55 #[x.val] W (Gave W (.bool true)) from fun W hb => sx ▸ fsound_real W x ((hx.below hb.below).mono hb.below.size) ix (fewF_sz (sound_fewF sx)))
  have HKO := Lib.hid (show ∀ W (_ : BtBox w o x W), Calls Tryz.prog 51 #[o.val] W (Gave W (.string ⟨(keyF x.fact).toArray⟩)) from fun W hb => hk ▸ key_any W w.heap.size (hp.next hb.below) hb.below.size o ((ho.n.below hb.below).mono hb.below.size) (soundF_name so) io.h.t)
  have HKX := Lib.hid (show ∀ W (_ : BtBox w o x W), Calls Tryz.prog 51 #[x.val] W (Gave W (.string ⟨(keyF x.fact).toArray⟩)) from fun W hb => key_any W w.heap.size (hp.next hb.below) hb.below.size x ((hx.n.below hb.below).mono hb.below.size) (soundF_name sx) ix.h.t)
  have HTM := Lib.hid (show ∀ W, Calls Tryz.prog 56 #[.int .i64 now] W (Told W (.bool true)) from fun W => ht ▸ ftime_any now W)
  have HFR := Lib.hid (fun W => fresh_any o.h.got o.h.ttl now W)
  have HV := Lib.hid (show beatsB o.h x.h now = (decide (o.h.rank ≤ x.h.rank) || !decide (0 < leftI o.h.got o.h.ttl now)) from rfl)
  have HC := Lib.hid (show ∀ W, BtBox w o x W → (W.cell? ⟨w.heap.size, 0, none⟩ = some (.slice o.A o.name.length o.c) ∧ W.cell? ⟨w.heap.size, 1, none⟩ = some (.int .i64 o.h.typ) ∧ W.cell? ⟨w.heap.size, 2, none⟩ = some (.int .i64 o.h.knd) ∧ W.cell? ⟨w.heap.size, 3, none⟩ = some (.int .i64 o.h.rank) ∧ W.cell? ⟨w.heap.size, 4, none⟩ = some (.int .i64 o.h.got) ∧ W.cell? ⟨w.heap.size, 5, none⟩ = some (.int .i64 o.h.ttl) ∧ W.cell? ⟨w.heap.size, 6, none⟩ = some (.slice o.sA o.sp.length o.sc) ∧ W.cell? ⟨w.heap.size, 7, none⟩ = some (.slice o.zA o.zone.length o.zc) ∧ W.cell? ⟨w.heap.size, 8, none⟩ = some (.slice o.d.Ab o.soa.bytes.length o.d.cb) ∧ W.cell? ⟨w.heap.size, 9, none⟩ = some (.slice o.d.Ah o.soa.host.length o.d.ch) ∧ W.cell? ⟨w.heap.size, 10, none⟩ = some (.slice o.d.Am o.soa.mail.length o.d.cm) ∧ W.cell? ⟨w.heap.size, 11, none⟩ = some (.slice o.d.An o.soa.nums.length o.d.cn) ∧ W.cell? ⟨w.heap.size, 12, none⟩ = some (.slice o.d.At o.soa.texts.length o.d.ct) ∧ W.cell? ⟨(w.heap.size + 1), 0, none⟩ = some (.slice x.A x.name.length x.c) ∧ W.cell? ⟨(w.heap.size + 1), 1, none⟩ = some (.int .i64 x.h.typ) ∧ W.cell? ⟨(w.heap.size + 1), 2, none⟩ = some (.int .i64 x.h.knd) ∧ W.cell? ⟨(w.heap.size + 1), 3, none⟩ = some (.int .i64 x.h.rank) ∧ W.cell? ⟨(w.heap.size + 1), 4, none⟩ = some (.int .i64 x.h.got) ∧ W.cell? ⟨(w.heap.size + 1), 5, none⟩ = some (.int .i64 x.h.ttl) ∧ W.cell? ⟨(w.heap.size + 1), 6, none⟩ = some (.slice x.sA x.sp.length x.sc) ∧ W.cell? ⟨(w.heap.size + 1), 7, none⟩ = some (.slice x.zA x.zone.length x.zc) ∧ W.cell? ⟨(w.heap.size + 1), 8, none⟩ = some (.slice x.d.Ab x.soa.bytes.length x.d.cb) ∧ W.cell? ⟨(w.heap.size + 1), 9, none⟩ = some (.slice x.d.Ah x.soa.host.length x.d.ch) ∧ W.cell? ⟨(w.heap.size + 1), 10, none⟩ = some (.slice x.d.Am x.soa.mail.length x.d.cm) ∧ W.cell? ⟨(w.heap.size + 1), 11, none⟩ = some (.slice x.d.An x.soa.nums.length x.d.cn) ∧ W.cell? ⟨(w.heap.size + 1), 12, none⟩ = some (.slice x.d.At x.soa.texts.length x.d.ct)) from fun W h => ⟨h.a.cell 0, h.a.cell 1, h.a.cell 2, h.a.cell 3, h.a.cell 4, h.a.cell 5, h.a.cell 6, h.a.cell 7, h.a.cell 8, h.a.cell 9, h.a.cell 10, h.a.cell 11, h.a.cell 12, h.b.cell 0, h.b.cell 1, h.b.cell 2, h.b.cell 3, h.b.cell 4, h.b.cell 5, h.b.cell 6, h.b.cell 7, h.b.cell 8, h.b.cell 9, h.b.cell 10, h.b.cell 11, h.b.cell 12⟩)
  clear ho hx so sx hk ht hp io ix
  generalize beatsB o.h x.h now = bb at HV ⊢
  generalize decide (0 < leftI o.h.got o.h.ttl now) = fr at HV HFR
  go_enter Tryz.func29, Tryz.ntmps29
  go_upto_region 1 with fail
  generalize hW : (w.alloc (.cells #[.slice o.A o.name.length o.c, .int .i64 o.h.typ, .int .i64 o.h.knd, .int .i64 o.h.rank, .int .i64 o.h.got, .int .i64 o.h.ttl, .slice o.sA o.sp.length o.sc, .slice o.zA o.zone.length o.zc, .slice o.d.Ab o.soa.bytes.length o.d.cb, .slice o.d.Ah o.soa.host.length o.d.ch, .slice o.d.Am o.soa.mail.length o.d.cm, .slice o.d.An o.soa.nums.length o.d.cn, .slice o.d.At o.soa.texts.length o.d.ct] 36)).alloc (.cells #[.slice x.A x.name.length x.c, .int .i64 x.h.typ, .int .i64 x.h.knd, .int .i64 x.h.rank, .int .i64 x.h.got, .int .i64 x.h.ttl, .slice x.sA x.sp.length x.sc, .slice x.zA x.zone.length x.zc, .slice x.d.Ab x.soa.bytes.length x.d.cb, .slice x.d.Ah x.soa.host.length x.d.ch, .slice x.d.Am x.soa.mail.length x.d.cm, .slice x.d.An x.soa.nums.length x.d.cn, .slice x.d.At x.soa.texts.length x.d.ct] 36) = w1 at HB ⊢
  clear hW
  have HB0 := Lib.hid (HB.out.step (Below.refl _ _).drew)
  generalize keyF x.fact = ky at HKO HKX
  refine wp_region_held_drew (S := fun W => (W.cell? ⟨w.heap.size, 0, none⟩ = some (.slice o.A o.name.length o.c) ∧ W.cell? ⟨w.heap.size, 1, none⟩ = some (.int .i64 o.h.typ) ∧ W.cell? ⟨w.heap.size, 2, none⟩ = some (.int .i64 o.h.knd) ∧ W.cell? ⟨w.heap.size, 3, none⟩ = some (.int .i64 o.h.rank) ∧ W.cell? ⟨w.heap.size, 4, none⟩ = some (.int .i64 o.h.got) ∧ W.cell? ⟨w.heap.size, 5, none⟩ = some (.int .i64 o.h.ttl) ∧ W.cell? ⟨w.heap.size, 6, none⟩ = some (.slice o.sA o.sp.length o.sc) ∧ W.cell? ⟨w.heap.size, 7, none⟩ = some (.slice o.zA o.zone.length o.zc) ∧ W.cell? ⟨w.heap.size, 8, none⟩ = some (.slice o.d.Ab o.soa.bytes.length o.d.cb) ∧ W.cell? ⟨w.heap.size, 9, none⟩ = some (.slice o.d.Ah o.soa.host.length o.d.ch) ∧ W.cell? ⟨w.heap.size, 10, none⟩ = some (.slice o.d.Am o.soa.mail.length o.d.cm) ∧ W.cell? ⟨w.heap.size, 11, none⟩ = some (.slice o.d.An o.soa.nums.length o.d.cn) ∧ W.cell? ⟨w.heap.size, 12, none⟩ = some (.slice o.d.At o.soa.texts.length o.d.ct) ∧ W.cell? ⟨(w.heap.size + 1), 0, none⟩ = some (.slice x.A x.name.length x.c) ∧ W.cell? ⟨(w.heap.size + 1), 1, none⟩ = some (.int .i64 x.h.typ) ∧ W.cell? ⟨(w.heap.size + 1), 2, none⟩ = some (.int .i64 x.h.knd) ∧ W.cell? ⟨(w.heap.size + 1), 3, none⟩ = some (.int .i64 x.h.rank) ∧ W.cell? ⟨(w.heap.size + 1), 4, none⟩ = some (.int .i64 x.h.got) ∧ W.cell? ⟨(w.heap.size + 1), 5, none⟩ = some (.int .i64 x.h.ttl) ∧ W.cell? ⟨(w.heap.size + 1), 6, none⟩ = some (.slice x.sA x.sp.length x.sc) ∧ W.cell? ⟨(w.heap.size + 1), 7, none⟩ = some (.slice x.zA x.zone.length x.zc) ∧ W.cell? ⟨(w.heap.size + 1), 8, none⟩ = some (.slice x.d.Ab x.soa.bytes.length x.d.cb) ∧ W.cell? ⟨(w.heap.size + 1), 9, none⟩ = some (.slice x.d.Ah x.soa.host.length x.d.ch) ∧ W.cell? ⟨(w.heap.size + 1), 10, none⟩ = some (.slice x.d.Am x.soa.mail.length x.d.cm) ∧ W.cell? ⟨(w.heap.size + 1), 11, none⟩ = some (.slice x.d.An x.soa.nums.length x.d.cn) ∧ W.cell? ⟨(w.heap.size + 1), 12, none⟩ = some (.slice x.d.At x.soa.texts.length x.d.ct))) (by kernel_rfl) (by exact HC.out _ HB0.out) (fun hHeld => ?_)
  refine wpAnyH_take (i := 0) (oi := ⟨some 7, _, _, _, _, _⟩) (v := ?_) rfl (by kernel_rfl) (by kernel_rfl) (by kernel_rfl) (fun _ _ _ h => h) (Or.inl ⟨by kernel_rfl, ?_⟩) (by assumption) ?_
  rotate_left
  · intro W hSw
    try dsimp only at hSw
    go_simp
    all_goals (with_reducible rfl)
  try simp only [Act.put, List.setIfInBounds_toArray, List.set_cons_zero, List.set_cons_succ]
  refine wpAnyH_ready (rs := [1]) (by kernel_rfl) (by simp) ?_
  refine AllReadyH.cons (o := ⟨some 8, _, _, _, _, _⟩) rfl (fun K hK => ?_) AllReadyH.nil
  go_simp
  refine (HSO.out _ HB0.out).mono ?_
  rintro e w2 ⟨rfl, hb⟩
  have HB2 := Lib.hid (HB0.out.step hb)
  clear hb
  refine hK.out _ _ (by exact HC.out _ HB2.out) (fun hHeld2 => ?_)
  clear hK K hHeld
  have hHeld := hHeld2
  clear hHeld2
  try simp only [Act.put, List.setIfInBounds_toArray, List.set_cons_zero, List.set_cons_succ]
  refine wpAnyH_take (i := 2) (oi := ⟨some 9, _, _, _, _, _⟩) (v := ?_) rfl (by kernel_rfl) (by kernel_rfl) (by kernel_rfl) (fun _ _ _ h => h) (Or.inl ⟨by kernel_rfl, ?_⟩) (by assumption) ?_
  rotate_left
  · intro W hSw
    try dsimp only at hSw
    go_simp
    all_goals (with_reducible rfl)
  try simp only [Act.put, List.setIfInBounds_toArray, List.set_cons_zero, List.set_cons_succ]
  refine wpAnyH_take (i := 3) (oi := ⟨some 10, _, _, _, _, _⟩) (v := ?_) rfl (by kernel_rfl) (by kernel_rfl) (by kernel_rfl) (fun _ _ _ h => h) (Or.inl ⟨by kernel_rfl, ?_⟩) (by assumption) ?_
  rotate_left
  · intro W hSw
    try dsimp only at hSw
    go_simp
    all_goals (with_reducible rfl)
  try simp only [Act.put, List.setIfInBounds_toArray, List.set_cons_zero, List.set_cons_succ]
  refine wpAnyH_take (i := 4) (oi := ⟨some 11, _, _, _, _, _⟩) (v := ?_) rfl (by kernel_rfl) (by kernel_rfl) (by kernel_rfl) (fun _ _ _ h => h) (Or.inl ⟨by kernel_rfl, ?_⟩) (by assumption) ?_
  rotate_left
  · intro W hSw
    try dsimp only at hSw
    go_simp
    all_goals (with_reducible rfl)
  try simp only [Act.put, List.setIfInBounds_toArray, List.set_cons_zero, List.set_cons_succ]
  refine wpAnyH_ready (rs := [5]) (by kernel_rfl) (by simp) ?_
  refine AllReadyH.cons (o := ⟨some 12, _, _, _, _, _⟩) rfl (fun K hK => ?_) AllReadyH.nil
  go_simp
  refine (HSX.out _ HB2.out).mono ?_
  rintro e w3 ⟨rfl, hb⟩
  have HB3 := Lib.hid (HB2.out.step hb)
  clear hb
  refine hK.out _ _ (by exact HC.out _ HB3.out) (fun hHeld2 => ?_)
  clear hK K hHeld
  have hHeld := hHeld2
  clear hHeld2
  try simp only [Act.put, List.setIfInBounds_toArray, List.set_cons_zero, List.set_cons_succ]
  refine wpAnyH_take (i := 6) (oi := ⟨some 13, _, _, _, _, _⟩) (v := ?_) rfl (by kernel_rfl) (by kernel_rfl) (by kernel_rfl) (fun _ _ _ h => h) (Or.inl ⟨by kernel_rfl, ?_⟩) (by assumption) ?_
  rotate_left
  · intro W hSw
    try dsimp only at hSw
    go_simp
    all_goals (with_reducible rfl)
  try simp only [Act.put, List.setIfInBounds_toArray, List.set_cons_zero, List.set_cons_succ]
  refine wpAnyH_take (i := 7) (oi := ⟨some 14, _, _, _, _, _⟩) (v := ?_) rfl (by kernel_rfl) (by kernel_rfl) (by kernel_rfl) (fun _ _ _ h => h) (Or.inl ⟨by kernel_rfl, ?_⟩) (by assumption) ?_
  rotate_left
  · intro W hSw
    try dsimp only at hSw
    go_simp
    all_goals (with_reducible rfl)
  try simp only [Act.put, List.setIfInBounds_toArray, List.set_cons_zero, List.set_cons_succ]
  refine wpAnyH_take (i := 8) (oi := ⟨some 15, _, _, _, _, _⟩) (v := ?_) rfl (by kernel_rfl) (by kernel_rfl) (by kernel_rfl) (fun _ _ _ h => h) (Or.inl ⟨by kernel_rfl, ?_⟩) (by assumption) ?_
  rotate_left
  · intro W hSw
    try dsimp only at hSw
    go_simp
    all_goals (with_reducible rfl)
  try simp only [Act.put, List.setIfInBounds_toArray, List.set_cons_zero, List.set_cons_succ]
  refine wpAnyH_take (i := 9) (oi := ⟨some 16, _, _, _, _, _⟩) (v := ?_) rfl (by kernel_rfl) (by kernel_rfl) (by kernel_rfl) (fun _ _ _ h => h) (Or.inl ⟨by kernel_rfl, ?_⟩) (by assumption) ?_
  rotate_left
  · intro W hSw
    try dsimp only at hSw
    go_simp
    all_goals (with_reducible rfl)
  try simp only [Act.put, List.setIfInBounds_toArray, List.set_cons_zero, List.set_cons_succ]
  refine wpAnyH_take (i := 11) (oi := ⟨some 18, _, _, _, _, _⟩) (v := ?_) rfl (by kernel_rfl) (by kernel_rfl) (by kernel_rfl) (fun _ _ _ h => h) (Or.inl ⟨by kernel_rfl, ?_⟩) (by assumption) ?_
  rotate_left
  · intro W hSw
    try dsimp only at hSw
    go_simp
    all_goals (with_reducible rfl)
  try simp only [Act.put, List.setIfInBounds_toArray, List.set_cons_zero, List.set_cons_succ]
  refine wpAnyH_ready (rs := [10]) (by kernel_rfl) (by simp) ?_
  refine AllReadyH.cons (o := ⟨some 17, _, _, _, _, _⟩) rfl (fun K hK => ?_) AllReadyH.nil
  go_simp
  refine (HKO.out _ HB3.out).mono ?_
  rintro e w4 ⟨rfl, hb⟩
  have HB4 := Lib.hid (HB3.out.step hb)
  clear hb
  refine hK.out _ _ (by exact HC.out _ HB4.out) (fun hHeld2 => ?_)
  clear hK K hHeld
  have hHeld := hHeld2
  clear hHeld2
  try simp only [Act.put, List.setIfInBounds_toArray, List.set_cons_zero, List.set_cons_succ]
  refine wpAnyH_ready (rs := [12]) (by kernel_rfl) (by simp) ?_
  refine AllReadyH.cons (o := ⟨some 19, _, _, _, _, _⟩) rfl (fun K hK => ?_) AllReadyH.nil
  go_simp
  refine (HKX.out _ HB4.out).mono ?_
  rintro e w5 ⟨rfl, hb⟩
  have HB5 := Lib.hid (HB4.out.step hb)
  clear hb
  refine hK.out _ _ (by exact HC.out _ HB5.out) (fun hHeld2 => ?_)
  clear hK K hHeld
  have hHeld := hHeld2
  clear hHeld2
  try simp only [Act.put, List.setIfInBounds_toArray, List.set_cons_zero, List.set_cons_succ]
  refine wpAnyH_take (i := 13) (oi := ⟨some 20, _, _, _, _, _⟩) (v := ?_) rfl (by kernel_rfl) (by kernel_rfl) (by kernel_rfl) (fun _ _ _ h => h) (Or.inl ⟨by kernel_rfl, ?_⟩) (by assumption) ?_
  rotate_left
  · intro W hSw
    try dsimp only at hSw
    go_simp
    all_goals (with_reducible rfl)
  try simp only [Act.put, List.setIfInBounds_toArray, List.set_cons_zero, List.set_cons_succ]
  refine wpAnyH_take (i := 14) (oi := ⟨some 21, _, _, _, _, _⟩) (v := ?_) rfl (by kernel_rfl) (by kernel_rfl) (by kernel_rfl) (fun _ _ _ h => h) (Or.inl ⟨by kernel_rfl, ?_⟩) (by assumption) ?_
  rotate_left
  · intro W hSw
    try dsimp only at hSw
    go_simp
    all_goals (with_reducible rfl)
  try simp only [Act.put, List.setIfInBounds_toArray, List.set_cons_zero, List.set_cons_succ]
  refine wpAnyH_take (i := 15) (oi := ⟨some 22, _, _, _, _, _⟩) (v := ?_) rfl (by kernel_rfl) (by kernel_rfl) (by kernel_rfl) (fun _ _ _ h => h) (Or.inl ⟨by kernel_rfl, ?_⟩) (by assumption) ?_
  rotate_left
  · intro W hSw
    try dsimp only at hSw
    go_simp
    all_goals (with_reducible rfl)
  try simp only [Act.put, List.setIfInBounds_toArray, List.set_cons_zero, List.set_cons_succ]
  refine wpAnyH_take (i := 16) (oi := ⟨some 23, _, _, _, _, _⟩) (v := ?_) rfl (by kernel_rfl) (by kernel_rfl) (by kernel_rfl) (fun _ _ _ h => h) (Or.inl ⟨by kernel_rfl, ?_⟩) (by assumption) ?_
  rotate_left
  · intro W hSw
    try dsimp only at hSw
    go_simp
    all_goals (with_reducible rfl)
  try simp only [Act.put, List.setIfInBounds_toArray, List.set_cons_zero, List.set_cons_succ]
  refine wpAnyH_ready (rs := [17]) (by kernel_rfl) (by simp) ?_
  refine AllReadyH.cons (o := ⟨some 24, _, _, _, _, _⟩) rfl (fun K hK => ?_) AllReadyH.nil
  go_simp
  refine (HTM.out _).mono ?_
  rintro e wx ⟨rfl, rfl⟩
  refine hK.out _ _ (by exact hHeld) (fun hHeld2 => ?_)
  clear hK K hHeld
  have hHeld := hHeld2
  clear hHeld2
  try simp only [Act.put, List.setIfInBounds_toArray, List.set_cons_zero, List.set_cons_succ]
  refine wpAnyH_take (i := 18) (oi := ⟨some 25, _, _, _, _, _⟩) (v := ?_) rfl (by kernel_rfl) (by kernel_rfl) (by kernel_rfl) (fun _ _ _ h => h) (Or.inl ⟨by kernel_rfl, ?_⟩) (by assumption) ?_
  rotate_left
  · intro W hSw
    try dsimp only at hSw
    go_simp
    all_goals (with_reducible rfl)
  try simp only [Act.put, List.setIfInBounds_toArray, List.set_cons_zero, List.set_cons_succ]
  refine wpAnyH_take (i := 19) (oi := ⟨some 26, _, _, _, _, _⟩) (v := ?_) rfl (by kernel_rfl) (by kernel_rfl) (by kernel_rfl) (fun _ _ _ h => h) (Or.inl ⟨by kernel_rfl, ?_⟩) (by assumption) ?_
  rotate_left
  · intro W hSw
    try dsimp only at hSw
    go_simp
    all_goals (with_reducible rfl)
  try simp only [Act.put, List.setIfInBounds_toArray, List.set_cons_zero, List.set_cons_succ]
  refine wpAnyH_done (by kernel_rfl) ?_ _
  have r0 : w5.cell? ⟨w.heap.size + 1, 3, none⟩ = some (.int .i64 x.h.rank) := HB5.out.b.cell 3
  have r1 : w5.cell? ⟨w.heap.size, 3, none⟩ = some (.int .i64 o.h.rank) := HB5.out.a.cell 3
  have r2 : w5.cell? ⟨w.heap.size, 4, none⟩ = some (.int .i64 o.h.got) := HB5.out.a.cell 4
  have r3 : w5.cell? ⟨w.heap.size, 5, none⟩ = some (.int .i64 o.h.ttl) := HB5.out.a.cell 5
  cases hr : decide (o.h.rank ≤ x.h.rank) with
  | true =>
    rw [hr] at HV
    go_wp2
    go_ret
    exact ⟨by rw [HV.out]; rfl, HB5.out.below⟩
  | false =>
    rw [hr] at HV
    go_wp2_with fail
    refine (HFR.out _).mono ?_
    rintro e w6 ⟨rfl, hb⟩
    have HB6 := Lib.hid (HB5.out.step hb)
    clear hb
    go_wp2
    go_ret
    exact ⟨by rw [HV.out]; simp, HB6.out.below⟩

set_option maxRecDepth 8000 in
set_option maxHeartbeats 1000000 in
/-- takes, of a cache. -/
theorem takes_any {w : World} {b cb mb most uses : Nat} {window : Int} {its : List Im} (h : CMem w b cb mb most window uses its) (hm : 1 ≤ most) (x : FV) (hx : FAt w w.heap.size x) (hi : FIn x) (hf : FewF x) :
    Calls Tryz.prog 28 #[.pointer (some ⟨cb, 0, none⟩), x.val] w (Gave w (.bool (soundF x.fact))) := by
  have HB := Lib.hid (FBox.made w x)
  have HS := Lib.hid (fun W (hb : FBox w x W) => fsound_real W x ((hx.below hb.below).mono hb.below.size) hi (fewF_sz hf))
  have c0 : w.cell? ⟨cb, 0, none⟩ = some (.int .i64 most) := h.blk.cell 0
  have hlt := h.blk.lt
  have t : decide ((0 : Int) < (most : Int)) = true := decide_eq_true (by omega)
  have t2 : decide (0 < most) = true := decide_eq_true (by omega)
  have hm2 : 0 < most := hm
  have HC := Lib.hid (show ∀ W, FBox w x W → W.cell? ⟨cb, 0, none⟩ = some (.int .i64 most) from fun W hb => (hb.below.cell (p := ⟨cb, 0, none⟩) hlt).trans c0)
  clear h hx hi hf hm
  go_enter Tryz.func28, Tryz.ntmps28
  go_upto_region 1 with fail
  generalize hW : w.alloc _ = w1 at HB ⊢
  clear hW
  have c0 := HC.out _ HB.out
  have b0 : w1.cell? ⟨w.heap.size, 0, none⟩ = some (.slice x.A x.name.length x.c) := HB.out.f.cell 0
  have b1 : w1.cell? ⟨w.heap.size, 1, none⟩ = some (.int .i64 x.h.typ) := HB.out.f.cell 1
  have b2 : w1.cell? ⟨w.heap.size, 2, none⟩ = some (.int .i64 x.h.knd) := HB.out.f.cell 2
  have b3 : w1.cell? ⟨w.heap.size, 3, none⟩ = some (.int .i64 x.h.rank) := HB.out.f.cell 3
  have b4 : w1.cell? ⟨w.heap.size, 4, none⟩ = some (.int .i64 x.h.got) := HB.out.f.cell 4
  have b5 : w1.cell? ⟨w.heap.size, 5, none⟩ = some (.int .i64 x.h.ttl) := HB.out.f.cell 5
  have b6 : w1.cell? ⟨w.heap.size, 6, none⟩ = some (.slice x.sA x.sp.length x.sc) := HB.out.f.cell 6
  have b7 : w1.cell? ⟨w.heap.size, 7, none⟩ = some (.slice x.zA x.zone.length x.zc) := HB.out.f.cell 7
  have b8 : w1.cell? ⟨w.heap.size, 8, none⟩ = some (.slice x.d.Ab x.soa.bytes.length x.d.cb) := HB.out.f.cell 8
  have b9 : w1.cell? ⟨w.heap.size, 9, none⟩ = some (.slice x.d.Ah x.soa.host.length x.d.ch) := HB.out.f.cell 9
  have b10 : w1.cell? ⟨w.heap.size, 10, none⟩ = some (.slice x.d.Am x.soa.mail.length x.d.cm) := HB.out.f.cell 10
  have b11 : w1.cell? ⟨w.heap.size, 11, none⟩ = some (.slice x.d.An x.soa.nums.length x.d.cn) := HB.out.f.cell 11
  have b12 : w1.cell? ⟨w.heap.size, 12, none⟩ = some (.slice x.d.At x.soa.texts.length x.d.ct) := HB.out.f.cell 12
  go_wp2_with fail
  refine (HS.out _ HB.out).mono ?_
  rintro e w2 ⟨rfl, hb2⟩
  have HB2 := Lib.hid (HB.out.below.trans (hb2.mono HB.out.below.size))
  clear hb2
  go_wp2
  go_ret
  exact ⟨by simp, HB2.out⟩

end Go.Proofs.YtmbcbfalgdgmjaaGreatDoor

namespace Go.Proofs.YtmbcbfalgdgmjaaGreatDoor
open Go.RowKit

theorem MovedC.after {F F' : Nat → Prop} {w W w' : World} (hb : Below w.heap.size w W) (h : MovedC F W w' F') : MovedC F w w' F' :=
  ⟨(Grew.all hb).trans h.1 fun _ hj => .inl hj, fun j hj => (h.2 j hj).imp id fun h1 => Nat.le_trans hb.size h1⟩
theorem MovedC.still {F : Nat → Prop} {w w' : World} (hb : Below w.heap.size w w') : MovedC F w w' F := ⟨Grew.all hb, fun _ hj => .inl hj⟩
theorem Laid.after {w W w' : World} {b cb mb most uses : Nat} {window : Int} {its : List Im} {f : Fc} (hb : Below w.heap.size w W) (h : Laid W b cb mb most window uses its f w') : Laid w b cb mb most window uses its f w' := by
  obtain ⟨i, h1, h2, h3⟩ := h
  exact ⟨i, h1, h2, h3.after hb⟩
/-- Is a fact put? -/
def putIt (its : List Im) (n : List (List UInt8)) (h : Fh) (s : Bool) (now : Int) : Bool := s && (timeB now && (match atI its n h.typ with | none => true | some i => beatsB i.x.h h now))
def PutOut (w : World) (b cb mb most : Nat) (window : Int) (uses : Nat) (its : List Im) (f : Fc) (pb : Bool) (w' : World) : Prop := (pb = false ∧ Below w.heap.size w w') ∨ (pb = true ∧ Laid w b cb mb most window uses its f w')

set_option maxRecDepth 20000 in
set_option maxHeartbeats 8000000 in
theorem put_mem {w : World} {b cb mb most uses : Nat} {window : Int} {its : List Im} (h : CMem w b cb mb most window uses its) (hul : uses ≤ 1000000) (hm1 : 1 ≤ most) (hm2 : most ≤ 4096) (hil : its.length ≤ 4096) (x : FV) (now : Int) (hx : FAt w w.heap.size x) (hi : FIn x) (hf : FewF x) :
    Calls Tryz.prog 11 #[.pointer (some ⟨cb, 0, none⟩), x.val, .int .i64 now] w (fun e w' => ∃ pb, e = .returned (.bool pb) ∧ pb = putIt its x.name x.h (soundF x.fact) now ∧ PutOut w b cb mb most window uses its x.fact pb w') := by
  have HB := Lib.hid (FBox.made w x)
  have HM := Lib.hid (fun W (hb : Below w.heap.size w W) => h.step hb)
  have HX := Lib.hid (fun W (hb : Below w.heap.size w W) => (hx.below hb).mono hb.size)
  have HTK := Lib.hid (fun W (hb : Below w.heap.size w W) => takes_any (h.step hb) hm1 x ((hx.below hb).mono hb.size) hi hf)
  have HTM := Lib.hid (fun W => ctime_any now W)
  have HAT := Lib.hid (fun W (hb : Below w.heap.size w W) => at_any (h.step hb) x.A x.c x.name x.h.typ (((hx.below hb).mono hb.size).n) hi.n hf.n hi.h.t)
  have HLY := Lib.hid (fun W (hb : Below w.heap.size w W) (hs : soundF x.fact = true) => lay_any (h.step hb) hul hm2 hil x ((hx.below hb).mono hb.size) hs)
  have HMI := Lib.hid (show ∀ i : Im, atI its x.name x.h.typ = some i → i ∈ its ∧ i.key = keyF x.fact from fun i e => by unfold atI at e; split at e; exact findI_mem e; cases e)
  have HBT := Lib.hid (fun W (hb : Below w.heap.size w W) (hs : soundF x.fact = true) (ht : timeB now = true) (i : Im) (hii : i ∈ its) (hk : i.key = keyF x.fact) => beats_any W i.x x now (((h.step hb).own i hii).at_) ((hx.below hb).mono hb.size) (h.snd i hii) hs hk ht ((h.step hb).pows.mono (h.step hb).low))
  have HV := Lib.hid (show putIt its x.name x.h (soundF x.fact) now = (soundF x.fact && (timeB now && (match atI its x.name x.h.typ with | none => true | some i => beatsB i.x.h x.h now))) from rfl)
  clear h hx hi hf
  generalize putIt its x.name x.h (soundF x.fact) now = pb at HV ⊢
  go_enter Tryz.func11, Tryz.ntmps11
  go_upto_region 1 with fail
  generalize hW : w.alloc (.cells #[.slice x.A x.name.length x.c, .int .i64 x.h.typ, .int .i64 x.h.knd, .int .i64 x.h.rank, .int .i64 x.h.got, .int .i64 x.h.ttl, .slice x.sA x.sp.length x.sc, .slice x.zA x.zone.length x.zc, .slice x.d.Ab x.soa.bytes.length x.d.cb, .slice x.d.Ah x.soa.host.length x.d.ch, .slice x.d.Am x.soa.mail.length x.d.cm, .slice x.d.An x.soa.nums.length x.d.cn, .slice x.d.At x.soa.texts.length x.d.ct] 36) = w1 at HB ⊢
  clear hW
  have b0 : w1.cell? ⟨w.heap.size, 0, none⟩ = some (.slice x.A x.name.length x.c) := HB.out.f.cell 0
  have b1 : w1.cell? ⟨w.heap.size, 1, none⟩ = some (.int .i64 x.h.typ) := HB.out.f.cell 1
  have b2 : w1.cell? ⟨w.heap.size, 2, none⟩ = some (.int .i64 x.h.knd) := HB.out.f.cell 2
  have b3 : w1.cell? ⟨w.heap.size, 3, none⟩ = some (.int .i64 x.h.rank) := HB.out.f.cell 3
  have b4 : w1.cell? ⟨w.heap.size, 4, none⟩ = some (.int .i64 x.h.got) := HB.out.f.cell 4
  have b5 : w1.cell? ⟨w.heap.size, 5, none⟩ = some (.int .i64 x.h.ttl) := HB.out.f.cell 5
  have b6 : w1.cell? ⟨w.heap.size, 6, none⟩ = some (.slice x.sA x.sp.length x.sc) := HB.out.f.cell 6
  have b7 : w1.cell? ⟨w.heap.size, 7, none⟩ = some (.slice x.zA x.zone.length x.zc) := HB.out.f.cell 7
  have b8 : w1.cell? ⟨w.heap.size, 8, none⟩ = some (.slice x.d.Ab x.soa.bytes.length x.d.cb) := HB.out.f.cell 8
  have b9 : w1.cell? ⟨w.heap.size, 9, none⟩ = some (.slice x.d.Ah x.soa.host.length x.d.ch) := HB.out.f.cell 9
  have b10 : w1.cell? ⟨w.heap.size, 10, none⟩ = some (.slice x.d.Am x.soa.mail.length x.d.cm) := HB.out.f.cell 10
  have b11 : w1.cell? ⟨w.heap.size, 11, none⟩ = some (.slice x.d.An x.soa.nums.length x.d.cn) := HB.out.f.cell 11
  have b12 : w1.cell? ⟨w.heap.size, 12, none⟩ = some (.slice x.d.At x.soa.texts.length x.d.ct) := HB.out.f.cell 12
  go_wp2_with fail
  refine (HTK.out _ HB.out.below).mono ?_
  rintro e w2 ⟨rfl, hb2⟩
  have HB2 := Lib.hid (HB.out.step hb2)
  clear hb2 b0 b1 b2 b3 b4 b5 b6 b7 b8 b9 b10 b11 b12
  cases hs : soundF x.fact with
  | false =>
    rw [hs] at HV
    have HV2 := Lib.hid (show pb = false from HV.out)
    clear HV hs
    go_wp2
    go_ret
    exact ⟨pb, by rw [HV2.out]; rfl, rfl, .inl ⟨HV2.out, HB2.out.below⟩⟩
  | true =>
  rw [hs] at HV
  have HS := Lib.hid hs
  clear hs
  go_wp2_with fail
  refine (HTM.out _).mono ?_
  rintro e wx ⟨rfl, rfl⟩
  cases ht : timeB now with
  | false =>
    rw [ht] at HV
    have HV2 := Lib.hid (show pb = false from HV.out)
    clear HV ht
    go_wp2
    go_ret
    exact ⟨pb, by rw [HV2.out]; rfl, rfl, .inl ⟨HV2.out, HB2.out.below⟩⟩
  | true =>
  rw [ht] at HV
  have HT := Lib.hid ht
  have HV2 := Lib.hid (show pb = (match atI its x.name x.h.typ with | none => true | some i => beatsB i.x.h x.h now) from HV.out)
  clear HV ht
  have d0 : w2.cell? ⟨w.heap.size, 0, none⟩ = some (.slice x.A x.name.length x.c) := HB2.out.f.cell 0
  have d1 : w2.cell? ⟨w.heap.size, 1, none⟩ = some (.int .i64 x.h.typ) := HB2.out.f.cell 1
  revert HAT HMI HV2
  generalize atI its x.name x.h.typ = o
  intro HAT HMI HV2
  go_wp2_with fail
  refine (HAT.out _ HB2.out.below).mono ?_
  rintro e w3 ⟨rfl, hb3⟩
  have HB3 := Lib.hid (HB2.out.step hb3)
  clear hb3 d0 d1
  cases o with
  | none =>
    have HV3 := Lib.hid (show pb = true from HV2.out)
    have e0 : itv none = Value.pointer none := rfl
    rw [e0]
    go_upto_region 4 with fail
    refine wp_region_held_drew (S := fun _ => True) (by kernel_rfl) (by trivial) (fun hHeld => ?_)
    refine wpAnyH_take (i := 0) (oi := ⟨some 23, _, _, _, _, _⟩) (v := ?_) rfl (by kernel_rfl) (by kernel_rfl) (by kernel_rfl) (fun _ _ _ h => h) (Or.inl ⟨by kernel_rfl, ?_⟩) (by assumption) ?_
    rotate_left
    · intro W hSw
      try dsimp only at hSw
      go_simp
      all_goals (with_reducible rfl)
    try simp only [Act.put, List.setIfInBounds_toArray, List.set_cons_zero, List.set_cons_succ]
    refine wpAnyH_take (i := 1) (oi := ⟨some 24, _, _, _, _, _⟩) (v := ?_) rfl (by kernel_rfl) (by kernel_rfl) (by kernel_rfl) (fun _ _ _ h => h) (Or.inl ⟨by kernel_rfl, ?_⟩) (by assumption) ?_
    rotate_left
    · intro W hSw
      try dsimp only at hSw
      go_simp
      all_goals (with_reducible rfl)
    try simp only [Act.put, List.setIfInBounds_toArray, List.set_cons_zero, List.set_cons_succ]
    refine wpAnyH_take (i := 2) (oi := ⟨some 25, _, _, _, _, _⟩) (v := ?_) rfl (by kernel_rfl) (by kernel_rfl) (by kernel_rfl) (fun _ _ _ h => h) (Or.inl ⟨by kernel_rfl, ?_⟩) (by assumption) ?_
    rotate_left
    · intro W hSw
      try dsimp only at hSw
      go_simp
      all_goals (with_reducible rfl)
    try simp only [Act.put, List.setIfInBounds_toArray, List.set_cons_zero, List.set_cons_succ]
    refine wpAnyH_take (i := 3) (oi := ⟨some 26, _, _, _, _, _⟩) rfl (by kernel_rfl) (by kernel_rfl) (by kernel_rfl) (fun _ _ _ h => h) (Or.inr ⟨by kernel_rfl, rfl⟩) (by assumption) ?_
    try simp only [Act.put, List.setIfInBounds_toArray, List.set_cons_zero, List.set_cons_succ]
    refine wpAnyH_take (i := 4) (oi := ⟨some 27, _, _, _, _, _⟩) rfl (by kernel_rfl) (by kernel_rfl) (by kernel_rfl) (fun _ _ _ h => h) (Or.inr ⟨by kernel_rfl, rfl⟩) (by assumption) ?_
    try simp only [Act.put, List.setIfInBounds_toArray, List.set_cons_zero, List.set_cons_succ]
    refine wpAnyH_take (i := 5) (oi := ⟨some 28, _, _, _, _, _⟩) rfl (by kernel_rfl) (by kernel_rfl) (by kernel_rfl) (fun _ _ _ h => h) (Or.inr ⟨by kernel_rfl, rfl⟩) (by assumption) ?_
    try simp only [Act.put, List.setIfInBounds_toArray, List.set_cons_zero, List.set_cons_succ]
    refine wpAnyH_take (i := 6) (oi := ⟨some 29, _, _, _, _, _⟩) rfl (by kernel_rfl) (by kernel_rfl) (by kernel_rfl) (fun _ _ _ h => h) (Or.inr ⟨by kernel_rfl, rfl⟩) (by assumption) ?_
    try simp only [Act.put, List.setIfInBounds_toArray, List.set_cons_zero, List.set_cons_succ]
    refine wpAnyH_take (i := 7) (oi := ⟨some 30, _, _, _, _, _⟩) rfl (by kernel_rfl) (by kernel_rfl) (by kernel_rfl) (fun _ _ _ h => h) (Or.inr ⟨by kernel_rfl, rfl⟩) (by assumption) ?_
    try simp only [Act.put, List.setIfInBounds_toArray, List.set_cons_zero, List.set_cons_succ]
    refine wpAnyH_take (i := 8) (oi := ⟨some 31, _, _, _, _, _⟩) rfl (by kernel_rfl) (by kernel_rfl) (by kernel_rfl) (fun _ _ _ h => h) (Or.inr ⟨by kernel_rfl, rfl⟩) (by assumption) ?_
    try simp only [Act.put, List.setIfInBounds_toArray, List.set_cons_zero, List.set_cons_succ]
    refine wpAnyH_take (i := 9) (oi := ⟨some 32, _, _, _, _, _⟩) rfl (by kernel_rfl) (by kernel_rfl) (by kernel_rfl) (fun _ _ _ h => h) (Or.inr ⟨by kernel_rfl, rfl⟩) (by assumption) ?_
    try simp only [Act.put, List.setIfInBounds_toArray, List.set_cons_zero, List.set_cons_succ]
    refine wpAnyH_take (i := 10) (oi := ⟨some 33, _, _, _, _, _⟩) rfl (by kernel_rfl) (by kernel_rfl) (by kernel_rfl) (fun _ _ _ h => h) (Or.inr ⟨by kernel_rfl, rfl⟩) (by assumption) ?_
    try simp only [Act.put, List.setIfInBounds_toArray, List.set_cons_zero, List.set_cons_succ]
    refine wpAnyH_take (i := 11) (oi := ⟨some 34, _, _, _, _, _⟩) (v := ?_) rfl (by kernel_rfl) (by kernel_rfl) (by kernel_rfl) (fun _ _ _ h => h) (Or.inl ⟨by kernel_rfl, ?_⟩) (by assumption) ?_
    rotate_left
    · intro W hSw
      try dsimp only at hSw
      go_simp
      all_goals (with_reducible rfl)
    try simp only [Act.put, List.setIfInBounds_toArray, List.set_cons_zero, List.set_cons_succ]
    refine wpAnyH_done (by kernel_rfl) ?_ _
    have HB4 := Lib.hid (HB3.out.step (Below.refl _ _).drew)
    have b0 : w3.drew.cell? ⟨w.heap.size, 0, none⟩ = some (.slice x.A x.name.length x.c) := HB4.out.f.cell 0
    have b1 : w3.drew.cell? ⟨w.heap.size, 1, none⟩ = some (.int .i64 x.h.typ) := HB4.out.f.cell 1
    have b2 : w3.drew.cell? ⟨w.heap.size, 2, none⟩ = some (.int .i64 x.h.knd) := HB4.out.f.cell 2
    have b3 : w3.drew.cell? ⟨w.heap.size, 3, none⟩ = some (.int .i64 x.h.rank) := HB4.out.f.cell 3
    have b4 : w3.drew.cell? ⟨w.heap.size, 4, none⟩ = some (.int .i64 x.h.got) := HB4.out.f.cell 4
    have b5 : w3.drew.cell? ⟨w.heap.size, 5, none⟩ = some (.int .i64 x.h.ttl) := HB4.out.f.cell 5
    have b6 : w3.drew.cell? ⟨w.heap.size, 6, none⟩ = some (.slice x.sA x.sp.length x.sc) := HB4.out.f.cell 6
    have b7 : w3.drew.cell? ⟨w.heap.size, 7, none⟩ = some (.slice x.zA x.zone.length x.zc) := HB4.out.f.cell 7
    have b8 : w3.drew.cell? ⟨w.heap.size, 8, none⟩ = some (.slice x.d.Ab x.soa.bytes.length x.d.cb) := HB4.out.f.cell 8
    have b9 : w3.drew.cell? ⟨w.heap.size, 9, none⟩ = some (.slice x.d.Ah x.soa.host.length x.d.ch) := HB4.out.f.cell 9
    have b10 : w3.drew.cell? ⟨w.heap.size, 10, none⟩ = some (.slice x.d.Am x.soa.mail.length x.d.cm) := HB4.out.f.cell 10
    have b11 : w3.drew.cell? ⟨w.heap.size, 11, none⟩ = some (.slice x.d.An x.soa.nums.length x.d.cn) := HB4.out.f.cell 11
    have b12 : w3.drew.cell? ⟨w.heap.size, 12, none⟩ = some (.slice x.d.At x.soa.texts.length x.d.ct) := HB4.out.f.cell 12
    go_wp2_with fail
    refine (HLY.out _ HB4.out.below HS.out).mono ?_
    rintro e w5 ⟨rfl, hl⟩
    go_wp2
    go_ret
    exact ⟨pb, by rw [HV3.out]; rfl, rfl, .inr ⟨HV3.out, hl.after HB4.out.below⟩⟩
  | some i =>
    have HV3 := Lib.hid (show pb = beatsB i.x.h x.h now from HV2.out)
    obtain ⟨him, hik⟩ := HMI.out i rfl
    have HIM := Lib.hid him
    have HBI := Lib.hid (fun W (hb : Below w.heap.size w W) => HBT.out W hb HS.out HT.out i him hik)
    have HSS := Lib.hid (show ∀ W, FBox w x W → (W.cell? ⟨i.g, 0, none⟩ = some (.slice i.x.A i.x.name.length i.x.c) ∧ W.cell? ⟨i.g, 1, none⟩ = some (.int .i64 i.x.h.typ) ∧ W.cell? ⟨i.g, 2, none⟩ = some (.int .i64 i.x.h.knd) ∧ W.cell? ⟨i.g, 3, none⟩ = some (.int .i64 i.x.h.rank) ∧ W.cell? ⟨i.g, 4, none⟩ = some (.int .i64 i.x.h.got) ∧ W.cell? ⟨i.g, 5, none⟩ = some (.int .i64 i.x.h.ttl) ∧ W.cell? ⟨i.g, 6, none⟩ = some (.slice i.x.sA i.x.sp.length i.x.sc) ∧ W.cell? ⟨i.g, 7, none⟩ = some (.slice i.x.zA i.x.zone.length i.x.zc) ∧ W.cell? ⟨i.g, 8, none⟩ = some (.slice i.x.d.Ab i.x.soa.bytes.length i.x.d.cb) ∧ W.cell? ⟨i.g, 9, none⟩ = some (.slice i.x.d.Ah i.x.soa.host.length i.x.d.ch) ∧ W.cell? ⟨i.g, 10, none⟩ = some (.slice i.x.d.Am i.x.soa.mail.length i.x.d.cm) ∧ W.cell? ⟨i.g, 11, none⟩ = some (.slice i.x.d.An i.x.soa.nums.length i.x.d.cn) ∧ W.cell? ⟨i.g, 12, none⟩ = some (.slice i.x.d.At i.x.soa.texts.length i.x.d.ct) ∧ W.cell? ⟨w.heap.size, 0, none⟩ = some (.slice x.A x.name.length x.c) ∧ W.cell? ⟨w.heap.size, 1, none⟩ = some (.int .i64 x.h.typ) ∧ W.cell? ⟨w.heap.size, 2, none⟩ = some (.int .i64 x.h.knd) ∧ W.cell? ⟨w.heap.size, 3, none⟩ = some (.int .i64 x.h.rank) ∧ W.cell? ⟨w.heap.size, 4, none⟩ = some (.int .i64 x.h.got) ∧ W.cell? ⟨w.heap.size, 5, none⟩ = some (.int .i64 x.h.ttl) ∧ W.cell? ⟨w.heap.size, 6, none⟩ = some (.slice x.sA x.sp.length x.sc) ∧ W.cell? ⟨w.heap.size, 7, none⟩ = some (.slice x.zA x.zone.length x.zc) ∧ W.cell? ⟨w.heap.size, 8, none⟩ = some (.slice x.d.Ab x.soa.bytes.length x.d.cb) ∧ W.cell? ⟨w.heap.size, 9, none⟩ = some (.slice x.d.Ah x.soa.host.length x.d.ch) ∧ W.cell? ⟨w.heap.size, 10, none⟩ = some (.slice x.d.Am x.soa.mail.length x.d.cm) ∧ W.cell? ⟨w.heap.size, 11, none⟩ = some (.slice x.d.An x.soa.nums.length x.d.cn) ∧ W.cell? ⟨w.heap.size, 12, none⟩ = some (.slice x.d.At x.soa.texts.length x.d.ct)) from fun W hb => have hi := (HM.out W hb.below).item i HIM.out; ⟨hi.cell 0, hi.cell 1, hi.cell 2, hi.cell 3, hi.cell 4, hi.cell 5, hi.cell 6, hi.cell 7, hi.cell 8, hi.cell 9, hi.cell 10, hi.cell 11, hi.cell 12, hb.f.cell 0, hb.f.cell 1, hb.f.cell 2, hb.f.cell 3, hb.f.cell 4, hb.f.cell 5, hb.f.cell 6, hb.f.cell 7, hb.f.cell 8, hb.f.cell 9, hb.f.cell 10, hb.f.cell 11, hb.f.cell 12⟩)
    clear him hik
    have e0 : itv (some i) = Value.pointer (some ⟨i.g, 0, none⟩) := rfl
    rw [e0]
    go_upto_region 4 with fail
    have HB4 := Lib.hid (HB3.out.step (Below.refl _ _).drew)
    refine wp_region_held_drew (S := fun W => (W.cell? ⟨i.g, 0, none⟩ = some (.slice i.x.A i.x.name.length i.x.c) ∧ W.cell? ⟨i.g, 1, none⟩ = some (.int .i64 i.x.h.typ) ∧ W.cell? ⟨i.g, 2, none⟩ = some (.int .i64 i.x.h.knd) ∧ W.cell? ⟨i.g, 3, none⟩ = some (.int .i64 i.x.h.rank) ∧ W.cell? ⟨i.g, 4, none⟩ = some (.int .i64 i.x.h.got) ∧ W.cell? ⟨i.g, 5, none⟩ = some (.int .i64 i.x.h.ttl) ∧ W.cell? ⟨i.g, 6, none⟩ = some (.slice i.x.sA i.x.sp.length i.x.sc) ∧ W.cell? ⟨i.g, 7, none⟩ = some (.slice i.x.zA i.x.zone.length i.x.zc) ∧ W.cell? ⟨i.g, 8, none⟩ = some (.slice i.x.d.Ab i.x.soa.bytes.length i.x.d.cb) ∧ W.cell? ⟨i.g, 9, none⟩ = some (.slice i.x.d.Ah i.x.soa.host.length i.x.d.ch) ∧ W.cell? ⟨i.g, 10, none⟩ = some (.slice i.x.d.Am i.x.soa.mail.length i.x.d.cm) ∧ W.cell? ⟨i.g, 11, none⟩ = some (.slice i.x.d.An i.x.soa.nums.length i.x.d.cn) ∧ W.cell? ⟨i.g, 12, none⟩ = some (.slice i.x.d.At i.x.soa.texts.length i.x.d.ct) ∧ W.cell? ⟨w.heap.size, 0, none⟩ = some (.slice x.A x.name.length x.c) ∧ W.cell? ⟨w.heap.size, 1, none⟩ = some (.int .i64 x.h.typ) ∧ W.cell? ⟨w.heap.size, 2, none⟩ = some (.int .i64 x.h.knd) ∧ W.cell? ⟨w.heap.size, 3, none⟩ = some (.int .i64 x.h.rank) ∧ W.cell? ⟨w.heap.size, 4, none⟩ = some (.int .i64 x.h.got) ∧ W.cell? ⟨w.heap.size, 5, none⟩ = some (.int .i64 x.h.ttl) ∧ W.cell? ⟨w.heap.size, 6, none⟩ = some (.slice x.sA x.sp.length x.sc) ∧ W.cell? ⟨w.heap.size, 7, none⟩ = some (.slice x.zA x.zone.length x.zc) ∧ W.cell? ⟨w.heap.size, 8, none⟩ = some (.slice x.d.Ab x.soa.bytes.length x.d.cb) ∧ W.cell? ⟨w.heap.size, 9, none⟩ = some (.slice x.d.Ah x.soa.host.length x.d.ch) ∧ W.cell? ⟨w.heap.size, 10, none⟩ = some (.slice x.d.Am x.soa.mail.length x.d.cm) ∧ W.cell? ⟨w.heap.size, 11, none⟩ = some (.slice x.d.An x.soa.nums.length x.d.cn) ∧ W.cell? ⟨w.heap.size, 12, none⟩ = some (.slice x.d.At x.soa.texts.length x.d.ct))) (by kernel_rfl) (by exact HSS.out _ HB4.out) (fun hHeld => ?_)
    refine wpAnyH_take (i := 0) (oi := ⟨some 23, _, _, _, _, _⟩) (v := ?_) rfl (by kernel_rfl) (by kernel_rfl) (by kernel_rfl) (fun _ _ _ h => h) (Or.inl ⟨by kernel_rfl, ?_⟩) (by assumption) ?_
    rotate_left
    · intro W hSw
      try dsimp only at hSw
      go_simp
      all_goals (with_reducible rfl)
    try simp only [Act.put, List.setIfInBounds_toArray, List.set_cons_zero, List.set_cons_succ]
    refine wpAnyH_take (i := 1) (oi := ⟨some 24, _, _, _, _, _⟩) (v := ?_) rfl (by kernel_rfl) (by kernel_rfl) (by kernel_rfl) (fun _ _ _ h => h) (Or.inl ⟨by kernel_rfl, ?_⟩) (by assumption) ?_
    rotate_left
    · intro W hSw
      try dsimp only at hSw
      go_simp
      all_goals (with_reducible rfl)
    try simp only [Act.put, List.setIfInBounds_toArray, List.set_cons_zero, List.set_cons_succ]
    refine wpAnyH_take (i := 2) (oi := ⟨some 25, _, _, _, _, _⟩) (v := ?_) rfl (by kernel_rfl) (by kernel_rfl) (by kernel_rfl) (fun _ _ _ h => h) (Or.inl ⟨by kernel_rfl, ?_⟩) (by assumption) ?_
    rotate_left
    · intro W hSw
      try dsimp only at hSw
      go_simp
      all_goals (with_reducible rfl)
    try simp only [Act.put, List.setIfInBounds_toArray, List.set_cons_zero, List.set_cons_succ]
    refine wpAnyH_take (i := 3) (oi := ⟨some 26, _, _, _, _, _⟩) (v := ?_) rfl (by kernel_rfl) (by kernel_rfl) (by kernel_rfl) (fun _ _ _ h => h) (Or.inl ⟨by kernel_rfl, ?_⟩) (by assumption) ?_
    rotate_left
    · intro W hSw
      try dsimp only at hSw
      go_simp
      all_goals (with_reducible rfl)
    try simp only [Act.put, List.setIfInBounds_toArray, List.set_cons_zero, List.set_cons_succ]
    refine wpAnyH_take (i := 4) (oi := ⟨some 27, _, _, _, _, _⟩) (v := ?_) rfl (by kernel_rfl) (by kernel_rfl) (by kernel_rfl) (fun _ _ _ h => h) (Or.inl ⟨by kernel_rfl, ?_⟩) (by assumption) ?_
    rotate_left
    · intro W hSw
      try dsimp only at hSw
      go_simp
      all_goals (with_reducible rfl)
    try simp only [Act.put, List.setIfInBounds_toArray, List.set_cons_zero, List.set_cons_succ]
    refine wpAnyH_take (i := 5) (oi := ⟨some 28, _, _, _, _, _⟩) (v := ?_) rfl (by kernel_rfl) (by kernel_rfl) (by kernel_rfl) (fun _ _ _ h => h) (Or.inl ⟨by kernel_rfl, ?_⟩) (by assumption) ?_
    rotate_left
    · intro W hSw
      try dsimp only at hSw
      go_simp
      all_goals (with_reducible rfl)
    try simp only [Act.put, List.setIfInBounds_toArray, List.set_cons_zero, List.set_cons_succ]
    refine wpAnyH_take (i := 6) (oi := ⟨some 29, _, _, _, _, _⟩) (v := ?_) rfl (by kernel_rfl) (by kernel_rfl) (by kernel_rfl) (fun _ _ _ h => h) (Or.inl ⟨by kernel_rfl, ?_⟩) (by assumption) ?_
    rotate_left
    · intro W hSw
      try dsimp only at hSw
      go_simp
      all_goals (with_reducible rfl)
    try simp only [Act.put, List.setIfInBounds_toArray, List.set_cons_zero, List.set_cons_succ]
    refine wpAnyH_take (i := 7) (oi := ⟨some 30, _, _, _, _, _⟩) (v := ?_) rfl (by kernel_rfl) (by kernel_rfl) (by kernel_rfl) (fun _ _ _ h => h) (Or.inl ⟨by kernel_rfl, ?_⟩) (by assumption) ?_
    rotate_left
    · intro W hSw
      try dsimp only at hSw
      go_simp
      all_goals (with_reducible rfl)
    try simp only [Act.put, List.setIfInBounds_toArray, List.set_cons_zero, List.set_cons_succ]
    refine wpAnyH_take (i := 8) (oi := ⟨some 31, _, _, _, _, _⟩) (v := ?_) rfl (by kernel_rfl) (by kernel_rfl) (by kernel_rfl) (fun _ _ _ h => h) (Or.inl ⟨by kernel_rfl, ?_⟩) (by assumption) ?_
    rotate_left
    · intro W hSw
      try dsimp only at hSw
      go_simp
      all_goals (with_reducible rfl)
    try simp only [Act.put, List.setIfInBounds_toArray, List.set_cons_zero, List.set_cons_succ]
    refine wpAnyH_ready (rs := [9]) (by kernel_rfl) (by simp) ?_
    refine AllReadyH.cons (o := ⟨some 32, _, _, _, _, _⟩) rfl (fun K hK => ?_) AllReadyH.nil
    go_simp
    refine (HBI.out _ HB4.out.below).mono ?_
    rintro e w5 ⟨rfl, hb5⟩
    have HB5 := Lib.hid (HB4.out.step hb5)
    clear hb5
    refine hK.out _ _ (by exact HSS.out _ HB5.out) (fun hHeld2 => ?_)
    clear hK K hHeld
    have hHeld := hHeld2
    clear hHeld2
    try simp only [Act.put, List.setIfInBounds_toArray, List.set_cons_zero, List.set_cons_succ]
    refine wpAnyH_take (i := 10) (oi := ⟨some 33, _, _, _, _, _⟩) (v := ?_) rfl (by kernel_rfl) (by kernel_rfl) (by kernel_rfl) (fun _ _ _ h => h) (Or.inl ⟨by kernel_rfl, ?_⟩) (by assumption) ?_
    rotate_left
    · intro W hSw
      try dsimp only at hSw
      go_simp
      all_goals (with_reducible rfl)
    try simp only [Act.put, List.setIfInBounds_toArray, List.set_cons_zero, List.set_cons_succ]
    refine wpAnyH_take (i := 11) (oi := ⟨some 34, _, _, _, _, _⟩) (v := ?_) rfl (by kernel_rfl) (by kernel_rfl) (by kernel_rfl) (fun _ _ _ h => h) (Or.inl ⟨by kernel_rfl, ?_⟩) (by assumption) ?_
    rotate_left
    · intro W hSw
      try dsimp only at hSw
      go_simp
      all_goals (with_reducible rfl)
    try simp only [Act.put, List.setIfInBounds_toArray, List.set_cons_zero, List.set_cons_succ]
    refine wpAnyH_done (by kernel_rfl) ?_ _
    cases hbb : beatsB i.x.h x.h now with
    | false =>
      rw [hbb] at HV3
      go_wp2
      go_ret
      exact ⟨pb, by rw [HV3.out]; rfl, rfl, .inl ⟨HV3.out, HB5.out.below⟩⟩
    | true =>
      rw [hbb] at HV3
      have b0 : w5.cell? ⟨w.heap.size, 0, none⟩ = some (.slice x.A x.name.length x.c) := HB5.out.f.cell 0
      have b1 : w5.cell? ⟨w.heap.size, 1, none⟩ = some (.int .i64 x.h.typ) := HB5.out.f.cell 1
      have b2 : w5.cell? ⟨w.heap.size, 2, none⟩ = some (.int .i64 x.h.knd) := HB5.out.f.cell 2
      have b3 : w5.cell? ⟨w.heap.size, 3, none⟩ = some (.int .i64 x.h.rank) := HB5.out.f.cell 3
      have b4 : w5.cell? ⟨w.heap.size, 4, none⟩ = some (.int .i64 x.h.got) := HB5.out.f.cell 4
      have b5 : w5.cell? ⟨w.heap.size, 5, none⟩ = some (.int .i64 x.h.ttl) := HB5.out.f.cell 5
      have b6 : w5.cell? ⟨w.heap.size, 6, none⟩ = some (.slice x.sA x.sp.length x.sc) := HB5.out.f.cell 6
      have b7 : w5.cell? ⟨w.heap.size, 7, none⟩ = some (.slice x.zA x.zone.length x.zc) := HB5.out.f.cell 7
      have b8 : w5.cell? ⟨w.heap.size, 8, none⟩ = some (.slice x.d.Ab x.soa.bytes.length x.d.cb) := HB5.out.f.cell 8
      have b9 : w5.cell? ⟨w.heap.size, 9, none⟩ = some (.slice x.d.Ah x.soa.host.length x.d.ch) := HB5.out.f.cell 9
      have b10 : w5.cell? ⟨w.heap.size, 10, none⟩ = some (.slice x.d.Am x.soa.mail.length x.d.cm) := HB5.out.f.cell 10
      have b11 : w5.cell? ⟨w.heap.size, 11, none⟩ = some (.slice x.d.An x.soa.nums.length x.d.cn) := HB5.out.f.cell 11
      have b12 : w5.cell? ⟨w.heap.size, 12, none⟩ = some (.slice x.d.At x.soa.texts.length x.d.ct) := HB5.out.f.cell 12
      go_wp2_with fail
      refine (HLY.out _ HB5.out.below HS.out).mono ?_
      rintro e w6 ⟨rfl, hl⟩
      go_wp2
      go_ret
      exact ⟨pb, by rw [HV3.out]; rfl, rfl, .inr ⟨HV3.out, hl.after HB5.out.below⟩⟩

set_option maxRecDepth 20000 in
set_option maxHeartbeats 4000000 in
theorem layc_mem {w : World} {b cb mb most uses : Nat} {window : Int} {its : List Im} (h : CMem w b cb mb most window uses its) (hul : uses ≤ 1000000) (hm1 : 1 ≤ most) (hm2 : most ≤ 4096) (hil : its.length ≤ 4096) (x : FV) (hx : FAt w w.heap.size x) (hi : FIn x) (hf : FewF x) :
    Calls Tryz.prog 15 #[.pointer (some ⟨cb, 0, none⟩), x.val] w (fun e w' => ∃ pb, e = .returned (.bool pb) ∧ pb = soundF x.fact ∧ PutOut w b cb mb most window uses its x.fact pb w') := by
  have HB := Lib.hid (FBox.made w x)
  have HTK := Lib.hid (fun W (hb : Below w.heap.size w W) => takes_any (h.step hb) hm1 x ((hx.below hb).mono hb.size) hi hf)
  have HLY := Lib.hid (fun W (hb : Below w.heap.size w W) (hs : soundF x.fact = true) => lay_any (h.step hb) hul hm2 hil x ((hx.below hb).mono hb.size) hs)
  clear h hx hi hf
  go_enter Tryz.func15, Tryz.ntmps15
  go_upto_region 1 with fail
  generalize hW : w.alloc (.cells #[.slice x.A x.name.length x.c, .int .i64 x.h.typ, .int .i64 x.h.knd, .int .i64 x.h.rank, .int .i64 x.h.got, .int .i64 x.h.ttl, .slice x.sA x.sp.length x.sc, .slice x.zA x.zone.length x.zc, .slice x.d.Ab x.soa.bytes.length x.d.cb, .slice x.d.Ah x.soa.host.length x.d.ch, .slice x.d.Am x.soa.mail.length x.d.cm, .slice x.d.An x.soa.nums.length x.d.cn, .slice x.d.At x.soa.texts.length x.d.ct] 36) = w1 at HB ⊢
  clear hW
  have b0 : w1.cell? ⟨w.heap.size, 0, none⟩ = some (.slice x.A x.name.length x.c) := HB.out.f.cell 0
  have b1 : w1.cell? ⟨w.heap.size, 1, none⟩ = some (.int .i64 x.h.typ) := HB.out.f.cell 1
  have b2 : w1.cell? ⟨w.heap.size, 2, none⟩ = some (.int .i64 x.h.knd) := HB.out.f.cell 2
  have b3 : w1.cell? ⟨w.heap.size, 3, none⟩ = some (.int .i64 x.h.rank) := HB.out.f.cell 3
  have b4 : w1.cell? ⟨w.heap.size, 4, none⟩ = some (.int .i64 x.h.got) := HB.out.f.cell 4
  have b5 : w1.cell? ⟨w.heap.size, 5, none⟩ = some (.int .i64 x.h.ttl) := HB.out.f.cell 5
  have b6 : w1.cell? ⟨w.heap.size, 6, none⟩ = some (.slice x.sA x.sp.length x.sc) := HB.out.f.cell 6
  have b7 : w1.cell? ⟨w.heap.size, 7, none⟩ = some (.slice x.zA x.zone.length x.zc) := HB.out.f.cell 7
  have b8 : w1.cell? ⟨w.heap.size, 8, none⟩ = some (.slice x.d.Ab x.soa.bytes.length x.d.cb) := HB.out.f.cell 8
  have b9 : w1.cell? ⟨w.heap.size, 9, none⟩ = some (.slice x.d.Ah x.soa.host.length x.d.ch) := HB.out.f.cell 9
  have b10 : w1.cell? ⟨w.heap.size, 10, none⟩ = some (.slice x.d.Am x.soa.mail.length x.d.cm) := HB.out.f.cell 10
  have b11 : w1.cell? ⟨w.heap.size, 11, none⟩ = some (.slice x.d.An x.soa.nums.length x.d.cn) := HB.out.f.cell 11
  have b12 : w1.cell? ⟨w.heap.size, 12, none⟩ = some (.slice x.d.At x.soa.texts.length x.d.ct) := HB.out.f.cell 12
  go_wp2_with fail
  refine (HTK.out _ HB.out.below).mono ?_
  rintro e w2 ⟨rfl, hb2⟩
  have HB2 := Lib.hid (HB.out.step hb2)
  clear hb2 b0 b1 b2 b3 b4 b5 b6 b7 b8 b9 b10 b11 b12
  cases hs : soundF x.fact with
  | false =>
    go_wp2
    go_ret
    exact ⟨false, rfl, hs.symm, .inl ⟨rfl, HB2.out.below⟩⟩
  | true =>
  have HS := Lib.hid hs
  clear hs
  have b0 : w2.cell? ⟨w.heap.size, 0, none⟩ = some (.slice x.A x.name.length x.c) := HB2.out.f.cell 0
  have b1 : w2.cell? ⟨w.heap.size, 1, none⟩ = some (.int .i64 x.h.typ) := HB2.out.f.cell 1
  have b2 : w2.cell? ⟨w.heap.size, 2, none⟩ = some (.int .i64 x.h.knd) := HB2.out.f.cell 2
  have b3 : w2.cell? ⟨w.heap.size, 3, none⟩ = some (.int .i64 x.h.rank) := HB2.out.f.cell 3
  have b4 : w2.cell? ⟨w.heap.size, 4, none⟩ = some (.int .i64 x.h.got) := HB2.out.f.cell 4
  have b5 : w2.cell? ⟨w.heap.size, 5, none⟩ = some (.int .i64 x.h.ttl) := HB2.out.f.cell 5
  have b6 : w2.cell? ⟨w.heap.size, 6, none⟩ = some (.slice x.sA x.sp.length x.sc) := HB2.out.f.cell 6
  have b7 : w2.cell? ⟨w.heap.size, 7, none⟩ = some (.slice x.zA x.zone.length x.zc) := HB2.out.f.cell 7
  have b8 : w2.cell? ⟨w.heap.size, 8, none⟩ = some (.slice x.d.Ab x.soa.bytes.length x.d.cb) := HB2.out.f.cell 8
  have b9 : w2.cell? ⟨w.heap.size, 9, none⟩ = some (.slice x.d.Ah x.soa.host.length x.d.ch) := HB2.out.f.cell 9
  have b10 : w2.cell? ⟨w.heap.size, 10, none⟩ = some (.slice x.d.Am x.soa.mail.length x.d.cm) := HB2.out.f.cell 10
  have b11 : w2.cell? ⟨w.heap.size, 11, none⟩ = some (.slice x.d.An x.soa.nums.length x.d.cn) := HB2.out.f.cell 11
  have b12 : w2.cell? ⟨w.heap.size, 12, none⟩ = some (.slice x.d.At x.soa.texts.length x.d.ct) := HB2.out.f.cell 12
  go_wp2_with fail
  refine (HLY.out _ HB2.out.below HS.out).mono ?_
  rintro e w5 ⟨rfl, hl⟩
  go_wp2
  go_ret
  exact ⟨true, rfl, HS.out.symm, .inr ⟨rfl, hl.after HB2.out.below⟩⟩

set_option maxRecDepth 8000 in
set_option maxHeartbeats 1000000 in
theorem new_mem (w : World) (most window : Int) (h1 : 1 ≤ most) (h2 : most ≤ 4096) (ht : timeB window = true) (hp : PowsAt w.heap.size w) :
    Calls Tryz.prog 7 #[.int .i64 most, .int .i64 window] w (fun e w' => ∃ cb mb, e = .returned (.tuple #[.pointer (some ⟨cb, 0, none⟩), .int .i64 0]) ∧ CMem w' w.heap.size cb mb most.toNat window 0 [] ∧ Below w.heap.size w w') := by
  have HTM := Lib.hid (show ∀ W, Calls Tryz.prog 25 #[.int .i64 window] W (Told W (.bool true)) from fun W => ht ▸ ctime_any window W)
  have d1 : decide (most < 1) = false := decide_eq_false (by omega)
  have d2 : decide (4096 < most) = false := decide_eq_false (by omega)
  have HP := Lib.hid hp
  have hmm := @run_makeMap Tryz.prog
  clear ht hp
  go_enter Tryz.func7, Tryz.ntmps7
  go_wp2_with fail
  refine (HTM.out _).mono ?_
  rintro e w1 ⟨rfl, rfl⟩
  go_wp2
  have hb : Below w.heap.size w ((w.alloc (.map #[] 0)).alloc (.cells #[.int .i64 most, .int .i64 window, .int .i64 0, .map (some w.heap.size)] 57)) := ((Below.refl _ _).alloc (Nat.le_refl _) _).alloc (by simp) _
  have hw := Whole.made (w.alloc (.map #[] 0)) [.int .i64 most, .int .i64 window, .int .i64 0, .map (some w.heap.size)] 57
  have ho := (World.ownsMap_made (H := Unit) w Tryz.prog 9 ptrE).alloc (.cells #[.int .i64 most, .int .i64 window, .int .i64 0, .map (some w.heap.size)] 57)
  refine ⟨rfl, .tuple #[.pointer (some ⟨w.heap.size + 1, 0, none⟩), .int .i64 0], by simp [results, Tryz.results7, go_sem], w.heap.size + 1, w.heap.size, rfl, ⟨by omega, Nat.le_refl _, ?_, ⟨.map [], ho, ⟨Maps.tidy_empty, fun l => rfl, fun i hi => absurd hi List.not_mem_nil, rfl⟩⟩, fun i hi => absurd hi List.not_mem_nil, fun i hi => absurd hi List.not_mem_nil, fun i hi => absurd hi List.not_mem_nil,
    List.Pairwise.nil, fun i hi => absurd hi List.not_mem_nil, List.Pairwise.nil, fun i hi => absurd hi List.not_mem_nil, HP.out.next hb⟩, hb⟩
  rw [show ((most.toNat : Nat) : Int) = most by omega]
  simpa using hw

set_option maxRecDepth 8000 in
set_option maxHeartbeats 1000000 in
theorem len_mem {w : World} {b cb mb most uses : Nat} {window : Int} {its : List Im} (h : CMem w b cb mb most window uses its) :
    Calls Tryz.prog 19 #[.pointer (some ⟨cb, 0, none⟩)] w (Gave w (.int .i64 (its.length : Nat))) := by
  obtain ⟨D, hD, hh⟩ := h.map
  have hs := hh.size
  have c3 : w.cell? ⟨cb, 3, none⟩ = some (.map (some mb)) := h.blk.cell 3
  have HD := Lib.hid hD
  have HS := Lib.hid hs
  clear h hh hs hD
  go_enter Tryz.func19, Tryz.ntmps19
  go_wp2_with (
    at_len
    refine wpList_len_own _ rfl _ 55 rfl 9 58 Tryz.underlying55 ptrE mb its.length D rfl HD.out ?_
    rw [HS.out])
  go_ret
  exact ⟨rfl, Below.refl _ _⟩

end Go.Proofs.YtmbcbfalgdgmjaaGreatDoor

namespace Go.Proofs.YtmbcbfalgdgmjaaGreatDoor
open Go.RowKit

/-- What is told of an item, or of none. -/
def ToldI (w : World) (o : Option Im) (v : Value) (w' : World) : Prop := ∃ x : FV, v = .tuple #[x.val, .bool o.isSome] ∧ FOwn w' w.heap.size x ∧ (∀ i, o = some i → x.fact = i.x.fact) ∧ (o = none → x = zeroF)
theorem zero_set (w w' : World) : ToldI w none (.tuple #[zeroF.val, .bool false]) w' := ⟨zeroF, rfl, zeroF_own _ _, fun i e => (by cases e), fun _ => rfl⟩

set_option maxRecDepth 20000 in
set_option maxHeartbeats 4000000 in
theorem look_mem {w : World} {b cb mb most uses : Nat} {window : Int} {its : List Im} (h : CMem w b cb mb most window uses its) (A : Option Addr) (c : Nat) (n : List (List UInt8)) (k : Int) (hn : Row w w.heap.size A (n.map sv)) (hw : WideN n) (hl : n.length ≤ 300) (hk : (Lit.int .i64 k).wf = true) :
    Calls Tryz.prog 10 #[.pointer (some ⟨cb, 0, none⟩), .slice A n.length c, .int .i64 k] w (fun e w' => ∃ v, e = .returned v ∧ ToldI w (atI its n k) v w' ∧ Below w.heap.size w w') := by
  have HZ := Lib.hid (Whole.made w zeroL 36)
  have HB0 := Lib.hid ((Below.refl w.heap.size w).alloc (Nat.le_refl _) (.cells #[.slice none 0 0, .int .i64 0, .int .i64 0, .int .i64 0, .int .i64 0, .int .i64 0, .slice none 0 0, .slice none 0 0, .slice none 0 0, .slice none 0 0, .slice none 0 0, .slice none 0 0, .slice none 0 0] 36))
  have HAT := Lib.hid (fun W (hb : Below w.heap.size w W) => at_any (h.step hb) A c n k ((hn.below hb).mono hb.size) hw hl hk)
  have HM := Lib.hid (fun W (hb : Below w.heap.size w W) => h.step hb)
  have HMI := Lib.hid (show ∀ i : Im, atI its n k = some i → i ∈ its from fun i e => by unfold atI at e; split at e; exact (findI_mem e).1; cases e)
  clear h hn hw hk
  generalize atI its n k = o at HAT HMI ⊢
  go_enter Tryz.func10, Tryz.ntmps10
  go_upto_region 1 with fail
  generalize hW : w.alloc (.cells #[.slice none 0 0, .int .i64 0, .int .i64 0, .int .i64 0, .int .i64 0, .int .i64 0, .slice none 0 0, .slice none 0 0, .slice none 0 0, .slice none 0 0, .slice none 0 0, .slice none 0 0, .slice none 0 0] 36) = w1 at HB0 ⊢
  have HZ1 := Lib.hid (show Whole w1 w.heap.size 36 zeroL from by rw [← hW]; exact HZ.out)
  clear hW HZ
  go_wp2_with fail
  refine (HAT.out _ HB0.out).mono ?_
  rintro e w2 ⟨rfl, hb2⟩
  have HB2 := Lib.hid (HB0.out.trans (hb2.mono HB0.out.size))
  have HZ2 := Lib.hid (HZ1.out.below hb2 HZ1.out.lt)
  clear hb2 HZ1
  cases o with
  | none =>
    have e0 : itv none = Value.pointer none := rfl
    rw [e0]
    go_wp2_with (first
    | (refine wpList_store_at rfl 36 (.tmp 6) (.tmp 18) rfl w.heap.size 0 (cellsF zeroF) rfl rfl 36 _ HZ2.out (Nat.le_refl 13) fact_size (fun u hu => cellsF_one [zeroF] u (by simpa using hu)) ?_
       intro w9 hV hG hZ
       have HV9 := Lib.hid (show Whole w9 w.heap.size 36 (cellsF zeroF) from hV)
       have HB9 := Lib.hid (show Below w.heap.size w w9 from HB2.out.trans (Grew.below hG (fun j hj => by rw [hj]; exact Nat.le_refl _) HB2.out.size))
       clear hV hG hZ))
    refine ⟨rfl, .tuple #[zeroF.val, .bool false], ?_, _, rfl, zero_set w w9, HB9.out⟩
    have v0 : w9.cell? ⟨w.heap.size, 0, none⟩ = some (.slice zeroF.A zeroF.name.length zeroF.c) := HV9.out.cell 0
    have v1 : w9.cell? ⟨w.heap.size, 1, none⟩ = some (.int .i64 zeroF.h.typ) := HV9.out.cell 1
    have v2 : w9.cell? ⟨w.heap.size, 2, none⟩ = some (.int .i64 zeroF.h.knd) := HV9.out.cell 2
    have v3 : w9.cell? ⟨w.heap.size, 3, none⟩ = some (.int .i64 zeroF.h.rank) := HV9.out.cell 3
    have v4 : w9.cell? ⟨w.heap.size, 4, none⟩ = some (.int .i64 zeroF.h.got) := HV9.out.cell 4
    have v5 : w9.cell? ⟨w.heap.size, 5, none⟩ = some (.int .i64 zeroF.h.ttl) := HV9.out.cell 5
    have v6 : w9.cell? ⟨w.heap.size, 6, none⟩ = some (.slice zeroF.sA zeroF.sp.length zeroF.sc) := HV9.out.cell 6
    have v7 : w9.cell? ⟨w.heap.size, 7, none⟩ = some (.slice zeroF.zA zeroF.zone.length zeroF.zc) := HV9.out.cell 7
    have v8 : w9.cell? ⟨w.heap.size, 8, none⟩ = some (.slice zeroF.d.Ab zeroF.soa.bytes.length zeroF.d.cb) := HV9.out.cell 8
    have v9 : w9.cell? ⟨w.heap.size, 9, none⟩ = some (.slice zeroF.d.Ah zeroF.soa.host.length zeroF.d.ch) := HV9.out.cell 9
    have v10 : w9.cell? ⟨w.heap.size, 10, none⟩ = some (.slice zeroF.d.Am zeroF.soa.mail.length zeroF.d.cm) := HV9.out.cell 10
    have v11 : w9.cell? ⟨w.heap.size, 11, none⟩ = some (.slice zeroF.d.An zeroF.soa.nums.length zeroF.d.cn) := HV9.out.cell 11
    have v12 : w9.cell? ⟨w.heap.size, 12, none⟩ = some (.slice zeroF.d.At zeroF.soa.texts.length zeroF.d.ct) := HV9.out.cell 12
    simp [results, Tryz.results10, go_sem, v0, v1, v2, v3, v4, v5, v6, v7, v8, v9, v10, v11, v12]

  | some i =>
    have e0 : itv (some i) = Value.pointer (some ⟨i.g, 0, none⟩) := rfl
    rw [e0]
    have HI := Lib.hid (HMI.out i rfl)
    have hit := (HM.out _ HB2.out).item i HI.out
    have q0 : w2.cell? ⟨i.g, 0, none⟩ = some (.slice i.x.A i.x.name.length i.x.c) := hit.cell 0
    have q1 : w2.cell? ⟨i.g, 1, none⟩ = some (.int .i64 i.x.h.typ) := hit.cell 1
    have q2 : w2.cell? ⟨i.g, 2, none⟩ = some (.int .i64 i.x.h.knd) := hit.cell 2
    have q3 : w2.cell? ⟨i.g, 3, none⟩ = some (.int .i64 i.x.h.rank) := hit.cell 3
    have q4 : w2.cell? ⟨i.g, 4, none⟩ = some (.int .i64 i.x.h.got) := hit.cell 4
    have q5 : w2.cell? ⟨i.g, 5, none⟩ = some (.int .i64 i.x.h.ttl) := hit.cell 5
    have q6 : w2.cell? ⟨i.g, 6, none⟩ = some (.slice i.x.sA i.x.sp.length i.x.sc) := hit.cell 6
    have q7 : w2.cell? ⟨i.g, 7, none⟩ = some (.slice i.x.zA i.x.zone.length i.x.zc) := hit.cell 7
    have q8 : w2.cell? ⟨i.g, 8, none⟩ = some (.slice i.x.d.Ab i.x.soa.bytes.length i.x.d.cb) := hit.cell 8
    have q9 : w2.cell? ⟨i.g, 9, none⟩ = some (.slice i.x.d.Ah i.x.soa.host.length i.x.d.ch) := hit.cell 9
    have q10 : w2.cell? ⟨i.g, 10, none⟩ = some (.slice i.x.d.Am i.x.soa.mail.length i.x.d.cm) := hit.cell 10
    have q11 : w2.cell? ⟨i.g, 11, none⟩ = some (.slice i.x.d.An i.x.soa.nums.length i.x.d.cn) := hit.cell 11
    have q12 : w2.cell? ⟨i.g, 12, none⟩ = some (.slice i.x.d.At i.x.soa.texts.length i.x.d.ct) := hit.cell 12
    have HCL := Lib.hid (clone_any w2 i.x ((HM.out _ HB2.out).own _ HI.out).at_ (sound_fewF ((HM.out _ HB2.out).snd i HI.out)))
    clear hit
    go_wp2_with fail
    refine HCL.out.mono ?_
    rintro e w4 ⟨x', rfl, hx', ho, hb4⟩
    have HXE := Lib.hid hx'
    have HO4 := Lib.hid ho
    have HB4 := Lib.hid (HB2.out.trans (hb4.mono HB2.out.size))
    have HZ4 := Lib.hid (HZ2.out.below hb4 HZ2.out.lt)
    have HSZ := Lib.hid (show w.heap.size < w2.heap.size from HZ2.out.lt)
    clear hx' ho hb4 HCL q0 q1 q2 q3 q4 q5 q6 q7 q8 q9 q10 q11 q12
    go_wp2_with (first
    | (refine wpList_store_at rfl 36 (.tmp 6) (.tmp 23) rfl w.heap.size 0 (cellsF x') rfl rfl 36 _ HZ4.out (Nat.le_refl 13) fact_size (fun u hu => cellsF_one [x'] u (by simpa using hu)) ?_
       intro w9 hV hG hZ
       have HV9 := Lib.hid (show Whole w9 w.heap.size 36 (cellsF x') from hV)
       have HB9 := Lib.hid (show Below w.heap.size w w9 from HB4.out.trans (Grew.below hG (fun j hj => by rw [hj]; exact Nat.le_refl _) HB4.out.size))
       have HO9 := Lib.hid (show FOwn w9 w.heap.size x' from (HO4.out.keepB (w' := w9) fun g h1 h2 => hG.block g h2 (by have := HSZ.out; omega)).monoB (Nat.le_of_lt HSZ.out))
       clear hV hG hZ))
    refine ⟨rfl, .tuple #[x'.val, .bool true], ?_, _, rfl, ⟨x', rfl, HO9.out, fun j e => by injection e with e; rw [← e]; exact HXE.out, fun e => (by cases e)⟩, HB9.out⟩
    have v0 : w9.cell? ⟨w.heap.size, 0, none⟩ = some (.slice x'.A x'.name.length x'.c) := HV9.out.cell 0
    have v1 : w9.cell? ⟨w.heap.size, 1, none⟩ = some (.int .i64 x'.h.typ) := HV9.out.cell 1
    have v2 : w9.cell? ⟨w.heap.size, 2, none⟩ = some (.int .i64 x'.h.knd) := HV9.out.cell 2
    have v3 : w9.cell? ⟨w.heap.size, 3, none⟩ = some (.int .i64 x'.h.rank) := HV9.out.cell 3
    have v4 : w9.cell? ⟨w.heap.size, 4, none⟩ = some (.int .i64 x'.h.got) := HV9.out.cell 4
    have v5 : w9.cell? ⟨w.heap.size, 5, none⟩ = some (.int .i64 x'.h.ttl) := HV9.out.cell 5
    have v6 : w9.cell? ⟨w.heap.size, 6, none⟩ = some (.slice x'.sA x'.sp.length x'.sc) := HV9.out.cell 6
    have v7 : w9.cell? ⟨w.heap.size, 7, none⟩ = some (.slice x'.zA x'.zone.length x'.zc) := HV9.out.cell 7
    have v8 : w9.cell? ⟨w.heap.size, 8, none⟩ = some (.slice x'.d.Ab x'.soa.bytes.length x'.d.cb) := HV9.out.cell 8
    have v9 : w9.cell? ⟨w.heap.size, 9, none⟩ = some (.slice x'.d.Ah x'.soa.host.length x'.d.ch) := HV9.out.cell 9
    have v10 : w9.cell? ⟨w.heap.size, 10, none⟩ = some (.slice x'.d.Am x'.soa.mail.length x'.d.cm) := HV9.out.cell 10
    have v11 : w9.cell? ⟨w.heap.size, 11, none⟩ = some (.slice x'.d.An x'.soa.nums.length x'.d.cn) := HV9.out.cell 11
    have v12 : w9.cell? ⟨w.heap.size, 12, none⟩ = some (.slice x'.d.At x'.soa.texts.length x'.d.ct) := HV9.out.cell 12
    clear HO9 HXE
    simp [results, Tryz.results10, go_sem, v0, v1, v2, v3, v4, v5, v6, v7, v8, v9, v10, v11, v12]


/-- What Get leaves. -/
def GotI (w : World) (b cb mb most : Nat) (window : Int) (uses : Nat) (its : List Im) (o : Option Im) (v : Value) (w' : World) : Prop :=
  (o = none ∧ v = .tuple #[zeroF.val, .bool false] ∧ Below w.heap.size w w') ∨ ∃ i x', o = some i ∧ i ∈ its ∧ v = .tuple #[x'.val, .bool true] ∧ x'.fact = i.x.fact ∧ FOwn w' w.heap.size x' ∧ CMem w' b cb mb most window (uses + 1) (useI its i (uses + 1)) ∧ Grew (Foot cb mb its) w w'
theorem pickI_mem {its : List Im} {n : List (List UInt8)} {k : Int} {p : Fc → Bool} {i : Im} (h : pickI its n k p = some i) : i ∈ its := by
  have ha : ∀ j x, atI its n j = some x → x ∈ its := fun j x e => by unfold atI at e; split at e; exact (findI_mem e).1; cases e
  have hf : ∀ j x, (atI its n j).filter (fun i => p i.x.fact) = some x → x ∈ its := fun j x e => by
    rw [Option.filter_eq_some_iff] at e
    exact ha j x e.1
  unfold pickI at h
  split at h
  · split at h
    · rename_i j e
      rw [← Option.some.inj h]
      exact hf _ _ e
    · exact hf _ _ h
  · cases h

set_option maxRecDepth 20000 in
set_option maxHeartbeats 4000000 in
theorem get_mem {w : World} {b cb mb most uses : Nat} {window : Int} {its : List Im} (h : CMem w b cb mb most window uses its) (hul : uses ≤ 1000000) (A : Option Addr) (c : Nat) (n : List (List UInt8)) (k now : Int) (hn : Row w w.heap.size A (n.map sv)) (hw : WideN n) (hl : n.length ≤ 300) (hk : (Lit.int .i64 k).wf = true) :
    Calls Tryz.prog 22 #[.pointer (some ⟨cb, 0, none⟩), .slice A n.length c, .int .i64 k, .int .i64 now] w (fun e w' => ∃ v, e = .returned v ∧ GotI w b cb mb most window uses its (pickI its n k (freshF now)) v w') := by
  have HZ := Lib.hid (Whole.made w zeroL 36)
  have HB0 := Lib.hid ((Below.refl w.heap.size w).alloc (Nat.le_refl _) (.cells #[.slice none 0 0, .int .i64 0, .int .i64 0, .int .i64 0, .int .i64 0, .int .i64 0, .slice none 0 0, .slice none 0 0, .slice none 0 0, .slice none 0 0, .slice none 0 0, .slice none 0 0, .slice none 0 0] 36))
  have HFD := Lib.hid (fun W (hb : Below w.heap.size w W) => find_fresh (h.step hb) A c n k now 0 ((hn.below hb).mono hb.size) hw hl hk)
  have HM := Lib.hid (fun W (hb : Below w.heap.size w W) => h.step hb)
  have HFT := Lib.hid h.foot
  have HLO := Lib.hid h.low
  have HMI := Lib.hid (show ∀ i : Im, pickI its n k (freshF now) = some i → i ∈ its from fun i e => pickI_mem e)
  clear h hn hw hk
  generalize pickI its n k (freshF now) = o at HFD HMI ⊢
  go_enter Tryz.func22, Tryz.ntmps22
  go_upto_region 1 with fail
  generalize hW : w.alloc (.cells #[.slice none 0 0, .int .i64 0, .int .i64 0, .int .i64 0, .int .i64 0, .int .i64 0, .slice none 0 0, .slice none 0 0, .slice none 0 0, .slice none 0 0, .slice none 0 0, .slice none 0 0, .slice none 0 0] 36) = w1 at HB0 ⊢
  have HZ1 := Lib.hid (show Whole w1 w.heap.size 36 zeroL from by rw [← hW]; exact HZ.out)
  clear hW HZ
  go_wp2_with fail
  refine (HFD.out _ HB0.out).mono ?_
  rintro e w2 ⟨rfl, hb2⟩
  have HB2 := Lib.hid (HB0.out.trans (hb2.mono HB0.out.size))
  have HZ2 := Lib.hid (HZ1.out.below hb2 HZ1.out.lt)
  clear hb2 HZ1
  cases o with
  | none =>
    have e0 : itv none = Value.pointer none := rfl
    rw [e0]
    go_wp2_with fail
    refine (tell_none w2 _).mono ?_
    rintro e w5 ⟨rfl, hb5⟩
    have HB5 := Lib.hid (HB2.out.trans (hb5.mono HB2.out.size))
    have HZ5 := Lib.hid (HZ2.out.below hb5 HZ2.out.lt)
    clear hb5
    go_wp2_with (first
      | (refine wpList_store_at rfl 36 (.tmp 8) (.tmp 22) rfl w.heap.size 0 (cellsF zeroF) rfl rfl 36 _ HZ5.out (Nat.le_refl 13) fact_size (fun u hu => cellsF_one [zeroF] u (by simpa using hu)) ?_
         intro w9 hV hG hZ
         have HV9 := Lib.hid (show Whole w9 w.heap.size 36 (cellsF zeroF) from hV)
         have HB9 := Lib.hid (show Below w.heap.size w w9 from HB5.out.trans (Grew.below hG (fun j hj => by rw [hj]; exact Nat.le_refl _) HB5.out.size))
         clear hV hG hZ))
    refine ⟨rfl, .tuple #[zeroF.val, .bool false], ?_, _, rfl, .inl ⟨rfl, rfl, HB9.out⟩⟩
    have v0 : w9.cell? ⟨w.heap.size, 0, none⟩ = some (.slice zeroF.A zeroF.name.length zeroF.c) := HV9.out.cell 0
    have v1 : w9.cell? ⟨w.heap.size, 1, none⟩ = some (.int .i64 zeroF.h.typ) := HV9.out.cell 1
    have v2 : w9.cell? ⟨w.heap.size, 2, none⟩ = some (.int .i64 zeroF.h.knd) := HV9.out.cell 2
    have v3 : w9.cell? ⟨w.heap.size, 3, none⟩ = some (.int .i64 zeroF.h.rank) := HV9.out.cell 3
    have v4 : w9.cell? ⟨w.heap.size, 4, none⟩ = some (.int .i64 zeroF.h.got) := HV9.out.cell 4
    have v5 : w9.cell? ⟨w.heap.size, 5, none⟩ = some (.int .i64 zeroF.h.ttl) := HV9.out.cell 5
    have v6 : w9.cell? ⟨w.heap.size, 6, none⟩ = some (.slice zeroF.sA zeroF.sp.length zeroF.sc) := HV9.out.cell 6
    have v7 : w9.cell? ⟨w.heap.size, 7, none⟩ = some (.slice zeroF.zA zeroF.zone.length zeroF.zc) := HV9.out.cell 7
    have v8 : w9.cell? ⟨w.heap.size, 8, none⟩ = some (.slice zeroF.d.Ab zeroF.soa.bytes.length zeroF.d.cb) := HV9.out.cell 8
    have v9 : w9.cell? ⟨w.heap.size, 9, none⟩ = some (.slice zeroF.d.Ah zeroF.soa.host.length zeroF.d.ch) := HV9.out.cell 9
    have v10 : w9.cell? ⟨w.heap.size, 10, none⟩ = some (.slice zeroF.d.Am zeroF.soa.mail.length zeroF.d.cm) := HV9.out.cell 10
    have v11 : w9.cell? ⟨w.heap.size, 11, none⟩ = some (.slice zeroF.d.An zeroF.soa.nums.length zeroF.d.cn) := HV9.out.cell 11
    have v12 : w9.cell? ⟨w.heap.size, 12, none⟩ = some (.slice zeroF.d.At zeroF.soa.texts.length zeroF.d.ct) := HV9.out.cell 12
    simp [results, Tryz.results22, go_sem, v0, v1, v2, v3, v4, v5, v6, v7, v8, v9, v10, v11, v12]
  | some i =>
    have e0 : itv (some i) = Value.pointer (some ⟨i.g, 0, none⟩) := rfl
    rw [e0]
    have HI := Lib.hid (HMI.out i rfl)
    have HTL := Lib.hid (tell_some (HM.out _ HB2.out) hul i HI.out)
    go_wp2_with fail
    refine HTL.out.mono ?_
    rintro e w5 ⟨x', rfl, hx', ho, hm5, hg5⟩
    have HXE := Lib.hid hx'
    have HO5 := Lib.hid ho
    have HM5 := Lib.hid hm5
    have HG5 := Lib.hid (show Grew (Foot cb mb its) w w5 from (Grew.all HB2.out).trans hg5 fun _ hj => .inl hj)
    have HZ5 := Lib.hid ((hg5.block _ HZ2.out.lt (fun hf => by have h1 := (HFT.out _ hf).2; omega)).trans HZ2.out)
    have HSZ := Lib.hid (show w.heap.size < w2.heap.size from HZ2.out.lt)
    clear hx' ho hm5 hg5 HTL
    go_wp2_with (first
      | (refine wpList_store_at rfl 36 (.tmp 8) (.tmp 22) rfl w.heap.size 0 (cellsF x') rfl rfl 36 _ HZ5.out (Nat.le_refl 13) fact_size (fun u hu => cellsF_one [x'] u (by simpa using hu)) ?_
         intro w9 hV hG hZ
         have HV9 := Lib.hid (show Whole w9 w.heap.size 36 (cellsF x') from hV)
         have HO9 := Lib.hid (show FOwn w9 w.heap.size x' from (HO5.out.keepB (w' := w9) fun g h1 h2 => hG.block g h2 (by have := HSZ.out; omega)).monoB (Nat.le_of_lt HSZ.out))
         have HM9 := Lib.hid (show CMem w9 b cb mb most window (uses + 1) (useI its i (uses + 1)) from HM5.out.keep (Grew.below hG (fun j hj => by rw [hj]; exact HLO.out) HM5.out.low) fun j hj => hG.block j (HM5.out.foot j hj).2 (fun e => by have h1 := (HFT.out j (useI_foot HI.out j hj)).2; omega))
         have HG9 := Lib.hid (show Grew (Foot cb mb its) w w9 from HG5.out.trans hG fun j hj => .inr (by rw [hj]; exact Nat.le_refl _))
         clear hV hG hZ))
    refine ⟨rfl, .tuple #[x'.val, .bool true], ?_, _, rfl, .inr ⟨i, x', rfl, HI.out, rfl, HXE.out, HO9.out, HM9.out, HG9.out⟩⟩
    clear HO9 HM9 HG9 HXE
    have v0 : w9.cell? ⟨w.heap.size, 0, none⟩ = some (.slice x'.A x'.name.length x'.c) := HV9.out.cell 0
    have v1 : w9.cell? ⟨w.heap.size, 1, none⟩ = some (.int .i64 x'.h.typ) := HV9.out.cell 1
    have v2 : w9.cell? ⟨w.heap.size, 2, none⟩ = some (.int .i64 x'.h.knd) := HV9.out.cell 2
    have v3 : w9.cell? ⟨w.heap.size, 3, none⟩ = some (.int .i64 x'.h.rank) := HV9.out.cell 3
    have v4 : w9.cell? ⟨w.heap.size, 4, none⟩ = some (.int .i64 x'.h.got) := HV9.out.cell 4
    have v5 : w9.cell? ⟨w.heap.size, 5, none⟩ = some (.int .i64 x'.h.ttl) := HV9.out.cell 5
    have v6 : w9.cell? ⟨w.heap.size, 6, none⟩ = some (.slice x'.sA x'.sp.length x'.sc) := HV9.out.cell 6
    have v7 : w9.cell? ⟨w.heap.size, 7, none⟩ = some (.slice x'.zA x'.zone.length x'.zc) := HV9.out.cell 7
    have v8 : w9.cell? ⟨w.heap.size, 8, none⟩ = some (.slice x'.d.Ab x'.soa.bytes.length x'.d.cb) := HV9.out.cell 8
    have v9 : w9.cell? ⟨w.heap.size, 9, none⟩ = some (.slice x'.d.Ah x'.soa.host.length x'.d.ch) := HV9.out.cell 9
    have v10 : w9.cell? ⟨w.heap.size, 10, none⟩ = some (.slice x'.d.Am x'.soa.mail.length x'.d.cm) := HV9.out.cell 10
    have v11 : w9.cell? ⟨w.heap.size, 11, none⟩ = some (.slice x'.d.An x'.soa.nums.length x'.d.cn) := HV9.out.cell 11
    have v12 : w9.cell? ⟨w.heap.size, 12, none⟩ = some (.slice x'.d.At x'.soa.texts.length x'.d.ct) := HV9.out.cell 12
    simp [results, Tryz.results22, go_sem, v0, v1, v2, v3, v4, v5, v6, v7, v8, v9, v10, v11, v12]

end Go.Proofs.YtmbcbfalgdgmjaaGreatDoor

namespace Go.Proofs.YtmbcbfalgdgmjaaGreatDoor
open Go.RowKit

theorem typedB_1 : typedB 1 = true := by decide +kernel
theorem one_find (m : Nat) (w : Int) (f : Fc) (n : List (List UInt8)) (k : Int) : Ca.find ⟨m, w, [f]⟩ n k = if keyB n k f = true then some f else none := by
  unfold Ca.find
  rw [List.find?_cons]
  cases keyB n k f <;> rfl
theorem one_pick (m : Nat) (w : Int) (f : Fc) (p : Fc → Bool) (ht : f.h.typ = 1 ∨ f.h.typ = 0) : Ca.pick ⟨m, w, [f]⟩ f.name 1 p = if p f = true then some f else none := by
  unfold Ca.pick
  rw [if_pos typedB_1, one_find, one_find]
  unfold keyB
  rw [eqN_refl]
  rcases ht with ht | ht
  · rw [ht]
    cases hp : p f <;> simp [Option.filter, hp]
  · rw [ht]
    cases hp : p f <;> simp [Option.filter, hp]
theorem one_rest (m : Nat) (w : Int) (f : Fc) : Ca.rest ⟨m, w, [f]⟩ f = [] := by
  unfold Ca.rest
  rw [List.filter_cons, keyB_self]
  rfl
theorem one_use (m : Nat) (w : Int) (f : Fc) (b : Bool) : Ca.use ⟨m, w, [f]⟩ (if b = true then some f else none) = ⟨m, w, [f]⟩ := by
  cases b
  · rfl
  · show (⟨m, w, Ca.rest ⟨m, w, [f]⟩ f ++ [f]⟩ : Ca) = _
    rw [one_rest]
    rfl
theorem one_put (w : Int) (f : Fc) (now : Int) (hs : soundF f = true) (ht : timeB now = true) : Ca.putB ⟨5, w, []⟩ f now = true ∧ Ca.put ⟨5, w, []⟩ f now = ⟨5, w, [f]⟩ := by
  have hb : Ca.putB ⟨5, w, []⟩ f now = true := by
    unfold Ca.putB Ca.find
    rw [hs, ht]
    rfl
  refine ⟨hb, ?_⟩
  unfold Ca.put
  rw [if_pos hb]
  unfold Ca.lay
  rw [if_pos hs]
  rfl
theorem time_small {t : Int} (h0 : 0 ≤ t) (h1 : t < 1000) : timeB t = true := timeB_true h0 (by omega)
theorem fresh_is {f : Fc} {ttl now : Int} (hg : f.h.got = 10) (ht : f.h.ttl = ttl) (h0 : 0 ≤ ttl) (h1 : ttl < 60) (n0 : 0 ≤ now) (n1 : now < 140) : freshF now f = (decide (now < 10 + ttl) && decide (0 < ttl)) := by
  unfold freshF leftI
  rw [hg, ht, if_pos (times3_true (by decide +kernel) (time_small h0 (by omega)) (time_small n0 (by omega))), Bool.eq_iff_iff]
  simp only [Bool.and_eq_true, decide_eq_true_eq]
  split <;> split at * <;> omega
theorem stale_is {f : Fc} {ttl st now : Int} (hg : f.h.got = 10) (ht : f.h.ttl = ttl) (h0 : 0 ≤ ttl) (h1 : ttl < 60) (s0 : 0 ≤ st) (s1 : st < 60) (n0 : 0 ≤ now) (n1 : now < 140) : staleF st now f = ((decide (10 + ttl ≤ now) || decide (ttl = 0)) && decide (now < 10 + ttl + st)) := by
  unfold staleF staleB
  rw [hg, ht, times4, show timeB 10 = true by decide +kernel, time_small h0 (by omega), time_small s0 (by omega), time_small n0 (by omega)]
  unfold leftI
  rw [if_pos (times3_true (by decide +kernel) (time_small h0 (by omega)) (time_small n0 (by omega))), Bool.eq_iff_iff]
  simp only [Bool.and_eq_true, Bool.or_eq_true, decide_eq_true_eq, beq_iff_eq, Bool.true_and]
  split <;> split at * <;> omega

/-- Who is there is found. -/
theorem find_there {c : Ca} (h : c.ok) {f : Fc} (hf : f ∈ c.list) : c.find f.name f.h.typ = some f := by
  have hk := h.k
  unfold Ca.find
  revert hf hk
  generalize c.list = l
  induction l with
  | nil => intro hf; exact absurd hf (List.not_mem_nil)
  | cons g l ih =>
    intro hf hk
    rw [List.pairwise_cons] at hk
    rw [List.find?_cons]
    rcases List.mem_cons.1 hf with rfl | hf
    · rw [keyB_self]
    · have h1 : keyB f.name f.h.typ g = false := by rw [keyB_turn]; exact hk.1 f hf
      rw [h1]
      exact ih hf hk.2
theorem use_ok {c : Ca} (h : c.ok) {f : Fc} (hf : f ∈ c.list) : (c.use (some f)).ok := by
  have hp := pairwise_snoc (f := f) h
  have hlt : (c.rest f).length < c.list.length := by
    unfold Ca.rest
    refine List.length_filter_lt_length_iff_exists.2 ⟨f, hf, by rw [keyB_self]; decide⟩
  refine ⟨h.m1, h.m2, h.w, fun g hg => ?_, hp, ?_⟩
  · rcases List.mem_append.1 hg with hg | hg
    · exact h.s g (rest_mem hg).1
    · rw [List.mem_singleton.1 hg]; exact h.s f hf
  · show (c.rest f ++ [f]).length ≤ c.most
    have := h.l
    rw [List.length_append]
    simp only [List.length_singleton]
    omega
/-- What CacheMost asks of a round: who was used last stays, when another one is put. -/
theorem most_round {c : Ca} (_ : c.ok) (hm : 2 ≤ c.most) {p g : Fc} {l : List Fc} (hl : c.list = l ++ [p]) (hg : soundF g = true) (hk : keyB g.name g.h.typ p = false) : p ∈ (c.lay g).list := by
  unfold Ca.lay
  rw [if_pos hg]
  have hr : c.rest g = l.filter (fun x => !keyB g.name g.h.typ x) ++ [p] := by
    unfold Ca.rest
    rw [hl, List.filter_append, List.filter_cons, hk]
    rfl
  dsimp only
  rw [hr]
  generalize l.filter (fun x => !keyB g.name g.h.typ x) = l'
  split
  · rename_i hlen
    cases l' with
    | nil => simp at hlen; omega
    | cons a r => simp
  · simp
theorem use_last (c : Ca) (f : Fc) : ∃ l, (c.use (some f)).list = l ++ [f] := ⟨c.rest f, rfl⟩

end Go.Proofs.YtmbcbfalgdgmjaaGreatDoor

namespace Go.Proofs.YtmbcbfalgdgmjaaGreatDoor
open Go.RowKit

theorem lay_most (C : Ca) (f : Fc) : (C.lay f).most = C.most := by unfold Ca.lay; split <;> rfl
theorem lay_window (C : Ca) (f : Fc) : (C.lay f).window = C.window := by unfold Ca.lay; split <;> rfl
theorem lay_its {C : Ca} {its : List Im} (hl : C.list = its.map fun i => i.x.fact) (h : C.ok) {i : Im} (hs : soundF i.x.fact = true) : (C.lay i.x.fact).list = (layI C.most its i).map fun i => i.x.fact := by
  have hr := rest_its hl h hs
  unfold Ca.lay layI
  rw [if_pos hs]
  dsimp only
  rw [hr]
  have e : (restI its (keyF i.x.fact)).map (fun i => i.x.fact) ++ [i.x.fact] = (restI its i.key ++ [i]).map fun i => i.x.fact := by simp [Im.key]
  rw [e, List.length_map]
  split
  · rw [List.map_tail]
  · rfl
theorem find_at {C : Ca} {its : List Im} (hl : C.list = its.map fun i => i.x.fact) (h : C.ok) (n : List (List UInt8)) (k : Int) : C.find n k = (atI its n k).map fun i => i.x.fact := by
  cases hs : soundN n with
  | false => rw [find_unsound h k hs, atI_no hs]; rfl
  | true => rw [find_its hl h hs, atI_yes hs]
theorem filter_mapI (o : Option Im) (p : Fc → Bool) : (o.map fun i => i.x.fact).filter p = (o.filter fun i => p i.x.fact).map fun i => i.x.fact := by
  cases o with
  | none => rfl
  | some i => cases h : p i.x.fact <;> simp [Option.filter, h]
theorem pick_at {C : Ca} {its : List Im} (hl : C.list = its.map fun i => i.x.fact) (h : C.ok) (n : List (List UInt8)) (k : Int) (p : Fc → Bool) : C.pick n k p = (pickI its n k p).map fun i => i.x.fact := by
  unfold Ca.pick pickI
  rw [find_at hl h, find_at hl h, filter_mapI, filter_mapI]
  split
  · cases (atI its n k).filter fun i => p i.x.fact <;> rfl
  · rfl
theorem use_at {C : Ca} {its : List Im} (hl : C.list = its.map fun i => i.x.fact) (h : C.ok) {i : Im} (hi : i ∈ its) (u : Nat) : (C.use (some i.x.fact)).list = (useI its i u).map fun i => i.x.fact := by
  have hs := h.s i.x.fact (by rw [hl]; exact List.mem_map.2 ⟨i, hi, rfl⟩)
  show C.rest i.x.fact ++ [i.x.fact] = _
  rw [rest_its hl h hs]
  unfold useI
  rw [List.map_append]
  rfl
theorem keyF_same {f g : Fc} (hf : soundF f = true) (hg : soundF g = true) (h : keyF f = keyF g) : sameK f g = true := by
  obtain ⟨h1, h2⟩ := keyS_inj (soundF_name hf) (soundF_name hg) h
  unfold sameK
  rw [h1, h2]
  simp
theorem putB_at {C : Ca} {its : List Im} (hl : C.list = its.map fun i => i.x.fact) (h : C.ok) (f : Fc) (now : Int) : C.putB f now = putIt its f.name f.h (soundF f) now := by
  unfold Ca.putB putIt
  rw [find_at hl h]
  cases hs : soundF f with
  | false => rfl
  | true =>
  cases ht : timeB now with
  | false => rfl
  | true =>
  cases ho : atI its f.name f.h.typ with
  | none => rfl
  | some i =>
    rw [atI_yes (soundF_name hs)] at ho
    obtain ⟨hi, hk⟩ := findI_mem ho
    have hsi := h.s i.x.fact (by rw [hl]; exact List.mem_map.2 ⟨i, hi, rfl⟩)
    show (true && (true && beatsF i.x.fact f now)) = _
    rw [beatsF_same hsi hs ht (keyF_same hsi hs hk)]
    rfl
section
variable {w w' : World} {b : Nat} {cv : Value} {C : Ca} {F : Nat → Prop} {u : Nat}
theorem cat_few {its : List Im} (hl : C.list = its.map fun i => i.x.fact) (h : C.ok) : its.length ≤ 4096 := by
  have h1 := h.l
  have h2 := h.m2
  rw [hl, List.length_map] at h1
  omega
/-- A fact that is told of an item. -/
theorem told_at {its : List Im} {cb mb most uses : Nat} {window : Int} (hm : CMem w b cb mb most window uses its) {o : Option Im} {v : Value} (h : ToldI w o v w') : ToldC w (o.map fun i => i.x.fact) (Foot cb mb its) v w' := by
  obtain ⟨x, h1, h2, h3, h4⟩ := h
  refine ⟨x, by rw [h1, Option.isSome_map], ⟨h2, fun v hv g e hf => ?_⟩, fun f e => ?_, fun e => ?_⟩
  · have := (h2.vlt v hv g e).1
    have := (hm.foot g hf).2
    omega
  · obtain ⟨i, e1, e2⟩ := Option.map_eq_some_iff.1 e
    rw [h3 i e1, e2]
  · rw [h4 (Option.map_eq_none_iff.1 e)]
    exact ⟨rfl, rfl, rfl, rfl, rfl⟩
/-- What Get and Old leave. -/
theorem got_at (h : CAt w b cv C F u) {cb mb uses : Nat} {its : List Im} (e1 : cv = .pointer (some ⟨cb, 0, none⟩)) (hm : CMem w b cb mb C.most C.window uses its) (hl : C.list = its.map fun i => i.x.fact) (hu : uses ≤ u) (eF : F = Foot cb mb its) {o : Option Im} {v : Value}
    (hg : GotI w b cb mb C.most C.window uses its o v w') : ∃ F', ToldC w (o.map fun i => i.x.fact) F' v w' ∧ CAt w' b cv (C.use (o.map fun i => i.x.fact)) F' (u + 1) ∧ MovedC F w w' F' := by
  obtain ⟨_, _, _, _, _, _, _, ok, _, _⟩ := h
  subst eF
  rcases hg with ⟨rfl, rfl, hb⟩ | ⟨i, x', rfl, hi, rfl, hx, ho, hm2, hG⟩
  · exact ⟨Foot cb mb its, zeroF_told w w' _ fun j hj => (hm.foot j hj).2, ⟨cb, mb, uses, its, e1, hm.step hb, hl, ok, by omega, rfl⟩, .still hb⟩
  · refine ⟨Foot cb mb (useI its i (uses + 1)), ⟨x', rfl, ⟨ho, fun v hv g e hf => ?_⟩, fun f e => ?_, fun e => (by cases e)⟩, ⟨cb, mb, uses + 1, useI its i (uses + 1), e1, hm2, use_at hl ok hi _, use_ok ok (by rw [hl]; exact List.mem_map.2 ⟨i, hi, rfl⟩), by omega, rfl⟩, hG, fun j hj => .inl (useI_foot hi j hj)⟩
    · have := (ho.vlt v hv g e).1
      have := (hm.foot g (useI_foot hi g hf)).2
      omega
    · injection e with e
      exact hx.trans e
end

def theCore : CacheCore where
  Vars := fun w => PowsAt w.heap.size w
  vars := fun h hb => (h.next hb).mono hb.size
  At := CAt
  at_own := fun {w b cv C F u} h => by
    obtain ⟨cb, mb, uses, its, _, hm, _, _, _, rfl⟩ := h
    exact ⟨hm.low, hm.foot⟩
  at_ok := fun {w b cv C F u} h => by
    obtain ⟨_, _, _, _, _, _, _, ok, _, _⟩ := h
    exact ok
  at_keep := fun {w w' b cv C F u} h hb hk => by
    obtain ⟨cb, mb, uses, its, e1, hm, hl, ok, hu, rfl⟩ := h
    exact ⟨cb, mb, uses, its, e1, hm.keep hb hk, hl, ok, hu, rfl⟩
  new_ok := fun w most window hp h1 h2 ht => by
    refine (new_mem w most window h1 h2 ht hp).mono ?_
    rintro e w' ⟨cb, mb, rfl, hm, hb⟩
    exact ⟨_, _, rfl, ⟨cb, mb, 0, [], rfl, hm, rfl, ⟨by show 1 ≤ most.toNat; omega, by show most.toNat ≤ 4096; omega, ht, fun f hf => absurd hf List.not_mem_nil, List.Pairwise.nil, Nat.zero_le _⟩, Nat.le_refl _, rfl⟩, hb⟩
  put := fun {w b cv C F u} h hu x now hx hi hf hn => by
    obtain ⟨cb, mb, uses, its, rfl, hm, hl, ok, hus, rfl⟩ := h
    have hux : u < 1000000 := hu
    refine (put_mem hm (by omega) ok.m1 ok.m2 (cat_few hl ok) x now hx hi hf).mono ?_
    rintro e w' ⟨pb, rfl, hpb, ho⟩
    have hpc : C.putB x.fact now = pb := by rw [putB_at hl ok, hpb]; rfl
    rcases ho with ⟨rfl, hb⟩ | ⟨rfl, i, hix, hm2, hmv⟩
    · exact ⟨Foot cb mb its, by rw [hpc], ⟨cb, mb, uses, its, rfl, by unfold Ca.put; rw [hpc]; exact hm.step hb, by unfold Ca.put; rw [hpc]; exact hl, put_ok ok, by omega, rfl⟩, .still hb⟩
    · have hs : soundF x.fact = true := by
        unfold Ca.putB at hpc
        simp only [Bool.and_eq_true] at hpc
        exact hpc.1
      have e1 : C.put x.fact now = C.lay x.fact := by unfold Ca.put; rw [hpc]; rfl
      have e2 : (C.lay x.fact).list = (layI C.most its i).map fun i => i.x.fact := by
        have h1 := lay_its hl ok (i := i) (by rw [hix]; exact hs)
        rwa [hix] at h1
      exact ⟨_, by rw [hpc], ⟨cb, mb, uses + 1, layI C.most its i, rfl, by rw [e1, lay_most, lay_window]; exact hm2, by rw [e1]; exact e2, put_ok ok, by omega, rfl⟩, hmv⟩
  look := fun {w b cv C F u} h A c n k hn hw hl hc hk => by
    obtain ⟨cb, mb, uses, its, rfl, hm, hls, ok, hus, rfl⟩ := h
    refine (look_mem hm A c n k hn hw hl hk).mono ?_
    rintro e w' ⟨v, rfl, ht, hb⟩
    exact ⟨v, Foot cb mb its, rfl, by rw [find_at hls ok]; exact told_at hm ht, ⟨cb, mb, uses, its, rfl, hm.step hb, hls, ok, hus, rfl⟩, .still hb⟩
  get := fun {w b cv C F u} h hu A c n k now hn hw hl hc hk hnw => by
    have h0 := h
    obtain ⟨cb, mb, uses, its, rfl, hm, hls, ok, hus, rfl⟩ := h
    have hux : u < 1000000 := hu
    refine (get_mem hm (by omega) A c n k now hn hw hl hk).mono ?_
    rintro e w' ⟨v, rfl, hg⟩
    obtain ⟨F', h1, h2, h3⟩ := got_at h0 rfl hm hls hus rfl hg
    have e1 : C.getF n k now = (pickI its n k (freshF now)).map fun i => i.x.fact := pick_at hls ok n k (freshF now)
    exact ⟨v, F', rfl, by rw [e1]; exact h1, by rw [e1]; exact h2, h3⟩
  len := fun {w b cv C F u} h => by
    obtain ⟨cb, mb, uses, its, rfl, hm, hls, ok, hus, rfl⟩ := h
    rw [hls, List.length_map]
    exact len_mem hm

end Go.Proofs.YtmbcbfalgdgmjaaGreatDoor
